/- The document's fold: Apply, gap. -/
import Derived.Test.YtmogoopkjkdkgaaGreatVTp30
namespace Go.Proofs.YtmogoopkjkdkgaaGreat.Fol
open Go Go.RowKit Go.Proofs.YtmogoopkjkdkgaaGreat.Words Go.Proofs.YtmogoopkjkdkgaaGreat.Enc Go.Proofs.YtmogoopkjkdkgaaGreat.Q Go.Proofs.YtmogoopkjkdkgaaGreat.Evt Go.Proofs.YtmogoopkjkdkgaaGreat.Facts
set_option linter.unusedVariables false
set_option linter.unusedSimpArgs false

section
variable {i sq tm kd : Nat} {key : ByteArray} {A : Option Addr} {n c num : Nat} {node : Int} {S : List Nat} {La : Option Addr} {lc : Nat} {L : List (Key × RC)} {h : RH} {F : Fo} {text : List UInt8}
set_option maxRecDepth 100000 in
set_option maxHeartbeats 8000000 in
theorem refApply_gap (w : World) (r : RefAt w S La lc L h F) (ok : Ok F) (hr : Right ⟨(i : Int), sq, tm, kd, key, text, num, node⟩) (hq : num < 18446744073709551616) (hs : SeesV w S A (cs text)) (hnt : n = text.length) (hS : ∀ x ∈ S, x < w.heap.size) (hn : n ≤ 1000000000) (hL : L.length ≤ 1000000)
    (hfit : (⟨(i : Int), sq, tm, kd, key, text, num, node⟩ : Ev).Fit) (hkl : key.size ≤ 9223372036854775807) (hXt : decide (cmpS h.T (h.W : Int) tm (i : Int) < 0) = true) (hYt : (!decide (sq = F.H.getD i 0 + 1)) = true) :
    Calls Tryz.prog 53 #[.agg (rv La L.length lc h), .agg #[.int .i64 (i : Int), .int .u64 (sq : Int), .int .u64 (tm : Int), .int .u8 (kd : Int), .string key, .slice A n c, .float .f64 num, .int .i64 node]] w fun e' w' => ∃ La' lc' L' h', e' = .returned (.tuple #[.agg (rv La' (List.length (α := Key × RC) L') lc' h'), .int .i64 (applyE F ⟨(i : Int), sq, tm, kd, key, text, num, node⟩ : Int)]) ∧ RefAt w' S La' lc' L' h' (applyF F ⟨(i : Int), sq, tm, kd, key, text, num, node⟩) ∧ Below w.heap.size w w' := by
  obtain ⟨ev, hev⟩ : ∃ ev : Ev, ev = ⟨(i : Int), sq, tm, kd, key, text, num, node⟩ := ⟨_, rfl⟩
  rw [← hev] at hr hfit ⊢
  have hval : ev.val A n c = .agg #[.int .i64 (i : Int), .int .u64 (sq : Int), .int .u64 (tm : Int), .int .u8 (kd : Int), .string key, .slice A n c, .float .f64 num, .int .i64 node] := by rw [hev]; rfl
  have htx : ev.text = text := by rw [hev]
  have hi : i < 64 := by have := hr.w2; rw [hev] at this; simp only at this; omega
  have hi2 : (i : Int) < 64 := by omega
  have h0 : rightE ev = 0 := (right_iff ev).2 hr
  have hAE : applyE F ev = if ¬ behind F ev then 10 else if sq ≠ F.H.getD i 0 + 1 then 9 else 0 := by
    unfold applyE
    rw [h0, hev]
    rfl
  have hsee : Sees w A n text := by rw [hnt]; exact sees_of_V hs
  have RT := Lib.hid (fun (W : World) => (by
    have := refRight_any ev A n c W hfit (by rw [htx]; exact hnt) (by rw [htx, ← hnt]; omega) (by rw [hev]; exact hkl)
    rw [hval, h0] at this
    exact this : Calls Tryz.prog 87 #[.agg #[.int .i64 (i : Int), .int .u64 (sq : Int), .int .u64 (tm : Int), .int .u8 (kd : Int), .string key, .slice A n c, .float .f64 num, .int .i64 node]] W fun e' w' => e' = .returned (.int .i64 0) ∧ Below W.heap.size W w'))
  have AT : ∀ W, Calls Tryz.prog 41 #[.agg #[.int .i64 (i : Int), .int .u64 (sq : Int), .int .u64 (tm : Int), .int .u8 (kd : Int), .string key, .slice A n c, .float .f64 num, .int .i64 node]] W fun e' w' => e' = .returned (.agg #[.int .u64 (tm : Int), .int .i64 (i : Int)]) ∧ Below W.heap.size W w' := fun W => by
    have := refAt_any ev A n c W
    rw [hval] at this
    rw [hev] at this
    exact this
  obtain ⟨n', hnl⟩ : ∃ n', n' = L.length := ⟨_, rfl⟩
  obtain ⟨Ja, Jc, Ra, Rc, Ha, Hc, T0, W0, M0⟩ := h
  have hrT := r.T
  have hrW := r.W
  have hrM := r.M
  simp only at hrT hrW hrM
  obtain ⟨X, hX⟩ : ∃ X, X = decide (cmpS T0 (W0 : Int) tm (i : Int) < 0) := ⟨_, rfl⟩
  have HXV := Lib.hid (show X = true from hX.trans hXt)
  have AH : ∀ W, Calls Tryz.prog 40 #[.agg #[.int .u64 (T0 : Int), .int .i64 (W0 : Int)], .agg #[.int .u64 (tm : Int), .int .i64 (i : Int)]] W fun e' w' => e' = .returned (.bool X) ∧ Below W.heap.size W w' := fun W => by
    rw [hX]
    exact ahead_any T0 (W0 : Int) tm (i : Int) W
  have hbeh : behind F ev ↔ X = true := by
    unfold behind
    rw [hX, decide_eq_true_eq, cmpS_lt, hrT, hrW, hev]
  have hHl : F.H.length = 64 := ok.h
  have hHne : Vec.us F.H ≠ [] := fun e => by have := congrArg List.length e; rw [Vec.us_length, hHl] at this; simp at this
  obtain ⟨hb, ho, hHa, hHS, hHc⟩ := r.H hHne
  simp only at hHa
  subst hHa
  obtain ⟨h0H, hh0⟩ : ∃ h0, h0 = F.H.getD i 0 := ⟨_, rfl⟩
  have hHget : (Vec.us F.H)[i]? = some (.int .u64 (h0H : Int)) := by
    rw [hh0]
    unfold Vec.us
    rw [List.getElem?_map, List.getElem?_eq_getElem (by rw [hHl]; exact hi), List.getD_eq_getElem?_getD, List.getElem?_eq_getElem (by rw [hHl]; exact hi)]
    rfl
  have hh63 : h0H < 9223372036854775808 := by
    rw [hh0]
    have hl : i < F.H.length := by rw [hHl]; exact hi
    have : F.H.getD i 0 ∈ F.H := by rw [List.getD_eq_getElem?_getD, List.getElem?_eq_getElem hl]; exact List.getElem_mem hl
    exact ok.hs _ this
  have hwr : IntKind.u64.wrap ((h0H : Int) + 1) = (h0H : Int) + 1 := by rw [IntKind.wrap_u64]; omega
  obtain ⟨Y, hY⟩ : ∃ Y, (!decide (sq = h0H + 1)) = Y := ⟨_, rfl⟩
  have HYV := Lib.hid (show Y = true by rw [← hY, hh0]; exact hYt)
  have hY1 : ((sq : Int) == (h0H : Int) + 1) = !Y := by
    rw [← hY, Bool.not_not]
    by_cases hc : sq = h0H + 1
    · rw [decide_eq_true hc, beq_iff_eq]; omega
    · rw [decide_eq_false hc, beq_eq_false_iff_ne]; omega
  have hY2 : decide ((sq : Int) = (h0H : Int) + 1) = !Y := by
    rw [← hY, Bool.not_not]
    exact decide_eq_decide.2 (by omega)
  have hY3 : decide (sq = h0H + 1) = !Y := by rw [← hY, Bool.not_not]
  have hAE2 : applyE F ev = if X then (if Y then 9 else 0) else 10 := by
    rw [hAE, ← hh0]
    cases X with
    | false => simp [hbeh]
    | true =>
      rw [if_neg (by simp [hbeh])]
      cases Y with
      | true => rw [if_pos (by simpa using hY3)]; rfl
      | false => rw [if_neg (by simpa using hY3)]; rfl
  obtain ⟨XE, hXE⟩ : ∃ XE, XE = applyE F ev := ⟨_, rfl⟩
  obtain ⟨FF, hFF⟩ : ∃ FF, FF = applyF F ev := ⟨_, rfl⟩
  rw [← hXE, ← hFF]
  rw [← hXE] at hAE2
  have SAME : XE ≠ 0 → FF = F := fun hne => by rw [hFF]; unfold applyF; rw [← hXE, if_neg hne]
  have TAKEN : XE = 0 → FF = { change F ev with H := F.H.set i sq, time := tm, wr := i, mark := hashL F.mark (evL ev) } := fun he => by
    rw [hFF]; unfold applyF taken; rw [← hXE, if_pos he, hev]; rfl
  have BX := Lib.hid (fun (W : World) hW => boxesT (rv La n' lc ⟨Ja, Jc, Ra, Rc, some ⟨hb, ho, none⟩, Hc, T0, W0, M0⟩) #[.int .i64 (i : Int), .int .u64 (sq : Int), .int .u64 (tm : Int), .int .u8 (kd : Int), .string key, .slice A n c, .float .f64 num, .int .i64 node] zrv 60 32 60 w W hW)
  unfold rv zrv at BX
  rw [← hnl]
  unfold rv
  simp only at BX ⊢
  obtain ⟨B, hBe⟩ : ∃ B, B = w.heap.size := ⟨_, rfl⟩
  have HHC := Lib.hid (fun (W : World) (hW : Below w.heap.size w W) => (by
    obtain ⟨b', o', hA', _, hc'⟩ := (r.H.below hW) hHne
    simp only at hA'
    injection hA' with hA'
    injection hA' with h1 h2
    subst h1; subst h2
    exact hc' i _ hHget : W.cell? ⟨hb, ho + i, none⟩ = some (.int .u64 (h0H : Int))))
  have EN := Lib.hid (fun (W : World) (hW : Below w.heap.size w W) => (by
    have := refEncode_any ev A n c W (by rw [htx]; exact hsee.below hW) (by rw [hev]; exact hq) hr
    rw [hval] at this
    exact this : Calls Tryz.prog 64 #[.agg #[.int .i64 (i : Int), .int .u64 (sq : Int), .int .u64 (tm : Int), .int .u8 (kd : Int), .string key, .slice A n c, .float .f64 num, .int .i64 node]] W (Made.New W.heap.size (evL ev).length (evL ev) W)))
  have HLEN := Lib.hid (evL_len hr)
  obtain ⟨i0, hi0, hz, hsz, hby⟩ := info_parts info64f
  have HAE := Lib.hid hAE2
  have HSAME := Lib.hid SAME
  have HTAKEN := Lib.hid TAKEN
  have HR := Lib.hid r
  have HSS := Lib.hid hS
  have HSEE := Lib.hid hs
  have HNT := Lib.hid (And.intro hnt htx)
  have HRIGHT := Lib.hid (And.intro hr hfit)
  have HEV := Lib.hid (And.intro hev hval)
  have HN := Lib.hid hnl
  have HB := Lib.hid hBe
  have HRT := Lib.hid (And.intro hrT (And.intro hrW hrM))
  have HOK := Lib.hid ok
  clear hXt hYt
  clear SAME TAKEN hAE2 hAE hbeh hX hXE hFF r hs hsee hr hfit hval htx hev h0 hS hnl hrT hrW hrM hHl hHne hHS hHc hHget hh0 hY hnt hkl ok
  go_enter Tryz.func53, Tryz.ntmps53
  go_wp2_with fail
  refine (RT.out _).mono ?_
  rintro e' w1 ⟨rfl, hb1⟩
  obtain ⟨b1, g0, g1, g2, z1⟩ := BX.out w1 (by simpa using hb1)
  rw [← hBe] at g0 g1 g2 z1
  have HC := Lib.hid (fun (W : World) (hW : Below w1.drew.heap.size w1.drew W) => (⟨box8 ((hW.block (B + 1) (by show B + 1 < w1.heap.size; omega)).trans g1), (by
    have hc := rv_cells (h := ⟨Ja, Jc, Ra, Rc, some ⟨hb, ho, none⟩, Hc, T0, W0, M0⟩) ((hW.block B (by show B < w1.heap.size; omega)).trans g0)
    exact ⟨hc.2.2.2.2.1, hc.2.2.2.2.2.1⟩), AT W, AH W⟩ :
    (W.cell? ⟨B + 1, 0, none⟩ = some (.int .i64 (i : Int)) ∧ W.cell? ⟨B + 1, 1, none⟩ = some (.int .u64 (sq : Int)) ∧ W.cell? ⟨B + 1, 2, none⟩ = some (.int .u64 (tm : Int)) ∧ W.cell? ⟨B + 1, 3, none⟩ = some (.int .u8 (kd : Int)) ∧ W.cell? ⟨B + 1, 4, none⟩ = some (.string key) ∧ W.cell? ⟨B + 1, 5, none⟩ = some (.slice A n c) ∧ W.cell? ⟨B + 1, 6, none⟩ = some (.float .f64 num) ∧ W.cell? ⟨B + 1, 7, none⟩ = some (.int .i64 node)) ∧
    (W.cell? ⟨B, 4, none⟩ = some (.int .u64 (T0 : Int)) ∧ W.cell? ⟨B, 5, none⟩ = some (.int .i64 (W0 : Int))) ∧
    Calls Tryz.prog 41 #[.agg #[.int .i64 (i : Int), .int .u64 (sq : Int), .int .u64 (tm : Int), .int .u8 (kd : Int), .string key, .slice A n c, .float .f64 num, .int .i64 node]] W (fun e' w' => e' = .returned (.agg #[.int .u64 (tm : Int), .int .i64 (i : Int)]) ∧ Below W.heap.size W w') ∧
    Calls Tryz.prog 40 #[.agg #[.int .u64 (T0 : Int), .int .i64 (W0 : Int)], .agg #[.int .u64 (tm : Int), .int .i64 (i : Int)]] W (fun e' w' => e' = .returned (.bool X) ∧ Below W.heap.size W w')))
  have G1 := Lib.hid (And.intro g0 (And.intro g1 (And.intro g2 z1)))
  have B1 := Lib.hid b1
  have HAT := Lib.hid AT
  clear g0 g1 g2 b1 hb1 AT AH z1
  go_wp2_with fail
  rw [← HB.out]
  clear hBe
  refine Facts.wp_region_preds (n := 150) (by kernel_rfl) (by kernel_rfl) rfl [Facts.Pred.is (Value.pointer (some ⟨B, 4, none⟩)), Facts.Pred.is (Value.agg #[.int .u64 (T0 : Int), .int .i64 (W0 : Int)]), Facts.Pred.is (Value.agg #[.int .i64 (i : Int), .int .u64 (sq : Int), .int .u64 (tm : Int), .int .u8 (kd : Int), .string key, .slice A n c, .float .f64 num, .int .i64 node]), Facts.Pred.is (Value.agg #[.int .u64 (tm : Int), .int .i64 (i : Int)]), Facts.Pred.is (Value.bool X), Facts.Pred.is (Value.bool (!X))] ?_ ?_
  · refine ⟨?_, ?_, ?_, ?_, ?_, ?_, trivial⟩
    · refine Facts.step_is (Value.pointer (some ⟨B, 4, none⟩)) fun a W hR hold hnew => ?_
      have f2 : a.tmps.getD 2 undef = Value.pointer (some ⟨B, 0, none⟩) := hold 2 (by kernel_rfl)
      refine ⟨Facts.wanted_free rfl, ?_, fun _ => rfl⟩; simp [go_sem, Act.eval, f2]
    · refine Facts.step_is (Value.agg #[.int .u64 (T0 : Int), .int .i64 (W0 : Int)]) fun a W hR hold hnew => ?_
      have f19 : a.tmps.getD 19 undef = Value.pointer (some ⟨B, 4, none⟩) := hnew 0 19 (by kernel_rfl)
      obtain ⟨s4, s5⟩ := (HC.out W hR).2.1
      refine ⟨Facts.wanted_free rfl, ?_, fun _ => rfl⟩; simp [go_sem, Act.eval, f19, s4, s5]
    · refine Facts.step_is (Value.agg #[.int .i64 (i : Int), .int .u64 (sq : Int), .int .u64 (tm : Int), .int .u8 (kd : Int), .string key, .slice A n c, .float .f64 num, .int .i64 node]) fun a W hR hold hnew => ?_
      have f3 : a.tmps.getD 3 undef = Value.pointer (some ⟨B + 1, 0, none⟩) := hold 3 (by kernel_rfl)
      obtain ⟨k0, k1, k2, k3, k4, k5, k6, k7⟩ := (HC.out W hR).1
      refine ⟨Facts.wanted_free rfl, ?_, fun _ => rfl⟩; simp [go_sem, Act.eval, f3, k0, k1, k2, k3, k4, k5, k6, k7]
    · -- 3: Op.call { value (Operand.func 22), args := #[t21], argTypes 
      refine Facts.step_call fun a W hR hold hnew => ?_
      have f21 : a.tmps.getD 21 undef = Value.agg #[.int .i64 (i : Int), .int .u64 (sq : Int), .int .u64 (tm : Int), .int .u8 (kd : Int), .string key, .slice A n c, .float .f64 num, .int .i64 node] := hnew 2 21 (by kernel_rfl)
      refine ⟨Facts.wanted_free rfl, 41, #[Value.agg #[.int .i64 (i : Int), .int .u64 (sq : Int), .int .u64 (tm : Int), .int .u8 (kd : Int), .string key, .slice A n c, .float .f64 num, .int .i64 node]], by simp [go_sem, Act.eval, f21], ?_⟩
      refine ((HC.out W hR).2.2.1).mono ?_
      rintro e' w7 ⟨rfl, hb7⟩
      exact ⟨_, rfl, hb7, rfl⟩
    · -- 4: Op.call { value (Operand.func 21), args := #[t20, t22], argT
      refine Facts.step_call fun a W hR hold hnew => ?_
      have f20 : a.tmps.getD 20 undef = Value.agg #[.int .u64 (T0 : Int), .int .i64 (W0 : Int)] := hnew 1 20 (by kernel_rfl); have f22 : a.tmps.getD 22 undef = Value.agg #[.int .u64 (tm : Int), .int .i64 (i : Int)] := hnew 3 22 (by kernel_rfl)
      refine ⟨Facts.wanted_free rfl, 40, #[Value.agg #[.int .u64 (T0 : Int), .int .i64 (W0 : Int)], Value.agg #[.int .u64 (tm : Int), .int .i64 (i : Int)]], by simp [go_sem, Act.eval, f20, f22], ?_⟩
      refine ((HC.out W hR).2.2.2).mono ?_
      rintro e' w7 ⟨rfl, hb7⟩
      exact ⟨_, rfl, hb7, rfl⟩
    · refine Facts.step_is (Value.bool (!X)) fun a W hR hold hnew => ?_
      have f23 : a.tmps.getD 23 undef = Value.bool X := hnew 4 23 (by kernel_rfl)
      refine ⟨Facts.wanted_free rfl, ?_, fun _ => rfl⟩; simp [go_sem, Act.eval, f23]
  · intro a w3 hR' hsize hdef hnew hold
    have f2 : a.tmps.getD 2 undef = Value.pointer (some ⟨B, 0, none⟩) := hold 2 (not_dst (by kernel_rfl))
    have f3 : a.tmps.getD 3 undef = Value.pointer (some ⟨B + 1, 0, none⟩) := hold 3 (not_dst (by kernel_rfl))
    have f4 : a.tmps.getD 4 undef = Value.pointer (some ⟨B + 1 + 1, 0, none⟩) := hold 4 (not_dst (by kernel_rfl))
    have f5 : a.tmps.getD 5 undef = Value.int .i64 0 := hold 5 (not_dst (by kernel_rfl))
    have f24 : a.tmps.getD 24 undef = Value.bool (!X) := hnew 5 24 (by kernel_rfl)
    obtain ⟨tm, df⟩ := a
    simp only [] at hdef hsize f2 f3 f4 f5 f24
    obtain ⟨xq, hxq, hlit⟩ := Facts.lits tm hsize Facts.idx150 Facts.idx150_eq
    rw [hxq] at f2 f3 f4 f5 f24
    simp only [Facts.idx150, List.map_cons, List.map_nil, f2, f3, f4, f5, f24] at hlit
    clear f2 f3 f4 f5 f24 hsize hnew hold hxq
    subst hlit
    subst hdef
    try simp only []
    have B3 := Lib.hid (B1.out.trans (((Below.refl _ _).drew.trans hR').mono B1.out.size))
    have z3 : B + 3 ≤ w3.heap.size := Nat.le_trans G1.out.2.2.2 hR'.size
    have G3 := Lib.hid (And.intro ((hR'.block B (by have := G1.out.2.2.2; show B < w1.heap.size; omega)).trans G1.out.1) (And.intro ((hR'.block (B + 1) (by have := G1.out.2.2.2; show B + 1 < w1.heap.size; omega)).trans G1.out.2.1) ((hR'.block (B + 2) (by have := G1.out.2.2.2; show B + 2 < w1.heap.size; omega)).trans G1.out.2.2.1)))
    clear hR'
    have g30 := G3.out.1
    have g32 : w3.heap[B + 1 + 1]? = _ := G3.out.2.2
    cases X with
    | false =>
      exact absurd HXV.out (by decide)
    | true =>
    have HC6 := Lib.hid (fun (W : World) (hW : Below w3.drew.heap.size w3.drew W) => (by
      have k := box8 ((hW.block (B + 1) (by show B + 1 < w3.heap.size; omega)).trans G3.out.2.1)
      have hc := rv_cells (h := ⟨Ja, Jc, Ra, Rc, some ⟨hb, ho, none⟩, Hc, T0, W0, M0⟩) ((hW.block B (by show B < w3.heap.size; omega)).trans G3.out.1)
      exact ⟨k.2.1, hc.2.2.2.1, k.1, HHC.out W (B3.out.drew.trans (hW.mono B3.out.size))⟩ : W.cell? ⟨B + 1, 1, none⟩ = some (.int .u64 (sq : Int)) ∧ W.cell? ⟨B, 3, none⟩ = some (.slice (some ⟨hb, ho, none⟩) 64 Hc) ∧ W.cell? ⟨B + 1, 0, none⟩ = some (.int .i64 (i : Int)) ∧ W.cell? ⟨hb, ho + i, none⟩ = some (.int .u64 (h0H : Int))))
    clear g30 g32
    go_wp2_with fail
    refine Facts.wp_region_preds (n := 150) (by kernel_rfl) (by kernel_rfl) rfl [Facts.Pred.is (Value.pointer (some ⟨B + 1, 1, none⟩)), Facts.Pred.is (Value.int .u64 (sq : Int)), Facts.Pred.is (Value.pointer (some ⟨B, 3, none⟩)), Facts.Pred.is (Value.slice (some ⟨hb, ho, none⟩) 64 Hc), Facts.Pred.is (Value.pointer (some ⟨B + 1, 0, none⟩)), Facts.Pred.is (Value.int .i64 (i : Int)), Facts.Pred.is (Value.pointer (some ⟨hb, ho + i, none⟩)), Facts.Pred.is (Value.int .u64 (h0H : Int)), Facts.Pred.is (Value.int .u64 ((h0H : Int) + 1)), Facts.Pred.is (Value.bool Y)] ?_ ?_
    · refine ⟨?_, ?_, ?_, ?_, ?_, ?_, ?_, ?_, ?_, ?_, trivial⟩
      · refine Facts.step_is (Value.pointer (some ⟨B + 1, 1, none⟩)) fun a W hR hold hnew => ?_
        have f3 : a.tmps.getD 3 undef = Value.pointer (some ⟨B + 1, 0, none⟩) := hold 3 (by kernel_rfl)
        refine ⟨Facts.wanted_free rfl, ?_, fun _ => rfl⟩; simp [go_sem, Act.eval, f3]
      · refine Facts.step_is (Value.int .u64 (sq : Int)) fun a W hR hold hnew => ?_
        have f26 : a.tmps.getD 26 undef = Value.pointer (some ⟨B + 1, 1, none⟩) := hnew 0 26 (by kernel_rfl)
        have s1 := (HC6.out W hR).1
        refine ⟨Facts.wanted_free rfl, ?_, fun _ => rfl⟩; simp [go_sem, Act.eval, f26, s1]
      · refine Facts.step_is (Value.pointer (some ⟨B, 3, none⟩)) fun a W hR hold hnew => ?_
        have f2 : a.tmps.getD 2 undef = Value.pointer (some ⟨B, 0, none⟩) := hold 2 (by kernel_rfl)
        refine ⟨Facts.wanted_free rfl, ?_, fun _ => rfl⟩; simp [go_sem, Act.eval, f2]
      · refine Facts.step_is (Value.slice (some ⟨hb, ho, none⟩) 64 Hc) fun a W hR hold hnew => ?_
        have f28 : a.tmps.getD 28 undef = Value.pointer (some ⟨B, 3, none⟩) := hnew 2 28 (by kernel_rfl)
        have s2 := (HC6.out W hR).2.1
        refine ⟨Facts.wanted_free rfl, ?_, fun _ => rfl⟩; simp [go_sem, Act.eval, f28, s2]
      · refine Facts.step_is (Value.pointer (some ⟨B + 1, 0, none⟩)) fun a W hR hold hnew => ?_
        have f3 : a.tmps.getD 3 undef = Value.pointer (some ⟨B + 1, 0, none⟩) := hold 3 (by kernel_rfl)
        refine ⟨Facts.wanted_free rfl, ?_, fun _ => rfl⟩; simp [go_sem, Act.eval, f3]
      · refine Facts.step_is (Value.int .i64 (i : Int)) fun a W hR hold hnew => ?_
        have f30 : a.tmps.getD 30 undef = Value.pointer (some ⟨B + 1, 0, none⟩) := hnew 4 30 (by kernel_rfl)
        have s0 := (HC6.out W hR).2.2.1
        refine ⟨Facts.wanted_free rfl, ?_, fun _ => rfl⟩; simp [go_sem, Act.eval, f30, s0]
      · refine Facts.step_is (Value.pointer (some ⟨hb, ho + i, none⟩)) fun a W hR hold hnew => ?_
        have f29 : a.tmps.getD 29 undef = Value.slice (some ⟨hb, ho, none⟩) 64 Hc := hnew 3 29 (by kernel_rfl)
        have f31 : a.tmps.getD 31 undef = Value.int .i64 (i : Int) := hnew 5 31 (by kernel_rfl)
        refine ⟨Facts.wanted_free rfl, ?_, fun _ => rfl⟩; simp [go_sem, Act.eval, f29, f31, hi2]
      · refine Facts.step_is (Value.int .u64 (h0H : Int)) fun a W hR hold hnew => ?_
        have f32 : a.tmps.getD 32 undef = Value.pointer (some ⟨hb, ho + i, none⟩) := hnew 6 32 (by kernel_rfl)
        have s3 := (HC6.out W hR).2.2.2
        refine ⟨Facts.wanted_free rfl, ?_, fun _ => rfl⟩; simp [go_sem, Act.eval, f32, s3]
      · refine Facts.step_is (Value.int .u64 ((h0H : Int) + 1)) fun a W hR hold hnew => ?_
        have f33 : a.tmps.getD 33 undef = Value.int .u64 (h0H : Int) := hnew 7 33 (by kernel_rfl)
        refine ⟨Facts.wanted_free rfl, ?_, fun _ => rfl⟩; simp [go_sem, Act.eval, f33, hwr]
      · refine Facts.step_is (Value.bool Y) fun a W hR hold hnew => ?_
        have f27 : a.tmps.getD 27 undef = Value.int .u64 (sq : Int) := hnew 1 27 (by kernel_rfl)
        have f34 : a.tmps.getD 34 undef = Value.int .u64 ((h0H : Int) + 1) := hnew 8 34 (by kernel_rfl)
        refine ⟨Facts.wanted_free rfl, ?_, fun _ => rfl⟩; simp [go_sem, Act.eval, f27, f34, hY1, hY2, hY3, bne]
    · intro a w4 hR' hsize hdef hnew hold
      have f2 : a.tmps.getD 2 undef = Value.pointer (some ⟨B, 0, none⟩) := hold 2 (not_dst (by kernel_rfl))
      have f3 : a.tmps.getD 3 undef = Value.pointer (some ⟨B + 1, 0, none⟩) := hold 3 (not_dst (by kernel_rfl))
      have f4 : a.tmps.getD 4 undef = Value.pointer (some ⟨B + 1 + 1, 0, none⟩) := hold 4 (not_dst (by kernel_rfl))
      have f5 : a.tmps.getD 5 undef = Value.int .i64 0 := hold 5 (not_dst (by kernel_rfl))
      have f35 : a.tmps.getD 35 undef = Value.bool Y := hnew 9 35 (by kernel_rfl)
      obtain ⟨tm, df⟩ := a
      simp only [] at hdef hsize f2 f3 f4 f5 f35
      obtain ⟨xq, hxq, hlit⟩ := Facts.lits tm hsize Facts.idx150 Facts.idx150_eq
      rw [hxq] at f2 f3 f4 f5 f35
      simp only [Facts.idx150, List.map_cons, List.map_nil, f2, f3, f4, f5, f35] at hlit
      clear f2 f3 f4 f5 f35 hsize hnew hold hxq
      subst hlit
      subst hdef
      try simp only []
      have B4 := Lib.hid (B3.out.trans (((Below.refl _ _).drew.trans hR').mono B3.out.size))
      have z4 : B + 3 ≤ w4.heap.size := Nat.le_trans z3 hR'.size
      have G4 := Lib.hid (And.intro ((hR'.block B (by show B < w3.heap.size; omega)).trans G3.out.1) (And.intro ((hR'.block (B + 1) (by show B + 1 < w3.heap.size; omega)).trans G3.out.2.1) ((hR'.block (B + 2) (by show B + 2 < w3.heap.size; omega)).trans G3.out.2.2)))
      clear hR'
      have g40 := G4.out.1
      have g42 : w4.heap[B + 1 + 1]? = _ := G4.out.2.2
      cases Y with
      | true =>
        have hx : XE = 9 := HAE.out
        clear hY1 hY2 hY3
        go_wp2_with (first
          | (refine wpList_getRow rfl 60 (.tmp 2) rfl B 60 #[.slice La n' lc, .slice Ja 64 Jc, .slice Ra 64 Rc, .slice (some ⟨hb, ho, none⟩) 64 Hc, .int .u64 (T0 : Int), .int .i64 (W0 : Int), .int .u64 (M0 : Int)] (0, 0) _ rfl g40 Tryz.underlying60 rfl (by kernel_rfl) ?_)
          | (refine wpList_putRow rfl 60 (.tmp 4) (.tmp 36) rfl (B + 1 + 1) 60 #[.slice none 0 0, .slice none 0 0, .slice none 0 0, .slice none 0 0, .int .u64 0, .int .i64 0, .int .u64 0] #[.slice La n' lc, .slice Ja 64 Jc, .slice Ra 64 Rc, .slice (some ⟨hb, ho, none⟩) 64 Hc, .int .u64 (T0 : Int), .int .i64 (W0 : Int), .int .u64 (M0 : Int)] rfl rfl g42 (by kernel_rfl) rfl (by simp [Value.oneCell']) ?_))
        intro w6 g7 hb6
        obtain ⟨t0, t1, t2, t3, t4, t5, t6⟩ := rv_cells (h := ⟨Ja, Jc, Ra, Rc, some ⟨hb, ho, none⟩, Hc, T0, W0, M0⟩) g7
        have HB6 := Lib.hid (Below.beside B4.out hb6 B4.out.size (fun x hx => by have := HB.out; simp at hx; omega))
        clear g40 g42 g7 hb6
        go_wp2
        refine bodyPost_ret (v := .tuple #[.agg #[.slice La n' lc, .slice Ja 64 Jc, .slice Ra 64 Rc, .slice (some ⟨hb, ho, none⟩) 64 Hc, .int .u64 (T0 : Int), .int .i64 (W0 : Int), .int .u64 (M0 : Int)], .int .i64 9]) (by simp [results, Tryz.results53, go_sem, t0, t1, t2, t3, t4, t5, t6]) rfl ⟨La, lc, L, ⟨Ja, Jc, Ra, Rc, some ⟨hb, ho, none⟩, Hc, T0, W0, M0⟩, by rw [← HN.out], ?_, HB6.out⟩
        rw [HSAME.out (by omega)]
        exact HR.out.below HB6.out
      | false =>
        exact absurd HYV.out (by decide)
end
end Go.Proofs.YtmogoopkjkdkgaaGreat.Fol
