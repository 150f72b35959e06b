/- The document's fold: Apply, k1. -/
import Derived.Test.YtmogoopkjkdkgaaGreatVTp30
namespace Go.Proofs.YtmogoopkjkdkgaaGreat.Fol
open Go Go.RowKit Go.Proofs.YtmogoopkjkdkgaaGreat.Words Go.Proofs.YtmogoopkjkdkgaaGreat.Enc Go.Proofs.YtmogoopkjkdkgaaGreat.Q Go.Proofs.YtmogoopkjkdkgaaGreat.Evt Go.Proofs.YtmogoopkjkdkgaaGreat.Facts
set_option linter.unusedVariables false
set_option linter.unusedSimpArgs false

section
variable {i sq tm kd : Nat} {key : ByteArray} {A : Option Addr} {n c num : Nat} {node : Int} {S : List Nat} {La : Option Addr} {lc : Nat} {L : List (Key × RC)} {h : RH} {F : Fo} {text : List UInt8}
set_option maxRecDepth 100000 in
set_option maxHeartbeats 8000000 in
theorem refApply_k1 (w : World) (r : RefAt w S La lc L h F) (ok : Ok F) (hr : Right ⟨(i : Int), sq, tm, kd, key, text, num, node⟩) (hq : num < 18446744073709551616) (hs : SeesV w S A (cs text)) (hnt : n = text.length) (hS : ∀ x ∈ S, x < w.heap.size) (hn : n ≤ 1000000000) (hL : L.length ≤ 1000000)
    (hfit : (⟨(i : Int), sq, tm, kd, key, text, num, node⟩ : Ev).Fit) (hkl : key.size ≤ 9223372036854775807) (hXt : decide (cmpS h.T (h.W : Int) tm (i : Int) < 0) = true) (hYt : (!decide (sq = F.H.getD i 0 + 1)) = false) (hkdt : kd = 1) :
    Calls Tryz.prog 53 #[.agg (rv La L.length lc h), .agg #[.int .i64 (i : Int), .int .u64 (sq : Int), .int .u64 (tm : Int), .int .u8 (kd : Int), .string key, .slice A n c, .float .f64 num, .int .i64 node]] w fun e' w' => ∃ La' lc' L' h', e' = .returned (.tuple #[.agg (rv La' (List.length (α := Key × RC) L') lc' h'), .int .i64 (applyE F ⟨(i : Int), sq, tm, kd, key, text, num, node⟩ : Int)]) ∧ RefAt w' S La' lc' L' h' (applyF F ⟨(i : Int), sq, tm, kd, key, text, num, node⟩) ∧ Below w.heap.size w w' := by
  obtain ⟨ev, hev⟩ : ∃ ev : Ev, ev = ⟨(i : Int), sq, tm, kd, key, text, num, node⟩ := ⟨_, rfl⟩
  rw [← hev] at hr hfit ⊢
  have hval : ev.val A n c = .agg #[.int .i64 (i : Int), .int .u64 (sq : Int), .int .u64 (tm : Int), .int .u8 (kd : Int), .string key, .slice A n c, .float .f64 num, .int .i64 node] := by rw [hev]; rfl
  have htx : ev.text = text := by rw [hev]
  have hi : i < 64 := by have := hr.w2; rw [hev] at this; simp only at this; omega
  have hi2 : (i : Int) < 64 := by omega
  have h0 : rightE ev = 0 := (right_iff ev).2 hr
  have hAE : applyE F ev = if ¬ behind F ev then 10 else if sq ≠ F.H.getD i 0 + 1 then 9 else 0 := by
    unfold applyE
    rw [h0, hev]
    rfl
  have hsee : Sees w A n text := by rw [hnt]; exact sees_of_V hs
  have RT := Lib.hid (fun (W : World) => (by
    have := refRight_any ev A n c W hfit (by rw [htx]; exact hnt) (by rw [htx, ← hnt]; omega) (by rw [hev]; exact hkl)
    rw [hval, h0] at this
    exact this : Calls Tryz.prog 87 #[.agg #[.int .i64 (i : Int), .int .u64 (sq : Int), .int .u64 (tm : Int), .int .u8 (kd : Int), .string key, .slice A n c, .float .f64 num, .int .i64 node]] W fun e' w' => e' = .returned (.int .i64 0) ∧ Below W.heap.size W w'))
  have AT : ∀ W, Calls Tryz.prog 41 #[.agg #[.int .i64 (i : Int), .int .u64 (sq : Int), .int .u64 (tm : Int), .int .u8 (kd : Int), .string key, .slice A n c, .float .f64 num, .int .i64 node]] W fun e' w' => e' = .returned (.agg #[.int .u64 (tm : Int), .int .i64 (i : Int)]) ∧ Below W.heap.size W w' := fun W => by
    have := refAt_any ev A n c W
    rw [hval] at this
    rw [hev] at this
    exact this
  obtain ⟨n', hnl⟩ : ∃ n', n' = L.length := ⟨_, rfl⟩
  obtain ⟨Ja, Jc, Ra, Rc, Ha, Hc, T0, W0, M0⟩ := h
  have hrT := r.T
  have hrW := r.W
  have hrM := r.M
  simp only at hrT hrW hrM
  obtain ⟨X, hX⟩ : ∃ X, X = decide (cmpS T0 (W0 : Int) tm (i : Int) < 0) := ⟨_, rfl⟩
  have HXV := Lib.hid (show X = true from hX.trans hXt)
  have AH : ∀ W, Calls Tryz.prog 40 #[.agg #[.int .u64 (T0 : Int), .int .i64 (W0 : Int)], .agg #[.int .u64 (tm : Int), .int .i64 (i : Int)]] W fun e' w' => e' = .returned (.bool X) ∧ Below W.heap.size W w' := fun W => by
    rw [hX]
    exact ahead_any T0 (W0 : Int) tm (i : Int) W
  have hbeh : behind F ev ↔ X = true := by
    unfold behind
    rw [hX, decide_eq_true_eq, cmpS_lt, hrT, hrW, hev]
  have hHl : F.H.length = 64 := ok.h
  have hHne : Vec.us F.H ≠ [] := fun e => by have := congrArg List.length e; rw [Vec.us_length, hHl] at this; simp at this
  obtain ⟨hb, ho, hHa, hHS, hHc⟩ := r.H hHne
  simp only at hHa
  subst hHa
  obtain ⟨h0H, hh0⟩ : ∃ h0, h0 = F.H.getD i 0 := ⟨_, rfl⟩
  have hHget : (Vec.us F.H)[i]? = some (.int .u64 (h0H : Int)) := by
    rw [hh0]
    unfold Vec.us
    rw [List.getElem?_map, List.getElem?_eq_getElem (by rw [hHl]; exact hi), List.getD_eq_getElem?_getD, List.getElem?_eq_getElem (by rw [hHl]; exact hi)]
    rfl
  have hh63 : h0H < 9223372036854775808 := by
    rw [hh0]
    have hl : i < F.H.length := by rw [hHl]; exact hi
    have : F.H.getD i 0 ∈ F.H := by rw [List.getD_eq_getElem?_getD, List.getElem?_eq_getElem hl]; exact List.getElem_mem hl
    exact ok.hs _ this
  have hwr : IntKind.u64.wrap ((h0H : Int) + 1) = (h0H : Int) + 1 := by rw [IntKind.wrap_u64]; omega
  obtain ⟨Y, hY⟩ : ∃ Y, (!decide (sq = h0H + 1)) = Y := ⟨_, rfl⟩
  have HYV := Lib.hid (show Y = false by rw [← hY, hh0]; exact hYt)
  have hY1 : ((sq : Int) == (h0H : Int) + 1) = !Y := by
    rw [← hY, Bool.not_not]
    by_cases hc : sq = h0H + 1
    · rw [decide_eq_true hc, beq_iff_eq]; omega
    · rw [decide_eq_false hc, beq_eq_false_iff_ne]; omega
  have hY2 : decide ((sq : Int) = (h0H : Int) + 1) = !Y := by
    rw [← hY, Bool.not_not]
    exact decide_eq_decide.2 (by omega)
  have hY3 : decide (sq = h0H + 1) = !Y := by rw [← hY, Bool.not_not]
  have hAE2 : applyE F ev = if X then (if Y then 9 else 0) else 10 := by
    rw [hAE, ← hh0]
    cases X with
    | false => simp [hbeh]
    | true =>
      rw [if_neg (by simp [hbeh])]
      cases Y with
      | true => rw [if_pos (by simpa using hY3)]; rfl
      | false => rw [if_neg (by simpa using hY3)]; rfl
  obtain ⟨XE, hXE⟩ : ∃ XE, XE = applyE F ev := ⟨_, rfl⟩
  obtain ⟨FF, hFF⟩ : ∃ FF, FF = applyF F ev := ⟨_, rfl⟩
  rw [← hXE, ← hFF]
  rw [← hXE] at hAE2
  have SAME : XE ≠ 0 → FF = F := fun hne => by rw [hFF]; unfold applyF; rw [← hXE, if_neg hne]
  have TAKEN : XE = 0 → FF = { change F ev with H := F.H.set i sq, time := tm, wr := i, mark := hashL F.mark (evL ev) } := fun he => by
    rw [hFF]; unfold applyF taken; rw [← hXE, if_pos he, hev]; rfl
  have BX := Lib.hid (fun (W : World) hW => boxesT (rv La n' lc ⟨Ja, Jc, Ra, Rc, some ⟨hb, ho, none⟩, Hc, T0, W0, M0⟩) #[.int .i64 (i : Int), .int .u64 (sq : Int), .int .u64 (tm : Int), .int .u8 (kd : Int), .string key, .slice A n c, .float .f64 num, .int .i64 node] zrv 60 32 60 w W hW)
  unfold rv zrv at BX
  rw [← hnl]
  unfold rv
  simp only at BX ⊢
  obtain ⟨B, hBe⟩ : ∃ B, B = w.heap.size := ⟨_, rfl⟩
  have HHC := Lib.hid (fun (W : World) (hW : Below w.heap.size w W) => (by
    obtain ⟨b', o', hA', _, hc'⟩ := (r.H.below hW) hHne
    simp only at hA'
    injection hA' with hA'
    injection hA' with h1 h2
    subst h1; subst h2
    exact hc' i _ hHget : W.cell? ⟨hb, ho + i, none⟩ = some (.int .u64 (h0H : Int))))
  have EN := Lib.hid (fun (W : World) (hW : Below w.heap.size w W) => (by
    have := refEncode_any ev A n c W (by rw [htx]; exact hsee.below hW) (by rw [hev]; exact hq) hr
    rw [hval] at this
    exact this : Calls Tryz.prog 64 #[.agg #[.int .i64 (i : Int), .int .u64 (sq : Int), .int .u64 (tm : Int), .int .u8 (kd : Int), .string key, .slice A n c, .float .f64 num, .int .i64 node]] W (Made.New W.heap.size (evL ev).length (evL ev) W)))
  have HLEN := Lib.hid (evL_len hr)
  obtain ⟨i0, hi0, hz, hsz, hby⟩ := info_parts info64f
  have HAE := Lib.hid hAE2
  have HSAME := Lib.hid SAME
  have HTAKEN := Lib.hid TAKEN
  have HR := Lib.hid r
  have HSS := Lib.hid hS
  have HSEE := Lib.hid hs
  have HNT := Lib.hid (And.intro hnt htx)
  have HRIGHT := Lib.hid (And.intro hr hfit)
  have HEV := Lib.hid (And.intro hev hval)
  have HN := Lib.hid hnl
  have HB := Lib.hid hBe
  have HRT := Lib.hid (And.intro hrT (And.intro hrW hrM))
  have HOK := Lib.hid ok
  have HKD := Lib.hid hkdt
  clear hXt hYt hkdt
  clear SAME TAKEN hAE2 hAE hbeh hX hXE hFF r hs hsee hr hfit hval htx hev h0 hS hnl hrT hrW hrM hHl hHne hHS hHc hHget hh0 hY hnt hkl ok
  go_enter Tryz.func53, Tryz.ntmps53
  go_wp2_with fail
  refine (RT.out _).mono ?_
  rintro e' w1 ⟨rfl, hb1⟩
  obtain ⟨b1, g0, g1, g2, z1⟩ := BX.out w1 (by simpa using hb1)
  rw [← hBe] at g0 g1 g2 z1
  have HC := Lib.hid (fun (W : World) (hW : Below w1.drew.heap.size w1.drew W) => (⟨box8 ((hW.block (B + 1) (by show B + 1 < w1.heap.size; omega)).trans g1), (by
    have hc := rv_cells (h := ⟨Ja, Jc, Ra, Rc, some ⟨hb, ho, none⟩, Hc, T0, W0, M0⟩) ((hW.block B (by show B < w1.heap.size; omega)).trans g0)
    exact ⟨hc.2.2.2.2.1, hc.2.2.2.2.2.1⟩), AT W, AH W⟩ :
    (W.cell? ⟨B + 1, 0, none⟩ = some (.int .i64 (i : Int)) ∧ W.cell? ⟨B + 1, 1, none⟩ = some (.int .u64 (sq : Int)) ∧ W.cell? ⟨B + 1, 2, none⟩ = some (.int .u64 (tm : Int)) ∧ W.cell? ⟨B + 1, 3, none⟩ = some (.int .u8 (kd : Int)) ∧ W.cell? ⟨B + 1, 4, none⟩ = some (.string key) ∧ W.cell? ⟨B + 1, 5, none⟩ = some (.slice A n c) ∧ W.cell? ⟨B + 1, 6, none⟩ = some (.float .f64 num) ∧ W.cell? ⟨B + 1, 7, none⟩ = some (.int .i64 node)) ∧
    (W.cell? ⟨B, 4, none⟩ = some (.int .u64 (T0 : Int)) ∧ W.cell? ⟨B, 5, none⟩ = some (.int .i64 (W0 : Int))) ∧
    Calls Tryz.prog 41 #[.agg #[.int .i64 (i : Int), .int .u64 (sq : Int), .int .u64 (tm : Int), .int .u8 (kd : Int), .string key, .slice A n c, .float .f64 num, .int .i64 node]] W (fun e' w' => e' = .returned (.agg #[.int .u64 (tm : Int), .int .i64 (i : Int)]) ∧ Below W.heap.size W w') ∧
    Calls Tryz.prog 40 #[.agg #[.int .u64 (T0 : Int), .int .i64 (W0 : Int)], .agg #[.int .u64 (tm : Int), .int .i64 (i : Int)]] W (fun e' w' => e' = .returned (.bool X) ∧ Below W.heap.size W w')))
  have G1 := Lib.hid (And.intro g0 (And.intro g1 (And.intro g2 z1)))
  have B1 := Lib.hid b1
  have HAT := Lib.hid AT
  clear g0 g1 g2 b1 hb1 AT AH z1
  go_wp2_with fail
  rw [← HB.out]
  clear hBe
  refine Facts.wp_region_preds (n := 150) (by kernel_rfl) (by kernel_rfl) rfl [Facts.Pred.is (Value.pointer (some ⟨B, 4, none⟩)), Facts.Pred.is (Value.agg #[.int .u64 (T0 : Int), .int .i64 (W0 : Int)]), Facts.Pred.is (Value.agg #[.int .i64 (i : Int), .int .u64 (sq : Int), .int .u64 (tm : Int), .int .u8 (kd : Int), .string key, .slice A n c, .float .f64 num, .int .i64 node]), Facts.Pred.is (Value.agg #[.int .u64 (tm : Int), .int .i64 (i : Int)]), Facts.Pred.is (Value.bool X), Facts.Pred.is (Value.bool (!X))] ?_ ?_
  · refine ⟨?_, ?_, ?_, ?_, ?_, ?_, trivial⟩
    · refine Facts.step_is (Value.pointer (some ⟨B, 4, none⟩)) fun a W hR hold hnew => ?_
      have f2 : a.tmps.getD 2 undef = Value.pointer (some ⟨B, 0, none⟩) := hold 2 (by kernel_rfl)
      refine ⟨Facts.wanted_free rfl, ?_, fun _ => rfl⟩; simp [go_sem, Act.eval, f2]
    · refine Facts.step_is (Value.agg #[.int .u64 (T0 : Int), .int .i64 (W0 : Int)]) fun a W hR hold hnew => ?_
      have f19 : a.tmps.getD 19 undef = Value.pointer (some ⟨B, 4, none⟩) := hnew 0 19 (by kernel_rfl)
      obtain ⟨s4, s5⟩ := (HC.out W hR).2.1
      refine ⟨Facts.wanted_free rfl, ?_, fun _ => rfl⟩; simp [go_sem, Act.eval, f19, s4, s5]
    · refine Facts.step_is (Value.agg #[.int .i64 (i : Int), .int .u64 (sq : Int), .int .u64 (tm : Int), .int .u8 (kd : Int), .string key, .slice A n c, .float .f64 num, .int .i64 node]) fun a W hR hold hnew => ?_
      have f3 : a.tmps.getD 3 undef = Value.pointer (some ⟨B + 1, 0, none⟩) := hold 3 (by kernel_rfl)
      obtain ⟨k0, k1, k2, k3, k4, k5, k6, k7⟩ := (HC.out W hR).1
      refine ⟨Facts.wanted_free rfl, ?_, fun _ => rfl⟩; simp [go_sem, Act.eval, f3, k0, k1, k2, k3, k4, k5, k6, k7]
    · -- 3: Op.call { value (Operand.func 22), args := #[t21], argTypes 
      refine Facts.step_call fun a W hR hold hnew => ?_
      have f21 : a.tmps.getD 21 undef = Value.agg #[.int .i64 (i : Int), .int .u64 (sq : Int), .int .u64 (tm : Int), .int .u8 (kd : Int), .string key, .slice A n c, .float .f64 num, .int .i64 node] := hnew 2 21 (by kernel_rfl)
      refine ⟨Facts.wanted_free rfl, 41, #[Value.agg #[.int .i64 (i : Int), .int .u64 (sq : Int), .int .u64 (tm : Int), .int .u8 (kd : Int), .string key, .slice A n c, .float .f64 num, .int .i64 node]], by simp [go_sem, Act.eval, f21], ?_⟩
      refine ((HC.out W hR).2.2.1).mono ?_
      rintro e' w7 ⟨rfl, hb7⟩
      exact ⟨_, rfl, hb7, rfl⟩
    · -- 4: Op.call { value (Operand.func 21), args := #[t20, t22], argT
      refine Facts.step_call fun a W hR hold hnew => ?_
      have f20 : a.tmps.getD 20 undef = Value.agg #[.int .u64 (T0 : Int), .int .i64 (W0 : Int)] := hnew 1 20 (by kernel_rfl); have f22 : a.tmps.getD 22 undef = Value.agg #[.int .u64 (tm : Int), .int .i64 (i : Int)] := hnew 3 22 (by kernel_rfl)
      refine ⟨Facts.wanted_free rfl, 40, #[Value.agg #[.int .u64 (T0 : Int), .int .i64 (W0 : Int)], Value.agg #[.int .u64 (tm : Int), .int .i64 (i : Int)]], by simp [go_sem, Act.eval, f20, f22], ?_⟩
      refine ((HC.out W hR).2.2.2).mono ?_
      rintro e' w7 ⟨rfl, hb7⟩
      exact ⟨_, rfl, hb7, rfl⟩
    · refine Facts.step_is (Value.bool (!X)) fun a W hR hold hnew => ?_
      have f23 : a.tmps.getD 23 undef = Value.bool X := hnew 4 23 (by kernel_rfl)
      refine ⟨Facts.wanted_free rfl, ?_, fun _ => rfl⟩; simp [go_sem, Act.eval, f23]
  · intro a w3 hR' hsize hdef hnew hold
    have f2 : a.tmps.getD 2 undef = Value.pointer (some ⟨B, 0, none⟩) := hold 2 (not_dst (by kernel_rfl))
    have f3 : a.tmps.getD 3 undef = Value.pointer (some ⟨B + 1, 0, none⟩) := hold 3 (not_dst (by kernel_rfl))
    have f4 : a.tmps.getD 4 undef = Value.pointer (some ⟨B + 1 + 1, 0, none⟩) := hold 4 (not_dst (by kernel_rfl))
    have f5 : a.tmps.getD 5 undef = Value.int .i64 0 := hold 5 (not_dst (by kernel_rfl))
    have f24 : a.tmps.getD 24 undef = Value.bool (!X) := hnew 5 24 (by kernel_rfl)
    obtain ⟨tm, df⟩ := a
    simp only [] at hdef hsize f2 f3 f4 f5 f24
    obtain ⟨xq, hxq, hlit⟩ := Facts.lits tm hsize Facts.idx150 Facts.idx150_eq
    rw [hxq] at f2 f3 f4 f5 f24
    simp only [Facts.idx150, List.map_cons, List.map_nil, f2, f3, f4, f5, f24] at hlit
    clear f2 f3 f4 f5 f24 hsize hnew hold hxq
    subst hlit
    subst hdef
    try simp only []
    have B3 := Lib.hid (B1.out.trans (((Below.refl _ _).drew.trans hR').mono B1.out.size))
    have z3 : B + 3 ≤ w3.heap.size := Nat.le_trans G1.out.2.2.2 hR'.size
    have G3 := Lib.hid (And.intro ((hR'.block B (by have := G1.out.2.2.2; show B < w1.heap.size; omega)).trans G1.out.1) (And.intro ((hR'.block (B + 1) (by have := G1.out.2.2.2; show B + 1 < w1.heap.size; omega)).trans G1.out.2.1) ((hR'.block (B + 2) (by have := G1.out.2.2.2; show B + 2 < w1.heap.size; omega)).trans G1.out.2.2.1)))
    clear hR'
    have g30 := G3.out.1
    have g32 : w3.heap[B + 1 + 1]? = _ := G3.out.2.2
    cases X with
    | false =>
      exact absurd HXV.out (by decide)
    | true =>
    have HC6 := Lib.hid (fun (W : World) (hW : Below w3.drew.heap.size w3.drew W) => (by
      have k := box8 ((hW.block (B + 1) (by show B + 1 < w3.heap.size; omega)).trans G3.out.2.1)
      have hc := rv_cells (h := ⟨Ja, Jc, Ra, Rc, some ⟨hb, ho, none⟩, Hc, T0, W0, M0⟩) ((hW.block B (by show B < w3.heap.size; omega)).trans G3.out.1)
      exact ⟨k.2.1, hc.2.2.2.1, k.1, HHC.out W (B3.out.drew.trans (hW.mono B3.out.size))⟩ : W.cell? ⟨B + 1, 1, none⟩ = some (.int .u64 (sq : Int)) ∧ W.cell? ⟨B, 3, none⟩ = some (.slice (some ⟨hb, ho, none⟩) 64 Hc) ∧ W.cell? ⟨B + 1, 0, none⟩ = some (.int .i64 (i : Int)) ∧ W.cell? ⟨hb, ho + i, none⟩ = some (.int .u64 (h0H : Int))))
    clear g30 g32
    go_wp2_with fail
    refine Facts.wp_region_preds (n := 150) (by kernel_rfl) (by kernel_rfl) rfl [Facts.Pred.is (Value.pointer (some ⟨B + 1, 1, none⟩)), Facts.Pred.is (Value.int .u64 (sq : Int)), Facts.Pred.is (Value.pointer (some ⟨B, 3, none⟩)), Facts.Pred.is (Value.slice (some ⟨hb, ho, none⟩) 64 Hc), Facts.Pred.is (Value.pointer (some ⟨B + 1, 0, none⟩)), Facts.Pred.is (Value.int .i64 (i : Int)), Facts.Pred.is (Value.pointer (some ⟨hb, ho + i, none⟩)), Facts.Pred.is (Value.int .u64 (h0H : Int)), Facts.Pred.is (Value.int .u64 ((h0H : Int) + 1)), Facts.Pred.is (Value.bool Y)] ?_ ?_
    · refine ⟨?_, ?_, ?_, ?_, ?_, ?_, ?_, ?_, ?_, ?_, trivial⟩
      · refine Facts.step_is (Value.pointer (some ⟨B + 1, 1, none⟩)) fun a W hR hold hnew => ?_
        have f3 : a.tmps.getD 3 undef = Value.pointer (some ⟨B + 1, 0, none⟩) := hold 3 (by kernel_rfl)
        refine ⟨Facts.wanted_free rfl, ?_, fun _ => rfl⟩; simp [go_sem, Act.eval, f3]
      · refine Facts.step_is (Value.int .u64 (sq : Int)) fun a W hR hold hnew => ?_
        have f26 : a.tmps.getD 26 undef = Value.pointer (some ⟨B + 1, 1, none⟩) := hnew 0 26 (by kernel_rfl)
        have s1 := (HC6.out W hR).1
        refine ⟨Facts.wanted_free rfl, ?_, fun _ => rfl⟩; simp [go_sem, Act.eval, f26, s1]
      · refine Facts.step_is (Value.pointer (some ⟨B, 3, none⟩)) fun a W hR hold hnew => ?_
        have f2 : a.tmps.getD 2 undef = Value.pointer (some ⟨B, 0, none⟩) := hold 2 (by kernel_rfl)
        refine ⟨Facts.wanted_free rfl, ?_, fun _ => rfl⟩; simp [go_sem, Act.eval, f2]
      · refine Facts.step_is (Value.slice (some ⟨hb, ho, none⟩) 64 Hc) fun a W hR hold hnew => ?_
        have f28 : a.tmps.getD 28 undef = Value.pointer (some ⟨B, 3, none⟩) := hnew 2 28 (by kernel_rfl)
        have s2 := (HC6.out W hR).2.1
        refine ⟨Facts.wanted_free rfl, ?_, fun _ => rfl⟩; simp [go_sem, Act.eval, f28, s2]
      · refine Facts.step_is (Value.pointer (some ⟨B + 1, 0, none⟩)) fun a W hR hold hnew => ?_
        have f3 : a.tmps.getD 3 undef = Value.pointer (some ⟨B + 1, 0, none⟩) := hold 3 (by kernel_rfl)
        refine ⟨Facts.wanted_free rfl, ?_, fun _ => rfl⟩; simp [go_sem, Act.eval, f3]
      · refine Facts.step_is (Value.int .i64 (i : Int)) fun a W hR hold hnew => ?_
        have f30 : a.tmps.getD 30 undef = Value.pointer (some ⟨B + 1, 0, none⟩) := hnew 4 30 (by kernel_rfl)
        have s0 := (HC6.out W hR).2.2.1
        refine ⟨Facts.wanted_free rfl, ?_, fun _ => rfl⟩; simp [go_sem, Act.eval, f30, s0]
      · refine Facts.step_is (Value.pointer (some ⟨hb, ho + i, none⟩)) fun a W hR hold hnew => ?_
        have f29 : a.tmps.getD 29 undef = Value.slice (some ⟨hb, ho, none⟩) 64 Hc := hnew 3 29 (by kernel_rfl)
        have f31 : a.tmps.getD 31 undef = Value.int .i64 (i : Int) := hnew 5 31 (by kernel_rfl)
        refine ⟨Facts.wanted_free rfl, ?_, fun _ => rfl⟩; simp [go_sem, Act.eval, f29, f31, hi2]
      · refine Facts.step_is (Value.int .u64 (h0H : Int)) fun a W hR hold hnew => ?_
        have f32 : a.tmps.getD 32 undef = Value.pointer (some ⟨hb, ho + i, none⟩) := hnew 6 32 (by kernel_rfl)
        have s3 := (HC6.out W hR).2.2.2
        refine ⟨Facts.wanted_free rfl, ?_, fun _ => rfl⟩; simp [go_sem, Act.eval, f32, s3]
      · refine Facts.step_is (Value.int .u64 ((h0H : Int) + 1)) fun a W hR hold hnew => ?_
        have f33 : a.tmps.getD 33 undef = Value.int .u64 (h0H : Int) := hnew 7 33 (by kernel_rfl)
        refine ⟨Facts.wanted_free rfl, ?_, fun _ => rfl⟩; simp [go_sem, Act.eval, f33, hwr]
      · refine Facts.step_is (Value.bool Y) fun a W hR hold hnew => ?_
        have f27 : a.tmps.getD 27 undef = Value.int .u64 (sq : Int) := hnew 1 27 (by kernel_rfl)
        have f34 : a.tmps.getD 34 undef = Value.int .u64 ((h0H : Int) + 1) := hnew 8 34 (by kernel_rfl)
        refine ⟨Facts.wanted_free rfl, ?_, fun _ => rfl⟩; simp [go_sem, Act.eval, f27, f34, hY1, hY2, hY3, bne]
    · intro a w4 hR' hsize hdef hnew hold
      have f2 : a.tmps.getD 2 undef = Value.pointer (some ⟨B, 0, none⟩) := hold 2 (not_dst (by kernel_rfl))
      have f3 : a.tmps.getD 3 undef = Value.pointer (some ⟨B + 1, 0, none⟩) := hold 3 (not_dst (by kernel_rfl))
      have f4 : a.tmps.getD 4 undef = Value.pointer (some ⟨B + 1 + 1, 0, none⟩) := hold 4 (not_dst (by kernel_rfl))
      have f5 : a.tmps.getD 5 undef = Value.int .i64 0 := hold 5 (not_dst (by kernel_rfl))
      have f35 : a.tmps.getD 35 undef = Value.bool Y := hnew 9 35 (by kernel_rfl)
      obtain ⟨tm, df⟩ := a
      simp only [] at hdef hsize f2 f3 f4 f5 f35
      obtain ⟨xq, hxq, hlit⟩ := Facts.lits tm hsize Facts.idx150 Facts.idx150_eq
      rw [hxq] at f2 f3 f4 f5 f35
      simp only [Facts.idx150, List.map_cons, List.map_nil, f2, f3, f4, f5, f35] at hlit
      clear f2 f3 f4 f5 f35 hsize hnew hold hxq
      subst hlit
      subst hdef
      try simp only []
      have B4 := Lib.hid (B3.out.trans (((Below.refl _ _).drew.trans hR').mono B3.out.size))
      have z4 : B + 3 ≤ w4.heap.size := Nat.le_trans z3 hR'.size
      have G4 := Lib.hid (And.intro ((hR'.block B (by show B < w3.heap.size; omega)).trans G3.out.1) (And.intro ((hR'.block (B + 1) (by show B + 1 < w3.heap.size; omega)).trans G3.out.2.1) ((hR'.block (B + 2) (by show B + 2 < w3.heap.size; omega)).trans G3.out.2.2)))
      clear hR'
      have g40 := G4.out.1
      have g42 : w4.heap[B + 1 + 1]? = _ := G4.out.2.2
      cases Y with
      | true =>
        exact absurd HYV.out (by decide)
      | false =>
      have hx : XE = 0 := HAE.out
      clear hY1 hY2 hY3 g42
      obtain ⟨p0, p1, p2, p3, p4, p5, p6⟩ := rv_cells (h := ⟨Ja, Jc, Ra, Rc, some ⟨hb, ho, none⟩, Hc, T0, W0, M0⟩) g40
      have sH : SeesV w4 S (some ⟨hb, ho, none⟩) (Vec.us F.H) := HR.out.H.below B4.out
      have hHl : (Vec.us F.H).length = 64 := by rw [Vec.us_length, HOK.out.h]
      have hone := Vec.us_one F.H
      have hc3 : 0 + 64 ≤ maxLen := by unfold maxLen; omega
      have hc4 : (0 + 64) * 8 ≤ 140737488355328 := by omega
      have hH1 : (Vec.us F.H).length = 64 * 1 := by omega
      obtain ⟨q, hqe⟩ : ∃ q, q = Vec.us F.H := ⟨_, rfl⟩
      rw [← hqe] at sH hHl hone hH1
      have HQ := Lib.hid hqe
      clear hqe g40 p0 p1 p2 p4 p5 p6
      go_wp2_with (first | (at_builtin; refine wpList_appV rfl _ _ 50 rfl (B + 3) 28 i0 (.int .u64 0) 1 8 Tryz.underlying50 hi0 hz hsz hby rfl (by decide) none 0 0 [] rfl (World.ownsRow_nil _ _ _ _) (some ⟨hb, ho, none⟩) 64 Hc q rfl sH hH1 hone hc3 hc4 z4 ?_))
      intro A5 c5 w5 own5 hb5
      have own5b : w5.ownsRow (B + 3) 28 1 (.slice A5 64 c5) 64 q := by simpa using own5
      obtain ⟨g5, rfl, hg5, ⟨u5, hu5⟩, hf5, own6⟩ := ownsRow_set own5b hi (.int .u64 (sq : Int))
      have g50 := (hb5.block B (by omega)).trans G4.out.1
      have g51 := (hb5.block (B + 1) (by omega)).trans G4.out.2.1
      have g52 := (hb5.block (B + 2) (by omega)).trans G4.out.2.2
      have z5 : B + 3 ≤ w5.heap.size := Nat.le_trans z4 hb5.size
      have B5 := Lib.hid (B4.out.trans (hb5.mono (by have := HB.out; omega)))
      obtain ⟨k0, k1, k2, k3, k4, k5, k6, k7⟩ := box8 g51
      have r3 := (rv_cells (h := ⟨Ja, Jc, Ra, Rc, some ⟨hb, ho, none⟩, Hc, T0, W0, M0⟩) g50).2.2.2.1
      have f3 : w5.frozen? ⟨B, 3, none⟩ = false := frozen_row0 g50
      have n1 : ¬ B + 1 = g5 := by omega
      have n2 : ¬ g5 = B + 1 := by omega
      have n3 : ¬ B = g5 := by omega
      have n4 : ¬ g5 = B := by omega
      obtain ⟨w6, hw6⟩ : ∃ w6, w6 = (w5.setCell ⟨g5, i, none⟩ (.int .u64 (sq : Int))).setCell ⟨B, 3, none⟩ (.slice (some ⟨g5, 0, none⟩) 64 c5) := ⟨_, rfl⟩
      have g60 : w6.heap[B]? = some (.cells #[.slice La n' lc, .slice Ja 64 Jc, .slice Ra 64 Rc, .slice (some ⟨g5, 0, none⟩) 64 c5, .int .u64 (T0 : Int), .int .i64 (W0 : Int), .int .u64 (M0 : Int)] 60 (0, 0)) := by rw [hw6, heapSame ((heapOther n3).trans g50)]; rfl
      have g61 : w6.heap[B + 1]? = some (.cells #[.int .i64 (i : Int), .int .u64 (sq : Int), .int .u64 (tm : Int), .int .u8 (kd : Int), .string key, .slice A n c, .float .f64 num, .int .i64 node] 32 (0, 0)) := by rw [hw6]; exact (heapOther (by omega)).trans ((heapOther n1).trans g51)
      have g62 : w6.heap[B + 2]? = some (.cells #[.slice none 0 0, .slice none 0 0, .slice none 0 0, .slice none 0 0, .int .u64 0, .int .i64 0, .int .u64 0] 60 (0, 0)) := by rw [hw6]; exact (heapOther (by omega)).trans ((heapOther (by omega)).trans g52)
      have b56 : Beside [g5, B] w5 w6 := by rw [hw6]; exact ((Beside.refl [g5, B] _).setCell (by simp) _).setCell (by simp) _
      have B6 := Lib.hid (Below.beside B5.out b56 B5.out.size (fun x hx => by have := HB.out; simp at hx; omega))
      have OWN6 : Hid (w6.ownsRow (B + 3) 28 1 (.slice (some ⟨g5, 0, none⟩) 64 c5) 64 (q.set i (.int .u64 (sq : Int)))) := Lib.hid (by rw [hw6]; exact Own.beside own6 ((Beside.refl [B] _).setCell (by simp) _) (fun x hx => by simp at hx; omega))
      have G6 := Lib.hid (And.intro g60 (And.intro g61 g62))
      have z6 : B + 3 ≤ w6.heap.size := Nat.le_trans z5 b56.size
      have HW6 := Lib.hid hw6
      have HG5 := Lib.hid hg5
      clear own5 own5b own6 hb5 g50 g51 g52 g60 g61 g62 b56 hw6 sH hHl hone hH1 p3 hc3 hc4
      go_wp2_with fail
      refine (HAT.out _).mono ?_
      rintro e' w7 ⟨rfl, hb7⟩
      rw [← HW6.out] at hb7
      have g70 := (hb7.block B (by omega)).trans G6.out.1
      have g71 := (hb7.block (B + 1) (by omega)).trans G6.out.2.1
      have g72 := (hb7.block (B + 2) (by omega)).trans G6.out.2.2
      have z7 : B + 3 ≤ w7.heap.size := Nat.le_trans z6 hb7.size
      have B7 := Lib.hid (B6.out.trans (hb7.mono B6.out.size))
      have OWN7 := Lib.hid (Own.below OWN6.out hb7 (Nat.le_refl _))
      clear k0 k1 k2 k3 k4 k5 k6 k7 hu5 hf5 r3 f3 n1 n2 n3 n4 hb7 z5
      obtain ⟨r0, r1, r2, r3, r4, r5, r6⟩ := rv_cells (h := ⟨Ja, Jc, Ra, Rc, some ⟨g5, 0, none⟩, c5, T0, W0, M0⟩) g70
      have f4 : w7.frozen? ⟨B, 4, none⟩ = false := frozen_row0 g70
      have f5 : w7.frozen? ⟨B, 5, none⟩ = false := frozen_row0 g70
      obtain ⟨k0, k1, k2, k3, k4, k5, k6, k7⟩ := box8 g71
      obtain ⟨w8, hw8⟩ : ∃ w8, w8 = (w7.setCell ⟨B, 4, none⟩ (.int .u64 (tm : Int))).setCell ⟨B, 5, none⟩ (.int .i64 (i : Int)) := ⟨_, rfl⟩
      have g80 : w8.heap[B]? = some (.cells #[.slice La n' lc, .slice Ja 64 Jc, .slice Ra 64 Rc, .slice (some ⟨g5, 0, none⟩) 64 c5, .int .u64 (tm : Int), .int .i64 (i : Int), .int .u64 (M0 : Int)] 60 (0, 0)) := by rw [hw8, heapSame (heapSame g70)]; rfl
      have g81 : w8.heap[B + 1]? = some (.cells #[.int .i64 (i : Int), .int .u64 (sq : Int), .int .u64 (tm : Int), .int .u8 (kd : Int), .string key, .slice A n c, .float .f64 num, .int .i64 node] 32 (0, 0)) := by rw [hw8]; exact (heapOther (by omega)).trans ((heapOther (by omega)).trans g71)
      have g82 : w8.heap[B + 2]? = some (.cells #[.slice none 0 0, .slice none 0 0, .slice none 0 0, .slice none 0 0, .int .u64 0, .int .i64 0, .int .u64 0] 60 (0, 0)) := by rw [hw8]; exact (heapOther (by omega)).trans ((heapOther (by omega)).trans g72)
      have b78 : Beside [B] w7 w8 := by rw [hw8]; exact ((Beside.refl [B] _).setCell (by simp) _).setCell (by simp) _
      have B8 := Lib.hid (Below.beside B7.out b78 B7.out.size (fun x hx => by have := HB.out; simp at hx; omega))
      have OWN8 := Lib.hid (Own.beside OWN7.out b78 (fun x hx => by simp at hx; omega))
      have G8 := Lib.hid (And.intro g80 (And.intro g81 g82))
      have z8 : B + 3 ≤ w8.heap.size := Nat.le_trans z7 b78.size
      have HW8 := Lib.hid hw8
      have n5 : ¬ B + 1 = B := by omega
      clear g70 g71 g72 g80 g81 g82 b78 hw8
      go_wp2_with fail
      refine (EN.out _ (by rw [← HW8.out]; exact B8.out)).mono ?_
      rintro e' w9 ⟨A9, c9, rfl, own9, hb9⟩
      rw [← HW8.out] at own9 hb9
      clear r0 r1 r2 r3 r4 r5 r6 k0 k1 k2 k3 k4 k5 k6 k7 f4 f5 n5 z6 z7
      have g90 := (hb9.block B (by omega)).trans G8.out.1
      have g91 := (hb9.block (B + 1) (by omega)).trans G8.out.2.1
      have g92 := (hb9.block (B + 2) (by omega)).trans G8.out.2.2
      have z9 : B + 3 ≤ w9.heap.size := Nat.le_trans z8 hb9.size
      have B9 := Lib.hid (B8.out.trans (hb9.mono B8.out.size))
      have OWN9 := Lib.hid (Own.below OWN8.out hb9 (Nat.le_refl _))
      have SE9 := Lib.hid (And.intro (Sees.of_own own9) (Out.of_own (S := [B]) own9 (fun x hx => by simp at hx; omega)))
      obtain ⟨l, hl⟩ : ∃ l, l = evL ev := ⟨_, rfl⟩
      rw [← hl] at SE9 ⊢
      have hll : l.length ≤ 1000000000000 := by rw [hl]; have h1 := HLEN.out; have h2 := HNT.out; rw [h2.2, ← h2.1] at h1; omega
      have HL := Lib.hid hl
      have hM0 : M0 < 18446744073709551616 := by have := HOK.out.mark; rw [← HRT.out.2.2] at this; exact this
      obtain ⟨m, hm⟩ : ∃ m, m = l.length := ⟨_, rfl⟩
      rw [← hm] at SE9 hll ⊢
      have HMl := Lib.hid hm
      have G9 := Lib.hid (And.intro g90 (And.intro g91 g92))
      clear hl hm own9 hb9 g90 g91 g92
      go_wp2_with fail
      have DONE : Hid (∀ (y9 : Value) (W : World), True) := Lib.hid fun _ _ => trivial
      go_loopw [9] (fun y wr => ∃ (j X : Nat), y = .int .i64 (j : Int) ∧ j ≤ m ∧ X < 18446744073709551616 ∧ Hid (X = hashL M0 (l.take j)) ∧ Hid (wr.heap[B]? = some (.cells #[.slice La n' lc, .slice Ja 64 Jc, .slice Ra 64 Rc, .slice (some ⟨g5, 0, none⟩) 64 c5, .int .u64 (tm : Int), .int .i64 (i : Int), .int .u64 (X : Int)] 60 (0, 0))) ∧ Hid (Beside [B] w9 wr)) (fun y _ => m - (intOf y).toNat)
      case atStart => exact ⟨0, M0, rfl, by omega, hM0, Lib.hid (by simp [hashL]), Lib.hid G9.out.1, Lib.hid (Beside.refl _ _)⟩
      case round =>
        obtain ⟨j, X, rfl, hj, hX, HX, HGB, HBW⟩ := hrel
        by_cases h1 : j < m
        · have SEr := (SE9.out.1).beside HBW.out SE9.out.2
          have hlm := HMl.out
          obtain ⟨b9, o9, hA9, hc9⟩ := SEr.2 (by omega)
          subst hA9
          have hc := hc9 j l[j] (List.getElem?_eq_getElem (by omega))
          obtain ⟨uu, hu⟩ : ∃ uu, l[j] = uu := ⟨_, rfl⟩
          rw [hu] at hc
          have HST := Lib.hid (hash_step (m := X) (b := uu.toNat) hX uu.toNat_lt)
          have HNX := Lib.hid (show (X ^^^ uu.toNat) * 1099511628211 % 18446744073709551616 = hashL M0 (l.take (j + 1)) by
            rw [List.take_add_one, List.getElem?_eq_getElem (by omega), hu]
            simp only [Option.toList_some]
            rw [hashL_snoc, HX.out])
          have HY : (X ^^^ uu.toNat) * 1099511628211 % 18446744073709551616 < 18446744073709551616 := Nat.mod_lt _ (by omega)
          have hd : decide ((j : Int) < (m : Int)) = true := decide_eq_true (by omega)
          have hjm : (j : Int) < (m : Int) := by omega
          obtain ⟨U, hU⟩ : ∃ U, uu.toNat = U := ⟨_, rfl⟩
          rw [hU] at hc HST HNX HY
          obtain ⟨Z, hZ⟩ : ∃ Z, (X ^^^ U) * 1099511628211 % 18446744073709551616 = Z := ⟨_, rfl⟩
          rw [hZ] at HST HNX HY
          have hst := HST.out
          have r6 := (rv_cells (h := ⟨Ja, Jc, Ra, Rc, some ⟨g5, 0, none⟩, c5, tm, i, X⟩) HGB.out).2.2.2.2.2.2
          have f6 : wr.frozen? ⟨B, 6, none⟩ = false := frozen_row0 HGB.out
          clear hc9 SEr hu hU hZ hlm
          go_wp2
          go_still_tail 10, (by kernel_rfl)
          change wpList _ _ _ _ _ wr.drew
          go_wp2
          go_roundw
          case rel =>
            exact ⟨j + 1, Z, by simp, by omega, HY, HNX, Lib.hid ((heapSame HGB.out : (wr.setCell ⟨B, 6, none⟩ (.int .u64 (Z : Int))).heap[B]? = _).trans rfl), Lib.hid (HBW.out.setCell (by simp) _).drew⟩
          case measure => simp [intOf]; omega
        · have hd : decide ((j : Int) < (m : Int)) = false := decide_eq_false (by omega)
          obtain rfl : j = m := by omega
          have HXE := Lib.hid (show X = hashL M0 l by rw [HX.out, List.take_of_length_le (by rw [← HMl.out]; exact Nat.le_refl _)])
          have hbr := HBW.out
          have gr1 := (hbr.block (B + 1) (by omega) (by simp)).trans G9.out.2.1
          have gr2 := (hbr.block (B + 2) (by omega) (by simp)).trans G9.out.2.2
          have zr : B + 3 ≤ wr.heap.size := Nat.le_trans z9 hbr.size
          have Br := Lib.hid (Below.beside B9.out hbr B9.out.size (fun x hx => by have := HB.out; simp at hx; omega))
          have OWNr := Lib.hid (Own.beside OWN9.out hbr (fun x hx => by simp at hx; omega))
          have Gr := Lib.hid (And.intro HGB.out (And.intro gr1 gr2))
          obtain ⟨k0, k1, k2, k3, k4, k5, k6, k7⟩ := box8 gr1
          clear hbr gr1 gr2 hd h1
          obtain ⟨r0, r1, r2, r3, r4, r5, r6⟩ := rv_cells (h := ⟨Ja, Jc, Ra, Rc, some ⟨g5, 0, none⟩, c5, tm, i, X⟩) Gr.out.1
          have R0 := Lib.hid (HR.out.below Br.out)
          have hrise : Rise L := (mapV_rise RC.cel L).1 (by rw [R0.out.cells]; exact HOK.out.rise)
          have hSr : ∀ x ∈ S, x < wr.heap.size := fun x hx => Nat.lt_of_lt_of_le (HSS.out x hx) Br.out.size
          have HRB : Hid (∀ W, Below wr.heap.size wr W → SeesV W S (some ⟨g5, 0, none⟩) (Vec.us (F.H.set i sq))) := Lib.hid fun W hW => by
            have := SeesV.of_own (S := S) OWNr.out (fun x hx => by have := HSS.out x hx; have := HB.out; omega)
            have e : Vec.us (F.H.set i sq) = q.set i (.int .u64 (sq : Int)) := by rw [HQ.out]; simp [Vec.us]
            rw [e]
            exact this.below hW
          have hkdt := HKD.out
          clear HKD
          subst hkdt
          · have RW := Lib.hid ((HR.out.wider (S1 := S ++ [B, B + 1 + 1]) (fun x hx => by
              rcases List.mem_append.1 hx with h | h
              · exact .inl h
              · right; rw [← HB.out]; simp at h; omega)).below Br.out)
            have TXW := Lib.hid ((HSEE.out.wider (S1 := S ++ [B, B + 1 + 1]) (fun x hx => by
              rcases List.mem_append.1 hx with h | h
              · exact .inl h
              · right; rw [← HB.out]; simp at h; omega)).below Br.out)
            have hSr2 : ∀ x ∈ S ++ [B, B + 1 + 1], x < wr.heap.size := fun x hx => by
              rcases List.mem_append.1 hx with h | h
              · exact hSr x h
              · simp at h; omega
            have HRB2 : Hid (SeesV wr (S ++ [B, B + 1 + 1]) (some ⟨g5, 0, none⟩) (Vec.us (F.H.set i sq))) := Lib.hid (by
              have h1 := SeesV.of_own (S := S ++ [B, B + 1 + 1]) OWNr.out (fun x hx => by
                rcases List.mem_append.1 hx with h | h
                · have := HSS.out x h; have := HB.out; omega
                · simp at h; omega)
              have e : Vec.us (F.H.set i sq) = q.set i (.int .u64 (sq : Int)) := by rw [HQ.out]; simp [Vec.us]
              rw [e]; exact h1)
            have hc5 : 64 ≤ c5 ∧ c5 ≤ 9223372036854775807 := by
              rcases OWNr.out.2 with ⟨hv, _⟩ | ⟨g, cap, cur, hv, _, _, h1, h2, _⟩
              · cases hv
              · injection hv with _ _ h3
                subst h3
                unfold maxLen at h2
                exact ⟨h1, h2⟩
            have HC5 := Lib.hid hc5
            have PUT := Lib.hid (put_lit La lc L Ja Jc Ra Rc (some ⟨g5, 0, none⟩) c5 tm i X key.data.toList ⟨1, A, c, text, 0⟩ (#[.string key, .int .u8 1, .slice A n c, .float .f64 0]) (by simp [rcCells, keyV, HNT.out.1]) n' HN.out (S ++ [B, B + 1 + 1]) wr RW.out.rows hL RW.out.cap RW.out.cap2 hrise hSr2)
            clear r0 r1 r2 r3 r4 r5 r6 hrise hSr R0 hc5 hSr2
            obtain ⟨r0, r1, r2, r3, r4, r5, r6⟩ := rv_cells (h := ⟨Ja, Jc, Ra, Rc, some ⟨g5, 0, none⟩, c5, tm, i, X⟩) Gr.out.1
            go_wp2_with fail
            refine PUT.out.mono ?_
            rintro e' w10 ⟨A10, c10, N, rfl, hN, hS10, hc1, hc2, hb10⟩
            have gB0 := (hb10.block B (by omega)).trans Gr.out.1
            have gB2 : w10.heap[B + 1 + 1]? = _ := (hb10.block (B + 2) (by omega)).trans Gr.out.2.2
            have B10 := Lib.hid (Br.out.trans (hb10.mono Br.out.size))
            have HB10 := Lib.hid hb10
            have HS10 := Lib.hid (And.intro hS10 (And.intro hc1 (And.intro hc2 hN)))
            clear hS10 hc1 hc2 hN hb10 r0 r1 r2 r3 r4 r5 r6 k0 k1 k2 k3 k4 k5 k6 k7 PUT
            go_wp2_with (first | (refine wpList_putRow rfl 60 (.tmp 2) (.tmp 86) rfl B 60 #[.slice La n' lc, .slice Ja 64 Jc, .slice Ra 64 Rc, .slice (some ⟨g5, 0, none⟩) 64 c5, .int .u64 (tm : Int), .int .i64 (i : Int), .int .u64 (X : Int)] #[.slice A10 N c10, .slice Ja 64 Jc, .slice Ra 64 Rc, .slice (some ⟨g5, 0, none⟩) 64 c5, .int .u64 (tm : Int), .int .i64 (i : Int), .int .u64 (X : Int)] rfl rfl gB0 (by kernel_rfl) rfl (by simp [Value.oneCell']) ?_))
            intro w11 g11 hb11
            have g112 : w11.heap[B + 1 + 1]? = some (.cells #[.slice none 0 0, .slice none 0 0, .slice none 0 0, .slice none 0 0, .int .u64 0, .int .i64 0, .int .u64 0] 60 (0, 0)) := (hb11.block (B + 1 + 1) (Array.getElem?_eq_some_iff.1 gB2).1 (fun hm => by rw [List.mem_singleton] at hm; omega)).trans gB2
            clear gB0 gB2
            go_wp2_with (first
              | (refine wpList_getRow rfl 60 (.tmp 2) rfl B 60 #[.slice A10 N c10, .slice Ja 64 Jc, .slice Ra 64 Rc, .slice (some ⟨g5, 0, none⟩) 64 c5, .int .u64 (tm : Int), .int .i64 (i : Int), .int .u64 (X : Int)] (0, 0) _ rfl g11 Tryz.underlying60 rfl (by kernel_rfl) ?_)
              | (refine wpList_putRow rfl 60 (.tmp 4) (.tmp 149) rfl (B + 1 + 1) 60 #[.slice none 0 0, .slice none 0 0, .slice none 0 0, .slice none 0 0, .int .u64 0, .int .i64 0, .int .u64 0] #[.slice A10 N c10, .slice Ja 64 Jc, .slice Ra 64 Rc, .slice (some ⟨g5, 0, none⟩) 64 c5, .int .u64 (tm : Int), .int .i64 (i : Int), .int .u64 (X : Int)] rfl rfl g112 (by kernel_rfl) rfl (by simp [Value.oneCell']) ?_))
            intro w12 g12 hb12
            obtain ⟨t0, t1, t2, t3, t4, t5, t6⟩ := rv_cells (h := ⟨Ja, Jc, Ra, Rc, some ⟨g5, 0, none⟩, c5, tm, i, X⟩) g12
            have hbb : Beside [B, B + 1 + 1] w10 w12 := (hb11.wider (S1 := [B, B + 1 + 1]) (fun x hx => .inl (by simp at hx; simp [hx]))).trans hb12 fun x hx => .inl (by simp at hx; simp [hx])
            have B12 := Lib.hid (Below.beside B10.out hbb B10.out.size (fun x hx => by have := HB.out; simp at hx; omega))
            have FIN : Hid (RefAt w12 S A10 c10 (ins key.data.toList (⟨1, A, c, text, 0⟩ : RC) L) ⟨Ja, Jc, Ra, Rc, some ⟨g5, 0, none⟩, c5, tm, i, X⟩ FF) := Lib.hid (by
              rw [HTAKEN.out hx]
              have hXB : ∀ x ∈ [B, B + 1 + 1], x ∈ S ++ [B, B + 1 + 1] ∨ w10.heap.size ≤ x := fun x hx => .inl (List.mem_append.2 (.inr hx))
              have RX := (RW.out.below HB10.out).beside hbb hXB
              have hL0 := RX.cells
              have hcel : mapV RC.cel (ins key.data.toList (⟨1, A, c, text, 0⟩ : RC) L) = (change F ev).L := by
                rw [mapV_ins, hL0, HEV.out.1]
                show ins key.data.toList (⟨1, text, qb 0⟩ : Cel) F.L = _; rw [qb_zero]; rfl
              have hJ : (change F ev).J = F.J := by rw [HEV.out.1]; rfl
              have hRR : (change F ev).R = F.R := by rw [HEV.out.1]; rfl
              refine RefAt.wider (S := S ++ [B, B + 1 + 1]) ⟨HS10.out.1.beside hbb hXB, by rw [← HS10.out.2.2.2]; exact HS10.out.2.1, HS10.out.2.2.1, fun p hp => ?_, hcel, by rw [hJ]; exact RX.J, by rw [hRR]; exact RX.R, (HRB2.out.below HB10.out).beside hbb hXB, RX.jc, RX.rc, HC5.out, rfl, rfl, ?_⟩ (fun x hx => .inl (List.mem_append.2 (.inl hx)))
              · rcases mem_ins hp with rfl | hp
                · exact ⟨(TXW.out.below HB10.out).beside hbb hXB, by show qb 0 < _; rw [qb_zero]; decide⟩
                · exact RX.texts p hp
              · show X = hashL F.mark (evL ev)
                rw [HXE.out, HL.out, HRT.out.2.2])
            have hN9 := Lib.hid HS10.out.2.2.2
            clear hbb hb11 hb12 g11 g112 g12 RW TXW HRB2 HS10 HB10
            go_wp2
            refine bodyPost_ret (v := .tuple #[.agg #[.slice A10 N c10, .slice Ja 64 Jc, .slice Ra 64 Rc, .slice (some ⟨g5, 0, none⟩) 64 c5, .int .u64 (tm : Int), .int .i64 (i : Int), .int .u64 (X : Int)], .int .i64 0]) (by simp [results, Tryz.results53, go_sem, t0, t1, t2, t3, t4, t5, t6]) rfl ⟨A10, c10, ins key.data.toList (⟨1, A, c, text, 0⟩ : RC) L, ⟨Ja, Jc, Ra, Rc, some ⟨g5, 0, none⟩, c5, tm, i, X⟩, ?_, FIN.out, B12.out⟩
            first | rw [hx, ← hN9.out] | rw [← hN9.out]
            try rfl
end
end Go.Proofs.YtmogoopkjkdkgaaGreat.Fol
