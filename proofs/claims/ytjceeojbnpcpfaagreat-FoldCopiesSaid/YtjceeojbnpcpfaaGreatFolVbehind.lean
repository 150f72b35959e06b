/- The document's fold: Apply, up to what an event changes. -/
import Derived.Test.YtjceeojbnpcpfaaGreatFolU0
import Derived.Test.YtjceeojbnpcpfaaGreatEvRef
import Derived.StillTailTactics
namespace Go.Proofs.YtjceeojbnpcpfaaGreat.Fol
open Go Go.RowKit Go.Proofs.YtjceeojbnpcpfaaGreat.Words Go.Proofs.YtjceeojbnpcpfaaGreat.Enc Go.Proofs.YtjceeojbnpcpfaaGreat.Q Go.Proofs.YtjceeojbnpcpfaaGreat.Evt Go.Proofs.YtjceeojbnpcpfaaGreat.Facts
set_option linter.unusedVariables false
set_option linter.unusedSimpArgs false

theorem sees_of_V {w : World} {S : List Nat} {A : Option Addr} {l : List UInt8} (h : SeesV w S A (cs l)) : Sees w A l.length l :=
  ⟨rfl, fun hn => by
    obtain ⟨b, o, hA, _, hc⟩ := h (fun e => by rw [← cs_length, e] at hn; simp at hn)
    exact ⟨b, o, hA, fun j u hu => hc j _ (cs_get hu)⟩⟩
theorem info64f : (Tryz.prog.info? 29).map (fun i => (i.zero, i.size, i.bytes)) = some (some (.int .u64 0), 1, 8) := by kernel_rfl
section
variable {i sq tm kd : Nat} {key : ByteArray} {A : Option Addr} {n c num : Nat} {node : Int} {S : List Nat} {La : Option Addr} {lc : Nat} {L : List (Key × RC)} {h : RH} {F : Fo} {text : List UInt8}
set_option maxRecDepth 100000 in
set_option maxHeartbeats 8000000 in
theorem refApply_behind (w : World) (r : RefAt w S La lc L h F) (ok : Ok F) (hr : Right ⟨(i : Int), sq, tm, kd, key, text, num, node⟩) (hq : num < 18446744073709551616) (hs : SeesV w S A (cs text)) (hnt : n = text.length) (hS : ∀ x ∈ S, x < w.heap.size) (hn : n ≤ 1000000000) (hL : L.length ≤ 1000000)
    (hfit : (⟨(i : Int), sq, tm, kd, key, text, num, node⟩ : Ev).Fit) (hkl : key.size ≤ 9223372036854775807) (hXt : decide (cmpS h.T (h.W : Int) tm (i : Int) < 0) = false) :
    Calls Tryz.prog 9 #[.agg (rv La L.length lc h), .agg #[.int .i64 (i : Int), .int .u64 (sq : Int), .int .u64 (tm : Int), .int .u8 (kd : Int), .string key, .slice A n c, .float .f64 num, .int .i64 node]] w fun e' w' => ∃ La' lc' L' h', e' = .returned (.tuple #[.agg (rv La' (List.length (α := Key × RC) L') lc' h'), .int .i64 (applyE F ⟨(i : Int), sq, tm, kd, key, text, num, node⟩ : Int)]) ∧ RefAt w' S La' lc' L' h' (applyF F ⟨(i : Int), sq, tm, kd, key, text, num, node⟩) ∧ Below w.heap.size w w' := by
  obtain ⟨ev, hev⟩ : ∃ ev : Ev, ev = ⟨(i : Int), sq, tm, kd, key, text, num, node⟩ := ⟨_, rfl⟩
  rw [← hev] at hr hfit ⊢
  have hval : ev.val A n c = .agg #[.int .i64 (i : Int), .int .u64 (sq : Int), .int .u64 (tm : Int), .int .u8 (kd : Int), .string key, .slice A n c, .float .f64 num, .int .i64 node] := by rw [hev]; rfl
  have htx : ev.text = text := by rw [hev]
  have hi : i < 64 := by have := hr.w2; rw [hev] at this; simp only at this; omega
  have hi2 : (i : Int) < 64 := by omega
  have h0 : rightE ev = 0 := (right_iff ev).2 hr
  have hAE : applyE F ev = if ¬ behind F ev then 10 else if sq ≠ F.H.getD i 0 + 1 then 9 else 0 := by
    unfold applyE
    rw [h0, hev]
    rfl
  have hsee : Sees w A n text := by rw [hnt]; exact sees_of_V hs
  have RT := Lib.hid (fun (W : World) => (by
    have := refRight_any ev A n c W hfit (by rw [htx]; exact hnt) (by rw [htx, ← hnt]; omega) (by rw [hev]; exact hkl)
    rw [hval, h0] at this
    exact this : Calls Tryz.prog 20 #[.agg #[.int .i64 (i : Int), .int .u64 (sq : Int), .int .u64 (tm : Int), .int .u8 (kd : Int), .string key, .slice A n c, .float .f64 num, .int .i64 node]] W fun e' w' => e' = .returned (.int .i64 0) ∧ Below W.heap.size W w'))
  have AT : ∀ W, Calls Tryz.prog 22 #[.agg #[.int .i64 (i : Int), .int .u64 (sq : Int), .int .u64 (tm : Int), .int .u8 (kd : Int), .string key, .slice A n c, .float .f64 num, .int .i64 node]] W fun e' w' => e' = .returned (.agg #[.int .u64 (tm : Int), .int .i64 (i : Int)]) ∧ Below W.heap.size W w' := fun W => by
    have := refAt_any ev A n c W
    rw [hval] at this
    rw [hev] at this
    exact this
  obtain ⟨n', hnl⟩ : ∃ n', n' = L.length := ⟨_, rfl⟩
  obtain ⟨Ja, Jc, Ra, Rc, Ha, Hc, T0, W0, M0⟩ := h
  have hrT := r.T
  have hrW := r.W
  have hrM := r.M
  simp only at hrT hrW hrM
  obtain ⟨X, hX⟩ : ∃ X, X = decide (cmpS T0 (W0 : Int) tm (i : Int) < 0) := ⟨_, rfl⟩
  have HXV := Lib.hid (show X = false from hX.trans hXt)
  have AH : ∀ W, Calls Tryz.prog 21 #[.agg #[.int .u64 (T0 : Int), .int .i64 (W0 : Int)], .agg #[.int .u64 (tm : Int), .int .i64 (i : Int)]] W fun e' w' => e' = .returned (.bool X) ∧ Below W.heap.size W w' := fun W => by
    rw [hX]
    exact ahead_any T0 (W0 : Int) tm (i : Int) W
  have hbeh : behind F ev ↔ X = true := by
    unfold behind
    rw [hX, decide_eq_true_eq, cmpS_lt, hrT, hrW, hev]
  have hHl : F.H.length = 64 := ok.h
  have hHne : Vec.us F.H ≠ [] := fun e => by have := congrArg List.length e; rw [Vec.us_length, hHl] at this; simp at this
  obtain ⟨hb, ho, hHa, hHS, hHc⟩ := r.H hHne
  simp only at hHa
  subst hHa
  obtain ⟨h0H, hh0⟩ : ∃ h0, h0 = F.H.getD i 0 := ⟨_, rfl⟩
  have hHget : (Vec.us F.H)[i]? = some (.int .u64 (h0H : Int)) := by
    rw [hh0]
    unfold Vec.us
    rw [List.getElem?_map, List.getElem?_eq_getElem (by rw [hHl]; exact hi), List.getD_eq_getElem?_getD, List.getElem?_eq_getElem (by rw [hHl]; exact hi)]
    rfl
  have hh63 : h0H < 9223372036854775808 := by
    rw [hh0]
    have hl : i < F.H.length := by rw [hHl]; exact hi
    have : F.H.getD i 0 ∈ F.H := by rw [List.getD_eq_getElem?_getD, List.getElem?_eq_getElem hl]; exact List.getElem_mem hl
    exact ok.hs _ this
  have hwr : IntKind.u64.wrap ((h0H : Int) + 1) = (h0H : Int) + 1 := by rw [IntKind.wrap_u64]; omega
  obtain ⟨Y, hY⟩ : ∃ Y, (!decide (sq = h0H + 1)) = Y := ⟨_, rfl⟩
  have hY1 : ((sq : Int) == (h0H : Int) + 1) = !Y := by
    rw [← hY, Bool.not_not]
    by_cases hc : sq = h0H + 1
    · rw [decide_eq_true hc, beq_iff_eq]; omega
    · rw [decide_eq_false hc, beq_eq_false_iff_ne]; omega
  have hY2 : decide ((sq : Int) = (h0H : Int) + 1) = !Y := by
    rw [← hY, Bool.not_not]
    exact decide_eq_decide.2 (by omega)
  have hY3 : decide (sq = h0H + 1) = !Y := by rw [← hY, Bool.not_not]
  have hAE2 : applyE F ev = if X then (if Y then 9 else 0) else 10 := by
    rw [hAE, ← hh0]
    cases X with
    | false => simp [hbeh]
    | true =>
      rw [if_neg (by simp [hbeh])]
      cases Y with
      | true => rw [if_pos (by simpa using hY3)]; rfl
      | false => rw [if_neg (by simpa using hY3)]; rfl
  obtain ⟨XE, hXE⟩ : ∃ XE, XE = applyE F ev := ⟨_, rfl⟩
  obtain ⟨FF, hFF⟩ : ∃ FF, FF = applyF F ev := ⟨_, rfl⟩
  rw [← hXE, ← hFF]
  rw [← hXE] at hAE2
  have SAME : XE ≠ 0 → FF = F := fun hne => by rw [hFF]; unfold applyF; rw [← hXE, if_neg hne]
  have TAKEN : XE = 0 → FF = { change F ev with H := F.H.set i sq, time := tm, wr := i, mark := hashL F.mark (evL ev) } := fun he => by
    rw [hFF]; unfold applyF taken; rw [← hXE, if_pos he, hev]; rfl
  have BX := Lib.hid (fun (W : World) hW => boxesT (rv La n' lc ⟨Ja, Jc, Ra, Rc, some ⟨hb, ho, none⟩, Hc, T0, W0, M0⟩) #[.int .i64 (i : Int), .int .u64 (sq : Int), .int .u64 (tm : Int), .int .u8 (kd : Int), .string key, .slice A n c, .float .f64 num, .int .i64 node] zrv 33 38 33 w W hW)
  unfold rv zrv at BX
  rw [← hnl]
  unfold rv
  simp only at BX ⊢
  obtain ⟨B, hBe⟩ : ∃ B, B = w.heap.size := ⟨_, rfl⟩
  have HHC := Lib.hid (fun (W : World) (hW : Below w.heap.size w W) => (by
    obtain ⟨b', o', hA', _, hc'⟩ := (r.H.below hW) hHne
    simp only at hA'
    injection hA' with hA'
    injection hA' with h1 h2
    subst h1; subst h2
    exact hc' i _ hHget : W.cell? ⟨hb, ho + i, none⟩ = some (.int .u64 (h0H : Int))))
  have EN := Lib.hid (fun (W : World) (hW : Below w.heap.size w W) => (by
    have := refEncode_any ev A n c W (by rw [htx]; exact hsee.below hW) (by rw [hev]; exact hq) hr
    rw [hval] at this
    exact this : Calls Tryz.prog 23 #[.agg #[.int .i64 (i : Int), .int .u64 (sq : Int), .int .u64 (tm : Int), .int .u8 (kd : Int), .string key, .slice A n c, .float .f64 num, .int .i64 node]] W (Made.New W.heap.size (evL ev).length (evL ev) W)))
  have HLEN := Lib.hid (evL_len hr)
  obtain ⟨i0, hi0, hz, hsz, hby⟩ := info_parts info64f
  have HAE := Lib.hid hAE2
  have HSAME := Lib.hid SAME
  have HTAKEN := Lib.hid TAKEN
  have HR := Lib.hid r
  have HSS := Lib.hid hS
  have HSEE := Lib.hid hs
  have HNT := Lib.hid (And.intro hnt htx)
  have HRIGHT := Lib.hid (And.intro hr hfit)
  have HEV := Lib.hid (And.intro hev hval)
  have HN := Lib.hid hnl
  have HB := Lib.hid hBe
  have HRT := Lib.hid (And.intro hrT (And.intro hrW hrM))
  have HOK := Lib.hid ok
  clear hXt
  clear SAME TAKEN hAE2 hAE hbeh hX hXE hFF r hs hsee hr hfit hval htx hev h0 hS hnl hrT hrW hrM hHl hHne hHS hHc hHget hh0 hY hnt hkl ok
  go_enter Tryz.func9, Tryz.ntmps9
  go_wp2_with fail
  refine (RT.out _).mono ?_
  rintro e' w1 ⟨rfl, hb1⟩
  obtain ⟨b1, g0, g1, g2, z1⟩ := BX.out w1 (by simpa using hb1)
  rw [← hBe] at g0 g1 g2 z1
  have HC := Lib.hid (fun (W : World) (hW : Below w1.drew.heap.size w1.drew W) => (⟨box8 ((hW.block (B + 1) (by show B + 1 < w1.heap.size; omega)).trans g1), (by
    have hc := rv_cells (h := ⟨Ja, Jc, Ra, Rc, some ⟨hb, ho, none⟩, Hc, T0, W0, M0⟩) ((hW.block B (by show B < w1.heap.size; omega)).trans g0)
    exact ⟨hc.2.2.2.2.1, hc.2.2.2.2.2.1⟩), AT W, AH W⟩ :
    (W.cell? ⟨B + 1, 0, none⟩ = some (.int .i64 (i : Int)) ∧ W.cell? ⟨B + 1, 1, none⟩ = some (.int .u64 (sq : Int)) ∧ W.cell? ⟨B + 1, 2, none⟩ = some (.int .u64 (tm : Int)) ∧ W.cell? ⟨B + 1, 3, none⟩ = some (.int .u8 (kd : Int)) ∧ W.cell? ⟨B + 1, 4, none⟩ = some (.string key) ∧ W.cell? ⟨B + 1, 5, none⟩ = some (.slice A n c) ∧ W.cell? ⟨B + 1, 6, none⟩ = some (.float .f64 num) ∧ W.cell? ⟨B + 1, 7, none⟩ = some (.int .i64 node)) ∧
    (W.cell? ⟨B, 4, none⟩ = some (.int .u64 (T0 : Int)) ∧ W.cell? ⟨B, 5, none⟩ = some (.int .i64 (W0 : Int))) ∧
    Calls Tryz.prog 22 #[.agg #[.int .i64 (i : Int), .int .u64 (sq : Int), .int .u64 (tm : Int), .int .u8 (kd : Int), .string key, .slice A n c, .float .f64 num, .int .i64 node]] W (fun e' w' => e' = .returned (.agg #[.int .u64 (tm : Int), .int .i64 (i : Int)]) ∧ Below W.heap.size W w') ∧
    Calls Tryz.prog 21 #[.agg #[.int .u64 (T0 : Int), .int .i64 (W0 : Int)], .agg #[.int .u64 (tm : Int), .int .i64 (i : Int)]] W (fun e' w' => e' = .returned (.bool X) ∧ Below W.heap.size W w')))
  have G1 := Lib.hid (And.intro g0 (And.intro g1 (And.intro g2 z1)))
  have B1 := Lib.hid b1
  have HAT := Lib.hid AT
  clear g0 g1 g2 b1 hb1 AT AH z1
  go_wp2_with fail
  rw [← HB.out]
  clear hBe
  refine Facts.wp_region_preds (n := 150) (by kernel_rfl) (by kernel_rfl) rfl [Facts.Pred.is (Value.pointer (some ⟨B, 4, none⟩)), Facts.Pred.is (Value.agg #[.int .u64 (T0 : Int), .int .i64 (W0 : Int)]), Facts.Pred.is (Value.agg #[.int .i64 (i : Int), .int .u64 (sq : Int), .int .u64 (tm : Int), .int .u8 (kd : Int), .string key, .slice A n c, .float .f64 num, .int .i64 node]), Facts.Pred.is (Value.agg #[.int .u64 (tm : Int), .int .i64 (i : Int)]), Facts.Pred.is (Value.bool X), Facts.Pred.is (Value.bool (!X))] ?_ ?_
  · refine ⟨?_, ?_, ?_, ?_, ?_, ?_, trivial⟩
    · refine Facts.step_is (Value.pointer (some ⟨B, 4, none⟩)) fun a W hR hold hnew => ?_
      have f2 : a.tmps.getD 2 undef = Value.pointer (some ⟨B, 0, none⟩) := hold 2 (by kernel_rfl)
      refine ⟨Facts.wanted_free rfl, ?_, fun _ => rfl⟩
      simp [go_sem, Act.eval, f2]
    · refine Facts.step_is (Value.agg #[.int .u64 (T0 : Int), .int .i64 (W0 : Int)]) fun a W hR hold hnew => ?_
      have f19 : a.tmps.getD 19 undef = Value.pointer (some ⟨B, 4, none⟩) := hnew 0 19 (by kernel_rfl)
      obtain ⟨s4, s5⟩ := (HC.out W hR).2.1
      refine ⟨Facts.wanted_free rfl, ?_, fun _ => rfl⟩
      simp [go_sem, Act.eval, f19, s4, s5]
    · refine Facts.step_is (Value.agg #[.int .i64 (i : Int), .int .u64 (sq : Int), .int .u64 (tm : Int), .int .u8 (kd : Int), .string key, .slice A n c, .float .f64 num, .int .i64 node]) fun a W hR hold hnew => ?_
      have f3 : a.tmps.getD 3 undef = Value.pointer (some ⟨B + 1, 0, none⟩) := hold 3 (by kernel_rfl)
      obtain ⟨k0, k1, k2, k3, k4, k5, k6, k7⟩ := (HC.out W hR).1
      refine ⟨Facts.wanted_free rfl, ?_, fun _ => rfl⟩
      simp [go_sem, Act.eval, f3, k0, k1, k2, k3, k4, k5, k6, k7]
    · -- 3: Op.call { value (Operand.func 22), args := #[t21], argTypes 
      refine Facts.step_call fun a W hR hold hnew => ?_
      have f21 : a.tmps.getD 21 undef = Value.agg #[.int .i64 (i : Int), .int .u64 (sq : Int), .int .u64 (tm : Int), .int .u8 (kd : Int), .string key, .slice A n c, .float .f64 num, .int .i64 node] := hnew 2 21 (by kernel_rfl)
      refine ⟨Facts.wanted_free rfl, 22, #[Value.agg #[.int .i64 (i : Int), .int .u64 (sq : Int), .int .u64 (tm : Int), .int .u8 (kd : Int), .string key, .slice A n c, .float .f64 num, .int .i64 node]], by simp [go_sem, Act.eval, f21], ?_⟩
      refine ((HC.out W hR).2.2.1).mono ?_
      rintro e' w7 ⟨rfl, hb7⟩
      exact ⟨_, rfl, hb7, rfl⟩
    · -- 4: Op.call { value (Operand.func 21), args := #[t20, t22], argT
      refine Facts.step_call fun a W hR hold hnew => ?_
      have f20 : a.tmps.getD 20 undef = Value.agg #[.int .u64 (T0 : Int), .int .i64 (W0 : Int)] := hnew 1 20 (by kernel_rfl); have f22 : a.tmps.getD 22 undef = Value.agg #[.int .u64 (tm : Int), .int .i64 (i : Int)] := hnew 3 22 (by kernel_rfl)
      refine ⟨Facts.wanted_free rfl, 21, #[Value.agg #[.int .u64 (T0 : Int), .int .i64 (W0 : Int)], Value.agg #[.int .u64 (tm : Int), .int .i64 (i : Int)]], by simp [go_sem, Act.eval, f20, f22], ?_⟩
      refine ((HC.out W hR).2.2.2).mono ?_
      rintro e' w7 ⟨rfl, hb7⟩
      exact ⟨_, rfl, hb7, rfl⟩
    · refine Facts.step_is (Value.bool (!X)) fun a W hR hold hnew => ?_
      have f23 : a.tmps.getD 23 undef = Value.bool X := hnew 4 23 (by kernel_rfl)
      refine ⟨Facts.wanted_free rfl, ?_, fun _ => rfl⟩
      simp [go_sem, Act.eval, f23]
  · intro a w3 hR' hsize hdef hnew hold
    have f2 : a.tmps.getD 2 undef = Value.pointer (some ⟨B, 0, none⟩) := hold 2 (not_dst (by kernel_rfl))
    have f3 : a.tmps.getD 3 undef = Value.pointer (some ⟨B + 1, 0, none⟩) := hold 3 (not_dst (by kernel_rfl))
    have f4 : a.tmps.getD 4 undef = Value.pointer (some ⟨B + 1 + 1, 0, none⟩) := hold 4 (not_dst (by kernel_rfl))
    have f5 : a.tmps.getD 5 undef = Value.int .i64 0 := hold 5 (not_dst (by kernel_rfl))
    have f24 : a.tmps.getD 24 undef = Value.bool (!X) := hnew 5 24 (by kernel_rfl)
    obtain ⟨tm, df⟩ := a
    simp only [] at hdef hsize f2 f3 f4 f5 f24
    have hlit : tm = #[tm.getD 0 undef, tm.getD 1 undef, tm.getD 2 undef, tm.getD 3 undef, tm.getD 4 undef, tm.getD 5 undef, tm.getD 6 undef, tm.getD 7 undef, tm.getD 8 undef, tm.getD 9 undef, tm.getD 10 undef, tm.getD 11 undef, tm.getD 12 undef, tm.getD 13 undef, tm.getD 14 undef, tm.getD 15 undef, tm.getD 16 undef, tm.getD 17 undef, tm.getD 18 undef, tm.getD 19 undef, tm.getD 20 undef, tm.getD 21 undef, tm.getD 22 undef, tm.getD 23 undef, tm.getD 24 undef, tm.getD 25 undef, tm.getD 26 undef, tm.getD 27 undef, tm.getD 28 undef, tm.getD 29 undef, tm.getD 30 undef, tm.getD 31 undef, tm.getD 32 undef, tm.getD 33 undef, tm.getD 34 undef, tm.getD 35 undef, tm.getD 36 undef, tm.getD 37 undef, tm.getD 38 undef, tm.getD 39 undef, tm.getD 40 undef, tm.getD 41 undef, tm.getD 42 undef, tm.getD 43 undef, tm.getD 44 undef, tm.getD 45 undef, tm.getD 46 undef, tm.getD 47 undef, tm.getD 48 undef, tm.getD 49 undef, tm.getD 50 undef, tm.getD 51 undef, tm.getD 52 undef, tm.getD 53 undef, tm.getD 54 undef, tm.getD 55 undef, tm.getD 56 undef, tm.getD 57 undef, tm.getD 58 undef, tm.getD 59 undef, tm.getD 60 undef, tm.getD 61 undef, tm.getD 62 undef, tm.getD 63 undef, tm.getD 64 undef, tm.getD 65 undef, tm.getD 66 undef, tm.getD 67 undef, tm.getD 68 undef, tm.getD 69 undef, tm.getD 70 undef, tm.getD 71 undef, tm.getD 72 undef, tm.getD 73 undef, tm.getD 74 undef, tm.getD 75 undef, tm.getD 76 undef, tm.getD 77 undef, tm.getD 78 undef, tm.getD 79 undef, tm.getD 80 undef, tm.getD 81 undef, tm.getD 82 undef, tm.getD 83 undef, tm.getD 84 undef, tm.getD 85 undef, tm.getD 86 undef, tm.getD 87 undef, tm.getD 88 undef, tm.getD 89 undef, tm.getD 90 undef, tm.getD 91 undef, tm.getD 92 undef, tm.getD 93 undef, tm.getD 94 undef, tm.getD 95 undef, tm.getD 96 undef, tm.getD 97 undef, tm.getD 98 undef, tm.getD 99 undef, tm.getD 100 undef, tm.getD 101 undef, tm.getD 102 undef, tm.getD 103 undef, tm.getD 104 undef, tm.getD 105 undef, tm.getD 106 undef, tm.getD 107 undef, tm.getD 108 undef, tm.getD 109 undef, tm.getD 110 undef, tm.getD 111 undef, tm.getD 112 undef, tm.getD 113 undef, tm.getD 114 undef, tm.getD 115 undef, tm.getD 116 undef, tm.getD 117 undef, tm.getD 118 undef, tm.getD 119 undef, tm.getD 120 undef, tm.getD 121 undef, tm.getD 122 undef, tm.getD 123 undef, tm.getD 124 undef, tm.getD 125 undef, tm.getD 126 undef, tm.getD 127 undef, tm.getD 128 undef, tm.getD 129 undef, tm.getD 130 undef, tm.getD 131 undef, tm.getD 132 undef, tm.getD 133 undef, tm.getD 134 undef, tm.getD 135 undef, tm.getD 136 undef, tm.getD 137 undef, tm.getD 138 undef, tm.getD 139 undef, tm.getD 140 undef, tm.getD 141 undef, tm.getD 142 undef, tm.getD 143 undef, tm.getD 144 undef, tm.getD 145 undef, tm.getD 146 undef, tm.getD 147 undef, tm.getD 148 undef, tm.getD 149 undef] := (Facts.array_lit tm hsize).trans rfl
    rw [f2, f3, f4, f5, f24] at hlit
    clear f2 f3 f4 f5 f24 hsize hnew hold
    generalize tm.getD 0 undef = x0 at hlit
    generalize tm.getD 1 undef = x1 at hlit
    generalize tm.getD 6 undef = x6 at hlit
    generalize tm.getD 7 undef = x7 at hlit
    generalize tm.getD 8 undef = x8 at hlit
    generalize tm.getD 9 undef = x9 at hlit
    generalize tm.getD 10 undef = x10 at hlit
    generalize tm.getD 11 undef = x11 at hlit
    generalize tm.getD 12 undef = x12 at hlit
    generalize tm.getD 13 undef = x13 at hlit
    generalize tm.getD 14 undef = x14 at hlit
    generalize tm.getD 15 undef = x15 at hlit
    generalize tm.getD 16 undef = x16 at hlit
    generalize tm.getD 17 undef = x17 at hlit
    generalize tm.getD 18 undef = x18 at hlit
    generalize tm.getD 19 undef = x19 at hlit
    generalize tm.getD 20 undef = x20 at hlit
    generalize tm.getD 21 undef = x21 at hlit
    generalize tm.getD 22 undef = x22 at hlit
    generalize tm.getD 23 undef = x23 at hlit
    generalize tm.getD 25 undef = x25 at hlit
    generalize tm.getD 26 undef = x26 at hlit
    generalize tm.getD 27 undef = x27 at hlit
    generalize tm.getD 28 undef = x28 at hlit
    generalize tm.getD 29 undef = x29 at hlit
    generalize tm.getD 30 undef = x30 at hlit
    generalize tm.getD 31 undef = x31 at hlit
    generalize tm.getD 32 undef = x32 at hlit
    generalize tm.getD 33 undef = x33 at hlit
    generalize tm.getD 34 undef = x34 at hlit
    generalize tm.getD 35 undef = x35 at hlit
    generalize tm.getD 36 undef = x36 at hlit
    generalize tm.getD 37 undef = x37 at hlit
    generalize tm.getD 38 undef = x38 at hlit
    generalize tm.getD 39 undef = x39 at hlit
    generalize tm.getD 40 undef = x40 at hlit
    generalize tm.getD 41 undef = x41 at hlit
    generalize tm.getD 42 undef = x42 at hlit
    generalize tm.getD 43 undef = x43 at hlit
    generalize tm.getD 44 undef = x44 at hlit
    generalize tm.getD 45 undef = x45 at hlit
    generalize tm.getD 46 undef = x46 at hlit
    generalize tm.getD 47 undef = x47 at hlit
    generalize tm.getD 48 undef = x48 at hlit
    generalize tm.getD 49 undef = x49 at hlit
    generalize tm.getD 50 undef = x50 at hlit
    generalize tm.getD 51 undef = x51 at hlit
    generalize tm.getD 52 undef = x52 at hlit
    generalize tm.getD 53 undef = x53 at hlit
    generalize tm.getD 54 undef = x54 at hlit
    generalize tm.getD 55 undef = x55 at hlit
    generalize tm.getD 56 undef = x56 at hlit
    generalize tm.getD 57 undef = x57 at hlit
    generalize tm.getD 58 undef = x58 at hlit
    generalize tm.getD 59 undef = x59 at hlit
    generalize tm.getD 60 undef = x60 at hlit
    generalize tm.getD 61 undef = x61 at hlit
    generalize tm.getD 62 undef = x62 at hlit
    generalize tm.getD 63 undef = x63 at hlit
    generalize tm.getD 64 undef = x64 at hlit
    generalize tm.getD 65 undef = x65 at hlit
    generalize tm.getD 66 undef = x66 at hlit
    generalize tm.getD 67 undef = x67 at hlit
    generalize tm.getD 68 undef = x68 at hlit
    generalize tm.getD 69 undef = x69 at hlit
    generalize tm.getD 70 undef = x70 at hlit
    generalize tm.getD 71 undef = x71 at hlit
    generalize tm.getD 72 undef = x72 at hlit
    generalize tm.getD 73 undef = x73 at hlit
    generalize tm.getD 74 undef = x74 at hlit
    generalize tm.getD 75 undef = x75 at hlit
    generalize tm.getD 76 undef = x76 at hlit
    generalize tm.getD 77 undef = x77 at hlit
    generalize tm.getD 78 undef = x78 at hlit
    generalize tm.getD 79 undef = x79 at hlit
    generalize tm.getD 80 undef = x80 at hlit
    generalize tm.getD 81 undef = x81 at hlit
    generalize tm.getD 82 undef = x82 at hlit
    generalize tm.getD 83 undef = x83 at hlit
    generalize tm.getD 84 undef = x84 at hlit
    generalize tm.getD 85 undef = x85 at hlit
    generalize tm.getD 86 undef = x86 at hlit
    generalize tm.getD 87 undef = x87 at hlit
    generalize tm.getD 88 undef = x88 at hlit
    generalize tm.getD 89 undef = x89 at hlit
    generalize tm.getD 90 undef = x90 at hlit
    generalize tm.getD 91 undef = x91 at hlit
    generalize tm.getD 92 undef = x92 at hlit
    generalize tm.getD 93 undef = x93 at hlit
    generalize tm.getD 94 undef = x94 at hlit
    generalize tm.getD 95 undef = x95 at hlit
    generalize tm.getD 96 undef = x96 at hlit
    generalize tm.getD 97 undef = x97 at hlit
    generalize tm.getD 98 undef = x98 at hlit
    generalize tm.getD 99 undef = x99 at hlit
    generalize tm.getD 100 undef = x100 at hlit
    generalize tm.getD 101 undef = x101 at hlit
    generalize tm.getD 102 undef = x102 at hlit
    generalize tm.getD 103 undef = x103 at hlit
    generalize tm.getD 104 undef = x104 at hlit
    generalize tm.getD 105 undef = x105 at hlit
    generalize tm.getD 106 undef = x106 at hlit
    generalize tm.getD 107 undef = x107 at hlit
    generalize tm.getD 108 undef = x108 at hlit
    generalize tm.getD 109 undef = x109 at hlit
    generalize tm.getD 110 undef = x110 at hlit
    generalize tm.getD 111 undef = x111 at hlit
    generalize tm.getD 112 undef = x112 at hlit
    generalize tm.getD 113 undef = x113 at hlit
    generalize tm.getD 114 undef = x114 at hlit
    generalize tm.getD 115 undef = x115 at hlit
    generalize tm.getD 116 undef = x116 at hlit
    generalize tm.getD 117 undef = x117 at hlit
    generalize tm.getD 118 undef = x118 at hlit
    generalize tm.getD 119 undef = x119 at hlit
    generalize tm.getD 120 undef = x120 at hlit
    generalize tm.getD 121 undef = x121 at hlit
    generalize tm.getD 122 undef = x122 at hlit
    generalize tm.getD 123 undef = x123 at hlit
    generalize tm.getD 124 undef = x124 at hlit
    generalize tm.getD 125 undef = x125 at hlit
    generalize tm.getD 126 undef = x126 at hlit
    generalize tm.getD 127 undef = x127 at hlit
    generalize tm.getD 128 undef = x128 at hlit
    generalize tm.getD 129 undef = x129 at hlit
    generalize tm.getD 130 undef = x130 at hlit
    generalize tm.getD 131 undef = x131 at hlit
    generalize tm.getD 132 undef = x132 at hlit
    generalize tm.getD 133 undef = x133 at hlit
    generalize tm.getD 134 undef = x134 at hlit
    generalize tm.getD 135 undef = x135 at hlit
    generalize tm.getD 136 undef = x136 at hlit
    generalize tm.getD 137 undef = x137 at hlit
    generalize tm.getD 138 undef = x138 at hlit
    generalize tm.getD 139 undef = x139 at hlit
    generalize tm.getD 140 undef = x140 at hlit
    generalize tm.getD 141 undef = x141 at hlit
    generalize tm.getD 142 undef = x142 at hlit
    generalize tm.getD 143 undef = x143 at hlit
    generalize tm.getD 144 undef = x144 at hlit
    generalize tm.getD 145 undef = x145 at hlit
    generalize tm.getD 146 undef = x146 at hlit
    generalize tm.getD 147 undef = x147 at hlit
    generalize tm.getD 148 undef = x148 at hlit
    generalize tm.getD 149 undef = x149 at hlit
    subst hlit
    subst hdef
    try simp only []
    have B3 := Lib.hid (B1.out.trans (((Below.refl _ _).drew.trans hR').mono B1.out.size))
    have z3 : B + 3 ≤ w3.heap.size := Nat.le_trans G1.out.2.2.2 hR'.size
    have G3 := Lib.hid (And.intro ((hR'.block B (by have := G1.out.2.2.2; show B < w1.heap.size; omega)).trans G1.out.1) (And.intro ((hR'.block (B + 1) (by have := G1.out.2.2.2; show B + 1 < w1.heap.size; omega)).trans G1.out.2.1) ((hR'.block (B + 2) (by have := G1.out.2.2.2; show B + 2 < w1.heap.size; omega)).trans G1.out.2.2.1)))
    clear hR'
    have g30 := G3.out.1
    have g32 : w3.heap[B + 1 + 1]? = _ := G3.out.2.2
    cases X with
    | false =>
      have hx : XE = 10 := HAE.out
      go_wp2_with (first
        | (refine wpList_getRow rfl 33 (.tmp 2) rfl B 33 #[.slice La n' lc, .slice Ja 64 Jc, .slice Ra 64 Rc, .slice (some ⟨hb, ho, none⟩) 64 Hc, .int .u64 (T0 : Int), .int .i64 (W0 : Int), .int .u64 (M0 : Int)] (0, 0) _ rfl g30 Tryz.underlying33 rfl (by kernel_rfl) ?_)
        | (refine wpList_putRow rfl 33 (.tmp 4) (.tmp 25) rfl (B + 1 + 1) 33 #[.slice none 0 0, .slice none 0 0, .slice none 0 0, .slice none 0 0, .int .u64 0, .int .i64 0, .int .u64 0] #[.slice La n' lc, .slice Ja 64 Jc, .slice Ra 64 Rc, .slice (some ⟨hb, ho, none⟩) 64 Hc, .int .u64 (T0 : Int), .int .i64 (W0 : Int), .int .u64 (M0 : Int)] rfl rfl g32 (by kernel_rfl) rfl (by simp [Value.oneCell']) ?_))
      intro w6 g7 hb6
      obtain ⟨t0, t1, t2, t3, t4, t5, t6⟩ := rv_cells (h := ⟨Ja, Jc, Ra, Rc, some ⟨hb, ho, none⟩, Hc, T0, W0, M0⟩) g7
      have HB6 := Lib.hid (Below.beside B3.out hb6 B3.out.size (fun x hx => by have := HB.out; simp at hx; omega))
      clear g30 g32 g7 hb6
      go_wp2
      refine bodyPost_ret (v := .tuple #[.agg #[.slice La n' lc, .slice Ja 64 Jc, .slice Ra 64 Rc, .slice (some ⟨hb, ho, none⟩) 64 Hc, .int .u64 (T0 : Int), .int .i64 (W0 : Int), .int .u64 (M0 : Int)], .int .i64 10]) (by simp [results, Tryz.results9, go_sem, t0, t1, t2, t3, t4, t5, t6]) rfl ⟨La, lc, L, ⟨Ja, Jc, Ra, Rc, some ⟨hb, ho, none⟩, Hc, T0, W0, M0⟩, by rw [← HN.out], ?_, HB6.out⟩
      rw [HSAME.out (by omega)]
      exact HR.out.below HB6.out
    | true =>
      exact absurd HXV.out (by decide)
end
end Go.Proofs.YtjceeojbnpcpfaaGreat.Fol
