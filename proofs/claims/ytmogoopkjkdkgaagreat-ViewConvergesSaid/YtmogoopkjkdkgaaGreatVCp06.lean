/- Places: At, Compare, the document's Ahead. Package fold: what is told of a fold by its struct alone; hash. Package fold: New, Cell. Package fold: Cell, and what an event changes. -/
import Derived.WalkLawsBesides
import Derived.Laws.Cells
import Derived.StillTailTactics
import Derived.Test.YtmogoopkjkdkgaaGreatVCp01
import Derived.Test.YtmogoopkjkdkgaaGreatVCp02
import Derived.Test.YtmogoopkjkdkgaaGreatVCp04
import Derived.Test.YtmogoopkjkdkgaaGreatVCp05
namespace Go.Proofs.YtmogoopkjkdkgaaGreat.Evt
open Go Go.RowKit Go.Proofs.YtmogoopkjkdkgaaGreat.Words Go.Proofs.YtmogoopkjkdkgaaGreat.Enc Go.Proofs.YtmogoopkjkdkgaaGreat.Q
set_option linter.unusedVariables false

def spotV (t : Nat) (wr : Int) : Value := .agg #[.int .u64 (t : Int), .int .i64 wr]

set_option maxRecDepth 100000 in
theorem at_any (e : Ev) (A : Option Addr) (n c : Nat) (w : World) :
    Calls Tryz.prog 47 #[e.val A n c] w fun e' w' => e' = .returned (spotV e.time e.writer) ∧ Below w.heap.size w w' := by
  unfold Ev.val spotV
  go_enter Tryz.func47, Tryz.ntmps47
  go_wp2
  exact bodyPost_ret (v := .agg #[.int .u64 (e.time : Int), .int .i64 e.writer]) (by simp [results, Tryz.results47, go_sem]) rfl ⟨rfl, ((Below.refl _ _).alloc (Nat.le_refl _) _).alloc (by simp) _⟩
set_option maxRecDepth 100000 in
theorem refAt_any (e : Ev) (A : Option Addr) (n c : Nat) (w : World) :
    Calls Tryz.prog 41 #[e.val A n c] w fun e' w' => e' = .returned (spotV e.time e.writer) ∧ Below w.heap.size w w' := by
  unfold Ev.val spotV
  go_enter Tryz.func41, Tryz.ntmps41
  go_wp2
  exact bodyPost_ret (v := .agg #[.int .u64 (e.time : Int), .int .i64 e.writer]) (by simp [results, Tryz.results41, go_sem]) rfl ⟨rfl, ((Below.refl _ _).alloc (Nat.le_refl _) _).alloc (by simp) _⟩

theorem nanU_any (x : Int) (w : World) : Calls Tryz.prog 106 #[.int .u64 x] w fun e' w' => e' = .returned (.bool false) ∧ w' = w := by
  go_enter Tryz.func106, Tryz.ntmps106
  go_wp2
  go_ret
  simp
theorem nanI_any (x : Int) (w : World) : Calls Tryz.prog 107 #[.int .i64 x] w fun e' w' => e' = .returned (.bool false) ∧ w' = w := by
  go_enter Tryz.func107, Tryz.ntmps107
  go_wp2
  go_ret
  simp
/-- How two numbers stand. -/
def cmpI (a b : Int) : Int := if a < b then -1 else if b < a then 1 else 0
set_option maxRecDepth 100000 in
theorem cmpU_any (a b : Int) (w : World) : Calls Tryz.prog 83 #[.int .u64 a, .int .u64 b] w fun e' w' => e' = .returned (.int .i64 (cmpI a b)) ∧ w' = w := by
  obtain ⟨r, hr⟩ : ∃ r, r = cmpI a b := ⟨_, rfl⟩
  rw [← hr]
  have HR := Lib.hid hr
  clear hr
  go_enter Tryz.func83, Tryz.ntmps83
  go_wp2_with fail
  refine (nanU_any _ _).mono ?_
  rintro e w ⟨rfl, rfl⟩
  go_wp2_with fail
  refine (nanU_any _ _).mono ?_
  rintro e w ⟨rfl, rfl⟩
  go_wp2
  all_goals
    go_ret
    refine ⟨ret_int ?_, rfl⟩
    rw [HR.out]
    unfold cmpI
    repeat' split
    all_goals omega
set_option maxRecDepth 100000 in
theorem cmpI_any (a b : Int) (w : World) : Calls Tryz.prog 84 #[.int .i64 a, .int .i64 b] w fun e' w' => e' = .returned (.int .i64 (cmpI a b)) ∧ w' = w := by
  obtain ⟨r, hr⟩ : ∃ r, r = cmpI a b := ⟨_, rfl⟩
  rw [← hr]
  have HR := Lib.hid hr
  clear hr
  go_enter Tryz.func84, Tryz.ntmps84
  go_wp2_with fail
  refine (nanI_any _ _).mono ?_
  rintro e w ⟨rfl, rfl⟩
  go_wp2_with fail
  refine (nanI_any _ _).mono ?_
  rintro e w ⟨rfl, rfl⟩
  go_wp2
  all_goals
    go_ret
    refine ⟨ret_int ?_, rfl⟩
    rw [HR.out]
    unfold cmpI
    repeat' split
    all_goals omega
set_option maxRecDepth 100000 in
theorem or_any (x y : Int) (g : Nat) (w : World) (h0 : w.cell? ⟨g, 0, none⟩ = some (.int .i64 x)) (h1 : w.cell? ⟨g, 1, none⟩ = some (.int .i64 y)) :
    Calls Tryz.prog 82 #[.slice (some ⟨g, 0, none⟩) 2 2] w fun e' w' => e' = .returned (.int .i64 (if x = 0 then y else x)) ∧ w' = w := by
  obtain ⟨r, hr⟩ : ∃ r, r = (if x = 0 then y else x) := ⟨_, rfl⟩
  rw [← hr]
  have HR := Lib.hid hr
  clear hr
  go_enter Tryz.func82, Tryz.ntmps82
  go_wp2
  go_loop [8] (fun i => i = .int .i64 0 ∨ (i = .int .i64 1 ∧ x = 0) ∨ (i = .int .i64 2 ∧ x = 0 ∧ y = 0)) (fun i => 2 - (intOf i).toNat)
  case atStart => exact .inl rfl
  case round =>
    rcases hrel with rfl | ⟨rfl, h⟩ | ⟨rfl, h, h'⟩
    · by_cases hx : x = 0
      · have hx' : (x == 0) = true := by simp [hx]
        have HX := Lib.hid hx
        clear hx
        go_wp2
        go_round
        case rel => exact .inr (.inl ⟨rfl, HX.out⟩)
        case measure => simp [intOf]
      · have hx' : (x == 0) = false := by rw [beq_eq_false_iff_ne]; exact hx
        have HX := Lib.hid hx
        clear hx
        go_wp2
        go_ret
        exact ⟨by rw [HR.out, if_neg HX.out]; rfl, rfl⟩
    · have HX := Lib.hid h
      clear h
      by_cases hx : y = 0
      · have hx' : (y == 0) = true := by simp [hx]
        have HY := Lib.hid hx
        clear hx
        go_wp2
        go_round
        case rel => exact .inr (.inr ⟨rfl, HX.out, HY.out⟩)
        case measure => simp [intOf]
      · have hx' : (y == 0) = false := by rw [beq_eq_false_iff_ne]; exact hx
        have HY := Lib.hid hx
        clear hx
        go_wp2
        go_ret
        exact ⟨by rw [HR.out, if_pos HX.out]; rfl, rfl⟩
    · have HX := Lib.hid h
      have HY := Lib.hid h'
      clear h h'
      go_wp2
      go_ret
      exact ⟨by rw [HR.out, if_pos HX.out, HY.out]; rfl, rfl⟩

/-- How two places stand. -/
def cmpS (t1 : Nat) (w1 : Int) (t2 : Nat) (w2 : Int) : Int := if cmpI t1 t2 = 0 then cmpI w1 w2 else cmpI t1 t2

/-- Two numbers in a row of their own. -/
def pairPred (x y : Int) : Facts.Pred := ⟨fun v w => ∃ g, v = .slice (some ⟨g, 0, none⟩) 2 2 ∧ w.cell? ⟨g, 0, none⟩ = some (.int .i64 x) ∧ w.cell? ⟨g, 1, none⟩ = some (.int .i64 y),
  fun _ w w' ⟨g, h, h0, h1⟩ hb => ⟨g, h, by rw [hb.cell (World.block_lt_of_cell? _ _ h0)]; exact h0, by rw [hb.cell (World.block_lt_of_cell? _ _ h1)]; exact h1⟩⟩

set_option maxRecDepth 100000 in
theorem compare_any (t1 : Nat) (w1 : Int) (t2 : Nat) (w2 : Int) (w : World) :
    Calls Tryz.prog 46 #[spotV t1 w1, spotV t2 w2] w fun e' w' => e' = .returned (.int .i64 (cmpS t1 w1 t2 w2)) ∧ Below w.heap.size w w' := by
  unfold spotV
  have hc : ∀ W, Below ((w.alloc (.cells #[.int .u64 (t1 : Int), .int .i64 w1] 58)).alloc (.cells #[.int .u64 (t2 : Int), .int .i64 w2] 58)).drew.heap.size ((w.alloc (.cells #[.int .u64 (t1 : Int), .int .i64 w1] 58)).alloc (.cells #[.int .u64 (t2 : Int), .int .i64 w2] 58)).drew W →
      W.cell? ⟨w.heap.size, 0, none⟩ = some (.int .u64 (t1 : Int)) ∧ W.cell? ⟨w.heap.size, 1, none⟩ = some (.int .i64 w1) ∧ W.cell? ⟨w.heap.size + 1, 0, none⟩ = some (.int .u64 (t2 : Int)) ∧ W.cell? ⟨w.heap.size + 1, 1, none⟩ = some (.int .i64 w2) := by
    intro W hW
    refine ⟨?_, ?_, ?_, ?_⟩ <;> (rw [hW.cell (by simp <;> omega)]; simp)
  have HC := Lib.hid hc
  clear hc
  go_enter Tryz.func46, Tryz.ntmps46
  go_wp2_with fail
  refine Facts.wp_region_preds (n := 17) (by kernel_rfl) (by kernel_rfl) rfl [Facts.Pred.is (Value.pointer (some ⟨w.heap.size, 0, none⟩)), Facts.Pred.is (Value.int .u64 (t1 : Int)), Facts.Pred.is (Value.pointer (some ⟨w.heap.size + 1, 0, none⟩)), Facts.Pred.is (Value.int .u64 (t2 : Int)), Facts.Pred.is (Value.int .i64 (cmpI t1 t2)), Facts.Pred.is (Value.pointer (some ⟨w.heap.size, 1, none⟩)), Facts.Pred.is (Value.int .i64 w1), Facts.Pred.is (Value.pointer (some ⟨w.heap.size + 1, 1, none⟩)), Facts.Pred.is (Value.int .i64 w2), Facts.Pred.is (Value.int .i64 (cmpI w1 w2)), pairPred (cmpI t1 t2) (cmpI w1 w2), Facts.Pred.is (Value.int .i64 (cmpS t1 w1 t2 w2)), Facts.Pred.is (Value.int .i64 (cmpS t1 w1 t2 w2))] ?_ ?_
  · refine ⟨?_, ?_, ?_, ?_, ?_, ?_, ?_, ?_, ?_, ?_, ?_, ?_, ?_, trivial⟩
    · refine Facts.step_is (Value.pointer (some ⟨w.heap.size, 0, none⟩)) fun a W hR hold hnew => ?_
      have f2 : a.tmps.getD 2 undef = Value.pointer (some ⟨w.heap.size, 0, none⟩) := hold 2 (by kernel_rfl)
      refine ⟨Facts.wanted_free rfl, ?_, fun _ => rfl⟩
      simp [go_sem, Act.eval, f2]
    · refine Facts.step_is (Value.int .u64 (t1 : Int)) fun a W hR hold hnew => ?_
      have f5 : a.tmps.getD 5 undef = Value.pointer (some ⟨w.heap.size, 0, none⟩) := hnew 0 5 (by kernel_rfl)
      obtain ⟨q0, q1, q2, q3⟩ := HC.out W hR
      refine ⟨Facts.wanted_free rfl, ?_, fun _ => rfl⟩
      simp [go_sem, Act.eval, f5, q0]
    · refine Facts.step_is (Value.pointer (some ⟨w.heap.size + 1, 0, none⟩)) fun a W hR hold hnew => ?_
      have f3 : a.tmps.getD 3 undef = Value.pointer (some ⟨w.heap.size + 1, 0, none⟩) := hold 3 (by kernel_rfl)
      refine ⟨Facts.wanted_free rfl, ?_, fun _ => rfl⟩
      simp [go_sem, Act.eval, f3]
    · refine Facts.step_is (Value.int .u64 (t2 : Int)) fun a W hR hold hnew => ?_
      have f7 : a.tmps.getD 7 undef = Value.pointer (some ⟨w.heap.size + 1, 0, none⟩) := hnew 2 7 (by kernel_rfl)
      obtain ⟨q0, q1, q2, q3⟩ := HC.out W hR
      refine ⟨Facts.wanted_free rfl, ?_, fun _ => rfl⟩
      simp [go_sem, Act.eval, f7, q2]
    · -- 4: Op.call { value (Operand.func 40), args := #[t6, t8], argTyp
      refine Facts.step_call fun a W hR hold hnew => ?_
      have f6 : a.tmps.getD 6 undef = Value.int .u64 (t1 : Int) := hnew 1 6 (by kernel_rfl); have f8 : a.tmps.getD 8 undef = Value.int .u64 (t2 : Int) := hnew 3 8 (by kernel_rfl)
      refine ⟨Facts.wanted_free rfl, 83, #[Value.int .u64 (t1 : Int), Value.int .u64 (t2 : Int)], by simp [go_sem, Act.eval, f6, f8], ?_⟩
      refine (cmpU_any _ _ W).mono ?_
      rintro e w' ⟨rfl, rfl⟩
      exact ⟨_, rfl, Below.refl _ _, rfl⟩
    · refine Facts.step_is (Value.pointer (some ⟨w.heap.size, 1, none⟩)) fun a W hR hold hnew => ?_
      have f2 : a.tmps.getD 2 undef = Value.pointer (some ⟨w.heap.size, 0, none⟩) := hold 2 (by kernel_rfl)
      refine ⟨Facts.wanted_free rfl, ?_, fun _ => rfl⟩
      simp [go_sem, Act.eval, f2]
    · refine Facts.step_is (Value.int .i64 w1) fun a W hR hold hnew => ?_
      have f10 : a.tmps.getD 10 undef = Value.pointer (some ⟨w.heap.size, 1, none⟩) := hnew 5 10 (by kernel_rfl)
      obtain ⟨q0, q1, q2, q3⟩ := HC.out W hR
      refine ⟨Facts.wanted_free rfl, ?_, fun _ => rfl⟩
      simp [go_sem, Act.eval, f10, q1]
    · refine Facts.step_is (Value.pointer (some ⟨w.heap.size + 1, 1, none⟩)) fun a W hR hold hnew => ?_
      have f3 : a.tmps.getD 3 undef = Value.pointer (some ⟨w.heap.size + 1, 0, none⟩) := hold 3 (by kernel_rfl)
      refine ⟨Facts.wanted_free rfl, ?_, fun _ => rfl⟩
      simp [go_sem, Act.eval, f3]
    · refine Facts.step_is (Value.int .i64 w2) fun a W hR hold hnew => ?_
      have f12 : a.tmps.getD 12 undef = Value.pointer (some ⟨w.heap.size + 1, 1, none⟩) := hnew 7 12 (by kernel_rfl)
      obtain ⟨q0, q1, q2, q3⟩ := HC.out W hR
      refine ⟨Facts.wanted_free rfl, ?_, fun _ => rfl⟩
      simp [go_sem, Act.eval, f12, q3]
    · -- 9: Op.call { value (Operand.func 41), args := #[t11, t13], argT
      refine Facts.step_call fun a W hR hold hnew => ?_
      have f11 : a.tmps.getD 11 undef = Value.int .i64 w1 := hnew 6 11 (by kernel_rfl); have f13 : a.tmps.getD 13 undef = Value.int .i64 w2 := hnew 8 13 (by kernel_rfl)
      refine ⟨Facts.wanted_free rfl, 84, #[Value.int .i64 w1, Value.int .i64 w2], by simp [go_sem, Act.eval, f11, f13], ?_⟩
      refine (cmpI_any _ _ W).mono ?_
      rintro e w' ⟨rfl, rfl⟩
      exact ⟨_, rfl, Below.refl _ _, rfl⟩
    · -- 10: Op.buildSlice 85 2 #[(0, t9), (1, t14)]
      refine Facts.step_new fun a W hR hold hnew => ?_
      have f9 : a.tmps.getD 9 undef = Value.int .i64 (cmpI t1 t2) := hnew 4 9 (by kernel_rfl); have f14 : a.tmps.getD 14 undef = Value.int .i64 (cmpI w1 w2) := hnew 9 14 (by kernel_rfl)
      refine ⟨Facts.wanted_free rfl, .slice (some ⟨W.heap.size, 0, none⟩) 2 2, W.alloc (.cells #[.int .i64 (cmpI t1 t2), .int .i64 (cmpI w1 w2)] 3), ?_, (Below.refl _ _).alloc (Nat.le_refl _) _, _, rfl, ?_, ?_⟩
      · rw [Array.getD_eq_getD_getElem?] at f9 f14
        simp [go_sem, Act.eval, f9, f14]
      · simp
      · simp
    · -- 11: Op.call { value (Operand.func 39), args := #[t15], argTypes 
      refine Facts.step_call fun a W hR hold hnew => ?_
      have h15 : ∃ g, a.tmps.getD 15 undef = .slice (some ⟨g, 0, none⟩) 2 2 ∧ W.cell? ⟨g, 0, none⟩ = some (.int .i64 (cmpI t1 t2)) ∧ W.cell? ⟨g, 1, none⟩ = some (.int .i64 (cmpI w1 w2)) := hnew 10 15 (by kernel_rfl)
      obtain ⟨g, f15, k0, k1⟩ := h15
      refine ⟨Facts.wanted_free rfl, 82, #[.slice (some ⟨g, 0, none⟩) 2 2], by simp [go_sem, Act.eval, f15], ?_⟩
      refine (or_any _ _ g W k0 k1).mono ?_
      rintro e w' ⟨rfl, rfl⟩
      exact ⟨_, rfl, Below.refl _ _, rfl⟩
    · refine Facts.step_is (Value.int .i64 (cmpS t1 w1 t2 w2)) fun a W hR hold hnew => ?_
      have f16 : a.tmps.getD 16 undef = Value.int .i64 (cmpS t1 w1 t2 w2) := hnew 11 16 (by kernel_rfl)
      refine ⟨Facts.wanted_free rfl, ?_, fun _ => rfl⟩
      simp [go_sem, Act.eval, f16]
  · intro a w4 hR' hsize hdef hnew hold
    have f4 : a.tmps.getD 4 undef = Value.int .i64 (cmpS t1 w1 t2 w2) := hnew 12 4 (by kernel_rfl)
    obtain ⟨tm, df⟩ := a
    simp only [] at hdef hsize f4
    have hlit : tm = #[tm.getD 0 undef, tm.getD 1 undef, tm.getD 2 undef, tm.getD 3 undef, tm.getD 4 undef, tm.getD 5 undef, tm.getD 6 undef, tm.getD 7 undef, tm.getD 8 undef, tm.getD 9 undef, tm.getD 10 undef, tm.getD 11 undef, tm.getD 12 undef, tm.getD 13 undef, tm.getD 14 undef, tm.getD 15 undef, tm.getD 16 undef] := (Facts.array_lit tm hsize).trans rfl
    rw [f4] at hlit
    clear f4 hsize hnew hold
    generalize tm.getD 0 undef = x0 at hlit
    generalize tm.getD 1 undef = x1 at hlit
    generalize tm.getD 2 undef = x2 at hlit
    generalize tm.getD 3 undef = x3 at hlit
    generalize tm.getD 5 undef = x5 at hlit
    generalize tm.getD 6 undef = x6 at hlit
    generalize tm.getD 7 undef = x7 at hlit
    generalize tm.getD 8 undef = x8 at hlit
    generalize tm.getD 9 undef = x9 at hlit
    generalize tm.getD 10 undef = x10 at hlit
    generalize tm.getD 11 undef = x11 at hlit
    generalize tm.getD 12 undef = x12 at hlit
    generalize tm.getD 13 undef = x13 at hlit
    generalize tm.getD 14 undef = x14 at hlit
    generalize tm.getD 15 undef = x15 at hlit
    generalize tm.getD 16 undef = x16 at hlit
    subst hlit
    subst hdef
    try simp only []
    have b0 : Below w.heap.size w ((w.alloc (.cells #[.int .u64 (t1 : Int), .int .i64 w1] 58)).alloc (.cells #[.int .u64 (t2 : Int), .int .i64 w2] 58)).drew := (((Below.refl _ _).alloc (Nat.le_refl _) _).alloc (by simp) _).drew
    have b1 := b0.trans (hR'.mono b0.size)
    clear hR' b0 HC
    go_wp2
    go_ret
    exact ⟨rfl, b1⟩

theorem cmpS_lt {t1 : Nat} {w1 : Int} {t2 : Nat} {w2 : Int} : cmpS t1 w1 t2 w2 < 0 ↔ t1 < t2 ∨ t1 = t2 ∧ w1 < w2 := by
  unfold cmpS cmpI
  repeat' split
  all_goals omega
theorem cmpS_gt {t1 : Nat} {w1 : Int} {t2 : Nat} {w2 : Int} : 0 < cmpS t1 w1 t2 w2 ↔ t2 < t1 ∨ t2 = t1 ∧ w2 < w1 := by
  unfold cmpS cmpI
  repeat' split
  all_goals omega
set_option maxRecDepth 100000 in
theorem ahead_any (t1 : Nat) (w1 : Int) (t2 : Nat) (w2 : Int) (w : World) :
    Calls Tryz.prog 40 #[spotV t1 w1, spotV t2 w2] w fun e' w' => e' = .returned (.bool (decide (cmpS t1 w1 t2 w2 < 0))) ∧ Below w.heap.size w w' := by
  unfold spotV
  obtain ⟨r, hr⟩ : ∃ r, r = decide (cmpS t1 w1 t2 w2 < 0) := ⟨_, rfl⟩
  rw [← hr]
  have HR := Lib.hid hr
  clear hr
  have fin : ∀ x : Bool, (x = true ↔ t1 < t2 ∨ t1 = t2 ∧ w1 < w2) → Ending.returned (.bool x) = .returned (.bool r) := fun x hx => by
    rw [HR.out]
    congr 2
    rw [Bool.eq_iff_iff, hx, decide_eq_true_eq, cmpS_lt]
  have FIN := Lib.hid fin
  clear fin HR
  by_cases h1 : t1 < t2
  · have h1' : decide (t1 < t2) = true := decide_eq_true h1
    have H := Lib.hid h1
    clear h1
    go_enter Tryz.func40, Tryz.ntmps40
    go_wp2
    go_ret
    have hh := H.out
    exact ⟨FIN.out _ (by simp; omega), ((Below.refl _ _).alloc (Nat.le_refl _) _).alloc (by simp) _⟩
  · have h1' : decide (t1 < t2) = false := decide_eq_false h1
    by_cases h2 : (t1 : Int) = (t2 : Int)
    · have h2' : ((t1 : Int) == (t2 : Int)) = true := by simp [h2]
      have H := Lib.hid (And.intro h1 h2)
      clear h1 h2
      go_enter Tryz.func40, Tryz.ntmps40
      go_wp2
      go_ret
      have hh := H.out
      exact ⟨FIN.out _ (by simp; omega), ((Below.refl _ _).alloc (Nat.le_refl _) _).alloc (by simp) _⟩
    · have h2' : ((t1 : Int) == (t2 : Int)) = false := by rw [beq_eq_false_iff_ne]; exact h2
      have H := Lib.hid (And.intro h1 h2)
      clear h1 h2
      go_enter Tryz.func40, Tryz.ntmps40
      go_wp2
      go_ret
      have hh := H.out
      exact ⟨FIN.out _ (by simp; omega), ((Below.refl _ _).alloc (Nat.le_refl _) _).alloc (by simp) _⟩
end Go.Proofs.YtmogoopkjkdkgaaGreat.Evt
namespace Go.Proofs.YtmogoopkjkdkgaaGreat.Fol
open Go Go.RowKit Go.Proofs.YtmogoopkjkdkgaaGreat.Words Go.Proofs.YtmogoopkjkdkgaaGreat.Enc Go.Proofs.YtmogoopkjkdkgaaGreat.Q Go.Proofs.YtmogoopkjkdkgaaGreat.Evt
set_option linter.unusedVariables false
set_option linter.unusedSimpArgs false

theorem hashL_lt {m : Nat} (p : List UInt8) (h : m < 18446744073709551616) : hashL m p < 18446744073709551616 := by
  unfold hashL
  induction p generalizing m with
  | nil => exact h
  | cons b r ih => exact ih (Nat.mod_lt _ (by omega))
theorem hashL_snoc (m : Nat) (p : List UInt8) (b : UInt8) : hashL m (p ++ [b]) = ((hashL m p ^^^ b.toNat) * 1099511628211) % 18446744073709551616 := by
  unfold hashL
  rw [List.foldl_append, List.foldl_cons, List.foldl_nil]
theorem hash_step {m b : Nat} (hm : m < 18446744073709551616) (hb : b < 256) : IntKind.u64.wrap (bits .xor .u64 (m : Int) (IntKind.u64.wrap (b : Int)) * 1099511628211) = (((m ^^^ b) * 1099511628211 % 18446744073709551616 : Nat) : Int) := by
  rw [wrap_in b (by omega), u64_xor_nat m b hm (by omega), IntKind.wrap_u64]
  generalize m ^^^ b = x
  omega

set_option maxRecDepth 100000 in
theorem hash_any (m : Nat) (A : Option Addr) (n c : Nat) (l : List UInt8) (w : World) (hs : Sees w A n l) (hm : m < 18446744073709551616) (hn : n ≤ 1000000000000) :
    Calls Tryz.prog 50 #[.int .u64 (m : Int), .slice A n c] w fun e w' => e = .returned (.int .u64 (hashL m l : Int)) ∧ w' = w := by
  have HS := Lib.hid hs
  have hl := hs.1
  clear hs
  go_enter Tryz.func50, Tryz.ntmps50
  go_wp2_with fail
  go_loopw [0, 6, 9, 10, 11, 12, 13, 14, 15, 16, 17, 18] (fun a0 a6 a9 a10 a11 a12 a13 a14 a15 a16 a17 a18 wr => ∃ (j X : Nat), a9 = .int .i64 (j : Int) ∧ a0 = .int .u64 (X : Int) ∧ j ≤ n ∧ Hid (X = hashL m (l.take j)) ∧ X < 18446744073709551616 ∧ w = wr) (fun a0 a6 a9 a10 a11 a12 a13 a14 a15 a16 a17 a18 _ => n - (intOf a9).toNat)
  case atStart => exact ⟨0, m, rfl, rfl, by omega, Lib.hid (by simp [hashL]), hm, rfl⟩
  case round =>
    obtain ⟨j, X, rfl, rfl, hj, HX, hX, rfl⟩ := hrel
    by_cases h1 : j < n
    · obtain ⟨b, o, rfl, hc⟩ := HS.out.2 (by omega)
      have hc1 := hc j l[j] (List.getElem?_eq_getElem (by omega))
      obtain ⟨u, hu⟩ : ∃ u, l[j] = u := ⟨_, rfl⟩
      rw [hu] at hc1
      have HST := Lib.hid (hash_step (m := X) (b := u.toNat) hX u.toNat_lt)
      have HN := Lib.hid (show (X ^^^ u.toNat) * 1099511628211 % 18446744073709551616 = hashL m (l.take (j + 1)) by
        rw [List.take_add_one, List.getElem?_eq_getElem (by omega), hu]
        simp only [Option.toList_some]
        rw [hashL_snoc, HX.out])
      have HY : (X ^^^ u.toNat) * 1099511628211 % 18446744073709551616 < 18446744073709551616 := Nat.mod_lt _ (by omega)
      have hd : decide ((j : Int) < (n : Int)) = true := decide_eq_true (by omega)
      obtain ⟨U, hU⟩ : ∃ U, u.toNat = U := ⟨_, rfl⟩
      rw [hU] at hc1 HST HN HY
      obtain ⟨Y, hY⟩ : ∃ Y, (X ^^^ U) * 1099511628211 % 18446744073709551616 = Y := ⟨_, rfl⟩
      rw [hY] at HST HN HY
      have hst := HST.out
      clear hc hu hU hY
      go_wp2
      go_roundw
      case rel => exact ⟨j + 1, Y, by simp, rfl, by omega, HN, HY, by trivial⟩
      case measure => simp [intOf]; omega
    · have hd : decide ((j : Int) < (n : Int)) = false := decide_eq_false (by omega)
      obtain rfl : j = n := by omega
      have HE := Lib.hid (show X = hashL m l by rw [HX.out, List.take_of_length_le (by omega)])
      go_wp2
      go_ret
      exact ⟨by rw [HE.out]; rfl, rfl⟩

section
variable {S : List Nat} {d mb : Nat} {F : Fo}
set_option maxRecDepth 100000 in
theorem mark_any (w : World) (h : FoldAt w S d mb F) : Calls Tryz.prog 38 #[.pointer (some ⟨d, 0, none⟩)] w fun e w' => e = .returned (.int .u64 (F.mark : Int)) ∧ w' = w := by
  obtain ⟨_, _, c3⟩ := h.cT
  go_enter Tryz.func38, Tryz.ntmps38
  go_wp2
  go_ret
  exact ⟨rfl, rfl⟩
end

section
variable {P : Program} {ops : Array Oper} {rest : List Oper} {op : Oper} {a : Act} {w : World} {Q : Exit → Act → World → Prop}
/-- A row out of the middle of a block, where the operation has a guard that says yes. -/
theorem wpList_load_midG (hw : Region.wanted op (yielded ops a.tmps) = true) (ty : TypeId) (x : Operand) (ho : op.op = .load ty x)
    (b o : Nat) (hx : a.eval x = .pointer (some ⟨b, o, none⟩)) (cs : List Value) (d : TypeDesc) (hc : w.rangeAt b o cs)
    (hu : P.underlying ty = some d) (hd : d.isRow = true) (hi : (P.info? ty).map (·.size) = some cs.length)
    (h : wpList P ops Q rest (a.put op.dst (.agg cs.toArray)) w) : wpList P ops Q (op :: rest) a w := by
  unfold wpList
  rw [if_pos hw]
  exact .inl (wp_load_mid ty x ho b o hx cs d hc hu hd hi h)
end

/-- Sixty-four truths as cells. -/
def bs (l : List Bool) : List Value := l.map .bool
def inSet (l : List Bool) (n : Int) : Bool := decide (0 ≤ n ∧ n < 64) && l.getD n.toNat false
set_option maxRecDepth 100000 in
theorem has_any (l : List Bool) (n : Int) (w : World) (hl : l.length = 64) :
    Calls Tryz.prog 113 #[.agg (bs l).toArray, .int .i64 n] w fun e w' => e = .returned (.bool (inSet l n)) ∧ Below w.heap.size w w' := by
  by_cases h0 : 0 ≤ n
  · by_cases h1 : n < 64
    · have hb : inSet l n = l.getD n.toNat false := by unfold inSet; rw [decide_eq_true ⟨h0, h1⟩, Bool.true_and]
      rw [hb]
      obtain ⟨k, rfl⟩ := Int.eq_ofNat_of_zero_le h0
      have hk : k < 64 := by omega
      have hc : (w.alloc (.cells (bs l).toArray 80)).cell? ⟨w.heap.size, k, none⟩ = some (.bool (l.getD k false)) := by
        rw [cell_of_row _ w.heap.size _ _ _ (0, 0) (heap_alloc_new w _)]
        simp [bs, List.getD, hl, hk]
      rw [Int.toNat_natCast]
      generalize l.getD k false = x at hc ⊢
      have hal : Below w.heap.size w (w.alloc (.cells (bs l).toArray 80)) := (Below.refl _ _).alloc (Nat.le_refl _) _
      have d0 : decide ((0 : Int) ≤ (k : Int)) = true := decide_eq_true h0
      have d1 : decide ((k : Int) < 64) = true := decide_eq_true h1
      generalize bs l = q at hc hal ⊢
      clear hl
      go_enter Tryz.func113, Tryz.ntmps113
      go_wp2
      go_ret
      exact ⟨rfl, hal⟩
    · have hb : inSet l n = false := by unfold inSet; rw [decide_eq_false (fun h => h1 h.2), Bool.false_and]
      rw [hb]
      have hal : Below w.heap.size w (w.alloc (.cells (bs l).toArray 80)) := (Below.refl _ _).alloc (Nat.le_refl _) _
      generalize bs l = q at hal ⊢
      clear hl hb
      go_enter Tryz.func113, Tryz.ntmps113
      go_wp2
      go_ret
      exact ⟨rfl, hal⟩
  · have hb : inSet l n = false := by unfold inSet; rw [decide_eq_false (fun h => h0 h.1), Bool.false_and]
    rw [hb]
    have hal : Below w.heap.size w (w.alloc (.cells (bs l).toArray 80)) := (Below.refl _ _).alloc (Nat.le_refl _) _
    generalize bs l = q at hal ⊢
    clear hl hb
    go_enter Tryz.func113, Tryz.ntmps113
    go_wp2
    go_ret
    exact ⟨rfl, hal⟩

section
variable {S : List Nat} {d mb : Nat} {F : Fo}
theorem FoldAt.rangeJ {w : World} (h : FoldAt w S d mb F) : w.rangeAt d 1 (bs F.J) := by
  intro j v hv
  have hj : j < 64 := by have := (List.getElem?_eq_some_iff.1 hv).1; simpa [bs, h.ok.j] using this
  rw [h.cJ hj, ← hv]
  simp [bs, List.getD, h.ok.j, hj]
theorem FoldAt.rangeR {w : World} (h : FoldAt w S d mb F) : w.rangeAt d 65 (bs F.R) := by
  intro j v hv
  have hj : j < 64 := by have := (List.getElem?_eq_some_iff.1 hv).1; simpa [bs, h.ok.r] using this
  rw [h.cR hj, ← hv]
  simp [bs, List.getD, h.ok.r, hj]
set_option maxRecDepth 100000 in
theorem joined_any (n : Int) (w : World) (h : FoldAt w S d mb F) : Calls Tryz.prog 101 #[.pointer (some ⟨d, 0, none⟩), .int .i64 n] w fun e w' => e = .returned (.bool (inSet F.J n)) ∧ Below w.heap.size w w' := by
  have hr := h.rangeJ
  have hl := h.ok.j
  have hh := has_any F.J n w hl
  have hlen : (bs F.J).length = 64 := by simp [bs, hl]
  clear h hl
  generalize inSet F.J n = x at hh ⊢
  generalize bs F.J = q at hh hr hlen
  have HH := Lib.hid hh
  clear hh
  have hi : (Tryz.prog.info? 80).map (·.size) = some q.length := by rw [hlen]; kernel_rfl
  clear hlen
  go_enter Tryz.func101, Tryz.ntmps101
  go_wp2_with (first | (refine wpList_load_midG (by rfl) 80 (.tmp 10) rfl d 1 rfl q _ hr Tryz.underlying80 rfl hi ?_))
  refine HH.out.mono ?_
  rintro e w1 ⟨rfl, hb⟩
  go_wp2
  go_ret
  exact ⟨rfl, hb⟩
set_option maxRecDepth 100000 in
theorem retired_any (n : Int) (w : World) (h : FoldAt w S d mb F) : Calls Tryz.prog 102 #[.pointer (some ⟨d, 0, none⟩), .int .i64 n] w fun e w' => e = .returned (.bool (inSet F.R n)) ∧ Below w.heap.size w w' := by
  have hr := h.rangeR
  have hl := h.ok.r
  have hh := has_any F.R n w hl
  have hlen : (bs F.R).length = 64 := by simp [bs, hl]
  clear h hl
  generalize inSet F.R n = x at hh ⊢
  generalize bs F.R = q at hh hr hlen
  have HH := Lib.hid hh
  clear hh
  have hi : (Tryz.prog.info? 80).map (·.size) = some q.length := by rw [hlen]; kernel_rfl
  clear hlen
  go_enter Tryz.func102, Tryz.ntmps102
  go_wp2_with (first | (refine wpList_load_midG (by rfl) 80 (.tmp 10) rfl d 65 rfl q _ hr Tryz.underlying80 rfl hi ?_))
  refine HH.out.mono ?_
  rintro e w1 ⟨rfl, hb⟩
  go_wp2
  go_ret
  exact ⟨rfl, hb⟩
def memB (F : Fo) (n : Int) : Bool := inSet F.J n && !inSet F.R n
set_option maxRecDepth 100000 in
theorem member_any (n : Int) (w : World) (h : FoldAt w S d mb F) : Calls Tryz.prog 74 #[.pointer (some ⟨d, 0, none⟩), .int .i64 n] w fun e w' => e = .returned (.bool (memB F n)) ∧ Below w.heap.size w w' := by
  have HJ := Lib.hid (joined_any n w h)
  have HR := Lib.hid (fun W (hb : Below w.heap.size w W) => retired_any n W (h.below hb))
  have hm : memB F n = (inSet F.J n && !inSet F.R n) := rfl
  rw [hm]
  clear h hm
  generalize inSet F.J n = x at HJ ⊢
  generalize inSet F.R n = y at HR ⊢
  go_enter Tryz.func74, Tryz.ntmps74
  go_wp2_with fail
  refine HJ.out.mono ?_
  rintro e w1 ⟨rfl, hb⟩
  cases x with
  | false =>
    go_wp2
    go_ret
    exact ⟨rfl, hb⟩
  | true =>
    go_wp2_with fail
    refine (HR.out w1 hb).mono ?_
    rintro e w2 ⟨rfl, hb2⟩
    cases y <;> (go_wp2; go_ret; exact ⟨rfl, hb.trans (hb2.mono hb.size)⟩)
end
end Go.Proofs.YtmogoopkjkdkgaaGreat.Fol
namespace Go.Proofs.YtmogoopkjkdkgaaGreat.Fol
open Go Go.RowKit Go.Proofs.YtmogoopkjkdkgaaGreat.Words Go.Proofs.YtmogoopkjkdkgaaGreat.Enc Go.Proofs.YtmogoopkjkdkgaaGreat.Q Go.Proofs.YtmogoopkjkdkgaaGreat.Evt
set_option linter.unusedVariables false
set_option linter.unusedSimpArgs false

section
variable {P : Program} {ops : Array Oper} {rest : List Oper} {op : Oper} {a : Act} {w : World} {Q : Exit → Act → World → Prop}
theorem wpList_build2 (hgd : op.guard = none) (t : TypeId) (i j : Nat) (x y : Operand) (ho : op.op = .build t #[(i, x), (j, y)]) (vx vy v : Value) (hx : a.eval x = vx) (hy : a.eval y = vy)
    (hrun : (Instr.build t #[(i, vx), (j, vy)]).run P w = .ok v w) (h : wpList P ops Q rest (a.put op.dst v) w) : wpList P ops Q (op :: rest) a w := by
  refine wpList_plain hgd fun K hK => ?_
  unfold Oper.wp execOp
  simp only [ho, List.map_toArray, List.map_cons, List.map_nil, hx, hy, Sem.run_bind, Sem.run_pure, Result.andThen_ok, hrun]
  exact hK _ _ h
end
theorem ok_new (n : Nat) : Ok (newF n) := by
  refine ⟨List.Pairwise.nil, by simp [newF], by simp [newF], by simp [newF], fun x hx => ?_, by simp [newF], by simp [newF], by simp [newF], fun p hp => (by cases hp), fun p hp => (by cases hp)⟩
  have : x = 0 := by simpa [newF] using hx
  omega
theorem row_new (mb n : Nat) (hn : n < 64) : (row mb (newF n)).setIfInBounds (1 + n) (.bool true) = row mb (newF (n + 1)) := by
  unfold row cells newF
  simp only [List.setIfInBounds_toArray]
  congr 1
  rw [Nat.add_comm 1 n, List.set_cons_succ, List.set_append_left _ _ (by simp; omega)]
  congr 2
  refine List.ext_getElem (by simp) fun i h1 h2 => ?_
  simp only [List.getElem_set, List.getElem_map, List.getElem_range]
  split
  · rename_i e
    subst e
    simp
  · rename_i e
    congr 1
    apply decide_eq_decide.2
    omega
set_option maxRecDepth 100000 in
theorem build_new (b : Nat) (W : World) : (Instr.build 83 #[(0, .map (some b)), (5, .int .u64 14695981039346656037)]).run Tryz.prog W = .ok (.agg (row b (newF 0))) W := by kernel_rfl

set_option maxRecDepth 100000 in
theorem new_any (n : Nat) (hn : n ≤ 64) (w : World) :
    Calls Tryz.prog 15 #[.int .i64 (n : Int)] w fun e w' => e = .returned (.pointer (some ⟨w.heap.size + 1, 0, none⟩)) ∧
      FoldAt w' [w.heap.size + 1, w.heap.size] (w.heap.size + 1) w.heap.size (newF n) ∧ Below w.heap.size w w' := by
  have hmk := run_makeMap (P := Tryz.prog) 78 w
  have hmin : min (n : Int) 64 = (n : Int) := by omega
  obtain ⟨R, hR⟩ : ∃ R : Nat → Array Value, ∀ j, row w.heap.size (newF j) = R j := ⟨_, fun _ => rfl⟩
  have hrs : ∀ j, (R j).size = 196 := fun j => by rw [← hR]; exact row_size (ok_new j)
  have HST := Lib.hid (fun (j : Nat) (hj : j < 64) => (by rw [← hR, ← hR]; exact row_new w.heap.size j hj : (R j).setIfInBounds (1 + j) (.bool true) = R (j + 1)))
  have hB := Lib.hid (show Below w.heap.size w ((w.alloc (.map #[] 0)).alloc (.cells (R 0) 83)) from ((Below.refl _ _).alloc (Nat.le_refl _) _).alloc (by simp) _)
  have hH := Lib.hid (show ((w.alloc (.map #[] 0)).alloc (.cells (R 0) 83)).heap[w.heap.size + 1]? = some (.cells (R 0) 83 (0, 0)) by
    have := heap_alloc_new (w.alloc (.map #[] 0)) (.cells (R 0) 83)
    simpa using this)
  have hM := Lib.hid (show MapAt ((w.alloc (.map #[] 0)).alloc (.cells (R 0) 83)) w.heap.size [] from (mapAt_made w).kept (Below.heap_alloc _ _ _ (by simp)))
  have hbn := build_new w.heap.size
  rw [hR] at hbn
  have hBN := Lib.hid hbn
  clear hbn
  have hR := Lib.hid hR
  go_enter Tryz.func15, Tryz.ntmps15
  go_wp2_with (first | (refine wpList_build2 rfl 83 0 5 (.tmp 5) (.const (.int .u64 14695981039346656037)) rfl (.map (some w.heap.size)) (.int .u64 14695981039346656037) (.agg (R 0)) rfl rfl (hBN.out _) ?_))
  go_loopw [4, 10] (fun x y wr => ∃ j : Nat, y = .int .i64 (j : Int) ∧ j ≤ n ∧ wr.heap[w.heap.size + 1]? = some (.cells (R j) 83 (0, 0)) ∧ Below w.heap.size w wr ∧ MapAt wr w.heap.size []) (fun x y _ => n - (intOf y).toNat)
  case atStart => exact ⟨0, rfl, by omega, by simpa using hH.out, by simpa using hB.out, by simpa using hM.out⟩
  case round =>
    obtain ⟨j, rfl, hj, hh, hb, hm⟩ := hrel
    by_cases h1 : j < n
    · have hd : decide ((j : Int) < (n : Int)) = true := decide_eq_true (by omega)
      obtain ⟨v, hv⟩ : ∃ v, (R j)[1 + j]? = some v := ⟨_, Array.getElem?_eq_getElem (by rw [hrs]; omega)⟩
      have hc : wr.cell? ⟨w.heap.size + 1, 1 + j, none⟩ = some v := by rw [cell_of_row wr _ _ _ _ _ hh]; exact hv
      have hf : wr.frozen? ⟨w.heap.size + 1, 1 + j, none⟩ = false := frozen_row0 hh
      have hi : (j : Int) < 64 := by omega
      have HH := Lib.hid hh
      have HB := Lib.hid hb
      have HM := Lib.hid hm
      clear hh hb hm hv
      go_wp2
      go_roundw
      case rel =>
        have e := HST.out j (by omega)
        refine ⟨j + 1, by simp, by omega, ?_, Below.beside HB.out ((Beside.refl [w.heap.size + 1] _).setCell (by simp) _) HB.out.size (by simp), HM.out.kept (heapOther (by omega))⟩
        rw [heapSame HH.out, e]
      case measure => simp [intOf]; omega
    · have hd : decide ((j : Int) < (n : Int)) = false := decide_eq_false (by omega)
      obtain rfl : j = n := by omega
      have HH := Lib.hid hh
      have HB := Lib.hid hb
      have HM := Lib.hid hm
      clear hh hb hm
      go_wp2
      go_ret
      refine ⟨rfl, ⟨?_, ⟨[], HM.out, rfl, fun p hp => by cases hp⟩, ok_new _, by omega, by simp, by simp⟩, HB.out⟩
      rw [HH.out, ← hR.out]
end Go.Proofs.YtmogoopkjkdkgaaGreat.Fol
namespace Go.Proofs.YtmogoopkjkdkgaaGreat.Fol
open Go Go.RowKit Go.Proofs.YtmogoopkjkdkgaaGreat.Words Go.Proofs.YtmogoopkjkdkgaaGreat.Enc Go.Proofs.YtmogoopkjkdkgaaGreat.Q Go.Proofs.YtmogoopkjkdkgaaGreat.Evt
set_option linter.unusedVariables false
set_option linter.unusedSimpArgs false

section
variable {w w' : World} {S : List Nat} {d mb : Nat} {F F' : Fo}
/-- The struct has turned, and nothing else. -/
theorem FoldAt.turnRow (h : FoldAt w S d mb F) (hb : Beside [d] w w') (hr : w'.heap[d]? = some (.cells (Fol.row mb F') 83 (0, 0))) (hL : F'.L = F.L) (ok : Ok F') : FoldAt w' S d mb F' := by
  obtain ⟨L, h1, h2, h3⟩ := h.map
  refine ⟨hr, ⟨L, h1.kept (hb.block mb h.lt.2 (by simpa using Ne.symm h.ne)), h2.trans hL.symm, fun p hp => (h3 p hp).beside hb fun x hx => .inl ?_⟩, ok, h.ne, h.dS, h.mS⟩
  rw [List.mem_singleton.1 hx]; exact h.dS
/-- The map has turned, and nothing else. -/
theorem FoldAt.turnMap (h : FoldAt w S d mb F) (hb : Beside [mb] w w') (hr : Fol.row mb F' = Fol.row mb F) {L : List (Key × MC)} (hm : MapAt w' mb L) (hL : mapV MC.cel L = F'.L) (ht : ∀ p ∈ L, TextAt w' S p.2) (ok : Ok F') : FoldAt w' S d mb F' :=
  ⟨by rw [hr]; exact (hb.block d h.lt.1 (by simpa using h.ne)).trans h.row, ⟨L, hm, hL, ht⟩, ok, h.ne, h.dS, h.mS⟩
end
theorem beside_map {w w' : World} {mb : Nat} (h : w.mapTurned w' mb) : Beside [mb] w w' := (Beside.refl _ _).grown h.grown fun k hk => .inl (by injection hk with hk; simp [hk])

end Go.Proofs.YtmogoopkjkdkgaaGreat.Fol
