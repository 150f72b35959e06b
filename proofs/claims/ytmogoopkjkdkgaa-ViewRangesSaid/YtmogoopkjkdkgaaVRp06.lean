/- Places: At, Compare, the document's Ahead. DERIVED: THE SHELF's CONTRACTS AT THIS DUMP, IN PLAIN WORDS (tools/lay-plain.mjs out of 'TryIter.lean', which tools/lay-shelf.mjs wrote): THE SAME DECLARATIONS UNDER THE SAME NAMES: 'import', 'namespace', 'open', 'def', 'theorem' AND NOTHING ELSE: no command of the shelf's: FOR A HAND-IN. Each laying: the table of numbers ('.._ren') and one theorem, a field a fact of the dump's own or the kernel's comparison; each contract: ONE APPLICATION. A struct of eight one-cell fields, by value: opened, and shut. No program. -/
import Derived.Shelf.SlMaps.Clone
import Derived.Ground.SlmcProg
import Derived.Test.YtmogoopkjkdkgaaProg
import Derived.Lib.SmallJoins
import Derived.ShutString
import Derived.WalkLawsBesides
import Derived.Laws.Cover2
import Derived.SizedLaws
import Derived.ChangeSlices
import Derived.Test.YtmogoopkjkdkgaaVRp01
import Derived.Test.YtmogoopkjkdkgaaVRp05
namespace Go.Proofs.Ytmogoopkjkdkgaa.Evt
open Go Go.RowKit Go.Proofs.Ytmogoopkjkdkgaa.Words Go.Proofs.Ytmogoopkjkdkgaa.Enc Go.Proofs.Ytmogoopkjkdkgaa.Q
set_option linter.unusedVariables false

def spotV (t : Nat) (wr : Int) : Value := .agg #[.int .u64 (t : Int), .int .i64 wr]

set_option maxRecDepth 100000 in
theorem at_any (e : Ev) (A : Option Addr) (n c : Nat) (w : World) :
    Calls Try.prog 30 #[e.val A n c] w fun e' w' => e' = .returned (spotV e.time e.writer) ∧ Below w.heap.size w w' := by
  unfold Ev.val spotV
  go_enter Try.func30, Try.ntmps30
  go_wp2
  exact bodyPost_ret (v := .agg #[.int .u64 (e.time : Int), .int .i64 e.writer]) (by simp [results, Try.results30, go_sem]) rfl ⟨rfl, ((Below.refl _ _).alloc (Nat.le_refl _) _).alloc (by simp) _⟩
set_option maxRecDepth 100000 in
theorem refAt_any (e : Ev) (A : Option Addr) (n c : Nat) (w : World) :
    Calls Try.prog 10 #[e.val A n c] w fun e' w' => e' = .returned (spotV e.time e.writer) ∧ Below w.heap.size w w' := by
  unfold Ev.val spotV
  go_enter Try.func10, Try.ntmps10
  go_wp2
  exact bodyPost_ret (v := .agg #[.int .u64 (e.time : Int), .int .i64 e.writer]) (by simp [results, Try.results10, go_sem]) rfl ⟨rfl, ((Below.refl _ _).alloc (Nat.le_refl _) _).alloc (by simp) _⟩

theorem nanU_any (x : Int) (w : World) : Calls Try.prog 56 #[.int .u64 x] w fun e' w' => e' = .returned (.bool false) ∧ w' = w := by
  go_enter Try.func56, Try.ntmps56
  go_wp2
  go_ret
  simp
theorem nanI_any (x : Int) (w : World) : Calls Try.prog 57 #[.int .i64 x] w fun e' w' => e' = .returned (.bool false) ∧ w' = w := by
  go_enter Try.func57, Try.ntmps57
  go_wp2
  go_ret
  simp
/-- How two numbers stand. -/
def cmpI (a b : Int) : Int := if a < b then -1 else if b < a then 1 else 0
set_option maxRecDepth 100000 in
theorem cmpU_any (a b : Int) (w : World) : Calls Try.prog 36 #[.int .u64 a, .int .u64 b] w fun e' w' => e' = .returned (.int .i64 (cmpI a b)) ∧ w' = w := by
  obtain ⟨r, hr⟩ : ∃ r, r = cmpI a b := ⟨_, rfl⟩
  rw [← hr]
  have HR := Lib.hid hr
  clear hr
  go_enter Try.func36, Try.ntmps36
  go_wp2_with fail
  refine (nanU_any _ _).mono ?_
  rintro e w ⟨rfl, rfl⟩
  go_wp2_with fail
  refine (nanU_any _ _).mono ?_
  rintro e w ⟨rfl, rfl⟩
  go_wp2
  all_goals
    go_ret
    refine ⟨ret_int ?_, rfl⟩
    rw [HR.out]
    unfold cmpI
    repeat' split
    all_goals omega
set_option maxRecDepth 100000 in
theorem cmpI_any (a b : Int) (w : World) : Calls Try.prog 37 #[.int .i64 a, .int .i64 b] w fun e' w' => e' = .returned (.int .i64 (cmpI a b)) ∧ w' = w := by
  obtain ⟨r, hr⟩ : ∃ r, r = cmpI a b := ⟨_, rfl⟩
  rw [← hr]
  have HR := Lib.hid hr
  clear hr
  go_enter Try.func37, Try.ntmps37
  go_wp2_with fail
  refine (nanI_any _ _).mono ?_
  rintro e w ⟨rfl, rfl⟩
  go_wp2_with fail
  refine (nanI_any _ _).mono ?_
  rintro e w ⟨rfl, rfl⟩
  go_wp2
  all_goals
    go_ret
    refine ⟨ret_int ?_, rfl⟩
    rw [HR.out]
    unfold cmpI
    repeat' split
    all_goals omega
set_option maxRecDepth 100000 in
theorem or_any (x y : Int) (g : Nat) (w : World) (h0 : w.cell? ⟨g, 0, none⟩ = some (.int .i64 x)) (h1 : w.cell? ⟨g, 1, none⟩ = some (.int .i64 y)) :
    Calls Try.prog 35 #[.slice (some ⟨g, 0, none⟩) 2 2] w fun e' w' => e' = .returned (.int .i64 (if x = 0 then y else x)) ∧ w' = w := by
  obtain ⟨r, hr⟩ : ∃ r, r = (if x = 0 then y else x) := ⟨_, rfl⟩
  rw [← hr]
  have HR := Lib.hid hr
  clear hr
  go_enter Try.func35, Try.ntmps35
  go_wp2
  go_loop [8] (fun i => i = .int .i64 0 ∨ (i = .int .i64 1 ∧ x = 0) ∨ (i = .int .i64 2 ∧ x = 0 ∧ y = 0)) (fun i => 2 - (intOf i).toNat)
  case atStart => exact .inl rfl
  case round =>
    rcases hrel with rfl | ⟨rfl, h⟩ | ⟨rfl, h, h'⟩
    · by_cases hx : x = 0
      · have hx' : (x == 0) = true := by simp [hx]
        have HX := Lib.hid hx
        clear hx
        go_wp2
        go_round
        case rel => exact .inr (.inl ⟨rfl, HX.out⟩)
        case measure => simp [intOf]
      · have hx' : (x == 0) = false := by rw [beq_eq_false_iff_ne]; exact hx
        have HX := Lib.hid hx
        clear hx
        go_wp2
        go_ret
        exact ⟨by rw [HR.out, if_neg HX.out]; rfl, rfl⟩
    · have HX := Lib.hid h
      clear h
      by_cases hx : y = 0
      · have hx' : (y == 0) = true := by simp [hx]
        have HY := Lib.hid hx
        clear hx
        go_wp2
        go_round
        case rel => exact .inr (.inr ⟨rfl, HX.out, HY.out⟩)
        case measure => simp [intOf]
      · have hx' : (y == 0) = false := by rw [beq_eq_false_iff_ne]; exact hx
        have HY := Lib.hid hx
        clear hx
        go_wp2
        go_ret
        exact ⟨by rw [HR.out, if_pos HX.out]; rfl, rfl⟩
    · have HX := Lib.hid h
      have HY := Lib.hid h'
      clear h h'
      go_wp2
      go_ret
      exact ⟨by rw [HR.out, if_pos HX.out, HY.out]; rfl, rfl⟩

/-- How two places stand. -/
def cmpS (t1 : Nat) (w1 : Int) (t2 : Nat) (w2 : Int) : Int := if cmpI t1 t2 = 0 then cmpI w1 w2 else cmpI t1 t2

/-- Two numbers in a row of their own. -/
def pairPred (x y : Int) : Facts.Pred := ⟨fun v w => ∃ g, v = .slice (some ⟨g, 0, none⟩) 2 2 ∧ w.cell? ⟨g, 0, none⟩ = some (.int .i64 x) ∧ w.cell? ⟨g, 1, none⟩ = some (.int .i64 y),
  fun _ w w' ⟨g, h, h0, h1⟩ hb => ⟨g, h, by rw [hb.cell (World.block_lt_of_cell? _ _ h0)]; exact h0, by rw [hb.cell (World.block_lt_of_cell? _ _ h1)]; exact h1⟩⟩

set_option maxRecDepth 100000 in
theorem compare_any (t1 : Nat) (w1 : Int) (t2 : Nat) (w2 : Int) (w : World) :
    Calls Try.prog 20 #[spotV t1 w1, spotV t2 w2] w fun e' w' => e' = .returned (.int .i64 (cmpS t1 w1 t2 w2)) ∧ Below w.heap.size w w' := by
  unfold spotV
  have hc : ∀ W, Below ((w.alloc (.cells #[.int .u64 (t1 : Int), .int .i64 w1] 25)).alloc (.cells #[.int .u64 (t2 : Int), .int .i64 w2] 25)).drew.heap.size ((w.alloc (.cells #[.int .u64 (t1 : Int), .int .i64 w1] 25)).alloc (.cells #[.int .u64 (t2 : Int), .int .i64 w2] 25)).drew W →
      W.cell? ⟨w.heap.size, 0, none⟩ = some (.int .u64 (t1 : Int)) ∧ W.cell? ⟨w.heap.size, 1, none⟩ = some (.int .i64 w1) ∧ W.cell? ⟨w.heap.size + 1, 0, none⟩ = some (.int .u64 (t2 : Int)) ∧ W.cell? ⟨w.heap.size + 1, 1, none⟩ = some (.int .i64 w2) := by
    intro W hW
    refine ⟨?_, ?_, ?_, ?_⟩ <;> (rw [hW.cell (by simp <;> omega)]; simp)
  have HC := Lib.hid hc
  clear hc
  go_enter Try.func20, Try.ntmps20
  go_wp2_with fail
  refine Facts.wp_region_preds (n := 17) (by kernel_rfl) (by kernel_rfl) rfl [Facts.Pred.is (Value.pointer (some ⟨w.heap.size, 0, none⟩)), Facts.Pred.is (Value.int .u64 (t1 : Int)), Facts.Pred.is (Value.pointer (some ⟨w.heap.size + 1, 0, none⟩)), Facts.Pred.is (Value.int .u64 (t2 : Int)), Facts.Pred.is (Value.int .i64 (cmpI t1 t2)), Facts.Pred.is (Value.pointer (some ⟨w.heap.size, 1, none⟩)), Facts.Pred.is (Value.int .i64 w1), Facts.Pred.is (Value.pointer (some ⟨w.heap.size + 1, 1, none⟩)), Facts.Pred.is (Value.int .i64 w2), Facts.Pred.is (Value.int .i64 (cmpI w1 w2)), pairPred (cmpI t1 t2) (cmpI w1 w2), Facts.Pred.is (Value.int .i64 (cmpS t1 w1 t2 w2)), Facts.Pred.is (Value.int .i64 (cmpS t1 w1 t2 w2))] ?_ ?_
  · refine ⟨?_, ?_, ?_, ?_, ?_, ?_, ?_, ?_, ?_, ?_, ?_, ?_, ?_, trivial⟩
    · refine Facts.step_is (Value.pointer (some ⟨w.heap.size, 0, none⟩)) fun a W hR hold hnew => ?_
      have f2 : a.tmps.getD 2 undef = Value.pointer (some ⟨w.heap.size, 0, none⟩) := hold 2 (by kernel_rfl)
      refine ⟨Facts.wanted_free rfl, ?_, fun _ => rfl⟩; simp [go_sem, Act.eval, f2]
    · refine Facts.step_is (Value.int .u64 (t1 : Int)) fun a W hR hold hnew => ?_
      have f5 : a.tmps.getD 5 undef = Value.pointer (some ⟨w.heap.size, 0, none⟩) := hnew 0 5 (by kernel_rfl)
      obtain ⟨q0, q1, q2, q3⟩ := HC.out W hR
      refine ⟨Facts.wanted_free rfl, ?_, fun _ => rfl⟩; simp [go_sem, Act.eval, f5, q0]
    · refine Facts.step_is (Value.pointer (some ⟨w.heap.size + 1, 0, none⟩)) fun a W hR hold hnew => ?_
      have f3 : a.tmps.getD 3 undef = Value.pointer (some ⟨w.heap.size + 1, 0, none⟩) := hold 3 (by kernel_rfl)
      refine ⟨Facts.wanted_free rfl, ?_, fun _ => rfl⟩; simp [go_sem, Act.eval, f3]
    · refine Facts.step_is (Value.int .u64 (t2 : Int)) fun a W hR hold hnew => ?_
      have f7 : a.tmps.getD 7 undef = Value.pointer (some ⟨w.heap.size + 1, 0, none⟩) := hnew 2 7 (by kernel_rfl)
      obtain ⟨q0, q1, q2, q3⟩ := HC.out W hR
      refine ⟨Facts.wanted_free rfl, ?_, fun _ => rfl⟩; simp [go_sem, Act.eval, f7, q2]
    · -- 4: Op.call { value (Operand.func 40), args := #[t6, t8], argTyp
      refine Facts.step_call fun a W hR hold hnew => ?_
      have f6 : a.tmps.getD 6 undef = Value.int .u64 (t1 : Int) := hnew 1 6 (by kernel_rfl); have f8 : a.tmps.getD 8 undef = Value.int .u64 (t2 : Int) := hnew 3 8 (by kernel_rfl)
      refine ⟨Facts.wanted_free rfl, 36, #[Value.int .u64 (t1 : Int), Value.int .u64 (t2 : Int)], by simp [go_sem, Act.eval, f6, f8], ?_⟩
      refine (cmpU_any _ _ W).mono ?_
      rintro e w' ⟨rfl, rfl⟩
      exact ⟨_, rfl, Below.refl _ _, rfl⟩
    · refine Facts.step_is (Value.pointer (some ⟨w.heap.size, 1, none⟩)) fun a W hR hold hnew => ?_
      have f2 : a.tmps.getD 2 undef = Value.pointer (some ⟨w.heap.size, 0, none⟩) := hold 2 (by kernel_rfl)
      refine ⟨Facts.wanted_free rfl, ?_, fun _ => rfl⟩; simp [go_sem, Act.eval, f2]
    · refine Facts.step_is (Value.int .i64 w1) fun a W hR hold hnew => ?_
      have f10 : a.tmps.getD 10 undef = Value.pointer (some ⟨w.heap.size, 1, none⟩) := hnew 5 10 (by kernel_rfl)
      obtain ⟨q0, q1, q2, q3⟩ := HC.out W hR
      refine ⟨Facts.wanted_free rfl, ?_, fun _ => rfl⟩; simp [go_sem, Act.eval, f10, q1]
    · refine Facts.step_is (Value.pointer (some ⟨w.heap.size + 1, 1, none⟩)) fun a W hR hold hnew => ?_
      have f3 : a.tmps.getD 3 undef = Value.pointer (some ⟨w.heap.size + 1, 0, none⟩) := hold 3 (by kernel_rfl)
      refine ⟨Facts.wanted_free rfl, ?_, fun _ => rfl⟩; simp [go_sem, Act.eval, f3]
    · refine Facts.step_is (Value.int .i64 w2) fun a W hR hold hnew => ?_
      have f12 : a.tmps.getD 12 undef = Value.pointer (some ⟨w.heap.size + 1, 1, none⟩) := hnew 7 12 (by kernel_rfl)
      obtain ⟨q0, q1, q2, q3⟩ := HC.out W hR
      refine ⟨Facts.wanted_free rfl, ?_, fun _ => rfl⟩; simp [go_sem, Act.eval, f12, q3]
    · -- 9: Op.call { value (Operand.func 41), args := #[t11, t13], argT
      refine Facts.step_call fun a W hR hold hnew => ?_
      have f11 : a.tmps.getD 11 undef = Value.int .i64 w1 := hnew 6 11 (by kernel_rfl); have f13 : a.tmps.getD 13 undef = Value.int .i64 w2 := hnew 8 13 (by kernel_rfl)
      refine ⟨Facts.wanted_free rfl, 37, #[Value.int .i64 w1, Value.int .i64 w2], by simp [go_sem, Act.eval, f11, f13], ?_⟩
      refine (cmpI_any _ _ W).mono ?_
      rintro e w' ⟨rfl, rfl⟩
      exact ⟨_, rfl, Below.refl _ _, rfl⟩
    · -- 10: Op.buildSlice 85 2 #[(0, t9), (1, t14)]
      refine Facts.step_new fun a W hR hold hnew => ?_
      have f9 : a.tmps.getD 9 undef = Value.int .i64 (cmpI t1 t2) := hnew 4 9 (by kernel_rfl); have f14 : a.tmps.getD 14 undef = Value.int .i64 (cmpI w1 w2) := hnew 9 14 (by kernel_rfl)
      refine ⟨Facts.wanted_free rfl, .slice (some ⟨W.heap.size, 0, none⟩) 2 2, W.alloc (.cells #[.int .i64 (cmpI t1 t2), .int .i64 (cmpI w1 w2)] 3), ?_, (Below.refl _ _).alloc (Nat.le_refl _) _, _, rfl, ?_, ?_⟩
      · rw [Array.getD_eq_getD_getElem?] at f9 f14
        simp [go_sem, Act.eval, f9, f14]
      · simp
      · simp
    · -- 11: Op.call { value (Operand.func 39), args := #[t15], argTypes 
      refine Facts.step_call fun a W hR hold hnew => ?_
      have h15 : ∃ g, a.tmps.getD 15 undef = .slice (some ⟨g, 0, none⟩) 2 2 ∧ W.cell? ⟨g, 0, none⟩ = some (.int .i64 (cmpI t1 t2)) ∧ W.cell? ⟨g, 1, none⟩ = some (.int .i64 (cmpI w1 w2)) := hnew 10 15 (by kernel_rfl)
      obtain ⟨g, f15, k0, k1⟩ := h15
      refine ⟨Facts.wanted_free rfl, 35, #[.slice (some ⟨g, 0, none⟩) 2 2], by simp [go_sem, Act.eval, f15], ?_⟩
      refine (or_any _ _ g W k0 k1).mono ?_
      rintro e w' ⟨rfl, rfl⟩
      exact ⟨_, rfl, Below.refl _ _, rfl⟩
    · refine Facts.step_is (Value.int .i64 (cmpS t1 w1 t2 w2)) fun a W hR hold hnew => ?_
      have f16 : a.tmps.getD 16 undef = Value.int .i64 (cmpS t1 w1 t2 w2) := hnew 11 16 (by kernel_rfl)
      refine ⟨Facts.wanted_free rfl, ?_, fun _ => rfl⟩; simp [go_sem, Act.eval, f16]
  · intro a w4 hR' hsize hdef hnew hold
    have f4 : a.tmps.getD 4 undef = Value.int .i64 (cmpS t1 w1 t2 w2) := hnew 12 4 (by kernel_rfl)
    obtain ⟨tm, df⟩ := a
    simp only [] at hdef hsize f4
    obtain ⟨xq, hxq, hlit⟩ := Facts.lits tm hsize Facts.idx17 Facts.idx17_eq
    rw [hxq] at f4
    simp only [Facts.idx17, List.map_cons, List.map_nil, f4] at hlit
    clear f4 hsize hnew hold hxq
    subst hlit
    subst hdef
    try simp only []
    have b0 : Below w.heap.size w ((w.alloc (.cells #[.int .u64 (t1 : Int), .int .i64 w1] 25)).alloc (.cells #[.int .u64 (t2 : Int), .int .i64 w2] 25)).drew := (((Below.refl _ _).alloc (Nat.le_refl _) _).alloc (by simp) _).drew
    have b1 := b0.trans (hR'.mono b0.size)
    clear hR' b0 HC
    go_wp2
    go_ret
    exact ⟨rfl, b1⟩

theorem cmpS_lt {t1 : Nat} {w1 : Int} {t2 : Nat} {w2 : Int} : cmpS t1 w1 t2 w2 < 0 ↔ t1 < t2 ∨ t1 = t2 ∧ w1 < w2 := by
  unfold cmpS cmpI
  repeat' split
  all_goals omega
theorem cmpS_gt {t1 : Nat} {w1 : Int} {t2 : Nat} {w2 : Int} : 0 < cmpS t1 w1 t2 w2 ↔ t2 < t1 ∨ t2 = t1 ∧ w2 < w1 := by
  unfold cmpS cmpI
  repeat' split
  all_goals omega
set_option maxRecDepth 100000 in
theorem ahead_any (t1 : Nat) (w1 : Int) (t2 : Nat) (w2 : Int) (w : World) :
    Calls Try.prog 11 #[spotV t1 w1, spotV t2 w2] w fun e' w' => e' = .returned (.bool (decide (cmpS t1 w1 t2 w2 < 0))) ∧ Below w.heap.size w w' := by
  unfold spotV
  obtain ⟨r, hr⟩ : ∃ r, r = decide (cmpS t1 w1 t2 w2 < 0) := ⟨_, rfl⟩
  rw [← hr]
  have HR := Lib.hid hr
  clear hr
  have fin : ∀ x : Bool, (x = true ↔ t1 < t2 ∨ t1 = t2 ∧ w1 < w2) → Ending.returned (.bool x) = .returned (.bool r) := fun x hx => by
    rw [HR.out]
    congr 2
    rw [Bool.eq_iff_iff, hx, decide_eq_true_eq, cmpS_lt]
  have FIN := Lib.hid fin
  clear fin HR
  by_cases h1 : t1 < t2
  · have h1' : decide (t1 < t2) = true := decide_eq_true h1
    have H := Lib.hid h1
    clear h1
    go_enter Try.func11, Try.ntmps11
    go_wp2
    go_ret
    have hh := H.out
    exact ⟨FIN.out _ (by simp; omega), ((Below.refl _ _).alloc (Nat.le_refl _) _).alloc (by simp) _⟩
  · have h1' : decide (t1 < t2) = false := decide_eq_false h1
    by_cases h2 : (t1 : Int) = (t2 : Int)
    · have h2' : ((t1 : Int) == (t2 : Int)) = true := by simp [h2]
      have H := Lib.hid (And.intro h1 h2)
      clear h1 h2
      go_enter Try.func11, Try.ntmps11
      go_wp2
      go_ret
      have hh := H.out
      exact ⟨FIN.out _ (by simp; omega), ((Below.refl _ _).alloc (Nat.le_refl _) _).alloc (by simp) _⟩
    · have h2' : ((t1 : Int) == (t2 : Int)) = false := by rw [beq_eq_false_iff_ne]; exact h2
      have H := Lib.hid (And.intro h1 h2)
      clear h1 h2
      go_enter Try.func11, Try.ntmps11
      go_wp2
      go_ret
      have hh := H.out
      exact ⟨FIN.out _ (by simp; omega), ((Below.refl _ _).alloc (Nat.le_refl _) _).alloc (by simp) _⟩
end Go.Proofs.Ytmogoopkjkdkgaa.Evt
namespace Go.Proofs
open Go.Shelf
def Try.clone26_ren : Go.Shelf.Ren := ⟨fun | 5 => 26 | 7 => 41 | n => n, fun | 23 => 62 | 25 => 9 | 3 => 70 | 4 => 4 | 20 => 20 | n => n, fun | n => n⟩
theorem Try.clone26 : Go.Proofs.SlLaysW.n5 Try.prog Try.clone26_ren := {
  mixed := by kernel_rfl
  f5 := ⟨Try.f26.name, by decide, Try.func26.trans (congrArg some (by kernel_rfl))⟩
  f7 := Try.func41.trans (congrArg some (by kernel_rfl))
  t4 := Try.underlying4
  a4 := Try.isAgg4
  z4 := Try.sizeOf4
  v4 := Try.zeroValue4
  t20 := Try.underlying20
  a20 := Try.isAgg20
  z20 := Try.sizeOf20
  v20 := Try.zeroValue20
  t23 := Try.underlying62
  a23 := Try.isAgg62
  z23 := Try.sizeOf62
  v23 := Try.zeroValue62 }
end Go.Proofs
namespace Go.Proofs.Ytmogoopkjkdkgaa.Aggs
open Go Go.ChangeShapes Go.WideShapes Go.ChangeAt Go.Joins Go.Deep Go.RowKit
set_option linter.unusedVariables false
section
variable {H : Type} {enc : TypeId × Value → H} {P : Program} {w : World} {base : Nat} {spare : Nat → Bool} {held : Bool}

theorem trod_float {t : TypeId} {k : FloatKind} {fuel : Nat} {cs : List Value} {x : DataW H × List MemPlace} (ht : P.underlying t = some (.float k)) (h : DataW.trod enc P w base spare held fuel t cs = some x) : ∃ b, cs = [.float k b] ∧ x = (.lit (.float k b), []) ∧ (Lit.float k b).wf = true := by
  cases fuel with
  | zero => simp [DataW.trod] at h
  | succ n =>
    unfold DataW.trod at h
    rw [ht] at h
    split at h <;> simp_all
theorem trod_bool {t : TypeId} {fuel : Nat} {cs : List Value} {x : DataW H × List MemPlace} (ht : P.underlying t = some .bool) (h : DataW.trod enc P w base spare held fuel t cs = some x) : ∃ b, cs = [.bool b] ∧ x = (.lit (.bool b), []) := by
  cases fuel with
  | zero => simp [DataW.trod] at h
  | succ n =>
    unfold DataW.trod at h
    rw [ht] at h
    split at h <;> simp_all

theorem array8 {α : Type} {cs : Array α} (h : cs.size = 8) : ∃ c0 c1 c2 c3 c4 c5 c6 c7, cs = #[c0, c1, c2, c3, c4, c5, c6, c7] := by
  obtain ⟨l⟩ := cs
  match l, h with
  | [c0, c1, c2, c3, c4, c5, c6, c7], _ => exact ⟨c0, c1, c2, c3, c4, c5, c6, c7, rfl⟩
theorem list8 {α : Type} {l : List α} (h : l.length = 8) : ∃ c0 c1 c2 c3 c4 c5 c6 c7, l = [c0, c1, c2, c3, c4, c5, c6, c7] := by
  match l, h with
  | [c0, c1, c2, c3, c4, c5, c6, c7], _ => exact ⟨c0, c1, c2, c3, c4, c5, c6, c7, rfl⟩
theorem open_agg8 {r : Reach} {b0 : Nat} {t : TypeId} {f0 f1 f2 f3 f4 f5 f6 f7 : Field} {v : Value} {d : DataW H} {p : List MemPlace} (hs : P.underlying t = some (.struct #[f0, f1, f2, f3, f4, f5, f6, f7])) (hone : oneCellFields P #[f0, f1, f2, f3, f4, f5, f6, f7] = true) (hC : P.cellsOf t = 8)
    (hv : Value.okWide P w r b0 t v) (h : DataW.Trod enc P w base spare held t v d p) :
    ∃ (v0 v1 v2 v3 v4 v5 v6 v7 : Value) (y0 y1 y2 y3 y4 y5 y6 y7 : DataW H × List MemPlace) (n : Nat), v = .agg #[v0, v1, v2, v3, v4, v5, v6, v7] ∧ d = .agg [y0.1, y1.1, y2.1, y3.1, y4.1, y5.1, y6.1, y7.1] ∧ p = y0.2 ++ (y1.2 ++ (y2.2 ++ (y3.2 ++ (y4.2 ++ (y5.2 ++ (y6.2 ++ (y7.2))))))) ∧
      DataW.trod enc P w base spare held n f0.type [v0] = some y0 ∧ DataW.trod enc P w base spare held n f1.type [v1] = some y1 ∧ DataW.trod enc P w base spare held n f2.type [v2] = some y2 ∧ DataW.trod enc P w base spare held n f3.type [v3] = some y3 ∧ DataW.trod enc P w base spare held n f4.type [v4] = some y4 ∧ DataW.trod enc P w base spare held n f5.type [v5] = some y5 ∧ DataW.trod enc P w base spare held n f6.type [v6] = some y6 ∧ DataW.trod enc P w base spare held n f7.type [v7] = some y7 := by
  obtain ⟨cs, rfl, hsz⟩ := okWide_struct hs hv
  obtain ⟨c0, c1, c2, c3, c4, c5, c6, c7, rfl⟩ := array8 (hsz.trans hC)
  obtain ⟨fuel, hf⟩ := h
  obtain ⟨xs, n, _, hx, hl, hlen, hg⟩ := DataW.trod_struct hs hf
  obtain ⟨y0, y1, y2, y3, y4, y5, y6, y7, rfl⟩ := list8 (hlen.trans rfl)
  obtain ⟨o0, k0⟩ := hone_of hone 0 f0 rfl
  obtain ⟨o1, k1⟩ := hone_of hone 1 f1 rfl
  obtain ⟨o2, k2⟩ := hone_of hone 2 f2 rfl
  obtain ⟨o3, k3⟩ := hone_of hone 3 f3 rfl
  obtain ⟨o4, k4⟩ := hone_of hone 4 f4 rfl
  obtain ⟨o5, k5⟩ := hone_of hone 5 f5 rfl
  obtain ⟨o6, k6⟩ := hone_of hone 6 f6 rfl
  obtain ⟨o7, k7⟩ := hone_of hone 7 f7 rfl
  simp only [Prod.mk.injEq] at hx
  refine ⟨c0, c1, c2, c3, c4, c5, c6, c7, y0, y1, y2, y3, y4, y5, y6, y7, n, rfl, hx.1, by simpa using hx.2, ?_, ?_, ?_, ?_, ?_, ?_, ?_, ?_⟩
  · simpa [Value.cells, o0, k0] using hg 0 f0 rfl
  · simpa [Value.cells, o1, k1] using hg 1 f1 rfl
  · simpa [Value.cells, o2, k2] using hg 2 f2 rfl
  · simpa [Value.cells, o3, k3] using hg 3 f3 rfl
  · simpa [Value.cells, o4, k4] using hg 4 f4 rfl
  · simpa [Value.cells, o5, k5] using hg 5 f5 rfl
  · simpa [Value.cells, o6, k6] using hg 6 f6 rfl
  · simpa [Value.cells, o7, k7] using hg 7 f7 rfl
theorem shut_agg8 {t : TypeId} {f0 f1 f2 f3 f4 f5 f6 f7 : Field} {v0 v1 v2 v3 v4 v5 v6 v7 : Value} {y0 y1 y2 y3 y4 y5 y6 y7 : DataW H × List MemPlace} (hs : P.underlying t = some (.struct #[f0, f1, f2, f3, f4, f5, f6, f7])) (hone : oneCellFields P #[f0, f1, f2, f3, f4, f5, f6, f7] = true) (hC : P.cellsOf t = 8)
    (t0 : ∃ n, DataW.trod enc P w base spare held n f0.type [v0] = some y0) (t1 : ∃ n, DataW.trod enc P w base spare held n f1.type [v1] = some y1) (t2 : ∃ n, DataW.trod enc P w base spare held n f2.type [v2] = some y2) (t3 : ∃ n, DataW.trod enc P w base spare held n f3.type [v3] = some y3) (t4 : ∃ n, DataW.trod enc P w base spare held n f4.type [v4] = some y4) (t5 : ∃ n, DataW.trod enc P w base spare held n f5.type [v5] = some y5) (t6 : ∃ n, DataW.trod enc P w base spare held n f6.type [v6] = some y6) (t7 : ∃ n, DataW.trod enc P w base spare held n f7.type [v7] = some y7) :
    DataW.Trod enc P w base spare held t (.agg #[v0, v1, v2, v3, v4, v5, v6, v7]) (.agg [y0.1, y1.1, y2.1, y3.1, y4.1, y5.1, y6.1, y7.1]) (y0.2 ++ (y1.2 ++ (y2.2 ++ (y3.2 ++ (y4.2 ++ (y5.2 ++ (y6.2 ++ (y7.2)))))))) := by
  obtain ⟨n0, t0⟩ := t0
  obtain ⟨n1, t1⟩ := t1
  obtain ⟨n2, t2⟩ := t2
  obtain ⟨n3, t3⟩ := t3
  obtain ⟨n4, t4⟩ := t4
  obtain ⟨n5, t5⟩ := t5
  obtain ⟨n6, t6⟩ := t6
  obtain ⟨n7, t7⟩ := t7
  obtain ⟨o0, k0⟩ := hone_of hone 0 f0 rfl
  obtain ⟨o1, k1⟩ := hone_of hone 1 f1 rfl
  obtain ⟨o2, k2⟩ := hone_of hone 2 f2 rfl
  obtain ⟨o3, k3⟩ := hone_of hone 3 f3 rfl
  obtain ⟨o4, k4⟩ := hone_of hone 4 f4 rfl
  obtain ⟨o5, k5⟩ := hone_of hone 5 f5 rfl
  obtain ⟨o6, k6⟩ := hone_of hone 6 f6 rfl
  obtain ⟨o7, k7⟩ := hone_of hone 7 f7 rfl
  have u0 := DataW.trod_le (show n0 ≤ n0 + n1 + n2 + n3 + n4 + n5 + n6 + n7 by omega) t0
  have u1 := DataW.trod_le (show n1 ≤ n0 + n1 + n2 + n3 + n4 + n5 + n6 + n7 by omega) t1
  have u2 := DataW.trod_le (show n2 ≤ n0 + n1 + n2 + n3 + n4 + n5 + n6 + n7 by omega) t2
  have u3 := DataW.trod_le (show n3 ≤ n0 + n1 + n2 + n3 + n4 + n5 + n6 + n7 by omega) t3
  have u4 := DataW.trod_le (show n4 ≤ n0 + n1 + n2 + n3 + n4 + n5 + n6 + n7 by omega) t4
  have u5 := DataW.trod_le (show n5 ≤ n0 + n1 + n2 + n3 + n4 + n5 + n6 + n7 by omega) t5
  have u6 := DataW.trod_le (show n6 ≤ n0 + n1 + n2 + n3 + n4 + n5 + n6 + n7 by omega) t6
  have u7 := DataW.trod_le (show n7 ≤ n0 + n1 + n2 + n3 + n4 + n5 + n6 + n7 by omega) t7
  have ts := trod_struct_mk (enc := enc) (w := w) (base := base) (spare := spare) (held := held) (n := n0 + n1 + n2 + n3 + n4 + n5 + n6 + n7) (cs := [v0, v1, v2, v3, v4, v5, v6, v7]) (xs := [y0, y1, y2, y3, y4, y5, y6, y7]) hs (by simp [hC]) (by simp [o0, k0, o1, k1, o2, k2, o3, k3, o4, k4, o5, k5, o6, k6, o7, k7, u0, u1, u2, u3, u4, u5, u6, u7])
  exact ⟨_, by simpa [Value.cells] using ts⟩
theorem array5 {α : Type} {cs : Array α} (h : cs.size = 5) : ∃ c0 c1 c2 c3 c4, cs = #[c0, c1, c2, c3, c4] := by
  obtain ⟨l⟩ := cs
  match l, h with
  | [c0, c1, c2, c3, c4], _ => exact ⟨c0, c1, c2, c3, c4, rfl⟩
theorem list5 {α : Type} {l : List α} (h : l.length = 5) : ∃ c0 c1 c2 c3 c4, l = [c0, c1, c2, c3, c4] := by
  match l, h with
  | [c0, c1, c2, c3, c4], _ => exact ⟨c0, c1, c2, c3, c4, rfl⟩
theorem open_agg5 {r : Reach} {b0 : Nat} {t : TypeId} {f0 f1 f2 f3 f4 : Field} {v : Value} {d : DataW H} {p : List MemPlace} (hs : P.underlying t = some (.struct #[f0, f1, f2, f3, f4])) (hone : oneCellFields P #[f0, f1, f2, f3, f4] = true) (hC : P.cellsOf t = 5)
    (hv : Value.okWide P w r b0 t v) (h : DataW.Trod enc P w base spare held t v d p) :
    ∃ (v0 v1 v2 v3 v4 : Value) (y0 y1 y2 y3 y4 : DataW H × List MemPlace) (n : Nat), v = .agg #[v0, v1, v2, v3, v4] ∧ d = .agg [y0.1, y1.1, y2.1, y3.1, y4.1] ∧ p = y0.2 ++ (y1.2 ++ (y2.2 ++ (y3.2 ++ (y4.2)))) ∧
      DataW.trod enc P w base spare held n f0.type [v0] = some y0 ∧ DataW.trod enc P w base spare held n f1.type [v1] = some y1 ∧ DataW.trod enc P w base spare held n f2.type [v2] = some y2 ∧ DataW.trod enc P w base spare held n f3.type [v3] = some y3 ∧ DataW.trod enc P w base spare held n f4.type [v4] = some y4 := by
  obtain ⟨cs, rfl, hsz⟩ := okWide_struct hs hv
  obtain ⟨c0, c1, c2, c3, c4, rfl⟩ := array5 (hsz.trans hC)
  obtain ⟨fuel, hf⟩ := h
  obtain ⟨xs, n, _, hx, hl, hlen, hg⟩ := DataW.trod_struct hs hf
  obtain ⟨y0, y1, y2, y3, y4, rfl⟩ := list5 (hlen.trans rfl)
  obtain ⟨o0, k0⟩ := hone_of hone 0 f0 rfl
  obtain ⟨o1, k1⟩ := hone_of hone 1 f1 rfl
  obtain ⟨o2, k2⟩ := hone_of hone 2 f2 rfl
  obtain ⟨o3, k3⟩ := hone_of hone 3 f3 rfl
  obtain ⟨o4, k4⟩ := hone_of hone 4 f4 rfl
  simp only [Prod.mk.injEq] at hx
  refine ⟨c0, c1, c2, c3, c4, y0, y1, y2, y3, y4, n, rfl, hx.1, by simpa using hx.2, ?_, ?_, ?_, ?_, ?_⟩
  · simpa [Value.cells, o0, k0] using hg 0 f0 rfl
  · simpa [Value.cells, o1, k1] using hg 1 f1 rfl
  · simpa [Value.cells, o2, k2] using hg 2 f2 rfl
  · simpa [Value.cells, o3, k3] using hg 3 f3 rfl
  · simpa [Value.cells, o4, k4] using hg 4 f4 rfl
theorem shut_agg5 {t : TypeId} {f0 f1 f2 f3 f4 : Field} {v0 v1 v2 v3 v4 : Value} {y0 y1 y2 y3 y4 : DataW H × List MemPlace} (hs : P.underlying t = some (.struct #[f0, f1, f2, f3, f4])) (hone : oneCellFields P #[f0, f1, f2, f3, f4] = true) (hC : P.cellsOf t = 5)
    (t0 : ∃ n, DataW.trod enc P w base spare held n f0.type [v0] = some y0) (t1 : ∃ n, DataW.trod enc P w base spare held n f1.type [v1] = some y1) (t2 : ∃ n, DataW.trod enc P w base spare held n f2.type [v2] = some y2) (t3 : ∃ n, DataW.trod enc P w base spare held n f3.type [v3] = some y3) (t4 : ∃ n, DataW.trod enc P w base spare held n f4.type [v4] = some y4) :
    DataW.Trod enc P w base spare held t (.agg #[v0, v1, v2, v3, v4]) (.agg [y0.1, y1.1, y2.1, y3.1, y4.1]) (y0.2 ++ (y1.2 ++ (y2.2 ++ (y3.2 ++ (y4.2))))) := by
  obtain ⟨n0, t0⟩ := t0
  obtain ⟨n1, t1⟩ := t1
  obtain ⟨n2, t2⟩ := t2
  obtain ⟨n3, t3⟩ := t3
  obtain ⟨n4, t4⟩ := t4
  obtain ⟨o0, k0⟩ := hone_of hone 0 f0 rfl
  obtain ⟨o1, k1⟩ := hone_of hone 1 f1 rfl
  obtain ⟨o2, k2⟩ := hone_of hone 2 f2 rfl
  obtain ⟨o3, k3⟩ := hone_of hone 3 f3 rfl
  obtain ⟨o4, k4⟩ := hone_of hone 4 f4 rfl
  have u0 := DataW.trod_le (show n0 ≤ n0 + n1 + n2 + n3 + n4 by omega) t0
  have u1 := DataW.trod_le (show n1 ≤ n0 + n1 + n2 + n3 + n4 by omega) t1
  have u2 := DataW.trod_le (show n2 ≤ n0 + n1 + n2 + n3 + n4 by omega) t2
  have u3 := DataW.trod_le (show n3 ≤ n0 + n1 + n2 + n3 + n4 by omega) t3
  have u4 := DataW.trod_le (show n4 ≤ n0 + n1 + n2 + n3 + n4 by omega) t4
  have ts := trod_struct_mk (enc := enc) (w := w) (base := base) (spare := spare) (held := held) (n := n0 + n1 + n2 + n3 + n4) (cs := [v0, v1, v2, v3, v4]) (xs := [y0, y1, y2, y3, y4]) hs (by simp [hC]) (by simp [o0, k0, o1, k1, o2, k2, o3, k3, o4, k4, u0, u1, u2, u3, u4])
  exact ⟨_, by simpa [Value.cells] using ts⟩

/-! The form's own reach. -/
theorem sized_field {ts : List TypeId} {ds : List (DataW H)} (h : (DataW.weightsEach P ts ds).all (· ≤ reachBytes) = true) {j : Nat} {t : TypeId} {fs : Array Field} {parts : List (DataW H)} (ht : ts[j]? = some t) (hd : ds[j]? = some (.agg parts)) (hu : P.underlying t = some (.struct fs)) :
    (DataW.weightsEach P (fs.toList.map (·.type)) parts).all (· ≤ reachBytes) = true := by
  rw [List.all_eq_true]
  intro n hn
  exact List.all_eq_true.1 h _ (DataW.weights_mem_each ht hd n (by simpa [DataW.weights, hu] using hn))
theorem sized_bytes {ts : List TypeId} {ds : List (DataW H)} (h : (DataW.weightsEach P ts ds).all (· ≤ reachBytes) = true) {j : Nat} {t e : TypeId} {zs : List Int} {len cap : Nat} {y : DataW H} {z Z : List MemPlace} {k : IntKind} (ht : ts[j]? = some t) (hd : ds[j]? = some y)
    (hy : (y, z) = (.slice (lits k (zs.take len)) (lits k (zs.drop len)), Z)) (hz : zs.length = cap) (hu : P.underlying t = some (.slice e)) (hb : P.bytesOf e = 1) : cap ≤ 140737488351232 := by
  obtain ⟨rfl, -⟩ := Prod.mk.inj hy
  have := sized_slice h ht hd hu
  rw [hb] at this
  simp only [lits, List.length_map, List.length_take, List.length_drop, reachBytes] at this
  omega
theorem sized_text {ts : List TypeId} {ds : List (DataW H)} (h : (DataW.weightsEach P ts ds).all (· ≤ reachBytes) = true) {j : Nat} {t : TypeId} {s : ByteArray} (ht : ts[j]? = some t) (hd : ds[j]? = some (.lit (.string s.data.toList))) : s.size ≤ 140737488351232 := by
  have := sized_string h ht hd
  simp only [reachBytes] at this
  have e : s.data.toList.length = s.size := rfl
  omega
end
end Go.Proofs.Ytmogoopkjkdkgaa.Aggs
