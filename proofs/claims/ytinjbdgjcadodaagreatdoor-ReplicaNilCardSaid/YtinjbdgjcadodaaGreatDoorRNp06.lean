/- Texts of the law ReplicaNil, put together. -/
import Derived.Test.YtinjbdgjcadodaaGreatDoorRNp01
import Derived.Test.YtinjbdgjcadodaaGreatDoorRNp05
set_option linter.unusedVariables false
set_option maxRecDepth 100000
namespace Go.Proofs.YtinjbdgjcadodaaGreatDoor.Evt
open Go Go.RowKit Words Enc Go.Proofs.YtinjbdgjcadodaaGreatDoor.Q
def spotV (t : Nat) (wr : Int) : Value := .agg #[.int .u64 (t : Int), .int .i64 wr]
theorem at_any (e : Ev) (A : Option Addr) (n c : Nat) (w : World) :
  Calls Tryz.prog 165 #[e.val A n c] w fun e' w' => e' = .returned (spotV e.time e.writer) ∧ Below w.heap.size w w' := by
 unfold Ev.val spotV
 go_enter Tryz.func165, Tryz.ntmps165
 go_wp2
 exact bodyPost_ret (v := .agg #[.int .u64 (e.time : Int), .int .i64 e.writer]) (by simp [results, Tryz.results165, go_sem]) rfl ⟨rfl, ((Below.refl _ _).alloc (Nat.le_refl _) _).alloc (by simp) _⟩
theorem nanU_any (x : Int) (w : World) : Calls Tryz.prog 278 #[.int .u64 x] w fun e' w' => e' = .returned (.bool false) ∧ w' = w := by
 go_enter Tryz.func278, Tryz.ntmps278
 go_wp2
 go_ret
 simp
theorem nanI_any (x : Int) (w : World) : Calls Tryz.prog 279 #[.int .i64 x] w fun e' w' => e' = .returned (.bool false) ∧ w' = w := by
 go_enter Tryz.func279, Tryz.ntmps279
 go_wp2
 go_ret
 simp
def cmpI (a b : Int) : Int := if a < b then -1 else if b < a then 1 else 0
theorem cmpU_any (a b : Int) (w : World) : Calls Tryz.prog 228 #[.int .u64 a, .int .u64 b] w fun e' w' => e' = .returned (.int .i64 (cmpI a b)) ∧ w' = w := by
 obtain ⟨r, hr⟩ : ∃ r, r = cmpI a b := ⟨_, rfl⟩
 rw [← hr]
 have HR := Lib.hid hr
 clear hr
 go_enter Tryz.func228, Tryz.ntmps228
 go_wp2_with fail
 refine (nanU_any _ _).mono ?_
 rintro e w ⟨rfl, rfl⟩
 go_wp2_with fail
 refine (nanU_any _ _).mono ?_
 rintro e w ⟨rfl, rfl⟩
 go_wp2
 all_goals
  go_ret
  refine ⟨ret_int ?_, rfl⟩
  rw [HR.out]
  unfold cmpI
  repeat' split
  all_goals omega
theorem cmpI_any (a b : Int) (w : World) : Calls Tryz.prog 229 #[.int .i64 a, .int .i64 b] w fun e' w' => e' = .returned (.int .i64 (cmpI a b)) ∧ w' = w := by
 obtain ⟨r, hr⟩ : ∃ r, r = cmpI a b := ⟨_, rfl⟩
 rw [← hr]
 have HR := Lib.hid hr
 clear hr
 go_enter Tryz.func229, Tryz.ntmps229
 go_wp2_with fail
 refine (nanI_any _ _).mono ?_
 rintro e w ⟨rfl, rfl⟩
 go_wp2_with fail
 refine (nanI_any _ _).mono ?_
 rintro e w ⟨rfl, rfl⟩
 go_wp2
 all_goals
  go_ret
  refine ⟨ret_int ?_, rfl⟩
  rw [HR.out]
  unfold cmpI
  repeat' split
  all_goals omega
theorem or_any (x y : Int) (g : Nat) (w : World) (h0 : w.cell? ⟨g, 0, none⟩ = some (.int .i64 x)) (h1 : w.cell? ⟨g, 1, none⟩ = some (.int .i64 y)) :
  Calls Tryz.prog 227 #[.slice (some ⟨g, 0, none⟩) 2 2] w fun e' w' => e' = .returned (.int .i64 (if x = 0 then y else x)) ∧ w' = w := by
 obtain ⟨r, hr⟩ : ∃ r, r = (if x = 0 then y else x) := ⟨_, rfl⟩
 rw [← hr]
 have HR := Lib.hid hr
 clear hr
 go_enter Tryz.func227, Tryz.ntmps227
 go_wp2
 go_loop [8] (fun i => i = .int .i64 0 ∨ (i = .int .i64 1 ∧ x = 0) ∨ (i = .int .i64 2 ∧ x = 0 ∧ y = 0)) (fun i => 2 - (intOf i).toNat)
 case atStart => exact .inl rfl
 case round =>
  rcases hrel with rfl | ⟨rfl, h⟩ | ⟨rfl, h, h'⟩
  ·by_cases hx : x = 0
   ·have hx' : (x == 0) = true := by simp [hx]
    have HX := Lib.hid hx
    clear hx
    go_wp2
    go_round
    case rel => exact .inr (.inl ⟨rfl, HX.out⟩)
    case measure => simp [intOf]
   ·have hx' : (x == 0) = false := by rw [beq_eq_false_iff_ne]; exact hx
    have HX := Lib.hid hx
    clear hx
    go_wp2
    go_ret
    exact ⟨by rw [HR.out, if_neg HX.out]; rfl, rfl⟩
  ·have HX := Lib.hid h
   clear h
   by_cases hx : y = 0
   ·have hx' : (y == 0) = true := by simp [hx]
    have HY := Lib.hid hx
    clear hx
    go_wp2
    go_round
    case rel => exact .inr (.inr ⟨rfl, HX.out, HY.out⟩)
    case measure => simp [intOf]
   ·have hx' : (y == 0) = false := by rw [beq_eq_false_iff_ne]; exact hx
    have HY := Lib.hid hx
    clear hx
    go_wp2
    go_ret
    exact ⟨by rw [HR.out, if_pos HX.out]; rfl, rfl⟩
  ·have HX := Lib.hid h
   have HY := Lib.hid h'
   clear h h'
   go_wp2
   go_ret
   exact ⟨by rw [HR.out, if_pos HX.out, HY.out]; rfl, rfl⟩
def cmpS (t1 : Nat) (w1 : Int) (t2 : Nat) (w2 : Int) : Int := if cmpI t1 t2 = 0 then cmpI w1 w2 else cmpI t1 t2
def pairPred (x y : Int) : Facts.Pred := ⟨fun v w => ∃ g, v = .slice (some ⟨g, 0, none⟩) 2 2 ∧ w.cell? ⟨g, 0, none⟩ = some (.int .i64 x) ∧ w.cell? ⟨g, 1, none⟩ = some (.int .i64 y),
 fun _ w w' ⟨g, h, h0, h1⟩ hb => ⟨g, h, by rw [hb.cell (World.block_lt_of_cell? _ _ h0)]; exact h0, by rw [hb.cell (World.block_lt_of_cell? _ _ h1)]; exact h1⟩⟩
theorem compare_any (t1 : Nat) (w1 : Int) (t2 : Nat) (w2 : Int) (w : World) :
  Calls Tryz.prog 164 #[spotV t1 w1, spotV t2 w2] w fun e' w' => e' = .returned (.int .i64 (cmpS t1 w1 t2 w2)) ∧ Below w.heap.size w w' := by
 unfold spotV
 have hc : ∀ W, Below ((w.alloc (.cells #[.int .u64 (t1 : Int), .int .i64 w1] 211)).alloc (.cells #[.int .u64 (t2 : Int), .int .i64 w2] 211)).drew.heap.size ((w.alloc (.cells #[.int .u64 (t1 : Int), .int .i64 w1] 211)).alloc (.cells #[.int .u64 (t2 : Int), .int .i64 w2] 211)).drew W →
   W.cell? ⟨w.heap.size, 0, none⟩ = some (.int .u64 (t1 : Int)) ∧ W.cell? ⟨w.heap.size, 1, none⟩ = some (.int .i64 w1) ∧ W.cell? ⟨w.heap.size + 1, 0, none⟩ = some (.int .u64 (t2 : Int)) ∧ W.cell? ⟨w.heap.size + 1, 1, none⟩ = some (.int .i64 w2) := by
  intro W hW
  refine ⟨?_, ?_, ?_, ?_⟩ <;> (rw [hW.cell (by simp <;> omega)]; simp)
 have HC := Lib.hid hc
 clear hc
 go_enter Tryz.func164, Tryz.ntmps164
 go_wp2_with fail
 refine Facts.wp_region_preds (n := 17) (by kernel_rfl) (by kernel_rfl) rfl [Facts.Pred.is (Value.pointer (some ⟨w.heap.size, 0, none⟩)), Facts.Pred.is (Value.int .u64 (t1 : Int)), Facts.Pred.is (Value.pointer (some ⟨w.heap.size + 1, 0, none⟩)), Facts.Pred.is (Value.int .u64 (t2 : Int)), Facts.Pred.is (Value.int .i64 (cmpI t1 t2)), Facts.Pred.is (Value.pointer (some ⟨w.heap.size, 1, none⟩)), Facts.Pred.is (Value.int .i64 w1), Facts.Pred.is (Value.pointer (some ⟨w.heap.size + 1, 1, none⟩)), Facts.Pred.is (Value.int .i64 w2), Facts.Pred.is (Value.int .i64 (cmpI w1 w2)), pairPred (cmpI t1 t2) (cmpI w1 w2), Facts.Pred.is (Value.int .i64 (cmpS t1 w1 t2 w2)), Facts.Pred.is (Value.int .i64 (cmpS t1 w1 t2 w2))] ?_ ?_
 ·refine ⟨?_, ?_, ?_, ?_, ?_, ?_, ?_, ?_, ?_, ?_, ?_, ?_, ?_, trivial⟩
  ·refine Facts.step_is (Value.pointer (some ⟨w.heap.size, 0, none⟩)) fun a W hR hold hnew => ?_
   have f2 : a.tmps.getD 2 undef = Value.pointer (some ⟨w.heap.size, 0, none⟩) := hold 2 (by kernel_rfl)
   refine ⟨Facts.wanted_free rfl, ?_, fun _ => rfl⟩; simp [go_sem, Act.eval, f2]
  ·refine Facts.step_is (Value.int .u64 (t1 : Int)) fun a W hR hold hnew => ?_
   have f5 : a.tmps.getD 5 undef = Value.pointer (some ⟨w.heap.size, 0, none⟩) := hnew 0 5 (by kernel_rfl)
   obtain ⟨q0, q1, q2, q3⟩ := HC.out W hR
   refine ⟨Facts.wanted_free rfl, ?_, fun _ => rfl⟩; simp [go_sem, Act.eval, f5, q0]
  ·refine Facts.step_is (Value.pointer (some ⟨w.heap.size + 1, 0, none⟩)) fun a W hR hold hnew => ?_
   have f3 : a.tmps.getD 3 undef = Value.pointer (some ⟨w.heap.size + 1, 0, none⟩) := hold 3 (by kernel_rfl)
   refine ⟨Facts.wanted_free rfl, ?_, fun _ => rfl⟩; simp [go_sem, Act.eval, f3]
  ·refine Facts.step_is (Value.int .u64 (t2 : Int)) fun a W hR hold hnew => ?_
   have f7 : a.tmps.getD 7 undef = Value.pointer (some ⟨w.heap.size + 1, 0, none⟩) := hnew 2 7 (by kernel_rfl)
   obtain ⟨q0, q1, q2, q3⟩ := HC.out W hR
   refine ⟨Facts.wanted_free rfl, ?_, fun _ => rfl⟩; simp [go_sem, Act.eval, f7, q2]
  ·-- 4: Op.call { value (Operand.func 40), args := #[t6, t8], argTyp
   refine Facts.step_call fun a W hR hold hnew => ?_
   have f6 : a.tmps.getD 6 undef = Value.int .u64 (t1 : Int) := hnew 1 6 (by kernel_rfl); have f8 : a.tmps.getD 8 undef = Value.int .u64 (t2 : Int) := hnew 3 8 (by kernel_rfl)
   refine ⟨Facts.wanted_free rfl, 228, #[Value.int .u64 (t1 : Int), Value.int .u64 (t2 : Int)], by simp [go_sem, Act.eval, f6, f8], ?_⟩
   refine (cmpU_any _ _ W).mono ?_
   rintro e w' ⟨rfl, rfl⟩
   exact ⟨_, rfl, Below.refl _ _, rfl⟩
  ·refine Facts.step_is (Value.pointer (some ⟨w.heap.size, 1, none⟩)) fun a W hR hold hnew => ?_
   have f2 : a.tmps.getD 2 undef = Value.pointer (some ⟨w.heap.size, 0, none⟩) := hold 2 (by kernel_rfl)
   refine ⟨Facts.wanted_free rfl, ?_, fun _ => rfl⟩; simp [go_sem, Act.eval, f2]
  ·refine Facts.step_is (Value.int .i64 w1) fun a W hR hold hnew => ?_
   have f10 : a.tmps.getD 10 undef = Value.pointer (some ⟨w.heap.size, 1, none⟩) := hnew 5 10 (by kernel_rfl)
   obtain ⟨q0, q1, q2, q3⟩ := HC.out W hR
   refine ⟨Facts.wanted_free rfl, ?_, fun _ => rfl⟩; simp [go_sem, Act.eval, f10, q1]
  ·refine Facts.step_is (Value.pointer (some ⟨w.heap.size + 1, 1, none⟩)) fun a W hR hold hnew => ?_
   have f3 : a.tmps.getD 3 undef = Value.pointer (some ⟨w.heap.size + 1, 0, none⟩) := hold 3 (by kernel_rfl)
   refine ⟨Facts.wanted_free rfl, ?_, fun _ => rfl⟩; simp [go_sem, Act.eval, f3]
  ·refine Facts.step_is (Value.int .i64 w2) fun a W hR hold hnew => ?_
   have f12 : a.tmps.getD 12 undef = Value.pointer (some ⟨w.heap.size + 1, 1, none⟩) := hnew 7 12 (by kernel_rfl)
   obtain ⟨q0, q1, q2, q3⟩ := HC.out W hR
   refine ⟨Facts.wanted_free rfl, ?_, fun _ => rfl⟩; simp [go_sem, Act.eval, f12, q3]
  ·-- 9: Op.call { value (Operand.func 41), args := #[t11, t13], argT
   refine Facts.step_call fun a W hR hold hnew => ?_
   have f11 : a.tmps.getD 11 undef = Value.int .i64 w1 := hnew 6 11 (by kernel_rfl); have f13 : a.tmps.getD 13 undef = Value.int .i64 w2 := hnew 8 13 (by kernel_rfl)
   refine ⟨Facts.wanted_free rfl, 229, #[Value.int .i64 w1, Value.int .i64 w2], by simp [go_sem, Act.eval, f11, f13], ?_⟩
   refine (cmpI_any _ _ W).mono ?_
   rintro e w' ⟨rfl, rfl⟩
   exact ⟨_, rfl, Below.refl _ _, rfl⟩
  ·-- 10: Op.buildSlice 85 2 #[(0, t9), (1, t14)]
   refine Facts.step_new fun a W hR hold hnew => ?_
   have f9 : a.tmps.getD 9 undef = Value.int .i64 (cmpI t1 t2) := hnew 4 9 (by kernel_rfl); have f14 : a.tmps.getD 14 undef = Value.int .i64 (cmpI w1 w2) := hnew 9 14 (by kernel_rfl)
   refine ⟨Facts.wanted_free rfl, .slice (some ⟨W.heap.size, 0, none⟩) 2 2, W.alloc (.cells #[.int .i64 (cmpI t1 t2), .int .i64 (cmpI w1 w2)] 3), ?_, (Below.refl _ _).alloc (Nat.le_refl _) _, _, rfl, ?_, ?_⟩
   ·rw [Array.getD_eq_getD_getElem?] at f9 f14
    simp [go_sem, Act.eval, f9, f14]
   ·simp
   ·simp
  ·-- 11: Op.call { value (Operand.func 39), args := #[t15], argTypes
   refine Facts.step_call fun a W hR hold hnew => ?_
   have h15 : ∃ g, a.tmps.getD 15 undef = .slice (some ⟨g, 0, none⟩) 2 2 ∧ W.cell? ⟨g, 0, none⟩ = some (.int .i64 (cmpI t1 t2)) ∧ W.cell? ⟨g, 1, none⟩ = some (.int .i64 (cmpI w1 w2)) := hnew 10 15 (by kernel_rfl)
   obtain ⟨g, f15, k0, k1⟩ := h15
   refine ⟨Facts.wanted_free rfl, 227, #[.slice (some ⟨g, 0, none⟩) 2 2], by simp [go_sem, Act.eval, f15], ?_⟩
   refine (or_any _ _ g W k0 k1).mono ?_
   rintro e w' ⟨rfl, rfl⟩
   exact ⟨_, rfl, Below.refl _ _, rfl⟩
  ·refine Facts.step_is (Value.int .i64 (cmpS t1 w1 t2 w2)) fun a W hR hold hnew => ?_
   have f16 : a.tmps.getD 16 undef = Value.int .i64 (cmpS t1 w1 t2 w2) := hnew 11 16 (by kernel_rfl)
   refine ⟨Facts.wanted_free rfl, ?_, fun _ => rfl⟩; simp [go_sem, Act.eval, f16]
 ·intro a w4 hR' hsize hdef hnew hold
  have f4 : a.tmps.getD 4 undef = Value.int .i64 (cmpS t1 w1 t2 w2) := hnew 12 4 (by kernel_rfl)
  obtain ⟨tm, df⟩ := a
  simp only [] at hdef hsize f4
  obtain ⟨xq, hxq, hlit⟩ := Facts.lits tm hsize Facts.idx17 Facts.idx17_eq
  rw [hxq] at f4
  simp only [Facts.idx17, List.map_cons, List.map_nil, f4] at hlit
  clear f4 hsize hnew hold hxq
  subst hlit
  subst hdef
  try simp only []
  have b0 : Below w.heap.size w ((w.alloc (.cells #[.int .u64 (t1 : Int), .int .i64 w1] 211)).alloc (.cells #[.int .u64 (t2 : Int), .int .i64 w2] 211)).drew := (((Below.refl _ _).alloc (Nat.le_refl _) _).alloc (by simp) _).drew
  have b1 := b0.trans (hR'.mono b0.size)
  clear hR' b0 HC
  go_wp2
  go_ret
  exact ⟨rfl, b1⟩
theorem cmpS_gt {t1 : Nat} {w1 : Int} {t2 : Nat} {w2 : Int} : 0 < cmpS t1 w1 t2 w2 ↔ t2 < t1 ∨ t2 = t1 ∧ w2 < w1 := by
 unfold cmpS cmpI
 repeat' split
 all_goals omega
end Go.Proofs.YtinjbdgjcadodaaGreatDoor.Evt
