/- Sums of floats: what all agree on. -/
import Derived.Test.YtlbmfbhgpkdjoaaBEvent
namespace Go.Proofs.Ytlbmfbhgpkdjoaa.Q
open Go Go.RowKit Go.Proofs.Ytlbmfbhgpkdjoaa.Words
set_option linter.unusedVariables false
set_option linter.unusedSimpArgs false

/-- The bits that all agree on, of what an operation gives. -/
def ob (o : Option Nat) : Nat := match o with | some r => qb r | none => 9221120237041090561
theorem qb_ob (o : Option Nat) : qb (ob o) = ob o := by
  cases o with
  | none => simp [ob, qb, void_void]
  | some r => exact qb_qb r
theorem cmp_self (a : Int) : compare a a = .eq := by simp [compare, compareOfLessAndEq]
theorem cmp_selfN (a : Nat) : compare a a = .eq := by simp [compare, compareOfLessAndEq]
theorem void_nan {x : Nat} {s : Bool} {t : Nat} (h : FloatKind.f64.format.read x = .nan s t) : void x = true := by
  unfold void Ieee.Format.order
  rw [h]
  rfl
theorem nan_of_void {x : Nat} (h : void x = true) : ∃ s t, FloatKind.f64.format.read x = .nan s t := by
  unfold void Ieee.Format.order at h
  cases hr : FloatKind.f64.format.read x with
  | nan s t => exact ⟨s, t, rfl⟩
  | infinity s => rw [hr] at h; simp [Ieee.Datum.order] at h
  | number s m i => rw [hr] at h; simp [Ieee.Datum.order, cmp_self] at h
theorem read_great (x : Nat) (h : 9218868437227405312 < x % 9223372036854775808) : ∃ s t, FloatKind.f64.format.read x = .nan s t := by
  have e : FloatKind.f64.format.read x = if x % 9223372036854775808 < 4503599627370496 then .number (x / 9223372036854775808 % 2 == 1) (x % 9223372036854775808) (-1074)
    else if x % 9223372036854775808 < 9218868437227405312 then .number (x / 9223372036854775808 % 2 == 1) (4503599627370496 + x % 9223372036854775808 % 4503599627370496) (-1074 + (x % 9223372036854775808 / 4503599627370496 - 1 : Nat))
    else if x % 9223372036854775808 = 9218868437227405312 then .infinity (x / 9223372036854775808 % 2 == 1) else .nan (x / 9223372036854775808 % 2 == 1) (x % 9223372036854775808 - 9218868437227405312) := rfl
  rw [e, if_neg (by omega), if_neg (by omega), if_neg (by omega)]
  exact ⟨_, _, rfl⟩
theorem nan_void (t : Nat) : void ((t % 2) * 2 ^ 63 + 0x7ff0000000000000 + 1 + (t / 2) % (2 ^ 52 - 1)) = true := by
  have h1 : t % 2 < 2 := Nat.mod_lt _ (by omega)
  have h2 : (t / 2) % (2 ^ 52 - 1) < 2 ^ 52 - 1 := Nat.mod_lt _ (by omega)
  generalize t % 2 = a at h1
  generalize (t / 2) % (2 ^ 52 - 1) = b at h2
  obtain ⟨s, u, h⟩ := read_great (a * 2 ^ 63 + 0x7ff0000000000000 + 1 + b) (by omega)
  exact void_nan h
theorem add_any (x y : Nat) (t : TypeId) (w : World) : ∃ r w', (binOp .add t (.float .f64 x) (.float .f64 y)).run Try.prog w = .ok (.float .f64 r) w' ∧ qb r = ob (FloatKind.f64.format.add x y) ∧ Below w.heap.size w w' := by
  cases h : FloatKind.f64.format.add x y with
  | some r => exact ⟨r, w, by simp [binOp, Op.floatArith, h], rfl, Below.refl _ _⟩
  | none =>
    refine ⟨Question.cut (.nanBits .f64 x y) (w.tape w.drawn (.nanBits .f64 x y)), w.drew, by simp [binOp, Op.floatArith, h, Question.forced], ?_, (Below.refl _ _).drew⟩
    have hv : void (Question.cut (.nanBits .f64 x y) (w.tape w.drawn (.nanBits .f64 x y))) = true := nan_void _
    rw [qb, hv]; rfl
theorem sub_any (x y : Nat) (t : TypeId) (w : World) : ∃ r w', (binOp .sub t (.float .f64 x) (.float .f64 y)).run Try.prog w = .ok (.float .f64 r) w' ∧ qb r = ob (FloatKind.f64.format.sub x y) ∧ Below w.heap.size w w' := by
  cases h : FloatKind.f64.format.sub x y with
  | some r => exact ⟨r, w, by simp [binOp, Op.floatArith, h], rfl, Below.refl _ _⟩
  | none =>
    refine ⟨Question.cut (.nanBits .f64 x y) (w.tape w.drawn (.nanBits .f64 x y)), w.drew, by simp [binOp, Op.floatArith, h, Question.forced], ?_, (Below.refl _ _).drew⟩
    have hv : void (Question.cut (.nanBits .f64 x y) (w.tape w.drawn (.nanBits .f64 x y))) = true := nan_void _
    rw [qb, hv]; rfl
theorem add_void {x y : Nat} (h : void x = true ∨ void y = true) : FloatKind.f64.format.add x y = none := by
  unfold Ieee.Format.add
  rcases h with h | h
  · obtain ⟨s, t, e⟩ := nan_of_void h
    rw [e]; rfl
  · obtain ⟨s, t, e⟩ := nan_of_void h
    rw [e]
    cases FloatKind.f64.format.read x <;> rfl
theorem sub_void {x : Nat} (h : void x = true) : FloatKind.f64.format.sub x x = none := by
  unfold Ieee.Format.sub
  obtain ⟨s, t, e⟩ := nan_of_void h
  rw [e]; rfl
theorem word_lt (neg : Bool) {r : Nat} (h : r ≤ 9223372036854775807) : FloatKind.f64.format.word neg r < 18446744073709551616 := by
  have e : FloatKind.f64.format.word neg r = if neg then 9223372036854775808 + r else r := rfl
  rw [e]
  split <;> omega
theorem write_lt (d : Ieee.Datum) : FloatKind.f64.format.write d < 18446744073709551616 := by
  have hi : FloatKind.f64.format.infRung = 9218868437227405312 := rfl
  have hb : FloatKind.f64.format.binade = 4503599627370496 := rfl
  cases d with
  | number s m i =>
    unfold Ieee.Format.write Ieee.Format.nearest
    simp only []
    split
    · exact word_lt _ (by omega)
    · refine word_lt _ (Nat.le_trans (Nat.min_le_right _ _) ?_)
      rw [hi]; omega
  | infinity s =>
    unfold Ieee.Format.write
    simp only []
    exact word_lt _ (by rw [hi]; omega)
  | nan s t =>
    unfold Ieee.Format.write
    simp only []
    refine word_lt _ ?_
    rw [hi, hb]
    have := Nat.mod_lt t (show 4503599627370496 > 0 by omega)
    omega
theorem ob_lt (x y : Nat) : ob (FloatKind.f64.format.add x y) < 18446744073709551616 := by
  unfold ob
  unfold Ieee.Format.add
  cases ((FloatKind.f64.format.read x).sum (FloatKind.f64.format.read y)) with
  | none => simp
  | some d => exact qb_lt _ (write_lt d)
theorem void_qb (x : Nat) : void (qb x) = void x := by
  unfold qb
  cases h : void x with
  | true => simpa using void_void
  | false => simpa using h
/-- Whichever bits a NaN has, the sum is the same. -/
theorem ob_add {x y a b : Nat} (hx : qb x = qb a) (hy : qb y = qb b) : ob (FloatKind.f64.format.add x y) = ob (FloatKind.f64.format.add a b) := by
  have vx : void x = void a := by rw [← void_qb x, hx, void_qb]
  have vy : void y = void b := by rw [← void_qb y, hy, void_qb]
  by_cases h : void x = true ∨ void y = true
  · rw [add_void h, add_void (by rw [← vx, ← vy]; exact h)]
  · have h1 : void x = false := by cases hv : void x <;> simp_all
    have h2 : void y = false := by cases hv : void y <;> simp_all
    have e1 : x = a := by unfold qb at hx; rw [← vx, h1] at hx; simpa using hx
    have e2 : y = b := by unfold qb at hy; rw [← vy, h2] at hy; simpa using hy
    rw [e1, e2]

set_option maxRecDepth 100000 in
theorem sumq_any (x y : Nat) (w : World) : Calls Try.prog 57 #[.float .f64 x, .float .f64 y] w fun e w' => e = .returned (.float .f64 (ob (FloatKind.f64.format.add x y))) ∧ Below w.heap.size w w' := by
  obtain ⟨r, w1, hrun, hq, hb⟩ := add_any x y 24 w
  go_enter Try.func57, Try.ntmps57
  go_wp2_with fail
  refine (plainQ_any _ _).mono ?_
  rintro e w2 ⟨rfl, rfl⟩
  rw [hq]
  go_wp2
  go_ret
  exact ⟨rfl, hb⟩
end Go.Proofs.Ytlbmfbhgpkdjoaa.Q
