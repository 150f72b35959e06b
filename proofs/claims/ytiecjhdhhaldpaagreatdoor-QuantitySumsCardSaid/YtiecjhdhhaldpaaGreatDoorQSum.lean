/- Sums of floats; the law QuantitySums, walked. -/
import Derived.Test.YtiecjhdhhaldpaaGreatDoorQLaws
namespace Go.Proofs.YtiecjhdhhaldpaaGreatDoor.Q
open Go Go.RowKit Go.Proofs.YtiecjhdhhaldpaaGreatDoor.Words
set_option linter.unusedVariables false

/-- The bits that all agree on, of what an operation gives. -/
def ob (o : Option Nat) : Nat := match o with | some r => qb r | none => 9221120237041090561
theorem qb_ob (o : Option Nat) : qb (ob o) = ob o := by
  cases o with
  | none => simp [ob, qb, void_void]
  | some r => exact qb_qb r

theorem nan_void (t : Nat) : void ((t % 2) * 2 ^ 63 + 0x7ff0000000000000 + 1 + (t / 2) % (2 ^ 52 - 1)) = true := by
  rw [void_eq]
  simp only [decide_eq_true_eq]
  unfold rg
  have h1 : t % 2 < 2 := Nat.mod_lt _ (by omega)
  have h2 : (t / 2) % (2 ^ 52 - 1) < 2 ^ 52 - 1 := Nat.mod_lt _ (by omega)
  generalize t % 2 = a at h1
  generalize (t / 2) % (2 ^ 52 - 1) = b at h2
  omega

theorem add_any (x y : Nat) (t : TypeId) (w : World) : ∃ r w', (binOp .add t (.float .f64 x) (.float .f64 y)).run Tryz.prog w = .ok (.float .f64 r) w' ∧ qb r = ob (FloatKind.f64.format.add x y) ∧ Below w.heap.size w w' := by
  cases h : FloatKind.f64.format.add x y with
  | some r => exact ⟨r, w, by simp [binOp, Op.floatArith, h], rfl, Below.refl _ _⟩
  | none =>
    refine ⟨Question.cut (.nanBits .f64 x y) (w.tape w.drawn (.nanBits .f64 x y)), w.drew, by simp [binOp, Op.floatArith, h, Question.forced], ?_, (Below.refl _ _).drew⟩
    have hv : void (Question.cut (.nanBits .f64 x y) (w.tape w.drawn (.nanBits .f64 x y))) = true := nan_void _
    rw [qb, hv]; rfl
theorem sub_any (x y : Nat) (t : TypeId) (w : World) : ∃ r w', (binOp .sub t (.float .f64 x) (.float .f64 y)).run Tryz.prog w = .ok (.float .f64 r) w' ∧ qb r = ob (FloatKind.f64.format.sub x y) ∧ Below w.heap.size w w' := by
  cases h : FloatKind.f64.format.sub x y with
  | some r => exact ⟨r, w, by simp [binOp, Op.floatArith, h], rfl, Below.refl _ _⟩
  | none =>
    refine ⟨Question.cut (.nanBits .f64 x y) (w.tape w.drawn (.nanBits .f64 x y)), w.drew, by simp [binOp, Op.floatArith, h, Question.forced], ?_, (Below.refl _ _).drew⟩
    have hv : void (Question.cut (.nanBits .f64 x y) (w.tape w.drawn (.nanBits .f64 x y))) = true := nan_void _
    rw [qb, hv]; rfl

theorem sum_comm (d e : Ieee.Datum) : d.sum e = e.sum d := by
  cases d <;> cases e <;> try rfl
  · rename_i s m i t n j
    unfold Ieee.Datum.sum
    simp only [Int.min_comm j i, Int.add_comm (Ieee.signed t n _), Bool.and_comm t s]
  · rename_i s t
    unfold Ieee.Datum.sum
    cases s <;> cases t <;> rfl
theorem add_comm (x y : Nat) : FloatKind.f64.format.add x y = FloatKind.f64.format.add y x := by
  unfold Ieee.Format.add
  rw [sum_comm]

theorem sub_self_fin (x : Nat) (h : rg x < 9218868437227405312) : FloatKind.f64.format.sub x x = some 0 := by
  unfold Ieee.Format.sub
  rw [read_num x h]
  unfold Ieee.Datum.opposite Ieee.Datum.sum
  simp only [Int.min_self, Int.sub_self, Int.toNat_zero]
  have e : Ieee.signed (ng x) (sg (rg x)) 0 + Ieee.signed (!ng x) (sg (rg x)) 0 = 0 := by
    unfold Ieee.signed
    cases ng x <;> simp <;> omega
  rw [e]
  simp
  rfl
theorem sub_self_inf (x : Nat) (h : ¬ rg x < 9218868437227405312) : FloatKind.f64.format.sub x x = none := by
  unfold Ieee.Format.sub
  by_cases h1 : rg x = 9218868437227405312
  · rw [read_inf x h1]
    unfold Ieee.Datum.opposite Ieee.Datum.sum
    cases ng x <;> rfl
  · rw [read_nan x (by omega)]
    rfl

set_option maxRecDepth 100000 in
theorem sumq_any (x y : Nat) (w : World) : Calls Tryz.prog 15 #[.float .f64 x, .float .f64 y] w fun e w' => e = .returned (.float .f64 (ob (FloatKind.f64.format.add x y))) ∧ Below w.heap.size w w' := by
  obtain ⟨r, w1, hrun, hq, hb⟩ := add_any x y 22 w
  go_enter Tryz.func15, Tryz.ntmps15
  go_wp2_with fail
  refine (plain_any _ _).mono ?_
  rintro e w2 ⟨rfl, rfl⟩
  rw [hq]
  go_wp2
  go_ret
  exact ⟨rfl, hb⟩

theorem abs_bits (x : Nat) (h : x < 18446744073709551616) : bits .andNot .u64 (x : Int) 9223372036854775808 = (rg x : Int) := by
  have := u64_andNot_nat x 9223372036854775808 h (by omega)
  rw [show ((9223372036854775808 : Nat) : Int) = 9223372036854775808 from rfl] at this
  rw [this, show (18446744073709551615 - 9223372036854775808 : Nat) = 2 ^ 63 - 1 from rfl, Nat.and_two_pow_sub_one_eq_mod]
  rfl

set_option maxRecDepth 100000 in
theorem absf_any (x : Nat) (w : World) (hx : x < 18446744073709551616) : Calls Tryz.prog 28 #[.float .f64 x] w fun e w' => e = .returned (.float .f64 (rg x)) ∧ w' = w := by
  have h1 := bits_m x
  have h2 := from_m (rg x)
  have hb := abs_bits x hx
  go_enter Tryz.func28, Tryz.ntmps28
  go_wp2
  go_ret
  exact ⟨rfl, rfl⟩

set_option maxRecDepth 100000 in
theorem isInf_any (x : Nat) (w : World) (hx : x < 18446744073709551616) (hv : void x = false) : Calls Tryz.prog 25 #[.float .f64 x, .int .i64 0] w fun e w' => e = .returned (.bool (!decide (rg x < 9218868437227405312))) ∧ w' = w := by
  have hr : rg x ≤ 9218868437227405312 := by rw [void_eq] at hv; simpa using hv
  have hrr : rg (rg x) = rg x := by unfold rg; omega
  have hn : ng (rg x) = false := by unfold ng rg; simp
  have hg : (FloatKind.f64.format.order (rg x) 9218868437227405311 == some Ordering.gt) = !decide (rg x < 9218868437227405312) := by
    rw [order_any _ _ (by omega) (by decide +kernel)]
    have k1 : key (rg x) = (mg (rg x) : Int) := by unfold key; rw [hn, hrr]; rfl
    have k2 : key 9218868437227405311 = (mg 9218868437227405311 : Int) := by unfold key; rw [show ng 9218868437227405311 = false by decide +kernel, show rg 9218868437227405311 = 9218868437227405311 by decide +kernel]; rfl
    rw [k1, k2]
    have m1 := mg_lt_iff (rg x) 9218868437227405311
    have m2 := mg_lt_iff 9218868437227405311 (rg x)
    rcases Int.lt_trichotomy (mg (rg x) : Int) (mg 9218868437227405311 : Int) with h | h | h
    · rw [cmp_lt _ _ h]; simp; omega
    · rw [h, cmp_eq]; simp; omega
    · rw [cmp_gt _ _ h]; simp; omega
  have HG := Lib.hid hg
  obtain ⟨b, hb⟩ : ∃ b, (FloatKind.f64.format.order (rg x) 9218868437227405311 == some Ordering.gt) = b := ⟨_, rfl⟩
  rw [← hg, hb]
  clear hg hr hrr hn
  go_enter Tryz.func25, Tryz.ntmps25
  go_wp2_with fail
  refine (absf_any _ _ hx).mono ?_
  rintro e w2 ⟨rfl, rfl⟩
  go_wp2
  go_ret
  exact ⟨by simp, rfl⟩

set_option maxRecDepth 100000 in
theorem finite_any (x : Nat) (w : World) (hx : x < 18446744073709551616) : Calls Tryz.prog 16 #[.float .f64 x] w fun e w' => e = .returned (.bool (decide (rg x < 9218868437227405312))) ∧ w' = w := by
  obtain ⟨v, hv⟩ : ∃ v, void x = v := ⟨_, rfl⟩
  obtain ⟨f, hf⟩ : ∃ f, decide (rg x < 9218868437227405312) = f := ⟨_, rfl⟩
  have hvf : v = true → f = false := by
    intro h; rw [← hf]; rw [void_eq] at hv; rw [h] at hv; simp at hv ⊢; omega
  have I := fun hv W => isInf_any x W hx hv
  simp only [hf, hv] at I ⊢
  have I := Lib.hid I
  clear hf
  go_enter Tryz.func16, Tryz.ntmps16
  go_wp2_with fail
  refine (isNaN_any _ _).mono ?_
  rintro e w2 ⟨rfl, rfl⟩
  rw [hv]
  clear hv
  cases v
  · clear hvf
    go_wp2_with fail
    refine (I.out trivial _).mono ?_
    rintro e w2 ⟨rfl, rfl⟩
    go_wp2
    go_ret
    exact ⟨by simp, rfl⟩
  · have hff := hvf rfl
    clear hvf
    go_wp2
    go_ret
    exact ⟨by simp [hff], rfl⟩

theorem diff_zero (x r : Nat) (h : qb r = ob (FloatKind.f64.format.sub x x)) : (FloatKind.f64.format.order r 0 == some Ordering.eq) = decide (rg x < 9218868437227405312) := by
  by_cases hx : rg x < 9218868437227405312
  · rw [sub_self_fin x hx] at h
    have h0 : r = 0 := by
      rw [ob, qb_zero, qb] at h
      split at h
      · omega
      · exact h
    subst h0
    simp [hx]
    decide +kernel
  · rw [sub_self_inf x hx] at h
    have hv : 9218868437227405312 < rg r := by
      by_cases hv : void r
      · rw [void_eq] at hv; simpa using hv
      · rw [ob, qb, if_neg hv] at h
        rw [h]; decide +kernel
    rw [order_nan r 0 (.inl hv)]
    simp [hx]

set_option maxRecDepth 100000 in
set_option maxHeartbeats 2000000 in
theorem sums_law (x y : Nat) (w : World) (T : Tabs w) (hx : x < 18446744073709551616) (hy : y < 18446744073709551616) :
    Calls Tryz.prog 5 #[.float .f64 x, .float .f64 y] w fun e w' => e = .returned (.bool true) ∧ Below w.heap.size w w' := by
  have hneg : ∀ W, (Op.unary UnOp.neg (.float .f64 0)).run Tryz.prog W = .ok (.float .f64 9223372036854775808) W := fun W => by kernel_rfl
  have hmul : ∀ t W, (binOp .mul t (.float .f64 9223372036854775808) (.float .f64 4607182418800017408)).run Tryz.prog W = .ok (.float .f64 9223372036854775808) W := fun t W => run_float_arith W .mul t .f64 _ _ _ (by decide +kernel)
  have qo := qb_ob (FloatKind.f64.format.add x y)
  have qo2 := qb_ob (FloatKind.f64.format.add x 9223372036854775808)
  have hc := add_comm y x
  go_enter Tryz.func5, Tryz.ntmps5
  go_wp2_with fail
  refine (sumq_any _ _ _).mono ?_
  rintro e w0 ⟨rfl, hb0⟩
  have T0 := T.of_below hb0
  go_wp2_with fail
  refine (awake_any _ T0).mono ?_
  rintro e w1 ⟨rfl, hb1⟩
  have hb1' := hb0.trans (hb1.mono hb0.size)
  obtain ⟨r1, w2, run1, q1, hb2⟩ := add_any x y 22 w1
  have hb2' := hb1'.trans (hb2.mono hb1'.size)
  go_wp2_with fail
  refine (refBits_any _ _).mono ?_
  rintro e w1 ⟨rfl, rfl⟩
  go_wp2_with fail
  refine (refBits_any _ _).mono ?_
  rintro e w2 ⟨rfl, rfl⟩
  rw [q1]
  go_wp2_with fail
  refine (sumq_any _ _ _).mono ?_
  rintro e w3 ⟨rfl, hb3⟩
  have hb3' := hb2'.trans (hb3.mono hb2'.size)
  rw [hc]
  go_wp2_with fail
  refine (same_any _ _ _).mono ?_
  rintro e w3 ⟨rfl, rfl⟩
  go_wp2_with fail
  refine (sumq_any _ _ _).mono ?_
  rintro e w4 ⟨rfl, hb4⟩
  have hb4' := hb3'.trans (hb4.mono hb3'.size)
  obtain ⟨r2, w5, run2, q2, hb5⟩ := add_any x 9223372036854775808 22 w4
  have hb5' := hb4'.trans (hb5.mono hb4'.size)
  go_wp2_with fail
  refine (plain_any _ _).mono ?_
  rintro e w5 ⟨rfl, rfl⟩
  rw [q2]
  go_wp2_with fail
  refine (same_any _ _ _).mono ?_
  rintro e w5 ⟨rfl, rfl⟩
  obtain ⟨r3, w6, run3, q3, hb6⟩ := sub_any x x 22 w5
  have hb6' := hb5'.trans (hb6.mono hb5'.size)
  have hd := diff_zero x r3 q3
  go_wp2_with fail
  refine (finite_any _ _ hx).mono ?_
  rintro e w5 ⟨rfl, rfl⟩
  go_wp2
  trace_state
  go_ret
  exact ⟨by simp, hb6'⟩
end Go.Proofs.YtiecjhdhhaldpaaGreatDoor.Q
