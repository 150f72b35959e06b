/- quantity's functions on bits and order, and the document's. -/
import Derived.Test.YtiecjhdhhaldpaaGreatDoorQMath
namespace Go.Proofs.YtiecjhdhhaldpaaGreatDoor.Q
open Go Go.RowKit Go.Proofs.YtiecjhdhhaldpaaGreatDoor.Words
set_option linter.unusedVariables false

set_option maxRecDepth 100000 in
theorem bits_any (x : Nat) (w : World) : Calls Tryz.prog 7 #[.float .f64 x] w fun e w' => e = .returned (.int .u64 (qb x : Int)) ∧ w' = w := by
  have hbm := bits_m x
  go_enter Tryz.func7, Tryz.ntmps7
  go_wp2_with fail
  refine (isNaN_any _ _).mono ?_
  rintro e w ⟨rfl, rfl⟩
  by_cases h : void x
  · go_wp2
    go_ret
    exact ⟨by simp [qb, h], rfl⟩
  · have h' : void x = false := by simpa using h
    go_wp2
    go_ret
    exact ⟨by simp [qb, h'], rfl⟩

set_option maxRecDepth 100000 in
theorem refVoid_any (x : Nat) (w : World) : Calls Tryz.prog 22 #[.float .f64 x] w fun e w' => e = .returned (.bool (void x)) ∧ w' = w := by
  go_enter Tryz.func22, Tryz.ntmps22
  go_wp2
  go_ret
  exact ⟨rfl, rfl⟩

set_option maxRecDepth 100000 in
theorem refBits_any (x : Nat) (w : World) : Calls Tryz.prog 10 #[.float .f64 x] w fun e w' => e = .returned (.int .u64 (qb x : Int)) ∧ w' = w := by
  have hbm := bits_m x
  go_enter Tryz.func10, Tryz.ntmps10
  go_wp2_with fail
  refine (refVoid_any _ _).mono ?_
  rintro e w ⟨rfl, rfl⟩
  by_cases h : void x
  · go_wp2
    go_ret
    exact ⟨by simp [qb, h], rfl⟩
  · have h' : void x = false := by simpa using h
    go_wp2
    go_ret
    exact ⟨by simp [qb, h'], rfl⟩

set_option maxRecDepth 100000 in
theorem plain_any (x : Nat) (w : World) : Calls Tryz.prog 12 #[.float .f64 x] w fun e w' => e = .returned (.float .f64 (qb x)) ∧ w' = w := by
  have hfm := from_m (qb x)
  go_enter Tryz.func12, Tryz.ntmps12
  go_wp2_with fail
  refine (bits_any _ _).mono ?_
  rintro e w ⟨rfl, rfl⟩
  go_wp2
  go_ret
  exact ⟨rfl, rfl⟩

set_option maxRecDepth 100000 in
theorem same_any (x y : Nat) (w : World) : Calls Tryz.prog 11 #[.float .f64 x, .float .f64 y] w fun e w' => e = .returned (.bool (decide (qb x = qb y))) ∧ w' = w := by
  go_enter Tryz.func11, Tryz.ntmps11
  go_wp2_with fail
  refine (bits_any _ _).mono ?_
  rintro e w ⟨rfl, rfl⟩
  go_wp2_with fail
  refine (bits_any _ _).mono ?_
  rintro e w ⟨rfl, rfl⟩
  go_wp2
  go_ret
  refine ⟨?_, rfl⟩
  by_cases h : qb x = qb y <;> simp [h] <;> omega

set_option maxRecDepth 100000 in
theorem of_any (n : Nat) (w : World) : Calls Tryz.prog 8 #[.int .u64 (n : Int)] w fun e w' => e = .returned (.tuple #[.float .f64 (if qb n = n then n else 0), .bool (decide (qb n = n))]) ∧ w' = w := by
  have hfm := from_m n
  go_enter Tryz.func8, Tryz.ntmps8
  go_wp2_with fail
  refine (bits_any _ _).mono ?_
  rintro e w ⟨rfl, rfl⟩
  by_cases h : qb n = n
  · have h' : (qb n : Int) = (n : Int) := by rw [h]
    go_wp2
    go_ret2
    exact ⟨by simp, rfl⟩
  · have h' : ¬ (qb n : Int) = (n : Int) := by omega
    go_wp2
    go_ret2
    exact ⟨by simp, rfl⟩


theorem and_sign (q : Nat) (h : q < 18446744073709551616) : bits .and .u64 (q : Int) 9223372036854775808 = if 9223372036854775808 ≤ q then 9223372036854775808 else 0 := by
  have := u64_and_nat q 9223372036854775808 h (by omega)
  rw [show ((9223372036854775808 : Nat) : Int) = 9223372036854775808 from rfl] at this
  rw [this, show (9223372036854775808 : Nat) = 2 ^ 63 from rfl]
  have e : q &&& 2 ^ 63 = if 2 ^ 63 ≤ q then 2 ^ 63 else 0 := by
    apply Nat.eq_of_testBit_eq
    intro i
    rw [Nat.testBit_and, Nat.testBit_two_pow]
    by_cases hq : 2 ^ 63 ≤ q
    · rw [if_pos hq, Nat.testBit_two_pow]
      by_cases hi : 63 = i
      · subst hi
        have : q.testBit 63 = true := by rw [Nat.testBit_eq_decide_div_mod_eq]; simp; omega
        simp [this]
      · simp [hi]
    · rw [if_neg hq, Nat.zero_testBit]
      by_cases hi : 63 = i
      · subst hi
        have : q.testBit 63 = false := by rw [Nat.testBit_eq_decide_div_mod_eq]; simp; omega
        simp [this]
      · simp [hi]
  rw [e]
  split <;> rfl
theorem or_sign (q : Nat) (h : q < 9223372036854775808) : bits .or .u64 (q : Int) 9223372036854775808 = (q + 9223372036854775808 : Nat) := by
  have := u64_or_nat q 9223372036854775808 (by omega) (by omega)
  rw [show ((9223372036854775808 : Nat) : Int) = 9223372036854775808 from rfl] at this
  rw [this, Nat.or_comm]
  have e := Nat.two_pow_add_eq_or_of_lt (i := 63) (b := q) (by omega) 1
  rw [Nat.mul_one] at e
  rw [show (9223372036854775808 : Nat) = 2 ^ 63 from rfl, ← e, Nat.add_comm]
theorem not_word (q : Nat) (h : q < 18446744073709551616) : bits .xor .u64 IntKind.u64.max (q : Int) = (18446744073709551615 - q : Nat) := by
  have := u64_xor_nat 18446744073709551615 q (by omega) h
  rw [show IntKind.u64.max = ((18446744073709551615 : Nat) : Int) from rfl, this]
  congr 1
  rw [Nat.xor_comm, show (18446744073709551615 : Nat) = 2 ^ 64 - 1 from rfl, show 2 ^ 64 - 1 - q = 2 ^ 64 - (q + 1) by omega]
  apply Nat.eq_of_testBit_eq
  intro i
  rw [Nat.testBit_xor, Nat.testBit_two_pow_sub_one, Nat.testBit_two_pow_sub_succ (by omega)]
  by_cases hi : i < 64
  · simp [hi]
  · have : q.testBit i = false := Nat.testBit_lt_two_pow (Nat.lt_of_lt_of_le (show q < 2 ^ 64 by omega) (Nat.pow_le_pow_right (by omega) (by omega)))
    simp [hi, this]

set_option maxRecDepth 100000 in
theorem rank_any (x : Nat) (w : World) (hx : x < 18446744073709551616) : Calls Tryz.prog 23 #[.float .f64 x] w fun e w' => e = .returned (.int .u64 (rank x : Int)) ∧ w' = w := by
  have hq := qb_lt x hx
  have ha := and_sign (qb x) hq
  have hn := not_word (qb x) hq
  by_cases h : 9223372036854775808 ≤ qb x
  · rw [if_pos h] at ha
    have hr : (rank x : Int) = (18446744073709551615 - qb x : Nat) := by unfold rank; rw [if_pos h]
    have HR := Lib.hid hr
    clear hr h hq
    go_enter Tryz.func23, Tryz.ntmps23
    go_wp2_with fail
    refine (bits_any _ _).mono ?_
    rintro e w ⟨rfl, rfl⟩
    go_wp2
    go_ret
    exact ⟨by simp [HR.out], rfl⟩
  · rw [if_neg h] at ha
    have ho := or_sign (qb x) (by omega)
    have hr : (rank x : Int) = (qb x + 9223372036854775808 : Nat) := by unfold rank; rw [if_neg h]
    have HR := Lib.hid hr
    clear hr h hq
    go_enter Tryz.func23, Tryz.ntmps23
    go_wp2_with fail
    refine (bits_any _ _).mono ?_
    rintro e w ⟨rfl, rfl⟩
    go_wp2
    go_ret
    exact ⟨by simp [HR.out], rfl⟩

set_option maxRecDepth 100000 in
theorem less_any (x y : Nat) (w : World) (hx : x < 18446744073709551616) (hy : y < 18446744073709551616) : Calls Tryz.prog 13 #[.float .f64 x, .float .f64 y] w fun e w' => e = .returned (.bool (decide (rank x < rank y))) ∧ w' = w := by
  go_enter Tryz.func13, Tryz.ntmps13
  go_wp2_with fail
  refine (rank_any _ _ hx).mono ?_
  rintro e w ⟨rfl, rfl⟩
  go_wp2_with fail
  refine (rank_any _ _ hy).mono ?_
  rintro e w ⟨rfl, rfl⟩
  go_wp2
  go_ret
  exact ⟨by simp, rfl⟩

set_option maxRecDepth 100000 in
theorem signbit_any (x : Nat) (w : World) (hx : x < 18446744073709551616) : Calls Tryz.prog 24 #[.float .f64 x] w fun e w' => e = .returned (.bool (ng x)) ∧ w' = w := by
  have hbm := bits_m x
  go_enter Tryz.func24, Tryz.ntmps24
  go_wp2
  go_ret
  refine ⟨?_, rfl⟩
  have h : decide (wrap64 (x : Int) < 0) = ng x := by
    unfold wrap64
    rcases split_x x hx with ⟨h1, h2, h3⟩ | ⟨h1, h2, h3⟩ <;> rw [h1] <;> simp <;> omega
  rw [← h]
  rfl

set_option maxRecDepth 100000 in
theorem refLess_any (x y : Nat) (w : World) (hx : x < 18446744073709551616) (hy : y < 18446744073709551616) : Calls Tryz.prog 14 #[.float .f64 x, .float .f64 y] w fun e w' => e = .returned (.bool (decide (rank x < rank y))) ∧ w' = w := by
  rw [← ahead_rank x y hx hy]
  obtain ⟨r, hr⟩ : ∃ r, r = ahead x y := ⟨_, rfl⟩
  rw [← hr]
  unfold ahead at hr
  obtain ⟨vx, hvx⟩ : ∃ v, void x = v := ⟨_, rfl⟩
  obtain ⟨vy, hvy⟩ : ∃ v, void y = v := ⟨_, rfl⟩
  obtain ⟨zx, hzx⟩ : ∃ v, (FloatKind.f64.format.order x 0 == some Ordering.eq) = v := ⟨_, rfl⟩
  obtain ⟨zy, hzy⟩ : ∃ v, (FloatKind.f64.format.order y 0 == some Ordering.eq) = v := ⟨_, rfl⟩
  rw [hvx, hvy, hzx, hzy] at hr
  have HR := Lib.hid hr
  clear hr
  go_enter Tryz.func14, Tryz.ntmps14
  go_wp2_with fail
  refine (refVoid_any _ _).mono ?_
  rintro e w ⟨rfl, rfl⟩
  rw [hvx]
  clear hvx
  cases vx
  · go_wp2_with fail
    refine (refVoid_any _ _).mono ?_
    rintro e w ⟨rfl, rfl⟩
    rw [hvy]
    clear hvy
    cases vy
    · cases zx
      · go_wp2
        go_ret
        exact ⟨by rw [HR.out]; simp, rfl⟩
      · cases zy
        · go_wp2
          go_ret
          exact ⟨by rw [HR.out]; simp, rfl⟩
        · go_wp2_with fail
          refine (signbit_any _ _ hx).mono ?_
          rintro e w ⟨rfl, rfl⟩
          cases hn : ng x
          · rw [hn] at HR
            go_wp2
            go_ret
            exact ⟨by rw [HR.out]; simp, rfl⟩
          · rw [hn] at HR
            go_wp2_with fail
            refine (signbit_any _ _ hy).mono ?_
            rintro e w ⟨rfl, rfl⟩
            go_wp2
            go_ret
            exact ⟨by rw [HR.out]; simp, rfl⟩
    · go_wp2
      go_ret
      exact ⟨by rw [HR.out]; simp, rfl⟩
  · go_wp2
    go_ret
    exact ⟨by rw [HR.out]; simp, rfl⟩
end Go.Proofs.YtiecjhdhhaldpaaGreatDoor.Q
