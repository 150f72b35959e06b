/- The laws QuantityBits and QuantityOrders, walked. -/
import Derived.Test.YtiecjhdhhaldpaaGreatDoorQFun
import Derived.Test.YtiecjhdhhaldpaaGreatDoorQParse
namespace Go.Proofs.YtiecjhdhhaldpaaGreatDoor.Q
open Go Go.RowKit Go.Proofs.YtiecjhdhhaldpaaGreatDoor.Words
set_option linter.unusedVariables false

theorem of_bits (x : Nat) (w : World) : Calls Tryz.prog 8 #[.int .u64 (qb x : Int)] w fun e w' => e = .returned (.tuple #[.float .f64 (qb x), .bool true]) ∧ w' = w := by
  refine (of_any (qb x) w).mono ?_
  rintro e w1 ⟨rfl, rfl⟩
  simp [qb_qb]

set_option maxRecDepth 100000 in
set_option maxHeartbeats 1000000 in
theorem bits_law (x n : Nat) (w : World) (T : Tabs w) (hx : x < 18446744073709551616) (hn : n < 18446744073709551616) :
    Calls Tryz.prog 3 #[.float .f64 x, .int .u64 (n : Int)] w fun e w' => e = .returned (.bool true) ∧ Below w.heap.size w w' := by
  obtain ⟨z, b, hz, hzb⟩ : ∃ (z : Nat) (b : Bool), (∀ W, Calls Tryz.prog 8 #[.int .u64 (n : Int)] W fun e w' => e = .returned (.tuple #[.float .f64 z, .bool b]) ∧ w' = W) ∧ ((b == ((qb z : Int) == (n : Int))) = true) := by
    refine ⟨_, _, of_any n, ?_⟩
    by_cases h : qb n = n
    · simp [h]
    · by_cases h0 : n = 0
      · subst h0; exact absurd qb_zero h
      · simp [h, qb_zero]; omega
  have HZ := Lib.hid hz
  have q2 : qb (qb x) = qb x := qb_qb x
  have hzb' : b = ((qb z : Int) == (n : Int)) := by simpa using hzb
  clear hz hzb
  go_enter Tryz.func3, Tryz.ntmps3
  go_wp2_with fail
  refine (bits_any _ _).mono ?_
  rintro e w ⟨rfl, rfl⟩
  go_wp2_with fail
  refine (of_bits _ _).mono ?_
  rintro e w ⟨rfl, rfl⟩
  go_wp2_with fail
  refine (HZ.out _).mono ?_
  rintro e w ⟨rfl, rfl⟩
  go_wp2_with fail
  refine (awake_any _ T).mono ?_
  rintro e w1 ⟨rfl, hb⟩
  go_wp2_with fail
  refine (refBits_any _ _).mono ?_
  rintro e w1 ⟨rfl, rfl⟩
  go_wp2_with fail
  refine (same_any _ _ _).mono ?_
  rintro e w1 ⟨rfl, rfl⟩
  go_wp2_with fail
  refine (plain_any _ _).mono ?_
  rintro e w1 ⟨rfl, rfl⟩
  go_wp2_with fail
  refine (same_any _ _ _).mono ?_
  rintro e w1 ⟨rfl, rfl⟩
  go_wp2_with fail
  refine (refBits_any _ _).mono ?_
  rintro e w1 ⟨rfl, rfl⟩
  go_wp2_with fail
  refine (plain_any _ _).mono ?_
  rintro e w1 ⟨rfl, rfl⟩
  go_wp2_with fail
  refine (refBits_any _ _).mono ?_
  rintro e w1 ⟨rfl, rfl⟩
  go_wp2
  go_ret
  exact ⟨by simp, hb⟩

theorem rank_inj (x y : Nat) (hx : x < 18446744073709551616) (hy : y < 18446744073709551616) : (qb x = qb y) ↔ rank x = rank y := by
  have h1 := qb_lt x hx
  have h2 := qb_lt y hy
  unfold rank
  by_cases a : 9223372036854775808 ≤ qb x <;> by_cases b : 9223372036854775808 ≤ qb y <;> simp only [a, b, if_true, if_false] <;> omega

set_option maxRecDepth 100000 in
set_option maxHeartbeats 2000000 in
theorem orders_law (x y z : Nat) (w : World) (T : Tabs w) (hx : x < 18446744073709551616) (hy : y < 18446744073709551616) (hz : z < 18446744073709551616) :
    Calls Tryz.prog 4 #[.float .f64 x, .float .f64 y, .float .f64 z] w fun e w' => e = .returned (.bool true) ∧ Below w.heap.size w w' := by
  have hi := rank_inj x y hx hy
  have hone : ((qb x : Int) == (qb y : Int)) = decide (rank x = rank y) := by
    by_cases h : qb x = qb y
    · simp [h, hi.1 h]
    · have : ¬ (qb x : Int) = (qb y : Int) := by omega
      rw [beq_eq_false_iff_ne.2 this]; symm; simp only [decide_eq_false_iff_not]; exact fun e => h (hi.2 e)
  have hsame : decide (qb x = qb y) = decide (rank x = rank y) := by simp [hi]
  have HS := Lib.hid hsame
  obtain ⟨r, hr⟩ : ∃ r, rank x = r := ⟨_, rfl⟩
  obtain ⟨s, hs⟩ : ∃ s, rank y = s := ⟨_, rfl⟩
  obtain ⟨t, ht⟩ : ∃ s, rank z = s := ⟨_, rfl⟩
  have L := fun (w : World) => less_any x y w hx hy
  have L' := fun (w : World) => less_any y x w hy hx
  have L2 := fun (w : World) => less_any y z w hy hz
  have L3 := fun (w : World) => less_any x z w hx hz
  have L4 := fun (w : World) => refLess_any x y w hx hy
  have L5 := fun (w : World) => same_any x y w
  simp only [hsame] at L5
  simp only [hr, hs, ht] at L L' L2 L3 L4 L5 hone
  have L := Lib.hid L
  have L' := Lib.hid L'
  have L2 := Lib.hid L2
  have L3 := Lib.hid L3
  have L4 := Lib.hid L4
  have L5 := Lib.hid L5
  clear hsame hi hr hs ht hx hy hz HS
  have start : ∀ (Q : Prop), (r < s → Q) → (¬ r < s → s < r → Q) → (¬ r < s → ¬ s < r → r = s → Q) → Q := by
    intro Q h1 h2 h3
    rcases Nat.lt_trichotomy r s with h | h | h
    · exact h1 h
    · exact h3 (by omega) (by omega) h
    · exact h2 (by omega) h
  have hb : ∃ (l g : Bool), decide (r < s) = l ∧ decide (s < r) = g ∧ decide (r = s) = (!l && !g) := by
    refine ⟨_, _, rfl, rfl, ?_⟩
    rcases Nat.lt_trichotomy r s with h | h | h
    · simp [h, show ¬ s < r by omega, show ¬ r = s by omega]
    · simp [h]
    · simp [h, show ¬ r < s by omega, show ¬ r = s by omega]
  obtain ⟨l, g, hl, hg, he⟩ := hb
  have htr : l = true → decide (s < t) = true → decide (r < t) = true := by
    intro h1 h2
    rw [← hl] at h1
    simp only [decide_eq_true_eq] at h1 h2 ⊢
    omega
  simp only [hl, hg, he] at L L' L2 L3 L4 L5 hone
  clear start hl hg he
  go_enter Tryz.func4, Tryz.ntmps4
  go_wp2_with fail
  refine (refBits_any _ _).mono ?_
  rintro e w ⟨rfl, rfl⟩
  go_wp2_with fail
  refine (refBits_any _ _).mono ?_
  rintro e w ⟨rfl, rfl⟩
  go_wp2_with fail
  refine (L.out _).mono ?_
  rintro e w ⟨rfl, rfl⟩
  go_wp2_with fail
  refine (awake_any _ T).mono ?_
  rintro e w1 ⟨rfl, hbl⟩
  go_wp2_with fail
  refine (L4.out _).mono ?_
  rintro e w1 ⟨rfl, rfl⟩
  go_wp2_with fail
  refine (L5.out _).mono ?_
  rintro e w1 ⟨rfl, rfl⟩
  cases l
  · go_wp2_with fail
    refine (L'.out _).mono ?_
    rintro e w1 ⟨rfl, rfl⟩
    go_wp2
    go_ret
    exact ⟨by simp, hbl⟩
  · simp only [forall_const] at htr
    go_wp2_with fail
    refine (L2.out _).mono ?_
    rintro e w1 ⟨rfl, rfl⟩
    by_cases h2 : decide (s < t) = true
    · have h3 := htr h2
      go_wp2_with fail
      refine (L3.out _).mono ?_
      rintro e w1 ⟨rfl, rfl⟩
      go_wp2
      go_ret
      exact ⟨by simp, hbl⟩
    · have h2' : decide (s < t) = false := by simpa using h2
      clear htr h2
      go_wp2
      go_ret
      exact ⟨by simp, hbl⟩
end Go.Proofs.YtiecjhdhhaldpaaGreatDoor.Q
