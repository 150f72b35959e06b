/- Floats by their bits: which are no numbers, which stands ahead of which. -/
import Derived.Test.YtiecjhdhhaldpaaGreatDoorQFloat
namespace Go.Proofs.YtiecjhdhhaldpaaGreatDoor.Q
open Go Go.RowKit Go.Proofs.YtiecjhdhhaldpaaGreatDoor.Words
set_option linter.unusedVariables false

/-- Where a word's magnitude lies. -/
def rg (x : Nat) : Nat := x % 9223372036854775808
def ng (x : Nat) : Bool := x / 9223372036854775808 % 2 == 1

theorem read_eq (x : Nat) : FloatKind.f64.format.read x =
    if rg x < 4503599627370496 then .number (ng x) (rg x) (-1074)
    else if rg x < 9218868437227405312 then .number (ng x) (4503599627370496 + rg x % 4503599627370496) (-1074 + (rg x / 4503599627370496 - 1 : Nat))
    else if rg x = 9218868437227405312 then .infinity (ng x) else .nan (ng x) (rg x - 9218868437227405312) := rfl

/-- A magnitude, in units of the least one. -/
def mg (r : Nat) : Nat := if r < 4503599627370496 then r else (4503599627370496 + r % 4503599627370496) * 2 ^ (r / 4503599627370496 - 1)

theorem mg_succ (r : Nat) : mg r < mg (r + 1) := by
  unfold mg
  by_cases h1 : r + 1 < 4503599627370496
  · rw [if_pos (by omega), if_pos h1]; omega
  · by_cases h2 : r < 4503599627370496
    · obtain rfl : r = 4503599627370495 := by omega
      decide +kernel
    · rw [if_neg h2, if_neg h1]
      by_cases h3 : (r + 1) % 4503599627370496 = 0
      · have hq : (r + 1) / 4503599627370496 - 1 = (r / 4503599627370496 - 1) + 1 := by omega
        have hm : r % 4503599627370496 = 4503599627370495 := by omega
        rw [hq, hm, h3, Nat.pow_succ]
        have hp : 0 < 2 ^ (r / 4503599627370496 - 1) := Nat.pow_pos (by omega)
        generalize 2 ^ (r / 4503599627370496 - 1) = p at hp
        omega
      · have hq : (r + 1) / 4503599627370496 = r / 4503599627370496 := by omega
        rw [hq]
        exact Nat.mul_lt_mul_of_pos_right (by omega) (Nat.pow_pos (by omega))
theorem mg_lt {r s : Nat} (h : r < s) : mg r < mg s := by
  induction s with
  | zero => omega
  | succ s ih =>
    by_cases he : r = s
    · subst he; exact mg_succ _
    · exact Nat.lt_trans (ih (by omega)) (mg_succ _)
theorem mg_lt_iff (r s : Nat) : mg r < mg s ↔ r < s := by
  constructor
  · intro h
    rcases Nat.lt_trichotomy r s with h' | h' | h'
    · exact h'
    · subst h'; omega
    · have := mg_lt h'; omega
  · exact mg_lt
theorem mg_inj (r s : Nat) : mg r = mg s ↔ r = s := by
  constructor
  · intro h
    rcases Nat.lt_trichotomy r s with h' | h' | h'
    · have := mg_lt h'; omega
    · exact h'
    · have := mg_lt h'; omega
  · rintro rfl; rfl

/-- The significand, and how far it is shifted. -/
def sg (r : Nat) : Nat := if r < 4503599627370496 then r else 4503599627370496 + r % 4503599627370496
def up (r : Nat) : Nat := if r < 4503599627370496 then 0 else r / 4503599627370496 - 1
theorem mg_eq (r : Nat) : mg r = sg r * 2 ^ up r := by
  unfold mg sg up
  by_cases h : r < 4503599627370496 <;> simp [h]

theorem read_num (x : Nat) (h : rg x < 9218868437227405312) : FloatKind.f64.format.read x = .number (ng x) (sg (rg x)) (-1074 + (up (rg x) : Nat)) := by
  rw [read_eq]
  unfold sg up
  by_cases h1 : rg x < 4503599627370496
  · simp [h1]
  · simp [h1, h]

theorem signed_eq (s : Bool) (m u : Nat) : Ieee.signed s m u = if s then -((m * 2 ^ u : Nat) : Int) else ((m * 2 ^ u : Nat) : Int) := by
  unfold Ieee.signed
  rw [Nat.shiftLeft_eq]

/-- A word as an integer that stands as the word does. -/
def key (x : Nat) : Int := if ng x then -((mg (rg x) : Nat) : Int) else ((mg (rg x) : Nat) : Int)

theorem scaled (s : Bool) (m a c : Nat) (h : c ≤ a) : Ieee.signed s m (a - c) * ((2 ^ c : Nat) : Int) = if s then -((m * 2 ^ a : Nat) : Int) else ((m * 2 ^ a : Nat) : Int) := by
  rw [signed_eq]
  have e : m * 2 ^ (a - c) * 2 ^ c = m * 2 ^ a := by rw [Nat.mul_assoc, ← Nat.pow_add, Nat.sub_add_cancel h]
  cases s
  · simp only [Bool.false_eq_true, if_false]; rw [← Int.natCast_mul, e]
  · simp only [if_true]; rw [Int.neg_mul, ← Int.natCast_mul, e]

theorem order_num (x y : Nat) (hx : rg x < 9218868437227405312) (hy : rg y < 9218868437227405312) : FloatKind.f64.format.order x y = some (compare (key x) (key y)) := by
  unfold Ieee.Format.order
  rw [read_num x hx, read_num y hy]
  unfold Ieee.Datum.order
  simp only []
  congr 1
  obtain ⟨a, ha⟩ : ∃ a, a = up (rg x) := ⟨_, rfl⟩
  obtain ⟨b, hb⟩ : ∃ b, b = up (rg y) := ⟨_, rfl⟩
  rw [← ha, ← hb]
  have e1 : ((-1074 + (a : Int)) - min (-1074 + (a : Int)) (-1074 + (b : Int))).toNat = a - min a b := by omega
  have e2 : ((-1074 + (b : Int)) - min (-1074 + (a : Int)) (-1074 + (b : Int))).toNat = b - min a b := by omega
  rw [e1, e2]
  have k1 := scaled (ng x) (sg (rg x)) a (min a b) (by omega)
  have k2 := scaled (ng y) (sg (rg y)) b (min a b) (by omega)
  have hk1 : key x = Ieee.signed (ng x) (sg (rg x)) (a - min a b) * ((2 ^ min a b : Nat) : Int) := by rw [k1]; unfold key; rw [mg_eq, ha]
  have hk2 : key y = Ieee.signed (ng y) (sg (rg y)) (b - min a b) * ((2 ^ min a b : Nat) : Int) := by rw [k2]; unfold key; rw [mg_eq, hb]
  rw [hk1, hk2]
  have hp : (0 : Int) < ((2 ^ min a b : Nat) : Int) := by exact_mod_cast Nat.pow_pos (by omega)
  generalize ((2 ^ min a b : Nat) : Int) = p at hp
  generalize Ieee.signed (ng x) (sg (rg x)) (a - min a b) = u
  generalize Ieee.signed (ng y) (sg (rg y)) (b - min a b) = v
  rcases Int.lt_trichotomy u v with h | h | h
  · have h' := Int.mul_lt_mul_of_pos_right h hp
    rw [show compare u v = .lt from by simp [compare, compareOfLessAndEq, h], show compare (u * p) (v * p) = .lt from by simp [compare, compareOfLessAndEq, h']]
  · subst h; simp [compare, compareOfLessAndEq]
  · have h' := Int.mul_lt_mul_of_pos_right h hp
    rw [show compare u v = .gt from by simp [compare, compareOfLessAndEq, show ¬ u < v by omega, show ¬ u = v by omega], show compare (u * p) (v * p) = .gt from by simp [compare, compareOfLessAndEq, show ¬ u * p < v * p by omega, show ¬ u * p = v * p by omega]]

theorem cmp_lt (u v : Int) (h : u < v) : compare u v = .lt := by simp [compare, compareOfLessAndEq, h]
theorem cmp_gt (u v : Int) (h : v < u) : compare u v = .gt := by simp [compare, compareOfLessAndEq, show ¬ u < v by omega, show ¬ u = v by omega]
theorem cmp_eq (u : Int) : compare u u = .eq := by simp [compare, compareOfLessAndEq]

theorem mg_zero : mg 0 = 0 := rfl
theorem mg_pos (r : Nat) : 0 < mg r ↔ 0 < r := by rw [← mg_zero, mg_lt_iff]; rw [mg_zero]

theorem read_inf (x : Nat) (h : rg x = 9218868437227405312) : FloatKind.f64.format.read x = .infinity (ng x) := by
  rw [read_eq, h]; simp
theorem read_nan (x : Nat) (h : 9218868437227405312 < rg x) : FloatKind.f64.format.read x = .nan (ng x) (rg x - 9218868437227405312) := by
  rw [read_eq]
  rw [if_neg (by omega), if_neg (by omega), if_neg (by omega)]

theorem key_inf (x : Nat) (h : rg x = 9218868437227405312) : key x = if ng x then -((mg 9218868437227405312 : Nat) : Int) else ((mg 9218868437227405312 : Nat) : Int) := by
  unfold key; rw [h]
theorem key_fin (x : Nat) (h : rg x < 9218868437227405312) : -((mg 9218868437227405312 : Nat) : Int) < key x ∧ key x < ((mg 9218868437227405312 : Nat) : Int) := by
  have := mg_lt h
  unfold key
  cases ng x <;> simp <;> omega

theorem order_any (x y : Nat) (hx : rg x ≤ 9218868437227405312) (hy : rg y ≤ 9218868437227405312) : FloatKind.f64.format.order x y = some (compare (key x) (key y)) := by
  rcases Nat.lt_or_eq_of_le hx with h1 | h1
  · rcases Nat.lt_or_eq_of_le hy with h2 | h2
    · exact order_num x y h1 h2
    · unfold Ieee.Format.order
      rw [read_num x h1, read_inf y h2, key_inf y h2]
      have hk := key_fin x h1
      unfold Ieee.Datum.order
      cases ng y
      · simp only [Bool.false_eq_true, if_false]; rw [cmp_lt _ _ hk.2]
      · simp only [if_true]; rw [cmp_gt _ _ hk.1]
  · rcases Nat.lt_or_eq_of_le hy with h2 | h2
    · unfold Ieee.Format.order
      rw [read_num y h2, read_inf x h1, key_inf x h1]
      have hk := key_fin y h2
      unfold Ieee.Datum.order
      cases ng x
      · simp only [Bool.false_eq_true, if_false]; rw [cmp_gt _ _ hk.2]
      · simp only [if_true]; rw [cmp_lt _ _ hk.1]
    · unfold Ieee.Format.order
      rw [read_inf y h2, read_inf x h1, key_inf x h1, key_inf y h2]
      have hp : (0 : Int) < ((mg 9218868437227405312 : Nat) : Int) := by have := (mg_pos 9218868437227405312).2 (by omega); omega
      generalize ((mg 9218868437227405312 : Nat) : Int) = m at hp
      unfold Ieee.Datum.order
      cases ng x <;> cases ng y <;> simp only [Bool.false_eq_true, if_false, if_true, Bool.toNat_false, Bool.toNat_true]
      · rw [cmp_eq]; rfl
      · rw [cmp_gt _ _ (by omega)]; rfl
      · rw [cmp_lt _ _ (by omega)]; rfl
      · rw [cmp_eq]; rfl

theorem order_nan (x y : Nat) (h : 9218868437227405312 < rg x ∨ 9218868437227405312 < rg y) : FloatKind.f64.format.order x y = none := by
  unfold Ieee.Format.order
  rcases h with h | h
  · rw [read_nan x h]; rfl
  · rw [read_nan y h]
    cases FloatKind.f64.format.read x <;> rfl

theorem void_eq (x : Nat) : void x = decide (9218868437227405312 < rg x) := by
  unfold void
  by_cases h : 9218868437227405312 < rg x
  · rw [order_nan x x (.inl h)]; simp [h]
  · rw [order_any x x (by omega) (by omega), cmp_eq]; simp [h]

/-- The bits that all agree on. -/
def qb (x : Nat) : Nat := if void x then 9221120237041090561 else x
def rank (x : Nat) : Nat := if 9223372036854775808 ≤ qb x then 18446744073709551615 - qb x else qb x + 9223372036854775808

theorem void_void : void 9221120237041090561 = true := by rw [void_eq]; decide +kernel
theorem qb_qb (x : Nat) : qb (qb x) = qb x := by
  unfold qb
  by_cases h : void x
  · simp [h, void_void]
  · simp [h]
theorem qb_lt (x : Nat) (h : x < 18446744073709551616) : qb x < 18446744073709551616 := by
  unfold qb
  split <;> omega
theorem qb_zero : qb 0 = 0 := by unfold qb; rw [void_eq]; simp [rg]

theorem split_x (x : Nat) (h : x < 18446744073709551616) : (ng x = true ∧ x = 9223372036854775808 + rg x ∧ rg x < 9223372036854775808) ∨ (ng x = false ∧ x = rg x ∧ rg x < 9223372036854775808) := by
  unfold ng rg
  rcases (show x / 9223372036854775808 = 0 ∨ x / 9223372036854775808 = 1 by omega) with h1 | h1
  · right; rw [h1]; refine ⟨rfl, ?_, ?_⟩ <;> omega
  · left; rw [h1]; refine ⟨rfl, ?_, ?_⟩ <;> omega

/-- The document's answer: does one stand ahead? -/
def ahead (x y : Nat) : Bool :=
  if void x then false else if void y then true
  else if FloatKind.f64.format.order x 0 == some .eq && FloatKind.f64.format.order y 0 == some .eq then ng x && !ng y
  else FloatKind.f64.format.order x y == some .lt

theorem zero_iff (x : Nat) (h : rg x ≤ 9218868437227405312) : (FloatKind.f64.format.order x 0 == some .eq) = decide (rg x = 0) := by
  rw [order_any x 0 h (by simp [rg])]
  have hk : key 0 = 0 := by unfold key; simp [rg, mg_zero, ng]
  rw [hk]
  have hm := mg_pos (rg x)
  rcases Int.lt_trichotomy (key x) 0 with h1 | h1 | h1
  · rw [cmp_lt _ _ h1]
    have : ¬ rg x = 0 := by intro e; unfold key at h1; rw [e, mg_zero] at h1; simp at h1
    simp [this]
  · rw [h1, cmp_eq]
    have : rg x = 0 := by
      unfold key at h1
      cases hn : ng x <;> simp [hn] at h1 <;> omega
    simp [this]
  · rw [cmp_gt _ _ h1]
    have : ¬ rg x = 0 := by intro e; unfold key at h1; rw [e, mg_zero] at h1; simp at h1
    simp [this]

theorem lt_iff (x y : Nat) (hx : rg x ≤ 9218868437227405312) (hy : rg y ≤ 9218868437227405312) : (FloatKind.f64.format.order x y == some .lt) = decide (key x < key y) := by
  rw [order_any x y hx hy]
  rcases Int.lt_trichotomy (key x) (key y) with h1 | h1 | h1
  · rw [cmp_lt _ _ h1]; simp [h1]
  · rw [h1, cmp_eq]; simp
  · rw [cmp_gt _ _ h1]; simp; omega

theorem ahead_rank (x y : Nat) (hx : x < 18446744073709551616) (hy : y < 18446744073709551616) : ahead x y = decide (rank x < rank y) := by
  unfold ahead rank qb
  rw [void_eq x, void_eq y]
  by_cases vx : 9218868437227405312 < rg x
  · simp only [vx, decide_true, if_true]
    by_cases vy : 9218868437227405312 < rg y
    · simp [vy]
    · rcases split_x y hy with ⟨-, h1, h2⟩ | ⟨-, h1, h2⟩
      · simp [vy, show 9223372036854775808 ≤ y by omega]; omega
      · simp [vy, show ¬ 9223372036854775808 ≤ y by omega]; omega
  · by_cases vy : 9218868437227405312 < rg y
    · rcases split_x x hx with ⟨-, h1, h2⟩ | ⟨-, h1, h2⟩
      · simp [vx, vy, show 9223372036854775808 ≤ x by omega]; omega
      · simp [vx, vy, show ¬ 9223372036854775808 ≤ x by omega]; omega
    · rw [zero_iff x (by omega), zero_iff y (by omega), lt_iff x y (by omega) (by omega)]
      simp only [vx, vy, decide_false, Bool.false_eq_true, if_false]
      have hm := mg_lt_iff (rg x) (rg y)
      have hm' := mg_lt_iff (rg y) (rg x)
      have p1 := mg_pos (rg x)
      have p2 := mg_pos (rg y)
      unfold key
      rcases split_x x hx with ⟨n1, h1, h2⟩ | ⟨n1, h1, h2⟩ <;> rcases split_x y hy with ⟨n2, h3, h4⟩ | ⟨n2, h3, h4⟩ <;>
        simp only [n1, n2, if_true, Bool.false_eq_true, if_false, Bool.not_true, Bool.not_false, Bool.and_true, Bool.and_false]
      all_goals generalize mg (rg x) = a at *
      all_goals generalize mg (rg y) = b at *
      all_goals (first | rw [if_pos (show 9223372036854775808 ≤ x by omega)] | rw [if_neg (show ¬ 9223372036854775808 ≤ x by omega)])
      all_goals (first | rw [if_pos (show 9223372036854775808 ≤ y by omega)] | rw [if_neg (show ¬ 9223372036854775808 ≤ y by omega)])
      all_goals by_cases z : (decide (rg x = 0) && decide (rg y = 0)) = true
      all_goals rw [Bool.eq_iff_iff]
      all_goals (first | rw [if_pos z] | rw [if_neg z])
      all_goals simp only [Bool.and_eq_true, decide_eq_true_eq, Bool.false_eq_true, true_iff, false_iff] at *
      all_goals omega
end Go.Proofs.YtiecjhdhhaldpaaGreatDoor.Q
