/- Numbers in groups of seven bits, and in eight bytes: plain lists, no program. -/
import Derived.WalkKit
namespace Go.Proofs.YtdelppndoepkbaaDoor.Enc

/-- A number's lowest eight bits as a byte (behind a name: the walk's simp would take 'ofNat' of a sum apart). -/
def b8 (n : Nat) : UInt8 := UInt8.ofNat n
theorem b8_toNat (n : Nat) : (b8 n).toNat = n % 256 := by unfold b8; rw [UInt8.toNat_ofNat']
/-- A number in groups of seven bits. -/
def enc (n : Nat) : List UInt8 := if n < 128 then [b8 n] else b8 (128 + n % 128) :: enc (n / 128)
decreasing_by omega
theorem enc_small {n : Nat} (h : n < 128) : enc n = [b8 n] := by rw [enc, if_pos h]
theorem enc_great {n : Nat} (h : ¬ n < 128) : enc n = b8 (128 + n % 128) :: enc (n / 128) := by rw [enc, if_neg h]
theorem enc_pos (n : Nat) : 1 ≤ (enc n).length := by
  by_cases h : n < 128
  · rw [enc_small h]; simp
  · rw [enc_great h]; simp
theorem enc_le (k : Nat) : ∀ n : Nat, n < 128 ^ (k + 1) → (enc n).length ≤ k + 1 := by
  induction k with
  | zero => intro n h; rw [enc_small (by simpa using h)]; simp
  | succ k ih =>
    intro n h
    by_cases hn : n < 128
    · rw [enc_small hn]; simp
    · rw [enc_great hn]
      have := ih (n / 128) (by rw [Nat.pow_succ] at h; omega)
      simp; omega
theorem enc_ten {n : Nat} (h : n < 18446744073709551616) : (enc n).length ≤ 10 := enc_le 9 n (by omega)

/-- Eight bytes, the highest first. -/
def fix (n : Nat) : List UInt8 := (List.range 8).map fun i => b8 (n / 256 ^ (7 - i) % 256)
theorem fix_length (n : Nat) : (fix n).length = 8 := by simp [fix]
theorem fix_take (n k : Nat) (h : k < 8) : (fix n).take (k + 1) = (fix n).take k ++ [b8 (n / 256 ^ (7 - k) % 256)] := by
  rw [List.take_add_one]
  congr 1
  simp [fix, h]

theorem or_128 : ∀ a, a < 256 → a ||| 128 = 128 + a % 128 := by decide +kernel
theorem byte_or (y : Int) (h : 0 ≤ y) : bits .or .u8 (y % 256) 128 = ((b8 (128 + y.toNat % 128)).toNat : Int) := by
  obtain ⟨n, rfl⟩ := Int.eq_ofNat_of_zero_le h
  have h1 : ((n : Int) % 256) = ((n % 256 : Nat) : Int) := by omega
  have hlt : n % 256 < 256 := Nat.mod_lt _ (by omega)
  rw [h1, show (128 : Int) = ((128 : Nat) : Int) from rfl, u8_or_nat _ _ hlt (by omega), or_128 _ hlt]
  simp only [Int.toNat_natCast, b8_toNat]
  omega
theorem byte_low (y : Int) (h : 0 ≤ y) (h1 : y < 128) : y % 256 = ((b8 y.toNat).toNat : Int) := by
  simp only [b8_toNat]
  omega
theorem byte_any (y : Int) (h : 0 ≤ y) : y % 256 = ((b8 (y.toNat % 256)).toNat : Int) := by
  simp only [b8_toNat]
  omega

theorem fix_byte (x : Int) (k : Nat) (h : 0 ≤ x) : x / 2 ^ (8 * (7 - k)) % 256 = ((b8 (x.toNat / 256 ^ (7 - k) % 256)).toNat : Int) := by
  obtain ⟨n, rfl⟩ := Int.eq_ofNat_of_zero_le h
  have hp : 256 ^ (7 - k) = 2 ^ (8 * (7 - k)) := by rw [Nat.pow_mul]
  rw [b8_toNat, Int.toNat_natCast, Nat.mod_mod, hp, Int.natCast_emod, Int.natCast_ediv, Int.natCast_pow]
  rfl
/-- What digits.Take reads: the number, how many bytes, the error. i bytes ahead have been read, they come to n. -/
def tk (i n : Nat) : List UInt8 → Nat × Nat × Nat
  | [] => (0, 0, 5)
  | b :: r => if (0 < i ∧ b = 0) ∨ (i = 9 ∧ 1 < b.toNat) then (0, 0, 4) else if b.toNat < 128 then (n + b.toNat * 2 ^ (7 * i), i + 1, 0) else tk (i + 1) (n + (b.toNat % 128) * 2 ^ (7 * i)) r

theorem b8_zero {n : Nat} (h : n < 256) : b8 n = 0 ↔ n = 0 := by
  rw [← UInt8.toNat_inj, b8_toNat]
  simp
  omega

theorem tk_enc (q : List UInt8) : ∀ (n i m : Nat), n * 2 ^ (7 * i) < 18446744073709551616 → i ≤ 9 → (0 < i → 0 < n) → tk i m (enc n ++ q) = (m + n * 2 ^ (7 * i), i + (enc n).length, 0) := by
  intro n
  induction n using Nat.strongRecOn with
  | _ n ih =>
    intro i m hb hi hp
    by_cases hn : n < 128
    · rw [enc_small hn]
      simp only [List.cons_append, List.nil_append, tk, List.length_cons, List.length_nil]
      have h1 : (b8 n).toNat = n := by rw [b8_toNat]; omega
      have h9 : ¬ (i = 9 ∧ 1 < n) := by
        rintro ⟨rfl, h⟩
        have : 2 * 2 ^ (7 * 9) ≤ n * 2 ^ (7 * 9) := Nat.mul_le_mul_right _ h
        omega
      rw [if_neg (by rw [h1, b8_zero (by omega)]; omega), h1, if_pos hn]
    · rw [enc_great hn]
      simp only [List.cons_append, tk, List.length_cons]
      have h1 : (b8 (128 + n % 128)).toNat = 128 + n % 128 := by rw [b8_toNat]; omega
      have h9 : i ≠ 9 := by
        rintro rfl
        have : 128 * 2 ^ (7 * 9) ≤ n * 2 ^ (7 * 9) := Nat.mul_le_mul_right _ (by omega)
        omega
      have hpow : 2 ^ (7 * (i + 1)) = 128 * 2 ^ (7 * i) := by rw [show 7 * (i + 1) = 7 + 7 * i by omega, Nat.pow_add]
      have hsum : n * 2 ^ (7 * i) = (n % 128) * 2 ^ (7 * i) + (n / 128) * 2 ^ (7 * (i + 1)) := by
        rw [hpow, ← Nat.mul_assoc, ← Nat.add_mul]
        congr 1
        omega
      rw [if_neg (by rw [h1, b8_zero (by omega)]; omega), h1, if_neg (by omega), show (128 + n % 128) % 128 = n % 128 by omega]
      rw [ih (n / 128) (by omega) (i + 1) _ (by omega) (by omega) (by omega), Nat.add_assoc, ← hsum]
      congr 2
      omega
theorem tk_lay (n : Nat) (h : n < 18446744073709551616) (q : List UInt8) : tk 0 0 (enc n ++ q) = (n, (enc n).length, 0) := by
  rw [tk_enc q n 0 0 (by omega) (by omega) (by omega)]
  simp
/-- How many bytes are read: no more than there are. -/
theorem tk_len : ∀ (l : List UInt8) (i n : Nat), (tk i n l).2.1 ≤ i + l.length := by
  intro l
  induction l with
  | nil => intro i n; simp [tk]
  | cons b r ih =>
    intro i n
    simp only [tk, List.length_cons]
    split
    · simp
    · split
      · simp only []; omega
      · have := ih (i + 1) (n + (b.toNat % 128) * 2 ^ (7 * i))
        omega

/-- One more group of seven bits. -/
theorem pow_u64 (k : Nat) (hk : k ≤ 8) : 2 ^ (7 * k) * 128 ≤ 18446744073709551616 := by
  have h : 2 ^ (7 * k) ≤ 2 ^ (7 * 8) := Nat.pow_le_pow_right (by omega) (by omega)
  omega
theorem andNot_128 (u : Nat) (h : u < 256) : bits .andNot .u8 (u : Int) 128 = ((u % 128 : Nat) : Int) := by
  rw [show (128 : Int) = ((128 : Nat) : Int) from rfl, u8_andNot_nat u 128 h (by omega)]
  congr 1
  rw [show 255 - 128 = 2 ^ 7 - 1 from rfl, Nat.and_two_pow_sub_one_eq_mod]
theorem and_128 : ∀ u, u < 256 → u &&& 128 = if u < 128 then 0 else 128 := by decide +kernel
theorem top_no (u : Nat) (h : u < 128) : (bits .and .u8 (u : Int) 128 == 0) = true := by
  rw [show (128 : Int) = ((128 : Nat) : Int) from rfl, u8_and_nat u 128 (by omega) (by omega), and_128 u (by omega), if_pos h]
  rfl
theorem top_yes (u : Nat) (h : u < 256) (h' : ¬ u < 128) : (bits .and .u8 (u : Int) 128 == 0) = false := by
  rw [show (128 : Int) = ((128 : Nat) : Int) from rfl, u8_and_nat u 128 (by omega) (by omega), and_128 u (by omega), if_neg h']
  rfl
theorem wrap_in (n : Nat) (h : n < 18446744073709551616) : IntKind.u64.wrap (n : Int) = (n : Int) := by
  rw [IntKind.wrap_u64]; omega
theorem num_step (m u k : Nat) (hm : m < 2 ^ (7 * k)) (hu : u < 256) (hk : k ≤ 9) (h9 : k = 9 → u % 128 ≤ 1) :
    bits .or .u64 (m : Int) (IntKind.u64.wrap (IntKind.u64.wrap (bits .andNot .u8 (u : Int) 128) * 2 ^ (7 * k))) = ((m + (u % 128) * 2 ^ (7 * k) : Nat) : Int) := by
  have hlt : u % 128 < 128 := Nat.mod_lt _ (by omega)
  have hb : (u % 128) * 2 ^ (7 * k) < 18446744073709551616 ∧ m < 18446744073709551616 := by
    by_cases h : k = 9
    · have := h9 h
      subst h
      have : (u % 128) * 2 ^ (7 * 9) ≤ 1 * 2 ^ (7 * 9) := Nat.mul_le_mul_right _ this
      omega
    · have h8 := pow_u64 k (by omega)
      have : (u % 128) * 2 ^ (7 * k) ≤ 127 * 2 ^ (7 * k) := Nat.mul_le_mul_right _ (by omega)
      have hp : 0 < 2 ^ (7 * k) := Nat.two_pow_pos _
      omega
  rw [andNot_128 u hu, wrap_in _ (by omega)]
  have e : ((u % 128 : Nat) : Int) * 2 ^ (7 * k) = (((u % 128) * 2 ^ (7 * k) : Nat) : Int) := by
    rw [Int.natCast_mul, Int.natCast_pow]; rfl
  rw [e, wrap_in _ hb.1, u64_or_nat _ _ hb.2 hb.1]
  congr 1
  rw [Nat.mul_comm (u % 128), Nat.or_comm, ← Nat.two_pow_add_eq_or_of_lt hm, Nat.add_comm]
theorem next_lt (m u k : Nat) (hm : m < 2 ^ (7 * k)) : m + (u % 128) * 2 ^ (7 * k) < 2 ^ (7 * (k + 1)) := by
  have hpow : 2 ^ (7 * (k + 1)) = 128 * 2 ^ (7 * k) := by rw [show 7 * (k + 1) = 7 + 7 * k by omega, Nat.pow_add]
  have : (u % 128) * 2 ^ (7 * k) ≤ 127 * 2 ^ (7 * k) := Nat.mul_le_mul_right _ (by have := Nat.mod_lt u (show 128 > 0 by omega); omega)
  omega
theorem tk_bad0 {i n : Nat} {b : UInt8} {r : List UInt8} (h : 0 < i) (hb : b.toNat = 0) : tk i n (b :: r) = (0, 0, 4) := by
  rw [tk, if_pos (.inl ⟨h, UInt8.toNat_inj.1 hb⟩)]
theorem tk_bad9 {n : Nat} {b : UInt8} {r : List UInt8} (hb : 1 < b.toNat) : tk 9 n (b :: r) = (0, 0, 4) := by
  rw [tk, if_pos (.inr ⟨rfl, hb⟩)]
theorem tk_end {i n : Nat} {b : UInt8} {r : List UInt8} (h0 : i = 0 ∨ b.toNat ≠ 0) (h9 : i = 9 → b.toNat ≤ 1) (hb : b.toNat < 128) : tk i n (b :: r) = (n + (b.toNat % 128) * 2 ^ (7 * i), i + 1, 0) := by
  have h : ¬ ((0 < i ∧ b = 0) ∨ (i = 9 ∧ 1 < b.toNat)) := by
    rintro (⟨h1, h2⟩ | ⟨h1, h2⟩)
    · subst h2
      rcases h0 with h0 | h0
      · omega
      · exact h0 rfl
    · have := h9 h1; omega
  rw [tk, if_neg h, if_pos hb, show b.toNat % 128 = b.toNat by omega]
theorem tk_next {i n : Nat} {b : UInt8} {r : List UInt8} (h9 : i ≠ 9) (hb : ¬ b.toNat < 128) : tk i n (b :: r) = tk (i + 1) (n + (b.toNat % 128) * 2 ^ (7 * i)) r := by
  have h : ¬ ((0 < i ∧ b = 0) ∨ (i = 9 ∧ 1 < b.toNat)) := by
    rintro (⟨h1, h2⟩ | ⟨h1, h2⟩)
    · subst h2; exact hb (by decide)
    · exact h9 h1
  rw [tk, if_neg h, if_neg hb]
end Go.Proofs.YtdelppndoepkbaaDoor.Enc
