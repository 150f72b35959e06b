/- CRC-32C on bits: plain words on BitVec 32, no program. CRC-32C by two tables of sixteen: plain words on BitVec 32, no program. -/
import Derived.WalkKit
namespace Go.Proofs.YtokfajlmephdeaaDoor.Crc

def poly : BitVec 32 := 0x1edc6f41#32
/-- One bit, by the highest bit first. -/
def step (s : BitVec 32) (b : Bool) : BitVec 32 := if b = s.msb then s <<< 1 else (s <<< 1) ^^^ poly
/-- The first k bits of a byte, the lowest first. -/
def bits (s : BitVec 32) (u : UInt8) : Nat → BitVec 32
  | 0 => s
  | k + 1 => step (bits s u k) (u.toNat.testBit k)
def byte (s : BitVec 32) (u : UInt8) : BitVec 32 := bits s u 8
def run (l : List UInt8) : BitVec 32 := l.foldl byte (BitVec.allOnes 32)
/-- The sum: the state turned, and its bits turned back. -/
def sum (l : List UInt8) : BitVec 32 := (~~~ (run l)).reverse

theorem run_snoc (l : List UInt8) (u : UInt8) : run (l ++ [u]) = byte (run l) u := by simp [run, List.foldl_append]

/-! linear -/
theorem step_xor (a b : BitVec 32) (x y : Bool) : step (a ^^^ b) (x ^^ y) = step a x ^^^ step b y := by
  unfold step
  rw [BitVec.msb_xor, BitVec.shiftLeft_xor_distrib]
  generalize a <<< 1 = c
  generalize b <<< 1 = d
  cases a.msb <;> cases b.msb <;> cases x <;> cases y <;> simp <;> first | rfl | (ext i; simp; try grind)
theorem bits_xor (a b : BitVec 32) (u v : UInt8) : ∀ k, bits (a ^^^ b) (u ^^^ v) k = bits a u k ^^^ bits b v k
  | 0 => rfl
  | k + 1 => by
    simp only [bits]
    rw [bits_xor a b u v k, ← step_xor]
    congr 1
    rw [UInt8.toNat_xor, Nat.testBit_xor]
theorem byte_xor (a b : BitVec 32) (u v : UInt8) : byte (a ^^^ b) (u ^^^ v) = byte a u ^^^ byte b v := bits_xor a b u v 8
/-- A byte that isn't nought leaves a mark. -/
theorem byte_mark : ∀ n : Fin 256, n.val ≠ 0 → byte 0#32 (UInt8.ofNat n.val) ≠ 0#32 := by decide +kernel
theorem step_inj {a b : BitVec 32} {x : Bool} (h : step a x = step b x) : a = b := by
  have h0 : step (a ^^^ b) false = 0#32 := by
    have := step_xor a b x x
    rw [h, BitVec.xor_self] at this
    simpa using this
  have hz : a ^^^ b = 0#32 := by
    generalize a ^^^ b = c at h0
    unfold step at h0
    cases hm : c.msb with
    | false =>
      rw [hm] at h0
      simp only [if_true] at h0
      apply BitVec.eq_of_toNat_eq
      have h1 := congrArg BitVec.toNat h0
      have h2 : c.toNat < 2 ^ 31 := by
        rw [BitVec.msb_eq_decide] at hm
        simpa using hm
      simp [BitVec.toNat_shiftLeft, Nat.shiftLeft_eq] at h1 ⊢
      omega
    | true =>
      rw [hm] at h0
      simp only [Bool.false_eq_true, if_false] at h0
      have h1 := congrArg (fun v : BitVec 32 => v.getLsbD 0) h0
      simp [poly] at h1
  have : a = b := by
    have := congrArg (fun v => v ^^^ b) hz
    simpa [BitVec.xor_assoc] using this
  exact this
theorem bits_inj {a b : BitVec 32} {u : UInt8} : ∀ k, bits a u k = bits b u k → a = b
  | 0, h => h
  | k + 1, h => bits_inj k (step_inj h)
theorem byte_inj {a b : BitVec 32} {u : UInt8} (h : byte a u = byte b u) : a = b := bits_inj 8 h
theorem byte_inj' {a : BitVec 32} {u v : UInt8} (h : byte a u = byte a v) : u = v := by
  have := byte_xor a a u v
  rw [h, BitVec.xor_self, BitVec.xor_self] at this
  by_cases hz : (u ^^^ v).toNat = 0
  · have : u ^^^ v = 0 := UInt8.toNat_inj.1 hz
    exact UInt8.xor_eq_zero_iff.1 this
  · exfalso
    have hlt := (u ^^^ v).toNat_lt
    have hm := byte_mark ⟨(u ^^^ v).toNat, hlt⟩ hz
    apply hm
    rw [show UInt8.ofNat (u ^^^ v).toNat = u ^^^ v by simp]
    exact this
theorem foldl_inj : ∀ (l : List UInt8) {a b : BitVec 32}, l.foldl byte a = l.foldl byte b → a = b
  | [], _, _, h => h
  | _ :: l, _, _, h => byte_inj (foldl_inj l h)
/-- One byte that is another one: another sum. -/
theorem sum_ne (l m : List UInt8) (u v : UInt8) (h : u ≠ v) : sum (l ++ u :: m) ≠ sum (l ++ v :: m) := by
  intro he
  apply h
  unfold sum at he
  have h1 := congrArg BitVec.reverse he
  rw [BitVec.reverse_reverse_eq, BitVec.reverse_reverse_eq] at h1
  have h2 := congrArg (fun x : BitVec 32 => ~~~ x) h1
  simp only [BitVec.not_not] at h2
  simp only [run, List.foldl_append, List.foldl_cons] at h2
  exact byte_inj' (foldl_inj m h2)

/-! ### how the numbers of the program stand to the bits -/
open Go in
theorem bit_and (u : UInt8) (j : Nat) : Go.bits .and .u32 ((u.toNat : Int) / 2 ^ j % 4294967296) 1 = if u.toNat.testBit j then 1 else 0 := by
  have hu := u.toNat_lt
  have e : (u.toNat : Int) / 2 ^ j % 4294967296 = ((u.toNat / 2 ^ j : Nat) : Int) := by
    have h1 : ((u.toNat / 2 ^ j : Nat) : Int) = (u.toNat : Int) / 2 ^ j := by rw [Int.natCast_ediv, Int.natCast_pow]; rfl
    have h2 : u.toNat / 2 ^ j ≤ u.toNat := Nat.div_le_self _ _
    rw [← h1]
    exact Int.emod_eq_of_lt (Int.natCast_nonneg _) (by omega)
  have h2 : u.toNat / 2 ^ j ≤ u.toNat := Nat.div_le_self _ _
  rw [e, show (1 : Int) = ((1 : Nat) : Int) from rfl, u32_and_nat _ _ (by omega) (by omega), Nat.and_one_is_mod, Nat.testBit_eq_decide_div_mod_eq]
  by_cases h : u.toNat / 2 ^ j % 2 = 1
  · simp [h]
  · have : u.toNat / 2 ^ j % 2 = 0 := by omega
    simp [this]
theorem top_bit (s : BitVec 32) : (s.toNat : Int) / 2147483648 = if s.msb then 1 else 0 := by
  rw [BitVec.msb_eq_decide]
  have := s.isLt
  by_cases h : 2 ^ (32 - 1) ≤ s.toNat
  · simp [h]; omega
  · simp [h]; omega
theorem shl_one (s : BitVec 32) : ((s.toNat : Nat) : Int) * (2 : Int) % (4294967296 : Int) = (((s <<< 1).toNat : Nat) : Int) := by
  rw [BitVec.toNat_shiftLeft, Nat.shiftLeft_eq]
  omega
open Go in
theorem xor_poly (t : BitVec 32) : Go.bits .xor .u32 (t.toNat : Int) 517762881 = ((t ^^^ poly).toNat : Int) := by
  have := t.isLt
  rw [show (517762881 : Int) = ((517762881 : Nat) : Int) from rfl, u32_xor_nat _ _ (by omega) (by omega), BitVec.toNat_xor]
  rfl
open Go in
theorem step_ne {s : BitVec 32} {u : UInt8} {j : Nat} (h : (Go.bits .and .u32 ((u.toNat : Int) / 2 ^ j % 4294967296) 1 != (s.toNat : Int) / 2147483648) = true) :
    Go.bits .xor .u32 ((s.toNat : Int) * 2 % 4294967296) 517762881 = ((step s (u.toNat.testBit j)).toNat : Int) := by
  rw [bit_and, top_bit] at h
  rw [shl_one, xor_poly]
  unfold step
  rw [if_neg]
  intro e
  rw [e] at h
  simp at h
open Go in
theorem step_eq {s : BitVec 32} {u : UInt8} {j : Nat} (h : (Go.bits .and .u32 ((u.toNat : Int) / 2 ^ j % 4294967296) 1 != (s.toNat : Int) / 2147483648) = false) :
    (s.toNat : Int) * 2 % 4294967296 = ((step s (u.toNat.testBit j)).toNat : Int) := by
  rw [bit_and, top_bit] at h
  rw [shl_one]
  unfold step
  rw [if_pos]
  cases h1 : u.toNat.testBit j <;> cases h2 : s.msb <;> rw [h1, h2] at h <;> simp at h <;> rfl

open Go in
theorem not_u32 (r : BitVec 32) : Go.bits .xor .u32 IntKind.u32.max (r.toNat : Int) = ((~~~ r).toNat : Int) := by
  have := r.isLt
  rw [show IntKind.u32.max = ((4294967295 : Nat) : Int) from rfl, u32_xor_nat _ _ (by omega) (by omega), ← BitVec.allOnes_xor, BitVec.toNat_xor]
  rfl
/-- The bits turned back, one by one. -/
def back (t : BitVec 32) : Nat → BitVec 32
  | 0 => 0#32
  | i + 1 => (back t i <<< 1) ||| ((t >>> i) &&& 1#32)
open Go in
theorem back_step (t : BitVec 32) (i : Nat) : Go.bits .or .u32 (((back t i).toNat : Int) * (2 : Int) % (4294967296 : Int)) (Go.bits .and .u32 ((t.toNat : Int) / 2 ^ i) 1) = ((back t (i + 1)).toNat : Int) := by
  have h1 := t.isLt
  have h2 : t.toNat / 2 ^ i ≤ t.toNat := Nat.div_le_self _ _
  have e : (t.toNat : Int) / 2 ^ i = ((t.toNat / 2 ^ i : Nat) : Int) := by rw [Int.natCast_ediv, Int.natCast_pow]; rfl
  have h3 : t.toNat / 2 ^ i &&& 1 < 2 := by rw [Nat.and_one_is_mod]; omega
  have h4 := (back t i <<< 1).isLt
  rw [e, show (1 : Int) = ((1 : Nat) : Int) from rfl, u32_and_nat _ _ (by omega) (by omega), shl_one, u32_or_nat _ _ (by omega) (by omega)]
  simp only [back, BitVec.toNat_or, BitVec.toNat_and, BitVec.toNat_ushiftRight, Nat.shiftRight_eq_div_pow]
  rfl
theorem back_bit (t : BitVec 32) : ∀ i, i ≤ 32 → ∀ p, p < 32 → (back t i).getLsbD p = (decide (p < i) && t.getLsbD (i - 1 - p))
  | 0, _, p, _ => by simp [back]
  | i + 1, hi, p, hp => by
    simp only [back, BitVec.getLsbD_or, BitVec.getLsbD_shiftLeft, BitVec.getLsbD_and, BitVec.getLsbD_ushiftRight]
    by_cases h0 : p = 0
    · subst h0
      simp
    · have ih := back_bit t i (by omega) (p - 1) (by omega)
      rw [ih]
      have : ((1#32).getLsbD p) = false := by simp [h0]
      rw [this]
      simp only [hp, decide_true, Bool.true_and, Bool.and_false, Bool.or_false]
      rw [show (decide (p < 1)) = false by simp; omega, show decide (p - 1 < i) = decide (p < i + 1) by simp; omega, show i - 1 - (p - 1) = i + 1 - 1 - p by omega]
      simp
theorem back_all (t : BitVec 32) : back t 32 = t.reverse := by
  apply BitVec.eq_of_getLsbD_eq
  intro p hp
  rw [back_bit t 32 (by omega) p hp, BitVec.getLsbD_reverse, BitVec.getMsbD_eq_getLsbD]
end Go.Proofs.YtokfajlmephdeaaDoor.Crc
namespace Go.Proofs.YtokfajlmephdeaaDoor.Crc

def lowTab : List Nat := [0, 4067132163, 3778769143, 324072436, 3348797215, 904991772, 648144872, 3570033899, 2329499855, 2024987596, 1809983544, 2575936315, 1296289744, 3207089363, 2893594407, 1578318884]
def highTab : List Nat := [0, 274646895, 549293790, 820201905, 1098587580, 1361435347, 1640403810, 1905808397, 2197175160, 2460548119, 2722870694, 2987750089, 3280807620, 3553878443, 3811616794, 4084100981]
def lowAt (i : Nat) : Nat := lowTab.getD i 0
def highAt (i : Nat) : Nat := highTab.getD i 0
theorem lowAt_lt (i : Nat) (h : i < 16) : lowAt i < 4294967296 := (by decide : ∀ i : Fin 16, lowAt i.val < 4294967296) ⟨i, h⟩
theorem highAt_lt (i : Nat) (h : i < 16) : highAt i < 4294967296 := (by decide : ∀ i : Fin 16, highAt i.val < 4294967296) ⟨i, h⟩

theorem tab_byte : ∀ x : Fin 256, (byte 0#32 (UInt8.ofNat x.val)).reverse = BitVec.ofNat 32 (lowAt (x.val % 16)) ^^^ BitVec.ofNat 32 (highAt (x.val / 16)) := by decide +kernel
theorem top_byte : ∀ v : Fin 256, byte (BitVec.ofNat 32 v.val).reverse (UInt8.ofNat v.val) = 0#32 := by decide +kernel

theorem reverse_xor (a b : BitVec 32) : (a ^^^ b).reverse = a.reverse ^^^ b.reverse := by
  apply BitVec.eq_of_getLsbD_eq
  intro i hi
  rw [BitVec.getLsbD_xor, BitVec.getLsbD_reverse, BitVec.getLsbD_reverse, BitVec.getLsbD_reverse, BitVec.getMsbD_xor]
theorem step_small (s : BitVec 32) (h : s.toNat < 2 ^ 31) : step s false = s <<< 1 := by
  unfold step
  rw [if_pos]
  rw [BitVec.msb_eq_decide]
  simp; omega
theorem bits_small (s : BitVec 32) (h : s.toNat < 2 ^ 24) : ∀ k, k ≤ 8 → bits s 0 k = s <<< k
  | 0, _ => by simp [bits]
  | k + 1, hk => by
    simp only [bits]
    rw [bits_small s h k (by omega)]
    have h0 : (0 : UInt8).toNat.testBit k = false := by simp
    rw [h0, step_small, BitVec.shiftLeft_add]
    rw [BitVec.toNat_shiftLeft, Nat.shiftLeft_eq]
    have h1 : 2 ^ k ≤ 2 ^ 7 := Nat.pow_le_pow_right (by omega) (by omega)
    have h2 : s.toNat * 2 ^ k ≤ s.toNat * 2 ^ 7 := Nat.mul_le_mul_left _ h1
    have h3 := Nat.mod_le (s.toNat * 2 ^ k) (2 ^ 32)
    omega
/-- One byte, by the state turned round. -/
theorem byte_tab (r : BitVec 32) (u : UInt8) :
    (byte r.reverse u).reverse = (r >>> 8) ^^^ BitVec.ofNat 32 (lowAt ((u.toNat ^^^ (r.toNat % 256)) % 16)) ^^^ BitVec.ofNat 32 (highAt ((u.toNat ^^^ (r.toNat % 256)) / 16)) := by
  have hv : r.toNat % 256 < 256 := Nat.mod_lt _ (by omega)
  generalize hve : r.toNat % 256 = n at hv
  have hx : u.toNat ^^^ n < 256 := Nat.xor_lt_two_pow (n := 8) u.toNat_lt hv
  have e1 := tab_byte ⟨u.toNat ^^^ n, hx⟩
  have e2 := top_byte ⟨n, hv⟩
  simp only at e1 e2
  have hnu : (UInt8.ofNat n).toNat = n := by rw [UInt8.toNat_ofNat']; omega
  have hu : u = (0 ^^^ UInt8.ofNat n) ^^^ UInt8.ofNat (u.toNat ^^^ n) := by
    apply UInt8.toNat_inj.1
    rw [UInt8.toNat_xor, UInt8.toNat_xor, hnu, UInt8.toNat_ofNat', Nat.mod_eq_of_lt hx]
    have z : (0 : UInt8).toNat = 0 := rfl
    rw [z, Nat.zero_xor, Nat.xor_comm n, Nat.xor_assoc, Nat.xor_self, Nat.xor_zero]
  generalize ht : BitVec.ofNat 32 n = t at e2
  have htn : t.toNat = n := by rw [← ht, BitVec.toNat_ofNat]; omega
  have hs : r.reverse = ((r ^^^ t).reverse ^^^ t.reverse) ^^^ 0#32 := by
    rw [← reverse_xor, BitVec.xor_assoc, BitVec.xor_self, BitVec.xor_zero, BitVec.xor_zero]
  have hbit : ∀ i, i < 8 → t.getLsbD i = r.getLsbD i := by
    intro i hi
    rw [BitVec.getLsbD, BitVec.getLsbD, htn, ← hve]
    have := Nat.testBit_mod_two_pow r.toNat 8 i
    rw [show (256 : Nat) = 2 ^ 8 by rfl, this]
    simp [hi]
  have hbit2 : ∀ i, 8 ≤ i → t.getLsbD i = false := by
    intro i hi
    rw [BitVec.getLsbD, htn]
    exact Nat.testBit_lt_two_pow (Nat.lt_of_lt_of_le hv (by simpa using Nat.pow_le_pow_right (n := 2) (by omega) hi))
  have hlt : ((r ^^^ t).reverse).toNat < 2 ^ 24 := by
    apply Nat.lt_pow_two_of_testBit
    intro j hj
    show BitVec.getLsbD _ j = false
    rw [BitVec.getLsbD_reverse, BitVec.getMsbD_eq_getLsbD]
    by_cases h32 : j < 32
    · simp [h32, hbit (31 - j) (by omega)]
    · simp [h32]
  have hsh : ((r ^^^ t).reverse <<< 8).reverse = r >>> 8 := by
    apply BitVec.eq_of_getLsbD_eq
    intro i hi
    rw [BitVec.getLsbD_reverse, BitVec.getMsbD_eq_getLsbD, BitVec.getLsbD_shiftLeft, BitVec.getLsbD_reverse, BitVec.getMsbD_eq_getLsbD, BitVec.getLsbD_ushiftRight, BitVec.getLsbD_xor]
    by_cases h24 : i < 24
    · rw [show 32 - 1 - (32 - 1 - i - 8) = 8 + i by omega, hbit2 _ (by omega)]
      simp [hi, show ¬ 31 - i < 8 by omega, show 31 - i < 32 by omega, show 31 - i - 8 < 32 by omega]
    · have : r.getLsbD (8 + i) = false := by apply BitVec.getLsbD_of_ge; omega
      rw [this]
      simp [hi, show 31 - i < 8 by omega]
  rw [hs, hu, byte_xor, byte_xor, e2, reverse_xor, reverse_xor, e1]
  show (bits _ 0 8).reverse ^^^ _ ^^^ _ = _
  rw [bits_small _ hlt 8 (by omega), hsh]
  have hu2 : (UInt8.ofNat (u.toNat ^^^ n)).toNat = u.toNat ^^^ n := by rw [UInt8.toNat_ofNat']; omega
  have hz : (0#32 : BitVec 32).reverse = 0#32 := by decide +kernel
  rw [hz, BitVec.xor_zero, ← BitVec.xor_assoc]
  have z : ∀ m : Nat, m < 256 → ((0 ^^^ UInt8.ofNat n) ^^^ UInt8.ofNat m).toNat ^^^ n = m := by
    intro m hm
    have z0 : (0 : UInt8).toNat = 0 := rfl
    rw [UInt8.toNat_xor, UInt8.toNat_xor, hnu, UInt8.toNat_ofNat', Nat.mod_eq_of_lt hm, z0, Nat.zero_xor, Nat.xor_comm n, Nat.xor_assoc, Nat.xor_self, Nat.xor_zero]
  rw [← hu]
end Go.Proofs.YtokfajlmephdeaaDoor.Crc
