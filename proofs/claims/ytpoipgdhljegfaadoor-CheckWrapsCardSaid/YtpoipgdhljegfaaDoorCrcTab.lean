/- CRC-32C by two tables of sixteen: plain words on BitVec 32, no program. -/
import Derived.Test.YtpoipgdhljegfaaDoorCrc
namespace Go.Proofs.YtpoipgdhljegfaaDoor.Crc

def lowTab : List Nat := [0, 4067132163, 3778769143, 324072436, 3348797215, 904991772, 648144872, 3570033899, 2329499855, 2024987596, 1809983544, 2575936315, 1296289744, 3207089363, 2893594407, 1578318884]
def highTab : List Nat := [0, 274646895, 549293790, 820201905, 1098587580, 1361435347, 1640403810, 1905808397, 2197175160, 2460548119, 2722870694, 2987750089, 3280807620, 3553878443, 3811616794, 4084100981]
def lowAt (i : Nat) : Nat := lowTab.getD i 0
def highAt (i : Nat) : Nat := highTab.getD i 0
theorem lowAt_lt (i : Nat) (h : i < 16) : lowAt i < 4294967296 := (by decide : ∀ i : Fin 16, lowAt i.val < 4294967296) ⟨i, h⟩
theorem highAt_lt (i : Nat) (h : i < 16) : highAt i < 4294967296 := (by decide : ∀ i : Fin 16, highAt i.val < 4294967296) ⟨i, h⟩

theorem tab_byte : ∀ x : Fin 256, (byte 0#32 (UInt8.ofNat x.val)).reverse = BitVec.ofNat 32 (lowAt (x.val % 16)) ^^^ BitVec.ofNat 32 (highAt (x.val / 16)) := by decide +kernel
theorem top_byte : ∀ v : Fin 256, byte (BitVec.ofNat 32 v.val).reverse (UInt8.ofNat v.val) = 0#32 := by decide +kernel

theorem reverse_xor (a b : BitVec 32) : (a ^^^ b).reverse = a.reverse ^^^ b.reverse := by
  apply BitVec.eq_of_getLsbD_eq
  intro i hi
  rw [BitVec.getLsbD_xor, BitVec.getLsbD_reverse, BitVec.getLsbD_reverse, BitVec.getLsbD_reverse, BitVec.getMsbD_xor]
theorem step_small (s : BitVec 32) (h : s.toNat < 2 ^ 31) : step s false = s <<< 1 := by
  unfold step
  rw [if_pos]
  rw [BitVec.msb_eq_decide]
  simp; omega
theorem bits_small (s : BitVec 32) (h : s.toNat < 2 ^ 24) : ∀ k, k ≤ 8 → bits s 0 k = s <<< k
  | 0, _ => by simp [bits]
  | k + 1, hk => by
    simp only [bits]
    rw [bits_small s h k (by omega)]
    have h0 : (0 : UInt8).toNat.testBit k = false := by simp
    rw [h0, step_small, BitVec.shiftLeft_add]
    rw [BitVec.toNat_shiftLeft, Nat.shiftLeft_eq]
    have h1 : 2 ^ k ≤ 2 ^ 7 := Nat.pow_le_pow_right (by omega) (by omega)
    have h2 : s.toNat * 2 ^ k ≤ s.toNat * 2 ^ 7 := Nat.mul_le_mul_left _ h1
    have h3 := Nat.mod_le (s.toNat * 2 ^ k) (2 ^ 32)
    omega
/-- One byte, by the state turned round. -/
theorem byte_tab (r : BitVec 32) (u : UInt8) :
    (byte r.reverse u).reverse = (r >>> 8) ^^^ BitVec.ofNat 32 (lowAt ((u.toNat ^^^ (r.toNat % 256)) % 16)) ^^^ BitVec.ofNat 32 (highAt ((u.toNat ^^^ (r.toNat % 256)) / 16)) := by
  have hv : r.toNat % 256 < 256 := Nat.mod_lt _ (by omega)
  generalize hve : r.toNat % 256 = n at hv
  have hx : u.toNat ^^^ n < 256 := Nat.xor_lt_two_pow (n := 8) u.toNat_lt hv
  have e1 := tab_byte ⟨u.toNat ^^^ n, hx⟩
  have e2 := top_byte ⟨n, hv⟩
  simp only at e1 e2
  have hnu : (UInt8.ofNat n).toNat = n := by rw [UInt8.toNat_ofNat']; omega
  have hu : u = (0 ^^^ UInt8.ofNat n) ^^^ UInt8.ofNat (u.toNat ^^^ n) := by
    apply UInt8.toNat_inj.1
    rw [UInt8.toNat_xor, UInt8.toNat_xor, hnu, UInt8.toNat_ofNat', Nat.mod_eq_of_lt hx]
    have z : (0 : UInt8).toNat = 0 := rfl
    rw [z, Nat.zero_xor, Nat.xor_comm n, Nat.xor_assoc, Nat.xor_self, Nat.xor_zero]
  generalize ht : BitVec.ofNat 32 n = t at e2
  have htn : t.toNat = n := by rw [← ht, BitVec.toNat_ofNat]; omega
  have hs : r.reverse = ((r ^^^ t).reverse ^^^ t.reverse) ^^^ 0#32 := by
    rw [← reverse_xor, BitVec.xor_assoc, BitVec.xor_self, BitVec.xor_zero, BitVec.xor_zero]
  have hbit : ∀ i, i < 8 → t.getLsbD i = r.getLsbD i := by
    intro i hi
    rw [BitVec.getLsbD, BitVec.getLsbD, htn, ← hve]
    have := Nat.testBit_mod_two_pow r.toNat 8 i
    rw [show (256 : Nat) = 2 ^ 8 by rfl, this]
    simp [hi]
  have hbit2 : ∀ i, 8 ≤ i → t.getLsbD i = false := by
    intro i hi
    rw [BitVec.getLsbD, htn]
    exact Nat.testBit_lt_two_pow (Nat.lt_of_lt_of_le hv (by simpa using Nat.pow_le_pow_right (n := 2) (by omega) hi))
  have hlt : ((r ^^^ t).reverse).toNat < 2 ^ 24 := by
    apply Nat.lt_pow_two_of_testBit
    intro j hj
    show BitVec.getLsbD _ j = false
    rw [BitVec.getLsbD_reverse, BitVec.getMsbD_eq_getLsbD]
    by_cases h32 : j < 32
    · simp [h32, hbit (31 - j) (by omega)]
    · simp [h32]
  have hsh : ((r ^^^ t).reverse <<< 8).reverse = r >>> 8 := by
    apply BitVec.eq_of_getLsbD_eq
    intro i hi
    rw [BitVec.getLsbD_reverse, BitVec.getMsbD_eq_getLsbD, BitVec.getLsbD_shiftLeft, BitVec.getLsbD_reverse, BitVec.getMsbD_eq_getLsbD, BitVec.getLsbD_ushiftRight, BitVec.getLsbD_xor]
    by_cases h24 : i < 24
    · rw [show 32 - 1 - (32 - 1 - i - 8) = 8 + i by omega, hbit2 _ (by omega)]
      simp [hi, show ¬ 31 - i < 8 by omega, show 31 - i < 32 by omega, show 31 - i - 8 < 32 by omega]
    · have : r.getLsbD (8 + i) = false := by apply BitVec.getLsbD_of_ge; omega
      rw [this]
      simp [hi, show 31 - i < 8 by omega]
  rw [hs, hu, byte_xor, byte_xor, e2, reverse_xor, reverse_xor, e1]
  show (bits _ 0 8).reverse ^^^ _ ^^^ _ = _
  rw [bits_small _ hlt 8 (by omega), hsh]
  have hu2 : (UInt8.ofNat (u.toNat ^^^ n)).toNat = u.toNat ^^^ n := by rw [UInt8.toNat_ofNat']; omega
  have hz : (0#32 : BitVec 32).reverse = 0#32 := by decide +kernel
  rw [hz, BitVec.xor_zero, ← BitVec.xor_assoc]
  have z : ∀ m : Nat, m < 256 → ((0 ^^^ UInt8.ofNat n) ^^^ UInt8.ofNat m).toNat ^^^ n = m := by
    intro m hm
    have z0 : (0 : UInt8).toNat = 0 := rfl
    rw [UInt8.toNat_xor, UInt8.toNat_xor, hnu, UInt8.toNat_ofNat', Nat.mod_eq_of_lt hm, z0, Nat.zero_xor, Nat.xor_comm n, Nat.xor_assoc, Nat.xor_self, Nat.xor_zero]
  rw [← hu]
end Go.Proofs.YtpoipgdhljegfaaDoor.Crc
