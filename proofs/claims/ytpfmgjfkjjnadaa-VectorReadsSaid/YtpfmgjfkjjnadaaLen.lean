/- digits.Size: how many bytes a number has: its contract, out of that of math/bits.Len64. -/
import Derived.Test.YtpfmgjfkjjnadaaRows
import Derived.Test.YtpfmgjfkjjnadaaEnc
import Derived.Test.YtpfmgjfkjjnadaaShelf
import Derived.Handy
import Derived.Lib.Hide
namespace Go.Proofs.Ytpfmgjfkjjnadaa.Len
open Go Go.RowKit Go.Proofs.Ytpfmgjfkjjnadaa.Enc

theorem bitLen_small : ∀ m : Fin 128, 1 ≤ m.val → (Lib.bitLen m.val + 6) / 7 = 1 := by decide +kernel
theorem bitLen_enc : ∀ m : Nat, 1 ≤ m → m < 2 ^ 64 → (Lib.bitLen m + 6) / 7 = (enc m).length := by
  intro m
  induction m using Nat.strongRecOn with
  | _ m ih =>
    intro h1 h2
    by_cases hm : m < 128
    · rw [enc_small hm]; exact bitLen_small ⟨m, hm⟩ h1
    · have h : Lib.bitLen m = 7 + Lib.bitLen (m / 128) := Lib.bitLen_shift 7 m (by omega) h2
      have h' := ih (m / 128) (by omega) (by omega) (by omega)
      rw [enc_great hm, h]
      simp only [List.length_cons]
      rw [← h']
      omega
theorem or_one (n : Nat) : n ||| 1 = n / 2 * 2 + 1 := by
  apply Nat.eq_of_testBit_eq
  intro i
  rw [Nat.testBit_or]
  cases i with
  | zero => simp [Nat.testBit_zero]
  | succ i => simp [Nat.testBit_succ, show (n / 2 * 2 + 1) / 2 = n / 2 by omega]
theorem size_enc (n : Nat) (h : n < 2 ^ 64) : (Lib.bitLen (n ||| 1) + 6) / 7 = (enc n).length := by
  by_cases h0 : n = 0
  · subst h0
    rw [enc_small (by omega)]
    decide +kernel
  · rw [← bitLen_enc n (by omega) h]
    by_cases h1 : n = 1
    · subst h1; rfl
    · rw [or_one, Lib.bitLen_half _ (by omega) (by omega), Lib.bitLen_half n (by omega) h, show (n / 2 * 2 + 1) / 2 = n / 2 by omega]

set_option maxRecDepth 10000 in
theorem size_any (x : Int) (w : World) (h0 : 0 ≤ x) (h1 : x < 18446744073709551616) :
    Calls Try.prog 41 #[.int .u64 x] w fun e w' => e = .returned (.int .i64 ((enc x.toNat).length : Int)) ∧ w' = w := by
  obtain ⟨n, rfl⟩ := Int.eq_ofNat_of_zero_le h0
  rw [Int.toNat_natCast]
  have hor : bits .or .u64 (n : Int) 1 = ((n ||| 1 : Nat) : Int) := u64_or_nat n 1 (by omega) (by omega)
  have hs := size_enc n (by omega)
  have HS := Lib.hid hs
  clear hs
  have hlt : ((n ||| 1 : Nat) : Int) ≤ 18446744073709551615 := by rw [or_one]; omega
  go_enter Try.func41, Try.ntmps41
  go_wp2_with fail
  refine (Try.bits_Len64 _ _ (by omega) hlt).mono ?_
  rintro e w' ⟨rfl, rfl⟩
  rw [Int.toNat_natCast]
  have hb : Lib.bitLen (n ||| 1) ≤ 64 := Lib.bitLen_le _ 64 (Nat.le_refl _) (by omega)
  generalize Lib.bitLen (n ||| 1) = b at HS hb ⊢
  go_wp2
  go_ret
  have h := HS.out
  rw [← h]
  exact ⟨by simp; omega, rfl⟩
end Go.Proofs.Ytpfmgjfkjjnadaa.Len
