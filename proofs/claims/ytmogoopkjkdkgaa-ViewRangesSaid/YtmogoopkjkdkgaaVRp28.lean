/- Layer 15: the law ViewRanges. -/
import Derived.Test.YtmogoopkjkdkgaaVRp24
import Derived.Test.YtmogoopkjkdkgaaVRp25
import Derived.Test.YtmogoopkjkdkgaaVRp26
import Derived.Test.YtmogoopkjkdkgaaVRp27
namespace Go.Proofs.Ytmogoopkjkdkgaa.Vw
open Go Go.RowKit Go.Proofs.Ytmogoopkjkdkgaa.Words Go.Proofs.Ytmogoopkjkdkgaa.Enc Go.Proofs.Ytmogoopkjkdkgaa.Q Go.Proofs.Ytmogoopkjkdkgaa.Evt Go.Proofs.Ytmogoopkjkdkgaa.Seg Go.Proofs.Ytmogoopkjkdkgaa.Fol Go.Proofs.Ytmogoopkjkdkgaa.Ord
set_option linter.unusedVariables false
set_option linter.unusedSimpArgs false

set_option maxRecDepth 100000 in
set_option maxHeartbeats 2000000 in
theorem ranges_long (A : Option Addr) (n c : Nat) (l : List Nat) (ca tm : Nat) (sw most : Int) (near : Bool) (w : World) (hn : 60 < n) :
    Calls Try.prog 3 #[.slice A n c, .int .u8 (ca : Int), .agg #[.int .u64 (tm : Int), .int .i64 sw], .int .i64 most, .bool near] w fun e w' => e = .returned (.bool true) ∧ Below w.heap.size w w' := by
  have AW := fun w => awakeV_yes w
  obtain ⟨w1, hw1⟩ : ∃ u, u = w.alloc (.cells #[.int .u64 (tm : Int), .int .i64 sw] 25) := ⟨_, rfl⟩
  have HB1 := Lib.hid (show Below w.heap.size w w1 by rw [hw1]; exact (Below.refl _ _).alloc (Nat.le_refl _) _)
  have HW1 := Lib.hid hw1
  have zb : (60 : Int) < (n : Int) := by omega
  clear hw1
  go_enter Try.func3, Try.ntmps3
  go_upto_region 1 with fail
  rw [← HW1.out]
  go_wp2_with fail
  refine (AW w1).mono ?_
  rintro e w2 ⟨rfl, hb2⟩
  go_wp2_with fail
  refine (AW w2).mono ?_
  rintro e w3 ⟨rfl, hb3⟩
  have HF := Lib.hid (HB1.out.trans ((hb2.trans (hb3.mono hb2.size)).mono HB1.out.size))
  clear hb2 hb3
  go_wp2
  go_ret
  exact ⟨rfl, HF.out⟩
theorem ranges_law (A : Option Addr) (n c : Nat) (l : List Nat) (ca tm : Nat) (sw most : Int) (near : Bool) (w : World) (h : SeesH w A n l) (hca : ca < 256) (htm : tm < 18446744073709551616) (hsw : -9223372036854775808 ≤ sw ∧ sw ≤ 9223372036854775807) (hmo : -9223372036854775808 ≤ most ∧ most ≤ 9223372036854775807) :
    Calls Try.prog 3 #[.slice A n c, .int .u8 (ca : Int), .agg #[.int .u64 (tm : Int), .int .i64 sw], .int .i64 most, .bool near] w fun e w' => e = .returned (.bool true) ∧ Below w.heap.size w w' := by
  by_cases hn : 60 < n
  · exact ranges_long A n c l ca tm sw most near w hn
  · by_cases hp : ca % (n + 1) = 0
    · cases near with
      | false => exact ranges_any0 A n c l ca tm sw most w h (by omega) hca htm hsw hmo hp
      | true => exact ranges_near0 A n c l ca tm sw most w h (by omega) hca htm hsw hmo hp
    · cases near with
      | false => exact ranges_any1 A n c l ca tm sw most w h (by omega) hca htm hsw hmo hp
      | true => exact ranges_near1 A n c l ca tm sw most w h (by omega) hca htm hsw hmo hp
end Go.Proofs.Ytmogoopkjkdkgaa.Vw
