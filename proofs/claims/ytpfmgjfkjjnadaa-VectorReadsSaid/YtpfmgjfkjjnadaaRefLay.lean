/- anabranchref01.Lay: its contract. -/
import Derived.Test.YtpfmgjfkjjnadaaRows
import Derived.Test.YtpfmgjfkjjnadaaWords
import Derived.Test.YtpfmgjfkjjnadaaEnc
import Derived.Handy
import Derived.Test.YtpfmgjfkjjnadaaNew
namespace Go.Proofs.Ytpfmgjfkjjnadaa.Made
open Go Go.RowKit Go.Proofs.Ytpfmgjfkjjnadaa.Words Go.Proofs.Ytpfmgjfkjjnadaa.Enc
set_option linter.unusedVariables false
/-- anabranchref01.Lay. -/
theorem refLay_any (A : Option Addr) (n c : Nat) (l : List UInt8) (x : Int) (w : World) (hs : Sees w A n l) (hn : n ≤ 1000000000) (hx0 : 0 ≤ x) (hx : x < 18446744073709551616) :
    Calls Try.prog 32 #[.slice A n c, .int .u64 x] w (New w.heap.size (n + (enc x.toNat).length) (l ++ enc x.toNat) w) := by
  obtain ⟨i, hi, hz, hsz, hby⟩ := info_parts info8
  go_enter Try.func32, Try.ntmps32
  go_wp2_with (first | (at_builtin; refine wpList_app rfl _ _ 34 rfl w.heap.size 5 i (.int .u8 0) Try.underlying34 hi hz hsz hby rfl none 0 0 [] rfl (Own.nil _ _ _) A n c l rfl hs ?d1 ?d2 ?_))
  case d1 => omega
  case d2 => exact Nat.le_refl _
  intro A1 c1 w1 hown hb1
  have hbase := hb1.size
  have hll := hs.1
  go_wp2_with fail
  go_loopw [5, 1] (fun p v wr => ∃ (A' : Option Addr) (k c' : Nat) (q : List UInt8) (y : Int), p = .slice A' k c' ∧ v = .int .u64 y ∧ 0 ≤ y ∧ y < 18446744073709551616 ∧
      wr.ownsRow w.heap.size 5 1 (.slice A' k c') k (cs q) ∧ Hid (q ++ enc y.toNat = l ++ enc x.toNat) ∧ Below w.heap.size w wr) (fun _ v _ => (intOf v).toNat)
  case atStart => exact ⟨A1, n, c1, l, x, by simp, rfl, hx0, hx, by simpa using hown, rfl, hb1⟩
  case round =>
    obtain ⟨A', k, c', q, y, rfl, rfl, hy0, hy1, hown', hq, hb⟩ := hrel
    have hk : k ≤ 1000000010 := by
      have h1 := congrArg List.length hq.out
      have h2 := hown'.1
      have h4 := enc_ten (n := x.toNat) (by omega)
      rw [cs_length] at h2
      simp only [List.length_append] at h1
      omega
    have hwb := hb.size
    by_cases hlt : 127 < y
    · go_wp2_with (first | (at_builtin; refine wpList_app rfl _ _ 34 rfl w.heap.size 5 i (.int .u8 0) Try.underlying34 hi hz hsz hby rfl A' k c' q rfl (hown'.alloc _) _ 1 1 [b8 (128 + y.toNat % 128)] rfl (Sees.fresh wr _ _ _ ?e1) ?e2 ?e3 ?_))
      case e1 => rw [b8_toNat]; omega
      case e2 => omega
      case e3 => exact Nat.le_trans hwb (by simp)
      intro A2 c2 w2 hown2 hb2
      go_wp2
      go_roundw
      case rel => exact ⟨A2, k + 1, c2, q ++ [b8 (128 + y.toNat % 128)], y / 128, rfl, rfl, by omega, by omega, hown2, by
        have h := hq.out
        rw [enc_great (by omega)] at h
        rw [show (y / 128).toNat = y.toNat / 128 by omega, ← h]
        simp [Hid], (hb.alloc hwb _).trans hb2⟩
      case measure => simp [intOf]; omega
    · go_wp2_with (first | (at_builtin; refine wpList_app rfl _ _ 34 rfl w.heap.size 5 i (.int .u8 0) Try.underlying34 hi hz hsz hby rfl A' k c' q rfl (hown'.alloc _) _ 1 1 [b8 y.toNat] rfl (Sees.fresh wr _ _ _ ?f1) ?f2 ?f3 ?_))
      case f1 => have := byte_low y hy0 (by omega); omega
      case f2 => omega
      case f3 => exact Nat.le_trans hwb (by simp)
      intro A2 c2 w2 hown2 hb2
      go_wp2
      go_ret
      have h := hq.out
      rw [enc_small (by omega)] at h
      have hl : n + (enc x.toNat).length = k + 1 := by
        have h1 := congrArg List.length h
        have h2 := hown'.1
        rw [cs_length] at h2
        simp only [List.length_append, List.length_cons, List.length_nil] at h1
        omega
      rw [hl, ← h]
      exact ⟨A2, c2, rfl, hown2, (hb.alloc hwb _).trans hb2⟩
end Go.Proofs.Ytpfmgjfkjjnadaa.Made
