/- digits.LayFixed: its contract. -/
import Derived.Test.YtocokfgkbdfodaaRows
import Derived.Test.YtocokfgkbdfodaaWords
import Derived.Test.YtocokfgkbdfodaaEnc
import Derived.Handy
import Derived.Test.YtocokfgkbdfodaaRoomy
namespace Go.Proofs.Ytocokfgkbdfodaa.Made
open Go Go.RowKit Go.Proofs.Ytocokfgkbdfodaa.Words Go.Proofs.Ytocokfgkbdfodaa.Enc
set_option linter.unusedVariables false
/-- digits.LayFixed. -/
theorem layFixed_any (A : Option Addr) (n c : Nat) (l : List UInt8) (x : Int) (w : World) (hs : Sees w A n l) (hn : n ≤ 1000000000) (hx0 : 0 ≤ x) (hx : x < 18446744073709551616) :
    Calls Try.prog 26 #[.slice A n c, .int .u64 x] w (New w.heap.size (n + 8) (l ++ fix x.toNat) w) := by
  obtain ⟨i, hi, hz, hsz, hby⟩ := info_parts info8
  go_enter Try.func26, Try.ntmps26
  go_wp2_with fail
  refine (roomy_any A n c l _ _ hs hn (by omega) (by omega)).mono ?_
  rintro e w1 ⟨A1, c1, rfl, hown, hb1⟩
  have hbase := hb1.size
  go_wp2_with fail
  go_loopw [0, 8] (fun p v wr => ∃ (A' : Option Addr) (c' k : Nat), p = .slice A' (n + k) c' ∧ v = .int .i64 (k : Int) ∧ k ≤ 8 ∧
      wr.ownsRow w.heap.size 5 1 (.slice A' (n + k) c') (n + k) (cs (l ++ (fix x.toNat).take k)) ∧ Below w.heap.size w wr) (fun _ v _ => 8 - (intOf v).toNat)
  case atStart => exact ⟨A1, c1, 0, rfl, rfl, by omega, by simpa using hown, hb1⟩
  case round =>
    obtain ⟨A', c', k, rfl, rfl, hk, hown', hb⟩ := hrel
    have hwb := hb.size
    by_cases hlt : k < 8
    · go_wp2_with (first | (at_builtin; refine wpList_app rfl _ _ 23 rfl w.heap.size 5 i (.int .u8 0) Try.underlying23 hi hz hsz hby rfl A' (n + k) c' _ rfl (hown'.alloc _) _ 1 1 [b8 (x.toNat / 256 ^ (7 - k) % 256)] rfl (Sees.fresh wr _ _ _ ?e1) ?e2 ?e3 ?_))
      case e1 => exact fix_byte x k hx0
      case e2 => omega
      case e3 => exact Nat.le_trans hwb (by simp)
      intro A2 c2 w2 hown2 hb2
      go_wp2
      go_roundw
      case rel => exact ⟨A2, c2, k + 1, rfl, by go_num, by omega, by rw [fix_take _ _ hlt]; exact hown2, (hb.alloc hwb _).trans hb2⟩
      case measure => simp [intOf]; omega
    · have hk8 : k = 8 := by omega
      subst hk8
      go_wp2
      go_ret
      exact ⟨A', c', rfl, by rw [List.take_of_length_le (by simp [fix_length])] at hown'; exact hown', hb⟩
end Go.Proofs.Ytocokfgkbdfodaa.Made
