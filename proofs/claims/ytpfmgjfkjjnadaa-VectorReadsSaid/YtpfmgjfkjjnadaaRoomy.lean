/- digits.roomy: its contract. -/
import Derived.Test.YtpfmgjfkjjnadaaRows
import Derived.Test.YtpfmgjfkjjnadaaWords
import Derived.Test.YtpfmgjfkjjnadaaEnc
import Derived.Handy
import Derived.Test.YtpfmgjfkjjnadaaNew
namespace Go.Proofs.Ytpfmgjfkjjnadaa.Made
open Go Go.RowKit Go.Proofs.Ytpfmgjfkjjnadaa.Words Go.Proofs.Ytpfmgjfkjjnadaa.Enc
set_option linter.unusedVariables false
/-- digits.roomy: a copy. -/
theorem roomy_any (A : Option Addr) (n c : Nat) (l : List UInt8) (k : Int) (w : World) (hs : Sees w A n l) (hn : n ≤ 1000000000) (hk0 : 0 ≤ k) (hk : k ≤ 1000000000) :
    Calls Try.prog 40 #[.slice A n c, .int .i64 k] w (New w.heap.size n l w) := by
  obtain ⟨i, hi, hz, hsz, hby⟩ := info_parts info8
  go_enter Try.func40, Try.ntmps40
  go_wp2_with (first | (at_make; refine wpList_make_own _ rfl _ _ 34 rfl w.heap.size 5 i (.int .u8 0) 1 Try.underlying34 hi hz hsz .i64 .i64 _ (n + k.toNat) rfl rfl ?c1 ?c2 ?c3 ?c4 ?_))
  case c1 => omega
  case c2 => rw [hby]; omega
  case c3 => unfold maxLen; omega
  case c4 => simp
  intro w1 hown hg
  have hb := (Below.refl w.heap.size w).grown hg (Nat.le_refl _) (fun k hk => by cases hk)
  have hs1 := hs.below hb
  have hsz1 := hb.size
  go_wp2_with (first | (at_builtin; refine wpList_app rfl _ _ 34 rfl w.heap.size 5 i (.int .u8 0) Try.underlying34 hi hz hsz hby rfl _ 0 _ [] rfl hown A n c l rfl hs1 ?d1 ?d2 ?_))
  case d1 => omega
  case d2 => exact hsz1
  intro A' c' w2 hown2 hb2
  go_wp2
  go_ret
  exact ⟨A', c', rfl, hown2, hb.trans hb2⟩
end Go.Proofs.Ytpfmgjfkjjnadaa.Made
