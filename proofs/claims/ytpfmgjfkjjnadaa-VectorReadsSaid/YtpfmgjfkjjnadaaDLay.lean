/- digits.Lay: its contract. -/
import Derived.Test.YtpfmgjfkjjnadaaRows
import Derived.Test.YtpfmgjfkjjnadaaWords
import Derived.Test.YtpfmgjfkjjnadaaEnc
import Derived.Handy
import Derived.Test.YtpfmgjfkjjnadaaRoomy
import Derived.Test.YtpfmgjfkjjnadaaLayOn
import Derived.Test.YtpfmgjfkjjnadaaLen
namespace Go.Proofs.Ytpfmgjfkjjnadaa.Made
open Go Go.RowKit Go.Proofs.Ytpfmgjfkjjnadaa.Words Go.Proofs.Ytpfmgjfkjjnadaa.Enc
set_option linter.unusedVariables false
/-- digits.Lay. -/
theorem lay_any (A : Option Addr) (n c : Nat) (l : List UInt8) (x : Int) (w : World) (hs : Sees w A n l) (hn : n ≤ 1000000000) (hx0 : 0 ≤ x) (hx : x < 18446744073709551616) :
    Calls Try.prog 34 #[.slice A n c, .int .u64 x] w (New w.heap.size (n + (enc x.toNat).length) (l ++ enc x.toNat) w) := by
  have he := enc_ten (n := x.toNat) (by omega)
  go_enter Try.func34, Try.ntmps34
  go_wp2_with fail
  refine (Len.size_any x _ hx0 hx).mono ?_
  rintro e w' ⟨rfl, rfl⟩
  go_wp2_with fail
  refine (roomy_any A n c l _ _ hs hn (by omega) (by omega)).mono ?_
  rintro e w1 ⟨A1, c1, rfl, hown, hb⟩
  go_wp2_with fail
  have hsz := hb.size
  refine (layOn_any w'.heap.size A1 n c1 l x w1 hown hsz hn hx0 hx).mono ?_
  rintro e w2 ⟨A2, c2, rfl, hown2, hb2⟩
  go_wp2
  go_ret
  exact ⟨A2, c2, rfl, hown2, hb.trans hb2⟩

end Go.Proofs.Ytpfmgjfkjjnadaa.Made
