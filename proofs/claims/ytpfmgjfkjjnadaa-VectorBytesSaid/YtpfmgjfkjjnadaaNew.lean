/- Words of what a call makes. -/
import Derived.Test.YtpfmgjfkjjnadaaRows
import Derived.Test.YtpfmgjfkjjnadaaWords
import Derived.Test.YtpfmgjfkjjnadaaEnc
import Derived.Handy
namespace Go.Proofs.Ytpfmgjfkjjnadaa.Made
open Go Go.RowKit Go.Proofs.Ytpfmgjfkjjnadaa.Words Go.Proofs.Ytpfmgjfkjjnadaa.Enc
set_option linter.unusedVariables false
theorem info8 : (Try.prog.info? 5).map (fun i => (i.zero, i.size, i.bytes)) = some (some (.int .u8 0), 1, 1) := by kernel_rfl

/-- n bytes, l, have been made above block base; what was below it is as it was. -/
def New (base : Nat) (n : Nat) (l : List UInt8) (w : World) (e : Ending) (w' : World) : Prop :=
  ∃ A c, e = .returned (.slice A n c) ∧ w'.ownsRow base 5 1 (.slice A n c) n (cs l) ∧ Below base w w'
end Go.Proofs.Ytpfmgjfkjjnadaa.Made
