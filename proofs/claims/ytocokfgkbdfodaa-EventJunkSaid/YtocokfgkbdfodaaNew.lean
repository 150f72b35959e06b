/- Words of what a call makes. -/
import Derived.Test.YtocokfgkbdfodaaRows
import Derived.Test.YtocokfgkbdfodaaWords
import Derived.Test.YtocokfgkbdfodaaEnc
import Derived.Handy
namespace Go.Proofs.Ytocokfgkbdfodaa.Made
open Go Go.RowKit Go.Proofs.Ytocokfgkbdfodaa.Words Go.Proofs.Ytocokfgkbdfodaa.Enc
set_option linter.unusedVariables false
theorem info8 : (Try.prog.info? 5).map (fun i => (i.zero, i.size, i.bytes)) = some (some (.int .u8 0), 1, 1) := by kernel_rfl

/-- n bytes, l, have been made above block base; what was below it is as it was. -/
def New (base : Nat) (n : Nat) (l : List UInt8) (w : World) (e : Ending) (w' : World) : Prop :=
  ∃ A c, e = .returned (.slice A n c) ∧ w'.ownsRow base 5 1 (.slice A n c) n (cs l) ∧ Below base w w'
end Go.Proofs.Ytocokfgkbdfodaa.Made
