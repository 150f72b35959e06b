/- Words of what a call makes. -/
import Derived.Test.YtdelppndoepkbaaDoorRows
import Derived.Test.YtdelppndoepkbaaDoorWords
import Derived.Test.YtdelppndoepkbaaDoorEnc
import Derived.Handy
namespace Go.Proofs.YtdelppndoepkbaaDoor.Made
open Go Go.RowKit Go.Proofs.YtdelppndoepkbaaDoor.Words Go.Proofs.YtdelppndoepkbaaDoor.Enc
set_option linter.unusedVariables false
theorem info8 : (Tryd.prog.info? 5).map (fun i => (i.zero, i.size, i.bytes)) = some (some (.int .u8 0), 1, 1) := by kernel_rfl

/-- n bytes, l, have been made above block base; what was below it is as it was. -/
def New (base : Nat) (n : Nat) (l : List UInt8) (w : World) (e : Ending) (w' : World) : Prop :=
  ∃ A c, e = .returned (.slice A n c) ∧ w'.ownsRow base 5 1 (.slice A n c) n (cs l) ∧ Below base w w'
end Go.Proofs.YtdelppndoepkbaaDoor.Made
