/- Closed facts of the card of ReplicaNil. -/
import Derived.Test.YtinjbdgjcadodaaGreatDoorRows
import Derived.Test.YtinjbdgjcadodaaGreatDoorCards
import Derived.Test.YtinjbdgjcadodaaGreatDoorTie
import Derived.LaidMore
import Derived.SevenTiedAt
import Derived.Stop.Joined
import Derived.KernelRfl
namespace Go.Proofs.YtinjbdgjcadodaaGreatDoor.replicaNil
open Go
set_option linter.unusedVariables false
theorem card_wf : Rows.replicaNilRow.wfByText (OpenSpec.ofChange Rows.replicaNilSpec) = true := by kernel_rfl
theorem card_main : Tryz.pinned.checked.prog.mainIs = some (true, ("2e00072b916a4eebccb092e601f31592e3e71dc397d48dca2b28bab511be9eac" : String).toList) := by kernel_rfl
theorem card_named : Tryz.prog.funcNamed "anabranch/anabranchlaw18.ReplicaNil" = some 4 := by kernel_rfl
theorem card_looks : true = Tryz.pinned.checked.prog.looks [] := by kernel_rfl
theorem card_goes : false = Rows.replicaNilRow.goesBy Tryz.pinned.checked.prog := by kernel_rfl
theorem card_stand : ([22, 3, 9, 38, 28].all fun u => !Tryz.prog.wantsStandIn u) = true := by kernel_rfl
end Go.Proofs.YtinjbdgjcadodaaGreatDoor.replicaNil
