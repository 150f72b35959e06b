/- segment.Open: its contract, where the disk goes. Events that follow each other. -/
import Derived.Test.YtinjbdgjcadodaaGreatDoorTNp03
import Derived.Test.YtinjbdgjcadodaaGreatDoorTNp10
import Derived.Test.YtinjbdgjcadodaaGreatDoorTNp11
import Derived.Test.YtinjbdgjcadodaaGreatDoorTNp13
namespace Go.Proofs.YtinjbdgjcadodaaGreatDoor.Seg
open Go Go.RowKit Go.Proofs.YtinjbdgjcadodaaGreatDoor.Words Go.Proofs.YtinjbdgjcadodaaGreatDoor.Enc Go.Proofs.YtinjbdgjcadodaaGreatDoor.Evt Go.Proofs.YtinjbdgjcadodaaGreatDoor.Made Go.Proofs.YtinjbdgjcadodaaGreatDoor.Dsk Go.Proofs.YtinjbdgjcadodaaGreatDoor.Sht
set_option linter.unusedVariables false
set_option linter.unusedSimpArgs false

end Go.Proofs.YtinjbdgjcadodaaGreatDoor.Seg

/- segment.Open, where it tells an error. -/
namespace Go.Proofs.YtinjbdgjcadodaaGreatDoor.Seg
open Go Go.RowKit Go.Proofs.YtinjbdgjcadodaaGreatDoor.Words Go.Proofs.YtinjbdgjcadodaaGreatDoor.Enc Go.Proofs.YtinjbdgjcadodaaGreatDoor.Evt Go.Proofs.YtinjbdgjcadodaaGreatDoor.Made Go.Proofs.YtinjbdgjcadodaaGreatDoor.Dsk Go.Proofs.YtinjbdgjcadodaaGreatDoor.Sht
set_option linter.unusedVariables false
set_option linter.unusedSimpArgs false

def zeroSeg : Value := .agg #[.int .i64 0, .int .u64 0, .slice none 0 0, .int .i64 0]
end Go.Proofs.YtinjbdgjcadodaaGreatDoor.Seg

/- The law's events. -/
namespace Go.Proofs.YtinjbdgjcadodaaGreatDoor.Seg
open Go Go.RowKit Go.Proofs.YtinjbdgjcadodaaGreatDoor.Words Go.Proofs.YtinjbdgjcadodaaGreatDoor.Enc Go.Proofs.YtinjbdgjcadodaaGreatDoor.Evt Go.Proofs.YtinjbdgjcadodaaGreatDoor.Made Go.Proofs.YtinjbdgjcadodaaGreatDoor.Dsk Go.Proofs.YtinjbdgjcadodaaGreatDoor.Sht
set_option linter.unusedVariables false
set_option linter.unusedSimpArgs false

end Go.Proofs.YtinjbdgjcadodaaGreatDoor.Seg

/- The law's fill. -/
namespace Go.Proofs.YtinjbdgjcadodaaGreatDoor.Seg
open Go Go.RowKit Go.Proofs.YtinjbdgjcadodaaGreatDoor.Words Go.Proofs.YtinjbdgjcadodaaGreatDoor.Enc Go.Proofs.YtinjbdgjcadodaaGreatDoor.Evt Go.Proofs.YtinjbdgjcadodaaGreatDoor.Made Go.Proofs.YtinjbdgjcadodaaGreatDoor.Dsk Go.Proofs.YtinjbdgjcadodaaGreatDoor.Sht
set_option linter.unusedVariables false
set_option linter.unusedSimpArgs false

def Pred.made (ev : Ev) (B : Nat) : Facts.Pred := ⟨fun v w => ∃ r : EvS, v = r.e.val r.A r.n r.c ∧ r.e = ev ∧ Sees w r.A r.n r.e.text ∧ Fresh B r.A r.n, fun _ _ _ ⟨r, h, he, hs, hf⟩ hb => ⟨r, h, he, hs.below hb, hf⟩⟩
end Go.Proofs.YtinjbdgjcadodaaGreatDoor.Seg
namespace Go.Proofs.YtinjbdgjcadodaaGreatDoor.Seg
open Go Go.RowKit Go.Proofs.YtinjbdgjcadodaaGreatDoor.Words Go.Proofs.YtinjbdgjcadodaaGreatDoor.Enc Go.Proofs.YtinjbdgjcadodaaGreatDoor.Evt Go.Proofs.YtinjbdgjcadodaaGreatDoor.Made Go.Proofs.YtinjbdgjcadodaaGreatDoor.Dsk Go.Proofs.YtinjbdgjcadodaaGreatDoor.Sht
set_option linter.unusedVariables false
set_option linter.unusedSimpArgs false

/-- Events that follow each other from number q on. -/
def Runs (x : Int) : Nat → List Ev → Prop
  | _, [] => True
  | q, e :: r => (e.writer = x ∧ e.seq = q ∧ Right e ∧ e.num < 18446744073709551616 ∧ plainE e = e ∧ e.text.length ≤ 29) ∧ Runs x (q + 1) r
end Go.Proofs.YtinjbdgjcadodaaGreatDoor.Seg
