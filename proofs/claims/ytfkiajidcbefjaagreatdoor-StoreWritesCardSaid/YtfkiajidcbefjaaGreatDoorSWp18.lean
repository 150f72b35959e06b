/- segment.Open: its contract, where the disk goes. Events that follow each other. -/
import Derived.Test.YtfkiajidcbefjaaGreatDoorSWp10
import Derived.Test.YtfkiajidcbefjaaGreatDoorSWp14
import Derived.Test.YtfkiajidcbefjaaGreatDoorSWp15
import Derived.Test.YtfkiajidcbefjaaGreatDoorSWp17
namespace Go.Proofs.YtfkiajidcbefjaaGreatDoor.Seg
open Go Go.RowKit Go.Proofs.YtfkiajidcbefjaaGreatDoor.Words Go.Proofs.YtfkiajidcbefjaaGreatDoor.Enc Go.Proofs.YtfkiajidcbefjaaGreatDoor.Evt Go.Proofs.YtfkiajidcbefjaaGreatDoor.Made Go.Proofs.YtfkiajidcbefjaaGreatDoor.Dsk Go.Proofs.YtfkiajidcbefjaaGreatDoor.Sht
set_option linter.unusedVariables false
set_option linter.unusedSimpArgs false

end Go.Proofs.YtfkiajidcbefjaaGreatDoor.Seg

/- segment.Open, where it tells an error. -/
namespace Go.Proofs.YtfkiajidcbefjaaGreatDoor.Seg
open Go Go.RowKit Go.Proofs.YtfkiajidcbefjaaGreatDoor.Words Go.Proofs.YtfkiajidcbefjaaGreatDoor.Enc Go.Proofs.YtfkiajidcbefjaaGreatDoor.Evt Go.Proofs.YtfkiajidcbefjaaGreatDoor.Made Go.Proofs.YtfkiajidcbefjaaGreatDoor.Dsk Go.Proofs.YtfkiajidcbefjaaGreatDoor.Sht
set_option linter.unusedVariables false
set_option linter.unusedSimpArgs false

def zeroSeg : Value := .agg #[.int .i64 0, .int .u64 0, .slice none 0 0, .int .i64 0]
end Go.Proofs.YtfkiajidcbefjaaGreatDoor.Seg

/- The law's events. -/
namespace Go.Proofs.YtfkiajidcbefjaaGreatDoor.Seg
open Go Go.RowKit Go.Proofs.YtfkiajidcbefjaaGreatDoor.Words Go.Proofs.YtfkiajidcbefjaaGreatDoor.Enc Go.Proofs.YtfkiajidcbefjaaGreatDoor.Evt Go.Proofs.YtfkiajidcbefjaaGreatDoor.Made Go.Proofs.YtfkiajidcbefjaaGreatDoor.Dsk Go.Proofs.YtfkiajidcbefjaaGreatDoor.Sht
set_option linter.unusedVariables false
set_option linter.unusedSimpArgs false

end Go.Proofs.YtfkiajidcbefjaaGreatDoor.Seg

/- The law's fill. -/
namespace Go.Proofs.YtfkiajidcbefjaaGreatDoor.Seg
open Go Go.RowKit Go.Proofs.YtfkiajidcbefjaaGreatDoor.Words Go.Proofs.YtfkiajidcbefjaaGreatDoor.Enc Go.Proofs.YtfkiajidcbefjaaGreatDoor.Evt Go.Proofs.YtfkiajidcbefjaaGreatDoor.Made Go.Proofs.YtfkiajidcbefjaaGreatDoor.Dsk Go.Proofs.YtfkiajidcbefjaaGreatDoor.Sht
set_option linter.unusedVariables false
set_option linter.unusedSimpArgs false

end Go.Proofs.YtfkiajidcbefjaaGreatDoor.Seg
namespace Go.Proofs.YtfkiajidcbefjaaGreatDoor.Seg
open Go Go.RowKit Go.Proofs.YtfkiajidcbefjaaGreatDoor.Words Go.Proofs.YtfkiajidcbefjaaGreatDoor.Enc Go.Proofs.YtfkiajidcbefjaaGreatDoor.Evt Go.Proofs.YtfkiajidcbefjaaGreatDoor.Made Go.Proofs.YtfkiajidcbefjaaGreatDoor.Dsk Go.Proofs.YtfkiajidcbefjaaGreatDoor.Sht
set_option linter.unusedVariables false
set_option linter.unusedSimpArgs false

/-- Events that follow each other from number q on. -/
def Runs (x : Int) : Nat → List Ev → Prop
  | _, [] => True
  | q, e :: r => (e.writer = x ∧ e.seq = q ∧ Right e ∧ e.num < 18446744073709551616 ∧ plainE e = e ∧ e.text.length ≤ 29) ∧ Runs x (q + 1) r
end Go.Proofs.YtfkiajidcbefjaaGreatDoor.Seg
