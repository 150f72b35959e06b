/-
  DERIVED. GIVEN WITH THE SEED: THE CARDS: each row of YtpfnokplgfkgjaaDoorRows.lean that lists a variable, with what it lists TIED to the program's text (the seventh form; the later family's looks); each row that meets fmt, with fmt's text TOLD by the authors' own Lean function (tested against real Go, not proved from fmt's source: count such statements apart). THE CARD IS WHAT COUNTS. Prove the row's statement (the work); the ties are given (YtpfnokplgfkgjaaDoorTie.lean); close each card by the builder's one call (the guide's Derived/Test/ToyasCard.lean, 'card_holds'). Laid BY PROGRAM, IN A SANDBOX (cutbox-door.mjs). By AI agents, Wed Nov 11 2026. No macro, syntax, notation, axiom, sorry.
-/
import Derived.Test.YtpfnokplgfkgjaaDoorRows
import GoSem.ClaimSeven
namespace Go.Proofs.YtpfnokplgfkgjaaDoor
namespace Rows

/-- THE TIED CARD OF 'anabranchlaw03.CheckWraps'. -/
def checkWrapsCard : Claim7 := { stood := { row := checkWrapsRow, standIns := [], harness := (true, "dcef785afc3ce4720e9c72a2340b9a9c786d13e7bb42f463973f3339af444aac"), looks := false }, kinds := [], alts := [], laidByText := true, laidKinds := [.data, .data], laidTests := true, laidLooks := .later }
def CheckWrapsCardSaid : Prop := Claim7.holds Tryd.pinned (.plain (OpenSpec.ofChange checkWrapsSpec)) checkWrapsCard

/-- THE TIED CARD OF 'anabranchlaw03.CheckOpens'. -/
def checkOpensCard : Claim7 := { stood := { row := checkOpensRow, standIns := [], harness := (true, "dcef785afc3ce4720e9c72a2340b9a9c786d13e7bb42f463973f3339af444aac"), looks := false }, kinds := [], alts := [], laidByText := true, laidKinds := [.data, .data], laidTests := true, laidLooks := .later }
def CheckOpensCardSaid : Prop := Claim7.holds Tryd.pinned (.plain (OpenSpec.ofChange checkOpensSpec)) checkOpensCard

/-- THE TIED CARD OF 'anabranchlaw03.CheckTurns'. -/
def checkTurnsCard : Claim7 := { stood := { row := checkTurnsRow, standIns := [], harness := (true, "dcef785afc3ce4720e9c72a2340b9a9c786d13e7bb42f463973f3339af444aac"), looks := false }, kinds := [], alts := [], laidByText := true, laidKinds := [.data, .data], laidTests := true, laidLooks := .later }
def CheckTurnsCardSaid : Prop := Claim7.holds Tryd.pinned (.plain (OpenSpec.ofChange checkTurnsSpec)) checkTurnsCard

/-- THE TIED CARD OF 'anabranchlaw03.CheckAlls'. -/
def checkAllsCard : Claim7 := { stood := { row := checkAllsRow, standIns := [], harness := (true, "dcef785afc3ce4720e9c72a2340b9a9c786d13e7bb42f463973f3339af444aac"), looks := false }, kinds := [], alts := [], laidByText := true, laidKinds := [.data, .data], laidTests := true, laidLooks := .later }
def CheckAllsCardSaid : Prop := Claim7.holds Tryd.pinned (.plain (OpenSpec.ofChange checkAllsSpec)) checkAllsCard

/-- THE SECOND FORM's CARD OF 'anabranchlaw03.CheckWraps'. -/
def checkWrapsUptoCard : Claim7 := { stood := { row := checkWrapsUptoRow, standIns := [], harness := (true, "dcef785afc3ce4720e9c72a2340b9a9c786d13e7bb42f463973f3339af444aac"), looks := false }, kinds := [], alts := [], laidByText := true, laidKinds := [.data, .data], laidTests := true, laidLooks := .later }
def CheckWrapsUptoCardSaid : Prop := Claim7.holds Tryd.pinned (.plain (OpenSpec.upto checkWrapsSpec)) checkWrapsUptoCard

/-- THE SECOND FORM's CARD OF 'anabranchlaw03.CheckOpens'. -/
def checkOpensUptoCard : Claim7 := { stood := { row := checkOpensUptoRow, standIns := [], harness := (true, "dcef785afc3ce4720e9c72a2340b9a9c786d13e7bb42f463973f3339af444aac"), looks := false }, kinds := [], alts := [], laidByText := true, laidKinds := [.data, .data], laidTests := true, laidLooks := .later }
def CheckOpensUptoCardSaid : Prop := Claim7.holds Tryd.pinned (.plain (OpenSpec.upto checkOpensSpec)) checkOpensUptoCard

/-- THE SECOND FORM's CARD OF 'anabranchlaw03.CheckTurns'. -/
def checkTurnsUptoCard : Claim7 := { stood := { row := checkTurnsUptoRow, standIns := [], harness := (true, "dcef785afc3ce4720e9c72a2340b9a9c786d13e7bb42f463973f3339af444aac"), looks := false }, kinds := [], alts := [], laidByText := true, laidKinds := [.data, .data], laidTests := true, laidLooks := .later }
def CheckTurnsUptoCardSaid : Prop := Claim7.holds Tryd.pinned (.plain (OpenSpec.upto checkTurnsSpec)) checkTurnsUptoCard

/-- THE SECOND FORM's CARD OF 'anabranchlaw03.CheckAlls'. -/
def checkAllsUptoCard : Claim7 := { stood := { row := checkAllsUptoRow, standIns := [], harness := (true, "dcef785afc3ce4720e9c72a2340b9a9c786d13e7bb42f463973f3339af444aac"), looks := false }, kinds := [], alts := [], laidByText := true, laidKinds := [.data, .data], laidTests := true, laidLooks := .later }
def CheckAllsUptoCardSaid : Prop := Claim7.holds Tryd.pinned (.plain (OpenSpec.upto checkAllsSpec)) checkAllsUptoCard
end Rows
end Go.Proofs.YtpfnokplgfkgjaaDoor
