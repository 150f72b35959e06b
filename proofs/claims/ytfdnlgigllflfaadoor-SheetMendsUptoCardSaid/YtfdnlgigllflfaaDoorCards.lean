/-
  DERIVED. GIVEN WITH THE SEED: THE CARDS: each row of YtfdnlgigllflfaaDoorRows.lean that lists a variable, with what it lists TIED to the program's text (the seventh form; the later family's looks); each row that meets fmt, with fmt's text TOLD by the authors' own Lean function (tested against real Go, not proved from fmt's source: count such statements apart). THE CARD IS WHAT COUNTS. Prove the row's statement (the work); the ties are given (YtfdnlgigllflfaaDoorTie.lean); close each card by the builder's one call (the guide's Derived/Test/ToyasCard.lean, 'card_holds'). Laid BY PROGRAM, IN A SANDBOX (cutbox-door.mjs). By AI agents, Wed Nov 11 2026. No macro, syntax, notation, axiom, sorry.
-/
import Derived.Test.YtfdnlgigllflfaaDoorRows
import GoSem.ClaimSeven
namespace Go.Proofs.YtfdnlgigllflfaaDoor
namespace Rows

/-- THE TIED CARD OF 'anabranchlaw05.SheetFiles'. -/
def sheetFilesCard : Claim7 := { stood := { row := sheetFilesRow, standIns := [], harness := (true, "5c24cc814d18f767d54663eac31f30db33dd80964033be19fcedf6a6d04c6eae"), looks := true }, kinds := [], alts := [], laidByText := true, laidKinds := [.data, .data], laidTests := true, laidLooks := .later }
def SheetFilesCardSaid : Prop := Claim7.holds Tryd.pinned (.plain (OpenSpec.ofChange sheetFilesSpec)) sheetFilesCard

/-- THE TIED CARD OF 'anabranchlaw05.SheetMends'. -/
def sheetMendsCard : Claim7 := { stood := { row := sheetMendsRow, standIns := [], harness := (true, "5c24cc814d18f767d54663eac31f30db33dd80964033be19fcedf6a6d04c6eae"), looks := true }, kinds := [], alts := [], laidByText := true, laidKinds := [.data, .data], laidTests := true, laidLooks := .later }
def SheetMendsCardSaid : Prop := Claim7.holds Tryd.pinned (.plain (OpenSpec.ofChange sheetMendsSpec)) sheetMendsCard

/-- THE TIED CARD OF 'anabranchlaw05.SheetSwaps'. -/
def sheetSwapsCard : Claim7 := { stood := { row := sheetSwapsRow, standIns := [], harness := (true, "5c24cc814d18f767d54663eac31f30db33dd80964033be19fcedf6a6d04c6eae"), looks := true }, kinds := [], alts := [], laidByText := true, laidKinds := [.data, .data], laidTests := true, laidLooks := .later }
def SheetSwapsCardSaid : Prop := Claim7.holds Tryd.pinned (.plain (OpenSpec.ofChange sheetSwapsSpec)) sheetSwapsCard

/-- THE TIED CARD OF 'anabranchlaw05.SheetFull'. -/
def sheetFullCard : Claim7 := { stood := { row := sheetFullRow, standIns := [], harness := (true, "5c24cc814d18f767d54663eac31f30db33dd80964033be19fcedf6a6d04c6eae"), looks := true }, kinds := [], alts := [], laidByText := true, laidKinds := [.data, .data], laidTests := true, laidLooks := .later }
def SheetFullCardSaid : Prop := Claim7.holds Tryd.pinned (.plain (OpenSpec.ofChange sheetFullSpec)) sheetFullCard

/-- THE TIED CARD OF 'anabranchlaw05.SheetLong'. -/
def sheetLongCard : Claim7 := { stood := { row := sheetLongRow, standIns := [], harness := (true, "5c24cc814d18f767d54663eac31f30db33dd80964033be19fcedf6a6d04c6eae"), looks := true }, kinds := [], alts := [], laidByText := true, laidKinds := [.data, .data], laidTests := true, laidLooks := .later }
def SheetLongCardSaid : Prop := Claim7.holds Tryd.pinned (.plain (OpenSpec.ofChange sheetLongSpec)) sheetLongCard

/-- THE SECOND FORM's CARD OF 'anabranchlaw05.SheetFiles'. -/
def sheetFilesUptoCard : Claim7 := { stood := { row := sheetFilesUptoRow, standIns := [], harness := (true, "5c24cc814d18f767d54663eac31f30db33dd80964033be19fcedf6a6d04c6eae"), looks := true }, kinds := [], alts := [], laidByText := true, laidKinds := [.data, .data], laidTests := true, laidLooks := .later }
def SheetFilesUptoCardSaid : Prop := Claim7.holds Tryd.pinned (.plain (OpenSpec.upto sheetFilesSpec)) sheetFilesUptoCard

/-- THE SECOND FORM's CARD OF 'anabranchlaw05.SheetMends'. -/
def sheetMendsUptoCard : Claim7 := { stood := { row := sheetMendsUptoRow, standIns := [], harness := (true, "5c24cc814d18f767d54663eac31f30db33dd80964033be19fcedf6a6d04c6eae"), looks := true }, kinds := [], alts := [], laidByText := true, laidKinds := [.data, .data], laidTests := true, laidLooks := .later }
def SheetMendsUptoCardSaid : Prop := Claim7.holds Tryd.pinned (.plain (OpenSpec.upto sheetMendsSpec)) sheetMendsUptoCard

/-- THE SECOND FORM's CARD OF 'anabranchlaw05.SheetSwaps'. -/
def sheetSwapsUptoCard : Claim7 := { stood := { row := sheetSwapsUptoRow, standIns := [], harness := (true, "5c24cc814d18f767d54663eac31f30db33dd80964033be19fcedf6a6d04c6eae"), looks := true }, kinds := [], alts := [], laidByText := true, laidKinds := [.data, .data], laidTests := true, laidLooks := .later }
def SheetSwapsUptoCardSaid : Prop := Claim7.holds Tryd.pinned (.plain (OpenSpec.upto sheetSwapsSpec)) sheetSwapsUptoCard

/-- THE SECOND FORM's CARD OF 'anabranchlaw05.SheetFull'. -/
def sheetFullUptoCard : Claim7 := { stood := { row := sheetFullUptoRow, standIns := [], harness := (true, "5c24cc814d18f767d54663eac31f30db33dd80964033be19fcedf6a6d04c6eae"), looks := true }, kinds := [], alts := [], laidByText := true, laidKinds := [.data, .data], laidTests := true, laidLooks := .later }
def SheetFullUptoCardSaid : Prop := Claim7.holds Tryd.pinned (.plain (OpenSpec.upto sheetFullSpec)) sheetFullUptoCard

/-- THE SECOND FORM's CARD OF 'anabranchlaw05.SheetLong'. -/
def sheetLongUptoCard : Claim7 := { stood := { row := sheetLongUptoRow, standIns := [], harness := (true, "5c24cc814d18f767d54663eac31f30db33dd80964033be19fcedf6a6d04c6eae"), looks := true }, kinds := [], alts := [], laidByText := true, laidKinds := [.data, .data], laidTests := true, laidLooks := .later }
def SheetLongUptoCardSaid : Prop := Claim7.holds Tryd.pinned (.plain (OpenSpec.upto sheetLongSpec)) sheetLongUptoCard
end Rows
end Go.Proofs.YtfdnlgigllflfaaDoor
