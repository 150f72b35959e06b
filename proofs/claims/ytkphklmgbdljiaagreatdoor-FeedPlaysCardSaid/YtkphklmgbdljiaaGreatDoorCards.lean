/-
  DERIVED. GIVEN WITH THE SEED: THE CARDS: each row of YtkphklmgbdljiaaGreatDoorRows.lean that lists a variable, with what it lists TIED to the program's text (the seventh form; the later family's looks); each row that meets fmt, with fmt's text TOLD by the authors' own Lean function (tested against real Go, not proved from fmt's source: count such statements apart). THE CARD IS WHAT COUNTS. Prove the row's statement (the work); the ties are given (YtkphklmgbdljiaaGreatDoorTie.lean); close each card by the builder's one call (the guide's Derived/Test/ToyasCard.lean, 'card_holds'). Laid BY PROGRAM, IN A SANDBOX (cutbox-door.mjs). By AI agents, Wed Nov 11 2026. No macro, syntax, notation, axiom, sorry.
-/
import Derived.Test.YtkphklmgbdljiaaGreatDoorRows
import GoSem.ClaimSeven
namespace Go.Proofs.YtkphklmgbdljiaaGreatDoor
namespace Rows

/-- THE TIED CARD OF 'anabranchlaw09.FeedPlays'. -/
def feedPlaysCard : Claim7 := { stood := { row := feedPlaysRow, standIns := [], harness := (true, "0eaaadd157658f15f9fc1dad3f6138918c1b618d3e2567ee7a55e9de2e271d0a"), looks := true }, kinds := [], alts := [], laidByText := true, laidKinds := [.data, .data, .data, .sentinel, .sentinel, .data, .data], laidTests := true, laidLooks := .later }
def FeedPlaysCardSaid : Prop := Claim7.holds Tryz.pinned (.plain (OpenSpec.ofChange feedPlaysSpec)) feedPlaysCard

/-- THE TIED CARD OF 'anabranchlaw09.FeedFolds'. -/
def feedFoldsCard : Claim7 := { stood := { row := feedFoldsRow, standIns := [], harness := (true, "0eaaadd157658f15f9fc1dad3f6138918c1b618d3e2567ee7a55e9de2e271d0a"), looks := true }, kinds := [], alts := [], laidByText := true, laidKinds := [.data, .data, .data, .sentinel, .sentinel, .data, .data], laidTests := true, laidLooks := .later }
def FeedFoldsCardSaid : Prop := Claim7.holds Tryz.pinned (.plain (OpenSpec.ofChange feedFoldsSpec)) feedFoldsCard

/-- THE TIED CARD OF 'anabranchlaw09.FeedNil'. -/
def feedNilCard : Claim7 := { stood := { row := feedNilRow, standIns := [], harness := (true, "0eaaadd157658f15f9fc1dad3f6138918c1b618d3e2567ee7a55e9de2e271d0a"), looks := true }, kinds := [], alts := [], laidByText := true, laidKinds := [.data, .data, .data, .sentinel, .sentinel, .data, .data], laidTests := true, laidLooks := .later }
def FeedNilCardSaid : Prop := Claim7.holds Tryz.pinned (.plain (OpenSpec.ofChange feedNilSpec)) feedNilCard

/-- THE SECOND FORM's CARD OF 'anabranchlaw09.FeedPlays'. -/
def feedPlaysUptoCard : Claim7 := { stood := { row := feedPlaysUptoRow, standIns := [], harness := (true, "0eaaadd157658f15f9fc1dad3f6138918c1b618d3e2567ee7a55e9de2e271d0a"), looks := true }, kinds := [], alts := [], laidByText := true, laidKinds := [.data, .data, .data, .sentinel, .sentinel, .data, .data], laidTests := true, laidLooks := .later }
def FeedPlaysUptoCardSaid : Prop := Claim7.holds Tryz.pinned (.plain (OpenSpec.upto feedPlaysSpec)) feedPlaysUptoCard

/-- THE SECOND FORM's CARD OF 'anabranchlaw09.FeedFolds'. -/
def feedFoldsUptoCard : Claim7 := { stood := { row := feedFoldsUptoRow, standIns := [], harness := (true, "0eaaadd157658f15f9fc1dad3f6138918c1b618d3e2567ee7a55e9de2e271d0a"), looks := true }, kinds := [], alts := [], laidByText := true, laidKinds := [.data, .data, .data, .sentinel, .sentinel, .data, .data], laidTests := true, laidLooks := .later }
def FeedFoldsUptoCardSaid : Prop := Claim7.holds Tryz.pinned (.plain (OpenSpec.upto feedFoldsSpec)) feedFoldsUptoCard

/-- THE SECOND FORM's CARD OF 'anabranchlaw09.FeedNil'. -/
def feedNilUptoCard : Claim7 := { stood := { row := feedNilUptoRow, standIns := [], harness := (true, "0eaaadd157658f15f9fc1dad3f6138918c1b618d3e2567ee7a55e9de2e271d0a"), looks := true }, kinds := [], alts := [], laidByText := true, laidKinds := [.data, .data, .data, .sentinel, .sentinel, .data, .data], laidTests := true, laidLooks := .later }
def FeedNilUptoCardSaid : Prop := Claim7.holds Tryz.pinned (.plain (OpenSpec.upto feedNilSpec)) feedNilUptoCard
end Rows
end Go.Proofs.YtkphklmgbdljiaaGreatDoor
