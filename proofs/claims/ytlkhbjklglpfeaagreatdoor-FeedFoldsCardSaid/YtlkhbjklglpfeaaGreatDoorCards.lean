/-
  DERIVED. GIVEN WITH THE SEED: THE CARDS: each row of YtlkhbjklglpfeaaGreatDoorRows.lean that lists a variable, with what it lists TIED to the program's text (the seventh form; the later family's looks); each row that meets fmt, with fmt's text TOLD by the authors' own Lean function (tested against real Go, not proved from fmt's source: count such statements apart). THE CARD IS WHAT COUNTS. Prove the row's statement (the work); the ties are given (YtlkhbjklglpfeaaGreatDoorTie.lean); close each card by the builder's one call (the guide's Derived/Test/ToyasCard.lean, 'card_holds'). Laid BY PROGRAM, IN A SANDBOX (cutbox-door.mjs). By AI agents, Wed Nov 11 2026. No macro, syntax, notation, axiom, sorry.
-/
import Derived.Test.YtlkhbjklglpfeaaGreatDoorRows
import GoSem.ClaimSeven
namespace Go.Proofs.YtlkhbjklglpfeaaGreatDoor
namespace Rows

/-- THE TIED CARD OF 'anabranchlaw09.FeedFolds'. -/
def feedFoldsCard : Claim7 := { stood := { row := feedFoldsRow, standIns := [], harness := (true, "9acbcb39d698eb4c69050de648043ce722508e59af2b9632abdbc53f296fa5e6"), looks := true }, kinds := [], alts := [], laidByText := true, laidKinds := [.data, .data, .data, .sentinel, .sentinel, .data, .data], laidTests := true, laidLooks := .later }
def FeedFoldsCardSaid : Prop := Claim7.holds Tryz.pinned (.plain (OpenSpec.ofChange feedFoldsSpec)) feedFoldsCard

/-- THE TIED CARD OF 'anabranchlaw09.FeedNil'. -/
def feedNilCard : Claim7 := { stood := { row := feedNilRow, standIns := [], harness := (true, "9acbcb39d698eb4c69050de648043ce722508e59af2b9632abdbc53f296fa5e6"), looks := true }, kinds := [], alts := [], laidByText := true, laidKinds := [.data, .data, .data, .sentinel, .sentinel, .data, .data], laidTests := true, laidLooks := .later }
def FeedNilCardSaid : Prop := Claim7.holds Tryz.pinned (.plain (OpenSpec.ofChange feedNilSpec)) feedNilCard

/-- THE SECOND FORM's CARD OF 'anabranchlaw09.FeedFolds'. -/
def feedFoldsUptoCard : Claim7 := { stood := { row := feedFoldsUptoRow, standIns := [], harness := (true, "9acbcb39d698eb4c69050de648043ce722508e59af2b9632abdbc53f296fa5e6"), looks := true }, kinds := [], alts := [], laidByText := true, laidKinds := [.data, .data, .data, .sentinel, .sentinel, .data, .data], laidTests := true, laidLooks := .later }
def FeedFoldsUptoCardSaid : Prop := Claim7.holds Tryz.pinned (.plain (OpenSpec.upto feedFoldsSpec)) feedFoldsUptoCard

/-- THE SECOND FORM's CARD OF 'anabranchlaw09.FeedNil'. -/
def feedNilUptoCard : Claim7 := { stood := { row := feedNilUptoRow, standIns := [], harness := (true, "9acbcb39d698eb4c69050de648043ce722508e59af2b9632abdbc53f296fa5e6"), looks := true }, kinds := [], alts := [], laidByText := true, laidKinds := [.data, .data, .data, .sentinel, .sentinel, .data, .data], laidTests := true, laidLooks := .later }
def FeedNilUptoCardSaid : Prop := Claim7.holds Tryz.pinned (.plain (OpenSpec.upto feedNilSpec)) feedNilUptoCard
end Rows
end Go.Proofs.YtlkhbjklglpfeaaGreatDoor
