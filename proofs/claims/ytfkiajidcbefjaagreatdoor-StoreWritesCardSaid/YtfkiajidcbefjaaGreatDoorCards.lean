/-
  DERIVED. GIVEN WITH THE SEED: THE CARDS: each row of YtfkiajidcbefjaaGreatDoorRows.lean that lists a variable, with what it lists TIED to the program's text (the seventh form; the later family's looks); each row that meets fmt, with fmt's text TOLD by the authors' own Lean function (tested against real Go, not proved from fmt's source: count such statements apart). THE CARD IS WHAT COUNTS. Prove the row's statement (the work); the ties are given (YtfkiajidcbefjaaGreatDoorTie.lean); close each card by the builder's one call (the guide's Derived/Test/ToyasCard.lean, 'card_holds'). Laid BY PROGRAM, IN A SANDBOX (cutbox-door.mjs). By AI agents, Wed Nov 11 2026. No macro, syntax, notation, axiom, sorry.
-/
import Derived.Test.YtfkiajidcbefjaaGreatDoorRows
import GoSem.ClaimSeven
namespace Go.Proofs.YtfkiajidcbefjaaGreatDoor
namespace Rows

/-- THE TIED CARD OF 'anabranchlaw14.StoreWrites'. -/
def storeWritesCard : Claim7 := { stood := { row := storeWritesRow, standIns := [], harness := (true, "4bd83ea43db278ed8ea9baf57caf3d8790efbc885bc6913cc54daabab71f541e"), looks := true }, kinds := [], alts := [], laidByText := true, laidKinds := [.data, .data, .data, .sentinel, .sentinel, .data, .data], laidTests := true, laidLooks := .later }
def StoreWritesCardSaid : Prop := Claim7.holds Tryz.pinned (.plain (OpenSpec.ofChange storeWritesSpec)) storeWritesCard

/-- THE TIED CARD OF 'anabranchlaw17.TalkNil'. -/
def talkNilCard : Claim7 := { stood := { row := talkNilRow, standIns := [], harness := (true, "4bd83ea43db278ed8ea9baf57caf3d8790efbc885bc6913cc54daabab71f541e"), looks := true }, kinds := [], alts := [], laidByText := true, laidKinds := [.data, .data, .data, .sentinel, .sentinel, .data, .data], laidTests := true, laidLooks := .later }
def TalkNilCardSaid : Prop := Claim7.holds Tryz.pinned (.plain (OpenSpec.ofChange talkNilSpec)) talkNilCard

/-- THE SECOND FORM's CARD OF 'anabranchlaw14.StoreWrites'. -/
def storeWritesUptoCard : Claim7 := { stood := { row := storeWritesUptoRow, standIns := [], harness := (true, "4bd83ea43db278ed8ea9baf57caf3d8790efbc885bc6913cc54daabab71f541e"), looks := true }, kinds := [], alts := [], laidByText := true, laidKinds := [.data, .data, .data, .sentinel, .sentinel, .data, .data], laidTests := true, laidLooks := .later }
def StoreWritesUptoCardSaid : Prop := Claim7.holds Tryz.pinned (.plain (OpenSpec.upto storeWritesSpec)) storeWritesUptoCard

/-- THE SECOND FORM's CARD OF 'anabranchlaw17.TalkNil'. -/
def talkNilUptoCard : Claim7 := { stood := { row := talkNilUptoRow, standIns := [], harness := (true, "4bd83ea43db278ed8ea9baf57caf3d8790efbc885bc6913cc54daabab71f541e"), looks := true }, kinds := [], alts := [], laidByText := true, laidKinds := [.data, .data, .data, .sentinel, .sentinel, .data, .data], laidTests := true, laidLooks := .later }
def TalkNilUptoCardSaid : Prop := Claim7.holds Tryz.pinned (.plain (OpenSpec.upto talkNilSpec)) talkNilUptoCard
end Rows
end Go.Proofs.YtfkiajidcbefjaaGreatDoor
