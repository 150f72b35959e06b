/-
  DERIVED. GIVEN WITH THE SEED: THE CARDS: each row of YtinjbdgjcadodaaGreatDoorRows.lean that lists a variable, with what it lists TIED to the program's text (the seventh form; the later family's looks); each row that meets fmt, with fmt's text TOLD by the authors' own Lean function (tested against real Go, not proved from fmt's source: count such statements apart). THE CARD IS WHAT COUNTS. Prove the row's statement (the work); the ties are given (YtinjbdgjcadodaaGreatDoorTie.lean); close each card by the builder's one call (the guide's Derived/Test/ToyasCard.lean, 'card_holds'). Laid BY PROGRAM, IN A SANDBOX (cutbox-door.mjs). By AI agents, Wed Nov 11 2026. No macro, syntax, notation, axiom, sorry.
-/
import Derived.Test.YtinjbdgjcadodaaGreatDoorRows
import GoSem.ClaimSeven
namespace Go.Proofs.YtinjbdgjcadodaaGreatDoor
namespace Rows

/-- THE TIED CARD OF 'anabranchlaw17.TalkNil'. -/
def talkNilCard : Claim7 := { stood := { row := talkNilRow, standIns := [], harness := (true, "2e00072b916a4eebccb092e601f31592e3e71dc397d48dca2b28bab511be9eac"), looks := true }, kinds := [], alts := [], laidByText := true, laidKinds := [.data, .data, .data, .sentinel, .sentinel, .data, .data], laidTests := true, laidLooks := .later }
def TalkNilCardSaid : Prop := Claim7.holds Tryz.pinned (.plain (OpenSpec.ofChange talkNilSpec)) talkNilCard

/-- THE TIED CARD OF 'anabranchlaw18.ReplicaNil'. -/
def replicaNilCard : Claim7 := { stood := { row := replicaNilRow, standIns := [], harness := (true, "2e00072b916a4eebccb092e601f31592e3e71dc397d48dca2b28bab511be9eac"), looks := true }, kinds := [], alts := [], laidByText := true, laidKinds := [.data, .data, .data, .sentinel, .sentinel, .data, .data], laidTests := true, laidLooks := .later }
def ReplicaNilCardSaid : Prop := Claim7.holds Tryz.pinned (.plain (OpenSpec.ofChange replicaNilSpec)) replicaNilCard

/-- THE SECOND FORM's CARD OF 'anabranchlaw17.TalkNil'. -/
def talkNilUptoCard : Claim7 := { stood := { row := talkNilUptoRow, standIns := [], harness := (true, "2e00072b916a4eebccb092e601f31592e3e71dc397d48dca2b28bab511be9eac"), looks := true }, kinds := [], alts := [], laidByText := true, laidKinds := [.data, .data, .data, .sentinel, .sentinel, .data, .data], laidTests := true, laidLooks := .later }
def TalkNilUptoCardSaid : Prop := Claim7.holds Tryz.pinned (.plain (OpenSpec.upto talkNilSpec)) talkNilUptoCard

/-- THE SECOND FORM's CARD OF 'anabranchlaw18.ReplicaNil'. -/
def replicaNilUptoCard : Claim7 := { stood := { row := replicaNilUptoRow, standIns := [], harness := (true, "2e00072b916a4eebccb092e601f31592e3e71dc397d48dca2b28bab511be9eac"), looks := true }, kinds := [], alts := [], laidByText := true, laidKinds := [.data, .data, .data, .sentinel, .sentinel, .data, .data], laidTests := true, laidLooks := .later }
def ReplicaNilUptoCardSaid : Prop := Claim7.holds Tryz.pinned (.plain (OpenSpec.upto replicaNilSpec)) replicaNilUptoCard
end Rows
end Go.Proofs.YtinjbdgjcadodaaGreatDoor
