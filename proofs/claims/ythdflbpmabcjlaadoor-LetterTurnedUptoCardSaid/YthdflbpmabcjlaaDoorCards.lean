/-
  DERIVED. GIVEN WITH THE SEED: THE CARDS: each row of YthdflbpmabcjlaaDoorRows.lean that lists a variable, with what it lists TIED to the program's text (the seventh form; the later family's looks); each row that meets fmt, with fmt's text TOLD by the authors' own Lean function (tested against real Go, not proved from fmt's source: count such statements apart). THE CARD IS WHAT COUNTS. Prove the row's statement (the work); the ties are given (YthdflbpmabcjlaaDoorTie.lean); close each card by the builder's one call (the guide's Derived/Test/ToyasCard.lean, 'card_holds'). Laid BY PROGRAM, IN A SANDBOX (cutbox-door.mjs). By AI agents, Wed Nov 11 2026. No macro, syntax, notation, axiom, sorry.
-/
import Derived.Test.YthdflbpmabcjlaaDoorRows
import GoSem.ClaimSeven
namespace Go.Proofs.YthdflbpmabcjlaaDoor
namespace Rows

/-- THE TIED CARD OF 'anabranchlaw16.LetterTurned'. -/
def letterTurnedCard : Claim7 := { stood := { row := letterTurnedRow, standIns := [], harness := (true, "b030f53907fe65547c74a4fbc3c3e274fa9993c3fa03dd00c6d25ea5afd666d7"), looks := true }, kinds := [], alts := [], laidByText := true, laidKinds := [.data, .data], laidTests := true, laidLooks := .later }
def LetterTurnedCardSaid : Prop := Claim7.holds Tryd.pinned (.plain (OpenSpec.ofChange letterTurnedSpec)) letterTurnedCard

/-- THE TIED CARD OF 'anabranchlaw16.LetterJunk'. -/
def letterJunkCard : Claim7 := { stood := { row := letterJunkRow, standIns := [], harness := (true, "b030f53907fe65547c74a4fbc3c3e274fa9993c3fa03dd00c6d25ea5afd666d7"), looks := true }, kinds := [], alts := [], laidByText := true, laidKinds := [.data, .data], laidTests := true, laidLooks := .later }
def LetterJunkCardSaid : Prop := Claim7.holds Tryd.pinned (.plain (OpenSpec.ofChange letterJunkSpec)) letterJunkCard

/-- THE SECOND FORM's CARD OF 'anabranchlaw16.LetterTurned'. -/
def letterTurnedUptoCard : Claim7 := { stood := { row := letterTurnedUptoRow, standIns := [], harness := (true, "b030f53907fe65547c74a4fbc3c3e274fa9993c3fa03dd00c6d25ea5afd666d7"), looks := true }, kinds := [], alts := [], laidByText := true, laidKinds := [.data, .data], laidTests := true, laidLooks := .later }
def LetterTurnedUptoCardSaid : Prop := Claim7.holds Tryd.pinned (.plain (OpenSpec.upto letterTurnedSpec)) letterTurnedUptoCard

/-- THE SECOND FORM's CARD OF 'anabranchlaw16.LetterJunk'. -/
def letterJunkUptoCard : Claim7 := { stood := { row := letterJunkUptoRow, standIns := [], harness := (true, "b030f53907fe65547c74a4fbc3c3e274fa9993c3fa03dd00c6d25ea5afd666d7"), looks := true }, kinds := [], alts := [], laidByText := true, laidKinds := [.data, .data], laidTests := true, laidLooks := .later }
def LetterJunkUptoCardSaid : Prop := Claim7.holds Tryd.pinned (.plain (OpenSpec.upto letterJunkSpec)) letterJunkUptoCard
end Rows
end Go.Proofs.YthdflbpmabcjlaaDoor
