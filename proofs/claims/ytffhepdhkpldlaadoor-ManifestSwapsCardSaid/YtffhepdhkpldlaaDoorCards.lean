/-
  DERIVED. GIVEN WITH THE SEED: THE CARDS: each row of YtffhepdhkpldlaaDoorRows.lean that lists a variable, with what it lists TIED to the program's text (the seventh form; the later family's looks); each row that meets fmt, with fmt's text TOLD by the authors' own Lean function (tested against real Go, not proved from fmt's source: count such statements apart). THE CARD IS WHAT COUNTS. Prove the row's statement (the work); the ties are given (YtffhepdhkpldlaaDoorTie.lean); close each card by the builder's one call (the guide's Derived/Test/ToyasCard.lean, 'card_holds'). Laid BY PROGRAM, IN A SANDBOX (cutbox-door.mjs). By AI agents, Wed Nov 11 2026. No macro, syntax, notation, axiom, sorry.
-/
import Derived.Test.YtffhepdhkpldlaaDoorRows
import GoSem.ClaimSeven
namespace Go.Proofs.YtffhepdhkpldlaaDoor
namespace Rows

/-- THE TIED CARD OF 'anabranchlaw10.ManifestBytes'. -/
def manifestBytesCard : Claim7 := { stood := { row := manifestBytesRow, standIns := [], harness := (true, "99ed7061da30ee4c655ab9fb30064b177242a5e8ea9b466580ae39e92a10ff08"), looks := true }, kinds := [], alts := [], laidByText := true, laidKinds := [.data, .data], laidTests := true, laidLooks := .later }
def ManifestBytesCardSaid : Prop := Claim7.holds Tryd.pinned (.plain (OpenSpec.ofChange manifestBytesSpec)) manifestBytesCard

/-- THE TIED CARD OF 'anabranchlaw10.ManifestSwaps'. -/
def manifestSwapsCard : Claim7 := { stood := { row := manifestSwapsRow, standIns := [], harness := (true, "99ed7061da30ee4c655ab9fb30064b177242a5e8ea9b466580ae39e92a10ff08"), looks := true }, kinds := [], alts := [], laidByText := true, laidKinds := [.data, .data], laidTests := true, laidLooks := .later }
def ManifestSwapsCardSaid : Prop := Claim7.holds Tryd.pinned (.plain (OpenSpec.ofChange manifestSwapsSpec)) manifestSwapsCard

/-- THE TIED CARD OF 'anabranchlaw10.ManifestErrs'. -/
def manifestErrsCard : Claim7 := { stood := { row := manifestErrsRow, standIns := [], harness := (true, "99ed7061da30ee4c655ab9fb30064b177242a5e8ea9b466580ae39e92a10ff08"), looks := true }, kinds := [], alts := [], laidByText := true, laidKinds := [.data, .data], laidTests := true, laidLooks := .later }
def ManifestErrsCardSaid : Prop := Claim7.holds Tryd.pinned (.plain (OpenSpec.ofChange manifestErrsSpec)) manifestErrsCard

/-- THE SECOND FORM's CARD OF 'anabranchlaw10.ManifestBytes'. -/
def manifestBytesUptoCard : Claim7 := { stood := { row := manifestBytesUptoRow, standIns := [], harness := (true, "99ed7061da30ee4c655ab9fb30064b177242a5e8ea9b466580ae39e92a10ff08"), looks := true }, kinds := [], alts := [], laidByText := true, laidKinds := [.data, .data], laidTests := true, laidLooks := .later }
def ManifestBytesUptoCardSaid : Prop := Claim7.holds Tryd.pinned (.plain (OpenSpec.upto manifestBytesSpec)) manifestBytesUptoCard

/-- THE SECOND FORM's CARD OF 'anabranchlaw10.ManifestSwaps'. -/
def manifestSwapsUptoCard : Claim7 := { stood := { row := manifestSwapsUptoRow, standIns := [], harness := (true, "99ed7061da30ee4c655ab9fb30064b177242a5e8ea9b466580ae39e92a10ff08"), looks := true }, kinds := [], alts := [], laidByText := true, laidKinds := [.data, .data], laidTests := true, laidLooks := .later }
def ManifestSwapsUptoCardSaid : Prop := Claim7.holds Tryd.pinned (.plain (OpenSpec.upto manifestSwapsSpec)) manifestSwapsUptoCard

/-- THE SECOND FORM's CARD OF 'anabranchlaw10.ManifestErrs'. -/
def manifestErrsUptoCard : Claim7 := { stood := { row := manifestErrsUptoRow, standIns := [], harness := (true, "99ed7061da30ee4c655ab9fb30064b177242a5e8ea9b466580ae39e92a10ff08"), looks := true }, kinds := [], alts := [], laidByText := true, laidKinds := [.data, .data], laidTests := true, laidLooks := .later }
def ManifestErrsUptoCardSaid : Prop := Claim7.holds Tryd.pinned (.plain (OpenSpec.upto manifestErrsSpec)) manifestErrsUptoCard
end Rows
end Go.Proofs.YtffhepdhkpldlaaDoor
