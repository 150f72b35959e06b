/-
  DERIVED. GIVEN WITH THE SEED: THE CARDS: each row of YtiecjhdhhaldpaaGreatDoorRows.lean that lists a variable, with what it lists TIED to the program's text (the seventh form; the later family's looks); each row that meets fmt, with fmt's text TOLD by the authors' own Lean function (tested against real Go, not proved from fmt's source: count such statements apart). THE CARD IS WHAT COUNTS. Prove the row's statement (the work); the ties are given (YtiecjhdhhaldpaaGreatDoorTie.lean); close each card by the builder's one call (the guide's Derived/Test/ToyasCard.lean, 'card_holds'). Laid BY PROGRAM, IN A SANDBOX (cutbox-door.mjs). By AI agents, Wed Nov 11 2026. No macro, syntax, notation, axiom, sorry.
-/
import Derived.Test.YtiecjhdhhaldpaaGreatDoorRows
import GoSem.ClaimSeven
namespace Go.Proofs.YtiecjhdhhaldpaaGreatDoor
namespace Rows

/-- THE TIED CARD OF 'anabranchlaw01.QuantityBits'. -/
def quantityBitsCard : Claim7 := { stood := { row := quantityBitsRow, standIns := [], harness := (true, "81df39d8f04b2f8ad8c1e812c3187cb7971ba124990935fbd47ec7b352ba7cf6"), looks := true }, kinds := [], alts := [], laidByText := true, laidKinds := [.data, .data, .widerDeep, .widerDeep, .data, .data, .data, .data, .data, .sentinel, .sentinel, .pinned, .pinned], laidTests := true, laidLooks := .later }
def QuantityBitsCardSaid : Prop := Claim7.holds Tryz.pinned (.plain (OpenSpec.ofChange quantityBitsSpec)) quantityBitsCard

/-- THE TIED CARD OF 'anabranchlaw01.QuantityOrders'. -/
def quantityOrdersCard : Claim7 := { stood := { row := quantityOrdersRow, standIns := [], harness := (true, "81df39d8f04b2f8ad8c1e812c3187cb7971ba124990935fbd47ec7b352ba7cf6"), looks := true }, kinds := [], alts := [], laidByText := true, laidKinds := [.data, .data, .widerDeep, .widerDeep, .data, .data, .data, .data, .data, .sentinel, .sentinel, .pinned, .pinned], laidTests := true, laidLooks := .later }
def QuantityOrdersCardSaid : Prop := Claim7.holds Tryz.pinned (.plain (OpenSpec.ofChange quantityOrdersSpec)) quantityOrdersCard

/-- THE TIED CARD OF 'anabranchlaw01.QuantitySums'. -/
def quantitySumsCard : Claim7 := { stood := { row := quantitySumsRow, standIns := [], harness := (true, "81df39d8f04b2f8ad8c1e812c3187cb7971ba124990935fbd47ec7b352ba7cf6"), looks := true }, kinds := [], alts := [], laidByText := true, laidKinds := [.data, .data, .widerDeep, .widerDeep, .data, .data, .data, .data, .data, .sentinel, .sentinel, .pinned, .pinned], laidTests := true, laidLooks := .later }
def QuantitySumsCardSaid : Prop := Claim7.holds Tryz.pinned (.plain (OpenSpec.ofChange quantitySumsSpec)) quantitySumsCard

/-- THE TIED CARD OF 'anabranchlaw01.QuantityTexts'. -/
def quantityTextsCard : Claim7 := { stood := { row := quantityTextsRow, standIns := [], harness := (true, "81df39d8f04b2f8ad8c1e812c3187cb7971ba124990935fbd47ec7b352ba7cf6"), looks := true }, kinds := [], alts := [], laidByText := true, laidKinds := [.data, .data, .widerDeep, .widerDeep, .data, .data, .data, .data, .data, .sentinel, .sentinel, .pinned, .pinned], laidTests := true, laidLooks := .later }
def QuantityTextsCardSaid : Prop := Claim7.holds Tryz.pinned (.plain (OpenSpec.ofChange quantityTextsSpec)) quantityTextsCard

/-- THE SECOND FORM's CARD OF 'anabranchlaw01.QuantityBits'. -/
def quantityBitsUptoCard : Claim7 := { stood := { row := quantityBitsUptoRow, standIns := [], harness := (true, "81df39d8f04b2f8ad8c1e812c3187cb7971ba124990935fbd47ec7b352ba7cf6"), looks := true }, kinds := [], alts := [], laidByText := true, laidKinds := [.data, .data, .widerDeep, .widerDeep, .data, .data, .data, .data, .data, .sentinel, .sentinel, .pinned, .pinned], laidTests := true, laidLooks := .later }
def QuantityBitsUptoCardSaid : Prop := Claim7.holds Tryz.pinned (.plain (OpenSpec.upto quantityBitsSpec)) quantityBitsUptoCard

/-- THE SECOND FORM's CARD OF 'anabranchlaw01.QuantityOrders'. -/
def quantityOrdersUptoCard : Claim7 := { stood := { row := quantityOrdersUptoRow, standIns := [], harness := (true, "81df39d8f04b2f8ad8c1e812c3187cb7971ba124990935fbd47ec7b352ba7cf6"), looks := true }, kinds := [], alts := [], laidByText := true, laidKinds := [.data, .data, .widerDeep, .widerDeep, .data, .data, .data, .data, .data, .sentinel, .sentinel, .pinned, .pinned], laidTests := true, laidLooks := .later }
def QuantityOrdersUptoCardSaid : Prop := Claim7.holds Tryz.pinned (.plain (OpenSpec.upto quantityOrdersSpec)) quantityOrdersUptoCard

/-- THE SECOND FORM's CARD OF 'anabranchlaw01.QuantitySums'. -/
def quantitySumsUptoCard : Claim7 := { stood := { row := quantitySumsUptoRow, standIns := [], harness := (true, "81df39d8f04b2f8ad8c1e812c3187cb7971ba124990935fbd47ec7b352ba7cf6"), looks := true }, kinds := [], alts := [], laidByText := true, laidKinds := [.data, .data, .widerDeep, .widerDeep, .data, .data, .data, .data, .data, .sentinel, .sentinel, .pinned, .pinned], laidTests := true, laidLooks := .later }
def QuantitySumsUptoCardSaid : Prop := Claim7.holds Tryz.pinned (.plain (OpenSpec.upto quantitySumsSpec)) quantitySumsUptoCard

/-- THE SECOND FORM's CARD OF 'anabranchlaw01.QuantityTexts'. -/
def quantityTextsUptoCard : Claim7 := { stood := { row := quantityTextsUptoRow, standIns := [], harness := (true, "81df39d8f04b2f8ad8c1e812c3187cb7971ba124990935fbd47ec7b352ba7cf6"), looks := true }, kinds := [], alts := [], laidByText := true, laidKinds := [.data, .data, .widerDeep, .widerDeep, .data, .data, .data, .data, .data, .sentinel, .sentinel, .pinned, .pinned], laidTests := true, laidLooks := .later }
def QuantityTextsUptoCardSaid : Prop := Claim7.holds Tryz.pinned (.plain (OpenSpec.upto quantityTextsSpec)) quantityTextsUptoCard
end Rows
end Go.Proofs.YtiecjhdhhaldpaaGreatDoor
