/-
  DERIVED. GIVEN WITH THE SEED: THE CARDS: each row of YtfdnlgigllflfaaGreatDoorRows.lean that lists a variable, with what it lists TIED to the program's text (the seventh form; the later family's looks); each row that meets fmt, with fmt's text TOLD by the authors' own Lean function (tested against real Go, not proved from fmt's source: count such statements apart). THE CARD IS WHAT COUNTS. Prove the row's statement (the work); the ties are given (YtfdnlgigllflfaaGreatDoorTie.lean); close each card by the builder's one call (the guide's Derived/Test/ToyasCard.lean, 'card_holds'). Laid BY PROGRAM, IN A SANDBOX (cutbox-door.mjs). By AI agents, Wed Nov 11 2026. No macro, syntax, notation, axiom, sorry.
-/
import Derived.Test.YtfdnlgigllflfaaGreatDoorRows
import GoSem.ClaimSeven
namespace Go.Proofs.YtfdnlgigllflfaaGreatDoor
namespace Rows

/-- THE TIED CARD OF 'anabranchlaw08.SegmentFills'. -/
def segmentFillsCard : Claim7 := { stood := { row := segmentFillsRow, standIns := [], harness := (true, "8789e5031b3d26a185f5f5e1439d3aa322f291d3e924a1a3e7708363a636ce3c"), looks := true }, kinds := [], alts := [], laidByText := true, laidKinds := [.data, .data, .data, .sentinel, .sentinel, .data, .data], laidTests := true, laidLooks := .later }
def SegmentFillsCardSaid : Prop := Claim7.holds Tryz.pinned (.plain (OpenSpec.ofChange segmentFillsSpec)) segmentFillsCard

/-- THE TIED CARD OF 'anabranchlaw08.SegmentMends'. -/
def segmentMendsCard : Claim7 := { stood := { row := segmentMendsRow, standIns := [], harness := (true, "8789e5031b3d26a185f5f5e1439d3aa322f291d3e924a1a3e7708363a636ce3c"), looks := true }, kinds := [], alts := [], laidByText := true, laidKinds := [.data, .data, .data, .sentinel, .sentinel, .data, .data], laidTests := true, laidLooks := .later }
def SegmentMendsCardSaid : Prop := Claim7.holds Tryz.pinned (.plain (OpenSpec.ofChange segmentMendsSpec)) segmentMendsCard

/-- THE TIED CARD OF 'anabranchlaw08.SegmentStrange'. -/
def segmentStrangeCard : Claim7 := { stood := { row := segmentStrangeRow, standIns := [], harness := (true, "8789e5031b3d26a185f5f5e1439d3aa322f291d3e924a1a3e7708363a636ce3c"), looks := true }, kinds := [], alts := [], laidByText := true, laidKinds := [.data, .data, .data, .sentinel, .sentinel, .data, .data], laidTests := true, laidLooks := .later }
def SegmentStrangeCardSaid : Prop := Claim7.holds Tryz.pinned (.plain (OpenSpec.ofChange segmentStrangeSpec)) segmentStrangeCard

/-- THE SECOND FORM's CARD OF 'anabranchlaw08.SegmentFills'. -/
def segmentFillsUptoCard : Claim7 := { stood := { row := segmentFillsUptoRow, standIns := [], harness := (true, "8789e5031b3d26a185f5f5e1439d3aa322f291d3e924a1a3e7708363a636ce3c"), looks := true }, kinds := [], alts := [], laidByText := true, laidKinds := [.data, .data, .data, .sentinel, .sentinel, .data, .data], laidTests := true, laidLooks := .later }
def SegmentFillsUptoCardSaid : Prop := Claim7.holds Tryz.pinned (.plain (OpenSpec.upto segmentFillsSpec)) segmentFillsUptoCard

/-- THE SECOND FORM's CARD OF 'anabranchlaw08.SegmentMends'. -/
def segmentMendsUptoCard : Claim7 := { stood := { row := segmentMendsUptoRow, standIns := [], harness := (true, "8789e5031b3d26a185f5f5e1439d3aa322f291d3e924a1a3e7708363a636ce3c"), looks := true }, kinds := [], alts := [], laidByText := true, laidKinds := [.data, .data, .data, .sentinel, .sentinel, .data, .data], laidTests := true, laidLooks := .later }
def SegmentMendsUptoCardSaid : Prop := Claim7.holds Tryz.pinned (.plain (OpenSpec.upto segmentMendsSpec)) segmentMendsUptoCard

/-- THE SECOND FORM's CARD OF 'anabranchlaw08.SegmentStrange'. -/
def segmentStrangeUptoCard : Claim7 := { stood := { row := segmentStrangeUptoRow, standIns := [], harness := (true, "8789e5031b3d26a185f5f5e1439d3aa322f291d3e924a1a3e7708363a636ce3c"), looks := true }, kinds := [], alts := [], laidByText := true, laidKinds := [.data, .data, .data, .sentinel, .sentinel, .data, .data], laidTests := true, laidLooks := .later }
def SegmentStrangeUptoCardSaid : Prop := Claim7.holds Tryz.pinned (.plain (OpenSpec.upto segmentStrangeSpec)) segmentStrangeUptoCard
end Rows
end Go.Proofs.YtfdnlgigllflfaaGreatDoor
