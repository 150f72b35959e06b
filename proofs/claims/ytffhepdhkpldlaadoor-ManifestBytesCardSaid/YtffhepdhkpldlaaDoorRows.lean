/-
  NARROWER THAN 'FOR EVERY INPUT', by the rows' own cells (each row's printed sentence says how): ManifestBytes: laid · ManifestSwaps: laid · ManifestErrs: laid.
  DERIVED. THE GIVEN ROWS OF THIS SEAT. 3 by the template 'for every input the law returns true; each argument reads behind the call as it read before'; 0 by the template 'total and deterministic' (their statements: YtffhepdhkpldlaaDoorTotals.lean).
  GIVEN WITH THE SEED: the statements are not yours to turn. If you find one false, say at which input.
  Laid BY PROGRAM, IN A SANDBOX (cutbox-rows.mjs): the forced cells as the released guide's own fill.sh prints them over the translation 3d54e778a7db57fe… (all of the seat's roots in one cut). By AI agents, Wed Nov 11 2026. No macro, syntax, notation, axiom, sorry.
-/
import Derived.Test.YtffhepdhkpldlaaDoorChecked
import GoSem.Claim
import GoSem.ClaimJoined
import GoSem.ClaimMapViews
import Derived.JoinedTies
import Derived.KernelRfl
namespace Go.Proofs.YtffhepdhkpldlaaDoor
/- THE CELL 'sum', in the pinned program and in every row, IS THE sha256 OF THE DUMP (.gsa) THAT YtffhepdhkpldlaaDoorProg.lean LOADS. Nothing in Lean hashes anything: it is a label: what it is worth is what the hold of that sum in a sandbox is worth. -/
noncomputable def Tryd.pinned : Pinned := { name := "ytffhepdhkpldlaadoor", sum := "3d54e778a7db57fe386ed02d9cdfea349a0f1acc4a43fd1ebd40789d0f565eb1", checked := Tryd.checked }
namespace Rows
def none {H : Type} : Left H := { results := [], args := [] }

/- WHAT THE LISTED PACKAGE-LEVEL VARIABLES READ AS WHEN THE CALL BEGINS. Each datum BY PROGRAM (the guide's laid-datum.mjs) off the statement by which the dump's own 'gosem.cut.vars' lays the variable. In a bare row this is a premise. The card (YtffhepdhkpldlaaDoorCards.lean) ties it to the program's text. -/
def laid_anabranch_check_low {H : Type} : DataW H := .agg [.lit (.int .u32 0), .lit (.int .u32 4067132163), .lit (.int .u32 3778769143), .lit (.int .u32 324072436), .lit (.int .u32 3348797215), .lit (.int .u32 904991772), .lit (.int .u32 648144872), .lit (.int .u32 3570033899), .lit (.int .u32 2329499855), .lit (.int .u32 2024987596), .lit (.int .u32 1809983544), .lit (.int .u32 2575936315), .lit (.int .u32 1296289744), .lit (.int .u32 3207089363), .lit (.int .u32 2893594407), .lit (.int .u32 1578318884)]
def laid_anabranch_check_high {H : Type} : DataW H := .agg [.lit (.int .u32 0), .lit (.int .u32 274646895), .lit (.int .u32 549293790), .lit (.int .u32 820201905), .lit (.int .u32 1098587580), .lit (.int .u32 1361435347), .lit (.int .u32 1640403810), .lit (.int .u32 1905808397), .lit (.int .u32 2197175160), .lit (.int .u32 2460548119), .lit (.int .u32 2722870694), .lit (.int .u32 2987750089), .lit (.int .u32 3280807620), .lit (.int .u32 3553878443), .lit (.int .u32 3811616794), .lit (.int .u32 4084100981)]

/-- 'anabranchlaw10.ManifestBytes': WHATEVER THE INPUT: true; the input reads as it did. -/
def manifestBytesSpec : ChangeSpec := { name := "manifestBytes", fn := fun _ => fun
  | [d1, d2, d3, d4, d5] => { results := [.lit (.bool true)], args := [d1, d2, d3, d4, d5] }
  | _ => none }
def manifestBytesRow : OpenClaim := { program := "ytffhepdhkpldlaadoor", sum := "3d54e778a7db57fe386ed02d9cdfea349a0f1acc4a43fd1ebd40789d0f565eb1", func := "anabranch/anabranchlaw10.ManifestBytes", spec := "manifestBytes", unfollowed := true, recurses := true, named := ["anabranch/check.low", "anabranch/check.high"], apart := false, laid := [("anabranch/check.low", laid_anabranch_check_low), ("anabranch/check.high", laid_anabranch_check_high)] }
def ManifestBytesSaid : Prop := manifestBytesRow.holds Tryd.pinned (OpenSpec.ofChange manifestBytesSpec)

/-- ITS FALSE NEIGHBOUR: 'it returns false'. Refute it at one input. -/
def manifestBytesWrong : ChangeSpec := { name := "manifestBytes", fn := fun _ => fun
  | [d1, d2, d3, d4, d5] => { results := [.lit (.bool false)], args := [d1, d2, d3, d4, d5] }
  | _ => none }
def ManifestBytesWrongFalsely : Prop := manifestBytesRow.holds Tryd.pinned (OpenSpec.ofChange manifestBytesWrong)

/-- 'anabranchlaw10.ManifestSwaps': WHATEVER THE INPUT: true; the input reads as it did. -/
def manifestSwapsSpec : ChangeSpec := { name := "manifestSwaps", fn := fun _ => fun
  | [d1, d2, d3, d4, d5] => { results := [.lit (.bool true)], args := [d1, d2, d3, d4, d5] }
  | _ => none }
def manifestSwapsRow : OpenClaim := { program := "ytffhepdhkpldlaadoor", sum := "3d54e778a7db57fe386ed02d9cdfea349a0f1acc4a43fd1ebd40789d0f565eb1", func := "anabranch/anabranchlaw10.ManifestSwaps", spec := "manifestSwaps", unfollowed := true, recurses := true, named := ["anabranch/check.low", "anabranch/check.high"], apart := false, laid := [("anabranch/check.low", laid_anabranch_check_low), ("anabranch/check.high", laid_anabranch_check_high)] }
def ManifestSwapsSaid : Prop := manifestSwapsRow.holds Tryd.pinned (OpenSpec.ofChange manifestSwapsSpec)

/-- ITS FALSE NEIGHBOUR: 'it returns false'. Refute it at one input. -/
def manifestSwapsWrong : ChangeSpec := { name := "manifestSwaps", fn := fun _ => fun
  | [d1, d2, d3, d4, d5] => { results := [.lit (.bool false)], args := [d1, d2, d3, d4, d5] }
  | _ => none }
def ManifestSwapsWrongFalsely : Prop := manifestSwapsRow.holds Tryd.pinned (OpenSpec.ofChange manifestSwapsWrong)

/-- 'anabranchlaw10.ManifestErrs': WHATEVER THE INPUT: true; the input reads as it did. -/
def manifestErrsSpec : ChangeSpec := { name := "manifestErrs", fn := fun _ => fun
  | [d1, d2, d3] => { results := [.lit (.bool true)], args := [d1, d2, d3] }
  | _ => none }
def manifestErrsRow : OpenClaim := { program := "ytffhepdhkpldlaadoor", sum := "3d54e778a7db57fe386ed02d9cdfea349a0f1acc4a43fd1ebd40789d0f565eb1", func := "anabranch/anabranchlaw10.ManifestErrs", spec := "manifestErrs", unfollowed := true, recurses := true, named := ["anabranch/check.low", "anabranch/check.high"], apart := false, laid := [("anabranch/check.low", laid_anabranch_check_low), ("anabranch/check.high", laid_anabranch_check_high)] }
def ManifestErrsSaid : Prop := manifestErrsRow.holds Tryd.pinned (OpenSpec.ofChange manifestErrsSpec)

/-- ITS FALSE NEIGHBOUR: 'it returns false'. Refute it at one input. -/
def manifestErrsWrong : ChangeSpec := { name := "manifestErrs", fn := fun _ => fun
  | [d1, d2, d3] => { results := [.lit (.bool false)], args := [d1, d2, d3] }
  | _ => none }
def ManifestErrsWrongFalsely : Prop := manifestErrsRow.holds Tryd.pinned (OpenSpec.ofChange manifestErrsWrong)

/- THE SECOND FORM. 'bulk': how many values and letters a reading holds, each counted each time it is reached (what is shared counts as often as it is met; a slice's spare places count too). A statement '..UptoSaid' is the law's where the arguments, and the package variables that the reading takes, are together of bulk at most 1048576: NARROWER than '..Said'. Prove '..Said' where nothing that the law and all that it calls make is longer than what came in: it says more and counts as full. Else prove '..UptoSaid'. A law counts once. -/
mutual
def uptoBulk {H : Type} : DataW H → Nat
  | .lit (.string bytes) => bytes.length + 1
  | .lit _ => 1
  | .nil => 1
  | .ptr d => uptoBulk d + 1
  | .slice elems spare => uptoBulkAll elems + uptoBulkAll spare + 1
  | .agg parts => uptoBulkAll parts + 1
  | .iface _ d => uptoBulk d + 1
  | .map entries => uptoBulkEntries entries + 1
  | .held _ => 1
def uptoBulkAll {H : Type} : List (DataW H) → Nat
  | [] => 0
  | d :: r => uptoBulk d + uptoBulkAll r
def uptoBulkEntries {H : Type} : List (Lit × DataW H) → Nat
  | [] => 0
  | x :: r => uptoBulkEntry x + uptoBulkEntries r
def uptoBulkEntry {H : Type} : Lit × DataW H → Nat
  | (.string bytes, d) => bytes.length + uptoBulk d + 1
  | (_, d) => uptoBulk d + 1
 end
def uptoSmall : (H : Type) → List (DataW H) → Bool := fun _ ds => decide (uptoBulkAll ds ≤ 1048576)
def OpenSpec.upto (s : _root_.Go.ChangeSpec) : _root_.Go.OpenSpec := { _root_.Go.OpenSpec.ofChange s with cond := some uptoSmall }

/-- 'anabranchlaw10.ManifestBytes', WHERE WHAT IT READS IS OF BULK AT MOST 1048576: true; the input reads as it did. -/
def manifestBytesUptoRow : OpenClaim := { program := "ytffhepdhkpldlaadoor", sum := "3d54e778a7db57fe386ed02d9cdfea349a0f1acc4a43fd1ebd40789d0f565eb1", func := "anabranch/anabranchlaw10.ManifestBytes", spec := "manifestBytes", unfollowed := true, recurses := true, named := ["anabranch/check.low", "anabranch/check.high"], apart := false, laid := [("anabranch/check.low", laid_anabranch_check_low), ("anabranch/check.high", laid_anabranch_check_high)], narrowed := true }
def ManifestBytesUptoSaid : Prop := manifestBytesUptoRow.holds Tryd.pinned (OpenSpec.upto manifestBytesSpec)

/-- 'anabranchlaw10.ManifestSwaps', WHERE WHAT IT READS IS OF BULK AT MOST 1048576: true; the input reads as it did. -/
def manifestSwapsUptoRow : OpenClaim := { program := "ytffhepdhkpldlaadoor", sum := "3d54e778a7db57fe386ed02d9cdfea349a0f1acc4a43fd1ebd40789d0f565eb1", func := "anabranch/anabranchlaw10.ManifestSwaps", spec := "manifestSwaps", unfollowed := true, recurses := true, named := ["anabranch/check.low", "anabranch/check.high"], apart := false, laid := [("anabranch/check.low", laid_anabranch_check_low), ("anabranch/check.high", laid_anabranch_check_high)], narrowed := true }
def ManifestSwapsUptoSaid : Prop := manifestSwapsUptoRow.holds Tryd.pinned (OpenSpec.upto manifestSwapsSpec)

/-- 'anabranchlaw10.ManifestErrs', WHERE WHAT IT READS IS OF BULK AT MOST 1048576: true; the input reads as it did. -/
def manifestErrsUptoRow : OpenClaim := { program := "ytffhepdhkpldlaadoor", sum := "3d54e778a7db57fe386ed02d9cdfea349a0f1acc4a43fd1ebd40789d0f565eb1", func := "anabranch/anabranchlaw10.ManifestErrs", spec := "manifestErrs", unfollowed := true, recurses := true, named := ["anabranch/check.low", "anabranch/check.high"], apart := false, laid := [("anabranch/check.low", laid_anabranch_check_low), ("anabranch/check.high", laid_anabranch_check_high)], narrowed := true }
def ManifestErrsUptoSaid : Prop := manifestErrsUptoRow.holds Tryd.pinned (OpenSpec.upto manifestErrsSpec)

end Rows
end Go.Proofs.YtffhepdhkpldlaaDoor
