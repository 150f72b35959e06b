/-
  NARROWER THAN 'FOR EVERY INPUT', by the rows' own cells (each row's printed sentence says how): LetterTurned: laid · LetterJunk: laid.
  DERIVED. THE GIVEN ROWS OF THIS SEAT. 2 by the template 'for every input the law returns true; each argument reads behind the call as it read before'; 0 by the template 'total and deterministic' (their statements: YthdflbpmabcjlaaDoorTotals.lean).
  GIVEN WITH THE SEED: the statements are not yours to turn. If you find one false, say at which input.
  Laid BY PROGRAM, IN A SANDBOX (cutbox-rows.mjs): the forced cells as the released guide's own fill.sh prints them over the translation 9eb2cb23c6beb4b0… (all of the seat's roots in one cut). By AI agents, Wed Nov 11 2026. No macro, syntax, notation, axiom, sorry.
-/
import Derived.Test.YthdflbpmabcjlaaDoorChecked
import GoSem.Claim
import GoSem.ClaimJoined
import GoSem.ClaimMapViews
import Derived.JoinedTies
import Derived.KernelRfl
namespace Go.Proofs.YthdflbpmabcjlaaDoor
/- THE CELL 'sum', in the pinned program and in every row, IS THE sha256 OF THE DUMP (.gsa) THAT YthdflbpmabcjlaaDoorProg.lean LOADS. Nothing in Lean hashes anything: it is a label: what it is worth is what the hold of that sum in a sandbox is worth. -/
noncomputable def Tryd.pinned : Pinned := { name := "ythdflbpmabcjlaadoor", sum := "9eb2cb23c6beb4b0f1fe26ffedd9b3df946829fa99e7016b88f7c1b40d194ab0", checked := Tryd.checked }
namespace Rows
def none {H : Type} : Left H := { results := [], args := [] }

/- WHAT THE LISTED PACKAGE-LEVEL VARIABLES READ AS WHEN THE CALL BEGINS. Each datum BY PROGRAM (the guide's laid-datum.mjs) off the statement by which the dump's own 'gosem.cut.vars' lays the variable. In a bare row this is a premise. The card (YthdflbpmabcjlaaDoorCards.lean) ties it to the program's text. -/
def laid_anabranch_check_low {H : Type} : DataW H := .agg [.lit (.int .u32 0), .lit (.int .u32 4067132163), .lit (.int .u32 3778769143), .lit (.int .u32 324072436), .lit (.int .u32 3348797215), .lit (.int .u32 904991772), .lit (.int .u32 648144872), .lit (.int .u32 3570033899), .lit (.int .u32 2329499855), .lit (.int .u32 2024987596), .lit (.int .u32 1809983544), .lit (.int .u32 2575936315), .lit (.int .u32 1296289744), .lit (.int .u32 3207089363), .lit (.int .u32 2893594407), .lit (.int .u32 1578318884)]
def laid_anabranch_check_high {H : Type} : DataW H := .agg [.lit (.int .u32 0), .lit (.int .u32 274646895), .lit (.int .u32 549293790), .lit (.int .u32 820201905), .lit (.int .u32 1098587580), .lit (.int .u32 1361435347), .lit (.int .u32 1640403810), .lit (.int .u32 1905808397), .lit (.int .u32 2197175160), .lit (.int .u32 2460548119), .lit (.int .u32 2722870694), .lit (.int .u32 2987750089), .lit (.int .u32 3280807620), .lit (.int .u32 3553878443), .lit (.int .u32 3811616794), .lit (.int .u32 4084100981)]

/-- 'anabranchlaw16.LetterTurned': WHATEVER THE INPUT: true; the input reads as it did. -/
def letterTurnedSpec : ChangeSpec := { name := "letterTurned", fn := fun _ => fun
  | [d1, d2, d3, d4, d5] => { results := [.lit (.bool true)], args := [d1, d2, d3, d4, d5] }
  | _ => none }
def letterTurnedRow : OpenClaim := { program := "ythdflbpmabcjlaadoor", sum := "9eb2cb23c6beb4b0f1fe26ffedd9b3df946829fa99e7016b88f7c1b40d194ab0", func := "anabranch/anabranchlaw16.LetterTurned", spec := "letterTurned", inPlace := ["math.Float64bits", "math.Float64frombits"], named := ["anabranch/check.low", "anabranch/check.high"], apart := false, laid := [("anabranch/check.low", laid_anabranch_check_low), ("anabranch/check.high", laid_anabranch_check_high)] }
def LetterTurnedSaid : Prop := letterTurnedRow.holds Tryd.pinned (OpenSpec.ofChange letterTurnedSpec)

/-- ITS FALSE NEIGHBOUR: 'it returns false'. Refute it at one input. -/
def letterTurnedWrong : ChangeSpec := { name := "letterTurned", fn := fun _ => fun
  | [d1, d2, d3, d4, d5] => { results := [.lit (.bool false)], args := [d1, d2, d3, d4, d5] }
  | _ => none }
def LetterTurnedWrongFalsely : Prop := letterTurnedRow.holds Tryd.pinned (OpenSpec.ofChange letterTurnedWrong)

/-- 'anabranchlaw16.LetterJunk': WHATEVER THE INPUT: true; the input reads as it did. -/
def letterJunkSpec : ChangeSpec := { name := "letterJunk", fn := fun _ => fun
  | [d1, d2] => { results := [.lit (.bool true)], args := [d1, d2] }
  | _ => none }
def letterJunkRow : OpenClaim := { program := "ythdflbpmabcjlaadoor", sum := "9eb2cb23c6beb4b0f1fe26ffedd9b3df946829fa99e7016b88f7c1b40d194ab0", func := "anabranch/anabranchlaw16.LetterJunk", spec := "letterJunk", inPlace := ["math.Float64bits", "math.Float64frombits"], named := ["anabranch/check.low", "anabranch/check.high"], apart := false, laid := [("anabranch/check.low", laid_anabranch_check_low), ("anabranch/check.high", laid_anabranch_check_high)] }
def LetterJunkSaid : Prop := letterJunkRow.holds Tryd.pinned (OpenSpec.ofChange letterJunkSpec)

/-- ITS FALSE NEIGHBOUR: 'it returns false'. Refute it at one input. -/
def letterJunkWrong : ChangeSpec := { name := "letterJunk", fn := fun _ => fun
  | [d1, d2] => { results := [.lit (.bool false)], args := [d1, d2] }
  | _ => none }
def LetterJunkWrongFalsely : Prop := letterJunkRow.holds Tryd.pinned (OpenSpec.ofChange letterJunkWrong)

/- THE SECOND FORM. 'bulk': how many values and letters a reading holds, each counted each time it is reached (what is shared counts as often as it is met; a slice's spare places count too). A statement '..UptoSaid' is the law's where the arguments, and the package variables that the reading takes, are together of bulk at most 1048576: NARROWER than '..Said'. Prove '..Said' where nothing that the law and all that it calls make is longer than what came in: it says more and counts as full. Else prove '..UptoSaid'. A law counts once. -/
mutual
def uptoBulk {H : Type} : DataW H → Nat
  | .lit (.string bytes) => bytes.length + 1
  | .lit _ => 1
  | .nil => 1
  | .ptr d => uptoBulk d + 1
  | .slice elems spare => uptoBulkAll elems + uptoBulkAll spare + 1
  | .agg parts => uptoBulkAll parts + 1
  | .iface _ d => uptoBulk d + 1
  | .map entries => uptoBulkEntries entries + 1
  | .held _ => 1
def uptoBulkAll {H : Type} : List (DataW H) → Nat
  | [] => 0
  | d :: r => uptoBulk d + uptoBulkAll r
def uptoBulkEntries {H : Type} : List (Lit × DataW H) → Nat
  | [] => 0
  | x :: r => uptoBulkEntry x + uptoBulkEntries r
def uptoBulkEntry {H : Type} : Lit × DataW H → Nat
  | (.string bytes, d) => bytes.length + uptoBulk d + 1
  | (_, d) => uptoBulk d + 1
 end
def uptoSmall : (H : Type) → List (DataW H) → Bool := fun _ ds => decide (uptoBulkAll ds ≤ 1048576)
def OpenSpec.upto (s : _root_.Go.ChangeSpec) : _root_.Go.OpenSpec := { _root_.Go.OpenSpec.ofChange s with cond := some uptoSmall }

/-- 'anabranchlaw16.LetterTurned', WHERE WHAT IT READS IS OF BULK AT MOST 1048576: true; the input reads as it did. -/
def letterTurnedUptoRow : OpenClaim := { program := "ythdflbpmabcjlaadoor", sum := "9eb2cb23c6beb4b0f1fe26ffedd9b3df946829fa99e7016b88f7c1b40d194ab0", func := "anabranch/anabranchlaw16.LetterTurned", spec := "letterTurned", inPlace := ["math.Float64bits", "math.Float64frombits"], named := ["anabranch/check.low", "anabranch/check.high"], apart := false, laid := [("anabranch/check.low", laid_anabranch_check_low), ("anabranch/check.high", laid_anabranch_check_high)], narrowed := true }
def LetterTurnedUptoSaid : Prop := letterTurnedUptoRow.holds Tryd.pinned (OpenSpec.upto letterTurnedSpec)

/-- 'anabranchlaw16.LetterJunk', WHERE WHAT IT READS IS OF BULK AT MOST 1048576: true; the input reads as it did. -/
def letterJunkUptoRow : OpenClaim := { program := "ythdflbpmabcjlaadoor", sum := "9eb2cb23c6beb4b0f1fe26ffedd9b3df946829fa99e7016b88f7c1b40d194ab0", func := "anabranch/anabranchlaw16.LetterJunk", spec := "letterJunk", inPlace := ["math.Float64bits", "math.Float64frombits"], named := ["anabranch/check.low", "anabranch/check.high"], apart := false, laid := [("anabranch/check.low", laid_anabranch_check_low), ("anabranch/check.high", laid_anabranch_check_high)], narrowed := true }
def LetterJunkUptoSaid : Prop := letterJunkUptoRow.holds Tryd.pinned (OpenSpec.upto letterJunkSpec)

end Rows
end Go.Proofs.YthdflbpmabcjlaaDoor
