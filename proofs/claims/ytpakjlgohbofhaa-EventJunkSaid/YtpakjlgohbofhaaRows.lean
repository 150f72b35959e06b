/-
  No cell of these rows narrows 'for every input' (looked for: loops, veiled, ifaces, maps, wideKeys, modest, calm, conditions, laid).
  DERIVED. THE GIVEN ROWS OF THIS SEAT. 3 by the template 'for every input the law returns true; each argument reads behind the call as it read before'; 0 by the template 'total and deterministic' (their statements: YtpakjlgohbofhaaTotals.lean).
  GIVEN WITH THE SEED: the statements are not yours to turn. If you find one false, say at which input.
  Laid BY PROGRAM, IN A SANDBOX (cutbox-rows.mjs): the forced cells as the released guide's own fill.sh prints them over the translation 546f65a789ac8f9f… (all of the seat's roots in one cut). By AI agents, Wed Nov 11 2026. No macro, syntax, notation, axiom, sorry.
-/
import Derived.Test.YtpakjlgohbofhaaChecked
import GoSem.Claim
import GoSem.ClaimJoined
import GoSem.ClaimMapViews
import Derived.JoinedTies
import Derived.KernelRfl
namespace Go.Proofs.Ytpakjlgohbofhaa
/- THE CELL 'sum', in the pinned program and in every row, IS THE sha256 OF THE DUMP (.gsa) THAT YtpakjlgohbofhaaProg.lean LOADS. Nothing in Lean hashes anything: it is a label: what it is worth is what the hold of that sum in a sandbox is worth. -/
noncomputable def Try.pinned : Pinned := { name := "ytpakjlgohbofhaa", sum := "546f65a789ac8f9fb2d1f226a1b8af2159c2e43e66671d661d3c6be1e2c7ef8d", checked := Try.checked }
namespace Rows
def none {H : Type} : Left H := { results := [], args := [] }

/-- 'anabranchlaw06.EventBytes': WHATEVER THE INPUT: true; the input reads as it did. -/
def eventBytesSpec : ChangeSpec := { name := "eventBytes", fn := fun _ => fun
  | [d1, d2] => { results := [.lit (.bool true)], args := [d1, d2] }
  | _ => none }
def eventBytesRow : OpenClaim := { program := "ytpakjlgohbofhaa", sum := "546f65a789ac8f9fb2d1f226a1b8af2159c2e43e66671d661d3c6be1e2c7ef8d", func := "anabranch/anabranchlaw06.EventBytes", spec := "eventBytes", inPlace := ["math.Float64bits", "math.Float64frombits"], apart := false }
def EventBytesSaid : Prop := eventBytesRow.holds Try.pinned (OpenSpec.ofChange eventBytesSpec)

/-- ITS FALSE NEIGHBOUR: 'it returns false'. Refute it at one input. -/
def eventBytesWrong : ChangeSpec := { name := "eventBytes", fn := fun _ => fun
  | [d1, d2] => { results := [.lit (.bool false)], args := [d1, d2] }
  | _ => none }
def EventBytesWrongFalsely : Prop := eventBytesRow.holds Try.pinned (OpenSpec.ofChange eventBytesWrong)

/-- 'anabranchlaw06.EventJunk': WHATEVER THE INPUT: true; the input reads as it did. -/
def eventJunkSpec : ChangeSpec := { name := "eventJunk", fn := fun _ => fun
  | [d1, d2, d3, d4, d5] => { results := [.lit (.bool true)], args := [d1, d2, d3, d4, d5] }
  | _ => none }
def eventJunkRow : OpenClaim := { program := "ytpakjlgohbofhaa", sum := "546f65a789ac8f9fb2d1f226a1b8af2159c2e43e66671d661d3c6be1e2c7ef8d", func := "anabranch/anabranchlaw06.EventJunk", spec := "eventJunk", inPlace := ["math.Float64bits", "math.Float64frombits"], apart := false }
def EventJunkSaid : Prop := eventJunkRow.holds Try.pinned (OpenSpec.ofChange eventJunkSpec)

/-- ITS FALSE NEIGHBOUR: 'it returns false'. Refute it at one input. -/
def eventJunkWrong : ChangeSpec := { name := "eventJunk", fn := fun _ => fun
  | [d1, d2, d3, d4, d5] => { results := [.lit (.bool false)], args := [d1, d2, d3, d4, d5] }
  | _ => none }
def EventJunkWrongFalsely : Prop := eventJunkRow.holds Try.pinned (OpenSpec.ofChange eventJunkWrong)

/-- 'anabranchlaw06.EventSame': WHATEVER THE INPUT: true; the input reads as it did. -/
def eventSameSpec : ChangeSpec := { name := "eventSame", fn := fun _ => fun
  | [d1, d2, d3, d4] => { results := [.lit (.bool true)], args := [d1, d2, d3, d4] }
  | _ => none }
def eventSameRow : OpenClaim := { program := "ytpakjlgohbofhaa", sum := "546f65a789ac8f9fb2d1f226a1b8af2159c2e43e66671d661d3c6be1e2c7ef8d", func := "anabranch/anabranchlaw06.EventSame", spec := "eventSame", inPlace := ["math.Float64bits", "math.Float64frombits"], apart := false }
def EventSameSaid : Prop := eventSameRow.holds Try.pinned (OpenSpec.ofChange eventSameSpec)

/-- ITS FALSE NEIGHBOUR: 'it returns false'. Refute it at one input. -/
def eventSameWrong : ChangeSpec := { name := "eventSame", fn := fun _ => fun
  | [d1, d2, d3, d4] => { results := [.lit (.bool false)], args := [d1, d2, d3, d4] }
  | _ => none }
def EventSameWrongFalsely : Prop := eventSameRow.holds Try.pinned (OpenSpec.ofChange eventSameWrong)

/- THE SECOND FORM. 'bulk': how many values and letters a reading holds, each counted each time it is reached (what is shared counts as often as it is met; a slice's spare places count too). A statement '..UptoSaid' is the law's where the arguments, and the package variables that the reading takes, are together of bulk at most 1048576: NARROWER than '..Said'. Prove '..Said' where nothing that the law and all that it calls make is longer than what came in: it says more and counts as full. Else prove '..UptoSaid'. A law counts once. -/
mutual
def uptoBulk {H : Type} : DataW H → Nat
  | .lit (.string bytes) => bytes.length + 1
  | .lit _ => 1
  | .nil => 1
  | .ptr d => uptoBulk d + 1
  | .slice elems spare => uptoBulkAll elems + uptoBulkAll spare + 1
  | .agg parts => uptoBulkAll parts + 1
  | .iface _ d => uptoBulk d + 1
  | .map entries => uptoBulkEntries entries + 1
  | .held _ => 1
def uptoBulkAll {H : Type} : List (DataW H) → Nat
  | [] => 0
  | d :: r => uptoBulk d + uptoBulkAll r
def uptoBulkEntries {H : Type} : List (Lit × DataW H) → Nat
  | [] => 0
  | x :: r => uptoBulkEntry x + uptoBulkEntries r
def uptoBulkEntry {H : Type} : Lit × DataW H → Nat
  | (.string bytes, d) => bytes.length + uptoBulk d + 1
  | (_, d) => uptoBulk d + 1
 end
def uptoSmall : (H : Type) → List (DataW H) → Bool := fun _ ds => decide (uptoBulkAll ds ≤ 1048576)
def OpenSpec.upto (s : _root_.Go.ChangeSpec) : _root_.Go.OpenSpec := { _root_.Go.OpenSpec.ofChange s with cond := some uptoSmall }

/-- 'anabranchlaw06.EventBytes', WHERE WHAT IT READS IS OF BULK AT MOST 1048576: true; the input reads as it did. -/
def eventBytesUptoRow : OpenClaim := { program := "ytpakjlgohbofhaa", sum := "546f65a789ac8f9fb2d1f226a1b8af2159c2e43e66671d661d3c6be1e2c7ef8d", func := "anabranch/anabranchlaw06.EventBytes", spec := "eventBytes", inPlace := ["math.Float64bits", "math.Float64frombits"], apart := false, narrowed := true }
def EventBytesUptoSaid : Prop := eventBytesUptoRow.holds Try.pinned (OpenSpec.upto eventBytesSpec)

/-- 'anabranchlaw06.EventJunk', WHERE WHAT IT READS IS OF BULK AT MOST 1048576: true; the input reads as it did. -/
def eventJunkUptoRow : OpenClaim := { program := "ytpakjlgohbofhaa", sum := "546f65a789ac8f9fb2d1f226a1b8af2159c2e43e66671d661d3c6be1e2c7ef8d", func := "anabranch/anabranchlaw06.EventJunk", spec := "eventJunk", inPlace := ["math.Float64bits", "math.Float64frombits"], apart := false, narrowed := true }
def EventJunkUptoSaid : Prop := eventJunkUptoRow.holds Try.pinned (OpenSpec.upto eventJunkSpec)

/-- 'anabranchlaw06.EventSame', WHERE WHAT IT READS IS OF BULK AT MOST 1048576: true; the input reads as it did. -/
def eventSameUptoRow : OpenClaim := { program := "ytpakjlgohbofhaa", sum := "546f65a789ac8f9fb2d1f226a1b8af2159c2e43e66671d661d3c6be1e2c7ef8d", func := "anabranch/anabranchlaw06.EventSame", spec := "eventSame", inPlace := ["math.Float64bits", "math.Float64frombits"], apart := false, narrowed := true }
def EventSameUptoSaid : Prop := eventSameUptoRow.holds Try.pinned (OpenSpec.upto eventSameSpec)

end Rows
end Go.Proofs.Ytpakjlgohbofhaa
