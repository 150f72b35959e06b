/- The law's test for small vectors; what is asked of package vector about bytes. -/
import Derived.Test.YtlacihgoammjgaaVecLayV
import Derived.Test.YtlacihgoammjgaaVecSaid
namespace Go.Proofs.Ytlacihgoammjgaa.Vec
open Go Go.RowKit Go.Proofs.Ytlacihgoammjgaa.Words Go.Proofs.Ytlacihgoammjgaa.Enc Go.Proofs.Ytlacihgoammjgaa.Made Go.Proofs.Ytlacihgoammjgaa.Tape
set_option linter.unusedVariables false
set_option linter.unusedSimpArgs false

/-- Bytes that are handed back. -/
def GivesB (w : World) (p : List UInt8) (e : Ending) (w' : World) : Prop := ∃ R rc, e = .returned (.slice R p.length rc) ∧ Sees w' R p.length p ∧ p.length ≤ rc ∧ rc ≤ 9223372036854775807 ∧ Below w.heap.size w w'
def OfGives (g : Nat ⊕ List Nat) (w : World) (e : Ending) (w' : World) : Prop :=
  match g with
  | .inl E => ∃ R rc, e = .returned (.tuple #[.slice R 0 rc, .int .i64 (E : Int)]) ∧ rc ≤ 9223372036854775807 ∧ Below w.heap.size w w'
  | .inr v => ∃ R k rc, e = .returned (.tuple #[.slice R k rc, .int .i64 0]) ∧ SeesU w' R k v ∧ k ≤ rc ∧ rc ≤ 9223372036854775807 ∧ Below w.heap.size w w'
theorem small_fits {v : List Nat} (h : Small v) : Fits v := fun i => by have := h.2 i; omega
end Go.Proofs.Ytlacihgoammjgaa.Vec
