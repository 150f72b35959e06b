/- The law's own reference for vectors: Within. -/
import Derived.Test.YtlacihgoammjgaaVec
import Derived.Deep.QuietTactic
import Derived.Lib.Hide
namespace Go.Proofs.Ytlacihgoammjgaa.Vec
open Go Go.RowKit Go.Proofs.Ytlacihgoammjgaa.Words
set_option linter.unusedVariables false
set_option linter.unusedSimpArgs false

theorem within_yes {a b : List Nat} (h : ∀ i, i < a.length → at_ a i ≤ at_ b i) : withinL a b = true := within_iff.2 fun i => by
  by_cases hi : i < a.length
  · exact h i hi
  · rw [at_ge (by omega)]; exact Nat.zero_le _
theorem within_no {a b : List Nat} {i : Nat} (h : ¬ at_ a i ≤ at_ b i) : withinL a b = false := by
  cases hw : withinL a b with
  | false => rfl
  | true => exact absurd (within_iff.1 hw i) h

end Go.Proofs.Ytlacihgoammjgaa.Vec
