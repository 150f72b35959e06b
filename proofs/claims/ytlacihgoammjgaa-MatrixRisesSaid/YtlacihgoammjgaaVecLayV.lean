/- The law's own reference for a vector's bytes; the law's test for small vectors. -/
import Derived.Test.YtlacihgoammjgaaVecMath
import Derived.Test.YtlacihgoammjgaaBPlain
import Derived.Lib.Hide
namespace Go.Proofs.Ytlacihgoammjgaa.Vec
open Go Go.RowKit Go.Proofs.Ytlacihgoammjgaa.Words Go.Proofs.Ytlacihgoammjgaa.Enc Go.Proofs.Ytlacihgoammjgaa.Made
set_option linter.unusedVariables false
set_option linter.unusedSimpArgs false

theorem trimN_yes {v : List Nat} {k : Nat} (h : at_ v k = 0) : trimN v (k + 1) = trimN v k := if_pos h
theorem trimN_no {v : List Nat} {k : Nat} (h : at_ v k ≠ 0) : trimN v (k + 1) = k + 1 := if_neg h
theorem encs_take (v : List Nat) (i : Nat) (h : i < v.length) : encs (v.take (i + 1)) = encs (v.take i) ++ enc (at_ v i) := by
  rw [List.take_add_one, at_lt h, Option.toList_some, encs_snoc]

end Go.Proofs.Ytlacihgoammjgaa.Vec
