/- A frame whose cells are known, written out: words for what stands behind a region that draws its order. No program. -/
import Derived.Test.YtpfmgjfkjjnadaaFacts
namespace Go.Proofs.Ytpfmgjfkjjnadaa.Facts
open Go Go.RowKit
theorem not_dst {l : List Oper} {t : Nat} (h : (l.all fun o => o.dst != some t) = true) : ∀ i : Nat, (l.toArray[i]?).bind (·.dst) ≠ some t := by
  intro i e
  rw [List.getElem?_toArray] at e
  cases ho : l[i]? with
  | none => rw [ho] at e; cases e
  | some o =>
    rw [ho] at e
    have := List.all_eq_true.1 h o (List.mem_of_getElem? ho)
    simp only [Option.bind_some] at e
    rw [e] at this
    simp at this
theorem array_lit {n : Nat} (t : Array Value) (h : t.size = n) : t = ((List.range n).map fun i => t.getD i undef).toArray := by
  subst h
  apply Array.ext
  · simp
  · intro i h1 h2
    simp [h1]
end Go.Proofs.Ytpfmgjfkjjnadaa.Facts
