/- Package vector: Within, Same, Apart, Lack. -/
import Derived.Test.YtffhepdhkpldlaaDoorVecFn
import Derived.Laws.Externs
namespace Go.Proofs.YtffhepdhkpldlaaDoor.Vec
open Go Go.RowKit Go.Proofs.YtffhepdhkpldlaaDoor.Words Go.Proofs.YtffhepdhkpldlaaDoor.Enc Go.Proofs.YtffhepdhkpldlaaDoor.Made Go.Proofs.YtffhepdhkpldlaaDoor.Tape
set_option linter.unusedVariables false
set_option linter.unusedSimpArgs false

theorem below_drewN (w : World) (k : Nat) : Below w.heap.size w (w.drewN k) := by
  have := Below.refl w.heap.size w
  exact ⟨this.os, this.tape, this.output, this.size, this.block⟩
theorem lackL_mono (a b : List Nat) : ∀ j n, j ≤ n → lackL a b j ≤ lackL a b n
  | j, 0, h => by obtain rfl : j = 0 := by omega
                  exact Nat.le_refl _
  | j, n + 1, h => by
    rcases Nat.lt_or_ge j (n + 1) with h1 | h1
    · exact Nat.le_trans (lackL_mono a b j n (by omega)) (Nat.le_add_right _ _)
    · obtain rfl : j = n + 1 := by omega
      exact Nat.le_refl _
end Go.Proofs.YtffhepdhkpldlaaDoor.Vec
