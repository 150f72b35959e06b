/- A float's bits, and back: the functions without a body. -/
import Derived.Test.YtiecjhdhhaldpaaGreatDoorQFmt
namespace Go.Proofs.YtiecjhdhhaldpaaGreatDoor.Q
open Go Go.RowKit Go.Proofs.YtiecjhdhhaldpaaGreatDoor.Words
set_option linter.unusedVariables false
set_option maxRecDepth 100000

theorem bits_s (x : Nat) (w : World) : (callFunc 38 #[.float .f64 x]).run Tryz.prog w = .ok (.value (.int .u64 (x : Int))) w := by kernel_rfl
theorem bits_m (x : Nat) (w : World) : (callFunc 20 #[.float .f64 x]).run Tryz.prog w = .ok (.value (.int .u64 (x : Int))) w := by kernel_rfl
theorem from_m (x : Nat) (w : World) : (callFunc 21 #[.int .u64 (x : Int)]).run Tryz.prog w = .ok (.value (.float .f64 x)) w := by kernel_rfl
end Go.Proofs.YtiecjhdhhaldpaaGreatDoor.Q
