/- Floats: what compares how, by their bits. -/
import Derived.Test.YtiecjhdhhaldpaaGreatDoorQBits
import Derived.WalkLawsBesides
namespace Go.Proofs.YtiecjhdhhaldpaaGreatDoor.Q
open Go Go.RowKit Go.Proofs.YtiecjhdhhaldpaaGreatDoor.Words
set_option linter.unusedVariables false

/-- Is it no number? -/
def void (x : Nat) : Bool := FloatKind.f64.format.order x x != some .eq

set_option maxRecDepth 100000 in
theorem isNaN_any (x : Nat) (w : World) : Calls Tryz.prog 19 #[.float .f64 x] w fun e w' => e = .returned (.bool (void x)) ∧ w' = w := by
  go_enter Tryz.func19, Tryz.ntmps19
  go_wp2
  go_ret
  exact ⟨rfl, rfl⟩

set_option maxRecDepth 100000 in
theorem abs_half (w : World) : Calls Tryz.prog 28 #[.float .f64 4602678819172646912] w fun e w' => e = .returned (.float .f64 4602678819172646912) ∧ w' = w := by
  have h1 : ∀ W, (callFunc 20 #[.float .f64 4602678819172646912]).run Tryz.prog W = .ok (.value (.int .u64 4602678819172646912)) W := bits_m 4602678819172646912
  have h2 : ∀ W, (callFunc 21 #[.int .u64 4602678819172646912]).run Tryz.prog W = .ok (.value (.float .f64 4602678819172646912)) W := from_m 4602678819172646912
  have hb : bits .andNot .u64 4602678819172646912 9223372036854775808 = 4602678819172646912 := by decide +kernel
  go_enter Tryz.func28, Tryz.ntmps28
  go_wp2
  go_ret
  exact ⟨rfl, rfl⟩

set_option maxRecDepth 100000 in
theorem isInf_up (w : World) : Calls Tryz.prog 25 #[.float .f64 4602678819172646912, .int .i64 1] w fun e w' => e = .returned (.bool false) ∧ w' = w := by
  have hb : (FloatKind.f64.format.order 4602678819172646912 9218868437227405311 == some Ordering.gt) = false := by decide +kernel
  go_enter Tryz.func25, Tryz.ntmps25
  go_wp2
  go_ret
  exact ⟨rfl, rfl⟩

set_option maxRecDepth 100000 in
theorem isInf_down (w : World) : Calls Tryz.prog 25 #[.float .f64 4602678819172646912, .int .i64 (-1)] w fun e w' => e = .returned (.bool false) ∧ w' = w := by
  have hn : ∀ W, (Op.unary UnOp.neg (.float .f64 4602678819172646912)).run Tryz.prog W = .ok (.float .f64 13826050856027422720) W := fun W => by kernel_rfl
  have hb : (FloatKind.f64.format.order 13826050856027422720 9218868437227405311 == some Ordering.gt) = false := by decide +kernel
  go_enter Tryz.func25, Tryz.ntmps25
  go_wp2
  go_ret
  exact ⟨rfl, rfl⟩
end Go.Proofs.YtiecjhdhhaldpaaGreatDoor.Q
