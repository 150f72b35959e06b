/- strconv's reckoning at 0.5. -/
import Derived.Test.YtiecjhdhhaldpaaGreatDoorQLaid
namespace Go.Proofs.YtiecjhdhhaldpaaGreatDoor.Q
open Go Go.RowKit Go.Proofs.YtiecjhdhhaldpaaGreatDoor.Words
set_option linter.unusedVariables false

theorem skewed_half (w : World) : Calls Tryz.prog 60 #[.int .i64 (-53)] w fun e w' => e = .returned (.int .i64 (-17)) ∧ w' = w := by
  go_enter Tryz.func60, Tryz.ntmps60
  go_wp2
  go_ret
  simp
theorem log2_half (w : World) : Calls Tryz.prog 62 #[.int .i64 17] w fun e w' => e = .returned (.int .i64 56) ∧ w' = w := by
  go_enter Tryz.func62, Tryz.ntmps62
  go_wp2
  go_ret
  simp
theorem nudge_zero (u : Nat) (w : World) (hu : u < 18446744073709551616) : Calls Tryz.prog 64 #[.int .u64 u, .int .i64 0] w fun e w' => e = .returned (.int .u64 u) ∧ w' = w := by
  go_enter Tryz.func64, Tryz.ntmps64
  go_wp2
  go_ret
  simp
theorem ceil_half (w : World) : Calls Tryz.prog 65 #[.int .u64 199999999999999989] w fun e w' => e = .returned (.int .u64 49999999999999998) ∧ w' = w := by
  go_enter Tryz.func65, Tryz.ntmps65
  go_wp2
  go_ret
  simp
theorem floor_half (w : World) : Calls Tryz.prog 66 #[.int .u64 200000000000000023] w fun e w' => e = .returned (.int .u64 50000000000000005) ∧ w' = w := by
  go_enter Tryz.func66, Tryz.ntmps66
  go_wp2
  go_ret
  simp
end Go.Proofs.YtiecjhdhhaldpaaGreatDoor.Q
