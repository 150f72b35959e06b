/- strconv's prescale, uscale, shortFloat at 0.5. -/
import Derived.Test.YtiecjhdhhaldpaaGreatDoorQNum
namespace Go.Proofs.YtiecjhdhhaldpaaGreatDoor.Q
open Go Go.RowKit Go.Proofs.YtiecjhdhhaldpaaGreatDoor.Words
set_option linter.unusedVariables false

/-- What prescale lays. -/
abbrev pre (w : World) (a b c : Value) : World := w.alloc (.cells #[a, b, c] 83)

set_option maxRecDepth 100000 in
theorem prescale_half (w : World) (T : Tabs w) : Calls Tryz.prog 61 #[.pointer (some ⟨w.heap.size, 0, none⟩), .int .i64 (-64), .int .i64 17, .int .i64 56] (pre w (.int .u64 0) (.int .u64 0) (.int .i64 0)) fun e w' => e = .returned (.tuple #[]) ∧ w' = pre w (.int .u64 12800000000000000000) (.int .u64 0) (.int .i64 5) := by
  have hs := T.size
  have h5 : 5 < w.heap.size := by omega
  have hhi := T.hi
  have hlo := T.lo
  go_enter Tryz.func61, Tryz.ntmps61
  go_wp2
  go_end0
  exact ⟨rfl, rfl⟩

set_option maxRecDepth 100000 in
theorem uscale_low (w : World) : Calls Tryz.prog 63 #[.int .u64 9223372036854775296, .pointer (some ⟨w.heap.size, 0, none⟩)] (pre w (.int .u64 12800000000000000000) (.int .u64 0) (.int .i64 5)) fun e w' => e = .returned (.int .u64 199999999999999989) ∧ w' = pre w (.int .u64 12800000000000000000) (.int .u64 0) (.int .i64 5) := by
  have hb1 : bits .and .i64 5 63 = 5 := by decide +kernel
  have hb2 : bits .or .u64 199999999999999988 1 = 199999999999999989 := by decide +kernel
  go_enter Tryz.func63, Tryz.ntmps63
  go_wp2_with fail
  refine (Tryz.bits_Mul64 9223372036854775296 12800000000000000000 (by omega) (by omega) _).mono ?_
  rintro e w ⟨rfl, rfl⟩
  go_wp2
  go_ret
  exact ⟨rfl, rfl⟩

set_option maxRecDepth 100000 in
theorem uscale_high (w : World) : Calls Tryz.prog 63 #[.int .u64 9223372036854776832, .pointer (some ⟨w.heap.size, 0, none⟩)] (pre w (.int .u64 12800000000000000000) (.int .u64 0) (.int .i64 5)) fun e w' => e = .returned (.int .u64 200000000000000023) ∧ w' = pre w (.int .u64 12800000000000000000) (.int .u64 0) (.int .i64 5) := by
  have hb1 : bits .and .i64 5 63 = 5 := by decide +kernel
  have hb3 : bits .or .u64 200000000000000022 1 = 200000000000000023 := by decide +kernel
  go_enter Tryz.func63, Tryz.ntmps63
  go_wp2_with fail
  refine (Tryz.bits_Mul64 9223372036854776832 12800000000000000000 (by omega) (by omega) _).mono ?_
  rintro e w ⟨rfl, rfl⟩
  go_wp2
  go_ret
  exact ⟨rfl, rfl⟩

set_option maxRecDepth 100000 in
set_option maxHeartbeats 1000000 in
theorem short_half (w : World) (T : Tabs w) : Calls Tryz.prog 51 #[.int .u64 9223372036854775808, .int .i64 (-64)] w fun e w' => e = .returned (.tuple #[.int .u64 5000000000000000, .int .i64 (-16)]) ∧ Below w.heap.size w w' := by
  have hb1 : bits .and .i64 4503599627370496 1 = 0 := by decide +kernel
  go_enter Tryz.func51, Tryz.ntmps51
  go_wp2_with fail
  refine (skewed_half _).mono ?_
  rintro e w ⟨rfl, rfl⟩
  go_wp2_with fail
  refine (log2_half _).mono ?_
  rintro e w ⟨rfl, rfl⟩
  go_wp2_with fail
  refine (prescale_half w T).mono ?_
  rintro e w ⟨rfl, rfl⟩
  go_wp2_with fail
  refine (uscale_low w).mono ?_
  rintro e w ⟨rfl, rfl⟩
  go_wp2_with fail
  refine (nudge_zero 199999999999999989 _ (by omega)).mono ?_
  rintro e w ⟨rfl, rfl⟩
  go_wp2_with fail
  refine (ceil_half _).mono ?_
  rintro e w ⟨rfl, rfl⟩
  go_wp2_with fail
  refine (uscale_high w).mono ?_
  rintro e w ⟨rfl, rfl⟩
  go_wp2_with fail
  refine (nudge_zero 200000000000000023 _ (by omega)).mono ?_
  rintro e w ⟨rfl, rfl⟩
  go_wp2_with fail
  refine (floor_half _).mono ?_
  rintro e w ⟨rfl, rfl⟩
  go_wp2
  go_ret2
  exact ⟨rfl, (Below.refl _ _).alloc (Nat.le_refl _) _⟩
end Go.Proofs.YtiecjhdhhaldpaaGreatDoor.Q
