/- quantity.Parse at "0.5". -/
import Derived.Test.YtiecjhdhhaldpaaGreatDoorQRead
namespace Go.Proofs.YtiecjhdhhaldpaaGreatDoor.Q
open Go Go.RowKit Go.Proofs.YtiecjhdhhaldpaaGreatDoor.Words
set_option linter.unusedVariables false

set_option maxRecDepth 100000 in
theorem exact_half (w : World) (T : Tabs w) : Calls Tryz.prog 99 #[.int .u64 5, .int .i64 (-1), .bool false] w fun e w' => e = .returned (.tuple #[.float .f64 4602678819172646912, .bool true]) ∧ w' = w := by
  obtain ⟨b, o, c, h1, h2, h3⟩ := T.tens
  have hmb := T.mb
  have hq : floatBits .quo .f64 4617315517961601024 4621819117588971520 = some 4602678819172646912 := by decide +kernel
  have hq' : ∀ t W, (binOp .quo t (.float .f64 4617315517961601024) (.float .f64 4621819117588971520)).run Tryz.prog W = .ok (.float .f64 4602678819172646912) W := fun t W => run_float_arith W .quo t .f64 _ _ _ hq
  have hcv : ∀ W, (convert 23 22 (.int .u64 5)).run Tryz.prog W = .ok (.float .f64 4617315517961601024) W := fun W => by kernel_rfl
  go_enter Tryz.func99, Tryz.ntmps99
  go_wp2
  go_ret2
  exact ⟨rfl, rfl⟩

set_option maxRecDepth 100000 in
theorem bool2_no (w : World) : Calls Tryz.prog 86 #[.bool false] w fun e w' => e = .returned (.int .u64 0) ∧ w' = w := by
  go_enter Tryz.func86, Tryz.ntmps86
  go_wp2
  go_ret
  exact ⟨rfl, rfl⟩

set_option maxRecDepth 100000 in
set_option maxHeartbeats 1000000 in
theorem atof_half (w : World) (T : Tabs w) : Calls Tryz.prog 79 #[.string halfName] w fun e w' => e = .returned (.tuple #[.float .f64 4602678819172646912, .int .i64 3, .nilIface]) ∧ w' = w := by
  have hopt := T.opt
  go_enter Tryz.func79, Tryz.ntmps79
  go_wp2_with fail
  refine (special_half _).mono ?_
  rintro e w ⟨rfl, rfl⟩
  go_wp2_with fail
  refine (read_half _).mono ?_
  rintro e w ⟨rfl, rfl⟩
  go_wp2_with fail
  refine (bool2_no _).mono ?_
  rintro e w ⟨rfl, rfl⟩
  go_wp2_with fail
  refine (exact_half _ T).mono ?_
  rintro e w ⟨rfl, rfl⟩
  go_wp2
  go_ret3
  exact ⟨rfl, rfl⟩

set_option maxRecDepth 100000 in
theorem prefix_half (w : World) (T : Tabs w) : Calls Tryz.prog 52 #[.string halfName, .int .i64 64] w fun e w' => e = .returned (.tuple #[.float .f64 4602678819172646912, .int .i64 3, .nilIface]) ∧ w' = w := by
  go_enter Tryz.func52, Tryz.ntmps52
  go_wp2_with fail
  refine (atof_half _ T).mono ?_
  rintro e w ⟨rfl, rfl⟩
  go_wp2
  go_ret3
  exact ⟨rfl, rfl⟩

set_option maxRecDepth 100000 in
theorem parseF_half (w : World) (T : Tabs w) : Calls Tryz.prog 35 #[.string halfName, .int .i64 64] w fun e w' => e = .returned (.tuple #[.float .f64 4602678819172646912, .nilIface]) ∧ w' = w := by
  go_enter Tryz.func35, Tryz.ntmps35
  go_wp2_with fail
  refine (prefix_half _ T).mono ?_
  rintro e w ⟨rfl, rfl⟩
  go_wp2
  go_ret2
  exact ⟨rfl, rfl⟩

set_option maxRecDepth 100000 in
theorem parseS_half (w : World) (T : Tabs w) : Calls Tryz.prog 32 #[.string halfName, .int .i64 64] w fun e w' => e = .returned (.tuple #[.float .f64 4602678819172646912, .nilIface]) ∧ w' = w := by
  go_enter Tryz.func32, Tryz.ntmps32
  go_wp2_with fail
  refine (parseF_half _ T).mono ?_
  rintro e w ⟨rfl, rfl⟩
  go_wp2
  go_ret2
  exact ⟨rfl, rfl⟩

set_option maxRecDepth 100000 in
theorem guess_half (w : World) (T : Tabs w) : Calls Tryz.prog 27 #[.string halfName] w fun e w' => e = .returned (.float .f64 4602678819172646912) ∧ w' = w := by
  go_enter Tryz.func27, Tryz.ntmps27
  go_wp2_with fail
  refine (parseS_half _ T).mono ?_
  rintro e w ⟨rfl, rfl⟩
  go_wp2
  go_ret
  exact ⟨rfl, rfl⟩

set_option maxRecDepth 100000 in
theorem parse_half (w : World) (T : Tabs w) : Calls Tryz.prog 18 #[.string halfName] w fun e w' => e = .returned (.tuple #[.float .f64 0, .bool false]) ∧ Below w.heap.size w w' := by
  have hne : (halfText.toList == [48, 46, 53]) = false := by decide +kernel
  go_enter Tryz.func18, Tryz.ntmps18
  go_wp2_with fail
  refine (guess_half _ T).mono ?_
  rintro e w ⟨rfl, rfl⟩
  go_wp2_with fail
  refine (text_half _ T).mono ?_
  rintro e w1 ⟨rfl, hb⟩
  go_wp2
  go_ret2
  exact ⟨rfl, hb⟩

set_option maxRecDepth 100000 in
theorem awake_any (w : World) (T : Tabs w) : Calls Tryz.prog 9 #[] w fun e w' => e = .returned (.bool true) ∧ Below w.heap.size w w' := by
  go_enter Tryz.func9, Tryz.ntmps9
  go_wp2_with fail
  refine (parse_half _ T).mono ?_
  rintro e w1 ⟨rfl, hb⟩
  have T1 := T.of_below hb
  go_wp2_with fail
  refine (text_half _ T1).mono ?_
  rintro e w2 ⟨rfl, hb2⟩
  have heq : (halfText.toList == [53, 101, 45, 48, 49]) = true := by decide +kernel
  go_wp2
  go_ret
  exact ⟨rfl, hb.trans (hb2.mono hb.size)⟩
end Go.Proofs.YtiecjhdhhaldpaaGreatDoor.Q
