/- quantity.Text at 0.5. -/
import Derived.Test.YtiecjhdhhaldpaaGreatDoorQFtoa
import Derived.Test.YtiecjhdhhaldpaaGreatDoorQFloat
namespace Go.Proofs.YtiecjhdhhaldpaaGreatDoor.Q
open Go Go.RowKit Go.Proofs.YtiecjhdhhaldpaaGreatDoor.Words
set_option linter.unusedVariables false

def halfText : ByteArray := ⟨#[53, 101, 45, 48, 49]⟩
abbrev room24 : Array Value := Array.replicate 24 (.int .u8 0)

set_option maxRecDepth 100000 in
theorem make24 (W : World) : (Instr.makeSlice 47 (.int .i64 0) (.int .i64 24)).run Tryz.prog W = .ok (.slice (some ⟨W.heap.size, 0, none⟩) 0 24) (W.alloc (.cells room24 5)) := by kernel_rfl

set_option maxRecDepth 100000 in
set_option maxHeartbeats 1000000 in
theorem format_half (w : World) (T : Tabs w) :
    Calls Tryz.prog 29 #[.float .f64 4602678819172646912, .int .u8 101, .int .i64 (-1), .int .i64 64] w fun e w' => e = .returned (.string halfText) ∧ Below w.heap.size w w' := by
  have hm : max (3 : Int) 24 = 24 := rfl
  have mk := make24
  have b1 : Below w.heap.size w (w.alloc (.cells room24 5)) := (Below.refl _ _).alloc (Nat.le_refl _) _
  have T1 := T.of_below b1
  have hown : (w.alloc (.cells room24 5)).ownsRow w.heap.size 5 1 (.slice (some ⟨w.heap.size, 0, none⟩) 0 24) 0 (cs []) := World.ownsRow_made w room24 24 (Nat.le_refl _) (by unfold maxLen; omega) (by simp)
  have HO := Lib.hid hown
  clear hown
  go_enter Tryz.func29, Tryz.ntmps29
  go_wp2_with fail
  refine (ftoa_half w.heap.size (some ⟨w.heap.size, 0, none⟩) 24 _ T1 HO.out (by simp)).mono ?_
  rintro e w1 ⟨A1, c1, rfl, hown1, hb1⟩
  have hb1' := b1.trans hb1
  have str := (Sees.of_own hown1).string c1 Tryz.underlying47 Tryz.underlying5 Tryz.underlying9
  go_wp2
  go_ret
  exact ⟨rfl, hb1'⟩

set_option maxRecDepth 100000 in
theorem formats_half (w : World) (T : Tabs w) :
    Calls Tryz.prog 26 #[.float .f64 4602678819172646912, .int .u8 101, .int .i64 (-1), .int .i64 64] w fun e w' => e = .returned (.string halfText) ∧ Below w.heap.size w w' := by
  go_enter Tryz.func26, Tryz.ntmps26
  go_wp2_with fail
  refine (format_half _ T).mono ?_
  rintro e w1 ⟨rfl, hb1⟩
  go_wp2
  go_ret
  exact ⟨rfl, hb1⟩

set_option maxRecDepth 100000 in
set_option maxHeartbeats 1000000 in
theorem text_half (w : World) (T : Tabs w) :
    Calls Tryz.prog 17 #[.float .f64 4602678819172646912] w fun e w' => e = .returned (.string halfText) ∧ Below w.heap.size w w' := by
  go_enter Tryz.func17, Tryz.ntmps17
  go_wp2_with fail
  have hv : void 4602678819172646912 = false := by decide +kernel
  refine (isNaN_any _ _).mono ?_
  rintro e w1 ⟨rfl, hw1⟩
  rw [hv]; subst hw1
  go_wp2_with fail
  refine (isInf_up _).mono ?_
  rintro e w1 ⟨rfl, hw1⟩
  subst hw1
  go_wp2_with fail
  refine (isInf_down _).mono ?_
  rintro e w1 ⟨rfl, hw1⟩
  subst hw1
  go_wp2_with fail
  refine (formats_half _ T).mono ?_
  rintro e w1 ⟨rfl, hb1⟩
  go_wp2
  go_ret
  exact ⟨rfl, hb1⟩
end Go.Proofs.YtiecjhdhhaldpaaGreatDoor.Q
