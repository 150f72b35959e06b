/- FeedNil, walked. -/
import Derived.Test.YtkphklmgbdljiaaGreatDoorFdNil
import Derived.Test.YtkphklmgbdljiaaGreatDoorBSegMake
import Derived.Test.YtkphklmgbdljiaaGreatDoorBPlain
import Derived.BigQuiet
namespace Go.Proofs.YtkphklmgbdljiaaGreatDoor.Fd
open Go Go.RowKit Go.Proofs.YtkphklmgbdljiaaGreatDoor.Words Go.Proofs.YtkphklmgbdljiaaGreatDoor.Enc Go.Proofs.YtkphklmgbdljiaaGreatDoor.Evt Go.Proofs.YtkphklmgbdljiaaGreatDoor.Made Go.Proofs.YtkphklmgbdljiaaGreatDoor.Dsk Go.Proofs.YtkphklmgbdljiaaGreatDoor.Seg
set_option linter.unusedVariables false
set_option linter.unusedSimpArgs false

theorem below_drewN' (w : World) (d : Nat) : Below w.heap.size w (w.drewN d) := ⟨rfl, rfl, rfl, Nat.le_refl _, fun _ _ => rfl⟩
def zeroRow : Array Value := #[.int .i64 0, .int .u64 0, .int .u64 0, .int .u8 0, .string ⟨#[]⟩, .slice none 0 0, .float .f64 0, .int .i64 0]

set_option maxRecDepth 100000 in
theorem next_empty (d f : Nat) (x sz : Int) (floor time : Nat) (safe : Int) (w : World) (g : w.heap[f]? = some (.cells (cells d x sz floor time (.slice none 0 0) safe) 60 (0, 0))) (hf : floor < 18446744073709551615) :
    Calls Tryz.prog 17 #[.pointer (some ⟨f, 0, none⟩)] w fun e w' => e = .returned (.int .u64 ((floor + 1 : Nat) : Int)) ∧ Below w.heap.size w w' := by
  have c5 : w.cell? ⟨f, 5, none⟩ = some (.slice none 0 0) := by rw [cell_of_row w f _ _ _ _ g]; rfl
  have c3 : w.cell? ⟨f, 3, none⟩ = some (.int .u64 (floor : Int)) := by rw [cell_of_row w f _ _ _ _ g]; rfl
  have hlt : f < w.heap.size := (Array.getElem?_eq_some_iff.1 g).1
  clear g
  go_enter Tryz.func17, Tryz.ntmps17
  go_wp2_with fail
  go_quiet (fail)
  go_wp2
  go_ret
  exact ⟨by simp, below_drewN' w _⟩

set_option maxRecDepth 100000 in
theorem writer_any (d f : Nat) (x sz : Int) (floor time : Nat) (P : Value) (safe : Int) (w : World) (g : w.heap[f]? = some (.cells (cells d x sz floor time P safe) 60 (0, 0))) :
    Calls Tryz.prog 20 #[.pointer (some ⟨f, 0, none⟩)] w fun e w' => e = .returned (.int .i64 x) ∧ w = w' := by
  have c1 : w.cell? ⟨f, 1, none⟩ = some (.int .i64 x) := by rw [cell_of_row w f _ _ _ _ g]; rfl
  clear g
  go_enter Tryz.func20, Tryz.ntmps20
  go_wp2
  go_ret
  exact ⟨rfl, rfl⟩
set_option maxRecDepth 100000 in
theorem awake9 (w : World) (T : STabs w) : Calls Tryz.prog 6 #[] w fun e w' => e = .returned (.bool true) ∧ Below w.heap.size w w' := by
  go_enter Tryz.func6, Tryz.ntmps6
  go_wp2_with fail
  refine (newC 1000 w).mono ?_
  rintro e w1 ⟨d, S, rfl, hd, hS, hb1⟩
  go_wp2_with fail
  refine (openN d S _ 3 100 4 0 w1 (T.below hb1) hd rfl (by omega) (by omega)).mono ?_
  rintro e w2 ⟨f, rfl, hf, g, hb2⟩
  have b2 := hb1.trans (hb2.mono hb1.size)
  go_wp2_with fail
  refine (next_empty d f 3 100 4 0 0 w2 g (by omega)).mono ?_
  rintro e w3 ⟨rfl, hb3⟩
  have g3 := (hb3.block f (Array.getElem?_eq_some_iff.1 g).1).trans g
  have b3 := b2.trans (hb3.mono b2.size)
  go_wp2_with fail
  refine (writer_any d f 3 100 4 0 _ 0 w3 g3).mono ?_
  rintro e w4 ⟨rfl, rfl⟩
  go_wp2
  go_ret
  exact ⟨rfl, b3⟩
end Go.Proofs.YtkphklmgbdljiaaGreatDoor.Fd
