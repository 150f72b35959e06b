/- What the listed tables give the walks of strconv: the cells that a walk at 0.5 reads. -/
import Derived.Test.YtiecjhdhhaldpaaGreatDoorRows
import Derived.Test.YtiecjhdhhaldpaaGreatDoorWords
import Derived.Test.YtiecjhdhhaldpaaGreatDoorShelf
import Derived.Handy
import Derived.LaidMore
namespace Go.Proofs.YtiecjhdhhaldpaaGreatDoor.Q
open Go Go.RowKit Go.Proofs.YtiecjhdhhaldpaaGreatDoor.Words
set_option linter.unusedVariables false

/-- The cells that are read. -/
structure Tabs (w : World) : Prop where
  size : 14 ≤ w.heap.size
  pows : Lib.TabIs Tryz.prog w "internal/strconv.uint64pow10" .u64 Lib.pow10Tab
  hi : w.cell? ⟨5, 730, none⟩ = some (.int .u64 12800000000000000000)
  lo : w.cell? ⟨5, 731, none⟩ = some (.int .u64 0)
  opt : w.cell? ⟨1, 0, none⟩ = some (.bool true)
  mb : w.cell? ⟨8, 0, none⟩ = some (.int .u64 52)
  tens : ∃ b o c, w.cell? ⟨11, 0, none⟩ = some (.slice (some ⟨b, o, none⟩) 23 c) ∧ b < w.heap.size ∧ w.cell? ⟨b, o + 1, none⟩ = some (.float .f64 4621819117588971520)

theorem Tabs.of_below {w w' : World} (h : Tabs w) (hb : Below w.heap.size w w') : Tabs w' := by
  obtain ⟨b, o, c, h1, h2, h3⟩ := h.tens
  have hs := h.size
  exact { size := Nat.le_trans hs hb.size
          pows := by
            have := h.pows
            unfold Lib.TabIs at this ⊢
            rw [← this]
            obtain ⟨g, hg⟩ : ∃ g, Tryz.prog.globalNamed "internal/strconv.uint64pow10" = some g := ⟨2, by kernel_rfl⟩
            have hgv : g = 2 := by
              have : Tryz.prog.globalNamed "internal/strconv.uint64pow10" = some 2 := by kernel_rfl
              rw [hg] at this; exact Option.some.inj this
            unfold World.var?
            rw [hg]
            simp only [Option.bind_some]
            rw [hb.block g (by omega)]
          hi := by rw [hb.cell (show 5 < _ by omega)]; exact h.hi
          lo := by rw [hb.cell (show 5 < _ by omega)]; exact h.lo
          opt := by rw [hb.cell (show 1 < _ by omega)]; exact h.opt
          mb := by rw [hb.cell (show 8 < _ by omega)]; exact h.mb
          tens := ⟨b, o, c, by rw [hb.cell (show 11 < _ by omega)]; exact h1, Nat.lt_of_lt_of_le h2 hb.size, by rw [hb.cell (by exact h2)]; exact h3⟩ }
end Go.Proofs.YtiecjhdhhaldpaaGreatDoor.Q
