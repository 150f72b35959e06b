/- The two tables of package check, as the walks read them; the row's condition on them. -/
import Derived.Test.YtokfajlmephdeaaDoorRows
import Derived.Test.YtokfajlmephdeaaDoorWords
import Derived.Test.YtokfajlmephdeaaDoorCrc
import Derived.Handy
import Derived.LaidMore
import Derived.Lib.LaidTab
import Derived.Lib.SmallJoins
namespace Go.Proofs.YtokfajlmephdeaaDoor.Chk
open Go Go.RowKit Go.Proofs.YtokfajlmephdeaaDoor.Words
set_option linter.unusedVariables false

def lowInts : List Int := Crc.lowTab.map fun (n : Nat) => (n : Int)
def highInts : List Int := Crc.highTab.map fun (n : Nat) => (n : Int)
/-- The tables lie in the world. -/
structure Tabs (w : World) : Prop where
  low : Lib.TabIs Tryd.prog w "anabranch/check.low" .u32 lowInts
  high : Lib.TabIs Tryd.prog w "anabranch/check.high" .u32 highInts
theorem named_low : Tryd.prog.globalNamed "anabranch/check.low" = some 0 := by kernel_rfl
theorem named_high : Tryd.prog.globalNamed "anabranch/check.high" = some 1 := by kernel_rfl
theorem Tabs.below {w w' : World} (h : Tabs w) (hb : Below w.heap.size w w') : Tabs w' :=
  ⟨Joins.tab_stays named_low h.low hb (Nat.le_refl _), Joins.tab_stays named_high h.high hb (Nat.le_refl _)⟩
theorem Tabs.lowAt {w : World} (h : Tabs w) (i : Nat) (hi : i < 16) : w.cell? ⟨0, i, none⟩ = some (.int .u32 (Crc.lowAt i : Int)) := by
  rw [h.low.cell named_low i (Nat.lt_of_lt_of_eq hi (by decide))]
  exact congrArg (fun z => some (Value.int .u32 z)) ((by decide : ∀ i : Fin 16, lowInts.getD i.val 0 = (Crc.lowAt i.val : Int)) ⟨i, hi⟩)
theorem Tabs.highAt {w : World} (h : Tabs w) (i : Nat) (hi : i < 16) : w.cell? ⟨1, i, none⟩ = some (.int .u32 (Crc.highAt i : Int)) := by
  rw [h.high.cell named_high i (Nat.lt_of_lt_of_eq hi (by decide))]
  exact congrArg (fun z => some (Value.int .u32 z)) ((by decide : ∀ i : Fin 16, highInts.getD i.val 0 = (Crc.highAt i.val : Int)) ⟨i, hi⟩)

/-- What the rows list. -/
def listed : List (String × DataW Unit) := [("anabranch/check.low", Lib.tabData .u32 lowInts), ("anabranch/check.high", Lib.tabData .u32 highInts)]
theorem listed_eq : listed = [("anabranch/check.low", Lib.tabData .u32 lowInts), ("anabranch/check.high", Lib.tabData .u32 highInts)] := rfl
theorem tail_of {P : Program} {w : World} {x : String × DataW Unit} {rest : List (String × DataW Unit)} (h : laidMet P (x :: rest) w) : laidMet P rest w := by
  obtain ⟨ps, ⟨g, t, cs, f, p, q, _, _, _, _, hr, rfl⟩, hn, hc⟩ := h
  exact ⟨q, hr, (List.nodup_append.1 hn).2.1, fun b off hm => hc b off (List.mem_append_right _ hm)⟩
set_option maxRecDepth 100000 in
theorem of_laid {W : World} (h : laidMetH Tryd.prog listed W) : Tabs W := by
  rw [MakeChecks.laidMetH_plain _ _ _ (by kernel_rfl)] at h
  rw [listed_eq] at h
  exact ⟨Lib.tabIs_of_head (g := 0) (t := 119) (e := 83) (n := 16) named_low (by kernel_rfl) Tryd.underlying119 Tryd.underlying83 (by kernel_rfl) (by kernel_rfl) h,
    Lib.tabIs_of_head (g := 1) (t := 119) (e := 83) (n := 16) named_high (by kernel_rfl) Tryd.underlying119 Tryd.underlying83 (by kernel_rfl) (by kernel_rfl) (tail_of h)⟩
end Go.Proofs.YtokfajlmephdeaaDoor.Chk
