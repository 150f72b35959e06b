/- Texts of the law ReplicaNil, put together. -/
import Derived.Sort.OwnSorted
import Derived.Sort.KeysCollected
import Derived.Test.YtinjbdgjcadodaaGreatDoorRNp08
import Derived.Test.YtinjbdgjcadodaaGreatDoorRNp16
set_option linter.unusedVariables false
set_option linter.unusedSimpArgs false
namespace Go.Proofs.YtinjbdgjcadodaaGreatDoor.Dsk
open Go Go.RowKit Words
theorem look_some {s : List UInt8} {fs : List Fil} : (look s fs).isSome = true ↔ s ∈ fs.map (·.name) := by
 rw [look, List.find?_isSome]
 simp [List.mem_map, decide_eq_true_eq]
structure Met (fs : List Fil) (left : Lit → Bool) (ss : List (List UInt8)) : Prop where
 once : ss.Nodup
 mem : ∀ s, s ∈ ss ↔ (look s fs).isSome = true ∧ left (.string s) = false
theorem Met.start {fs : List Fil} {left : Lit → Bool} (h : ∀ s, left (.string s) = (look s fs).isSome) : Met fs left [] :=
 ⟨List.nodup_nil, fun s => by
  rw [h s]
  cases (look s fs).isSome <;> simp⟩
theorem Met.step {fs : List Fil} {left : Lit → Bool} {ss : List (List UInt8)} (m : Met fs left ss) {s : List UInt8} (hl : left (.string s) = true) (hs : (look s fs).isSome = true) (hk : WideAt.IsKeyLit (.string s)) :
  Met fs (fun z => left z && !z.sameKey (.string s)) (ss ++ [s]) := by
 have hn : s ∉ ss := fun h => by have := (m.mem s).1 h; rw [hl] at this; cases this.2
 refine ⟨List.nodup_append.2 ⟨m.once, by simp, fun a ha b hb => by simp at hb; subst hb; exact fun e => hn (e ▸ ha)⟩, fun t => ?_⟩
 by_cases e : t = s
 ·subst e
  simp [hs, WideAt.sameKey_self hk]
 ·have h1 : (Lit.string t).sameKey (.string s) = false := Maps.sameKey_ne (by intro h; injection h with h; exact e h)
  simp only [List.mem_append, List.mem_singleton, e, or_false, h1, Bool.not_false, Bool.and_true]
  exact m.mem t
theorem perm_of_nodup {l m : List (List UInt8)} (hl : l.Nodup) (hm : m.Nodup) (h : ∀ s, s ∈ l ↔ s ∈ m) : l.Perm m := by
 rw [List.perm_iff_count]
 intro a
 rw [hl.count, hm.count]
 simp [h a]
theorem Met.len {fs : List Fil} {left : Lit → Bool} {ss : List (List UInt8)} (m : Met fs left ss) (hn : (fs.map (·.name)).Nodup) : ss.length ≤ fs.length := by
 have : ss.Perm ((fs.map (·.name)).filter fun s => !left (.string s)) := by
  refine perm_of_nodup m.once (hn.sublist List.filter_sublist) fun s => ?_
  rw [m.mem s, look_some, List.mem_filter]
  simp
 rw [this.length_eq]
 have h1 := List.length_filter_le (fun s => !left (.string s)) (fs.map (·.name))
 rw [List.length_map] at h1
 exact h1
theorem Met.all {fs : List Fil} {left : Lit → Bool} {ss : List (List UInt8)} (m : Met fs left ss) (hl : ∀ z, left z = false) (hn : (fs.map (·.name)).Nodup) : ss.Perm (fs.map (·.name)) := by
 refine perm_of_nodup m.once hn fun s => ?_
 rw [m.mem s, look_some]
 simp [hl]
end Go.Proofs.YtinjbdgjcadodaaGreatDoor.Dsk
