/- Words for regions that draw their order and leave operations out. -/
import Derived.Test.YtjceeojbnpcpfaaGreatBGround
namespace Go.Proofs.YtjceeojbnpcpfaaGreat.Ord
open Go Go.RowKit Go.Proofs.YtjceeojbnpcpfaaGreat.Words
set_option linter.unusedVariables false
set_option linter.unusedSimpArgs false

theorem frame_fold (tm : Array Value) : ∀ (ds : List Nat) (u : Array Value), u.size = tm.size → (∀ t, t ∉ ds → tm.getD t undef = u.getD t undef) → tm = ds.foldl (fun u d => u.setIfInBounds d (tm.getD d undef)) u
  | [], u, hs, h => by
    apply Array.ext
    · exact hs.symm
    · intro i h1 h2
      have h3 : i < u.size := by omega
      have := h i (by simp)
      simpa [Array.getD, h1, h3] using this
  | d :: ds, u, hs, h => by
    refine frame_fold tm ds (u.setIfInBounds d (tm.getD d undef)) (by simp [hs]) fun t ht => ?_
    by_cases e : d = t
    · subst e
      by_cases hb : d < u.size
      · have hb' : d < tm.size := by omega
        simp [Array.getD, hb, hb']
      · have hb' : ¬ d < tm.size := by omega
        simp [Array.getD, hb, hb']
    · have := h t (by simp only [List.mem_cons, not_or]; exact ⟨fun x => e x.symm, ht⟩)
      rw [this]
      simp only [Array.getD_eq_getD_getElem?]
      rw [Array.getElem?_setIfInBounds_ne e]
theorem frame_region {n : Nat} {l : List Oper} {tm tm0 : Array Value} (hs : tm.size = n) (hs0 : tm0.size = n) (hold : ∀ t : Nat, (∀ i : Nat, (l.toArray[i]?).bind (·.dst) ≠ some t) → tm.getD t undef = tm0.getD t undef) :
    tm = (l.filterMap (·.dst)).foldl (fun u d => u.setIfInBounds d (tm.getD d undef)) tm0 := by
  refine frame_fold tm _ tm0 (by omega) fun t ht => hold t fun i e => ht ?_
  rw [List.getElem?_toArray] at e
  cases ho : l[i]? with
  | none => rw [ho] at e; cases e
  | some o =>
    rw [ho] at e
    exact List.mem_filterMap.2 ⟨o, List.mem_of_getElem? ho, e⟩
end Go.Proofs.YtjceeojbnpcpfaaGreat.Ord
