/- Words for regions that draw their order and leave operations out. -/
import Derived.Test.YtlacihgoammjgaaBGround
namespace Go.Proofs.Ytlacihgoammjgaa.Ord
open Go Go.RowKit Go.Proofs.Ytlacihgoammjgaa.Words
set_option linter.unusedVariables false
set_option linter.unusedSimpArgs false

theorem wanted_not {ops : Array Oper} {o : Oper} {a : Act} {g d : Nat} {b : Bool} (h : o.guard = some (g, b)) (hd : (ops[g]?).bind (·.dst) = some d) (hv : a.tmps.getD d undef = .bool (!b)) : Region.wanted o (yielded ops a.tmps) = false := by
  have hlt : d < a.tmps.size := by
    rcases Nat.lt_or_ge d a.tmps.size with h' | h'
    · exact h'
    · rw [Array.getD_eq_getD_getElem?, Array.getElem?_eq_none h'] at hv
      cases hv
  have hy : yielded ops a.tmps g = some (!b) := by
    unfold yielded
    rw [hd]
    simp only [Option.bind_some]
    rw [Array.getD_eq_getD_getElem?, Array.getElem?_eq_getElem hlt] at hv
    rw [Array.getElem?_eq_getElem hlt]
    simp only [Option.getD_some] at hv
    rw [hv]
  cases b <;> simp [Region.wanted, h, hy]
theorem step_skip {P : Program} {ops : Array Oper} {a0 : Act} {w0 : World} {L : List Facts.Pred} {j : Nat} {o : Oper}
    (h : ∀ (a : Act) (w : World), (∀ i d, Facts.dep ops j i d = true → Facts.holds L i (a.tmps.getD d undef) w) → Region.wanted o (yielded ops a.tmps) = false) (hu : ∀ w, Facts.holds L j undef w) :
    Facts.Step P ops a0 w0 (fun a b => Below a.heap.size a b) (Facts.holds L) j o := fun a w _ _ hnew =>
  ⟨fun hw => absurd hw (by rw [h a w hnew]; decide), fun _ => hu w⟩
theorem frame_fold (tm : Array Value) : ∀ (ds : List Nat) (u : Array Value), u.size = tm.size → (∀ t, t ∉ ds → tm.getD t undef = u.getD t undef) → tm = ds.foldl (fun u d => u.setIfInBounds d (tm.getD d undef)) u
  | [], u, hs, h => by
    apply Array.ext
    · exact hs.symm
    · intro i h1 h2
      have h3 : i < u.size := by omega
      have := h i (by simp)
      simpa [Array.getD, h1, h3] using this
  | d :: ds, u, hs, h => by
    refine frame_fold tm ds (u.setIfInBounds d (tm.getD d undef)) (by simp [hs]) fun t ht => ?_
    by_cases e : d = t
    · subst e
      by_cases hb : d < u.size
      · have hb' : d < tm.size := by omega
        simp [Array.getD, hb, hb']
      · have hb' : ¬ d < tm.size := by omega
        simp [Array.getD, hb, hb']
    · have := h t (by simp only [List.mem_cons, not_or]; exact ⟨fun x => e x.symm, ht⟩)
      rw [this]
      simp only [Array.getD_eq_getD_getElem?]
      rw [Array.getElem?_setIfInBounds_ne e]
theorem frame_region {n : Nat} {l : List Oper} {tm tm0 : Array Value} (hs : tm.size = n) (hs0 : tm0.size = n) (hold : ∀ t : Nat, (∀ i : Nat, (l.toArray[i]?).bind (·.dst) ≠ some t) → tm.getD t undef = tm0.getD t undef) :
    tm = (l.filterMap (·.dst)).foldl (fun u d => u.setIfInBounds d (tm.getD d undef)) tm0 := by
  refine frame_fold tm _ tm0 (by omega) fun t ht => hold t fun i e => ht ?_
  rw [List.getElem?_toArray] at e
  cases ho : l[i]? with
  | none => rw [ho] at e; cases e
  | some o =>
    rw [ho] at e
    exact List.mem_filterMap.2 ⟨o, List.mem_of_getElem? ho, e⟩
theorem wp_thenA {P : Program} {c : Code} {K K' : Act → World → Prop} {Q' : Exit → Act → World → Prop} {a : Act} {w : World} (hq : ∀ a w, K a w → K' a w) (h : c.wp P (Exit.then K Q') a w) : c.wp P (Exit.then K' Q') a w :=
  Code.wp_mono (fun e a w he => by cases e <;> first | exact hq _ _ he | exact he) h
end Go.Proofs.Ytlacihgoammjgaa.Ord
