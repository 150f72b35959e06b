/- Order: the document's lists are good ones; no two of their events stand at one place. -/
import Derived.Test.YtlacihgoammjgaaOrdY
namespace Go.Proofs.Ytlacihgoammjgaa.Ord
open Go Go.RowKit Go.Proofs.Ytlacihgoammjgaa.Words Go.Proofs.Ytlacihgoammjgaa.Enc Go.Proofs.Ytlacihgoammjgaa.Evt Go.Proofs.Ytlacihgoammjgaa.Seg
set_option linter.unusedVariables false
set_option linter.unusedSimpArgs false

theorem textLow_of {B : Nat} {W : World} {e : EvS} (h : TextBox B W e) : TextLow W.heap.size W e := by
  rcases h with ⟨h1, h2, h3, h4⟩ | ⟨tb, u, h1, h2, h3, h4, h5, h6⟩
  · refine ⟨?_, by omega, fun h => absurd h (by omega)⟩
    rw [h1, h4]
    exact ⟨rfl, fun h => absurd h (by omega)⟩
  · refine ⟨?_, by omega, fun _ a ha => ?_⟩
    · rw [h1, h2, h4]
      refine ⟨rfl, fun _ => ⟨tb, 0, rfl, fun j v hv => ?_⟩⟩
      rw [Nat.zero_add, cell_of_row W tb j _ _ _ h5]
      match j, hv with
      | 0, hv => simp at hv; subst hv; rfl
    · rw [h1] at ha; cases ha
      exact (Array.getElem?_eq_some_iff.1 h5).1
theorem feeds_good {B0 lb wn i m ob : Nat} {w0 W : World} {L : List HV} {T : List Nat} (h : FeedsAt B0 ob lb wn w0 i m L T W) (hi : i ≤ 60) (hw : wn ≤ 1000) : GoodLists W.heap.size W (some ⟨ob, 0, none⟩) L := by
  obtain ⟨h1, h2, h3, h4⟩ := feeds_lists h hi
  refine ⟨h1, h2, by omega, by rw [h.few]; omega, fun r hr => ?_⟩
  obtain ⟨x, hx, hrx⟩ := List.mem_flatMap.1 hr
  exact textLow_of (h.text x hx r hrx)
theorem pair_eq {S : List EvS} (h : S.Pairwise fun a b => a.e.time < b.e.time) {a b : EvS} (ha : a ∈ S) (hb : b ∈ S) (ht : a.e.time = b.e.time) : a = b := by
  induction S with
  | nil => cases ha
  | cons c S ih =>
    obtain ⟨h1, h2⟩ := List.pairwise_cons.1 h
    rcases List.mem_cons.1 ha with e1 | ha'
    · rcases List.mem_cons.1 hb with e2 | hb'
      · rw [e1, e2]
      · have := h1 b hb'; rw [← e1] at this; omega
    · rcases List.mem_cons.1 hb with e2 | hb'
      · have := h1 a ha'; rw [← e2] at this; omega
      · exact ih h2 ha' hb'
/-- Two events of the lists that stand at one place are one. -/
theorem feeds_anti {B0 lb wn i m ob : Nat} {w0 W : World} {L : List HV} {T : List Nat} (h : FeedsAt B0 ob lb wn w0 i m L T W) (a b : EvS) (ha : a ∈ flat L) (hb : b ∈ flat L) (h1 : evLe a b) (h2 : evLe b a) : a = b := by
  obtain ⟨x, hx, hax⟩ := List.mem_flatMap.1 ha
  obtain ⟨y, hy, hby⟩ := List.mem_flatMap.1 hb
  obtain ⟨j, hj, rfl⟩ := List.getElem_of_mem hx
  obtain ⟨k, hk, rfl⟩ := List.getElem_of_mem hy
  obtain ⟨s, hs⟩ : ∃ s, T[j]? = some s := ⟨_, List.getElem?_eq_getElem (by rw [h.lenT, ← h.lenL]; exact hj)⟩
  obtain ⟨t, ht⟩ : ∃ t, T[k]? = some t := ⟨_, List.getElem?_eq_getElem (by rw [h.lenT, ← h.lenL]; exact hk)⟩
  have g1 := h.good j s _ (List.getElem?_eq_getElem hj) hs
  have g2 := h.good k t _ (List.getElem?_eq_getElem hk) ht
  have e1 := (g1.each a hax).1
  have e2 := (g2.each b hby).1
  have hjk : j = k := by unfold evLe at h1 h2; omega
  subst hjk
  exact pair_eq g1.rise hax hby (by unfold evLe at h1 h2; omega)
/-- What rises and has the same events is one. -/
theorem feeds_one {B0 lb wn i m ob : Nat} {w0 W : World} {L : List HV} {T : List Nat} (h : FeedsAt B0 ob lb wn w0 i m L T W) {r1 r2 : List EvS} (p1 : r1.Perm (flat L)) (p2 : r2.Perm (flat L)) (s1 : Rises r1) (s2 : Rises r2) : r1 = r2 :=
  List.Perm.eq_of_pairwise (le := evLe) (fun a b ha hb h1 h2 => feeds_anti h a b (p1.mem_iff.1 ha) (p2.mem_iff.1 hb) h1 h2) s1 s2 (p1.trans p2.symm)
end Go.Proofs.Ytlacihgoammjgaa.Ord
