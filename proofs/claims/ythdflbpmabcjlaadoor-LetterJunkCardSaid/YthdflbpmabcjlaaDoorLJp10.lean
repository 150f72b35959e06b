/- Order: take, All. Order: the document's Sort. Order: the document's Whole; two lists of the same events are told as the same. Words for regions that draw their order and leave operations out. -/
import Derived.Deep.RegionHeld
import Derived.Deep.Cut
import Derived.Deep.QuietTactic
import Derived.Deep.RegionWith
import Derived.Test.YthdflbpmabcjlaaDoorLJp01
import Derived.Test.YthdflbpmabcjlaaDoorLJp09
namespace Go.Proofs.YthdflbpmabcjlaaDoor.Ord
open Go Go.RowKit Go.Proofs.YthdflbpmabcjlaaDoor.Words Go.Proofs.YthdflbpmabcjlaaDoor.Enc Go.Proofs.YthdflbpmabcjlaaDoor.Evt Go.Proofs.YthdflbpmabcjlaaDoor.Seg
set_option linter.unusedVariables false
set_option linter.unusedSimpArgs false

/-- Events rs have been taken from the lists hs; hs' is what is left. -/
structure Taken (hs : List HV) (rs : List EvS) (hs' : List HV) : Prop where
  perm : (rs ++ flat hs').Perm (flat hs)
  rise : Rises rs
  le : ∀ r ∈ rs, ∀ e ∈ flat hs', evLe r e
  rises : ∀ x ∈ hs', Rises x.S
  heap : Heap hs'
theorem Taken.nil {hs : List HV} (h : Heap hs) (hr : ∀ x ∈ hs, Rises x.S) : Taken hs [] hs := ⟨by simp, List.Pairwise.nil, fun r hr => (by cases hr), hr, h⟩
theorem Taken.next {hs hs1 hs2 : List HV} {rs : List EvS} (h : Taken hs rs hs1) (hs12 : Step1 hs1 hs2) (hn0 : 0 < hs1.length) : Taken hs (rs ++ [(HV.at_ hs1 0).one]) hs2 := by
  have hmin := h.heap.least h.rises
  have hmem : (HV.at_ hs1 0).one ∈ flat hs1 := List.mem_flatMap.2 ⟨_, at_mem hn0, one_mem (h.heap.ne _ (at_mem hn0))⟩
  have hsub : ∀ e ∈ flat hs2, e ∈ flat hs1 := fun e he => hs12.flat.mem_iff.1 (List.mem_cons_of_mem _ he)
  refine ⟨?_, ?_, fun r hr e he => ?_, fun x hx => ?_, hs12.heap⟩
  · rw [List.append_assoc]
    exact (hs12.flat.append_left rs).trans h.perm
  · refine List.pairwise_append.2 ⟨h.rise, List.pairwise_singleton _ _, fun a ha b hb => ?_⟩
    rw [List.mem_singleton.1 hb]
    exact h.le a ha _ hmem
  · rcases List.mem_append.1 hr with hr | hr
    · exact h.le r hr e (hsub e he)
    · rw [List.mem_singleton.1 hr]
      exact hmin e (hsub e he)
  · rcases hs12.sub x hx with hx | rfl
    · exact h.rises x hx
    · have := h.rises _ (at_mem hn0)
      exact this.sublist (List.tail_sublist _)

/-- An event whose text lies below block B. -/
structure TextLow (B : Nat) (w : World) (r : EvS) : Prop where
  sees : Sees w r.A r.n r.e.text
  few : r.n ≤ 1000000000
  low : 0 < r.n → ∀ a, r.A = some a → a.block < B
theorem sees_below {B : Nat} {w w' : World} {A : Option Addr} {n : Nat} {l : List UInt8} (h : Sees w A n l) (hb : Below B w w') (hl : 0 < n → ∀ a, A = some a → a.block < B) : Sees w' A n l := by
  refine ⟨h.1, fun hn => ?_⟩
  obtain ⟨b, o, hA, hc⟩ := h.2 hn
  have hlt : b < B := hl hn _ hA
  exact ⟨b, o, hA, fun j u hu => by rw [hb.cell (p := ⟨b, o + j, none⟩) hlt]; exact hc j u hu⟩
theorem TextLow.below {B : Nat} {w w' : World} {r : EvS} (h : TextLow B w r) (hb : Below B w w') : TextLow B w' r := ⟨sees_below h.sees hb h.low, h.few, h.low⟩

/-- An event in the result: its text is new. -/
structure TextNew (g : Nat) (w : World) (r : EvS) : Prop where
  sees : Sees w r.A r.n r.e.text
  cap : r.n ≤ r.c ∧ r.c ≤ 9223372036854775807
  new : 0 < r.n → ∀ a, r.A = some a → g < a.block
theorem TextNew.beside {g : Nat} {w w' : World} {r : EvS} (h : TextNew g w r) {S : List Nat} (hb : Beside S w w') (hS : ∀ x ∈ S, x ≤ g) : TextNew g w' r :=
  ⟨h.sees.beside hb fun hn a ha hm => by have := h.new hn a ha; have := hS _ hm; omega, h.cap, h.new⟩
/-- The result's row, i of m events of which are there. -/
structure RowAt (g m : Nat) (S : List EvS) (w : World) : Prop where
  row : ∃ cur : Array Value, w.heap[g]? = some (.cells cur 52 (0, 0)) ∧ cur.size = m * 8 ∧ ∀ (j : Nat) (v : Value), (rowsL S)[j]? = some v → cur[j]? = some v
  text : ∀ r ∈ S, TextNew g w r
theorem RowAt.beside {g m : Nat} {S : List EvS} {w w' : World} (h : RowAt g m S w) {L : List Nat} (hb : Beside L w w') (hL : ∀ x ∈ L, x < g) : RowAt g m S w' := by
  obtain ⟨⟨cur, h1, h2, h3⟩, h4⟩ := h
  refine ⟨⟨cur, (hb.block g (Array.getElem?_eq_some_iff.1 h1).1 (fun hm => by have := hL g hm; omega)).trans h1, h2, h3⟩, fun r hr => (h4 r hr).beside hb fun x hx => by have := hL x hx; omega⟩
theorem setCells_beside (b : Nat) : ∀ (vs : List Value) (o : Nat) (w : World), Beside [b] w (w.setCells b o vs)
  | [], o, w => Beside.refl _ _
  | v :: r, o, w => ((Beside.refl [b] w).setCell (p := ⟨b, o, none⟩) (by simp) v).trans (setCells_beside b r (o + 1) _) fun x hx => .inl hx
theorem setCells_heap (b : Nat) (T : TypeId) (f : Nat × Nat) : ∀ (vs : List Value) (o : Nat) (w : World) (cur : Array Value), w.heap[b]? = some (.cells cur T f) →
    ∃ cur', (w.setCells b o vs).heap[b]? = some (.cells cur' T f) ∧ cur'.size = cur.size ∧ (∀ i, i < o ∨ o + vs.length ≤ i → cur'[i]? = cur[i]?) ∧ (∀ j, j < vs.length → o + j < cur.size → cur'[o + j]? = vs[j]?)
  | [], o, w, cur, h => ⟨cur, h, rfl, fun i _ => rfl, fun j hj => by simp at hj⟩
  | v :: r, o, w, cur, h => by
    obtain ⟨cur', h1, h2, h3, h4⟩ := setCells_heap b T f r (o + 1) (w.setCell ⟨b, o, none⟩ v) (cur.setIfInBounds o v) (heapSame h)
    refine ⟨cur', h1, by rw [h2]; simp, fun i hi => ?_, fun j hj hs => ?_⟩
    · rw [h3 i (by simp at hi; omega), Array.getElem?_setIfInBounds_ne (by simp at hi; omega)]
    · rcases j with _ | j
      · rw [Nat.add_zero, h3 o (by omega)]
        simp at hs
        simp [Array.getElem?_setIfInBounds, hs]
      · have := h4 j (by simpa using hj) (by simp; omega)
        rw [show o + (j + 1) = o + 1 + j by omega, this]
        simp
theorem RowAt.there {g m : Nat} {S : List EvS} {w : World} (h : RowAt g m S w) (hS : S.length < m) : w.there g (S.length * 8) 8 := by
  obtain ⟨⟨cur, h1, h2, h3⟩, h4⟩ := h
  intro j hj
  refine ⟨?_, frozen_row0 h1⟩
  rw [cell_of_row w g _ _ _ _ h1, Array.getElem?_eq_getElem (by omega)]
  rfl
theorem RowAt.put {g m : Nat} {S : List EvS} {w : World} (h : RowAt g m S w) (hS : S.length < m) (r : EvS) (hr : TextNew g w r) : RowAt g m (S ++ [r]) (w.setCells g (S.length * 8) r.cells) := by
  obtain ⟨⟨cur, h1, h2, h3⟩, h4⟩ := h
  obtain ⟨cur', k1, k2, k3, k4⟩ := setCells_heap g 52 (0, 0) r.cells (S.length * 8) w cur h1
  have hb := setCells_beside g r.cells (S.length * 8) w
  refine ⟨⟨cur', k1, by rw [k2, h2], fun j v hv => ?_⟩, fun x hx => ?_⟩
  · rw [rowsL_append] at hv
    by_cases hj : j < (rowsL S).length
    · rw [List.getElem?_append_left hj] at hv
      rw [k3 j (.inl (by rw [rowsL_len] at hj; exact hj))]
      exact h3 j v hv
    · rw [List.getElem?_append_right (by omega), rowsL_len] at hv
      simp only [rowsL, List.append_nil] at hv
      rw [rowsL_len] at hj
      have hjl : j - S.length * 8 < r.cells.length := (List.getElem?_eq_some_iff.1 hv).1
      have := k4 (j - S.length * 8) hjl (by rw [EvS.cells_len] at hjl; omega)
      rw [show S.length * 8 + (j - S.length * 8) = j by omega] at this
      rw [this, hv]
  · have hb2 : ∀ x ∈ [g], x ≤ g := by simp
    rcases List.mem_append.1 hx with hx | hx
    · exact (h4 x hx).beside hb hb2
    · rw [List.mem_singleton.1 hx]; exact hr.beside hb hb2
theorem RowAt.raw {g m : Nat} {S : List EvS} {w : World} (h : RowAt g m S w) : RawEv w (some ⟨g, 0, none⟩) S := fun hn => by
  obtain ⟨⟨cur, h1, h2, h3⟩, h4⟩ := h
  exact ⟨g, 0, rfl, fun j v hv => by rw [Nat.zero_add, cell_of_row w g _ _ _ _ h1]; exact h3 j v hv⟩

theorem RowAt.made (w : World) (m : Nat) : RowAt w.heap.size m [] (w.alloc (.cells (madeCells zeroE (m * 8)) 52)) :=
  ⟨⟨_, heap_alloc_new w _, size_madeCells _ _, fun j v hv => by simp [rowsL] at hv⟩, fun r hr => by cases hr⟩
end Go.Proofs.YthdflbpmabcjlaaDoor.Ord
namespace Go.Proofs.YthdflbpmabcjlaaDoor.Ord
open Go Go.RowKit Go.Proofs.YthdflbpmabcjlaaDoor.Words Go.Proofs.YthdflbpmabcjlaaDoor.Enc Go.Proofs.YthdflbpmabcjlaaDoor.Evt Go.Proofs.YthdflbpmabcjlaaDoor.Seg
set_option linter.unusedVariables false
set_option linter.unusedSimpArgs false

theorem RawEv.drop {w : World} {b o : Nat} {S : List EvS} (h : RawEv w (some ⟨b, o, none⟩) S) (k : Nat) (hk : k < S.length) : RawEv w (some ⟨b, o + k * 8, none⟩) (S.drop k) := fun hn => by
  obtain ⟨b', o', e, hc⟩ := h (by omega)
  cases e
  refine ⟨b, o + k * 8, rfl, fun j v hv => ?_⟩
  rw [Nat.add_assoc]
  refine hc (k * 8 + j) v ?_
  conv => lhs; rw [← List.take_append_drop k S]
  rw [rowsL_append, List.getElem?_append_right (by rw [rowsL_len, List.length_take]; omega), rowsL_len, List.length_take, Nat.min_eq_left (by omega), show k * 8 + j - k * 8 = j by omega]
  exact hv

section
variable {P : Program} {w : World} {ops : Array Oper} {rest : List Oper} {op : Oper} {a : Act} {Q : Exit → Act → World → Prop}
end
end Go.Proofs.YthdflbpmabcjlaaDoor.Ord
namespace Go.Proofs.YthdflbpmabcjlaaDoor.Ord
open Go Go.RowKit Go.Proofs.YthdflbpmabcjlaaDoor.Words Go.Proofs.YthdflbpmabcjlaaDoor.Enc Go.Proofs.YthdflbpmabcjlaaDoor.Evt Go.Proofs.YthdflbpmabcjlaaDoor.Seg
set_option linter.unusedVariables false
set_option linter.unusedSimpArgs false

/-- Two lists of the same events. -/
structure SameR (w : World) (A : Option Addr) (S : List EvS) : Prop where
  raw : RawEv w A S
  text : ∀ r ∈ S, Sees w r.A r.n r.e.text
theorem SameR.below {w w' : World} {A : Option Addr} {S : List EvS} (h : SameR w A S) (hb : Below w.heap.size w w') : SameR w' A S :=
  ⟨fun h0 => by
    obtain ⟨b, o, h1, h2⟩ := h.raw h0
    exact ⟨b, o, h1, fun j v hv => by rw [hb.cell (World.block_lt_of_cell? _ _ (h2 j v hv))]; exact h2 j v hv⟩, fun r hr => (h.text r hr).below hb⟩
end Go.Proofs.YthdflbpmabcjlaaDoor.Ord
namespace Go.Proofs.YthdflbpmabcjlaaDoor.Ord
open Go Go.RowKit Go.Proofs.YthdflbpmabcjlaaDoor.Words
set_option linter.unusedVariables false
set_option linter.unusedSimpArgs false

theorem frame_fold (tm : Array Value) : ∀ (ds : List Nat) (u : Array Value), u.size = tm.size → (∀ t, t ∉ ds → tm.getD t undef = u.getD t undef) → tm = ds.foldl (fun u d => u.setIfInBounds d (tm.getD d undef)) u
  | [], u, hs, h => by
    apply Array.ext
    · exact hs.symm
    · intro i h1 h2
      have h3 : i < u.size := by omega
      have := h i (by simp)
      simpa [Array.getD, h1, h3] using this
  | d :: ds, u, hs, h => by
    refine frame_fold tm ds (u.setIfInBounds d (tm.getD d undef)) (by simp [hs]) fun t ht => ?_
    by_cases e : d = t
    · subst e
      by_cases hb : d < u.size
      · have hb' : d < tm.size := by omega
        simp [Array.getD, hb, hb']
      · have hb' : ¬ d < tm.size := by omega
        simp [Array.getD, hb, hb']
    · have := h t (by simp only [List.mem_cons, not_or]; exact ⟨fun x => e x.symm, ht⟩)
      rw [this]
      simp only [Array.getD_eq_getD_getElem?]
      rw [Array.getElem?_setIfInBounds_ne e]
theorem frame_region {n : Nat} {l : List Oper} {tm tm0 : Array Value} (hs : tm.size = n) (hs0 : tm0.size = n) (hold : ∀ t : Nat, (∀ i : Nat, (l.toArray[i]?).bind (·.dst) ≠ some t) → tm.getD t undef = tm0.getD t undef) :
    tm = (l.filterMap (·.dst)).foldl (fun u d => u.setIfInBounds d (tm.getD d undef)) tm0 := by
  refine frame_fold tm _ tm0 (by omega) fun t ht => hold t fun i e => ht ?_
  rw [List.getElem?_toArray] at e
  cases ho : l[i]? with
  | none => rw [ho] at e; cases e
  | some o =>
    rw [ho] at e
    exact List.mem_filterMap.2 ⟨o, List.mem_of_getElem? ho, e⟩
end Go.Proofs.YthdflbpmabcjlaaDoor.Ord
