/- Order: Feeds: an event is put behind a list. -/
import Derived.Test.YtlacihgoammjgaaOrdFa
namespace Go.Proofs.Ytlacihgoammjgaa.Ord
open Go Go.RowKit Go.Proofs.Ytlacihgoammjgaa.Words Go.Proofs.Ytlacihgoammjgaa.Enc Go.Proofs.Ytlacihgoammjgaa.Evt Go.Proofs.Ytlacihgoammjgaa.Seg
set_option linter.unusedVariables false
set_option linter.unusedSimpArgs false

theorem own_block_of {w : World} {base : Nat} {e : TypeId} {A : Option Addr} {n c : Nat} {xs : List Value} (h : w.ownsRow base e 8 (.slice A n c) n xs) {a : Addr} (ha : A = some a) : base ≤ a.block ∧ a.off = 0 ∧ a.spot = none ∧ ∃ cur, w.heap[a.block]? = some (.cells cur e (0, 0)) := by
  rcases h.2 with ⟨hv, _⟩ | ⟨g, cap, cur, hv, hg, hh, r⟩
  · rw [ha] at hv; cases hv
  · rw [ha] at hv
    injection hv with e1
    injection e1 with e1
    exact ⟨by rw [e1]; exact hg, by rw [e1], by rw [e1], cur, by rw [e1]; exact hh⟩
theorem flat_set_len {L : List HV} {k : Nat} {x y : HV} (h : L[k]? = some x) (hy : y.S.length = x.S.length + 1) : (flat (L.set k y)).length = (flat L).length + 1 := by
  induction L generalizing k with
  | nil => simp at h
  | cons a t ih =>
    cases k with
    | zero =>
      simp at h; subst h
      unfold flat
      simp only [List.set_cons_zero, List.flatMap_cons, List.length_append]
      omega
    | succ k =>
      have := ih (k := k) (by simpa using h)
      unfold flat at *
      simp only [List.set_cons_succ, List.flatMap_cons, List.length_append]
      omega
set_option maxHeartbeats 1000000 in
theorem FeedsAt.put {B0 ob lb wn i m k t : Nat} {w0 W1 W W2 : World} {L : List HV} {T : List Nat} {x : HV} (h : FeedsAt B0 ob lb wn w0 i m L T W1) (hol : ob ≠ lb) (hx : L[k]? = some x) (hT : T[k]? = some t) (e : EvS) (hW : Below W1.heap.size W1 W) (htx : TextBox B0 W e)
    (he : e.e.writer = k ∧ e.e.time = t ∧ 1 ≤ t ∧ e.e.seq = x.S.length + 1 ∧ x.S.length + 1 ≤ 60 ∧ 1 ≤ e.e.kind ∧ e.e.kind ≤ 4 ∧ e.e.key.size = 1 ∧ (e.e.kind ≠ 1 → e.e.text = []) ∧ e.e.node = 0 ∧ e.e.num < 18446744073709551616) (hlt : ∀ e' ∈ x.S, e'.e.time < t) {g' cap' : Nat}
    (hown : W2.ownsRow B0 34 8 (.slice (some ⟨g', 0, none⟩) (x.S.length + 1) cap') (x.S.length + 1) (rowsL x.S ++ e.cells)) (hg : W.grownBy W2 (Value.slice x.A x.S.length x.c).ownBlock) (hat : (Value.slice x.A x.S.length x.c).ownBlock = some g' ∨ W1.heap.size ≤ g') :
    W2.heap[ob]? = some (.cells (L.map HV.val).toArray 26 (0, 0)) ∧
    FeedsAt B0 ob lb wn w0 (i + 1) m (L.set k ⟨some ⟨g', 0, none⟩, cap', x.S ++ [e]⟩) T (W2.setCell ⟨ob, k, none⟩ (.slice (some ⟨g', 0, none⟩) (x.S.length + 1) cap')) := by
  have hxm : x ∈ L := List.mem_of_getElem? hx
  have hkl : k < L.length := (List.getElem?_eq_some_iff.1 hx).1
  have hobl : ob < W1.heap.size := (Array.getElem?_eq_some_iff.1 h.out).1
  have hlbl : lb < W1.heap.size := (Array.getElem?_eq_some_iff.1 h.last).1
  have hBW1 : B0 ≤ W1.heap.size := by have := h.new.1; omega
  -- the row's block, if there is one, holds events
  have hrow : ∀ b, (Value.slice x.A x.S.length x.c).ownBlock = some b → b < W1.heap.size ∧ B0 ≤ b ∧ b ≠ ob ∧ b ≠ lb ∧ ∃ cur, W1.heap[b]? = some (.cells cur 34 (0, 0)) := fun b hb => by
    cases hA : x.A with
    | none => rw [hA] at hb; simp [Value.ownBlock] at hb
    | some a =>
      rw [hA] at hb
      simp [Value.ownBlock] at hb
      subst hb
      obtain ⟨hb0, _, _, cur, hc⟩ := own_block_of (h.own x hxm) hA
      have hf := h.far hxm hA
      exact ⟨(Array.getElem?_eq_some_iff.1 hc).1, hb0, hf.2, hf.1, cur, hc⟩
  have hrn : ∀ b, b < W1.heap.size → (∀ a, x.A = some a → a.block ≠ b) → W2.heap[b]? = W1.heap[b]? := fun b hb hn => by
    refine (hg.block b (by have := hW.size; omega) (fun e => ?_)).trans (hW.block b hb)
    cases hA : x.A with
    | none => rw [hA] at e; simp [Value.ownBlock] at e
    | some a => rw [hA] at e; simp [Value.ownBlock] at e; exact hn a hA e.symm
  have hout2 : W2.heap[ob]? = some (.cells (L.map HV.val).toArray 26 (0, 0)) := (hrn ob hobl fun a ha => (h.far hxm ha).2).trans h.out
  have hlast2 : W2.heap[lb]? = some (.cells (u64s T).toArray 30 (0, 0)) := (hrn lb hlbl fun a ha => (h.far hxm ha).1).trans h.last
  have hgo : g' ≠ ob ∧ g' ≠ lb ∧ B0 ≤ g' := by
    rcases hat with hh | hh
    · obtain ⟨_, q1, q2, q3, _⟩ := hrow g' hh; exact ⟨q2, q3, q1⟩
    · exact ⟨by omega, by omega, by omega⟩
  have hB2 : Below B0 W1 W2 := (hW.mono hBW1).trans ((Below.refl B0 W).grown hg (by have := hW.size; omega) (fun b hb => (hrow b hb).2.1))
  refine ⟨hout2, ?_⟩
  have hset : ∀ (j : Nat) (y : HV), (L.set k ⟨some ⟨g', 0, none⟩, cap', x.S ++ [e]⟩)[j]? = some y → (j = k ∧ y = ⟨some ⟨g', 0, none⟩, cap', x.S ++ [e]⟩) ∨ (j ≠ k ∧ L[j]? = some y) := fun j y hy => by
    by_cases hj : j = k
    · subst hj; rw [List.getElem?_set_self hkl] at hy; cases hy; exact .inl ⟨rfl, rfl⟩
    · rw [List.getElem?_set_ne (Ne.symm hj)] at hy; exact .inr ⟨hj, hy⟩
  have hother : ∀ (j : Nat) (y : HV), j ≠ k → L[j]? = some y → ∀ a, y.A = some a → a.block ≠ g' ∧ W2.heap[a.block]? = W1.heap[a.block]? := fun j y hj hy a ha => by
    obtain ⟨hb0, _, _, cur, hc⟩ := own_block_of (h.own y (List.mem_of_getElem? hy)) ha
    have hlt2 := (Array.getElem?_eq_some_iff.1 hc).1
    refine ⟨fun e2 => ?_, hrn _ hlt2 fun a2 ha2 => h.apart k j x y a2 a hx hy ha2 ha (Ne.symm hj)⟩
    rcases hat with hh | hh
    · cases hA : x.A with
      | none => rw [hA] at hh; simp [Value.ownBlock] at hh
      | some a2 =>
        rw [hA] at hh; simp [Value.ownBlock] at hh
        exact h.apart k j x y a2 a hx hy hA ha (Ne.symm hj) (by rw [hh, e2])
    · omega
  have htext : ∀ e', (TextBox B0 W1 e' ∨ TextBox B0 W e') → TextBox B0 (W2.setCell ⟨ob, k, none⟩ (.slice (some ⟨g', 0, none⟩) (x.S.length + 1) cap')) e' := fun e' h1 => by
    have h2 : TextBox B0 W e' := by
      rcases h1 with h1 | h1
      · rcases h1 with hz | ⟨tb, u, q1, q2, q3, q4, q5, q6⟩
        · exact .inl hz
        · exact .inr ⟨tb, u, q1, q2, q3, q4, (hW.block tb (Array.getElem?_eq_some_iff.1 q5).1).trans q5, q6⟩
      · exact h1
    rcases h2 with hz | ⟨tb, u, q1, q2, q3, q4, q5, q6⟩
    · exact .inl hz
    · have htl := (Array.getElem?_eq_some_iff.1 q5).1
      have n1 : ¬ some tb = (Value.slice x.A x.S.length x.c).ownBlock := fun e2 => by
        obtain ⟨r1, _, _, _, cur, r2⟩ := hrow tb e2.symm
        rw [hW.block tb r1, r2] at q5
        injection q5 with q5; injection q5 with _ q5
        exact absurd q5 (by decide)
      have n2 : tb ≠ ob := fun e2 => by
        subst e2
        rw [hW.block tb hobl, h.out] at q5
        injection q5 with q5; injection q5 with _ q5
        exact absurd q5 (by decide)
      exact .inr ⟨tb, u, q1, q2, q3, q4, (heapOther n2).trans ((hg.block tb htl n1).trans q5), q6⟩
  refine ⟨?_, (heapOther (Ne.symm hol)).trans hlast2, by simpa using h.lenL, h.lenT, fun y hy => ?_, fun j1 j2 y1 y2 a1 a2 hy1 hy2 ha1 ha2 hj => ?_, fun y hy e' he' => ?_, fun j tj y hy htj => ?_, ?_, h.time, (h.below.trans hB2).setCell (p := ⟨ob, k, none⟩) h.new.1 _, h.new⟩
  · rw [heapSame hout2]
    congr 2
    apply Array.ext'
    simp [List.map_set, HV.val]
  · obtain ⟨j, hjl, rfl⟩ := List.getElem_of_mem hy
    rcases hset j _ (List.getElem?_eq_getElem hjl) with ⟨_, e2⟩ | ⟨hj, hyj⟩
    · rw [e2]
      simp only [List.length_append, List.length_cons, List.length_nil, Nat.zero_add]
      have e3 : rowsL (x.S ++ [e]) = rowsL x.S ++ e.cells := by rw [rowsL_append]; simp [rowsL]
      rw [e3]
      refine ⟨hown.1, ?_⟩
      rcases hown.2 with ⟨hv, _⟩ | ⟨g, cap, cur, hv, hbg, hh, r⟩
      · cases hv
      · have : g = g' := by injection hv with e1; injection e1 with e1; injection e1 with e1; exact e1.symm
        subst this
        exact .inr ⟨g, cap, cur, hv, hbg, (heapOther hgo.1).trans hh, r⟩
    · have ho := h.own _ (List.mem_of_getElem? hyj)
      refine ⟨ho.1, ?_⟩
      rcases ho.2 with hn | ⟨g, cap, cur, hv, hbg, hh, r⟩
      · exact .inl hn
      · have hA : (L.set k ⟨some ⟨g', 0, none⟩, cap', x.S ++ [e]⟩)[j].A = some ⟨g, 0, none⟩ := by injection hv
        have q := hother j _ hj hyj _ hA
        exact .inr ⟨g, cap, cur, hv, hbg, (heapOther (h.far (List.mem_of_getElem? hyj) hA).2).trans (q.2.trans hh), r⟩
  · rcases hset j1 _ hy1 with ⟨e1, rfl⟩ | ⟨hj1, hy1'⟩
    · rcases hset j2 _ hy2 with ⟨e2, rfl⟩ | ⟨hj2, hy2'⟩
      · exact absurd (e1.trans e2.symm) hj
      · simp at ha1; subst ha1
        exact Ne.symm (hother j2 _ hj2 hy2' _ ha2).1
    · rcases hset j2 _ hy2 with ⟨e2, rfl⟩ | ⟨hj2, hy2'⟩
      · simp at ha2; subst ha2
        exact (hother j1 _ hj1 hy1' _ ha1).1
      · exact h.apart j1 j2 y1 y2 a1 a2 hy1' hy2' ha1 ha2 hj
  · obtain ⟨j, hjl, rfl⟩ := List.getElem_of_mem hy
    rcases hset j _ (List.getElem?_eq_getElem hjl) with ⟨_, e2⟩ | ⟨hj, hyj⟩
    · rw [e2] at he'
      rcases List.mem_append.1 he' with he' | he'
      · exact htext _ (.inl (h.text x hxm e' he'))
      · rw [List.mem_singleton.1 he']; exact htext _ (.inr htx)
    · exact htext _ (.inl (h.text _ (List.mem_of_getElem? hyj) e' he'))
  · rcases hset j _ hy with ⟨e1, rfl⟩ | ⟨hj, hyj⟩
    · subst e1
      rw [hT] at htj; cases htj
      have hg1 := h.good j t x hx hT
      refine ⟨fun e' he' => ?_, ?_⟩
      · rcases List.mem_append.1 he' with he' | he'
        · exact hg1.each e' he'
        · rw [List.mem_singleton.1 he']
          obtain ⟨r1, r2, r3, r4, r5, r6, r7, r8, r9, r10⟩ := he
          exact ⟨r1, by omega, by omega, by omega, by omega, r6, r7, r8, r9, r10⟩
      · refine List.pairwise_append.2 ⟨hg1.rise, List.pairwise_singleton _ _, fun a ha b hb => ?_⟩
        rw [List.mem_singleton.1 hb, he.2.1]
        exact hlt a ha
    · exact h.good j tj y hyj htj
  · rw [flat_set_len hx (by simp), h.few]
end Go.Proofs.Ytlacihgoammjgaa.Ord
