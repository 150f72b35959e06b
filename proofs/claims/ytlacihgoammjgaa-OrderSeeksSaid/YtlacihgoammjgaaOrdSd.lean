/- Order: a cursor, as the document tells it. -/
import Derived.Test.YtlacihgoammjgaaOrdMg
namespace Go.Proofs.Ytlacihgoammjgaa.Ord
open Go Go.RowKit Go.Proofs.Ytlacihgoammjgaa.Words Go.Proofs.Ytlacihgoammjgaa.Enc Go.Proofs.Ytlacihgoammjgaa.Evt Go.Proofs.Ytlacihgoammjgaa.Seg
set_option linter.unusedVariables false
set_option linter.unusedSimpArgs false

/-- The cursor stands at the event at_ of R. -/
structure Cur (p : Nat) (w6 : World) (R : List EvS) (q : Nat) (hs : List HV) (W : World) : Prop where
  heap : HeapAt p p 70 hs W
  rises : ∀ x ∈ hs, Rises x.S
  evs : ((flat hs).map EvS.e).Perm ((R.drop q).map EvS.e)
  text : ∀ r ∈ flat hs, TextLow p w6 r
  below : Below p w6 W
theorem Cur.below2 {p : Nat} {w6 : World} {R : List EvS} {q : Nat} {hs : List HV} {W W' : World} (h : Cur p w6 R q hs W) (hb : Below W.heap.size W W') : Cur p w6 R q hs W' := by
  obtain ⟨⟨A, c, hat⟩, hH⟩ := h.heap
  have hp := (Array.getElem?_eq_some_iff.1 hat.box).1
  exact ⟨⟨⟨A, c, hat.below hb⟩, hH⟩, h.rises, h.evs, h.text, h.below.trans (hb.mono (by omega))⟩
theorem Cur.few {p : Nat} {w6 : World} {R : List EvS} {q : Nat} {hs : List HV} {W : World} (h : Cur p w6 R q hs W) : (flat hs).length = R.length - q ∧ hs.length ≤ (flat hs).length := by
  have h1 := h.evs.length_eq
  rw [List.length_map, List.length_map, List.length_drop] at h1
  exact ⟨h1, Heap.len_le h.heap.heap.ne⟩
theorem aft_e {st : Nat} {sw : Int} {a b : EvS} (h : a.e = b.e) : aftB st sw a = aftB st sw b := by unfold aftB; rw [h]
theorem rises_drop {R : List EvS} (h : Rises R) (q : Nat) : Rises (R.drop q) := List.Pairwise.sublist (List.drop_sublist _ _) h
theorem evAt_drop {R : List EvS} {q j : Nat} (h : q + j < R.length) : evAt (R.drop q) j = evAt R (q + j) := by
  have h1 := evAt_get (S := R.drop q) (k := j) (by rw [List.length_drop]; omega)
  have h2 := evAt_get h
  rw [List.getElem?_drop, h2] at h1
  exact (Option.some.inj h1).symm
/-- How many stand ahead of the first that doesn't. -/
theorem count_first {R : List EvS} (hR : Rises R) (st : Nat) (sw : Int) {q k : Nat} (hk : q + k ≤ R.length) (h1 : ∀ j, j < k → aftB st sw (evAt R (q + j)) = false) (h2 : q + k = R.length ∨ aftB st sw (evAt R (q + k)) = true) : (R.drop q).countP (fun e => !aftB st sw e) = k := by
  rw [← misses_aft]
  refine misses_at (by rw [List.length_drop]; omega) (fun t ht => ?_) (fun t ht htl => ?_)
  · rw [evAt_drop (by omega)]; exact h1 t ht
  · rw [List.length_drop] at htl
    rw [evAt_drop (by omega)]
    rcases h2 with h2 | h2
    · omega
    · exact aft_mono (rises_le hR (q + k) (q + t) (by omega) (by omega)) h2
theorem perm_filter_e {a b : List EvS} (p : EvS → Bool) (hp : ∀ x y : EvS, x.e = y.e → p x = p y) (h : (a.map EvS.e).Perm (b.map EvS.e)) : ((a.filter p).map EvS.e).Perm ((b.filter p).map EvS.e) ∧ a.countP (fun e => !p e) = b.countP (fun e => !p e) := by
  have key : ∀ l : List EvS, (l.filter p).map EvS.e = (l.map EvS.e).filter (fun e => p (mkB e)) := fun l => by
    rw [List.filter_map]
    congr 1
    refine List.filter_congr fun x _ => ?_
    exact hp x (mkB x.e) rfl
  have key2 : ∀ l : List EvS, l.countP (fun e => !p e) = (l.map EvS.e).countP (fun e => !p (mkB e)) := fun l => by
    rw [List.countP_map]
    refine List.countP_congr fun x _ => ?_
    have := hp x (mkB x.e) rfl
    simp only [Function.comp]
    rw [this]
  exact ⟨by rw [key, key]; exact h.filter _, by rw [key2, key2]; exact h.countP_eq _⟩
/-- Seek, as the document tells it. -/
theorem Cur.seek {p : Nat} {w6 : World} {R : List EvS} {q : Nat} {hs : List HV} {W : World} (h : Cur p w6 R q hs W) (hR : Rises R) (hl : R.length ≤ 60) (st : Nat) (sw : Int) (k : Nat) (hk : (R.drop q).countP (fun e => !aftB st sw e) = k) :
    Calls Try.prog 18 #[.pointer (some ⟨p, 0, none⟩), .agg #[.int .u64 (st : Int), .int .i64 sw]] W fun e w' => e = .returned (.int .i64 (k : Int)) ∧ Hid (∃ hs', Cur p w6 R (q + k) hs' w') ∧ Hid (∀ (sb : Nat) (cur : Array Value) (f : Nat × Nat), W.heap[sb]? = some (.cells cur 42 f) → w'.heap[sb]? = some (.cells cur 42 f)) := by
  obtain ⟨f1, f2⟩ := h.few
  obtain ⟨⟨A, c, hat⟩, hH⟩ := h.heap
  obtain ⟨e1, e2⟩ := perm_filter_e (aftB st sw) (fun x y hxy => aft_e hxy) h.evs
  refine (seek_any hat h.rises (by omega) (by omega) st sw).mono ?_
  rintro e w' ⟨hs', rfl, h1, h2, h3, h4, h5, h6⟩
  rw [e2, hk]
  have hd := split_aft st sw (R.drop q) (rises_drop hR q)
  rw [hk, List.drop_drop] at hd
  exact ⟨rfl, Lib.hid ⟨hs', h1, h3, ((h2.map EvS.e).trans e1).trans (by rw [hd]), fun r hr => h.text r (List.mem_filter.1 (h2.mem_iff.1 hr)).1, h.below.trans h5⟩, Lib.hid fun sb cur f hc => (h6.block sb (Array.getElem?_eq_some_iff.1 hc).1 (fun hm => by
    rw [List.mem_singleton.1 hm, hat.box] at hc
    injection hc with hc
    injection hc with _ hc
    exact absurd hc (by decide))).trans hc⟩
/-- Next, as the document tells it. -/
theorem Cur.next {p : Nat} {w6 : World} {R : List EvS} {q : Nat} {hs : List HV} {W : World} (h : Cur p w6 R q hs W) (hR : Rises R) (hl : R.length ≤ 60) (anti : ∀ a b, a ∈ R → b ∈ R → evLe a b → evLe b a → a = b) (hq : q < R.length) :
    ∃ r : EvS, r.e = (evAt R q).e ∧ TextLow p w6 r ∧ Calls Try.prog 11 #[.pointer (some ⟨p, 0, none⟩)] W fun e w' => e = .returned (.tuple #[r.e.val r.A r.n r.c, .bool true]) ∧ Hid (∃ hs', Cur p w6 R (q + 1) hs' w') ∧ Hid (∀ (sb : Nat) (cur : Array Value) (f : Nat × Nat), W.heap[sb]? = some (.cells cur 42 f) → w'.heap[sb]? = some (.cells cur 42 f)) := by
  obtain ⟨f1, f2⟩ := h.few
  have hn1 : 0 < hs.length := by
    rcases Nat.eq_zero_or_pos hs.length with h0 | h0
    · have e0 : (flat hs).length = 0 := by rw [List.eq_nil_of_length_eq_zero h0]; rfl
      omega
    · exact h0
  obtain ⟨⟨A, c, hat⟩, hH⟩ := h.heap
  have hmem : (HV.at_ hs 0).one ∈ flat hs := List.mem_flatMap.2 ⟨_, at_mem hn1, one_mem (hH.ne _ (at_mem hn1))⟩
  have hstep : ∀ hs2, Step1 hs hs2 → Taken hs ([] ++ [(HV.at_ hs 0).one]) hs2 := fun hs2 h2 => (Taken.nil hH h.rises).next h2 hn1
  have heq : ∀ hs2, Step1 hs hs2 → (HV.at_ hs 0).one.e = (evAt R q).e := fun hs2 h2 => by
    have h3 := taken_e (rises_drop hR q) h.evs.symm (fun a b ha hb => anti a b (List.mem_of_mem_drop ha) (List.mem_of_mem_drop hb)) (hstep hs2 h2)
    have h4 := congrArg (fun l => l[0]?) h3
    simp only [List.nil_append, List.map_cons, List.map_nil, List.length_cons, List.length_nil] at h4
    rw [List.getElem?_take, if_pos (by omega), List.getElem?_map, evAt_get (S := R.drop q) (k := 0) (by rw [List.length_drop]; omega), evAt_drop (by omega)] at h4
    exact Option.some.inj h4
  have heq0 : (HV.at_ hs 0).one.e = (evAt R q).e := by
    -- the first of the heap is the least, whatever comes then
    have hle := hH.least h.rises
    have hm1 : (HV.at_ hs 0).one.e ∈ (R.drop q).map EvS.e := h.evs.mem_iff.1 (List.mem_map.2 ⟨_, hmem, rfl⟩)
    obtain ⟨y, hy, hye⟩ := List.mem_map.1 hm1
    have hq0 : evAt (R.drop q) 0 = evAt R q := by have := evAt_drop (R := R) (q := q) (j := 0) (by omega); simpa using this
    have hz : evAt R q ∈ R.drop q := by rw [← hq0]; exact List.mem_of_getElem? (evAt_get (by rw [List.length_drop]; omega))
    have hm2 : (evAt R q).e ∈ (flat hs).map EvS.e := h.evs.mem_iff.2 (List.mem_map.2 ⟨_, hz, rfl⟩)
    obtain ⟨z, hz2, hze⟩ := List.mem_map.1 hm2
    have l1 := hle z hz2
    have l1' : evLe y (evAt R q) := by unfold evLe at *; rw [hye, ← hze]; exact l1
    obtain ⟨jy, hjy, hjye⟩ := List.getElem_of_mem hy
    have hyv : y = evAt (R.drop q) jy := by have h8 := evAt_get (S := R.drop q) (k := jy) hjy; rw [List.getElem?_eq_getElem hjy, hjye] at h8; exact Option.some.inj h8
    have l2 : evLe (evAt R q) y := by rw [hyv, ← hq0]; exact rises_le (rises_drop hR q) 0 jy (Nat.zero_le _) hjy
    rw [← hye, anti y (evAt R q) (List.mem_of_mem_drop hy) (List.mem_of_mem_drop hz) l1' l2]
  refine ⟨(HV.at_ hs 0).one, heq0, h.text _ hmem, (next_any hat hH hn1 (by omega)).mono ?_⟩
  rintro e w' ⟨rfl, ⟨hs2, hat2, hst⟩, hb2, hbs⟩
  refine ⟨rfl, Lib.hid ⟨hs2, ⟨⟨A, c, hat2⟩, hst.heap⟩, (hstep hs2 hst).rises, ?_, fun r hr => h.text r (hst.flat.mem_iff.1 (List.mem_cons_of_mem _ hr)), h.below.trans hb2⟩, Lib.hid fun sb cur f hc => (hbs.block sb (Array.getElem?_eq_some_iff.1 hc).1 (fun hm => ?_)).trans hc⟩
  rotate_left
  · have hne : ∀ T2, T2 ≠ 42 → ∀ cur2 f2, W.heap[sb]? = some (.cells cur2 T2 f2) → False := fun T2 hT cur2 f2 h9 => by
      rw [hc] at h9
      injection h9 with h9
      injection h9 with _ h9
      exact hT h9.symm
    have hmm : sb = p ∨ ∃ a, A = some a ∧ sb = a.block := by
      unfold mine at hm
      cases A with
      | none => simp at hm; exact .inl hm
      | some a => simp at hm; rcases hm with h | h; exact .inl h; exact .inr ⟨a, rfl, h⟩
    rcases hmm with rfl | ⟨a, rfl, rfl⟩
    · exact hne _ (by decide) _ _ hat.box
    · rcases hat.own.2 with ⟨hv, _⟩ | ⟨g, cap, cur2, hv, hg, hh, _⟩
      · cases hv
      · injection hv with h1
        injection h1 with h1
        subst h1
        exact hne _ (by decide) _ _ hh
  have h5 := (hst.flat.map EvS.e).trans h.evs
  rw [List.map_cons, heq0] at h5
  have h6 : R.drop q = evAt R q :: R.drop (q + 1) := by
    rw [List.drop_eq_getElem_cons hq]
    have := evAt_get hq
    rw [List.getElem?_eq_getElem hq] at this
    rw [Option.some.inj this]
  rw [h6, List.map_cons] at h5
  exact h5.cons_inv
end Go.Proofs.Ytlacihgoammjgaa.Ord
