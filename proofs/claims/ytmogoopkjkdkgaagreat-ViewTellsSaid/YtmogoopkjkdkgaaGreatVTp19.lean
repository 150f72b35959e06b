/- Layer 15: what the laws' events (Whole of Feeds) are: a row that Of, base and told take, each event of which is taken. Layer 15: the law's views: By of a fold of the first events and of the others in lists; the document's example. Layer 15: the law's lists: events of a row, each behind those of its writer. Order: the document's Sort. -/
import Derived.Deep.RegionHeld
import Derived.Deep.Cut
import Derived.Test.YtmogoopkjkdkgaaGreatVTp10
import Derived.Test.YtmogoopkjkdkgaaGreatVTp12
import Derived.Test.YtmogoopkjkdkgaaGreatVTp15
import Derived.Test.YtmogoopkjkdkgaaGreatVTp16
import Derived.Test.YtmogoopkjkdkgaaGreatVTp17
import Derived.Test.YtmogoopkjkdkgaaGreatVTp18
namespace Go.Proofs.YtmogoopkjkdkgaaGreat.Vw
open Go Go.RowKit Go.Proofs.YtmogoopkjkdkgaaGreat.Words Go.Proofs.YtmogoopkjkdkgaaGreat.Enc Go.Proofs.YtmogoopkjkdkgaaGreat.Q Go.Proofs.YtmogoopkjkdkgaaGreat.Evt Go.Proofs.YtmogoopkjkdkgaaGreat.Seg Go.Proofs.YtmogoopkjkdkgaaGreat.Ord Go.Proofs.YtmogoopkjkdkgaaGreat.Fol
set_option linter.unusedVariables false
set_option linter.unusedSimpArgs false

section
variable {B0 ob lb wn i m : Nat} {w0 W : World} {L : List HV} {T : List Nat} {R : List EvS}
theorem text_seesV {B : Nat} {e : EvS} (h : TextBox B W e) : SeesV W [] e.A (cs e.e.text) := by
  rcases h with ⟨h1, h2, h3, h4⟩ | ⟨tb, u, h1, h2, h3, h4, h5, h6⟩
  · rw [h4]; exact fun h => absurd rfl h
  · intro _
    refine ⟨tb, 0, h1, by simp, fun j v hv => ?_⟩
    rw [h4] at hv
    rw [Nat.zero_add, cell_of_row W tb j _ _ _ h5]
    match j, hv with
    | 0, hv => simpa [cs] using hv
theorem feeds_each (h : FeedsAt B0 ob lb wn w0 i m L T W) (hm : m ≤ 1000) (hw : wn ≤ 6) {r : EvS} (hr : r ∈ flat L) :
    Right r.e ∧ r.e.Fit ∧ r.e.key.size ≤ 64 ∧ r.n ≤ 1 ∧ Sees W r.A r.n r.e.text ∧ SeesV W [] r.A (cs r.e.text) := by
  obtain ⟨x, hx, hrx⟩ := List.mem_flatMap.1 hr
  obtain ⟨j, hj, rfl⟩ := List.getElem_of_mem hx
  have hjT : j < T.length := by rw [h.lenT, ← h.lenL]; exact hj
  have g1 := h.good j _ _ (List.getElem?_eq_getElem hj) (List.getElem?_eq_getElem hjT)
  have ht := h.time _ (List.getElem_mem hjT)
  obtain ⟨q1, q2, q3, q4, q5, q6, q7, q8, q9, q10, q11⟩ := g1.each r hrx
  have hjw : j < 6 := by have := h.lenL; omega
  have tx := h.text _ (List.getElem_mem hj) r hrx
  refine ⟨⟨by omega, by omega, by omega, by omega, by omega, by omega, q6, by omega, fun h => by omega, fun _ => by omega, fun _ => ?_⟩, ⟨by omega, by omega, by omega, by omega, by omega, q11, by omega, by omega⟩, by omega, ?_, (textLow_of tx).1, text_seesV tx⟩
  · rcases tx with ⟨_, _, _, h4⟩ | ⟨tb, u, _, _, _, h4, _⟩
    · rw [h4]; simp
    · rw [h4]; simp
  · rcases tx with ⟨h1, _⟩ | ⟨tb, u, _, h1, _⟩ <;> omega
/-- What stands behind the document's Whole of its Feeds. -/
structure Evs (w : World) (A : Option Addr) (R : List EvS) : Prop where
  sees : EvSees w A R
  text : ∀ r ∈ R, SeesV w [] r.A (cs r.e.text)
  right : ∀ r ∈ R, Right r.e
  rise : Rises R
  flows : ∀ n, Flows (Fol.newF n) (R.map EvS.e)
theorem Evs.below {w w' : World} {A : Option Addr} (h : Evs w A R) (hb : Below w.heap.size w w') : Evs w' A R :=
  ⟨h.sees.below hb, fun r hr => (h.text r hr).below hb, h.right, h.rise, h.flows⟩
theorem evs_of (h : FeedsAt B0 ob lb wn w0 i m L T W) (hm : m ≤ 1000) (hw : wn ≤ 6) {w5 : World} {base N c : Nat} {A : Option Addr} (hown : w5.ownsRow base 32 8 (.slice A N c) N (rowsL R)) (hp : R.Perm (flat L)) (hs : Rises R) (hb : Below W.heap.size W w5) :
    Evs w5 A R ∧ R.length = i := by
  have hE := fun (r : EvS) (hr : r ∈ R) => feeds_each h hm hw (hp.mem_iff.1 hr)
  refine ⟨⟨⟨RawEv.of_own hown, fun r hr => (hE r hr).2.2.2.2.1.below hb, fun r hr => ⟨(hE r hr).2.1, (hE r hr).2.2.1, by have := (hE r hr).2.2.2.1; omega⟩⟩, fun r hr => (hE r hr).2.2.2.2.2.below hb, fun r hr => (hE r hr).1, hs, fun n => feeds_flows h (fun r hr => (feeds_each h hm hw hr).1) hp hs n⟩, by rw [hp.length_eq, h.few]⟩
end
end Go.Proofs.YtmogoopkjkdkgaaGreat.Vw
namespace Go.Proofs.YtmogoopkjkdkgaaGreat.Vw
open Go Go.RowKit Go.Proofs.YtmogoopkjkdkgaaGreat.Words Go.Proofs.YtmogoopkjkdkgaaGreat.Enc Go.Proofs.YtmogoopkjkdkgaaGreat.Q Go.Proofs.YtmogoopkjkdkgaaGreat.Evt Go.Proofs.YtmogoopkjkdkgaaGreat.Seg Go.Proofs.YtmogoopkjkdkgaaGreat.Fol Go.Proofs.YtmogoopkjkdkgaaGreat.Ord
set_option linter.unusedVariables false
set_option linter.unusedSimpArgs false

/-- No two of the events stand at one place. -/
def Anti (R : List EvS) : Prop := ∀ a b, a ∈ R → b ∈ R → evLe a b → evLe b a → a = b
theorem by_lists {W : World} {AR : Option Addr} {R : List EvS} (E : Evs W AR R) (hR : R.length ≤ 60) (anti : Anti R) (k : Nat) (hk : k ≤ R.length) (S : List Nat) (d mb : Nat) (hS : ∀ x ∈ S, x < W.heap.size) (hf : FoldAt W S d mb (applyAll (newF 3) ((R.take k).map EvS.e))) (hl : (applyAll (newF 3) ((R.take k).map EvS.e)).L.length ≤ 1000)
    (Al : Option Addr) (cl : Nat) (L : List HV) (hg : GoodLists W.heap.size W Al L) (hp : (flat L).Perm (R.drop k)) :
    Calls Tryz.prog 8 #[.pointer (some ⟨d, 0, none⟩), .slice Al L.length cl] W fun e w' => (∃ vb b0 st A c R', e = .returned (.tuple #[.pointer (some ⟨vb, 0, none⟩), .int .i64 0]) ∧ ViewAt w' vb b0 st (applyAll (newF 3) ((R.take k).map EvS.e)) (applyAll (newF 3) (R.map EvS.e)) A c R' ∧ R'.map EvS.e = (R.drop k).map EvS.e) ∧ Below W.heap.size W w' := by
  have hsub : ∀ r ∈ flat L, r ∈ R := fun r hr => List.mem_of_mem_drop (hp.mem_iff.1 hr)
  have hlen : (flat L).length ≤ 60 := by rw [hp.length_eq, List.length_drop]; omega
  have hone : ∀ r0 : List EvS, r0.Perm (flat L) → Rises r0 → r0 = R.drop k := fun r0 h1 h2 => by
    have h3 := h1.trans hp
    refine List.Perm.eq_of_pairwise (le := evLe) (fun a b ha hb => anti a b (List.mem_of_mem_drop (h3.mem_iff.1 ha)) (List.mem_of_mem_drop hb)) h2 ?_ h3
    exact List.Pairwise.sublist (List.drop_sublist k R) E.rise
  have hsp : R.map EvS.e = (R.take k).map EvS.e ++ (R.drop k).map EvS.e := by rw [← List.map_append, List.take_append_drop]
  have hflow : Flows (applyAll (newF 3) ((R.take k).map EvS.e)) ((R.drop k).map EvS.e) := by
    have h1 := E.flows 3
    rw [hsp] at h1
    exact h1.append.2
  refine (by_any Al cl L S d mb _ W hf hg hS (by omega) (fun r hr => E.sees.fit r (hsub r hr)) (fun r0 h1 h2 => by rw [hone r0 h1 h2]; exact hflow) (by omega)).mono ?_
  rintro e w' ⟨vb, b0, st, g, R', r0, rfl, hv, hm, hp0, hr0, hb⟩
  rw [hone r0 hp0 hr0] at hv hm
  rw [← applyAll_append, ← hsp] at hv
  exact ⟨⟨vb, b0, st, _, _, R', rfl, hv, hm⟩, hb⟩
theorem feeds_antiR {B0 lb wn i m ob : Nat} {w0 W : World} {L : List HV} {T : List Nat} {R : List EvS} (h : FeedsAt B0 ob lb wn w0 i m L T W) (hp : R.Perm (flat L)) : Anti R := fun a b ha hb => feeds_anti h a b (hp.mem_iff.1 ha) (hp.mem_iff.1 hb)
theorem good_nil (w : World) : GoodLists w.heap.size w none [] := ⟨⟨fun h => by simp at h, fun x hx => by cases hx⟩, fun x hx => (by cases hx), by simp, by simp [flat], fun r hr => (by cases hr)⟩
theorem mem_one : (memL (applyAll (newF 1) (([] : List EvS).map EvS.e)) 64).length = 1 := by decide +kernel
set_option maxRecDepth 100000 in
set_option maxHeartbeats 2000000 in
theorem awakeV_yes (w : World) : Calls Tryz.prog 5 #[] w fun e w' => e = .returned (.bool true) ∧ Below w.heap.size w w' := by
  go_enter Tryz.func5, Tryz.ntmps5
  go_wp2_with fail
  refine (new_any 1 (by omega) w).mono ?_
  rintro e w1 ⟨rfl, hf1, hb1⟩
  have BY := by_any none 0 [] _ _ _ (newF 1) w1 hf1 (good_nil w1) (fun x hx => by have := hf1.lt; simp at hx; omega) (by simp [flat]) (fun r hr => by cases hr) (fun r0 h1 h2 => by
    have : r0 = [] := by simpa [flat] using h1.length_eq
    rw [this]
    trivial) (by simp [newF])
  have HBY := Lib.hid BY
  have HB1 := Lib.hid hb1
  clear BY hf1 hb1
  go_wp2_with fail
  refine HBY.out.mono ?_
  rintro e w2 ⟨vb, b0, st, g, R, r0, rfl, hv, hR, hp, hr, hb2⟩
  obtain rfl : r0 = [] := by simpa [flat] using hp.length_eq
  obtain rfl : R = [] := by simpa using hR
  have HLN := Lib.hid (vlen_any hv)
  have HME := Lib.hid (vmembers_any hv)
  have HB2 := Lib.hid (HB1.out.trans (hb2.mono HB1.out.size))
  clear hv hR hp hr hb2 HBY
  go_wp2_with fail
  refine HLN.out.mono ?_
  rintro e w3 ⟨rfl, rfl⟩
  go_wp2_with fail
  refine HME.out.mono ?_
  rintro e w4 ⟨A, c, rfl, hb4⟩
  have HB4 := Lib.hid (HB2.out.trans (hb4.mono HB2.out.size))
  have hm1 := mem_one
  rw [hm1]
  clear hb4
  go_wp2
  go_ret
  exact ⟨rfl, HB4.out⟩
end Go.Proofs.YtmogoopkjkdkgaaGreat.Vw
namespace Go.Proofs.YtmogoopkjkdkgaaGreat.Vw
open Go Go.RowKit Go.Proofs.YtmogoopkjkdkgaaGreat.Words Go.Proofs.YtmogoopkjkdkgaaGreat.Enc Go.Proofs.YtmogoopkjkdkgaaGreat.Q Go.Proofs.YtmogoopkjkdkgaaGreat.Evt Go.Proofs.YtmogoopkjkdkgaaGreat.Seg Go.Proofs.YtmogoopkjkdkgaaGreat.Fol Go.Proofs.YtmogoopkjkdkgaaGreat.Ord
set_option linter.unusedVariables false
set_option linter.unusedSimpArgs false

structure PartsAt (B lb : Nat) (w0 : World) (L : List HV) (W : World) : Prop where
  out : W.heap[lb]? = some (.cells (L.map HV.val).toArray 24 (0, 0))
  len : L.length = 5
  own : ∀ x ∈ L, W.ownsRow B 32 8 (.slice x.A x.S.length x.c) x.S.length (rowsL x.S)
  apart : ∀ (j k : Nat) (x y : HV) (a b : Addr), L[j]? = some x → L[k]? = some y → x.A = some a → y.A = some b → j ≠ k → a.block ≠ b.block
  below : Below B w0 W
  new : B ≤ lb ∧ B ≤ w0.heap.size
theorem PartsAt.far {B lb : Nat} {w0 W : World} {L : List HV} (h : PartsAt B lb w0 L W) {x : HV} {a : Addr} (hx : x ∈ L) (ha : x.A = some a) : a.block ≠ lb := by
  rcases (h.own x hx).2 with ⟨hv, _⟩ | ⟨g, cap, cur, hv, hg, hh, r⟩
  · rw [ha] at hv; cases hv
  · have hA : x.A = some ⟨g, 0, none⟩ := by injection hv
    rw [ha] at hA
    cases hA
    intro e
    simp only at e; rw [e, h.out] at hh; injection hh with hh; injection hh with _ hh; exact absurd hh (by decide)
theorem PartsAt.keep {B lb : Nat} {w0 W W' : World} {L : List HV} (h : PartsAt B lb w0 L W) (hb : Below W.heap.size W W') : PartsAt B lb w0 L W' := by
  have hl := (Array.getElem?_eq_some_iff.1 h.out).1
  exact ⟨(hb.block lb hl).trans h.out, h.len, fun x hx => own_below8 (h.own x hx) hb (Nat.le_refl _), h.apart, h.below.trans (hb.mono (by have := h.new.1; omega)), h.new⟩
set_option maxHeartbeats 1000000 in
theorem PartsAt.put {B lb k : Nat} {w0 W1 W W2 : World} {L : List HV} {x : HV} (h : PartsAt B lb w0 L W1) (hx : L[k]? = some x) (e : EvS) (hW : Below W1.heap.size W1 W) {g' cap' : Nat}
    (hown : W2.ownsRow B 32 8 (.slice (some ⟨g', 0, none⟩) (x.S.length + 1) cap') (x.S.length + 1) (rowsL x.S ++ e.cells)) (hg : W.grownBy W2 (Value.slice x.A x.S.length x.c).ownBlock) (hat : (Value.slice x.A x.S.length x.c).ownBlock = some g' ∨ W1.heap.size ≤ g') :
    W2.heap[lb]? = some (.cells (L.map HV.val).toArray 24 (0, 0)) ∧ Below B W1 W2 ∧
    PartsAt B lb w0 (L.set k ⟨some ⟨g', 0, none⟩, cap', x.S ++ [e]⟩) (W2.setCell ⟨lb, k, none⟩ (.slice (some ⟨g', 0, none⟩) (x.S.length + 1) cap')) := by
  have hxm : x ∈ L := List.mem_of_getElem? hx
  have hkl : k < L.length := (List.getElem?_eq_some_iff.1 hx).1
  have hobl : lb < W1.heap.size := (Array.getElem?_eq_some_iff.1 h.out).1
  have hBW1 : B ≤ W1.heap.size := by have := h.new.1; omega
  have hrow : ∀ b, (Value.slice x.A x.S.length x.c).ownBlock = some b → b < W1.heap.size ∧ B ≤ b ∧ b ≠ lb ∧ ∃ cur, W1.heap[b]? = some (.cells cur 32 (0, 0)) := fun b hb => by
    cases hA : x.A with
    | none => rw [hA] at hb; simp [Value.ownBlock] at hb
    | some a =>
      rw [hA] at hb
      simp [Value.ownBlock] at hb
      subst hb
      obtain ⟨hb0, _, _, cur, hc⟩ := own_block_of (h.own x hxm) hA
      exact ⟨(Array.getElem?_eq_some_iff.1 hc).1, hb0, h.far hxm hA, cur, hc⟩
  have hrn : ∀ b, b < W1.heap.size → (∀ a, x.A = some a → a.block ≠ b) → W2.heap[b]? = W1.heap[b]? := fun b hb hn => by
    refine (hg.block b (by have := hW.size; omega) (fun e => ?_)).trans (hW.block b hb)
    cases hA : x.A with
    | none => rw [hA] at e; simp [Value.ownBlock] at e
    | some a => rw [hA] at e; simp [Value.ownBlock] at e; exact hn a hA e.symm
  have hout2 : W2.heap[lb]? = some (.cells (L.map HV.val).toArray 24 (0, 0)) := (hrn lb hobl fun a ha => (h.far hxm ha)).trans h.out
  have hgo : g' ≠ lb ∧ B ≤ g' := by
    rcases hat with hh | hh
    · obtain ⟨_, q1, q2, _⟩ := hrow g' hh; exact ⟨q2, q1⟩
    · exact ⟨by omega, by omega⟩
  have hB2 : Below B W1 W2 := (hW.mono hBW1).trans ((Below.refl B W).grown hg (by have := hW.size; omega) (fun b hb => (hrow b hb).2.1))
  refine ⟨hout2, hB2, ?_⟩
  have hset : ∀ (j : Nat) (y : HV), (L.set k ⟨some ⟨g', 0, none⟩, cap', x.S ++ [e]⟩)[j]? = some y → (j = k ∧ y = ⟨some ⟨g', 0, none⟩, cap', x.S ++ [e]⟩) ∨ (j ≠ k ∧ L[j]? = some y) := fun j y hy => by
    by_cases hj : j = k
    · subst hj; rw [List.getElem?_set_self hkl] at hy; cases hy; exact .inl ⟨rfl, rfl⟩
    · rw [List.getElem?_set_ne (Ne.symm hj)] at hy; exact .inr ⟨hj, hy⟩
  have hother : ∀ (j : Nat) (y : HV), j ≠ k → L[j]? = some y → ∀ a, y.A = some a → a.block ≠ g' ∧ W2.heap[a.block]? = W1.heap[a.block]? := fun j y hj hy a ha => by
    obtain ⟨hb0, _, _, cur, hc⟩ := own_block_of (h.own y (List.mem_of_getElem? hy)) ha
    have hlt2 := (Array.getElem?_eq_some_iff.1 hc).1
    refine ⟨fun e2 => ?_, hrn _ hlt2 fun a2 ha2 => h.apart k j x y a2 a hx hy ha2 ha (Ne.symm hj)⟩
    rcases hat with hh | hh
    · cases hA : x.A with
      | none => rw [hA] at hh; simp [Value.ownBlock] at hh
      | some a2 =>
        rw [hA] at hh; simp [Value.ownBlock] at hh
        exact h.apart k j x y a2 a hx hy hA ha (Ne.symm hj) (by rw [hh, e2])
    · omega
  refine ⟨?_, by simpa using h.len, fun y hy => ?_, fun j1 j2 y1 y2 a1 a2 hy1 hy2 ha1 ha2 hj => ?_, (h.below.trans hB2).setCell (p := ⟨lb, k, none⟩) h.new.1 _, h.new⟩
  · rw [heapSame hout2]
    congr 2
    apply Array.ext'
    simp [List.map_set, HV.val]
  · obtain ⟨j, hjl, rfl⟩ := List.getElem_of_mem hy
    rcases hset j _ (List.getElem?_eq_getElem hjl) with ⟨_, e2⟩ | ⟨hj, hyj⟩
    · rw [e2]
      simp only [List.length_append, List.length_cons, List.length_nil, Nat.zero_add]
      have e3 : rowsL (x.S ++ [e]) = rowsL x.S ++ e.cells := by rw [rowsL_append]; simp [rowsL]
      rw [e3]
      refine ⟨hown.1, ?_⟩
      rcases hown.2 with ⟨hv, _⟩ | ⟨g, cap, cur, hv, hbg, hh, r⟩
      · cases hv
      · have : g = g' := by injection hv with e1; injection e1 with e1; injection e1 with e1; exact e1.symm
        subst this
        exact .inr ⟨g, cap, cur, hv, hbg, (heapOther hgo.1).trans hh, r⟩
    · have ho := h.own _ (List.mem_of_getElem? hyj)
      refine ⟨ho.1, ?_⟩
      rcases ho.2 with hn | ⟨g, cap, cur, hv, hbg, hh, r⟩
      · exact .inl hn
      · have hA : (L.set k ⟨some ⟨g', 0, none⟩, cap', x.S ++ [e]⟩)[j].A = some ⟨g, 0, none⟩ := by injection hv
        have q := hother j _ hj hyj _ hA
        exact .inr ⟨g, cap, cur, hv, hbg, (heapOther (h.far (List.mem_of_getElem? hyj) hA)).trans (q.2.trans hh), r⟩
  · rcases hset j1 _ hy1 with ⟨e1, rfl⟩ | ⟨hj1, hy1'⟩
    · rcases hset j2 _ hy2 with ⟨e2, rfl⟩ | ⟨hj2, hy2'⟩
      · exact absurd (e1.trans e2.symm) hj
      · simp at ha1; subst ha1
        exact Ne.symm (hother j2 _ hj2 hy2' _ ha2).1
    · rcases hset j2 _ hy2 with ⟨e2, rfl⟩ | ⟨hj2, hy2'⟩
      · simp at ha2; subst ha2
        exact (hother j1 _ hj1 hy1' _ ha1).1
      · exact h.apart j1 j2 y1 y2 a1 a2 hy1' hy2' ha1 ha2 hj
theorem flat_set : ∀ (L : List HV) (k : Nat) (x : HV) (A : Option Addr) (c : Nat) (e : EvS), L[k]? = some x → (flat (L.set k ⟨A, c, x.S ++ [e]⟩)).Perm (flat L ++ [e])
  | [], _, _, _, _, _, h => by simp at h
  | y :: r, 0, x, A, c, e, h => by
    simp at h
    subst h
    show ((y.S ++ [e]) ++ flat r).Perm ((y.S ++ flat r) ++ [e])
    rw [List.append_assoc, List.append_assoc]
    exact List.Perm.append_left _ List.perm_append_comm
  | y :: r, k + 1, x, A, c, e, h => by
    show (y.S ++ flat (r.set k _)).Perm ((y.S ++ flat r) ++ [e])
    rw [List.append_assoc]
    exact List.Perm.append_left _ (flat_set r k x A c e (by simpa using h))
/-- The lists of the events of a row from n on, up to the i-th. -/
structure LsAt (B lb : Nat) (w0 : World) (R : List EvS) (n i : Nat) (L : List HV) (W : World) : Prop where
  parts : PartsAt B lb w0 L W
  perm : (flat L).Perm ((R.drop n).take (i - n))
  rise : ∀ x ∈ L, Rises x.S
theorem LsAt.next {B lb k n i : Nat} {w0 W1 W2 : World} {R : List EvS} {L : List HV} {x : HV} {A : Option Addr} {c : Nat} {e : EvS} (h : LsAt B lb w0 R n i L W1) (hR : Rises R) (hn : n ≤ i) (he : R[i]? = some e) (hx : L[k]? = some x) (hp : PartsAt B lb w0 (L.set k ⟨A, c, x.S ++ [e]⟩) W2) : LsAt B lb w0 R n (i + 1) (L.set k ⟨A, c, x.S ++ [e]⟩) W2 := by
  have hil : i < R.length := (List.getElem?_eq_some_iff.1 he).1
  have hei : R[i] = e := by rw [List.getElem?_eq_getElem hil] at he; injection he
  have hd : (R.drop n)[i - n]? = some e := by rw [List.getElem?_drop, show n + (i - n) = i by omega]; exact he
  refine ⟨hp, ?_, fun y hy => ?_⟩
  · refine (flat_set L k x A c e hx).trans ?_
    rw [show i + 1 - n = (i - n) + 1 by omega, List.take_add_one, hd]
    exact List.Perm.append_right _ h.perm
  · obtain ⟨j, hj, rfl⟩ := List.getElem_of_mem hy
    by_cases hjk : j = k
    · subst hjk
      rw [List.getElem_set_self]
      have hxm := List.mem_of_getElem? hx
      refine List.pairwise_append.2 ⟨h.rise x hxm, List.pairwise_singleton _ _, fun a ha b hb => ?_⟩
      rw [List.mem_singleton.1 hb]
      have h1 : a ∈ flat L := List.mem_flatMap.2 ⟨x, hxm, ha⟩
      have h2 := h.perm.mem_iff.1 h1
      obtain ⟨q, hq, hqe⟩ := List.getElem_of_mem h2
      rw [List.length_take, List.length_drop] at hq
      rw [List.getElem_take, List.getElem_drop] at hqe
      rw [← hqe, ← hei]
      exact List.pairwise_iff_getElem.1 hR (n + q) i (by omega) hil (by omega)
    · rw [List.getElem_set_ne (Ne.symm hjk)]
      exact h.rise _ (List.getElem_mem _)
theorem writer_lt {B0 lb wn i m ob : Nat} {w0 W : World} {L : List HV} {T : List Nat} (h : FeedsAt B0 ob lb wn w0 i m L T W) {r : EvS} (hr : r ∈ flat L) : ∃ k : Nat, k < wn ∧ r.e.writer = (k : Int) := by
  obtain ⟨x, hx, hrx⟩ := List.mem_flatMap.1 hr
  obtain ⟨j, hj, rfl⟩ := List.getElem_of_mem hx
  obtain ⟨t, _, hg⟩ := feeds_good_at h (List.getElem?_eq_getElem hj)
  exact ⟨j, by rw [← h.lenL]; exact hj, (hg.each r hrx).1⟩
theorem ls_start (w : World) (R : List EvS) (n : Nat) : LsAt w.heap.size w.heap.size w R n n (List.replicate 5 ⟨none, 0, []⟩) (w.alloc (.cells ((List.replicate 5 (⟨none, 0, []⟩ : HV)).map HV.val).toArray 24)) := by
  refine ⟨⟨heap_alloc_new w _, rfl, fun x hx => ?_, fun j k x y a b hx hy ha hb hj => ?_, (Below.refl _ _).alloc (Nat.le_refl _) _, Nat.le_refl _, Nat.le_refl _⟩, ?_, fun x hx => ?_⟩
  · rw [List.eq_of_mem_replicate hx]; exact own_nil8 _ _ _
  · have := List.eq_of_mem_replicate (List.mem_of_getElem? hx); rw [this] at ha; cases ha
  · rw [Nat.sub_self, List.take_zero]; exact List.Perm.refl _
  · rw [List.eq_of_mem_replicate hx]; exact List.Pairwise.nil
theorem LsAt.good {B lb n : Nat} {w0 W : World} {AR : Option Addr} {R : List EvS} {L : List HV} (h : LsAt B lb w0 R n R.length L W) (E : Evs W AR R) (hR : R.length ≤ 60) : GoodLists W.heap.size W (some ⟨lb, 0, none⟩) L ∧ (flat L).Perm (R.drop n) := by
  have hp : (flat L).Perm (R.drop n) := by
    have := h.perm
    rwa [List.take_of_length_le (by rw [List.length_drop]; exact Nat.le_refl _)] at this
  refine ⟨⟨⟨fun _ => ⟨lb, 0, (Array.getElem?_eq_some_iff.1 h.parts.out).1, rfl, fun k x hx => ?_⟩, fun x hx => ⟨own_cap8 (h.parts.own x hx), fun h0 => ?_⟩⟩, h.rise, by rw [h.parts.len]; omega, by rw [hp.length_eq, List.length_drop]; omega, fun r hr => ?_⟩, hp⟩
  · rw [cell_of_row W lb _ _ _ _ h.parts.out, Nat.zero_add, List.getElem?_toArray, List.getElem?_map, hx]; rfl
  · have hraw := RawEv.of_own (h.parts.own x hx)
    obtain ⟨b, o, h1, h2⟩ := hraw h0
    refine ⟨b, o, ?_, h1, h2⟩
    have h3 : 0 < (rowsL x.S).length := by rw [rowsL_len]; exact Nat.mul_pos h0 (by omega)
    exact World.block_lt_of_cell? _ _ (h2 0 _ (List.getElem?_eq_getElem h3))
  · have hr2 : r ∈ R := List.mem_of_mem_drop (hp.mem_iff.1 hr)
    have hs := E.sees.text r hr2
    refine ⟨hs, by have := (E.sees.fit r hr2).2.2; omega, fun h0 a ha => ?_⟩
    obtain ⟨b, o, h1, h2⟩ := hs.2 h0
    rw [h1] at ha
    cases ha
    have h3 : 0 < r.e.text.length := by rw [hs.1]; exact h0
    exact World.block_lt_of_cell? _ _ (h2 0 _ (List.getElem?_eq_getElem h3))
end Go.Proofs.YtmogoopkjkdkgaaGreat.Vw
namespace Go.Proofs.YtmogoopkjkdkgaaGreat.Ord
open Go Go.RowKit Go.Proofs.YtmogoopkjkdkgaaGreat.Words Go.Proofs.YtmogoopkjkdkgaaGreat.Enc Go.Proofs.YtmogoopkjkdkgaaGreat.Evt Go.Proofs.YtmogoopkjkdkgaaGreat.Seg
set_option linter.unusedVariables false
set_option linter.unusedSimpArgs false

/-- An event is put into a list that rises. -/
theorem rises_insert {R : List EvS} {x : EvS} {k : Nat} (hR : Rises R) (hk : k ≤ R.length) (h1 : ∀ j, j < k → evLe (evAt R j) x) (h2 : ∀ j, k ≤ j → j < R.length → evLe x (evAt R j)) : Rises (R.take k ++ [x] ++ R.drop k) := by
  have get : ∀ j (hj : j < R.length), evAt R j = R[j] := fun j hj => by have := evAt_get hj; rw [List.getElem?_eq_getElem hj] at this; exact (Option.some.inj this).symm
  have ha : ∀ a ∈ R.take k, evLe a x := fun a ha => by
    obtain ⟨j, hj, rfl⟩ := List.getElem_of_mem ha
    rw [List.length_take] at hj
    rw [List.getElem_take, ← get j (by omega)]
    exact h1 j (by omega)
  have hb : ∀ b ∈ R.drop k, evLe x b := fun b hb => by
    obtain ⟨j, hj, rfl⟩ := List.getElem_of_mem hb
    rw [List.length_drop] at hj
    rw [List.getElem_drop, ← get (k + j) (by omega)]
    exact h2 (k + j) (by omega) (by omega)
  unfold Rises at *
  rw [List.pairwise_append, List.pairwise_append]
  refine ⟨⟨hR.sublist (List.take_sublist _ _), List.pairwise_singleton _ _, fun a hm b hb' => by rw [List.mem_singleton.1 hb']; exact ha a hm⟩, hR.sublist (List.drop_sublist _ _), fun a hm b hm2 => ?_⟩
  rcases List.mem_append.1 hm with hm | hm
  · exact evLe_trans _ _ _ (ha a hm) (hb b hm2)
  · rw [List.mem_singleton.1 hm]; exact hb b hm2
theorem perm_insert {R : List EvS} {x : EvS} {k : Nat} {S : List EvS} {i : Nat} (hp : R.Perm (S.take i)) (hx : S[i]? = some x) : (R.take k ++ [x] ++ R.drop k).Perm (S.take (i + 1)) := by
  have hi := (List.getElem?_eq_some_iff.1 hx)
  obtain ⟨hil, hxe⟩ := hi
  rw [← List.take_append_getElem hil, hxe]
  have h1 : (R.take k ++ [x] ++ R.drop k).Perm (R.take k ++ R.drop k ++ [x]) := by
    rw [List.append_assoc, List.append_assoc]
    exact (List.perm_append_comm).append_left _
  rw [List.take_append_drop] at h1
  exact h1.trans (hp.append_right _)
theorem rises_le {S : List EvS} (h : Rises S) : ∀ a b, a ≤ b → b < S.length → evLe (evAt S a) (evAt S b) := by
  intro a b hab hb
  rcases Nat.lt_or_eq_of_le hab with hlt | rfl
  · have := List.pairwise_iff_getElem.1 h a b (by omega) hb hlt
    have ea : evAt S a = S[a] := by have := evAt_get (S := S) (k := a) (by omega); rw [List.getElem?_eq_getElem (by omega)] at this; exact (Option.some.inj this).symm
    have eb : evAt S b = S[b] := by have := evAt_get (S := S) (k := b) hb; rw [List.getElem?_eq_getElem hb] at this; exact (Option.some.inj this).symm
    rw [ea, eb]
    exact this
  · exact evLe_refl _
theorem RawEv.drop {w : World} {b o : Nat} {S : List EvS} (h : RawEv w (some ⟨b, o, none⟩) S) (k : Nat) (hk : k < S.length) : RawEv w (some ⟨b, o + k * 8, none⟩) (S.drop k) := fun hn => by
  obtain ⟨b', o', e, hc⟩ := h (by omega)
  cases e
  refine ⟨b, o + k * 8, rfl, fun j v hv => ?_⟩
  rw [Nat.add_assoc]
  refine hc (k * 8 + j) v ?_
  conv => lhs; rw [← List.take_append_drop k S]
  rw [rowsL_append, List.getElem?_append_right (by rw [rowsL_len, List.length_take]; omega), rowsL_len, List.length_take, Nat.min_eq_left (by omega), show k * 8 + j - k * 8 = j by omega]
  exact hv

section
variable {P : Program} {w : World} {ops : Array Oper} {rest : List Oper} {op : Oper} {a : Act} {Q : Exit → Act → World → Prop}
theorem wp_thenB {c : Code} {id : Nat} {K K' : Act → World → Prop} {Q' : Exit → Act → World → Prop} {a : Act} {w : World} (hq : ∀ a w, K a w → K' a w) (h : c.wp P (Exit.inBlock id (Exit.then K Q')) a w) : c.wp P (Exit.inBlock id (Exit.then K' Q')) a w := by
  refine Code.wp_mono (fun e a w he => ?_) h
  cases e with
  | normal => exact hq _ _ he
  | exit m =>
    by_cases hm : m = id
    · simp only [Exit.inBlock, if_pos hm] at he ⊢
      exact hq _ _ he
    · simp only [Exit.inBlock, if_neg hm] at he ⊢
      exact he
  | _ => exact he
theorem wpList_sliceL (hgd : op.guard = none) (t : TypeId) (x lo : Operand) (ho : op.op = .slice t x (some lo) none none) (A : Option Addr) (n c J s : Nat) (hx : a.eval x = .slice A n c) (hlo : a.eval lo = .int .i64 (J : Int)) (hJ : J ≤ n)
    (ht : P.underlying t = some (.slice (P.elem t))) (hs : ∀ W, (sizeOf (P.elem t)).run P W = .ok s W)
    (h : ∀ A', (∀ b o, J < n → n ≤ c → A = some ⟨b, o, none⟩ → A' = some ⟨b, o + J * s, none⟩) → wpList P ops Q rest (a.put op.dst (.slice A' (n - J) (c - J))) w) : wpList P ops Q (op :: rest) a w := by
  refine wpList_plain hgd fun K hK => ?_
  have h1 : (Instr.slice t (.slice A n c) (some (.int .i64 (J : Int))) none none).run P w = .ok (sliced A J n c s) w := by
    rw [run_slice_l w t A n c ht .i64 (J : Int) (by omega) (by omega), hs]
    simp [Result.andThen]
  have h2 : (execOp a.eval op).run P w = .ok (.value (sliced A J n c s)) w := by
    unfold execOp
    simp only [ho, Option.map_some, Option.map_none, hx, hlo, Sem.run_bind, Sem.run_pure, run_sliceAt_slice w t _ _ _ _ ht, h1, Result.andThen_ok]
  unfold Oper.wp
  rw [h2]
  refine hK _ _ (h _ fun b o h3 h4 hA => ?_)
  rw [if_neg (by omega), hA]
  simp [Words.add_plain]
end
theorem sizeEv (W : World) : (sizeOf (Tryz.prog.elem 24)).run Tryz.prog W = .ok 8 W := by kernel_rfl
theorem elemEv : Tryz.prog.underlying 24 = some (.slice (Tryz.prog.elem 24)) := by kernel_rfl
end Go.Proofs.YtmogoopkjkdkgaaGreat.Ord
