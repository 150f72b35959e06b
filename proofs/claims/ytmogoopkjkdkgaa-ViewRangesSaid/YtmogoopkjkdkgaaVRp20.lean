/- Layer 15: what the laws' events (Whole of Feeds) are: a row that Of, base and told take, each event of which is taken. Layer 15: the law's views: By of a fold of the first events and of the others in lists; the document's example. Layer 15: what operations of drawn regions leave. -/
import Derived.Test.YtmogoopkjkdkgaaVRp12
import Derived.Test.YtmogoopkjkdkgaaVRp18
import Derived.Test.YtmogoopkjkdkgaaVRp19
namespace Go.Proofs.Ytmogoopkjkdkgaa.Vw
open Go Go.RowKit Go.Proofs.Ytmogoopkjkdkgaa.Words Go.Proofs.Ytmogoopkjkdkgaa.Enc Go.Proofs.Ytmogoopkjkdkgaa.Q Go.Proofs.Ytmogoopkjkdkgaa.Evt Go.Proofs.Ytmogoopkjkdkgaa.Seg Go.Proofs.Ytmogoopkjkdkgaa.Ord Go.Proofs.Ytmogoopkjkdkgaa.Fol
set_option linter.unusedVariables false
set_option linter.unusedSimpArgs false

section
variable {B0 ob lb wn i m : Nat} {w0 W : World} {L : List HV} {T : List Nat} {R : List EvS}
theorem text_seesV {B : Nat} {e : EvS} (h : TextBox B W e) : SeesV W [] e.A (cs e.e.text) := by
  rcases h with ⟨h1, h2, h3, h4⟩ | ⟨tb, u, h1, h2, h3, h4, h5, h6⟩
  · rw [h4]; exact fun h => absurd rfl h
  · intro _
    refine ⟨tb, 0, h1, by simp, fun j v hv => ?_⟩
    rw [h4] at hv
    rw [Nat.zero_add, cell_of_row W tb j _ _ _ h5]
    match j, hv with
    | 0, hv => simpa [cs] using hv
theorem feeds_each (h : FeedsAt B0 ob lb wn w0 i m L T W) (hm : m ≤ 1000) (hw : wn ≤ 6) {r : EvS} (hr : r ∈ flat L) :
    Right r.e ∧ r.e.Fit ∧ r.e.key.size ≤ 64 ∧ r.n ≤ 1 ∧ Sees W r.A r.n r.e.text ∧ SeesV W [] r.A (cs r.e.text) := by
  obtain ⟨x, hx, hrx⟩ := List.mem_flatMap.1 hr
  obtain ⟨j, hj, rfl⟩ := List.getElem_of_mem hx
  have hjT : j < T.length := by rw [h.lenT, ← h.lenL]; exact hj
  have g1 := h.good j _ _ (List.getElem?_eq_getElem hj) (List.getElem?_eq_getElem hjT)
  have ht := h.time _ (List.getElem_mem hjT)
  obtain ⟨q1, q2, q3, q4, q5, q6, q7, q8, q9, q10, q11⟩ := g1.each r hrx
  have hjw : j < 6 := by have := h.lenL; omega
  have tx := h.text _ (List.getElem_mem hj) r hrx
  refine ⟨⟨by omega, by omega, by omega, by omega, by omega, by omega, q6, by omega, fun h => by omega, fun _ => by omega, fun _ => ?_⟩, ⟨by omega, by omega, by omega, by omega, by omega, q11, by omega, by omega⟩, by omega, ?_, (textLow_of tx).1, text_seesV tx⟩
  · rcases tx with ⟨_, _, _, h4⟩ | ⟨tb, u, _, _, _, h4, _⟩
    · rw [h4]; simp
    · rw [h4]; simp
  · rcases tx with ⟨h1, _⟩ | ⟨tb, u, _, h1, _⟩ <;> omega
/-- What stands behind the document's Whole of its Feeds. -/
structure Evs (w : World) (A : Option Addr) (R : List EvS) : Prop where
  sees : EvSees w A R
  text : ∀ r ∈ R, SeesV w [] r.A (cs r.e.text)
  right : ∀ r ∈ R, Right r.e
  rise : Rises R
  flows : ∀ n, Flows (Fol.newF n) (R.map EvS.e)
theorem Evs.below {w w' : World} {A : Option Addr} (h : Evs w A R) (hb : Below w.heap.size w w') : Evs w' A R :=
  ⟨h.sees.below hb, fun r hr => (h.text r hr).below hb, h.right, h.rise, h.flows⟩
theorem evs_of (h : FeedsAt B0 ob lb wn w0 i m L T W) (hm : m ≤ 1000) (hw : wn ≤ 6) {w5 : World} {base N c : Nat} {A : Option Addr} (hown : w5.ownsRow base 43 8 (.slice A N c) N (rowsL R)) (hp : R.Perm (flat L)) (hs : Rises R) (hb : Below W.heap.size W w5) :
    Evs w5 A R ∧ R.length = i := by
  have hE := fun (r : EvS) (hr : r ∈ R) => feeds_each h hm hw (hp.mem_iff.1 hr)
  refine ⟨⟨⟨RawEv.of_own hown, fun r hr => (hE r hr).2.2.2.2.1.below hb, fun r hr => ⟨(hE r hr).2.1, (hE r hr).2.2.1, by have := (hE r hr).2.2.2.1; omega⟩⟩, fun r hr => (hE r hr).2.2.2.2.2.below hb, fun r hr => (hE r hr).1, hs, fun n => feeds_flows h (fun r hr => (feeds_each h hm hw hr).1) hp hs n⟩, by rw [hp.length_eq, h.few]⟩
end
end Go.Proofs.Ytmogoopkjkdkgaa.Vw
namespace Go.Proofs.Ytmogoopkjkdkgaa.Vw
open Go Go.RowKit Go.Proofs.Ytmogoopkjkdkgaa.Words Go.Proofs.Ytmogoopkjkdkgaa.Enc Go.Proofs.Ytmogoopkjkdkgaa.Q Go.Proofs.Ytmogoopkjkdkgaa.Evt Go.Proofs.Ytmogoopkjkdkgaa.Seg Go.Proofs.Ytmogoopkjkdkgaa.Fol Go.Proofs.Ytmogoopkjkdkgaa.Ord
set_option linter.unusedVariables false
set_option linter.unusedSimpArgs false

/-- A view of these events behind a fold F0, which come to F. -/
def PView (F0 F : Fo) (E : List Ev) : Facts.Pred := ⟨fun v w => ∃ vb b0 st A c R, v = .pointer (some ⟨vb, 0, none⟩) ∧ ViewAt w vb b0 st F0 F A c R ∧ R.map EvS.e = E, fun v w w' ⟨vb, b0, st, A, c, R, h, hv, he⟩ hb => ⟨vb, b0, st, A, c, R, h, hv.below hb, he⟩⟩
def PViewT (F0 F : Fo) (E : List Ev) : Facts.Pred := ⟨fun v w => ∃ vb b0 st A c R, v = .tuple #[.pointer (some ⟨vb, 0, none⟩), .int .i64 0] ∧ ViewAt w vb b0 st F0 F A c R ∧ R.map EvS.e = E, fun v w w' ⟨vb, b0, st, A, c, R, h, hv, he⟩ hb => ⟨vb, b0, st, A, c, R, h, hv.below hb, he⟩⟩
/-- No two of the events stand at one place. -/
def Anti (R : List EvS) : Prop := ∀ a b, a ∈ R → b ∈ R → evLe a b → evLe b a → a = b
theorem by_lists {W : World} {AR : Option Addr} {R : List EvS} (E : Evs W AR R) (hR : R.length ≤ 60) (anti : Anti R) (k : Nat) (hk : k ≤ R.length) (S : List Nat) (d mb : Nat) (hS : ∀ x ∈ S, x < W.heap.size) (hf : FoldAt W S d mb (applyAll (newF 3) ((R.take k).map EvS.e))) (hl : (applyAll (newF 3) ((R.take k).map EvS.e)).L.length ≤ 1000)
    (Al : Option Addr) (cl : Nat) (L : List HV) (hg : GoodLists W.heap.size W Al L) (hp : (flat L).Perm (R.drop k)) :
    Calls Try.prog 7 #[.pointer (some ⟨d, 0, none⟩), .slice Al L.length cl] W fun e w' => (∃ vb b0 st A c R', e = .returned (.tuple #[.pointer (some ⟨vb, 0, none⟩), .int .i64 0]) ∧ ViewAt w' vb b0 st (applyAll (newF 3) ((R.take k).map EvS.e)) (applyAll (newF 3) (R.map EvS.e)) A c R' ∧ R'.map EvS.e = (R.drop k).map EvS.e) ∧ Below W.heap.size W w' := by
  have hsub : ∀ r ∈ flat L, r ∈ R := fun r hr => List.mem_of_mem_drop (hp.mem_iff.1 hr)
  have hlen : (flat L).length ≤ 60 := by rw [hp.length_eq, List.length_drop]; omega
  have hone : ∀ r0 : List EvS, r0.Perm (flat L) → Rises r0 → r0 = R.drop k := fun r0 h1 h2 => by
    have h3 := h1.trans hp
    refine List.Perm.eq_of_pairwise (le := evLe) (fun a b ha hb => anti a b (List.mem_of_mem_drop (h3.mem_iff.1 ha)) (List.mem_of_mem_drop hb)) h2 ?_ h3
    exact List.Pairwise.sublist (List.drop_sublist k R) E.rise
  have hsp : R.map EvS.e = (R.take k).map EvS.e ++ (R.drop k).map EvS.e := by rw [← List.map_append, List.take_append_drop]
  have hflow : Flows (applyAll (newF 3) ((R.take k).map EvS.e)) ((R.drop k).map EvS.e) := by
    have h1 := E.flows 3
    rw [hsp] at h1
    exact h1.append.2
  refine (by_any Al cl L S d mb _ W hf hg hS (by omega) (fun r hr => E.sees.fit r (hsub r hr)) (fun r0 h1 h2 => by rw [hone r0 h1 h2]; exact hflow) (by omega)).mono ?_
  rintro e w' ⟨vb, b0, st, g, R', r0, rfl, hv, hm, hp0, hr0, hb⟩
  rw [hone r0 hp0 hr0] at hv hm
  rw [← applyAll_append, ← hsp] at hv
  exact ⟨⟨vb, b0, st, _, _, R', rfl, hv, hm⟩, hb⟩
/-- One list: the others behind the first k. -/
theorem good_one {W : World} {AR : Option Addr} {R : List EvS} (E : Evs W AR R) (hR : R.length ≤ 60) (k gl : Nat) (A' : Option Addr) (c' m : Nat) (hm : m = (R.drop k).length) (T : TypeId) (hrow : W.heap[gl]? = some (.cells #[.slice A' m c'] T (0, 0))) (hraw : RawEv W A' (R.drop k)) (hc : m ≤ c' ∧ c' ≤ 9223372036854775807) :
    GoodLists W.heap.size W (some ⟨gl, 0, none⟩) [⟨A', c', R.drop k⟩] := by
  have hgl := (Array.getElem?_eq_some_iff.1 hrow).1
  refine ⟨⟨fun _ => ⟨gl, 0, hgl, rfl, fun j x hx => ?_⟩, fun x hx => ?_⟩, fun x hx => ?_, by simp, ?_, fun r hr => ?_⟩
  · match j, hx with
    | 0, hx =>
      simp at hx
      subst hx
      rw [cell_of_row W gl _ _ _ _ hrow]
      unfold HV.val
      rw [← hm]
      rfl
    | j + 1, hx => simp at hx
  · simp at hx
    subst hx
    refine ⟨by rw [← hm]; exact hc, fun h0 => ?_⟩
    obtain ⟨b, o, h1, h2⟩ := hraw h0
    refine ⟨b, o, ?_, h1, h2⟩
    have h3 : 0 < (rowsL (R.drop k)).length := by rw [rowsL_len]; exact Nat.mul_pos h0 (by omega)
    exact World.block_lt_of_cell? _ _ (h2 0 _ (List.getElem?_eq_getElem h3))
  · simp at hx
    subst hx
    exact List.Pairwise.sublist (List.drop_sublist k R) E.rise
  · simp [flat]; omega
  · have hr2 : r ∈ R := by simp [flat] at hr; exact List.mem_of_mem_drop hr
    have hs := E.sees.text r hr2
    refine ⟨hs, by have := (E.sees.fit r hr2).2.2; omega, fun h0 a ha => ?_⟩
    obtain ⟨b, o, h1, h2⟩ := hs.2 h0
    rw [h1] at ha
    cases ha
    have h3 : 0 < r.e.text.length := by rw [hs.1]; exact h0
    exact World.block_lt_of_cell? _ _ (h2 0 _ (List.getElem?_eq_getElem h3))
theorem by_drop {W : World} {AR : Option Addr} {R : List EvS} (E : Evs W AR R) (hR : R.length ≤ 60) (anti : Anti R) (k : Nat) (hk : k ≤ R.length) (S : List Nat) (d mb : Nat) (hS : ∀ x ∈ S, x < W.heap.size) (hf : FoldAt W S d mb (applyAll (newF 3) ((R.take k).map EvS.e))) (hl : (applyAll (newF 3) ((R.take k).map EvS.e)).L.length ≤ 1000)
    (gl : Nat) (A' : Option Addr) (c' m : Nat) (hm : m = (R.drop k).length) (T : TypeId) (hrow : W.heap[gl]? = some (.cells #[.slice A' m c'] T (0, 0))) (hraw : RawEv W A' (R.drop k)) (hc : m ≤ c' ∧ c' ≤ 9223372036854775807) :
    Calls Try.prog 7 #[.pointer (some ⟨d, 0, none⟩), .slice (some ⟨gl, 0, none⟩) 1 1] W fun e w' => (∃ vb b0 st A c R', e = .returned (.tuple #[.pointer (some ⟨vb, 0, none⟩), .int .i64 0]) ∧ ViewAt w' vb b0 st (applyAll (newF 3) ((R.take k).map EvS.e)) (applyAll (newF 3) (R.map EvS.e)) A c R' ∧ R'.map EvS.e = (R.drop k).map EvS.e) ∧ Below W.heap.size W w' :=
  by_lists E hR anti k hk S d mb hS hf hl (some ⟨gl, 0, none⟩) 1 [⟨A', c', R.drop k⟩] (good_one E hR k gl A' c' m hm T hrow hraw hc) (by simp [flat])
theorem feeds_antiR {B0 lb wn i m ob : Nat} {w0 W : World} {L : List HV} {T : List Nat} {R : List EvS} (h : FeedsAt B0 ob lb wn w0 i m L T W) (hp : R.Perm (flat L)) : Anti R := fun a b ha hb => feeds_anti h a b (hp.mem_iff.1 ha) (hp.mem_iff.1 hb)
theorem good_nil (w : World) : GoodLists w.heap.size w none [] := ⟨⟨fun h => by simp at h, fun x hx => by cases hx⟩, fun x hx => (by cases hx), by simp, by simp [flat], fun r hr => (by cases hr)⟩
theorem mem_one : (memL (applyAll (newF 1) (([] : List EvS).map EvS.e)) 64).length = 1 := by decide +kernel
set_option maxRecDepth 100000 in
set_option maxHeartbeats 2000000 in
theorem awakeV_yes (w : World) : Calls Try.prog 4 #[] w fun e w' => e = .returned (.bool true) ∧ Below w.heap.size w w' := by
  go_enter Try.func4, Try.ntmps4
  go_wp2_with fail
  refine (new_any 1 (by omega) w).mono ?_
  rintro e w1 ⟨rfl, hf1, hb1⟩
  have BY := by_any none 0 [] _ _ _ (newF 1) w1 hf1 (good_nil w1) (fun x hx => by have := hf1.lt; simp at hx; omega) (by simp [flat]) (fun r hr => by cases hr) (fun r0 h1 h2 => by
    have : r0 = [] := by simpa [flat] using h1.length_eq
    rw [this]
    trivial) (by simp [newF])
  have HBY := Lib.hid BY
  have HB1 := Lib.hid hb1
  clear BY hf1 hb1
  go_wp2_with fail
  refine HBY.out.mono ?_
  rintro e w2 ⟨vb, b0, st, g, R, r0, rfl, hv, hR, hp, hr, hb2⟩
  obtain rfl : r0 = [] := by simpa [flat] using hp.length_eq
  obtain rfl : R = [] := by simpa using hR
  have HLN := Lib.hid (vlen_any hv)
  have HME := Lib.hid (vmembers_any hv)
  have HB2 := Lib.hid (HB1.out.trans (hb2.mono HB1.out.size))
  clear hv hR hp hr hb2 HBY
  go_wp2_with fail
  refine HLN.out.mono ?_
  rintro e w3 ⟨rfl, rfl⟩
  go_wp2_with fail
  refine HME.out.mono ?_
  rintro e w4 ⟨A, c, rfl, hb4⟩
  have HB4 := Lib.hid (HB2.out.trans (hb4.mono HB2.out.size))
  have hm1 := mem_one
  rw [hm1]
  clear hb4
  go_wp2
  go_ret
  exact ⟨rfl, HB4.out⟩
end Go.Proofs.Ytmogoopkjkdkgaa.Vw
namespace Go.Proofs.Ytmogoopkjkdkgaa.Vw
open Go Go.RowKit Go.Proofs.Ytmogoopkjkdkgaa.Words Go.Proofs.Ytmogoopkjkdkgaa.Enc Go.Proofs.Ytmogoopkjkdkgaa.Q Go.Proofs.Ytmogoopkjkdkgaa.Evt Go.Proofs.Ytmogoopkjkdkgaa.Seg Go.Proofs.Ytmogoopkjkdkgaa.Fol Go.Proofs.Ytmogoopkjkdkgaa.Ord
set_option linter.unusedVariables false
set_option linter.unusedSimpArgs false

def PFoldL (F : Fo) : Facts.Pred := ⟨fun v w => ∃ d mb, v = .pointer (some ⟨d, 0, none⟩) ∧ FoldAt w [d, mb] d mb F, fun v w w' ⟨d, mb, h, hf⟩ hb => ⟨d, mb, h, hf.below hb⟩⟩
/-- These events, somewhere. -/
def PEvs (m : Nat) (S : List EvS) : Facts.Pred := ⟨fun v w => ∃ A c, v = .slice A m c ∧ (m ≤ c ∧ c ≤ 9223372036854775807) ∧ RawEv w A S, fun v w w' ⟨A, c, h, hc, hr⟩ hb => ⟨A, c, h, hc, hr.below hb⟩⟩
/-- One list, of these events. -/
def PList (m : Nat) (S : List EvS) : Facts.Pred := ⟨fun v w => ∃ g A c, v = .slice (some ⟨g, 0, none⟩) 1 1 ∧ w.heap[g]? = some (.cells #[.slice A m c] 27 (0, 0)) ∧ (m ≤ c ∧ c ≤ 9223372036854775807) ∧ RawEv w A S, fun v w w' ⟨g, A, c, h, hg, hc, hr⟩ hb => ⟨g, A, c, h, (hb.block g (Array.getElem?_eq_some_iff.1 hg).1).trans hg, hc, hr.below hb⟩⟩
theorem raw_drop {w : World} {b o : Nat} {S : List EvS} (h : RawEv w (some ⟨b, o, none⟩) S) (k : Nat) (hk : k < S.length) : RawEv w (some ⟨b, o + k * 8, none⟩) (S.drop k) := fun _ => by
  obtain ⟨b', o', h1, h2⟩ := h (by omega)
  injection h1 with h1
  injection h1 with h3 h4
  subst h3; subst h4
  refine ⟨b, _, rfl, fun j v hv => ?_⟩
  rw [Nat.add_assoc]
  refine h2 _ _ ?_
  rw [← hv]
  have hs : S = S.take k ++ S.drop k := (List.take_append_drop k S).symm
  conv => lhs; rw [hs, rowsL_append]
  rw [List.getElem?_append_right (by rw [rowsL_len, List.length_take]; omega), rowsL_len, List.length_take]
  congr 1
  omega
theorem slice_ev (A : Option Addr) (n c k : Nat) (W : World) (hk : k ≤ n) (hn : n ≤ c) : ∃ A', (Instr.sliceAt 27 (.slice A n c) (some (.int .i64 (k : Int))) none none).run Try.prog W = .ok (.slice A' (n - k) (c - k)) W ∧ ∀ S : List EvS, S.length = n → RawEv W A S → RawEv W A' (S.drop k) := by
  have h1 : (Instr.sliceAt 27 (.slice A n c) (some (.int .i64 (k : Int))) none none).run Try.prog W = .ok (sliced A k n c 8) W := by
    rw [run_sliceAt_slice W 27 _ _ _ _ Ord.elemEv, run_slice_l W 27 A n c Ord.elemEv .i64 (k : Int) (by omega) (by omega), Ord.sizeEv]
    simp [Result.andThen]
  unfold sliced at h1
  refine ⟨_, h1, fun S hS hr hn0 => ?_⟩
  rw [List.length_drop] at hn0
  rw [if_neg (by omega)]
  obtain ⟨b, o, rfl, _⟩ := hr (by omega)
  have h2 := raw_drop hr k (by omega) (by rw [List.length_drop]; omega)
  have h3 : (⟨b, o, none⟩ : Addr).add (k * 8) = ⟨b, o + k * 8, none⟩ := by
    unfold Addr.add
    split
    · rename_i h0; rw [h0]; rfl
    · rfl
  rw [Option.map_some, h3]
  exact h2
/-- A new row of one cell. -/
def PBlk (o : Obj) : Facts.Pred := ⟨fun v w => ∃ g, v = .slice (some ⟨g, 0, none⟩) 1 1 ∧ w.heap[g]? = some o, fun v w w' ⟨g, h, hg⟩ hb => ⟨g, h, (hb.block g (Array.getElem?_eq_some_iff.1 hg).1).trans hg⟩⟩
end Go.Proofs.Ytmogoopkjkdkgaa.Vw
