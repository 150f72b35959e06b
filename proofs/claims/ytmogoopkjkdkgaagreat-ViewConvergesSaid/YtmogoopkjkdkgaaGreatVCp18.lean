/- Layer 15: what the laws' events (Whole of Feeds) are: a row that Of, base and told take, each event of which is taken. Layer 15: the law's views: By of a fold of the first events and of the others in lists; the document's example. Layer 15: what events come to is a fold in its bounds. The document's fold: Find, put, drop. The document's fold: put, drop. The document's fold in memory. Package fold: the mask of a set. A text's bytes, by a conversion. A fold's bytes; the document's Encode. Layer 15: a fold's bytes are few. -/
import Derived.Lib.ConvBytes
import Derived.Test.YtmogoopkjkdkgaaGreatVCp01
import Derived.Test.YtmogoopkjkdkgaaGreatVCp04
import Derived.Test.YtmogoopkjkdkgaaGreatVCp10
import Derived.Test.YtmogoopkjkdkgaaGreatVCp11
import Derived.Test.YtmogoopkjkdkgaaGreatVCp12
import Derived.Test.YtmogoopkjkdkgaaGreatVCp15
import Derived.Test.YtmogoopkjkdkgaaGreatVCp17
namespace Go.Proofs.YtmogoopkjkdkgaaGreat.Vw
open Go Go.RowKit Go.Proofs.YtmogoopkjkdkgaaGreat.Words Go.Proofs.YtmogoopkjkdkgaaGreat.Enc Go.Proofs.YtmogoopkjkdkgaaGreat.Q Go.Proofs.YtmogoopkjkdkgaaGreat.Evt Go.Proofs.YtmogoopkjkdkgaaGreat.Seg Go.Proofs.YtmogoopkjkdkgaaGreat.Ord Go.Proofs.YtmogoopkjkdkgaaGreat.Fol
set_option linter.unusedVariables false
set_option linter.unusedSimpArgs false

section
variable {B0 ob lb wn i m : Nat} {w0 W : World} {L : List HV} {T : List Nat} {R : List EvS}
theorem text_seesV {B : Nat} {e : EvS} (h : TextBox B W e) : SeesV W [] e.A (cs e.e.text) := by
  rcases h with ⟨h1, h2, h3, h4⟩ | ⟨tb, u, h1, h2, h3, h4, h5, h6⟩
  · rw [h4]; exact fun h => absurd rfl h
  · intro _
    refine ⟨tb, 0, h1, by simp, fun j v hv => ?_⟩
    rw [h4] at hv
    rw [Nat.zero_add, cell_of_row W tb j _ _ _ h5]
    match j, hv with
    | 0, hv => simpa [cs] using hv
theorem feeds_each (h : FeedsAt B0 ob lb wn w0 i m L T W) (hm : m ≤ 1000) (hw : wn ≤ 6) {r : EvS} (hr : r ∈ flat L) :
    Right r.e ∧ r.e.Fit ∧ r.e.key.size ≤ 64 ∧ r.n ≤ 1 ∧ Sees W r.A r.n r.e.text ∧ SeesV W [] r.A (cs r.e.text) := by
  obtain ⟨x, hx, hrx⟩ := List.mem_flatMap.1 hr
  obtain ⟨j, hj, rfl⟩ := List.getElem_of_mem hx
  have hjT : j < T.length := by rw [h.lenT, ← h.lenL]; exact hj
  have g1 := h.good j _ _ (List.getElem?_eq_getElem hj) (List.getElem?_eq_getElem hjT)
  have ht := h.time _ (List.getElem_mem hjT)
  obtain ⟨q1, q2, q3, q4, q5, q6, q7, q8, q9, q10, q11⟩ := g1.each r hrx
  have hjw : j < 6 := by have := h.lenL; omega
  have tx := h.text _ (List.getElem_mem hj) r hrx
  refine ⟨⟨by omega, by omega, by omega, by omega, by omega, by omega, q6, by omega, fun h => by omega, fun _ => by omega, fun _ => ?_⟩, ⟨by omega, by omega, by omega, by omega, by omega, q11, by omega, by omega⟩, by omega, ?_, (textLow_of tx).1, text_seesV tx⟩
  · rcases tx with ⟨_, _, _, h4⟩ | ⟨tb, u, _, _, _, h4, _⟩
    · rw [h4]; simp
    · rw [h4]; simp
  · rcases tx with ⟨h1, _⟩ | ⟨tb, u, _, h1, _⟩ <;> omega
/-- What stands behind the document's Whole of its Feeds. -/
structure Evs (w : World) (A : Option Addr) (R : List EvS) : Prop where
  sees : EvSees w A R
  text : ∀ r ∈ R, SeesV w [] r.A (cs r.e.text)
  right : ∀ r ∈ R, Right r.e
  rise : Rises R
  flows : ∀ n, Flows (Fol.newF n) (R.map EvS.e)
theorem Evs.below {w w' : World} {A : Option Addr} (h : Evs w A R) (hb : Below w.heap.size w w') : Evs w' A R :=
  ⟨h.sees.below hb, fun r hr => (h.text r hr).below hb, h.right, h.rise, h.flows⟩
theorem evs_of (h : FeedsAt B0 ob lb wn w0 i m L T W) (hm : m ≤ 1000) (hw : wn ≤ 6) {w5 : World} {base N c : Nat} {A : Option Addr} (hown : w5.ownsRow base 32 8 (.slice A N c) N (rowsL R)) (hp : R.Perm (flat L)) (hs : Rises R) (hb : Below W.heap.size W w5) :
    Evs w5 A R ∧ R.length = i := by
  have hE := fun (r : EvS) (hr : r ∈ R) => feeds_each h hm hw (hp.mem_iff.1 hr)
  refine ⟨⟨⟨RawEv.of_own hown, fun r hr => (hE r hr).2.2.2.2.1.below hb, fun r hr => ⟨(hE r hr).2.1, (hE r hr).2.2.1, by have := (hE r hr).2.2.2.1; omega⟩⟩, fun r hr => (hE r hr).2.2.2.2.2.below hb, fun r hr => (hE r hr).1, hs, fun n => feeds_flows h (fun r hr => (feeds_each h hm hw hr).1) hp hs n⟩, by rw [hp.length_eq, h.few]⟩
end
end Go.Proofs.YtmogoopkjkdkgaaGreat.Vw
namespace Go.Proofs.YtmogoopkjkdkgaaGreat.Vw
open Go Go.RowKit Go.Proofs.YtmogoopkjkdkgaaGreat.Words Go.Proofs.YtmogoopkjkdkgaaGreat.Enc Go.Proofs.YtmogoopkjkdkgaaGreat.Q Go.Proofs.YtmogoopkjkdkgaaGreat.Evt Go.Proofs.YtmogoopkjkdkgaaGreat.Seg Go.Proofs.YtmogoopkjkdkgaaGreat.Fol Go.Proofs.YtmogoopkjkdkgaaGreat.Ord
set_option linter.unusedVariables false
set_option linter.unusedSimpArgs false

/-- A view of these events behind a fold F0, which come to F. -/
def PView (F0 F : Fo) (E : List Ev) : Facts.Pred := ⟨fun v w => ∃ vb b0 st A c R, v = .pointer (some ⟨vb, 0, none⟩) ∧ ViewAt w vb b0 st F0 F A c R ∧ R.map EvS.e = E, fun v w w' ⟨vb, b0, st, A, c, R, h, hv, he⟩ hb => ⟨vb, b0, st, A, c, R, h, hv.below hb, he⟩⟩
def PViewT (F0 F : Fo) (E : List Ev) : Facts.Pred := ⟨fun v w => ∃ vb b0 st A c R, v = .tuple #[.pointer (some ⟨vb, 0, none⟩), .int .i64 0] ∧ ViewAt w vb b0 st F0 F A c R ∧ R.map EvS.e = E, fun v w w' ⟨vb, b0, st, A, c, R, h, hv, he⟩ hb => ⟨vb, b0, st, A, c, R, h, hv.below hb, he⟩⟩
/-- No two of the events stand at one place. -/
def Anti (R : List EvS) : Prop := ∀ a b, a ∈ R → b ∈ R → evLe a b → evLe b a → a = b
theorem by_lists {W : World} {AR : Option Addr} {R : List EvS} (E : Evs W AR R) (hR : R.length ≤ 60) (anti : Anti R) (k : Nat) (hk : k ≤ R.length) (S : List Nat) (d mb : Nat) (hS : ∀ x ∈ S, x < W.heap.size) (hf : FoldAt W S d mb (applyAll (newF 3) ((R.take k).map EvS.e))) (hl : (applyAll (newF 3) ((R.take k).map EvS.e)).L.length ≤ 1000)
    (Al : Option Addr) (cl : Nat) (L : List HV) (hg : GoodLists W.heap.size W Al L) (hp : (flat L).Perm (R.drop k)) :
    Calls Tryz.prog 8 #[.pointer (some ⟨d, 0, none⟩), .slice Al L.length cl] W fun e w' => (∃ vb b0 st A c R', e = .returned (.tuple #[.pointer (some ⟨vb, 0, none⟩), .int .i64 0]) ∧ ViewAt w' vb b0 st (applyAll (newF 3) ((R.take k).map EvS.e)) (applyAll (newF 3) (R.map EvS.e)) A c R' ∧ R'.map EvS.e = (R.drop k).map EvS.e) ∧ Below W.heap.size W w' := by
  have hsub : ∀ r ∈ flat L, r ∈ R := fun r hr => List.mem_of_mem_drop (hp.mem_iff.1 hr)
  have hlen : (flat L).length ≤ 60 := by rw [hp.length_eq, List.length_drop]; omega
  have hone : ∀ r0 : List EvS, r0.Perm (flat L) → Rises r0 → r0 = R.drop k := fun r0 h1 h2 => by
    have h3 := h1.trans hp
    refine List.Perm.eq_of_pairwise (le := evLe) (fun a b ha hb => anti a b (List.mem_of_mem_drop (h3.mem_iff.1 ha)) (List.mem_of_mem_drop hb)) h2 ?_ h3
    exact List.Pairwise.sublist (List.drop_sublist k R) E.rise
  have hsp : R.map EvS.e = (R.take k).map EvS.e ++ (R.drop k).map EvS.e := by rw [← List.map_append, List.take_append_drop]
  have hflow : Flows (applyAll (newF 3) ((R.take k).map EvS.e)) ((R.drop k).map EvS.e) := by
    have h1 := E.flows 3
    rw [hsp] at h1
    exact h1.append.2
  refine (by_any Al cl L S d mb _ W hf hg hS (by omega) (fun r hr => E.sees.fit r (hsub r hr)) (fun r0 h1 h2 => by rw [hone r0 h1 h2]; exact hflow) (by omega)).mono ?_
  rintro e w' ⟨vb, b0, st, g, R', r0, rfl, hv, hm, hp0, hr0, hb⟩
  rw [hone r0 hp0 hr0] at hv hm
  rw [← applyAll_append, ← hsp] at hv
  exact ⟨⟨vb, b0, st, _, _, R', rfl, hv, hm⟩, hb⟩
/-- One list: the others behind the first k. -/
theorem good_one {W : World} {AR : Option Addr} {R : List EvS} (E : Evs W AR R) (hR : R.length ≤ 60) (k gl : Nat) (A' : Option Addr) (c' m : Nat) (hm : m = (R.drop k).length) (T : TypeId) (hrow : W.heap[gl]? = some (.cells #[.slice A' m c'] T (0, 0))) (hraw : RawEv W A' (R.drop k)) (hc : m ≤ c' ∧ c' ≤ 9223372036854775807) :
    GoodLists W.heap.size W (some ⟨gl, 0, none⟩) [⟨A', c', R.drop k⟩] := by
  have hgl := (Array.getElem?_eq_some_iff.1 hrow).1
  refine ⟨⟨fun _ => ⟨gl, 0, hgl, rfl, fun j x hx => ?_⟩, fun x hx => ?_⟩, fun x hx => ?_, by simp, ?_, fun r hr => ?_⟩
  · match j, hx with
    | 0, hx =>
      simp at hx
      subst hx
      rw [cell_of_row W gl _ _ _ _ hrow]
      unfold HV.val
      rw [← hm]
      rfl
    | j + 1, hx => simp at hx
  · simp at hx
    subst hx
    refine ⟨by rw [← hm]; exact hc, fun h0 => ?_⟩
    obtain ⟨b, o, h1, h2⟩ := hraw h0
    refine ⟨b, o, ?_, h1, h2⟩
    have h3 : 0 < (rowsL (R.drop k)).length := by rw [rowsL_len]; exact Nat.mul_pos h0 (by omega)
    exact World.block_lt_of_cell? _ _ (h2 0 _ (List.getElem?_eq_getElem h3))
  · simp at hx
    subst hx
    exact List.Pairwise.sublist (List.drop_sublist k R) E.rise
  · simp [flat]; omega
  · have hr2 : r ∈ R := by simp [flat] at hr; exact List.mem_of_mem_drop hr
    have hs := E.sees.text r hr2
    refine ⟨hs, by have := (E.sees.fit r hr2).2.2; omega, fun h0 a ha => ?_⟩
    obtain ⟨b, o, h1, h2⟩ := hs.2 h0
    rw [h1] at ha
    cases ha
    have h3 : 0 < r.e.text.length := by rw [hs.1]; exact h0
    exact World.block_lt_of_cell? _ _ (h2 0 _ (List.getElem?_eq_getElem h3))
theorem by_drop {W : World} {AR : Option Addr} {R : List EvS} (E : Evs W AR R) (hR : R.length ≤ 60) (anti : Anti R) (k : Nat) (hk : k ≤ R.length) (S : List Nat) (d mb : Nat) (hS : ∀ x ∈ S, x < W.heap.size) (hf : FoldAt W S d mb (applyAll (newF 3) ((R.take k).map EvS.e))) (hl : (applyAll (newF 3) ((R.take k).map EvS.e)).L.length ≤ 1000)
    (gl : Nat) (A' : Option Addr) (c' m : Nat) (hm : m = (R.drop k).length) (T : TypeId) (hrow : W.heap[gl]? = some (.cells #[.slice A' m c'] T (0, 0))) (hraw : RawEv W A' (R.drop k)) (hc : m ≤ c' ∧ c' ≤ 9223372036854775807) :
    Calls Tryz.prog 8 #[.pointer (some ⟨d, 0, none⟩), .slice (some ⟨gl, 0, none⟩) 1 1] W fun e w' => (∃ vb b0 st A c R', e = .returned (.tuple #[.pointer (some ⟨vb, 0, none⟩), .int .i64 0]) ∧ ViewAt w' vb b0 st (applyAll (newF 3) ((R.take k).map EvS.e)) (applyAll (newF 3) (R.map EvS.e)) A c R' ∧ R'.map EvS.e = (R.drop k).map EvS.e) ∧ Below W.heap.size W w' :=
  by_lists E hR anti k hk S d mb hS hf hl (some ⟨gl, 0, none⟩) 1 [⟨A', c', R.drop k⟩] (good_one E hR k gl A' c' m hm T hrow hraw hc) (by simp [flat])
theorem feeds_antiR {B0 lb wn i m ob : Nat} {w0 W : World} {L : List HV} {T : List Nat} {R : List EvS} (h : FeedsAt B0 ob lb wn w0 i m L T W) (hp : R.Perm (flat L)) : Anti R := fun a b ha hb => feeds_anti h a b (hp.mem_iff.1 ha) (hp.mem_iff.1 hb)
theorem good_nil (w : World) : GoodLists w.heap.size w none [] := ⟨⟨fun h => by simp at h, fun x hx => by cases hx⟩, fun x hx => (by cases hx), by simp, by simp [flat], fun r hr => (by cases hr)⟩
theorem mem_one : (memL (applyAll (newF 1) (([] : List EvS).map EvS.e)) 64).length = 1 := by decide +kernel
set_option maxRecDepth 100000 in
set_option maxHeartbeats 2000000 in
theorem awakeV_yes (w : World) : Calls Tryz.prog 5 #[] w fun e w' => e = .returned (.bool true) ∧ Below w.heap.size w w' := by
  go_enter Tryz.func5, Tryz.ntmps5
  go_wp2_with fail
  refine (new_any 1 (by omega) w).mono ?_
  rintro e w1 ⟨rfl, hf1, hb1⟩
  have BY := by_any none 0 [] _ _ _ (newF 1) w1 hf1 (good_nil w1) (fun x hx => by have := hf1.lt; simp at hx; omega) (by simp [flat]) (fun r hr => by cases hr) (fun r0 h1 h2 => by
    have : r0 = [] := by simpa [flat] using h1.length_eq
    rw [this]
    trivial) (by simp [newF])
  have HBY := Lib.hid BY
  have HB1 := Lib.hid hb1
  clear BY hf1 hb1
  go_wp2_with fail
  refine HBY.out.mono ?_
  rintro e w2 ⟨vb, b0, st, g, R, r0, rfl, hv, hR, hp, hr, hb2⟩
  obtain rfl : r0 = [] := by simpa [flat] using hp.length_eq
  obtain rfl : R = [] := by simpa using hR
  have HLN := Lib.hid (vlen_any hv)
  have HME := Lib.hid (vmembers_any hv)
  have HB2 := Lib.hid (HB1.out.trans (hb2.mono HB1.out.size))
  clear hv hR hp hr hb2 HBY
  go_wp2_with fail
  refine HLN.out.mono ?_
  rintro e w3 ⟨rfl, rfl⟩
  go_wp2_with fail
  refine HME.out.mono ?_
  rintro e w4 ⟨A, c, rfl, hb4⟩
  have HB4 := Lib.hid (HB2.out.trans (hb4.mono HB2.out.size))
  have hm1 := mem_one
  rw [hm1]
  clear hb4
  go_wp2
  go_ret
  exact ⟨rfl, HB4.out⟩
end Go.Proofs.YtmogoopkjkdkgaaGreat.Vw
namespace Go.Proofs.YtmogoopkjkdkgaaGreat.Vw
open Go Go.RowKit Go.Proofs.YtmogoopkjkdkgaaGreat.Words Go.Proofs.YtmogoopkjkdkgaaGreat.Enc Go.Proofs.YtmogoopkjkdkgaaGreat.Q Go.Proofs.YtmogoopkjkdkgaaGreat.Evt Go.Proofs.YtmogoopkjkdkgaaGreat.Seg Go.Proofs.YtmogoopkjkdkgaaGreat.Fol
set_option linter.unusedVariables false
set_option linter.unusedSimpArgs false

theorem sum_fit (F : Fo) (k : Key) {x : Nat} (hx : x < 18446744073709551616) : sumOf F k x < 18446744073709551616 ∧ qb (sumOf F k x) = sumOf F k x := by
  unfold sumOf
  split
  · split
    · exact ⟨ob_lt _ _, qb_ob _⟩
    · exact ⟨qb_lt x hx, qb_qb x⟩
  · exact ⟨qb_lt x hx, qb_qb x⟩
theorem ok_apply {F : Fo} {e : Ev} (ok : Ok F) (hq : e.num < 18446744073709551616) : Ok (applyF F e) := by
  unfold applyF
  split
  · rename_i h
    have hr : rightE e = 0 := by
      unfold applyE at h
      by_cases h1 : rightE e = 0
      · exact h1
      · rw [if_pos h1] at h; exact absurd h h1
    have hR := (right_iff e).1 hr
    have hk : e.kind ≤ 4 → e.key.data.toList.length ≤ 64 := fun h4 => by have := (hR.key h4).2; rw [show e.key.data.toList.length = e.key.size by simp]; exact this
    have hc : Ok (change F e) := by
      unfold change
      split
      · rename_i h1; exact ok_ins ok (hk (by omega)) ⟨hR.text h1, by show (0 : Nat) < _; omega, .inl rfl, qb_zero⟩
      · split
        · rename_i h2; exact ok_ins ok (hk (by omega)) ⟨by simp, qb_lt _ hq, .inr rfl, qb_qb _⟩
        · split
          · rename_i h3; exact ok_ins ok (hk (by omega)) ⟨by simp, (sum_fit F _ hq).1, .inr rfl, (sum_fit F _ hq).2⟩
          · split
            · exact ok_del ok _
            · split
              · exact ok_J ok _
              · exact ok_R ok _
    have h1 := ok_H hc e.writer.toNat hR.s2
    have h2 := ok_time h1 hR.t2
    have h3 := ok_wr h2 (t := e.writer.toNat) (by have := hR.w2; omega)
    have h4 := ok_mark h3 (hashL_lt (evL e) ok.mark)
    have e1 : (change F e).H = F.H := by unfold change; split; rfl; split; rfl; split; rfl; split; rfl; split <;> rfl
    have h5 := h4.h
    have h6 := h4.hs
    simp only [e1] at h5 h6
    exact ⟨h4.rise, h4.j, h4.r, h5, h6, h4.time, h4.wr, h4.mark, h4.cel, h4.plain⟩
  · exact ok
theorem all_len {l : List Ev} (hq : ∀ e ∈ l, e.num < 18446744073709551616) {F : Fo} (ok : Ok F) : (applyAll F l).L.length ≤ F.L.length + l.length := by
  unfold applyAll
  induction l generalizing F with
  | nil => exact Nat.le_refl _
  | cons e r ih =>
    have h1 := ih (fun x hx => hq x (List.mem_cons_of_mem _ hx)) (ok_apply ok (hq e List.mem_cons_self))
    have h2 := apply_len (e := e) ok
    rw [List.foldl_cons, List.length_cons]
    omega
end Go.Proofs.YtmogoopkjkdkgaaGreat.Vw
namespace Go.Proofs.YtmogoopkjkdkgaaGreat.Fol
open Go Go.RowKit Go.Proofs.YtmogoopkjkdkgaaGreat.Words Go.Proofs.YtmogoopkjkdkgaaGreat.Enc Go.Proofs.YtmogoopkjkdkgaaGreat.Q Go.Proofs.YtmogoopkjkdkgaaGreat.Evt
set_option linter.unusedVariables false
set_option linter.unusedSimpArgs false

/-- What a key has in the document's list. -/
structure RC where
  kind : Nat
  A : Option Addr
  c : Nat
  text : List UInt8
  num : Nat
def RC.cel (m : RC) : Cel := ⟨m.kind, m.text, qb m.num⟩
def keyV (k : Key) : Value := .string ⟨k.toArray⟩
def rcCells (p : Key × RC) : List Value := [keyV p.1, .int .u8 (p.2.kind : Int), .slice p.2.A p.2.text.length p.2.c, .float .f64 p.2.num]
def rowsR (L : List (Key × RC)) : List Value := L.flatMap rcCells
theorem below_drewN {B : Nat} {a w : World} (h : Below B a w) (q : Nat) : Below B a (w.drewN q) := ⟨h.os, h.tape, h.output, h.size, h.block⟩
end Go.Proofs.YtmogoopkjkdkgaaGreat.Fol
namespace Go.Proofs.YtmogoopkjkdkgaaGreat.Fol
open Go Go.RowKit Go.Proofs.YtmogoopkjkdkgaaGreat.Words Go.Proofs.YtmogoopkjkdkgaaGreat.Enc Go.Proofs.YtmogoopkjkdkgaaGreat.Q Go.Proofs.YtmogoopkjkdkgaaGreat.Evt
set_option linter.unusedVariables false
set_option linter.unusedSimpArgs false

/-- What else the document's fold has: where its truths and numbers lie; the last one; the hash. -/
structure RH where
  Ja : Option Addr
  Jc : Nat
  Ra : Option Addr
  Rc : Nat
  Ha : Option Addr
  Hc : Nat
  T : Nat
  W : Nat
  M : Nat
def rv (La : Option Addr) (n lc : Nat) (h : RH) : Array Value := #[.slice La n lc, .slice h.Ja 64 h.Jc, .slice h.Ra 64 h.Rc, .slice h.Ha 64 h.Hc, .int .u64 (h.T : Int), .int .i64 (h.W : Int), .int .u64 (h.M : Int)]
section
variable {P : Program} {w : World} {ops : Array Oper} {rest : List Oper} {op : Oper} {a : Act} {Q : Exit → Act → World → Prop}
theorem wpList_sliceL (hgd : op.guard = none) (t : TypeId) (x lo : Operand) (ho : op.op = .slice t x (some lo) none none) (A : Option Addr) (n c J s : Nat) (hx : a.eval x = .slice A n c) (hlo : a.eval lo = .int .i64 (J : Int)) (hJ : J ≤ n)
    (ht : P.underlying t = some (.slice (P.elem t))) (hs : ∀ W, (sizeOf (P.elem t)).run P W = .ok s W)
    (h : ∀ A', (∀ b o, J < n → n ≤ c → A = some ⟨b, o, none⟩ → A' = some ⟨b, o + J * s, none⟩) → wpList P ops Q rest (a.put op.dst (.slice A' (n - J) (c - J))) w) : wpList P ops Q (op :: rest) a w := by
  refine wpList_plain hgd fun K hK => ?_
  have h1 : (Instr.slice t (.slice A n c) (some (.int .i64 (J : Int))) none none).run P w = .ok (sliced A J n c s) w := by
    rw [run_slice_l w t A n c ht .i64 (J : Int) (by omega) (by omega), hs]
    simp [Result.andThen]
  have h2 : (execOp a.eval op).run P w = .ok (.value (sliced A J n c s)) w := by
    unfold execOp
    simp only [ho, Option.map_some, Option.map_none, hx, hlo, Sem.run_bind, Sem.run_pure, run_sliceAt_slice w t _ _ _ _ ht, h1, Result.andThen_ok]
  unfold Oper.wp
  rw [h2]
  refine hK _ _ (h _ fun b o h3 h4 hA => ?_)
  rw [if_neg (by omega), hA]
  simp [add_plain]
end
end Go.Proofs.YtmogoopkjkdkgaaGreat.Fol
namespace Go.Proofs.YtmogoopkjkdkgaaGreat.Fol
open Go Go.RowKit Go.Proofs.YtmogoopkjkdkgaaGreat.Words Go.Proofs.YtmogoopkjkdkgaaGreat.Enc Go.Proofs.YtmogoopkjkdkgaaGreat.Q Go.Proofs.YtmogoopkjkdkgaaGreat.Evt
set_option linter.unusedVariables false
set_option linter.unusedSimpArgs false

/-- A cell's text in the document's list. -/
structure TextR (w : World) (S : List Nat) (m : RC) : Prop where
  sees : SeesV w S m.A (cs m.text)
  num : qb m.num < 18446744073709551616
/-- The document's fold in memory, outside S. -/
structure RefAt (w : World) (S : List Nat) (La : Option Addr) (lc : Nat) (L : List (Key × RC)) (h : RH) (F : Fo) : Prop where
  rows : SeesV w S La (rowsR L)
  cap : L.length ≤ lc
  cap2 : lc ≤ 9223372036854775807
  texts : ∀ p ∈ L, TextR w S p.2
  cells : mapV RC.cel L = F.L
  J : SeesV w S h.Ja (bs F.J)
  R : SeesV w S h.Ra (bs F.R)
  H : SeesV w S h.Ha (Vec.us F.H)
  jc : 64 ≤ h.Jc ∧ h.Jc ≤ 9223372036854775807
  rc : 64 ≤ h.Rc ∧ h.Rc ≤ 9223372036854775807
  hc : 64 ≤ h.Hc ∧ h.Hc ≤ 9223372036854775807
  T : h.T = F.time
  W : h.W = F.wr
  M : h.M = F.mark
section
variable {w w' : World} {S : List Nat} {La : Option Addr} {lc : Nat} {L : List (Key × RC)} {h : RH} {F : Fo}
theorem TextR.beside {m : RC} {S1 : List Nat} (t : TextR w S m) (hb : Beside S1 w w') (hS : ∀ x ∈ S1, x ∈ S ∨ w.heap.size ≤ x) : TextR w' S m := ⟨t.sees.beside hb hS, t.num⟩
theorem TextR.wider {m : RC} {S1 : List Nat} (t : TextR w S m) (hS : ∀ x ∈ S1, x ∈ S ∨ w.heap.size ≤ x) : TextR w S1 m := ⟨t.sees.wider hS, t.num⟩
theorem RefAt.beside {S1 : List Nat} (r : RefAt w S La lc L h F) (hb : Beside S1 w w') (hS : ∀ x ∈ S1, x ∈ S ∨ w.heap.size ≤ x) : RefAt w' S La lc L h F :=
  ⟨r.rows.beside hb hS, r.cap, r.cap2, fun p hp => (r.texts p hp).beside hb hS, r.cells, r.J.beside hb hS, r.R.beside hb hS, r.H.beside hb hS, r.jc, r.rc, r.hc, r.T, r.W, r.M⟩
theorem RefAt.below (r : RefAt w S La lc L h F) (hb : Below w.heap.size w w') : RefAt w' S La lc L h F := r.beside (S1 := []) (.of_below hb _) fun x hx => by cases hx
theorem RefAt.wider {S1 : List Nat} (r : RefAt w S La lc L h F) (hS : ∀ x ∈ S1, x ∈ S ∨ w.heap.size ≤ x) : RefAt w S1 La lc L h F :=
  ⟨r.rows.wider hS, r.cap, r.cap2, fun p hp => (r.texts p hp).wider hS, r.cells, r.J.wider hS, r.R.wider hS, r.H.wider hS, r.jc, r.rc, r.hc, r.T, r.W, r.M⟩
end

end Go.Proofs.YtmogoopkjkdkgaaGreat.Fol
namespace Go.Proofs.YtmogoopkjkdkgaaGreat.Fol
open Go Go.RowKit Go.Proofs.YtmogoopkjkdkgaaGreat.Words Go.Proofs.YtmogoopkjkdkgaaGreat.Enc Go.Proofs.YtmogoopkjkdkgaaGreat.Q Go.Proofs.YtmogoopkjkdkgaaGreat.Evt Go.Maps Go.Sort Go.Shelf
set_option linter.unusedVariables false
set_option linter.unusedSimpArgs false

def maskN (l : List Bool) : Nat → Nat
  | 0 => 0
  | j + 1 => maskN l j + if l.getD j false = true then 2 ^ j else 0
theorem maskN_lt (l : List Bool) (j : Nat) : maskN l j < 2 ^ j := by
  induction j with
  | zero => simp [maskN]
  | succ j ih =>
    unfold maskN
    rw [Nat.pow_succ]
    split <;> omega
theorem mask_step {l : List Bool} {j m : Nat} (hj : j < 64) (hm : m = maskN l j) : bits .or .u64 (m : Int) (IntKind.u64.wrap (2 ^ j)) = ((m + 2 ^ j : Nat) : Int) := by
  have h1 : m < 2 ^ j := by rw [hm]; exact maskN_lt l j
  have h2 : 2 ^ j ≤ 2 ^ 63 := Nat.pow_le_pow_right (by omega) (by omega)
  rw [show ((2 : Int) ^ j) = ((2 ^ j : Nat) : Int) by simp, wrap_in (2 ^ j) (by omega), u64_or_nat m (2 ^ j) (by omega) (by omega)]
  rw [Nat.or_comm]
  have h3 := Nat.two_pow_add_eq_or_of_lt h1 1
  rw [Nat.mul_one] at h3
  rw [← h3, Nat.add_comm]
theorem index_set {R : Array Value} {j : Nat} {b : Bool} (hj : j < 64) (hR : R[j]? = some (.bool b)) (w : World) :
    (Instr.index 80 (.agg R) (.int .i64 (j : Int))).run Tryz.prog w = .ok (.bool b) w := by
  have hn : 0 ≤ (j : Int) ∧ (j : Int) < ((64 : Nat) : Int) := by omega
  simp [Instr.index, run_underlying Tryz.underlying80, asIntOf, hn, hR, go_sem]
  intro h
  omega
set_option maxRecDepth 100000 in
set_option maxHeartbeats 1000000 in
theorem mask_any (l : List Bool) (w : World) (hl : l.length = 64) :
    Calls Tryz.prog 34 #[.agg (bs l).toArray] w fun e w' => e = .returned (.int .u64 (maskN l 64 : Int)) ∧ Below w.heap.size w w' := by
  obtain ⟨R, hR⟩ : ∃ R, R = (bs l).toArray := ⟨_, rfl⟩
  have hRs : R.size = 64 := by rw [hR]; simp [bs, hl]
  have hRg : ∀ j, j < 64 → R[j]? = some (.bool (l.getD j false)) := fun j hj => by rw [hR]; simp [bs, List.getD, hl, hj]
  rw [← hR]
  obtain ⟨M, hM⟩ : ∃ M, M = maskN l 64 := ⟨_, rfl⟩
  rw [← hM]
  have HM := Lib.hid hM
  have HG := Lib.hid hRg
  have hB := (Below.refl w.heap.size w).alloc (Nat.le_refl _) (.cells R 80)
  have hg := heap_alloc_new w (.cells R 80)
  clear hM hRg hR
  go_enter Tryz.func34, Tryz.ntmps34
  have hsi : (Tryz.prog.info? 80).map (·.size) = some R.size := by rw [hRs]; kernel_rfl
  obtain ⟨u, hu⟩ : ∃ u, u = w.alloc (.cells R 80) := ⟨_, rfl⟩
  rw [← hu] at hg hB
  have HU := Lib.hid hu
  clear hu
  go_wp2_with (first | (rw [← HU.out]; refine wpList_getRow rfl 80 (.tmp 1) rfl w.heap.size 80 R (0, 0) _ rfl hg Tryz.underlying80 rfl hsi ?_))
  clear hg hsi
  go_loopw [3, 7] (fun a3 a7 wr => ∃ (j m : Nat), a7 = .int .i64 (j : Int) ∧ a3 = .int .u64 (m : Int) ∧ j ≤ 64 ∧ Hid (m = maskN l j) ∧ wr = u) (fun a3 a7 _ => 64 - (intOf a7).toNat)
  case atStart => exact ⟨0, 0, rfl, rfl, by omega, Lib.hid rfl, rfl⟩
  case round =>
    obtain ⟨j, m, rfl, rfl, hj, HMJ, rfl⟩ := hrel
    by_cases h1 : j < 64
    · have hd : decide ((j : Int) < 64) = true := decide_eq_true (by omega)
      have hx := HG.out j h1
      obtain ⟨x, hxx⟩ : ∃ x, l.getD j false = x := ⟨_, rfl⟩
      rw [hxx] at hx
      have HX := Lib.hid hxx
      clear hxx
      have hix := index_set h1 hx
      cases x with
      | true =>
        have HN := Lib.hid (show m + 2 ^ j = maskN l (j + 1) by rw [maskN, if_pos HX.out, HMJ.out])
        have HO := Lib.hid (mask_step (l := l) h1 HMJ.out)
        go_wp2
        go_roundw
        case rel => exact ⟨j + 1, m + 2 ^ j, by simp, by rw [HO.out], by omega, HN, by trivial⟩
        case measure => simp [intOf]; omega
      | false =>
        have HN := Lib.hid (show m = maskN l (j + 1) by rw [HMJ.out, maskN, if_neg (by rw [HX.out]; simp)]; rfl)
        go_wp2
        go_roundw
        case rel => exact ⟨j + 1, m, by simp, rfl, by omega, HN, by trivial⟩
        case measure => simp [intOf]; omega
    · have hd : decide ((j : Int) < 64) = false := decide_eq_false (by omega)
      obtain rfl : j = 64 := by omega
      go_wp2
      go_ret
      have hm : m = M := HMJ.out.trans HM.out.symm
      subst hm
      exact ⟨rfl, hB⟩
end Go.Proofs.YtmogoopkjkdkgaaGreat.Fol
namespace Go.Proofs.YtmogoopkjkdkgaaGreat.Fol
open Go Go.RowKit Go.Proofs.YtmogoopkjkdkgaaGreat.Words Go.Proofs.YtmogoopkjkdkgaaGreat.Enc Go.Proofs.YtmogoopkjkdkgaaGreat.Q Go.Proofs.YtmogoopkjkdkgaaGreat.Evt Go.Maps Go.Sort Go.Shelf
set_option linter.unusedVariables false
set_option linter.unusedSimpArgs false

theorem below_bytes (w : World) (e : TypeId) (s : ByteArray) : Below w.heap.size w (Lib.bytesWorld w e s) :=
  ⟨rfl, rfl, rfl, by rw [Lib.bytesWorld_size]; omega, fun j hj => Lib.bytesWorld_at_old w e s j hj⟩
theorem sees_bytes (w : World) (e : TypeId) (s : ByteArray) : Sees (Lib.bytesWorld w e s) (some ⟨w.heap.size, 0, none⟩) s.size s.data.toList := by
  refine ⟨by simp, fun _ => ⟨_, _, rfl, fun j v hv => ?_⟩⟩
  have hj : j < s.size := by have := (List.getElem?_eq_some_iff.1 hv).1; simpa using this
  rw [Nat.zero_add, Lib.bytesWorld_cell w e s j hj]
  simp [List.getD, hv]
section
variable {w : World} {ops : Array Oper} {rest : List Oper} {op : Oper} {a : Act} {Q : Exit → Act → World → Prop}
end
end Go.Proofs.YtmogoopkjkdkgaaGreat.Fol
namespace Go.Proofs.YtmogoopkjkdkgaaGreat.Fol
open Go Go.RowKit Go.Proofs.YtmogoopkjkdkgaaGreat.Words Go.Proofs.YtmogoopkjkdkgaaGreat.Enc Go.Proofs.YtmogoopkjkdkgaaGreat.Q Go.Proofs.YtmogoopkjkdkgaaGreat.Evt Go.Proofs.YtmogoopkjkdkgaaGreat.Made
set_option linter.unusedVariables false
set_option linter.unusedSimpArgs false

/-- A key's bytes, and what it has. -/
def celL (p : Key × Cel) : List UInt8 := enc p.1.length ++ p.1 ++ [b8 p.2.kind] ++ (if p.2.kind = 1 then enc p.2.text.length ++ p.2.text else fix (qb p.2.num))
def celsL (L : List (Key × Cel)) : List UInt8 := L.flatMap celL
def headF (F : Fo) : List UInt8 := Vec.layL F.H ++ enc F.time ++ enc F.wr ++ fix (maskN F.J 64) ++ fix (maskN F.R 64) ++ fix F.mark ++ enc F.L.length
/-- A fold's bytes. -/
def foldL (F : Fo) : List UInt8 := headF F ++ celsL F.L
theorem celsL_take (L : List (Key × Cel)) (j : Nat) {p : Key × Cel} (h : L[j]? = some p) : celsL (L.take (j + 1)) = celsL (L.take j) ++ celL p := by
  rw [List.take_add_one, h]
  simp [celsL]
theorem celsL_le (L : List (Key × Cel)) (j : Nat) : (celsL (L.take j)).length ≤ (celsL L).length := by
  have h : celsL L = celsL (L.take j) ++ celsL (L.drop j) := by unfold celsL; rw [← List.flatMap_append, List.take_append_drop]
  rw [h, List.length_append]; omega
theorem ok_small {F : Fo} (h : Ok F) : Vec.Small F.H := ⟨by rw [h.h]; exact Nat.le_refl _, fun i => by
  unfold Vec.at_
  rw [List.getD_eq_getElem?_getD]
  cases hi : F.H[i]? with
  | none => exact Nat.zero_le _
  | some x => have := h.hs x (List.mem_of_getElem? hi); show x ≤ 9223372036854775807; omega⟩
/-- A row of bytes that the call owns. -/
def GivesR (w : World) (l : List UInt8) (e : Ending) (w' : World) : Prop := ∃ A c, e = .returned (.slice A l.length c) ∧ w'.ownsRow w.heap.size 5 1 (.slice A l.length c) l.length (cs l) ∧ Below w.heap.size w w'
theorem gives_of {n : Nat} {l : List UInt8} {w : World} {e : Ending} {w' : World} (h : New w.heap.size n l w e w') : GivesR w l e w' := by
  obtain ⟨A, c, rfl, ho, hb⟩ := h
  have hn : n = l.length := by have := ho.1; rw [cs_length, Nat.mul_one] at this; exact this.symm
  subst hn
  exact ⟨A, c, rfl, ho, hb⟩
def PRowE (l : List UInt8) : Facts.Pred := ⟨fun v w => ∃ A c, v = .slice A l.length c ∧ Sees w A l.length l, fun _ _ _ ⟨A, c, h, hs⟩ hb => ⟨A, c, h, hs.below hb⟩⟩
def POwnE (base : Nat) (l : List UInt8) : Facts.Pred := ⟨fun v w => ∃ A c, v = .slice A l.length c ∧ w.ownsRow base 5 1 (.slice A l.length c) l.length (cs l), fun _ _ _ ⟨A, c, h, ho⟩ hb => ⟨A, c, h, Own.below ho hb (Nat.le_refl _)⟩⟩
theorem b8_toNat {K : Nat} (h : K < 256) : ((b8 K).toNat : Int) = (K : Int) := by
  unfold b8
  rw [UInt8.toNat_ofNat_of_lt' (by exact h)]
theorem run_conv (key : ByteArray) (W : World) : (convert 9 29 (.string key)).run Tryz.prog W = .ok (.slice (some ⟨W.heap.size, 0, none⟩) key.size (grownCap W key.size 0 5)) (Lib.bytesWorld W 5 key) :=
  Lib.run_convert_string_bytes (P := Tryz.prog) W 9 29 5 key Tryz.underlying9 Tryz.underlying29 Tryz.underlying5
theorem sees_key {W : World} {key : ByteArray} {A : Option Addr} {ky : List UInt8} (hk : key.data.toList = ky) (h : Sees W A key.size key.data.toList) : Sees W A ky.length ky := by
  subst hk
  have e : key.size = key.data.toList.length := by simp
  rw [e] at h
  exact h

section
variable {La Ja Ra Ha : Option Addr} {lc Jc Rc Hc T W0 M : Nat} {L : List (Key × RC)} {F : Fo} {S : List Nat}
end
end Go.Proofs.YtmogoopkjkdkgaaGreat.Fol
namespace Go.Proofs.YtmogoopkjkdkgaaGreat.Vw
open Go Go.RowKit Go.Proofs.YtmogoopkjkdkgaaGreat.Words Go.Proofs.YtmogoopkjkdkgaaGreat.Enc Go.Proofs.YtmogoopkjkdkgaaGreat.Q Go.Proofs.YtmogoopkjkdkgaaGreat.Evt Go.Proofs.YtmogoopkjkdkgaaGreat.Fol
set_option linter.unusedVariables false
set_option linter.unusedSimpArgs false

theorem fix_lenW (n : Nat) : (fix n).length = 8 := by simp [fix]
theorem celL_ok {p : Key × Cel} (h1 : p.1.length ≤ 64) (h2 : p.2.text.length ≤ 1048576) : (celL p).length ≤ 1048700 := by
  unfold celL
  have a := enc_ten (n := p.1.length) (by omega)
  have b := enc_ten (n := p.2.text.length) (by omega)
  simp only [List.length_append, List.length_cons, List.length_nil]
  split
  · rw [List.length_append]; omega
  · rw [fix_lenW]; omega
theorem celsL_ok : ∀ (L : List (Key × Cel)), (∀ p ∈ L, p.1.length ≤ 64 ∧ p.2.text.length ≤ 1048576) → (celsL L).length ≤ 1048700 * L.length
  | [], _ => by simp [celsL]
  | p :: r, h1 => by
    have ih := celsL_ok r (fun q hq => h1 q (List.mem_cons_of_mem _ hq))
    have := celL_ok (h1 p List.mem_cons_self).1 (h1 p List.mem_cons_self).2
    unfold celsL at ih ⊢
    rw [List.flatMap_cons, List.length_append, List.length_cons]
    omega
theorem encs_leW : ∀ (v : List Nat), (∀ x ∈ v, x < 18446744073709551616) → (Vec.encs v).length ≤ 10 * v.length
  | [], _ => by simp [Vec.encs]
  | x :: r, h => by
    have ih := encs_leW r (fun y hy => h y (List.mem_cons_of_mem _ hy))
    have := enc_ten (n := x) (h x List.mem_cons_self)
    unfold Vec.encs at ih ⊢
    rw [List.flatMap_cons, List.length_append, List.length_cons]
    omega
theorem foldL_ok {F : Fo} (ok : Ok F) (hL : F.L.length ≤ 60) : (foldL F).length ≤ 100000000 := by
  have h1 := celsL_ok F.L (fun p hp => ⟨(ok.cel p hp).1, (ok.cel p hp).2.1⟩)
  have a := enc_ten (n := F.time) (by have := ok.time; omega)
  have b := enc_ten (n := F.wr) (by have := ok.wr; omega)
  have c := enc_ten (n := F.L.length) (by omega)
  have d : (Vec.layL F.H).length ≤ 650 := by
    unfold Vec.layL
    have e1 := enc_ten (n := Vec.trimN F.H F.H.length) (by have := Vec.trimN_le F.H F.H.length; rw [ok.h] at this ⊢; omega)
    have e2 := encs_leW (Vec.trimL F.H) (fun x hx => by
      have := ok.hs x (List.mem_of_mem_take hx)
      omega)
    have e3 : (Vec.trimL F.H).length ≤ 64 := by rw [Vec.trimL_len]; have := Vec.trimN_le F.H F.H.length; rw [ok.h] at this ⊢; exact this
    rw [List.length_append]
    omega
  unfold foldL headF
  simp only [List.length_append, fix_lenW]
  omega
end Go.Proofs.YtmogoopkjkdkgaaGreat.Vw
