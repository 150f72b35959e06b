/- Order: New. -/
import Derived.Test.YtlacihgoammjgaaOrdNw0
import Derived.Deep.MidRow
import Derived.Test.YtlacihgoammjgaaOrdFa
namespace Go.Proofs.Ytlacihgoammjgaa.Ord
open Go Go.RowKit Go.Proofs.Ytlacihgoammjgaa.Words Go.Proofs.Ytlacihgoammjgaa.Enc Go.Proofs.Ytlacihgoammjgaa.Evt Go.Proofs.Ytlacihgoammjgaa.Seg
set_option linter.unusedVariables false
set_option linter.unusedSimpArgs false

/-- What stands while the lists are copied. -/
structure NewAt (cb K : Nat) (w : World) (L L1 : List HV) (i : Nat) (W : World) : Prop where
  out : W.heap[cb]? = some (.cells (L1.map HV.val).toArray 26 (0, 0))
  len : L1.length = K
  evs : ∀ j, j < i → (HV.at_ L1 j).S.map EvS.e = (HV.at_ L j).S.map EvS.e
  rest : ∀ j, i ≤ j → (HV.at_ L1 j).S = []
  lie : ∀ x ∈ L1, Lies W.heap.size W x
  text : ∀ x ∈ L1, ∀ r ∈ x.S, TextLow W.heap.size W r
  below : Below cb w W
theorem NewAt.cells {cb K : Nat} {w : World} {L L1 : List HV} {i : Nat} {W : World} (h : NewAt cb K w L L1 i W) {o : Nat} {v : Value} (hc : W.cell? ⟨cb, o, none⟩ = some v) : ∃ x : HV, v = x.val := by
  rw [cell_of_row W cb _ _ _ _ h.out, List.getElem?_toArray, List.getElem?_map] at hc
  cases hx : L1[o]? with
  | none => rw [hx] at hc; cases hc
  | some x => rw [hx] at hc; injection hc with hc; exact ⟨x, hc.symm⟩
/-- No event's row and no text lies in the row of the copies. -/
theorem NewAt.off {cb K : Nat} {w : World} {L L1 : List HV} {i : Nat} {W : World} (h : NewAt cb K w L L1 i W) : (∀ x ∈ L1, 0 < x.S.length → ∀ a, x.A = some a → a.block ≠ cb) ∧ ∀ x ∈ L1, ∀ r ∈ x.S, 0 < r.n → ∀ a, r.A = some a → a.block ≠ cb := by
  refine ⟨fun x hx h0 a ha e => ?_, fun x hx r hr h0 a ha e => ?_⟩
  · obtain ⟨b, o, h1, h2, h3⟩ := (h.lie x hx).2 h0
    rw [ha] at h2
    cases h2
    obtain ⟨r, hr⟩ : ∃ r, x.S[0]? = some r := ⟨_, List.getElem?_eq_getElem h0⟩
    have h4 := rowsL_get x.S 0 0 r hr (by omega)
    have h5 := h3 0 _ (by rw [show (0 : Nat) = 8 * 0 + 0 by rfl, h4]; rfl)
    have e' : b = cb := e
    rw [e'] at h5
    obtain ⟨y, hy⟩ := h.cells h5
    cases hy
  · have hs := (h.text x hx r hr).sees
    obtain ⟨b, o, h1, h2⟩ := hs.2 h0
    rw [ha] at h1
    cases h1
    obtain ⟨u, hu⟩ : ∃ u, r.e.text[0]? = some u := ⟨_, List.getElem?_eq_getElem (by rw [hs.1]; exact h0)⟩
    have h5 := h2 0 u hu
    have e' : b = cb := e
    rw [e'] at h5
    obtain ⟨y, hy⟩ := h.cells h5
    cases hy
theorem lies_off {B : Nat} {w w' : World} {x : HV} {cb : Nat} (h : Lies B w x) (hb : Beside [cb] w w') (ho : 0 < x.S.length → ∀ a, x.A = some a → a.block ≠ cb) : Lies B w' x := ⟨h.1, fun h0 => by
  obtain ⟨b, o, h1, h2, h3⟩ := h.2 h0
  exact ⟨b, o, h1, h2, fun j v hv => hb.cell (h3 j v hv) (by simpa using ho h0 _ h2)⟩⟩
/-- A list is copied. -/
theorem NewAt.step {cb K : Nat} {w : World} {L L1 : List HV} {i : Nat} {W W1 W9 : World} (h : NewAt cb K w L L1 i W) (hi : i < K) (hb1 : Below W.heap.size W W1) (y : HV)
    (hb9 : Below W.heap.size (W1.setCell ⟨cb, i, none⟩ y.val) W9) (z : HV) (hz : z.val = y.val) (hze : z.S.map EvS.e = (HV.at_ L i).S.map EvS.e) (hl : Lies W9.heap.size W9 z) (ht : ∀ r ∈ z.S, TextLow W9.heap.size W9 r) (hcb : cb < W.heap.size) :
    NewAt cb K w L (L1.set i z) (i + 1) W9 := by
  have hbs : Beside [cb] W1 (W1.setCell ⟨cb, i, none⟩ y.val) := (Beside.refl _ W1).setCell (by simp) _
  have hsz : W.heap.size ≤ W9.heap.size := by have h1 := hb1.size; have h2 := hb9.size; have h3 := hbs.size; omega
  obtain ⟨o1, o2⟩ := h.off
  have hbe : Beside [cb] W W9 := ⟨hb9.os.trans (hbs.os.trans hb1.os), hb9.tape.trans (hbs.tape.trans hb1.tape), hb9.output.trans (hbs.output.trans hb1.output), hsz, fun k hk hm => (hb9.block k hk).trans ((hbs.block k (Nat.lt_of_lt_of_le hk hb1.size) hm).trans (hb1.block k hk))⟩
  have hat : ∀ j, HV.at_ (L1.set i z) j = if j = i then z else HV.at_ L1 j := fun j => by
    unfold HV.at_
    rw [List.getD_eq_getElem?_getD, List.getElem?_set]
    by_cases e : i = j
    · subst e; rw [if_pos rfl, if_pos (by rw [h.len]; exact hi), if_pos rfl]; rfl
    · rw [if_neg e, if_neg (fun x => e x.symm), List.getD_eq_getElem?_getD]
  refine ⟨?_, by rw [List.length_set, h.len], fun j hj => ?_, fun j hj => ?_, fun x hx => ?_, fun x hx r hr => ?_, Below.beside h.below hbe (by omega) (fun x hx => by rw [List.mem_singleton.1 hx]; exact Nat.le_refl _)⟩
  · refine (hb9.block cb hcb).trans ((heapSame ((hb1.block cb hcb).trans h.out)).trans ?_)
    congr 2
    apply Array.ext'
    simp [List.map_set, hz]
  · rw [hat]
    split
    · rename_i e; rw [e]; exact hze
    · exact h.evs j (by omega)
  · rw [hat, if_neg (by omega)]
    exact h.rest j (by omega)
  · rcases List.mem_or_eq_of_mem_set hx with h1 | rfl
    · exact (lies_off (h.lie x h1) hbe (o1 x h1)).wide hsz
    · exact hl
  · rcases List.mem_or_eq_of_mem_set hx with h1 | rfl
    · have h2 := h.text x h1 r hr
      exact ⟨sees_off h2.sees hbe (o2 x h1 r hr), h2.few, fun h0 a ha => by have := h2.low h0 a ha; omega⟩
    · exact ht r hr
theorem NewAt.start (w : World) (L : List HV) (K : Nat) : NewAt w.heap.size K w L (List.replicate K ⟨none, 0, []⟩) 0 (w.alloc (.cells ((List.replicate K (⟨none, 0, []⟩ : HV)).map HV.val).toArray 26)) := by
  have hall : ∀ x ∈ List.replicate K (⟨none, 0, []⟩ : HV), x = ⟨none, 0, []⟩ := fun x hx => (List.mem_replicate.1 hx).2
  refine ⟨heap_alloc_new w _, by simp, fun j hj => absurd hj (by omega), fun j _ => ?_, fun x hx => ?_, fun x hx r hr => ?_, (Below.refl _ _).alloc (Nat.le_refl _) _⟩
  · unfold HV.at_
    rw [List.getD_eq_getElem?_getD]
    cases hx : (List.replicate K (⟨none, 0, []⟩ : HV))[j]? with
    | none => rfl
    | some x => rw [hall x (List.mem_of_getElem? hx)]; rfl
  · rw [hall x hx]; exact ⟨⟨Nat.zero_le _, by show 0 ≤ _; omega⟩, fun h0 => absurd h0 (by simp)⟩
  · rw [hall x hx] at hr; cases hr
/-- What New gives: a heap of copies. -/
def NewGives (B : Nat) (L : List HV) (w : World) (e : Ending) (w' : World) : Prop :=
  ∃ p hs L1, e = .returned (.pointer (some ⟨p, 0, none⟩)) ∧ HeapAt p p 70 hs w' ∧ hs.Perm (L1.filter hasEv) ∧ (flat L1).map EvS.e = (flat L).map EvS.e ∧ L1.length = L.length ∧ (∀ j, j < L.length → (HV.at_ L1 j).S.map EvS.e = (HV.at_ L j).S.map EvS.e) ∧ (∀ r ∈ flat L1, TextLow p w' r) ∧ B ≤ p ∧ Below B w w'
theorem flat_maps : ∀ (L1 L : List HV), L1.length = L.length → (∀ j, j < L.length → (HV.at_ L1 j).S.map EvS.e = (HV.at_ L j).S.map EvS.e) → (flat L1).map EvS.e = (flat L).map EvS.e
  | [], [], _, _ => rfl
  | [], _ :: _, h, _ => by simp at h
  | _ :: _, [], h, _ => by simp at h
  | a :: s, b :: t, h, hj => by
    have ih := flat_maps s t (by simpa using h) (fun j h1 => by have := hj (j + 1) (by simp; omega); simpa [HV.at_] using this)
    have h0 := hj 0 (by simp)
    unfold flat at *
    rw [List.flatMap_cons, List.flatMap_cons, List.map_append, List.map_append, ih]
    congr 1

/-- An event of one's own. -/
def PEv (B : Nat) (r : EvS) : Facts.Pred := ⟨fun v w => ∃ r' : EvS, v = r'.e.val r'.A r'.n r'.c ∧ r'.e = r.e ∧ Sees w r'.A r'.n r.e.text ∧ r'.n ≤ r'.c ∧ r'.c ≤ 9223372036854775807 ∧ (0 < r'.n → ∀ a, r'.A = some a → B ≤ a.block), fun v w w' ⟨r', h1, h2, h3, h4⟩ hb => ⟨r', h1, h2, h3.below hb, h4⟩⟩
set_option maxRecDepth 100000 in
set_option maxHeartbeats 8000000 in
theorem onew_any (Al : Option Addr) (cl : Nat) (L : List HV) (w : World) (h : GoodLists w.heap.size w Al L) (hn : L.length ≤ 1000) (hf : (flat L).length ≤ 1000) :
    Calls Try.prog 10 #[.slice Al L.length cl] w (NewGives w.heap.size L w) := by
  obtain ⟨K, hK⟩ : ∃ K, K = L.length := ⟨_, rfl⟩
  have HH := Lib.hid (And.intro h (And.intro hK hf))
  rw [← hK] at hn ⊢
  have MK := make_ll w K (by omega)
  have N0 := NewAt.start w L K
  obtain ⟨u, hu⟩ : ∃ u, u = w.alloc (.cells ((List.replicate K (⟨none, 0, []⟩ : HV)).map HV.val).toArray 26) := ⟨_, rfl⟩
  rw [← hu] at N0 MK
  obtain ⟨cb, hcb⟩ : ∃ b, b = w.heap.size := ⟨_, rfl⟩
  rw [← hcb] at N0 MK
  have HN0 := Lib.hid N0
  have HCB := Lib.hid hcb
  have hsf := store_float Try.prog
  clear h hK hf N0 hu hcb
  go_enter Try.func10, Try.ntmps10
  go_wp2_with fail
  go_loopw [4, 5, 6, 7, 13, 14, 15, 16, 17, 18, 19, 20, 21, 22, 23, 24, 25, 26, 27, 28, 29, 30, 31, 32, 33, 34, 35, 36, 37, 38, 39] (fun a4 a5 a6 a7 a13 a14 a15 a16 a17 a18 a19 a20 a21 a22 a23 a24 a25 a26 a27 a28 a29 a30 a31 a32 a33 a34 a35 a36 a37 a38 a39 wr => ∃ i : Nat, a13 = .int .i64 (i : Int) ∧ i ≤ K ∧ Hid (∃ L1, NewAt cb K w L L1 i wr)) (fun a4 a5 a6 a7 a13 a14 a15 a16 a17 a18 a19 a20 a21 a22 a23 a24 a25 a26 a27 a28 a29 a30 a31 a32 a33 a34 a35 a36 a37 a38 a39 _ => K - (intOf a13).toNat)
  case atStart => exact ⟨0, rfl, Nat.zero_le _, Lib.hid ⟨_, HN0.out⟩⟩
  case round =>
    obtain ⟨i, rfl, hi, HR⟩ := hrel
    obtain ⟨wo, rfl⟩ : ∃ wo : World, wo = wr := ⟨_, rfl⟩
    by_cases hlt : i < K
    · obtain ⟨L1, hNA⟩ := HR.out
      have hiL : i < L.length := by rw [← HH.out.2.1]; exact hlt
      obtain ⟨lb, lo, hlb, rfl, hrow⟩ := HH.out.1.lists.row (by omega)
      have hxe : HV.at_ L i = L[i] := by simp [HV.at_, List.getD_eq_getElem?_getD, List.getElem?_eq_getElem hiL]
      have hcx := hrow i L[i] (List.getElem?_eq_getElem hiL)
      have hxm : L[i] ∈ L := List.getElem_mem hiL
      have hbw : Below w.heap.size w wo := hNA.below.mono (by rw [HCB.out]; exact Nat.le_refl _)
      have hcxr := (hbw.cell (p := ⟨lb, lo + i, none⟩) hlb).trans hcx
      have hlie := HH.out.1.lists.lie _ hxm
      have hxt : ∀ r ∈ L[i].S, TextLow w.heap.size w r := fun r hr => HH.out.1.text r (List.mem_flatMap.2 ⟨_, hxm, hr⟩)
      have hm1 : L[i].S.length ≤ 1000 := by
        have h2 := flat_upto L hiL
        have h3 := flat_take_le2 L (i + 1)
        rw [h2, hxe, List.length_append] at h3
        have := HH.out.2.2
        omega
      generalize L[i] = x at *
      obtain ⟨m, hm⟩ : ∃ m, x.S.length = m := ⟨_, rfl⟩
      unfold HV.val at hcxr
      rw [hm] at hcxr hm1
      have CL := cloneE_any x.A m x.c x.S wo ((hlie.below hbw).raw) hm (by omega)
      have HCL := Lib.hid CL
      have HXX := Lib.hid (And.intro hxe (And.intro hlie (And.intro hxt hm)))
      have HNA := Lib.hid hNA
      have hcbr : cb < wo.heap.size := (Array.getElem?_eq_some_iff.1 hNA.out).1
      have HBW := Lib.hid hbw
      have zi : (i : Int) < (K : Int) := by omega
      have zi0 : (0 : Int) ≤ (i : Int) := by omega
      clear CL hNA hxe hlie hxt hm hrow hcx hxm hbw hiL
      go_wp2_with fail
      refine HCL.out.mono ?_
      rintro e w1 ⟨A1, c1, rfl, hown, hb1⟩
      have hout1 := (hb1.block cb hcbr).trans HNA.out.out
      have hfz : w1.frozen? ⟨cb, i, none⟩ = false := frozen_row0 hout1
      obtain ⟨vo, hvo⟩ : ∃ vo, w1.cell? ⟨cb, i, none⟩ = some vo := by
        rw [cell_of_row w1 cb _ _ _ _ hout1, List.getElem?_toArray, List.getElem?_map, List.getElem?_eq_getElem (by rw [HNA.out.len]; exact hlt)]
        exact ⟨_, rfl⟩
      have hci : (w1.setCell ⟨cb, i, none⟩ (.slice A1 m c1)).cell? ⟨cb, i, none⟩ = some (.slice A1 m c1) := by
        rw [cell_of_row _ cb _ _ _ _ (heapSame hout1), Array.getElem?_setIfInBounds_self_of_lt (by
          have h5 := hvo
          rw [cell_of_row w1 cb _ _ _ _ hout1] at h5
          exact (Array.getElem?_eq_some_iff.1 h5).1)]
      have hbw2 : Below w.heap.size w (w1.setCell ⟨cb, i, none⟩ (.slice A1 m c1)) := (HBW.out.trans (hb1.mono HBW.out.size)).setCell (p := ⟨cb, i, none⟩) (by rw [HCB.out]; exact Nat.le_refl _) _
      have hcap1 := own_cap8 hown
      have hstart : (A1 = none ∧ m = 0 ∧ c1 = 0) ∨ ∃ g, A1 = some ⟨g, 0, none⟩ ∧ wo.heap.size ≤ g ∧ CopyAt cb g c1 x.S x.S (w1.setCell ⟨cb, i, none⟩ (.slice A1 m c1)) := by
        rcases hown.2 with ⟨hv, h0⟩ | ⟨g, cap, cur, hv, hg, hh, h1, h2, h3, h4⟩
        · injection hv with e1 e2 e3
          exact .inl ⟨e1, h0, e3⟩
        · injection hv with e1 e2 e3
          subst e3
          refine .inr ⟨g, e1, hg, ⟨cur, (heapOther (by omega)).trans hh, h3, fun k v hv => ?_⟩, rfl, by rw [HXX.out.2.2.2]; exact h1, rfl, fun r hr => ⟨((HXX.out.2.2.1 r hr).below hbw2).wide hbw2.size, fun h0 a ha => ?_⟩⟩
          · have hk : k < m * 8 := by have := (List.getElem?_eq_some_iff.1 hv).1; rw [rowsL_len, HXX.out.2.2.2] at this; exact this
            rw [← h4, List.getElem?_take, if_pos hk] at hv
            simpa using hv
          · have := (HXX.out.2.2.1 r hr).low h0 a ha
            have h6 := HBW.out.size
            omega
      have HST := Lib.hid hstart
      have HW2 := Lib.hid (And.intro hb1 (And.intro hbw2 hcap1))
      obtain ⟨w2, hw2⟩ : ∃ w2, w2 = w1.setCell ⟨cb, i, none⟩ (.slice A1 m c1) := ⟨_, rfl⟩
      clear hstart hbw2 hcap1 hb1 hown hout1
      go_upto_region 6 with fail
      rw [← hw2] at HST HW2 hci ⊢
      have HE2 := Lib.hid hw2
      have HSZ2 := Lib.hid (show wo.heap.size ≤ w2.heap.size by rw [hw2]; exact Nat.le_trans HW2.out.1.size ((Below.refl 0 w1).setCell (p := ⟨cb, i, none⟩) (Nat.zero_le _) _).size)
      clear hw2 hfz hvo
      go_wp2_with fail
      go_loopw [6, 7, 25, 26, 27, 28, 29, 30, 31, 32, 33, 34, 35, 36, 37, 38] (fun b6 b7 b25 b26 b27 b28 b29 b30 b31 b32 b33 b34 b35 b36 b37 b38 W => ∃ j : Nat, b25 = .int .i64 (j : Int) ∧ j ≤ m ∧ Hid (∃ Sj, ((A1 = none ∧ m = 0 ∧ c1 = 0 ∧ Sj = []) ∨ ∃ g, A1 = some ⟨g, 0, none⟩ ∧ wo.heap.size ≤ g ∧ CopyAt cb g c1 x.S Sj W) ∧ Below wo.heap.size w2 W)) (fun b6 b7 b25 b26 b27 b28 b29 b30 b31 b32 b33 b34 b35 b36 b37 b38 _ => m - (intOf b25).toNat)
      case atStart => exact ⟨0, rfl, Nat.zero_le _, Lib.hid ⟨x.S, by
        rcases HST.out with ⟨h1, h2, h3⟩ | h
        · exact .inl ⟨h1, h2, h3, List.eq_nil_of_length_eq_zero (by rw [HXX.out.2.2.2]; exact h2)⟩
        · exact .inr h, Below.refl _ _⟩⟩
      case round =>
        obtain ⟨j, rfl, hj, HJ⟩ := hrel
        by_cases hlj : j < m
        · obtain ⟨Sj, hco, hbj⟩ := HJ.out
          obtain ⟨g, rfl, hg, hCA⟩ : ∃ g, A1 = some ⟨g, 0, none⟩ ∧ wo.heap.size ≤ g ∧ CopyAt cb g c1 x.S Sj wr := by
            rcases hco with ⟨_, h0, _⟩ | h
            · omega
            · exact h
          have hjS : j < x.S.length := by rw [HXX.out.2.2.2]; exact hlj
          have hbjw : Below w.heap.size w wr := HW2.out.2.1.trans (hbj.mono HBW.out.size)
          obtain ⟨b1, o1, hb1w, hA, hcc⟩ := HXX.out.2.1.2 (by omega)
          have hcc2 : ∀ k v, (rowsL x.S)[k]? = some v → wr.cell? ⟨b1, o1 + k, none⟩ = some v := fun k v hv => by rw [hbjw.cell (p := ⟨b1, o1 + k, none⟩) hb1w]; exact hcc k v hv
          have hev := RawEv.cells_at (w := wr) hcc2 hjS
          have htl := HXX.out.2.2.1 _ (List.mem_of_getElem? (evAt_get hjS))
          have hcij := (hbj.cell (p := ⟨cb, i, none⟩) hcbr).trans hci
          have hcbj : cb < wr.heap.size := World.block_lt_of_cell? _ _ hcij
          obtain ⟨r, hr⟩ : ∃ r, r = evAt x.S j := ⟨_, rfl⟩
          rw [← hr] at hev htl
          obtain ⟨e0, e1, e2, e3, e4, e5, e6, e7⟩ := hev
          have OW := fun W (hW : Below w.heap.size w W) => own_any r W (htl.below hW).sees htl.few
          have HOW := Lib.hid OW
          have HCA := Lib.hid (And.intro hCA (And.intro hbj (And.intro hr hbjw)))
          have HG := Lib.hid hg
          have HTF := Lib.hid (show r.e.text.length ≤ 1000000000 by have h1 := htl.few; have h2 := htl.sees.1; omega)
          have zj : (j : Int) < (m : Int) := by omega
          have zj0 : (0 : Int) ≤ (j : Int) := by omega
          have G3 := Lib.hid (show (wr.alloc (.cells zeroE 34)).heap[wr.heap.size]? = some (.cells zeroE 34 (0, 0)) from heap_alloc_new wr _)
          clear hco hCA hbj hbjw hcc hcc2 htl OW hr hg hjS hb1w
          rw [hA]
          clear hA
          unfold zeroE at G3
          go_wp2_with (first
            | (refine wpList_putRow rfl 34 (.tmp 7) (.tmp 29) rfl wr.heap.size 34 zeroE (r.e.row r.A r.n r.c) rfl rfl ?g1 (by kernel_rfl) rfl (by simp [Ev.row, Value.oneCell']) ?_))
          case g1 => exact G3.out
          intro W3 hW3 hbe3
          have hb3 : Below wr.heap.size wr W3 := Below.beside ((Below.refl _ _).alloc (Nat.le_refl _) _) hbe3 (by simp) (by simp)
          obtain ⟨b7, hb7⟩ : ∃ b, b = wr.heap.size := ⟨_, rfl⟩
          rw [← hb7] at hW3 ⊢
          have HC := Lib.hid (fun W (hW : Below W3.drew.heap.size W3.drew W) => (by
            have h1 : Below W3.heap.size W3 W := ((Below.refl _ _).drew).trans hW
            have h2 : Below wr.heap.size wr W := hb3.trans (h1.mono hb3.size)
            have h3 := (h1.block b7 (Array.getElem?_eq_some_iff.1 hW3).1).trans hW3
            exact ⟨h2, (h2.cell (p := ⟨cb, i, none⟩) hcbj).trans hcij, box8 h3⟩ : Below wr.heap.size wr W ∧ W.cell? ⟨cb, i, none⟩ = some (.slice (some ⟨g, 0, none⟩) m c1) ∧ W.cell? ⟨b7, 0, none⟩ = some (.int .i64 r.e.writer) ∧ W.cell? ⟨b7, 1, none⟩ = some (.int .u64 (r.e.seq : Int)) ∧ W.cell? ⟨b7, 2, none⟩ = some (.int .u64 (r.e.time : Int)) ∧ W.cell? ⟨b7, 3, none⟩ = some (.int .u8 (r.e.kind : Int)) ∧ W.cell? ⟨b7, 4, none⟩ = some (.string r.e.key) ∧ W.cell? ⟨b7, 5, none⟩ = some (.slice r.A r.n r.c) ∧ W.cell? ⟨b7, 6, none⟩ = some (.float .f64 r.e.num) ∧ W.cell? ⟨b7, 7, none⟩ = some (.int .i64 r.e.node)))
          have HB3 := Lib.hid hb3
          have HB7 := Lib.hid hb7
          have HW3 := Lib.hid hW3
          have hnotdst : True := trivial
          clear hW3 hbe3 hb3 hb7 G3 e0 e1 e2 e3 e4 e5 e6 e7
          go_upto_region 9 with fail
          refine Facts.wp_region_tail 8 (n := 42) (by kernel_rfl) (by kernel_rfl) (by kernel_rfl) rfl [Facts.Pred.is (.slice (some ⟨cb, 0, none⟩) K K), Facts.Pred.is (.int .i64 (i : Int)), Facts.Pred.is (.pointer (some ⟨cb, i, none⟩)), Facts.Pred.is (.slice (some ⟨g, 0, none⟩) m c1), Facts.Pred.is (.int .i64 (j : Int)), Facts.Pred.is (.agg #[.int .i64 r.e.writer, .int .u64 (r.e.seq : Int), .int .u64 (r.e.time : Int), .int .u8 (r.e.kind : Int), .string r.e.key, .slice r.A r.n r.c, .float .f64 r.e.num, .int .i64 r.e.node]), PEv W3.heap.size r, Facts.Pred.is (.pointer (some ⟨g, j * 8, none⟩))] ?_ ?_
          · refine ⟨?_, ?_, ?_, ?_, ?_, ?_, ?_, ?_, trivial⟩
            · refine Facts.step_is (.slice (some ⟨cb, 0, none⟩) K K) fun a W hR hold hnew => ?_
              have f3 : a.tmps.getD 3 undef = Value.slice (some ⟨cb, 0, none⟩) K K := hold 3 (by kernel_rfl)
              refine ⟨Facts.wanted_free rfl, ?_, fun _ => rfl⟩
              simp [go_sem, Act.eval, f3]
            · refine Facts.step_is (.int .i64 (i : Int)) fun a W hR hold hnew => ?_
              have f4 : a.tmps.getD 4 undef = Value.int .i64 (i : Int) := hold 4 (by kernel_rfl)
              refine ⟨Facts.wanted_free rfl, ?_, fun _ => rfl⟩
              simp [go_sem, Act.eval, f4]
            · refine Facts.step_is (.pointer (some ⟨cb, i, none⟩)) fun a W hR hold hnew => ?_
              have f30 : a.tmps.getD 30 undef = Value.slice (some ⟨cb, 0, none⟩) K K := hnew 0 30 (by kernel_rfl)
              have f31 : a.tmps.getD 31 undef = Value.int .i64 (i : Int) := hnew 1 31 (by kernel_rfl)
              refine ⟨Facts.wanted_free rfl, ?_, fun _ => rfl⟩
              simp [go_sem, Act.eval, f30, f31, zi, zi0]
            · refine Facts.step_is (.slice (some ⟨g, 0, none⟩) m c1) fun a W hR hold hnew => ?_
              have f32 : a.tmps.getD 32 undef = Value.pointer (some ⟨cb, i, none⟩) := hnew 2 32 (by kernel_rfl)
              have q := (HC.out W hR).2.1
              refine ⟨Facts.wanted_free rfl, ?_, fun _ => rfl⟩
              simp [go_sem, Act.eval, f32, q]
            · refine Facts.step_is (.int .i64 (j : Int)) fun a W hR hold hnew => ?_
              have f6 : a.tmps.getD 6 undef = Value.int .i64 (j : Int) := hold 6 (by kernel_rfl)
              refine ⟨Facts.wanted_free rfl, ?_, fun _ => rfl⟩
              simp [go_sem, Act.eval, f6]
            · refine Facts.step_is (.agg #[.int .i64 r.e.writer, .int .u64 (r.e.seq : Int), .int .u64 (r.e.time : Int), .int .u8 (r.e.kind : Int), .string r.e.key, .slice r.A r.n r.c, .float .f64 r.e.num, .int .i64 r.e.node]) fun a W hR hold hnew => ?_
              have f7 : a.tmps.getD 7 undef = Value.pointer (some ⟨b7, 0, none⟩) := hold 7 (by kernel_rfl)
              obtain ⟨_, _, q0, q1, q2, q3, q4, q5, q6, q7⟩ := HC.out W hR
              refine ⟨Facts.wanted_free rfl, ?_, fun _ => rfl⟩
              simp [go_sem, Act.eval, f7, q0, q1, q2, q3, q4, q5, q6, q7]
            · refine Facts.step_call fun a W hR hold hnew => ?_
              have f35 : a.tmps.getD 35 undef = Value.agg #[.int .i64 r.e.writer, .int .u64 (r.e.seq : Int), .int .u64 (r.e.time : Int), .int .u8 (r.e.kind : Int), .string r.e.key, .slice r.A r.n r.c, .float .f64 r.e.num, .int .i64 r.e.node] := hnew 5 35 (by kernel_rfl)
              have hbW : Below w.heap.size w W := HCA.out.2.2.2.trans ((HC.out W hR).1.mono HCA.out.2.2.2.size)
              refine ⟨Facts.wanted_free rfl, 27, #[.agg #[.int .i64 r.e.writer, .int .u64 (r.e.seq : Int), .int .u64 (r.e.time : Int), .int .u8 (r.e.kind : Int), .string r.e.key, .slice r.A r.n r.c, .float .f64 r.e.num, .int .i64 r.e.node]], by simp [go_sem, Act.eval, f35], (HOW.out W hbW).mono ?_⟩
              rintro e w4 ⟨r', rfl, q1, q2, q3, q4, q5, q6⟩
              exact ⟨_, rfl, q6, r', rfl, q1, q2, q3, q4, fun h0 a ha => Nat.le_trans (by have := hR.size; exact this) (q5 h0 a ha)⟩
            · refine Facts.step_is (.pointer (some ⟨g, j * 8, none⟩)) fun a W hR hold hnew => ?_
              have f33 : a.tmps.getD 33 undef = Value.slice (some ⟨g, 0, none⟩) m c1 := hnew 3 33 (by kernel_rfl)
              have f34 : a.tmps.getD 34 undef = Value.int .i64 (j : Int) := hnew 4 34 (by kernel_rfl)
              refine ⟨Facts.wanted_free rfl, ?_, fun _ => rfl⟩
              simp [go_sem, Act.eval, f33, f34, zj, zj0]
          · intro a w9 hR' hsize hdef hnew hold
            have h36 : ∃ r' : EvS, a.tmps.getD 36 undef = r'.e.val r'.A r'.n r'.c ∧ r'.e = r.e ∧ Sees w9 r'.A r'.n r.e.text ∧ r'.n ≤ r'.c ∧ r'.c ≤ 9223372036854775807 ∧ (0 < r'.n → ∀ a, r'.A = some a → W3.heap.size ≤ a.block) := hnew 6 36 (by omega) (by kernel_rfl)
            have f37 : a.tmps.getD 37 undef = Value.pointer (some ⟨g, j * 8, none⟩) := hnew 7 37 (by omega) (by kernel_rfl)
            obtain ⟨r', f36, q1, q2, q3, q4, q5⟩ := h36
            obtain ⟨tm9, df⟩ := a
            have hfr := frame_region hsize (by rfl) (fun t ht => hold t fun k _ => ht k)
            clear hnew hold
            simp only [List.filterMap_cons, List.filterMap_nil] at hfr
            simp only [List.foldl_cons, List.foldl_nil, List.setIfInBounds_toArray, List.set_cons_succ, List.set_cons_zero] at hfr
            simp only [] at f36 f37 hdef
            rw [f36, f37] at hfr
            clear f36 f37 hsize
            generalize tm9.getD 30 undef = y30 at hfr
            generalize tm9.getD 31 undef = y31 at hfr
            generalize tm9.getD 32 undef = y32 at hfr
            generalize tm9.getD 33 undef = y33 at hfr
            generalize tm9.getD 34 undef = y34 at hfr
            generalize tm9.getD 35 undef = y35 at hfr
            subst hfr
            subst hdef
            simp only [List.drop_succ_cons, List.drop_zero]
            have hb9 := (HC.out w9 hR').1
            have CA9 := HCA.out.1.below hb9
            have hjS : j < x.S.length := by rw [HXX.out.2.2.2]; exact hlj
            have hgw : g < wr.heap.size := by obtain ⟨cur, h1, _⟩ := HCA.out.1.row; exact (Array.getElem?_eq_some_iff.1 h1).1
            have hwl : wr.heap.size ≤ W3.heap.size := HB3.out.size
            have hlow : TextLow w9.heap.size w9 r' ∧ (0 < r'.n → ∀ a, r'.A = some a → a.block ≠ g) := by
              refine ⟨⟨by rw [q1]; exact q2, by have := q2.1; have := HTF.out; omega, fun h0 a ha => ?_⟩, fun h0 a ha => by have := q5 h0 a ha; omega⟩
              obtain ⟨b, o, h1, h2⟩ := q2.2 h0
              rw [ha] at h1
              cases h1
              obtain ⟨v, hv⟩ : ∃ v, r.e.text[0]? = some v := ⟨_, List.getElem?_eq_getElem (by rw [q2.1]; exact h0)⟩
              exact World.block_lt_of_cell? _ _ (h2 0 v hv)
            have hth := CA9.there hjS
            have hput := CA9.put hjS r' hlow (q1.trans (congrArg EvS.e HCA.out.2.2.1))
            have hbs := setCells_beside g r'.cells (j * 8) w9
            have hbn : Below wo.heap.size w2 (w9.setCells g (j * 8) r'.cells) := Below.beside (HCA.out.2.1.trans (hb9.mono (by have := HCA.out.2.1.size; have := HW2.out.1.size; have := HSZ2.out; omega))) hbs (by have := hb9.size; have := HG.out; omega) (fun y hy => by rw [List.mem_singleton.1 hy]; exact HG.out)
            have HTH := Lib.hid hth
            have HNX := Lib.hid (show ∃ Sj, ((some (⟨g, 0, none⟩ : Addr) = none ∧ m = 0 ∧ c1 = 0 ∧ Sj = []) ∨ ∃ g', some (⟨g, 0, none⟩ : Addr) = some ⟨g', 0, none⟩ ∧ wo.heap.size ≤ g' ∧ CopyAt cb g' c1 x.S Sj (w9.setCells g (j * 8) r'.cells)) ∧ Below wo.heap.size w2 (w9.setCells g (j * 8) r'.cells) from ⟨_, .inr ⟨g, rfl, HG.out, hput⟩, hbn⟩)
            clear hth hput hbs hbn hlow CA9 hb9 q1 q2 q3 q4 q5 hR' HC HCA HOW
            go_wp2_with (first | (refine wpList_store_mid rfl 34 (.tmp 37) (.tmp 36) rfl g (j * 8) (r'.e.row r'.A r'.n r'.c) ?hx ?hy ?ht ?hi ?h1 ?h))
            case hx => rfl
            case hy => rfl
            case ht => exact HTH.out
            case hi => kernel_rfl
            case h1 => simp [Ev.row, Value.oneCell']
            exact ⟨⟨j + 1, by simp, by omega, HNX⟩, by simp [intOf]; omega⟩
        · obtain rfl : j = m := by omega
          obtain ⟨Sj, hco, hbj⟩ := HJ.out
          have hSl : Sj.length = j := by
            rcases hco with ⟨_, h0, _, h1⟩ | ⟨g, _, _, hCA⟩
            · rw [h1, h0]; rfl
            · rw [hCA.len, HXX.out.2.2.2]
          have hval : HV.val ⟨A1, c1, Sj⟩ = .slice A1 j c1 := by unfold HV.val; rw [hSl]
          have hSe : Sj.map EvS.e = (HV.at_ L i).S.map EvS.e := by
            rw [HXX.out.1]
            rcases hco with ⟨_, h0, _, h1⟩ | ⟨g, _, _, hCA⟩
            · rw [h1, List.eq_nil_of_length_eq_zero (show x.S.length = 0 by rw [HXX.out.2.2.2]; exact h0)]
            · exact hCA.evs
          have hli : Lies wr.heap.size wr ⟨A1, c1, Sj⟩ := by
            rcases hco with ⟨_, h0, h00, h1⟩ | ⟨g, h1, _, hCA⟩
            · subst h1
              exact ⟨⟨Nat.zero_le _, HW2.out.2.2.2⟩, fun h => absurd h (by simp)⟩
            · rw [h1]; exact hCA.lies HW2.out.2.2.2
          have hte : ∀ r ∈ Sj, TextLow wr.heap.size wr r := by
            rcases hco with ⟨_, h0, h00, h1⟩ | ⟨g, h1, _, hCA⟩
            · rw [h1]; intro r hr; cases hr
            · exact fun r hr => (hCA.text r hr).1
          have hNX := HNA.out.step hlt HW2.out.1 ⟨A1, c1, Sj⟩ (by rw [hval, ← HE2.out]; exact hbj) ⟨A1, c1, Sj⟩ rfl hSe hli hte hcbr
          have HNX := Lib.hid (show ∃ L1, NewAt cb K w L L1 (i + 1) wr from ⟨_, hNX⟩)
          clear hco hbj hSl hval hSe hli hte hNX HJ HST
          go_wp2
          go_roundw
          case rel => exact ⟨i + 1, by simp, by omega, HNX⟩
          case measure => simp [intOf]; omega
    · obtain rfl : i = K := by omega
      obtain ⟨L1, hNA⟩ := HR.out
      have hLl : L1.length = L.length := by rw [hNA.len, HH.out.2.1]
      have hls : Lists wo.heap.size wo (some ⟨cb, 0, none⟩) L1 := ⟨fun h0 => ⟨cb, 0, (Array.getElem?_eq_some_iff.1 hNA.out).1, rfl, fun k x hx => by
        rw [Nat.zero_add, cell_of_row wo cb _ _ _ _ hNA.out, List.getElem?_toArray, List.getElem?_map, hx]; rfl⟩, hNA.lie⟩
      have OV := over_any (some ⟨cb, 0, none⟩) i L1 wo hls (by rw [hNA.len]; omega)
      rw [hNA.len] at OV
      have hev : ∀ j, j < L.length → (HV.at_ L1 j).S.map EvS.e = (HV.at_ L j).S.map EvS.e := fun j hj => hNA.evs j (by rw [HH.out.2.1]; exact hj)
      have FIN : Hid (∀ hs W, HeapAt wo.heap.size wo.heap.size 70 hs W → hs.Perm (L1.filter hasEv) → Below wo.heap.size wo W → NewGives w.heap.size L w (.returned (.pointer (some ⟨wo.heap.size, 0, none⟩))) W) := Lib.hid fun hs W h1 h2 h3 =>
        ⟨wo.heap.size, hs, L1, rfl, h1, h2, flat_maps L1 L hLl hev, hLl, hev, fun r hr => by
          obtain ⟨x, hx, hrx⟩ := List.mem_flatMap.1 hr
          exact (hNA.text x hx r hrx).below h3, (by have := hNA.below.size; omega), (hNA.below.mono (by rw [HCB.out]; exact Nat.le_refl _)).trans (h3.mono (by have := hNA.below.size; omega))⟩
      have HOV := Lib.hid OV
      obtain ⟨p, hp⟩ : ∃ p, p = wo.heap.size := ⟨_, rfl⟩
      rw [← hp] at HOV FIN
      clear hNA hls OV hev hLl HR hp
      go_wp2_with fail
      refine HOV.out.mono ?_
      rintro e w5 ⟨hs, rfl, h1, h2, h3⟩
      have HF := Lib.hid (FIN.out hs w5 h1 h2 h3)
      clear h1 h2 h3 HOV FIN
      go_wp2
      go_ret
      exact HF.out
end Go.Proofs.Ytlacihgoammjgaa.Ord
