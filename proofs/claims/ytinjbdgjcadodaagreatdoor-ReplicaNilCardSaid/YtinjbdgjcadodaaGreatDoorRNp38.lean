/- Texts of the law ReplicaNil, put together. -/
import Derived.Test.YtinjbdgjcadodaaGreatDoorRNp37
set_option linter.unusedVariables false
set_option linter.unusedSimpArgs false
set_option maxRecDepth 100000
namespace Go.Proofs.YtinjbdgjcadodaaGreatDoor.Ord
open Go Go.RowKit Words Enc Evt Seg
theorem HeadsAt.beside {B p : Nat} {T : TypeId} {A : Option Addr} {c : Nat} {hs : List HV} {w w' : World} (h : HeadsAt B p T A c hs w) {L : List Nat} (hb : Beside L w w') (hp : p ∉ L) (hA : ∀ a, A = some a → a.block ∉ L) (hB : Below B w w') : HeadsAt B p T A c hs w' := by
 refine ⟨(hb.block p (Array.getElem?_eq_some_iff.1 h.box).1 hp).trans h.box, ⟨h.own.1, ?_⟩, h.apart, h.low, fun x hx => (h.lie x hx).below hB⟩
 rcases h.own.2 with hn | ⟨g, cap, cur, hv, hg, hh, r⟩
 ·exact .inl hn
 ·have : A = some ⟨g, 0, none⟩ := by injection hv
  exact .inr ⟨g, cap, cur, hv, hg, (hb.block g (Array.getElem?_eq_some_iff.1 hh).1 (hA _ this)).trans hh, r⟩
theorem Heap.len_le {hs : List HV} (h : ∀ x ∈ hs, x.S ≠ []) : hs.length ≤ (flat hs).length := by
 induction hs with
 | nil => simp
 | cons a t ih =>
   have h1 := ih fun x hx => h x (List.mem_cons_of_mem _ hx)
   have h2 := List.length_pos_iff.2 (h a List.mem_cons_self)
   unfold flat at *
   rw [List.flatMap_cons, List.length_append, List.length_cons]
   omega
theorem HeadsAt.row_lt {B p : Nat} {T : TypeId} {A : Option Addr} {c : Nat} {hs : List HV} {w : World} (h : HeadsAt B p T A c hs w) : ∀ x ∈ mine p A, x < w.heap.size := by
 intro x hx
 rcases List.mem_cons.1 hx with rfl | hx
 ·exact (Array.getElem?_eq_some_iff.1 h.box).1
 ·cases A with
  | none => simp at hx
  | some a =>
    simp at hx
    subst hx
    rcases h.own.2 with ⟨hv, _⟩ | ⟨g, cap, cur, hv, hg, hh, r⟩
    ·cases hv
    ·injection hv with e1
     injection e1 with e1
     rw [e1]
     exact (Array.getElem?_eq_some_iff.1 hh).1
structure Takes (B p g m : Nat) (T : TypeId) (A : Option Addr) (c : Nat) (hs : List HV) (w0 : World) (i : Nat) (W : World) : Prop where
 ex : ∃ rs hs' S, Taken hs rs hs' ∧ rs.length = i ∧ S.map EvS.e = rs.map EvS.e ∧ HeadsAt B p T A c hs' W ∧ RowAt g m S W
 below : Below B w0 W
 beside : Beside (mine p A) w0 W
set_option maxHeartbeats 4000000 in
theorem ctake_any {B p : Nat} {T : TypeId} {A : Option Addr} {c : Nat} {hs : List HV} {w : World} (h : HeadsAt B p T A c hs w) (hH : Heap hs) (hr : ∀ x ∈ hs, Rises x.S) (hf : (flat hs).length ≤ 1000000000) (ht : ∀ r ∈ flat hs, TextLow B w r)
  (most : Int) (hm0 : -9223372036854775808 ≤ most) (hm1 : most ≤ 9223372036854775807) (m : Nat) (hm : (m : Int) = max 0 (min most ((flat hs).length : Int))) :
  Calls Tryz.prog 163 #[.pointer (some ⟨p, 0, none⟩), .int .i64 most] w fun e w' => ∃ g, e = .returned (.slice (some ⟨g, 0, none⟩) m m) ∧ w.heap.size ≤ g ∧ Takes B p g m T A c hs w m w' := by
 have hsf := store_float Tryz.prog
 have hlen := Heap.len_le hH.ne
 have LEFT := cleft_any h (by omega) (by omega)
 have hmf : m ≤ (flat hs).length := by omega
 have MK := make_ev w m (by omega)
 have B1 : Below w.heap.size w (w.alloc (.cells (madeCells zeroE (m * 8)) 38)) := (Below.refl _ _).alloc (Nat.le_refl _) _
 have hps := (Array.getElem?_eq_some_iff.1 h.box).1
 have hBs : B ≤ w.heap.size := by have := h.low; omega
 have T0 : Takes B p w.heap.size m T A c hs w 0 (w.alloc (.cells (madeCells zeroE (m * 8)) 38)) :=
  ⟨⟨[], hs, [], Taken.nil hH hr, rfl, rfl, h.below B1, RowAt.made w m⟩, B1.mono hBs, Beside.of_below B1 _⟩
 obtain ⟨u, hu⟩ : ∃ u, u = w.alloc (.cells (madeCells zeroE (m * 8)) 38) := ⟨_, rfl⟩
 rw [← hu] at T0 MK
 have HMINE := h.row_lt
 have hlowA : ∀ x ∈ mine p A, B ≤ x := mine_low h.low (fun a ha => by
  rcases h.own.2 with ⟨hv, _⟩ | ⟨g, cap, cur, hv, hg, hh, r⟩
  ·rw [ha] at hv; cases hv
  ·rw [ha] at hv; injection hv with e1; injection e1 with e1; rw [e1]; exact hg)
 -- a step
 have NX : ∀ i W, i < m → Takes B p w.heap.size m T A c hs w i W → ∃ r : EvS, Calls Tryz.prog 225 #[.pointer (some ⟨p, 0, none⟩)] W fun e w' => e = .returned (.tuple #[r.e.val r.A r.n r.c, .bool true]) ∧
   Hid (∀ W3, Beside [w'.heap.size] (w'.alloc (.cells zeroE 38)) W3 → Calls Tryz.prog 226 #[r.e.val r.A r.n r.c] W3 fun e w4 => ∃ r' : EvS, e = .returned (r'.e.val r'.A r'.n r'.c) ∧ w4.there w.heap.size (i * 8) 8 ∧ Hid (Takes B p w.heap.size m T A c hs w (i + 1) (w4.setCells w.heap.size (i * 8) r'.cells))) := fun i W hi hT => by
  obtain ⟨⟨rs, hs1, S, ht1, hl1, he1, ha1, hr1⟩, hb1, hs1'⟩ := hT
  have hfl : (flat hs1).length = (flat hs).length - i := by
   have := ht1.perm.length_eq
   rw [List.length_append, hl1] at this
   omega
  have hn1 : 0 < hs1.length := by
   rcases Nat.eq_zero_or_pos hs1.length with h0 | h0
   ·have e0 : (flat hs1).length = 0 := by rw [List.eq_nil_of_length_eq_zero h0]; rfl
    omega
   ·exact h0
  have hle1 := Heap.len_le ht1.heap.ne
  refine ⟨(HV.at_ hs1 0).one, (next_any ha1 ht1.heap hn1 (by omega)).mono ?_⟩
  rintro e w1 ⟨rfl, ⟨hs2, ha2, hst⟩, hb2, hbs2⟩
  refine ⟨rfl, Lib.hid fun W3 hW3 => ?_⟩
  have hmem : (HV.at_ hs1 0).one ∈ flat hs1 := List.mem_flatMap.2 ⟨_, at_mem hn1, one_mem (ht1.heap.ne _ (at_mem hn1))⟩
  have htl := ht _ (ht1.perm.mem_iff.1 (List.mem_append.2 (.inr hmem)))
  have hBW1 : B ≤ w1.heap.size := by have := ha2.low; have := (Array.getElem?_eq_some_iff.1 ha2.box).1; omega
  have hgW : w.heap.size < W.heap.size := by
   obtain ⟨⟨cur, q, _⟩, _⟩ := hr1
   exact (Array.getElem?_eq_some_iff.1 q).1
  have hWW1 : W.heap.size ≤ w1.heap.size := hbs2.size
  have hb3 : Below w1.heap.size w1 W3 := Below.beside ((Below.refl _ _).alloc (Nat.le_refl _) _) hW3 (by simp) (by simp)
  have hbB : Below B w W3 := (hb1.trans hb2).trans (hb3.mono hBW1)
  refine (own_any (HV.at_ hs1 0).one W3 (htl.below hbB).sees htl.few).mono ?_
  rintro e w4 ⟨r', rfl, hre, hs4, hc4, hc5, hnew, hb4⟩
  have hb14 : Below w1.heap.size w1 w4 := hb3.trans (hb4.mono hb3.size)
  have hbs4 : Beside (mine p A) W w4 := hbs2.trans (Beside.of_below hb14 []) (fun x hx => by cases hx)
  have hr4 := hr1.beside hbs4 (fun x hx => HMINE x hx)
  have hSl : S.length = i := by rw [← hl1, ← List.length_map (f := EvS.e), he1, List.length_map]
  have hth := hr4.there (by rw [hSl]; exact hi)
  rw [hSl] at hth
  have hput := hr4.put (by rw [hSl]; exact hi) r' ⟨by rw [hre]; exact hs4, ⟨hc4, hc5⟩, fun h0 a ha => by have := hnew h0 a ha; have := hb3.size; omega⟩
  rw [hSl] at hput
  have hsc := setCells_beside w.heap.size r'.cells (i * 8) w4
  have hbsc : Below B w4 (w4.setCells w.heap.size (i * 8) r'.cells) := Below.beside (Below.refl B w4) hsc (by have := hb14.size; omega) (fun x hx => by simp at hx; subst hx; exact hBs)
  have hpg : ∀ x ∈ mine p A, x ≠ w.heap.size := fun x hx e => by have := HMINE x hx; omega
  refine ⟨r', rfl, hth, Lib.hid ⟨⟨rs ++ [(HV.at_ hs1 0).one], hs2, S ++ [r'], ht1.next hst hn1, by simp [hl1], by simp [he1, hre], ?_, hput⟩, ?_, ?_⟩⟩
  ·refine (ha2.below hb14).beside hsc (fun hm => hpg p (by simp [mine]) (by simpa using hm)) (fun a ha hm => hpg a.block (by simp [mine, ha]) (by simpa using hm)) hbsc
  ·exact (hb1.trans hb2).trans ((hb14.mono hBW1).trans hbsc)
  ·exact (hs1'.trans hbs4 fun x hx => .inl hx).trans hsc fun x hx => .inr (by simp at hx; omega)
 obtain ⟨nf, hnf⟩ : ∃ nf, (flat hs).length = nf := ⟨_, rfl⟩
 rw [hnf] at hm LEFT hmf hf
 have hmm : max (0 : Int) (min most (nf : Int)) = (m : Int) := hm.symm
 have HU := Lib.hid hu
 have HT0 := Lib.hid T0
 have HNX := Lib.hid NX
 have HM := Lib.hid hm
 clear T0 NX h hH hr ht hm hu HMINE hlowA B1 hlen
 go_enter Tryz.func163, Tryz.ntmps163
 go_wp2_with fail
 refine LEFT.mono ?_
 rintro e w' ⟨rfl, rfl⟩
 go_wp2_with fail
 have hmz : m ≤ 1000000000 := by omega
 clear hmm hm0 hm1 hf hmf hps hBs MK
 go_loopw [17] (fun iv W => ∃ i : Nat, iv = .int .i64 (i : Int) ∧ i ≤ m ∧ Hid (Takes B p w'.heap.size m T A c hs w' i W)) (fun iv _ => m - (intOf iv).toNat)
 case atStart => exact ⟨0, rfl, Nat.zero_le _, HT0⟩
 case round =>
  obtain ⟨i, rfl, hi, HR⟩ := hrel
  by_cases hlt : i < m
  ·obtain ⟨r, hnx⟩ := HNX.out i wr hlt HR.out
   have HN1 := Lib.hid hnx
   have zi : (i : Int) < (m : Int) := by omega
   have zi0 : (0 : Int) ≤ (i : Int) := by omega
   clear hnx HNX LEFT
   go_wp2_with fail
   refine HN1.out.mono ?_
   rintro e w1 ⟨rfl, HO⟩
   have g3 : (w1.alloc (.cells zeroE 38)).heap[w1.heap.size]? = _ := heap_alloc_new w1 (.cells zeroE 38)
   unfold zeroE at g3
   have G3 := Lib.hid g3
   clear g3 HN1
   go_wp2_with (first
    | (refine wpList_putRow rfl 38 (.tmp 7) (.tmp 23) rfl w1.heap.size 38 zeroE (r.e.row r.A r.n r.c) rfl rfl ?g1 (by kernel_rfl) rfl (by simp [Ev.row, Value.oneCell']) ?_))
   case g1 => exact G3.out
   intro W3 hW3 hbe3
   have HOW := Lib.hid (HO.out W3 hbe3)
   have G4 := Lib.hid hW3
   clear hW3 hbe3 HO
   go_wp2_with (first
    | (refine wpList_getRow rfl 38 (.tmp 7) rfl w1.heap.size 38 (r.e.row r.A r.n r.c) (0, 0) _ rfl ?g1 Tryz.underlying38 rfl (by kernel_rfl) ?_))
   case g1 => exact G4.out
   go_wp2_with fail
   refine HOW.out.mono ?_
   rintro e w4 ⟨r', rfl, hth, HF⟩
   have HTH := Lib.hid hth
   clear hth HOW
   go_wp2_with (first | (refine wpList_store_mid rfl 38 (.tmp 29) (.tmp 28) rfl w'.heap.size (i * 8) (r'.e.row r'.A r'.n r'.c) ?hx ?hy ?ht ?hi ?h1 ?h))
   case hx => rfl
   case hy => rfl
   case ht => exact HTH.out
   case hi => kernel_rfl
   case h1 => simp [Ev.row, Value.oneCell']
   exact ⟨⟨i + 1, rfl, by omega, HF⟩, by simp [intOf]; omega⟩
  ·have him : i = m := by omega
   subst him
   go_wp2
   go_ret
   exact ⟨_, rfl, Nat.le_refl _, HR.out⟩
structure GoodLists (B : Nat) (w : World) (Al : Option Addr) (L : List HV) : Prop where
 lists : Lists B w Al L
 rise : ∀ x ∈ L, Rises x.S
 few : L.length ≤ 1000000000
 evs : (flat L).length ≤ 1000000000
 text : ∀ r ∈ flat L, TextLow B w r
theorem flat_filter (L : List HV) : flat (L.filter hasEv) = flat L := by
 induction L with
 | nil => rfl
 | cons a t ih =>
   unfold flat at *
   rw [List.filter_cons]
   by_cases h : hasEv a = true
   ·rw [if_pos h, List.flatMap_cons, List.flatMap_cons, ih]
   ·rw [if_neg h, ih, List.flatMap_cons]
    have : a.S = [] := by
     rcases Decidable.em (a.S = []) with h2 | h2
     ·exact h2
     ·exact absurd (hasEv_iff.2 h2) h
    rw [this]; rfl
def AllGives (B : Nat) (rs : List EvS → Prop) (w : World) (e : Ending) (w' : World) : Prop :=
 ∃ g m S r0, e = .returned (.slice (some ⟨g, 0, none⟩) m m) ∧ S.length = m ∧ RowAt g m S w' ∧ B ≤ g ∧ S.map EvS.e = r0.map EvS.e ∧ rs r0 ∧ Below B w w'
set_option maxHeartbeats 4000000 in
theorem all_any (Al : Option Addr) (cl : Nat) (L : List HV) (w : World) (h : GoodLists w.heap.size w Al L) :
  Calls Tryz.prog 104 #[.slice Al L.length cl] w (AllGives w.heap.size (fun r0 => r0.Perm (flat L) ∧ Rises r0) w) := by
 have OV := over_any Al cl L w h.lists h.few
 have TK : ∀ hs W, HeapAt w.heap.size w.heap.size 296 hs W → hs.Perm (L.filter hasEv) → Below w.heap.size w W → Calls Tryz.prog 163 #[.pointer (some ⟨w.heap.size, 0, none⟩), .int .i64 9223372036854775807] W (AllGives w.heap.size (fun r0 => r0.Perm (flat L) ∧ Rises r0) w) := fun hs W hA hp hb => by
  obtain ⟨⟨A, c, hat⟩, hH⟩ := hA
  have hfl : (flat hs).Perm (flat L) := (flat_perm hp).trans (by rw [flat_filter])
  have hlen := hfl.length_eq
  have he := h.evs
  refine (ctake_any hat hH (fun x hx => h.rise x (List.mem_filter.1 (hp.mem_iff.1 hx)).1) (by omega) (fun r hr => (h.text r (hfl.mem_iff.1 hr)).below hb) 9223372036854775807 (by omega) (by omega) (flat hs).length (by omega)).mono ?_
  rintro e w' ⟨g, rfl, hg, ⟨⟨rs, hs', S, t1, t2, t3, t4, t5⟩, t6, t7⟩⟩
  have hz : (flat hs').length = 0 := by
   have := t1.perm.length_eq
   rw [List.length_append, t2] at this
   omega
  have hpp := t1.perm
  rw [List.eq_nil_of_length_eq_zero hz, List.append_nil] at hpp
  have hSl : S.length = (flat hs).length := by rw [← t2, ← List.length_map (f := EvS.e), t3, List.length_map]
  exact ⟨g, _, S, rs, rfl, hSl, t5, Nat.le_trans hb.size hg, t3, ⟨hpp.trans hfl, t1.rise⟩, hb.trans t6⟩
 have HTK := Lib.hid TK
 have HOV := Lib.hid OV
 clear TK OV h
 generalize L.length = n at *
 go_enter Tryz.func104, Tryz.ntmps104
 go_wp2_with fail
 refine HOV.out.mono ?_
 rintro e w1 ⟨hs, rfl, h1, h2, h3⟩
 have HT := HTK.out hs w1 h1 h2 h3
 clear h1 h2 h3 HTK HOV
 go_wp2_with fail
 refine HT.mono ?_
 rintro e w2 ⟨g, m, S, r0, rfl, hrest⟩
 have HR := Lib.hid hrest
 clear hrest HT
 go_wp2
 go_ret
 exact ⟨g, m, S, r0, rfl, HR.out⟩
end Go.Proofs.YtinjbdgjcadodaaGreatDoor.Ord
