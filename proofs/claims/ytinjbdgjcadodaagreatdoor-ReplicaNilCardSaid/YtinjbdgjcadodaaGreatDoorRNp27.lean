/- Texts of the law ReplicaNil, put together. -/
import Derived.Test.YtinjbdgjcadodaaGreatDoorRNp16
set_option linter.unusedVariables false
set_option linter.unusedSimpArgs false
set_option maxRecDepth 100000
namespace Go.Proofs.YtinjbdgjcadodaaGreatDoor.Fd
open Go Go.RowKit Words Enc Evt Go.Proofs.YtinjbdgjcadodaaGreatDoor.Made Dsk Sht Seg
theorem rowsL_drop : ∀ (S : List EvS) (a : Nat), rowsL (S.drop a) = (rowsL S).drop (8 * a)
 | [], a => by simp [rowsL]
 | r :: S, 0 => by simp
 | r :: S, a + 1 => by
   rw [List.drop_succ_cons, rowsL_drop S a, rowsL, show 8 * (a + 1) = r.cells.length + 8 * a by simp [EvS.cells]; omega, List.drop_append, List.drop_eq_nil_of_le (Nat.le_add_right _ _), List.nil_append, Nat.add_sub_cancel_left]
theorem Seg_cut {w : World} {A A' : Option Addr} {S : List EvS} (h : RawEv w A S) {a : Nat} (ha : ∀ b o, a < S.length → A = some ⟨b, o, none⟩ → A' = some ⟨b, o + a * 8, none⟩) : RawEv w A' (S.drop a) := by
 intro h0
 rw [List.length_drop] at h0
 obtain ⟨b, o, hA, hc⟩ := h (by omega)
 refine ⟨b, o + a * 8, ha b o (by omega) hA, fun j v hj => ?_⟩
 rw [rowsL_drop, List.getElem?_drop] at hj
 rw [show o + a * 8 + j = o + (8 * a + j) by omega]
 exact hc _ v hj
def cutL (E : List Ev) (D most : Nat) : List Ev := (E.drop D).take most
theorem cutL_step {E L : List Ev} {D most : Nat} (h : (cutL E D most).length < most) : cutL (E ++ L) D most = cutL E D most ++ (L.drop (D - E.length)).take (most - (cutL E D most).length) := by
 unfold cutL at *
 have h1 : (E.drop D).length < most := by rw [List.length_take] at h; omega
 rw [List.drop_append, List.take_append, List.take_of_length_le (by omega : (E.drop D).length ≤ most)]
theorem cutL_full {E L : List Ev} {D most : Nat} (h : most ≤ (cutL E D most).length) : cutL (E ++ L) D most = cutL E D most := by
 unfold cutL at *
 have h1 : most ≤ (E.drop D).length := by rw [List.length_take] at h; omega
 rw [List.drop_append, List.take_append, show most - (E.drop D).length = 0 by omega, List.take_zero, List.append_nil]
theorem cutL_none {E : List Ev} {D most : Nat} (h : E.length ≤ D) : cutL E D most = [] := by
 unfold cutL
 rw [List.drop_eq_nil_of_le h, List.take_nil]
theorem cutL_len (E : List Ev) (D most : Nat) : (cutL E D most).length ≤ most := by
 unfold cutL
 rw [List.length_take]
 omega
theorem chain_at {x : Nat} : ∀ {P : List Part} {u j : Nat} {p : Part}, Chain x u P → P[j]? = some p → p.u = u + (evsP (P.take j)).length
 | [], _, _, _, _, h => by simp at h
 | q :: r, u, 0, p, h, hj => by
   simp at hj
   subst hj
   simp [evsP, h.1.1]
 | q :: r, u, j + 1, p, h, hj => by
   have := chain_at h.2 (by simpa using hj)
   rw [List.take_succ_cons, evsP, List.length_append]
   omega
theorem chain_ne {x : Nat} : ∀ {P : List Part} {u : Nat}, Chain x u P → ∀ p ∈ P, p.L ≠ []
 | [], _, _, p, hp => by cases hp
 | q :: r, u, h, p, hp => by
   rcases List.mem_cons.1 hp with rfl | hp
   ·exact h.1.2.1
   ·exact chain_ne h.2 p hp
theorem evsP_take_succ {P : List Part} {j : Nat} {p : Part} (h : P[j]? = some p) : evsP (P.take (j + 1)) = evsP (P.take j) ++ p.L := by
 rw [List.take_add_one, h, evsP_append]
 simp [evsP]
theorem evsP_take_le (P : List Part) (j : Nat) : (evsP (P.take j)).length ≤ (evsP P).length := by
 conv => rhs; rw [← List.take_append_drop j P, evsP_append, List.length_append]
 omega
theorem intWrap_small (j : Nat) (h : j ≤ 1000000000) : wrap64 ((j : Int) + 1) = ((j + 1 : Nat) : Int) := by
 unfold wrap64
 omega
theorem textOk_below {B : List Nat} {w w' : World} {r : EvS} (h : TextOk B w r) (hb : Below w.heap.size w w') : TextOk B w' r := ⟨h.1.below hb, h.2⟩
def FromGivesC (O : List Nat) (L : List Ev) (w : World) (e : Ending) (w' : World) : Prop :=
 ∃ A n c, e = .returned (.slice A n c) ∧ SeesEv O w' A n L ∧ (n ≤ c ∧ c ≤ 9223372036854775807) ∧ Below w.heap.size w w'
set_option maxHeartbeats 1000000 in
theorem from_anyC [Inhabited XS] (d f x : Nat) (sz : Int) (floor time : Nat) (P : List Part) (safe : Nat) (O : List Nat) (h : Hd) (u0 seq most : Nat) (B : List Nat) (w0 w : World) (F0 : Feed w0 d f x sz floor time P safe O h) (hw : Below w0.heap.size w0 w) (hB : ∀ k ∈ B, w0.heap.size ≤ k ∧ k < w.heap.size) (hC : Chain x u0 P) (hfew : u0 + (evsP P).length ≤ 1000) (hs : u0 ≤ seq) (hs2 : seq < 18446744073709551616) (hm : most ≤ 1000000) :
  Calls Tryz.prog 221 #[.pointer (some ⟨f, 0, none⟩), .int .u64 (seq : Int), .int .i64 (most : Int)] w (FromGivesC (O ++ B) (cutL (evsP P) (seq - u0) most) w) := by
 obtain ⟨R, A, c, S, hR, hO, F0⟩ := F0
 have F := F0.below hw
 have HEV := Lib.hid (fun r (hr : r ∈ R) => (F0.evs r hr).next (B' := O ++ B) (Beside.of_below hw _) (fun k hk => by
  rcases List.mem_append.1 hk with hk | hk
  ·rw [hO] at hk; exact .inl (bx_in hk)
  ·exact .inr (hB k hk).1))
 have HBB0 := Lib.hid hB
 clear F0 hw hB
 obtain ⟨i, hi, hz, hsz, hby⟩ := info_parts infoE
 have hRl : R.length = P.length := by rw [← hR, List.length_map]
 have hPl := chain_len hC
 have hcap := F.cap
 have hRn : R.length ≤ 1000 := by omega
 have HRN := Lib.hid hRn
 have hbx := (Below.refl w.heap.size w).alloc (Nat.le_refl _) (.cells #[.pointer (some ⟨f, 0, none⟩)] 84)
 have hby' := hbx.alloc hbx.size (.cells #[.int .u64 (seq : Int)] 22)
 have e3 := heap_alloc_new w (.cells #[.pointer (some ⟨f, 0, none⟩)] 84)
 have e4 := heap_alloc_new (w.alloc (.cells #[.pointer (some ⟨f, 0, none⟩)] 84)) (.cells #[.int .u64 (seq : Int)] 22)
 have e3' := (Below.heap_alloc (w.alloc (.cells #[.pointer (some ⟨f, 0, none⟩)] 84)) (.cells #[.int .u64 (seq : Int)] 22) w.heap.size (by simp)).trans e3
 have hz2 : ((w.alloc (.cells #[.pointer (some ⟨f, 0, none⟩)] 84)).alloc (.cells #[.int .u64 (seq : Int)] 22)).heap.size = w.heap.size + 2 := by simp
 rw [show (w.alloc (.cells #[.pointer (some ⟨f, 0, none⟩)] 84)).heap.size = w.heap.size + 1 by simp] at e4
 go_enter Tryz.func221, Tryz.ntmps221
 go_upto_region 1 with fail
 generalize (w.alloc (.cells #[.pointer (some ⟨f, 0, none⟩)] 84)).alloc (.cells #[.int .u64 (seq : Int)] 22) = w2 at hby' e3' e4 hz2 ⊢
 obtain ⟨b3, hb3⟩ : ∃ b3, b3 = w.heap.size := ⟨_, rfl⟩
 obtain ⟨b4, hb4⟩ : ∃ b4, b4 = w.heap.size + 1 := ⟨_, rfl⟩
 rw [← hb4] at e4 ⊢
 rw [← hb3] at e3' ⊢
 have HB3 := Lib.hid hb3
 have HB4 := Lib.hid hb4
 have HZ2 := Lib.hid hz2
 have F2 := F.below hby'
 have W2 := Lib.hid hby'
 have q3 : w2.cell? ⟨b3, 0, none⟩ = some (.pointer (some ⟨f, 0, none⟩)) := by rw [cell_of_row w2 b3 _ _ _ _ e3']; rfl
 obtain ⟨_, _, _, _, _, c5, _⟩ := F2.cells
 have HU : ∀ j r, R[j]? = some r → r.p.u = u0 + (evsP (P.take j)).length ∧ r.p.u + r.p.L.length ≤ 1000 ∧ r.p.u + r.p.L.length = u0 + (evsP (P.take (j + 1))).length ∧ 0 < r.p.L.length := fun j r hj => by
  have hPj : P[j]? = some r.p := by rw [← hR, List.getElem?_map, hj]; rfl
  have h1 := chain_at hC hPj
  have h2 := evsP_take_succ hPj
  have h3 := evsP_take_le P (j + 1)
  have h4 := List.length_pos_iff.2 (chain_ne hC _ (List.mem_of_getElem? hPj))
  rw [h2, List.length_append] at h3
  rw [h2, List.length_append]
  omega
 have hsr := search_any (.pointer (some ⟨b3, 0, none⟩)) (.pointer (some ⟨b4, 0, none⟩)) R.length (fun j => decide (seq < u0 + (evsP (P.take (j + 1))).length)) w2 (by omega)
  (fun W j hW hj => by
   have hj' := List.getElem?_eq_getElem hj
   obtain ⟨h1, h2, h3, _⟩ := HU j _ hj'
   have := fromAsk d f x sz floor time R safe A c S h b3 b4 seq j _ W (F2.below hW) ((hW.block b3 (Array.getElem?_eq_some_iff.1 e3').1).trans e3') ((hW.block b4 (Array.getElem?_eq_some_iff.1 e4).1).trans e4) hj' (by omega)
   rw [h3] at this
   exact this)
  (fun a b hab hb hp => by
   simp only [decide_eq_true_eq] at hp ⊢
   have : (evsP (P.take (a + 1))).length ≤ (evsP (P.take (b + 1))).length := by
    have := evsP_take_le (P.take (b + 1)) (a + 1)
    rw [List.take_take, Nat.min_eq_left (by omega)] at this
    exact this
   omega)
 have HSR := Lib.hid hsr
 have HUh := Lib.hid HU
 have HCAP := Lib.hid hcap
 clear hRn
 clear hsr HU hb3 hb4 hz2 hby' hbx e3 F hcap hRl hPl
 go_wp2_with fail
 refine HSR.out.mono ?_
 rintro e w3 ⟨k, rfl, hk, hlo, hhi, hb3⟩
 have F3 := F2.below hb3
 have g3 := (hb3.block b3 (Array.getElem?_eq_some_iff.1 e3').1).trans e3'
 have g4 := (hb3.block b4 (Array.getElem?_eq_some_iff.1 e4).1).trans e4
 have q3' : w3.cell? ⟨b3, 0, none⟩ = some (.pointer (some ⟨f, 0, none⟩)) := by rw [cell_of_row w3 b3 _ _ _ _ g3]; rfl
 obtain ⟨_, _, _, _, _, c5', _⟩ := F3.cells
 have W3 := Lib.hid (W2.out.trans (hb3.mono W2.out.size))
 have hkc : k ≤ c := Nat.le_trans hk HCAP.out.1
 have HLO := Lib.hid hlo
 have HHI := Lib.hid hhi
 have G4 := Lib.hid g4
 clear q3 c5 e3' e4 hb3 hlo hhi HSR F2 g3 g4
 go_wp2_with fail
 case inl =>
  have hck : c = k := by assumption
  have h0 : ¬ 0 < R.length - k := by have := HCAP.out.1; omega
  have hkn : k = R.length := by have := HCAP.out.1; omega
  have hz0 : R.length - k = 0 := by omega
  have hE : evsP P = evsP (P.take k) := by rw [hkn, ← List.length_map (f := SegS.p), hR, List.take_length]
  have hres : cutL (evsP P) (seq - u0) most = [] := by
   by_cases hk0 : k = 0
   ·rw [hE, hk0]; simp [cutL, evsP]
   ·have := HLO.out (k - 1) (by omega)
    simp only [decide_eq_false_iff_not] at this
    rw [show k - 1 + 1 = k by omega] at this
    rw [hE]
    exact cutL_none (by omega)
  have HRES := Lib.hid hres
  clear hkn hE hz0 hres
  go_loopw [8, 26] (fun v8 v26 wr => v8 = .slice none 0 0 ∧ v26 = .int .i64 0 ∧ wr = w3) (fun _ _ _ => 0)
  case atStart => exact ⟨rfl, rfl, rfl⟩
  case round =>
   obtain ⟨rfl, rfl, rfl⟩ := hrel
   go_wp2
   go_ret
   exact ⟨none, 0, 0, rfl, by rw [HRES.out]; exact SeesEv.nil _ _ _, ⟨Nat.le_refl _, by omega⟩, W3.out⟩
 case inr =>
  have hck : ¬ c = k := by assumption
  have hA2 : ∀ b, A = some ⟨b, 0, none⟩ → Option.map (fun x => x.add (k * 4)) A = some ⟨b, k * 4, none⟩ := fun b e => by subst e; simp [add_plain]
  have HA2 := Lib.hid hA2
  clear hA2
  generalize hA2e : Option.map (fun x => x.add (k * 4)) A = A2 at HA2 ⊢
  clear hA2e
  have HCK := Lib.hid hck
  clear hck
  have hlt3 : ∀ q ∈ O ++ B, q < w3.heap.size := fun q hq => by
   rcases List.mem_append.1 hq with hq | hq
   ·rw [hO] at hq; exact F3.lt q hq
   ·exact Nat.lt_of_lt_of_le (HBB0.out q hq).2 W3.out.size
  go_loopw [8, 26] (fun v8 v26 wr => ∃ (j : Nat) (Aw : Option Addr) (nw cw : Nat) (T : List EvS), v8 = .slice Aw nw cw ∧ v26 = .int .i64 (j : Int) ∧ j ≤ R.length - k ∧ Hid (wr.ownsRow w3.heap.size 38 8 (.slice Aw nw cw) nw (rowsL T)) ∧ Hid (Below w3.heap.size w3 wr) ∧ Hid (T.map EvS.e = cutL (evsP (P.take (k + j))) (seq - u0) most) ∧ Hid (∀ t ∈ T, TextOk (O ++ B) w3 t)) (fun _ v26 _ => (R.length - k) - (intOf v26).toNat)
  case atStart =>
   refine ⟨0, none, 0, 0, [], rfl, rfl, Nat.zero_le _, Lib.hid (own_nil8 _ _ _), Lib.hid (Below.refl _ _), Lib.hid ?_, Lib.hid (fun t ht => by cases ht)⟩
   by_cases hk0 : k = 0
   ·rw [hk0]; simp [cutL, evsP]
   ·have := HLO.out (k - 1) (by omega)
    simp only [decide_eq_false_iff_not] at this
    rw [show k - 1 + 1 = k by omega] at this
    rw [Nat.add_zero, cutL_none (by omega)]
    rfl
  case round =>
   obtain ⟨j, Aw, nw, cw, T, rfl, rfl, hj, HO, HB, HT, HX⟩ := hrel
   have FW := F3.below (HB.out.mono (Nat.le_refl _))
   have hnw := cutL_len (evsP (P.take (k + j))) (seq - u0) most
   have hTl : T.length = nw := by have := HO.out.1; rw [rowsL_len] at this; omega
   have hTn : (cutL (evsP (P.take (k + j))) (seq - u0) most).length = nw := by rw [← HT.out, List.length_map, hTl]
   rw [hTn] at hnw
   by_cases hlt : j < R.length - k
   ·have hjR : k + j < R.length := by omega
    obtain ⟨r, hr⟩ : ∃ r, R[k + j]? = some r := ⟨_, List.getElem?_eq_getElem hjR⟩
    obtain ⟨g, hA, k0, k1, k2, k3⟩ := FW.at_ hr
    have hA2 := HA2.out g hA
    rw [hA2]
    obtain ⟨hu, hu2, hu3, hu4⟩ := HUh.out _ _ hr
    have hask := HHI.out (k + j) (by omega) hjR
    simp only [decide_eq_true_eq] at hask
    rw [← hu3] at hask
    rw [Nat.add_mul] at k0 k1 k2 k3
    have HSE := Lib.hid ((HEV.out r (List.mem_of_getElem? hr)).below W3.out)
    have hjn2 : j < R.length - k := hlt
    have HTN := Lib.hid hTn
    have HTL := Lib.hid hTl
    have HU1 := Lib.hid hu
    have HU3 := Lib.hid hu3
    have FWh := Lib.hid FW
    have hgl : g < wr.heap.size := FW.lt g (by simp [blk, hA])
    have HAh := Lib.hid hA
    have HRR := Lib.hid hr
    clear hA hA2 hu hu3 hTn hTl FW F3 hr hlt hj
    have g1 := heap_alloc_new wr (.cells #[.int .i64 0, .int .u64 0, .slice none 0 0, .int .i64 0] 134)
    have G1 := Lib.hid g1
    clear g1
    go_wp2_with (refine wpList_putRow rfl 134 (.tmp 10) (.tmp 29) rfl wr.heap.size 134 #[.int .i64 0, .int .u64 0, .slice none 0 0, .int .i64 0] #[.int .i64 (x : Int), .int .u64 (r.p.u : Int), .slice r.A r.p.L.length r.p.L.length, .int .i64 (r.p.z x : Int)] rfl rfl ?g1 (by kernel_rfl) rfl (by simp [Value.oneCell']) ?_)
    case g1 => exact G1.out
    intro W' hW' hbe
    obtain ⟨q0, q1, q2, q3⟩ := b4cells hW'
    have hbw : Below wr.heap.size wr W' := Below.beside ((Below.refl wr.heap.size wr).alloc (Nat.le_refl _) _) hbe (by simp) (by simp)
    have HBW := Lib.hid hbw
    have g4 := (HBW.out.block b4 (by have := (Array.getElem?_eq_some_iff.1 G4.out).1; have := HB.out.size; omega)).trans ((HB.out.block b4 (Array.getElem?_eq_some_iff.1 G4.out).1).trans G4.out)
    have q4 : W'.cell? ⟨b4, 0, none⟩ = some (.int .u64 (seq : Int)) := by rw [cell_of_row W' b4 _ _ _ _ g4]; rfl
    clear hW' hbe hbw g4 k0 k1 k2 k3
    by_cases hfull : most ≤ nw
    ·have hSEE : SeesEv (O ++ B) W' Aw nw (cutL (evsP (P.take (k + j))) (seq - u0) most) := by
      have hb := HBW.out
      have h1 := SeesEv.of_own (B := O ++ B) HO.out hlt3 (fun t ht => textOk_below (HX.out t ht) HB.out)
      rw [HT.out] at h1
      exact h1.below hb
     have hfin : cutL (evsP P) (seq - u0) most = cutL (evsP (P.take (k + j))) (seq - u0) most := by
      conv => lhs; rw [← List.take_append_drop (k + j) P, evsP_append]
      exact cutL_full (by rw [HTN.out]; exact hfull)
     rw [← hfin] at hSEE
     have BF := Lib.hid (W3.out.trans ((HB.out.trans (HBW.out.mono HB.out.size)).mono W3.out.size))
     have hnc := own_cap8 HO.out
     go_wp2
     go_ret
     exact ⟨Aw, nw, cw, rfl, hSEE, hnc, BF.out⟩
    ·obtain ⟨nl, hnl⟩ : ∃ nl, nl = r.p.L.length := ⟨_, rfl⟩
     rw [← hnl] at q2
     obtain ⟨a, ha⟩ : ∃ a, a = seq - r.p.u := ⟨_, rfl⟩
     have hal : a < nl := by omega
     obtain ⟨m, hm9⟩ : ∃ m, m = r.p.u + a := ⟨_, rfl⟩
     have hmx : max (seq : Int) (r.p.u : Int) = (m : Int) := by omega
     have hmw : IntKind.u64.wrap ((m : Int) - (r.p.u : Int)) = (a : Int) := by rw [IntKind.wrap_u64]; omega
     obtain ⟨q, hq9⟩ : ∃ q, q = most - nw := ⟨_, rfl⟩
     have hqw : IntKind.i64.wrap ((most : Int) - (nw : Int)) = (q : Int) := by rw [IntKind.wrap_i64]; omega
     obtain ⟨b, hb9⟩ : ∃ b, b = min (nl - a) q := ⟨_, rfl⟩
     have hmin : min ((nl - a : Nat) : Int) (q : Int) = (b : Int) := by omega
     have hna : ¬ nl = a := by omega
     have hal' : a ≤ nl := by omega
     have hbl : b ≤ nl - a := by omega
     have HNL := Lib.hid hnl
     have HAA := Lib.hid ha
     have HMM := Lib.hid hm9
     have HQ := Lib.hid hq9
     have HBB := Lib.hid hb9
     have HAL := Lib.hid hal
     clear hnl ha hm9 hq9 hb9 hal
     have HW2 := Lib.hid HBW.out.size
     obtain ⟨Sr, hSe, hSl, hSraw, hSout, hStx⟩ := HSE.out
     have hraw' := Seg_cut ((hSraw.below HB.out).below HBW.out) (A' := Option.map (fun x => x.add (a * 8)) r.A) (a := a) (fun bb oo _ e => by rw [e]; simp [add_plain])
     have hraw := Lib.hid (hraw'.take b)
     have hown' := Lib.hid (own_below8 HO.out HBW.out (Nat.le_refl _))
     have hqlen : ((Sr.drop a).take b).length = b := by rw [List.length_take, List.length_drop, hSl]; have := HNL.out; omega
     have HQL := Lib.hid hqlen
     clear hSraw hraw' hqlen
     go_wp2_with (first | (at_builtin; refine wpList_appE rfl _ _ 26 rfl w3.heap.size 38 i zeroEv Tryz.underlying26 hi hz hsz hby zeroEv_cells Aw nw cw T rfl hown'.out (Option.map (fun x => x.add (a * 8)) r.A) b (nl - a) ((Sr.drop a).take b) rfl HQL.out hraw.out ?c1 ?c2 ?_))
     case c1 => have h1 := HBB.out; have h2 := HQ.out; omega
     case c2 => exact Nat.le_trans HB.out.size HW2.out
     intro A' c' w4 hown4 hb4
     go_wp2
     go_roundw
     case rel =>
      have h1 := HBB.out
      have h2 := HQ.out
      have h3 := HNL.out
      have h4 := HAA.out
      have h5 := HTN.out
      have h6 := HU1.out
      have h8 := HRN.out
      refine ⟨j + 1, A', _, c', T ++ (Sr.drop a).take b, rfl, by rw [intWrap_small j (by omega)], by omega, Lib.hid hown4, Lib.hid ((HB.out.trans (HBW.out.mono HB.out.size)).trans hb4), Lib.hid ?_, Lib.hid (fun t ht => ?_)⟩
      ·have hPj : P[k + j]? = some r.p := by rw [← hR, List.getElem?_map, HRR.out]; rfl
       rw [show k + (j + 1) = k + j + 1 by omega, evsP_take_succ hPj, cutL_step (by omega), List.map_append, HT.out, List.map_take, List.map_drop, hSe, h5]
       congr 1
       have e1 : seq - u0 - (evsP (P.take (k + j))).length = a := by omega
       rw [e1, ← h2, h1]
       rcases Nat.le_total (nl - a) q with h7 | h7
       ·rw [Nat.min_eq_left h7, List.take_of_length_le (by rw [List.length_drop, ← h3]; exact Nat.le_refl _), List.take_of_length_le (by rw [List.length_drop, ← h3]; exact h7)]
       ·rw [Nat.min_eq_right h7]
      ·rcases List.mem_append.1 ht with ht | ht
       ·exact HX.out t ht
       ·exact hStx t (List.mem_of_mem_drop (List.mem_of_mem_take ht))
     case measure =>
      have h8 := HRN.out
      rw [intWrap_small j (by omega)]
      simp [intOf]
      omega
   ·have hjl : ¬ j < R.length - k := hlt
    have hje : k + j = R.length := by omega
    have hE : evsP (P.take (k + j)) = evsP P := by rw [hje, ← List.length_map (f := SegS.p), hR, List.take_length]
    have hSEE : SeesEv (O ++ B) wr Aw nw (cutL (evsP P) (seq - u0) most) := by
     have h1 := SeesEv.of_own (B := O ++ B) HO.out hlt3 (fun t ht => textOk_below (HX.out t ht) HB.out)
     rw [HT.out, hE] at h1
     exact h1
    have BF := Lib.hid (W3.out.trans (HB.out.mono W3.out.size))
    have hnc := own_cap8 HO.out
    clear hje hE FW F3
    go_wp2
    go_ret
    exact ⟨Aw, nw, cw, rfl, hSEE, hnc, BF.out⟩
theorem Feed.box [Inhabited XS] {w : World} {d f x : Nat} {sz : Int} {floor time : Nat} {P : List Part} {safe : Nat} {O : List Nat} {h : Hd} (F : Feed w d f x sz floor time P safe O h) :
  ∃ A c, w.cell? ⟨f, 0, none⟩ = some (.pointer (some ⟨d, 0, none⟩)) ∧ w.cell? ⟨f, 1, none⟩ = some (.int .i64 (x : Int)) ∧ w.cell? ⟨f, 2, none⟩ = some (.int .i64 sz) ∧ w.cell? ⟨f, 3, none⟩ = some (.int .u64 (floor : Int)) ∧ w.cell? ⟨f, 4, none⟩ = some (.int .u64 (time : Int)) ∧ w.cell? ⟨f, 5, none⟩ = some (.slice A P.length c) ∧ w.cell? ⟨f, 6, none⟩ = some (.int .i64 (safe : Int)) := by
 obtain ⟨R, A, c, S, hR, hO, F⟩ := F
 have := F.cells
 rw [← List.length_map (f := SegS.p), hR] at this
 exact ⟨A, c, this⟩
theorem range_low [Inhabited XS] (d f x : Nat) (sz : Int) (floor time : Nat) (P : List Part) (safe : Nat) (O : List Nat) (h : Hd) (seq : Nat) (most : Int) (w : World) (F : Feed w d f x sz floor time P safe O h) (h0 : ¬ seq < 1) (hs : seq ≤ floor) :
  Calls Tryz.prog 305 #[.pointer (some ⟨f, 0, none⟩), .int .u64 (seq : Int), .int .i64 most] w fun e w' => e = .returned (.tuple #[.slice none 0 0, .int .i64 13]) ∧ Below w.heap.size w w' := by
 obtain ⟨A, c, _, _, _, c3, _⟩ := F.box
 clear F
 go_enter Tryz.func305, Tryz.ntmps305
 go_wp2
 go_ret2
 exact ⟨rfl, Below.refl _ _⟩
theorem range_zero [Inhabited XS] (d f x : Nat) (sz : Int) (floor time : Nat) (P : List Part) (safe : Nat) (O : List Nat) (h : Hd) (most : Int) (w : World) (F : Feed w d f x sz floor time P safe O h) :
  Calls Tryz.prog 305 #[.pointer (some ⟨f, 0, none⟩), .int .u64 ((0 : Nat) : Int), .int .i64 most] w fun e w' => e = .returned (.tuple #[.slice none 0 0, .int .i64 2]) ∧ Below w.heap.size w w' := by
 clear F
 go_enter Tryz.func305, Tryz.ntmps305
 go_wp2
 go_ret2
 exact ⟨rfl, Below.refl _ _⟩
theorem get_err (V : Value) (seq E : Int) (w : World) (hE : E ≠ 0)
  (hr : ∀ W, Below w.heap.size w W → Calls Tryz.prog 305 #[V, .int .u64 seq, .int .i64 1] W fun e w' => e = .returned (.tuple #[.slice none 0 0, .int .i64 E]) ∧ Below W.heap.size W w') :
  Calls Tryz.prog 248 #[V, .int .u64 seq] w fun e w' => e = .returned (.tuple #[zeroEv, .int .i64 E]) ∧ Below w.heap.size w w' := by
 have hsf := store_float Tryz.prog
 have hE1 : (E == 0) = false := by rw [beq_eq_false_iff_ne]; exact hE
 have HR := Lib.hid hr
 clear hr hE
 have g0 := heap_alloc_new w (.cells zeroRow 38)
 have b0 := (Below.refl w.heap.size w).alloc (Nat.le_refl _) (.cells zeroRow 38)
 unfold zeroRow at g0 b0
 go_enter Tryz.func248, Tryz.ntmps248
 go_wp2_with fail
 refine (HR.out _ b0).mono ?_
 rintro e w1 ⟨rfl, hb1⟩
 have g1 := (hb1.block w.heap.size (Array.getElem?_eq_some_iff.1 g0).1).trans g0
 have b1 := b0.trans (hb1.mono b0.size)
 have G1 := Lib.hid g1
 have B1 := Lib.hid b1
 clear g0 b0 hb1 g1 b1
 go_wp2_with (first
  | (refine wpList_putRow rfl 38 (.tmp 4) (.tmp 16) rfl w.heap.size 38 zeroRow zeroRow rfl rfl ?g1 (by kernel_rfl) rfl (by simp [zeroRow, Value.oneCell']) ?_))
 case g1 => exact G1.out
 intro W' hW' hbe
 unfold zeroRow at hW'
 obtain ⟨k0, k1, k2, k3, k4, k5, k6, k7⟩ := box8 hW'
 have HB := Lib.hid (Below.beside B1.out hbe B1.out.size (by simp))
 clear hW' hbe
 go_wp2
 refine bodyPost_ret (v := .tuple #[zeroEv, .int .i64 E]) ?_ rfl ⟨rfl, HB.out⟩
 simp [results, zeroEv, Tryz.results248, go_sem, k0, k1, k2, k3, k4, k5, k6, k7]
def LastNone (w : World) (e : Ending) (w' : World) : Prop := e = .returned (.tuple #[zeroEv, .bool false]) ∧ Below w.heap.size w w'
theorem last_none (V : Value) (nx : Nat) (E : Int) (w : World) (hE : E ≠ 0) (hnx : 1 ≤ nx ∧ nx < 18446744073709551616)
  (hn : ∀ W, Below w.heap.size w W → Calls Tryz.prog 35 #[V] W fun e w' => e = .returned (.int .u64 (nx : Int)) ∧ Below W.heap.size W w')
  (hg : ∀ W, Below w.heap.size w W → Calls Tryz.prog 248 #[V, .int .u64 ((nx - 1 : Nat) : Int)] W fun e w' => e = .returned (.tuple #[zeroEv, .int .i64 E]) ∧ Below W.heap.size W w') :
  Calls Tryz.prog 189 #[V] w (LastNone w) := by
 have hsf := store_float Tryz.prog
 have hE1 : (E == 0) = false := by rw [beq_eq_false_iff_ne]; exact hE
 have hw : IntKind.u64.wrap ((nx : Int) - 1) = ((nx - 1 : Nat) : Int) := by rw [IntKind.wrap_u64]; omega
 generalize nx - 1 = n1 at *
 have HN := Lib.hid hn
 have HG := Lib.hid hg
 have g0 := heap_alloc_new w (.cells zeroRow 38)
 have b0 := (Below.refl w.heap.size w).alloc (Nat.le_refl _) (.cells zeroRow 38)
 clear hn hg hnx hE
 unfold zeroRow at g0 b0
 go_enter Tryz.func189, Tryz.ntmps189
 go_wp2_with fail
 refine (HN.out _ b0).mono ?_
 rintro e w1 ⟨rfl, hb1⟩
 have g1 := (hb1.block w.heap.size (Array.getElem?_eq_some_iff.1 g0).1).trans g0
 have b1 := b0.trans (hb1.mono b0.size)
 clear g0 b0 hb1
 go_wp2_with fail
 refine (HG.out _ b1).mono ?_
 rintro e w2 ⟨rfl, hb2⟩
 have g2 := (hb2.block w.heap.size (Array.getElem?_eq_some_iff.1 g1).1).trans g1
 have b2 := b1.trans (hb2.mono b1.size)
 have hlt2 := (Array.getElem?_eq_some_iff.1 g2).1
 unfold zeroEv
 have g3 : (w2.alloc (.cells zeroRow 38)).heap[w2.heap.size]? = _ := heap_alloc_new w2 (.cells zeroRow 38)
 have q3 : (w2.alloc (.cells zeroRow 38)).heap[w.heap.size]? = _ := (Below.heap_alloc _ _ _ hlt2).trans g2
 have b3 := b2.alloc b2.size (.cells zeroRow 38)
 unfold zeroRow at g3 q3 b3
 have hne : ¬ w.heap.size = w2.heap.size := by omega
 have hne2 : ¬ w2.heap.size = w.heap.size := by omega
 have G3 := Lib.hid g3
 have Q3 := Lib.hid q3
 have B3 := Lib.hid b3
 clear g3 q3 b3 g1 b1 hb2 g2 b2
 go_wp2_with (first
  | (refine wpList_putRow rfl 38 (.tmp 4) (.tmp 12) rfl w2.heap.size 38 zeroRow zeroRow rfl rfl ?g1 (by kernel_rfl) rfl (by simp [zeroRow, Value.oneCell']) ?_))
 case g1 => unfold zeroRow; exact G3.out
 intro W3 hW3 hbe3
 have q4 := (hbe3.block w.heap.size (Array.getElem?_eq_some_iff.1 Q3.out).1 (by simp; omega)).trans Q3.out
 have b4 : Below w.heap.size w W3 := Below.beside B3.out hbe3 B3.out.size (by simp; omega)
 have G4 := Lib.hid hW3
 have Q4 := Lib.hid q4
 have B4 := Lib.hid b4
 clear hW3 hbe3 q4 b4 G3 Q3 B3
 go_wp2_with (first
  | (refine wpList_getRow rfl 38 (.tmp 4) rfl w2.heap.size 38 zeroRow (0, 0) _ rfl ?g1 Tryz.underlying38 rfl (by kernel_rfl) ?_)
  | (refine wpList_putRow rfl 38 (.tmp 2) (.tmp 14) rfl w.heap.size 38 zeroRow zeroRow rfl rfl ?g2 (by kernel_rfl) rfl (by simp [zeroRow, Value.oneCell']) ?_))
 case g1 => exact G4.out
 case g2 => exact Q4.out
 intro W5 hW5 hbe5
 unfold zeroRow at hW5
 obtain ⟨k0, k1, k2, k3, k4, k5, k6, k7⟩ := box8 hW5
 have B5 := Lib.hid (Below.beside B4.out hbe5 B4.out.size (by simp))
 clear hW5 hbe5 G4 Q4 B4
 go_wp2
 refine bodyPost_ret (v := .tuple #[zeroEv, .bool false]) ?_ rfl ⟨rfl, B5.out⟩
 simp [results, zeroEv, Tryz.results189, go_sem, k0, k1, k2, k3, k4, k5, k6, k7]
theorem lastF_none [Inhabited XS] (d f x : Nat) (sz : Int) (floor time : Nat) (P : List Part) (safe : Nat) (O : List Nat) (h : Hd) (u0 : Nat) (w : World) (F : Feed w d f x sz floor time P safe O h) (G : Good x floor u0 P) (he : u0 + (evsP P).length = floor + 1) :
  Calls Tryz.prog 189 #[.pointer (some ⟨f, 0, none⟩)] w (LastNone w) := by
 have hf := G.few
 refine last_none _ (floor + 1) (if floor = 0 then 2 else 13) w (by split <;> omega) (by omega) (fun W hW => ?_) (fun W hW => ?_)
 ·have := nextF_any d f x sz floor time P safe O h u0 W (F.below hW) G
  rw [he] at this
  exact this
 ·by_cases h0 : floor = 0
  ·subst h0
   exact get_err _ _ 2 W (by omega) fun W2 hW2 => range_zero d f x sz 0 time P safe O h 1 W2 ((F.below hW).below hW2)
  ·rw [if_neg h0]
   exact get_err _ _ 13 W (by omega) fun W2 hW2 => range_low d f x sz floor time P safe O h floor 1 W2 ((F.below hW).below hW2) (by omega) (Nat.le_refl _)
theorem sealed_none (V : Value) (w : World) (hl : Calls Tryz.prog 189 #[V] w (LastNone w)) :
  Calls Tryz.prog 121 #[V] w fun e w' => e = .returned (.bool false) ∧ Below w.heap.size w w' := by
 have hsf := store_float Tryz.prog
 have HL := Lib.hid hl
 clear hl
 go_enter Tryz.func121, Tryz.ntmps121
 go_wp2_with fail
 refine HL.out.mono ?_
 rintro e w1 ⟨rfl, hb1⟩
 unfold zeroEv
 have g1 : (w1.alloc (.cells zeroRow 38)).heap[w1.heap.size]? = _ := heap_alloc_new w1 (.cells zeroRow 38)
 have b1 := hb1.alloc hb1.size (.cells zeroRow 38)
 have hz := hb1.size
 unfold zeroRow at g1 b1
 have G1 := Lib.hid g1
 have B1 := Lib.hid b1
 clear g1 b1 hb1
 go_wp2_with (first
  | (refine wpList_putRow rfl 38 (.tmp 3) (.tmp 8) rfl w1.heap.size 38 zeroRow zeroRow rfl rfl ?g1 (by kernel_rfl) rfl (by simp [zeroRow, Value.oneCell']) ?_))
 case g1 => unfold zeroRow; exact G1.out
 intro W3 hW3 hbe3
 have B3 := Lib.hid (Below.beside B1.out hbe3 B1.out.size (by simp; omega))
 clear hbe3 hW3 B1 G1
 go_wp2
 go_ret
 exact ⟨rfl, B3.out⟩
theorem time_none (f time : Nat) (w : World) (g : ∀ W, Below w.heap.size w W → W.cell? ⟨f, 4, none⟩ = some (.int .u64 (time : Int))) (hl : Calls Tryz.prog 189 #[.pointer (some ⟨f, 0, none⟩)] w (LastNone w)) :
  Calls Tryz.prog 122 #[.pointer (some ⟨f, 0, none⟩)] w fun e w' => e = .returned (.int .u64 (time : Int)) ∧ Below w.heap.size w w' := by
 have hsf := store_float Tryz.prog
 have HL := Lib.hid hl
 have HG := Lib.hid g
 clear hl g
 go_enter Tryz.func122, Tryz.ntmps122
 go_wp2_with fail
 refine HL.out.mono ?_
 rintro e w1 ⟨rfl, hb1⟩
 unfold zeroEv
 have g1 : (w1.alloc (.cells zeroRow 38)).heap[w1.heap.size]? = _ := heap_alloc_new w1 (.cells zeroRow 38)
 have b1 := hb1.alloc hb1.size (.cells zeroRow 38)
 have hz := hb1.size
 unfold zeroRow at g1 b1
 have G1 := Lib.hid g1
 have B1 := Lib.hid b1
 clear g1 b1 hb1
 go_wp2_with (first
  | (refine wpList_putRow rfl 38 (.tmp 3) (.tmp 10) rfl w1.heap.size 38 zeroRow zeroRow rfl rfl ?g1 (by kernel_rfl) rfl (by simp [zeroRow, Value.oneCell']) ?_))
 case g1 => unfold zeroRow; exact G1.out
 intro W3 hW3 hbe3
 have b3 := Below.beside B1.out hbe3 B1.out.size (by simp; omega)
 have c4 := HG.out W3 b3
 have B3 := Lib.hid b3
 clear hbe3 hW3 B1 G1 b3
 go_wp2
 go_ret
 exact ⟨rfl, B3.out⟩
theorem full_none [Inhabited XS] (d f x : Nat) (sz : Int) (floor time : Nat) (safe : Nat) (O : List Nat) (h : Hd) (w : World) (F : Feed w d f x sz floor time [] safe O h) :
  Calls Tryz.prog 123 #[.pointer (some ⟨f, 0, none⟩)] w fun e w' => e = .returned (.bool true) ∧ Below w.heap.size w w' := by
 obtain ⟨A, c, _, _, _, _, _, c5, _⟩ := F.box
 clear F
 simp only [List.length_nil] at c5
 go_enter Tryz.func123, Tryz.ntmps123
 go_wp2
 go_ret
 exact ⟨rfl, Below.refl _ _⟩
theorem nameOf_any (x u : Nat) (A : Option Addr) (n c z : Nat) (w : World) (T : STabs w) (hx : x < 64) (hu : u < 18446744073709551616) :
  Calls Tryz.prog 72 #[segV (x : Int) u A n c z] w fun e w' => e = .returned (.string ⟨(nameL (x : Int) u).toArray⟩) ∧ Below w.heap.size w w' := by
 have hb0 := (Below.refl w.heap.size w).alloc (Nat.le_refl _) (.cells #[.int .i64 (x : Int), .int .u64 (u : Int), .slice A n c, .int .i64 (z : Int)] 134)
 unfold segV
 go_enter Tryz.func72, Tryz.ntmps72
 go_wp2_with fail
 refine (name_any (x : Int) u (by omega) (by omega) (by omega) _ (T.below hb0)).mono ?_
 rintro e w1 ⟨rfl, hb1⟩
 have b1 := hb0.trans (hb1.mono hb0.size)
 go_wp2
 go_ret
 exact ⟨rfl, b1⟩
end Go.Proofs.YtinjbdgjcadodaaGreatDoor.Fd
