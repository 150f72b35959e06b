/- feed: the events from a number on, walked. -/
import Derived.Test.YtkphklmgbdljiaaGreatDoorFdFrom
namespace Go.Proofs.YtkphklmgbdljiaaGreatDoor.Fd
open Go Go.RowKit Go.Proofs.YtkphklmgbdljiaaGreatDoor.Words Go.Proofs.YtkphklmgbdljiaaGreatDoor.Enc Go.Proofs.YtkphklmgbdljiaaGreatDoor.Evt Go.Proofs.YtkphklmgbdljiaaGreatDoor.Made Go.Proofs.YtkphklmgbdljiaaGreatDoor.Dsk Go.Proofs.YtkphklmgbdljiaaGreatDoor.Sht Go.Proofs.YtkphklmgbdljiaaGreatDoor.Seg
set_option linter.unusedVariables false
set_option linter.unusedSimpArgs false

theorem rowsL_drop : ∀ (S : List EvS) (a : Nat), rowsL (S.drop a) = (rowsL S).drop (8 * a)
  | [], a => by simp [rowsL]
  | r :: S, 0 => by simp
  | r :: S, a + 1 => by
    rw [List.drop_succ_cons, rowsL_drop S a, rowsL, show 8 * (a + 1) = r.cells.length + 8 * a by simp [EvS.cells]; omega, List.drop_append, List.drop_eq_nil_of_le (Nat.le_add_right _ _), List.nil_append, Nat.add_sub_cancel_left]
theorem Seg_cut {w : World} {A A' : Option Addr} {S : List EvS} (h : RawEv w A S) {a : Nat} (ha : ∀ b o, a < S.length → A = some ⟨b, o, none⟩ → A' = some ⟨b, o + a * 8, none⟩) : RawEv w A' (S.drop a) := by
  intro h0
  rw [List.length_drop] at h0
  obtain ⟨b, o, hA, hc⟩ := h (by omega)
  refine ⟨b, o + a * 8, ha b o (by omega) hA, fun j v hj => ?_⟩
  rw [rowsL_drop, List.getElem?_drop] at hj
  rw [show o + a * 8 + j = o + (8 * a + j) by omega]
  exact hc _ v hj
/-- What a feed has from number q on, at most so many. -/
def cutL (E : List Ev) (D most : Nat) : List Ev := (E.drop D).take most
theorem cutL_step {E L : List Ev} {D most : Nat} (h : (cutL E D most).length < most) : cutL (E ++ L) D most = cutL E D most ++ (L.drop (D - E.length)).take (most - (cutL E D most).length) := by
  unfold cutL at *
  have h1 : (E.drop D).length < most := by rw [List.length_take] at h; omega
  rw [List.drop_append, List.take_append, List.take_of_length_le (by omega : (E.drop D).length ≤ most)]
theorem cutL_full {E L : List Ev} {D most : Nat} (h : most ≤ (cutL E D most).length) : cutL (E ++ L) D most = cutL E D most := by
  unfold cutL at *
  have h1 : most ≤ (E.drop D).length := by rw [List.length_take] at h; omega
  rw [List.drop_append, List.take_append, show most - (E.drop D).length = 0 by omega, List.take_zero, List.append_nil]
theorem cutL_none {E : List Ev} {D most : Nat} (h : E.length ≤ D) : cutL E D most = [] := by
  unfold cutL
  rw [List.drop_eq_nil_of_le h, List.take_nil]
theorem cutL_len (E : List Ev) (D most : Nat) : (cutL E D most).length ≤ most := by
  unfold cutL
  rw [List.length_take]
  omega
/-- The part with number j. -/
theorem chain_at {x : Nat} : ∀ {P : List Part} {u j : Nat} {p : Part}, Chain x u P → P[j]? = some p → p.u = u + (evsP (P.take j)).length
  | [], _, _, _, _, h => by simp at h
  | q :: r, u, 0, p, h, hj => by
    simp at hj
    subst hj
    simp [evsP, h.1.1]
  | q :: r, u, j + 1, p, h, hj => by
    have := chain_at h.2 (by simpa using hj)
    rw [List.take_succ_cons, evsP, List.length_append]
    omega
theorem chain_ne {x : Nat} : ∀ {P : List Part} {u : Nat}, Chain x u P → ∀ p ∈ P, p.L ≠ []
  | [], _, _, p, hp => by cases hp
  | q :: r, u, h, p, hp => by
    rcases List.mem_cons.1 hp with rfl | hp
    · exact h.1.2.1
    · exact chain_ne h.2 p hp
theorem evsP_take_succ {P : List Part} {j : Nat} {p : Part} (h : P[j]? = some p) : evsP (P.take (j + 1)) = evsP (P.take j) ++ p.L := by
  rw [List.take_add_one, h, evsP_append]
  simp [evsP]
theorem evsP_take_le (P : List Part) (j : Nat) : (evsP (P.take j)).length ≤ (evsP P).length := by
  conv => rhs; rw [← List.take_append_drop j P, evsP_append, List.length_append]
  omega
theorem intWrap_small (j : Nat) (h : j ≤ 1000000000) : wrap64 ((j : Int) + 1) = ((j + 1 : Nat) : Int) := by
  unfold wrap64
  omega
theorem textOk_below {B : List Nat} {w w' : World} {r : EvS} (h : TextOk B w r) (hb : Below w.heap.size w w') : TextOk B w' r := ⟨h.1.below hb, h.2⟩
/-- What `from` gives. -/
def FromGives (O : List Nat) (L : List Ev) (w : World) (e : Ending) (w' : World) : Prop :=
  ∃ A n c, e = .returned (.slice A n c) ∧ SeesEv O w' A n L ∧ n ≤ c ∧ Below w.heap.size w w'

set_option maxRecDepth 100000 in
set_option maxHeartbeats 1000000 in
theorem from_any [Inhabited XS] (d f x : Nat) (sz : Int) (floor time : Nat) (P : List Part) (safe : Nat) (O : List Nat) (h : Hd) (u0 seq most : Nat) (B : List Nat) (w0 w : World) (F0 : Feed w0 d f x sz floor time P safe O h) (hw : Below w0.heap.size w0 w) (hB : ∀ k ∈ B, w0.heap.size ≤ k ∧ k < w.heap.size) (hC : Chain x u0 P) (hfew : u0 + (evsP P).length ≤ 1000) (hs : u0 ≤ seq) (hs2 : seq < 18446744073709551616) (hm : most ≤ 1000000) :
    Calls Tryz.prog 40 #[.pointer (some ⟨f, 0, none⟩), .int .u64 (seq : Int), .int .i64 (most : Int)] w (FromGives (O ++ B) (cutL (evsP P) (seq - u0) most) w) := by
  obtain ⟨R, A, c, S, hR, hO, F0⟩ := F0
  have F := F0.below hw
  have HEV := Lib.hid (fun r (hr : r ∈ R) => (F0.evs r hr).next (B' := O ++ B) (Beside.of_below hw _) (fun k hk => by
    rcases List.mem_append.1 hk with hk | hk
    · rw [hO] at hk; exact .inl (bx_in hk)
    · exact .inr (hB k hk).1))
  have HBB0 := Lib.hid hB
  clear F0 hw hB
  obtain ⟨i, hi, hz, hsz, hby⟩ := info_parts infoE
  have hRl : R.length = P.length := by rw [← hR, List.length_map]
  have hPl := chain_len hC
  have hcap := F.cap
  have hRn : R.length ≤ 1000 := by omega
  have HRN := Lib.hid hRn
  have hbx := (Below.refl w.heap.size w).alloc (Nat.le_refl _) (.cells #[.pointer (some ⟨f, 0, none⟩)] 26)
  have hby' := hbx.alloc hbx.size (.cells #[.int .u64 (seq : Int)] 30)
  have e3 := heap_alloc_new w (.cells #[.pointer (some ⟨f, 0, none⟩)] 26)
  have e4 := heap_alloc_new (w.alloc (.cells #[.pointer (some ⟨f, 0, none⟩)] 26)) (.cells #[.int .u64 (seq : Int)] 30)
  have e3' := (Below.heap_alloc (w.alloc (.cells #[.pointer (some ⟨f, 0, none⟩)] 26)) (.cells #[.int .u64 (seq : Int)] 30) w.heap.size (by simp)).trans e3
  have hz2 : ((w.alloc (.cells #[.pointer (some ⟨f, 0, none⟩)] 26)).alloc (.cells #[.int .u64 (seq : Int)] 30)).heap.size = w.heap.size + 2 := by simp
  rw [show (w.alloc (.cells #[.pointer (some ⟨f, 0, none⟩)] 26)).heap.size = w.heap.size + 1 by simp] at e4
  go_enter Tryz.func40, Tryz.ntmps40
  go_upto_region 1 with fail
  generalize (w.alloc (.cells #[.pointer (some ⟨f, 0, none⟩)] 26)).alloc (.cells #[.int .u64 (seq : Int)] 30) = w2 at hby' e3' e4 hz2 ⊢
  obtain ⟨b3, hb3⟩ : ∃ b3, b3 = w.heap.size := ⟨_, rfl⟩
  obtain ⟨b4, hb4⟩ : ∃ b4, b4 = w.heap.size + 1 := ⟨_, rfl⟩
  rw [← hb4] at e4 ⊢
  rw [← hb3] at e3' ⊢
  have HB3 := Lib.hid hb3
  have HB4 := Lib.hid hb4
  have HZ2 := Lib.hid hz2
  have F2 := F.below hby'
  have W2 := Lib.hid hby'
  have q3 : w2.cell? ⟨b3, 0, none⟩ = some (.pointer (some ⟨f, 0, none⟩)) := by rw [cell_of_row w2 b3 _ _ _ _ e3']; rfl
  obtain ⟨_, _, _, _, _, c5, _⟩ := F2.cells
  have HU : ∀ j r, R[j]? = some r → r.p.u = u0 + (evsP (P.take j)).length ∧ r.p.u + r.p.L.length ≤ 1000 ∧ r.p.u + r.p.L.length = u0 + (evsP (P.take (j + 1))).length ∧ 0 < r.p.L.length := fun j r hj => by
    have hPj : P[j]? = some r.p := by rw [← hR, List.getElem?_map, hj]; rfl
    have h1 := chain_at hC hPj
    have h2 := evsP_take_succ hPj
    have h3 := evsP_take_le P (j + 1)
    have h4 := List.length_pos_iff.2 (chain_ne hC _ (List.mem_of_getElem? hPj))
    rw [h2, List.length_append] at h3
    rw [h2, List.length_append]
    omega
  have hsr := search_any (.pointer (some ⟨b3, 0, none⟩)) (.pointer (some ⟨b4, 0, none⟩)) R.length (fun j => decide (seq < u0 + (evsP (P.take (j + 1))).length)) w2 (by omega)
    (fun W j hW hj => by
      have hj' := List.getElem?_eq_getElem hj
      obtain ⟨h1, h2, h3, _⟩ := HU j _ hj'
      have := fromAsk d f x sz floor time R safe A c S h b3 b4 seq j _ W (F2.below hW) ((hW.block b3 (Array.getElem?_eq_some_iff.1 e3').1).trans e3') ((hW.block b4 (Array.getElem?_eq_some_iff.1 e4).1).trans e4) hj' (by omega)
      rw [h3] at this
      exact this)
    (fun a b hab hb hp => by
      simp only [decide_eq_true_eq] at hp ⊢
      have : (evsP (P.take (a + 1))).length ≤ (evsP (P.take (b + 1))).length := by
        have := evsP_take_le (P.take (b + 1)) (a + 1)
        rw [List.take_take, Nat.min_eq_left (by omega)] at this
        exact this
      omega)
  have HSR := Lib.hid hsr
  have HUh := Lib.hid HU
  have HCAP := Lib.hid hcap
  clear hRn
  clear hsr HU hb3 hb4 hz2 hby' hbx e3 F hcap hRl hPl
  go_wp2_with fail
  refine HSR.out.mono ?_
  rintro e w3 ⟨k, rfl, hk, hlo, hhi, hb3⟩
  have F3 := F2.below hb3
  have g3 := (hb3.block b3 (Array.getElem?_eq_some_iff.1 e3').1).trans e3'
  have g4 := (hb3.block b4 (Array.getElem?_eq_some_iff.1 e4).1).trans e4
  have q3' : w3.cell? ⟨b3, 0, none⟩ = some (.pointer (some ⟨f, 0, none⟩)) := by rw [cell_of_row w3 b3 _ _ _ _ g3]; rfl
  obtain ⟨_, _, _, _, _, c5', _⟩ := F3.cells
  have W3 := Lib.hid (W2.out.trans (hb3.mono W2.out.size))
  have hkc : k ≤ c := Nat.le_trans hk HCAP.out.1
  have HLO := Lib.hid hlo
  have HHI := Lib.hid hhi
  have G4 := Lib.hid g4
  clear q3 c5 e3' e4 hb3 hlo hhi HSR F2 g3 g4
  go_wp2_with fail
  case inl =>
    have hck : c = k := by assumption
    have h0 : ¬ 0 < R.length - k := by have := HCAP.out.1; omega
    have hkn : k = R.length := by have := HCAP.out.1; omega
    have hz0 : R.length - k = 0 := by omega
    have hE : evsP P = evsP (P.take k) := by rw [hkn, ← List.length_map (f := SegS.p), hR, List.take_length]
    have hres : cutL (evsP P) (seq - u0) most = [] := by
      by_cases hk0 : k = 0
      · rw [hE, hk0]; simp [cutL, evsP]
      · have := HLO.out (k - 1) (by omega)
        simp only [decide_eq_false_iff_not] at this
        rw [show k - 1 + 1 = k by omega] at this
        rw [hE]
        exact cutL_none (by omega)
    have HRES := Lib.hid hres
    clear hkn hE hz0 hres
    go_loopw [8, 26] (fun v8 v26 wr => v8 = .slice none 0 0 ∧ v26 = .int .i64 0 ∧ wr = w3) (fun _ _ _ => 0)
    case atStart => exact ⟨rfl, rfl, rfl⟩
    case round =>
      obtain ⟨rfl, rfl, rfl⟩ := hrel
      go_wp2
      go_ret
      exact ⟨none, 0, 0, rfl, by rw [HRES.out]; exact SeesEv.nil _ _ _, Nat.le_refl _, W3.out⟩
  case inr =>
    have hck : ¬ c = k := by assumption
    have hA2 : ∀ b, A = some ⟨b, 0, none⟩ → Option.map (fun x => x.add (k * 4)) A = some ⟨b, k * 4, none⟩ := fun b e => by subst e; simp [add_plain]
    have HA2 := Lib.hid hA2
    clear hA2
    generalize hA2e : Option.map (fun x => x.add (k * 4)) A = A2 at HA2 ⊢
    clear hA2e
    have HCK := Lib.hid hck
    clear hck
    have hlt3 : ∀ q ∈ O ++ B, q < w3.heap.size := fun q hq => by
      rcases List.mem_append.1 hq with hq | hq
      · rw [hO] at hq; exact F3.lt q hq
      · exact Nat.lt_of_lt_of_le (HBB0.out q hq).2 W3.out.size
    go_loopw [8, 26] (fun v8 v26 wr => ∃ (j : Nat) (Aw : Option Addr) (nw cw : Nat) (T : List EvS), v8 = .slice Aw nw cw ∧ v26 = .int .i64 (j : Int) ∧ j ≤ R.length - k ∧ Hid (wr.ownsRow w3.heap.size 37 8 (.slice Aw nw cw) nw (rowsL T)) ∧ Hid (Below w3.heap.size w3 wr) ∧ Hid (T.map EvS.e = cutL (evsP (P.take (k + j))) (seq - u0) most) ∧ Hid (∀ t ∈ T, TextOk (O ++ B) w3 t)) (fun _ v26 _ => (R.length - k) - (intOf v26).toNat)
    case atStart =>
      refine ⟨0, none, 0, 0, [], rfl, rfl, Nat.zero_le _, Lib.hid (own_nil8 _ _ _), Lib.hid (Below.refl _ _), Lib.hid ?_, Lib.hid (fun t ht => by cases ht)⟩
      by_cases hk0 : k = 0
      · rw [hk0]; simp [cutL, evsP]
      · have := HLO.out (k - 1) (by omega)
        simp only [decide_eq_false_iff_not] at this
        rw [show k - 1 + 1 = k by omega] at this
        rw [Nat.add_zero, cutL_none (by omega)]
        rfl
    case round =>
      obtain ⟨j, Aw, nw, cw, T, rfl, rfl, hj, HO, HB, HT, HX⟩ := hrel
      have FW := F3.below (HB.out.mono (Nat.le_refl _))
      have hnw := cutL_len (evsP (P.take (k + j))) (seq - u0) most
      have hTl : T.length = nw := by have := HO.out.1; rw [rowsL_len] at this; omega
      have hTn : (cutL (evsP (P.take (k + j))) (seq - u0) most).length = nw := by rw [← HT.out, List.length_map, hTl]
      rw [hTn] at hnw
      by_cases hlt : j < R.length - k
      · have hjR : k + j < R.length := by omega
        obtain ⟨r, hr⟩ : ∃ r, R[k + j]? = some r := ⟨_, List.getElem?_eq_getElem hjR⟩
        obtain ⟨g, hA, k0, k1, k2, k3⟩ := FW.at_ hr
        have hA2 := HA2.out g hA
        rw [hA2]
        obtain ⟨hu, hu2, hu3, hu4⟩ := HUh.out _ _ hr
        have hask := HHI.out (k + j) (by omega) hjR
        simp only [decide_eq_true_eq] at hask
        rw [← hu3] at hask
        rw [Nat.add_mul] at k0 k1 k2 k3
        have HSE := Lib.hid ((HEV.out r (List.mem_of_getElem? hr)).below W3.out)
        have hjn2 : j < R.length - k := hlt
        have HTN := Lib.hid hTn
        have HTL := Lib.hid hTl
        have HU1 := Lib.hid hu
        have HU3 := Lib.hid hu3
        have FWh := Lib.hid FW
        have hgl : g < wr.heap.size := FW.lt g (by simp [blk, hA])
        have HAh := Lib.hid hA
        have HRR := Lib.hid hr
        clear hA hA2 hu hu3 hTn hTl FW F3 hr hlt hj
        have g1 := heap_alloc_new wr (.cells #[.int .i64 0, .int .u64 0, .slice none 0 0, .int .i64 0] 65)
        have G1 := Lib.hid g1
        clear g1
        go_wp2_with (refine wpList_putRow rfl 65 (.tmp 10) (.tmp 29) rfl wr.heap.size 65 #[.int .i64 0, .int .u64 0, .slice none 0 0, .int .i64 0] #[.int .i64 (x : Int), .int .u64 (r.p.u : Int), .slice r.A r.p.L.length r.p.L.length, .int .i64 (r.p.z x : Int)] rfl rfl ?g1 (by kernel_rfl) rfl (by simp [Value.oneCell']) ?_)
        case g1 => exact G1.out
        intro W' hW' hbe
        obtain ⟨q0, q1, q2, q3⟩ := b4cells hW'
        have hbw : Below wr.heap.size wr W' := Below.beside ((Below.refl wr.heap.size wr).alloc (Nat.le_refl _) _) hbe (by simp) (by simp)
        have HBW := Lib.hid hbw
        have g4 := (HBW.out.block b4 (by have := (Array.getElem?_eq_some_iff.1 G4.out).1; have := HB.out.size; omega)).trans ((HB.out.block b4 (Array.getElem?_eq_some_iff.1 G4.out).1).trans G4.out)
        have q4 : W'.cell? ⟨b4, 0, none⟩ = some (.int .u64 (seq : Int)) := by rw [cell_of_row W' b4 _ _ _ _ g4]; rfl
        clear hW' hbe hbw g4 k0 k1 k2 k3
        by_cases hfull : most ≤ nw
        · have hSEE : SeesEv (O ++ B) W' Aw nw (cutL (evsP (P.take (k + j))) (seq - u0) most) := by
            have hb := HBW.out
            have h1 := SeesEv.of_own (B := O ++ B) HO.out hlt3 (fun t ht => textOk_below (HX.out t ht) HB.out)
            rw [HT.out] at h1
            exact h1.below hb
          have hfin : cutL (evsP P) (seq - u0) most = cutL (evsP (P.take (k + j))) (seq - u0) most := by
            conv => lhs; rw [← List.take_append_drop (k + j) P, evsP_append]
            exact cutL_full (by rw [HTN.out]; exact hfull)
          rw [← hfin] at hSEE
          have BF := Lib.hid (W3.out.trans ((HB.out.trans (HBW.out.mono HB.out.size)).mono W3.out.size))
          have hnc := (own_cap8 HO.out).1
          go_wp2
          go_ret
          exact ⟨Aw, nw, cw, rfl, hSEE, hnc, BF.out⟩
        · obtain ⟨nl, hnl⟩ : ∃ nl, nl = r.p.L.length := ⟨_, rfl⟩
          rw [← hnl] at q2
          obtain ⟨a, ha⟩ : ∃ a, a = seq - r.p.u := ⟨_, rfl⟩
          have hal : a < nl := by omega
          obtain ⟨m, hm9⟩ : ∃ m, m = r.p.u + a := ⟨_, rfl⟩
          have hmx : max (seq : Int) (r.p.u : Int) = (m : Int) := by omega
          have hmw : IntKind.u64.wrap ((m : Int) - (r.p.u : Int)) = (a : Int) := by rw [IntKind.wrap_u64]; omega
          obtain ⟨q, hq9⟩ : ∃ q, q = most - nw := ⟨_, rfl⟩
          have hqw : IntKind.i64.wrap ((most : Int) - (nw : Int)) = (q : Int) := by rw [IntKind.wrap_i64]; omega
          obtain ⟨b, hb9⟩ : ∃ b, b = min (nl - a) q := ⟨_, rfl⟩
          have hmin : min ((nl - a : Nat) : Int) (q : Int) = (b : Int) := by omega
          have hna : ¬ nl = a := by omega
          have hal' : a ≤ nl := by omega
          have hbl : b ≤ nl - a := by omega
          have HNL := Lib.hid hnl
          have HAA := Lib.hid ha
          have HMM := Lib.hid hm9
          have HQ := Lib.hid hq9
          have HBB := Lib.hid hb9
          have HAL := Lib.hid hal
          clear hnl ha hm9 hq9 hb9 hal
          have HW2 := Lib.hid HBW.out.size
          obtain ⟨Sr, hSe, hSl, hSraw, hSout, hStx⟩ := HSE.out
          have hraw' := Seg_cut ((hSraw.below HB.out).below HBW.out) (A' := Option.map (fun x => x.add (a * 8)) r.A) (a := a) (fun bb oo _ e => by rw [e]; simp [add_plain])
          have hraw := Lib.hid (hraw'.take b)
          have hown' := Lib.hid (own_below8 HO.out HBW.out (Nat.le_refl _))
          have hqlen : ((Sr.drop a).take b).length = b := by rw [List.length_take, List.length_drop, hSl]; have := HNL.out; omega
          have HQL := Lib.hid hqlen
          clear hSraw hraw' hqlen
          go_wp2_with (first | (at_builtin; refine wpList_appE rfl _ _ 31 rfl w3.heap.size 37 i zeroEv Tryz.underlying31 hi hz hsz hby zeroEv_cells Aw nw cw T rfl hown'.out (Option.map (fun x => x.add (a * 8)) r.A) b (nl - a) ((Sr.drop a).take b) rfl HQL.out hraw.out ?c1 ?c2 ?_))
          case c1 => have h1 := HBB.out; have h2 := HQ.out; omega
          case c2 => exact Nat.le_trans HB.out.size HW2.out
          intro A' c' w4 hown4 hb4
          go_wp2
          go_roundw
          case rel =>
            have h1 := HBB.out
            have h2 := HQ.out
            have h3 := HNL.out
            have h4 := HAA.out
            have h5 := HTN.out
            have h6 := HU1.out
            have h8 := HRN.out
            refine ⟨j + 1, A', _, c', T ++ (Sr.drop a).take b, rfl, by rw [intWrap_small j (by omega)], by omega, Lib.hid hown4, Lib.hid ((HB.out.trans (HBW.out.mono HB.out.size)).trans hb4), Lib.hid ?_, Lib.hid (fun t ht => ?_)⟩
            · have hPj : P[k + j]? = some r.p := by rw [← hR, List.getElem?_map, HRR.out]; rfl
              rw [show k + (j + 1) = k + j + 1 by omega, evsP_take_succ hPj, cutL_step (by omega), List.map_append, HT.out, List.map_take, List.map_drop, hSe, h5]
              congr 1
              have e1 : seq - u0 - (evsP (P.take (k + j))).length = a := by omega
              rw [e1, ← h2, h1]
              rcases Nat.le_total (nl - a) q with h7 | h7
              · rw [Nat.min_eq_left h7, List.take_of_length_le (by rw [List.length_drop, ← h3]; exact Nat.le_refl _), List.take_of_length_le (by rw [List.length_drop, ← h3]; exact h7)]
              · rw [Nat.min_eq_right h7]
            · rcases List.mem_append.1 ht with ht | ht
              · exact HX.out t ht
              · exact hStx t (List.mem_of_mem_drop (List.mem_of_mem_take ht))
          case measure =>
            have h8 := HRN.out
            rw [intWrap_small j (by omega)]
            simp [intOf]
            omega
      · have hjl : ¬ j < R.length - k := hlt
        have hje : k + j = R.length := by omega
        have hE : evsP (P.take (k + j)) = evsP P := by rw [hje, ← List.length_map (f := SegS.p), hR, List.take_length]
        have hSEE : SeesEv (O ++ B) wr Aw nw (cutL (evsP P) (seq - u0) most) := by
          have h1 := SeesEv.of_own (B := O ++ B) HO.out hlt3 (fun t ht => textOk_below (HX.out t ht) HB.out)
          rw [HT.out, hE] at h1
          exact h1
        have BF := Lib.hid (W3.out.trans (HB.out.mono W3.out.size))
        have hnc := (own_cap8 HO.out).1
        clear hje hE FW F3
        go_wp2
        go_ret
        exact ⟨Aw, nw, cw, rfl, hSEE, hnc, BF.out⟩
end Go.Proofs.YtkphklmgbdljiaaGreatDoor.Fd
