/- Order: Seek. -/
import Derived.Test.YtlacihgoammjgaaOrdSk
namespace Go.Proofs.Ytlacihgoammjgaa.Ord
open Go Go.RowKit Go.Proofs.Ytlacihgoammjgaa.Words Go.Proofs.Ytlacihgoammjgaa.Enc Go.Proofs.Ytlacihgoammjgaa.Evt Go.Proofs.Ytlacihgoammjgaa.Seg
set_option linter.unusedVariables false
set_option linter.unusedSimpArgs false

/-- What the lists of hs are behind a place. -/
structure Past (B : Nat) (w : World) (st : Nat) (sw : Int) (hs0 : List HV) (k : Nat) (hs : List HV) : Prop where
  flat_ : (flat hs).Perm ((flat (hs0.take k)).filter (aftB st sw))
  each : ∀ x ∈ hs, Lies B w x ∧ Rises x.S
  few : hs.length ≤ k
theorem flat_snoc (hs : List HV) (x : HV) : flat (hs ++ [x].filter hasEv) = flat hs ++ x.S := by
  have : flat ([x].filter hasEv) = x.S := by
    rw [flat_filter]
    simp [flat]
  unfold flat at *
  rw [List.flatMap_append, this]
theorem Past.add {B : Nat} {w : World} {st : Nat} {sw : Int} {hs0 : List HV} {k : Nat} {hs hs' : List HV} (h : Past B w st sw hs0 k hs) (hk : k < hs0.length) (x : HV) (hx : x.S = (HV.at_ hs0 k).S.filter (aftB st sw)) (hl : Lies B w x) (hr : Rises x.S) (hp : hs'.Perm (hs ++ [x].filter hasEv)) : Past B w st sw hs0 (k + 1) hs' := by
  refine ⟨?_, fun y hy => ?_, ?_⟩
  · have h1 := flat_perm hp
    rw [flat_snoc] at h1
    refine h1.trans ?_
    have h2 : flat (hs0.take (k + 1)) = flat (hs0.take k) ++ (HV.at_ hs0 k).S := by
      have : HV.at_ hs0 k = hs0[k] := by simp [HV.at_, List.getD_eq_getElem?_getD, List.getElem?_eq_getElem hk]
      rw [this]
      unfold flat
      rw [← List.take_append_getElem hk, List.flatMap_append]
      simp
    rw [h2, List.filter_append, hx]
    exact h.flat_.append_right _
  · rcases List.mem_append.1 (hp.mem_iff.1 hy) with h1 | h1
    · exact h.each y h1
    · obtain rfl := List.mem_singleton.1 (List.mem_filter.1 h1).1
      exact ⟨hl, hr⟩
  · have h1 := hp.length_eq
    have h2 : ([x].filter hasEv).length ≤ 1 := List.length_filter_le _ _
    rw [List.length_append] at h1
    have := h.few
    omega
theorem flat_count (st : Nat) (sw : Int) : ∀ L : List HV, (flat L).countP (fun e => !aftB st sw e) = (L.map fun x => x.S.countP fun e => !aftB st sw e).sum
  | [] => rfl
  | a :: t => by
    have := flat_count st sw t
    unfold flat at *
    rw [List.flatMap_cons, List.countP_append, this, List.map_cons, List.sum_cons]
theorem flat_upto (hs0 : List HV) {k : Nat} (hk : k < hs0.length) : flat (hs0.take (k + 1)) = flat (hs0.take k) ++ (HV.at_ hs0 k).S := by
  have : HV.at_ hs0 k = hs0[k] := by simp [HV.at_, List.getD_eq_getElem?_getD, List.getElem?_eq_getElem hk]
  rw [this]
  unfold flat
  rw [← List.take_append_getElem hk, List.flatMap_append]
  simp
theorem flat_take_le2 (L : List HV) (i : Nat) : (flat (L.take i)).length ≤ (flat L).length := by
  unfold flat
  conv => rhs; rw [← List.take_append_drop i L]
  rw [List.flatMap_append, List.length_append]
  omega

theorem lies_drop {B : Nat} {w : World} {x : HV} (h : Lies B w x) {q : Nat} (hq : q ≤ x.S.length) (A5 : Option Addr) (hA : ∀ b o, q < x.S.length → x.S.length ≤ x.c → x.A = some ⟨b, o, none⟩ → A5 = some ⟨b, o + q * 8, none⟩) : Lies B w ⟨A5, x.c - q, x.S.drop q⟩ := by
  refine ⟨⟨by show (x.S.drop q).length ≤ x.c - q; rw [List.length_drop]; have := h.1.1; omega, by show x.c - q ≤ _; have := h.1.2; omega⟩, fun h0 => ?_⟩
  have h0' : q < x.S.length := by have h1 : 0 < (x.S.drop q).length := h0; rw [List.length_drop] at h1; omega
  obtain ⟨b, o, h1, h2, h3⟩ := h.2 (by omega)
  obtain ⟨b', o', h4, h5⟩ := RawEv.drop (w := w) (b := b) (o := o) (S := x.S) (fun _ => ⟨b, o, rfl, h3⟩) q h0' h0
  cases h4
  exact ⟨b, o + q * 8, h1, hA b o h0' h.1.1 h2, h5⟩
theorem Lies.wide {B B' : Nat} {w : World} {x : HV} (h : Lies B w x) (hB : B ≤ B') : Lies B' w x := ⟨h.1, fun h0 => by
  obtain ⟨b, o, h1, h2⟩ := h.2 h0
  exact ⟨b, o, by omega, h2⟩⟩
set_option maxRecDepth 100000 in
set_option maxHeartbeats 4000000 in
theorem seek_any {B p : Nat} {T : TypeId} {A : Option Addr} {c : Nat} {hs : List HV} {w : World} (h : HeadsAt B p T A c hs w) (hr : ∀ x ∈ hs, Rises x.S) (hn : hs.length ≤ 1000) (hf : (flat hs).length ≤ 1000) (st : Nat) (sw : Int) :
    Calls Try.prog 18 #[.pointer (some ⟨p, 0, none⟩), .agg #[.int .u64 (st : Int), .int .i64 sw]] w fun e w' => ∃ hs', e = .returned (.int .i64 (((flat hs).countP fun e => !aftB st sw e : Nat) : Int)) ∧ HeapAt B p T hs' w' ∧ (flat hs').Perm ((flat hs).filter (aftB st sw)) ∧ (∀ x ∈ hs', Rises x.S) ∧ hs'.length ≤ hs.length ∧ Below B w w' ∧ Beside [p] w w' := by
  obtain ⟨u0, hu0⟩ : ∃ u, u = w.alloc (.cells #[.int .u64 (st : Int), .int .i64 sw] 42) := ⟨_, rfl⟩
  obtain ⟨u, hu⟩ : ∃ u, u = u0.alloc (.cells #[.slice none 0 0] 68) := ⟨_, rfl⟩
  have b0 : Below w.heap.size w u0 := by rw [hu0]; exact (Below.refl _ _).alloc (Nat.le_refl _) _
  have hsz : u0.heap.size = w.heap.size + 1 := by rw [hu0]; simp
  have b1 : Below u0.heap.size u0 u := by rw [hu]; exact (Below.refl _ _).alloc (Nat.le_refl _) _
  have g0 : u.heap[w.heap.size]? = some (.cells #[.int .u64 (st : Int), .int .i64 sw] 42 (0, 0)) := (b1.block _ (by omega)).trans (by rw [hu0]; exact heap_alloc_new w _)
  have bu : Below w.heap.size w u := b0.trans (b1.mono b0.size)
  obtain ⟨rb, hrb⟩ : ∃ rb, rb = w.heap.size + 1 := ⟨_, rfl⟩
  have g1 : u.heap[rb]? = some (.cells #[.slice none 0 0] 68 (0, 0)) := by rw [hu, hrb, ← hsz]; exact heap_alloc_new u0 _
  have hus : u.heap.size = rb + 1 := by rw [hu, World.size_alloc, hsz, hrb]
  have H0 : HeapAt rb rb 68 [] u := ⟨⟨none, 0, g1, World.ownsRow_nil _ _ _ 1, fun a ha => (by cases ha), Nat.le_refl _, fun x hx => (by cases hx)⟩, fun k h1 h2 => by simp at h2, fun x hx => by cases hx⟩
  have hps := (Array.getElem?_eq_some_iff.1 h.box).1
  obtain ⟨N, hN⟩ : ∃ N, N = hs.length := ⟨_, rfl⟩
  have HH := Lib.hid (And.intro h (And.intro hr hN))
  have HB := Lib.hid (And.intro bu (And.intro g0 (And.intro hus hps)))
  have HRB := Lib.hid hrb
  have hc0 := (bu.cell (p := ⟨p, 0, none⟩) hps).trans h.cell
  have HF := Lib.hid hf
  have HN := Lib.hid hN
  rw [← hN] at hn hc0 ⊢
  have HU0 := Lib.hid hu0
  have HU := Lib.hid hu
  have HH0 := Lib.hid H0
  have hp0 : p < rb := by omega
  have HLOW := Lib.hid h.low
  clear hu0 hu hsz b0 b1 g0 bu g1 hus H0 hps hN h hr hrb hf
  obtain ⟨F, hF⟩ : ∃ F, F = (flat hs).countP fun e => !aftB st sw e := ⟨_, rfl⟩
  rw [← hF]
  have HFF := Lib.hid hF
  clear hF
  go_enter Try.func18, Try.ntmps18
  go_upto_region 5 with fail
  rw [← HU0.out, ← HU.out]
  try rw [← HRB.out]
  go_wp2_with fail
  go_loopw [5, 8, 9, 17, 18, 19, 20, 21, 22, 23, 24, 25, 26, 27, 28, 29, 30, 31] (fun a5 a8 a9 a17 a18 a19 a20 a21 a22 a23 a24 a25 a26 a27 a28 a29 a30 a31 wr => ∃ k P : Nat, a17 = .int .i64 (k : Int) ∧ a5 = .int .i64 (P : Int) ∧ k ≤ N ∧ Hid (P = (flat (hs.take k)).countP fun e => !aftB st sw e) ∧ Hid (∃ hs1, HeapAt rb rb 68 hs1 wr ∧ Past B w st sw hs k hs1 ∧ Below rb u wr)) (fun a5 a8 a9 a17 a18 a19 a20 a21 a22 a23 a24 a25 a26 a27 a28 a29 a30 a31 _ => N - (intOf a17).toNat)
  case atStart => exact ⟨0, 0, rfl, rfl, Nat.zero_le _, Lib.hid (by simp [flat]), Lib.hid ⟨[], HH0.out, ⟨by simp [flat], fun x hx => (by cases hx), Nat.zero_le _⟩, Below.refl _ _⟩⟩
  case round =>
    obtain ⟨k, P, rfl, rfl, hk, HP, HR⟩ := hrel
    by_cases hlt : k < N
    · obtain ⟨hs1, hA1, hPa, hb1⟩ := HR.out
      have hkh : k < hs.length := by rw [← HN.out]; exact hlt
      obtain ⟨g, rfl, hg, hgp, hcells⟩ := HH.out.1.get (by omega)
      have hck := hcells k hkh
      have hgw : g < w.heap.size := World.block_lt_of_cell? _ _ hck
      have hbw : Below w.heap.size w wr := HB.out.1.trans (hb1.mono (by rw [HRB.out]; omega))
      have hcx := (hbw.cell (p := ⟨g, k, none⟩) hgw).trans hck
      have hxm := at_mem hkh
      have hlie := HH.out.1.lie _ hxm
      have hris := HH.out.2.1 _ hxm
      have hBw : B ≤ w.heap.size := by have := HLOW.out; have := HB.out.2.2.2; omega
      have hlr := hlie.below (hbw.mono hBw)
      have hPk := HP.out
      have hcnt : (flat (hs.take (k + 1))).countP (fun e => !aftB st sw e) = P + (HV.at_ hs k).S.countP (fun e => !aftB st sw e) := by
        rw [flat_upto hs hkh, List.countP_append, ← hPk]
      have hPle : P + (HV.at_ hs k).S.countP (fun e => !aftB st sw e) ≤ 1000 := by
        rw [← hcnt]
        exact Nat.le_trans List.countP_le_length (Nat.le_trans (flat_take_le2 hs (k + 1)) HF.out)
      have hSle : (HV.at_ hs k).S.length ≤ 1000 := by
        have h1 := flat_take_le2 hs (k + 1)
        rw [flat_upto hs hkh, List.length_append] at h1
        have := HF.out
        omega
      have hdrop := split_aft st sw (HV.at_ hs k).S hris
      have hq : (HV.at_ hs k).S.countP (fun e => !aftB st sw e) ≤ (HV.at_ hs k).S.length := List.countP_le_length
      have UP := upto_any (HV.at_ hs k).A (HV.at_ hs k).c (HV.at_ hs k).S st sw wr (fun h0 => by
        obtain ⟨b, o, h1, h2, h3⟩ := hlr.2 h0
        exact ⟨b, o, h2, h3⟩) hris (by omega)
      obtain ⟨s0, s1⟩ : wr.cell? ⟨w.heap.size, 0, none⟩ = some (.int .u64 (st : Int)) ∧ wr.cell? ⟨w.heap.size, 1, none⟩ = some (.int .i64 sw) := by
        have := (hb1.block w.heap.size (by rw [HRB.out]; omega)).trans HB.out.2.1
        exact ⟨by rw [cell_of_row wr _ 0 _ _ _ this]; rfl, by rw [cell_of_row wr _ 1 _ _ _ this]; rfl⟩
      have HST := Lib.hid (And.intro hA1 (And.intro hPa (And.intro hb1 (And.intro hlie hris))))
      have HD := Lib.hid hdrop
      have HCN := Lib.hid hcnt
      unfold HV.val at hcx
      have HX := Lib.hid (show HV.at_ hs k = HV.at_ hs k from rfl)
      have hcap : (HV.at_ hs k).S.length ≤ (HV.at_ hs k).c ∧ (HV.at_ hs k).c ≤ 9223372036854775807 := hlie.1
      obtain ⟨x, hx⟩ : ∃ x, x = HV.at_ hs k := ⟨_, rfl⟩
      rw [← hx] at hcx UP HST HD HCN hq hPle hSle hcap
      obtain ⟨q, hqe⟩ : ∃ q, q = x.S.countP (fun e => !aftB st sw e) := ⟨_, rfl⟩
      rw [← hqe] at UP HD HCN hq hPle
      obtain ⟨m, hme⟩ : ∃ m, m = x.S.length := ⟨_, rfl⟩
      rw [← hme] at hcx UP hq hSle hcap
      have HXE := Lib.hid (And.intro hx (And.intro hqe hme))
      have HUP := Lib.hid UP
      have zk : (k : Int) < (N : Int) := by omega
      have zk0 : (0 : Int) ≤ (k : Int) := by omega
      clear hx hqe hme hA1 hPa hb1 hcells hck hbw hxm hlie hris hlr hPk hcnt hdrop UP hkh HX
      go_wp2_with fail
      refine HUP.out.mono ?_
      rintro e w3 ⟨rfl, hb3⟩
      have HB3 := Lib.hid hb3
      clear hb3 HUP s0 s1
      go_wp2_with (first | (refine wpList_sliceL rfl 26 (.tmp 27) (.tmp 28) rfl x.A m x.c q 8 rfl rfl hq elemEv sizeEv ?_))
      intro A5 hA5
      rw [show (P : Int) + (q : Int) = ((P + q : Nat) : Int) by omega]
      obtain ⟨PQ, hPQ⟩ : ∃ PQ, PQ = P + q := ⟨_, rfl⟩
      rw [← hPQ]
      have HPQ := Lib.hid hPQ
      obtain ⟨hA1, hPa, hb1, hlie, hris⟩ := HST.out
      obtain ⟨hxe, hqe, hme⟩ := HXE.out
      have hld := lies_drop hlie (by rw [← hme]; exact hq) A5 (by rw [← hme]; exact fun b o h1 _ h2 => hA5 b o h1 h2)
      have hrs : rb < wr.heap.size := by obtain ⟨⟨A8, c8, h8⟩, _⟩ := hA1; exact (Array.getElem?_eq_some_iff.1 h8.box).1
      have hbw3 : Below rb u w3 := hb1.trans (HB3.out.mono (by omega))
      have hwB : Below w.heap.size w w3 := HB.out.1.trans (hbw3.mono (by rw [HRB.out]; omega))
      have hBw : B ≤ w.heap.size := by have := HLOW.out; have := HB.out.2.2.2; omega
      have hA3 : HeapAt rb rb 68 hs1 w3 := by obtain ⟨⟨A8, c8, h8⟩, h9⟩ := hA1; exact ⟨⟨A8, c8, h8.below HB3.out⟩, h9⟩
      have AD := add_any hA3 (Nat.le_of_lt (Nat.lt_of_lt_of_le hrs HB3.out.size)) ⟨A5, x.c - q, x.S.drop q⟩ ((hld.below (hwB.mono hBw)).wide (by rw [HRB.out]; omega)) (by have := hPa.few; omega)
      have hval : HV.val ⟨A5, x.c - q, x.S.drop q⟩ = .slice A5 (m - q) (x.c - q) := by unfold HV.val; rw [List.length_drop, hme]
      rw [hval] at AD
      have HAD := Lib.hid AD
      have NEXT : Hid (∀ W, (∃ hs', HeapAt rb rb 68 hs' W ∧ hs'.Perm (hs1 ++ [(⟨A5, x.c - q, x.S.drop q⟩ : HV)].filter hasEv)) → Below rb w3 W → Hid (PQ = (flat (hs.take (k + 1))).countP fun e => !aftB st sw e) ∧ Hid (∃ hs1, HeapAt rb rb 68 hs1 W ∧ Past B w st sw hs (k + 1) hs1 ∧ Below rb u W)) := Lib.hid fun W hW hbW => by
        obtain ⟨hs', h1, h2⟩ := hW
        refine ⟨Lib.hid (by rw [hPQ, HCN.out]), Lib.hid ⟨hs', h1, hPa.add (by rw [← HN.out]; exact hlt) _ (by rw [← hxe]; exact HD.out) hld (hris.sublist (List.drop_sublist _ _)) h2, hbw3.trans hbW⟩⟩
      clear hA1 hPa hb1 hlie hris hxe hqe hme hld hrs hbw3 hwB hBw hA3 AD hval hA5 HST HXE HD HCN HB3 HR HP hPQ hq hPle hSle hcap
      go_wp2_with fail
      refine HAD.out.mono ?_
      rintro e w4 ⟨rfl, h4, hb4⟩
      obtain ⟨N1, N2⟩ := NEXT.out w4 h4 hb4
      clear h4 hb4 HAD NEXT
      go_wp2
      go_roundw
      case rel => exact ⟨k + 1, PQ, by simp, rfl, by omega, N1, N2⟩
      case measure => simp [intOf]; omega
    · obtain rfl : k = N := by omega
      obtain ⟨hs1, ⟨⟨A2, c2, hat⟩, hheap⟩, hPa, hb1⟩ := HR.out
      have htk : hs.take k = hs := List.take_of_length_le (by rw [← HN.out]; exact Nat.le_refl _)
      have hPF : P = F := by rw [HP.out, HFF.out, htk]
      have hrbw : rb < wr.heap.size := (Array.getElem?_eq_some_iff.1 hat.box).1
      have hcr := hat.cell
      have hbw : Below w.heap.size w wr := HB.out.1.trans (hb1.mono (by rw [HRB.out]; omega))
      have hbox := (hbw.block p HB.out.2.2.2).trans HH.out.1.box
      have hfp : wr.frozen? ⟨p, 0, none⟩ = false := frozen_row0 hbox
      have hcp : wr.cell? ⟨p, 0, none⟩ = some (.slice A k c) := by rw [cell_of_row wr p _ _ _ _ hbox, ← HN.out]; rfl
      have hBw : B ≤ w.heap.size := by have := HLOW.out; have := HB.out.2.2.2; omega
      have hbf : Below B w (wr.setCell ⟨p, 0, none⟩ (.slice A2 hs1.length c2)) := (hbw.mono hBw).setCell (p := ⟨p, 0, none⟩) HLOW.out _
      have hbsd : Beside [p] w (wr.setCell ⟨p, 0, none⟩ (.slice A2 hs1.length c2)) := (Beside.of_below hbw [p]).setCell (p := ⟨p, 0, none⟩) (by simp) _
      have hFIN : HeapAt B p T hs1 (wr.setCell ⟨p, 0, none⟩ (.slice A2 hs1.length c2)) := by
        refine ⟨⟨A2, c2, ⟨?_, ⟨hat.own.1, ?_⟩, fun a ha => ?_, HLOW.out, fun x hx => ((hPa.each x hx).1).below hbf⟩⟩, hheap⟩
        · rw [heapSame hbox]; rfl
        · rcases hat.own.2 with hn | ⟨g, cap, cur, hv, hg, hh, r⟩
          · exact .inl hn
          · exact .inr ⟨g, cap, cur, hv, by have := HRB.out; omega, (heapOther (by omega)).trans hh, r⟩
        · rcases hat.own.2 with ⟨hv, _⟩ | ⟨g, cap, cur, hv, hg, _⟩
          · rw [ha] at hv; cases hv
          · rw [ha] at hv
            injection hv with h1
            injection h1 with h1
            subst h1
            show g ≠ p
            omega
      have hpm := hPa.flat_
      rw [htk] at hpm
      have HFI := Lib.hid (And.intro hFIN (And.intro hpm (And.intro (fun x hx => (hPa.each x hx).2 : ∀ x ∈ hs1, Rises x.S) (And.intro hPa.few (And.intro hbf hbsd)))))
      have hne : ¬ p = rb := by omega
      have hne2 : ¬ rb = p := by omega
      subst hPF
      clear hat hPa hb1 htk hbox hFIN hpm hbf hbsd HR HP HH
      go_wp2
      go_ret
      exact ⟨hs1, rfl, HFI.out.1, HFI.out.2.1, HFI.out.2.2.1, HFI.out.2.2.2.1, HFI.out.2.2.2.2⟩
end Go.Proofs.Ytlacihgoammjgaa.Ord
