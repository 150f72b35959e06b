/- Layer 15: the law ViewTells. The document's fold: Apply of an event that may not be. -/
import Derived.Test.YtmogoopkjkdkgaaGreatVTp19
import Derived.Test.YtmogoopkjkdkgaaGreatVTp20
import Derived.Test.YtmogoopkjkdkgaaGreatVTp21
import Derived.Test.YtmogoopkjkdkgaaGreatVTp24
import Derived.Test.YtmogoopkjkdkgaaGreatVTp25
import Derived.Test.YtmogoopkjkdkgaaGreatVTp27
import Derived.Test.YtmogoopkjkdkgaaGreatVTp28
namespace Go.Proofs.YtmogoopkjkdkgaaGreat.Vw
open Go Go.RowKit Go.Proofs.YtmogoopkjkdkgaaGreat.Words Go.Proofs.YtmogoopkjkdkgaaGreat.Enc Go.Proofs.YtmogoopkjkdkgaaGreat.Q Go.Proofs.YtmogoopkjkdkgaaGreat.Evt Go.Proofs.YtmogoopkjkdkgaaGreat.Seg Go.Proofs.YtmogoopkjkdkgaaGreat.Fol Go.Proofs.YtmogoopkjkdkgaaGreat.Ord
set_option linter.unusedVariables false
set_option linter.unusedSimpArgs false

/-- A fold. -/
def PFoldW (F : Fo) : Facts.Pred := ⟨fun v w => ∃ S d mb, v = .pointer (some ⟨d, 0, none⟩) ∧ FoldAt w S d mb F, fun v w w' ⟨S, d, mb, h, hf⟩ hb => ⟨S, d, mb, h, hf.below hb⟩⟩
def PFoldL (F : Fo) : Facts.Pred := ⟨fun v w => ∃ d mb, v = .pointer (some ⟨d, 0, none⟩) ∧ FoldAt w [d, mb] d mb F, fun v w w' ⟨d, mb, h, hf⟩ hb => ⟨d, mb, h, hf.below hb⟩⟩
def PRowF (l : List UInt8) : Facts.Pred := ⟨fun v w => ∃ A c, v = .slice A l.length c ∧ Sees w A l.length l, fun v w w' ⟨A, c, h, hs⟩ hb => ⟨A, c, h, hs.below hb⟩⟩

/-- What the document's Encode is known to do (FolX: refEnc_any). -/
def RefEncAny : Prop := ∀ {S : List Nat} {La : Option Addr} {lc : Nat} {L : List (Key × RC)} {Ja : Option Addr} {Jc : Nat} {Ra : Option Addr} {Rc : Nat} {Ha : Option Addr} {Hc T W0 M : Nat} {F : Fo} (w : World) (r : RefAt w S La lc L ⟨Ja, Jc, Ra, Rc, Ha, Hc, T, W0, M⟩ F) (ok : Ok F) (hf : (foldL F).length ≤ 100000000), Calls Tryz.prog 23 #[.agg (rv La L.length lc ⟨Ja, Jc, Ra, Rc, Ha, Hc, T, W0, M⟩)] w (GivesR w (foldL F))
theorem make5 (W : World) : (Instr.makeSlice 26 (.int .i64 5) (.int .i64 5)).run Tryz.prog W = .ok (.slice (some ⟨W.heap.size, 0, none⟩) 5 5) (W.alloc (.cells ((List.replicate 5 (⟨none, 0, []⟩ : HV)).map HV.val).toArray 24)) := make_ll W 5 (by omega)
set_option maxRecDepth 100000 in
set_option maxHeartbeats 8000000 in
theorem tells_law (AS : ApplySaid) (RE : RefEncAny) (SV : SameVSaid) (A : Option Addr) (n c : Nat) (l : List Nat) (ca : Nat) (w : World) (h : SeesH w A n l) (ha : ca < 256) :
    Calls Tryz.prog 3 #[.slice A n c, .int .u8 (ca : Int)] w fun e w' => e = .returned (.bool true) ∧ Below w.heap.size w w' := by
  have hsf := store_float Tryz.prog
  have AW := fun w => awakeV_yes w
  have HSH := Lib.hid h
  clear h
  by_cases hbig : 60 < n
  · have zb : (60 : Int) < (n : Int) := by omega
    go_enter Tryz.func3, Tryz.ntmps3
    go_wp2_with fail
    refine (AW w).mono ?_
    rintro e w2 ⟨rfl, hb2⟩
    go_wp2_with fail
    refine (AW w2).mono ?_
    rintro e w3 ⟨rfl, hb3⟩
    have HF := Lib.hid (hb2.trans (hb3.mono hb2.size))
    clear hb2 hb3
    go_wp2
    go_ret
    exact ⟨rfl, HF.out⟩
  · have zb : (n : Int) ≤ 60 := by omega
    have hn60 : n ≤ 60 := by omega
    clear hbig
    go_enter Tryz.func3, Tryz.ntmps3
    go_wp2_with fail
    refine (AW w).mono ?_
    rintro e w3 ⟨rfl, hb3⟩
    have HB3 := Lib.hid hb3
    have FEE := Lib.hid (feeds_any A n c 3 l w3 (HSH.out.below hb3) hn60 (by omega) (by omega))
    clear hb3 AW
    go_wp2_with fail
    refine FEE.out.mono ?_
    rintro e w4 ⟨L, T, rfl, FE⟩
    have hGL := feeds_good FE (by omega) (by omega)
    have hLn := FE.lenL
    have HB4 := Lib.hid (HB3.out.trans (FE.below.mono HB3.out.size))
    have WH := refWhole_any (some ⟨w3.heap.size, 0, none⟩) 3 L w4 hGL.lists (Nat.le_refl _) (by omega) (by have := FE.few; omega)
    rw [hLn] at WH
    have HWH := Lib.hid WH
    have HFE := Lib.hid FE
    clear WH hGL FE hLn FEE
    go_wp2_with fail
    refine HWH.out.mono ?_
    rintro e w5 ⟨AR, cR, R, rfl, hown, hperm, hrise, hb5⟩
    obtain ⟨E, hlen⟩ := evs_of HFE.out (by omega) (by omega) hown hperm hrise hb5
    have hcap := own_cap8 hown
    have hflat : (flat L).length = R.length := hperm.length_eq.symm
    rw [hflat] at hcap ⊢
    have anti := feeds_antiR HFE.out hperm
    have hwr : ∀ r ∈ R, ∃ k : Nat, k < 3 ∧ r.e.writer = (k : Int) := fun r hr => writer_lt HFE.out (hperm.mem_iff.1 hr)
    have HB5 := Lib.hid (HB4.out.trans (hb5.mono HB4.out.size))
    have HE := Lib.hid E
    have HAN := Lib.hid anti
    have HCAP := Lib.hid hcap
    have HWR := Lib.hid hwr
    obtain ⟨N, hN⟩ : ∃ N, N = R.length := ⟨_, rfl⟩
    obtain ⟨p, hp⟩ : ∃ p, p = ca % (N + 1) := ⟨_, rfl⟩
    have hpN : p ≤ N := by rw [hp]; have := Nat.mod_lt ca (show 0 < N + 1 by omega); omega
    have hpm : Int.tmod (ca : Int) ((N : Int) + 1) = (p : Int) := by rw [Int.tmod_eq_emod_of_nonneg (by omega), hp]; simp
    have hN60 : N ≤ 60 := by omega
    have hN61 : (N : Int) ≤ 60 := by omega
    rw [← hN]
    have HNN := Lib.hid (And.intro hN (And.intro hN60 hpN))
    clear HWH hown hperm hrise hb5 E hlen hcap hflat anti hN hp hN60 hpN HSH HFE hwr
    have MK := make5 w5
    have HLS := Lib.hid (ls_start w5 R p)
    obtain ⟨lb, hlb⟩ : ∃ b, b = w5.heap.size := ⟨_, rfl⟩
    obtain ⟨u, hu⟩ : ∃ u, u = w5.alloc (.cells ((List.replicate 5 (⟨none, 0, []⟩ : HV)).map HV.val).toArray 24) := ⟨_, rfl⟩
    rw [← hu] at MK HLS
    rw [← hlb] at MK HLS
    have HLB := Lib.hid hlb
    clear hlb hu
    go_wp2_with fail
    go_loopw [8] (fun y W => ∃ (i : Nat) (Ls : List HV), y = .int .i64 (i : Int) ∧ p ≤ i ∧ i ≤ N ∧ Hid (LsAt lb lb w5 R p i Ls W)) (fun y _ => N - (intOf y).toNat)
    case atStart => exact ⟨p, _, rfl, Nat.le_refl _, HNN.out.2.2, HLS⟩
    case round =>
      obtain ⟨i, Ls, rfl, hpi, hiN, HL⟩ := hrel
      by_cases hlt : i < N
      · have zi : (i : Int) < (N : Int) := by omega
        have zi0 : (0 : Int) ≤ (i : Int) := by omega
        have zi60 : (i : Int) < 60 := by omega
        obtain ⟨r, hr⟩ : ∃ r, R[i]? = some r := ⟨_, List.getElem?_eq_getElem (by rw [← HNN.out.1]; exact hlt)⟩
        have hrm := List.mem_of_getElem? hr
        have hbl : Below w5.heap.size w5 wr := by rw [← HLB.out]; exact HL.out.parts.below
        obtain ⟨wk, hwk3, hwke⟩ := HWR.out r hrm
        obtain ⟨b, o, hARe, q0, q1, q2, q3, q4, q5, q6, q7⟩ := RawEv.at_ (HE.out.below hbl).sees.raw hr
        have hblt : b < lb := by
          have h1 := RawEv.at_ HE.out.sees.raw hr
          obtain ⟨b', o', h2, h3, _⟩ := h1
          rw [hARe] at h2
          cases h2
          rw [HLB.out]
          exact World.block_lt_of_cell? _ _ h3
        subst hARe
        rw [show 8 * i = i * 8 by omega] at q0 q1 q2 q3 q4 q5 q6 q7
        have HRR := Lib.hid (And.intro hr hrm)
        obtain ⟨⟨ew, sq, et, kd, key, text, num, node⟩, rA, rn, rc⟩ := r
        simp only [] at hwke q0 q1 q2 q3 q4 q5 q6 q7
        subst hwke
        obtain ⟨k, hk⟩ : ∃ k, k = wk + 1 := ⟨_, rfl⟩
        have zk : (wk : Int) + 1 = (k : Int) := by omega
        have zk5 : (k : Int) < 5 := by omega
        have zk0 : (0 : Int) ≤ (k : Int) := by omega
        have hwk : IntKind.i64.wrap (k : Int) = (k : Int) := by rw [IntKind.wrap_i64]; omega
        obtain ⟨hv, hhv⟩ : ∃ hv, Ls[k]? = some hv := ⟨_, List.getElem?_eq_getElem (by rw [HL.out.parts.len]; omega)⟩
        have hco : wr.cell? ⟨lb, k, none⟩ = some hv.val := by
          rw [cell_of_row wr lb k _ _ _ HL.out.parts.out, List.getElem?_toArray, List.getElem?_map, hhv]; rfl
        have hsl : hv.S.length ≤ 60 := by
          have h1 : hv.S.length ≤ (flat Ls).length := by
            have : hv ∈ Ls := List.mem_of_getElem? hhv
            obtain ⟨s, t, e⟩ := List.append_of_mem this
            unfold flat
            rw [e, List.flatMap_append, List.length_append, List.flatMap_cons, List.length_append]
            omega
          have h2 := HL.out.perm.length_eq
          rw [List.length_take, List.length_drop] at h2
          have := HNN.out
          omega
        unfold HV.val at hco
        obtain ⟨sl, hsle⟩ : ∃ sl, sl = hv.S.length := ⟨_, rfl⟩
        obtain ⟨xa, hxa⟩ : ∃ xa, xa = hv.A := ⟨_, rfl⟩
        obtain ⟨xc, hxc⟩ : ∃ xc, xc = hv.c := ⟨_, rfl⟩
        rw [← hxa, ← hxc, ← hsle] at hco
        rw [← hsle] at hsl
        have hrw : wr.ownsRow lb 32 8 (.slice xa sl xc) sl (rowsL hv.S) := by
          rw [hxa, hxc, hsle]; exact HL.out.parts.own hv (List.mem_of_getElem? hhv)
        have hsz := HL.out.parts.below.size
        have hlbw : lb ≤ wr.heap.size := by have := HL.out.parts.new.2; omega
        have FINAL : ∀ (W w10 : World) (g' cap' : Nat), Below wr.heap.size wr W → w10.ownsRow lb 32 8 (.slice (some ⟨g', 0, none⟩) (sl + 1) cap') (sl + 1) (rowsL hv.S ++ ([.int .i64 (wk : Int), .int .u64 (sq : Int), .int .u64 (et : Int), .int .u8 (kd : Int), .string key, .slice rA rn rc, .float .f64 num, .int .i64 node] : List Value)) → W.grownBy w10 (Value.slice xa sl xc).ownBlock → ((Value.slice xa sl xc).ownBlock = some g' ∨ wr.heap.size ≤ g') →
            w10.cell? ⟨b, o + i * 8, none⟩ = some (.int .i64 (wk : Int)) ∧ w10.cell? ⟨lb, k, none⟩ = some (.slice xa sl xc) ∧ w10.frozen? ⟨lb, k, none⟩ = false ∧ Hid (∃ Ls', LsAt lb lb w5 R p (i + 1) Ls' (w10.setCell ⟨lb, k, none⟩ (.slice (some ⟨g', 0, none⟩) (sl + 1) cap'))) := fun W w10 g' cap' hW hown hg hat => by
          rw [hxa, hxc, hsle] at hg hat
          rw [hsle] at hown
          obtain ⟨h1, h2, h3⟩ := HL.out.parts.put hhv (⟨⟨(wk : Int), sq, et, kd, key, text, num, node⟩, rA, rn, rc⟩ : EvS) hW hown hg hat
          have h4 := HL.out.next HE.out.rise hpi HRR.out.1 hhv h3
          rw [← hsle] at h4
          refine ⟨?_, ?_, frozen_row0 h1, Lib.hid ⟨_, h4⟩⟩
          · rw [h2.cell hblt]; exact q0
          · rw [cell_of_row w10 lb k _ _ _ h1, List.getElem?_toArray, List.getElem?_map, hhv, hxa, hsle, hxc]; rfl
        have HFIN := Lib.hid FINAL
        have hal : ∀ (a : Addr) (v : Value) (o : Obj), wr.cell? a = some v → (wr.alloc o).cell? a = some v := fun a v o hc => by
          rw [((Below.refl wr.heap.size wr).alloc (Nat.le_refl _) o).cell (World.block_lt_of_cell? _ _ hc)]; exact hc
        have q0a := fun o => hal _ _ o q0
        have q1a := fun o => hal _ _ o q1
        have q2a := fun o => hal _ _ o q2
        have q3a := fun o => hal _ _ o q3
        have q4a := fun o => hal _ _ o q4
        have q5a := fun o => hal _ _ o q5
        have q6a := fun o => hal _ _ o q6
        have q7a := fun o => hal _ _ o q7
        have hcoa := fun o => hal _ _ o hco
        obtain ⟨xs, hxs⟩ : ∃ xs, xs = rowsL hv.S := ⟨_, rfl⟩
        rw [← hxs] at hrw HFIN
        have HROW := Lib.hid hrw
        obtain ⟨ie, hie, hze, hsze, hbye⟩ := info_parts infoEv
        have ROW : ∀ W, Below wr.heap.size wr W → W.ownsRow lb 32 8 (.slice xa sl xc) sl xs := fun W hW => own_below8 HROW.out hW (Nat.le_refl _)
        have hmx : sl + 1 ≤ maxLen := by unfold maxLen; omega
        have hn2 : (sl + 1) * 88 ≤ 140737488355328 := by omega
        have HKK := Lib.hid hk
        clear FINAL hal hrw hxs hsle hxa hxc hhv hk hrm hr hbl hwk3 hblt hsz
        go_upto_region 9 with fail
        go_region_law
          (first
           | (refine step_append_lies _ rfl (.tmp 51) (.tmp 56) 24 rfl lb 32 ie zeroEV 8 88 Tryz.underlying24 hie hze hsze hbye rfl (by decide) (.slice xa sl xc) sl xs (by simp [Act.eval, Act.put]) (ROW _ (by first | exact (Below.refl _ _).alloc (Nat.le_refl _) _ | exact (Below.refl _ _).drew.alloc (Nat.le_refl _) _ | exact ((Below.refl _ _).alloc (Nat.le_refl _) _).drew)) ⟨wr.heap.size, 0, none⟩ 1 1 (#[.int .i64 (wk : Int), .int .u64 (sq : Int), .int .u64 (et : Int), .int .u8 (kd : Int), .string key, .slice rA rn rc, .float .f64 num, .int .i64 node] : Array Value).toList (by simp [Act.eval, Act.put]) rfl (World.news_of_block (by first | exact heap_alloc_new _ _ | exact heap_alloc_new wr _)) (by simp [Value.oneCell']) (by decide) hmx hn2 (by simp; omega) _ rfl ?_
              intro g' cap' w10 hown10 hgrow hat hlt10
              obtain ⟨c1x, c5x, y5x, FN⟩ := HFIN.out _ w10 g' cap' (by first | exact (Below.refl _ _).alloc (Nat.le_refl _) _ | exact (Below.refl _ _).drew.alloc (Nat.le_refl _) _ | exact ((Below.refl _ _).alloc (Nat.le_refl _) _).drew) hown10 hgrow (hat.imp_right fun e => by rw [e]; simp)
              clear hown10 hgrow hat hlt10))
        all_goals go_wp2
        all_goals go_roundw
        all_goals first | exact ⟨i + 1, FN.out.choose, rfl, by omega, by omega, Lib.hid FN.out.choose_spec⟩ | exact ⟨⟨i + 1, FN.out.choose, rfl, by omega, by omega, Lib.hid FN.out.choose_spec⟩, by simp only [intOf]; omega⟩ | exact ⟨i + 1, FN.out.choose, by simp, by omega, by omega, Lib.hid FN.out.choose_spec⟩ | (simp only [intOf]; omega)
      · obtain rfl : i = N := by omega
        have hd : decide ((i : Int) < (i : Int)) = false := decide_eq_false (by omega)
        have hbl : Below w5.heap.size w5 wr := by rw [← HLB.out]; exact HL.out.parts.below
        have HBL := Lib.hid hbl
        have BS := Lib.hid (fun (W : World) (hW : Below w5.heap.size w5 W) => (by
          have hh := HNN.out
          have hb := base_any AR cR R p W (HE.out.sees.below hW) (by omega) (by omega)
          rw [← hh.1] at hb
          refine hb.mono ?_
          rintro e w' ⟨d, mb, rfl, _, _, hf, hl, hb⟩
          exact ⟨d, mb, rfl, hf, hb⟩ : Calls Tryz.prog 9 #[.slice AR i cR, .int .i64 (p : Int)] W fun e w' => ∃ d mb, e = .returned (.pointer (some ⟨d, 0, none⟩)) ∧ FoldAt w' [d, mb] d mb (applyAll (newF 3) ((R.take p).map EvS.e)) ∧ Below W.heap.size W w'))
        have hlen : ∀ k : Nat, (applyAll (newF 3) ((R.take k).map EvS.e)).L.length ≤ 60 := fun k => by
          have := all_len (l := (R.take k).map EvS.e) (F := newF 3) (fun e he => by
            obtain ⟨r, hr, rfl⟩ := List.mem_map.1 he
            exact (HE.out.sees.fit r (List.mem_of_mem_take hr)).1.q) (ok_new 3)
          rw [List.length_map, List.length_take] at this
          have h2 : (newF 3).L.length = 0 := rfl
          have hh := HNN.out
          omega
        have HLEN := Lib.hid hlen
        clear hbl hlen
        go_wp2_with fail
        refine (BS.out wr HBL.out).mono ?_
        rintro e w6 ⟨d, mb, rfl, hf6, hb6⟩
        have hb56 := HBL.out.trans (hb6.mono HBL.out.size)
        have hls6 : LsAt lb lb w5 R p R.length Ls w6 := by
          rw [← HNN.out.1]
          exact ⟨HL.out.parts.keep hb6, HL.out.perm, HL.out.rise⟩
        obtain ⟨hg6, hp6⟩ := hls6.good (HE.out.below hb56) (by have := HNN.out; omega)
        have BY := by_lists (HE.out.below hb56) (by have := HNN.out; omega) HAN.out p (by have := HNN.out; omega) [d, mb] d mb (fun x hx => by have := hf6.lt; simp at hx; omega) hf6 (by have := HLEN.out p; omega) (some ⟨lb, 0, none⟩) 5 Ls hg6 hp6
        rw [hls6.parts.len] at BY
        have HBY := Lib.hid BY
        have HB56 := Lib.hid hb56
        clear BY hg6 hp6 hls6 hf6 hb6 hb56
        go_wp2_with fail
        refine HBY.out.mono ?_
        rintro e w7 ⟨⟨vb, b0, st, A', c', R', rfl, hv, he⟩, hb7⟩
        have B57 := Lib.hid (HB56.out.trans (hb7.mono HB56.out.size))
        obtain ⟨F, hF⟩ : ∃ F, F = applyAll (newF 3) (R.map EvS.e) := ⟨_, rfl⟩
        obtain ⟨F1, hF1⟩ : ∃ F, F = applyAll (newF 3) ((R.take p).map EvS.e) := ⟨_, rfl⟩
        have hq : ∀ e ∈ R.map EvS.e, e.num < 18446744073709551616 := fun e he => by obtain ⟨r, hr, rfl⟩ := List.mem_map.1 he; exact (HE.out.sees.fit r hr).1.q
        have hok := ok_all hq (ok_new 3)
        have hFl : F.L.length ≤ 60 := by
          have h1 := HLEN.out R.length
          rw [List.take_length, ← hF] at h1
          exact h1
        have hFl1 : F1.L.length ≤ 60 := by rw [hF1]; exact HLEN.out p
        rw [← hF] at hok
        have TOLD := Lib.hid (fun (W : World) (hW : Below w7.heap.size w7 W) => (by
          have hEW := HE.out.below (B57.out.trans (hW.mono B57.out.size))
          have hv' := hv.below hW
          have hh := HNN.out
          have ht := told_any (c := cR) AS (fl := foldL F) (vb := vb) (n := p) (by
              rw [← hF]
              exact fun S d mb w hf => (encode_any w hf (foldL_ok hf.ok hFl) (by omega)).mono (by
                rintro e w' ⟨A, c, rfl, ho, hb⟩
                exact ⟨A, c, rfl, Sees.of_own ho, hb⟩))
            (by
              rw [← hF]
              exact fun S La lc L h w r => by
                obtain ⟨Ja, Jc, Ra, Rc, Ha, Hc, T, W0, M⟩ := h
                exact (RE w r hok (foldL_ok hok hFl)).mono (by
                  rintro e w' ⟨A, c, rfl, ho, hb⟩
                  exact ⟨A, c, rfl, Sees.of_own ho, hb⟩)) SV hEW.sees (by omega) hEW.text hEW.right (by omega) (by rw [← hF]; exact tells_of (by rw [hF]; exact hv') (by omega) he (by omega))
          rw [← hh.1] at ht
          exact ht : Calls Tryz.prog 10 #[.pointer (some ⟨vb, 0, none⟩), .slice AR i cR, .int .i64 (p : Int)] W fun e w' => e = .returned (.bool true) ∧ Below W.heap.size W w'))
        have VB := Lib.hid (fun (W : World) (hW : Below w7.heap.size w7 W) => (by rw [hF1]; exact vbase_any (hv.below hW) : Calls Tryz.prog 11 #[.pointer (some ⟨vb, 0, none⟩)] W fun e w' => ∃ S d mb, e = .returned (.pointer (some ⟨d, 0, none⟩)) ∧ FoldAt w' S d mb F1 ∧ Below W.heap.size W w'))
        have BS2 := Lib.hid (fun (W : World) (hW : Below w7.heap.size w7 W) => (by rw [hF1]; exact BS.out W (B57.out.trans (hW.mono B57.out.size)) : Calls Tryz.prog 9 #[.slice AR i cR, .int .i64 (p : Int)] W fun e w' => ∃ d mb, e = .returned (.pointer (some ⟨d, 0, none⟩)) ∧ FoldAt w' [d, mb] d mb F1 ∧ Below W.heap.size W w'))
        have HFL := Lib.hid hFl1
        obtain ⟨fl, hfl⟩ : ∃ fl, fl = foldL F1 := ⟨_, rfl⟩
        have HFF := Lib.hid hfl
        have EN := Lib.hid (fun (W : World) (S : List Nat) (d mb : Nat) (hf : FoldAt W S d mb F1) => (by
          rw [HFF.out]
          refine (encode_any W hf (foldL_ok hf.ok HFL.out) (by have := HFL.out; omega)).mono ?_
          rintro e w' ⟨A, c, rfl, ho, hb⟩
          exact ⟨A, c, rfl, Sees.of_own ho, hb⟩ : Calls Tryz.prog 12 #[.pointer (some ⟨d, 0, none⟩)] W fun e w' => ∃ A c, e = .returned (.slice A fl.length c) ∧ Sees w' A fl.length fl ∧ Below W.heap.size W w'))
        obtain ⟨FS, hFS⟩ : ∃ FS : ByteArray, FS = ⟨fl.toArray⟩ := ⟨_, rfl⟩
        have STR := Lib.hid (fun (W : World) (A : Option Addr) (c : Nat) (hs : Sees W A fl.length fl) => (by rw [hFS]; exact hs.string c Tryz.underlying29 Tryz.underlying5 Tryz.underlying9 : (convert 29 9 (.slice A fl.length c)).run Tryz.prog W = .ok (.string FS) W))
        have HC := Lib.hid (fun (W : World) (hW : Below w7.drew.heap.size w7.drew W) => ((Below.refl w7.heap.size w7).drew.trans hW : Below w7.heap.size w7 W))
        clear hv he hb7 hF hF1 hq hok hFl hFl1 hfl hFS HBY AS RE SV BS
        go_upto_region 11 with fail
        refine Facts.wp_region_preds (n := 87) (by kernel_rfl) (by kernel_rfl) rfl [Facts.Pred.is (.int .i64 0), Facts.Pred.is (.bool true), Facts.Pred.is (.bool true), Facts.Pred.is (.pointer (some ⟨vb, 0, none⟩)), Facts.Pred.is (.slice AR i cR), Facts.Pred.is (.int .i64 (p : Int)), Facts.Pred.is (.bool true), Facts.Pred.is (.bool true), Facts.Pred.is (.bool true), Facts.Pred.is (.pointer (some ⟨vb, 0, none⟩)), PFoldW (F1), PRowF (fl), Facts.Pred.is (.string FS), Facts.Pred.is (.slice AR i cR), Facts.Pred.is (.int .i64 (p : Int)), PFoldL (F1), PRowF (fl), Facts.Pred.is (.string FS), Facts.Pred.is (.bool true), Facts.Pred.is (.bool true), Facts.Pred.is (.bool true)] ?_ ?_
        · refine ⟨?_, ?_, ?_, ?_, ?_, ?_, ?_, ?_, ?_, ?_, ?_, ?_, ?_, ?_, ?_, ?_, ?_, ?_, ?_, ?_, ?_, trivial⟩
          · refine Facts.step_is (.int .i64 0) fun a W hR hold hnew => ?_
            have f10 : a.tmps.getD 10 undef = .int .i64 0 := hold 10 (by kernel_rfl)
            refine ⟨Facts.wanted_free rfl, ?_, fun _ => rfl⟩; simp [go_sem, Act.eval, f10]
          · refine Facts.step_is (.bool true) fun a W hR hold hnew => ?_
            have f67 : a.tmps.getD 67 undef = .int .i64 0 := hnew 0 67 (by kernel_rfl)
            refine ⟨Facts.wanted_free rfl, ?_, fun _ => rfl⟩; simp [go_sem, Act.eval, f67]
          · refine Facts.step_is (.bool true) fun a W hR hold hnew => ?_
            have f68 : a.tmps.getD 68 undef = .bool true := hnew 1 68 (by kernel_rfl)
            refine ⟨Facts.wanted_free rfl, ?_, fun _ => rfl⟩; simp [go_sem, Act.eval, f68]
          · refine Facts.step_is (.pointer (some ⟨vb, 0, none⟩)) fun a W hR hold hnew => ?_
            have f9 : a.tmps.getD 9 undef = .pointer (some ⟨vb, 0, none⟩) := hold 9 (by kernel_rfl)
            have g69 : a.tmps.getD 69 undef = .bool true := hnew 2 69 (by kernel_rfl)
            refine ⟨Facts.wanted_by rfl (by kernel_rfl) g69, ?_, fun _ => rfl⟩
            simp [go_sem, Act.eval, f9]
          · refine Facts.step_is (.slice AR i cR) fun a W hR hold hnew => ?_
            have f5 : a.tmps.getD 5 undef = .slice AR i cR := hold 5 (by kernel_rfl)
            have g69 : a.tmps.getD 69 undef = .bool true := hnew 2 69 (by kernel_rfl)
            refine ⟨Facts.wanted_by rfl (by kernel_rfl) g69, ?_, fun _ => rfl⟩
            simp [go_sem, Act.eval, f5]
          · refine Facts.step_is (.int .i64 (p : Int)) fun a W hR hold hnew => ?_
            have f6 : a.tmps.getD 6 undef = .int .i64 (p : Int) := hold 6 (by kernel_rfl)
            have g69 : a.tmps.getD 69 undef = .bool true := hnew 2 69 (by kernel_rfl)
            refine ⟨Facts.wanted_by rfl (by kernel_rfl) g69, ?_, fun _ => rfl⟩
            simp [go_sem, Act.eval, f6]
          · refine Facts.step_call fun a W hR hold hnew => ?_
            have f70 : a.tmps.getD 70 undef = .pointer (some ⟨vb, 0, none⟩) := hnew 3 70 (by kernel_rfl)
            have f71 : a.tmps.getD 71 undef = .slice AR i cR := hnew 4 71 (by kernel_rfl)
            have f72 : a.tmps.getD 72 undef = .int .i64 (p : Int) := hnew 5 72 (by kernel_rfl)
            have g69 : a.tmps.getD 69 undef = .bool true := hnew 2 69 (by kernel_rfl)
            refine ⟨Facts.wanted_by rfl (by kernel_rfl) g69, 10, #[.pointer (some ⟨vb, 0, none⟩), .slice AR i cR, .int .i64 (p : Int)], by simp [go_sem, Act.eval, f70, f71, f72], ?_⟩
            refine (TOLD.out W (HC.out W hR)).mono ?_
            rintro e w8 ⟨rfl, hb8⟩
            exact ⟨_, rfl, hb8, rfl⟩
          · refine Facts.step_is (.bool true) fun a W hR hold hnew => ?_
            have f69 : a.tmps.getD 69 undef = .bool true := hnew 2 69 (by kernel_rfl)
            have f73 : a.tmps.getD 73 undef = .bool true := hnew 6 73 (by kernel_rfl)
            refine ⟨Facts.wanted_free rfl, ?_, fun _ => rfl⟩; simp [go_sem, Act.eval, f69, f73]
          · refine Facts.step_is (.bool true) fun a W hR hold hnew => ?_
            have f74 : a.tmps.getD 74 undef = .bool true := hnew 7 74 (by kernel_rfl)
            refine ⟨Facts.wanted_free rfl, ?_, fun _ => rfl⟩; simp [go_sem, Act.eval, f74]
          · refine Facts.step_is (.pointer (some ⟨vb, 0, none⟩)) fun a W hR hold hnew => ?_
            have f9 : a.tmps.getD 9 undef = .pointer (some ⟨vb, 0, none⟩) := hold 9 (by kernel_rfl)
            have g75 : a.tmps.getD 75 undef = .bool true := hnew 8 75 (by kernel_rfl)
            refine ⟨Facts.wanted_by rfl (by kernel_rfl) g75, ?_, fun _ => rfl⟩
            simp [go_sem, Act.eval, f9]
          · refine Facts.step_call fun a W hR hold hnew => ?_
            have f76 : a.tmps.getD 76 undef = .pointer (some ⟨vb, 0, none⟩) := hnew 9 76 (by kernel_rfl)
            have g75 : a.tmps.getD 75 undef = .bool true := hnew 8 75 (by kernel_rfl)
            refine ⟨Facts.wanted_by rfl (by kernel_rfl) g75, 11, #[.pointer (some ⟨vb, 0, none⟩)], by simp [go_sem, Act.eval, f76], ?_⟩
            refine (VB.out W (HC.out W hR)).mono ?_
            rintro e w8 ⟨S8, d8, mb8, rfl, fo8, hb8⟩
            exact ⟨_, rfl, hb8, S8, d8, mb8, rfl, fo8⟩
          · refine Facts.step_call fun a W hR hold hnew => ?_
            have h77 : ∃ S d mb, a.tmps.getD 77 undef = .pointer (some ⟨d, 0, none⟩) ∧ FoldAt W S d mb (F1) := hnew 10 77 (by kernel_rfl)
            obtain ⟨S77, d77, mb77, f77, fo77⟩ := h77
            have g75 : a.tmps.getD 75 undef = .bool true := hnew 8 75 (by kernel_rfl)
            refine ⟨Facts.wanted_by rfl (by kernel_rfl) g75, 12, #[.pointer (some ⟨d77, 0, none⟩)], by simp [go_sem, Act.eval, f77], ?_⟩
            refine (EN.out W S77 d77 mb77 fo77).mono ?_
            rintro e w8 ⟨A8, c8, rfl, s8, hb8⟩
            exact ⟨_, rfl, hb8, A8, c8, rfl, s8⟩
          · refine Facts.step_is (.string FS) fun a W hR hold hnew => ?_
            have h78 : ∃ A c, a.tmps.getD 78 undef = .slice A (fl).length c ∧ Sees W A (fl).length (fl) := hnew 11 78 (by kernel_rfl)
            obtain ⟨A78, c78, f78, s78⟩ := h78
            have g75 : a.tmps.getD 75 undef = .bool true := hnew 8 75 (by kernel_rfl)
            have q := STR.out W A78 c78 s78
            refine ⟨Facts.wanted_by rfl (by kernel_rfl) g75, ?_, fun _ => rfl⟩
            simp [go_sem, Act.eval, f78, q]
          · refine Facts.step_is (.slice AR i cR) fun a W hR hold hnew => ?_
            have f5 : a.tmps.getD 5 undef = .slice AR i cR := hold 5 (by kernel_rfl)
            have g75 : a.tmps.getD 75 undef = .bool true := hnew 8 75 (by kernel_rfl)
            refine ⟨Facts.wanted_by rfl (by kernel_rfl) g75, ?_, fun _ => rfl⟩
            simp [go_sem, Act.eval, f5]
          · refine Facts.step_is (.int .i64 (p : Int)) fun a W hR hold hnew => ?_
            have f6 : a.tmps.getD 6 undef = .int .i64 (p : Int) := hold 6 (by kernel_rfl)
            have g75 : a.tmps.getD 75 undef = .bool true := hnew 8 75 (by kernel_rfl)
            refine ⟨Facts.wanted_by rfl (by kernel_rfl) g75, ?_, fun _ => rfl⟩
            simp [go_sem, Act.eval, f6]
          · refine Facts.step_call fun a W hR hold hnew => ?_
            have f80 : a.tmps.getD 80 undef = .slice AR i cR := hnew 13 80 (by kernel_rfl)
            have f81 : a.tmps.getD 81 undef = .int .i64 (p : Int) := hnew 14 81 (by kernel_rfl)
            have g75 : a.tmps.getD 75 undef = .bool true := hnew 8 75 (by kernel_rfl)
            refine ⟨Facts.wanted_by rfl (by kernel_rfl) g75, 9, #[.slice AR i cR, .int .i64 (p : Int)], by simp [go_sem, Act.eval, f80, f81], ?_⟩
            refine (BS2.out W (HC.out W hR)).mono ?_
            rintro e w8 ⟨d8, mb8, rfl, fo8, hb8⟩
            exact ⟨_, rfl, hb8, d8, mb8, rfl, fo8⟩
          · refine Facts.step_call fun a W hR hold hnew => ?_
            have h82 : ∃ d mb, a.tmps.getD 82 undef = .pointer (some ⟨d, 0, none⟩) ∧ FoldAt W [d, mb] d mb (F1) := hnew 15 82 (by kernel_rfl)
            obtain ⟨d82, mb82, f82, fo82⟩ := h82
            have g75 : a.tmps.getD 75 undef = .bool true := hnew 8 75 (by kernel_rfl)
            refine ⟨Facts.wanted_by rfl (by kernel_rfl) g75, 12, #[.pointer (some ⟨d82, 0, none⟩)], by simp [go_sem, Act.eval, f82], ?_⟩
            refine (EN.out W [d82, mb82] d82 mb82 fo82).mono ?_
            rintro e w8 ⟨A8, c8, rfl, s8, hb8⟩
            exact ⟨_, rfl, hb8, A8, c8, rfl, s8⟩
          · refine Facts.step_is (.string FS) fun a W hR hold hnew => ?_
            have h83 : ∃ A c, a.tmps.getD 83 undef = .slice A (fl).length c ∧ Sees W A (fl).length (fl) := hnew 16 83 (by kernel_rfl)
            obtain ⟨A83, c83, f83, s83⟩ := h83
            have g75 : a.tmps.getD 75 undef = .bool true := hnew 8 75 (by kernel_rfl)
            have q := STR.out W A83 c83 s83
            refine ⟨Facts.wanted_by rfl (by kernel_rfl) g75, ?_, fun _ => rfl⟩
            simp [go_sem, Act.eval, f83, q]
          · refine Facts.step_is (.bool true) fun a W hR hold hnew => ?_
            have f79 : a.tmps.getD 79 undef = .string FS := hnew 12 79 (by kernel_rfl)
            have f84 : a.tmps.getD 84 undef = .string FS := hnew 17 84 (by kernel_rfl)
            have g75 : a.tmps.getD 75 undef = .bool true := hnew 8 75 (by kernel_rfl)
            refine ⟨Facts.wanted_by rfl (by kernel_rfl) g75, ?_, fun _ => rfl⟩
            simp [go_sem, Act.eval, f79, f84]
          · refine Facts.step_is (.bool true) fun a W hR hold hnew => ?_
            have f75 : a.tmps.getD 75 undef = .bool true := hnew 8 75 (by kernel_rfl)
            have f85 : a.tmps.getD 85 undef = .bool true := hnew 18 85 (by kernel_rfl)
            refine ⟨Facts.wanted_free rfl, ?_, fun _ => rfl⟩; simp [go_sem, Act.eval, f75, f85]
          · refine Facts.step_is (.bool true) fun a W hR hold hnew => ?_
            have f86 : a.tmps.getD 86 undef = .bool true := hnew 19 86 (by kernel_rfl)
            refine ⟨Facts.wanted_free rfl, ?_, fun _ => rfl⟩; simp [go_sem, Act.eval, f86]
        · intro a w8 hR' hsize hdef hnew hold
          have f4 : a.tmps.getD 4 undef = .bool true := hnew 20 4 (by kernel_rfl)
          have f5 : a.tmps.getD 5 undef = Value.slice AR i cR := hold 5 (Facts.not_dst (by kernel_rfl))
          have f6 : a.tmps.getD 6 undef = Value.int .i64 (p : Int) := hold 6 (Facts.not_dst (by kernel_rfl))
          have f9 : a.tmps.getD 9 undef = Value.pointer (some ⟨vb, 0, none⟩) := hold 9 (Facts.not_dst (by kernel_rfl))
          have f10 : a.tmps.getD 10 undef = Value.int .i64 0 := hold 10 (Facts.not_dst (by kernel_rfl))
          obtain ⟨tm, df⟩ := a
          simp only [] at hdef hsize f5 f6 f9 f10 f4
          obtain ⟨xq, hxq, hlit⟩ := Facts.lits tm hsize Facts.idx87 Facts.idx87_eq
          rw [hxq] at f5 f6 f9 f10 f4
          simp only [Facts.idx87, List.map_cons, List.map_nil, f5, f6, f9, f10, f4] at hlit
          clear f5 f6 f9 f10 f4 hsize hnew hold hxq
          subst hlit
          subst hdef
          try simp only []

          have HB8 := Lib.hid (HB5.out.trans ((B57.out.trans ((HC.out w8 hR').mono B57.out.size)).mono HB5.out.size))
          clear hR' HC
          go_wp2
          go_ret
          exact ⟨rfl, HB8.out⟩
end Go.Proofs.YtmogoopkjkdkgaaGreat.Vw
namespace Go.Proofs.YtmogoopkjkdkgaaGreat.Fol
open Go Go.RowKit Go.Proofs.YtmogoopkjkdkgaaGreat.Words Go.Proofs.YtmogoopkjkdkgaaGreat.Enc Go.Proofs.YtmogoopkjkdkgaaGreat.Q Go.Proofs.YtmogoopkjkdkgaaGreat.Evt Go.Proofs.YtmogoopkjkdkgaaGreat.Facts
set_option linter.unusedVariables false
set_option linter.unusedSimpArgs false

section
variable {La : Option Addr} {lc : Nat} {L : List (Key × RC)} {h : RH} {F : Fo} {S : List Nat}
set_option maxRecDepth 100000 in
set_option maxHeartbeats 8000000 in
theorem refApply_bad (e : Ev) (A : Option Addr) (n c : Nat) (w : World) (r : RefAt w S La lc L h F) (hr : rightE e ≠ 0) (hnt : n = e.text.length) (hn : n ≤ 1000000000) (hfit : e.Fit) (hkl : e.key.size ≤ 9223372036854775807) :
    Calls Tryz.prog 53 #[.agg (rv La L.length lc h), e.val A n c] w fun e' w' => e' = .returned (.tuple #[.agg (rv La L.length lc h), .int .i64 (rightE e : Int)]) ∧ Below w.heap.size w w' := by
  have RT := Lib.hid (fun (W : World) => refRight_any e A n c W hfit hnt (by omega) hkl)
  obtain ⟨wr, sq, tm, kd, key, text, num, node⟩ := e
  obtain ⟨Ja, Jc, Ra, Rc, Ha, Hc, T0, W0, M0⟩ := h
  obtain ⟨n', hnl⟩ : ∃ n', n' = L.length := ⟨_, rfl⟩
  obtain ⟨q, hqe⟩ : ∃ q, q = rightE ⟨wr, sq, tm, kd, key, text, num, node⟩ := ⟨_, rfl⟩
  rw [← hqe] at RT hr ⊢
  have BX := Lib.hid (fun (W : World) hW => boxesT (rv La n' lc ⟨Ja, Jc, Ra, Rc, Ha, Hc, T0, W0, M0⟩) #[.int .i64 wr, .int .u64 (sq : Int), .int .u64 (tm : Int), .int .u8 (kd : Int), .string key, .slice A n c, .float .f64 num, .int .i64 node] #[.slice none 0 0, .slice none 0 0, .slice none 0 0, .slice none 0 0, .int .u64 0, .int .i64 0, .int .u64 0] 60 32 60 w W hW)
  unfold rv at BX ⊢
  rw [← hnl]
  show Calls _ _ #[.agg #[.slice La n' lc, .slice Ja 64 Jc, .slice Ra 64 Rc, .slice Ha 64 Hc, .int .u64 (T0 : Int), .int .i64 (W0 : Int), .int .u64 (M0 : Int)], .agg #[.int .i64 wr, .int .u64 (sq : Int), .int .u64 (tm : Int), .int .u8 (kd : Int), .string key, .slice A n c, .float .f64 num, .int .i64 node]] _ _
  have RT2 : ∀ W, Calls Tryz.prog 87 #[.agg #[.int .i64 wr, .int .u64 (sq : Int), .int .u64 (tm : Int), .int .u8 (kd : Int), .string key, .slice A n c, .float .f64 num, .int .i64 node]] W fun e' w' => e' = .returned (.int .i64 (q : Int)) ∧ Below W.heap.size W w' := fun W => RT.out W
  have RTH := Lib.hid RT2
  have hne : ((q : Int) == 0) = false := by rw [beq_eq_false_iff_ne]; omega
  have hne2 : ((q : Int) != 0) = true := by simp [hr]
  have hsf := store_float Tryz.prog
  clear RT RT2 r hnt hn hfit hkl hqe hnl
  obtain ⟨B, hBe⟩ : ∃ B, B = w.heap.size := ⟨_, rfl⟩
  have HB := Lib.hid hBe
  go_enter Tryz.func53, Tryz.ntmps53
  go_wp2_with fail
  refine (RTH.out _).mono ?_
  rintro e' w1 ⟨rfl, hb1⟩
  obtain ⟨b1, g0, g1, g2, z1⟩ := BX.out w1 (by simpa using hb1)
  rw [← hBe] at g0 g2 z1
  have HB1 := Lib.hid b1
  clear hb1 b1 g1 hBe
  rw [← HB.out]
  go_wp2_with (first
    | (refine wpList_getRow rfl 60 (.tmp 2) rfl B 60 #[.slice La n' lc, .slice Ja 64 Jc, .slice Ra 64 Rc, .slice Ha 64 Hc, .int .u64 (T0 : Int), .int .i64 (W0 : Int), .int .u64 (M0 : Int)] (0, 0) _ rfl g0 Tryz.underlying60 rfl (by kernel_rfl) ?_)
    | (refine wpList_putRow rfl 60 (.tmp 4) (.tmp 17) rfl (B + 1 + 1) 60 #[.slice none 0 0, .slice none 0 0, .slice none 0 0, .slice none 0 0, .int .u64 0, .int .i64 0, .int .u64 0] #[.slice La n' lc, .slice Ja 64 Jc, .slice Ra 64 Rc, .slice Ha 64 Hc, .int .u64 (T0 : Int), .int .i64 (W0 : Int), .int .u64 (M0 : Int)] rfl rfl g2 (by kernel_rfl) rfl (by simp [Value.oneCell']) ?_))
  intro w6 g7 hb6
  obtain ⟨t0, t1, t2, t3, t4, t5, t6⟩ := rv_cells (h := ⟨Ja, Jc, Ra, Rc, Ha, Hc, T0, W0, M0⟩) g7
  have HB6 := Lib.hid (Below.beside HB1.out hb6 HB1.out.size (fun x hx => by have := HB.out; simp at hx; omega))
  clear g0 g2 g7 hb6
  go_wp2
  refine bodyPost_ret (v := .tuple #[.agg #[.slice La n' lc, .slice Ja 64 Jc, .slice Ra 64 Rc, .slice Ha 64 Hc, .int .u64 (T0 : Int), .int .i64 (W0 : Int), .int .u64 (M0 : Int)], .int .i64 (q : Int)]) (by simp [results, Tryz.results53, go_sem, t0, t1, t2, t3, t4, t5, t6]) rfl ⟨rfl, HB6.out⟩
end
end Go.Proofs.YtmogoopkjkdkgaaGreat.Fol
