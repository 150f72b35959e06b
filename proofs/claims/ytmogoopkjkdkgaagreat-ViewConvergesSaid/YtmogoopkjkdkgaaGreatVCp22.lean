/- Layer 15: the law ViewConverges. -/
import Derived.Test.YtmogoopkjkdkgaaGreatVCp18
import Derived.Test.YtmogoopkjkdkgaaGreatVCp20
import Derived.Test.YtmogoopkjkdkgaaGreatVCp21
namespace Go.Proofs.YtmogoopkjkdkgaaGreat.Vw
open Go Go.RowKit Go.Proofs.YtmogoopkjkdkgaaGreat.Words Go.Proofs.YtmogoopkjkdkgaaGreat.Enc Go.Proofs.YtmogoopkjkdkgaaGreat.Q Go.Proofs.YtmogoopkjkdkgaaGreat.Evt Go.Proofs.YtmogoopkjkdkgaaGreat.Seg Go.Proofs.YtmogoopkjkdkgaaGreat.Fol Go.Proofs.YtmogoopkjkdkgaaGreat.Ord
set_option linter.unusedVariables false
set_option linter.unusedSimpArgs false

/-- A fold. -/
def PFoldW (F : Fo) : Facts.Pred := ⟨fun v w => ∃ S d mb, v = .pointer (some ⟨d, 0, none⟩) ∧ FoldAt w S d mb F, fun v w w' ⟨S, d, mb, h, hf⟩ hb => ⟨S, d, mb, h, hf.below hb⟩⟩
def PFoldL (F : Fo) : Facts.Pred := ⟨fun v w => ∃ d mb, v = .pointer (some ⟨d, 0, none⟩) ∧ FoldAt w [d, mb] d mb F, fun v w w' ⟨d, mb, h, hf⟩ hb => ⟨d, mb, h, hf.below hb⟩⟩
/-- These events, somewhere. -/
def PEvs (m : Nat) (S : List EvS) : Facts.Pred := ⟨fun v w => ∃ A c, v = .slice A m c ∧ (m ≤ c ∧ c ≤ 9223372036854775807) ∧ RawEv w A S, fun v w w' ⟨A, c, h, hc, hr⟩ hb => ⟨A, c, h, hc, hr.below hb⟩⟩
/-- One list, of these events. -/
def PList (m : Nat) (S : List EvS) : Facts.Pred := ⟨fun v w => ∃ g A c, v = .slice (some ⟨g, 0, none⟩) 1 1 ∧ w.heap[g]? = some (.cells #[.slice A m c] 24 (0, 0)) ∧ (m ≤ c ∧ c ≤ 9223372036854775807) ∧ RawEv w A S, fun v w w' ⟨g, A, c, h, hg, hc, hr⟩ hb => ⟨g, A, c, h, (hb.block g (Array.getElem?_eq_some_iff.1 hg).1).trans hg, hc, hr.below hb⟩⟩
def PRowF (l : List UInt8) : Facts.Pred := ⟨fun v w => ∃ A c, v = .slice A l.length c ∧ Sees w A l.length l, fun v w w' ⟨A, c, h, hs⟩ hb => ⟨A, c, h, hs.below hb⟩⟩
theorem raw_drop {w : World} {b o : Nat} {S : List EvS} (h : RawEv w (some ⟨b, o, none⟩) S) (k : Nat) (hk : k < S.length) : RawEv w (some ⟨b, o + k * 8, none⟩) (S.drop k) := fun _ => by
  obtain ⟨b', o', h1, h2⟩ := h (by omega)
  injection h1 with h1
  injection h1 with h3 h4
  subst h3; subst h4
  refine ⟨b, _, rfl, fun j v hv => ?_⟩
  rw [Nat.add_assoc]
  refine h2 _ _ ?_
  rw [← hv]
  have hs : S = S.take k ++ S.drop k := (List.take_append_drop k S).symm
  conv => lhs; rw [hs, rowsL_append]
  rw [List.getElem?_append_right (by rw [rowsL_len, List.length_take]; omega), rowsL_len, List.length_take]
  congr 1
  omega
theorem slice_ev (A : Option Addr) (n c k : Nat) (W : World) (hk : k ≤ n) (hn : n ≤ c) : ∃ A', (Instr.sliceAt 24 (.slice A n c) (some (.int .i64 (k : Int))) none none).run Tryz.prog W = .ok (.slice A' (n - k) (c - k)) W ∧ ∀ S : List EvS, S.length = n → RawEv W A S → RawEv W A' (S.drop k) := by
  have h1 : (Instr.sliceAt 24 (.slice A n c) (some (.int .i64 (k : Int))) none none).run Tryz.prog W = .ok (sliced A k n c 8) W := by
    rw [run_sliceAt_slice W 24 _ _ _ _ Ord.elemEv, run_slice_l W 24 A n c Ord.elemEv .i64 (k : Int) (by omega) (by omega), Ord.sizeEv]
    simp [Result.andThen]
  unfold sliced at h1
  refine ⟨_, h1, fun S hS hr hn0 => ?_⟩
  rw [List.length_drop] at hn0
  rw [if_neg (by omega)]
  obtain ⟨b, o, rfl, _⟩ := hr (by omega)
  have h2 := raw_drop hr k (by omega) (by rw [List.length_drop]; omega)
  have h3 : (⟨b, o, none⟩ : Addr).add (k * 8) = ⟨b, o + k * 8, none⟩ := by
    unfold Addr.add
    split
    · rename_i h0; rw [h0]; rfl
    · rfl
  rw [Option.map_some, h3]
  exact h2

set_option maxRecDepth 100000 in
set_option maxHeartbeats 8000000 in
theorem converges_law (A : Option Addr) (n c : Nat) (l : List Nat) (ca cb : Nat) (w : World) (h : SeesH w A n l) (ha : ca < 256) (hb : cb < 256) :
    Calls Tryz.prog 4 #[.slice A n c, .int .u8 (ca : Int), .int .u8 (cb : Int)] w fun e w' => e = .returned (.bool true) ∧ Below w.heap.size w w' := by
  have hsf := store_float Tryz.prog
  have AW := fun w => awakeV_yes w
  have HSH := Lib.hid h
  clear h
  by_cases hbig : 60 < n
  · have zb : (60 : Int) < (n : Int) := by omega
    go_enter Tryz.func4, Tryz.ntmps4
    go_wp2_with fail
    refine (AW w).mono ?_
    rintro e w2 ⟨rfl, hb2⟩
    go_wp2_with fail
    refine (AW w2).mono ?_
    rintro e w3 ⟨rfl, hb3⟩
    have HF := Lib.hid (hb2.trans (hb3.mono hb2.size))
    clear hb2 hb3
    go_wp2
    go_ret
    exact ⟨rfl, HF.out⟩
  · have zb : (n : Int) ≤ 60 := by omega
    have hn60 : n ≤ 60 := by omega
    clear hbig
    go_enter Tryz.func4, Tryz.ntmps4
    go_wp2_with fail
    refine (AW w).mono ?_
    rintro e w3 ⟨rfl, hb3⟩
    have HB3 := Lib.hid hb3
    have FEE := Lib.hid (feeds_any A n c 3 l w3 (HSH.out.below hb3) hn60 (by omega) (by omega))
    clear hb3 AW
    go_wp2_with fail
    refine FEE.out.mono ?_
    rintro e w4 ⟨L, T, rfl, FE⟩
    have hGL := feeds_good FE (by omega) (by omega)
    have hLn := FE.lenL
    have HB4 := Lib.hid (HB3.out.trans (FE.below.mono HB3.out.size))
    have WH := refWhole_any (some ⟨w3.heap.size, 0, none⟩) 3 L w4 hGL.lists (Nat.le_refl _) (by omega) (by have := FE.few; omega)
    rw [hLn] at WH
    have HWH := Lib.hid WH
    have HFE := Lib.hid FE
    clear WH hGL FE hLn FEE
    go_wp2_with fail
    refine HWH.out.mono ?_
    rintro e w5 ⟨AR, cR, R, rfl, hown, hperm, hrise, hb5⟩
    obtain ⟨E, hlen⟩ := evs_of HFE.out (by omega) (by omega) hown hperm hrise hb5
    have hcap := own_cap8 hown
    have hflat : (flat L).length = R.length := hperm.length_eq.symm
    rw [hflat] at hcap ⊢
    have anti := feeds_antiR HFE.out hperm
    have HB5 := Lib.hid (HB4.out.trans (hb5.mono HB4.out.size))
    have HE := Lib.hid E
    have HAN := Lib.hid anti
    have HCAP := Lib.hid hcap
    obtain ⟨N, hN⟩ : ∃ N, N = R.length := ⟨_, rfl⟩
    obtain ⟨p, hp⟩ : ∃ p, p = ca % (N + 1) := ⟨_, rfl⟩
    obtain ⟨q, hq⟩ : ∃ q, q = cb % (N + 1) := ⟨_, rfl⟩
    have hpN : p ≤ N := by rw [hp]; have := Nat.mod_lt ca (show 0 < N + 1 by omega); omega
    have hqN : q ≤ N := by rw [hq]; have := Nat.mod_lt cb (show 0 < N + 1 by omega); omega
    have hpm : Int.tmod (ca : Int) ((N : Int) + 1) = (p : Int) := by rw [Int.tmod_eq_emod_of_nonneg (by omega), hp]; simp
    have hqm : Int.tmod (cb : Int) ((N : Int) + 1) = (q : Int) := by rw [Int.tmod_eq_emod_of_nonneg (by omega), hq]; simp
    have hN60 : N ≤ 60 := by omega
    have hN61 : (N : Int) ≤ 60 := by omega
    rw [← hN]
    have HNN := Lib.hid (And.intro hN (And.intro hN60 (And.intro hpN hqN)))
    clear HWH hown hperm hrise hb5 E hlen hcap hflat anti hN hp hq hN60 hpN hqN HSH HFE
    go_upto_region 6 with fail
    obtain ⟨m1, hm1⟩ : ∃ m, m = N - p := ⟨_, rfl⟩
    obtain ⟨m2, hm2⟩ : ∃ m, m = N - q := ⟨_, rfl⟩
    have HMp := Lib.hid hm1
    have HMq := Lib.hid hm2
    have BS := Lib.hid (fun (W : World) (hW : Below w5.heap.size w5 W) (k : Nat) (hk : k ≤ N) => (by
      have hh := HNN.out
      have hb := base_any AR cR R k W (HE.out.sees.below hW) (by omega) (by omega)
      rw [← hh.1] at hb
      refine hb.mono ?_
      rintro e w' ⟨d, mb, rfl, _, _, hf, hl, hb⟩
      exact ⟨d, mb, rfl, hf, hb⟩ : Calls Tryz.prog 9 #[.slice AR N cR, .int .i64 (k : Int)] W fun e w' => ∃ d mb, e = .returned (.pointer (some ⟨d, 0, none⟩)) ∧ FoldAt w' [d, mb] d mb (applyAll (newF 3) ((R.take k).map EvS.e)) ∧ Below W.heap.size W w'))
    have SL := Lib.hid (fun (W : World) (hW : Below w5.heap.size w5 W) (k : Nat) (hk : k ≤ N) => (by
      have hh := HNN.out
      obtain ⟨A9, h1, h2⟩ := slice_ev AR N cR k W hk (by have := HCAP.out; omega)
      exact ⟨A9, h1, h2 R hh.1.symm (HE.out.below hW).sees.raw⟩ : ∃ A9, (Instr.sliceAt 24 (.slice AR N cR) (some (.int .i64 (k : Int))) none none).run Tryz.prog W = .ok (.slice A9 (N - k) (cR - k)) W ∧ RawEv W A9 (R.drop k)))
    have HLEN := Lib.hid (fun (k : Nat) => (by
      have := all_len (l := (R.take k).map EvS.e) (F := newF 3) (fun e he => by
        obtain ⟨r, hr, rfl⟩ := List.mem_map.1 he
        exact (HE.out.sees.fit r (List.mem_of_mem_take hr)).1.q) (ok_new 3)
      rw [List.length_map, List.length_take] at this
      have h2 : (newF 3).L.length = 0 := rfl
      have hh := HNN.out
      omega : (applyAll (newF 3) ((R.take k).map EvS.e)).L.length ≤ 60))
    have BYC := fun (k m : Nat) (hm : m = N - k) (hk : k ≤ N) (W : World) (hW : Below w5.heap.size w5 W) (d mb g : Nat) (A' : Option Addr) (c' : Nat) (hf : FoldAt W [d, mb] d mb (applyAll (newF 3) ((R.take k).map EvS.e))) (hg : W.heap[g]? = some (.cells #[.slice A' m c'] 24 (0, 0))) (hr : RawEv W A' (R.drop k)) (hc : m ≤ c' ∧ c' ≤ 9223372036854775807) =>
      by_drop (HE.out.below hW) (by have := HNN.out; omega) HAN.out k (by have := HNN.out; omega) [d, mb] d mb (fun x hx => by have := hf.lt; simp at hx; omega) hf (by have := HLEN.out k; omega) g A' c' m (by rw [List.length_drop, hm]; have := HNN.out; omega) 24 hg hr hc
    have BYCp := Lib.hid (BYC p m1 hm1 (by have := HNN.out; omega))
    have BYCq := Lib.hid (BYC q m2 hm2 (by have := HNN.out; omega))
    have HC := Lib.hid (fun (W : World) (hW : Below w5.drew.heap.size w5.drew W) => ((Below.refl w5.heap.size w5).drew.trans hW : Below w5.heap.size w5 W))
    clear BYC hm1 hm2

    refine Facts.wp_region_preds (n := 83) (by kernel_rfl) (by kernel_rfl) rfl [Facts.Pred.is (.slice AR N cR), Facts.Pred.is (.int .i64 (p : Int)), PFoldL (applyAll (newF 3) ((R.take p).map EvS.e)), Facts.Pred.is (.slice AR N cR), Facts.Pred.is (.int .i64 (p : Int)), PEvs m1 (R.drop p), PList m1 (R.drop p), PViewT (applyAll (newF 3) ((R.take p).map EvS.e)) (applyAll (newF 3) (R.map EvS.e)) ((R.drop p).map EvS.e), PViewT (applyAll (newF 3) ((R.take p).map EvS.e)) (applyAll (newF 3) (R.map EvS.e)) ((R.drop p).map EvS.e), PView (applyAll (newF 3) ((R.take p).map EvS.e)) (applyAll (newF 3) (R.map EvS.e)) ((R.drop p).map EvS.e), Facts.Pred.is (.int .i64 0), PView (applyAll (newF 3) ((R.take p).map EvS.e)) (applyAll (newF 3) (R.map EvS.e)) ((R.drop p).map EvS.e), Facts.Pred.is (.int .i64 0)] ?_ ?_
    · refine ⟨?_, ?_, ?_, ?_, ?_, ?_, ?_, ?_, ?_, ?_, ?_, ?_, ?_, trivial⟩
      · refine Facts.step_is (.slice AR N cR) fun a W hR hold hnew => ?_
        have f7 : a.tmps.getD 7 undef = .slice AR N cR := hold 7 (by kernel_rfl)
        refine ⟨Facts.wanted_free rfl, ?_, fun _ => rfl⟩
        simp [go_sem, Act.eval, f7]
      · refine Facts.step_is (.int .i64 (p : Int)) fun a W hR hold hnew => ?_
        have f8 : a.tmps.getD 8 undef = .int .i64 (p : Int) := hold 8 (by kernel_rfl)
        refine ⟨Facts.wanted_free rfl, ?_, fun _ => rfl⟩
        simp [go_sem, Act.eval, f8]
      · refine Facts.step_call fun a W hR hold hnew => ?_
        have f38 : a.tmps.getD 38 undef = .slice AR N cR := hnew 0 38 (by kernel_rfl)
        have f39 : a.tmps.getD 39 undef = .int .i64 (p : Int) := hnew 1 39 (by kernel_rfl)
        refine ⟨Facts.wanted_free rfl, 9, #[.slice AR N cR, .int .i64 (p : Int)], by simp [go_sem, Act.eval, f38, f39], ?_⟩
        refine (BS.out W (HC.out W hR) p (by have := HNN.out; omega)).mono ?_
        rintro e w8 ⟨d8, mb8, rfl, fo8, hb8⟩
        exact ⟨_, rfl, hb8, d8, mb8, rfl, fo8⟩
      · refine Facts.step_is (.slice AR N cR) fun a W hR hold hnew => ?_
        have f7 : a.tmps.getD 7 undef = .slice AR N cR := hold 7 (by kernel_rfl)
        refine ⟨Facts.wanted_free rfl, ?_, fun _ => rfl⟩
        simp [go_sem, Act.eval, f7]
      · refine Facts.step_is (.int .i64 (p : Int)) fun a W hR hold hnew => ?_
        have f8 : a.tmps.getD 8 undef = .int .i64 (p : Int) := hold 8 (by kernel_rfl)
        refine ⟨Facts.wanted_free rfl, ?_, fun _ => rfl⟩
        simp [go_sem, Act.eval, f8]
      · refine Facts.step_some fun a W hR hold hnew => ?_
        have f41 : a.tmps.getD 41 undef = .slice AR N cR := hnew 3 41 (by kernel_rfl)
        have f42 : a.tmps.getD 42 undef = .int .i64 (p : Int) := hnew 4 42 (by kernel_rfl)
        obtain ⟨A9, qrun, hraw⟩ := SL.out W (HC.out W hR) p (by have := HNN.out; omega)
        exact ⟨Facts.wanted_free rfl, .slice A9 (N - p) (cR - p), by simp [go_sem, Act.eval, f41, f42, qrun], A9, cR - p, by rw [HMp.out], (by have h1 := HCAP.out; have h2 := HNN.out; have h3 := HMp.out; omega), hraw⟩
      · refine Facts.step_new fun a W hR hold hnew => ?_
        have h43 : ∃ A c, a.tmps.getD 43 undef = .slice A m1 c ∧ (m1 ≤ c ∧ c ≤ 9223372036854775807) ∧ RawEv W A (R.drop p) := hnew 5 43 (by kernel_rfl)
        obtain ⟨A43, c43, f43, k43, r43⟩ := h43
        rw [Array.getD_eq_getD_getElem?] at f43
        exact ⟨Facts.wanted_free rfl, .slice (some ⟨W.heap.size, 0, none⟩) 1 1, W.alloc (.cells #[.slice A43 m1 c43] 24), by simp [go_sem, Act.eval, f43], (Below.refl _ _).alloc (Nat.le_refl _) _, W.heap.size, A43, c43, rfl, heap_alloc_new W _, k43, r43.below ((Below.refl _ _).alloc (Nat.le_refl _) _)⟩
      · refine Facts.step_call fun a W hR hold hnew => ?_
        have h40 : ∃ d mb, a.tmps.getD 40 undef = .pointer (some ⟨d, 0, none⟩) ∧ FoldAt W [d, mb] d mb (applyAll (newF 3) ((R.take p).map EvS.e)) := hnew 2 40 (by kernel_rfl)
        obtain ⟨d40, mb40, f40, fo40⟩ := h40
        have h44 : ∃ g A c, a.tmps.getD 44 undef = .slice (some ⟨g, 0, none⟩) 1 1 ∧ W.heap[g]? = some (.cells #[.slice A m1 c] 24 (0, 0)) ∧ (m1 ≤ c ∧ c ≤ 9223372036854775807) ∧ RawEv W A (R.drop p) := hnew 6 44 (by kernel_rfl)
        obtain ⟨g44, A44, c44, f44, h44, k44, r44⟩ := h44
        refine ⟨Facts.wanted_free rfl, 8, #[.pointer (some ⟨d40, 0, none⟩), .slice (some ⟨g44, 0, none⟩) 1 1], by simp [go_sem, Act.eval, f40, f44], ?_⟩
        refine (BYCp.out W (HC.out W hR) d40 mb40 g44 A44 c44 fo40 h44 r44 k44).mono ?_
        rintro e w8 ⟨⟨vb8, b8, st8, A8, c8, R8, rfl, v8, e8⟩, hb8⟩
        exact ⟨_, rfl, hb8, vb8, b8, st8, A8, c8, R8, rfl, v8, e8⟩
      · refine Facts.step_some fun a W hR hold hnew => ?_
        have h45 : ∃ vb b0 st A c R', a.tmps.getD 45 undef = .tuple #[.pointer (some ⟨vb, 0, none⟩), .int .i64 0] ∧ ViewAt W vb b0 st (applyAll (newF 3) ((R.take p).map EvS.e)) (applyAll (newF 3) (R.map EvS.e)) A c R' ∧ R'.map EvS.e = ((R.drop p).map EvS.e) := hnew 7 45 (by kernel_rfl)
        obtain ⟨vb45, b45, st45, A45, c45, R45, f45, v45, e45⟩ := h45
        exact ⟨Facts.wanted_free rfl, .tuple #[.pointer (some ⟨vb45, 0, none⟩), .int .i64 0], by simp [go_sem, Act.eval, f45], vb45, b45, st45, A45, c45, R45, rfl, v45, e45⟩
      · refine Facts.step_some fun a W hR hold hnew => ?_
        have h37 : ∃ vb b0 st A c R', a.tmps.getD 37 undef = .tuple #[.pointer (some ⟨vb, 0, none⟩), .int .i64 0] ∧ ViewAt W vb b0 st (applyAll (newF 3) ((R.take p).map EvS.e)) (applyAll (newF 3) (R.map EvS.e)) A c R' ∧ R'.map EvS.e = ((R.drop p).map EvS.e) := hnew 8 37 (by kernel_rfl)
        obtain ⟨vb37, b37, st37, A37, c37, R37, f37, v37, e37⟩ := h37
        exact ⟨Facts.wanted_free rfl, .pointer (some ⟨vb37, 0, none⟩), by simp [go_sem, Act.eval, f37], vb37, b37, st37, A37, c37, R37, rfl, v37, e37⟩
      · refine Facts.step_is (.int .i64 0) fun a W hR hold hnew => ?_
        have h37 : ∃ vb b0 st A c R', a.tmps.getD 37 undef = .tuple #[.pointer (some ⟨vb, 0, none⟩), .int .i64 0] ∧ ViewAt W vb b0 st (applyAll (newF 3) ((R.take p).map EvS.e)) (applyAll (newF 3) (R.map EvS.e)) A c R' ∧ R'.map EvS.e = ((R.drop p).map EvS.e) := hnew 8 37 (by kernel_rfl)
        obtain ⟨vb37, b37, st37, A37, c37, R37, f37, v37, e37⟩ := h37
        refine ⟨Facts.wanted_free rfl, ?_, fun _ => rfl⟩
        simp [go_sem, Act.eval, f37]
      · refine Facts.step_some fun a W hR hold hnew => ?_
        have h46 : ∃ vb b0 st A c R', a.tmps.getD 46 undef = .pointer (some ⟨vb, 0, none⟩) ∧ ViewAt W vb b0 st (applyAll (newF 3) ((R.take p).map EvS.e)) (applyAll (newF 3) (R.map EvS.e)) A c R' ∧ R'.map EvS.e = ((R.drop p).map EvS.e) := hnew 9 46 (by kernel_rfl)
        obtain ⟨vb46, b46, st46, A46, c46, R46, f46, v46, e46⟩ := h46
        exact ⟨Facts.wanted_free rfl, .pointer (some ⟨vb46, 0, none⟩), by simp [go_sem, Act.eval, f46], vb46, b46, st46, A46, c46, R46, rfl, v46, e46⟩
      · refine Facts.step_is (.int .i64 0) fun a W hR hold hnew => ?_
        have f47 : a.tmps.getD 47 undef = .int .i64 0 := hnew 10 47 (by kernel_rfl)
        refine ⟨Facts.wanted_free rfl, ?_, fun _ => rfl⟩
        simp [go_sem, Act.eval, f47]
    · intro a w6 hR' hsize hdef hnew hold
      have h10 : ∃ vb b0 st A c R', a.tmps.getD 10 undef = .pointer (some ⟨vb, 0, none⟩) ∧ ViewAt w6 vb b0 st (applyAll (newF 3) ((R.take p).map EvS.e)) (applyAll (newF 3) (R.map EvS.e)) A c R' ∧ R'.map EvS.e = ((R.drop p).map EvS.e) := hnew 11 10 (by kernel_rfl)
      obtain ⟨vb10, b10, st10, A10, c10, R10, f10, v10, e10⟩ := h10
      have f11 : a.tmps.getD 11 undef = .int .i64 0 := hnew 12 11 (by kernel_rfl)
      have f0 : a.tmps.getD 0 undef = Value.slice A n c := hold 0 (Facts.not_dst (by kernel_rfl))
      have f1 : a.tmps.getD 1 undef = Value.int .u8 (ca : Int) := hold 1 (Facts.not_dst (by kernel_rfl))
      have f2 : a.tmps.getD 2 undef = Value.int .u8 (cb : Int) := hold 2 (Facts.not_dst (by kernel_rfl))
      have f6 : a.tmps.getD 6 undef = Value.bool false := hold 6 (Facts.not_dst (by kernel_rfl))
      have f7 : a.tmps.getD 7 undef = Value.slice AR N cR := hold 7 (Facts.not_dst (by kernel_rfl))
      have f8 : a.tmps.getD 8 undef = Value.int .i64 (p : Int) := hold 8 (Facts.not_dst (by kernel_rfl))
      have f9 : a.tmps.getD 9 undef = Value.int .i64 (q : Int) := hold 9 (Facts.not_dst (by kernel_rfl))
      obtain ⟨tm, df⟩ := a
      simp only [] at hdef hsize f0 f1 f2 f6 f7 f8 f9 f10 f11
      have hlit : tm = #[tm.getD 0 undef, tm.getD 1 undef, tm.getD 2 undef, tm.getD 3 undef, tm.getD 4 undef, tm.getD 5 undef, tm.getD 6 undef, tm.getD 7 undef, tm.getD 8 undef, tm.getD 9 undef, tm.getD 10 undef, tm.getD 11 undef, tm.getD 12 undef, tm.getD 13 undef, tm.getD 14 undef, tm.getD 15 undef, tm.getD 16 undef, tm.getD 17 undef, tm.getD 18 undef, tm.getD 19 undef, tm.getD 20 undef, tm.getD 21 undef, tm.getD 22 undef, tm.getD 23 undef, tm.getD 24 undef, tm.getD 25 undef, tm.getD 26 undef, tm.getD 27 undef, tm.getD 28 undef, tm.getD 29 undef, tm.getD 30 undef, tm.getD 31 undef, tm.getD 32 undef, tm.getD 33 undef, tm.getD 34 undef, tm.getD 35 undef, tm.getD 36 undef, tm.getD 37 undef, tm.getD 38 undef, tm.getD 39 undef, tm.getD 40 undef, tm.getD 41 undef, tm.getD 42 undef, tm.getD 43 undef, tm.getD 44 undef, tm.getD 45 undef, tm.getD 46 undef, tm.getD 47 undef, tm.getD 48 undef, tm.getD 49 undef, tm.getD 50 undef, tm.getD 51 undef, tm.getD 52 undef, tm.getD 53 undef, tm.getD 54 undef, tm.getD 55 undef, tm.getD 56 undef, tm.getD 57 undef, tm.getD 58 undef, tm.getD 59 undef, tm.getD 60 undef, tm.getD 61 undef, tm.getD 62 undef, tm.getD 63 undef, tm.getD 64 undef, tm.getD 65 undef, tm.getD 66 undef, tm.getD 67 undef, tm.getD 68 undef, tm.getD 69 undef, tm.getD 70 undef, tm.getD 71 undef, tm.getD 72 undef, tm.getD 73 undef, tm.getD 74 undef, tm.getD 75 undef, tm.getD 76 undef, tm.getD 77 undef, tm.getD 78 undef, tm.getD 79 undef, tm.getD 80 undef, tm.getD 81 undef, tm.getD 82 undef] := (Facts.array_lit tm hsize).trans rfl
      rw [f0, f1, f2, f6, f7, f8, f9, f10, f11] at hlit
      clear f0 f1 f2 f6 f7 f8 f9 f10 f11 hsize hnew hold
      generalize tm.getD 3 undef = x3 at hlit
      generalize tm.getD 4 undef = x4 at hlit
      generalize tm.getD 5 undef = x5 at hlit
      generalize tm.getD 12 undef = x12 at hlit
      generalize tm.getD 13 undef = x13 at hlit
      generalize tm.getD 14 undef = x14 at hlit
      generalize tm.getD 15 undef = x15 at hlit
      generalize tm.getD 16 undef = x16 at hlit
      generalize tm.getD 17 undef = x17 at hlit
      generalize tm.getD 18 undef = x18 at hlit
      generalize tm.getD 19 undef = x19 at hlit
      generalize tm.getD 20 undef = x20 at hlit
      generalize tm.getD 21 undef = x21 at hlit
      generalize tm.getD 22 undef = x22 at hlit
      generalize tm.getD 23 undef = x23 at hlit
      generalize tm.getD 24 undef = x24 at hlit
      generalize tm.getD 25 undef = x25 at hlit
      generalize tm.getD 26 undef = x26 at hlit
      generalize tm.getD 27 undef = x27 at hlit
      generalize tm.getD 28 undef = x28 at hlit
      generalize tm.getD 29 undef = x29 at hlit
      generalize tm.getD 30 undef = x30 at hlit
      generalize tm.getD 31 undef = x31 at hlit
      generalize tm.getD 32 undef = x32 at hlit
      generalize tm.getD 33 undef = x33 at hlit
      generalize tm.getD 34 undef = x34 at hlit
      generalize tm.getD 35 undef = x35 at hlit
      generalize tm.getD 36 undef = x36 at hlit
      generalize tm.getD 37 undef = x37 at hlit
      generalize tm.getD 38 undef = x38 at hlit
      generalize tm.getD 39 undef = x39 at hlit
      generalize tm.getD 40 undef = x40 at hlit
      generalize tm.getD 41 undef = x41 at hlit
      generalize tm.getD 42 undef = x42 at hlit
      generalize tm.getD 43 undef = x43 at hlit
      generalize tm.getD 44 undef = x44 at hlit
      generalize tm.getD 45 undef = x45 at hlit
      generalize tm.getD 46 undef = x46 at hlit
      generalize tm.getD 47 undef = x47 at hlit
      generalize tm.getD 48 undef = x48 at hlit
      generalize tm.getD 49 undef = x49 at hlit
      generalize tm.getD 50 undef = x50 at hlit
      generalize tm.getD 51 undef = x51 at hlit
      generalize tm.getD 52 undef = x52 at hlit
      generalize tm.getD 53 undef = x53 at hlit
      generalize tm.getD 54 undef = x54 at hlit
      generalize tm.getD 55 undef = x55 at hlit
      generalize tm.getD 56 undef = x56 at hlit
      generalize tm.getD 57 undef = x57 at hlit
      generalize tm.getD 58 undef = x58 at hlit
      generalize tm.getD 59 undef = x59 at hlit
      generalize tm.getD 60 undef = x60 at hlit
      generalize tm.getD 61 undef = x61 at hlit
      generalize tm.getD 62 undef = x62 at hlit
      generalize tm.getD 63 undef = x63 at hlit
      generalize tm.getD 64 undef = x64 at hlit
      generalize tm.getD 65 undef = x65 at hlit
      generalize tm.getD 66 undef = x66 at hlit
      generalize tm.getD 67 undef = x67 at hlit
      generalize tm.getD 68 undef = x68 at hlit
      generalize tm.getD 69 undef = x69 at hlit
      generalize tm.getD 70 undef = x70 at hlit
      generalize tm.getD 71 undef = x71 at hlit
      generalize tm.getD 72 undef = x72 at hlit
      generalize tm.getD 73 undef = x73 at hlit
      generalize tm.getD 74 undef = x74 at hlit
      generalize tm.getD 75 undef = x75 at hlit
      generalize tm.getD 76 undef = x76 at hlit
      generalize tm.getD 77 undef = x77 at hlit
      generalize tm.getD 78 undef = x78 at hlit
      generalize tm.getD 79 undef = x79 at hlit
      generalize tm.getD 80 undef = x80 at hlit
      generalize tm.getD 81 undef = x81 at hlit
      generalize tm.getD 82 undef = x82 at hlit
      subst hlit
      subst hdef
      try simp only []

      have h56 := HC.out w6 hR'
      have B56 := Lib.hid h56
      have V1 := Lib.hid v10
      have HC := Lib.hid (fun (W : World) (hW : Below w6.drew.heap.size w6.drew W) => (B56.out.trans (((Below.refl w6.heap.size w6).drew.trans hW).mono B56.out.size) : Below w5.heap.size w5 W))
      have HC6 := Lib.hid (fun (W : World) (hW : Below w6.drew.heap.size w6.drew W) => ((Below.refl w6.heap.size w6).drew.trans hW : Below w6.heap.size w6 W))
      clear h56 v10 e10 hR' BYCp
      go_upto_region 7 with fail
      refine Facts.wp_region_preds (n := 83) (by kernel_rfl) (by kernel_rfl) rfl [Facts.Pred.is (.slice AR N cR), Facts.Pred.is (.int .i64 (q : Int)), PFoldL (applyAll (newF 3) ((R.take q).map EvS.e)), Facts.Pred.is (.slice AR N cR), Facts.Pred.is (.int .i64 (q : Int)), PEvs m2 (R.drop q), PList m2 (R.drop q), PViewT (applyAll (newF 3) ((R.take q).map EvS.e)) (applyAll (newF 3) (R.map EvS.e)) ((R.drop q).map EvS.e), PViewT (applyAll (newF 3) ((R.take q).map EvS.e)) (applyAll (newF 3) (R.map EvS.e)) ((R.drop q).map EvS.e), PView (applyAll (newF 3) ((R.take q).map EvS.e)) (applyAll (newF 3) (R.map EvS.e)) ((R.drop q).map EvS.e), Facts.Pred.is (.int .i64 0), PView (applyAll (newF 3) ((R.take q).map EvS.e)) (applyAll (newF 3) (R.map EvS.e)) ((R.drop q).map EvS.e), Facts.Pred.is (.int .i64 0)] ?_ ?_
      · refine ⟨?_, ?_, ?_, ?_, ?_, ?_, ?_, ?_, ?_, ?_, ?_, ?_, ?_, trivial⟩
        · refine Facts.step_is (.slice AR N cR) fun a W hR hold hnew => ?_
          have f7 : a.tmps.getD 7 undef = .slice AR N cR := hold 7 (by kernel_rfl)
          refine ⟨Facts.wanted_free rfl, ?_, fun _ => rfl⟩
          simp [go_sem, Act.eval, f7]
        · refine Facts.step_is (.int .i64 (q : Int)) fun a W hR hold hnew => ?_
          have f9 : a.tmps.getD 9 undef = .int .i64 (q : Int) := hold 9 (by kernel_rfl)
          refine ⟨Facts.wanted_free rfl, ?_, fun _ => rfl⟩
          simp [go_sem, Act.eval, f9]
        · refine Facts.step_call fun a W hR hold hnew => ?_
          have f49 : a.tmps.getD 49 undef = .slice AR N cR := hnew 0 49 (by kernel_rfl)
          have f50 : a.tmps.getD 50 undef = .int .i64 (q : Int) := hnew 1 50 (by kernel_rfl)
          refine ⟨Facts.wanted_free rfl, 9, #[.slice AR N cR, .int .i64 (q : Int)], by simp [go_sem, Act.eval, f49, f50], ?_⟩
          refine (BS.out W (HC.out W hR) q (by have := HNN.out; omega)).mono ?_
          rintro e w8 ⟨d8, mb8, rfl, fo8, hb8⟩
          exact ⟨_, rfl, hb8, d8, mb8, rfl, fo8⟩
        · refine Facts.step_is (.slice AR N cR) fun a W hR hold hnew => ?_
          have f7 : a.tmps.getD 7 undef = .slice AR N cR := hold 7 (by kernel_rfl)
          refine ⟨Facts.wanted_free rfl, ?_, fun _ => rfl⟩
          simp [go_sem, Act.eval, f7]
        · refine Facts.step_is (.int .i64 (q : Int)) fun a W hR hold hnew => ?_
          have f9 : a.tmps.getD 9 undef = .int .i64 (q : Int) := hold 9 (by kernel_rfl)
          refine ⟨Facts.wanted_free rfl, ?_, fun _ => rfl⟩
          simp [go_sem, Act.eval, f9]
        · refine Facts.step_some fun a W hR hold hnew => ?_
          have f52 : a.tmps.getD 52 undef = .slice AR N cR := hnew 3 52 (by kernel_rfl)
          have f53 : a.tmps.getD 53 undef = .int .i64 (q : Int) := hnew 4 53 (by kernel_rfl)
          obtain ⟨A9, qrun, hraw⟩ := SL.out W (HC.out W hR) q (by have := HNN.out; omega)
          exact ⟨Facts.wanted_free rfl, .slice A9 (N - q) (cR - q), by simp [go_sem, Act.eval, f52, f53, qrun], A9, cR - q, by rw [HMq.out], (by have h1 := HCAP.out; have h2 := HNN.out; have h3 := HMq.out; omega), hraw⟩
        · refine Facts.step_new fun a W hR hold hnew => ?_
          have h54 : ∃ A c, a.tmps.getD 54 undef = .slice A m2 c ∧ (m2 ≤ c ∧ c ≤ 9223372036854775807) ∧ RawEv W A (R.drop q) := hnew 5 54 (by kernel_rfl)
          obtain ⟨A54, c54, f54, k54, r54⟩ := h54
          rw [Array.getD_eq_getD_getElem?] at f54
          exact ⟨Facts.wanted_free rfl, .slice (some ⟨W.heap.size, 0, none⟩) 1 1, W.alloc (.cells #[.slice A54 m2 c54] 24), by simp [go_sem, Act.eval, f54], (Below.refl _ _).alloc (Nat.le_refl _) _, W.heap.size, A54, c54, rfl, heap_alloc_new W _, k54, r54.below ((Below.refl _ _).alloc (Nat.le_refl _) _)⟩
        · refine Facts.step_call fun a W hR hold hnew => ?_
          have h51 : ∃ d mb, a.tmps.getD 51 undef = .pointer (some ⟨d, 0, none⟩) ∧ FoldAt W [d, mb] d mb (applyAll (newF 3) ((R.take q).map EvS.e)) := hnew 2 51 (by kernel_rfl)
          obtain ⟨d51, mb51, f51, fo51⟩ := h51
          have h55 : ∃ g A c, a.tmps.getD 55 undef = .slice (some ⟨g, 0, none⟩) 1 1 ∧ W.heap[g]? = some (.cells #[.slice A m2 c] 24 (0, 0)) ∧ (m2 ≤ c ∧ c ≤ 9223372036854775807) ∧ RawEv W A (R.drop q) := hnew 6 55 (by kernel_rfl)
          obtain ⟨g55, A55, c55, f55, h55, k55, r55⟩ := h55
          refine ⟨Facts.wanted_free rfl, 8, #[.pointer (some ⟨d51, 0, none⟩), .slice (some ⟨g55, 0, none⟩) 1 1], by simp [go_sem, Act.eval, f51, f55], ?_⟩
          refine (BYCq.out W (HC.out W hR) d51 mb51 g55 A55 c55 fo51 h55 r55 k55).mono ?_
          rintro e w8 ⟨⟨vb8, b8, st8, A8, c8, R8, rfl, v8, e8⟩, hb8⟩
          exact ⟨_, rfl, hb8, vb8, b8, st8, A8, c8, R8, rfl, v8, e8⟩
        · refine Facts.step_some fun a W hR hold hnew => ?_
          have h56 : ∃ vb b0 st A c R', a.tmps.getD 56 undef = .tuple #[.pointer (some ⟨vb, 0, none⟩), .int .i64 0] ∧ ViewAt W vb b0 st (applyAll (newF 3) ((R.take q).map EvS.e)) (applyAll (newF 3) (R.map EvS.e)) A c R' ∧ R'.map EvS.e = ((R.drop q).map EvS.e) := hnew 7 56 (by kernel_rfl)
          obtain ⟨vb56, b56, st56, A56, c56, R56, f56, v56, e56⟩ := h56
          exact ⟨Facts.wanted_free rfl, .tuple #[.pointer (some ⟨vb56, 0, none⟩), .int .i64 0], by simp [go_sem, Act.eval, f56], vb56, b56, st56, A56, c56, R56, rfl, v56, e56⟩
        · refine Facts.step_some fun a W hR hold hnew => ?_
          have h48 : ∃ vb b0 st A c R', a.tmps.getD 48 undef = .tuple #[.pointer (some ⟨vb, 0, none⟩), .int .i64 0] ∧ ViewAt W vb b0 st (applyAll (newF 3) ((R.take q).map EvS.e)) (applyAll (newF 3) (R.map EvS.e)) A c R' ∧ R'.map EvS.e = ((R.drop q).map EvS.e) := hnew 8 48 (by kernel_rfl)
          obtain ⟨vb48, b48, st48, A48, c48, R48, f48, v48, e48⟩ := h48
          exact ⟨Facts.wanted_free rfl, .pointer (some ⟨vb48, 0, none⟩), by simp [go_sem, Act.eval, f48], vb48, b48, st48, A48, c48, R48, rfl, v48, e48⟩
        · refine Facts.step_is (.int .i64 0) fun a W hR hold hnew => ?_
          have h48 : ∃ vb b0 st A c R', a.tmps.getD 48 undef = .tuple #[.pointer (some ⟨vb, 0, none⟩), .int .i64 0] ∧ ViewAt W vb b0 st (applyAll (newF 3) ((R.take q).map EvS.e)) (applyAll (newF 3) (R.map EvS.e)) A c R' ∧ R'.map EvS.e = ((R.drop q).map EvS.e) := hnew 8 48 (by kernel_rfl)
          obtain ⟨vb48, b48, st48, A48, c48, R48, f48, v48, e48⟩ := h48
          refine ⟨Facts.wanted_free rfl, ?_, fun _ => rfl⟩
          simp [go_sem, Act.eval, f48]
        · refine Facts.step_some fun a W hR hold hnew => ?_
          have h57 : ∃ vb b0 st A c R', a.tmps.getD 57 undef = .pointer (some ⟨vb, 0, none⟩) ∧ ViewAt W vb b0 st (applyAll (newF 3) ((R.take q).map EvS.e)) (applyAll (newF 3) (R.map EvS.e)) A c R' ∧ R'.map EvS.e = ((R.drop q).map EvS.e) := hnew 9 57 (by kernel_rfl)
          obtain ⟨vb57, b57, st57, A57, c57, R57, f57, v57, e57⟩ := h57
          exact ⟨Facts.wanted_free rfl, .pointer (some ⟨vb57, 0, none⟩), by simp [go_sem, Act.eval, f57], vb57, b57, st57, A57, c57, R57, rfl, v57, e57⟩
        · refine Facts.step_is (.int .i64 0) fun a W hR hold hnew => ?_
          have f58 : a.tmps.getD 58 undef = .int .i64 0 := hnew 10 58 (by kernel_rfl)
          refine ⟨Facts.wanted_free rfl, ?_, fun _ => rfl⟩
          simp [go_sem, Act.eval, f58]
      · intro a w7 hR' hsize hdef hnew hold
        have h12 : ∃ vb b0 st A c R', a.tmps.getD 12 undef = .pointer (some ⟨vb, 0, none⟩) ∧ ViewAt w7 vb b0 st (applyAll (newF 3) ((R.take q).map EvS.e)) (applyAll (newF 3) (R.map EvS.e)) A c R' ∧ R'.map EvS.e = ((R.drop q).map EvS.e) := hnew 11 12 (by kernel_rfl)
        obtain ⟨vb12, b12, st12, A12, c12, R12, f12, v12, e12⟩ := h12
        have f13 : a.tmps.getD 13 undef = .int .i64 0 := hnew 12 13 (by kernel_rfl)
        have f0 : a.tmps.getD 0 undef = Value.slice A n c := hold 0 (Facts.not_dst (by kernel_rfl))
        have f1 : a.tmps.getD 1 undef = Value.int .u8 (ca : Int) := hold 1 (Facts.not_dst (by kernel_rfl))
        have f2 : a.tmps.getD 2 undef = Value.int .u8 (cb : Int) := hold 2 (Facts.not_dst (by kernel_rfl))
        have f6 : a.tmps.getD 6 undef = Value.bool false := hold 6 (Facts.not_dst (by kernel_rfl))
        have f7 : a.tmps.getD 7 undef = Value.slice AR N cR := hold 7 (Facts.not_dst (by kernel_rfl))
        have f8 : a.tmps.getD 8 undef = Value.int .i64 (p : Int) := hold 8 (Facts.not_dst (by kernel_rfl))
        have f9 : a.tmps.getD 9 undef = Value.int .i64 (q : Int) := hold 9 (Facts.not_dst (by kernel_rfl))
        have f10 : a.tmps.getD 10 undef = Value.pointer (some ⟨vb10, 0, none⟩) := hold 10 (Facts.not_dst (by kernel_rfl))
        have f11 : a.tmps.getD 11 undef = Value.int .i64 0 := hold 11 (Facts.not_dst (by kernel_rfl))
        obtain ⟨tm, df⟩ := a
        simp only [] at hdef hsize f0 f1 f2 f6 f7 f8 f9 f10 f11 f12 f13
        have hlit : tm = #[tm.getD 0 undef, tm.getD 1 undef, tm.getD 2 undef, tm.getD 3 undef, tm.getD 4 undef, tm.getD 5 undef, tm.getD 6 undef, tm.getD 7 undef, tm.getD 8 undef, tm.getD 9 undef, tm.getD 10 undef, tm.getD 11 undef, tm.getD 12 undef, tm.getD 13 undef, tm.getD 14 undef, tm.getD 15 undef, tm.getD 16 undef, tm.getD 17 undef, tm.getD 18 undef, tm.getD 19 undef, tm.getD 20 undef, tm.getD 21 undef, tm.getD 22 undef, tm.getD 23 undef, tm.getD 24 undef, tm.getD 25 undef, tm.getD 26 undef, tm.getD 27 undef, tm.getD 28 undef, tm.getD 29 undef, tm.getD 30 undef, tm.getD 31 undef, tm.getD 32 undef, tm.getD 33 undef, tm.getD 34 undef, tm.getD 35 undef, tm.getD 36 undef, tm.getD 37 undef, tm.getD 38 undef, tm.getD 39 undef, tm.getD 40 undef, tm.getD 41 undef, tm.getD 42 undef, tm.getD 43 undef, tm.getD 44 undef, tm.getD 45 undef, tm.getD 46 undef, tm.getD 47 undef, tm.getD 48 undef, tm.getD 49 undef, tm.getD 50 undef, tm.getD 51 undef, tm.getD 52 undef, tm.getD 53 undef, tm.getD 54 undef, tm.getD 55 undef, tm.getD 56 undef, tm.getD 57 undef, tm.getD 58 undef, tm.getD 59 undef, tm.getD 60 undef, tm.getD 61 undef, tm.getD 62 undef, tm.getD 63 undef, tm.getD 64 undef, tm.getD 65 undef, tm.getD 66 undef, tm.getD 67 undef, tm.getD 68 undef, tm.getD 69 undef, tm.getD 70 undef, tm.getD 71 undef, tm.getD 72 undef, tm.getD 73 undef, tm.getD 74 undef, tm.getD 75 undef, tm.getD 76 undef, tm.getD 77 undef, tm.getD 78 undef, tm.getD 79 undef, tm.getD 80 undef, tm.getD 81 undef, tm.getD 82 undef] := (Facts.array_lit tm hsize).trans rfl
        rw [f0, f1, f2, f6, f7, f8, f9, f10, f11, f12, f13] at hlit
        clear f0 f1 f2 f6 f7 f8 f9 f10 f11 f12 f13 hsize hnew hold
        generalize tm.getD 3 undef = x3 at hlit
        generalize tm.getD 4 undef = x4 at hlit
        generalize tm.getD 5 undef = x5 at hlit
        generalize tm.getD 14 undef = x14 at hlit
        generalize tm.getD 15 undef = x15 at hlit
        generalize tm.getD 16 undef = x16 at hlit
        generalize tm.getD 17 undef = x17 at hlit
        generalize tm.getD 18 undef = x18 at hlit
        generalize tm.getD 19 undef = x19 at hlit
        generalize tm.getD 20 undef = x20 at hlit
        generalize tm.getD 21 undef = x21 at hlit
        generalize tm.getD 22 undef = x22 at hlit
        generalize tm.getD 23 undef = x23 at hlit
        generalize tm.getD 24 undef = x24 at hlit
        generalize tm.getD 25 undef = x25 at hlit
        generalize tm.getD 26 undef = x26 at hlit
        generalize tm.getD 27 undef = x27 at hlit
        generalize tm.getD 28 undef = x28 at hlit
        generalize tm.getD 29 undef = x29 at hlit
        generalize tm.getD 30 undef = x30 at hlit
        generalize tm.getD 31 undef = x31 at hlit
        generalize tm.getD 32 undef = x32 at hlit
        generalize tm.getD 33 undef = x33 at hlit
        generalize tm.getD 34 undef = x34 at hlit
        generalize tm.getD 35 undef = x35 at hlit
        generalize tm.getD 36 undef = x36 at hlit
        generalize tm.getD 37 undef = x37 at hlit
        generalize tm.getD 38 undef = x38 at hlit
        generalize tm.getD 39 undef = x39 at hlit
        generalize tm.getD 40 undef = x40 at hlit
        generalize tm.getD 41 undef = x41 at hlit
        generalize tm.getD 42 undef = x42 at hlit
        generalize tm.getD 43 undef = x43 at hlit
        generalize tm.getD 44 undef = x44 at hlit
        generalize tm.getD 45 undef = x45 at hlit
        generalize tm.getD 46 undef = x46 at hlit
        generalize tm.getD 47 undef = x47 at hlit
        generalize tm.getD 48 undef = x48 at hlit
        generalize tm.getD 49 undef = x49 at hlit
        generalize tm.getD 50 undef = x50 at hlit
        generalize tm.getD 51 undef = x51 at hlit
        generalize tm.getD 52 undef = x52 at hlit
        generalize tm.getD 53 undef = x53 at hlit
        generalize tm.getD 54 undef = x54 at hlit
        generalize tm.getD 55 undef = x55 at hlit
        generalize tm.getD 56 undef = x56 at hlit
        generalize tm.getD 57 undef = x57 at hlit
        generalize tm.getD 58 undef = x58 at hlit
        generalize tm.getD 59 undef = x59 at hlit
        generalize tm.getD 60 undef = x60 at hlit
        generalize tm.getD 61 undef = x61 at hlit
        generalize tm.getD 62 undef = x62 at hlit
        generalize tm.getD 63 undef = x63 at hlit
        generalize tm.getD 64 undef = x64 at hlit
        generalize tm.getD 65 undef = x65 at hlit
        generalize tm.getD 66 undef = x66 at hlit
        generalize tm.getD 67 undef = x67 at hlit
        generalize tm.getD 68 undef = x68 at hlit
        generalize tm.getD 69 undef = x69 at hlit
        generalize tm.getD 70 undef = x70 at hlit
        generalize tm.getD 71 undef = x71 at hlit
        generalize tm.getD 72 undef = x72 at hlit
        generalize tm.getD 73 undef = x73 at hlit
        generalize tm.getD 74 undef = x74 at hlit
        generalize tm.getD 75 undef = x75 at hlit
        generalize tm.getD 76 undef = x76 at hlit
        generalize tm.getD 77 undef = x77 at hlit
        generalize tm.getD 78 undef = x78 at hlit
        generalize tm.getD 79 undef = x79 at hlit
        generalize tm.getD 80 undef = x80 at hlit
        generalize tm.getD 81 undef = x81 at hlit
        generalize tm.getD 82 undef = x82 at hlit
        subst hlit
        subst hdef
        try simp only []

        have B57 := Lib.hid (HC.out w7 hR')
        have V1 := Lib.hid (V1.out.below (HC6.out w7 hR'))
        have V2 := Lib.hid v12
        have HC := Lib.hid (fun (W : World) (hW : Below w7.drew.heap.size w7.drew W) => ((Below.refl w7.heap.size w7).drew.trans hW : Below w7.heap.size w7 W))
        clear v12 e12 hR' BYCq HC6 BS SL
        obtain ⟨F, hF⟩ : ∃ F, F = applyAll (newF 3) (R.map EvS.e) := ⟨_, rfl⟩
        have hFl : F.L.length ≤ 60 := by
          have h1 := HLEN.out R.length
          rw [List.take_length, ← hF] at h1
          exact h1
        rw [← hF] at V1 V2
        have HFL := Lib.hid hFl
        obtain ⟨fl, hfl⟩ : ∃ fl, fl = foldL F := ⟨_, rfl⟩
        have HFF := Lib.hid hfl
        obtain ⟨mk, hmk⟩ : ∃ mk, mk = F.mark := ⟨_, rfl⟩
        have M1 := Lib.hid (fun (W : World) (hW : Below w7.heap.size w7 W) => (by rw [hmk]; exact vmark_any (V1.out.below hW) : Calls Tryz.prog 13 #[.pointer (some ⟨vb10, 0, none⟩)] W fun e w' => e = .returned (.int .u64 (mk : Int)) ∧ w' = W))
        have M2 := Lib.hid (fun (W : World) (hW : Below w7.heap.size w7 W) => (by rw [hmk]; exact vmark_any (V2.out.below hW) : Calls Tryz.prog 13 #[.pointer (some ⟨vb12, 0, none⟩)] W fun e w' => e = .returned (.int .u64 (mk : Int)) ∧ w' = W))
        have F1 := Lib.hid (fun (W : World) (hW : Below w7.heap.size w7 W) => vfold_any (V1.out.below hW))
        have F2 := Lib.hid (fun (W : World) (hW : Below w7.heap.size w7 W) => vfold_any (V2.out.below hW))
        have EN := Lib.hid (fun (W : World) (S : List Nat) (d mb : Nat) (hf : FoldAt W S d mb F) => (by
          rw [HFF.out]
          refine (encode_any W hf (foldL_ok hf.ok HFL.out) (by have := HFL.out; omega)).mono ?_
          rintro e w' ⟨A, c, rfl, ho, hb⟩
          exact ⟨A, c, rfl, Sees.of_own ho, hb⟩ : Calls Tryz.prog 12 #[.pointer (some ⟨d, 0, none⟩)] W fun e w' => ∃ A c, e = .returned (.slice A fl.length c) ∧ Sees w' A fl.length fl ∧ Below W.heap.size W w'))
        obtain ⟨FS, hFS⟩ : ∃ FS : ByteArray, FS = ⟨fl.toArray⟩ := ⟨_, rfl⟩
        have STR := Lib.hid (fun (W : World) (A : Option Addr) (c : Nat) (hs : Sees W A fl.length fl) => (by rw [hFS]; exact hs.string c Tryz.underlying29 Tryz.underlying5 Tryz.underlying9 : (convert 29 9 (.slice A fl.length c)).run Tryz.prog W = .ok (.string FS) W))
        clear hF hFl hfl hmk hFS
        go_upto_region 8 with fail
        refine Facts.wp_region_preds (n := 83) (by kernel_rfl) (by kernel_rfl) rfl [Facts.Pred.is (.int .i64 0), Facts.Pred.is (.bool true), Facts.Pred.is (.bool true), Facts.Pred.is (.int .i64 0), Facts.Pred.is (.bool true), Facts.Pred.is (.bool true), Facts.Pred.is (.bool true), Facts.Pred.is (.pointer (some ⟨vb10, 0, none⟩)), Facts.Pred.is (.int .u64 (mk : Int)), Facts.Pred.is (.pointer (some ⟨vb12, 0, none⟩)), Facts.Pred.is (.int .u64 (mk : Int)), Facts.Pred.is (.bool true), Facts.Pred.is (.bool true), Facts.Pred.is (.bool true), Facts.Pred.is (.pointer (some ⟨vb10, 0, none⟩)), PFoldW (F), PRowF (fl), Facts.Pred.is (.string FS), Facts.Pred.is (.pointer (some ⟨vb12, 0, none⟩)), PFoldW (F), PRowF (fl), Facts.Pred.is (.string FS), Facts.Pred.is (.bool true), Facts.Pred.is (.bool true), Facts.Pred.is (.bool true)] ?_ ?_
        · refine ⟨?_, ?_, ?_, ?_, ?_, ?_, ?_, ?_, ?_, ?_, ?_, ?_, ?_, ?_, ?_, ?_, ?_, ?_, ?_, ?_, ?_, ?_, ?_, ?_, ?_, trivial⟩
          · refine Facts.step_is (.int .i64 0) fun a W hR hold hnew => ?_
            have f11 : a.tmps.getD 11 undef = .int .i64 0 := hold 11 (by kernel_rfl)
            refine ⟨Facts.wanted_free rfl, ?_, fun _ => rfl⟩
            simp [go_sem, Act.eval, f11]
          · refine Facts.step_is (.bool true) fun a W hR hold hnew => ?_
            have f59 : a.tmps.getD 59 undef = .int .i64 0 := hnew 0 59 (by kernel_rfl)
            refine ⟨Facts.wanted_free rfl, ?_, fun _ => rfl⟩
            simp [go_sem, Act.eval, f59]
          · refine Facts.step_is (.bool true) fun a W hR hold hnew => ?_
            have f60 : a.tmps.getD 60 undef = .bool true := hnew 1 60 (by kernel_rfl)
            refine ⟨Facts.wanted_free rfl, ?_, fun _ => rfl⟩
            simp [go_sem, Act.eval, f60]
          · refine Facts.step_is (.int .i64 0) fun a W hR hold hnew => ?_
            have f13 : a.tmps.getD 13 undef = .int .i64 0 := hold 13 (by kernel_rfl)
            have g61 : a.tmps.getD 61 undef = .bool true := hnew 2 61 (by kernel_rfl)
            refine ⟨Facts.wanted_by rfl (by kernel_rfl) g61, ?_, fun _ => rfl⟩
            simp [go_sem, Act.eval, f13]
          · refine Facts.step_is (.bool true) fun a W hR hold hnew => ?_
            have f62 : a.tmps.getD 62 undef = .int .i64 0 := hnew 3 62 (by kernel_rfl)
            have g61 : a.tmps.getD 61 undef = .bool true := hnew 2 61 (by kernel_rfl)
            refine ⟨Facts.wanted_by rfl (by kernel_rfl) g61, ?_, fun _ => rfl⟩
            simp [go_sem, Act.eval, f62]
          · refine Facts.step_is (.bool true) fun a W hR hold hnew => ?_
            have f61 : a.tmps.getD 61 undef = .bool true := hnew 2 61 (by kernel_rfl)
            have f63 : a.tmps.getD 63 undef = .bool true := hnew 4 63 (by kernel_rfl)
            refine ⟨Facts.wanted_free rfl, ?_, fun _ => rfl⟩
            simp [go_sem, Act.eval, f61, f63]
          · refine Facts.step_is (.bool true) fun a W hR hold hnew => ?_
            have f64 : a.tmps.getD 64 undef = .bool true := hnew 5 64 (by kernel_rfl)
            refine ⟨Facts.wanted_free rfl, ?_, fun _ => rfl⟩
            simp [go_sem, Act.eval, f64]
          · refine Facts.step_is (.pointer (some ⟨vb10, 0, none⟩)) fun a W hR hold hnew => ?_
            have f10 : a.tmps.getD 10 undef = .pointer (some ⟨vb10, 0, none⟩) := hold 10 (by kernel_rfl)
            have g65 : a.tmps.getD 65 undef = .bool true := hnew 6 65 (by kernel_rfl)
            refine ⟨Facts.wanted_by rfl (by kernel_rfl) g65, ?_, fun _ => rfl⟩
            simp [go_sem, Act.eval, f10]
          · refine Facts.step_call fun a W hR hold hnew => ?_
            have f66 : a.tmps.getD 66 undef = .pointer (some ⟨vb10, 0, none⟩) := hnew 7 66 (by kernel_rfl)
            have g65 : a.tmps.getD 65 undef = .bool true := hnew 6 65 (by kernel_rfl)
            refine ⟨Facts.wanted_by rfl (by kernel_rfl) g65, 13, #[.pointer (some ⟨vb10, 0, none⟩)], by simp [go_sem, Act.eval, f66], ?_⟩
            refine (M1.out W (HC.out W hR)).mono ?_
            rintro e w8 ⟨rfl, rfl⟩
            exact ⟨_, rfl, Below.refl _ _, rfl⟩
          · refine Facts.step_is (.pointer (some ⟨vb12, 0, none⟩)) fun a W hR hold hnew => ?_
            have f12 : a.tmps.getD 12 undef = .pointer (some ⟨vb12, 0, none⟩) := hold 12 (by kernel_rfl)
            have g65 : a.tmps.getD 65 undef = .bool true := hnew 6 65 (by kernel_rfl)
            refine ⟨Facts.wanted_by rfl (by kernel_rfl) g65, ?_, fun _ => rfl⟩
            simp [go_sem, Act.eval, f12]
          · refine Facts.step_call fun a W hR hold hnew => ?_
            have f68 : a.tmps.getD 68 undef = .pointer (some ⟨vb12, 0, none⟩) := hnew 9 68 (by kernel_rfl)
            have g65 : a.tmps.getD 65 undef = .bool true := hnew 6 65 (by kernel_rfl)
            refine ⟨Facts.wanted_by rfl (by kernel_rfl) g65, 13, #[.pointer (some ⟨vb12, 0, none⟩)], by simp [go_sem, Act.eval, f68], ?_⟩
            refine (M2.out W (HC.out W hR)).mono ?_
            rintro e w8 ⟨rfl, rfl⟩
            exact ⟨_, rfl, Below.refl _ _, rfl⟩
          · refine Facts.step_is (.bool true) fun a W hR hold hnew => ?_
            have f67 : a.tmps.getD 67 undef = .int .u64 (mk : Int) := hnew 8 67 (by kernel_rfl)
            have f69 : a.tmps.getD 69 undef = .int .u64 (mk : Int) := hnew 10 69 (by kernel_rfl)
            have g65 : a.tmps.getD 65 undef = .bool true := hnew 6 65 (by kernel_rfl)
            refine ⟨Facts.wanted_by rfl (by kernel_rfl) g65, ?_, fun _ => rfl⟩
            simp [go_sem, Act.eval, f67, f69]
          · refine Facts.step_is (.bool true) fun a W hR hold hnew => ?_
            have f65 : a.tmps.getD 65 undef = .bool true := hnew 6 65 (by kernel_rfl)
            have f70 : a.tmps.getD 70 undef = .bool true := hnew 11 70 (by kernel_rfl)
            refine ⟨Facts.wanted_free rfl, ?_, fun _ => rfl⟩
            simp [go_sem, Act.eval, f65, f70]
          · refine Facts.step_is (.bool true) fun a W hR hold hnew => ?_
            have f71 : a.tmps.getD 71 undef = .bool true := hnew 12 71 (by kernel_rfl)
            refine ⟨Facts.wanted_free rfl, ?_, fun _ => rfl⟩
            simp [go_sem, Act.eval, f71]
          · refine Facts.step_is (.pointer (some ⟨vb10, 0, none⟩)) fun a W hR hold hnew => ?_
            have f10 : a.tmps.getD 10 undef = .pointer (some ⟨vb10, 0, none⟩) := hold 10 (by kernel_rfl)
            have g72 : a.tmps.getD 72 undef = .bool true := hnew 13 72 (by kernel_rfl)
            refine ⟨Facts.wanted_by rfl (by kernel_rfl) g72, ?_, fun _ => rfl⟩
            simp [go_sem, Act.eval, f10]
          · refine Facts.step_call fun a W hR hold hnew => ?_
            have f73 : a.tmps.getD 73 undef = .pointer (some ⟨vb10, 0, none⟩) := hnew 14 73 (by kernel_rfl)
            have g72 : a.tmps.getD 72 undef = .bool true := hnew 13 72 (by kernel_rfl)
            refine ⟨Facts.wanted_by rfl (by kernel_rfl) g72, 14, #[.pointer (some ⟨vb10, 0, none⟩)], by simp [go_sem, Act.eval, f73], ?_⟩
            refine (F1.out W (HC.out W hR)).mono ?_
            rintro e w8 ⟨S8, d8, mb8, rfl, fo8, hb8⟩
            exact ⟨_, rfl, hb8, S8, d8, mb8, rfl, fo8⟩
          · refine Facts.step_call fun a W hR hold hnew => ?_
            have h74 : ∃ S d mb, a.tmps.getD 74 undef = .pointer (some ⟨d, 0, none⟩) ∧ FoldAt W S d mb (F) := hnew 15 74 (by kernel_rfl)
            obtain ⟨S74, d74, mb74, f74, fo74⟩ := h74
            have g72 : a.tmps.getD 72 undef = .bool true := hnew 13 72 (by kernel_rfl)
            refine ⟨Facts.wanted_by rfl (by kernel_rfl) g72, 12, #[.pointer (some ⟨d74, 0, none⟩)], by simp [go_sem, Act.eval, f74], ?_⟩
            refine (EN.out W S74 d74 mb74 fo74).mono ?_
            rintro e w8 ⟨A8, c8, rfl, s8, hb8⟩
            exact ⟨_, rfl, hb8, A8, c8, rfl, s8⟩
          · refine Facts.step_is (.string FS) fun a W hR hold hnew => ?_
            have h75 : ∃ A c, a.tmps.getD 75 undef = .slice A (fl).length c ∧ Sees W A (fl).length (fl) := hnew 16 75 (by kernel_rfl)
            obtain ⟨A75, c75, f75, s75⟩ := h75
            have g72 : a.tmps.getD 72 undef = .bool true := hnew 13 72 (by kernel_rfl)
            have q := STR.out W A75 c75 s75
            refine ⟨Facts.wanted_by rfl (by kernel_rfl) g72, ?_, fun _ => rfl⟩
            simp [go_sem, Act.eval, f75, q]
          · refine Facts.step_is (.pointer (some ⟨vb12, 0, none⟩)) fun a W hR hold hnew => ?_
            have f12 : a.tmps.getD 12 undef = .pointer (some ⟨vb12, 0, none⟩) := hold 12 (by kernel_rfl)
            have g72 : a.tmps.getD 72 undef = .bool true := hnew 13 72 (by kernel_rfl)
            refine ⟨Facts.wanted_by rfl (by kernel_rfl) g72, ?_, fun _ => rfl⟩
            simp [go_sem, Act.eval, f12]
          · refine Facts.step_call fun a W hR hold hnew => ?_
            have f77 : a.tmps.getD 77 undef = .pointer (some ⟨vb12, 0, none⟩) := hnew 18 77 (by kernel_rfl)
            have g72 : a.tmps.getD 72 undef = .bool true := hnew 13 72 (by kernel_rfl)
            refine ⟨Facts.wanted_by rfl (by kernel_rfl) g72, 14, #[.pointer (some ⟨vb12, 0, none⟩)], by simp [go_sem, Act.eval, f77], ?_⟩
            refine (F2.out W (HC.out W hR)).mono ?_
            rintro e w8 ⟨S8, d8, mb8, rfl, fo8, hb8⟩
            exact ⟨_, rfl, hb8, S8, d8, mb8, rfl, fo8⟩
          · refine Facts.step_call fun a W hR hold hnew => ?_
            have h78 : ∃ S d mb, a.tmps.getD 78 undef = .pointer (some ⟨d, 0, none⟩) ∧ FoldAt W S d mb (F) := hnew 19 78 (by kernel_rfl)
            obtain ⟨S78, d78, mb78, f78, fo78⟩ := h78
            have g72 : a.tmps.getD 72 undef = .bool true := hnew 13 72 (by kernel_rfl)
            refine ⟨Facts.wanted_by rfl (by kernel_rfl) g72, 12, #[.pointer (some ⟨d78, 0, none⟩)], by simp [go_sem, Act.eval, f78], ?_⟩
            refine (EN.out W S78 d78 mb78 fo78).mono ?_
            rintro e w8 ⟨A8, c8, rfl, s8, hb8⟩
            exact ⟨_, rfl, hb8, A8, c8, rfl, s8⟩
          · refine Facts.step_is (.string FS) fun a W hR hold hnew => ?_
            have h79 : ∃ A c, a.tmps.getD 79 undef = .slice A (fl).length c ∧ Sees W A (fl).length (fl) := hnew 20 79 (by kernel_rfl)
            obtain ⟨A79, c79, f79, s79⟩ := h79
            have g72 : a.tmps.getD 72 undef = .bool true := hnew 13 72 (by kernel_rfl)
            have q := STR.out W A79 c79 s79
            refine ⟨Facts.wanted_by rfl (by kernel_rfl) g72, ?_, fun _ => rfl⟩
            simp [go_sem, Act.eval, f79, q]
          · refine Facts.step_is (.bool true) fun a W hR hold hnew => ?_
            have f76 : a.tmps.getD 76 undef = .string FS := hnew 17 76 (by kernel_rfl)
            have f80 : a.tmps.getD 80 undef = .string FS := hnew 21 80 (by kernel_rfl)
            have g72 : a.tmps.getD 72 undef = .bool true := hnew 13 72 (by kernel_rfl)
            refine ⟨Facts.wanted_by rfl (by kernel_rfl) g72, ?_, fun _ => rfl⟩
            simp [go_sem, Act.eval, f76, f80]
          · refine Facts.step_is (.bool true) fun a W hR hold hnew => ?_
            have f72 : a.tmps.getD 72 undef = .bool true := hnew 13 72 (by kernel_rfl)
            have f81 : a.tmps.getD 81 undef = .bool true := hnew 22 81 (by kernel_rfl)
            refine ⟨Facts.wanted_free rfl, ?_, fun _ => rfl⟩
            simp [go_sem, Act.eval, f72, f81]
          · refine Facts.step_is (.bool true) fun a W hR hold hnew => ?_
            have f82 : a.tmps.getD 82 undef = .bool true := hnew 23 82 (by kernel_rfl)
            refine ⟨Facts.wanted_free rfl, ?_, fun _ => rfl⟩
            simp [go_sem, Act.eval, f82]
        · intro a w8 hR' hsize hdef hnew hold
          have f6 : a.tmps.getD 6 undef = .bool true := hnew 24 6 (by kernel_rfl)
          have f10 : a.tmps.getD 10 undef = Value.pointer (some ⟨vb10, 0, none⟩) := hold 10 (Facts.not_dst (by kernel_rfl))
          have f12 : a.tmps.getD 12 undef = Value.pointer (some ⟨vb12, 0, none⟩) := hold 12 (Facts.not_dst (by kernel_rfl))
          obtain ⟨tm, df⟩ := a
          simp only [] at hdef hsize f10 f12 f6
          have hlit : tm = #[tm.getD 0 undef, tm.getD 1 undef, tm.getD 2 undef, tm.getD 3 undef, tm.getD 4 undef, tm.getD 5 undef, tm.getD 6 undef, tm.getD 7 undef, tm.getD 8 undef, tm.getD 9 undef, tm.getD 10 undef, tm.getD 11 undef, tm.getD 12 undef, tm.getD 13 undef, tm.getD 14 undef, tm.getD 15 undef, tm.getD 16 undef, tm.getD 17 undef, tm.getD 18 undef, tm.getD 19 undef, tm.getD 20 undef, tm.getD 21 undef, tm.getD 22 undef, tm.getD 23 undef, tm.getD 24 undef, tm.getD 25 undef, tm.getD 26 undef, tm.getD 27 undef, tm.getD 28 undef, tm.getD 29 undef, tm.getD 30 undef, tm.getD 31 undef, tm.getD 32 undef, tm.getD 33 undef, tm.getD 34 undef, tm.getD 35 undef, tm.getD 36 undef, tm.getD 37 undef, tm.getD 38 undef, tm.getD 39 undef, tm.getD 40 undef, tm.getD 41 undef, tm.getD 42 undef, tm.getD 43 undef, tm.getD 44 undef, tm.getD 45 undef, tm.getD 46 undef, tm.getD 47 undef, tm.getD 48 undef, tm.getD 49 undef, tm.getD 50 undef, tm.getD 51 undef, tm.getD 52 undef, tm.getD 53 undef, tm.getD 54 undef, tm.getD 55 undef, tm.getD 56 undef, tm.getD 57 undef, tm.getD 58 undef, tm.getD 59 undef, tm.getD 60 undef, tm.getD 61 undef, tm.getD 62 undef, tm.getD 63 undef, tm.getD 64 undef, tm.getD 65 undef, tm.getD 66 undef, tm.getD 67 undef, tm.getD 68 undef, tm.getD 69 undef, tm.getD 70 undef, tm.getD 71 undef, tm.getD 72 undef, tm.getD 73 undef, tm.getD 74 undef, tm.getD 75 undef, tm.getD 76 undef, tm.getD 77 undef, tm.getD 78 undef, tm.getD 79 undef, tm.getD 80 undef, tm.getD 81 undef, tm.getD 82 undef] := (Facts.array_lit tm hsize).trans rfl
          rw [f10, f12, f6] at hlit
          clear f10 f12 f6 hsize hnew hold
          generalize tm.getD 0 undef = x0 at hlit
          generalize tm.getD 1 undef = x1 at hlit
          generalize tm.getD 2 undef = x2 at hlit
          generalize tm.getD 3 undef = x3 at hlit
          generalize tm.getD 4 undef = x4 at hlit
          generalize tm.getD 5 undef = x5 at hlit
          generalize tm.getD 7 undef = x7 at hlit
          generalize tm.getD 8 undef = x8 at hlit
          generalize tm.getD 9 undef = x9 at hlit
          generalize tm.getD 11 undef = x11 at hlit
          generalize tm.getD 13 undef = x13 at hlit
          generalize tm.getD 14 undef = x14 at hlit
          generalize tm.getD 15 undef = x15 at hlit
          generalize tm.getD 16 undef = x16 at hlit
          generalize tm.getD 17 undef = x17 at hlit
          generalize tm.getD 18 undef = x18 at hlit
          generalize tm.getD 19 undef = x19 at hlit
          generalize tm.getD 20 undef = x20 at hlit
          generalize tm.getD 21 undef = x21 at hlit
          generalize tm.getD 22 undef = x22 at hlit
          generalize tm.getD 23 undef = x23 at hlit
          generalize tm.getD 24 undef = x24 at hlit
          generalize tm.getD 25 undef = x25 at hlit
          generalize tm.getD 26 undef = x26 at hlit
          generalize tm.getD 27 undef = x27 at hlit
          generalize tm.getD 28 undef = x28 at hlit
          generalize tm.getD 29 undef = x29 at hlit
          generalize tm.getD 30 undef = x30 at hlit
          generalize tm.getD 31 undef = x31 at hlit
          generalize tm.getD 32 undef = x32 at hlit
          generalize tm.getD 33 undef = x33 at hlit
          generalize tm.getD 34 undef = x34 at hlit
          generalize tm.getD 35 undef = x35 at hlit
          generalize tm.getD 36 undef = x36 at hlit
          generalize tm.getD 37 undef = x37 at hlit
          generalize tm.getD 38 undef = x38 at hlit
          generalize tm.getD 39 undef = x39 at hlit
          generalize tm.getD 40 undef = x40 at hlit
          generalize tm.getD 41 undef = x41 at hlit
          generalize tm.getD 42 undef = x42 at hlit
          generalize tm.getD 43 undef = x43 at hlit
          generalize tm.getD 44 undef = x44 at hlit
          generalize tm.getD 45 undef = x45 at hlit
          generalize tm.getD 46 undef = x46 at hlit
          generalize tm.getD 47 undef = x47 at hlit
          generalize tm.getD 48 undef = x48 at hlit
          generalize tm.getD 49 undef = x49 at hlit
          generalize tm.getD 50 undef = x50 at hlit
          generalize tm.getD 51 undef = x51 at hlit
          generalize tm.getD 52 undef = x52 at hlit
          generalize tm.getD 53 undef = x53 at hlit
          generalize tm.getD 54 undef = x54 at hlit
          generalize tm.getD 55 undef = x55 at hlit
          generalize tm.getD 56 undef = x56 at hlit
          generalize tm.getD 57 undef = x57 at hlit
          generalize tm.getD 58 undef = x58 at hlit
          generalize tm.getD 59 undef = x59 at hlit
          generalize tm.getD 60 undef = x60 at hlit
          generalize tm.getD 61 undef = x61 at hlit
          generalize tm.getD 62 undef = x62 at hlit
          generalize tm.getD 63 undef = x63 at hlit
          generalize tm.getD 64 undef = x64 at hlit
          generalize tm.getD 65 undef = x65 at hlit
          generalize tm.getD 66 undef = x66 at hlit
          generalize tm.getD 67 undef = x67 at hlit
          generalize tm.getD 68 undef = x68 at hlit
          generalize tm.getD 69 undef = x69 at hlit
          generalize tm.getD 70 undef = x70 at hlit
          generalize tm.getD 71 undef = x71 at hlit
          generalize tm.getD 72 undef = x72 at hlit
          generalize tm.getD 73 undef = x73 at hlit
          generalize tm.getD 74 undef = x74 at hlit
          generalize tm.getD 75 undef = x75 at hlit
          generalize tm.getD 76 undef = x76 at hlit
          generalize tm.getD 77 undef = x77 at hlit
          generalize tm.getD 78 undef = x78 at hlit
          generalize tm.getD 79 undef = x79 at hlit
          generalize tm.getD 80 undef = x80 at hlit
          generalize tm.getD 81 undef = x81 at hlit
          generalize tm.getD 82 undef = x82 at hlit
          subst hlit
          subst hdef
          try simp only []

          have HB8 := Lib.hid (HB5.out.trans ((B57.out.trans ((HC.out w8 hR').mono B57.out.size)).mono HB5.out.size))
          clear hR' HC
          go_wp2
          go_ret
          exact ⟨rfl, HB8.out⟩
end Go.Proofs.YtmogoopkjkdkgaaGreat.Vw
