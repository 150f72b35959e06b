/- Layer 15: the law ViewRanges, any1. -/
import Derived.Test.YtmogoopkjkdkgaaVRp23
namespace Go.Proofs.Ytmogoopkjkdkgaa.Vw
open Go Go.RowKit Go.Proofs.Ytmogoopkjkdkgaa.Words Go.Proofs.Ytmogoopkjkdkgaa.Enc Go.Proofs.Ytmogoopkjkdkgaa.Q Go.Proofs.Ytmogoopkjkdkgaa.Evt Go.Proofs.Ytmogoopkjkdkgaa.Seg Go.Proofs.Ytmogoopkjkdkgaa.Fol Go.Proofs.Ytmogoopkjkdkgaa.Ord
set_option linter.unusedVariables false
set_option linter.unusedSimpArgs false

set_option maxRecDepth 100000 in
set_option maxHeartbeats 16000000 in
theorem ranges_any1 (A : Option Addr) (n c : Nat) (l : List Nat) (ca tm : Nat) (sw most : Int) (w : World) (h : SeesH w A n l) (hn60 : n ≤ 60) (hca : ca < 256) (htm : tm < 18446744073709551616) (hsw : -9223372036854775808 ≤ sw ∧ sw ≤ 9223372036854775807) (hmo : -9223372036854775808 ≤ most ∧ most ≤ 9223372036854775807) (hca0 : ca % (n + 1) ≠ 0) :
    Calls Try.prog 3 #[.slice A n c, .int .u8 (ca : Int), .agg #[.int .u64 (tm : Int), .int .i64 sw], .int .i64 most, .bool false] w fun e w' => e = .returned (.bool true) ∧ Below w.heap.size w w' := by
  have AW := fun w => awakeV_yes w
  obtain ⟨w1, hw1⟩ : ∃ u, u = w.alloc (.cells #[.int .u64 (tm : Int), .int .i64 sw] 25) := ⟨_, rfl⟩
  have b1 : Below w.heap.size w w1 := by rw [hw1]; exact (Below.refl _ _).alloc (Nat.le_refl _) _
  have g1 : w1.heap[w.heap.size]? = some (.cells #[.int .u64 (tm : Int), .int .i64 sw] 25 (0, 0)) := by rw [hw1]; exact heap_alloc_new w _
  obtain ⟨b7, hb7⟩ : ∃ b, b = w.heap.size := ⟨_, rfl⟩
  rw [← hb7] at g1
  have HW1 := Lib.hid hw1
  have HB7 := Lib.hid hb7
  have HB1 := Lib.hid b1
  have HG1 := Lib.hid g1
  have HSS := Lib.hid (fun W (hW : Below w.heap.size w W) => h.below hW)
  have HCA := Lib.hid hca0
  clear hw1 hb7 b1 g1 h hca0
  have zb : (n : Int) ≤ 60 := by omega
  go_enter Try.func3, Try.ntmps3
  go_upto_region 1 with fail
  rw [← HW1.out, ← HB7.out]
  go_wp2_with fail
  refine (AW w1).mono ?_
  rintro e w2 ⟨rfl, hb2⟩
  have hg2 := (hb2.block b7 (Array.getElem?_eq_some_iff.1 HG1.out).1).trans HG1.out
  have HB2 := Lib.hid (HB1.out.trans (hb2.mono HB1.out.size))
  have HG2 := Lib.hid hg2
  clear hb2 hg2 HG1 HB1 AW
  have HG3 := Lib.hid (show w2.heap[b7]? = some (.cells #[.int .u64 (tm : Int), .int .i64 sw] 25 (0, 0)) from HG2.out)
  have HB3 := HB2
  have HH3 := Lib.hid (HSS.out w2 HB2.out)
  obtain ⟨w3, rfl⟩ : ∃ w3 : World, w3 = w2 := ⟨_, rfl⟩
  clear HG2 HB2
  go_wp2_with fail
  refine (feeds_any A n c 3 l w3 HH3.out (by omega) (by omega) (by omega)).mono ?_
  rintro e w4 ⟨L, T, rfl, FE⟩
  have hGL := feeds_good FE (by omega) (by omega)
  have hLn := FE.lenL
  have hg4 := (FE.below.block b7 (Array.getElem?_eq_some_iff.1 HG3.out).1).trans HG3.out
  have HB4 := Lib.hid (HB3.out.trans (FE.below.mono HB3.out.size))
  have WH := refWhole_any (some ⟨w3.heap.size, 0, none⟩) 3 L w4 hGL.lists (Nat.le_refl _) (by omega) (by have := FE.few; omega)
  rw [hLn] at WH
  have HWH := Lib.hid WH
  have HFE := Lib.hid FE
  have HG4 := Lib.hid hg4
  clear WH hGL FE hLn hg4 HG3 HB3 HH3
  go_wp2_with fail
  refine HWH.out.mono ?_
  rintro e w5 ⟨AR, cR, R, rfl, hown, hperm, hrise, hb5⟩
  obtain ⟨E, hlen⟩ := evs_of HFE.out (by omega) (by omega) hown hperm hrise hb5
  have hcap := own_cap8 hown
  have hflat : (flat L).length = R.length := hperm.length_eq.symm
  rw [hflat] at hown hcap ⊢
  have anti := feeds_antiR HFE.out hperm
  have HB5 := Lib.hid (HB4.out.trans (hb5.mono HB4.out.size))
  have hg5 := (hb5.block b7 (Array.getElem?_eq_some_iff.1 HG4.out).1).trans HG4.out
  have HE := Lib.hid E
  have HAN := Lib.hid anti
  have HCAP := Lib.hid hcap
  have HRW := Lib.hid hown
  have HG5 := Lib.hid hg5
  obtain ⟨N, hN⟩ : ∃ N, N = R.length := ⟨_, rfl⟩
  obtain ⟨p, hp⟩ : ∃ p, p = ca % (N + 1) := ⟨_, rfl⟩
  have hpN : p ≤ N := by rw [hp]; have := Nat.mod_lt ca (show 0 < N + 1 by omega); omega
  have hpm : Int.tmod (ca : Int) ((N : Int) + 1) = (p : Int) := by rw [Int.tmod_eq_emod_of_nonneg (by omega), hp]; simp
  have hN60 : N ≤ 60 := by omega
  have hN61 : (N : Int) ≤ 60 := by omega
  have hp0 : p ≠ 0 := by have := HCA.out; rw [hp, hN, hlen]; exact this
  rw [← hN]
  have HNN := Lib.hid (And.intro hN (And.intro hN60 (And.intro hpN hp0)))
  clear HWH hown hperm hrise hb5 E hlen hcap hflat anti hN hp hN60 hpN HFE hg5 HG4 hp0
  go_upto_region 9 with fail
  obtain ⟨m1, hm1⟩ : ∃ m, m = N - p := ⟨_, rfl⟩
  have HMp := Lib.hid hm1
  have BS := Lib.hid (fun (W : World) (hW : Below w5.heap.size w5 W) (k : Nat) (hk : k ≤ N) => (by
    have hh := HNN.out
    have hb := base_any AR cR R k W (HE.out.sees.below hW) (by omega) (by omega)
    rw [← hh.1] at hb
    refine hb.mono ?_
    rintro e w' ⟨d, mb, rfl, _, _, hf, hl, hb⟩
    exact ⟨d, mb, rfl, hf, hb⟩ : Calls Try.prog 8 #[.slice AR N cR, .int .i64 (k : Int)] W fun e w' => ∃ d mb, e = .returned (.pointer (some ⟨d, 0, none⟩)) ∧ FoldAt w' [d, mb] d mb (applyAll (newF 3) ((R.take k).map EvS.e)) ∧ Below W.heap.size W w'))
  have SL := Lib.hid (fun (W : World) (hW : Below w5.heap.size w5 W) (k : Nat) (hk : k ≤ N) => (by
    have hh := HNN.out
    obtain ⟨A9, h1, h2⟩ := slice_ev AR N cR k W hk (by have := HCAP.out; omega)
    exact ⟨A9, h1, h2 R hh.1.symm (HE.out.below hW).sees.raw⟩ : ∃ A9, (Instr.sliceAt 27 (.slice AR N cR) (some (.int .i64 (k : Int))) none none).run Try.prog W = .ok (.slice A9 (N - k) (cR - k)) W ∧ RawEv W A9 (R.drop k)))
  have BYCp := Lib.hid (fun (W : World) (hW : Below w5.heap.size w5 W) (d mb g : Nat) (A' : Option Addr) (c' : Nat) (hf : FoldAt W [d, mb] d mb (applyAll (newF 3) ((R.take p).map EvS.e))) (hg : W.heap[g]? = some (.cells #[.slice A' m1 c'] 27 (0, 0))) (hr : RawEv W A' (R.drop p)) (hc : m1 ≤ c' ∧ c' ≤ 9223372036854775807) =>
    by_drop (HE.out.below hW) (by have := HNN.out; omega) HAN.out p (by have := HNN.out; omega) [d, mb] d mb (fun x hx => by have := hf.lt; simp at hx; omega) hf (by have := len_60 HE.out (by have := HNN.out; omega) p; omega) g A' c' m1 (by rw [List.length_drop, hm1]; have := HNN.out; omega) 27 hg hr hc)
  have HC := Lib.hid (fun (W : World) (hW : Below w5.drew.heap.size w5.drew W) => ((Below.refl w5.heap.size w5).drew.trans hW : Below w5.heap.size w5 W))
  clear hm1
  refine Facts.wp_region_preds (n := 118) (by kernel_rfl) (by kernel_rfl) rfl [Facts.Pred.is (.slice AR N cR), Facts.Pred.is (.int .i64 (p : Int)), PFoldL (applyAll (newF 3) ((R.take p).map EvS.e)), Facts.Pred.is (.slice AR N cR), Facts.Pred.is (.int .i64 (p : Int)), PEvs m1 (R.drop p), PList m1 (R.drop p), PViewT (applyAll (newF 3) ((R.take p).map EvS.e)) (applyAll (newF 3) (R.map EvS.e)) ((R.drop p).map EvS.e), PViewT (applyAll (newF 3) ((R.take p).map EvS.e)) (applyAll (newF 3) (R.map EvS.e)) ((R.drop p).map EvS.e), PView (applyAll (newF 3) ((R.take p).map EvS.e)) (applyAll (newF 3) (R.map EvS.e)) ((R.drop p).map EvS.e), Facts.Pred.is (.int .i64 0), PView (applyAll (newF 3) ((R.take p).map EvS.e)) (applyAll (newF 3) (R.map EvS.e)) ((R.drop p).map EvS.e), Facts.Pred.is (.int .i64 0)] ?_ ?_
  · refine ⟨?_, ?_, ?_, ?_, ?_, ?_, ?_, ?_, ?_, ?_, ?_, ?_, ?_, trivial⟩
    · refine Facts.step_is (.slice AR N cR) fun a W hR hold hnew => ?_
      have f11 : a.tmps.getD 11 undef = .slice AR N cR := hold 11 (by kernel_rfl)
      refine ⟨Facts.wanted_free rfl, ?_, fun _ => rfl⟩; simp [go_sem, Act.eval, f11]
    · refine Facts.step_is (.int .i64 (p : Int)) fun a W hR hold hnew => ?_
      have f12 : a.tmps.getD 12 undef = .int .i64 (p : Int) := hold 12 (by kernel_rfl)
      refine ⟨Facts.wanted_free rfl, ?_, fun _ => rfl⟩; simp [go_sem, Act.eval, f12]
    · refine Facts.step_call fun a W hR hold hnew => ?_
      have f49 : a.tmps.getD 49 undef = .slice AR N cR := hnew 0 49 (by kernel_rfl)
      have f50 : a.tmps.getD 50 undef = .int .i64 (p : Int) := hnew 1 50 (by kernel_rfl)
      refine ⟨Facts.wanted_free rfl, 8, #[.slice AR N cR, .int .i64 (p : Int)], by simp [go_sem, Act.eval, f49, f50], ?_⟩
      refine (BS.out W (HC.out W hR) p (by have := HNN.out; omega)).mono ?_
      rintro e w8 ⟨d8, mb8, rfl, fo8, hb8⟩
      exact ⟨_, rfl, hb8, d8, mb8, rfl, fo8⟩
    · refine Facts.step_is (.slice AR N cR) fun a W hR hold hnew => ?_
      have f11 : a.tmps.getD 11 undef = .slice AR N cR := hold 11 (by kernel_rfl)
      refine ⟨Facts.wanted_free rfl, ?_, fun _ => rfl⟩; simp [go_sem, Act.eval, f11]
    · refine Facts.step_is (.int .i64 (p : Int)) fun a W hR hold hnew => ?_
      have f12 : a.tmps.getD 12 undef = .int .i64 (p : Int) := hold 12 (by kernel_rfl)
      refine ⟨Facts.wanted_free rfl, ?_, fun _ => rfl⟩; simp [go_sem, Act.eval, f12]
    · refine Facts.step_some fun a W hR hold hnew => ?_
      have f52 : a.tmps.getD 52 undef = .slice AR N cR := hnew 3 52 (by kernel_rfl)
      have f53 : a.tmps.getD 53 undef = .int .i64 (p : Int) := hnew 4 53 (by kernel_rfl)
      obtain ⟨A9, qrun, hraw⟩ := SL.out W (HC.out W hR) p (by have := HNN.out; omega)
      exact ⟨Facts.wanted_free rfl, .slice A9 (N - p) (cR - p), by simp [go_sem, Act.eval, f52, f53, qrun], A9, cR - p, by rw [HMp.out], (by have h1 := HCAP.out; have h2 := HNN.out; have h3 := HMp.out; omega), hraw⟩
    · refine Facts.step_new fun a W hR hold hnew => ?_
      have h54 : ∃ A c, a.tmps.getD 54 undef = .slice A m1 c ∧ (m1 ≤ c ∧ c ≤ 9223372036854775807) ∧ RawEv W A (R.drop p) := hnew 5 54 (by kernel_rfl)
      obtain ⟨A54, c54, f54, k54, r54⟩ := h54
      rw [Array.getD_eq_getD_getElem?] at f54
      exact ⟨Facts.wanted_free rfl, .slice (some ⟨W.heap.size, 0, none⟩) 1 1, W.alloc (.cells #[.slice A54 m1 c54] 27), by simp [go_sem, Act.eval, f54], (Below.refl _ _).alloc (Nat.le_refl _) _, W.heap.size, A54, c54, rfl, heap_alloc_new W _, k54, r54.below ((Below.refl _ _).alloc (Nat.le_refl _) _)⟩
    · refine Facts.step_call fun a W hR hold hnew => ?_
      have h51 : ∃ d mb, a.tmps.getD 51 undef = .pointer (some ⟨d, 0, none⟩) ∧ FoldAt W [d, mb] d mb (applyAll (newF 3) ((R.take p).map EvS.e)) := hnew 2 51 (by kernel_rfl)
      obtain ⟨d51, mb51, f51, fo51⟩ := h51
      have h55 : ∃ g A c, a.tmps.getD 55 undef = .slice (some ⟨g, 0, none⟩) 1 1 ∧ W.heap[g]? = some (.cells #[.slice A m1 c] 27 (0, 0)) ∧ (m1 ≤ c ∧ c ≤ 9223372036854775807) ∧ RawEv W A (R.drop p) := hnew 6 55 (by kernel_rfl)
      obtain ⟨g55, A55, c55, f55, h55, k55, r55⟩ := h55
      refine ⟨Facts.wanted_free rfl, 7, #[.pointer (some ⟨d51, 0, none⟩), .slice (some ⟨g55, 0, none⟩) 1 1], by simp [go_sem, Act.eval, f51, f55], ?_⟩
      refine (BYCp.out W (HC.out W hR) d51 mb51 g55 A55 c55 fo51 h55 r55 k55).mono ?_
      rintro e w8 ⟨⟨vb8, b8, st8, A8, c8, R8, rfl, v8, e8⟩, hb8⟩
      exact ⟨_, rfl, hb8, vb8, b8, st8, A8, c8, R8, rfl, v8, e8⟩
    · refine Facts.step_some fun a W hR hold hnew => ?_
      have h56 : ∃ vb b0 st A c R', a.tmps.getD 56 undef = .tuple #[.pointer (some ⟨vb, 0, none⟩), .int .i64 0] ∧ ViewAt W vb b0 st (applyAll (newF 3) ((R.take p).map EvS.e)) (applyAll (newF 3) (R.map EvS.e)) A c R' ∧ R'.map EvS.e = ((R.drop p).map EvS.e) := hnew 7 56 (by kernel_rfl)
      obtain ⟨vb56, b56, st56, A56, c56, R56, f56, v56, e56⟩ := h56
      exact ⟨Facts.wanted_free rfl, .tuple #[.pointer (some ⟨vb56, 0, none⟩), .int .i64 0], by simp [go_sem, Act.eval, f56], vb56, b56, st56, A56, c56, R56, rfl, v56, e56⟩
    · refine Facts.step_some fun a W hR hold hnew => ?_
      have h48 : ∃ vb b0 st A c R', a.tmps.getD 48 undef = .tuple #[.pointer (some ⟨vb, 0, none⟩), .int .i64 0] ∧ ViewAt W vb b0 st (applyAll (newF 3) ((R.take p).map EvS.e)) (applyAll (newF 3) (R.map EvS.e)) A c R' ∧ R'.map EvS.e = ((R.drop p).map EvS.e) := hnew 8 48 (by kernel_rfl)
      obtain ⟨vb48, b48, st48, A48, c48, R48, f48, v48, e48⟩ := h48
      exact ⟨Facts.wanted_free rfl, .pointer (some ⟨vb48, 0, none⟩), by simp [go_sem, Act.eval, f48], vb48, b48, st48, A48, c48, R48, rfl, v48, e48⟩
    · refine Facts.step_is (.int .i64 0) fun a W hR hold hnew => ?_
      have h48 : ∃ vb b0 st A c R', a.tmps.getD 48 undef = .tuple #[.pointer (some ⟨vb, 0, none⟩), .int .i64 0] ∧ ViewAt W vb b0 st (applyAll (newF 3) ((R.take p).map EvS.e)) (applyAll (newF 3) (R.map EvS.e)) A c R' ∧ R'.map EvS.e = ((R.drop p).map EvS.e) := hnew 8 48 (by kernel_rfl)
      obtain ⟨vb48, b48, st48, A48, c48, R48, f48, v48, e48⟩ := h48
      refine ⟨Facts.wanted_free rfl, ?_, fun _ => rfl⟩; simp [go_sem, Act.eval, f48]
    · refine Facts.step_some fun a W hR hold hnew => ?_
      have h57 : ∃ vb b0 st A c R', a.tmps.getD 57 undef = .pointer (some ⟨vb, 0, none⟩) ∧ ViewAt W vb b0 st (applyAll (newF 3) ((R.take p).map EvS.e)) (applyAll (newF 3) (R.map EvS.e)) A c R' ∧ R'.map EvS.e = ((R.drop p).map EvS.e) := hnew 9 57 (by kernel_rfl)
      obtain ⟨vb57, b57, st57, A57, c57, R57, f57, v57, e57⟩ := h57
      exact ⟨Facts.wanted_free rfl, .pointer (some ⟨vb57, 0, none⟩), by simp [go_sem, Act.eval, f57], vb57, b57, st57, A57, c57, R57, rfl, v57, e57⟩
    · refine Facts.step_is (.int .i64 0) fun a W hR hold hnew => ?_
      have f58 : a.tmps.getD 58 undef = .int .i64 0 := hnew 10 58 (by kernel_rfl)
      refine ⟨Facts.wanted_free rfl, ?_, fun _ => rfl⟩; simp [go_sem, Act.eval, f58]
  · intro a w6 hR' hsize hdef hnew hold
    have h13 : ∃ vb b0 st A c R', a.tmps.getD 13 undef = .pointer (some ⟨vb, 0, none⟩) ∧ ViewAt w6 vb b0 st (applyAll (newF 3) ((R.take p).map EvS.e)) (applyAll (newF 3) (R.map EvS.e)) A c R' ∧ R'.map EvS.e = ((R.drop p).map EvS.e) := hnew 11 13 (by kernel_rfl)
    obtain ⟨vb13, b13, st13, A13, c13, R13, f13, v13, e13⟩ := h13
    have f14 : a.tmps.getD 14 undef = .int .i64 0 := hnew 12 14 (by kernel_rfl)
    have f0 : a.tmps.getD 0 undef = Value.slice A n c := hold 0 (Facts.not_dst (by kernel_rfl))
    have f1 : a.tmps.getD 1 undef = Value.int .u8 (ca : Int) := hold 1 (Facts.not_dst (by kernel_rfl))
    have f3 : a.tmps.getD 3 undef = Value.int .i64 most := hold 3 (Facts.not_dst (by kernel_rfl))
    have f4 : a.tmps.getD 4 undef = Value.bool false := hold 4 (Facts.not_dst (by kernel_rfl))
    have f7 : a.tmps.getD 7 undef = Value.pointer (some ⟨b7, 0, none⟩) := hold 7 (Facts.not_dst (by kernel_rfl))
    have f10 : a.tmps.getD 10 undef = Value.bool false := hold 10 (Facts.not_dst (by kernel_rfl))
    have f11 : a.tmps.getD 11 undef = Value.slice AR N cR := hold 11 (Facts.not_dst (by kernel_rfl))
    have f12 : a.tmps.getD 12 undef = Value.int .i64 (p : Int) := hold 12 (Facts.not_dst (by kernel_rfl))
    obtain ⟨tm, df⟩ := a
    simp only [] at hdef hsize f0 f1 f3 f4 f7 f10 f11 f12 f13 f14
    obtain ⟨xq, hxq, hlit⟩ := Facts.lits tm hsize Facts.idx118 Facts.idx118_eq
    rw [hxq] at f0 f1 f3 f4 f7 f10 f11 f12 f13 f14
    simp only [Facts.idx118, List.map_cons, List.map_nil, f0, f1, f3, f4, f7, f10, f11, f12, f13, f14] at hlit
    clear f0 f1 f3 f4 f7 f10 f11 f12 f13 f14 hsize hnew hold hxq
    subst hlit
    subst hdef
    try simp only []
    have h56 := HC.out w6 hR'
    have B56 := Lib.hid h56
    have V1 := Lib.hid v13
    have HE13 := Lib.hid e13
    have hg6 := (h56.block b7 (Array.getElem?_eq_some_iff.1 HG5.out).1).trans HG5.out
    have s0 : w6.cell? ⟨b7, 0, none⟩ = some (.int .u64 (tm : Int)) := by rw [cell_of_row w6 _ 0 _ _ _ hg6]; rfl
    have s1 : w6.cell? ⟨b7, 1, none⟩ = some (.int .i64 sw) := by rw [cell_of_row w6 _ 1 _ _ _ hg6]; rfl
    have HG6 := Lib.hid hg6
    obtain ⟨F0, hF0⟩ : ∃ F, F = applyAll (newF 3) ((R.take p).map EvS.e) := ⟨_, rfl⟩
    rw [← hF0] at V1
    have HF0 := Lib.hid hF0
    obtain ⟨Q, hQ⟩ : ∃ Q, Q = R.drop p := ⟨_, rfl⟩
    have HQ := Lib.hid hQ
    obtain ⟨M, hM⟩ : ∃ M : Nat, M = most.toNat := ⟨_, rfl⟩
    have HMM := Lib.hid hM
    obtain ⟨X, hX⟩ : ∃ X, decide (cmpS tm sw F0.time (F0.wr : Int) < 0) = X := ⟨_, rfl⟩
    have HXX := Lib.hid hX
    clear h56 v13 e13 hR' BYCp BS SL hg6 hF0 hQ hM HC
    cases X with
    | true =>
      have RNO := Lib.hid (vrange_no V1.out tm sw most hX)
      clear hX
      go_wp2_with fail
      refine RNO.out.mono ?_
      rintro e w7 ⟨rfl, hb7'⟩
      have B67 := Lib.hid hb7'
      clear hb7' RNO
      have LC := Lib.hid (fun (W : World) (hW : Below w6.heap.size w6 W) => (show (W.cell? ⟨b7, 0, none⟩ = some (.int .u64 (tm : Int)) ∧ W.cell? ⟨b7, 1, none⟩ = some (.int .i64 sw)) from ⟨by rw [hW.cell (World.block_lt_of_cell? _ _ s0)]; exact s0, by rw [hW.cell (World.block_lt_of_cell? _ _ s1)]; exact s1⟩))
      obtain ⟨lb, hlb⟩ : ∃ b, b = w7.heap.size := ⟨_, rfl⟩
      obtain ⟨u, hu⟩ : ∃ u, u = w7.alloc (.cells #[.int .u64 0, .int .i64 0] 25) := ⟨_, rfl⟩
      have hb7u : Below w7.heap.size w7 u := by rw [hu]; exact (Below.refl _ _).alloc (Nat.le_refl _) _
      have gl : u.heap[lb]? = some (.cells #[.int .u64 0, .int .i64 0] 25 (0, 0)) := by rw [hu, hlb]; exact heap_alloc_new w7 _
      have HLB := Lib.hid (And.intro hlb hu)
      have B7u := Lib.hid hb7u
      have HGL := Lib.hid gl
      clear hlb hu hb7u gl
      go_upto_region 12 with fail
      rw [← HLB.out.2, ← HLB.out.1]
      obtain ⟨j, hj⟩ : ∃ j, p = j + 1 := ⟨p - 1, by have := HNN.out.2.2.2; omega⟩
      obtain ⟨r, hr⟩ : ∃ r, R[j]? = some r := ⟨_, List.getElem?_eq_getElem (by have := HNN.out; omega)⟩
      have hft := last_of HE.out hr
      rw [← hj, ← HF0.out] at hft
      have hpp : (p : Int) - 1 = (j : Int) := by omega
      have hp1 : (0 : Int) < (p : Int) := by omega
      have hj0 : (0 : Int) ≤ (j : Int) := by omega
      have hjN : (j : Int) < (N : Int) := by have := HNN.out; omega
      have hjw : IntKind.i64.wrap (j : Int) = (j : Int) := by rw [IntKind.wrap_i64]; omega
      have b6u := B67.out.trans (B7u.out.mono B67.out.size)
      have b5u := B56.out.trans (b6u.mono B56.out.size)
      obtain ⟨gR0, hAR0, _⟩ := own_at8 HRW.out (by have := HNN.out; omega)
      subst hAR0
      obtain ⟨b, o, hARe, q0, q1, q2, q3, q4, q5, q6, q7⟩ := RawEv.at_ (HE.out.below b5u).sees.raw hr
      injection hARe with hARe
      injection hARe with hAb hAo
      subst hAb; subst hAo
      rw [show 8 * j = j * 8 by omega] at q0 q1 q2 q3 q4 q5 q6 q7
      simp only [Nat.zero_add] at q0 q1 q2 q3 q4 q5 q6 q7
      have AT := Lib.hid (refAt_any r.e r.A r.n r.c u)
      obtain ⟨lt, hlt⟩ : ∃ t, t = r.e.time := ⟨_, rfl⟩
      obtain ⟨lw, hlw⟩ : ∃ t, t = r.e.writer := ⟨_, rfl⟩
      have AH := Lib.hid (fun (W : World) => (by
        have := ahead_any tm sw lt lw W
        have hx := HXX.out
        rw [hft.1, hft.2, ← hlt, ← hlw] at hx
        rw [show decide (cmpS tm sw lt lw < 0) = true from hx] at this
        exact this : Calls Try.prog 11 #[.agg #[.int .u64 (tm : Int), .int .i64 sw], .agg #[.int .u64 (lt : Int), .int .i64 lw]] W fun e w' => e = .returned (.bool true) ∧ Below W.heap.size W w'))
      unfold Ev.val at AT
      have AT2 : Hid (Calls Try.prog 10 #[.agg #[.int .i64 r.e.writer, .int .u64 (r.e.seq : Int), .int .u64 (r.e.time : Int), .int .u8 (r.e.kind : Int), .string r.e.key, .slice r.A r.n r.c, .float .f64 r.e.num, .int .i64 r.e.node]] u fun e w' => e = .returned (.agg #[.int .u64 (lt : Int), .int .i64 lw]) ∧ Below u.heap.size u w') := by rw [hlt, hlw]; exact AT
      have HHJ := Lib.hid hj
      clear hft hr hj hlt hlw s0 s1 AT
      go_wp2_with fail
      refine AT2.out.mono ?_
      rintro e w7b ⟨rfl, hb7b⟩
      have gl2 := (hb7b.block lb (Array.getElem?_eq_some_iff.1 HGL.out).1).trans HGL.out
      have HB7b := Lib.hid (And.intro hb7b gl2)
      clear hb7b gl2 q0 q1 q2 q3 q4 q5 q6 q7 AT2
      go_wp2_with (first | (refine wpList_putRow rfl 25 (.tmp 17) (.tmp 73) rfl lb 25 #[.int .u64 0, .int .i64 0] #[.int .u64 (lt : Int), .int .i64 lw] rfl rfl ?g1 (by kernel_rfl) rfl (by simp [Value.oneCell']) ?_))
      case g1 => exact HB7b.out.2
      intro w7c hw7c hbe7c
      have b7c : Below w7.heap.size w7 w7c := by
        have h1 := B7u.out.trans (HB7b.out.1.mono B7u.out.size)
        exact Below.beside h1 hbe7c h1.size (fun x hx => by simp at hx; have := HLB.out.1; omega)
      have m0 := (LC.out w7c (B67.out.trans (b7c.mono B67.out.size))).1
      have m1' := (LC.out w7c (B67.out.trans (b7c.mono B67.out.size))).2
      have l0 : w7c.cell? ⟨lb, 0, none⟩ = some (.int .u64 (lt : Int)) := by rw [cell_of_row w7c lb 0 _ _ _ hw7c]; rfl
      have l1 : w7c.cell? ⟨lb, 1, none⟩ = some (.int .i64 lw) := by rw [cell_of_row w7c lb 1 _ _ _ hw7c]; rfl
      have B7c := Lib.hid b7c
      clear b7c hw7c hbe7c
      go_wp2_with fail
      refine (AH.out w7c).mono ?_
      rintro e w8 ⟨rfl, hb8'⟩
      have B78 := Lib.hid (B7c.out.trans (hb8'.mono B7c.out.size))
      clear hb8' m0 m1' l0 l1 AH HGL B7u HLB HB7b B7c hpp hp1 hj0 hjN hjw b6u b5u
      have HF := Lib.hid (HB5.out.trans ((B56.out.trans ((B67.out.trans (B78.out.mono B67.out.size)).mono B56.out.size)).mono HB5.out.size))
      go_wp2
      go_ret
      exact ⟨rfl, HF.out⟩
    | false =>
      have hrQ : Rises Q := by rw [HQ.out]; exact List.Pairwise.sublist (List.drop_sublist p R) HE.out.rise
      have hr13 : Rises R13 := rises_map (r0 := Q) (by rw [HQ.out]; exact HE13.out) hrQ
      obtain ⟨m, hm⟩ : ∃ m : Nat, m = min M (R13.filter (aftB tm sw)).length := ⟨_, rfl⟩
      have RYES := Lib.hid (vrange_yes V1.out tm sw most hX hr13 m ⟨hmo.1, hmo.2⟩ (by rw [hm, HMM.out]; generalize (R13.filter (aftB tm sw)).length = q; omega))
      have HM2 := Lib.hid (And.intro hm (And.intro hrQ hr13))
      clear hX hrQ hr13 hm
      go_wp2_with fail
      refine RYES.out.mono ?_
      rintro e w7 ⟨g, S, rs, rest, rfl, hgot, hb7'⟩
      have B67 := Lib.hid hb7'
      have HGOT := Lib.hid hgot
      clear hb7' RYES hgot
      have LC := Lib.hid (fun (W : World) (hW : Below w6.heap.size w6 W) => (show (W.cell? ⟨b7, 0, none⟩ = some (.int .u64 (tm : Int)) ∧ W.cell? ⟨b7, 1, none⟩ = some (.int .i64 sw)) from ⟨by rw [hW.cell (World.block_lt_of_cell? _ _ s0)]; exact s0, by rw [hW.cell (World.block_lt_of_cell? _ _ s1)]; exact s1⟩))
      obtain ⟨lb, hlb⟩ : ∃ b, b = w7.heap.size := ⟨_, rfl⟩
      obtain ⟨u, hu⟩ : ∃ u, u = w7.alloc (.cells #[.int .u64 0, .int .i64 0] 25) := ⟨_, rfl⟩
      have hb7u : Below w7.heap.size w7 u := by rw [hu]; exact (Below.refl _ _).alloc (Nat.le_refl _) _
      have gl : u.heap[lb]? = some (.cells #[.int .u64 0, .int .i64 0] 25 (0, 0)) := by rw [hu, hlb]; exact heap_alloc_new w7 _
      have HLB := Lib.hid (And.intro hlb hu)
      have B7u := Lib.hid hb7u
      have HGL := Lib.hid gl
      clear hlb hu hb7u gl
      go_upto_region 12 with fail
      rw [← HLB.out.2, ← HLB.out.1]
      obtain ⟨j, hj⟩ : ∃ j, p = j + 1 := ⟨p - 1, by have := HNN.out.2.2.2; omega⟩
      obtain ⟨r, hr⟩ : ∃ r, R[j]? = some r := ⟨_, List.getElem?_eq_getElem (by have := HNN.out; omega)⟩
      have hft := last_of HE.out hr
      rw [← hj, ← HF0.out] at hft
      have hpp : (p : Int) - 1 = (j : Int) := by omega
      have hp1 : (0 : Int) < (p : Int) := by omega
      have hj0 : (0 : Int) ≤ (j : Int) := by omega
      have hjN : (j : Int) < (N : Int) := by have := HNN.out; omega
      have hjw : IntKind.i64.wrap (j : Int) = (j : Int) := by rw [IntKind.wrap_i64]; omega
      have b6u := B67.out.trans (B7u.out.mono B67.out.size)
      have b5u := B56.out.trans (b6u.mono B56.out.size)
      obtain ⟨gR0, hAR0, _⟩ := own_at8 HRW.out (by have := HNN.out; omega)
      subst hAR0
      obtain ⟨b, o, hARe, q0, q1, q2, q3, q4, q5, q6, q7⟩ := RawEv.at_ (HE.out.below b5u).sees.raw hr
      injection hARe with hARe
      injection hARe with hAb hAo
      subst hAb; subst hAo
      rw [show 8 * j = j * 8 by omega] at q0 q1 q2 q3 q4 q5 q6 q7
      simp only [Nat.zero_add] at q0 q1 q2 q3 q4 q5 q6 q7
      have AT := Lib.hid (refAt_any r.e r.A r.n r.c u)
      obtain ⟨lt, hlt⟩ : ∃ t, t = r.e.time := ⟨_, rfl⟩
      obtain ⟨lw, hlw⟩ : ∃ t, t = r.e.writer := ⟨_, rfl⟩
      have AH := Lib.hid (fun (W : World) => (by
        have := ahead_any tm sw lt lw W
        have hx := HXX.out
        rw [hft.1, hft.2, ← hlt, ← hlw] at hx
        rw [show decide (cmpS tm sw lt lw < 0) = false from hx] at this
        exact this : Calls Try.prog 11 #[.agg #[.int .u64 (tm : Int), .int .i64 sw], .agg #[.int .u64 (lt : Int), .int .i64 lw]] W fun e w' => e = .returned (.bool false) ∧ Below W.heap.size W w'))
      unfold Ev.val at AT
      have AT2 : Hid (Calls Try.prog 10 #[.agg #[.int .i64 r.e.writer, .int .u64 (r.e.seq : Int), .int .u64 (r.e.time : Int), .int .u8 (r.e.kind : Int), .string r.e.key, .slice r.A r.n r.c, .float .f64 r.e.num, .int .i64 r.e.node]] u fun e w' => e = .returned (.agg #[.int .u64 (lt : Int), .int .i64 lw]) ∧ Below u.heap.size u w') := by rw [hlt, hlw]; exact AT
      have HHJ := Lib.hid hj
      clear hft hr hj hlt hlw s0 s1 AT
      go_wp2_with fail
      refine AT2.out.mono ?_
      rintro e w7b ⟨rfl, hb7b⟩
      have gl2 := (hb7b.block lb (Array.getElem?_eq_some_iff.1 HGL.out).1).trans HGL.out
      have HB7b := Lib.hid (And.intro hb7b gl2)
      clear hb7b gl2 q0 q1 q2 q3 q4 q5 q6 q7 AT2
      go_wp2_with (first | (refine wpList_putRow rfl 25 (.tmp 17) (.tmp 73) rfl lb 25 #[.int .u64 0, .int .i64 0] #[.int .u64 (lt : Int), .int .i64 lw] rfl rfl ?g1 (by kernel_rfl) rfl (by simp [Value.oneCell']) ?_))
      case g1 => exact HB7b.out.2
      intro w7c hw7c hbe7c
      have b7c : Below w7.heap.size w7 w7c := by
        have h1 := B7u.out.trans (HB7b.out.1.mono B7u.out.size)
        exact Below.beside h1 hbe7c h1.size (fun x hx => by simp at hx; have := HLB.out.1; omega)
      have m0 := (LC.out w7c (B67.out.trans (b7c.mono B67.out.size))).1
      have m1' := (LC.out w7c (B67.out.trans (b7c.mono B67.out.size))).2
      have l0 : w7c.cell? ⟨lb, 0, none⟩ = some (.int .u64 (lt : Int)) := by rw [cell_of_row w7c lb 0 _ _ _ hw7c]; rfl
      have l1 : w7c.cell? ⟨lb, 1, none⟩ = some (.int .i64 lw) := by rw [cell_of_row w7c lb 1 _ _ _ hw7c]; rfl
      have B7c := Lib.hid b7c
      clear b7c hw7c hbe7c
      go_wp2_with fail
      refine (AH.out w7c).mono ?_
      rintro e w8 ⟨rfl, hb8'⟩
      have B78 := Lib.hid (B7c.out.trans (hb8'.mono B7c.out.size))
      clear hb8' m0 m1' l0 l1 AH HGL B7u HLB HB7b B7c hpp hp1 hj0 hjN hjw b6u b5u
      have B58 := Lib.hid (B56.out.trans ((B67.out.trans (B78.out.mono B67.out.size)).mono B56.out.size))
      obtain ⟨ie, hie, hze, hsze, hbye⟩ := info_parts infoEv
      go_wp2_with fail
      go_loopw [18, 19, 85, 86, 87, 88, 89, 90, 91, 92, 93, 94, 95, 96, 97, 98, 99, 100, 101, 102, 103, 104, 105, 106, 107, 108, 109, 110] (fun a18 a19 a85 a86 a87 a88 a89 a90 a91 a92 a93 a94 a95 a96 a97 a98 a99 a100 a101 a102 a103 a104 a105 a106 a107 a108 a109 a110 wr => ∃ (i q mw : Nat) (A' : Option Addr) (c' : Nat), a19 = .int .i64 (i : Int) ∧ a18 = .slice A' mw c' ∧ i ≤ N ∧ Hid (i = p + q ∧ mw = (wantL tm sw M Q q).length ∧ wr.ownsRow w8.heap.size 43 8 (.slice A' mw c') mw (rowsL (wantL tm sw M Q q)) ∧ Below w8.heap.size w8 wr)) (fun a18 a19 a85 a86 a87 a88 a89 a90 a91 a92 a93 a94 a95 a96 a97 a98 a99 a100 a101 a102 a103 a104 a105 a106 a107 a108 a109 a110 _ => N - (intOf a19).toNat)
      case atStart => exact ⟨p, 0, 0, none, 0, rfl, rfl, HNN.out.2.2.1, Lib.hid ⟨rfl, by simp [wantL], by simpa [wantL] using own_nil8 _ _ _, Below.refl _ _⟩⟩
      case round =>
        obtain ⟨i, q, mw, A', c', rfl, rfl, hi, HR⟩ := hrel
        by_cases hlt : i < N
        · have hiR : i < R.length := by rw [← HNN.out.1]; exact hlt
          have hqQ : q < Q.length := by rw [HQ.out, List.length_drop]; have := HR.out.1; omega
          have hxQ : evAt Q q = evAt R i := by rw [HQ.out, evAt_drop (by have := HR.out.1; omega), HR.out.1]
          have hbW5 := B58.out.trans (HR.out.2.2.2.mono B58.out.size)
          have hiq := HR.out.1
          obtain ⟨gR, hAR, _⟩ := own_at8 HRW.out (by omega)
          first | subst hAR | (obtain rfl : gR = gR0 := by (injection hAR with hAR; injection hAR with h1; exact h1.symm))
          have hraw : RawEv wr (some ⟨gR, 0, none⟩) R := RawEv.of_own (own_below8 HRW.out hbW5 (Nat.le_refl _))
          obtain ⟨_, _, hAe, hcR⟩ := hraw (by omega)
          cases hAe
          have hx := RawEv.cells_at (w := wr) (b := gR) (o := 0) (S := R) (k := i) hcR hiR
          simp only [Nat.zero_add] at hx
          have HST := Lib.hid (want_step tm sw M Q q hqQ)
          rw [hxQ] at HST
          have hml : mw ≤ 60 := by have h1 := HR.out.2.1; have h2 := want_len tm sw M Q q; have h3 : Q.length ≤ R.length := (by rw [HQ.out, List.length_drop]; omega); have := HNN.out; omega
          generalize evAt R i = x at hx HST
          have hgw := (hbW5.block b7 (Array.getElem?_eq_some_iff.1 HG5.out).1).trans HG5.out
          have s0 : wr.cell? ⟨b7, 0, none⟩ = some (.int .u64 (tm : Int)) := by rw [cell_of_row wr _ 0 _ _ _ hgw]; rfl
          have s1 : wr.cell? ⟨b7, 1, none⟩ = some (.int .i64 sw) := by rw [cell_of_row wr _ 1 _ _ _ hgw]; rfl
          have HC := Lib.hid (And.intro s0 (And.intro s1 hx))
          have keep : ∀ W, Below wr.heap.size wr W → (W.cell? ⟨b7, 0, none⟩ = some (.int .u64 (tm : Int)) ∧ W.cell? ⟨b7, 1, none⟩ = some (.int .i64 sw) ∧ (W.cell? ⟨gR, i * 8, none⟩ = some (.int .i64 x.e.writer) ∧ W.cell? ⟨gR, i * 8 + 1, none⟩ = some (.int .u64 (x.e.seq : Int)) ∧ W.cell? ⟨gR, i * 8 + 2, none⟩ = some (.int .u64 (x.e.time : Int)) ∧ W.cell? ⟨gR, i * 8 + 3, none⟩ = some (.int .u8 (x.e.kind : Int)) ∧ W.cell? ⟨gR, i * 8 + 4, none⟩ = some (.string x.e.key) ∧ W.cell? ⟨gR, i * 8 + 5, none⟩ = some (.slice x.A x.n x.c) ∧ W.cell? ⟨gR, i * 8 + 6, none⟩ = some (.float .f64 x.e.num) ∧ W.cell? ⟨gR, i * 8 + 7, none⟩ = some (.int .i64 x.e.node))) := fun W hb2 => by
            have old : ∀ {q : Addr} {v : Value}, wr.cell? q = some v → W.cell? q = some v := fun {q v} hq => by rw [hb2.cell (World.block_lt_of_cell? _ _ hq)]; exact hq
            obtain ⟨m1, m2, e0, e1, e2, e3, e4, e5, e6, e7⟩ := HC.out
            exact ⟨old m1, old m2, old e0, old e1, old e2, old e3, old e4, old e5, old e6, old e7⟩
          have HAT : ∀ (w0 : World), Below wr.heap.size wr w0 → Calls Try.prog 10 #[.agg #[.int .i64 x.e.writer, .int .u64 (x.e.seq : Int), .int .u64 (x.e.time : Int), .int .u8 (x.e.kind : Int), .string x.e.key, .slice x.A x.n x.c, .float .f64 x.e.num, .int .i64 x.e.node]] w0 fun e W => e = .returned (.agg #[.int .u64 (x.e.time : Int), .int .i64 x.e.writer]) ∧ Hid (Below wr.heap.size wr W) ∧ (W.cell? ⟨b7, 0, none⟩ = some (.int .u64 (tm : Int)) ∧ W.cell? ⟨b7, 1, none⟩ = some (.int .i64 sw) ∧ (W.cell? ⟨gR, i * 8, none⟩ = some (.int .i64 x.e.writer) ∧ W.cell? ⟨gR, i * 8 + 1, none⟩ = some (.int .u64 (x.e.seq : Int)) ∧ W.cell? ⟨gR, i * 8 + 2, none⟩ = some (.int .u64 (x.e.time : Int)) ∧ W.cell? ⟨gR, i * 8 + 3, none⟩ = some (.int .u8 (x.e.kind : Int)) ∧ W.cell? ⟨gR, i * 8 + 4, none⟩ = some (.string x.e.key) ∧ W.cell? ⟨gR, i * 8 + 5, none⟩ = some (.slice x.A x.n x.c) ∧ W.cell? ⟨gR, i * 8 + 6, none⟩ = some (.float .f64 x.e.num) ∧ W.cell? ⟨gR, i * 8 + 7, none⟩ = some (.int .i64 x.e.node))) := fun w0 hW => by
            refine (refAt_any x.e x.A x.n x.c w0).mono ?_
            rintro e w' ⟨rfl, hb⟩
            have hb2 := hW.trans (hb.mono hW.size)
            exact ⟨rfl, Lib.hid hb2, keep _ hb2⟩
          have HAH : ∀ (w0 : World), Below wr.heap.size wr w0 → Calls Try.prog 11 #[.agg #[.int .u64 (tm : Int), .int .i64 sw], .agg #[.int .u64 (x.e.time : Int), .int .i64 x.e.writer]] w0 fun e W => e = .returned (.bool (aftB tm sw x)) ∧ Hid (Below wr.heap.size wr W) ∧ (W.cell? ⟨b7, 0, none⟩ = some (.int .u64 (tm : Int)) ∧ W.cell? ⟨b7, 1, none⟩ = some (.int .i64 sw) ∧ (W.cell? ⟨gR, i * 8, none⟩ = some (.int .i64 x.e.writer) ∧ W.cell? ⟨gR, i * 8 + 1, none⟩ = some (.int .u64 (x.e.seq : Int)) ∧ W.cell? ⟨gR, i * 8 + 2, none⟩ = some (.int .u64 (x.e.time : Int)) ∧ W.cell? ⟨gR, i * 8 + 3, none⟩ = some (.int .u8 (x.e.kind : Int)) ∧ W.cell? ⟨gR, i * 8 + 4, none⟩ = some (.string x.e.key) ∧ W.cell? ⟨gR, i * 8 + 5, none⟩ = some (.slice x.A x.n x.c) ∧ W.cell? ⟨gR, i * 8 + 6, none⟩ = some (.float .f64 x.e.num) ∧ W.cell? ⟨gR, i * 8 + 7, none⟩ = some (.int .i64 x.e.node))) := fun w0 hW => by
            refine (ahead_any tm sw x.e.time x.e.writer w0).mono ?_
            rintro e w' ⟨rfl, hb⟩
            have hb2 := hW.trans (hb.mono hW.size)
            exact ⟨rfl, Lib.hid hb2, keep _ hb2⟩
          have HTB := Lib.hid (fun W (hW : Below wr.heap.size wr W) => (show W.ownsRow w8.heap.size 43 8 (.slice A' mw c') mw (rowsL (wantL tm sw M Q q)) ∧ Below w8.heap.size w8 W from ⟨own_below8 HR.out.2.2.1 hW (Nat.le_refl _), HR.out.2.2.2.trans (hW.mono HR.out.2.2.2.size)⟩))
          have HML := Lib.hid HR.out.2.1
          have HIQ := Lib.hid hiq
          have zi : (i : Int) < (N : Int) := by omega
          have zi0 : (0 : Int) ≤ (i : Int) := by omega
          have zi60 : (i : Int) ≤ 60 := by omega
          obtain ⟨e0, e1, e2, e3, e4, e5, e6, e7⟩ := hx
          have HKP := Lib.hid (fun W (hW : Below wr.drew.heap.size wr.drew W) => keep W (((Below.refl wr.heap.size wr).drew).trans hW))
          clear keep hgw hraw hcR hbW5 hiq hxQ hqQ
          obtain ⟨av, hav⟩ : ∃ av, aftB tm sw x = av := ⟨_, rfl⟩
          rw [hav] at HAH HST
          have HAV := Lib.hid hav
          clear hav
          go_upto_region 20 with fail
          cases av with
          | true =>
            go_region_held3 (fun W => (W.cell? ⟨b7, 0, none⟩ = some (.int .u64 (tm : Int)) ∧ W.cell? ⟨b7, 1, none⟩ = some (.int .i64 sw) ∧ (W.cell? ⟨gR, i * 8, none⟩ = some (.int .i64 x.e.writer) ∧ W.cell? ⟨gR, i * 8 + 1, none⟩ = some (.int .u64 (x.e.seq : Int)) ∧ W.cell? ⟨gR, i * 8 + 2, none⟩ = some (.int .u64 (x.e.time : Int)) ∧ W.cell? ⟨gR, i * 8 + 3, none⟩ = some (.int .u8 (x.e.kind : Int)) ∧ W.cell? ⟨gR, i * 8 + 4, none⟩ = some (.string x.e.key) ∧ W.cell? ⟨gR, i * 8 + 5, none⟩ = some (.slice x.A x.n x.c) ∧ W.cell? ⟨gR, i * 8 + 6, none⟩ = some (.float .f64 x.e.num) ∧ W.cell? ⟨gR, i * 8 + 7, none⟩ = some (.int .i64 x.e.node)))) (first | exact ⟨s0, s1, e0, e1, e2, e3, e4, e5, e6, e7⟩ | go_keep | assumption)
              (first
                | (go_at_call 10
                   refine (HAT _ ?h1).mono ?_
                   case h1 => first | exact Below.refl _ _ | exact (Below.refl _ _).drew | exact Hid.out (by assumption)
                   rintro e w' ⟨rfl, hb, q0, q1, q2, q3, q4, q5, q6, q7, q8, q9⟩)
                | (go_at_call 11
                   refine (HAH _ ?h1).mono ?_
                   case h1 => first | exact Below.refl _ _ | exact (Below.refl _ _).drew | exact Hid.out (by assumption)
                   rintro e w' ⟨rfl, hb, q0, q1, q2, q3, q4, q5, q6, q7, q8, q9⟩))
            have HW6 := Lib.hid (HTB.out w' hb.out)
            clear HAT HAH HC HTB e0 e1 e2 e3 e4 e5 e6 e7 s0 s1 q0 q1 hb
            by_cases hlm : (mw : Int) < most
            · have HNX := Lib.hid (show wantL tm sw M Q (q + 1) = wantL tm sw M Q q ++ [x] by rw [HST.out, if_pos ⟨by simp, by rw [← HML.out, HMM.out]; omega⟩])
              have hsf := store_float Try.prog
              go_wp2_with (first | (refine wpList_appE rfl (.tmp 104) (.tmp 109) 27 rfl w8.heap.size 43 ie zeroEV Try.underlying27 hie hze hsze hbye rfl A' mw c' (wantL tm sw M Q q) ?hs ?hown (some ⟨w'.heap.size, 0, none⟩) 1 1 [x] ?hx ?hl ?hq ?h63 ?hbase ?h))
              case hs => rfl
              case hown => exact own_below8 HW6.out.1 ((Below.refl _ _).alloc (Nat.le_refl _) _) (Nat.le_refl _)
              case hx => rfl
              case hl => rfl
              case hq =>
                intro _
                refine ⟨w'.heap.size, 0, rfl, fun j v hv => ?_⟩
                rw [Nat.zero_add, cell_of_row _ _ _ _ _ _ (heap_alloc_new w' _)]
                have e : rowsL [x] = x.cells := by simp [rowsL]
                rw [e] at hv
                have hv2 : (x.cells.toArray)[j]? = some v := by rw [List.getElem?_toArray]; exact hv
                exact hv2
              case h63 => omega
              case hbase => have := HW6.out.2.size; simp; omega
              intro A2 c2 wb own2 hbb
              have HR2 := Lib.hid (show i + 1 = p + (q + 1) ∧ mw + 1 = (wantL tm sw M Q (q + 1)).length ∧ wb.ownsRow w8.heap.size 43 8 (.slice A2 (mw + 1) c2) (mw + 1) (rowsL (wantL tm sw M Q (q + 1))) ∧ Below w8.heap.size w8 wb from ⟨by have := HIQ.out; omega, by rw [HNX.out, List.length_append, ← HML.out]; rfl, by rw [HNX.out]; exact own2, (HW6.out.2.alloc HW6.out.2.size _).trans hbb⟩)
              clear own2 hbb HNX HW6 HST HML q2 q3 q4 q5 q6 q7 q8 q9 hsf
              obtain ⟨mw2, hmw2⟩ : ∃ mw2, mw2 = mw + 1 := ⟨_, rfl⟩
              rw [← hmw2] at HR2 ⊢
              clear hmw2
              go_wp2
              go_roundw
              case rel => exact ⟨i + 1, q + 1, mw2, A2, c2, by simp, rfl, by omega, HR2⟩
              case measure => simp [intOf]; omega
            · have HNX := Lib.hid (show wantL tm sw M Q (q + 1) = wantL tm sw M Q q by rw [HST.out, if_neg (fun h => by have h2 := h.2; rw [← HML.out, HMM.out] at h2; omega)])
              have HR2 := Lib.hid (show i + 1 = p + (q + 1) ∧ mw = (wantL tm sw M Q (q + 1)).length ∧ w'.ownsRow w8.heap.size 43 8 (.slice A' mw c') mw (rowsL (wantL tm sw M Q (q + 1))) ∧ Below w8.heap.size w8 w' from ⟨by have := HIQ.out; omega, by rw [HNX.out]; exact HML.out, by rw [HNX.out]; exact HW6.out.1, HW6.out.2⟩)
              clear HNX HW6 HST HML q2 q3 q4 q5 q6 q7 q8 q9
              go_wp2
              go_roundw
              case rel => exact ⟨i + 1, q + 1, mw, A', c', by simp, rfl, by omega, HR2⟩
              case measure => simp [intOf]; omega
          | false =>
            have HNX := Lib.hid (show wantL tm sw M Q (q + 1) = wantL tm sw M Q q by rw [HST.out, if_neg (fun h => absurd h.1 (by simp))])
            obtain ⟨HC1, HC2⟩ : Hid (∀ W, Below wr.drew.heap.size wr.drew W → (W.cell? ⟨b7, 0, none⟩ = some (.int .u64 (tm : Int)) ∧ W.cell? ⟨b7, 1, none⟩ = some (.int .i64 sw) ∧ (W.cell? ⟨gR, i * 8, none⟩ = some (.int .i64 x.e.writer) ∧ W.cell? ⟨gR, i * 8 + 1, none⟩ = some (.int .u64 (x.e.seq : Int)) ∧ W.cell? ⟨gR, i * 8 + 2, none⟩ = some (.int .u64 (x.e.time : Int)) ∧ W.cell? ⟨gR, i * 8 + 3, none⟩ = some (.int .u8 (x.e.kind : Int)) ∧ W.cell? ⟨gR, i * 8 + 4, none⟩ = some (.string x.e.key) ∧ W.cell? ⟨gR, i * 8 + 5, none⟩ = some (.slice x.A x.n x.c) ∧ W.cell? ⟨gR, i * 8 + 6, none⟩ = some (.float .f64 x.e.num) ∧ W.cell? ⟨gR, i * 8 + 7, none⟩ = some (.int .i64 x.e.node)))) ∧ Hid (wr = wr) := ⟨HKP, Lib.hid rfl⟩
            refine Facts.wp_region_preds (n := 118) (by kernel_rfl) (by kernel_rfl) rfl [Facts.Pred.is (.agg #[.int .u64 (tm : Int), .int .i64 sw]), Facts.Pred.is (.slice (some ⟨gR, 0, none⟩) N cR), Facts.Pred.is (.int .i64 (i : Int)), Facts.Pred.is (.pointer (some ⟨gR, i * 8, none⟩)), Facts.Pred.is (.agg #[.int .i64 x.e.writer, .int .u64 (x.e.seq : Int), .int .u64 (x.e.time : Int), .int .u8 (x.e.kind : Int), .string x.e.key, .slice x.A x.n x.c, .float .f64 x.e.num, .int .i64 x.e.node]), Facts.Pred.is (.agg #[.int .u64 (x.e.time : Int), .int .i64 x.e.writer]), Facts.Pred.is (.bool false), Facts.Pred.is (.bool false), Facts.Pred.any, Facts.Pred.any, Facts.Pred.any, Facts.Pred.any, Facts.Pred.is (.bool false)] ?_ ?_
            · refine ⟨?_, ?_, ?_, ?_, ?_, ?_, ?_, ?_, ?_, ?_, ?_, ?_, ?_, trivial⟩
              · refine Facts.step_is (.agg #[.int .u64 (tm : Int), .int .i64 sw]) fun a W hR hold hnew => ?_
                have f7 : a.tmps.getD 7 undef = Value.pointer (some ⟨b7, 0, none⟩) := hold 7 (by kernel_rfl)
                obtain ⟨q0, q1, q2, q3, q4, q5, q6, q7, q8, q9⟩ := HC1.out W hR
                refine ⟨Facts.wanted_free rfl, ?_, fun _ => rfl⟩; simp [go_sem, Act.eval, f7, q0, q1]
              · refine Facts.step_is (.slice (some ⟨gR, 0, none⟩) N cR) fun a W hR hold hnew => ?_
                have f11 : a.tmps.getD 11 undef = Value.slice (some ⟨gR, 0, none⟩) N cR := hold 11 (by kernel_rfl)
                refine ⟨Facts.wanted_free rfl, ?_, fun _ => rfl⟩; simp [go_sem, Act.eval, f11]
              · refine Facts.step_is (.int .i64 (i : Int)) fun a W hR hold hnew => ?_
                have f19 : a.tmps.getD 19 undef = Value.int .i64 (i : Int) := hold 19 (by kernel_rfl)
                refine ⟨Facts.wanted_free rfl, ?_, fun _ => rfl⟩; simp [go_sem, Act.eval, f19]
              · refine Facts.step_is (.pointer (some ⟨gR, i * 8, none⟩)) fun a W hR hold hnew => ?_
                have f92 : a.tmps.getD 92 undef = Value.slice (some ⟨gR, 0, none⟩) N cR := hnew 1 92 (by kernel_rfl)
                have f93 : a.tmps.getD 93 undef = Value.int .i64 (i : Int) := hnew 2 93 (by kernel_rfl)
                refine ⟨Facts.wanted_free rfl, ?_, fun _ => rfl⟩; simp [go_sem, Act.eval, f92, f93, zi, zi0]
              · refine Facts.step_is (.agg #[.int .i64 x.e.writer, .int .u64 (x.e.seq : Int), .int .u64 (x.e.time : Int), .int .u8 (x.e.kind : Int), .string x.e.key, .slice x.A x.n x.c, .float .f64 x.e.num, .int .i64 x.e.node]) fun a W hR hold hnew => ?_
                have f94 : a.tmps.getD 94 undef = Value.pointer (some ⟨gR, i * 8, none⟩) := hnew 3 94 (by kernel_rfl)
                obtain ⟨q0, q1, q2, q3, q4, q5, q6, q7, q8, q9⟩ := HC1.out W hR
                refine ⟨Facts.wanted_free rfl, ?_, fun _ => rfl⟩; simp [go_sem, Act.eval, f94, q2, q3, q4, q5, q6, q7, q8, q9]
              · refine Facts.step_call fun a W hR hold hnew => ?_
                have f95 : a.tmps.getD 95 undef = Value.agg #[.int .i64 x.e.writer, .int .u64 (x.e.seq : Int), .int .u64 (x.e.time : Int), .int .u8 (x.e.kind : Int), .string x.e.key, .slice x.A x.n x.c, .float .f64 x.e.num, .int .i64 x.e.node] := hnew 4 95 (by kernel_rfl)
                refine ⟨Facts.wanted_free rfl, 10, #[.agg #[.int .i64 x.e.writer, .int .u64 (x.e.seq : Int), .int .u64 (x.e.time : Int), .int .u8 (x.e.kind : Int), .string x.e.key, .slice x.A x.n x.c, .float .f64 x.e.num, .int .i64 x.e.node]], by simp [go_sem, Act.eval, f95], (refAt_any x.e x.A x.n x.c W).mono ?_⟩
                rintro e w' ⟨rfl, hb⟩
                exact ⟨_, rfl, hb, rfl⟩
              · refine Facts.step_call fun a W hR hold hnew => ?_
                have f91 : a.tmps.getD 91 undef = Value.agg #[.int .u64 (tm : Int), .int .i64 sw] := hnew 0 91 (by kernel_rfl)
                have f96 : a.tmps.getD 96 undef = Value.agg #[.int .u64 (x.e.time : Int), .int .i64 x.e.writer] := hnew 5 96 (by kernel_rfl)
                refine ⟨Facts.wanted_free rfl, 11, #[.agg #[.int .u64 (tm : Int), .int .i64 sw], .agg #[.int .u64 (x.e.time : Int), .int .i64 x.e.writer]], by simp [go_sem, Act.eval, f91, f96], (ahead_any tm sw x.e.time x.e.writer W).mono ?_⟩
                rintro e w' ⟨rfl, hb⟩
                exact ⟨_, rfl, hb, congrArg Value.bool HAV.out⟩
              · refine Facts.step_is (.bool false) fun a W hR hold hnew => ?_
                have f97 : a.tmps.getD 97 undef = Value.bool false := hnew 6 97 (by kernel_rfl)
                refine ⟨Facts.wanted_free rfl, ?_, fun _ => rfl⟩; simp [go_sem, Act.eval, f97]
              · refine Ord.step_skip (fun a W hnew => ?_) (fun _ => trivial)
                have g98 : a.tmps.getD 98 undef = .bool false := hnew 7 98 (by kernel_rfl)
                exact Ord.wanted_not rfl (by kernel_rfl) g98
              · refine Ord.step_skip (fun a W hnew => ?_) (fun _ => trivial)
                have g98 : a.tmps.getD 98 undef = .bool false := hnew 7 98 (by kernel_rfl)
                exact Ord.wanted_not rfl (by kernel_rfl) g98
              · refine Ord.step_skip (fun a W hnew => ?_) (fun _ => trivial)
                have g98 : a.tmps.getD 98 undef = .bool false := hnew 7 98 (by kernel_rfl)
                exact Ord.wanted_not rfl (by kernel_rfl) g98
              · refine Ord.step_skip (fun a W hnew => ?_) (fun _ => trivial)
                have g98 : a.tmps.getD 98 undef = .bool false := hnew 7 98 (by kernel_rfl)
                exact Ord.wanted_not rfl (by kernel_rfl) g98
              · refine Facts.step_is (.bool false) fun a W hR hold hnew => ?_
                have f98 : a.tmps.getD 98 undef = Value.bool false := hnew 7 98 (by kernel_rfl)
                refine ⟨Facts.wanted_free rfl, ?_, fun _ => rfl⟩; simp [go_sem, Act.eval, f98]
            · intro a w9 hR' hsize hdef hnew hold
              have f103 : a.tmps.getD 103 undef = Value.bool false := hnew 12 103 (by kernel_rfl)
              obtain ⟨tm9, df⟩ := a
              have hfr := frame_region hsize (by rfl) hold
              clear hnew hold
              simp only [List.filterMap_cons, List.filterMap_nil] at hfr
              simp only [List.foldl_cons, List.foldl_nil, List.setIfInBounds_toArray, List.set_cons_succ, List.set_cons_zero] at hfr
              simp only [] at f103 hdef
              rw [f103] at hfr
              clear f103 hsize
              generalize tm9.getD 91 undef = y91 at hfr
              generalize tm9.getD 92 undef = y92 at hfr
              generalize tm9.getD 93 undef = y93 at hfr
              generalize tm9.getD 94 undef = y94 at hfr
              generalize tm9.getD 95 undef = y95 at hfr
              generalize tm9.getD 96 undef = y96 at hfr
              generalize tm9.getD 97 undef = y97 at hfr
              generalize tm9.getD 98 undef = y98 at hfr
              generalize tm9.getD 99 undef = y99 at hfr
              generalize tm9.getD 100 undef = y100 at hfr
              generalize tm9.getD 101 undef = y101 at hfr
              generalize tm9.getD 102 undef = y102 at hfr
              subst hfr
              subst hdef
              have HW6 := Lib.hid (HTB.out w9 (((Below.refl wr.heap.size wr).drew).trans hR'))
              have HR2 := Lib.hid (show i + 1 = p + (q + 1) ∧ mw = (wantL tm sw M Q (q + 1)).length ∧ w9.ownsRow w8.heap.size 43 8 (.slice A' mw c') mw (rowsL (wantL tm sw M Q (q + 1))) ∧ Below w8.heap.size w8 w9 from ⟨by have := HIQ.out; omega, by rw [HNX.out]; exact HML.out, by rw [HNX.out]; exact HW6.out.1, HW6.out.2⟩)
              clear HNX HW6 HST HML HAT HAH HC HTB e0 e1 e2 e3 e4 e5 e6 e7 s0 s1 hR' HC1 HC2 HKP
              go_wp2_with fail
              go_roundw
              case rel => exact ⟨i + 1, q + 1, mw, A', c', by simp, rfl, by omega, HR2⟩
              case measure => simp [intOf]; omega
        · obtain rfl : i = N := by omega
          have hmw := HR.out.2.1
          have hbW := B58.out.trans (HR.out.2.2.2.mono B58.out.size)
          have hqe : q = Q.length := by rw [HQ.out, List.length_drop]; have h1 := HR.out.1; have h2 := HNN.out; omega
          have hQl : wantL tm sw M Q q = (Q.filter (aftB tm sw)).take M := by
            unfold wantL
            rw [hqe, List.take_length]
          have he13 : R13.map EvS.e = Q.map EvS.e := by rw [HQ.out]; exact HE13.out
          have hfe : (R13.filter (aftB tm sw)).map EvS.e = (Q.filter (aftB tm sw)).map EvS.e := filter_map_e he13
          have hml : mw = m := by
            rw [hmw, hQl, List.length_take, HM2.out.1]
            have := congrArg List.length hfe
            rw [List.length_map, List.length_map] at this
            rw [this]
          have SAM := Lib.hid (by
            obtain ⟨h1, h2, h3, h4, h5, h6, h7⟩ := HGOT.out
            have hris : Rises (R13.filter (aftB tm sw)) := List.Pairwise.sublist List.filter_sublist HM2.out.2.2
            have hrs := split_e hris h4 h5 h6 (fun a b ha hb => anti_e he13 (fun x y hx hy => HAN.out x y (by rw [HQ.out] at hx; exact List.mem_of_mem_drop hx) (by rw [HQ.out] at hy; exact List.mem_of_mem_drop hy)) (List.mem_filter.1 ha).1 (List.mem_filter.1 hb).1)
            have hS : S.map EvS.e = (wantL tm sw M Q q).map EvS.e := by
              rw [h3, hrs, h7, hQl, List.map_take, List.map_take, hfe, HM2.out.1]
              have h8 : (R13.filter (aftB tm sw)).length = (Q.filter (aftB tm sw)).length := by have := congrArg List.length hfe; rwa [List.length_map, List.length_map] at this
              rw [h8]
              generalize Q.filter (aftB tm sw) = G
              rcases Nat.le_total M G.length with h9 | h9
              · rw [Nat.min_eq_left h9]
              · rw [Nat.min_eq_right h9, List.take_of_length_le (by simp), List.take_of_length_le (by simp; exact h9)]
            have b8r := B78.out.trans (HR.out.2.2.2.mono B78.out.size)
            have hrow := h2.beside (Beside.of_below b8r []) (fun x hx => by cases hx)
            have hmem : ∀ r ∈ wantL tm sw M Q q, r ∈ R := fun r hr => by
              rw [hQl] at hr
              have h9 := (List.mem_filter.1 (List.mem_of_mem_take hr)).1
              rw [HQ.out] at h9
              exact List.mem_of_mem_drop h9
            have hE := HE.out.below hbW
            rw [← hml] at h1 hrow ⊢
            refine (sameAllR_any (some ⟨g, 0, none⟩) A' mw mw c' S (wantL tm sw M Q q) wr ⟨hrow.raw, fun r hr => (hrow.text r hr).sees⟩ ⟨RawEv.of_own HR.out.2.2.1, fun r hr => hE.sees.text r (hmem r hr)⟩ h1 (by rw [← hmw]) hS (fun r hr => ?_) (by have h9 := want_len tm sw M Q q; have h8 : Q.length ≤ R.length := (by rw [HQ.out, List.length_drop]; omega); have := HNN.out; omega)).mono ?_
            · have hre : r.e ∈ (wantL tm sw M Q q).map EvS.e := by rw [← hS]; exact List.mem_map.2 ⟨r, hr, rfl⟩
              obtain ⟨r', hr', he'⟩ := List.mem_map.1 hre
              rw [← he']
              exact ⟨HE.out.right r' (hmem r' hr'), (HE.out.sees.fit r' (hmem r' hr')).1.q⟩
            · rintro e w' ⟨rfl, hb⟩
              exact ⟨rfl, Lib.hid (HB5.out.trans ((hbW.trans (hb.mono hbW.size)).mono HB5.out.size))⟩ : Calls Try.prog 12 #[.slice (some ⟨g, 0, none⟩) m m, .slice A' mw c'] wr fun e w' => e = .returned (.bool true) ∧ Hid (Below w.heap.size w w'))
          clear hmw hbW hqe hQl he13 hfe hml HR HGOT
          go_wp2_with fail
          refine SAM.out.mono ?_
          rintro e w9 ⟨rfl, H9⟩
          go_wp2
          go_ret
          exact ⟨rfl, H9.out⟩
end Go.Proofs.Ytmogoopkjkdkgaa.Vw
