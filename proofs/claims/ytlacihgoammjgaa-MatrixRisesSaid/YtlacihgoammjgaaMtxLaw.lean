/- Matrix: the law MatrixRises. -/
import Derived.Test.YtlacihgoammjgaaMtxAw
import Derived.Test.YtlacihgoammjgaaMtxIn
import Derived.Deep.QuietTactic
namespace Go.Proofs.Ytlacihgoammjgaa.Mtx
open Go Go.RowKit Go.Proofs.Ytlacihgoammjgaa.Words Go.Proofs.Ytlacihgoammjgaa.Vec Go.Proofs.Ytlacihgoammjgaa.Ord
set_option linter.unusedVariables false
set_option linter.unusedSimpArgs false

theorem RowIn.below {w w' : World} {r : RowS} (h : RowIn w r) (hb : Below w.heap.size w w') : RowIn w' r := ⟨h.sees.below hb, h.fits, h.cap, h.none_, h.time⟩
theorem RowIn.took {w : World} {r : RowS} (h : RowIn w r) (hn : r.n ≤ 8) : Took2 w r.A r.n r.c r.H := ⟨h.sees, h.fits, h.cap.1, h.cap.2, by omega⟩
theorem node_of (z : Int) : ∃ k : Nat, k < 4 ∧ (IntKind.u64.wrap z).tmod 4 = (k : Int) := by
  have h1 : 0 ≤ IntKind.u64.wrap z := by rw [IntKind.wrap_u64]; omega
  refine ⟨(IntKind.u64.wrap z).toNat % 4, by omega, ?_⟩
  rw [Int.tmod_eq_emod_of_nonneg h1]
  omega

theorem wrap64_small {k : Nat} (h : k < 4) : wrap64 (k : Int) = (k : Int) := by
  unfold wrap64; omega
section
variable (A : Option Addr) (n c : Nat) (l : List Nat) (RA : Option Addr) (rc : Nat) (S : List RowS) (M : RowS) (w : World)
set_option maxRecDepth 100000 in
set_option maxHeartbeats 4000000 in
theorem rises_law (h : SeesH w A n l) (hR : RowsIn w RA S) (hM : RowIn w M) :
    Calls Try.prog 6 #[.slice A n c, .slice RA S.length rc, .agg #[.int .i64 M.node, .slice M.A M.n M.c, .int .u64 (M.t : Int)]] w fun e w' => e = .returned (.bool true) ∧ Below w.heap.size w w' := by
  have hnot : ∀ (x : Bool) (w : World), (Op.unary .not (.bool x)).run Try.prog w = .ok (.bool (!x)) w := fun _ _ => rfl
  have C0 := World.cell_new3 w (.int .i64 M.node) (.slice M.A M.n M.c) (.int .u64 (M.t : Int)) 53
  obtain ⟨w1, hw1⟩ : ∃ u, u = w.alloc (.cells #[.int .i64 M.node, .slice M.A M.n M.c, .int .u64 (M.t : Int)] 53) := ⟨_, rfl⟩
  obtain ⟨b5, hb5⟩ : ∃ b, b = w.heap.size := ⟨_, rfl⟩
  have K5 := Lib.hid (show w1.heap[b5]? = some (.cells #[.int .i64 M.node, .slice M.A M.n M.c, .int .u64 (M.t : Int)] 53 (0, 0)) by rw [hw1, hb5]; exact heap_alloc_new w _)
  rw [← hw1, ← hb5] at C0
  obtain ⟨k0, k1, k2⟩ := C0
  have B1 : Below w.heap.size w w1 := by rw [hw1]; exact (Below.refl _ _).alloc (Nat.le_refl _) _
  have hs1 : b5 < w1.heap.size := World.block_lt_of_cell? _ _ k0
  have HW1 := Lib.hid hw1
  have HB5 := Lib.hid hb5
  have HB1 := Lib.hid B1
  have HH := Lib.hid (h.below B1)
  have HM := Lib.hid (hM.below B1)
  have AW := fun w => awakeX_yes w
  clear hw1 hb5 B1 h
  by_cases hn : 60 < n
  · have zb : (60 : Int) < (n : Int) := by omega
    clear k1 k2
    go_enter Try.func6, Try.ntmps6
    go_upto_region 1 with fail
    rw [← HW1.out, ← HB5.out]
    go_wp2_with fail
    refine (AW w1).mono ?_
    rintro e w2 ⟨rfl, hb2⟩
    have k1' : w2.cell? ⟨b5, 0, none⟩ = some (.int .i64 M.node) := (hb2.cell (p := ⟨b5, 0, none⟩) hs1).trans k0
    go_wp2_with fail
    refine (AW w2).mono ?_
    rintro e w3 ⟨rfl, hb3⟩
    have HF := Lib.hid (HB1.out.trans ((hb2.trans (hb3.mono hb2.size)).mono HB1.out.size))
    clear hb2 hb3
    go_wp2
    go_ret
    exact ⟨rfl, HF.out⟩
  by_cases hr : 20 < S.length
  · have zb : (n : Int) ≤ 60 := by omega
    have zr : (20 : Int) < (S.length : Int) := by omega
    clear k1 k2
    go_enter Try.func6, Try.ntmps6
    go_upto_region 1 with fail
    rw [← HW1.out, ← HB5.out]
    go_wp2_with fail
    refine (AW w1).mono ?_
    rintro e w2 ⟨rfl, hb2⟩
    go_wp2_with fail
    refine (AW w2).mono ?_
    rintro e w3 ⟨rfl, hb3⟩
    have HF := Lib.hid (HB1.out.trans ((hb2.trans (hb3.mono hb2.size)).mono HB1.out.size))
    clear hb2 hb3
    go_wp2
    go_ret
    exact ⟨rfl, HF.out⟩
  by_cases hm : 8 < M.n
  · have zb : (n : Int) ≤ 60 := by omega
    have zr : (S.length : Int) ≤ 20 := by omega
    have zm : (8 : Int) < (M.n : Int) := by omega
    clear k0 k2
    go_enter Try.func6, Try.ntmps6
    go_upto_region 1 with fail
    rw [← HW1.out, ← HB5.out]
    go_wp2_with fail
    refine (AW w1).mono ?_
    rintro e w2 ⟨rfl, hb2⟩
    have k1' : w2.cell? ⟨b5, 1, none⟩ = some (.slice M.A M.n M.c) := (hb2.cell (p := ⟨b5, 1, none⟩) hs1).trans k1
    go_wp2_with fail
    refine (AW w2).mono ?_
    rintro e w3 ⟨rfl, hb3⟩
    have HF := Lib.hid (HB1.out.trans ((hb2.trans (hb3.mono hb2.size)).mono HB1.out.size))
    clear hb2 hb3
    go_wp2
    go_ret
    exact ⟨rfl, HF.out⟩
  have zb : (n : Int) ≤ 60 := by omega
  have zr : (S.length : Int) ≤ 20 := by omega
  have zm : (M.n : Int) ≤ 8 := by omega
  obtain ⟨km, hkm, hkm2⟩ := node_of M.node
  have hkm64 : IntKind.i64.wrap (km : Int) = (km : Int) := by rw [IntKind.wrap_i64]; omega
  have HKM := Lib.hid hkm2
  clear hkm2
  go_enter Try.func6, Try.ntmps6
  go_upto_region 1 with fail
  rw [← HW1.out, ← HB5.out]
  go_wp2_with fail
  refine (AW w1).mono ?_
  rintro e w2 ⟨rfl, hb2⟩
  have g0 : w2.cell? ⟨b5, 0, none⟩ = some (.int .i64 M.node) := (hb2.cell (p := ⟨b5, 0, none⟩) hs1).trans k0
  have g1 : w2.cell? ⟨b5, 1, none⟩ = some (.slice M.A M.n M.c) := (hb2.cell (p := ⟨b5, 1, none⟩) hs1).trans k1
  have g2 : w2.cell? ⟨b5, 2, none⟩ = some (.int .u64 (M.t : Int)) := (hb2.cell (p := ⟨b5, 2, none⟩) hs1).trans k2
  have hs2 : b5 < w2.heap.size := World.block_lt_of_cell? _ _ g0
  have HB2 := Lib.hid (HB1.out.trans (hb2.mono HB1.out.size))
  have HH2 := Lib.hid (HH.out.below hb2)
  have HM2 := Lib.hid (HM.out.below hb2)
  have K52 := Lib.hid ((hb2.block b5 hs1).trans K5.out)
  clear hb2 k0 k1 k2 hs1 HH HM HB1 K5
  go_wp2_with fail
  refine (feeds_any A n c 4 l w2 HH2.out (by omega) (by omega) (by omega)).mono ?_
  rintro e w3 ⟨L, T, rfl, FE⟩
  obtain ⟨hLA, hRI, hLO⟩ := feeds_known FE (by omega) (by omega) (by omega)
  have B3 := FE.below
  have HLA := Lib.hid hLA
  have HRI := Lib.hid hRI
  have HLO := Lib.hid hLO
  obtain ⟨LL, hLL⟩ : ∃ LL, LL = knownOf L := ⟨_, rfl⟩
  rw [← hLL] at HLA HRI HLO
  obtain ⟨ob, hob⟩ : ∃ b, b = w2.heap.size := ⟨_, rfl⟩
  rw [← hob] at HLA HLO ⊢
  have hobs : ob < w3.heap.size := by rw [hob]; exact (Array.getElem?_eq_some_iff.1 FE.out).1
  have h5o : b5 < ob := by omega
  have f0 := (B3.cell (p := ⟨b5, 0, none⟩) hs2).trans g0
  have f1 := (B3.cell (p := ⟨b5, 1, none⟩) hs2).trans g1
  have f2 := (B3.cell (p := ⟨b5, 2, none⟩) hs2).trans g2
  have hs3 : b5 < w3.heap.size := by omega
  have HB3 := Lib.hid (HB2.out.trans (B3.mono HB2.out.size))
  have HM3 := Lib.hid (HM2.out.below B3)
  have K53 := Lib.hid ((B3.block b5 hs2).trans K52.out)
  clear hLA hRI hLO FE hLL hob g0 g1 g2 hs2 B3 HH2 HM2 HB2 K52
  clear L T
  go_wp2_with fail
  refine (new_any w3).mono ?_
  rintro e w4 ⟨rfl, hw4⟩
  have M4 : MatAt w3.heap.size (fun _ => noHav) w4 := by rw [hw4]; exact mat_new w3
  have B4 := Lib.hid (show Below w3.heap.size w3 w4 by rw [hw4]; exact (Below.refl _ _).alloc (Nat.le_refl _) _)
  have HM4 := Lib.hid M4
  obtain ⟨mb, hmb⟩ : ∃ mb, mb = w3.heap.size := ⟨_, rfl⟩
  rw [← hmb] at HM4 ⊢
  have hom : ob < mb := by omega
  have HLT := Lib.hid (fun k (hk : k < 4) (h0 : 0 < (LL k).n) a (ha : (LL k).A = some a) => (by
    obtain ⟨b, o, h1, h2, _⟩ := HLA.out.time k hk 0 h0
    rw [ha] at h1
    injection h1 with h1
    have h3 := World.block_lt_of_cell? _ _ h2
    rw [h1, hmb]
    exact h3 : a.block < mb))
  have HMB := Lib.hid hmb
  clear hmb hw4 M4
  have HR4 := Lib.hid (show RowsIn w RA S from hR)
  clear hR
  go_wp2_with fail
  have HCR := Lib.hid (fun i (hi : i < S.length) (W : World) (hW : Below w3.heap.size w3 W) => (by
    obtain ⟨b, o, h1, h2, h3⟩ := HR4.out i hi
    have hB : Below w.heap.size w W := HB3.out.trans (hW.mono HB3.out.size)
    have q := fun k v (hv : (S.getD i default).cells[k]? = some v) => (hB.cell (p := ⟨b, o + i * 3 + k, none⟩) (World.block_lt_of_cell? _ _ (h3 k v hv))).trans (h3 k v hv)
    exact ⟨b, o, h1, h2.below hB, q 0 _ rfl, q 1 _ rfl, q 2 _ rfl⟩ : ∃ b o, RA = some ⟨b, o, none⟩ ∧ RowIn W (S.getD i default) ∧ W.cell? ⟨b, o + i * 3, none⟩ = some (.int .i64 (S.getD i default).node) ∧ W.cell? ⟨b, o + i * 3 + 1, none⟩ = some (.slice (S.getD i default).A (S.getD i default).n (S.getD i default).c) ∧ W.cell? ⟨b, o + i * 3 + 2, none⟩ = some (.int .u64 ((S.getD i default).t : Int))))
  obtain ⟨N, hN⟩ : ∃ N, S.length = N := ⟨_, rfl⟩
  rw [hN] at HCR zr ⊢
  clear hN hr HR4
  go_loopw [9, 10, 36, 37, 38, 39, 40, 41, 42, 43, 44, 45, 46, 47, 48, 49, 50, 51, 52, 53, 54, 55, 56, 57, 58] (fun a9 a10 a36 a37 a38 a39 a40 a41 a42 a43 a44 a45 a46 a47 a48 a49 a50 a51 a52 a53 a54 a55 a56 a57 a58 wr => ∃ (j : Nat) (R : Nat → Hav), a9 = .int .i64 (j : Int) ∧ j ≤ N ∧ Hid (MatAt mb R wr) ∧ Hid (Below w3.heap.size w3 wr)) (fun a9 a10 a36 a37 a38 a39 a40 a41 a42 a43 a44 a45 a46 a47 a48 a49 a50 a51 a52 a53 a54 a55 a56 a57 a58 _ => N - (intOf a9).toNat)
  case atStart => exact ⟨0, _, rfl, by omega, HM4, B4⟩
  case round =>
    obtain ⟨j, R, rfl, hj, HMR, HBR⟩ := hrel
    by_cases h1 : j < N
    · obtain ⟨b, o, rfl, hri, r0, r1, r2⟩ := HCR.out j h1 wr HBR.out
      generalize S.getD j default = r at hri r0 r1 r2
      obtain ⟨k, hk, hk2⟩ := node_of r.node
      have hk64 : IntKind.i64.wrap (k : Int) = (k : Int) := by rw [IntKind.wrap_i64]; omega
      have h1i : (j : Int) < (N : Int) := by omega
      have HK2 := Lib.hid hk2
      have HRI2 := Lib.hid hri
      clear hk2 hri
      by_cases h8 : 8 < r.n
      · have z8 : (8 : Int) < (r.n : Int) := by omega
        have HF := Lib.hid (fun o => HB3.out.trans ((HBR.out.alloc HBR.out.size o).mono HB3.out.size))
        go_wp2
        go_ret
        exact ⟨rfl, HF.out _⟩
      · have z8 : (r.n : Int) ≤ 8 := by omega
        go_upto_region 11 with fail
        have CX := World.cell_new3 wr (.int .i64 r.node) (.slice r.A r.n r.c) (.int .u64 (r.t : Int)) 53
        obtain ⟨wx, hwx⟩ : ∃ u, u = wr.alloc (.cells #[.int .i64 r.node, .slice r.A r.n r.c, .int .u64 (r.t : Int)] 53) := ⟨_, rfl⟩
        obtain ⟨d, hd⟩ : ∃ b, b = wr.heap.size := ⟨_, rfl⟩
        have hfx : wx.frozen? ⟨d, 0, none⟩ = false := by rw [hwx, hd]; exact frozen_row0 (heap_alloc_new wr _)
        have HXB := Lib.hid (show wx.heap[d]? = some (.cells #[.int .i64 r.node, .slice r.A r.n r.c, .int .u64 (r.t : Int)] 53 (0, 0)) by rw [hwx, hd]; exact heap_alloc_new wr _)
        have BX : Below wr.heap.size wr wx := by rw [hwx]; exact (Below.refl _ _).alloc (Nat.le_refl _) _
        rw [← hwx, ← hd] at CX ⊢
        obtain ⟨x0, x1, x2⟩ := CX
        have HBX := Lib.hid BX
        have HD := Lib.hid hd
        clear hwx hd BX r0 r1 r2
        go_upto_region 12 with fail
        rw [HK2.out, wrap64_small hk]
        have Y0 : (wx.setCell ⟨d, 0, none⟩ (.int .i64 (k : Int))).cell? ⟨d, 0, none⟩ = some (.int .i64 (k : Int)) := by rw [cell_of_row _ d _ _ _ _ (heapSame HXB.out)]; rfl
        have Y1 : (wx.setCell ⟨d, 0, none⟩ (.int .i64 (k : Int))).cell? ⟨d, 1, none⟩ = some (.slice r.A r.n r.c) := by rw [cell_of_row _ d _ _ _ _ (heapSame HXB.out)]; rfl
        have Y2 : (wx.setCell ⟨d, 0, none⟩ (.int .i64 (k : Int))).cell? ⟨d, 2, none⟩ = some (.int .u64 (r.t : Int)) := by rw [cell_of_row _ d _ _ _ _ (heapSame HXB.out)]; rfl
        have B5 := Lib.hid (HBX.out.setCell (p := ⟨d, 0, none⟩) (by rw [HD.out]; exact Nat.le_refl _) (.int .i64 (k : Int)))
        generalize wx.setCell ⟨d, 0, none⟩ (.int .i64 (k : Int)) = w5 at Y0 Y1 Y2 B5 ⊢
        have HM5 := Lib.hid (HMR.out.below B5.out)
        have HT5 := Lib.hid ((HRI2.out.below B5.out).took (by omega))
        clear x0 x1 x2 hfx HBX HXB
        go_wp2_with fail
        refine (raiseM_any mb k R r.A r.n r.c r.t r.H w5 HM5.out (by omega) HT5.out (by omega) HRI2.out.time HRI2.out.none_).mono ?_
        rintro e w6 ⟨⟨b1, rfl, _⟩, R1, D1⟩
        have HM6 := Lib.hid D1.mat
        have B6 := Lib.hid (Below.beside (HBR.out.trans (B5.out.mono HBR.out.size)) D1.beside (Nat.le_trans HBR.out.size B5.out.size) (fun x hx => by rw [List.mem_singleton.1 hx, HMB.out]; exact Nat.le_refl _))
        clear D1 HM5 HT5
        go_wp2
        go_roundw
        case rel => exact ⟨j + 1, R1, by simp, by omega, HM6, B6⟩
        case measure => simp [intOf]; omega
    · obtain rfl : j = N := by omega
      go_upto_region 13 with fail
      obtain ⟨wk, hwk⟩ : ∃ u, u = wr.alloc (.cells #[.slice none 0 0, .slice (some ⟨ob, 0, none⟩) 4 4] 60) := ⟨_, rfl⟩
      obtain ⟨kb, hkb⟩ : ∃ b, b = wr.heap.size := ⟨_, rfl⟩
      obtain ⟨wg, hwg⟩ : ∃ u, u = wk.alloc (.cells #[.int .i64 0, .int .i64 1, .int .i64 2, .int .i64 3] 3) := ⟨_, rfl⟩
      obtain ⟨gb, hgb⟩ : ∃ b, b = wr.heap.size + 1 := ⟨_, rfl⟩
      have hks : wk.heap.size = wr.heap.size + 1 := by rw [hwk]; simp
      have Bk : Below wr.heap.size wr wk := by rw [hwk]; exact (Below.refl _ _).alloc (Nat.le_refl _) _
      have Bg : Below wk.heap.size wk wg := by rw [hwg]; exact (Below.refl _ _).alloc (Nat.le_refl _) _
      have Bx : Below wr.heap.size wr wg := Bk.trans (Bg.mono Bk.size)
      have CK := World.cell_new2 wr (.slice none 0 0) (.slice (some ⟨ob, 0, none⟩) 4 4) 60
      rw [← hwk, ← hkb] at CK
      have q0 : wg.cell? ⟨kb, 0, none⟩ = some (.slice none 0 0) := (Bg.cell (p := ⟨kb, 0, none⟩) (by show kb < _; omega)).trans CK.1
      have q1 : wg.cell? ⟨kb, 1, none⟩ = some (.slice (some ⟨ob, 0, none⟩) 4 4) := (Bg.cell (p := ⟨kb, 1, none⟩) (by show kb < _; omega)).trans CK.2
      have HG := Lib.hid (fun i (hi : i < [0, 1, 2, 3].length) => (by
        have hrow : wg.heap[gb]? = some (.cells #[.int .i64 0, .int .i64 1, .int .i64 2, .int .i64 3] 3 (0, 0)) := by rw [hwg, hgb, ← hks]; exact heap_alloc_new wk _
        match i, hi with
        | 0, _ => exact ⟨by rw [cell_of_row _ gb _ _ _ _ hrow]; rfl, by decide⟩
        | 1, _ => exact ⟨by rw [cell_of_row _ gb _ _ _ _ hrow]; rfl, by decide⟩
        | 2, _ => exact ⟨by rw [cell_of_row _ gb _ _ _ _ hrow]; rfl, by decide⟩
        | 3, _ => exact ⟨by rw [cell_of_row _ gb _ _ _ _ hrow]; rfl, by decide⟩ : wg.cell? ⟨gb, i, none⟩ = some (.int .i64 (([0, 1, 2, 3] : List Nat).getD i 0 : Int)) ∧ ([0, 1, 2, 3] : List Nat).getD i 0 < 64))
      have hgs : gb < wg.heap.size := World.block_lt_of_cell? _ _ (HG.out 0 (by decide)).1
      have hkgs : kb < wg.heap.size := World.block_lt_of_cell? _ _ q0
      have Brg := HBR.out.trans (Bx.mono HBR.out.size)
      have h5g : b5 < wg.heap.size := Nat.lt_of_lt_of_le hs3 Brg.size
      have p0 : wg.cell? ⟨b5, 0, none⟩ = some (.int .i64 M.node) := (Brg.cell (p := ⟨b5, 0, none⟩) hs3).trans f0
      have p1 : wg.cell? ⟨b5, 1, none⟩ = some (.slice M.A M.n M.c) := (Brg.cell (p := ⟨b5, 1, none⟩) hs3).trans f1
      have p2 : wg.cell? ⟨b5, 2, none⟩ = some (.int .u64 (M.t : Int)) := (Brg.cell (p := ⟨b5, 2, none⟩) hs3).trans f2
      have K5g := Lib.hid ((Brg.block b5 hs3).trans K53.out)
      have HLg := Lib.hid (HLA.out.below Brg)
      have HMg := Lib.hid (HM3.out.below Brg)
      have HMRg := Lib.hid (HMR.out.below Bx)
      have HBg := Lib.hid (HB3.out.trans (Brg.mono HB3.out.size))
      have hkm5 : b5 ≠ kb := by have := HBR.out.size; omega
      have hgm5 : b5 ≠ gb := by have := HBR.out.size; omega
      have hkmb : kb ≠ mb := by have := HMR.out.lt; omega
      have hgmb : gb ≠ mb := by have := HMR.out.lt; omega
      have HWK := Lib.hid hwk
      have HKB := Lib.hid hkb
      have HWG := Lib.hid hwg
      have HGB := Lib.hid hgb
      clear hwk hkb hwg hgb hks Bk Bg Bx CK Brg f0 f1 f2 HMR HBR K53 HLA HM3 HB3 HCR
      go_upto_region 15 with fail
      rw [← HWK.out, ← HWG.out, ← HGB.out, ← HKB.out]
      go_wp2_with fail
      refine (bound_any mb gb 4 ob 4 R LL [0, 1, 2, 3] wg HMRg.out HLg.out HG.out (by decide) (by decide)).mono ?_
      rw [show ([0, 1, 2, 3] : List Nat).length = 4 from rfl]
      rintro e wb ⟨rfl, hbb⟩
      obtain ⟨X0, hX0⟩ : ∃ X, X = boundUpto 4 LL R [0, 1, 2, 3] 4 := ⟨_, rfl⟩
      rw [← hX0]
      have HX0 := Lib.hid hX0
      have a0 := (hbb.cell (p := ⟨b5, 0, none⟩) h5g).trans p0
      have a1 := (hbb.cell (p := ⟨b5, 1, none⟩) h5g).trans p1
      have a2 := (hbb.cell (p := ⟨b5, 2, none⟩) h5g).trans p2
      have e0 := (hbb.cell (p := ⟨kb, 0, none⟩) hkgs).trans q0
      have e1 := (hbb.cell (p := ⟨kb, 1, none⟩) hkgs).trans q1
      have HGb := Lib.hid (fun i (hi : i < [0, 1, 2, 3].length) => (⟨(hbb.cell (p := ⟨gb, i, none⟩) hgs).trans (HG.out i hi).1, (HG.out i hi).2⟩ : wb.cell? ⟨gb, i, none⟩ = some (.int .i64 (([0, 1, 2, 3] : List Nat).getD i 0 : Int)) ∧ ([0, 1, 2, 3] : List Nat).getD i 0 < 64))
      have K5b := Lib.hid ((hbb.block b5 h5g).trans K5g.out)
      have HLb := Lib.hid (HLg.out.below hbb)
      have HMRb := Lib.hid (HMRg.out.below hbb)
      have HBb := Lib.hid (HBg.out.trans (hbb.mono HBg.out.size))
      have hfb : wb.frozen? ⟨b5, 0, none⟩ = false := frozen_row0 K5b.out
      clear hX0 hbb p0 p1 p2 q0 q1 HG K5g HLg HMRg HBg HMg h5g hkgs hgs HWK HWG HKB HGB
      go_upto_region 17 with fail
      rw [HKM.out, wrap64_small hkm]
      have BE := (Beside.refl [b5] wb).setCell (p := ⟨b5, 0, none⟩) (by simp) (.int .i64 (km : Int))
      have s0 : (wb.setCell ⟨b5, 0, none⟩ (.int .i64 (km : Int))).cell? ⟨b5, 0, none⟩ = some (.int .i64 (km : Int)) := by rw [cell_of_row _ b5 _ _ _ _ (heapSame K5b.out)]; rfl
      have s1 : (wb.setCell ⟨b5, 0, none⟩ (.int .i64 (km : Int))).cell? ⟨b5, 1, none⟩ = some (.slice M.A M.n M.c) := by rw [cell_of_row _ b5 _ _ _ _ (heapSame K5b.out)]; rfl
      have s2 : (wb.setCell ⟨b5, 0, none⟩ (.int .i64 (km : Int))).cell? ⟨b5, 2, none⟩ = some (.int .u64 (M.t : Int)) := by rw [cell_of_row _ b5 _ _ _ _ (heapSame K5b.out)]; rfl
      have HBs := Lib.hid (HBb.out.setCell (p := ⟨b5, 0, none⟩) (by rw [HB5.out]; exact Nat.le_refl _) (.int .i64 (km : Int)))
      generalize wb.setCell ⟨b5, 0, none⟩ (.int .i64 (km : Int)) = ws at BE s0 s1 s2 HBs ⊢
      have t0 := BE.cell (a := ⟨kb, 0, none⟩) e0 (by simp; omega)
      have t1 := BE.cell (a := ⟨kb, 1, none⟩) e1 (by simp; omega)
      have HGs := Lib.hid (fun i (hi : i < [0, 1, 2, 3].length) => (⟨BE.cell (a := ⟨gb, i, none⟩) (HGb.out i hi).1 (by simp; omega), (HGb.out i hi).2⟩ : ws.cell? ⟨gb, i, none⟩ = some (.int .i64 (([0, 1, 2, 3] : List Nat).getD i 0 : Int)) ∧ ([0, 1, 2, 3] : List Nat).getD i 0 < 64))
      have HLs := Lib.hid (HLb.out.beside BE (by simp; omega) (fun k hk _ a ha => by have := HLO.out k hk a ha; simp; omega))
      have HMs := Lib.hid (hM.below HBs.out)
      have HMRs := Lib.hid (HMRb.out.beside BE (fun x hx => by rw [List.mem_singleton.1 hx]; omega))
      have tl := HLs.out.cell km hkm
      unfold Hav.val at tl
      have HGET := Lib.hid (fun k => refGet_any M.A M.n M.c M.H km (ws.drewN k) (HMs.out.sees.drewN k))
      have hwl : IntKind.u64.wrap ((LL km).n : Int) = ((LL km).n : Int) := by have := HLs.out.few.2 km hkm; rw [IntKind.wrap_u64]; omega
      have hkm4 : (km : Int) < 4 := by omega
      clear BE a0 a1 a2 e0 e1 HGb K5b HLb HMRb HBb hfb hkm5 hgm5
      by_cases hgt : (LL km).n < at_ M.H km
      · go_quiet (first | (with_reducible refine (HGET.out _).mono ?_; intro e w1 h; exact ⟨h.1, _, h.2⟩))
        go_wp2
        go_ret
        exact ⟨rfl, HBs.out.trans ((Vec.below_drewN ws _).mono HBs.out.size)⟩
      · go_quiet (first | (with_reducible refine (HGET.out _).mono ?_; intro e w1 h; exact ⟨h.1, _, h.2⟩))
        go_upto_region 19 with fail
        have Bq : Below ws.heap.size ws (ws.drewN nq) := Vec.below_drewN ws nq
        have hb5w : b5 < ws.heap.size := World.block_lt_of_cell? _ _ s0
        have hkbw : kb < ws.heap.size := World.block_lt_of_cell? _ _ t0
        have hgbw : gb < ws.heap.size := World.block_lt_of_cell? _ _ (HGs.out 0 (by decide)).1
        have s0' := (Bq.cell (p := ⟨b5, 0, none⟩) hb5w).trans s0
        have s1' := (Bq.cell (p := ⟨b5, 1, none⟩) hb5w).trans s1
        have s2' := (Bq.cell (p := ⟨b5, 2, none⟩) hb5w).trans s2
        have t0' := (Bq.cell (p := ⟨kb, 0, none⟩) hkbw).trans t0
        have t1' := (Bq.cell (p := ⟨kb, 1, none⟩) hkbw).trans t1
        have HGq := Lib.hid (fun i (hi : i < [0, 1, 2, 3].length) => (⟨(Bq.cell (p := ⟨gb, i, none⟩) hgbw).trans (HGs.out i hi).1, (HGs.out i hi).2⟩ : (ws.drewN nq).cell? ⟨gb, i, none⟩ = some (.int .i64 (([0, 1, 2, 3] : List Nat).getD i 0 : Int)) ∧ ([0, 1, 2, 3] : List Nat).getD i 0 < 64))
        have HLq := Lib.hid (HLs.out.below Bq)
        have HMq := Lib.hid (HMs.out.below Bq)
        have HMRq := Lib.hid (HMRs.out.below Bq)
        have HBq := Lib.hid (HBs.out.trans (Bq.mono HBs.out.size))
        clear Bq hb5w hkbw hgbw s0 s1 s2 t0 t1 tl HGET
        generalize ws.drewN nq = wq at s0' s1' s2' t0' t1' HGq HLq HMq HMRq HBq ⊢
        clear HGs HLs HMs HMRs HBs
        have HTq := Lib.hid (HMq.out.took (by omega))
        have HFI := Lib.hid (show mb < wq.heap.size from HMRq.out.lt)
        go_wp2_with fail
        refine (raiseM_any mb km R M.A M.n M.c M.t M.H wq HMRq.out (by omega) HTq.out (by omega) HMq.out.time HMq.out.none_).mono ?_
        rintro e wz ⟨⟨b1, rfl, _⟩, R1, D1⟩
        have u0 := D1.beside.cell (a := ⟨kb, 0, none⟩) t0' (by simpa using hkmb)
        have u1 := D1.beside.cell (a := ⟨kb, 1, none⟩) t1' (by simpa using hkmb)
        have HGz := Lib.hid (fun i (hi : i < [0, 1, 2, 3].length) => (⟨D1.beside.cell (a := ⟨gb, i, none⟩) (HGq.out i hi).1 (by simpa using hgmb), (HGq.out i hi).2⟩ : wz.cell? ⟨gb, i, none⟩ = some (.int .i64 (([0, 1, 2, 3] : List Nat).getD i 0 : Int)) ∧ ([0, 1, 2, 3] : List Nat).getD i 0 < 64))
        have HLz := Lib.hid (HLq.out.beside D1.beside (by simp; omega) (fun k hk h0 a ha => by have := HLT.out k hk h0 a ha; simp; omega))
        have HMRz := Lib.hid D1.mat
        have HBz := Lib.hid (Below.beside HBq.out D1.beside HBq.out.size (fun x hx => by rw [List.mem_singleton.1 hx]; have := HB5.out; omega))
        have HRZ := Lib.hid (raised_rises (who := [0, 1, 2, 3]) D1 HRI.out (by unfold listOf; rw [if_pos hkm]; omega) 4)
        rw [← HX0.out] at HRZ
        clear D1 t0' t1' s0' s1' s2' HGq HLq HMRq HBq HMq HTq
        go_wp2_with fail
        refine (bound_any mb gb 4 ob 4 R1 LL [0, 1, 2, 3] wz HMRz.out HLz.out HGz.out (by decide) (by decide)).mono ?_
        rw [show ([0, 1, 2, 3] : List Nat).length = 4 from rfl]
        rintro e wy ⟨rfl, hby⟩
        have HY := Lib.hid (HBz.out.trans (hby.mono HBz.out.size))
        obtain ⟨X1, hX1⟩ : ∃ X, boundUpto 4 LL R1 [0, 1, 2, 3] 4 = X := ⟨_, rfl⟩
        rw [hX1] at HRZ ⊢
        have hle : X0 ≤ X1 := HRZ.out
        clear hX1 hby
        go_wp2
        go_ret
        exact ⟨by simp [hle], HY.out⟩
end
end Go.Proofs.Ytlacihgoammjgaa.Mtx
