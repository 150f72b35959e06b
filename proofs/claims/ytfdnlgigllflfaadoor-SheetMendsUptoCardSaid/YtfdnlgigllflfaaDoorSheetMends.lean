/- The law SheetMends. -/
import Derived.Test.YtfdnlgigllflfaaDoorBSheetLaw
import Derived.Test.YtfdnlgigllflfaaDoorSheetFiles
namespace Go.Proofs.YtfdnlgigllflfaaDoor.Sht
open Go Go.RowKit Go.Proofs.YtfdnlgigllflfaaDoor.Words Go.Proofs.YtfdnlgigllflfaaDoor.Enc Go.Proofs.YtfdnlgigllflfaaDoor.Made Go.Proofs.YtfdnlgigllflfaaDoor.Dsk
set_option linter.unusedVariables false

set_option maxRecDepth 100000 in
theorem mends_long (k : UInt8) (ta tb : Nat) (A : Option Addr) (n c : Nat) (LA : List (List UInt8)) (cut : Int) (B : Option Addr) (n3 c3 : Nat) (w : World) (T : Chk.Tabs w) (hA : SeesAll w A n LA)
    (hLA : lens LA ≤ 1000000000000) (hn3 : n3 ≤ 9223372036854775807) (h : 2000 < lens LA ∨ 100 < n3) :
    Calls Tryd.prog 4 #[titleV k ta tb, .slice A n c, .int .u16 cut, .slice B n3 c3] w fun e w' => e = .returned (.bool true) ∧ Below w.heap.size w w' := by
  have b0 : Below w.heap.size w (w.alloc (.cells #[.int .u8 (k.toNat : Int), .int .u64 (ta : Int), .int .u64 (tb : Int)] 24)) := (Below.refl _ _).alloc (Nat.le_refl _) _
  unfold titleV
  by_cases h1 : lens LA ≤ 2000
  · have e1 : decide (lens LA ≤ 2000) = true := by simpa using h1
    have e3 : decide (100 < (n3 : Int)) = true := by simp; omega
    go_enter Tryd.func4, Tryd.ntmps4
    go_wp2_with fail
    refine (awake5 _ (T.below b0)).mono ?_
    rintro e w1 ⟨rfl, hb1⟩
    have b1 := b0.trans (hb1.mono b0.size)
    go_wp2_with fail
    refine (short_any A n c LA w1 (hA.below b1) hLA).mono ?_
    rintro e w2 ⟨rfl, rfl⟩
    rw [e1]
    go_wp2_with fail
    refine (awake5 _ (T.below b1)).mono ?_
    rintro e w2 ⟨rfl, hb2⟩
    go_wp2
    go_returns
    exact ⟨rfl, b1.trans (hb2.mono b1.size)⟩
  · have e1 : decide (lens LA ≤ 2000) = false := by simp; omega
    go_enter Tryd.func4, Tryd.ntmps4
    go_wp2_with fail
    refine (awake5 _ (T.below b0)).mono ?_
    rintro e w1 ⟨rfl, hb1⟩
    have b1 := b0.trans (hb1.mono b0.size)
    go_wp2_with fail
    refine (short_any A n c LA w1 (hA.below b1) hLA).mono ?_
    rintro e w2 ⟨rfl, rfl⟩
    rw [e1]
    go_wp2_with fail
    refine (awake5 _ (T.below b1)).mono ?_
    rintro e w2 ⟨rfl, hb2⟩
    go_wp2
    go_returns
    exact ⟨rfl, b1.trans (hb2.mono b1.size)⟩

set_option maxRecDepth 100000 in
set_option maxHeartbeats 2000000 in
theorem mends_short (k : UInt8) (ta tb : Nat) (A : Option Addr) (n c : Nat) (LA : List (List UInt8)) (cut : Nat) (B : Option Addr) (n3 c3 : Nat) (more : List UInt8) (w : World) (T : Chk.Tabs w) (hA : SeesAll w A n LA) (hB : Sees w B n3 more)
    (hLA : lens LA ≤ 2000) (hn3 : n3 ≤ 100) (ha : ta < 18446744073709551616) (hb : tb < 18446744073709551616) (hcut : cut < 65536) (hc1 : n ≤ c) (hc3 : n3 ≤ c3) :
    Calls Tryd.prog 4 #[titleV k ta tb, .slice A n c, .int .u16 (cut : Int), .slice B n3 c3] w fun e w' => e = .returned (.bool true) ∧ Below w.heap.size w w' := by
  have b0 : Below w.heap.size w (w.alloc (.cells #[.int .u8 (k.toNat : Int), .int .u64 (ta : Int), .int .u64 (tb : Int)] 24)) := (Below.refl _ _).alloc (Nat.le_refl _) _
  have g0 : TitleAt (w.alloc (.cells #[.int .u8 (k.toNat : Int), .int .u64 (ta : Int), .int .u64 (tb : Int)] 24)) w.heap.size k ta tb := heap_alloc_new w _
  have e1 : decide (lens LA ≤ 2000) = true := by simpa using hLA
  have e3 : decide (100 < (n3 : Int)) = false := by simp; omega
  have hhl := headL_len (k := k) ha hb
  have htl := (titleL_len (k := k) ha hb).2
  have hwa := wraps_short hLA
  have hhd : (headL k ta tb).length ≤ 50 := by omega
  have hwl : (wholeL k ta tb LA).length = (headL k ta tb).length + (wraps LA).length := by unfold wholeL; rw [List.length_append]
  have hla : (wholeL k ta tb LA).length ≤ 2100 := by omega
  have hnL := hA.len
  have hn2 : n ≤ 200 := by have := lens_len LA; omega
  clear hhl htl
  have LAYA := Lib.hid (fun (W : World) (hs : SeesAll W A n LA) => layLaw_any k ta tb A n c LA W ha hb hs (by omega))
  have HEAD := Lib.hid (fun (W : World) => headLaw_any k ta tb W ha hb)
  obtain ⟨nb, hnb⟩ : ∃ nb, nb = (wholeL k ta tb LA).length := ⟨_, rfl⟩
  obtain ⟨hh, hhh⟩ : ∃ hh, hh = (headL k ta tb).length := ⟨_, rfl⟩
  obtain ⟨nw, hnw⟩ : ∃ nw, nw = (wraps LA).length := ⟨_, rfl⟩
  obtain ⟨nw1, hnw1⟩ : ∃ nw1, nw1 = nw + 1 := ⟨_, rfl⟩
  obtain ⟨x, hx⟩ : ∃ x, x = cut % nw1 := ⟨_, rfl⟩
  obtain ⟨nn, hnn⟩ : ∃ nn, nn = hh + x := ⟨_, rfl⟩
  have hxw : x ≤ nw := by have := Nat.mod_lt cut (show 0 < nw1 by omega); omega
  have hsub : IntKind.i64.wrap ((nb : Int) - (hh : Int)) = (nw : Int) := by rw [IntWalk.i64_in _ (by omega)]; omega
  have hadd : IntKind.i64.wrap ((nw : Int) + 1) = (nw1 : Int) := by rw [IntWalk.i64_in _ (by omega)]; omega
  have hmod : (cut : Int).tmod (nw1 : Int) = (x : Int) := by rw [hx]; rfl
  have hnz : (nw1 : Int) ≠ 0 := by omega
  have hadd2 : IntKind.i64.wrap ((hh : Int) + (x : Int)) = (nn : Int) := by rw [IntWalk.i64_in _ (by omega)]; omega
  have htake : (wholeL k ta tb LA).take nn = headL k ta tb ++ (wraps LA).take x := by
    unfold wholeL
    rw [hnn, hhh, List.take_length_add_append]
  rw [← hnb] at LAYA
  rw [← hhh] at HEAD
  unfold titleV at LAYA HEAD ⊢
  have HTAKE := Lib.hid htake
  have HXW := Lib.hid (show x ≤ (wraps LA).length by omega)
  have HNN := Lib.hid (show nn ≤ nb ∧ nb ≤ 2100 ∧ nn = (headL k ta tb).length + x by omega)
  have HWA := Lib.hid hwa
  have HHD := Lib.hid hhd
  have HHH := Lib.hid hhh
  clear htake hx hnn hxw hnw1 hnw hhh hnb hwl hla hwa hhd
  go_enter Tryd.func4, Tryd.ntmps4
  go_upto_region 1 with fail
  have hA0 := hA.below b0
  have hB0 := hB.below b0
  have T0 := T.below b0
  generalize w.alloc (.cells #[.int .u8 (k.toNat : Int), .int .u64 (ta : Int), .int .u64 (tb : Int)] 24) = wa at b0 g0 hA0 hB0 T0 ⊢
  clear hA hB T
  go_wp2_with fail
  refine (awake5 wa T0).mono ?_
  rintro e w1 ⟨rfl, b1⟩
  go_wp2_with fail
  refine (short_any A n c LA w1 (hA0.below b1) (by omega)).mono ?_
  rintro e w2 ⟨rfl, rfl⟩
  rw [e1]
  clear e1
  obtain ⟨p0, p1, p2⟩ := (g0.below b1).cells
  go_wp2_with fail
  refine (LAYA.out w1 (hA0.below b1)).mono ?_
  rintro e w2 ⟨Ab, cb, rfl, hownb, hb2⟩
  have b2 := b1.trans (hb2.mono b1.size)
  clear p0 p1 p2
  obtain ⟨p0, p1, p2⟩ := (g0.below b2).cells
  go_wp2_with fail
  refine (HEAD.out w2).mono ?_
  rintro e w0 ⟨Ah, ch, rfl, hownh, hb3⟩
  have b3 := b2.trans (hb3.mono b2.size)
  have hcapb := Own.cap hownb
  have hnbc : nn ≤ cb := by have := HNN.out; omega
  have hsb : Sees w0 Ab nn (headL k ta tb ++ (wraps LA).take x) := by
    have h1 := ((Sees.of_own hownb).below hb3).take HNN.out.1
    rwa [HTAKE.out] at h1
  have bw : Below w.heap.size w w0 := b0.trans (b3.mono b0.size)
  have hA1 := hA0.below b3
  have hB1 := hB0.below b3
  have T1 := T0.below b3
  have g1 := g0.below b3
  clear p0 p1 p2 hownb hownh hb2 hb3 b0 b1 b2 b3 hA0 hB0 T0 g0
  have hcb2 := Lib.hid hcapb.2
  clear hcapb
  have hnbc2 : (nn : Int) ≤ (cb : Int) := by omega
  go_wp2_with fail
  refine (newL w0 w0 (Below.refl _ _) 65536).mono ?_
  rintro e w2 ⟨d, rfl, s2⟩
  go_wp2_with fail
  refine (appendL w0 w2 d Ab nn cb _ s2 hsb (by have := HNN.out; omega) hnbc hcb2.out).mono ?_
  rintro e w3 ⟨rfl, s3⟩
  clear s2
  obtain ⟨j, hjL, hjlt, hmend⟩ := mendL w0 w3 d k ta tb LA x 0 1 T1 ha hb hLA HXW.out (by omega) s3
  unfold sheetV at hmend
  go_wp2_with fail
  refine hmend.mono ?_
  rintro e w4 ⟨Al, cl, N', acts', rfl, hl4, hac, s4⟩
  clear hmend s3
  go_upto_region 9 with fail
  obtain ⟨G, hG⟩ : ∃ G, G = (wholeL k ta tb (LA.take j)).length := ⟨_, rfl⟩
  rw [← hG]
  have HG := Lib.hid hG
  clear hG
  have hjn : j ≤ n := by omega
  have hjc : j ≤ c := by omega
  have v5 := sheetAt_new w4 (.int .u8 (k.toNat : Int)) (.int .u64 (ta : Int)) (.int .u64 (tb : Int)) (.slice Al j cl) (.int .i64 (G : Int)) (.int .i64 0)
  have b45 : Below w4.heap.size w4 (w4.alloc (.cells #[.int .u8 (k.toNat : Int), .int .u64 (ta : Int), .int .u64 (tb : Int), .slice Al j cl, .int .i64 (G : Int), .int .i64 0] 32)) := (Below.refl _ _).alloc (Nat.le_refl _) _
  have hl5 := hl4.below b45
  have hr4 : w4.heap.size ≤ w4.heap.size := Nat.le_refl _
  generalize w4.alloc (.cells #[.int .u8 (k.toNat : Int), .int .u64 (ta : Int), .int .u64 (tb : Int), .slice Al j cl, .int .i64 (G : Int), .int .i64 0] 32) = w5 at v5 b45 hl5 ⊢
  obtain ⟨r, hr⟩ : ∃ r, r = w4.heap.size := ⟨_, rfl⟩
  rw [← hr] at v5 ⊢
  have HR4 := Lib.hid hr
  clear hl4 hr hr4
  have bel5 : Below w0.heap.size w0 w5 := s4.below.trans (b45.mono s4.below.size)
  have hAj := sees_take (hA1.below bel5) hjn
  have SCELL := Lib.hid (fun (W : World) (hR : Below w5.drew.heap.size w5.drew W) => (SheetAt.cells (v5.below (w' := W) (show Below w5.heap.size w5 W from ((Below.refl _ _).drew.trans hR)))))
  have SAME := Lib.hid (fun (W : World) (hR : Below w5.drew.heap.size w5.drew W) => same_any Al j cl (LA.take j) A j c (LA.take j) W (hl5.below (show Below w5.heap.size w5 W from ((Below.refl _ _).drew.trans hR))) (hAj.below (show Below w5.heap.size w5 W from ((Below.refl _ _).drew.trans hR))) (by omega))
  clear hl5 hAj
  refine Facts.wp_region_preds (n := 149) (by kernel_rfl) (by kernel_rfl) rfl [Facts.Pred.is (Value.int .i64 0), Facts.Pred.is (Value.bool false), Facts.Pred.is (Value.bool false), Facts.Pred.is (Value.pointer (some ⟨r, 5, none⟩)), Facts.Pred.is (Value.int .i64 0), Facts.Pred.is (Value.bool false), Facts.Pred.is (Value.bool false), Facts.Pred.is (Value.bool false), Facts.Pred.is (Value.pointer (some ⟨r, 3, none⟩)), Facts.Pred.is (Value.slice Al j cl), Facts.Pred.is (Value.int .i64 (j : Int)), Facts.Pred.is (Value.slice A n c), Facts.Pred.is (Value.int .i64 (n : Int)), Facts.Pred.is (Value.bool false), Facts.Pred.is (Value.bool false), Facts.Pred.is (Value.bool false), Facts.Pred.is (Value.pointer (some ⟨r, 3, none⟩)), Facts.Pred.is (Value.slice Al j cl), Facts.Pred.is (Value.slice A n c), Facts.Pred.is (Value.pointer (some ⟨r, 3, none⟩)), Facts.Pred.is (Value.slice Al j cl), Facts.Pred.is (Value.int .i64 (j : Int)), Facts.Pred.is (Value.slice A j c), Facts.Pred.is (Value.bool true), Facts.Pred.is (Value.bool false), Facts.Pred.is (Value.bool false)] ?_ ?_
  · refine ⟨?_, ?_, ?_, ?_, ?_, ?_, ?_, ?_, ?_, ?_, ?_, ?_, ?_, ?_, ?_, ?_, ?_, ?_, ?_, ?_, ?_, ?_, ?_, ?_, ?_, ?_, trivial⟩
    · refine Facts.step_is (Value.int .i64 0) fun a W hR hold hnew => ?_
      have f14 : a.tmps.getD 14 undef = Value.int .i64 0 := hold 14 (by kernel_rfl)
      refine ⟨Facts.wanted_free rfl, ?_, fun _ => rfl⟩
      simp [go_sem, Act.eval, f14]
    · refine Facts.step_is (Value.bool false) fun a W hR hold hnew => ?_
      have f59 : a.tmps.getD 59 undef = Value.int .i64 0 := hnew 0 59 (by kernel_rfl)
      refine ⟨Facts.wanted_free rfl, ?_, fun _ => rfl⟩
      simp [go_sem, Act.eval, f59]
    · refine Facts.step_is (Value.bool false) fun a W hR hold hnew => ?_
      have f60 : a.tmps.getD 60 undef = Value.bool false := hnew 1 60 (by kernel_rfl)
      refine ⟨Facts.wanted_free rfl, ?_, fun _ => rfl⟩
      simp [go_sem, Act.eval, f60]
    · refine Facts.step_is (Value.pointer (some ⟨r, 5, none⟩)) fun a W hR hold hnew => ?_
      have f13 : a.tmps.getD 13 undef = Value.pointer (some ⟨r, 0, none⟩) := hold 13 (by kernel_rfl)
      have g61 : a.tmps.getD 61 undef = .bool false := hnew 2 61 (by kernel_rfl)
      refine ⟨Facts.wanted_by rfl (by kernel_rfl) g61, ?_, fun _ => rfl⟩
      simp [go_sem, Act.eval, f13]
    · refine Facts.step_is (Value.int .i64 0) fun a W hR hold hnew => ?_
      have f62 : a.tmps.getD 62 undef = Value.pointer (some ⟨r, 5, none⟩) := hnew 3 62 (by kernel_rfl)
      have g61 : a.tmps.getD 61 undef = .bool false := hnew 2 61 (by kernel_rfl)
      obtain ⟨⟨y0, y1, y2, y3, y4, y5⟩, _⟩ := SCELL.out W hR
      refine ⟨Facts.wanted_by rfl (by kernel_rfl) g61, ?_, fun _ => rfl⟩
      simp [go_sem, Act.eval, f62, y5]
    · refine Facts.step_is (Value.bool false) fun a W hR hold hnew => ?_
      have f63 : a.tmps.getD 63 undef = Value.int .i64 0 := hnew 4 63 (by kernel_rfl)
      have g61 : a.tmps.getD 61 undef = .bool false := hnew 2 61 (by kernel_rfl)
      refine ⟨Facts.wanted_by rfl (by kernel_rfl) g61, ?_, fun _ => rfl⟩
      simp [go_sem, Act.eval, f63]
    · refine Facts.step_is (Value.bool false) fun a W hR hold hnew => ?_
      have f61 : a.tmps.getD 61 undef = Value.bool false := hnew 2 61 (by kernel_rfl)
      have f64 : a.tmps.getD 64 undef = Value.bool false := hnew 5 64 (by kernel_rfl)
      refine ⟨Facts.wanted_free rfl, ?_, fun _ => rfl⟩
      simp [go_sem, Act.eval, f61, f64]
    · refine Facts.step_is (Value.bool false) fun a W hR hold hnew => ?_
      have f65 : a.tmps.getD 65 undef = Value.bool false := hnew 6 65 (by kernel_rfl)
      refine ⟨Facts.wanted_free rfl, ?_, fun _ => rfl⟩
      simp [go_sem, Act.eval, f65]
    · refine Facts.step_is (Value.pointer (some ⟨r, 3, none⟩)) fun a W hR hold hnew => ?_
      have f13 : a.tmps.getD 13 undef = Value.pointer (some ⟨r, 0, none⟩) := hold 13 (by kernel_rfl)
      have g66 : a.tmps.getD 66 undef = .bool false := hnew 7 66 (by kernel_rfl)
      refine ⟨Facts.wanted_by rfl (by kernel_rfl) g66, ?_, fun _ => rfl⟩
      simp [go_sem, Act.eval, f13]
    · refine Facts.step_is (Value.slice Al j cl) fun a W hR hold hnew => ?_
      have f67 : a.tmps.getD 67 undef = Value.pointer (some ⟨r, 3, none⟩) := hnew 8 67 (by kernel_rfl)
      have g66 : a.tmps.getD 66 undef = .bool false := hnew 7 66 (by kernel_rfl)
      obtain ⟨⟨y0, y1, y2, y3, y4, y5⟩, _⟩ := SCELL.out W hR
      refine ⟨Facts.wanted_by rfl (by kernel_rfl) g66, ?_, fun _ => rfl⟩
      simp [go_sem, Act.eval, f67, y3]
    · refine Facts.step_is (Value.int .i64 (j : Int)) fun a W hR hold hnew => ?_
      have f68 : a.tmps.getD 68 undef = Value.slice Al j cl := hnew 9 68 (by kernel_rfl)
      have g66 : a.tmps.getD 66 undef = .bool false := hnew 7 66 (by kernel_rfl)
      refine ⟨Facts.wanted_by rfl (by kernel_rfl) g66, ?_, fun _ => rfl⟩
      simp [go_sem, Act.eval, f68]
    · refine Facts.step_is (Value.slice A n c) fun a W hR hold hnew => ?_
      have f1 : a.tmps.getD 1 undef = Value.slice A n c := hold 1 (by kernel_rfl)
      have g66 : a.tmps.getD 66 undef = .bool false := hnew 7 66 (by kernel_rfl)
      refine ⟨Facts.wanted_by rfl (by kernel_rfl) g66, ?_, fun _ => rfl⟩
      simp [go_sem, Act.eval, f1]
    · refine Facts.step_is (Value.int .i64 (n : Int)) fun a W hR hold hnew => ?_
      have f70 : a.tmps.getD 70 undef = Value.slice A n c := hnew 11 70 (by kernel_rfl)
      have g66 : a.tmps.getD 66 undef = .bool false := hnew 7 66 (by kernel_rfl)
      refine ⟨Facts.wanted_by rfl (by kernel_rfl) g66, ?_, fun _ => rfl⟩
      simp [go_sem, Act.eval, f70]
    · refine Facts.step_is (Value.bool false) fun a W hR hold hnew => ?_
      have f69 : a.tmps.getD 69 undef = Value.int .i64 (j : Int) := hnew 10 69 (by kernel_rfl)
      have f71 : a.tmps.getD 71 undef = Value.int .i64 (n : Int) := hnew 12 71 (by kernel_rfl)
      have g66 : a.tmps.getD 66 undef = .bool false := hnew 7 66 (by kernel_rfl)
      refine ⟨Facts.wanted_by rfl (by kernel_rfl) g66, ?_, fun _ => rfl⟩
      simp [go_sem, Act.eval, f69, f71, hjn]
    · refine Facts.step_is (Value.bool false) fun a W hR hold hnew => ?_
      have f66 : a.tmps.getD 66 undef = Value.bool false := hnew 7 66 (by kernel_rfl)
      have f72 : a.tmps.getD 72 undef = Value.bool false := hnew 13 72 (by kernel_rfl)
      refine ⟨Facts.wanted_free rfl, ?_, fun _ => rfl⟩
      simp [go_sem, Act.eval, f66, f72]
    · refine Facts.step_is (Value.bool false) fun a W hR hold hnew => ?_
      have f73 : a.tmps.getD 73 undef = Value.bool false := hnew 14 73 (by kernel_rfl)
      refine ⟨Facts.wanted_free rfl, ?_, fun _ => rfl⟩
      simp [go_sem, Act.eval, f73]
    · refine Facts.step_is (Value.pointer (some ⟨r, 3, none⟩)) fun a W hR hold hnew => ?_
      have f13 : a.tmps.getD 13 undef = Value.pointer (some ⟨r, 0, none⟩) := hold 13 (by kernel_rfl)
      have g74 : a.tmps.getD 74 undef = .bool false := hnew 15 74 (by kernel_rfl)
      refine ⟨Facts.wanted_by rfl (by kernel_rfl) g74, ?_, fun _ => rfl⟩
      simp [go_sem, Act.eval, f13]
    · refine Facts.step_is (Value.slice Al j cl) fun a W hR hold hnew => ?_
      have f75 : a.tmps.getD 75 undef = Value.pointer (some ⟨r, 3, none⟩) := hnew 16 75 (by kernel_rfl)
      have g74 : a.tmps.getD 74 undef = .bool false := hnew 15 74 (by kernel_rfl)
      obtain ⟨⟨y0, y1, y2, y3, y4, y5⟩, _⟩ := SCELL.out W hR
      refine ⟨Facts.wanted_by rfl (by kernel_rfl) g74, ?_, fun _ => rfl⟩
      simp [go_sem, Act.eval, f75, y3]
    · refine Facts.step_is (Value.slice A n c) fun a W hR hold hnew => ?_
      have f1 : a.tmps.getD 1 undef = Value.slice A n c := hold 1 (by kernel_rfl)
      have g74 : a.tmps.getD 74 undef = .bool false := hnew 15 74 (by kernel_rfl)
      refine ⟨Facts.wanted_by rfl (by kernel_rfl) g74, ?_, fun _ => rfl⟩
      simp [go_sem, Act.eval, f1]
    · refine Facts.step_is (Value.pointer (some ⟨r, 3, none⟩)) fun a W hR hold hnew => ?_
      have f13 : a.tmps.getD 13 undef = Value.pointer (some ⟨r, 0, none⟩) := hold 13 (by kernel_rfl)
      have g74 : a.tmps.getD 74 undef = .bool false := hnew 15 74 (by kernel_rfl)
      refine ⟨Facts.wanted_by rfl (by kernel_rfl) g74, ?_, fun _ => rfl⟩
      simp [go_sem, Act.eval, f13]
    · refine Facts.step_is (Value.slice Al j cl) fun a W hR hold hnew => ?_
      have f78 : a.tmps.getD 78 undef = Value.pointer (some ⟨r, 3, none⟩) := hnew 19 78 (by kernel_rfl)
      have g74 : a.tmps.getD 74 undef = .bool false := hnew 15 74 (by kernel_rfl)
      obtain ⟨⟨y0, y1, y2, y3, y4, y5⟩, _⟩ := SCELL.out W hR
      refine ⟨Facts.wanted_by rfl (by kernel_rfl) g74, ?_, fun _ => rfl⟩
      simp [go_sem, Act.eval, f78, y3]
    · refine Facts.step_is (Value.int .i64 (j : Int)) fun a W hR hold hnew => ?_
      have f79 : a.tmps.getD 79 undef = Value.slice Al j cl := hnew 20 79 (by kernel_rfl)
      have g74 : a.tmps.getD 74 undef = .bool false := hnew 15 74 (by kernel_rfl)
      refine ⟨Facts.wanted_by rfl (by kernel_rfl) g74, ?_, fun _ => rfl⟩
      simp [go_sem, Act.eval, f79]
    · refine Facts.step_is (Value.slice A j c) fun a W hR hold hnew => ?_
      have f77 : a.tmps.getD 77 undef = Value.slice A n c := hnew 18 77 (by kernel_rfl)
      have f80 : a.tmps.getD 80 undef = Value.int .i64 (j : Int) := hnew 21 80 (by kernel_rfl)
      have g74 : a.tmps.getD 74 undef = .bool false := hnew 15 74 (by kernel_rfl)
      refine ⟨Facts.wanted_by rfl (by kernel_rfl) g74, ?_, fun _ => rfl⟩
      simp [go_sem, Act.eval, f77, f80, hjc]
    · -- 23: Op.call { value (Operand.func 15), args := #[t76, t81], argT
      refine Facts.step_call fun a W hR hold hnew => ?_
      have f76 : a.tmps.getD 76 undef = Value.slice Al j cl := hnew 17 76 (by kernel_rfl); have f81 : a.tmps.getD 81 undef = Value.slice A j c := hnew 22 81 (by kernel_rfl); have g74 : a.tmps.getD 74 undef = .bool false := hnew 15 74 (by kernel_rfl)
      refine ⟨Facts.wanted_by rfl (by kernel_rfl) g74, 15, #[Value.slice Al j cl, Value.slice A j c], by simp [go_sem, Act.eval, f76, f81], ?_⟩
      refine (SAME.out W hR).mono ?_
      rintro e w9 ⟨he, kk, rfl⟩
      have he : e = .returned (.bool true) := by simpa using he
      exact ⟨_, he, below_drewN W kk, rfl⟩
    · refine Facts.step_is (Value.bool false) fun a W hR hold hnew => ?_
      have f82 : a.tmps.getD 82 undef = Value.bool true := hnew 23 82 (by kernel_rfl)
      have g74 : a.tmps.getD 74 undef = .bool false := hnew 15 74 (by kernel_rfl)
      refine ⟨Facts.wanted_by rfl (by kernel_rfl) g74, ?_, fun _ => rfl⟩
      simp [go_sem, Act.eval, f82]
    · refine Facts.step_is (Value.bool false) fun a W hR hold hnew => ?_
      have f74 : a.tmps.getD 74 undef = Value.bool false := hnew 15 74 (by kernel_rfl)
      have f83 : a.tmps.getD 83 undef = Value.bool false := hnew 24 83 (by kernel_rfl)
      refine ⟨Facts.wanted_free rfl, ?_, fun _ => rfl⟩
      simp [go_sem, Act.eval, f74, f83]
  intro a w6 hR hsize hdef hnew hold
  have f1 : a.tmps.getD 1 undef = Value.slice A n c := hold 1 (Facts.not_dst (by kernel_rfl))
  have f3 : a.tmps.getD 3 undef = Value.slice B n3 c3 := hold 3 (Facts.not_dst (by kernel_rfl))
  have f4 : a.tmps.getD 4 undef = Value.pointer (some ⟨w.heap.size, 0, none⟩) := hold 4 (Facts.not_dst (by kernel_rfl))
  have f8 : a.tmps.getD 8 undef = Value.bool false := hold 8 (Facts.not_dst (by kernel_rfl))
  have f10 : a.tmps.getD 10 undef = Value.int .i64 (hh : Int) := hold 10 (Facts.not_dst (by kernel_rfl))
  have f11 : a.tmps.getD 11 undef = Value.int .i64 (nn : Int) := hold 11 (Facts.not_dst (by kernel_rfl))
  have f12 : a.tmps.getD 12 undef = Value.pointer (some ⟨d, 0, none⟩) := hold 12 (Facts.not_dst (by kernel_rfl))
  have f13 : a.tmps.getD 13 undef = Value.pointer (some ⟨r, 0, none⟩) := hold 13 (Facts.not_dst (by kernel_rfl))
  have f84 : a.tmps.getD 84 undef = Value.bool false := hnew 25 84 (by kernel_rfl)
  obtain ⟨tm, df⟩ := a
  simp only [] at hdef hsize f1 f3 f4 f8 f10 f11 f12 f13 f84
  have hlit : tm = #[tm.getD 0 undef, tm.getD 1 undef, tm.getD 2 undef, tm.getD 3 undef, tm.getD 4 undef, tm.getD 5 undef, tm.getD 6 undef, tm.getD 7 undef, tm.getD 8 undef, tm.getD 9 undef, tm.getD 10 undef, tm.getD 11 undef, tm.getD 12 undef, tm.getD 13 undef, tm.getD 14 undef, tm.getD 15 undef, tm.getD 16 undef, tm.getD 17 undef, tm.getD 18 undef, tm.getD 19 undef, tm.getD 20 undef, tm.getD 21 undef, tm.getD 22 undef, tm.getD 23 undef, tm.getD 24 undef, tm.getD 25 undef, tm.getD 26 undef, tm.getD 27 undef, tm.getD 28 undef, tm.getD 29 undef, tm.getD 30 undef, tm.getD 31 undef, tm.getD 32 undef, tm.getD 33 undef, tm.getD 34 undef, tm.getD 35 undef, tm.getD 36 undef, tm.getD 37 undef, tm.getD 38 undef, tm.getD 39 undef, tm.getD 40 undef, tm.getD 41 undef, tm.getD 42 undef, tm.getD 43 undef, tm.getD 44 undef, tm.getD 45 undef, tm.getD 46 undef, tm.getD 47 undef, tm.getD 48 undef, tm.getD 49 undef, tm.getD 50 undef, tm.getD 51 undef, tm.getD 52 undef, tm.getD 53 undef, tm.getD 54 undef, tm.getD 55 undef, tm.getD 56 undef, tm.getD 57 undef, tm.getD 58 undef, tm.getD 59 undef, tm.getD 60 undef, tm.getD 61 undef, tm.getD 62 undef, tm.getD 63 undef, tm.getD 64 undef, tm.getD 65 undef, tm.getD 66 undef, tm.getD 67 undef, tm.getD 68 undef, tm.getD 69 undef, tm.getD 70 undef, tm.getD 71 undef, tm.getD 72 undef, tm.getD 73 undef, tm.getD 74 undef, tm.getD 75 undef, tm.getD 76 undef, tm.getD 77 undef, tm.getD 78 undef, tm.getD 79 undef, tm.getD 80 undef, tm.getD 81 undef, tm.getD 82 undef, tm.getD 83 undef, tm.getD 84 undef, tm.getD 85 undef, tm.getD 86 undef, tm.getD 87 undef, tm.getD 88 undef, tm.getD 89 undef, tm.getD 90 undef, tm.getD 91 undef, tm.getD 92 undef, tm.getD 93 undef, tm.getD 94 undef, tm.getD 95 undef, tm.getD 96 undef, tm.getD 97 undef, tm.getD 98 undef, tm.getD 99 undef, tm.getD 100 undef, tm.getD 101 undef, tm.getD 102 undef, tm.getD 103 undef, tm.getD 104 undef, tm.getD 105 undef, tm.getD 106 undef, tm.getD 107 undef, tm.getD 108 undef, tm.getD 109 undef, tm.getD 110 undef, tm.getD 111 undef, tm.getD 112 undef, tm.getD 113 undef, tm.getD 114 undef, tm.getD 115 undef, tm.getD 116 undef, tm.getD 117 undef, tm.getD 118 undef, tm.getD 119 undef, tm.getD 120 undef, tm.getD 121 undef, tm.getD 122 undef, tm.getD 123 undef, tm.getD 124 undef, tm.getD 125 undef, tm.getD 126 undef, tm.getD 127 undef, tm.getD 128 undef, tm.getD 129 undef, tm.getD 130 undef, tm.getD 131 undef, tm.getD 132 undef, tm.getD 133 undef, tm.getD 134 undef, tm.getD 135 undef, tm.getD 136 undef, tm.getD 137 undef, tm.getD 138 undef, tm.getD 139 undef, tm.getD 140 undef, tm.getD 141 undef, tm.getD 142 undef, tm.getD 143 undef, tm.getD 144 undef, tm.getD 145 undef, tm.getD 146 undef, tm.getD 147 undef, tm.getD 148 undef] := (Facts.array_lit tm hsize).trans rfl
  rw [f1, f3, f4, f8, f10, f11, f12, f13, f84] at hlit
  clear f1 f3 f4 f8 f10 f11 f12 f13 f84 hsize hnew hold
  generalize tm.getD 0 undef = x0 at hlit
  generalize tm.getD 2 undef = x2 at hlit
  generalize tm.getD 5 undef = x5 at hlit
  generalize tm.getD 6 undef = x6 at hlit
  generalize tm.getD 7 undef = x7 at hlit
  generalize tm.getD 9 undef = x9 at hlit
  generalize tm.getD 14 undef = x14 at hlit
  generalize tm.getD 15 undef = x15 at hlit
  generalize tm.getD 16 undef = x16 at hlit
  generalize tm.getD 17 undef = x17 at hlit
  generalize tm.getD 18 undef = x18 at hlit
  generalize tm.getD 19 undef = x19 at hlit
  generalize tm.getD 20 undef = x20 at hlit
  generalize tm.getD 21 undef = x21 at hlit
  generalize tm.getD 22 undef = x22 at hlit
  generalize tm.getD 23 undef = x23 at hlit
  generalize tm.getD 24 undef = x24 at hlit
  generalize tm.getD 25 undef = x25 at hlit
  generalize tm.getD 26 undef = x26 at hlit
  generalize tm.getD 27 undef = x27 at hlit
  generalize tm.getD 28 undef = x28 at hlit
  generalize tm.getD 29 undef = x29 at hlit
  generalize tm.getD 30 undef = x30 at hlit
  generalize tm.getD 31 undef = x31 at hlit
  generalize tm.getD 32 undef = x32 at hlit
  generalize tm.getD 33 undef = x33 at hlit
  generalize tm.getD 34 undef = x34 at hlit
  generalize tm.getD 35 undef = x35 at hlit
  generalize tm.getD 36 undef = x36 at hlit
  generalize tm.getD 37 undef = x37 at hlit
  generalize tm.getD 38 undef = x38 at hlit
  generalize tm.getD 39 undef = x39 at hlit
  generalize tm.getD 40 undef = x40 at hlit
  generalize tm.getD 41 undef = x41 at hlit
  generalize tm.getD 42 undef = x42 at hlit
  generalize tm.getD 43 undef = x43 at hlit
  generalize tm.getD 44 undef = x44 at hlit
  generalize tm.getD 45 undef = x45 at hlit
  generalize tm.getD 46 undef = x46 at hlit
  generalize tm.getD 47 undef = x47 at hlit
  generalize tm.getD 48 undef = x48 at hlit
  generalize tm.getD 49 undef = x49 at hlit
  generalize tm.getD 50 undef = x50 at hlit
  generalize tm.getD 51 undef = x51 at hlit
  generalize tm.getD 52 undef = x52 at hlit
  generalize tm.getD 53 undef = x53 at hlit
  generalize tm.getD 54 undef = x54 at hlit
  generalize tm.getD 55 undef = x55 at hlit
  generalize tm.getD 56 undef = x56 at hlit
  generalize tm.getD 57 undef = x57 at hlit
  generalize tm.getD 58 undef = x58 at hlit
  generalize tm.getD 59 undef = x59 at hlit
  generalize tm.getD 60 undef = x60 at hlit
  generalize tm.getD 61 undef = x61 at hlit
  generalize tm.getD 62 undef = x62 at hlit
  generalize tm.getD 63 undef = x63 at hlit
  generalize tm.getD 64 undef = x64 at hlit
  generalize tm.getD 65 undef = x65 at hlit
  generalize tm.getD 66 undef = x66 at hlit
  generalize tm.getD 67 undef = x67 at hlit
  generalize tm.getD 68 undef = x68 at hlit
  generalize tm.getD 69 undef = x69 at hlit
  generalize tm.getD 70 undef = x70 at hlit
  generalize tm.getD 71 undef = x71 at hlit
  generalize tm.getD 72 undef = x72 at hlit
  generalize tm.getD 73 undef = x73 at hlit
  generalize tm.getD 74 undef = x74 at hlit
  generalize tm.getD 75 undef = x75 at hlit
  generalize tm.getD 76 undef = x76 at hlit
  generalize tm.getD 77 undef = x77 at hlit
  generalize tm.getD 78 undef = x78 at hlit
  generalize tm.getD 79 undef = x79 at hlit
  generalize tm.getD 80 undef = x80 at hlit
  generalize tm.getD 81 undef = x81 at hlit
  generalize tm.getD 82 undef = x82 at hlit
  generalize tm.getD 83 undef = x83 at hlit
  generalize tm.getD 85 undef = x85 at hlit
  generalize tm.getD 86 undef = x86 at hlit
  generalize tm.getD 87 undef = x87 at hlit
  generalize tm.getD 88 undef = x88 at hlit
  generalize tm.getD 89 undef = x89 at hlit
  generalize tm.getD 90 undef = x90 at hlit
  generalize tm.getD 91 undef = x91 at hlit
  generalize tm.getD 92 undef = x92 at hlit
  generalize tm.getD 93 undef = x93 at hlit
  generalize tm.getD 94 undef = x94 at hlit
  generalize tm.getD 95 undef = x95 at hlit
  generalize tm.getD 96 undef = x96 at hlit
  generalize tm.getD 97 undef = x97 at hlit
  generalize tm.getD 98 undef = x98 at hlit
  generalize tm.getD 99 undef = x99 at hlit
  generalize tm.getD 100 undef = x100 at hlit
  generalize tm.getD 101 undef = x101 at hlit
  generalize tm.getD 102 undef = x102 at hlit
  generalize tm.getD 103 undef = x103 at hlit
  generalize tm.getD 104 undef = x104 at hlit
  generalize tm.getD 105 undef = x105 at hlit
  generalize tm.getD 106 undef = x106 at hlit
  generalize tm.getD 107 undef = x107 at hlit
  generalize tm.getD 108 undef = x108 at hlit
  generalize tm.getD 109 undef = x109 at hlit
  generalize tm.getD 110 undef = x110 at hlit
  generalize tm.getD 111 undef = x111 at hlit
  generalize tm.getD 112 undef = x112 at hlit
  generalize tm.getD 113 undef = x113 at hlit
  generalize tm.getD 114 undef = x114 at hlit
  generalize tm.getD 115 undef = x115 at hlit
  generalize tm.getD 116 undef = x116 at hlit
  generalize tm.getD 117 undef = x117 at hlit
  generalize tm.getD 118 undef = x118 at hlit
  generalize tm.getD 119 undef = x119 at hlit
  generalize tm.getD 120 undef = x120 at hlit
  generalize tm.getD 121 undef = x121 at hlit
  generalize tm.getD 122 undef = x122 at hlit
  generalize tm.getD 123 undef = x123 at hlit
  generalize tm.getD 124 undef = x124 at hlit
  generalize tm.getD 125 undef = x125 at hlit
  generalize tm.getD 126 undef = x126 at hlit
  generalize tm.getD 127 undef = x127 at hlit
  generalize tm.getD 128 undef = x128 at hlit
  generalize tm.getD 129 undef = x129 at hlit
  generalize tm.getD 130 undef = x130 at hlit
  generalize tm.getD 131 undef = x131 at hlit
  generalize tm.getD 132 undef = x132 at hlit
  generalize tm.getD 133 undef = x133 at hlit
  generalize tm.getD 134 undef = x134 at hlit
  generalize tm.getD 135 undef = x135 at hlit
  generalize tm.getD 136 undef = x136 at hlit
  generalize tm.getD 137 undef = x137 at hlit
  generalize tm.getD 138 undef = x138 at hlit
  generalize tm.getD 139 undef = x139 at hlit
  generalize tm.getD 140 undef = x140 at hlit
  generalize tm.getD 141 undef = x141 at hlit
  generalize tm.getD 142 undef = x142 at hlit
  generalize tm.getD 143 undef = x143 at hlit
  generalize tm.getD 144 undef = x144 at hlit
  generalize tm.getD 145 undef = x145 at hlit
  generalize tm.getD 146 undef = x146 at hlit
  generalize tm.getD 147 undef = x147 at hlit
  generalize tm.getD 148 undef = x148 at hlit
  subst hlit
  subst hdef
  simp only []
  have b46 : Below w4.heap.size w4 w6 := b45.trans ((show Below w5.heap.size w5 w6 from (Below.refl _ _).drew.trans hR).mono b45.size)
  have v6 := v5.below (w' := w6) (show Below w5.heap.size w5 w6 from ((Below.refl _ _).drew.trans hR))
  clear b45 v5 SCELL SAME hR bel5
  go_wp2_with fail
  obtain ⟨j1, hj1⟩ : ∃ j1, j1 = j + 1 := ⟨_, rfl⟩
  have hj1w : IntKind.i64.wrap ((j : Int) + 1) = (j1 : Int) := by rw [IntWalk.i64_in _ (by omega)]; omega
  have bel6 : Below w0.heap.size w0 w6 := s4.below.trans (b46.mono s4.below.size)
  have SCELL := Lib.hid (fun (W : World) (hR : Below w6.drew.heap.size w6.drew W) => (SheetAt.cells (v6.below (w' := W) (show Below w6.heap.size w6 W from ((Below.refl _ _).drew.trans hR)))))
  by_cases hjlt2 : j < n
  · have hj1c : j1 ≤ c := by omega
    have hAj := sees_take (hA1.below bel6) (k := j1) (by omega)
    have LAYQ := Lib.hid (fun (W : World) (hR : Below w6.drew.heap.size w6.drew W) => layLaw_any k ta tb A j1 c (LA.take j1) W ha hb (hAj.below (show Below w6.heap.size w6 W from ((Below.refl _ _).drew.trans hR))) (by have h1 := wraps_le LA j1; have h2 := HWA.out; omega))
    obtain ⟨wm, hwm⟩ : ∃ wm, wm = wholeL k ta tb (LA.take j1) := ⟨_, rfl⟩
    rw [← hwm] at LAYQ
    unfold titleV at LAYQ
    obtain ⟨M, hM⟩ : ∃ M, M = wm.length := ⟨_, rfl⟩
    rw [← hM] at LAYQ
    have hMn : nn < M ∧ M ≤ 5000 := by
      have h1 := hjlt (by omega)
      rw [← hj1] at h1
      have h2 := HNN.out
      have h3 := wraps_le LA j1
      have h4 := HWA.out
      have h5 := HHD.out
      rw [hM, hwm]
      unfold wholeL
      rw [List.length_append]
      omega
    have hnM : ¬ M ≤ nn := by omega
    have hhh50 : hh ≤ 2100 := by have h2 := HNN.out; have h5 := HHD.out; have h6 := HHH.out; omega
    obtain ⟨hm, hhm⟩ : ∃ hm, hm = hh + M := ⟨_, rfl⟩
    have ha1 : IntKind.i64.wrap ((hh : Int) + (M : Int)) = (hm : Int) := by rw [IntWalk.i64_in _ (by omega)]; omega
    have ha2 : IntKind.i64.wrap ((hm : Int) - (hh : Int)) = (M : Int) := by rw [IntWalk.i64_in _ (by omega)]; omega
    have CELL := Lib.hid (fun (W : World) (hR : Below w6.drew.heap.size w6.drew W) => (TitleAt.cells ((g1.below bel6).below (w := W) (show Below w6.heap.size w6 W from ((Below.refl _ _).drew.trans hR)))))
    clear hM hhm hAj hwm hhh50
    have HMN := Lib.hid hMn
    clear hMn
    refine Facts.wp_region_preds (n := 149) (by kernel_rfl) (by kernel_rfl) rfl [Facts.Pred.is (Value.pointer (some ⟨r, 3, none⟩)), Facts.Pred.is (Value.slice Al j cl), Facts.Pred.is (Value.int .i64 (j : Int)), Facts.Pred.is (Value.slice A n c), Facts.Pred.is (Value.int .i64 (n : Int)), Facts.Pred.is (Value.bool true), Facts.Pred.is (Value.bool true), Facts.Pred.is (Value.int .i64 (hh : Int)), Facts.Pred.is (Value.agg #[.int .u8 (k.toNat : Int), .int .u64 (ta : Int), .int .u64 (tb : Int)]), Facts.Pred.is (Value.slice A n c), Facts.Pred.is (Value.pointer (some ⟨r, 3, none⟩)), Facts.Pred.is (Value.slice Al j cl), Facts.Pred.is (Value.int .i64 (j : Int)), Facts.Pred.is (Value.int .i64 (j1 : Int)), Facts.Pred.is (Value.slice A j1 c), Facts.Pred.shows M wm, Facts.Pred.is (Value.int .i64 (M : Int)), Facts.Pred.is (Value.int .i64 (hm : Int)), Facts.Pred.is (Value.int .i64 (hh : Int)), Facts.Pred.is (Value.int .i64 (M : Int)), Facts.Pred.is (Value.int .i64 (nn : Int)), Facts.Pred.is (Value.bool false), Facts.Pred.is (Value.bool false)] ?_ ?_
    · refine ⟨?_, ?_, ?_, ?_, ?_, ?_, ?_, ?_, ?_, ?_, ?_, ?_, ?_, ?_, ?_, ?_, ?_, ?_, ?_, ?_, ?_, ?_, ?_, trivial⟩
      · refine Facts.step_is (Value.pointer (some ⟨r, 3, none⟩)) fun a W hR hold hnew => ?_
        have f13 : a.tmps.getD 13 undef = Value.pointer (some ⟨r, 0, none⟩) := hold 13 (by kernel_rfl)
        refine ⟨Facts.wanted_free rfl, ?_, fun _ => rfl⟩
        simp [go_sem, Act.eval, f13]
      · refine Facts.step_is (Value.slice Al j cl) fun a W hR hold hnew => ?_
        have f85 : a.tmps.getD 85 undef = Value.pointer (some ⟨r, 3, none⟩) := hnew 0 85 (by kernel_rfl)
        obtain ⟨⟨y0, y1, y2, y3, y4, y5⟩, _⟩ := SCELL.out W hR
        refine ⟨Facts.wanted_free rfl, ?_, fun _ => rfl⟩
        simp [go_sem, Act.eval, f85, y3]
      · refine Facts.step_is (Value.int .i64 (j : Int)) fun a W hR hold hnew => ?_
        have f86 : a.tmps.getD 86 undef = Value.slice Al j cl := hnew 1 86 (by kernel_rfl)
        refine ⟨Facts.wanted_free rfl, ?_, fun _ => rfl⟩
        simp [go_sem, Act.eval, f86]
      · refine Facts.step_is (Value.slice A n c) fun a W hR hold hnew => ?_
        have f1 : a.tmps.getD 1 undef = Value.slice A n c := hold 1 (by kernel_rfl)
        refine ⟨Facts.wanted_free rfl, ?_, fun _ => rfl⟩
        simp [go_sem, Act.eval, f1]
      · refine Facts.step_is (Value.int .i64 (n : Int)) fun a W hR hold hnew => ?_
        have f88 : a.tmps.getD 88 undef = Value.slice A n c := hnew 3 88 (by kernel_rfl)
        refine ⟨Facts.wanted_free rfl, ?_, fun _ => rfl⟩
        simp [go_sem, Act.eval, f88]
      · refine Facts.step_is (Value.bool true) fun a W hR hold hnew => ?_
        have f87 : a.tmps.getD 87 undef = Value.int .i64 (j : Int) := hnew 2 87 (by kernel_rfl)
        have f89 : a.tmps.getD 89 undef = Value.int .i64 (n : Int) := hnew 4 89 (by kernel_rfl)
        refine ⟨Facts.wanted_free rfl, ?_, fun _ => rfl⟩
        simp [go_sem, Act.eval, f87, f89, hjlt2]
      · refine Facts.step_is (Value.bool true) fun a W hR hold hnew => ?_
        have f90 : a.tmps.getD 90 undef = Value.bool true := hnew 5 90 (by kernel_rfl)
        refine ⟨Facts.wanted_free rfl, ?_, fun _ => rfl⟩
        simp [go_sem, Act.eval, f90]
      · refine Facts.step_is (Value.int .i64 (hh : Int)) fun a W hR hold hnew => ?_
        have f10 : a.tmps.getD 10 undef = Value.int .i64 (hh : Int) := hold 10 (by kernel_rfl)
        have g91 : a.tmps.getD 91 undef = .bool true := hnew 6 91 (by kernel_rfl)
        refine ⟨Facts.wanted_by rfl (by kernel_rfl) g91, ?_, fun _ => rfl⟩
        simp [go_sem, Act.eval, f10]
      · refine Facts.step_is (Value.agg #[.int .u8 (k.toNat : Int), .int .u64 (ta : Int), .int .u64 (tb : Int)]) fun a W hR hold hnew => ?_
        have f4 : a.tmps.getD 4 undef = Value.pointer (some ⟨w.heap.size, 0, none⟩) := hold 4 (by kernel_rfl)
        have g91 : a.tmps.getD 91 undef = .bool true := hnew 6 91 (by kernel_rfl)
        obtain ⟨q0, q1, q2⟩ := CELL.out W hR
        refine ⟨Facts.wanted_by rfl (by kernel_rfl) g91, ?_, fun _ => rfl⟩
        simp [go_sem, Act.eval, f4, q0, q1, q2]
      · refine Facts.step_is (Value.slice A n c) fun a W hR hold hnew => ?_
        have f1 : a.tmps.getD 1 undef = Value.slice A n c := hold 1 (by kernel_rfl)
        have g91 : a.tmps.getD 91 undef = .bool true := hnew 6 91 (by kernel_rfl)
        refine ⟨Facts.wanted_by rfl (by kernel_rfl) g91, ?_, fun _ => rfl⟩
        simp [go_sem, Act.eval, f1]
      · refine Facts.step_is (Value.pointer (some ⟨r, 3, none⟩)) fun a W hR hold hnew => ?_
        have f13 : a.tmps.getD 13 undef = Value.pointer (some ⟨r, 0, none⟩) := hold 13 (by kernel_rfl)
        have g91 : a.tmps.getD 91 undef = .bool true := hnew 6 91 (by kernel_rfl)
        refine ⟨Facts.wanted_by rfl (by kernel_rfl) g91, ?_, fun _ => rfl⟩
        simp [go_sem, Act.eval, f13]
      · refine Facts.step_is (Value.slice Al j cl) fun a W hR hold hnew => ?_
        have f95 : a.tmps.getD 95 undef = Value.pointer (some ⟨r, 3, none⟩) := hnew 10 95 (by kernel_rfl)
        have g91 : a.tmps.getD 91 undef = .bool true := hnew 6 91 (by kernel_rfl)
        obtain ⟨⟨y0, y1, y2, y3, y4, y5⟩, _⟩ := SCELL.out W hR
        refine ⟨Facts.wanted_by rfl (by kernel_rfl) g91, ?_, fun _ => rfl⟩
        simp [go_sem, Act.eval, f95, y3]
      · refine Facts.step_is (Value.int .i64 (j : Int)) fun a W hR hold hnew => ?_
        have f96 : a.tmps.getD 96 undef = Value.slice Al j cl := hnew 11 96 (by kernel_rfl)
        have g91 : a.tmps.getD 91 undef = .bool true := hnew 6 91 (by kernel_rfl)
        refine ⟨Facts.wanted_by rfl (by kernel_rfl) g91, ?_, fun _ => rfl⟩
        simp [go_sem, Act.eval, f96]
      · refine Facts.step_is (Value.int .i64 (j1 : Int)) fun a W hR hold hnew => ?_
        have f97 : a.tmps.getD 97 undef = Value.int .i64 (j : Int) := hnew 12 97 (by kernel_rfl)
        have g91 : a.tmps.getD 91 undef = .bool true := hnew 6 91 (by kernel_rfl)
        refine ⟨Facts.wanted_by rfl (by kernel_rfl) g91, ?_, fun _ => rfl⟩
        simp [go_sem, Act.eval, f97, hj1w]
      · refine Facts.step_is (Value.slice A j1 c) fun a W hR hold hnew => ?_
        have f94 : a.tmps.getD 94 undef = Value.slice A n c := hnew 9 94 (by kernel_rfl)
        have f98 : a.tmps.getD 98 undef = Value.int .i64 (j1 : Int) := hnew 13 98 (by kernel_rfl)
        have g91 : a.tmps.getD 91 undef = .bool true := hnew 6 91 (by kernel_rfl)
        refine ⟨Facts.wanted_by rfl (by kernel_rfl) g91, ?_, fun _ => rfl⟩
        simp [go_sem, Act.eval, f94, f98, hj1c]
      · -- 15: Op.call { value (Operand.func 16), args := #[t93, t99], argT
        refine Facts.step_call fun a W hR hold hnew => ?_
        have f93 : a.tmps.getD 93 undef = Value.agg #[.int .u8 (k.toNat : Int), .int .u64 (ta : Int), .int .u64 (tb : Int)] := hnew 8 93 (by kernel_rfl); have f99 : a.tmps.getD 99 undef = Value.slice A j1 c := hnew 14 99 (by kernel_rfl); have g91 : a.tmps.getD 91 undef = .bool true := hnew 6 91 (by kernel_rfl)
        refine ⟨Facts.wanted_by rfl (by kernel_rfl) g91, 16, #[Value.agg #[.int .u8 (k.toNat : Int), .int .u64 (ta : Int), .int .u64 (tb : Int)], Value.slice A j1 c], by simp [go_sem, Act.eval, f93, f99], ?_⟩
        refine (LAYQ.out W hR).mono ?_
        rintro e w9 ⟨A9, c9, rfl, hown9, hb9⟩
        exact ⟨_, rfl, hb9, A9, c9, rfl, Sees.of_own hown9⟩
      · -- 16: Op.call { builtin len, args := #[t100], argTypes := #[37] }
        refine Facts.step_is (Value.int .i64 (M : Int)) fun a W hR hold hnew => ?_
        have h100 : ∃ A' c', a.tmps.getD 100 undef = .slice A' M c' ∧ Sees W A' M wm := hnew 15 100 (by kernel_rfl)
        obtain ⟨A9, c9, f100, _⟩ := h100
        have g91 : a.tmps.getD 91 undef = .bool true := hnew 6 91 (by kernel_rfl)
        refine ⟨Facts.wanted_by rfl (by kernel_rfl) g91, ?_, fun _ => rfl⟩
        simp [go_sem, Act.eval, f100]
      · refine Facts.step_is (Value.int .i64 (hm : Int)) fun a W hR hold hnew => ?_
        have f92 : a.tmps.getD 92 undef = Value.int .i64 (hh : Int) := hnew 7 92 (by kernel_rfl)
        have f101 : a.tmps.getD 101 undef = Value.int .i64 (M : Int) := hnew 16 101 (by kernel_rfl)
        have g91 : a.tmps.getD 91 undef = .bool true := hnew 6 91 (by kernel_rfl)
        refine ⟨Facts.wanted_by rfl (by kernel_rfl) g91, ?_, fun _ => rfl⟩
        simp [go_sem, Act.eval, f92, f101, ha1]
      · refine Facts.step_is (Value.int .i64 (hh : Int)) fun a W hR hold hnew => ?_
        have f10 : a.tmps.getD 10 undef = Value.int .i64 (hh : Int) := hold 10 (by kernel_rfl)
        have g91 : a.tmps.getD 91 undef = .bool true := hnew 6 91 (by kernel_rfl)
        refine ⟨Facts.wanted_by rfl (by kernel_rfl) g91, ?_, fun _ => rfl⟩
        simp [go_sem, Act.eval, f10]
      · refine Facts.step_is (Value.int .i64 (M : Int)) fun a W hR hold hnew => ?_
        have f102 : a.tmps.getD 102 undef = Value.int .i64 (hm : Int) := hnew 17 102 (by kernel_rfl)
        have f103 : a.tmps.getD 103 undef = Value.int .i64 (hh : Int) := hnew 18 103 (by kernel_rfl)
        have g91 : a.tmps.getD 91 undef = .bool true := hnew 6 91 (by kernel_rfl)
        refine ⟨Facts.wanted_by rfl (by kernel_rfl) g91, ?_, fun _ => rfl⟩
        simp [go_sem, Act.eval, f102, f103, ha2]
      · refine Facts.step_is (Value.int .i64 (nn : Int)) fun a W hR hold hnew => ?_
        have f11 : a.tmps.getD 11 undef = Value.int .i64 (nn : Int) := hold 11 (by kernel_rfl)
        have g91 : a.tmps.getD 91 undef = .bool true := hnew 6 91 (by kernel_rfl)
        refine ⟨Facts.wanted_by rfl (by kernel_rfl) g91, ?_, fun _ => rfl⟩
        simp [go_sem, Act.eval, f11]
      · refine Facts.step_is (Value.bool false) fun a W hR hold hnew => ?_
        have f104 : a.tmps.getD 104 undef = Value.int .i64 (M : Int) := hnew 19 104 (by kernel_rfl)
        have f105 : a.tmps.getD 105 undef = Value.int .i64 (nn : Int) := hnew 20 105 (by kernel_rfl)
        have g91 : a.tmps.getD 91 undef = .bool true := hnew 6 91 (by kernel_rfl)
        refine ⟨Facts.wanted_by rfl (by kernel_rfl) g91, ?_, fun _ => rfl⟩
        simp [go_sem, Act.eval, f104, f105, hnM]
      · refine Facts.step_is (Value.bool false) fun a W hR hold hnew => ?_
        have f91 : a.tmps.getD 91 undef = Value.bool true := hnew 6 91 (by kernel_rfl)
        have f106 : a.tmps.getD 106 undef = Value.bool false := hnew 21 106 (by kernel_rfl)
        refine ⟨Facts.wanted_free rfl, ?_, fun _ => rfl⟩
        simp [go_sem, Act.eval, f91, f106]
    intro a w7 hR hsize hdef hnew hold
    have f3 : a.tmps.getD 3 undef = Value.slice B n3 c3 := hold 3 (Facts.not_dst (by kernel_rfl))
    have f8 : a.tmps.getD 8 undef = Value.bool false := hold 8 (Facts.not_dst (by kernel_rfl))
    have f12 : a.tmps.getD 12 undef = Value.pointer (some ⟨d, 0, none⟩) := hold 12 (Facts.not_dst (by kernel_rfl))
    have f13 : a.tmps.getD 13 undef = Value.pointer (some ⟨r, 0, none⟩) := hold 13 (Facts.not_dst (by kernel_rfl))
    have f107 : a.tmps.getD 107 undef = Value.bool false := hnew 22 107 (by kernel_rfl)
    obtain ⟨tm, df⟩ := a
    simp only [] at hdef hsize f3 f8 f12 f13 f107
    have hlit : tm = #[tm.getD 0 undef, tm.getD 1 undef, tm.getD 2 undef, tm.getD 3 undef, tm.getD 4 undef, tm.getD 5 undef, tm.getD 6 undef, tm.getD 7 undef, tm.getD 8 undef, tm.getD 9 undef, tm.getD 10 undef, tm.getD 11 undef, tm.getD 12 undef, tm.getD 13 undef, tm.getD 14 undef, tm.getD 15 undef, tm.getD 16 undef, tm.getD 17 undef, tm.getD 18 undef, tm.getD 19 undef, tm.getD 20 undef, tm.getD 21 undef, tm.getD 22 undef, tm.getD 23 undef, tm.getD 24 undef, tm.getD 25 undef, tm.getD 26 undef, tm.getD 27 undef, tm.getD 28 undef, tm.getD 29 undef, tm.getD 30 undef, tm.getD 31 undef, tm.getD 32 undef, tm.getD 33 undef, tm.getD 34 undef, tm.getD 35 undef, tm.getD 36 undef, tm.getD 37 undef, tm.getD 38 undef, tm.getD 39 undef, tm.getD 40 undef, tm.getD 41 undef, tm.getD 42 undef, tm.getD 43 undef, tm.getD 44 undef, tm.getD 45 undef, tm.getD 46 undef, tm.getD 47 undef, tm.getD 48 undef, tm.getD 49 undef, tm.getD 50 undef, tm.getD 51 undef, tm.getD 52 undef, tm.getD 53 undef, tm.getD 54 undef, tm.getD 55 undef, tm.getD 56 undef, tm.getD 57 undef, tm.getD 58 undef, tm.getD 59 undef, tm.getD 60 undef, tm.getD 61 undef, tm.getD 62 undef, tm.getD 63 undef, tm.getD 64 undef, tm.getD 65 undef, tm.getD 66 undef, tm.getD 67 undef, tm.getD 68 undef, tm.getD 69 undef, tm.getD 70 undef, tm.getD 71 undef, tm.getD 72 undef, tm.getD 73 undef, tm.getD 74 undef, tm.getD 75 undef, tm.getD 76 undef, tm.getD 77 undef, tm.getD 78 undef, tm.getD 79 undef, tm.getD 80 undef, tm.getD 81 undef, tm.getD 82 undef, tm.getD 83 undef, tm.getD 84 undef, tm.getD 85 undef, tm.getD 86 undef, tm.getD 87 undef, tm.getD 88 undef, tm.getD 89 undef, tm.getD 90 undef, tm.getD 91 undef, tm.getD 92 undef, tm.getD 93 undef, tm.getD 94 undef, tm.getD 95 undef, tm.getD 96 undef, tm.getD 97 undef, tm.getD 98 undef, tm.getD 99 undef, tm.getD 100 undef, tm.getD 101 undef, tm.getD 102 undef, tm.getD 103 undef, tm.getD 104 undef, tm.getD 105 undef, tm.getD 106 undef, tm.getD 107 undef, tm.getD 108 undef, tm.getD 109 undef, tm.getD 110 undef, tm.getD 111 undef, tm.getD 112 undef, tm.getD 113 undef, tm.getD 114 undef, tm.getD 115 undef, tm.getD 116 undef, tm.getD 117 undef, tm.getD 118 undef, tm.getD 119 undef, tm.getD 120 undef, tm.getD 121 undef, tm.getD 122 undef, tm.getD 123 undef, tm.getD 124 undef, tm.getD 125 undef, tm.getD 126 undef, tm.getD 127 undef, tm.getD 128 undef, tm.getD 129 undef, tm.getD 130 undef, tm.getD 131 undef, tm.getD 132 undef, tm.getD 133 undef, tm.getD 134 undef, tm.getD 135 undef, tm.getD 136 undef, tm.getD 137 undef, tm.getD 138 undef, tm.getD 139 undef, tm.getD 140 undef, tm.getD 141 undef, tm.getD 142 undef, tm.getD 143 undef, tm.getD 144 undef, tm.getD 145 undef, tm.getD 146 undef, tm.getD 147 undef, tm.getD 148 undef] := (Facts.array_lit tm hsize).trans rfl
    rw [f3, f8, f12, f13, f107] at hlit
    clear f3 f8 f12 f13 f107 hsize hnew hold
    generalize tm.getD 0 undef = x0 at hlit
    generalize tm.getD 1 undef = x1 at hlit
    generalize tm.getD 2 undef = x2 at hlit
    generalize tm.getD 4 undef = x4 at hlit
    generalize tm.getD 5 undef = x5 at hlit
    generalize tm.getD 6 undef = x6 at hlit
    generalize tm.getD 7 undef = x7 at hlit
    generalize tm.getD 9 undef = x9 at hlit
    generalize tm.getD 10 undef = x10 at hlit
    generalize tm.getD 11 undef = x11 at hlit
    generalize tm.getD 14 undef = x14 at hlit
    generalize tm.getD 15 undef = x15 at hlit
    generalize tm.getD 16 undef = x16 at hlit
    generalize tm.getD 17 undef = x17 at hlit
    generalize tm.getD 18 undef = x18 at hlit
    generalize tm.getD 19 undef = x19 at hlit
    generalize tm.getD 20 undef = x20 at hlit
    generalize tm.getD 21 undef = x21 at hlit
    generalize tm.getD 22 undef = x22 at hlit
    generalize tm.getD 23 undef = x23 at hlit
    generalize tm.getD 24 undef = x24 at hlit
    generalize tm.getD 25 undef = x25 at hlit
    generalize tm.getD 26 undef = x26 at hlit
    generalize tm.getD 27 undef = x27 at hlit
    generalize tm.getD 28 undef = x28 at hlit
    generalize tm.getD 29 undef = x29 at hlit
    generalize tm.getD 30 undef = x30 at hlit
    generalize tm.getD 31 undef = x31 at hlit
    generalize tm.getD 32 undef = x32 at hlit
    generalize tm.getD 33 undef = x33 at hlit
    generalize tm.getD 34 undef = x34 at hlit
    generalize tm.getD 35 undef = x35 at hlit
    generalize tm.getD 36 undef = x36 at hlit
    generalize tm.getD 37 undef = x37 at hlit
    generalize tm.getD 38 undef = x38 at hlit
    generalize tm.getD 39 undef = x39 at hlit
    generalize tm.getD 40 undef = x40 at hlit
    generalize tm.getD 41 undef = x41 at hlit
    generalize tm.getD 42 undef = x42 at hlit
    generalize tm.getD 43 undef = x43 at hlit
    generalize tm.getD 44 undef = x44 at hlit
    generalize tm.getD 45 undef = x45 at hlit
    generalize tm.getD 46 undef = x46 at hlit
    generalize tm.getD 47 undef = x47 at hlit
    generalize tm.getD 48 undef = x48 at hlit
    generalize tm.getD 49 undef = x49 at hlit
    generalize tm.getD 50 undef = x50 at hlit
    generalize tm.getD 51 undef = x51 at hlit
    generalize tm.getD 52 undef = x52 at hlit
    generalize tm.getD 53 undef = x53 at hlit
    generalize tm.getD 54 undef = x54 at hlit
    generalize tm.getD 55 undef = x55 at hlit
    generalize tm.getD 56 undef = x56 at hlit
    generalize tm.getD 57 undef = x57 at hlit
    generalize tm.getD 58 undef = x58 at hlit
    generalize tm.getD 59 undef = x59 at hlit
    generalize tm.getD 60 undef = x60 at hlit
    generalize tm.getD 61 undef = x61 at hlit
    generalize tm.getD 62 undef = x62 at hlit
    generalize tm.getD 63 undef = x63 at hlit
    generalize tm.getD 64 undef = x64 at hlit
    generalize tm.getD 65 undef = x65 at hlit
    generalize tm.getD 66 undef = x66 at hlit
    generalize tm.getD 67 undef = x67 at hlit
    generalize tm.getD 68 undef = x68 at hlit
    generalize tm.getD 69 undef = x69 at hlit
    generalize tm.getD 70 undef = x70 at hlit
    generalize tm.getD 71 undef = x71 at hlit
    generalize tm.getD 72 undef = x72 at hlit
    generalize tm.getD 73 undef = x73 at hlit
    generalize tm.getD 74 undef = x74 at hlit
    generalize tm.getD 75 undef = x75 at hlit
    generalize tm.getD 76 undef = x76 at hlit
    generalize tm.getD 77 undef = x77 at hlit
    generalize tm.getD 78 undef = x78 at hlit
    generalize tm.getD 79 undef = x79 at hlit
    generalize tm.getD 80 undef = x80 at hlit
    generalize tm.getD 81 undef = x81 at hlit
    generalize tm.getD 82 undef = x82 at hlit
    generalize tm.getD 83 undef = x83 at hlit
    generalize tm.getD 84 undef = x84 at hlit
    generalize tm.getD 85 undef = x85 at hlit
    generalize tm.getD 86 undef = x86 at hlit
    generalize tm.getD 87 undef = x87 at hlit
    generalize tm.getD 88 undef = x88 at hlit
    generalize tm.getD 89 undef = x89 at hlit
    generalize tm.getD 90 undef = x90 at hlit
    generalize tm.getD 91 undef = x91 at hlit
    generalize tm.getD 92 undef = x92 at hlit
    generalize tm.getD 93 undef = x93 at hlit
    generalize tm.getD 94 undef = x94 at hlit
    generalize tm.getD 95 undef = x95 at hlit
    generalize tm.getD 96 undef = x96 at hlit
    generalize tm.getD 97 undef = x97 at hlit
    generalize tm.getD 98 undef = x98 at hlit
    generalize tm.getD 99 undef = x99 at hlit
    generalize tm.getD 100 undef = x100 at hlit
    generalize tm.getD 101 undef = x101 at hlit
    generalize tm.getD 102 undef = x102 at hlit
    generalize tm.getD 103 undef = x103 at hlit
    generalize tm.getD 104 undef = x104 at hlit
    generalize tm.getD 105 undef = x105 at hlit
    generalize tm.getD 106 undef = x106 at hlit
    generalize tm.getD 108 undef = x108 at hlit
    generalize tm.getD 109 undef = x109 at hlit
    generalize tm.getD 110 undef = x110 at hlit
    generalize tm.getD 111 undef = x111 at hlit
    generalize tm.getD 112 undef = x112 at hlit
    generalize tm.getD 113 undef = x113 at hlit
    generalize tm.getD 114 undef = x114 at hlit
    generalize tm.getD 115 undef = x115 at hlit
    generalize tm.getD 116 undef = x116 at hlit
    generalize tm.getD 117 undef = x117 at hlit
    generalize tm.getD 118 undef = x118 at hlit
    generalize tm.getD 119 undef = x119 at hlit
    generalize tm.getD 120 undef = x120 at hlit
    generalize tm.getD 121 undef = x121 at hlit
    generalize tm.getD 122 undef = x122 at hlit
    generalize tm.getD 123 undef = x123 at hlit
    generalize tm.getD 124 undef = x124 at hlit
    generalize tm.getD 125 undef = x125 at hlit
    generalize tm.getD 126 undef = x126 at hlit
    generalize tm.getD 127 undef = x127 at hlit
    generalize tm.getD 128 undef = x128 at hlit
    generalize tm.getD 129 undef = x129 at hlit
    generalize tm.getD 130 undef = x130 at hlit
    generalize tm.getD 131 undef = x131 at hlit
    generalize tm.getD 132 undef = x132 at hlit
    generalize tm.getD 133 undef = x133 at hlit
    generalize tm.getD 134 undef = x134 at hlit
    generalize tm.getD 135 undef = x135 at hlit
    generalize tm.getD 136 undef = x136 at hlit
    generalize tm.getD 137 undef = x137 at hlit
    generalize tm.getD 138 undef = x138 at hlit
    generalize tm.getD 139 undef = x139 at hlit
    generalize tm.getD 140 undef = x140 at hlit
    generalize tm.getD 141 undef = x141 at hlit
    generalize tm.getD 142 undef = x142 at hlit
    generalize tm.getD 143 undef = x143 at hlit
    generalize tm.getD 144 undef = x144 at hlit
    generalize tm.getD 145 undef = x145 at hlit
    generalize tm.getD 146 undef = x146 at hlit
    generalize tm.getD 147 undef = x147 at hlit
    generalize tm.getD 148 undef = x148 at hlit
    subst hlit
    subst hdef
    simp only []
    have b47 : Below w4.heap.size w4 w7 := b46.trans ((show Below w6.heap.size w6 w7 from (Below.refl _ _).drew.trans hR).mono b46.size)
    have v7 := v6.below (w' := w7) (show Below w6.heap.size w6 w7 from ((Below.refl _ _).drew.trans hR))
    have bel7 : Below w0.heap.size w0 w7 := s4.below.trans (b47.mono s4.below.size)
    clear b46 v6 SCELL hR bel6
    have hjj1 : j < j1 := by omega
    have HJ1 := Lib.hid hj1
    clear hj1
    have hm3 : more.length = n3 := hB1.1
    have hwj := wraps_le LA j
    have hwr := wrap_length more
    have hen := enc_ten (n := more.length) (by omega)
    have hadd3 := addK w0 w4 w7 d (wholeL k ta tb (LA.take j)) N' acts' B n3 c3 more T1 s4 b47 (by omega) (by omega) hc3 (hB1.below bel7) (by unfold wholeL; rw [List.length_append]; have := HHD.out; have := HWA.out; omega)
    have hcat : wholeL k ta tb (LA.take j) ++ wrap more = wholeL k ta tb (LA.take j ++ [more]) := by unfold wholeL; rw [wraps_snoc, List.append_assoc]
    rw [hcat] at hadd3
    clear hwj hwr hen hcat
    go_wp2_with fail
    refine hadd3.mono ?_
    rintro e w8 ⟨rfl, s8, hfr⟩
    clear hadd3
    have v8 : SheetAt w8 r (.int .u8 (k.toNat : Int)) (.int .u64 (ta : Int)) (.int .u64 (tb : Int)) (.slice Al j cl) (.int .i64 (G : Int)) (.int .i64 0) := (hfr r (by have := HR4.out; omega) v7.lt).trans v7
    have hlen1 : (LA.take j ++ [more]).length = j1 := by have h9 := HJ1.out; rw [List.length_append, List.length_take]; simp; omega
    have hlens : lens (LA.take j ++ [more]) ≤ 10000 := by rw [lens_snoc]; have := lens_le LA j; omega
    have hget : (LA.take j ++ [more]).getD j [] = more := by
      have h1 : (LA.take j).length = j := by rw [List.length_take]; omega
      rw [List.getD_eq_getElem?_getD, List.getElem?_append_right (by omega), h1]
      simp
    have hsh := sheetL3 w0 w8 d k ta tb (LA.take j ++ [more]) N' (acts' + 1) T1 ha hb s8 hlens
    rw [hlen1] at hsh
    unfold sheetV at hsh
    have HB8 := Lib.hid (hB1.below s8.below)
    generalize hLL : LA.take j ++ [more] = LL at hsh hget
    obtain ⟨G2, hG2⟩ : ∃ G2, G2 = (wholeL k ta tb LL).length := ⟨_, rfl⟩
    rw [← hG2] at hsh
    clear hfr v7 hlen1 hlens hG2 hLL b47 bel7
    go_wp2_with fail
    refine hsh.mono ?_
    rintro e w9 ⟨Al2, cl2, rfl, hl9, hb9⟩
    have bel9 := s8.below.trans (hb9.mono s8.below.size)
    have v9 := v8.below hb9
    have hB9 := HB8.out.below hb9
    clear hsh s8 v8 hb9 HB8
    obtain ⟨⟨y0, y1, y2, y3, y4, y5⟩, _⟩ := v9.cells
    have hrl : r < w9.heap.size := v9.lt
    have hrn : ¬ w9.heap.size = r := by omega
    go_upto_region 16 with fail
    clear y0 y1 y2 y3 y4 y5 hrl hrn
    have b910 : Below w9.heap.size w9 (w9.alloc (.cells #[.int .u8 (k.toNat : Int), .int .u64 (ta : Int), .int .u64 (tb : Int), .slice Al2 j1 cl2, .int .i64 (G2 : Int), .int .i64 0] 32)) := (Below.refl _ _).alloc (Nat.le_refl _) _
    have u10 := sheetAt_new w9 (.int .u8 (k.toNat : Int)) (.int .u64 (ta : Int)) (.int .u64 (tb : Int)) (.slice Al2 j1 cl2) (.int .i64 (G2 : Int)) (.int .i64 0)
    have v10 := v9.below b910
    have hl10 := hl9.below b910
    have hB10 := hB9.below b910
    have bel10 := bel9.trans (b910.mono bel9.size)
    generalize w9.alloc (.cells #[.int .u8 (k.toNat : Int), .int .u64 (ta : Int), .int .u64 (tb : Int), .slice Al2 j1 cl2, .int .i64 (G2 : Int), .int .i64 0] 32) = w10 at u10 v10 hl10 hB10 bel10 ⊢
    clear b910 v9 hl9 hB9 bel9
    generalize w9.heap.size = r2 at u10 ⊢
    obtain ⟨g2, o2, Ae, ce, rfl, hcell, hce, hse⟩ := hl10.get hjj1
    rw [hget] at hcell hse
    rw [hm3] at hcell hse
    obtain ⟨sm, hsm⟩ : ∃ sm, sm = (⟨more.toArray⟩ : ByteArray) := ⟨_, rfl⟩
    have STR1 : Hid (∀ W, Below w10.drew.heap.size w10.drew W → (convert 37 9 (.slice Ae n3 ce)).run Tryd.prog W = .ok (.string sm) W) := fun W hR => by
      rw [hsm]
      exact (hse.drew.below hR).string ce Tryd.underlying37 Tryd.underlying5 Tryd.underlying9
    have STR2 : Hid (∀ W, Below w10.drew.heap.size w10.drew W → (convert 37 9 (.slice B n3 c3)).run Tryd.prog W = .ok (.string sm) W) := fun W hR => by
      rw [hsm]
      exact (hB10.drew.below hR).string c3 Tryd.underlying37 Tryd.underlying5 Tryd.underlying9
    have ELEM := Lib.hid (fun (W : World) (hR : Below w10.drew.heap.size w10.drew W) => ((show Below w10.heap.size w10 W from ((Below.refl _ _).drew.trans hR)).cell (World.block_lt_of_cell? _ _ hcell)).trans hcell)
    have SCELL := Lib.hid (fun (W : World) (hR : Below w10.drew.heap.size w10.drew W) => (SheetAt.cells (u10.below (w' := W) (show Below w10.heap.size w10 W from ((Below.refl _ _).drew.trans hR)))))
    clear hsm hse hB10 hl10 hcell u10 v10 hget hce
    refine Facts.wp_region_preds (n := 149) (by kernel_rfl) (by kernel_rfl) rfl [Facts.Pred.is (Value.int .i64 0), Facts.Pred.is (Value.bool true), Facts.Pred.is (Value.bool true), Facts.Pred.is (Value.int .i64 0), Facts.Pred.is (Value.bool true), Facts.Pred.is (Value.bool true), Facts.Pred.is (Value.bool true), Facts.Pred.is (Value.pointer (some ⟨r2, 5, none⟩)), Facts.Pred.is (Value.int .i64 0), Facts.Pred.is (Value.bool true), Facts.Pred.is (Value.bool true), Facts.Pred.is (Value.bool true), Facts.Pred.is (Value.pointer (some ⟨r2, 3, none⟩)), Facts.Pred.is (Value.slice (some ⟨g2, o2, none⟩) j1 cl2), Facts.Pred.is (Value.int .i64 (j1 : Int)), Facts.Pred.is (Value.int .i64 (j : Int)), Facts.Pred.is (Value.int .i64 (j1 : Int)), Facts.Pred.is (Value.bool true), Facts.Pred.is (Value.bool true), Facts.Pred.is (Value.bool true), Facts.Pred.is (Value.pointer (some ⟨r2, 3, none⟩)), Facts.Pred.is (Value.slice (some ⟨g2, o2, none⟩) j1 cl2), Facts.Pred.is (Value.int .i64 (j : Int)), Facts.Pred.is (Value.pointer (some ⟨g2, o2 + j, none⟩)), Facts.Pred.is (Value.slice Ae n3 ce), Facts.Pred.is (Value.string sm), Facts.Pred.is (Value.slice B n3 c3), Facts.Pred.is (Value.string sm), Facts.Pred.is (Value.bool true), Facts.Pred.is (Value.bool true), Facts.Pred.is (Value.bool true)] ?_ ?_
    · refine ⟨?_, ?_, ?_, ?_, ?_, ?_, ?_, ?_, ?_, ?_, ?_, ?_, ?_, ?_, ?_, ?_, ?_, ?_, ?_, ?_, ?_, ?_, ?_, ?_, ?_, ?_, ?_, ?_, ?_, ?_, ?_, trivial⟩
      · refine Facts.step_is (Value.int .i64 0) fun a W hR hold hnew => ?_
        have f15 : a.tmps.getD 15 undef = Value.int .i64 0 := hold 15 (by kernel_rfl)
        refine ⟨Facts.wanted_free rfl, ?_, fun _ => rfl⟩
        simp [go_sem, Act.eval, f15]
      · refine Facts.step_is (Value.bool true) fun a W hR hold hnew => ?_
        have f119 : a.tmps.getD 119 undef = Value.int .i64 0 := hnew 0 119 (by kernel_rfl)
        refine ⟨Facts.wanted_free rfl, ?_, fun _ => rfl⟩
        simp [go_sem, Act.eval, f119]
      · refine Facts.step_is (Value.bool true) fun a W hR hold hnew => ?_
        have f120 : a.tmps.getD 120 undef = Value.bool true := hnew 1 120 (by kernel_rfl)
        refine ⟨Facts.wanted_free rfl, ?_, fun _ => rfl⟩
        simp [go_sem, Act.eval, f120]
      · refine Facts.step_is (Value.int .i64 0) fun a W hR hold hnew => ?_
        have f17 : a.tmps.getD 17 undef = Value.int .i64 0 := hold 17 (by kernel_rfl)
        have g121 : a.tmps.getD 121 undef = .bool true := hnew 2 121 (by kernel_rfl)
        refine ⟨Facts.wanted_by rfl (by kernel_rfl) g121, ?_, fun _ => rfl⟩
        simp [go_sem, Act.eval, f17]
      · refine Facts.step_is (Value.bool true) fun a W hR hold hnew => ?_
        have f122 : a.tmps.getD 122 undef = Value.int .i64 0 := hnew 3 122 (by kernel_rfl)
        have g121 : a.tmps.getD 121 undef = .bool true := hnew 2 121 (by kernel_rfl)
        refine ⟨Facts.wanted_by rfl (by kernel_rfl) g121, ?_, fun _ => rfl⟩
        simp [go_sem, Act.eval, f122]
      · refine Facts.step_is (Value.bool true) fun a W hR hold hnew => ?_
        have f121 : a.tmps.getD 121 undef = Value.bool true := hnew 2 121 (by kernel_rfl)
        have f123 : a.tmps.getD 123 undef = Value.bool true := hnew 4 123 (by kernel_rfl)
        refine ⟨Facts.wanted_free rfl, ?_, fun _ => rfl⟩
        simp [go_sem, Act.eval, f121, f123]
      · refine Facts.step_is (Value.bool true) fun a W hR hold hnew => ?_
        have f124 : a.tmps.getD 124 undef = Value.bool true := hnew 5 124 (by kernel_rfl)
        refine ⟨Facts.wanted_free rfl, ?_, fun _ => rfl⟩
        simp [go_sem, Act.eval, f124]
      · refine Facts.step_is (Value.pointer (some ⟨r2, 5, none⟩)) fun a W hR hold hnew => ?_
        have f16 : a.tmps.getD 16 undef = Value.pointer (some ⟨r2, 0, none⟩) := hold 16 (by kernel_rfl)
        have g125 : a.tmps.getD 125 undef = .bool true := hnew 6 125 (by kernel_rfl)
        refine ⟨Facts.wanted_by rfl (by kernel_rfl) g125, ?_, fun _ => rfl⟩
        simp [go_sem, Act.eval, f16]
      · refine Facts.step_is (Value.int .i64 0) fun a W hR hold hnew => ?_
        have f126 : a.tmps.getD 126 undef = Value.pointer (some ⟨r2, 5, none⟩) := hnew 7 126 (by kernel_rfl)
        have g125 : a.tmps.getD 125 undef = .bool true := hnew 6 125 (by kernel_rfl)
        obtain ⟨⟨y0, y1, y2, y3, y4, y5⟩, _⟩ := SCELL.out W hR
        refine ⟨Facts.wanted_by rfl (by kernel_rfl) g125, ?_, fun _ => rfl⟩
        simp [go_sem, Act.eval, f126, y5]
      · refine Facts.step_is (Value.bool true) fun a W hR hold hnew => ?_
        have f127 : a.tmps.getD 127 undef = Value.int .i64 0 := hnew 8 127 (by kernel_rfl)
        have g125 : a.tmps.getD 125 undef = .bool true := hnew 6 125 (by kernel_rfl)
        refine ⟨Facts.wanted_by rfl (by kernel_rfl) g125, ?_, fun _ => rfl⟩
        simp [go_sem, Act.eval, f127]
      · refine Facts.step_is (Value.bool true) fun a W hR hold hnew => ?_
        have f125 : a.tmps.getD 125 undef = Value.bool true := hnew 6 125 (by kernel_rfl)
        have f128 : a.tmps.getD 128 undef = Value.bool true := hnew 9 128 (by kernel_rfl)
        refine ⟨Facts.wanted_free rfl, ?_, fun _ => rfl⟩
        simp [go_sem, Act.eval, f125, f128]
      · refine Facts.step_is (Value.bool true) fun a W hR hold hnew => ?_
        have f129 : a.tmps.getD 129 undef = Value.bool true := hnew 10 129 (by kernel_rfl)
        refine ⟨Facts.wanted_free rfl, ?_, fun _ => rfl⟩
        simp [go_sem, Act.eval, f129]
      · refine Facts.step_is (Value.pointer (some ⟨r2, 3, none⟩)) fun a W hR hold hnew => ?_
        have f16 : a.tmps.getD 16 undef = Value.pointer (some ⟨r2, 0, none⟩) := hold 16 (by kernel_rfl)
        have g130 : a.tmps.getD 130 undef = .bool true := hnew 11 130 (by kernel_rfl)
        refine ⟨Facts.wanted_by rfl (by kernel_rfl) g130, ?_, fun _ => rfl⟩
        simp [go_sem, Act.eval, f16]
      · refine Facts.step_is (Value.slice (some ⟨g2, o2, none⟩) j1 cl2) fun a W hR hold hnew => ?_
        have f131 : a.tmps.getD 131 undef = Value.pointer (some ⟨r2, 3, none⟩) := hnew 12 131 (by kernel_rfl)
        have g130 : a.tmps.getD 130 undef = .bool true := hnew 11 130 (by kernel_rfl)
        obtain ⟨⟨y0, y1, y2, y3, y4, y5⟩, _⟩ := SCELL.out W hR
        refine ⟨Facts.wanted_by rfl (by kernel_rfl) g130, ?_, fun _ => rfl⟩
        simp [go_sem, Act.eval, f131, y3]
      · refine Facts.step_is (Value.int .i64 (j1 : Int)) fun a W hR hold hnew => ?_
        have f132 : a.tmps.getD 132 undef = Value.slice (some ⟨g2, o2, none⟩) j1 cl2 := hnew 13 132 (by kernel_rfl)
        have g130 : a.tmps.getD 130 undef = .bool true := hnew 11 130 (by kernel_rfl)
        refine ⟨Facts.wanted_by rfl (by kernel_rfl) g130, ?_, fun _ => rfl⟩
        simp [go_sem, Act.eval, f132]
      · refine Facts.step_is (Value.int .i64 (j : Int)) fun a W hR hold hnew => ?_
        have f18 : a.tmps.getD 18 undef = Value.int .i64 (j : Int) := hold 18 (by kernel_rfl)
        have g130 : a.tmps.getD 130 undef = .bool true := hnew 11 130 (by kernel_rfl)
        refine ⟨Facts.wanted_by rfl (by kernel_rfl) g130, ?_, fun _ => rfl⟩
        simp [go_sem, Act.eval, f18]
      · refine Facts.step_is (Value.int .i64 (j1 : Int)) fun a W hR hold hnew => ?_
        have f134 : a.tmps.getD 134 undef = Value.int .i64 (j : Int) := hnew 15 134 (by kernel_rfl)
        have g130 : a.tmps.getD 130 undef = .bool true := hnew 11 130 (by kernel_rfl)
        refine ⟨Facts.wanted_by rfl (by kernel_rfl) g130, ?_, fun _ => rfl⟩
        simp [go_sem, Act.eval, f134, hj1w]
      · refine Facts.step_is (Value.bool true) fun a W hR hold hnew => ?_
        have f133 : a.tmps.getD 133 undef = Value.int .i64 (j1 : Int) := hnew 14 133 (by kernel_rfl)
        have f135 : a.tmps.getD 135 undef = Value.int .i64 (j1 : Int) := hnew 16 135 (by kernel_rfl)
        have g130 : a.tmps.getD 130 undef = .bool true := hnew 11 130 (by kernel_rfl)
        refine ⟨Facts.wanted_by rfl (by kernel_rfl) g130, ?_, fun _ => rfl⟩
        simp [go_sem, Act.eval, f133, f135]
      · refine Facts.step_is (Value.bool true) fun a W hR hold hnew => ?_
        have f130 : a.tmps.getD 130 undef = Value.bool true := hnew 11 130 (by kernel_rfl)
        have f136 : a.tmps.getD 136 undef = Value.bool true := hnew 17 136 (by kernel_rfl)
        refine ⟨Facts.wanted_free rfl, ?_, fun _ => rfl⟩
        simp [go_sem, Act.eval, f130, f136]
      · refine Facts.step_is (Value.bool true) fun a W hR hold hnew => ?_
        have f137 : a.tmps.getD 137 undef = Value.bool true := hnew 18 137 (by kernel_rfl)
        refine ⟨Facts.wanted_free rfl, ?_, fun _ => rfl⟩
        simp [go_sem, Act.eval, f137]
      · refine Facts.step_is (Value.pointer (some ⟨r2, 3, none⟩)) fun a W hR hold hnew => ?_
        have f16 : a.tmps.getD 16 undef = Value.pointer (some ⟨r2, 0, none⟩) := hold 16 (by kernel_rfl)
        have g138 : a.tmps.getD 138 undef = .bool true := hnew 19 138 (by kernel_rfl)
        refine ⟨Facts.wanted_by rfl (by kernel_rfl) g138, ?_, fun _ => rfl⟩
        simp [go_sem, Act.eval, f16]
      · refine Facts.step_is (Value.slice (some ⟨g2, o2, none⟩) j1 cl2) fun a W hR hold hnew => ?_
        have f139 : a.tmps.getD 139 undef = Value.pointer (some ⟨r2, 3, none⟩) := hnew 20 139 (by kernel_rfl)
        have g138 : a.tmps.getD 138 undef = .bool true := hnew 19 138 (by kernel_rfl)
        obtain ⟨⟨y0, y1, y2, y3, y4, y5⟩, _⟩ := SCELL.out W hR
        refine ⟨Facts.wanted_by rfl (by kernel_rfl) g138, ?_, fun _ => rfl⟩
        simp [go_sem, Act.eval, f139, y3]
      · refine Facts.step_is (Value.int .i64 (j : Int)) fun a W hR hold hnew => ?_
        have f18 : a.tmps.getD 18 undef = Value.int .i64 (j : Int) := hold 18 (by kernel_rfl)
        have g138 : a.tmps.getD 138 undef = .bool true := hnew 19 138 (by kernel_rfl)
        refine ⟨Facts.wanted_by rfl (by kernel_rfl) g138, ?_, fun _ => rfl⟩
        simp [go_sem, Act.eval, f18]
      · refine Facts.step_is (Value.pointer (some ⟨g2, o2 + j, none⟩)) fun a W hR hold hnew => ?_
        have f140 : a.tmps.getD 140 undef = Value.slice (some ⟨g2, o2, none⟩) j1 cl2 := hnew 21 140 (by kernel_rfl)
        have f141 : a.tmps.getD 141 undef = Value.int .i64 (j : Int) := hnew 22 141 (by kernel_rfl)
        have g138 : a.tmps.getD 138 undef = .bool true := hnew 19 138 (by kernel_rfl)
        refine ⟨Facts.wanted_by rfl (by kernel_rfl) g138, ?_, fun _ => rfl⟩
        simp [go_sem, Act.eval, f140, f141, hjj1]
      · refine Facts.step_is (Value.slice Ae n3 ce) fun a W hR hold hnew => ?_
        have f142 : a.tmps.getD 142 undef = Value.pointer (some ⟨g2, o2 + j, none⟩) := hnew 23 142 (by kernel_rfl)
        have g138 : a.tmps.getD 138 undef = .bool true := hnew 19 138 (by kernel_rfl)
        have q := ELEM.out W hR
        refine ⟨Facts.wanted_by rfl (by kernel_rfl) g138, ?_, fun _ => rfl⟩
        simp [go_sem, Act.eval, f142, q]
      · refine Facts.step_is (Value.string sm) fun a W hR hold hnew => ?_
        have f143 : a.tmps.getD 143 undef = Value.slice Ae n3 ce := hnew 24 143 (by kernel_rfl)
        have g138 : a.tmps.getD 138 undef = .bool true := hnew 19 138 (by kernel_rfl)
        have r := STR1.out W hR
        refine ⟨Facts.wanted_by rfl (by kernel_rfl) g138, ?_, fun _ => rfl⟩
        simp [go_sem, Act.eval, f143, r]
      · refine Facts.step_is (Value.slice B n3 c3) fun a W hR hold hnew => ?_
        have f3 : a.tmps.getD 3 undef = Value.slice B n3 c3 := hold 3 (by kernel_rfl)
        have g138 : a.tmps.getD 138 undef = .bool true := hnew 19 138 (by kernel_rfl)
        refine ⟨Facts.wanted_by rfl (by kernel_rfl) g138, ?_, fun _ => rfl⟩
        simp [go_sem, Act.eval, f3]
      · refine Facts.step_is (Value.string sm) fun a W hR hold hnew => ?_
        have f145 : a.tmps.getD 145 undef = Value.slice B n3 c3 := hnew 26 145 (by kernel_rfl)
        have g138 : a.tmps.getD 138 undef = .bool true := hnew 19 138 (by kernel_rfl)
        have r := STR2.out W hR
        refine ⟨Facts.wanted_by rfl (by kernel_rfl) g138, ?_, fun _ => rfl⟩
        simp [go_sem, Act.eval, f145, r]
      · refine Facts.step_is (Value.bool true) fun a W hR hold hnew => ?_
        have f144 : a.tmps.getD 144 undef = Value.string sm := hnew 25 144 (by kernel_rfl)
        have f146 : a.tmps.getD 146 undef = Value.string sm := hnew 27 146 (by kernel_rfl)
        have g138 : a.tmps.getD 138 undef = .bool true := hnew 19 138 (by kernel_rfl)
        refine ⟨Facts.wanted_by rfl (by kernel_rfl) g138, ?_, fun _ => rfl⟩
        simp [go_sem, Act.eval, f144, f146]
      · refine Facts.step_is (Value.bool true) fun a W hR hold hnew => ?_
        have f138 : a.tmps.getD 138 undef = Value.bool true := hnew 19 138 (by kernel_rfl)
        have f147 : a.tmps.getD 147 undef = Value.bool true := hnew 28 147 (by kernel_rfl)
        refine ⟨Facts.wanted_free rfl, ?_, fun _ => rfl⟩
        simp [go_sem, Act.eval, f138, f147]
      · refine Facts.step_is (Value.bool true) fun a W hR hold hnew => ?_
        have f148 : a.tmps.getD 148 undef = Value.bool true := hnew 29 148 (by kernel_rfl)
        refine ⟨Facts.wanted_free rfl, ?_, fun _ => rfl⟩
        simp [go_sem, Act.eval, f148]
    intro a w11 hR hsize hdef hnew hold
    have fo : a.tmps.getD 8 undef = .bool true := hnew 30 8 (by kernel_rfl)
    go_wp2
    try simp only [Exit.inBlock, Exit.then]
    refine bodyPost_ret (results_tmp rfl _ _ _) hdef ?_
    rw [fo]
    have bw2 : Below w0.heap.size w0 w11 := bel10.drew.trans (hR.mono bel10.drew.size)
    exact ⟨rfl, bw.trans (bw2.mono bw.size)⟩
  · have hjn2 : ¬ j < n := hjlt2
    refine Facts.wp_region_preds (n := 149) (by kernel_rfl) (by kernel_rfl) rfl [Facts.Pred.is (Value.pointer (some ⟨r, 3, none⟩)), Facts.Pred.is (Value.slice Al j cl), Facts.Pred.is (Value.int .i64 (j : Int)), Facts.Pred.is (Value.slice A n c), Facts.Pred.is (Value.int .i64 (n : Int)), Facts.Pred.is (Value.bool false), Facts.Pred.is (Value.bool false), Facts.Pred.any, Facts.Pred.any, Facts.Pred.any, Facts.Pred.any, Facts.Pred.any, Facts.Pred.any, Facts.Pred.any, Facts.Pred.any, Facts.Pred.any, Facts.Pred.any, Facts.Pred.any, Facts.Pred.any, Facts.Pred.any, Facts.Pred.any, Facts.Pred.any, Facts.Pred.is (Value.bool false)] ?_ ?_
    · refine ⟨?_, ?_, ?_, ?_, ?_, ?_, ?_, ?_, ?_, ?_, ?_, ?_, ?_, ?_, ?_, ?_, ?_, ?_, ?_, ?_, ?_, ?_, ?_, trivial⟩
      · refine Facts.step_is (Value.pointer (some ⟨r, 3, none⟩)) fun a W hR hold hnew => ?_
        have f13 : a.tmps.getD 13 undef = Value.pointer (some ⟨r, 0, none⟩) := hold 13 (by kernel_rfl)
        refine ⟨Facts.wanted_free rfl, ?_, fun _ => rfl⟩
        simp [go_sem, Act.eval, f13]
      · refine Facts.step_is (Value.slice Al j cl) fun a W hR hold hnew => ?_
        have f85 : a.tmps.getD 85 undef = Value.pointer (some ⟨r, 3, none⟩) := hnew 0 85 (by kernel_rfl)
        obtain ⟨⟨y0, y1, y2, y3, y4, y5⟩, _⟩ := SCELL.out W hR
        refine ⟨Facts.wanted_free rfl, ?_, fun _ => rfl⟩
        simp [go_sem, Act.eval, f85, y3]
      · refine Facts.step_is (Value.int .i64 (j : Int)) fun a W hR hold hnew => ?_
        have f86 : a.tmps.getD 86 undef = Value.slice Al j cl := hnew 1 86 (by kernel_rfl)
        refine ⟨Facts.wanted_free rfl, ?_, fun _ => rfl⟩
        simp [go_sem, Act.eval, f86]
      · refine Facts.step_is (Value.slice A n c) fun a W hR hold hnew => ?_
        have f1 : a.tmps.getD 1 undef = Value.slice A n c := hold 1 (by kernel_rfl)
        refine ⟨Facts.wanted_free rfl, ?_, fun _ => rfl⟩
        simp [go_sem, Act.eval, f1]
      · refine Facts.step_is (Value.int .i64 (n : Int)) fun a W hR hold hnew => ?_
        have f88 : a.tmps.getD 88 undef = Value.slice A n c := hnew 3 88 (by kernel_rfl)
        refine ⟨Facts.wanted_free rfl, ?_, fun _ => rfl⟩
        simp [go_sem, Act.eval, f88]
      · refine Facts.step_is (Value.bool false) fun a W hR hold hnew => ?_
        have f87 : a.tmps.getD 87 undef = Value.int .i64 (j : Int) := hnew 2 87 (by kernel_rfl)
        have f89 : a.tmps.getD 89 undef = Value.int .i64 (n : Int) := hnew 4 89 (by kernel_rfl)
        refine ⟨Facts.wanted_free rfl, ?_, fun _ => rfl⟩
        simp [go_sem, Act.eval, f87, f89, hjn2]
      · refine Facts.step_is (Value.bool false) fun a W hR hold hnew => ?_
        have f90 : a.tmps.getD 90 undef = Value.bool false := hnew 5 90 (by kernel_rfl)
        refine ⟨Facts.wanted_free rfl, ?_, fun _ => rfl⟩
        simp [go_sem, Act.eval, f90]
      · -- 7: Op.move t10
        refine step_skip (fun a W hnew => ?_) (fun _ => trivial)
        have g91 : a.tmps.getD 91 undef = .bool false := hnew 6 91 (by kernel_rfl)
        exact wanted_not rfl (by kernel_rfl) g91
      · -- 8: Op.load 24 t4
        refine step_skip (fun a W hnew => ?_) (fun _ => trivial)
        have g91 : a.tmps.getD 91 undef = .bool false := hnew 6 91 (by kernel_rfl)
        exact wanted_not rfl (by kernel_rfl) g91
      · -- 9: Op.move t1
        refine step_skip (fun a W hnew => ?_) (fun _ => trivial)
        have g91 : a.tmps.getD 91 undef = .bool false := hnew 6 91 (by kernel_rfl)
        exact wanted_not rfl (by kernel_rfl) g91
      · -- 10: Op.fieldAddr 32 t13 1
        refine step_skip (fun a W hnew => ?_) (fun _ => trivial)
        have g91 : a.tmps.getD 91 undef = .bool false := hnew 6 91 (by kernel_rfl)
        exact wanted_not rfl (by kernel_rfl) g91
      · -- 11: Op.load 25 t95
        refine step_skip (fun a W hnew => ?_) (fun _ => trivial)
        have g91 : a.tmps.getD 91 undef = .bool false := hnew 6 91 (by kernel_rfl)
        exact wanted_not rfl (by kernel_rfl) g91
      · -- 12: Op.call { builtin len, args := #[t96], argTypes := #[25] }
        refine step_skip (fun a W hnew => ?_) (fun _ => trivial)
        have g91 : a.tmps.getD 91 undef = .bool false := hnew 6 91 (by kernel_rfl)
        exact wanted_not rfl (by kernel_rfl) g91
      · -- 13: Op.binOp BinOp.add 3 t97 (const (1:i64)) 3
        refine step_skip (fun a W hnew => ?_) (fun _ => trivial)
        have g91 : a.tmps.getD 91 undef = .bool false := hnew 6 91 (by kernel_rfl)
        exact wanted_not rfl (by kernel_rfl) g91
      · -- 14: Op.slice 25 t94 none (some t98) none
        refine step_skip (fun a W hnew => ?_) (fun _ => trivial)
        have g91 : a.tmps.getD 91 undef = .bool false := hnew 6 91 (by kernel_rfl)
        exact wanted_not rfl (by kernel_rfl) g91
      · -- 15: Op.call { value (Operand.func 16), args := #[t93, t99], argT
        refine step_skip (fun a W hnew => ?_) (fun _ => trivial)
        have g91 : a.tmps.getD 91 undef = .bool false := hnew 6 91 (by kernel_rfl)
        exact wanted_not rfl (by kernel_rfl) g91
      · -- 16: Op.call { builtin len, args := #[t100], argTypes := #[37] }
        refine step_skip (fun a W hnew => ?_) (fun _ => trivial)
        have g91 : a.tmps.getD 91 undef = .bool false := hnew 6 91 (by kernel_rfl)
        exact wanted_not rfl (by kernel_rfl) g91
      · -- 17: Op.binOp BinOp.add 3 t92 t101 3
        refine step_skip (fun a W hnew => ?_) (fun _ => trivial)
        have g91 : a.tmps.getD 91 undef = .bool false := hnew 6 91 (by kernel_rfl)
        exact wanted_not rfl (by kernel_rfl) g91
      · -- 18: Op.move t10
        refine step_skip (fun a W hnew => ?_) (fun _ => trivial)
        have g91 : a.tmps.getD 91 undef = .bool false := hnew 6 91 (by kernel_rfl)
        exact wanted_not rfl (by kernel_rfl) g91
      · -- 19: Op.binOp BinOp.sub 3 t102 t103 3
        refine step_skip (fun a W hnew => ?_) (fun _ => trivial)
        have g91 : a.tmps.getD 91 undef = .bool false := hnew 6 91 (by kernel_rfl)
        exact wanted_not rfl (by kernel_rfl) g91
      · -- 20: Op.move t11
        refine step_skip (fun a W hnew => ?_) (fun _ => trivial)
        have g91 : a.tmps.getD 91 undef = .bool false := hnew 6 91 (by kernel_rfl)
        exact wanted_not rfl (by kernel_rfl) g91
      · -- 21: Op.binOp BinOp.leq 3 t104 t105 3
        refine step_skip (fun a W hnew => ?_) (fun _ => trivial)
        have g91 : a.tmps.getD 91 undef = .bool false := hnew 6 91 (by kernel_rfl)
        exact wanted_not rfl (by kernel_rfl) g91
      · refine Facts.step_is (Value.bool false) fun a W hR hold hnew => ?_
        have f91 : a.tmps.getD 91 undef = Value.bool false := hnew 6 91 (by kernel_rfl)
        refine ⟨Facts.wanted_free rfl, ?_, fun _ => rfl⟩
        simp [go_sem, Act.eval, f91]
    intro a w7 hR hsize hdef hnew hold
    have f3 : a.tmps.getD 3 undef = Value.slice B n3 c3 := hold 3 (Facts.not_dst (by kernel_rfl))
    have f8 : a.tmps.getD 8 undef = Value.bool false := hold 8 (Facts.not_dst (by kernel_rfl))
    have f12 : a.tmps.getD 12 undef = Value.pointer (some ⟨d, 0, none⟩) := hold 12 (Facts.not_dst (by kernel_rfl))
    have f13 : a.tmps.getD 13 undef = Value.pointer (some ⟨r, 0, none⟩) := hold 13 (Facts.not_dst (by kernel_rfl))
    have f107 : a.tmps.getD 107 undef = Value.bool false := hnew 22 107 (by kernel_rfl)
    obtain ⟨tm, df⟩ := a
    simp only [] at hdef hsize f3 f8 f12 f13 f107
    have hlit : tm = #[tm.getD 0 undef, tm.getD 1 undef, tm.getD 2 undef, tm.getD 3 undef, tm.getD 4 undef, tm.getD 5 undef, tm.getD 6 undef, tm.getD 7 undef, tm.getD 8 undef, tm.getD 9 undef, tm.getD 10 undef, tm.getD 11 undef, tm.getD 12 undef, tm.getD 13 undef, tm.getD 14 undef, tm.getD 15 undef, tm.getD 16 undef, tm.getD 17 undef, tm.getD 18 undef, tm.getD 19 undef, tm.getD 20 undef, tm.getD 21 undef, tm.getD 22 undef, tm.getD 23 undef, tm.getD 24 undef, tm.getD 25 undef, tm.getD 26 undef, tm.getD 27 undef, tm.getD 28 undef, tm.getD 29 undef, tm.getD 30 undef, tm.getD 31 undef, tm.getD 32 undef, tm.getD 33 undef, tm.getD 34 undef, tm.getD 35 undef, tm.getD 36 undef, tm.getD 37 undef, tm.getD 38 undef, tm.getD 39 undef, tm.getD 40 undef, tm.getD 41 undef, tm.getD 42 undef, tm.getD 43 undef, tm.getD 44 undef, tm.getD 45 undef, tm.getD 46 undef, tm.getD 47 undef, tm.getD 48 undef, tm.getD 49 undef, tm.getD 50 undef, tm.getD 51 undef, tm.getD 52 undef, tm.getD 53 undef, tm.getD 54 undef, tm.getD 55 undef, tm.getD 56 undef, tm.getD 57 undef, tm.getD 58 undef, tm.getD 59 undef, tm.getD 60 undef, tm.getD 61 undef, tm.getD 62 undef, tm.getD 63 undef, tm.getD 64 undef, tm.getD 65 undef, tm.getD 66 undef, tm.getD 67 undef, tm.getD 68 undef, tm.getD 69 undef, tm.getD 70 undef, tm.getD 71 undef, tm.getD 72 undef, tm.getD 73 undef, tm.getD 74 undef, tm.getD 75 undef, tm.getD 76 undef, tm.getD 77 undef, tm.getD 78 undef, tm.getD 79 undef, tm.getD 80 undef, tm.getD 81 undef, tm.getD 82 undef, tm.getD 83 undef, tm.getD 84 undef, tm.getD 85 undef, tm.getD 86 undef, tm.getD 87 undef, tm.getD 88 undef, tm.getD 89 undef, tm.getD 90 undef, tm.getD 91 undef, tm.getD 92 undef, tm.getD 93 undef, tm.getD 94 undef, tm.getD 95 undef, tm.getD 96 undef, tm.getD 97 undef, tm.getD 98 undef, tm.getD 99 undef, tm.getD 100 undef, tm.getD 101 undef, tm.getD 102 undef, tm.getD 103 undef, tm.getD 104 undef, tm.getD 105 undef, tm.getD 106 undef, tm.getD 107 undef, tm.getD 108 undef, tm.getD 109 undef, tm.getD 110 undef, tm.getD 111 undef, tm.getD 112 undef, tm.getD 113 undef, tm.getD 114 undef, tm.getD 115 undef, tm.getD 116 undef, tm.getD 117 undef, tm.getD 118 undef, tm.getD 119 undef, tm.getD 120 undef, tm.getD 121 undef, tm.getD 122 undef, tm.getD 123 undef, tm.getD 124 undef, tm.getD 125 undef, tm.getD 126 undef, tm.getD 127 undef, tm.getD 128 undef, tm.getD 129 undef, tm.getD 130 undef, tm.getD 131 undef, tm.getD 132 undef, tm.getD 133 undef, tm.getD 134 undef, tm.getD 135 undef, tm.getD 136 undef, tm.getD 137 undef, tm.getD 138 undef, tm.getD 139 undef, tm.getD 140 undef, tm.getD 141 undef, tm.getD 142 undef, tm.getD 143 undef, tm.getD 144 undef, tm.getD 145 undef, tm.getD 146 undef, tm.getD 147 undef, tm.getD 148 undef] := (Facts.array_lit tm hsize).trans rfl
    rw [f3, f8, f12, f13, f107] at hlit
    clear f3 f8 f12 f13 f107 hsize hnew hold
    generalize tm.getD 0 undef = x0 at hlit
    generalize tm.getD 1 undef = x1 at hlit
    generalize tm.getD 2 undef = x2 at hlit
    generalize tm.getD 4 undef = x4 at hlit
    generalize tm.getD 5 undef = x5 at hlit
    generalize tm.getD 6 undef = x6 at hlit
    generalize tm.getD 7 undef = x7 at hlit
    generalize tm.getD 9 undef = x9 at hlit
    generalize tm.getD 10 undef = x10 at hlit
    generalize tm.getD 11 undef = x11 at hlit
    generalize tm.getD 14 undef = x14 at hlit
    generalize tm.getD 15 undef = x15 at hlit
    generalize tm.getD 16 undef = x16 at hlit
    generalize tm.getD 17 undef = x17 at hlit
    generalize tm.getD 18 undef = x18 at hlit
    generalize tm.getD 19 undef = x19 at hlit
    generalize tm.getD 20 undef = x20 at hlit
    generalize tm.getD 21 undef = x21 at hlit
    generalize tm.getD 22 undef = x22 at hlit
    generalize tm.getD 23 undef = x23 at hlit
    generalize tm.getD 24 undef = x24 at hlit
    generalize tm.getD 25 undef = x25 at hlit
    generalize tm.getD 26 undef = x26 at hlit
    generalize tm.getD 27 undef = x27 at hlit
    generalize tm.getD 28 undef = x28 at hlit
    generalize tm.getD 29 undef = x29 at hlit
    generalize tm.getD 30 undef = x30 at hlit
    generalize tm.getD 31 undef = x31 at hlit
    generalize tm.getD 32 undef = x32 at hlit
    generalize tm.getD 33 undef = x33 at hlit
    generalize tm.getD 34 undef = x34 at hlit
    generalize tm.getD 35 undef = x35 at hlit
    generalize tm.getD 36 undef = x36 at hlit
    generalize tm.getD 37 undef = x37 at hlit
    generalize tm.getD 38 undef = x38 at hlit
    generalize tm.getD 39 undef = x39 at hlit
    generalize tm.getD 40 undef = x40 at hlit
    generalize tm.getD 41 undef = x41 at hlit
    generalize tm.getD 42 undef = x42 at hlit
    generalize tm.getD 43 undef = x43 at hlit
    generalize tm.getD 44 undef = x44 at hlit
    generalize tm.getD 45 undef = x45 at hlit
    generalize tm.getD 46 undef = x46 at hlit
    generalize tm.getD 47 undef = x47 at hlit
    generalize tm.getD 48 undef = x48 at hlit
    generalize tm.getD 49 undef = x49 at hlit
    generalize tm.getD 50 undef = x50 at hlit
    generalize tm.getD 51 undef = x51 at hlit
    generalize tm.getD 52 undef = x52 at hlit
    generalize tm.getD 53 undef = x53 at hlit
    generalize tm.getD 54 undef = x54 at hlit
    generalize tm.getD 55 undef = x55 at hlit
    generalize tm.getD 56 undef = x56 at hlit
    generalize tm.getD 57 undef = x57 at hlit
    generalize tm.getD 58 undef = x58 at hlit
    generalize tm.getD 59 undef = x59 at hlit
    generalize tm.getD 60 undef = x60 at hlit
    generalize tm.getD 61 undef = x61 at hlit
    generalize tm.getD 62 undef = x62 at hlit
    generalize tm.getD 63 undef = x63 at hlit
    generalize tm.getD 64 undef = x64 at hlit
    generalize tm.getD 65 undef = x65 at hlit
    generalize tm.getD 66 undef = x66 at hlit
    generalize tm.getD 67 undef = x67 at hlit
    generalize tm.getD 68 undef = x68 at hlit
    generalize tm.getD 69 undef = x69 at hlit
    generalize tm.getD 70 undef = x70 at hlit
    generalize tm.getD 71 undef = x71 at hlit
    generalize tm.getD 72 undef = x72 at hlit
    generalize tm.getD 73 undef = x73 at hlit
    generalize tm.getD 74 undef = x74 at hlit
    generalize tm.getD 75 undef = x75 at hlit
    generalize tm.getD 76 undef = x76 at hlit
    generalize tm.getD 77 undef = x77 at hlit
    generalize tm.getD 78 undef = x78 at hlit
    generalize tm.getD 79 undef = x79 at hlit
    generalize tm.getD 80 undef = x80 at hlit
    generalize tm.getD 81 undef = x81 at hlit
    generalize tm.getD 82 undef = x82 at hlit
    generalize tm.getD 83 undef = x83 at hlit
    generalize tm.getD 84 undef = x84 at hlit
    generalize tm.getD 85 undef = x85 at hlit
    generalize tm.getD 86 undef = x86 at hlit
    generalize tm.getD 87 undef = x87 at hlit
    generalize tm.getD 88 undef = x88 at hlit
    generalize tm.getD 89 undef = x89 at hlit
    generalize tm.getD 90 undef = x90 at hlit
    generalize tm.getD 91 undef = x91 at hlit
    generalize tm.getD 92 undef = x92 at hlit
    generalize tm.getD 93 undef = x93 at hlit
    generalize tm.getD 94 undef = x94 at hlit
    generalize tm.getD 95 undef = x95 at hlit
    generalize tm.getD 96 undef = x96 at hlit
    generalize tm.getD 97 undef = x97 at hlit
    generalize tm.getD 98 undef = x98 at hlit
    generalize tm.getD 99 undef = x99 at hlit
    generalize tm.getD 100 undef = x100 at hlit
    generalize tm.getD 101 undef = x101 at hlit
    generalize tm.getD 102 undef = x102 at hlit
    generalize tm.getD 103 undef = x103 at hlit
    generalize tm.getD 104 undef = x104 at hlit
    generalize tm.getD 105 undef = x105 at hlit
    generalize tm.getD 106 undef = x106 at hlit
    generalize tm.getD 108 undef = x108 at hlit
    generalize tm.getD 109 undef = x109 at hlit
    generalize tm.getD 110 undef = x110 at hlit
    generalize tm.getD 111 undef = x111 at hlit
    generalize tm.getD 112 undef = x112 at hlit
    generalize tm.getD 113 undef = x113 at hlit
    generalize tm.getD 114 undef = x114 at hlit
    generalize tm.getD 115 undef = x115 at hlit
    generalize tm.getD 116 undef = x116 at hlit
    generalize tm.getD 117 undef = x117 at hlit
    generalize tm.getD 118 undef = x118 at hlit
    generalize tm.getD 119 undef = x119 at hlit
    generalize tm.getD 120 undef = x120 at hlit
    generalize tm.getD 121 undef = x121 at hlit
    generalize tm.getD 122 undef = x122 at hlit
    generalize tm.getD 123 undef = x123 at hlit
    generalize tm.getD 124 undef = x124 at hlit
    generalize tm.getD 125 undef = x125 at hlit
    generalize tm.getD 126 undef = x126 at hlit
    generalize tm.getD 127 undef = x127 at hlit
    generalize tm.getD 128 undef = x128 at hlit
    generalize tm.getD 129 undef = x129 at hlit
    generalize tm.getD 130 undef = x130 at hlit
    generalize tm.getD 131 undef = x131 at hlit
    generalize tm.getD 132 undef = x132 at hlit
    generalize tm.getD 133 undef = x133 at hlit
    generalize tm.getD 134 undef = x134 at hlit
    generalize tm.getD 135 undef = x135 at hlit
    generalize tm.getD 136 undef = x136 at hlit
    generalize tm.getD 137 undef = x137 at hlit
    generalize tm.getD 138 undef = x138 at hlit
    generalize tm.getD 139 undef = x139 at hlit
    generalize tm.getD 140 undef = x140 at hlit
    generalize tm.getD 141 undef = x141 at hlit
    generalize tm.getD 142 undef = x142 at hlit
    generalize tm.getD 143 undef = x143 at hlit
    generalize tm.getD 144 undef = x144 at hlit
    generalize tm.getD 145 undef = x145 at hlit
    generalize tm.getD 146 undef = x146 at hlit
    generalize tm.getD 147 undef = x147 at hlit
    generalize tm.getD 148 undef = x148 at hlit
    subst hlit
    subst hdef
    simp only []
    have b47 : Below w4.heap.size w4 w7 := b46.trans ((show Below w6.heap.size w6 w7 from (Below.refl _ _).drew.trans hR).mono b46.size)
    have v7 := v6.below (w' := w7) (show Below w6.heap.size w6 w7 from ((Below.refl _ _).drew.trans hR))
    have bel7 : Below w0.heap.size w0 w7 := s4.below.trans (b47.mono s4.below.size)
    clear b46 v6 SCELL hR bel6
    have hjj1 : j < j1 := by omega
    have HJ1 := Lib.hid hj1
    clear hj1
    have hm3 : more.length = n3 := hB1.1
    have hwj := wraps_le LA j
    have hwr := wrap_length more
    have hen := enc_ten (n := more.length) (by omega)
    have hadd3 := addK w0 w4 w7 d (wholeL k ta tb (LA.take j)) N' acts' B n3 c3 more T1 s4 b47 (by omega) (by omega) hc3 (hB1.below bel7) (by unfold wholeL; rw [List.length_append]; have := HHD.out; have := HWA.out; omega)
    have hcat : wholeL k ta tb (LA.take j) ++ wrap more = wholeL k ta tb (LA.take j ++ [more]) := by unfold wholeL; rw [wraps_snoc, List.append_assoc]
    rw [hcat] at hadd3
    clear hwj hwr hen hcat
    go_wp2_with fail
    refine hadd3.mono ?_
    rintro e w8 ⟨rfl, s8, hfr⟩
    clear hadd3
    have v8 : SheetAt w8 r (.int .u8 (k.toNat : Int)) (.int .u64 (ta : Int)) (.int .u64 (tb : Int)) (.slice Al j cl) (.int .i64 (G : Int)) (.int .i64 0) := (hfr r (by have := HR4.out; omega) v7.lt).trans v7
    have hlen1 : (LA.take j ++ [more]).length = j1 := by have h9 := HJ1.out; rw [List.length_append, List.length_take]; simp; omega
    have hlens : lens (LA.take j ++ [more]) ≤ 10000 := by rw [lens_snoc]; have := lens_le LA j; omega
    have hget : (LA.take j ++ [more]).getD j [] = more := by
      have h1 : (LA.take j).length = j := by rw [List.length_take]; omega
      rw [List.getD_eq_getElem?_getD, List.getElem?_append_right (by omega), h1]
      simp
    have hsh := sheetL3 w0 w8 d k ta tb (LA.take j ++ [more]) N' (acts' + 1) T1 ha hb s8 hlens
    rw [hlen1] at hsh
    unfold sheetV at hsh
    have HB8 := Lib.hid (hB1.below s8.below)
    generalize hLL : LA.take j ++ [more] = LL at hsh hget
    obtain ⟨G2, hG2⟩ : ∃ G2, G2 = (wholeL k ta tb LL).length := ⟨_, rfl⟩
    rw [← hG2] at hsh
    clear hfr v7 hlen1 hlens hG2 hLL b47 bel7
    go_wp2_with fail
    refine hsh.mono ?_
    rintro e w9 ⟨Al2, cl2, rfl, hl9, hb9⟩
    have bel9 := s8.below.trans (hb9.mono s8.below.size)
    have v9 := v8.below hb9
    have hB9 := HB8.out.below hb9
    clear hsh s8 v8 hb9 HB8
    obtain ⟨⟨y0, y1, y2, y3, y4, y5⟩, _⟩ := v9.cells
    have hrl : r < w9.heap.size := v9.lt
    have hrn : ¬ w9.heap.size = r := by omega
    go_upto_region 16 with fail
    clear y0 y1 y2 y3 y4 y5 hrl hrn
    have b910 : Below w9.heap.size w9 (w9.alloc (.cells #[.int .u8 (k.toNat : Int), .int .u64 (ta : Int), .int .u64 (tb : Int), .slice Al2 j1 cl2, .int .i64 (G2 : Int), .int .i64 0] 32)) := (Below.refl _ _).alloc (Nat.le_refl _) _
    have u10 := sheetAt_new w9 (.int .u8 (k.toNat : Int)) (.int .u64 (ta : Int)) (.int .u64 (tb : Int)) (.slice Al2 j1 cl2) (.int .i64 (G2 : Int)) (.int .i64 0)
    have v10 := v9.below b910
    have hl10 := hl9.below b910
    have hB10 := hB9.below b910
    have bel10 := bel9.trans (b910.mono bel9.size)
    generalize w9.alloc (.cells #[.int .u8 (k.toNat : Int), .int .u64 (ta : Int), .int .u64 (tb : Int), .slice Al2 j1 cl2, .int .i64 (G2 : Int), .int .i64 0] 32) = w10 at u10 v10 hl10 hB10 bel10 ⊢
    clear b910 v9 hl9 hB9 bel9
    generalize w9.heap.size = r2 at u10 ⊢
    obtain ⟨g2, o2, Ae, ce, rfl, hcell, hce, hse⟩ := hl10.get hjj1
    rw [hget] at hcell hse
    rw [hm3] at hcell hse
    obtain ⟨sm, hsm⟩ : ∃ sm, sm = (⟨more.toArray⟩ : ByteArray) := ⟨_, rfl⟩
    have STR1 : Hid (∀ W, Below w10.drew.heap.size w10.drew W → (convert 37 9 (.slice Ae n3 ce)).run Tryd.prog W = .ok (.string sm) W) := fun W hR => by
      rw [hsm]
      exact (hse.drew.below hR).string ce Tryd.underlying37 Tryd.underlying5 Tryd.underlying9
    have STR2 : Hid (∀ W, Below w10.drew.heap.size w10.drew W → (convert 37 9 (.slice B n3 c3)).run Tryd.prog W = .ok (.string sm) W) := fun W hR => by
      rw [hsm]
      exact (hB10.drew.below hR).string c3 Tryd.underlying37 Tryd.underlying5 Tryd.underlying9
    have ELEM := Lib.hid (fun (W : World) (hR : Below w10.drew.heap.size w10.drew W) => ((show Below w10.heap.size w10 W from ((Below.refl _ _).drew.trans hR)).cell (World.block_lt_of_cell? _ _ hcell)).trans hcell)
    have SCELL := Lib.hid (fun (W : World) (hR : Below w10.drew.heap.size w10.drew W) => (SheetAt.cells (u10.below (w' := W) (show Below w10.heap.size w10 W from ((Below.refl _ _).drew.trans hR)))))
    clear hsm hse hB10 hl10 hcell u10 v10 hget hce
    refine Facts.wp_region_preds (n := 149) (by kernel_rfl) (by kernel_rfl) rfl [Facts.Pred.is (Value.int .i64 0), Facts.Pred.is (Value.bool true), Facts.Pred.is (Value.bool true), Facts.Pred.is (Value.int .i64 0), Facts.Pred.is (Value.bool true), Facts.Pred.is (Value.bool true), Facts.Pred.is (Value.bool true), Facts.Pred.is (Value.pointer (some ⟨r2, 5, none⟩)), Facts.Pred.is (Value.int .i64 0), Facts.Pred.is (Value.bool true), Facts.Pred.is (Value.bool true), Facts.Pred.is (Value.bool true), Facts.Pred.is (Value.pointer (some ⟨r2, 3, none⟩)), Facts.Pred.is (Value.slice (some ⟨g2, o2, none⟩) j1 cl2), Facts.Pred.is (Value.int .i64 (j1 : Int)), Facts.Pred.is (Value.int .i64 (j : Int)), Facts.Pred.is (Value.int .i64 (j1 : Int)), Facts.Pred.is (Value.bool true), Facts.Pred.is (Value.bool true), Facts.Pred.is (Value.bool true), Facts.Pred.is (Value.pointer (some ⟨r2, 3, none⟩)), Facts.Pred.is (Value.slice (some ⟨g2, o2, none⟩) j1 cl2), Facts.Pred.is (Value.int .i64 (j : Int)), Facts.Pred.is (Value.pointer (some ⟨g2, o2 + j, none⟩)), Facts.Pred.is (Value.slice Ae n3 ce), Facts.Pred.is (Value.string sm), Facts.Pred.is (Value.slice B n3 c3), Facts.Pred.is (Value.string sm), Facts.Pred.is (Value.bool true), Facts.Pred.is (Value.bool true), Facts.Pred.is (Value.bool true)] ?_ ?_
    · refine ⟨?_, ?_, ?_, ?_, ?_, ?_, ?_, ?_, ?_, ?_, ?_, ?_, ?_, ?_, ?_, ?_, ?_, ?_, ?_, ?_, ?_, ?_, ?_, ?_, ?_, ?_, ?_, ?_, ?_, ?_, ?_, trivial⟩
      · refine Facts.step_is (Value.int .i64 0) fun a W hR hold hnew => ?_
        have f15 : a.tmps.getD 15 undef = Value.int .i64 0 := hold 15 (by kernel_rfl)
        refine ⟨Facts.wanted_free rfl, ?_, fun _ => rfl⟩
        simp [go_sem, Act.eval, f15]
      · refine Facts.step_is (Value.bool true) fun a W hR hold hnew => ?_
        have f119 : a.tmps.getD 119 undef = Value.int .i64 0 := hnew 0 119 (by kernel_rfl)
        refine ⟨Facts.wanted_free rfl, ?_, fun _ => rfl⟩
        simp [go_sem, Act.eval, f119]
      · refine Facts.step_is (Value.bool true) fun a W hR hold hnew => ?_
        have f120 : a.tmps.getD 120 undef = Value.bool true := hnew 1 120 (by kernel_rfl)
        refine ⟨Facts.wanted_free rfl, ?_, fun _ => rfl⟩
        simp [go_sem, Act.eval, f120]
      · refine Facts.step_is (Value.int .i64 0) fun a W hR hold hnew => ?_
        have f17 : a.tmps.getD 17 undef = Value.int .i64 0 := hold 17 (by kernel_rfl)
        have g121 : a.tmps.getD 121 undef = .bool true := hnew 2 121 (by kernel_rfl)
        refine ⟨Facts.wanted_by rfl (by kernel_rfl) g121, ?_, fun _ => rfl⟩
        simp [go_sem, Act.eval, f17]
      · refine Facts.step_is (Value.bool true) fun a W hR hold hnew => ?_
        have f122 : a.tmps.getD 122 undef = Value.int .i64 0 := hnew 3 122 (by kernel_rfl)
        have g121 : a.tmps.getD 121 undef = .bool true := hnew 2 121 (by kernel_rfl)
        refine ⟨Facts.wanted_by rfl (by kernel_rfl) g121, ?_, fun _ => rfl⟩
        simp [go_sem, Act.eval, f122]
      · refine Facts.step_is (Value.bool true) fun a W hR hold hnew => ?_
        have f121 : a.tmps.getD 121 undef = Value.bool true := hnew 2 121 (by kernel_rfl)
        have f123 : a.tmps.getD 123 undef = Value.bool true := hnew 4 123 (by kernel_rfl)
        refine ⟨Facts.wanted_free rfl, ?_, fun _ => rfl⟩
        simp [go_sem, Act.eval, f121, f123]
      · refine Facts.step_is (Value.bool true) fun a W hR hold hnew => ?_
        have f124 : a.tmps.getD 124 undef = Value.bool true := hnew 5 124 (by kernel_rfl)
        refine ⟨Facts.wanted_free rfl, ?_, fun _ => rfl⟩
        simp [go_sem, Act.eval, f124]
      · refine Facts.step_is (Value.pointer (some ⟨r2, 5, none⟩)) fun a W hR hold hnew => ?_
        have f16 : a.tmps.getD 16 undef = Value.pointer (some ⟨r2, 0, none⟩) := hold 16 (by kernel_rfl)
        have g125 : a.tmps.getD 125 undef = .bool true := hnew 6 125 (by kernel_rfl)
        refine ⟨Facts.wanted_by rfl (by kernel_rfl) g125, ?_, fun _ => rfl⟩
        simp [go_sem, Act.eval, f16]
      · refine Facts.step_is (Value.int .i64 0) fun a W hR hold hnew => ?_
        have f126 : a.tmps.getD 126 undef = Value.pointer (some ⟨r2, 5, none⟩) := hnew 7 126 (by kernel_rfl)
        have g125 : a.tmps.getD 125 undef = .bool true := hnew 6 125 (by kernel_rfl)
        obtain ⟨⟨y0, y1, y2, y3, y4, y5⟩, _⟩ := SCELL.out W hR
        refine ⟨Facts.wanted_by rfl (by kernel_rfl) g125, ?_, fun _ => rfl⟩
        simp [go_sem, Act.eval, f126, y5]
      · refine Facts.step_is (Value.bool true) fun a W hR hold hnew => ?_
        have f127 : a.tmps.getD 127 undef = Value.int .i64 0 := hnew 8 127 (by kernel_rfl)
        have g125 : a.tmps.getD 125 undef = .bool true := hnew 6 125 (by kernel_rfl)
        refine ⟨Facts.wanted_by rfl (by kernel_rfl) g125, ?_, fun _ => rfl⟩
        simp [go_sem, Act.eval, f127]
      · refine Facts.step_is (Value.bool true) fun a W hR hold hnew => ?_
        have f125 : a.tmps.getD 125 undef = Value.bool true := hnew 6 125 (by kernel_rfl)
        have f128 : a.tmps.getD 128 undef = Value.bool true := hnew 9 128 (by kernel_rfl)
        refine ⟨Facts.wanted_free rfl, ?_, fun _ => rfl⟩
        simp [go_sem, Act.eval, f125, f128]
      · refine Facts.step_is (Value.bool true) fun a W hR hold hnew => ?_
        have f129 : a.tmps.getD 129 undef = Value.bool true := hnew 10 129 (by kernel_rfl)
        refine ⟨Facts.wanted_free rfl, ?_, fun _ => rfl⟩
        simp [go_sem, Act.eval, f129]
      · refine Facts.step_is (Value.pointer (some ⟨r2, 3, none⟩)) fun a W hR hold hnew => ?_
        have f16 : a.tmps.getD 16 undef = Value.pointer (some ⟨r2, 0, none⟩) := hold 16 (by kernel_rfl)
        have g130 : a.tmps.getD 130 undef = .bool true := hnew 11 130 (by kernel_rfl)
        refine ⟨Facts.wanted_by rfl (by kernel_rfl) g130, ?_, fun _ => rfl⟩
        simp [go_sem, Act.eval, f16]
      · refine Facts.step_is (Value.slice (some ⟨g2, o2, none⟩) j1 cl2) fun a W hR hold hnew => ?_
        have f131 : a.tmps.getD 131 undef = Value.pointer (some ⟨r2, 3, none⟩) := hnew 12 131 (by kernel_rfl)
        have g130 : a.tmps.getD 130 undef = .bool true := hnew 11 130 (by kernel_rfl)
        obtain ⟨⟨y0, y1, y2, y3, y4, y5⟩, _⟩ := SCELL.out W hR
        refine ⟨Facts.wanted_by rfl (by kernel_rfl) g130, ?_, fun _ => rfl⟩
        simp [go_sem, Act.eval, f131, y3]
      · refine Facts.step_is (Value.int .i64 (j1 : Int)) fun a W hR hold hnew => ?_
        have f132 : a.tmps.getD 132 undef = Value.slice (some ⟨g2, o2, none⟩) j1 cl2 := hnew 13 132 (by kernel_rfl)
        have g130 : a.tmps.getD 130 undef = .bool true := hnew 11 130 (by kernel_rfl)
        refine ⟨Facts.wanted_by rfl (by kernel_rfl) g130, ?_, fun _ => rfl⟩
        simp [go_sem, Act.eval, f132]
      · refine Facts.step_is (Value.int .i64 (j : Int)) fun a W hR hold hnew => ?_
        have f18 : a.tmps.getD 18 undef = Value.int .i64 (j : Int) := hold 18 (by kernel_rfl)
        have g130 : a.tmps.getD 130 undef = .bool true := hnew 11 130 (by kernel_rfl)
        refine ⟨Facts.wanted_by rfl (by kernel_rfl) g130, ?_, fun _ => rfl⟩
        simp [go_sem, Act.eval, f18]
      · refine Facts.step_is (Value.int .i64 (j1 : Int)) fun a W hR hold hnew => ?_
        have f134 : a.tmps.getD 134 undef = Value.int .i64 (j : Int) := hnew 15 134 (by kernel_rfl)
        have g130 : a.tmps.getD 130 undef = .bool true := hnew 11 130 (by kernel_rfl)
        refine ⟨Facts.wanted_by rfl (by kernel_rfl) g130, ?_, fun _ => rfl⟩
        simp [go_sem, Act.eval, f134, hj1w]
      · refine Facts.step_is (Value.bool true) fun a W hR hold hnew => ?_
        have f133 : a.tmps.getD 133 undef = Value.int .i64 (j1 : Int) := hnew 14 133 (by kernel_rfl)
        have f135 : a.tmps.getD 135 undef = Value.int .i64 (j1 : Int) := hnew 16 135 (by kernel_rfl)
        have g130 : a.tmps.getD 130 undef = .bool true := hnew 11 130 (by kernel_rfl)
        refine ⟨Facts.wanted_by rfl (by kernel_rfl) g130, ?_, fun _ => rfl⟩
        simp [go_sem, Act.eval, f133, f135]
      · refine Facts.step_is (Value.bool true) fun a W hR hold hnew => ?_
        have f130 : a.tmps.getD 130 undef = Value.bool true := hnew 11 130 (by kernel_rfl)
        have f136 : a.tmps.getD 136 undef = Value.bool true := hnew 17 136 (by kernel_rfl)
        refine ⟨Facts.wanted_free rfl, ?_, fun _ => rfl⟩
        simp [go_sem, Act.eval, f130, f136]
      · refine Facts.step_is (Value.bool true) fun a W hR hold hnew => ?_
        have f137 : a.tmps.getD 137 undef = Value.bool true := hnew 18 137 (by kernel_rfl)
        refine ⟨Facts.wanted_free rfl, ?_, fun _ => rfl⟩
        simp [go_sem, Act.eval, f137]
      · refine Facts.step_is (Value.pointer (some ⟨r2, 3, none⟩)) fun a W hR hold hnew => ?_
        have f16 : a.tmps.getD 16 undef = Value.pointer (some ⟨r2, 0, none⟩) := hold 16 (by kernel_rfl)
        have g138 : a.tmps.getD 138 undef = .bool true := hnew 19 138 (by kernel_rfl)
        refine ⟨Facts.wanted_by rfl (by kernel_rfl) g138, ?_, fun _ => rfl⟩
        simp [go_sem, Act.eval, f16]
      · refine Facts.step_is (Value.slice (some ⟨g2, o2, none⟩) j1 cl2) fun a W hR hold hnew => ?_
        have f139 : a.tmps.getD 139 undef = Value.pointer (some ⟨r2, 3, none⟩) := hnew 20 139 (by kernel_rfl)
        have g138 : a.tmps.getD 138 undef = .bool true := hnew 19 138 (by kernel_rfl)
        obtain ⟨⟨y0, y1, y2, y3, y4, y5⟩, _⟩ := SCELL.out W hR
        refine ⟨Facts.wanted_by rfl (by kernel_rfl) g138, ?_, fun _ => rfl⟩
        simp [go_sem, Act.eval, f139, y3]
      · refine Facts.step_is (Value.int .i64 (j : Int)) fun a W hR hold hnew => ?_
        have f18 : a.tmps.getD 18 undef = Value.int .i64 (j : Int) := hold 18 (by kernel_rfl)
        have g138 : a.tmps.getD 138 undef = .bool true := hnew 19 138 (by kernel_rfl)
        refine ⟨Facts.wanted_by rfl (by kernel_rfl) g138, ?_, fun _ => rfl⟩
        simp [go_sem, Act.eval, f18]
      · refine Facts.step_is (Value.pointer (some ⟨g2, o2 + j, none⟩)) fun a W hR hold hnew => ?_
        have f140 : a.tmps.getD 140 undef = Value.slice (some ⟨g2, o2, none⟩) j1 cl2 := hnew 21 140 (by kernel_rfl)
        have f141 : a.tmps.getD 141 undef = Value.int .i64 (j : Int) := hnew 22 141 (by kernel_rfl)
        have g138 : a.tmps.getD 138 undef = .bool true := hnew 19 138 (by kernel_rfl)
        refine ⟨Facts.wanted_by rfl (by kernel_rfl) g138, ?_, fun _ => rfl⟩
        simp [go_sem, Act.eval, f140, f141, hjj1]
      · refine Facts.step_is (Value.slice Ae n3 ce) fun a W hR hold hnew => ?_
        have f142 : a.tmps.getD 142 undef = Value.pointer (some ⟨g2, o2 + j, none⟩) := hnew 23 142 (by kernel_rfl)
        have g138 : a.tmps.getD 138 undef = .bool true := hnew 19 138 (by kernel_rfl)
        have q := ELEM.out W hR
        refine ⟨Facts.wanted_by rfl (by kernel_rfl) g138, ?_, fun _ => rfl⟩
        simp [go_sem, Act.eval, f142, q]
      · refine Facts.step_is (Value.string sm) fun a W hR hold hnew => ?_
        have f143 : a.tmps.getD 143 undef = Value.slice Ae n3 ce := hnew 24 143 (by kernel_rfl)
        have g138 : a.tmps.getD 138 undef = .bool true := hnew 19 138 (by kernel_rfl)
        have r := STR1.out W hR
        refine ⟨Facts.wanted_by rfl (by kernel_rfl) g138, ?_, fun _ => rfl⟩
        simp [go_sem, Act.eval, f143, r]
      · refine Facts.step_is (Value.slice B n3 c3) fun a W hR hold hnew => ?_
        have f3 : a.tmps.getD 3 undef = Value.slice B n3 c3 := hold 3 (by kernel_rfl)
        have g138 : a.tmps.getD 138 undef = .bool true := hnew 19 138 (by kernel_rfl)
        refine ⟨Facts.wanted_by rfl (by kernel_rfl) g138, ?_, fun _ => rfl⟩
        simp [go_sem, Act.eval, f3]
      · refine Facts.step_is (Value.string sm) fun a W hR hold hnew => ?_
        have f145 : a.tmps.getD 145 undef = Value.slice B n3 c3 := hnew 26 145 (by kernel_rfl)
        have g138 : a.tmps.getD 138 undef = .bool true := hnew 19 138 (by kernel_rfl)
        have r := STR2.out W hR
        refine ⟨Facts.wanted_by rfl (by kernel_rfl) g138, ?_, fun _ => rfl⟩
        simp [go_sem, Act.eval, f145, r]
      · refine Facts.step_is (Value.bool true) fun a W hR hold hnew => ?_
        have f144 : a.tmps.getD 144 undef = Value.string sm := hnew 25 144 (by kernel_rfl)
        have f146 : a.tmps.getD 146 undef = Value.string sm := hnew 27 146 (by kernel_rfl)
        have g138 : a.tmps.getD 138 undef = .bool true := hnew 19 138 (by kernel_rfl)
        refine ⟨Facts.wanted_by rfl (by kernel_rfl) g138, ?_, fun _ => rfl⟩
        simp [go_sem, Act.eval, f144, f146]
      · refine Facts.step_is (Value.bool true) fun a W hR hold hnew => ?_
        have f138 : a.tmps.getD 138 undef = Value.bool true := hnew 19 138 (by kernel_rfl)
        have f147 : a.tmps.getD 147 undef = Value.bool true := hnew 28 147 (by kernel_rfl)
        refine ⟨Facts.wanted_free rfl, ?_, fun _ => rfl⟩
        simp [go_sem, Act.eval, f138, f147]
      · refine Facts.step_is (Value.bool true) fun a W hR hold hnew => ?_
        have f148 : a.tmps.getD 148 undef = Value.bool true := hnew 29 148 (by kernel_rfl)
        refine ⟨Facts.wanted_free rfl, ?_, fun _ => rfl⟩
        simp [go_sem, Act.eval, f148]
    intro a w11 hR hsize hdef hnew hold
    have fo : a.tmps.getD 8 undef = .bool true := hnew 30 8 (by kernel_rfl)
    go_wp2
    try simp only [Exit.inBlock, Exit.then]
    refine bodyPost_ret (results_tmp rfl _ _ _) hdef ?_
    rw [fo]
    have bw2 : Below w0.heap.size w0 w11 := bel10.drew.trans (hR.mono bel10.drew.size)
    exact ⟨rfl, bw.trans (bw2.mono bw.size)⟩
end Go.Proofs.YtfdnlgigllflfaaDoor.Sht
