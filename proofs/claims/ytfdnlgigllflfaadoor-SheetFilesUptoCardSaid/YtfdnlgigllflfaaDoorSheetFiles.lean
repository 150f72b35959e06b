/- The law SheetFiles. -/
import Derived.Test.YtfdnlgigllflfaaDoorBSheetLaw
namespace Go.Proofs.YtfdnlgigllflfaaDoor.Sht
open Go Go.RowKit Go.Proofs.YtfdnlgigllflfaaDoor.Words Go.Proofs.YtfdnlgigllflfaaDoor.Enc Go.Proofs.YtfdnlgigllflfaaDoor.Made Go.Proofs.YtfdnlgigllflfaaDoor.Dsk
set_option linter.unusedVariables false

set_option maxRecDepth 100000 in
theorem files_long (k : UInt8) (ta tb : Nat) (A : Option Addr) (n c : Nat) (LA : List (List UInt8)) (w : World) (T : Chk.Tabs w) (hA : SeesAll w A n LA)
    (hLA : lens LA ≤ 1000000000000) (h : 2000 < lens LA) :
    Calls Tryd.prog 3 #[titleV k ta tb, .slice A n c] w fun e w' => e = .returned (.bool true) ∧ Below w.heap.size w w' := by
  have b0 : Below w.heap.size w (w.alloc (.cells #[.int .u8 (k.toNat : Int), .int .u64 (ta : Int), .int .u64 (tb : Int)] 24)) := (Below.refl _ _).alloc (Nat.le_refl _) _
  unfold titleV
  have e1 : decide (lens LA ≤ 2000) = false := by simp; omega
  go_enter Tryd.func3, Tryd.ntmps3
  go_wp2_with fail
  refine (awake5 _ (T.below b0)).mono ?_
  rintro e w1 ⟨rfl, hb1⟩
  have b1 := b0.trans (hb1.mono b0.size)
  go_wp2_with fail
  refine (short_any A n c LA w1 (hA.below b1) hLA).mono ?_
  rintro e w2 ⟨rfl, rfl⟩
  rw [e1]
  go_wp2_with fail
  refine (awake5 _ (T.below b1)).mono ?_
  rintro e w2 ⟨rfl, hb2⟩
  go_wp2
  go_returns
  exact ⟨rfl, b1.trans (hb2.mono b1.size)⟩

theorem tGuard : Tryd.prog.eqGuardType Tryd.prog.depth 24 = false := by kernel_rfl
theorem below_drewN (W : World) (i : Nat) : Below W.heap.size W (W.drewN i) := ⟨rfl, rfl, rfl, Nat.le_refl _, fun _ _ => rfl⟩
theorem take_le (L : List (List UInt8)) (j : Nat) : (wraps (L.take j)).length ≤ (wraps L).length := wraps_le L j

set_option maxRecDepth 100000 in
set_option maxHeartbeats 1000000 in
theorem files_short (k : UInt8) (ta tb : Nat) (A : Option Addr) (n c : Nat) (LA : List (List UInt8)) (w : World) (T : Chk.Tabs w) (hA : SeesAll w A n LA)
    (hLA : lens LA ≤ 2000) (ha : ta < 18446744073709551616) (hb : tb < 18446744073709551616) :
    Calls Tryd.prog 3 #[titleV k ta tb, .slice A n c] w fun e w' => e = .returned (.bool true) ∧ Below w.heap.size w w' := by
  have b0 : Below w.heap.size w (w.alloc (.cells #[.int .u8 (k.toNat : Int), .int .u64 (ta : Int), .int .u64 (tb : Int)] 24)) := (Below.refl _ _).alloc (Nat.le_refl _) _
  have g0 : TitleAt (w.alloc (.cells #[.int .u8 (k.toNat : Int), .int .u64 (ta : Int), .int .u64 (tb : Int)] 24)) w.heap.size k ta tb := heap_alloc_new w _
  have e1 : decide (lens LA ≤ 2000) = true := by simpa using hLA
  have hhl := headL_len (k := k) ha hb
  have htl := (titleL_len (k := k) ha hb).2
  have hwa := wraps_short hLA
  have hhd : (headL k ta tb).length ≤ 50 := by omega
  have hla : (wholeL k ta tb LA).length ≤ 2100 := by unfold wholeL; rw [List.length_append]; omega
  have hnL := hA.len
  have hn2 : n ≤ 200 := by have := lens_len LA; omega
  have hone := short_each hLA
  clear hhl htl
  obtain ⟨wa, hwa'⟩ : ∃ wa, wa = wholeL k ta tb LA := ⟨_, rfl⟩
  have LAYA := Lib.hid (fun (W : World) (hs : SeesAll W A n LA) => layLaw_any k ta tb A n c LA W ha hb hs (by omega))
  have SHEET := Lib.hid (fun (w0 W : World) (d N acts : Nat) (T : Chk.Tabs w0) (hd : Since w0 d [⟨fN, wholeL k ta tb LA, N⟩] ⟨65536, acts, -1, 0, false⟩ W) => sheetL w0 W d k ta tb LA N acts T ha hb hd hLA)
  have BEGIN := Lib.hid (fun (w0 W : World) (d : Nat) (T : Chk.Tabs w0) (hd : Since w0 d [] ⟨65536, 0, -1, 0, false⟩ W) => beginL w0 W d k ta tb T ha hb hd)
  have BEGIN2 := Lib.hid (fun (w0 W : World) (d : Nat) (N : Nat) (T : Chk.Tabs w0) (hd : Since w0 d [⟨fN, headL k ta tb, N⟩] ⟨65536, 2, -1, 0, false⟩ W) => beginL2 w0 W d k ta tb (headL k ta tb) N 2 T ha hb (by omega) (by omega) hd)
  rw [← hwa'] at LAYA hla SHEET
  unfold titleV at LAYA BEGIN BEGIN2 ⊢
  unfold sheetV at SHEET
  have HWA := Lib.hid hwa'
  obtain ⟨na, hna⟩ : ∃ na, na = wa.length := ⟨_, rfl⟩
  have HNA := Lib.hid hna
  rw [← hna] at hla LAYA SHEET
  obtain ⟨hdl, hhdl⟩ : ∃ hdl, hdl = headL k ta tb := ⟨_, rfl⟩
  rw [← hhdl] at BEGIN BEGIN2 hhd
  have HWB := Lib.hid (show wa = hdl ++ wraps LA by rw [hwa', hhdl]; rfl)
  clear hna hwa' hhdl
  go_enter Tryd.func3, Tryd.ntmps3
  go_upto_region 1 with fail
  have hA0 := hA.below b0
  have T0 := T.below b0
  generalize w.alloc (.cells #[.int .u8 (k.toNat : Int), .int .u64 (ta : Int), .int .u64 (tb : Int)] 24) = w0 at b0 g0 hA0 T0 ⊢
  clear hA T
  go_wp2_with fail
  refine (awake5 w0 T0).mono ?_
  rintro e w1 ⟨rfl, b1⟩
  go_wp2_with fail
  refine (short_any A n c LA w1 (hA0.below b1) (by omega)).mono ?_
  rintro e w2 ⟨rfl, rfl⟩
  rw [e1]
  clear e1
  go_wp2_with fail
  refine (newL w0 w1 b1 65536).mono ?_
  rintro e w2 ⟨d, rfl, s2⟩
  clear b1
  go_wp2_with fail
  refine (noSheetL w0 w2 d s2).mono ?_
  rintro e w3 ⟨rfl, s3⟩
  clear s2
  unfold zeroSheet
  go_upto_region 5 with fail
  have s4 := s3.after (show Below w3.heap.size w3 (w3.alloc (.cells #[.int .u8 0, .int .u64 0, .int .u64 0, .slice none 0 0, .int .i64 0, .int .i64 0] 32)) from (Below.refl _ _).alloc (Nat.le_refl _) _)
  generalize w3.alloc (.cells #[.int .u8 0, .int .u64 0, .int .u64 0, .slice none 0 0, .int .i64 0, .int .i64 0] 32) = w4 at s4 ⊢
  generalize w3.heap.size = r3
  clear s3
  obtain ⟨p0, p1, p2⟩ := (g0.below s4.below).cells
  go_wp2_with fail
  refine (BEGIN.out w0 w4 d T0 s4).mono ?_
  rintro e w5 ⟨rfl, s5⟩
  clear p0 p1 p2 s4
  obtain ⟨p0, p1, p2⟩ := (g0.below s5.below).cells
  go_wp2_with fail
  refine (BEGIN2.out w0 w5 d _ T0 s5).mono ?_
  rintro e w6 ⟨rfl, s6⟩
  clear p0 p1 p2 s5 BEGIN BEGIN2
  obtain ⟨N, hN⟩ : ∃ N, N = hdl.length := ⟨_, rfl⟩
  rw [← hN] at s6
  clear hN
  go_wp2_with fail
  go_loopw [8] (fun x wr => ∃ (j : Nat), x = .int .i64 (j : Int) ∧ j ≤ n ∧ Since w0 d [⟨fN, hdl ++ wraps (LA.take j), N⟩] ⟨65536, 2 + j, -1, 0, false⟩ wr) (fun x _ => n - (intOf x).toNat)
  case atStart => exact ⟨0, rfl, by omega, by simpa [wraps] using s6⟩
  case round =>
    obtain ⟨j, rfl, hj, sj⟩ := hrel
    by_cases hlt : j < n
    · have hjl : j < LA.length := by omega
      obtain ⟨g, o, Ae, ce, rfl, hcell, hce, hse⟩ := (hA0.below sj.below).get hlt
      have hel : (LA.getD j []).length ≤ 1990 := hone _ (by rw [List.getD_eq_getElem?_getD, List.getElem?_eq_getElem hjl]; simp)
      have hstep := wraps_take LA j hjl
      have htk := take_le LA j
      have htk2 := take_le LA (j + 1)
      have hadd := fun W hd => addL w0 W d (hdl ++ wraps (LA.take j)) N (2 + j) Ae (LA.getD j []).length ce (LA.getD j []) T0 hd (by omega) (by omega) hce
      generalize hx : LA.getD j [] = x at hcell hce hse hel hstep hadd
      have hfit : (hdl ++ wraps (LA.take j)).length + (wrap x).length ≤ 65536 := by
        rw [hstep, List.length_append] at htk2
        rw [List.length_append]
        omega
      have hadd2 := hadd wr sj hse hfit
      rw [List.append_assoc, ← hstep] at hadd2
      obtain ⟨xl, hxl⟩ : ∃ xl, xl = x.length := ⟨_, rfl⟩
      rw [← hxl] at hcell hadd2
      have HADD := Lib.hid hadd2
      clear hxl hstep htk htk2 hadd hadd2 hfit hse hce hel hx
      go_wp2_with fail
      refine HADD.out.mono ?_
      rintro e w7 ⟨rfl, s7⟩
      go_wp2
      go_roundw
      case rel => exact ⟨j + 1, by simp, by omega, by rw [← Nat.add_assoc]; exact s7⟩
      case measure => simp [intOf]; omega
    · have hjn : j = n := by omega
      subst hjn
      have ht : LA.take j = LA := List.take_of_length_le (by omega)
      rw [ht, ← HWB.out] at sj
      clear hlt ht
      go_wp2_with fail
      refine (SHEET.out w0 wr d N _ T0 sj).mono ?_
      rintro e w7 ⟨Al, nl, cl, rfl, hl7, hnl, hb7⟩
      have s7 := sj.after hb7
      clear hb7 sj
      go_upto_region 13 with fail
      have v8 := sheetAt_new w7 (.int .u8 (k.toNat : Int)) (.int .u64 (ta : Int)) (.int .u64 (tb : Int)) (.slice Al nl cl) (.int .i64 (na : Int)) (.int .i64 0)
      have b78 : Below w7.heap.size w7 (w7.alloc (.cells #[.int .u8 (k.toNat : Int), .int .u64 (ta : Int), .int .u64 (tb : Int), .slice Al nl cl, .int .i64 (na : Int), .int .i64 0] 32)) := (Below.refl _ _).alloc (Nat.le_refl _) _
      have s8 := s7.after b78
      have hl8 := hl7.below b78
      generalize w7.alloc (.cells #[.int .u8 (k.toNat : Int), .int .u64 (ta : Int), .int .u64 (tb : Int), .slice Al nl cl, .int .i64 (na : Int), .int .i64 0] 32) = w8 at v8 s8 hl8 ⊢
      clear b78 s7 hl7
      generalize w7.heap.size = r at v8 ⊢
      go_wp2_with fail
      refine (readL w0 w8 d [⟨fN, wa, N⟩] ⟨65536, 2 + j, -1, 0, false⟩ [102] wa 0 s8 (by simp) (by simp only [sumA]; have := HNA.out; omega) (by simp [readP, lookA]) (by simp [readE, lookA])).mono ?_
      rintro e w9 ⟨Ap, cp, rfl, hownp, hb9, s9⟩
      rw [← HNA.out] at hownp ⊢
      have hsp : Sees w9 Ap na wa := Sees.of_own hownp
      have g9 := g0.below s9.below
      have b9 := s9.below
      have hl9 := hl8.below hb9
      have v9 := v8.below hb9
      clear hownp hb9 s8 s9 hl8 v8
      obtain ⟨sp, hsp'⟩ : ∃ sp, sp = (⟨wa.toArray⟩ : ByteArray) := ⟨_, rfl⟩
      have STRP : Hid (∀ W, Below w9.drew.heap.size w9.drew W → (convert 37 9 (.slice Ap na cp)).run Tryd.prog W = .ok (.string sp) W) := fun W hR => by
        rw [hsp']
        exact (hsp.drew.below hR).string cp Tryd.underlying37 Tryd.underlying5 Tryd.underlying9
      have STRQ : Hid (∀ (W : World) (A' : Option Addr) (c' : Nat), Sees W A' na wa → (convert 37 9 (.slice A' na c')).run Tryd.prog W = .ok (.string sp) W) := fun W A' c' hs => by
        rw [hsp']
        exact hs.string c' Tryd.underlying37 Tryd.underlying5 Tryd.underlying9
      have LAYQ := Lib.hid (fun (W : World) (hR : Below w9.drew.heap.size w9.drew W) => LAYA.out W (hA0.below (b9.drew.trans (hR.mono b9.drew.size))))
      have CELL := Lib.hid (fun (W : World) (hR : Below w9.drew.heap.size w9.drew W) => (TitleAt.cells (g9.below (w := W) (show Below w9.heap.size w9 W from ((Below.refl _ _).drew.trans hR)))))
      have SCELL := Lib.hid (fun (W : World) (hR : Below w9.drew.heap.size w9.drew W) => (SheetAt.cells (v9.below (w' := W) (show Below w9.heap.size w9 W from ((Below.refl _ _).drew.trans hR)))))
      have SAME := Lib.hid (fun (W : World) (hR : Below w9.drew.heap.size w9.drew W) => same_any Al nl cl LA A j c LA W (hl9.below (show Below w9.heap.size w9 W from ((Below.refl _ _).drew.trans hR))) (hA0.below (b9.drew.trans (hR.mono b9.drew.size))) (by omega))
      clear hsp' hsp g9 v9 hl9
      go_wp2_with fail
      refine Facts.wp_region_preds (n := 99) (by kernel_rfl) (by kernel_rfl) rfl [Facts.Pred.is (Value.int .i64 0), Facts.Pred.is (Value.bool true), Facts.Pred.is (Value.bool true), Facts.Pred.is (Value.pointer (some ⟨r, 0, none⟩)), Facts.Pred.is (Value.agg #[.int .u8 (k.toNat : Int), .int .u64 (ta : Int), .int .u64 (tb : Int)]), Facts.Pred.is (Value.agg #[.int .u8 (k.toNat : Int), .int .u64 (ta : Int), .int .u64 (tb : Int)]), Facts.Pred.is (Value.bool true), Facts.Pred.is (Value.bool true), Facts.Pred.is (Value.bool true), Facts.Pred.is (Value.pointer (some ⟨r, 3, none⟩)), Facts.Pred.is (Value.slice Al nl cl), Facts.Pred.is (Value.slice A j c), Facts.Pred.is (Value.bool true), Facts.Pred.is (Value.bool true), Facts.Pred.is (Value.bool true), Facts.Pred.is (Value.pointer (some ⟨r, 5, none⟩)), Facts.Pred.is (Value.int .i64 0), Facts.Pred.is (Value.bool true), Facts.Pred.is (Value.bool true), Facts.Pred.is (Value.bool true), Facts.Pred.is (Value.pointer (some ⟨r, 4, none⟩)), Facts.Pred.is (Value.int .i64 (na : Int)), Facts.Pred.is (Value.slice Ap na cp), Facts.Pred.is (Value.int .i64 (na : Int)), Facts.Pred.is (Value.bool true), Facts.Pred.is (Value.bool true), Facts.Pred.is (Value.bool true), Facts.Pred.is (Value.slice Ap na cp), Facts.Pred.is (Value.string sp), Facts.Pred.is (Value.agg #[.int .u8 (k.toNat : Int), .int .u64 (ta : Int), .int .u64 (tb : Int)]), Facts.Pred.is (Value.slice A j c), Facts.Pred.shows na wa, Facts.Pred.is (.string sp), Facts.Pred.is (Value.bool true), Facts.Pred.is (Value.bool true), Facts.Pred.is (Value.bool true)] ?_ ?_
      · refine ⟨?_, ?_, ?_, ?_, ?_, ?_, ?_, ?_, ?_, ?_, ?_, ?_, ?_, ?_, ?_, ?_, ?_, ?_, ?_, ?_, ?_, ?_, ?_, ?_, ?_, ?_, ?_, ?_, ?_, ?_, ?_, ?_, ?_, ?_, ?_, ?_, trivial⟩
        · refine Facts.step_is (Value.int .i64 0) fun a W hR hold hnew => ?_
          have f10 : a.tmps.getD 10 undef = Value.int .i64 0 := hold 10 (by kernel_rfl)
          refine ⟨Facts.wanted_free rfl, ?_, fun _ => rfl⟩
          simp [go_sem, Act.eval, f10]
        · refine Facts.step_is (Value.bool true) fun a W hR hold hnew => ?_
          have f64 : a.tmps.getD 64 undef = Value.int .i64 0 := hnew 0 64 (by kernel_rfl)
          refine ⟨Facts.wanted_free rfl, ?_, fun _ => rfl⟩
          simp [go_sem, Act.eval, f64]
        · refine Facts.step_is (Value.bool true) fun a W hR hold hnew => ?_
          have f65 : a.tmps.getD 65 undef = Value.bool true := hnew 1 65 (by kernel_rfl)
          refine ⟨Facts.wanted_free rfl, ?_, fun _ => rfl⟩
          simp [go_sem, Act.eval, f65]
        · refine Facts.step_is (Value.pointer (some ⟨r, 0, none⟩)) fun a W hR hold hnew => ?_
          have f9 : a.tmps.getD 9 undef = Value.pointer (some ⟨r, 0, none⟩) := hold 9 (by kernel_rfl)
          have g66 : a.tmps.getD 66 undef = .bool true := hnew 2 66 (by kernel_rfl)
          refine ⟨Facts.wanted_by rfl (by kernel_rfl) g66, ?_, fun _ => rfl⟩
          simp [go_sem, Act.eval, f9]
        · refine Facts.step_is (Value.agg #[.int .u8 (k.toNat : Int), .int .u64 (ta : Int), .int .u64 (tb : Int)]) fun a W hR hold hnew => ?_
          have f67 : a.tmps.getD 67 undef = Value.pointer (some ⟨r, 0, none⟩) := hnew 3 67 (by kernel_rfl)
          have g66 : a.tmps.getD 66 undef = .bool true := hnew 2 66 (by kernel_rfl)
          obtain ⟨⟨y0, y1, y2, y3, y4, y5⟩, _⟩ := SCELL.out W hR
          refine ⟨Facts.wanted_by rfl (by kernel_rfl) g66, ?_, fun _ => rfl⟩
          simp [go_sem, Act.eval, f67, y0, y1, y2]
        · refine Facts.step_is (Value.agg #[.int .u8 (k.toNat : Int), .int .u64 (ta : Int), .int .u64 (tb : Int)]) fun a W hR hold hnew => ?_
          have f2 : a.tmps.getD 2 undef = Value.pointer (some ⟨w.heap.size, 0, none⟩) := hold 2 (by kernel_rfl)
          have g66 : a.tmps.getD 66 undef = .bool true := hnew 2 66 (by kernel_rfl)
          obtain ⟨q0, q1, q2⟩ := CELL.out W hR
          refine ⟨Facts.wanted_by rfl (by kernel_rfl) g66, ?_, fun _ => rfl⟩
          simp [go_sem, Act.eval, f2, q0, q1, q2]
        · refine Facts.step_is (Value.bool true) fun a W hR hold hnew => ?_
          have f68 : a.tmps.getD 68 undef = Value.agg #[.int .u8 (k.toNat : Int), .int .u64 (ta : Int), .int .u64 (tb : Int)] := hnew 4 68 (by kernel_rfl)
          have f69 : a.tmps.getD 69 undef = Value.agg #[.int .u8 (k.toNat : Int), .int .u64 (ta : Int), .int .u64 (tb : Int)] := hnew 5 69 (by kernel_rfl)
          have g66 : a.tmps.getD 66 undef = .bool true := hnew 2 66 (by kernel_rfl)
          refine ⟨Facts.wanted_by rfl (by kernel_rfl) g66, ?_, fun _ => rfl⟩
          simp [go_sem, Act.eval, f68, f69]
        · refine Facts.step_is (Value.bool true) fun a W hR hold hnew => ?_
          have f66 : a.tmps.getD 66 undef = Value.bool true := hnew 2 66 (by kernel_rfl)
          have f70 : a.tmps.getD 70 undef = Value.bool true := hnew 6 70 (by kernel_rfl)
          refine ⟨Facts.wanted_free rfl, ?_, fun _ => rfl⟩
          simp [go_sem, Act.eval, f66, f70]
        · refine Facts.step_is (Value.bool true) fun a W hR hold hnew => ?_
          have f71 : a.tmps.getD 71 undef = Value.bool true := hnew 7 71 (by kernel_rfl)
          refine ⟨Facts.wanted_free rfl, ?_, fun _ => rfl⟩
          simp [go_sem, Act.eval, f71]
        · refine Facts.step_is (Value.pointer (some ⟨r, 3, none⟩)) fun a W hR hold hnew => ?_
          have f9 : a.tmps.getD 9 undef = Value.pointer (some ⟨r, 0, none⟩) := hold 9 (by kernel_rfl)
          have g72 : a.tmps.getD 72 undef = .bool true := hnew 8 72 (by kernel_rfl)
          refine ⟨Facts.wanted_by rfl (by kernel_rfl) g72, ?_, fun _ => rfl⟩
          simp [go_sem, Act.eval, f9]
        · refine Facts.step_is (Value.slice Al nl cl) fun a W hR hold hnew => ?_
          have f73 : a.tmps.getD 73 undef = Value.pointer (some ⟨r, 3, none⟩) := hnew 9 73 (by kernel_rfl)
          have g72 : a.tmps.getD 72 undef = .bool true := hnew 8 72 (by kernel_rfl)
          obtain ⟨⟨y0, y1, y2, y3, y4, y5⟩, _⟩ := SCELL.out W hR
          refine ⟨Facts.wanted_by rfl (by kernel_rfl) g72, ?_, fun _ => rfl⟩
          simp [go_sem, Act.eval, f73, y3]
        · refine Facts.step_is (Value.slice A j c) fun a W hR hold hnew => ?_
          have f1 : a.tmps.getD 1 undef = Value.slice A j c := hold 1 (by kernel_rfl)
          have g72 : a.tmps.getD 72 undef = .bool true := hnew 8 72 (by kernel_rfl)
          refine ⟨Facts.wanted_by rfl (by kernel_rfl) g72, ?_, fun _ => rfl⟩
          simp [go_sem, Act.eval, f1]
        · -- 12: Op.call { value (Operand.func 15), args := #[t74, t75], argT
          refine Facts.step_call fun a W hR hold hnew => ?_
          have f74 : a.tmps.getD 74 undef = Value.slice Al nl cl := hnew 10 74 (by kernel_rfl); have f75 : a.tmps.getD 75 undef = Value.slice A j c := hnew 11 75 (by kernel_rfl); have g72 : a.tmps.getD 72 undef = .bool true := hnew 8 72 (by kernel_rfl)
          refine ⟨Facts.wanted_by rfl (by kernel_rfl) g72, 15, #[Value.slice Al nl cl, Value.slice A j c], by simp [go_sem, Act.eval, f74, f75], ?_⟩
          refine (SAME.out W hR).mono ?_
          rintro e w9 ⟨he, kk, rfl⟩
          have he : e = .returned (.bool true) := by simpa using he
          exact ⟨_, he, below_drewN W kk, rfl⟩
        · refine Facts.step_is (Value.bool true) fun a W hR hold hnew => ?_
          have f72 : a.tmps.getD 72 undef = Value.bool true := hnew 8 72 (by kernel_rfl)
          have f76 : a.tmps.getD 76 undef = Value.bool true := hnew 12 76 (by kernel_rfl)
          refine ⟨Facts.wanted_free rfl, ?_, fun _ => rfl⟩
          simp [go_sem, Act.eval, f72, f76]
        · refine Facts.step_is (Value.bool true) fun a W hR hold hnew => ?_
          have f77 : a.tmps.getD 77 undef = Value.bool true := hnew 13 77 (by kernel_rfl)
          refine ⟨Facts.wanted_free rfl, ?_, fun _ => rfl⟩
          simp [go_sem, Act.eval, f77]
        · refine Facts.step_is (Value.pointer (some ⟨r, 5, none⟩)) fun a W hR hold hnew => ?_
          have f9 : a.tmps.getD 9 undef = Value.pointer (some ⟨r, 0, none⟩) := hold 9 (by kernel_rfl)
          have g78 : a.tmps.getD 78 undef = .bool true := hnew 14 78 (by kernel_rfl)
          refine ⟨Facts.wanted_by rfl (by kernel_rfl) g78, ?_, fun _ => rfl⟩
          simp [go_sem, Act.eval, f9]
        · refine Facts.step_is (Value.int .i64 0) fun a W hR hold hnew => ?_
          have f79 : a.tmps.getD 79 undef = Value.pointer (some ⟨r, 5, none⟩) := hnew 15 79 (by kernel_rfl)
          have g78 : a.tmps.getD 78 undef = .bool true := hnew 14 78 (by kernel_rfl)
          obtain ⟨⟨y0, y1, y2, y3, y4, y5⟩, _⟩ := SCELL.out W hR
          refine ⟨Facts.wanted_by rfl (by kernel_rfl) g78, ?_, fun _ => rfl⟩
          simp [go_sem, Act.eval, f79, y5]
        · refine Facts.step_is (Value.bool true) fun a W hR hold hnew => ?_
          have f80 : a.tmps.getD 80 undef = Value.int .i64 0 := hnew 16 80 (by kernel_rfl)
          have g78 : a.tmps.getD 78 undef = .bool true := hnew 14 78 (by kernel_rfl)
          refine ⟨Facts.wanted_by rfl (by kernel_rfl) g78, ?_, fun _ => rfl⟩
          simp [go_sem, Act.eval, f80]
        · refine Facts.step_is (Value.bool true) fun a W hR hold hnew => ?_
          have f78 : a.tmps.getD 78 undef = Value.bool true := hnew 14 78 (by kernel_rfl)
          have f81 : a.tmps.getD 81 undef = Value.bool true := hnew 17 81 (by kernel_rfl)
          refine ⟨Facts.wanted_free rfl, ?_, fun _ => rfl⟩
          simp [go_sem, Act.eval, f78, f81]
        · refine Facts.step_is (Value.bool true) fun a W hR hold hnew => ?_
          have f82 : a.tmps.getD 82 undef = Value.bool true := hnew 18 82 (by kernel_rfl)
          refine ⟨Facts.wanted_free rfl, ?_, fun _ => rfl⟩
          simp [go_sem, Act.eval, f82]
        · refine Facts.step_is (Value.pointer (some ⟨r, 4, none⟩)) fun a W hR hold hnew => ?_
          have f9 : a.tmps.getD 9 undef = Value.pointer (some ⟨r, 0, none⟩) := hold 9 (by kernel_rfl)
          have g83 : a.tmps.getD 83 undef = .bool true := hnew 19 83 (by kernel_rfl)
          refine ⟨Facts.wanted_by rfl (by kernel_rfl) g83, ?_, fun _ => rfl⟩
          simp [go_sem, Act.eval, f9]
        · refine Facts.step_is (Value.int .i64 (na : Int)) fun a W hR hold hnew => ?_
          have f84 : a.tmps.getD 84 undef = Value.pointer (some ⟨r, 4, none⟩) := hnew 20 84 (by kernel_rfl)
          have g83 : a.tmps.getD 83 undef = .bool true := hnew 19 83 (by kernel_rfl)
          obtain ⟨⟨y0, y1, y2, y3, y4, y5⟩, _⟩ := SCELL.out W hR
          refine ⟨Facts.wanted_by rfl (by kernel_rfl) g83, ?_, fun _ => rfl⟩
          simp [go_sem, Act.eval, f84, y4]
        · refine Facts.step_is (Value.slice Ap na cp) fun a W hR hold hnew => ?_
          have f11 : a.tmps.getD 11 undef = Value.slice Ap na cp := hold 11 (by kernel_rfl)
          have g83 : a.tmps.getD 83 undef = .bool true := hnew 19 83 (by kernel_rfl)
          refine ⟨Facts.wanted_by rfl (by kernel_rfl) g83, ?_, fun _ => rfl⟩
          simp [go_sem, Act.eval, f11]
        · refine Facts.step_is (Value.int .i64 (na : Int)) fun a W hR hold hnew => ?_
          have f86 : a.tmps.getD 86 undef = Value.slice Ap na cp := hnew 22 86 (by kernel_rfl)
          have g83 : a.tmps.getD 83 undef = .bool true := hnew 19 83 (by kernel_rfl)
          refine ⟨Facts.wanted_by rfl (by kernel_rfl) g83, ?_, fun _ => rfl⟩
          simp [go_sem, Act.eval, f86]
        · refine Facts.step_is (Value.bool true) fun a W hR hold hnew => ?_
          have f85 : a.tmps.getD 85 undef = Value.int .i64 (na : Int) := hnew 21 85 (by kernel_rfl)
          have f87 : a.tmps.getD 87 undef = Value.int .i64 (na : Int) := hnew 23 87 (by kernel_rfl)
          have g83 : a.tmps.getD 83 undef = .bool true := hnew 19 83 (by kernel_rfl)
          refine ⟨Facts.wanted_by rfl (by kernel_rfl) g83, ?_, fun _ => rfl⟩
          simp [go_sem, Act.eval, f85, f87]
        · refine Facts.step_is (Value.bool true) fun a W hR hold hnew => ?_
          have f83 : a.tmps.getD 83 undef = Value.bool true := hnew 19 83 (by kernel_rfl)
          have f88 : a.tmps.getD 88 undef = Value.bool true := hnew 24 88 (by kernel_rfl)
          refine ⟨Facts.wanted_free rfl, ?_, fun _ => rfl⟩
          simp [go_sem, Act.eval, f83, f88]
        · refine Facts.step_is (Value.bool true) fun a W hR hold hnew => ?_
          have f89 : a.tmps.getD 89 undef = Value.bool true := hnew 25 89 (by kernel_rfl)
          refine ⟨Facts.wanted_free rfl, ?_, fun _ => rfl⟩
          simp [go_sem, Act.eval, f89]
        · refine Facts.step_is (Value.slice Ap na cp) fun a W hR hold hnew => ?_
          have f11 : a.tmps.getD 11 undef = Value.slice Ap na cp := hold 11 (by kernel_rfl)
          have g90 : a.tmps.getD 90 undef = .bool true := hnew 26 90 (by kernel_rfl)
          refine ⟨Facts.wanted_by rfl (by kernel_rfl) g90, ?_, fun _ => rfl⟩
          simp [go_sem, Act.eval, f11]
        · refine Facts.step_is (Value.string sp) fun a W hR hold hnew => ?_
          have f91 : a.tmps.getD 91 undef = Value.slice Ap na cp := hnew 27 91 (by kernel_rfl)
          have g90 : a.tmps.getD 90 undef = .bool true := hnew 26 90 (by kernel_rfl)
          have r := STRP.out W hR
          refine ⟨Facts.wanted_by rfl (by kernel_rfl) g90, ?_, fun _ => rfl⟩
          simp [go_sem, Act.eval, f91, r]
        · refine Facts.step_is (Value.agg #[.int .u8 (k.toNat : Int), .int .u64 (ta : Int), .int .u64 (tb : Int)]) fun a W hR hold hnew => ?_
          have f2 : a.tmps.getD 2 undef = Value.pointer (some ⟨w.heap.size, 0, none⟩) := hold 2 (by kernel_rfl)
          have g90 : a.tmps.getD 90 undef = .bool true := hnew 26 90 (by kernel_rfl)
          obtain ⟨q0, q1, q2⟩ := CELL.out W hR
          refine ⟨Facts.wanted_by rfl (by kernel_rfl) g90, ?_, fun _ => rfl⟩
          simp [go_sem, Act.eval, f2, q0, q1, q2]
        · refine Facts.step_is (Value.slice A j c) fun a W hR hold hnew => ?_
          have f1 : a.tmps.getD 1 undef = Value.slice A j c := hold 1 (by kernel_rfl)
          have g90 : a.tmps.getD 90 undef = .bool true := hnew 26 90 (by kernel_rfl)
          refine ⟨Facts.wanted_by rfl (by kernel_rfl) g90, ?_, fun _ => rfl⟩
          simp [go_sem, Act.eval, f1]
        · -- 31: Op.call { value (Operand.func 16), args := #[t93, t94], argT
          refine Facts.step_call fun a W hR hold hnew => ?_
          have f93 : a.tmps.getD 93 undef = Value.agg #[.int .u8 (k.toNat : Int), .int .u64 (ta : Int), .int .u64 (tb : Int)] := hnew 29 93 (by kernel_rfl); have f94 : a.tmps.getD 94 undef = Value.slice A j c := hnew 30 94 (by kernel_rfl); have g90 : a.tmps.getD 90 undef = .bool true := hnew 26 90 (by kernel_rfl)
          refine ⟨Facts.wanted_by rfl (by kernel_rfl) g90, 16, #[Value.agg #[.int .u8 (k.toNat : Int), .int .u64 (ta : Int), .int .u64 (tb : Int)], Value.slice A j c], by simp [go_sem, Act.eval, f93, f94], ?_⟩
          refine (LAYQ.out W hR).mono ?_
          rintro e w9 ⟨A9, c9, rfl, hown9, hb9⟩
          exact ⟨_, rfl, hb9, A9, c9, rfl, Sees.of_own hown9⟩
        · -- 32: Op.convert 37 9 t95
          refine Facts.step_is (.string sp) fun a W hR hold hnew => ?_
          have h95 : ∃ A' c', a.tmps.getD 95 undef = .slice A' na c' ∧ Sees W A' na wa := hnew 31 95 (by kernel_rfl)
          obtain ⟨A9, c9, f95, hs9⟩ := h95
          have r := STRQ.out W A9 c9 hs9
          have g90 : a.tmps.getD 90 undef = .bool true := hnew 26 90 (by kernel_rfl)
          refine ⟨Facts.wanted_by rfl (by kernel_rfl) g90, ?_, fun _ => rfl⟩
          simp [go_sem, Act.eval, f95, r]
        · refine Facts.step_is (Value.bool true) fun a W hR hold hnew => ?_
          have f92 : a.tmps.getD 92 undef = Value.string sp := hnew 28 92 (by kernel_rfl)
          have f96 : a.tmps.getD 96 undef = Value.string sp := hnew 32 96 (by kernel_rfl)
          have g90 : a.tmps.getD 90 undef = .bool true := hnew 26 90 (by kernel_rfl)
          refine ⟨Facts.wanted_by rfl (by kernel_rfl) g90, ?_, fun _ => rfl⟩
          simp [go_sem, Act.eval, f92, f96]
        · refine Facts.step_is (Value.bool true) fun a W hR hold hnew => ?_
          have f90 : a.tmps.getD 90 undef = Value.bool true := hnew 26 90 (by kernel_rfl)
          have f97 : a.tmps.getD 97 undef = Value.bool true := hnew 33 97 (by kernel_rfl)
          refine ⟨Facts.wanted_free rfl, ?_, fun _ => rfl⟩
          simp [go_sem, Act.eval, f90, f97]
        · refine Facts.step_is (Value.bool true) fun a W hR hold hnew => ?_
          have f98 : a.tmps.getD 98 undef = Value.bool true := hnew 34 98 (by kernel_rfl)
          refine ⟨Facts.wanted_free rfl, ?_, fun _ => rfl⟩
          simp [go_sem, Act.eval, f98]
      intro a' W hR hsize hdef hnew hold
      have fo : a'.tmps.getD 4 undef = .bool true := hnew 35 4 (by kernel_rfl)
      go_wp2
      try simp only [Exit.inBlock, Exit.then]
      refine bodyPost_ret (results_tmp rfl _ _ _) hdef ?_
      rw [fo]
      have bw : Below w0.heap.size w0 W := b9.drew.trans (hR.mono b9.drew.size)
      exact ⟨rfl, b0.trans (bw.mono b0.size)⟩
end Go.Proofs.YtfdnlgigllflfaaDoor.Sht
