/- The law SheetFull. -/
import Derived.Test.YtfdnlgigllflfaaDoorBSheetLaw
namespace Go.Proofs.YtfdnlgigllflfaaDoor.Sht
open Go Go.RowKit Go.Proofs.YtfdnlgigllflfaaDoor.Words Go.Proofs.YtfdnlgigllflfaaDoor.Enc Go.Proofs.YtfdnlgigllflfaaDoor.Made Go.Proofs.YtfdnlgigllflfaaDoor.Dsk
set_option linter.unusedVariables false

set_option maxRecDepth 100000 in
theorem full_long (k : UInt8) (ta tb : Nat) (A : Option Addr) (n c : Nat) (LA : List (List UInt8)) (B : Option Addr) (n2 c2 : Nat) (LB : List (List UInt8)) (room : Int) (w : World) (T : Chk.Tabs w) (hA : SeesAll w A n LA) (hB : SeesAll w B n2 LB)
    (hLA : lens LA ≤ 1000000000000) (hLB : lens LB ≤ 1000000000000) (h : 2000 < lens LA ∨ 2000 < lens LB) :
    Calls Tryd.prog 6 #[titleV k ta tb, .slice A n c, .slice B n2 c2, .int .u16 room] w fun e w' => e = .returned (.bool true) ∧ Below w.heap.size w w' := by
  have b0 : Below w.heap.size w (w.alloc (.cells #[.int .u8 (k.toNat : Int), .int .u64 (ta : Int), .int .u64 (tb : Int)] 24)) := (Below.refl _ _).alloc (Nat.le_refl _) _
  unfold titleV
  by_cases h1 : lens LA ≤ 2000
  · have e1 : decide (lens LA ≤ 2000) = true := by simpa using h1
    have e2 : decide (lens LB ≤ 2000) = false := by simp; omega
    go_enter Tryd.func6, Tryd.ntmps6
    go_wp2_with fail
    refine (awake5 _ (T.below b0)).mono ?_
    rintro e w1 ⟨rfl, hb1⟩
    have b1 := b0.trans (hb1.mono b0.size)
    go_wp2_with fail
    refine (short_any A n c LA w1 (hA.below b1) hLA).mono ?_
    rintro e w2 ⟨rfl, rfl⟩
    rw [e1]
    go_wp2_with fail
    refine (short_any B n2 c2 LB w1 (hB.below b1) hLB).mono ?_
    rintro e w2 ⟨rfl, rfl⟩
    rw [e2]
    go_wp2_with fail
    refine (awake5 _ (T.below b1)).mono ?_
    rintro e w2 ⟨rfl, hb2⟩
    go_wp2
    go_returns
    exact ⟨rfl, b1.trans (hb2.mono b1.size)⟩
  · have e1 : decide (lens LA ≤ 2000) = false := by simp; omega
    go_enter Tryd.func6, Tryd.ntmps6
    go_wp2_with fail
    refine (awake5 _ (T.below b0)).mono ?_
    rintro e w1 ⟨rfl, hb1⟩
    have b1 := b0.trans (hb1.mono b0.size)
    go_wp2_with fail
    refine (short_any A n c LA w1 (hA.below b1) hLA).mono ?_
    rintro e w2 ⟨rfl, rfl⟩
    rw [e1]
    go_wp2_with fail
    refine (awake5 _ (T.below b1)).mono ?_
    rintro e w2 ⟨rfl, hb2⟩
    go_wp2
    go_returns
    exact ⟨rfl, b1.trans (hb2.mono b1.size)⟩

set_option maxRecDepth 100000 in
set_option maxHeartbeats 1000000 in
theorem full_short (k : UInt8) (ta tb : Nat) (A : Option Addr) (n c : Nat) (LA : List (List UInt8)) (B : Option Addr) (n2 c2 : Nat) (LB : List (List UInt8)) (room : Nat) (w : World) (T : Chk.Tabs w) (hA : SeesAll w A n LA) (hB : SeesAll w B n2 LB)
    (hLA : lens LA ≤ 2000) (hLB : lens LB ≤ 2000) (ha : ta < 18446744073709551616) (hb : tb < 18446744073709551616) (hroom : room < 65536) :
    Calls Tryd.prog 6 #[titleV k ta tb, .slice A n c, .slice B n2 c2, .int .u16 (room : Int)] w fun e w' => e = .returned (.bool true) ∧ Below w.heap.size w w' := by
  have b0 : Below w.heap.size w (w.alloc (.cells #[.int .u8 (k.toNat : Int), .int .u64 (ta : Int), .int .u64 (tb : Int)] 24)) := (Below.refl _ _).alloc (Nat.le_refl _) _
  have g0 : TitleAt (w.alloc (.cells #[.int .u8 (k.toNat : Int), .int .u64 (ta : Int), .int .u64 (tb : Int)] 24)) w.heap.size k ta tb := heap_alloc_new w _
  have e1 : decide (lens LA ≤ 2000) = true := by simpa using hLA
  have e2 : decide (lens LB ≤ 2000) = true := by simpa using hLB
  have hhl := headL_len (k := k) ha hb
  have htl := (titleL_len (k := k) ha hb).2
  have hwa := wraps_short hLA
  have hwb := wraps_short hLB
  have hla : (wholeL k ta tb LA).length ≤ 2100 := by unfold wholeL; rw [List.length_append]; omega
  have hlb : (wholeL k ta tb LB).length ≤ 2100 := by unfold wholeL; rw [List.length_append]; omega
  obtain ⟨wa, hwa'⟩ : ∃ wa, wa = wholeL k ta tb LA := ⟨_, rfl⟩
  obtain ⟨wb, hwb'⟩ : ∃ wb, wb = wholeL k ta tb LB := ⟨_, rfl⟩
  have swap1 := fun w0 W d T hs hd => swapL w0 W d [] ⟨65536, 0, -1, 0, false⟩ k ta tb A n c LA T hs ha hb hd (hd_fits5 (by simp) (by simp) (by simp) (by simp) (by simp) (by simp) (by simp)) (by simp) hLA (by simp [sumA]) (by simp)
    (swap_new (by omega) (by omega))
  rw [← hwa'] at swap1 hla
  rw [← hwb'] at hlb
  have SW1 := Lib.hid swap1
  have LAYA := Lib.hid (fun (W : World) (hs : SeesAll W A n LA) => layLaw_any k ta tb A n c LA W ha hb hs (by omega))
  have LAYB := Lib.hid (fun (W : World) (hs : SeesAll W B n2 LB) => layLaw_any k ta tb B n2 c2 LB W ha hb hs (by omega))
  rw [← hwa'] at LAYA
  rw [← hwb'] at LAYB
  unfold titleV at SW1 LAYA LAYB ⊢
  obtain ⟨r, hr⟩ : ∃ r, r = room % 3000 := ⟨_, rfl⟩
  have hr3 : r < 3000 := by omega
  have hmod : (room : Int).tmod 3000 = (r : Int) := by rw [hr]; rfl
  have HWA := Lib.hid hwa'
  have HWB := Lib.hid hwb'
  obtain ⟨na, hna⟩ : ∃ na, na = wa.length := ⟨_, rfl⟩
  obtain ⟨nb, hnb⟩ : ∃ nb, nb = wb.length := ⟨_, rfl⟩
  have HNA := Lib.hid hna
  have HNB := Lib.hid hnb
  rw [← hna] at hla SW1 LAYA
  rw [← hnb] at hlb LAYB
  have hw1 : IntKind.i64.wrap ((na : Int) + (r : Int)) = (na : Int) + (r : Int) := IntWalk.i64_in _ (by omega)
  have hw2 : IntKind.i64.wrap ((na : Int) + (nb : Int)) = (na : Int) + (nb : Int) := IntWalk.i64_in _ (by omega)
  clear hhl htl hwa hwb hr hna hnb swap1 hwa' hwb'
  have go : ∀ W0 : World, Below w.heap.size w W0 → TitleAt W0 w.heap.size k ta tb → True := fun _ _ _ => trivial
  go_enter Tryd.func6, Tryd.ntmps6
  go_upto_region 1 with fail
  have hA0 := hA.below b0
  have hB0 := hB.below b0
  have T0 := T.below b0
  generalize w.alloc (.cells #[.int .u8 (k.toNat : Int), .int .u64 (ta : Int), .int .u64 (tb : Int)] 24) = w0 at b0 g0 hA0 hB0 T0 ⊢
  clear hA hB T go
  go_wp2_with fail
  refine (awake5 w0 T0).mono ?_
  rintro e w1 ⟨rfl, b1⟩
  go_wp2_with fail
  refine (short_any A n c LA w1 (hA0.below b1) (by omega)).mono ?_
  rintro e w2 ⟨rfl, rfl⟩
  rw [e1]
  go_wp2_with fail
  refine (short_any B n2 c2 LB w1 (hB0.below b1) (by omega)).mono ?_
  rintro e w2 ⟨rfl, rfl⟩
  rw [e2]
  clear e1 e2
  go_wp2_with fail
  refine (newL w0 w1 b1 65536).mono ?_
  rintro e w2 ⟨d, rfl, s2⟩
  obtain ⟨p0, p1, p2⟩ := (g0.below s2.below).cells
  go_wp2_with fail
  refine (SW1.out w0 w2 d T0 hA0 s2).mono ?_
  rintro e w3 ⟨rfl, s3⟩
  clear p0 p1 p2
  obtain ⟨p0, p1, p2⟩ := (g0.below s3.below).cells
  go_wp2_with fail
  refine (LAYA.out w3 (hA0.below s3.below)).mono ?_
  rintro e w4 ⟨A4, c4, rfl, hown4, hb4⟩
  have s4 := s3.after hb4
  clear hown4 hb4 s3 s2 p0 p1 p2
  go_wp2_with fail
  refine (widenL w0 w4 d _ _ ((na : Int) + (r : Int)) s4).mono ?_
  rintro e w5 ⟨rfl, s5⟩
  obtain ⟨p0, p1, p2⟩ := (g0.below s5.below).cells
  clear s4
  have hswap2 := swap_old (room := (na : Int) + (r : Int)) (left := -1) (torn := 0) (acts := 4) (p := wa) (q := wb) (p2 := []) (n := na) (n2 := 0) (by omega) [] (.inl rfl)
  by_cases hfull : nb ≤ r
  · rw [if_pos (by have h1 := HNA.out; have h2 := HNB.out; omega)] at hswap2
    have hcond : decide ((na : Int) + (r : Int) < (na : Int) + (nb : Int)) = false := by simp; omega
    have hs2 := fun W hd => swapL (E := 0) (files' := [⟨fN, wb, wb.length⟩]) (h' := ⟨(na : Int) + (r : Int), 8, -1, 0, false⟩) w0 W d [⟨fN, wa, na⟩] ⟨(na : Int) + (r : Int), 4, -1, 0, false⟩ k ta tb B n2 c2 LB T0 hB0 ha hb hd (hd_fits5 (by show _ ≤ (na : Int) + (r : Int); omega) (by show (na : Int) + (r : Int) ≤ _; omega) (by simp) (by simp) (by simp) (by simp) (by simp)) (by simp) hLB (by simp only [sumA]; have := HNA.out; omega) (by simp) (by rw [← HWB.out]; exact hswap2)
    unfold titleV at hs2
    have HS2 := Lib.hid hs2
    clear hs2 hswap2
    go_wp2_with fail
    refine (HS2.out w5 s5).mono ?_
    rintro e w6 ⟨rfl, s6⟩
    clear p0 p1 p2 HS2 s5
    go_wp2_with fail
    refine (readL w0 w6 d [⟨fN, wb, wb.length⟩] ⟨(na : Int) + (r : Int), 8, -1, 0, false⟩ [102] wb 0 s6 (by simp) (by simp only [sumA]; have := HNB.out; omega) (by simp [readP, lookA]) (by simp [readE, lookA])).mono ?_
    rintro e w7 ⟨Ap, cp, rfl, hownp, hb7, s7⟩
    rw [← HNB.out] at hownp ⊢
    have hsp : Sees w7 Ap nb wb := Sees.of_own hownp
    have p7 := g0.below s7.below
    obtain ⟨p0, p1, p2⟩ := p7.cells
    clear hownp hb7 s6
    go_wp2_with fail
    refine (LAYB.out w7 (hB0.below s7.below)).mono ?_
    rintro e w8 ⟨A8, c8, rfl, hown8, hb8⟩
    have b8 : Below w0.heap.size w0 w8 := s7.below.trans (hb8.mono s7.below.size)
    have hsp8 := hsp.below hb8
    have g8 := g0.below b8
    clear hown8 s7 hsp p7 p0 p1 p2 hb8
    obtain ⟨sp, hsp'⟩ : ∃ sp, sp = (⟨wb.toArray⟩ : ByteArray) := ⟨_, rfl⟩
    have STRP : Hid (∀ W, Below w8.drew.heap.size w8.drew W → (convert 37 9 (.slice Ap nb cp)).run Tryd.prog W = .ok (.string sp) W) := fun W hR => by
      rw [hsp']
      exact (hsp8.drew.below hR).string cp Tryd.underlying37 Tryd.underlying5 Tryd.underlying9
    have STRQ : Hid (∀ (W : World) (A' : Option Addr) (c' : Nat), Sees W A' nb wb → (convert 37 9 (.slice A' nb c')).run Tryd.prog W = .ok (.string sp) W) := fun W A' c' hs => by
      rw [hsp']
      exact hs.string c' Tryd.underlying37 Tryd.underlying5 Tryd.underlying9
    have LAYQ := Lib.hid (fun (W : World) (hR : Below w8.drew.heap.size w8.drew W) => LAYB.out W (hB0.below (b8.drew.trans (hR.mono b8.drew.size))))
    have CELL := Lib.hid (fun (W : World) (hR : Below w8.drew.heap.size w8.drew W) => (TitleAt.cells (g8.below (w := W) (show Below w8.heap.size w8 W from ((Below.refl _ _).drew.trans hR)))))
    clear hsp'
    go_wp2_with fail
    refine Facts.wp_region_preds (n := 87) (by kernel_rfl) (by kernel_rfl) rfl [Facts.Pred.is (Value.int .i64 0), Facts.Pred.is (Value.bool true), Facts.Pred.is (Value.bool true), Facts.Pred.is (Value.slice Ap nb cp), Facts.Pred.is (Value.string sp), Facts.Pred.is (Value.agg #[.int .u8 (k.toNat : Int), .int .u64 (ta : Int), .int .u64 (tb : Int)]), Facts.Pred.is (Value.slice B n2 c2), Facts.Pred.shows nb wb, Facts.Pred.is (.string sp), Facts.Pred.is (Value.bool true), Facts.Pred.is (Value.bool true), Facts.Pred.is (Value.bool true)] ?_ ?_
    · refine ⟨?_, ?_, ?_, ?_, ?_, ?_, ?_, ?_, ?_, ?_, ?_, ?_, trivial⟩
      · refine Facts.step_is (Value.int .i64 0) fun a W hR hold hnew => ?_
        have f11 : a.tmps.getD 11 undef = Value.int .i64 0 := hold 11 (by kernel_rfl)
        refine ⟨Facts.wanted_free rfl, ?_, fun _ => rfl⟩
        simp [go_sem, Act.eval, f11]
      · refine Facts.step_is (Value.bool true) fun a W hR hold hnew => ?_
        have f76 : a.tmps.getD 76 undef = Value.int .i64 0 := hnew 0 76 (by kernel_rfl)
        refine ⟨Facts.wanted_free rfl, ?_, fun _ => rfl⟩
        simp [go_sem, Act.eval, f76]
      · refine Facts.step_is (Value.bool true) fun a W hR hold hnew => ?_
        have f77 : a.tmps.getD 77 undef = Value.bool true := hnew 1 77 (by kernel_rfl)
        refine ⟨Facts.wanted_free rfl, ?_, fun _ => rfl⟩
        simp [go_sem, Act.eval, f77]
      · refine Facts.step_is (Value.slice Ap nb cp) fun a W hR hold hnew => ?_
        have f12 : a.tmps.getD 12 undef = Value.slice Ap nb cp := hold 12 (by kernel_rfl)
        have g78 : a.tmps.getD 78 undef = .bool true := hnew 2 78 (by kernel_rfl)
        refine ⟨Facts.wanted_by rfl (by kernel_rfl) g78, ?_, fun _ => rfl⟩
        simp [go_sem, Act.eval, f12]
      · refine Facts.step_is (Value.string sp) fun a W hR hold hnew => ?_
        have f79 : a.tmps.getD 79 undef = Value.slice Ap nb cp := hnew 3 79 (by kernel_rfl)
        have g78 : a.tmps.getD 78 undef = .bool true := hnew 2 78 (by kernel_rfl)
        have r := STRP.out W hR
        refine ⟨Facts.wanted_by rfl (by kernel_rfl) g78, ?_, fun _ => rfl⟩
        simp [go_sem, Act.eval, f79, r]
      · refine Facts.step_is (Value.agg #[.int .u8 (k.toNat : Int), .int .u64 (ta : Int), .int .u64 (tb : Int)]) fun a W hR hold hnew => ?_
        have f4 : a.tmps.getD 4 undef = Value.pointer (some ⟨w.heap.size, 0, none⟩) := hold 4 (by kernel_rfl)
        have g78 : a.tmps.getD 78 undef = .bool true := hnew 2 78 (by kernel_rfl)
        obtain ⟨q0, q1, q2⟩ := CELL.out W hR
        refine ⟨Facts.wanted_by rfl (by kernel_rfl) g78, ?_, fun _ => rfl⟩
        simp [go_sem, Act.eval, f4, q0, q1, q2]
      · refine Facts.step_is (Value.slice B n2 c2) fun a W hR hold hnew => ?_
        have f2 : a.tmps.getD 2 undef = Value.slice B n2 c2 := hold 2 (by kernel_rfl)
        have g78 : a.tmps.getD 78 undef = .bool true := hnew 2 78 (by kernel_rfl)
        refine ⟨Facts.wanted_by rfl (by kernel_rfl) g78, ?_, fun _ => rfl⟩
        simp [go_sem, Act.eval, f2]
      · -- 7: Op.call { value (Operand.func 16), args := #[t81, t82], argT
        refine Facts.step_call fun a W hR hold hnew => ?_
        have f81 : a.tmps.getD 81 undef = Value.agg #[.int .u8 (k.toNat : Int), .int .u64 (ta : Int), .int .u64 (tb : Int)] := hnew 5 81 (by kernel_rfl); have f82 : a.tmps.getD 82 undef = Value.slice B n2 c2 := hnew 6 82 (by kernel_rfl); have g78 : a.tmps.getD 78 undef = .bool true := hnew 2 78 (by kernel_rfl)
        refine ⟨Facts.wanted_by rfl (by kernel_rfl) g78, 16, #[Value.agg #[.int .u8 (k.toNat : Int), .int .u64 (ta : Int), .int .u64 (tb : Int)], Value.slice B n2 c2], by simp [go_sem, Act.eval, f81, f82], ?_⟩
        refine (LAYQ.out W hR).mono ?_
        rintro e w7 ⟨A7, c7, rfl, hown7, hb7⟩
        exact ⟨_, rfl, hb7, A7, c7, rfl, Sees.of_own hown7⟩
      · -- 8: Op.convert 37 9 t83
        refine Facts.step_is (.string sp) fun a W hR hold hnew => ?_
        have h83 : ∃ A' c', a.tmps.getD 83 undef = .slice A' nb c' ∧ Sees W A' nb wb := hnew 7 83 (by kernel_rfl)
        obtain ⟨A7, c7, f83, hs7⟩ := h83
        have r := STRQ.out W A7 c7 hs7
        have g78 : a.tmps.getD 78 undef = .bool true := hnew 2 78 (by kernel_rfl)
        refine ⟨Facts.wanted_by rfl (by kernel_rfl) g78, ?_, fun _ => rfl⟩
        simp [go_sem, Act.eval, f83, r]
      · refine Facts.step_is (Value.bool true) fun a W hR hold hnew => ?_
        have f80 : a.tmps.getD 80 undef = Value.string sp := hnew 4 80 (by kernel_rfl)
        have f84 : a.tmps.getD 84 undef = Value.string sp := hnew 8 84 (by kernel_rfl)
        have g78 : a.tmps.getD 78 undef = .bool true := hnew 2 78 (by kernel_rfl)
        refine ⟨Facts.wanted_by rfl (by kernel_rfl) g78, ?_, fun _ => rfl⟩
        simp [go_sem, Act.eval, f80, f84]
      · refine Facts.step_is (Value.bool true) fun a W hR hold hnew => ?_
        have f78 : a.tmps.getD 78 undef = Value.bool true := hnew 2 78 (by kernel_rfl)
        have f85 : a.tmps.getD 85 undef = Value.bool true := hnew 9 85 (by kernel_rfl)
        refine ⟨Facts.wanted_free rfl, ?_, fun _ => rfl⟩
        simp [go_sem, Act.eval, f78, f85]
      · refine Facts.step_is (Value.bool true) fun a W hR hold hnew => ?_
        have f86 : a.tmps.getD 86 undef = Value.bool true := hnew 10 86 (by kernel_rfl)
        refine ⟨Facts.wanted_free rfl, ?_, fun _ => rfl⟩
        simp [go_sem, Act.eval, f86]
    · intro a' W hR hsize hdef hnew hold
      have fo : a'.tmps.getD 8 undef = .bool true := hnew 11 8 (by kernel_rfl)
      go_wp2
      try simp only [Exit.inBlock, Exit.then]
      refine bodyPost_ret (results_tmp rfl _ _ _) hdef ?_
      rw [fo]
      have bw : Below w0.heap.size w0 W := b8.drew.trans (hR.mono b8.drew.size)
      exact ⟨rfl, b0.trans (bw.mono b0.size)⟩
  · rw [if_neg (by have h1 := HNA.out; have h2 := HNB.out; omega)] at hswap2
    have hcond : decide ((na : Int) + (r : Int) < (na : Int) + (nb : Int)) = true := by simp; omega
    have hs2 := fun W hd => swapL (E := 3) (files' := [⟨fN, wa, na⟩]) (h' := ⟨(na : Int) + (r : Int), 6, -1, 0, false⟩) w0 W d [⟨fN, wa, na⟩] ⟨(na : Int) + (r : Int), 4, -1, 0, false⟩ k ta tb B n2 c2 LB T0 hB0 ha hb hd (hd_fits5 (by show _ ≤ (na : Int) + (r : Int); omega) (by show (na : Int) + (r : Int) ≤ _; omega) (by simp) (by simp) (by simp) (by simp) (by simp)) (by simp) hLB (by simp only [sumA]; have := HNA.out; omega) (by simp) (by rw [← HWB.out]; exact hswap2)
    unfold titleV at hs2
    have HS2 := Lib.hid hs2
    clear hs2 hswap2
    go_wp2_with fail
    refine (HS2.out w5 s5).mono ?_
    rintro e w6 ⟨rfl, s6⟩
    clear p0 p1 p2 HS2 s5
    go_wp2_with fail
    refine (readL w0 w6 d [⟨fN, wa, na⟩] ⟨(na : Int) + (r : Int), 6, -1, 0, false⟩ [102] wa 0 s6 (by simp) (by simp only [sumA]; have := HNA.out; omega) (by simp [readP, lookA]) (by simp [readE, lookA])).mono ?_
    rintro e w7 ⟨Ap, cp, rfl, hownp, hb7, s7⟩
    rw [← HNA.out] at hownp ⊢
    have hsp : Sees w7 Ap na wa := Sees.of_own hownp
    have p7 := g0.below s7.below
    obtain ⟨p0, p1, p2⟩ := p7.cells
    clear hownp hb7 s6
    go_wp2_with fail
    refine (LAYB.out w7 (hB0.below s7.below)).mono ?_
    rintro e w8 ⟨A8, c8, rfl, hown8, hb8⟩
    have b8 : Below w0.heap.size w0 w8 := s7.below.trans (hb8.mono s7.below.size)
    have hsp8 := hsp.below hb8
    have g8 := g0.below b8
    clear hown8 s7 hsp p7 p0 p1 p2 hb8
    obtain ⟨sp, hsp'⟩ : ∃ sp, sp = (⟨wa.toArray⟩ : ByteArray) := ⟨_, rfl⟩
    have STRP : Hid (∀ W, Below w8.drew.heap.size w8.drew W → (convert 37 9 (.slice Ap na cp)).run Tryd.prog W = .ok (.string sp) W) := fun W hR => by
      rw [hsp']
      exact (hsp8.drew.below hR).string cp Tryd.underlying37 Tryd.underlying5 Tryd.underlying9
    have STRQ : Hid (∀ (W : World) (A' : Option Addr) (c' : Nat), Sees W A' na wa → (convert 37 9 (.slice A' na c')).run Tryd.prog W = .ok (.string sp) W) := fun W A' c' hs => by
      rw [hsp']
      exact hs.string c' Tryd.underlying37 Tryd.underlying5 Tryd.underlying9
    have LAYQ := Lib.hid (fun (W : World) (hR : Below w8.drew.heap.size w8.drew W) => LAYA.out W (hA0.below (b8.drew.trans (hR.mono b8.drew.size))))
    have CELL := Lib.hid (fun (W : World) (hR : Below w8.drew.heap.size w8.drew W) => (TitleAt.cells (g8.below (w := W) (show Below w8.heap.size w8 W from ((Below.refl _ _).drew.trans hR)))))
    clear hsp'
    go_wp2_with fail
    refine Facts.wp_region_preds (n := 87) (by kernel_rfl) (by kernel_rfl) rfl [Facts.Pred.is (Value.int .i64 3), Facts.Pred.is (Value.bool true), Facts.Pred.is (Value.bool true), Facts.Pred.is (Value.slice Ap na cp), Facts.Pred.is (Value.string sp), Facts.Pred.is (Value.agg #[.int .u8 (k.toNat : Int), .int .u64 (ta : Int), .int .u64 (tb : Int)]), Facts.Pred.is (Value.slice A n c), Facts.Pred.shows na wa, Facts.Pred.is (.string sp), Facts.Pred.is (Value.bool true), Facts.Pred.is (Value.bool true), Facts.Pred.is (Value.bool true)] ?_ ?_
    · refine ⟨?_, ?_, ?_, ?_, ?_, ?_, ?_, ?_, ?_, ?_, ?_, ?_, trivial⟩
      · refine Facts.step_is (Value.int .i64 3) fun a W hR hold hnew => ?_
        have f11 : a.tmps.getD 11 undef = Value.int .i64 3 := hold 11 (by kernel_rfl)
        refine ⟨Facts.wanted_free rfl, ?_, fun _ => rfl⟩
        simp [go_sem, Act.eval, f11]
      · refine Facts.step_is (Value.bool true) fun a W hR hold hnew => ?_
        have f65 : a.tmps.getD 65 undef = Value.int .i64 3 := hnew 0 65 (by kernel_rfl)
        refine ⟨Facts.wanted_free rfl, ?_, fun _ => rfl⟩
        simp [go_sem, Act.eval, f65]
      · refine Facts.step_is (Value.bool true) fun a W hR hold hnew => ?_
        have f66 : a.tmps.getD 66 undef = Value.bool true := hnew 1 66 (by kernel_rfl)
        refine ⟨Facts.wanted_free rfl, ?_, fun _ => rfl⟩
        simp [go_sem, Act.eval, f66]
      · refine Facts.step_is (Value.slice Ap na cp) fun a W hR hold hnew => ?_
        have f12 : a.tmps.getD 12 undef = Value.slice Ap na cp := hold 12 (by kernel_rfl)
        have g67 : a.tmps.getD 67 undef = .bool true := hnew 2 67 (by kernel_rfl)
        refine ⟨Facts.wanted_by rfl (by kernel_rfl) g67, ?_, fun _ => rfl⟩
        simp [go_sem, Act.eval, f12]
      · refine Facts.step_is (Value.string sp) fun a W hR hold hnew => ?_
        have f68 : a.tmps.getD 68 undef = Value.slice Ap na cp := hnew 3 68 (by kernel_rfl)
        have g67 : a.tmps.getD 67 undef = .bool true := hnew 2 67 (by kernel_rfl)
        have r := STRP.out W hR
        refine ⟨Facts.wanted_by rfl (by kernel_rfl) g67, ?_, fun _ => rfl⟩
        simp [go_sem, Act.eval, f68, r]
      · refine Facts.step_is (Value.agg #[.int .u8 (k.toNat : Int), .int .u64 (ta : Int), .int .u64 (tb : Int)]) fun a W hR hold hnew => ?_
        have f4 : a.tmps.getD 4 undef = Value.pointer (some ⟨w.heap.size, 0, none⟩) := hold 4 (by kernel_rfl)
        have g67 : a.tmps.getD 67 undef = .bool true := hnew 2 67 (by kernel_rfl)
        obtain ⟨q0, q1, q2⟩ := CELL.out W hR
        refine ⟨Facts.wanted_by rfl (by kernel_rfl) g67, ?_, fun _ => rfl⟩
        simp [go_sem, Act.eval, f4, q0, q1, q2]
      · refine Facts.step_is (Value.slice A n c) fun a W hR hold hnew => ?_
        have f1 : a.tmps.getD 1 undef = Value.slice A n c := hold 1 (by kernel_rfl)
        have g67 : a.tmps.getD 67 undef = .bool true := hnew 2 67 (by kernel_rfl)
        refine ⟨Facts.wanted_by rfl (by kernel_rfl) g67, ?_, fun _ => rfl⟩
        simp [go_sem, Act.eval, f1]
      · -- 7: Op.call { value (Operand.func 16), args := #[t70, t71], argT
        refine Facts.step_call fun a W hR hold hnew => ?_
        have f70 : a.tmps.getD 70 undef = Value.agg #[.int .u8 (k.toNat : Int), .int .u64 (ta : Int), .int .u64 (tb : Int)] := hnew 5 70 (by kernel_rfl); have f71 : a.tmps.getD 71 undef = Value.slice A n c := hnew 6 71 (by kernel_rfl); have g67 : a.tmps.getD 67 undef = .bool true := hnew 2 67 (by kernel_rfl)
        refine ⟨Facts.wanted_by rfl (by kernel_rfl) g67, 16, #[Value.agg #[.int .u8 (k.toNat : Int), .int .u64 (ta : Int), .int .u64 (tb : Int)], Value.slice A n c], by simp [go_sem, Act.eval, f70, f71], ?_⟩
        refine (LAYQ.out W hR).mono ?_
        rintro e w7 ⟨A7, c7, rfl, hown7, hb7⟩
        exact ⟨_, rfl, hb7, A7, c7, rfl, Sees.of_own hown7⟩
      · -- 8: Op.convert 37 9 t72
        refine Facts.step_is (.string sp) fun a W hR hold hnew => ?_
        have h72 : ∃ A' c', a.tmps.getD 72 undef = .slice A' na c' ∧ Sees W A' na wa := hnew 7 72 (by kernel_rfl)
        obtain ⟨A7, c7, f72, hs7⟩ := h72
        have r := STRQ.out W A7 c7 hs7
        have g67 : a.tmps.getD 67 undef = .bool true := hnew 2 67 (by kernel_rfl)
        refine ⟨Facts.wanted_by rfl (by kernel_rfl) g67, ?_, fun _ => rfl⟩
        simp [go_sem, Act.eval, f72, r]
      · refine Facts.step_is (Value.bool true) fun a W hR hold hnew => ?_
        have f69 : a.tmps.getD 69 undef = Value.string sp := hnew 4 69 (by kernel_rfl)
        have f73 : a.tmps.getD 73 undef = Value.string sp := hnew 8 73 (by kernel_rfl)
        have g67 : a.tmps.getD 67 undef = .bool true := hnew 2 67 (by kernel_rfl)
        refine ⟨Facts.wanted_by rfl (by kernel_rfl) g67, ?_, fun _ => rfl⟩
        simp [go_sem, Act.eval, f69, f73]
      · refine Facts.step_is (Value.bool true) fun a W hR hold hnew => ?_
        have f67 : a.tmps.getD 67 undef = Value.bool true := hnew 2 67 (by kernel_rfl)
        have f74 : a.tmps.getD 74 undef = Value.bool true := hnew 9 74 (by kernel_rfl)
        refine ⟨Facts.wanted_free rfl, ?_, fun _ => rfl⟩
        simp [go_sem, Act.eval, f67, f74]
      · refine Facts.step_is (Value.bool true) fun a W hR hold hnew => ?_
        have f75 : a.tmps.getD 75 undef = Value.bool true := hnew 10 75 (by kernel_rfl)
        refine ⟨Facts.wanted_free rfl, ?_, fun _ => rfl⟩
        simp [go_sem, Act.eval, f75]
    · intro a' W hR hsize hdef hnew hold
      have fo : a'.tmps.getD 8 undef = .bool true := hnew 11 8 (by kernel_rfl)
      go_wp2
      try simp only [Exit.inBlock, Exit.then]
      refine bodyPost_ret (results_tmp rfl _ _ _) hdef ?_
      rw [fo]
      have bw : Below w0.heap.size w0 W := b8.drew.trans (hR.mono b8.drew.size)
      exact ⟨rfl, b0.trans (bw.mono b0.size)⟩
end Go.Proofs.YtfdnlgigllflfaaDoor.Sht
