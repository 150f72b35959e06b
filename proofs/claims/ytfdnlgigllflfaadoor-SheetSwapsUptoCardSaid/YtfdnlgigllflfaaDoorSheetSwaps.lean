/- The law SheetSwaps. -/
import Derived.Test.YtfdnlgigllflfaaDoorSheetArmed
namespace Go.Proofs.YtfdnlgigllflfaaDoor.Sht
open Go Go.RowKit Go.Proofs.YtfdnlgigllflfaaDoor.Words Go.Proofs.YtfdnlgigllflfaaDoor.Enc Go.Proofs.YtfdnlgigllflfaaDoor.Made Go.Proofs.YtfdnlgigllflfaaDoor.Dsk
set_option linter.unusedVariables false

theorem boxes2 (w : World) (k : UInt8) (ta tb : Nat) (k2 : UInt8) (ua ub : Nat) :
    Below w.heap.size w ((w.alloc (.cells #[.int .u8 (k.toNat : Int), .int .u64 (ta : Int), .int .u64 (tb : Int)] 24)).alloc (.cells #[.int .u8 (k2.toNat : Int), .int .u64 (ua : Int), .int .u64 (ub : Int)] 24)) ∧
    TitleAt ((w.alloc (.cells #[.int .u8 (k.toNat : Int), .int .u64 (ta : Int), .int .u64 (tb : Int)] 24)).alloc (.cells #[.int .u8 (k2.toNat : Int), .int .u64 (ua : Int), .int .u64 (ub : Int)] 24)) w.heap.size k ta tb ∧
    TitleAt ((w.alloc (.cells #[.int .u8 (k.toNat : Int), .int .u64 (ta : Int), .int .u64 (tb : Int)] 24)).alloc (.cells #[.int .u8 (k2.toNat : Int), .int .u64 (ua : Int), .int .u64 (ub : Int)] 24)) (w.heap.size + 1) k2 ua ub := by
  refine ⟨((Below.refl _ _).alloc (Nat.le_refl _) _).alloc (by simp) _, ?_, ?_⟩
  · unfold TitleAt
    rw [Below.heap_alloc _ _ _ (by simp)]
    exact heap_alloc_new w _
  · have := heap_alloc_new (w.alloc (.cells #[.int .u8 (k.toNat : Int), .int .u64 (ta : Int), .int .u64 (tb : Int)] 24)) (.cells #[.int .u8 (k2.toNat : Int), .int .u64 (ua : Int), .int .u64 (ub : Int)] 24)
    unfold TitleAt
    simpa using this

set_option maxRecDepth 100000 in
theorem swaps_long (k : UInt8) (ta tb : Nat) (k2 : UInt8) (ua ub : Nat) (A : Option Addr) (n c : Nat) (LA : List (List UInt8)) (B : Option Addr) (n2 c2 : Nat) (LB : List (List UInt8)) (stop torn keep : Int) (w : World) (T : Chk.Tabs w) (hA : SeesAll w A n LA) (hB : SeesAll w B n2 LB)
    (hLA : lens LA ≤ 1000000000000) (hLB : lens LB ≤ 1000000000000) (h : 2000 < lens LA ∨ 2000 < lens LB) :
    Calls Tryd.prog 5 #[titleV k ta tb, titleV k2 ua ub, .slice A n c, .slice B n2 c2, .int .u8 stop, .int .i64 torn, .int .i64 keep] w fun e w' => e = .returned (.bool true) ∧ Below w.heap.size w w' := by
  obtain ⟨b0, _, _⟩ := boxes2 w k ta tb k2 ua ub
  unfold titleV
  by_cases h1 : lens LA ≤ 2000
  · have e1 : decide (lens LA ≤ 2000) = true := by simpa using h1
    have e2 : decide (lens LB ≤ 2000) = false := by simp; omega
    go_enter Tryd.func5, Tryd.ntmps5
    go_wp2_with fail
    refine (awake5 _ (T.below b0)).mono ?_
    rintro e w1 ⟨rfl, hb1⟩
    have b1 := b0.trans (hb1.mono b0.size)
    go_wp2_with fail
    refine (short_any A n c LA w1 (hA.below b1) hLA).mono ?_
    rintro e w2 ⟨rfl, rfl⟩
    rw [e1]
    go_wp2_with fail
    refine (short_any B n2 c2 LB w1 (hB.below b1) hLB).mono ?_
    rintro e w2 ⟨rfl, rfl⟩
    rw [e2]
    go_wp2_with fail
    refine (awake5 _ (T.below b1)).mono ?_
    rintro e w2 ⟨rfl, hb2⟩
    go_wp2
    go_returns
    exact ⟨rfl, b1.trans (hb2.mono b1.size)⟩
  · have e1 : decide (lens LA ≤ 2000) = false := by simp; omega
    go_enter Tryd.func5, Tryd.ntmps5
    go_wp2_with fail
    refine (awake5 _ (T.below b0)).mono ?_
    rintro e w1 ⟨rfl, hb1⟩
    have b1 := b0.trans (hb1.mono b0.size)
    go_wp2_with fail
    refine (short_any A n c LA w1 (hA.below b1) hLA).mono ?_
    rintro e w2 ⟨rfl, rfl⟩
    rw [e1]
    go_wp2_with fail
    refine (awake5 _ (T.below b1)).mono ?_
    rintro e w2 ⟨rfl, hb2⟩
    go_wp2
    go_returns
    exact ⟨rfl, b1.trans (hb2.mono b1.size)⟩

set_option maxRecDepth 100000 in
set_option maxHeartbeats 2000000 in
theorem swaps_short (k : UInt8) (ta tb : Nat) (k2 : UInt8) (ua ub : Nat) (A : Option Addr) (n c : Nat) (LA : List (List UInt8)) (B : Option Addr) (n2 c2 : Nat) (LB : List (List UInt8)) (stop : Nat) (torn keep : Int) (w : World) (T : Chk.Tabs w) (hA : SeesAll w A n LA) (hB : SeesAll w B n2 LB)
    (hLA : lens LA ≤ 2000) (hLB : lens LB ≤ 2000) (ha : ta < 18446744073709551616) (hb : tb < 18446744073709551616) (ha2 : ua < 18446744073709551616) (hb2' : ub < 18446744073709551616) (hstop : stop < 256) (ht1 : -9223372036854775808 ≤ torn) (ht2 : torn ≤ 9223372036854775807) (hk1 : -9223372036854775808 ≤ keep) (hk2 : keep ≤ 9223372036854775807) :
    Calls Tryd.prog 5 #[titleV k ta tb, titleV k2 ua ub, .slice A n c, .slice B n2 c2, .int .u8 (stop : Int), .int .i64 torn, .int .i64 keep] w fun e w' => e = .returned (.bool true) ∧ Below w.heap.size w w' := by
  obtain ⟨b0, g0, g1⟩ := boxes2 w k ta tb k2 ua ub
  have e1 : decide (lens LA ≤ 2000) = true := by simpa using hLA
  have e2 : decide (lens LB ≤ 2000) = true := by simpa using hLB
  have hhl := headL_len (k := k) ha hb
  have htl := (titleL_len (k := k) ha hb).2
  have hhl2 := headL_len (k := k2) ha2 hb2'
  have htl2 := (titleL_len (k := k2) ha2 hb2').2
  have hwa := wraps_short hLA
  have hwb := wraps_short hLB
  have hla : (wholeL k ta tb LA).length ≤ 2100 := by unfold wholeL; rw [List.length_append]; omega
  have hlb : (wholeL k2 ua ub LB).length ≤ 2100 := by unfold wholeL; rw [List.length_append]; omega
  have LAYA := Lib.hid (fun (W : World) (hs : SeesAll W A n LA) => layLaw_any k ta tb A n c LA W ha hb hs (by omega))
  have LAYB := Lib.hid (fun (W : World) (hs : SeesAll W B n2 LB) => layLaw_any k2 ua ub B n2 c2 LB W ha2 hb2' hs (by omega))
  obtain ⟨wa, hwa'⟩ : ∃ wa, wa = wholeL k ta tb LA := ⟨_, rfl⟩
  obtain ⟨wb, hwb'⟩ : ∃ wb, wb = wholeL k2 ua ub LB := ⟨_, rfl⟩
  have swap1 := fun w0 W d T hs hd => swapL w0 W d [] ⟨65536, 0, -1, 0, false⟩ k ta tb A n c LA T hs ha hb hd (hd_fits5 (by simp) (by simp) (by simp) (by simp) (by simp) (by simp) (by simp)) (by simp) hLA (by simp [sumA]) (by simp)
    (swap_new (by omega) (by omega))
  rw [← hwa'] at swap1 hla LAYA
  rw [← hwb'] at hlb LAYB
  obtain ⟨st, hst⟩ : ∃ st, st = stop % 6 := ⟨_, rfl⟩
  obtain ⟨tn, htn⟩ : ∃ tn, tn = torn.tmod 500 := ⟨_, rfl⟩
  have hst6 : st < 6 := by omega
  have hmod1 : (stop : Int).tmod 6 = (st : Int) := by rw [hst]; rfl
  have htn1 : -500 < tn ∧ tn < 500 := by
    rw [htn]
    exact ⟨by have := Int.lt_tmod_of_pos torn (show (0 : Int) < 500 by decide); omega, Int.tmod_lt_of_pos torn (by decide)⟩
  obtain ⟨E, p, files, h, rest, har⟩ := armed_any st hst6 tn keep wa wb (by omega)
  obtain ⟨hsw, hcr, hrest, hcase, hs1, hs2, hacts, hroom, htorn, hfl⟩ := har
  have hpl : p.length ≤ 2100 := by rcases hcase with ⟨_, rfl⟩ | ⟨_, rfl⟩ <;> omega
  have swap2 := fun w0 W d T hs hd => swapL (E := E) (files' := files) (h' := h) w0 W d [⟨fN, wa, wa.length⟩] ⟨65536, 4, (st : Int), tn, false⟩ k2 ua ub B n2 c2 LB T hs ha2 hb2' hd (hd_fits5 (by simp) (by simp) (by simp) (by show _ ≤ (st : Int); omega) (by show (st : Int) ≤ _; omega) (by show _ ≤ tn; omega) (by show tn ≤ _; omega)) (by simp) hLB (by simp only [sumA]; omega) (by simp)
    (by rw [← hwb']; exact hsw)
  have hh3 : { h with off := false, left := -1 } = (⟨65536, h.acts, -1, tn, false⟩ : Hd) := by
    obtain ⟨q1, q2, q3, q4, q5⟩ := h
    simp only at hroom htorn ⊢
    rw [hroom, htorn]
  have hold := fun (r : List File) (hr : r = [] ∨ ∃ p2 n2, r = [⟨tN, p2, n2⟩]) => (show swapR ⟨65536, h.acts, -1, tn, false⟩ fN tN wb (⟨fN, p, p.length⟩ :: r) = (0, [⟨fN, wb, wb.length⟩], ⟨65536, h.acts + 4, -1, tn, false⟩) by
    rcases hr with rfl | ⟨p2, n2, rfl⟩
    · rw [swap_old (p2 := []) (n2 := 0) (by omega) [] (.inl rfl), if_pos (by omega)]
    · rw [swap_old (p2 := p2) (n2 := n2) (by omega) _ (.inr rfl), if_pos (by omega)])
  have swap3 := fun w0 W d T hs hd => swapL (E := 0) (files' := [⟨fN, wb, wb.length⟩]) (h' := ⟨65536, h.acts + 4, -1, tn, false⟩) w0 W d (⟨fN, p, p.length⟩ :: rest) ⟨65536, h.acts, -1, tn, false⟩ k2 ua ub B n2 c2 LB T hs ha2 hb2' hd (hd_fits5 (by simp) (by simp) (by show h.acts ≤ _; omega) (by simp) (by simp) (by show _ ≤ tn; omega) (by show tn ≤ _; omega)) (by show h.acts < _; omega) hLB (by simp only [sumA]; omega) (by rcases hrest with rfl | ⟨p2, n2, rfl⟩ <;> simp)
    (by rw [← hwb']; exact hold rest hrest)
  have HSUM : Hid (sumA (⟨fN, p, p.length⟩ :: rest) ≤ 1000000000000 ∧ sumA files ≤ 1000000000000) := ⟨by simp only [sumA]; omega, by omega⟩
  have SW1 := Lib.hid swap1
  have SW2 := Lib.hid swap2
  have SW3 := Lib.hid swap3
  have HCR := Lib.hid hcr
  have HH3 := Lib.hid hh3
  have HCASE := Lib.hid hcase
  unfold titleV at SW1 SW2 SW3 LAYA LAYB ⊢
  obtain ⟨na, hna⟩ : ∃ na, na = wa.length := ⟨_, rfl⟩
  obtain ⟨nb, hnb⟩ : ∃ nb, nb = wb.length := ⟨_, rfl⟩
  obtain ⟨np, hnp⟩ : ∃ np, np = p.length := ⟨_, rfl⟩
  rw [← hna] at LAYA
  rw [← hnb] at LAYB
  have HNP := Lib.hid hnp
  have HTN : Hid (tn = torn.tmod 500) := htn
  obtain ⟨sp, hsp'⟩ : ∃ sp, sp = (⟨p.toArray⟩ : ByteArray) := ⟨_, rfl⟩
  obtain ⟨sa, hsa'⟩ : ∃ sa, sa = (⟨wa.toArray⟩ : ByteArray) := ⟨_, rfl⟩
  obtain ⟨sb, hsb'⟩ : ∃ sb, sb = (⟨wb.toArray⟩ : ByteArray) := ⟨_, rfl⟩
  have HSP := Lib.hid hsp'
  have HSA := Lib.hid hsa'
  have HSB := Lib.hid hsb'
  obtain ⟨bo, hbo⟩ : ∃ bo, bo = (sp.toList == sa.toList) := ⟨_, rfl⟩
  obtain ⟨bn, hbn⟩ : ∃ bn, bn = (sp.toList == sb.toList) := ⟨_, rfl⟩
  have HBO : Hid ((sp.toList == sa.toList) = bo) := hbo.symm
  have HBN : Hid ((sp.toList == sb.toList) = bn) := hbn.symm
  have HEND : Hid ((E = 7 ∧ bo = true) ∨ (E = 0 ∧ bn = true)) := by
    rcases hcase with ⟨h1, h2⟩ | ⟨h1, h2⟩
    · exact .inl ⟨h1, by rw [hbo, hsp', hsa', h2]; simp⟩
    · exact .inr ⟨h1, by rw [hbn, hsp', hsb', h2]; simp⟩
  clear hhl htl hhl2 htl2 hwa hwb swap1 swap2 swap3 hwa' hwb' hst htn hsw hcr hrest hs1 hs2 hold hh3 hcase hna hnb hnp hsp' hsa' hsb' hbo hbn hacts hroom htorn hfl
  go_enter Tryd.func5, Tryd.ntmps5
  go_upto_region 1 with fail
  have hA0 := hA.below b0
  have hB0 := hB.below b0
  have T0 := T.below b0
  generalize (w.alloc (.cells #[.int .u8 (k.toNat : Int), .int .u64 (ta : Int), .int .u64 (tb : Int)] 24)).alloc (.cells #[.int .u8 (k2.toNat : Int), .int .u64 (ua : Int), .int .u64 (ub : Int)] 24) = w0 at b0 g0 g1 hA0 hB0 T0 ⊢
  clear hA hB T
  go_wp2_with fail
  refine (awake5 w0 T0).mono ?_
  rintro e w1 ⟨rfl, b1⟩
  go_wp2_with fail
  refine (short_any A n c LA w1 (hA0.below b1) (by omega)).mono ?_
  rintro e w2 ⟨rfl, rfl⟩
  rw [e1]
  go_wp2_with fail
  refine (short_any B n2 c2 LB w1 (hB0.below b1) (by omega)).mono ?_
  rintro e w2 ⟨rfl, rfl⟩
  rw [e2]
  clear e1 e2
  go_wp2_with fail
  refine (newL w0 w1 b1 65536).mono ?_
  rintro e w2 ⟨d, rfl, s2⟩
  obtain ⟨p0, p1, p2⟩ := (g0.below s2.below).cells
  go_wp2_with fail
  refine (SW1.out w0 w2 d T0 hA0 s2).mono ?_
  rintro e w3 ⟨rfl, s3⟩
  clear p0 p1 p2 s2
  go_wp2_with fail
  rw [← HTN.out]
  refine (armL w0 w3 d _ _ (st : Int) tn s3).mono ?_
  rintro e w4 ⟨rfl, s4⟩
  obtain ⟨p0, p1, p2⟩ := (g1.below s4.below).cells
  clear s3
  go_wp2_with fail
  refine (SW2.out w0 w4 d T0 hB0 s4).mono ?_
  rintro e w5 ⟨rfl, s5⟩
  clear p0 p1 p2 s4
  go_wp2_with fail
  refine (crashL w0 w5 d files h keep s5 HSUM.out.2 hk1 hk2).mono ?_
  rintro e w6 ⟨rfl, s6⟩
  rw [HCR.out, HH3.out] at s6
  clear s5
  go_wp2_with fail
  refine (readL w0 w6 d (⟨fN, p, p.length⟩ :: rest) ⟨65536, h.acts, -1, tn, false⟩ [102] p 0 s6 (by simp) HSUM.out.1 (by simp [readP, lookA]) (by simp [readE, lookA])).mono ?_
  rintro e w7 ⟨Ap, cp, rfl, hownp, hb7, s7⟩
  rw [← HNP.out] at hownp ⊢
  have hsp : Sees w7 Ap np p := Sees.of_own hownp
  have g07 := g0.below s7.below
  have g17 := g1.below s7.below
  clear hownp hb7 s6
  have b7 := s7.below
  have STRP : Hid (∀ W, Below w7.heap.size w7 W → (convert 37 9 (.slice Ap np cp)).run Tryd.prog W = .ok (.string sp) W) := fun W hR => by
    rw [HSP.out]
    exact (hsp.below hR).string cp Tryd.underlying37 Tryd.underlying5 Tryd.underlying9
  have STRA : Hid (∀ (W : World) (A' : Option Addr) (c' : Nat), Sees W A' na wa → (convert 37 9 (.slice A' na c')).run Tryd.prog W = .ok (.string sa) W) := fun W A' c' hs => by
    rw [HSA.out]
    exact hs.string c' Tryd.underlying37 Tryd.underlying5 Tryd.underlying9
  have STRB : Hid (∀ (W : World) (A' : Option Addr) (c' : Nat), Sees W A' nb wb → (convert 37 9 (.slice A' nb c')).run Tryd.prog W = .ok (.string sb) W) := fun W A' c' hs => by
    rw [HSB.out]
    exact hs.string c' Tryd.underlying37 Tryd.underlying5 Tryd.underlying9
  have STRP1 := Lib.hid (fun (W : World) (hR : Below w7.drew.heap.size w7.drew W) => STRP.out W ((Below.refl _ _).drew.trans hR))
  have LAYQA := Lib.hid (fun (W : World) (hR : Below w7.drew.heap.size w7.drew W) => LAYA.out W (hA0.below (b7.drew.trans (hR.mono b7.drew.size))))
  have CELLA := Lib.hid (fun (W : World) (hR : Below w7.drew.heap.size w7.drew W) => (TitleAt.cells (g07.below (w := W) (show Below w7.heap.size w7 W from ((Below.refl _ _).drew.trans hR)))))
  clear hsp
  go_wp2_with fail
  refine Facts.wp_region_preds (n := 100) (by kernel_rfl) (by kernel_rfl) rfl [Facts.Pred.is (Value.slice Ap np cp), Facts.Pred.is (Value.string sp), Facts.Pred.is (Value.agg #[.int .u8 (k.toNat : Int), .int .u64 (ta : Int), .int .u64 (tb : Int)]), Facts.Pred.is (Value.slice A n c), Facts.Pred.shows na wa, Facts.Pred.is (.string sa), Facts.Pred.is (Value.bool bo), Facts.Pred.is (Value.bool bo)] ?_ ?_
  · refine ⟨?_, ?_, ?_, ?_, ?_, ?_, ?_, ?_, trivial⟩
    · refine Facts.step_is (Value.slice Ap np cp) fun a W hR hold hnew => ?_
      have f17 : a.tmps.getD 17 undef = Value.slice Ap np cp := hold 17 (by kernel_rfl)
      refine ⟨Facts.wanted_free rfl, ?_, fun _ => rfl⟩
      simp [go_sem, Act.eval, f17]
    · refine Facts.step_is (Value.string sp) fun a W hR hold hnew => ?_
      have f61 : a.tmps.getD 61 undef = Value.slice Ap np cp := hnew 0 61 (by kernel_rfl)
      have r := STRP1.out W hR
      refine ⟨Facts.wanted_free rfl, ?_, fun _ => rfl⟩
      simp [go_sem, Act.eval, f61, r]
    · refine Facts.step_is (Value.agg #[.int .u8 (k.toNat : Int), .int .u64 (ta : Int), .int .u64 (tb : Int)]) fun a W hR hold hnew => ?_
      have f7 : a.tmps.getD 7 undef = Value.pointer (some ⟨w.heap.size, 0, none⟩) := hold 7 (by kernel_rfl)
      obtain ⟨q0, q1, q2⟩ := CELLA.out W hR
      refine ⟨Facts.wanted_free rfl, ?_, fun _ => rfl⟩
      simp [go_sem, Act.eval, f7, q0, q1, q2]
    · refine Facts.step_is (Value.slice A n c) fun a W hR hold hnew => ?_
      have f2 : a.tmps.getD 2 undef = Value.slice A n c := hold 2 (by kernel_rfl)
      refine ⟨Facts.wanted_free rfl, ?_, fun _ => rfl⟩
      simp [go_sem, Act.eval, f2]
    · -- 4: Op.call { value (Operand.func 16), args := #[t63, t64], argT
      refine Facts.step_call fun a W hR hold hnew => ?_
      have f63 : a.tmps.getD 63 undef = Value.agg #[.int .u8 (k.toNat : Int), .int .u64 (ta : Int), .int .u64 (tb : Int)] := hnew 2 63 (by kernel_rfl); have f64 : a.tmps.getD 64 undef = Value.slice A n c := hnew 3 64 (by kernel_rfl)
      refine ⟨Facts.wanted_free rfl, 16, #[Value.agg #[.int .u8 (k.toNat : Int), .int .u64 (ta : Int), .int .u64 (tb : Int)], Value.slice A n c], by simp [go_sem, Act.eval, f63, f64], ?_⟩
      refine (LAYQA.out W hR).mono ?_
      rintro e w7 ⟨A7, c7, rfl, hown7, hb7⟩
      exact ⟨_, rfl, hb7, A7, c7, rfl, Sees.of_own hown7⟩
    · -- 5: Op.convert 37 9 t65
      refine Facts.step_is (.string sa) fun a W hR hold hnew => ?_
      have h65 : ∃ A' c', a.tmps.getD 65 undef = .slice A' na c' ∧ Sees W A' na wa := hnew 4 65 (by kernel_rfl)
      obtain ⟨A7, c7, f65, hs7⟩ := h65
      have r := STRA.out W A7 c7 hs7
      refine ⟨Facts.wanted_free rfl, ?_, fun _ => rfl⟩
      simp [go_sem, Act.eval, f65, r]
    · refine Facts.step_is (Value.bool bo) fun a W hR hold hnew => ?_
      have f62 : a.tmps.getD 62 undef = Value.string sp := hnew 1 62 (by kernel_rfl)
      have f66 : a.tmps.getD 66 undef = Value.string sa := hnew 5 66 (by kernel_rfl)
      refine ⟨Facts.wanted_free rfl, ?_, fun _ => rfl⟩
      simp [go_sem, Act.eval, f62, f66, HBO.out]
    · refine Facts.step_is (Value.bool bo) fun a W hR hold hnew => ?_
      have f67 : a.tmps.getD 67 undef = Value.bool bo := hnew 6 67 (by kernel_rfl)
      refine ⟨Facts.wanted_free rfl, ?_, fun _ => rfl⟩
      simp [go_sem, Act.eval, f67]
  · intro a' W hR hsize hdef hnew hold
    have fo : a'.tmps.getD 19 undef = .bool bo := hnew 7 19 (by kernel_rfl)
    have f3 : a'.tmps.getD 3 undef = Value.slice B n2 c2 := hold 3 (Facts.not_dst (by kernel_rfl))
    have f8 : a'.tmps.getD 8 undef = Value.pointer (some ⟨w.heap.size + 1, 0, none⟩) := hold 8 (Facts.not_dst (by kernel_rfl))
    have f14 : a'.tmps.getD 14 undef = Value.bool false := hold 14 (Facts.not_dst (by kernel_rfl))
    have f15 : a'.tmps.getD 15 undef = Value.pointer (some ⟨d, 0, none⟩) := hold 15 (Facts.not_dst (by kernel_rfl))
    have f16 : a'.tmps.getD 16 undef = Value.int .i64 E := hold 16 (Facts.not_dst (by kernel_rfl))
    have f17 : a'.tmps.getD 17 undef = Value.slice Ap np cp := hold 17 (Facts.not_dst (by kernel_rfl))
    have f19 : a'.tmps.getD 19 undef = Value.bool bo := fo
    obtain ⟨tm, df⟩ := a'
    simp only [] at hdef hsize f3 f8 f14 f15 f16 f17 f19
    have hlit : tm = #[tm.getD 0 undef, tm.getD 1 undef, tm.getD 2 undef, tm.getD 3 undef, tm.getD 4 undef, tm.getD 5 undef, tm.getD 6 undef, tm.getD 7 undef, tm.getD 8 undef, tm.getD 9 undef, tm.getD 10 undef, tm.getD 11 undef, tm.getD 12 undef, tm.getD 13 undef, tm.getD 14 undef, tm.getD 15 undef, tm.getD 16 undef, tm.getD 17 undef, tm.getD 18 undef, tm.getD 19 undef, tm.getD 20 undef, tm.getD 21 undef, tm.getD 22 undef, tm.getD 23 undef, tm.getD 24 undef, tm.getD 25 undef, tm.getD 26 undef, tm.getD 27 undef, tm.getD 28 undef, tm.getD 29 undef, tm.getD 30 undef, tm.getD 31 undef, tm.getD 32 undef, tm.getD 33 undef, tm.getD 34 undef, tm.getD 35 undef, tm.getD 36 undef, tm.getD 37 undef, tm.getD 38 undef, tm.getD 39 undef, tm.getD 40 undef, tm.getD 41 undef, tm.getD 42 undef, tm.getD 43 undef, tm.getD 44 undef, tm.getD 45 undef, tm.getD 46 undef, tm.getD 47 undef, tm.getD 48 undef, tm.getD 49 undef, tm.getD 50 undef, tm.getD 51 undef, tm.getD 52 undef, tm.getD 53 undef, tm.getD 54 undef, tm.getD 55 undef, tm.getD 56 undef, tm.getD 57 undef, tm.getD 58 undef, tm.getD 59 undef, tm.getD 60 undef, tm.getD 61 undef, tm.getD 62 undef, tm.getD 63 undef, tm.getD 64 undef, tm.getD 65 undef, tm.getD 66 undef, tm.getD 67 undef, tm.getD 68 undef, tm.getD 69 undef, tm.getD 70 undef, tm.getD 71 undef, tm.getD 72 undef, tm.getD 73 undef, tm.getD 74 undef, tm.getD 75 undef, tm.getD 76 undef, tm.getD 77 undef, tm.getD 78 undef, tm.getD 79 undef, tm.getD 80 undef, tm.getD 81 undef, tm.getD 82 undef, tm.getD 83 undef, tm.getD 84 undef, tm.getD 85 undef, tm.getD 86 undef, tm.getD 87 undef, tm.getD 88 undef, tm.getD 89 undef, tm.getD 90 undef, tm.getD 91 undef, tm.getD 92 undef, tm.getD 93 undef, tm.getD 94 undef, tm.getD 95 undef, tm.getD 96 undef, tm.getD 97 undef, tm.getD 98 undef, tm.getD 99 undef] := (Facts.array_lit tm hsize).trans rfl
    rw [f3, f8, f14, f15, f16, f17, f19] at hlit
    clear f3 f8 f14 f15 f16 f17 f19 hsize hnew hold fo
    generalize tm.getD 0 undef = x0 at hlit
    generalize tm.getD 1 undef = x1 at hlit
    generalize tm.getD 2 undef = x2 at hlit
    generalize tm.getD 4 undef = x4 at hlit
    generalize tm.getD 5 undef = x5 at hlit
    generalize tm.getD 6 undef = x6 at hlit
    generalize tm.getD 7 undef = x7 at hlit
    generalize tm.getD 9 undef = x9 at hlit
    generalize tm.getD 10 undef = x10 at hlit
    generalize tm.getD 11 undef = x11 at hlit
    generalize tm.getD 12 undef = x12 at hlit
    generalize tm.getD 13 undef = x13 at hlit
    generalize tm.getD 18 undef = x18 at hlit
    generalize tm.getD 20 undef = x20 at hlit
    generalize tm.getD 21 undef = x21 at hlit
    generalize tm.getD 22 undef = x22 at hlit
    generalize tm.getD 23 undef = x23 at hlit
    generalize tm.getD 24 undef = x24 at hlit
    generalize tm.getD 25 undef = x25 at hlit
    generalize tm.getD 26 undef = x26 at hlit
    generalize tm.getD 27 undef = x27 at hlit
    generalize tm.getD 28 undef = x28 at hlit
    generalize tm.getD 29 undef = x29 at hlit
    generalize tm.getD 30 undef = x30 at hlit
    generalize tm.getD 31 undef = x31 at hlit
    generalize tm.getD 32 undef = x32 at hlit
    generalize tm.getD 33 undef = x33 at hlit
    generalize tm.getD 34 undef = x34 at hlit
    generalize tm.getD 35 undef = x35 at hlit
    generalize tm.getD 36 undef = x36 at hlit
    generalize tm.getD 37 undef = x37 at hlit
    generalize tm.getD 38 undef = x38 at hlit
    generalize tm.getD 39 undef = x39 at hlit
    generalize tm.getD 40 undef = x40 at hlit
    generalize tm.getD 41 undef = x41 at hlit
    generalize tm.getD 42 undef = x42 at hlit
    generalize tm.getD 43 undef = x43 at hlit
    generalize tm.getD 44 undef = x44 at hlit
    generalize tm.getD 45 undef = x45 at hlit
    generalize tm.getD 46 undef = x46 at hlit
    generalize tm.getD 47 undef = x47 at hlit
    generalize tm.getD 48 undef = x48 at hlit
    generalize tm.getD 49 undef = x49 at hlit
    generalize tm.getD 50 undef = x50 at hlit
    generalize tm.getD 51 undef = x51 at hlit
    generalize tm.getD 52 undef = x52 at hlit
    generalize tm.getD 53 undef = x53 at hlit
    generalize tm.getD 54 undef = x54 at hlit
    generalize tm.getD 55 undef = x55 at hlit
    generalize tm.getD 56 undef = x56 at hlit
    generalize tm.getD 57 undef = x57 at hlit
    generalize tm.getD 58 undef = x58 at hlit
    generalize tm.getD 59 undef = x59 at hlit
    generalize tm.getD 60 undef = x60 at hlit
    generalize tm.getD 61 undef = x61 at hlit
    generalize tm.getD 62 undef = x62 at hlit
    generalize tm.getD 63 undef = x63 at hlit
    generalize tm.getD 64 undef = x64 at hlit
    generalize tm.getD 65 undef = x65 at hlit
    generalize tm.getD 66 undef = x66 at hlit
    generalize tm.getD 67 undef = x67 at hlit
    generalize tm.getD 68 undef = x68 at hlit
    generalize tm.getD 69 undef = x69 at hlit
    generalize tm.getD 70 undef = x70 at hlit
    generalize tm.getD 71 undef = x71 at hlit
    generalize tm.getD 72 undef = x72 at hlit
    generalize tm.getD 73 undef = x73 at hlit
    generalize tm.getD 74 undef = x74 at hlit
    generalize tm.getD 75 undef = x75 at hlit
    generalize tm.getD 76 undef = x76 at hlit
    generalize tm.getD 77 undef = x77 at hlit
    generalize tm.getD 78 undef = x78 at hlit
    generalize tm.getD 79 undef = x79 at hlit
    generalize tm.getD 80 undef = x80 at hlit
    generalize tm.getD 81 undef = x81 at hlit
    generalize tm.getD 82 undef = x82 at hlit
    generalize tm.getD 83 undef = x83 at hlit
    generalize tm.getD 84 undef = x84 at hlit
    generalize tm.getD 85 undef = x85 at hlit
    generalize tm.getD 86 undef = x86 at hlit
    generalize tm.getD 87 undef = x87 at hlit
    generalize tm.getD 88 undef = x88 at hlit
    generalize tm.getD 89 undef = x89 at hlit
    generalize tm.getD 90 undef = x90 at hlit
    generalize tm.getD 91 undef = x91 at hlit
    generalize tm.getD 92 undef = x92 at hlit
    generalize tm.getD 93 undef = x93 at hlit
    generalize tm.getD 94 undef = x94 at hlit
    generalize tm.getD 95 undef = x95 at hlit
    generalize tm.getD 96 undef = x96 at hlit
    generalize tm.getD 97 undef = x97 at hlit
    generalize tm.getD 98 undef = x98 at hlit
    generalize tm.getD 99 undef = x99 at hlit
    subst hlit
    subst hdef
    simp only []
    have b8 : Below w7.heap.size w7 W := (Below.refl _ _).drew.trans hR
    have s8 := s7.after b8
    have g18 := g17.below b8
    have b08 := s8.below
    have STRP2 := Lib.hid (fun (W2 : World) (hR2 : Below W.drew.heap.size W.drew W2) => STRP.out W2 (b8.trans (((Below.refl W.heap.size W).drew.trans hR2).mono b8.size)))
    have LAYQB := Lib.hid (fun (W2 : World) (hR2 : Below W.drew.heap.size W.drew W2) => LAYB.out W2 (hB0.below (b08.drew.trans (hR2.mono b08.drew.size))))
    have CELLB := Lib.hid (fun (W2 : World) (hR2 : Below W.drew.heap.size W.drew W2) => (TitleAt.cells (g18.below (w := W2) (show Below W.heap.size W W2 from ((Below.refl _ _).drew.trans hR2)))))
    have HW := Lib.hid b8
    clear hR s7 b7 g07 g17 LAYQA CELLA STRP1 b8
    go_wp2_with fail
    refine Facts.wp_region_preds (n := 100) (by kernel_rfl) (by kernel_rfl) rfl [Facts.Pred.is (Value.slice Ap np cp), Facts.Pred.is (Value.string sp), Facts.Pred.is (Value.agg #[.int .u8 (k2.toNat : Int), .int .u64 (ua : Int), .int .u64 (ub : Int)]), Facts.Pred.is (Value.slice B n2 c2), Facts.Pred.shows nb wb, Facts.Pred.is (.string sb), Facts.Pred.is (Value.bool bn), Facts.Pred.is (Value.bool bn)] ?_ ?_
    · refine ⟨?_, ?_, ?_, ?_, ?_, ?_, ?_, ?_, trivial⟩
      · refine Facts.step_is (Value.slice Ap np cp) fun a W2 hR hold hnew => ?_
        have f17 : a.tmps.getD 17 undef = Value.slice Ap np cp := hold 17 (by kernel_rfl)
        refine ⟨Facts.wanted_free rfl, ?_, fun _ => rfl⟩
        simp [go_sem, Act.eval, f17]
      · refine Facts.step_is (Value.string sp) fun a W2 hR hold hnew => ?_
        have f68 : a.tmps.getD 68 undef = Value.slice Ap np cp := hnew 0 68 (by kernel_rfl)
        have r := STRP2.out W2 hR
        refine ⟨Facts.wanted_free rfl, ?_, fun _ => rfl⟩
        simp [go_sem, Act.eval, f68, r]
      · refine Facts.step_is (Value.agg #[.int .u8 (k2.toNat : Int), .int .u64 (ua : Int), .int .u64 (ub : Int)]) fun a W2 hR hold hnew => ?_
        have f8 : a.tmps.getD 8 undef = Value.pointer (some ⟨w.heap.size + 1, 0, none⟩) := hold 8 (by kernel_rfl)
        obtain ⟨q0, q1, q2⟩ := CELLB.out W2 hR
        refine ⟨Facts.wanted_free rfl, ?_, fun _ => rfl⟩
        simp [go_sem, Act.eval, f8, q0, q1, q2]
      · refine Facts.step_is (Value.slice B n2 c2) fun a W2 hR hold hnew => ?_
        have f3 : a.tmps.getD 3 undef = Value.slice B n2 c2 := hold 3 (by kernel_rfl)
        refine ⟨Facts.wanted_free rfl, ?_, fun _ => rfl⟩
        simp [go_sem, Act.eval, f3]
      · -- 4: Op.call { value (Operand.func 16), args := #[t70, t71], argT
        refine Facts.step_call fun a W2 hR hold hnew => ?_
        have f70 : a.tmps.getD 70 undef = Value.agg #[.int .u8 (k2.toNat : Int), .int .u64 (ua : Int), .int .u64 (ub : Int)] := hnew 2 70 (by kernel_rfl); have f71 : a.tmps.getD 71 undef = Value.slice B n2 c2 := hnew 3 71 (by kernel_rfl)
        refine ⟨Facts.wanted_free rfl, 16, #[Value.agg #[.int .u8 (k2.toNat : Int), .int .u64 (ua : Int), .int .u64 (ub : Int)], Value.slice B n2 c2], by simp [go_sem, Act.eval, f70, f71], ?_⟩
        refine (LAYQB.out W2 hR).mono ?_
        rintro e w7 ⟨A7, c7, rfl, hown7, hb7⟩
        exact ⟨_, rfl, hb7, A7, c7, rfl, Sees.of_own hown7⟩
      · -- 5: Op.convert 37 9 t72
        refine Facts.step_is (.string sb) fun a W2 hR hold hnew => ?_
        have h72 : ∃ A' c', a.tmps.getD 72 undef = .slice A' nb c' ∧ Sees W2 A' nb wb := hnew 4 72 (by kernel_rfl)
        obtain ⟨A7, c7, f72, hs7⟩ := h72
        have r := STRB.out W2 A7 c7 hs7
        refine ⟨Facts.wanted_free rfl, ?_, fun _ => rfl⟩
        simp [go_sem, Act.eval, f72, r]
      · refine Facts.step_is (Value.bool bn) fun a W2 hR hold hnew => ?_
        have f69 : a.tmps.getD 69 undef = Value.string sp := hnew 1 69 (by kernel_rfl)
        have f73 : a.tmps.getD 73 undef = Value.string sb := hnew 5 73 (by kernel_rfl)
        refine ⟨Facts.wanted_free rfl, ?_, fun _ => rfl⟩
        simp [go_sem, Act.eval, f69, f73, HBN.out]
      · refine Facts.step_is (Value.bool bn) fun a W2 hR hold hnew => ?_
        have f74 : a.tmps.getD 74 undef = Value.bool bn := hnew 6 74 (by kernel_rfl)
        refine ⟨Facts.wanted_free rfl, ?_, fun _ => rfl⟩
        simp [go_sem, Act.eval, f74]
    · intro a' W2 hR hsize hdef hnew hold
      have fo : a'.tmps.getD 20 undef = .bool bn := hnew 7 20 (by kernel_rfl)
      have f3 : a'.tmps.getD 3 undef = Value.slice B n2 c2 := hold 3 (Facts.not_dst (by kernel_rfl))
      have f8 : a'.tmps.getD 8 undef = Value.pointer (some ⟨w.heap.size + 1, 0, none⟩) := hold 8 (Facts.not_dst (by kernel_rfl))
      have f14 : a'.tmps.getD 14 undef = Value.bool false := hold 14 (Facts.not_dst (by kernel_rfl))
      have f15 : a'.tmps.getD 15 undef = Value.pointer (some ⟨d, 0, none⟩) := hold 15 (Facts.not_dst (by kernel_rfl))
      have f16 : a'.tmps.getD 16 undef = Value.int .i64 E := hold 16 (Facts.not_dst (by kernel_rfl))
      have f19 : a'.tmps.getD 19 undef = Value.bool bo := hold 19 (Facts.not_dst (by kernel_rfl))
      have f20 : a'.tmps.getD 20 undef = Value.bool bn := fo
      obtain ⟨tm, df⟩ := a'
      simp only [] at hdef hsize f3 f8 f14 f15 f16 f19 f20
      have hlit : tm = #[tm.getD 0 undef, tm.getD 1 undef, tm.getD 2 undef, tm.getD 3 undef, tm.getD 4 undef, tm.getD 5 undef, tm.getD 6 undef, tm.getD 7 undef, tm.getD 8 undef, tm.getD 9 undef, tm.getD 10 undef, tm.getD 11 undef, tm.getD 12 undef, tm.getD 13 undef, tm.getD 14 undef, tm.getD 15 undef, tm.getD 16 undef, tm.getD 17 undef, tm.getD 18 undef, tm.getD 19 undef, tm.getD 20 undef, tm.getD 21 undef, tm.getD 22 undef, tm.getD 23 undef, tm.getD 24 undef, tm.getD 25 undef, tm.getD 26 undef, tm.getD 27 undef, tm.getD 28 undef, tm.getD 29 undef, tm.getD 30 undef, tm.getD 31 undef, tm.getD 32 undef, tm.getD 33 undef, tm.getD 34 undef, tm.getD 35 undef, tm.getD 36 undef, tm.getD 37 undef, tm.getD 38 undef, tm.getD 39 undef, tm.getD 40 undef, tm.getD 41 undef, tm.getD 42 undef, tm.getD 43 undef, tm.getD 44 undef, tm.getD 45 undef, tm.getD 46 undef, tm.getD 47 undef, tm.getD 48 undef, tm.getD 49 undef, tm.getD 50 undef, tm.getD 51 undef, tm.getD 52 undef, tm.getD 53 undef, tm.getD 54 undef, tm.getD 55 undef, tm.getD 56 undef, tm.getD 57 undef, tm.getD 58 undef, tm.getD 59 undef, tm.getD 60 undef, tm.getD 61 undef, tm.getD 62 undef, tm.getD 63 undef, tm.getD 64 undef, tm.getD 65 undef, tm.getD 66 undef, tm.getD 67 undef, tm.getD 68 undef, tm.getD 69 undef, tm.getD 70 undef, tm.getD 71 undef, tm.getD 72 undef, tm.getD 73 undef, tm.getD 74 undef, tm.getD 75 undef, tm.getD 76 undef, tm.getD 77 undef, tm.getD 78 undef, tm.getD 79 undef, tm.getD 80 undef, tm.getD 81 undef, tm.getD 82 undef, tm.getD 83 undef, tm.getD 84 undef, tm.getD 85 undef, tm.getD 86 undef, tm.getD 87 undef, tm.getD 88 undef, tm.getD 89 undef, tm.getD 90 undef, tm.getD 91 undef, tm.getD 92 undef, tm.getD 93 undef, tm.getD 94 undef, tm.getD 95 undef, tm.getD 96 undef, tm.getD 97 undef, tm.getD 98 undef, tm.getD 99 undef] := (Facts.array_lit tm hsize).trans rfl
      rw [f3, f8, f14, f15, f16, f19, f20] at hlit
      clear f3 f8 f14 f15 f16 f19 f20 hsize hnew hold fo
      generalize tm.getD 0 undef = x0 at hlit
      generalize tm.getD 1 undef = x1 at hlit
      generalize tm.getD 2 undef = x2 at hlit
      generalize tm.getD 4 undef = x4 at hlit
      generalize tm.getD 5 undef = x5 at hlit
      generalize tm.getD 6 undef = x6 at hlit
      generalize tm.getD 7 undef = x7 at hlit
      generalize tm.getD 9 undef = x9 at hlit
      generalize tm.getD 10 undef = x10 at hlit
      generalize tm.getD 11 undef = x11 at hlit
      generalize tm.getD 12 undef = x12 at hlit
      generalize tm.getD 13 undef = x13 at hlit
      generalize tm.getD 17 undef = x17 at hlit
      generalize tm.getD 18 undef = x18 at hlit
      generalize tm.getD 21 undef = x21 at hlit
      generalize tm.getD 22 undef = x22 at hlit
      generalize tm.getD 23 undef = x23 at hlit
      generalize tm.getD 24 undef = x24 at hlit
      generalize tm.getD 25 undef = x25 at hlit
      generalize tm.getD 26 undef = x26 at hlit
      generalize tm.getD 27 undef = x27 at hlit
      generalize tm.getD 28 undef = x28 at hlit
      generalize tm.getD 29 undef = x29 at hlit
      generalize tm.getD 30 undef = x30 at hlit
      generalize tm.getD 31 undef = x31 at hlit
      generalize tm.getD 32 undef = x32 at hlit
      generalize tm.getD 33 undef = x33 at hlit
      generalize tm.getD 34 undef = x34 at hlit
      generalize tm.getD 35 undef = x35 at hlit
      generalize tm.getD 36 undef = x36 at hlit
      generalize tm.getD 37 undef = x37 at hlit
      generalize tm.getD 38 undef = x38 at hlit
      generalize tm.getD 39 undef = x39 at hlit
      generalize tm.getD 40 undef = x40 at hlit
      generalize tm.getD 41 undef = x41 at hlit
      generalize tm.getD 42 undef = x42 at hlit
      generalize tm.getD 43 undef = x43 at hlit
      generalize tm.getD 44 undef = x44 at hlit
      generalize tm.getD 45 undef = x45 at hlit
      generalize tm.getD 46 undef = x46 at hlit
      generalize tm.getD 47 undef = x47 at hlit
      generalize tm.getD 48 undef = x48 at hlit
      generalize tm.getD 49 undef = x49 at hlit
      generalize tm.getD 50 undef = x50 at hlit
      generalize tm.getD 51 undef = x51 at hlit
      generalize tm.getD 52 undef = x52 at hlit
      generalize tm.getD 53 undef = x53 at hlit
      generalize tm.getD 54 undef = x54 at hlit
      generalize tm.getD 55 undef = x55 at hlit
      generalize tm.getD 56 undef = x56 at hlit
      generalize tm.getD 57 undef = x57 at hlit
      generalize tm.getD 58 undef = x58 at hlit
      generalize tm.getD 59 undef = x59 at hlit
      generalize tm.getD 60 undef = x60 at hlit
      generalize tm.getD 61 undef = x61 at hlit
      generalize tm.getD 62 undef = x62 at hlit
      generalize tm.getD 63 undef = x63 at hlit
      generalize tm.getD 64 undef = x64 at hlit
      generalize tm.getD 65 undef = x65 at hlit
      generalize tm.getD 66 undef = x66 at hlit
      generalize tm.getD 67 undef = x67 at hlit
      generalize tm.getD 68 undef = x68 at hlit
      generalize tm.getD 69 undef = x69 at hlit
      generalize tm.getD 70 undef = x70 at hlit
      generalize tm.getD 71 undef = x71 at hlit
      generalize tm.getD 72 undef = x72 at hlit
      generalize tm.getD 73 undef = x73 at hlit
      generalize tm.getD 74 undef = x74 at hlit
      generalize tm.getD 75 undef = x75 at hlit
      generalize tm.getD 76 undef = x76 at hlit
      generalize tm.getD 77 undef = x77 at hlit
      generalize tm.getD 78 undef = x78 at hlit
      generalize tm.getD 79 undef = x79 at hlit
      generalize tm.getD 80 undef = x80 at hlit
      generalize tm.getD 81 undef = x81 at hlit
      generalize tm.getD 82 undef = x82 at hlit
      generalize tm.getD 83 undef = x83 at hlit
      generalize tm.getD 84 undef = x84 at hlit
      generalize tm.getD 85 undef = x85 at hlit
      generalize tm.getD 86 undef = x86 at hlit
      generalize tm.getD 87 undef = x87 at hlit
      generalize tm.getD 88 undef = x88 at hlit
      generalize tm.getD 89 undef = x89 at hlit
      generalize tm.getD 90 undef = x90 at hlit
      generalize tm.getD 91 undef = x91 at hlit
      generalize tm.getD 92 undef = x92 at hlit
      generalize tm.getD 93 undef = x93 at hlit
      generalize tm.getD 94 undef = x94 at hlit
      generalize tm.getD 95 undef = x95 at hlit
      generalize tm.getD 96 undef = x96 at hlit
      generalize tm.getD 97 undef = x97 at hlit
      generalize tm.getD 98 undef = x98 at hlit
      generalize tm.getD 99 undef = x99 at hlit
      subst hlit
      subst hdef
      simp only []
      have b9 : Below W.heap.size W W2 := (Below.refl _ _).drew.trans hR
      have s9 := s8.after b9
      obtain ⟨p0, p1, p2⟩ := (g18.below b9).cells
      clear hR s8 g18 b08 LAYQB CELLB STRP2 STRP STRA STRB b9 HW
      have FIN : ∀ w'' : World, Below w0.heap.size w0 w'' → Below w.heap.size w w'' := fun w'' hx => b0.trans (hx.mono b0.size)
      rcases HEND.out with ⟨rfl, rfl⟩ | ⟨rfl, rfl⟩
      · go_wp2_with fail
        refine (SW3.out w0 W2 d T0 hB0 s9).mono ?_
        rintro e w10 ⟨rfl, s10⟩
        go_wp2_with fail
        refine (namesL w0 w10 d _ _ s10 rfl (by simp)).mono ?_
        rintro e w11 ⟨An, cn, rfl, hb11⟩
        go_wp2
        go_ret
        exact ⟨rfl, FIN _ (s10.below.trans (hb11.mono s10.below.size))⟩
      · cases bo with
        | true =>
          go_wp2_with fail
          refine (SW3.out w0 W2 d T0 hB0 s9).mono ?_
          rintro e w10 ⟨rfl, s10⟩
          go_wp2_with fail
          refine (namesL w0 w10 d _ _ s10 rfl (by simp)).mono ?_
          rintro e w11 ⟨An, cn, rfl, hb11⟩
          go_wp2
          go_ret
          exact ⟨rfl, FIN _ (s10.below.trans (hb11.mono s10.below.size))⟩
        | false =>
          go_wp2_with fail
          refine (SW3.out w0 W2 d T0 hB0 s9).mono ?_
          rintro e w10 ⟨rfl, s10⟩
          go_wp2_with fail
          refine (namesL w0 w10 d _ _ s10 rfl (by simp)).mono ?_
          rintro e w11 ⟨An, cn, rfl, hb11⟩
          go_wp2
          go_ret
          exact ⟨rfl, FIN _ (s10.below.trans (hb11.mono s10.below.size))⟩
end Go.Proofs.YtfdnlgigllflfaaDoor.Sht
