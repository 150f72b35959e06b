/- EventSame, walked. -/
import Derived.Test.YtpakjlgohbofhaaEvLaw
namespace Go.Proofs.Ytpakjlgohbofhaa.Evt
open Go Go.RowKit Go.Proofs.Ytpakjlgohbofhaa.Words Go.Proofs.Ytpakjlgohbofhaa.Enc Go.Proofs.Ytpakjlgohbofhaa.Q Go.Proofs.Ytpakjlgohbofhaa.Made
set_option linter.unusedVariables false

/-- The value is what Plain answers. -/
def plainPred (e : Ev) : Facts.Pred := ⟨fun v w => ∃ A n c, v = (plainE e).val A n c ∧ Sees w A n (plainE e).text, fun _ _ _ ⟨A, n, c, h, hs⟩ hb => ⟨A, n, c, h, hs.below hb⟩⟩
theorem boxes2 (a b : Array Value) (T : TypeId) (w : World) {W : World} (hW : Below (w.heap.size + 2) ((w.alloc (.cells a T)).alloc (.cells b T)) W) :
    W.heap[w.heap.size]? = some (.cells a T (0, 0)) ∧ W.heap[w.heap.size + 1]? = some (.cells b T (0, 0)) ∧ Below w.heap.size w W ∧ w.heap.size + 2 ≤ W.heap.size := by
  have b0 := ((Below.refl w.heap.size w).alloc (Nat.le_refl _) (.cells a T)).alloc (by simp) (.cells b T)
  refine ⟨?_, ?_, b0.trans (hW.mono (by omega)), by have := hW.size; simp at this; omega⟩
  · rw [hW.block w.heap.size (by omega), Below.heap_alloc _ _ _ (by simp)]
    exact heap_alloc_new w _
  · rw [hW.block (w.heap.size + 1) (by omega)]
    have := heap_alloc_new (w.alloc (.cells a T)) (.cells b T)
    simpa using this

set_option maxRecDepth 100000 in
set_option maxHeartbeats 2000000 in
theorem same_law (a b : Ev) (A B : Option Addr) (n c m k how : Nat) (one : Bool) (w : World) (hfa : a.Fit) (hfb : b.Fit) (hsa : Sees w A n a.text) (hsb : Sees w B m b.text) (hn : n ≤ 140737488355328) (hm : m ≤ 140737488355328)
    (hka : a.key.size ≤ 9223372036854775807) (hkb : b.key.size ≤ 9223372036854775807) :
    Calls Try.prog 5 #[a.val A n c, b.val B m k, .int .u8 (how : Int), .bool one] w fun e' w' => e' = .returned (.bool true) ∧ Below w.heap.size w w' := by
  show Calls _ _ #[.agg (a.row A n c), .agg (b.row B m k), _, _] _ _
  unfold Ev.row
  have hsf := store_float Try.prog
  have hbx : ∀ W, Below (w.heap.size + 2) ((w.alloc (.cells #[.int .i64 a.writer, .int .u64 (a.seq : Int), .int .u64 (a.time : Int), .int .u8 (a.kind : Int), .string a.key, .slice A n c, .float .f64 a.num, .int .i64 a.node] 26)).alloc (.cells #[.int .i64 b.writer, .int .u64 (b.seq : Int), .int .u64 (b.time : Int), .int .u8 (b.kind : Int), .string b.key, .slice B m k, .float .f64 b.num, .int .i64 b.node] 26)) W → _ := fun W hW => boxes2 _ _ _ w hW
  have HBX := Lib.hid hbx
  clear hbx
  by_cases h1 : 64 < a.key.size
  · go_enter Try.func5, Try.ntmps5
    go_wp2_with fail
    refine (awake_any _).mono ?_
    rintro e' u1 ⟨rfl, hb⟩
    obtain ⟨g0, g1, bel, hz⟩ := HBX.out u1 (hb.mono (by simp))
    obtain ⟨p0, p1, p2, p3, p4, p5, p6, p7⟩ := box8 g0
    obtain ⟨r0, r1, r2, r3, r4, r5, r6, r7⟩ := box8 g1
    go_wp2_with fail
    refine (awake_any _).mono ?_
    rintro e' u2 ⟨rfl, hb2⟩
    have bel2 := bel.trans (hb2.mono (by omega))
    clear p0 p1 p2 p3 p4 p5 p6 p7 r0 r1 r2 r3 r4 r5 r6 r7
    go_wp2
    go_ret
    exact ⟨rfl, bel2⟩
  by_cases h2 : 64 < b.key.size
  · go_enter Try.func5, Try.ntmps5
    go_wp2_with fail
    refine (awake_any _).mono ?_
    rintro e' u1 ⟨rfl, hb⟩
    obtain ⟨g0, g1, bel, hz⟩ := HBX.out u1 (hb.mono (by simp))
    obtain ⟨p0, p1, p2, p3, p4, p5, p6, p7⟩ := box8 g0
    obtain ⟨r0, r1, r2, r3, r4, r5, r6, r7⟩ := box8 g1
    go_wp2_with fail
    refine (awake_any _).mono ?_
    rintro e' u2 ⟨rfl, hb2⟩
    have bel2 := bel.trans (hb2.mono (by omega))
    clear p0 p1 p2 p3 p4 p5 p6 p7 r0 r1 r2 r3 r4 r5 r6 r7
    go_wp2
    go_ret
    exact ⟨rfl, bel2⟩
  by_cases h3 : 500 < (n : Int) + (m : Int)
  · go_enter Try.func5, Try.ntmps5
    go_wp2_with fail
    refine (awake_any _).mono ?_
    rintro e' u1 ⟨rfl, hb⟩
    obtain ⟨g0, g1, bel, hz⟩ := HBX.out u1 (hb.mono (by simp))
    obtain ⟨p0, p1, p2, p3, p4, p5, p6, p7⟩ := box8 g0
    obtain ⟨r0, r1, r2, r3, r4, r5, r6, r7⟩ := box8 g1
    go_wp2_with fail
    refine (awake_any _).mono ?_
    rintro e' u2 ⟨rfl, hb2⟩
    have bel2 := bel.trans (hb2.mono (by omega))
    clear p0 p1 p2 p3 p4 p5 p6 p7 r0 r1 r2 r3 r4 r5 r6 r7
    go_wp2
    go_ret
    exact ⟨rfl, bel2⟩
  have hn5 : n ≤ 500 := by omega
  have hm5 : m ≤ 500 := by omega
  go_enter Try.func5, Try.ntmps5
  go_wp2_with fail
  refine (awake_any _).mono ?_
  rintro e' u1 ⟨rfl, hb⟩
  obtain ⟨g0, g1, bel, hz⟩ := HBX.out u1 (hb.mono (by simp))
  obtain ⟨p0, p1, p2, p3, p4, p5, p6, p7⟩ := box8 g0
  obtain ⟨r0, r1, r2, r3, r4, r5, r6, r7⟩ := box8 g1
  go_wp2_with fail
  refine (near_any a A n c how u1 hfa hka).mono ?_
  rintro e' u2 ⟨rfl, hb2⟩
  have j0 := (hb2.block w.heap.size (by omega)).trans g0
  have j1 := (hb2.block (w.heap.size + 1) (by omega)).trans g1
  have bel2 := bel.trans (hb2.mono (by omega))
  clear p0 p1 p2 p3 p4 p5 p6 p7 r0 r1 r2 r3 r4 r5 r6 r7 g0 g1 hb bel hb2 hz h1 h2 h3
  have jz := (Array.getElem?_eq_some_iff.1 j1).1
  go_wp2_with (first
    | (refine wpList_putRow rfl 26 (.tmp 4) (.tmp 37) rfl w.heap.size 26 (a.row A n c) ((nearE a how).row A n c) rfl rfl j0 (by kernel_rfl) rfl (by simp [Value.oneCell', Ev.row]) ?_))
  intro u3 g3 hbe
  have bel3 := Below.beside bel2 hbe bel2.size (by simp)
  have l1 := (hbe.block (w.heap.size + 1) jz (by simp)).trans j1
  have z3 := (Array.getElem?_eq_some_iff.1 l1).1
  obtain ⟨r0, r1, r2, r3, r4, r5, r6, r7⟩ := box8 l1
  clear j0 j1 bel2 hbe jz
  go_wp2_with fail
  refine (near_any b B m k how u3 hfb hkb).mono ?_
  rintro e' u4 ⟨rfl, hb4⟩
  have m0 := (hb4.block w.heap.size (by omega)).trans g3
  have m1 := (hb4.block (w.heap.size + 1) z3).trans l1
  have bel4 := bel3.trans (hb4.mono (by omega))
  clear r0 r1 r2 r3 r4 r5 r6 r7 g3 l1 bel3 hb4 z3
  go_wp2_with (first
    | (refine wpList_putRow rfl 26 (.tmp 5) (.tmp 40) rfl (w.heap.size + 1) 26 (b.row B m k) ((nearE b how).row B m k) rfl rfl m1 (by kernel_rfl) rfl (by simp [Value.oneCell', Ev.row]) ?_))
  intro u5 g5 hbe5
  have bel5 := Below.beside bel4 hbe5 bel4.size (by simp)
  have g50 := (hbe5.block w.heap.size (Array.getElem?_eq_some_iff.1 m0).1 (by simp)).trans m0
  clear m0 m1 bel4 hbe5
  have sa5 := hsa.below bel5
  have sb5 := hsb.below bel5
  have na : (nearE a how).num < 18446744073709551616 := by rw [near_num]; exact hfa.q
  have nb : (nearE b how).num < 18446744073709551616 := by rw [near_num]; exact hfb.q
  have ta := near_text a how
  have tb := near_text b how
  have fa := near_fit (how := how) hfa
  have fb := near_fit (how := how) hfb
  have ka := near_key (how := how) (m := 9223372036854775807) hka (by omega)
  have kb := near_key (how := how) (m := 9223372036854775807) hkb (by omega)
  have SA := Lib.hid hsa
  clear hfa hfb hka hkb hsa hsb HBX
  cases one with
  | false =>
    generalize hB' : nearE b how = b' at *
    rw [← tb] at sb5
    rw [← ta] at sa5
    clear hB' ta tb
    have hz5 := (Array.getElem?_eq_some_iff.1 g5).1
    obtain ⟨p0, p1, p2, p3, p4, p5, p6, p7⟩ := box8 g50
    have HC0 : Hid (∀ W, Below u5.heap.size u5 W → W.heap[w.heap.size]? = some (.cells ((nearE a how).row A n c) 26 (0, 0)) ∧ W.heap[w.heap.size + 1]? = some (.cells (b'.row B m k) 26 (0, 0)) ∧ Sees W A n (nearE a how).text ∧ Sees W B m b'.text ∧ Below w.heap.size w W) := Lib.hid fun W hW =>
      ⟨(hW.block w.heap.size (by omega)).trans g50, (hW.block (w.heap.size + 1) hz5).trans g5, sa5.below hW, sb5.below hW, bel5.trans (hW.mono (by omega))⟩
    have ha0 := right_iff (nearE a how)
    have hb0 := right_iff b'
    have hla : (nearE a how).text.length ≤ 9223372036854775807 := by have := sa5.1; omega
    have hlb : b'.text.length ≤ 9223372036854775807 := by have := sb5.1; omega
    have hna : n = (nearE a how).text.length := sa5.1.symm
    have hnb : m = b'.text.length := sb5.1.symm
    have HLA := Lib.hid (And.intro hna hla)
    have HLB := Lib.hid (And.intro hnb hlb)
    have hu0 := Nat.le_trans (Nat.le_succ _) (Nat.le_of_lt hz5)
    clear g5 g50 sa5 sb5 bel5 hna hnb hla hlb
    by_cases hra : rightE (nearE a how) = 0
    case neg =>
      have d1 : ((rightE (nearE a how) : Int) != 0) = true := by rw [bne_iff_ne]; omega
      have d2 : ((rightE (nearE a how) : Int) == 0) = false := by rw [beq_eq_false_iff_ne]; omega
      clear hra ha0 hb0
      go_wp2_with fail
      refine (refRight_any (nearE a how) A n c u5 fa HLA.out.1 HLA.out.2 ka).mono ?_
      rintro e' u6 ⟨rfl, hb6⟩
      have bel6 := (HC0.out u6 hb6).2.2.2.2
      clear p0 p1 p2 p3 p4 p5 p6 p7
      go_wp2
      go_ret
      exact ⟨rfl, bel6⟩
    have RA := Lib.hid (ha0.1 hra)
    have d1 : ((rightE (nearE a how) : Int) != 0) = false := by rw [hra]; rfl
    have d2 : ((rightE (nearE a how) : Int) == 0) = true := by rw [hra]; rfl
    clear ha0 hra
    go_wp2_with fail
    refine (refRight_any (nearE a how) A n c u5 fa HLA.out.1 HLA.out.2 ka).mono ?_
    rintro e' u6 ⟨rfl, hb6⟩
    obtain ⟨j0, j1, j2, j3, j4⟩ := HC0.out u6 hb6
    clear p0 p1 p2 p3 p4 p5 p6 p7
    obtain ⟨r0, r1, r2, r3, r4, r5, r6, r7⟩ := box8 j1
    have hz6 : u5.heap.size ≤ u6.heap.size := hb6.size
    clear j0 j1 j2 j3
    by_cases hrb : rightE b' = 0
    case neg =>
      have e1 : ((rightE b' : Int) != 0) = true := by rw [bne_iff_ne]; omega
      have e2 : ((rightE b' : Int) == 0) = false := by rw [beq_eq_false_iff_ne]; omega
      clear hrb hb0
      go_wp2_with fail
      refine (refRight_any b' B m k u6 fb HLB.out.1 HLB.out.2 kb).mono ?_
      rintro e' u7 ⟨rfl, hb7⟩
      have bel7 := (HC0.out u7 (hb6.trans (hb7.mono hz6))).2.2.2.2
      clear r0 r1 r2 r3 r4 r5 r6 r7 j4 hb7 hb6
      go_wp2
      go_ret
      exact ⟨rfl, bel7⟩
    have RB := Lib.hid (hb0.1 hrb)
    have e1 : ((rightE b' : Int) != 0) = false := by rw [hrb]; rfl
    have e2 : ((rightE b' : Int) == 0) = true := by rw [hrb]; rfl
    clear hb0 hrb
    go_wp2_with fail
    refine (refRight_any b' B m k u6 fb HLB.out.1 HLB.out.2 kb).mono ?_
    rintro e' u7 ⟨rfl, hb7⟩
    have b57 := hb6.trans (hb7.mono hz6)
    have hz7 := b57.size
    have bel7 := (HC0.out u7 b57).2.2.2.2
    clear r0 r1 r2 r3 r4 r5 r6 r7 j4 hb7 hb6
    go_wp2_with fail
    have up : ∀ W, Below u7.drew.heap.size u7.drew W → Below u5.heap.size u5 W := fun W hW => b57.trans (((Below.refl u5.heap.size u7).drew).trans (hW.mono hz7))
    have HC : Hid (∀ W, Below u7.drew.heap.size u7.drew W → W.heap[w.heap.size]? = some (.cells ((nearE a how).row A n c) 26 (0, 0)) ∧ W.heap[w.heap.size + 1]? = some (.cells (b'.row B m k) 26 (0, 0))) := Lib.hid fun W hW => ⟨(HC0.out W (up W hW)).1, (HC0.out W (up W hW)).2.1⟩
    have HS1 : Hid (∀ W, Below u7.drew.heap.size u7.drew W → Sees W A n (nearE a how).text) := Lib.hid fun W hW => (HC0.out W (up W hW)).2.2.1
    have HS2 : Hid (∀ W, Below u7.drew.heap.size u7.drew W → Sees W B m b'.text) := Lib.hid fun W hW => (HC0.out W (up W hW)).2.2.2.1
    have NA := Lib.hid na
    have NB := Lib.hid nb
    have PN := Lib.hid (plain_num na)
    refine Facts.wp_region_preds (n := 68) (by kernel_rfl) (by kernel_rfl) rfl [Facts.Pred.is ((nearE a how).val A n c), Facts.Pred.is ((b'.val B m k)), Facts.Pred.is (Value.bool (decide (evL (nearE a how) = evL b'))), Facts.Pred.is ((nearE a how).val A n c), Facts.Pred.is ((b'.val B m k)), Facts.Pred.is (Value.bool (decide (evL (nearE a how) = evL b'))), Facts.Pred.is (Value.bool true), Facts.Pred.is (Value.bool true), Facts.Pred.is ((nearE a how).val A n c), Facts.Pred.is ((nearE a how).val A n c), plainPred (nearE a how), Facts.Pred.is (Value.bool true), Facts.Pred.is (Value.bool true), Facts.Pred.is (Value.bool true)] ?_ ?_
    · refine ⟨?_, ?_, ?_, ?_, ?_, ?_, ?_, ?_, ?_, ?_, ?_, ?_, ?_, ?_, trivial⟩
      · refine Facts.step_is ((nearE a how).val A n c) fun a1 W hR hold hnew => ?_
        have f4 : a1.tmps.getD 4 undef = Value.pointer (some ⟨w.heap.size, 0, none⟩) := hold 4 (by kernel_rfl)
        obtain ⟨q1, q2⟩ := HC.out W hR
        obtain ⟨k0, k1, k2, k3, k4, k5, k6, k7⟩ := box8 q1
        refine ⟨Facts.wanted_free rfl, ?_, fun _ => rfl⟩
        simp [go_sem, Act.eval, f4, k0, k1, k2, k3, k4, k5, k6, k7, Ev.val]
      · refine Facts.step_is ((b'.val B m k)) fun a1 W hR hold hnew => ?_
        have f5 : a1.tmps.getD 5 undef = Value.pointer (some ⟨w.heap.size + 1, 0, none⟩) := hold 5 (by kernel_rfl)
        obtain ⟨q1, q2⟩ := HC.out W hR
        obtain ⟨k0, k1, k2, k3, k4, k5, k6, k7⟩ := box8 q2
        refine ⟨Facts.wanted_free rfl, ?_, fun _ => rfl⟩
        simp [go_sem, Act.eval, f5, k0, k1, k2, k3, k4, k5, k6, k7, Ev.val]
      · -- 2: Op.call { value (Operand.func 16), args := #[t55, t56], argT
        refine Facts.step_call fun a1 W hR hold hnew => ?_
        have f55 : a1.tmps.getD 55 undef = (nearE a how).val A n c := hnew 0 55 (by kernel_rfl); have f56 : a1.tmps.getD 56 undef = (b'.val B m k) := hnew 1 56 (by kernel_rfl)
        refine ⟨Facts.wanted_free rfl, 13, #[(nearE a how).val A n c, (b'.val B m k)], by simp [go_sem, Act.eval, f55, f56], ?_⟩
        refine (same_any (nearE a how) b' _ _ _ _ _ _ W (HS1.out W hR) (HS2.out W hR) NA.out NB.out RA.out RB.out).mono ?_
        rintro e' w7 ⟨rfl, hb7⟩
        exact ⟨_, rfl, hb7, rfl⟩
      · refine Facts.step_is ((nearE a how).val A n c) fun a1 W hR hold hnew => ?_
        have f4 : a1.tmps.getD 4 undef = Value.pointer (some ⟨w.heap.size, 0, none⟩) := hold 4 (by kernel_rfl)
        obtain ⟨q1, q2⟩ := HC.out W hR
        obtain ⟨k0, k1, k2, k3, k4, k5, k6, k7⟩ := box8 q1
        refine ⟨Facts.wanted_free rfl, ?_, fun _ => rfl⟩
        simp [go_sem, Act.eval, f4, k0, k1, k2, k3, k4, k5, k6, k7, Ev.val]
      · refine Facts.step_is ((b'.val B m k)) fun a1 W hR hold hnew => ?_
        have f5 : a1.tmps.getD 5 undef = Value.pointer (some ⟨w.heap.size + 1, 0, none⟩) := hold 5 (by kernel_rfl)
        obtain ⟨q1, q2⟩ := HC.out W hR
        obtain ⟨k0, k1, k2, k3, k4, k5, k6, k7⟩ := box8 q2
        refine ⟨Facts.wanted_free rfl, ?_, fun _ => rfl⟩
        simp [go_sem, Act.eval, f5, k0, k1, k2, k3, k4, k5, k6, k7, Ev.val]
      · -- 5: Op.call { value (Operand.func 17), args := #[t58, t59], argT
        refine Facts.step_call fun a1 W hR hold hnew => ?_
        have f58 : a1.tmps.getD 58 undef = (nearE a how).val A n c := hnew 3 58 (by kernel_rfl); have f59 : a1.tmps.getD 59 undef = (b'.val B m k) := hnew 4 59 (by kernel_rfl)
        refine ⟨Facts.wanted_free rfl, 14, #[(nearE a how).val A n c, (b'.val B m k)], by simp [go_sem, Act.eval, f58, f59], ?_⟩
        refine (refSame_any (nearE a how) b' _ _ _ _ _ _ W (HS1.out W hR) (HS2.out W hR) NA.out NB.out RA.out RB.out).mono ?_
        rintro e' w7 ⟨rfl, hb7⟩
        exact ⟨_, rfl, hb7, rfl⟩
      · refine Facts.step_is (Value.bool true) fun a1 W hR hold hnew => ?_
        have f57 : a1.tmps.getD 57 undef = Value.bool (decide (evL (nearE a how) = evL b')) := hnew 2 57 (by kernel_rfl)
        have f60 : a1.tmps.getD 60 undef = Value.bool (decide (evL (nearE a how) = evL b')) := hnew 5 60 (by kernel_rfl)
        refine ⟨Facts.wanted_free rfl, ?_, fun _ => rfl⟩
        simp [go_sem, Act.eval, f57, f60]
      · refine Facts.step_is (Value.bool true) fun a1 W hR hold hnew => ?_
        have f61 : a1.tmps.getD 61 undef = Value.bool true := hnew 6 61 (by kernel_rfl)
        refine ⟨Facts.wanted_free rfl, ?_, fun _ => rfl⟩
        simp [go_sem, Act.eval, f61]
      · refine Facts.step_is ((nearE a how).val A n c) fun a1 W hR hold hnew => ?_
        have f4 : a1.tmps.getD 4 undef = Value.pointer (some ⟨w.heap.size, 0, none⟩) := hold 4 (by kernel_rfl)
        have g62 : a1.tmps.getD 62 undef = .bool true := hnew 7 62 (by kernel_rfl)
        obtain ⟨q1, q2⟩ := HC.out W hR
        obtain ⟨k0, k1, k2, k3, k4, k5, k6, k7⟩ := box8 q1
        refine ⟨Facts.wanted_by rfl (by kernel_rfl) g62, ?_, fun _ => rfl⟩
        simp [go_sem, Act.eval, f4, k0, k1, k2, k3, k4, k5, k6, k7, Ev.val]
      · refine Facts.step_is ((nearE a how).val A n c) fun a1 W hR hold hnew => ?_
        have f4 : a1.tmps.getD 4 undef = Value.pointer (some ⟨w.heap.size, 0, none⟩) := hold 4 (by kernel_rfl)
        have g62 : a1.tmps.getD 62 undef = .bool true := hnew 7 62 (by kernel_rfl)
        obtain ⟨q1, q2⟩ := HC.out W hR
        obtain ⟨k0, k1, k2, k3, k4, k5, k6, k7⟩ := box8 q1
        refine ⟨Facts.wanted_by rfl (by kernel_rfl) g62, ?_, fun _ => rfl⟩
        simp [go_sem, Act.eval, f4, k0, k1, k2, k3, k4, k5, k6, k7, Ev.val]
      · -- 10: Op.call { value (Operand.func 14), args := #[t64], argTypes 
        refine Facts.step_call fun a1 W hR hold hnew => ?_
        have f64 : a1.tmps.getD 64 undef = (nearE a how).val A n c := hnew 9 64 (by kernel_rfl); have g62 : a1.tmps.getD 62 undef = .bool true := hnew 7 62 (by kernel_rfl)
        refine ⟨Facts.wanted_by rfl (by kernel_rfl) g62, 11, #[(nearE a how).val A n c], by simp [go_sem, Act.eval, f64], ?_⟩
        refine (plain_any (nearE a how) _ _ _ W (HS1.out W hR) (by omega)).mono ?_
        rintro e' w7 ⟨A', n', c', rfl, hs7, hc1, hc2, hb7⟩
        exact ⟨_, rfl, hb7, A', n', c', rfl, hs7⟩
      · -- 11: Op.call { value (Operand.func 16), args := #[t63, t65], argT
        refine Facts.step_call fun a1 W hR hold hnew => ?_
        have f63 : a1.tmps.getD 63 undef = (nearE a how).val A n c := hnew 8 63 (by kernel_rfl); have g62 : a1.tmps.getD 62 undef = .bool true := hnew 7 62 (by kernel_rfl)
        have h65 : ∃ A' n' c', a1.tmps.getD 65 undef = (plainE (nearE a how)).val A' n' c' ∧ Sees W A' n' (plainE (nearE a how)).text := hnew 10 65 (by kernel_rfl)
        obtain ⟨A7, n7, c7, f65, hs7⟩ := h65
        refine ⟨Facts.wanted_by rfl (by kernel_rfl) g62, 13, #[(nearE a how).val A n c, (plainE (nearE a how)).val A7 n7 c7], by simp [go_sem, Act.eval, f63, f65], ?_⟩
        refine (same_any (nearE a how) (plainE (nearE a how)) _ _ _ _ _ _ W (HS1.out W hR) hs7 NA.out PN.out RA.out (plain_right RA.out)).mono ?_
        rintro e' w7 ⟨rfl, hb7⟩
        refine ⟨_, rfl, hb7, ?_⟩
        rw [plain_evL RA.out.k1]
        exact congrArg Value.bool (decide_eq_true rfl)
      · refine Facts.step_is (Value.bool true) fun a1 W hR hold hnew => ?_
        have f62 : a1.tmps.getD 62 undef = Value.bool true := hnew 7 62 (by kernel_rfl)
        have f66 : a1.tmps.getD 66 undef = Value.bool true := hnew 11 66 (by kernel_rfl)
        refine ⟨Facts.wanted_free rfl, ?_, fun _ => rfl⟩
        simp [go_sem, Act.eval, f62, f66]
      · refine Facts.step_is (Value.bool true) fun a1 W hR hold hnew => ?_
        have f67 : a1.tmps.getD 67 undef = Value.bool true := hnew 12 67 (by kernel_rfl)
        refine ⟨Facts.wanted_free rfl, ?_, fun _ => rfl⟩
        simp [go_sem, Act.eval, f67]
    · intro a1 w3 hR' hsize hdef hnew hold
      have f8 : a1.tmps.getD 8 undef = Value.bool true := hnew 13 8 (by kernel_rfl)
      obtain ⟨tm, df⟩ := a1
      simp only [] at hdef hsize f8
      have hlit : tm = #[tm.getD 0 undef, tm.getD 1 undef, tm.getD 2 undef, tm.getD 3 undef, tm.getD 4 undef, tm.getD 5 undef, tm.getD 6 undef, tm.getD 7 undef, tm.getD 8 undef, tm.getD 9 undef, tm.getD 10 undef, tm.getD 11 undef, tm.getD 12 undef, tm.getD 13 undef, tm.getD 14 undef, tm.getD 15 undef, tm.getD 16 undef, tm.getD 17 undef, tm.getD 18 undef, tm.getD 19 undef, tm.getD 20 undef, tm.getD 21 undef, tm.getD 22 undef, tm.getD 23 undef, tm.getD 24 undef, tm.getD 25 undef, tm.getD 26 undef, tm.getD 27 undef, tm.getD 28 undef, tm.getD 29 undef, tm.getD 30 undef, tm.getD 31 undef, tm.getD 32 undef, tm.getD 33 undef, tm.getD 34 undef, tm.getD 35 undef, tm.getD 36 undef, tm.getD 37 undef, tm.getD 38 undef, tm.getD 39 undef, tm.getD 40 undef, tm.getD 41 undef, tm.getD 42 undef, tm.getD 43 undef, tm.getD 44 undef, tm.getD 45 undef, tm.getD 46 undef, tm.getD 47 undef, tm.getD 48 undef, tm.getD 49 undef, tm.getD 50 undef, tm.getD 51 undef, tm.getD 52 undef, tm.getD 53 undef, tm.getD 54 undef, tm.getD 55 undef, tm.getD 56 undef, tm.getD 57 undef, tm.getD 58 undef, tm.getD 59 undef, tm.getD 60 undef, tm.getD 61 undef, tm.getD 62 undef, tm.getD 63 undef, tm.getD 64 undef, tm.getD 65 undef, tm.getD 66 undef, tm.getD 67 undef] := (Facts.array_lit tm hsize).trans rfl
      rw [f8] at hlit
      clear f8 hsize hnew hold
      generalize tm.getD 0 undef = x0 at hlit
      generalize tm.getD 1 undef = x1 at hlit
      generalize tm.getD 2 undef = x2 at hlit
      generalize tm.getD 3 undef = x3 at hlit
      generalize tm.getD 4 undef = x4 at hlit
      generalize tm.getD 5 undef = x5 at hlit
      generalize tm.getD 6 undef = x6 at hlit
      generalize tm.getD 7 undef = x7 at hlit
      generalize tm.getD 9 undef = x9 at hlit
      generalize tm.getD 10 undef = x10 at hlit
      generalize tm.getD 11 undef = x11 at hlit
      generalize tm.getD 12 undef = x12 at hlit
      generalize tm.getD 13 undef = x13 at hlit
      generalize tm.getD 14 undef = x14 at hlit
      generalize tm.getD 15 undef = x15 at hlit
      generalize tm.getD 16 undef = x16 at hlit
      generalize tm.getD 17 undef = x17 at hlit
      generalize tm.getD 18 undef = x18 at hlit
      generalize tm.getD 19 undef = x19 at hlit
      generalize tm.getD 20 undef = x20 at hlit
      generalize tm.getD 21 undef = x21 at hlit
      generalize tm.getD 22 undef = x22 at hlit
      generalize tm.getD 23 undef = x23 at hlit
      generalize tm.getD 24 undef = x24 at hlit
      generalize tm.getD 25 undef = x25 at hlit
      generalize tm.getD 26 undef = x26 at hlit
      generalize tm.getD 27 undef = x27 at hlit
      generalize tm.getD 28 undef = x28 at hlit
      generalize tm.getD 29 undef = x29 at hlit
      generalize tm.getD 30 undef = x30 at hlit
      generalize tm.getD 31 undef = x31 at hlit
      generalize tm.getD 32 undef = x32 at hlit
      generalize tm.getD 33 undef = x33 at hlit
      generalize tm.getD 34 undef = x34 at hlit
      generalize tm.getD 35 undef = x35 at hlit
      generalize tm.getD 36 undef = x36 at hlit
      generalize tm.getD 37 undef = x37 at hlit
      generalize tm.getD 38 undef = x38 at hlit
      generalize tm.getD 39 undef = x39 at hlit
      generalize tm.getD 40 undef = x40 at hlit
      generalize tm.getD 41 undef = x41 at hlit
      generalize tm.getD 42 undef = x42 at hlit
      generalize tm.getD 43 undef = x43 at hlit
      generalize tm.getD 44 undef = x44 at hlit
      generalize tm.getD 45 undef = x45 at hlit
      generalize tm.getD 46 undef = x46 at hlit
      generalize tm.getD 47 undef = x47 at hlit
      generalize tm.getD 48 undef = x48 at hlit
      generalize tm.getD 49 undef = x49 at hlit
      generalize tm.getD 50 undef = x50 at hlit
      generalize tm.getD 51 undef = x51 at hlit
      generalize tm.getD 52 undef = x52 at hlit
      generalize tm.getD 53 undef = x53 at hlit
      generalize tm.getD 54 undef = x54 at hlit
      generalize tm.getD 55 undef = x55 at hlit
      generalize tm.getD 56 undef = x56 at hlit
      generalize tm.getD 57 undef = x57 at hlit
      generalize tm.getD 58 undef = x58 at hlit
      generalize tm.getD 59 undef = x59 at hlit
      generalize tm.getD 60 undef = x60 at hlit
      generalize tm.getD 61 undef = x61 at hlit
      generalize tm.getD 62 undef = x62 at hlit
      generalize tm.getD 63 undef = x63 at hlit
      generalize tm.getD 64 undef = x64 at hlit
      generalize tm.getD 65 undef = x65 at hlit
      generalize tm.getD 66 undef = x66 at hlit
      generalize tm.getD 67 undef = x67 at hlit
      subst hlit
      subst hdef
      try simp only []
      have b2 : Below w.heap.size w w3 := bel7.trans (((Below.refl w.heap.size u7).drew).trans (hR'.mono bel7.size))
      clear bel7 b57 HC0 HC HS1 HS2 hR' up
      go_wp2
      go_ret
      exact ⟨rfl, b2⟩
  | true =>
    obtain ⟨r0, r1, r2, r3, r4, r5, r6, r7⟩ := box8 g5
    clear r0 r1 r2 r3 r4 r5 r7
    go_wp2_with (first
      | (refine wpList_getRow rfl 26 (.tmp 4) rfl w.heap.size 26 ((nearE a how).row A n c) (0, 0) _ rfl g50 Try.underlying26 rfl (by kernel_rfl) ?_)
      | (refine wpList_putRow rfl 26 (.tmp 5) (.tmp 44) rfl (w.heap.size + 1) 26 ((nearE b how).row B m k) ((nearE a how).row A n c) rfl rfl g5 (by kernel_rfl) rfl (by simp [Value.oneCell', Ev.row]) ?_))
    intro u6 g6 hbe6
    have bel6 := Below.beside bel5 hbe6 (by have := bel5.size; omega) (by simp)
    have g60 := (hbe6.block w.heap.size (Array.getElem?_eq_some_iff.1 g50).1 (by simp)).trans g50
    clear g5 g50 bel5 hbe6 r6
    have q6 : u6.cell? ⟨w.heap.size + 1, 6, none⟩ = some (.float .f64 (nearE a how).num) := (box8 g6).2.2.2.2.2.2.1
    have y6 := frozen_row0 (i := 6) g6
    go_upto_region 9 with (fail)
    obtain ⟨b', hb'⟩ : ∃ b' : Ev, b' = { nearE a how with num := (nearE b how).num } := ⟨_, rfl⟩
    have g9 : (u6.setCell ⟨w.heap.size + 1, 6, none⟩ (.float .f64 (nearE b how).num)).heap[w.heap.size + 1]? = some (.cells (b'.row A n c) 26 (0, 0)) := by
      rw [hb']
      exact (heapSame g6).trans rfl
    have g90 := (heapOther (w := u6) (v := .float .f64 (nearE b how).num) (i := 6) (show w.heap.size ≠ w.heap.size + 1 by omega)).trans g60
    have bel9 := bel6.setCell (p := ⟨w.heap.size + 1, 6, none⟩) (by simp) (.float .f64 (nearE b how).num)
    have sa9 := SA.out.below bel9
    generalize hU : u6.setCell ⟨w.heap.size + 1, 6, none⟩ (.float .f64 (nearE b how).num) = u9 at g9 g90 bel9 sa9 ⊢
    rw [← ta] at sa9
    have sb9 : Sees u9 A n b'.text := by rw [hb']; exact sa9
    have nb' : b'.num < 18446744073709551616 := by rw [hb']; exact nb
    have fb' : b'.Fit := by rw [hb']; exact ⟨fa.w1, fa.w2, fa.s, fa.t, fa.k, nb, fa.n1, fa.n2⟩
    have kb' : b'.key.size ≤ 9223372036854775807 := by rw [hb']; exact ka
    clear hU hb' q6 y6 g6 g60 bel6 nb fb kb sa5 sb5 ta tb
    have hz5 := (Array.getElem?_eq_some_iff.1 g9).1
    obtain ⟨p0, p1, p2, p3, p4, p5, p6, p7⟩ := box8 g90
    have HC0 : Hid (∀ W, Below u9.heap.size u9 W → W.heap[w.heap.size]? = some (.cells ((nearE a how).row A n c) 26 (0, 0)) ∧ W.heap[w.heap.size + 1]? = some (.cells (b'.row A n c) 26 (0, 0)) ∧ Sees W A n (nearE a how).text ∧ Sees W A n b'.text ∧ Below w.heap.size w W) := Lib.hid fun W hW =>
      ⟨(hW.block w.heap.size (by omega)).trans g90, (hW.block (w.heap.size + 1) hz5).trans g9, sa9.below hW, sb9.below hW, bel9.trans (hW.mono (by omega))⟩
    have ha0 := right_iff (nearE a how)
    have hb0 := right_iff b'
    have hla : (nearE a how).text.length ≤ 9223372036854775807 := by have := sa9.1; omega
    have hlb : b'.text.length ≤ 9223372036854775807 := by have := sb9.1; omega
    have hna : n = (nearE a how).text.length := sa9.1.symm
    have hnb : n = b'.text.length := sb9.1.symm
    have HLA := Lib.hid (And.intro hna hla)
    have HLB := Lib.hid (And.intro hnb hlb)
    have hu0 := Nat.le_trans (Nat.le_succ _) (Nat.le_of_lt hz5)
    clear g9 g90 sa9 sb9 bel9 hna hnb hla hlb
    by_cases hra : rightE (nearE a how) = 0
    case neg =>
      have d1 : ((rightE (nearE a how) : Int) != 0) = true := by rw [bne_iff_ne]; omega
      have d2 : ((rightE (nearE a how) : Int) == 0) = false := by rw [beq_eq_false_iff_ne]; omega
      clear hra ha0 hb0
      go_wp2_with fail
      refine (refRight_any (nearE a how) A n c u9 fa HLA.out.1 HLA.out.2 ka).mono ?_
      rintro e' u10 ⟨rfl, hb6⟩
      have bel6 := (HC0.out u10 hb6).2.2.2.2
      clear p0 p1 p2 p3 p4 p5 p6 p7
      go_wp2
      go_ret
      exact ⟨rfl, bel6⟩
    have RA := Lib.hid (ha0.1 hra)
    have d1 : ((rightE (nearE a how) : Int) != 0) = false := by rw [hra]; rfl
    have d2 : ((rightE (nearE a how) : Int) == 0) = true := by rw [hra]; rfl
    clear ha0 hra
    go_wp2_with fail
    refine (refRight_any (nearE a how) A n c u9 fa HLA.out.1 HLA.out.2 ka).mono ?_
    rintro e' u10 ⟨rfl, hb6⟩
    obtain ⟨j0, j1, j2, j3, j4⟩ := HC0.out u10 hb6
    clear p0 p1 p2 p3 p4 p5 p6 p7
    obtain ⟨r0, r1, r2, r3, r4, r5, r6, r7⟩ := box8 j1
    have hz6 : u9.heap.size ≤ u10.heap.size := hb6.size
    clear j0 j1 j2 j3
    by_cases hrb : rightE b' = 0
    case neg =>
      have e1 : ((rightE b' : Int) != 0) = true := by rw [bne_iff_ne]; omega
      have e2 : ((rightE b' : Int) == 0) = false := by rw [beq_eq_false_iff_ne]; omega
      clear hrb hb0
      go_wp2_with fail
      refine (refRight_any b' A n c u10 fb' HLB.out.1 HLB.out.2 kb').mono ?_
      rintro e' u11 ⟨rfl, hb7⟩
      have bel7 := (HC0.out u11 (hb6.trans (hb7.mono hz6))).2.2.2.2
      clear r0 r1 r2 r3 r4 r5 r6 r7 j4 hb7 hb6
      go_wp2
      go_ret
      exact ⟨rfl, bel7⟩
    have RB := Lib.hid (hb0.1 hrb)
    have e1 : ((rightE b' : Int) != 0) = false := by rw [hrb]; rfl
    have e2 : ((rightE b' : Int) == 0) = true := by rw [hrb]; rfl
    clear hb0 hrb
    go_wp2_with fail
    refine (refRight_any b' A n c u10 fb' HLB.out.1 HLB.out.2 kb').mono ?_
    rintro e' u11 ⟨rfl, hb7⟩
    have b57 := hb6.trans (hb7.mono hz6)
    have hz7 := b57.size
    have bel7 := (HC0.out u11 b57).2.2.2.2
    clear r0 r1 r2 r3 r4 r5 r6 r7 j4 hb7 hb6
    go_wp2_with fail
    have up : ∀ W, Below u11.drew.heap.size u11.drew W → Below u9.heap.size u9 W := fun W hW => b57.trans (((Below.refl u9.heap.size u11).drew).trans (hW.mono hz7))
    have HC : Hid (∀ W, Below u11.drew.heap.size u11.drew W → W.heap[w.heap.size]? = some (.cells ((nearE a how).row A n c) 26 (0, 0)) ∧ W.heap[w.heap.size + 1]? = some (.cells (b'.row A n c) 26 (0, 0))) := Lib.hid fun W hW => ⟨(HC0.out W (up W hW)).1, (HC0.out W (up W hW)).2.1⟩
    have HS1 : Hid (∀ W, Below u11.drew.heap.size u11.drew W → Sees W A n (nearE a how).text) := Lib.hid fun W hW => (HC0.out W (up W hW)).2.2.1
    have HS2 : Hid (∀ W, Below u11.drew.heap.size u11.drew W → Sees W A n b'.text) := Lib.hid fun W hW => (HC0.out W (up W hW)).2.2.2.1
    have NA := Lib.hid na
    have NB := Lib.hid nb'
    have PN := Lib.hid (plain_num na)
    refine Facts.wp_region_preds (n := 68) (by kernel_rfl) (by kernel_rfl) rfl [Facts.Pred.is ((nearE a how).val A n c), Facts.Pred.is ((b'.val A n c)), Facts.Pred.is (Value.bool (decide (evL (nearE a how) = evL b'))), Facts.Pred.is ((nearE a how).val A n c), Facts.Pred.is ((b'.val A n c)), Facts.Pred.is (Value.bool (decide (evL (nearE a how) = evL b'))), Facts.Pred.is (Value.bool true), Facts.Pred.is (Value.bool true), Facts.Pred.is ((nearE a how).val A n c), Facts.Pred.is ((nearE a how).val A n c), plainPred (nearE a how), Facts.Pred.is (Value.bool true), Facts.Pred.is (Value.bool true), Facts.Pred.is (Value.bool true)] ?_ ?_
    · refine ⟨?_, ?_, ?_, ?_, ?_, ?_, ?_, ?_, ?_, ?_, ?_, ?_, ?_, ?_, trivial⟩
      · refine Facts.step_is ((nearE a how).val A n c) fun a1 W hR hold hnew => ?_
        have f4 : a1.tmps.getD 4 undef = Value.pointer (some ⟨w.heap.size, 0, none⟩) := hold 4 (by kernel_rfl)
        obtain ⟨q1, q2⟩ := HC.out W hR
        obtain ⟨k0, k1, k2, k3, k4, k5, k6, k7⟩ := box8 q1
        refine ⟨Facts.wanted_free rfl, ?_, fun _ => rfl⟩
        simp [go_sem, Act.eval, f4, k0, k1, k2, k3, k4, k5, k6, k7, Ev.val]
      · refine Facts.step_is ((b'.val A n c)) fun a1 W hR hold hnew => ?_
        have f5 : a1.tmps.getD 5 undef = Value.pointer (some ⟨w.heap.size + 1, 0, none⟩) := hold 5 (by kernel_rfl)
        obtain ⟨q1, q2⟩ := HC.out W hR
        obtain ⟨k0, k1, k2, k3, k4, k5, k6, k7⟩ := box8 q2
        refine ⟨Facts.wanted_free rfl, ?_, fun _ => rfl⟩
        simp [go_sem, Act.eval, f5, k0, k1, k2, k3, k4, k5, k6, k7, Ev.val]
      · -- 2: Op.call { value (Operand.func 16), args := #[t55, t56], argT
        refine Facts.step_call fun a1 W hR hold hnew => ?_
        have f55 : a1.tmps.getD 55 undef = (nearE a how).val A n c := hnew 0 55 (by kernel_rfl); have f56 : a1.tmps.getD 56 undef = (b'.val A n c) := hnew 1 56 (by kernel_rfl)
        refine ⟨Facts.wanted_free rfl, 13, #[(nearE a how).val A n c, (b'.val A n c)], by simp [go_sem, Act.eval, f55, f56], ?_⟩
        refine (same_any (nearE a how) b' _ _ _ _ _ _ W (HS1.out W hR) (HS2.out W hR) NA.out NB.out RA.out RB.out).mono ?_
        rintro e' w7 ⟨rfl, hb7⟩
        exact ⟨_, rfl, hb7, rfl⟩
      · refine Facts.step_is ((nearE a how).val A n c) fun a1 W hR hold hnew => ?_
        have f4 : a1.tmps.getD 4 undef = Value.pointer (some ⟨w.heap.size, 0, none⟩) := hold 4 (by kernel_rfl)
        obtain ⟨q1, q2⟩ := HC.out W hR
        obtain ⟨k0, k1, k2, k3, k4, k5, k6, k7⟩ := box8 q1
        refine ⟨Facts.wanted_free rfl, ?_, fun _ => rfl⟩
        simp [go_sem, Act.eval, f4, k0, k1, k2, k3, k4, k5, k6, k7, Ev.val]
      · refine Facts.step_is ((b'.val A n c)) fun a1 W hR hold hnew => ?_
        have f5 : a1.tmps.getD 5 undef = Value.pointer (some ⟨w.heap.size + 1, 0, none⟩) := hold 5 (by kernel_rfl)
        obtain ⟨q1, q2⟩ := HC.out W hR
        obtain ⟨k0, k1, k2, k3, k4, k5, k6, k7⟩ := box8 q2
        refine ⟨Facts.wanted_free rfl, ?_, fun _ => rfl⟩
        simp [go_sem, Act.eval, f5, k0, k1, k2, k3, k4, k5, k6, k7, Ev.val]
      · -- 5: Op.call { value (Operand.func 17), args := #[t58, t59], argT
        refine Facts.step_call fun a1 W hR hold hnew => ?_
        have f58 : a1.tmps.getD 58 undef = (nearE a how).val A n c := hnew 3 58 (by kernel_rfl); have f59 : a1.tmps.getD 59 undef = (b'.val A n c) := hnew 4 59 (by kernel_rfl)
        refine ⟨Facts.wanted_free rfl, 14, #[(nearE a how).val A n c, (b'.val A n c)], by simp [go_sem, Act.eval, f58, f59], ?_⟩
        refine (refSame_any (nearE a how) b' _ _ _ _ _ _ W (HS1.out W hR) (HS2.out W hR) NA.out NB.out RA.out RB.out).mono ?_
        rintro e' w7 ⟨rfl, hb7⟩
        exact ⟨_, rfl, hb7, rfl⟩
      · refine Facts.step_is (Value.bool true) fun a1 W hR hold hnew => ?_
        have f57 : a1.tmps.getD 57 undef = Value.bool (decide (evL (nearE a how) = evL b')) := hnew 2 57 (by kernel_rfl)
        have f60 : a1.tmps.getD 60 undef = Value.bool (decide (evL (nearE a how) = evL b')) := hnew 5 60 (by kernel_rfl)
        refine ⟨Facts.wanted_free rfl, ?_, fun _ => rfl⟩
        simp [go_sem, Act.eval, f57, f60]
      · refine Facts.step_is (Value.bool true) fun a1 W hR hold hnew => ?_
        have f61 : a1.tmps.getD 61 undef = Value.bool true := hnew 6 61 (by kernel_rfl)
        refine ⟨Facts.wanted_free rfl, ?_, fun _ => rfl⟩
        simp [go_sem, Act.eval, f61]
      · refine Facts.step_is ((nearE a how).val A n c) fun a1 W hR hold hnew => ?_
        have f4 : a1.tmps.getD 4 undef = Value.pointer (some ⟨w.heap.size, 0, none⟩) := hold 4 (by kernel_rfl)
        have g62 : a1.tmps.getD 62 undef = .bool true := hnew 7 62 (by kernel_rfl)
        obtain ⟨q1, q2⟩ := HC.out W hR
        obtain ⟨k0, k1, k2, k3, k4, k5, k6, k7⟩ := box8 q1
        refine ⟨Facts.wanted_by rfl (by kernel_rfl) g62, ?_, fun _ => rfl⟩
        simp [go_sem, Act.eval, f4, k0, k1, k2, k3, k4, k5, k6, k7, Ev.val]
      · refine Facts.step_is ((nearE a how).val A n c) fun a1 W hR hold hnew => ?_
        have f4 : a1.tmps.getD 4 undef = Value.pointer (some ⟨w.heap.size, 0, none⟩) := hold 4 (by kernel_rfl)
        have g62 : a1.tmps.getD 62 undef = .bool true := hnew 7 62 (by kernel_rfl)
        obtain ⟨q1, q2⟩ := HC.out W hR
        obtain ⟨k0, k1, k2, k3, k4, k5, k6, k7⟩ := box8 q1
        refine ⟨Facts.wanted_by rfl (by kernel_rfl) g62, ?_, fun _ => rfl⟩
        simp [go_sem, Act.eval, f4, k0, k1, k2, k3, k4, k5, k6, k7, Ev.val]
      · -- 10: Op.call { value (Operand.func 14), args := #[t64], argTypes 
        refine Facts.step_call fun a1 W hR hold hnew => ?_
        have f64 : a1.tmps.getD 64 undef = (nearE a how).val A n c := hnew 9 64 (by kernel_rfl); have g62 : a1.tmps.getD 62 undef = .bool true := hnew 7 62 (by kernel_rfl)
        refine ⟨Facts.wanted_by rfl (by kernel_rfl) g62, 11, #[(nearE a how).val A n c], by simp [go_sem, Act.eval, f64], ?_⟩
        refine (plain_any (nearE a how) _ _ _ W (HS1.out W hR) (by omega)).mono ?_
        rintro e' w7 ⟨A', n', c', rfl, hs7, hc1, hc2, hb7⟩
        exact ⟨_, rfl, hb7, A', n', c', rfl, hs7⟩
      · -- 11: Op.call { value (Operand.func 16), args := #[t63, t65], argT
        refine Facts.step_call fun a1 W hR hold hnew => ?_
        have f63 : a1.tmps.getD 63 undef = (nearE a how).val A n c := hnew 8 63 (by kernel_rfl); have g62 : a1.tmps.getD 62 undef = .bool true := hnew 7 62 (by kernel_rfl)
        have h65 : ∃ A' n' c', a1.tmps.getD 65 undef = (plainE (nearE a how)).val A' n' c' ∧ Sees W A' n' (plainE (nearE a how)).text := hnew 10 65 (by kernel_rfl)
        obtain ⟨A7, n7, c7, f65, hs7⟩ := h65
        refine ⟨Facts.wanted_by rfl (by kernel_rfl) g62, 13, #[(nearE a how).val A n c, (plainE (nearE a how)).val A7 n7 c7], by simp [go_sem, Act.eval, f63, f65], ?_⟩
        refine (same_any (nearE a how) (plainE (nearE a how)) _ _ _ _ _ _ W (HS1.out W hR) hs7 NA.out PN.out RA.out (plain_right RA.out)).mono ?_
        rintro e' w7 ⟨rfl, hb7⟩
        refine ⟨_, rfl, hb7, ?_⟩
        rw [plain_evL RA.out.k1]
        exact congrArg Value.bool (decide_eq_true rfl)
      · refine Facts.step_is (Value.bool true) fun a1 W hR hold hnew => ?_
        have f62 : a1.tmps.getD 62 undef = Value.bool true := hnew 7 62 (by kernel_rfl)
        have f66 : a1.tmps.getD 66 undef = Value.bool true := hnew 11 66 (by kernel_rfl)
        refine ⟨Facts.wanted_free rfl, ?_, fun _ => rfl⟩
        simp [go_sem, Act.eval, f62, f66]
      · refine Facts.step_is (Value.bool true) fun a1 W hR hold hnew => ?_
        have f67 : a1.tmps.getD 67 undef = Value.bool true := hnew 12 67 (by kernel_rfl)
        refine ⟨Facts.wanted_free rfl, ?_, fun _ => rfl⟩
        simp [go_sem, Act.eval, f67]
    · intro a1 w3 hR' hsize hdef hnew hold
      have f8 : a1.tmps.getD 8 undef = Value.bool true := hnew 13 8 (by kernel_rfl)
      obtain ⟨tm, df⟩ := a1
      simp only [] at hdef hsize f8
      have hlit : tm = #[tm.getD 0 undef, tm.getD 1 undef, tm.getD 2 undef, tm.getD 3 undef, tm.getD 4 undef, tm.getD 5 undef, tm.getD 6 undef, tm.getD 7 undef, tm.getD 8 undef, tm.getD 9 undef, tm.getD 10 undef, tm.getD 11 undef, tm.getD 12 undef, tm.getD 13 undef, tm.getD 14 undef, tm.getD 15 undef, tm.getD 16 undef, tm.getD 17 undef, tm.getD 18 undef, tm.getD 19 undef, tm.getD 20 undef, tm.getD 21 undef, tm.getD 22 undef, tm.getD 23 undef, tm.getD 24 undef, tm.getD 25 undef, tm.getD 26 undef, tm.getD 27 undef, tm.getD 28 undef, tm.getD 29 undef, tm.getD 30 undef, tm.getD 31 undef, tm.getD 32 undef, tm.getD 33 undef, tm.getD 34 undef, tm.getD 35 undef, tm.getD 36 undef, tm.getD 37 undef, tm.getD 38 undef, tm.getD 39 undef, tm.getD 40 undef, tm.getD 41 undef, tm.getD 42 undef, tm.getD 43 undef, tm.getD 44 undef, tm.getD 45 undef, tm.getD 46 undef, tm.getD 47 undef, tm.getD 48 undef, tm.getD 49 undef, tm.getD 50 undef, tm.getD 51 undef, tm.getD 52 undef, tm.getD 53 undef, tm.getD 54 undef, tm.getD 55 undef, tm.getD 56 undef, tm.getD 57 undef, tm.getD 58 undef, tm.getD 59 undef, tm.getD 60 undef, tm.getD 61 undef, tm.getD 62 undef, tm.getD 63 undef, tm.getD 64 undef, tm.getD 65 undef, tm.getD 66 undef, tm.getD 67 undef] := (Facts.array_lit tm hsize).trans rfl
      rw [f8] at hlit
      clear f8 hsize hnew hold
      generalize tm.getD 0 undef = x0 at hlit
      generalize tm.getD 1 undef = x1 at hlit
      generalize tm.getD 2 undef = x2 at hlit
      generalize tm.getD 3 undef = x3 at hlit
      generalize tm.getD 4 undef = x4 at hlit
      generalize tm.getD 5 undef = x5 at hlit
      generalize tm.getD 6 undef = x6 at hlit
      generalize tm.getD 7 undef = x7 at hlit
      generalize tm.getD 9 undef = x9 at hlit
      generalize tm.getD 10 undef = x10 at hlit
      generalize tm.getD 11 undef = x11 at hlit
      generalize tm.getD 12 undef = x12 at hlit
      generalize tm.getD 13 undef = x13 at hlit
      generalize tm.getD 14 undef = x14 at hlit
      generalize tm.getD 15 undef = x15 at hlit
      generalize tm.getD 16 undef = x16 at hlit
      generalize tm.getD 17 undef = x17 at hlit
      generalize tm.getD 18 undef = x18 at hlit
      generalize tm.getD 19 undef = x19 at hlit
      generalize tm.getD 20 undef = x20 at hlit
      generalize tm.getD 21 undef = x21 at hlit
      generalize tm.getD 22 undef = x22 at hlit
      generalize tm.getD 23 undef = x23 at hlit
      generalize tm.getD 24 undef = x24 at hlit
      generalize tm.getD 25 undef = x25 at hlit
      generalize tm.getD 26 undef = x26 at hlit
      generalize tm.getD 27 undef = x27 at hlit
      generalize tm.getD 28 undef = x28 at hlit
      generalize tm.getD 29 undef = x29 at hlit
      generalize tm.getD 30 undef = x30 at hlit
      generalize tm.getD 31 undef = x31 at hlit
      generalize tm.getD 32 undef = x32 at hlit
      generalize tm.getD 33 undef = x33 at hlit
      generalize tm.getD 34 undef = x34 at hlit
      generalize tm.getD 35 undef = x35 at hlit
      generalize tm.getD 36 undef = x36 at hlit
      generalize tm.getD 37 undef = x37 at hlit
      generalize tm.getD 38 undef = x38 at hlit
      generalize tm.getD 39 undef = x39 at hlit
      generalize tm.getD 40 undef = x40 at hlit
      generalize tm.getD 41 undef = x41 at hlit
      generalize tm.getD 42 undef = x42 at hlit
      generalize tm.getD 43 undef = x43 at hlit
      generalize tm.getD 44 undef = x44 at hlit
      generalize tm.getD 45 undef = x45 at hlit
      generalize tm.getD 46 undef = x46 at hlit
      generalize tm.getD 47 undef = x47 at hlit
      generalize tm.getD 48 undef = x48 at hlit
      generalize tm.getD 49 undef = x49 at hlit
      generalize tm.getD 50 undef = x50 at hlit
      generalize tm.getD 51 undef = x51 at hlit
      generalize tm.getD 52 undef = x52 at hlit
      generalize tm.getD 53 undef = x53 at hlit
      generalize tm.getD 54 undef = x54 at hlit
      generalize tm.getD 55 undef = x55 at hlit
      generalize tm.getD 56 undef = x56 at hlit
      generalize tm.getD 57 undef = x57 at hlit
      generalize tm.getD 58 undef = x58 at hlit
      generalize tm.getD 59 undef = x59 at hlit
      generalize tm.getD 60 undef = x60 at hlit
      generalize tm.getD 61 undef = x61 at hlit
      generalize tm.getD 62 undef = x62 at hlit
      generalize tm.getD 63 undef = x63 at hlit
      generalize tm.getD 64 undef = x64 at hlit
      generalize tm.getD 65 undef = x65 at hlit
      generalize tm.getD 66 undef = x66 at hlit
      generalize tm.getD 67 undef = x67 at hlit
      subst hlit
      subst hdef
      try simp only []
      have b2 : Below w.heap.size w w3 := bel7.trans (((Below.refl w.heap.size u11).drew).trans (hR'.mono bel7.size))
      clear bel7 b57 HC0 HC HS1 HS2 hR' up
      go_wp2
      go_ret
      exact ⟨rfl, b2⟩
end Go.Proofs.Ytpakjlgohbofhaa.Evt
