/- EventRight, walked. -/
import Derived.Test.YtocokfgkbdfodaaEvLaw
namespace Go.Proofs.Ytocokfgkbdfodaa.Evt
open Go Go.RowKit Go.Proofs.Ytocokfgkbdfodaa.Words Go.Proofs.Ytocokfgkbdfodaa.Enc Go.Proofs.Ytocokfgkbdfodaa.Q Go.Proofs.Ytocokfgkbdfodaa.Made
set_option linter.unusedVariables false

set_option maxRecDepth 100000 in
set_option maxHeartbeats 1000000 in
theorem right_law (e : Ev) (A : Option Addr) (n c how : Nat) (w : World) (hf : e.Fit) (hs : Sees w A n e.text) (hn : n ≤ 9223372036854775807) (hk : e.key.size ≤ 9223372036854775807) :
    Calls Try.prog 3 #[e.val A n c, .int .u8 (how : Int)] w fun e' w' => e' = .returned (.bool true) ∧ Below w.heap.size w w' := by
  show Calls _ _ #[.agg (e.row A n c), _] _ _
  unfold Ev.row
  have hsf := store_float Try.prog
  have hbx : ∀ W, Below (w.heap.size + 1) (w.alloc (.cells #[.int .i64 e.writer, .int .u64 (e.seq : Int), .int .u64 (e.time : Int), .int .u8 (e.kind : Int), .string e.key, .slice A n c, .float .f64 e.num, .int .i64 e.node] 26)) W → _ := fun W hW => boxed _ w hW
  have HBX := Lib.hid hbx
  have hl := hs.1
  have LEN := Lib.hid (show n = (nearE e how).text.length by rw [near_text]; exact hl.symm)
  have FIT := Lib.hid (near_fit (how := how) hf)
  have L1 := Lib.hid (show (nearE e how).text.length ≤ 9223372036854775807 by rw [near_text]; omega)
  have L2 := Lib.hid (near_key (how := how) hk (by omega))
  clear hbx hl
  by_cases h1 : 100 < e.key.size
  · go_enter Try.func3, Try.ntmps3
    go_wp2_with fail
    refine (awake_any _).mono ?_
    rintro e' u1 ⟨rfl, hb⟩
    obtain ⟨bel, g0, hz⟩ := HBX.out u1 (hb.mono (by simp))
    obtain ⟨p0, p1, p2, p3, p4, p5, p6, p7⟩ := box8 g0
    go_wp2_with fail
    refine (awake_any _).mono ?_
    rintro e' u2 ⟨rfl, hb2⟩
    have bel2 := bel.trans (hb2.mono (by omega))
    clear p0 p1 p2 p3 p4 p5 p6 p7
    go_wp2
    go_ret
    exact ⟨rfl, bel2⟩
  by_cases h2 : 1000 < n
  · go_enter Try.func3, Try.ntmps3
    go_wp2_with fail
    refine (awake_any _).mono ?_
    rintro e' u1 ⟨rfl, hb⟩
    obtain ⟨bel, g0, hz⟩ := HBX.out u1 (hb.mono (by simp))
    obtain ⟨p0, p1, p2, p3, p4, p5, p6, p7⟩ := box8 g0
    go_wp2_with fail
    refine (awake_any _).mono ?_
    rintro e' u2 ⟨rfl, hb2⟩
    have bel2 := bel.trans (hb2.mono (by omega))
    clear p0 p1 p2 p3 p4 p5 p6 p7
    go_wp2
    go_ret
    exact ⟨rfl, bel2⟩
  · go_enter Try.func3, Try.ntmps3
    go_wp2_with fail
    refine (awake_any _).mono ?_
    rintro e' u1 ⟨rfl, hb⟩
    obtain ⟨bel, g0, hz⟩ := HBX.out u1 (hb.mono (by simp))
    obtain ⟨p0, p1, p2, p3, p4, p5, p6, p7⟩ := box8 g0
    go_wp2_with fail
    refine (near_any e A n c how u1 hf hk).mono ?_
    rintro e' u2 ⟨rfl, hb2⟩
    have g1 := (hb2.block w.heap.size hz).trans g0
    have bel2 := bel.trans (hb2.mono (by omega))
    clear p0 p1 p2 p3 p4 p5 p6 p7 g0 hb bel
    go_wp2_with (first
      | (refine wpList_putRow rfl 26 (.tmp 2) (.tmp 22) rfl w.heap.size 26 (e.row A n c) ((nearE e how).row A n c) rfl rfl g1 (by kernel_rfl) rfl (by simp [Value.oneCell', Ev.row]) ?_))
    intro u3 g3 hbe
    have bel3 := Below.beside bel2 hbe bel2.size (by simp)
    have HC : Hid (∀ W, Below u3.drew.heap.size u3.drew W → W.heap[w.heap.size]? = some (.cells ((nearE e how).row A n c) 26 (0, 0))) := Lib.hid fun W hW => (hW.block w.heap.size (Array.getElem?_eq_some_iff.1 g3).1).trans g3
    clear g1 hbe bel2 g3 hb2
    go_wp2_with fail
    refine Facts.wp_region_preds (n := 28) (by kernel_rfl) (by kernel_rfl) rfl [Facts.Pred.is ((nearE e how).val A n c), Facts.Pred.is (Value.int .i64 (rightE (nearE e how) : Int)), Facts.Pred.is ((nearE e how).val A n c), Facts.Pred.is (Value.int .i64 (rightE (nearE e how) : Int)), Facts.Pred.is (Value.bool true), Facts.Pred.is (Value.bool true)] ?_ ?_
    · refine ⟨?_, ?_, ?_, ?_, ?_, ?_, trivial⟩
      · refine Facts.step_is ((nearE e how).val A n c) fun a W hR hold hnew => ?_
        have f2 : a.tmps.getD 2 undef = Value.pointer (some ⟨w.heap.size, 0, none⟩) := hold 2 (by kernel_rfl)
        obtain ⟨k0, k1, k2, k3, k4, k5, k6, k7⟩ := box8 (HC.out W hR)
        refine ⟨Facts.wanted_free rfl, ?_, fun _ => rfl⟩
        simp [go_sem, Act.eval, f2, k0, k1, k2, k3, k4, k5, k6, k7, Ev.val]
      · -- 1: Op.call { value (Operand.func 10), args := #[t23], argTypes 
        refine Facts.step_call fun a W hR hold hnew => ?_
        have f23 : a.tmps.getD 23 undef = (nearE e how).val A n c := hnew 0 23 (by kernel_rfl)
        refine ⟨Facts.wanted_free rfl, 10, #[(nearE e how).val A n c], by simp [go_sem, Act.eval, f23], ?_⟩
        refine (right_any (nearE e how) A n c W FIT.out LEN.out L1.out L2.out).mono ?_
        rintro e' w7 ⟨rfl, hb7⟩
        exact ⟨_, rfl, hb7, rfl⟩
      · refine Facts.step_is ((nearE e how).val A n c) fun a W hR hold hnew => ?_
        have f2 : a.tmps.getD 2 undef = Value.pointer (some ⟨w.heap.size, 0, none⟩) := hold 2 (by kernel_rfl)
        obtain ⟨k0, k1, k2, k3, k4, k5, k6, k7⟩ := box8 (HC.out W hR)
        refine ⟨Facts.wanted_free rfl, ?_, fun _ => rfl⟩
        simp [go_sem, Act.eval, f2, k0, k1, k2, k3, k4, k5, k6, k7, Ev.val]
      · -- 3: Op.call { value (Operand.func 11), args := #[t25], argTypes 
        refine Facts.step_call fun a W hR hold hnew => ?_
        have f25 : a.tmps.getD 25 undef = (nearE e how).val A n c := hnew 2 25 (by kernel_rfl)
        refine ⟨Facts.wanted_free rfl, 11, #[(nearE e how).val A n c], by simp [go_sem, Act.eval, f25], ?_⟩
        refine (refRight_any (nearE e how) A n c W FIT.out LEN.out L1.out L2.out).mono ?_
        rintro e' w7 ⟨rfl, hb7⟩
        exact ⟨_, rfl, hb7, rfl⟩
      · refine Facts.step_is (Value.bool true) fun a W hR hold hnew => ?_
        have f24 : a.tmps.getD 24 undef = Value.int .i64 (rightE (nearE e how) : Int) := hnew 1 24 (by kernel_rfl)
        have f26 : a.tmps.getD 26 undef = Value.int .i64 (rightE (nearE e how) : Int) := hnew 3 26 (by kernel_rfl)
        refine ⟨Facts.wanted_free rfl, ?_, fun _ => rfl⟩
        simp [go_sem, Act.eval, f24, f26]
      · refine Facts.step_is (Value.bool true) fun a W hR hold hnew => ?_
        have f27 : a.tmps.getD 27 undef = Value.bool true := hnew 4 27 (by kernel_rfl)
        refine ⟨Facts.wanted_free rfl, ?_, fun _ => rfl⟩
        simp [go_sem, Act.eval, f27]
    · intro a w3 hR' hsize hdef hnew hold
      have f4 : a.tmps.getD 4 undef = Value.bool true := hnew 5 4 (by kernel_rfl)
      obtain ⟨tm, df⟩ := a
      simp only [] at hdef hsize f4
      have hlit : tm = #[tm.getD 0 undef, tm.getD 1 undef, tm.getD 2 undef, tm.getD 3 undef, tm.getD 4 undef, tm.getD 5 undef, tm.getD 6 undef, tm.getD 7 undef, tm.getD 8 undef, tm.getD 9 undef, tm.getD 10 undef, tm.getD 11 undef, tm.getD 12 undef, tm.getD 13 undef, tm.getD 14 undef, tm.getD 15 undef, tm.getD 16 undef, tm.getD 17 undef, tm.getD 18 undef, tm.getD 19 undef, tm.getD 20 undef, tm.getD 21 undef, tm.getD 22 undef, tm.getD 23 undef, tm.getD 24 undef, tm.getD 25 undef, tm.getD 26 undef, tm.getD 27 undef] := (Facts.array_lit tm hsize).trans rfl
      rw [f4] at hlit
      clear f4 hsize hnew hold
      generalize tm.getD 0 undef = x0 at hlit
      generalize tm.getD 1 undef = x1 at hlit
      generalize tm.getD 2 undef = x2 at hlit
      generalize tm.getD 3 undef = x3 at hlit
      generalize tm.getD 5 undef = x5 at hlit
      generalize tm.getD 6 undef = x6 at hlit
      generalize tm.getD 7 undef = x7 at hlit
      generalize tm.getD 8 undef = x8 at hlit
      generalize tm.getD 9 undef = x9 at hlit
      generalize tm.getD 10 undef = x10 at hlit
      generalize tm.getD 11 undef = x11 at hlit
      generalize tm.getD 12 undef = x12 at hlit
      generalize tm.getD 13 undef = x13 at hlit
      generalize tm.getD 14 undef = x14 at hlit
      generalize tm.getD 15 undef = x15 at hlit
      generalize tm.getD 16 undef = x16 at hlit
      generalize tm.getD 17 undef = x17 at hlit
      generalize tm.getD 18 undef = x18 at hlit
      generalize tm.getD 19 undef = x19 at hlit
      generalize tm.getD 20 undef = x20 at hlit
      generalize tm.getD 21 undef = x21 at hlit
      generalize tm.getD 22 undef = x22 at hlit
      generalize tm.getD 23 undef = x23 at hlit
      generalize tm.getD 24 undef = x24 at hlit
      generalize tm.getD 25 undef = x25 at hlit
      generalize tm.getD 26 undef = x26 at hlit
      generalize tm.getD 27 undef = x27 at hlit
      subst hlit
      subst hdef
      try simp only []
      have b2 : Below w.heap.size w w3 := bel3.trans (((Below.refl w.heap.size u3).drew).trans (hR'.mono bel3.size))
      go_wp2
      go_ret
      exact ⟨rfl, b2⟩
end Go.Proofs.Ytocokfgkbdfodaa.Evt
