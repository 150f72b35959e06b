/- EventBytes, walked. -/
import Derived.Test.YtpakjlgohbofhaaEvLaw
import Derived.Test.YtpakjlgohbofhaaBEvTake
namespace Go.Proofs.Ytpakjlgohbofhaa.Evt
open Go Go.RowKit Go.Proofs.Ytpakjlgohbofhaa.Words Go.Proofs.Ytpakjlgohbofhaa.Enc Go.Proofs.Ytpakjlgohbofhaa.Q Go.Proofs.Ytpakjlgohbofhaa.Made
set_option linter.unusedVariables false
set_option linter.unusedSimpArgs false

theorem wanted_not {ops : Array Oper} {o : Oper} {a : Act} {g d : Nat} {b : Bool} (h : o.guard = some (g, b)) (hd : (ops[g]?).bind (·.dst) = some d) (hv : a.tmps.getD d undef = .bool (!b)) : Region.wanted o (yielded ops a.tmps) = false := by
  have hlt : d < a.tmps.size := by
    rcases Nat.lt_or_ge d a.tmps.size with h' | h'
    · exact h'
    · rw [Array.getD_eq_getD_getElem?, Array.getElem?_eq_none h'] at hv
      cases hv
  have hy : yielded ops a.tmps g = some (!b) := by
    unfold yielded
    rw [hd]
    simp only [Option.bind_some]
    rw [Array.getD_eq_getD_getElem?, Array.getElem?_eq_getElem hlt] at hv
    rw [Array.getElem?_eq_getElem hlt]
    simp only [Option.getD_some] at hv
    rw [hv]
  cases b <;> simp [Region.wanted, h, hy]
theorem step_skip {P : Program} {ops : Array Oper} {a0 : Act} {w0 : World} {L : List Facts.Pred} {j : Nat} {o : Oper}
    (h : ∀ (a : Act) (w : World), (∀ i d, Facts.dep ops j i d = true → Facts.holds L i (a.tmps.getD d undef) w) → Region.wanted o (yielded ops a.tmps) = false) (hu : ∀ w, Facts.holds L j undef w) :
    Facts.Step P ops a0 w0 (fun a b => Below a.heap.size a b) (Facts.holds L) j o := fun a w _ _ hnew =>
  ⟨fun hw => absurd hw (by rw [h a w hnew]; decide), fun _ => hu w⟩

set_option maxRecDepth 100000 in
set_option maxHeartbeats 4000000 in
theorem bytes_law (e : Ev) (A : Option Addr) (n c how : Nat) (w : World) (hf : e.Fit) (hs : Sees w A n e.text) (hn : n ≤ 9223372036854775807) (hk : e.key.size ≤ 9223372036854775807) :
    Calls Try.prog 3 #[e.val A n c, .int .u8 (how : Int)] w fun e' w' => e' = .returned (.bool true) ∧ Below w.heap.size w w' := by
  show Calls _ _ #[.agg (e.row A n c), _] _ _
  unfold Ev.row
  have hsf := store_float Try.prog
  have hbx : ∀ W, Below (w.heap.size + 1) (w.alloc (.cells #[.int .i64 e.writer, .int .u64 (e.seq : Int), .int .u64 (e.time : Int), .int .u8 (e.kind : Int), .string e.key, .slice A n c, .float .f64 e.num, .int .i64 e.node] 26)) W → _ := fun W hW => boxed _ w hW
  have HBX := Lib.hid hbx
  clear hbx
  by_cases h1 : 100 < e.key.size
  case pos =>
    go_enter Try.func3, Try.ntmps3
    go_wp2_with fail
    refine (awake_any _).mono ?_
    rintro e' u1 ⟨rfl, hb⟩
    obtain ⟨bel, g0, hz⟩ := HBX.out u1 (hb.mono (by simp))
    obtain ⟨p0, p1, p2, p3, p4, p5, p6, p7⟩ := box8 g0
    go_wp2_with fail
    refine (awake_any _).mono ?_
    rintro e' u2 ⟨rfl, hb2⟩
    have bel2 := bel.trans (hb2.mono (by omega))
    clear p0 p1 p2 p3 p4 p5 p6 p7
    go_wp2
    go_ret
    exact ⟨rfl, bel2⟩
  by_cases h2 : 1000 < n
  case pos =>
    go_enter Try.func3, Try.ntmps3
    go_wp2_with fail
    refine (awake_any _).mono ?_
    rintro e' u1 ⟨rfl, hb⟩
    obtain ⟨bel, g0, hz⟩ := HBX.out u1 (hb.mono (by simp))
    obtain ⟨p0, p1, p2, p3, p4, p5, p6, p7⟩ := box8 g0
    go_wp2_with fail
    refine (awake_any _).mono ?_
    rintro e' u2 ⟨rfl, hb2⟩
    have bel2 := bel.trans (hb2.mono (by omega))
    clear p0 p1 p2 p3 p4 p5 p6 p7
    go_wp2
    go_ret
    exact ⟨rfl, bel2⟩
  go_enter Try.func3, Try.ntmps3
  go_wp2_with fail
  refine (awake_any _).mono ?_
  rintro e' u1 ⟨rfl, hb⟩
  obtain ⟨bel, g0, hz⟩ := HBX.out u1 (hb.mono (by simp))
  obtain ⟨p0, p1, p2, p3, p4, p5, p6, p7⟩ := box8 g0
  go_wp2_with fail
  refine (near_any e A n c how u1 hf hk).mono ?_
  rintro e' u2 ⟨rfl, hb2⟩
  have g1 := (hb2.block w.heap.size hz).trans g0
  have bel2 := bel.trans (hb2.mono (by omega))
  clear p0 p1 p2 p3 p4 p5 p6 p7 g0 hb bel
  go_wp2_with (first
    | (refine wpList_putRow rfl 26 (.tmp 2) (.tmp 27) rfl w.heap.size 26 (e.row A n c) ((nearE e how).row A n c) rfl rfl g1 (by kernel_rfl) rfl (by simp [Value.oneCell', Ev.row]) ?_))
  intro u3 g3 hbe
  have bel3 := Below.beside bel2 hbe bel2.size (by simp)
  have hz3 := (Array.getElem?_eq_some_iff.1 g3).1
  have s3 : Sees u3 A n (nearE e how).text := by rw [near_text]; exact hs.below bel3
  have fit := near_fit (how := how) hf
  have hq : (nearE e how).num < 18446744073709551616 := fit.q
  have hlt : (nearE e how).text.length ≤ 1000 := by rw [near_text]; have := hs.1; omega
  have hkey := near_key (how := how) (m := 9223372036854775807) hk (by omega)
  have htl : n = (nearE e how).text.length := s3.1.symm
  generalize nearE e how = v at g3 s3 fit hq hlt hkey htl ⊢
  obtain ⟨p0, p1, p2, p3, p4, p5, p6, p7⟩ := box8 g3
  have HTL := Lib.hid htl
  have HN := Lib.hid (show n ≤ 1000 by omega)
  clear g1 hbe bel2 hb2 hs hf hk HBX h1 h2 hn htl
  by_cases hr : rightE v = 0
  case neg =>
    have d1 : ((rightE v : Int) != 0) = true := by rw [bne_iff_ne]; omega
    have d2 : ((rightE v : Int) == 0) = false := by rw [beq_eq_false_iff_ne]; omega
    clear hr
    go_wp2_with fail
    refine (refRight_any v A n c u3 fit HTL.out (by omega) hkey).mono ?_
    rintro e' u4 ⟨rfl, hb4⟩
    have bel4 := bel3.trans (hb4.mono (by omega))
    clear p0 p1 p2 p3 p4 p5 p6 p7
    go_wp2
    go_ret
    exact ⟨rfl, bel4⟩
  have hR := (right_iff v).1 hr
  have d1 : ((rightE v : Int) != 0) = false := by rw [hr]; rfl
  have d2 : ((rightE v : Int) == 0) = true := by rw [hr]; rfl
  clear hr
  go_wp2_with fail
  refine (refRight_any v A n c u3 fit HTL.out (by omega) hkey).mono ?_
  rintro e' u4 ⟨rfl, hb4⟩
  have g4 := (hb4.block w.heap.size hz3).trans g3
  have s4 := s3.below hb4
  have bel4 := bel3.trans (hb4.mono bel3.size)
  clear p0 p1 p2 p3 p4 p5 p6 p7 g3 s3 bel3 hb4 hz3
  obtain ⟨p0, p1, p2, p3, p4, p5, p6, p7⟩ := box8 g4
  have hz4 := (Array.getElem?_eq_some_iff.1 g4).1
  go_wp2_with fail
  refine (encode_any v A n c u4 s4 hq hR).mono ?_
  rintro e' u5 ⟨A5, c5, rfl, own5, hb5⟩
  have hcap5 := Own.cap own5
  have s5 := Sees.of_own own5
  have g5 := (hb5.block w.heap.size hz4).trans g4
  have t5 := s4.below hb5
  have bel5 := bel4.trans (hb5.mono bel4.size)
  have hL : (evL v).length ≤ 2000 := by
    have := evL_len hR
    omega
  clear p0 p1 p2 p3 p4 p5 p6 p7 g4 s4 bel4 hb5 hz4 own5
  have hz5 := (Array.getElem?_eq_some_iff.1 g5).1
  go_wp2_with fail
  refine (decode_any A5 _ c5 (evL v) u5 s5 hcap5.1 (by omega)).mono ?_
  rw [decG_evL hR hq]
  rintro e' u6 ⟨A6, n6, c6, rfl, t6, -, -, -, hb6⟩
  have g6 := (hb6.block w.heap.size hz5).trans g5
  have s6 := s5.below hb6
  have r6 := t5.below hb6
  have bel6 := bel5.trans (hb6.mono bel5.size)
  have hz6 := (Array.getElem?_eq_some_iff.1 g6).1
  clear g5 s5 t5 bel5 hb6 hz5 hcap5
  obtain ⟨p0, p1, p2, p3, p4, p5, p6, p7⟩ := box8 g6
  obtain ⟨xk, hxk⟩ : ∃ k, k = (plainE v).key := ⟨_, rfl⟩
  obtain ⟨xt, hxt⟩ : ∃ k, k = (plainE v).text := ⟨_, rfl⟩
  obtain ⟨xn, hxn⟩ : ∃ k, k = (plainE v).num := ⟨_, rfl⟩
  obtain ⟨xd, hxd⟩ : ∃ k, k = (plainE v).node := ⟨_, rfl⟩
  have hpl : plainE v = ⟨v.writer, v.seq, v.time, v.kind, xk, xt, xn, xd⟩ := by rw [hxk, hxt, hxn, hxd]; rfl
  rw [hpl] at t6 ⊢
  have hxq : xn < 18446744073709551616 := by rw [hxn]; exact plain_num hq
  have hxR : Right ⟨v.writer, v.seq, v.time, v.kind, xk, xt, xn, xd⟩ := by rw [← hpl]; exact plain_right hR
  have hxL : evL ⟨v.writer, v.seq, v.time, v.kind, xk, xt, xn, xd⟩ = evL v := by rw [← hpl]; exact plain_evL hR.k1
  have hkey2 : (v.kind ≤ 4 ∧ xk = v.key) ∨ (¬ v.kind ≤ 4 ∧ xk = ⟨#[]⟩) := by
    have h1 := hR.k1
    by_cases h4 : v.kind ≤ 4
    · exact .inl ⟨h4, by rw [hxk]; simp [plainE, h1, h4]⟩
    · exact .inr ⟨h4, by rw [hxk]; simp [plainE, h4]⟩
  have KEY := Lib.hid hkey2
  have PL := Lib.hid hpl
  have XF := Lib.hid (And.intro hxq (And.intro hxR hxL))
  have VF := Lib.hid (And.intro hq hR)
  clear hxk hxt hxn hxd hpl hxq hxR hxL hkey2 hq hR
  unfold Ev.val
  have hal := (Below.refl u6.heap.size u6).alloc (Nat.le_refl _) (.cells #[.int .i64 v.writer, .int .u64 (v.seq : Int), .int .u64 (v.time : Int), .int .u8 (v.kind : Int), .string xk, .slice A6 n6 c6, .float .f64 xn, .int .i64 xd] 26)
  have g7 := (hal.block w.heap.size hz6).trans g6
  have f7 := heap_alloc_new u6 (.cells #[.int .i64 v.writer, .int .u64 (v.seq : Int), .int .u64 (v.time : Int), .int .u8 (v.kind : Int), .string xk, .slice A6 n6 c6, .float .f64 xn, .int .i64 xd] 26)
  have t7 := t6.below hal
  have s7 := s6.below hal
  have r7 := r6.below hal
  have bel7 := bel6.trans (hal.mono bel6.size)
  have hz7 : (u6.alloc (.cells #[.int .i64 v.writer, .int .u64 (v.seq : Int), .int .u64 (v.time : Int), .int .u8 (v.kind : Int), .string xk, .slice A6 n6 c6, .float .f64 xn, .int .i64 xd] 26)).heap.size = u6.heap.size + 1 := by simp
  clear hal g6 t6 s6 r6 bel6
  go_wp2_with fail
  generalize u6.alloc (.cells #[.int .i64 v.writer, .int .u64 (v.seq : Int), .int .u64 (v.time : Int), .int .u8 (v.kind : Int), .string xk, .slice A6 n6 c6, .float .f64 xn, .int .i64 xd] 26) = u7 at g7 f7 t7 s7 r7 bel7 hz7 ⊢
  refine (plain_any v A n c u7 r7 (by have := HN.out; omega)).mono ?_
  rintro e' u8 ⟨A8, n8, c8, rfl, t8, -, -, hb8⟩
  rw [PL.out] at t8 ⊢
  have g8 := (hb8.block w.heap.size (by omega)).trans g7
  have f8 := (hb8.block u6.heap.size (by omega)).trans f7
  have k8 := t7.below hb8
  have s8 := s7.below hb8
  have r8 := r7.below hb8
  have bel8 := bel7.trans (hb8.mono bel7.size)
  have hz8 := hb8.size
  unfold Ev.val
  have HB : Hid (∀ W, Below (u8.heap.size + 1) (u8.alloc (.cells #[.int .i64 v.writer, .int .u64 (v.seq : Int), .int .u64 (v.time : Int), .int .u8 (v.kind : Int), .string xk, .slice A8 n8 c8, .float .f64 xn, .int .i64 xd] 26)) W → W.heap[u6.heap.size]? = some (.cells #[.int .i64 v.writer, .int .u64 (v.seq : Int), .int .u64 (v.time : Int), .int .u8 (v.kind : Int), .string xk, .slice A6 n6 c6, .float .f64 xn, .int .i64 xd] 26 (0, 0)) ∧ W.heap[u8.heap.size]? = some (.cells #[.int .i64 v.writer, .int .u64 (v.seq : Int), .int .u64 (v.time : Int), .int .u8 (v.kind : Int), .string xk, .slice A8 n8 c8, .float .f64 xn, .int .i64 xd] 26 (0, 0)) ∧
      W.heap[w.heap.size]? = some (.cells (v.row A n c) 26 (0, 0)) ∧ Sees W A n v.text ∧ Sees W A6 n6 xt ∧ Sees W A8 n8 xt ∧ Sees W A5 (evL v).length (evL v) ∧ Below w.heap.size w W ∧ u8.heap.size + 1 ≤ W.heap.size) := Lib.hid fun W hW => by
    have hA := ((Below.refl u8.heap.size u8).alloc (Nat.le_refl _) (.cells #[.int .i64 v.writer, .int .u64 (v.seq : Int), .int .u64 (v.time : Int), .int .u8 (v.kind : Int), .string xk, .slice A8 n8 c8, .float .f64 xn, .int .i64 xd] 26)).trans (hW.mono (by omega))
    refine ⟨(hA.block u6.heap.size (by omega)).trans f8, ?_, (hA.block w.heap.size (by omega)).trans g8, r8.below hA, k8.below hA, t8.below hA, s8.below hA, bel8.trans (hA.mono bel8.size), by have := hW.size; simp at this; omega⟩
    rw [hW.block u8.heap.size (by omega)]
    exact heap_alloc_new u8 _
  have b8 : Below (u8.heap.size + 1) (u8.alloc (.cells #[.int .i64 v.writer, .int .u64 (v.seq : Int), .int .u64 (v.time : Int), .int .u8 (v.kind : Int), .string xk, .slice A8 n8 c8, .float .f64 xn, .int .i64 xd] 26)) (u8.alloc (.cells #[.int .i64 v.writer, .int .u64 (v.seq : Int), .int .u64 (v.time : Int), .int .u8 (v.kind : Int), .string xk, .slice A8 n8 c8, .float .f64 xn, .int .i64 xd] 26)) := Below.refl _ _
  obtain ⟨f6, f9, fv, sv, sx, sy, sp, bel, hz⟩ := HB.out _ b8
  clear g7 f7 t7 s7 r7 bel7 hb8 g8 f8 k8 s8 r8 bel8 p0 p1 p2 p3 p4 p5 p6 p7
  obtain ⟨p0, p1, p2, p3, p4, p5, p6, p7⟩ := box8 fv
  obtain ⟨q0, q1, q2, q3, q4, q5, q6, q7⟩ := box8 f6
  obtain ⟨r0, r1, r2, r3, r4, r5, r6, r7⟩ := box8 f9
  have hu68 : u6.heap.size < u8.heap.size := by omega
  have hw8 : w.heap.size < u8.heap.size := by omega
  have hw6 : w.heap.size < u6.heap.size := hz6
  clear f6 f9 fv hz7 hz8 hz6
  clear sp sv sx sy
  go_wp2_with fail
  generalize hU : u8.alloc (.cells #[.int .i64 v.writer, .int .u64 (v.seq : Int), .int .u64 (v.time : Int), .int .u8 (v.kind : Int), .string xk, .slice A8 n8 c8, .float .f64 xn, .int .i64 xd] 26) = u9 at *
  have hs9 : u9.heap.size = u8.heap.size + 1 := by rw [← hU]; simp
  clear hU
  have up : ∀ W, Below u9.drew.heap.size u9.drew W → Below (u8.heap.size + 1) u9 W := fun W hW => ((Below.refl (u8.heap.size + 1) u9).drew).trans (hW.mono (Nat.le_of_eq hs9.symm))
  have HC : Hid (∀ W, Below u9.drew.heap.size u9.drew W → W.heap[u6.heap.size]? = some (.cells ((⟨v.writer, v.seq, v.time, v.kind, xk, xt, xn, xd⟩ : Ev).row A6 n6 c6) 26 (0, 0)) ∧ W.heap[u8.heap.size]? = some (.cells ((⟨v.writer, v.seq, v.time, v.kind, xk, xt, xn, xd⟩ : Ev).row A8 n8 c8) 26 (0, 0)) ∧ W.heap[w.heap.size]? = some (.cells (v.row A n c) 26 (0, 0))) := Lib.hid fun W hW => ⟨(HB.out W (up W hW)).1, (HB.out W (up W hW)).2.1, (HB.out W (up W hW)).2.2.1⟩
  have HSV : Hid (∀ W, Below u9.drew.heap.size u9.drew W → Sees W A n v.text) := Lib.hid fun W hW => (HB.out W (up W hW)).2.2.2.1
  have HSX : Hid (∀ W, Below u9.drew.heap.size u9.drew W → Sees W A6 n6 xt) := Lib.hid fun W hW => (HB.out W (up W hW)).2.2.2.2.1
  have HSY : Hid (∀ W, Below u9.drew.heap.size u9.drew W → Sees W A8 n8 xt) := Lib.hid fun W hW => (HB.out W (up W hW)).2.2.2.2.2.1
  have HSP : Hid (∀ W, Below u9.drew.heap.size u9.drew W → Sees W A5 (evL v).length (evL v)) := Lib.hid fun W hW => (HB.out W (up W hW)).2.2.2.2.2.2.1
  have HBE : Hid (∀ W, Below u9.drew.heap.size u9.drew W → Below w.heap.size w W) := Lib.hid fun W hW => (HB.out W (up W hW)).2.2.2.2.2.2.2.1
  clear HB up bel HTL HN hs9 hz
  clear p0 p1 p2 p3 p4 p5 p6 p7 q0 q1 q2 q3 q4 q5 q6 q7 r0 r1 r2 r3 r4 r5 r6 r7 fit hkey hlt d1 d2 hsf hu68 hw8 hw6 b8 hL
  rcases KEY.out with ⟨hk4, hxk⟩ | ⟨hk4, hxk⟩
  · have d9 : decide ((v.kind : Int) ≤ 4) = true := decide_eq_true (by omega)
    rw [d9]
    refine Facts.wp_region_preds (n := 135) (by kernel_rfl) (by kernel_rfl) rfl [Facts.Pred.is (Value.slice A5 (evL v).length c5), Facts.Pred.is (Value.string ⟨(evL v).toArray⟩), Facts.Pred.is ((v.val A n c)), Facts.Pred.shows (evL v).length (evL v), Facts.Pred.is (Value.string ⟨(evL v).toArray⟩), Facts.Pred.is (Value.bool true), Facts.Pred.is (Value.bool true), Facts.Pred.is (Value.int .i64 0), Facts.Pred.is (Value.bool true), Facts.Pred.is (Value.bool true), Facts.Pred.is (Value.bool true), Facts.Pred.is (((⟨v.writer, v.seq, v.time, v.kind, xk, xt, xn, xd⟩ : Ev).val A6 n6 c6)), Facts.Pred.is ((v.val A n c)), Facts.Pred.is (Value.bool true), Facts.Pred.is (Value.bool true), Facts.Pred.is (Value.bool true), Facts.Pred.is (((⟨v.writer, v.seq, v.time, v.kind, xk, xt, xn, xd⟩ : Ev).val A6 n6 c6)), Facts.Pred.is (((⟨v.writer, v.seq, v.time, v.kind, xk, xt, xn, xd⟩ : Ev).val A8 n8 c8)), Facts.Pred.is (Value.bool true), Facts.Pred.is (Value.bool true), Facts.Pred.is (Value.bool true), Facts.Pred.is (Value.pointer (some ⟨u6.heap.size, 0, none⟩)), Facts.Pred.is (Value.int .i64 v.writer), Facts.Pred.is (Value.pointer (some ⟨w.heap.size, 0, none⟩)), Facts.Pred.is (Value.int .i64 v.writer), Facts.Pred.is (Value.bool true), Facts.Pred.is (Value.bool true), Facts.Pred.is (Value.bool true), Facts.Pred.is (Value.pointer (some ⟨u6.heap.size, 1, none⟩)), Facts.Pred.is (Value.int .u64 (v.seq : Int)), Facts.Pred.is (Value.pointer (some ⟨w.heap.size, 1, none⟩)), Facts.Pred.is (Value.int .u64 (v.seq : Int)), Facts.Pred.is (Value.bool true), Facts.Pred.is (Value.bool true), Facts.Pred.is (Value.bool true), Facts.Pred.is (Value.pointer (some ⟨u6.heap.size, 2, none⟩)), Facts.Pred.is (Value.int .u64 (v.time : Int)), Facts.Pred.is (Value.pointer (some ⟨w.heap.size, 2, none⟩)), Facts.Pred.is (Value.int .u64 (v.time : Int)), Facts.Pred.is (Value.bool true), Facts.Pred.is (Value.bool true), Facts.Pred.is (Value.bool true), Facts.Pred.is (Value.pointer (some ⟨u6.heap.size, 3, none⟩)), Facts.Pred.is (Value.int .u8 (v.kind : Int)), Facts.Pred.is (Value.pointer (some ⟨w.heap.size, 3, none⟩)), Facts.Pred.is (Value.int .u8 (v.kind : Int)), Facts.Pred.is (Value.bool true), Facts.Pred.is (Value.bool true), Facts.Pred.is (Value.bool true), Facts.Pred.is (Value.pointer (some ⟨u6.heap.size, 4, none⟩)), Facts.Pred.is (Value.string xk), Facts.Pred.is (Value.pointer (some ⟨w.heap.size, 4, none⟩)), Facts.Pred.is (Value.string v.key), Facts.Pred.is (Value.bool true), Facts.Pred.is (Value.bool true), Facts.Pred.is (Value.bool true), Facts.Pred.any, Facts.Pred.any, Facts.Pred.any, Facts.Pred.is (Value.bool true), Facts.Pred.is (Value.bool true), Facts.Pred.is (Value.bool true), Facts.Pred.is (Value.bool true), Facts.Pred.is (Value.pointer (some ⟨u8.heap.size, 4, none⟩)), Facts.Pred.is (Value.string xk), Facts.Pred.is (Value.pointer (some ⟨u6.heap.size, 4, none⟩)), Facts.Pred.is (Value.string xk), Facts.Pred.is (Value.bool true), Facts.Pred.is (Value.bool true), Facts.Pred.is (Value.bool true), Facts.Pred.is (Value.pointer (some ⟨u8.heap.size, 5, none⟩)), Facts.Pred.is (Value.slice A8 n8 c8), Facts.Pred.is (Value.string ⟨xt.toArray⟩), Facts.Pred.is (Value.pointer (some ⟨u6.heap.size, 5, none⟩)), Facts.Pred.is (Value.slice A6 n6 c6), Facts.Pred.is (Value.string ⟨xt.toArray⟩), Facts.Pred.is (Value.bool true), Facts.Pred.is (Value.bool true), Facts.Pred.is (Value.bool true), Facts.Pred.is (Value.pointer (some ⟨u8.heap.size, 7, none⟩)), Facts.Pred.is (Value.int .i64 xd), Facts.Pred.is (Value.pointer (some ⟨u6.heap.size, 7, none⟩)), Facts.Pred.is (Value.int .i64 xd), Facts.Pred.is (Value.bool true), Facts.Pred.is (Value.bool true), Facts.Pred.is (Value.bool true), Facts.Pred.is ((v.val A n c)), Facts.Pred.is (spotV v.time v.writer), Facts.Pred.is ((v.val A n c)), Facts.Pred.is (spotV v.time v.writer), Facts.Pred.is (Value.bool true), Facts.Pred.is (Value.bool true), Facts.Pred.is (Value.bool true)] ?_ ?_
    · refine ⟨?_, ?_, ?_, ?_, ?_, ?_, ?_, ?_, ?_, ?_, ?_, ?_, ?_, ?_, ?_, ?_, ?_, ?_, ?_, ?_, ?_, ?_, ?_, ?_, ?_, ?_, ?_, ?_, ?_, ?_, ?_, ?_, ?_, ?_, ?_, ?_, ?_, ?_, ?_, ?_, ?_, ?_, ?_, ?_, ?_, ?_, ?_, ?_, ?_, ?_, ?_, ?_, ?_, ?_, ?_, ?_, ?_, ?_, ?_, ?_, ?_, ?_, ?_, ?_, ?_, ?_, ?_, ?_, ?_, ?_, ?_, ?_, ?_, ?_, ?_, ?_, ?_, ?_, ?_, ?_, ?_, ?_, ?_, ?_, ?_, ?_, ?_, ?_, ?_, ?_, ?_, ?_, ?_, trivial⟩
      · refine Facts.step_is (Value.slice A5 (evL v).length c5) fun a W hR hold hnew => ?_
        have f5 : a.tmps.getD 5 undef = Value.slice A5 (evL v).length c5 := hold 5 (by kernel_rfl)
        refine ⟨Facts.wanted_free rfl, ?_, fun _ => rfl⟩
        simp [go_sem, Act.eval, f5]
      · refine Facts.step_is (Value.string ⟨(evL v).toArray⟩) fun a W hR hold hnew => ?_
        have f43 : a.tmps.getD 43 undef = Value.slice A5 (evL v).length c5 := hnew 0 43 (by kernel_rfl)
        have r := (HSP.out W hR).string (P := Try.prog) c5 (t := 23) (s := 9) (e := 5) Try.underlying23 Try.underlying5 Try.underlying9
        refine ⟨Facts.wanted_free rfl, ?_, fun _ => rfl⟩
        simp [go_sem, Act.eval, f43, r]
      · refine Facts.step_is ((v.val A n c)) fun a W hR hold hnew => ?_
        have f2 : a.tmps.getD 2 undef = Value.pointer (some ⟨w.heap.size, 0, none⟩) := hold 2 (by kernel_rfl)
        obtain ⟨hc1, hc2, hc3⟩ := HC.out W hR
        obtain ⟨k0, k1, k2, k3, k4, k5, k6, k7⟩ := box8 hc3
        refine ⟨Facts.wanted_free rfl, ?_, fun _ => rfl⟩
        simp [go_sem, Act.eval, f2, k0, k1, k2, k3, k4, k5, k6, k7, Ev.val]
      · -- 3: Op.call { value (Operand.func 15), args := #[t45], argTypes 
        refine Facts.step_call fun a W hR hold hnew => ?_
        have f45 : a.tmps.getD 45 undef = (v.val A n c) := hnew 2 45 (by kernel_rfl)
        refine ⟨Facts.wanted_free rfl, 12, #[(v.val A n c)], by simp [go_sem, Act.eval, f45], ?_⟩
        refine (refEncode_any v _ _ _ W (HSV.out W hR) VF.out.1 VF.out.2).mono ?_
        rintro e' w7 ⟨A7, c7, rfl, hown7, hb7⟩
        exact ⟨_, rfl, hb7, A7, c7, rfl, Sees.of_own hown7⟩
      · -- 4: Op.convert 23 9 t46
        refine Facts.step_is (Value.string ⟨(evL v).toArray⟩) fun a W hR hold hnew => ?_
        have h6 : ∃ A' c', a.tmps.getD 46 undef = .slice A' (evL v).length c' ∧ Sees W A' (evL v).length (evL v) := hnew 3 46 (by kernel_rfl)
        obtain ⟨A7, c7, f6, hs7⟩ := h6
        have r := hs7.string (P := Try.prog) c7 (t := 23) (s := 9) (e := 5) Try.underlying23 Try.underlying5 Try.underlying9
        refine ⟨Facts.wanted_free rfl, ?_, fun _ => rfl⟩
        simp [go_sem, Act.eval, f6, r]
      · refine Facts.step_is (Value.bool true) fun a W hR hold hnew => ?_
        have f44 : a.tmps.getD 44 undef = Value.string ⟨(evL v).toArray⟩ := hnew 1 44 (by kernel_rfl)
        have f47 : a.tmps.getD 47 undef = Value.string ⟨(evL v).toArray⟩ := hnew 4 47 (by kernel_rfl)
        refine ⟨Facts.wanted_free rfl, ?_, fun _ => rfl⟩
        simp [go_sem, Act.eval, f44, f47]
      · refine Facts.step_is (Value.bool true) fun a W hR hold hnew => ?_
        have f48 : a.tmps.getD 48 undef = Value.bool true := hnew 5 48 (by kernel_rfl)
        refine ⟨Facts.wanted_free rfl, ?_, fun _ => rfl⟩
        simp [go_sem, Act.eval, f48]
      · refine Facts.step_is (Value.int .i64 0) fun a W hR hold hnew => ?_
        have f7 : a.tmps.getD 7 undef = Value.int .i64 0 := hold 7 (by kernel_rfl)
        have g49 : a.tmps.getD 49 undef = .bool true := hnew 6 49 (by kernel_rfl)
        refine ⟨Facts.wanted_by rfl (by kernel_rfl) g49, ?_, fun _ => rfl⟩
        simp [go_sem, Act.eval, f7]
      · refine Facts.step_is (Value.bool true) fun a W hR hold hnew => ?_
        have f50 : a.tmps.getD 50 undef = Value.int .i64 0 := hnew 7 50 (by kernel_rfl)
        have g49 : a.tmps.getD 49 undef = .bool true := hnew 6 49 (by kernel_rfl)
        refine ⟨Facts.wanted_by rfl (by kernel_rfl) g49, ?_, fun _ => rfl⟩
        simp [go_sem, Act.eval, f50]
      · refine Facts.step_is (Value.bool true) fun a W hR hold hnew => ?_
        have f49 : a.tmps.getD 49 undef = Value.bool true := hnew 6 49 (by kernel_rfl)
        have f51 : a.tmps.getD 51 undef = Value.bool true := hnew 8 51 (by kernel_rfl)
        refine ⟨Facts.wanted_free rfl, ?_, fun _ => rfl⟩
        simp [go_sem, Act.eval, f49, f51]
      · refine Facts.step_is (Value.bool true) fun a W hR hold hnew => ?_
        have f52 : a.tmps.getD 52 undef = Value.bool true := hnew 9 52 (by kernel_rfl)
        refine ⟨Facts.wanted_free rfl, ?_, fun _ => rfl⟩
        simp [go_sem, Act.eval, f52]
      · refine Facts.step_is (((⟨v.writer, v.seq, v.time, v.kind, xk, xt, xn, xd⟩ : Ev).val A6 n6 c6)) fun a W hR hold hnew => ?_
        have f6 : a.tmps.getD 6 undef = Value.pointer (some ⟨u6.heap.size, 0, none⟩) := hold 6 (by kernel_rfl)
        have g53 : a.tmps.getD 53 undef = .bool true := hnew 10 53 (by kernel_rfl)
        obtain ⟨hc1, hc2, hc3⟩ := HC.out W hR
        obtain ⟨k0, k1, k2, k3, k4, k5, k6, k7⟩ := box8 hc1
        refine ⟨Facts.wanted_by rfl (by kernel_rfl) g53, ?_, fun _ => rfl⟩
        simp [go_sem, Act.eval, f6, k0, k1, k2, k3, k4, k5, k6, k7, Ev.val]
      · refine Facts.step_is ((v.val A n c)) fun a W hR hold hnew => ?_
        have f2 : a.tmps.getD 2 undef = Value.pointer (some ⟨w.heap.size, 0, none⟩) := hold 2 (by kernel_rfl)
        have g53 : a.tmps.getD 53 undef = .bool true := hnew 10 53 (by kernel_rfl)
        obtain ⟨hc1, hc2, hc3⟩ := HC.out W hR
        obtain ⟨k0, k1, k2, k3, k4, k5, k6, k7⟩ := box8 hc3
        refine ⟨Facts.wanted_by rfl (by kernel_rfl) g53, ?_, fun _ => rfl⟩
        simp [go_sem, Act.eval, f2, k0, k1, k2, k3, k4, k5, k6, k7, Ev.val]
      · -- 13: Op.call { value (Operand.func 16), args := #[t54, t55], argT
        refine Facts.step_call fun a W hR hold hnew => ?_
        have f54 : a.tmps.getD 54 undef = ((⟨v.writer, v.seq, v.time, v.kind, xk, xt, xn, xd⟩ : Ev).val A6 n6 c6) := hnew 11 54 (by kernel_rfl); have f55 : a.tmps.getD 55 undef = (v.val A n c) := hnew 12 55 (by kernel_rfl); have g53 : a.tmps.getD 53 undef = .bool true := hnew 10 53 (by kernel_rfl)
        refine ⟨Facts.wanted_by rfl (by kernel_rfl) g53, 13, #[((⟨v.writer, v.seq, v.time, v.kind, xk, xt, xn, xd⟩ : Ev).val A6 n6 c6), (v.val A n c)], by simp [go_sem, Act.eval, f54, f55], ?_⟩
        refine (same_any (⟨v.writer, v.seq, v.time, v.kind, xk, xt, xn, xd⟩ : Ev) v _ _ _ _ _ _ W (HSX.out W hR) (HSV.out W hR) XF.out.1 VF.out.1 XF.out.2.1 VF.out.2).mono ?_
        rintro e' w7 ⟨rfl, hb7⟩
        exact ⟨_, rfl, hb7, congrArg Value.bool (decide_eq_true XF.out.2.2)⟩
      · refine Facts.step_is (Value.bool true) fun a W hR hold hnew => ?_
        have f53 : a.tmps.getD 53 undef = Value.bool true := hnew 10 53 (by kernel_rfl)
        have f56 : a.tmps.getD 56 undef = Value.bool true := hnew 13 56 (by kernel_rfl)
        refine ⟨Facts.wanted_free rfl, ?_, fun _ => rfl⟩
        simp [go_sem, Act.eval, f53, f56]
      · refine Facts.step_is (Value.bool true) fun a W hR hold hnew => ?_
        have f57 : a.tmps.getD 57 undef = Value.bool true := hnew 14 57 (by kernel_rfl)
        refine ⟨Facts.wanted_free rfl, ?_, fun _ => rfl⟩
        simp [go_sem, Act.eval, f57]
      · refine Facts.step_is (((⟨v.writer, v.seq, v.time, v.kind, xk, xt, xn, xd⟩ : Ev).val A6 n6 c6)) fun a W hR hold hnew => ?_
        have f6 : a.tmps.getD 6 undef = Value.pointer (some ⟨u6.heap.size, 0, none⟩) := hold 6 (by kernel_rfl)
        have g58 : a.tmps.getD 58 undef = .bool true := hnew 15 58 (by kernel_rfl)
        obtain ⟨hc1, hc2, hc3⟩ := HC.out W hR
        obtain ⟨k0, k1, k2, k3, k4, k5, k6, k7⟩ := box8 hc1
        refine ⟨Facts.wanted_by rfl (by kernel_rfl) g58, ?_, fun _ => rfl⟩
        simp [go_sem, Act.eval, f6, k0, k1, k2, k3, k4, k5, k6, k7, Ev.val]
      · refine Facts.step_is (((⟨v.writer, v.seq, v.time, v.kind, xk, xt, xn, xd⟩ : Ev).val A8 n8 c8)) fun a W hR hold hnew => ?_
        have f8 : a.tmps.getD 8 undef = Value.pointer (some ⟨u8.heap.size, 0, none⟩) := hold 8 (by kernel_rfl)
        have g58 : a.tmps.getD 58 undef = .bool true := hnew 15 58 (by kernel_rfl)
        obtain ⟨hc1, hc2, hc3⟩ := HC.out W hR
        obtain ⟨k0, k1, k2, k3, k4, k5, k6, k7⟩ := box8 hc2
        refine ⟨Facts.wanted_by rfl (by kernel_rfl) g58, ?_, fun _ => rfl⟩
        simp [go_sem, Act.eval, f8, k0, k1, k2, k3, k4, k5, k6, k7, Ev.val]
      · -- 18: Op.call { value (Operand.func 17), args := #[t59, t60], argT
        refine Facts.step_call fun a W hR hold hnew => ?_
        have f59 : a.tmps.getD 59 undef = ((⟨v.writer, v.seq, v.time, v.kind, xk, xt, xn, xd⟩ : Ev).val A6 n6 c6) := hnew 16 59 (by kernel_rfl); have f60 : a.tmps.getD 60 undef = ((⟨v.writer, v.seq, v.time, v.kind, xk, xt, xn, xd⟩ : Ev).val A8 n8 c8) := hnew 17 60 (by kernel_rfl); have g58 : a.tmps.getD 58 undef = .bool true := hnew 15 58 (by kernel_rfl)
        refine ⟨Facts.wanted_by rfl (by kernel_rfl) g58, 14, #[((⟨v.writer, v.seq, v.time, v.kind, xk, xt, xn, xd⟩ : Ev).val A6 n6 c6), ((⟨v.writer, v.seq, v.time, v.kind, xk, xt, xn, xd⟩ : Ev).val A8 n8 c8)], by simp [go_sem, Act.eval, f59, f60], ?_⟩
        refine (refSame_any (⟨v.writer, v.seq, v.time, v.kind, xk, xt, xn, xd⟩ : Ev) (⟨v.writer, v.seq, v.time, v.kind, xk, xt, xn, xd⟩ : Ev) _ _ _ _ _ _ W (HSX.out W hR) (HSY.out W hR) XF.out.1 XF.out.1 XF.out.2.1 XF.out.2.1).mono ?_
        rintro e' w7 ⟨rfl, hb7⟩
        exact ⟨_, rfl, hb7, congrArg Value.bool (decide_eq_true rfl)⟩
      · refine Facts.step_is (Value.bool true) fun a W hR hold hnew => ?_
        have f58 : a.tmps.getD 58 undef = Value.bool true := hnew 15 58 (by kernel_rfl)
        have f61 : a.tmps.getD 61 undef = Value.bool true := hnew 18 61 (by kernel_rfl)
        refine ⟨Facts.wanted_free rfl, ?_, fun _ => rfl⟩
        simp [go_sem, Act.eval, f58, f61]
      · refine Facts.step_is (Value.bool true) fun a W hR hold hnew => ?_
        have f62 : a.tmps.getD 62 undef = Value.bool true := hnew 19 62 (by kernel_rfl)
        refine ⟨Facts.wanted_free rfl, ?_, fun _ => rfl⟩
        simp [go_sem, Act.eval, f62]
      · refine Facts.step_is (Value.pointer (some ⟨u6.heap.size, 0, none⟩)) fun a W hR hold hnew => ?_
        have f6 : a.tmps.getD 6 undef = Value.pointer (some ⟨u6.heap.size, 0, none⟩) := hold 6 (by kernel_rfl)
        have g63 : a.tmps.getD 63 undef = .bool true := hnew 20 63 (by kernel_rfl)
        refine ⟨Facts.wanted_by rfl (by kernel_rfl) g63, ?_, fun _ => rfl⟩
        simp [go_sem, Act.eval, f6]
      · refine Facts.step_is (Value.int .i64 v.writer) fun a W hR hold hnew => ?_
        have f64 : a.tmps.getD 64 undef = Value.pointer (some ⟨u6.heap.size, 0, none⟩) := hnew 21 64 (by kernel_rfl)
        have g63 : a.tmps.getD 63 undef = .bool true := hnew 20 63 (by kernel_rfl)
        obtain ⟨hc1, hc2, hc3⟩ := HC.out W hR
        obtain ⟨k0, k1, k2, k3, k4, k5, k6, k7⟩ := box8 hc1
        refine ⟨Facts.wanted_by rfl (by kernel_rfl) g63, ?_, fun _ => rfl⟩
        simp [go_sem, Act.eval, f64, k0, k1, k2, k3, k4, k5, k6, k7, Ev.val]
      · refine Facts.step_is (Value.pointer (some ⟨w.heap.size, 0, none⟩)) fun a W hR hold hnew => ?_
        have f2 : a.tmps.getD 2 undef = Value.pointer (some ⟨w.heap.size, 0, none⟩) := hold 2 (by kernel_rfl)
        have g63 : a.tmps.getD 63 undef = .bool true := hnew 20 63 (by kernel_rfl)
        refine ⟨Facts.wanted_by rfl (by kernel_rfl) g63, ?_, fun _ => rfl⟩
        simp [go_sem, Act.eval, f2]
      · refine Facts.step_is (Value.int .i64 v.writer) fun a W hR hold hnew => ?_
        have f66 : a.tmps.getD 66 undef = Value.pointer (some ⟨w.heap.size, 0, none⟩) := hnew 23 66 (by kernel_rfl)
        have g63 : a.tmps.getD 63 undef = .bool true := hnew 20 63 (by kernel_rfl)
        obtain ⟨hc1, hc2, hc3⟩ := HC.out W hR
        obtain ⟨k0, k1, k2, k3, k4, k5, k6, k7⟩ := box8 hc3
        refine ⟨Facts.wanted_by rfl (by kernel_rfl) g63, ?_, fun _ => rfl⟩
        simp [go_sem, Act.eval, f66, k0, k1, k2, k3, k4, k5, k6, k7, Ev.val]
      · refine Facts.step_is (Value.bool true) fun a W hR hold hnew => ?_
        have f65 : a.tmps.getD 65 undef = Value.int .i64 v.writer := hnew 22 65 (by kernel_rfl)
        have f67 : a.tmps.getD 67 undef = Value.int .i64 v.writer := hnew 24 67 (by kernel_rfl)
        have g63 : a.tmps.getD 63 undef = .bool true := hnew 20 63 (by kernel_rfl)
        refine ⟨Facts.wanted_by rfl (by kernel_rfl) g63, ?_, fun _ => rfl⟩
        simp [go_sem, Act.eval, f65, f67]
      · refine Facts.step_is (Value.bool true) fun a W hR hold hnew => ?_
        have f63 : a.tmps.getD 63 undef = Value.bool true := hnew 20 63 (by kernel_rfl)
        have f68 : a.tmps.getD 68 undef = Value.bool true := hnew 25 68 (by kernel_rfl)
        refine ⟨Facts.wanted_free rfl, ?_, fun _ => rfl⟩
        simp [go_sem, Act.eval, f63, f68]
      · refine Facts.step_is (Value.bool true) fun a W hR hold hnew => ?_
        have f69 : a.tmps.getD 69 undef = Value.bool true := hnew 26 69 (by kernel_rfl)
        refine ⟨Facts.wanted_free rfl, ?_, fun _ => rfl⟩
        simp [go_sem, Act.eval, f69]
      · refine Facts.step_is (Value.pointer (some ⟨u6.heap.size, 1, none⟩)) fun a W hR hold hnew => ?_
        have f6 : a.tmps.getD 6 undef = Value.pointer (some ⟨u6.heap.size, 0, none⟩) := hold 6 (by kernel_rfl)
        have g70 : a.tmps.getD 70 undef = .bool true := hnew 27 70 (by kernel_rfl)
        refine ⟨Facts.wanted_by rfl (by kernel_rfl) g70, ?_, fun _ => rfl⟩
        simp [go_sem, Act.eval, f6]
      · refine Facts.step_is (Value.int .u64 (v.seq : Int)) fun a W hR hold hnew => ?_
        have f71 : a.tmps.getD 71 undef = Value.pointer (some ⟨u6.heap.size, 1, none⟩) := hnew 28 71 (by kernel_rfl)
        have g70 : a.tmps.getD 70 undef = .bool true := hnew 27 70 (by kernel_rfl)
        obtain ⟨hc1, hc2, hc3⟩ := HC.out W hR
        obtain ⟨k0, k1, k2, k3, k4, k5, k6, k7⟩ := box8 hc1
        refine ⟨Facts.wanted_by rfl (by kernel_rfl) g70, ?_, fun _ => rfl⟩
        simp [go_sem, Act.eval, f71, k0, k1, k2, k3, k4, k5, k6, k7, Ev.val]
      · refine Facts.step_is (Value.pointer (some ⟨w.heap.size, 1, none⟩)) fun a W hR hold hnew => ?_
        have f2 : a.tmps.getD 2 undef = Value.pointer (some ⟨w.heap.size, 0, none⟩) := hold 2 (by kernel_rfl)
        have g70 : a.tmps.getD 70 undef = .bool true := hnew 27 70 (by kernel_rfl)
        refine ⟨Facts.wanted_by rfl (by kernel_rfl) g70, ?_, fun _ => rfl⟩
        simp [go_sem, Act.eval, f2]
      · refine Facts.step_is (Value.int .u64 (v.seq : Int)) fun a W hR hold hnew => ?_
        have f73 : a.tmps.getD 73 undef = Value.pointer (some ⟨w.heap.size, 1, none⟩) := hnew 30 73 (by kernel_rfl)
        have g70 : a.tmps.getD 70 undef = .bool true := hnew 27 70 (by kernel_rfl)
        obtain ⟨hc1, hc2, hc3⟩ := HC.out W hR
        obtain ⟨k0, k1, k2, k3, k4, k5, k6, k7⟩ := box8 hc3
        refine ⟨Facts.wanted_by rfl (by kernel_rfl) g70, ?_, fun _ => rfl⟩
        simp [go_sem, Act.eval, f73, k0, k1, k2, k3, k4, k5, k6, k7, Ev.val]
      · refine Facts.step_is (Value.bool true) fun a W hR hold hnew => ?_
        have f72 : a.tmps.getD 72 undef = Value.int .u64 (v.seq : Int) := hnew 29 72 (by kernel_rfl)
        have f74 : a.tmps.getD 74 undef = Value.int .u64 (v.seq : Int) := hnew 31 74 (by kernel_rfl)
        have g70 : a.tmps.getD 70 undef = .bool true := hnew 27 70 (by kernel_rfl)
        refine ⟨Facts.wanted_by rfl (by kernel_rfl) g70, ?_, fun _ => rfl⟩
        simp [go_sem, Act.eval, f72, f74]
      · refine Facts.step_is (Value.bool true) fun a W hR hold hnew => ?_
        have f70 : a.tmps.getD 70 undef = Value.bool true := hnew 27 70 (by kernel_rfl)
        have f75 : a.tmps.getD 75 undef = Value.bool true := hnew 32 75 (by kernel_rfl)
        refine ⟨Facts.wanted_free rfl, ?_, fun _ => rfl⟩
        simp [go_sem, Act.eval, f70, f75]
      · refine Facts.step_is (Value.bool true) fun a W hR hold hnew => ?_
        have f76 : a.tmps.getD 76 undef = Value.bool true := hnew 33 76 (by kernel_rfl)
        refine ⟨Facts.wanted_free rfl, ?_, fun _ => rfl⟩
        simp [go_sem, Act.eval, f76]
      · refine Facts.step_is (Value.pointer (some ⟨u6.heap.size, 2, none⟩)) fun a W hR hold hnew => ?_
        have f6 : a.tmps.getD 6 undef = Value.pointer (some ⟨u6.heap.size, 0, none⟩) := hold 6 (by kernel_rfl)
        have g77 : a.tmps.getD 77 undef = .bool true := hnew 34 77 (by kernel_rfl)
        refine ⟨Facts.wanted_by rfl (by kernel_rfl) g77, ?_, fun _ => rfl⟩
        simp [go_sem, Act.eval, f6]
      · refine Facts.step_is (Value.int .u64 (v.time : Int)) fun a W hR hold hnew => ?_
        have f78 : a.tmps.getD 78 undef = Value.pointer (some ⟨u6.heap.size, 2, none⟩) := hnew 35 78 (by kernel_rfl)
        have g77 : a.tmps.getD 77 undef = .bool true := hnew 34 77 (by kernel_rfl)
        obtain ⟨hc1, hc2, hc3⟩ := HC.out W hR
        obtain ⟨k0, k1, k2, k3, k4, k5, k6, k7⟩ := box8 hc1
        refine ⟨Facts.wanted_by rfl (by kernel_rfl) g77, ?_, fun _ => rfl⟩
        simp [go_sem, Act.eval, f78, k0, k1, k2, k3, k4, k5, k6, k7, Ev.val]
      · refine Facts.step_is (Value.pointer (some ⟨w.heap.size, 2, none⟩)) fun a W hR hold hnew => ?_
        have f2 : a.tmps.getD 2 undef = Value.pointer (some ⟨w.heap.size, 0, none⟩) := hold 2 (by kernel_rfl)
        have g77 : a.tmps.getD 77 undef = .bool true := hnew 34 77 (by kernel_rfl)
        refine ⟨Facts.wanted_by rfl (by kernel_rfl) g77, ?_, fun _ => rfl⟩
        simp [go_sem, Act.eval, f2]
      · refine Facts.step_is (Value.int .u64 (v.time : Int)) fun a W hR hold hnew => ?_
        have f80 : a.tmps.getD 80 undef = Value.pointer (some ⟨w.heap.size, 2, none⟩) := hnew 37 80 (by kernel_rfl)
        have g77 : a.tmps.getD 77 undef = .bool true := hnew 34 77 (by kernel_rfl)
        obtain ⟨hc1, hc2, hc3⟩ := HC.out W hR
        obtain ⟨k0, k1, k2, k3, k4, k5, k6, k7⟩ := box8 hc3
        refine ⟨Facts.wanted_by rfl (by kernel_rfl) g77, ?_, fun _ => rfl⟩
        simp [go_sem, Act.eval, f80, k0, k1, k2, k3, k4, k5, k6, k7, Ev.val]
      · refine Facts.step_is (Value.bool true) fun a W hR hold hnew => ?_
        have f79 : a.tmps.getD 79 undef = Value.int .u64 (v.time : Int) := hnew 36 79 (by kernel_rfl)
        have f81 : a.tmps.getD 81 undef = Value.int .u64 (v.time : Int) := hnew 38 81 (by kernel_rfl)
        have g77 : a.tmps.getD 77 undef = .bool true := hnew 34 77 (by kernel_rfl)
        refine ⟨Facts.wanted_by rfl (by kernel_rfl) g77, ?_, fun _ => rfl⟩
        simp [go_sem, Act.eval, f79, f81]
      · refine Facts.step_is (Value.bool true) fun a W hR hold hnew => ?_
        have f77 : a.tmps.getD 77 undef = Value.bool true := hnew 34 77 (by kernel_rfl)
        have f82 : a.tmps.getD 82 undef = Value.bool true := hnew 39 82 (by kernel_rfl)
        refine ⟨Facts.wanted_free rfl, ?_, fun _ => rfl⟩
        simp [go_sem, Act.eval, f77, f82]
      · refine Facts.step_is (Value.bool true) fun a W hR hold hnew => ?_
        have f83 : a.tmps.getD 83 undef = Value.bool true := hnew 40 83 (by kernel_rfl)
        refine ⟨Facts.wanted_free rfl, ?_, fun _ => rfl⟩
        simp [go_sem, Act.eval, f83]
      · refine Facts.step_is (Value.pointer (some ⟨u6.heap.size, 3, none⟩)) fun a W hR hold hnew => ?_
        have f6 : a.tmps.getD 6 undef = Value.pointer (some ⟨u6.heap.size, 0, none⟩) := hold 6 (by kernel_rfl)
        have g84 : a.tmps.getD 84 undef = .bool true := hnew 41 84 (by kernel_rfl)
        refine ⟨Facts.wanted_by rfl (by kernel_rfl) g84, ?_, fun _ => rfl⟩
        simp [go_sem, Act.eval, f6]
      · refine Facts.step_is (Value.int .u8 (v.kind : Int)) fun a W hR hold hnew => ?_
        have f85 : a.tmps.getD 85 undef = Value.pointer (some ⟨u6.heap.size, 3, none⟩) := hnew 42 85 (by kernel_rfl)
        have g84 : a.tmps.getD 84 undef = .bool true := hnew 41 84 (by kernel_rfl)
        obtain ⟨hc1, hc2, hc3⟩ := HC.out W hR
        obtain ⟨k0, k1, k2, k3, k4, k5, k6, k7⟩ := box8 hc1
        refine ⟨Facts.wanted_by rfl (by kernel_rfl) g84, ?_, fun _ => rfl⟩
        simp [go_sem, Act.eval, f85, k0, k1, k2, k3, k4, k5, k6, k7, Ev.val]
      · refine Facts.step_is (Value.pointer (some ⟨w.heap.size, 3, none⟩)) fun a W hR hold hnew => ?_
        have f2 : a.tmps.getD 2 undef = Value.pointer (some ⟨w.heap.size, 0, none⟩) := hold 2 (by kernel_rfl)
        have g84 : a.tmps.getD 84 undef = .bool true := hnew 41 84 (by kernel_rfl)
        refine ⟨Facts.wanted_by rfl (by kernel_rfl) g84, ?_, fun _ => rfl⟩
        simp [go_sem, Act.eval, f2]
      · refine Facts.step_is (Value.int .u8 (v.kind : Int)) fun a W hR hold hnew => ?_
        have f87 : a.tmps.getD 87 undef = Value.pointer (some ⟨w.heap.size, 3, none⟩) := hnew 44 87 (by kernel_rfl)
        have g84 : a.tmps.getD 84 undef = .bool true := hnew 41 84 (by kernel_rfl)
        obtain ⟨hc1, hc2, hc3⟩ := HC.out W hR
        obtain ⟨k0, k1, k2, k3, k4, k5, k6, k7⟩ := box8 hc3
        refine ⟨Facts.wanted_by rfl (by kernel_rfl) g84, ?_, fun _ => rfl⟩
        simp [go_sem, Act.eval, f87, k0, k1, k2, k3, k4, k5, k6, k7, Ev.val]
      · refine Facts.step_is (Value.bool true) fun a W hR hold hnew => ?_
        have f86 : a.tmps.getD 86 undef = Value.int .u8 (v.kind : Int) := hnew 43 86 (by kernel_rfl)
        have f88 : a.tmps.getD 88 undef = Value.int .u8 (v.kind : Int) := hnew 45 88 (by kernel_rfl)
        have g84 : a.tmps.getD 84 undef = .bool true := hnew 41 84 (by kernel_rfl)
        refine ⟨Facts.wanted_by rfl (by kernel_rfl) g84, ?_, fun _ => rfl⟩
        simp [go_sem, Act.eval, f86, f88]
      · refine Facts.step_is (Value.bool true) fun a W hR hold hnew => ?_
        have f84 : a.tmps.getD 84 undef = Value.bool true := hnew 41 84 (by kernel_rfl)
        have f89 : a.tmps.getD 89 undef = Value.bool true := hnew 46 89 (by kernel_rfl)
        refine ⟨Facts.wanted_free rfl, ?_, fun _ => rfl⟩
        simp [go_sem, Act.eval, f84, f89]
      · refine Facts.step_is (Value.bool true) fun a W hR hold hnew => ?_
        have f90 : a.tmps.getD 90 undef = Value.bool true := hnew 47 90 (by kernel_rfl)
        refine ⟨Facts.wanted_free rfl, ?_, fun _ => rfl⟩
        simp [go_sem, Act.eval, f90]
      · refine Facts.step_is (Value.pointer (some ⟨u6.heap.size, 4, none⟩)) fun a W hR hold hnew => ?_
        have f6 : a.tmps.getD 6 undef = Value.pointer (some ⟨u6.heap.size, 0, none⟩) := hold 6 (by kernel_rfl)
        have g91 : a.tmps.getD 91 undef = .bool true := hnew 48 91 (by kernel_rfl)
        refine ⟨Facts.wanted_by rfl (by kernel_rfl) g91, ?_, fun _ => rfl⟩
        simp [go_sem, Act.eval, f6]
      · refine Facts.step_is (Value.string xk) fun a W hR hold hnew => ?_
        have f92 : a.tmps.getD 92 undef = Value.pointer (some ⟨u6.heap.size, 4, none⟩) := hnew 49 92 (by kernel_rfl)
        have g91 : a.tmps.getD 91 undef = .bool true := hnew 48 91 (by kernel_rfl)
        obtain ⟨hc1, hc2, hc3⟩ := HC.out W hR
        obtain ⟨k0, k1, k2, k3, k4, k5, k6, k7⟩ := box8 hc1
        refine ⟨Facts.wanted_by rfl (by kernel_rfl) g91, ?_, fun _ => rfl⟩
        simp [go_sem, Act.eval, f92, k0, k1, k2, k3, k4, k5, k6, k7, Ev.val]
      · refine Facts.step_is (Value.pointer (some ⟨w.heap.size, 4, none⟩)) fun a W hR hold hnew => ?_
        have f2 : a.tmps.getD 2 undef = Value.pointer (some ⟨w.heap.size, 0, none⟩) := hold 2 (by kernel_rfl)
        have g91 : a.tmps.getD 91 undef = .bool true := hnew 48 91 (by kernel_rfl)
        refine ⟨Facts.wanted_by rfl (by kernel_rfl) g91, ?_, fun _ => rfl⟩
        simp [go_sem, Act.eval, f2]
      · refine Facts.step_is (Value.string v.key) fun a W hR hold hnew => ?_
        have f94 : a.tmps.getD 94 undef = Value.pointer (some ⟨w.heap.size, 4, none⟩) := hnew 51 94 (by kernel_rfl)
        have g91 : a.tmps.getD 91 undef = .bool true := hnew 48 91 (by kernel_rfl)
        obtain ⟨hc1, hc2, hc3⟩ := HC.out W hR
        obtain ⟨k0, k1, k2, k3, k4, k5, k6, k7⟩ := box8 hc3
        refine ⟨Facts.wanted_by rfl (by kernel_rfl) g91, ?_, fun _ => rfl⟩
        simp [go_sem, Act.eval, f94, k0, k1, k2, k3, k4, k5, k6, k7, Ev.val]
      · refine Facts.step_is (Value.bool true) fun a W hR hold hnew => ?_
        have f93 : a.tmps.getD 93 undef = Value.string xk := hnew 50 93 (by kernel_rfl)
        have f95 : a.tmps.getD 95 undef = Value.string v.key := hnew 52 95 (by kernel_rfl)
        have g91 : a.tmps.getD 91 undef = .bool true := hnew 48 91 (by kernel_rfl)
        refine ⟨Facts.wanted_by rfl (by kernel_rfl) g91, ?_, fun _ => rfl⟩
        simp [go_sem, Act.eval, f93, f95, hxk]
      · refine Facts.step_is (Value.bool true) fun a W hR hold hnew => ?_
        have f9 : a.tmps.getD 9 undef = Value.bool true := hold 9 (by kernel_rfl)
        have g91 : a.tmps.getD 91 undef = .bool true := hnew 48 91 (by kernel_rfl)
        refine ⟨Facts.wanted_by rfl (by kernel_rfl) g91, ?_, fun _ => rfl⟩
        simp [go_sem, Act.eval, f9]
      · refine Facts.step_is (Value.bool true) fun a W hR hold hnew => ?_
        have f97 : a.tmps.getD 97 undef = Value.bool true := hnew 54 97 (by kernel_rfl)
        have g91 : a.tmps.getD 91 undef = .bool true := hnew 48 91 (by kernel_rfl)
        refine ⟨Facts.wanted_by rfl (by kernel_rfl) g91, ?_, fun _ => rfl⟩
        simp [go_sem, Act.eval, f97]
      · -- 56: Op.fieldAddr 26 t2 4
        refine step_skip (fun a W hnew => ?_) (fun _ => trivial)
        have g98 : a.tmps.getD 98 undef = .bool true := hnew 55 98 (by kernel_rfl)
        exact wanted_not rfl (by kernel_rfl) g98
      · -- 57: Op.load 9 t99
        refine step_skip (fun a W hnew => ?_) (fun _ => trivial)
        have g98 : a.tmps.getD 98 undef = .bool true := hnew 55 98 (by kernel_rfl)
        exact wanted_not rfl (by kernel_rfl) g98
      · -- 58: Op.binOp BinOp.eql 9 t100 (const (Value.string { data := #[]
        refine step_skip (fun a W hnew => ?_) (fun _ => trivial)
        have g98 : a.tmps.getD 98 undef = .bool true := hnew 55 98 (by kernel_rfl)
        exact wanted_not rfl (by kernel_rfl) g98
      · refine Facts.step_is (Value.bool true) fun a W hR hold hnew => ?_
        have f98 : a.tmps.getD 98 undef = Value.bool true := hnew 55 98 (by kernel_rfl)
        have g91 : a.tmps.getD 91 undef = .bool true := hnew 48 91 (by kernel_rfl)
        refine ⟨Facts.wanted_by rfl (by kernel_rfl) g91, ?_, fun _ => rfl⟩
        simp [go_sem, Act.eval, f98]
      · refine Facts.step_is (Value.bool true) fun a W hR hold hnew => ?_
        have f96 : a.tmps.getD 96 undef = Value.bool true := hnew 53 96 (by kernel_rfl)
        have f102 : a.tmps.getD 102 undef = Value.bool true := hnew 59 102 (by kernel_rfl)
        have g91 : a.tmps.getD 91 undef = .bool true := hnew 48 91 (by kernel_rfl)
        refine ⟨Facts.wanted_by rfl (by kernel_rfl) g91, ?_, fun _ => rfl⟩
        simp [go_sem, Act.eval, f96, f102]
      · refine Facts.step_is (Value.bool true) fun a W hR hold hnew => ?_
        have f91 : a.tmps.getD 91 undef = Value.bool true := hnew 48 91 (by kernel_rfl)
        have f103 : a.tmps.getD 103 undef = Value.bool true := hnew 60 103 (by kernel_rfl)
        refine ⟨Facts.wanted_free rfl, ?_, fun _ => rfl⟩
        simp [go_sem, Act.eval, f91, f103]
      · refine Facts.step_is (Value.bool true) fun a W hR hold hnew => ?_
        have f104 : a.tmps.getD 104 undef = Value.bool true := hnew 61 104 (by kernel_rfl)
        refine ⟨Facts.wanted_free rfl, ?_, fun _ => rfl⟩
        simp [go_sem, Act.eval, f104]
      · refine Facts.step_is (Value.pointer (some ⟨u8.heap.size, 4, none⟩)) fun a W hR hold hnew => ?_
        have f8 : a.tmps.getD 8 undef = Value.pointer (some ⟨u8.heap.size, 0, none⟩) := hold 8 (by kernel_rfl)
        have g105 : a.tmps.getD 105 undef = .bool true := hnew 62 105 (by kernel_rfl)
        refine ⟨Facts.wanted_by rfl (by kernel_rfl) g105, ?_, fun _ => rfl⟩
        simp [go_sem, Act.eval, f8]
      · refine Facts.step_is (Value.string xk) fun a W hR hold hnew => ?_
        have f106 : a.tmps.getD 106 undef = Value.pointer (some ⟨u8.heap.size, 4, none⟩) := hnew 63 106 (by kernel_rfl)
        have g105 : a.tmps.getD 105 undef = .bool true := hnew 62 105 (by kernel_rfl)
        obtain ⟨hc1, hc2, hc3⟩ := HC.out W hR
        obtain ⟨k0, k1, k2, k3, k4, k5, k6, k7⟩ := box8 hc2
        refine ⟨Facts.wanted_by rfl (by kernel_rfl) g105, ?_, fun _ => rfl⟩
        simp [go_sem, Act.eval, f106, k0, k1, k2, k3, k4, k5, k6, k7, Ev.val]
      · refine Facts.step_is (Value.pointer (some ⟨u6.heap.size, 4, none⟩)) fun a W hR hold hnew => ?_
        have f6 : a.tmps.getD 6 undef = Value.pointer (some ⟨u6.heap.size, 0, none⟩) := hold 6 (by kernel_rfl)
        have g105 : a.tmps.getD 105 undef = .bool true := hnew 62 105 (by kernel_rfl)
        refine ⟨Facts.wanted_by rfl (by kernel_rfl) g105, ?_, fun _ => rfl⟩
        simp [go_sem, Act.eval, f6]
      · refine Facts.step_is (Value.string xk) fun a W hR hold hnew => ?_
        have f108 : a.tmps.getD 108 undef = Value.pointer (some ⟨u6.heap.size, 4, none⟩) := hnew 65 108 (by kernel_rfl)
        have g105 : a.tmps.getD 105 undef = .bool true := hnew 62 105 (by kernel_rfl)
        obtain ⟨hc1, hc2, hc3⟩ := HC.out W hR
        obtain ⟨k0, k1, k2, k3, k4, k5, k6, k7⟩ := box8 hc1
        refine ⟨Facts.wanted_by rfl (by kernel_rfl) g105, ?_, fun _ => rfl⟩
        simp [go_sem, Act.eval, f108, k0, k1, k2, k3, k4, k5, k6, k7, Ev.val]
      · refine Facts.step_is (Value.bool true) fun a W hR hold hnew => ?_
        have f107 : a.tmps.getD 107 undef = Value.string xk := hnew 64 107 (by kernel_rfl)
        have f109 : a.tmps.getD 109 undef = Value.string xk := hnew 66 109 (by kernel_rfl)
        have g105 : a.tmps.getD 105 undef = .bool true := hnew 62 105 (by kernel_rfl)
        refine ⟨Facts.wanted_by rfl (by kernel_rfl) g105, ?_, fun _ => rfl⟩
        simp [go_sem, Act.eval, f107, f109]
      · refine Facts.step_is (Value.bool true) fun a W hR hold hnew => ?_
        have f105 : a.tmps.getD 105 undef = Value.bool true := hnew 62 105 (by kernel_rfl)
        have f110 : a.tmps.getD 110 undef = Value.bool true := hnew 67 110 (by kernel_rfl)
        refine ⟨Facts.wanted_free rfl, ?_, fun _ => rfl⟩
        simp [go_sem, Act.eval, f105, f110]
      · refine Facts.step_is (Value.bool true) fun a W hR hold hnew => ?_
        have f111 : a.tmps.getD 111 undef = Value.bool true := hnew 68 111 (by kernel_rfl)
        refine ⟨Facts.wanted_free rfl, ?_, fun _ => rfl⟩
        simp [go_sem, Act.eval, f111]
      · refine Facts.step_is (Value.pointer (some ⟨u8.heap.size, 5, none⟩)) fun a W hR hold hnew => ?_
        have f8 : a.tmps.getD 8 undef = Value.pointer (some ⟨u8.heap.size, 0, none⟩) := hold 8 (by kernel_rfl)
        have g112 : a.tmps.getD 112 undef = .bool true := hnew 69 112 (by kernel_rfl)
        refine ⟨Facts.wanted_by rfl (by kernel_rfl) g112, ?_, fun _ => rfl⟩
        simp [go_sem, Act.eval, f8]
      · refine Facts.step_is (Value.slice A8 n8 c8) fun a W hR hold hnew => ?_
        have f113 : a.tmps.getD 113 undef = Value.pointer (some ⟨u8.heap.size, 5, none⟩) := hnew 70 113 (by kernel_rfl)
        have g112 : a.tmps.getD 112 undef = .bool true := hnew 69 112 (by kernel_rfl)
        obtain ⟨hc1, hc2, hc3⟩ := HC.out W hR
        obtain ⟨k0, k1, k2, k3, k4, k5, k6, k7⟩ := box8 hc2
        refine ⟨Facts.wanted_by rfl (by kernel_rfl) g112, ?_, fun _ => rfl⟩
        simp [go_sem, Act.eval, f113, k0, k1, k2, k3, k4, k5, k6, k7, Ev.val]
      · refine Facts.step_is (Value.string ⟨xt.toArray⟩) fun a W hR hold hnew => ?_
        have f114 : a.tmps.getD 114 undef = Value.slice A8 n8 c8 := hnew 71 114 (by kernel_rfl)
        have g112 : a.tmps.getD 112 undef = .bool true := hnew 69 112 (by kernel_rfl)
        have r := (HSY.out W hR).string (P := Try.prog) c8 (t := 23) (s := 9) (e := 5) Try.underlying23 Try.underlying5 Try.underlying9
        refine ⟨Facts.wanted_by rfl (by kernel_rfl) g112, ?_, fun _ => rfl⟩
        simp [go_sem, Act.eval, f114, r]
      · refine Facts.step_is (Value.pointer (some ⟨u6.heap.size, 5, none⟩)) fun a W hR hold hnew => ?_
        have f6 : a.tmps.getD 6 undef = Value.pointer (some ⟨u6.heap.size, 0, none⟩) := hold 6 (by kernel_rfl)
        have g112 : a.tmps.getD 112 undef = .bool true := hnew 69 112 (by kernel_rfl)
        refine ⟨Facts.wanted_by rfl (by kernel_rfl) g112, ?_, fun _ => rfl⟩
        simp [go_sem, Act.eval, f6]
      · refine Facts.step_is (Value.slice A6 n6 c6) fun a W hR hold hnew => ?_
        have f116 : a.tmps.getD 116 undef = Value.pointer (some ⟨u6.heap.size, 5, none⟩) := hnew 73 116 (by kernel_rfl)
        have g112 : a.tmps.getD 112 undef = .bool true := hnew 69 112 (by kernel_rfl)
        obtain ⟨hc1, hc2, hc3⟩ := HC.out W hR
        obtain ⟨k0, k1, k2, k3, k4, k5, k6, k7⟩ := box8 hc1
        refine ⟨Facts.wanted_by rfl (by kernel_rfl) g112, ?_, fun _ => rfl⟩
        simp [go_sem, Act.eval, f116, k0, k1, k2, k3, k4, k5, k6, k7, Ev.val]
      · refine Facts.step_is (Value.string ⟨xt.toArray⟩) fun a W hR hold hnew => ?_
        have f117 : a.tmps.getD 117 undef = Value.slice A6 n6 c6 := hnew 74 117 (by kernel_rfl)
        have g112 : a.tmps.getD 112 undef = .bool true := hnew 69 112 (by kernel_rfl)
        have r := (HSX.out W hR).string (P := Try.prog) c6 (t := 23) (s := 9) (e := 5) Try.underlying23 Try.underlying5 Try.underlying9
        refine ⟨Facts.wanted_by rfl (by kernel_rfl) g112, ?_, fun _ => rfl⟩
        simp [go_sem, Act.eval, f117, r]
      · refine Facts.step_is (Value.bool true) fun a W hR hold hnew => ?_
        have f115 : a.tmps.getD 115 undef = Value.string ⟨xt.toArray⟩ := hnew 72 115 (by kernel_rfl)
        have f118 : a.tmps.getD 118 undef = Value.string ⟨xt.toArray⟩ := hnew 75 118 (by kernel_rfl)
        have g112 : a.tmps.getD 112 undef = .bool true := hnew 69 112 (by kernel_rfl)
        refine ⟨Facts.wanted_by rfl (by kernel_rfl) g112, ?_, fun _ => rfl⟩
        simp [go_sem, Act.eval, f115, f118]
      · refine Facts.step_is (Value.bool true) fun a W hR hold hnew => ?_
        have f112 : a.tmps.getD 112 undef = Value.bool true := hnew 69 112 (by kernel_rfl)
        have f119 : a.tmps.getD 119 undef = Value.bool true := hnew 76 119 (by kernel_rfl)
        refine ⟨Facts.wanted_free rfl, ?_, fun _ => rfl⟩
        simp [go_sem, Act.eval, f112, f119]
      · refine Facts.step_is (Value.bool true) fun a W hR hold hnew => ?_
        have f120 : a.tmps.getD 120 undef = Value.bool true := hnew 77 120 (by kernel_rfl)
        refine ⟨Facts.wanted_free rfl, ?_, fun _ => rfl⟩
        simp [go_sem, Act.eval, f120]
      · refine Facts.step_is (Value.pointer (some ⟨u8.heap.size, 7, none⟩)) fun a W hR hold hnew => ?_
        have f8 : a.tmps.getD 8 undef = Value.pointer (some ⟨u8.heap.size, 0, none⟩) := hold 8 (by kernel_rfl)
        have g121 : a.tmps.getD 121 undef = .bool true := hnew 78 121 (by kernel_rfl)
        refine ⟨Facts.wanted_by rfl (by kernel_rfl) g121, ?_, fun _ => rfl⟩
        simp [go_sem, Act.eval, f8]
      · refine Facts.step_is (Value.int .i64 xd) fun a W hR hold hnew => ?_
        have f122 : a.tmps.getD 122 undef = Value.pointer (some ⟨u8.heap.size, 7, none⟩) := hnew 79 122 (by kernel_rfl)
        have g121 : a.tmps.getD 121 undef = .bool true := hnew 78 121 (by kernel_rfl)
        obtain ⟨hc1, hc2, hc3⟩ := HC.out W hR
        obtain ⟨k0, k1, k2, k3, k4, k5, k6, k7⟩ := box8 hc2
        refine ⟨Facts.wanted_by rfl (by kernel_rfl) g121, ?_, fun _ => rfl⟩
        simp [go_sem, Act.eval, f122, k0, k1, k2, k3, k4, k5, k6, k7, Ev.val]
      · refine Facts.step_is (Value.pointer (some ⟨u6.heap.size, 7, none⟩)) fun a W hR hold hnew => ?_
        have f6 : a.tmps.getD 6 undef = Value.pointer (some ⟨u6.heap.size, 0, none⟩) := hold 6 (by kernel_rfl)
        have g121 : a.tmps.getD 121 undef = .bool true := hnew 78 121 (by kernel_rfl)
        refine ⟨Facts.wanted_by rfl (by kernel_rfl) g121, ?_, fun _ => rfl⟩
        simp [go_sem, Act.eval, f6]
      · refine Facts.step_is (Value.int .i64 xd) fun a W hR hold hnew => ?_
        have f124 : a.tmps.getD 124 undef = Value.pointer (some ⟨u6.heap.size, 7, none⟩) := hnew 81 124 (by kernel_rfl)
        have g121 : a.tmps.getD 121 undef = .bool true := hnew 78 121 (by kernel_rfl)
        obtain ⟨hc1, hc2, hc3⟩ := HC.out W hR
        obtain ⟨k0, k1, k2, k3, k4, k5, k6, k7⟩ := box8 hc1
        refine ⟨Facts.wanted_by rfl (by kernel_rfl) g121, ?_, fun _ => rfl⟩
        simp [go_sem, Act.eval, f124, k0, k1, k2, k3, k4, k5, k6, k7, Ev.val]
      · refine Facts.step_is (Value.bool true) fun a W hR hold hnew => ?_
        have f123 : a.tmps.getD 123 undef = Value.int .i64 xd := hnew 80 123 (by kernel_rfl)
        have f125 : a.tmps.getD 125 undef = Value.int .i64 xd := hnew 82 125 (by kernel_rfl)
        have g121 : a.tmps.getD 121 undef = .bool true := hnew 78 121 (by kernel_rfl)
        refine ⟨Facts.wanted_by rfl (by kernel_rfl) g121, ?_, fun _ => rfl⟩
        simp [go_sem, Act.eval, f123, f125]
      · refine Facts.step_is (Value.bool true) fun a W hR hold hnew => ?_
        have f121 : a.tmps.getD 121 undef = Value.bool true := hnew 78 121 (by kernel_rfl)
        have f126 : a.tmps.getD 126 undef = Value.bool true := hnew 83 126 (by kernel_rfl)
        refine ⟨Facts.wanted_free rfl, ?_, fun _ => rfl⟩
        simp [go_sem, Act.eval, f121, f126]
      · refine Facts.step_is (Value.bool true) fun a W hR hold hnew => ?_
        have f127 : a.tmps.getD 127 undef = Value.bool true := hnew 84 127 (by kernel_rfl)
        refine ⟨Facts.wanted_free rfl, ?_, fun _ => rfl⟩
        simp [go_sem, Act.eval, f127]
      · refine Facts.step_is ((v.val A n c)) fun a W hR hold hnew => ?_
        have f2 : a.tmps.getD 2 undef = Value.pointer (some ⟨w.heap.size, 0, none⟩) := hold 2 (by kernel_rfl)
        have g128 : a.tmps.getD 128 undef = .bool true := hnew 85 128 (by kernel_rfl)
        obtain ⟨hc1, hc2, hc3⟩ := HC.out W hR
        obtain ⟨k0, k1, k2, k3, k4, k5, k6, k7⟩ := box8 hc3
        refine ⟨Facts.wanted_by rfl (by kernel_rfl) g128, ?_, fun _ => rfl⟩
        simp [go_sem, Act.eval, f2, k0, k1, k2, k3, k4, k5, k6, k7, Ev.val]
      · -- 87: Op.call { value (Operand.func 18), args := #[t129], argTypes
        refine Facts.step_call fun a W hR hold hnew => ?_
        have f129 : a.tmps.getD 129 undef = (v.val A n c) := hnew 86 129 (by kernel_rfl); have g128 : a.tmps.getD 128 undef = .bool true := hnew 85 128 (by kernel_rfl)
        refine ⟨Facts.wanted_by rfl (by kernel_rfl) g128, 15, #[(v.val A n c)], by simp [go_sem, Act.eval, f129], ?_⟩
        refine (at_any v _ _ _ W).mono ?_
        rintro e' w7 ⟨rfl, hb7⟩
        exact ⟨_, rfl, hb7, rfl⟩
      · refine Facts.step_is ((v.val A n c)) fun a W hR hold hnew => ?_
        have f2 : a.tmps.getD 2 undef = Value.pointer (some ⟨w.heap.size, 0, none⟩) := hold 2 (by kernel_rfl)
        have g128 : a.tmps.getD 128 undef = .bool true := hnew 85 128 (by kernel_rfl)
        obtain ⟨hc1, hc2, hc3⟩ := HC.out W hR
        obtain ⟨k0, k1, k2, k3, k4, k5, k6, k7⟩ := box8 hc3
        refine ⟨Facts.wanted_by rfl (by kernel_rfl) g128, ?_, fun _ => rfl⟩
        simp [go_sem, Act.eval, f2, k0, k1, k2, k3, k4, k5, k6, k7, Ev.val]
      · -- 89: Op.call { value (Operand.func 19), args := #[t131], argTypes
        refine Facts.step_call fun a W hR hold hnew => ?_
        have f131 : a.tmps.getD 131 undef = (v.val A n c) := hnew 88 131 (by kernel_rfl); have g128 : a.tmps.getD 128 undef = .bool true := hnew 85 128 (by kernel_rfl)
        refine ⟨Facts.wanted_by rfl (by kernel_rfl) g128, 16, #[(v.val A n c)], by simp [go_sem, Act.eval, f131], ?_⟩
        refine (refAt_any v _ _ _ W).mono ?_
        rintro e' w7 ⟨rfl, hb7⟩
        exact ⟨_, rfl, hb7, rfl⟩
      · refine Facts.step_is (Value.bool true) fun a W hR hold hnew => ?_
        have f130 : a.tmps.getD 130 undef = spotV v.time v.writer := hnew 87 130 (by kernel_rfl)
        have f132 : a.tmps.getD 132 undef = spotV v.time v.writer := hnew 89 132 (by kernel_rfl)
        have g128 : a.tmps.getD 128 undef = .bool true := hnew 85 128 (by kernel_rfl)
        refine ⟨Facts.wanted_by rfl (by kernel_rfl) g128, ?_, fun _ => rfl⟩
        simp [go_sem, Act.eval, f130, f132, spotV]
      · refine Facts.step_is (Value.bool true) fun a W hR hold hnew => ?_
        have f128 : a.tmps.getD 128 undef = Value.bool true := hnew 85 128 (by kernel_rfl)
        have f133 : a.tmps.getD 133 undef = Value.bool true := hnew 90 133 (by kernel_rfl)
        refine ⟨Facts.wanted_free rfl, ?_, fun _ => rfl⟩
        simp [go_sem, Act.eval, f128, f133]
      · refine Facts.step_is (Value.bool true) fun a W hR hold hnew => ?_
        have f134 : a.tmps.getD 134 undef = Value.bool true := hnew 91 134 (by kernel_rfl)
        refine ⟨Facts.wanted_free rfl, ?_, fun _ => rfl⟩
        simp [go_sem, Act.eval, f134]
    · intro a w3 hR' hsize hdef hnew hold
      have f4 : a.tmps.getD 4 undef = Value.bool true := hnew 92 4 (by kernel_rfl)
      obtain ⟨tm, df⟩ := a
      simp only [] at hdef hsize f4
      have hlit : tm = #[tm.getD 0 undef, tm.getD 1 undef, tm.getD 2 undef, tm.getD 3 undef, tm.getD 4 undef, tm.getD 5 undef, tm.getD 6 undef, tm.getD 7 undef, tm.getD 8 undef, tm.getD 9 undef, tm.getD 10 undef, tm.getD 11 undef, tm.getD 12 undef, tm.getD 13 undef, tm.getD 14 undef, tm.getD 15 undef, tm.getD 16 undef, tm.getD 17 undef, tm.getD 18 undef, tm.getD 19 undef, tm.getD 20 undef, tm.getD 21 undef, tm.getD 22 undef, tm.getD 23 undef, tm.getD 24 undef, tm.getD 25 undef, tm.getD 26 undef, tm.getD 27 undef, tm.getD 28 undef, tm.getD 29 undef, tm.getD 30 undef, tm.getD 31 undef, tm.getD 32 undef, tm.getD 33 undef, tm.getD 34 undef, tm.getD 35 undef, tm.getD 36 undef, tm.getD 37 undef, tm.getD 38 undef, tm.getD 39 undef, tm.getD 40 undef, tm.getD 41 undef, tm.getD 42 undef, tm.getD 43 undef, tm.getD 44 undef, tm.getD 45 undef, tm.getD 46 undef, tm.getD 47 undef, tm.getD 48 undef, tm.getD 49 undef, tm.getD 50 undef, tm.getD 51 undef, tm.getD 52 undef, tm.getD 53 undef, tm.getD 54 undef, tm.getD 55 undef, tm.getD 56 undef, tm.getD 57 undef, tm.getD 58 undef, tm.getD 59 undef, tm.getD 60 undef, tm.getD 61 undef, tm.getD 62 undef, tm.getD 63 undef, tm.getD 64 undef, tm.getD 65 undef, tm.getD 66 undef, tm.getD 67 undef, tm.getD 68 undef, tm.getD 69 undef, tm.getD 70 undef, tm.getD 71 undef, tm.getD 72 undef, tm.getD 73 undef, tm.getD 74 undef, tm.getD 75 undef, tm.getD 76 undef, tm.getD 77 undef, tm.getD 78 undef, tm.getD 79 undef, tm.getD 80 undef, tm.getD 81 undef, tm.getD 82 undef, tm.getD 83 undef, tm.getD 84 undef, tm.getD 85 undef, tm.getD 86 undef, tm.getD 87 undef, tm.getD 88 undef, tm.getD 89 undef, tm.getD 90 undef, tm.getD 91 undef, tm.getD 92 undef, tm.getD 93 undef, tm.getD 94 undef, tm.getD 95 undef, tm.getD 96 undef, tm.getD 97 undef, tm.getD 98 undef, tm.getD 99 undef, tm.getD 100 undef, tm.getD 101 undef, tm.getD 102 undef, tm.getD 103 undef, tm.getD 104 undef, tm.getD 105 undef, tm.getD 106 undef, tm.getD 107 undef, tm.getD 108 undef, tm.getD 109 undef, tm.getD 110 undef, tm.getD 111 undef, tm.getD 112 undef, tm.getD 113 undef, tm.getD 114 undef, tm.getD 115 undef, tm.getD 116 undef, tm.getD 117 undef, tm.getD 118 undef, tm.getD 119 undef, tm.getD 120 undef, tm.getD 121 undef, tm.getD 122 undef, tm.getD 123 undef, tm.getD 124 undef, tm.getD 125 undef, tm.getD 126 undef, tm.getD 127 undef, tm.getD 128 undef, tm.getD 129 undef, tm.getD 130 undef, tm.getD 131 undef, tm.getD 132 undef, tm.getD 133 undef, tm.getD 134 undef] := (Facts.array_lit tm hsize).trans rfl
      rw [f4] at hlit
      clear f4 hsize hnew hold
      generalize tm.getD 0 undef = x0 at hlit
      generalize tm.getD 1 undef = x1 at hlit
      generalize tm.getD 2 undef = x2 at hlit
      generalize tm.getD 3 undef = x3 at hlit
      generalize tm.getD 5 undef = x5 at hlit
      generalize tm.getD 6 undef = x6 at hlit
      generalize tm.getD 7 undef = x7 at hlit
      generalize tm.getD 8 undef = x8 at hlit
      generalize tm.getD 9 undef = x9 at hlit
      generalize tm.getD 10 undef = x10 at hlit
      generalize tm.getD 11 undef = x11 at hlit
      generalize tm.getD 12 undef = x12 at hlit
      generalize tm.getD 13 undef = x13 at hlit
      generalize tm.getD 14 undef = x14 at hlit
      generalize tm.getD 15 undef = x15 at hlit
      generalize tm.getD 16 undef = x16 at hlit
      generalize tm.getD 17 undef = x17 at hlit
      generalize tm.getD 18 undef = x18 at hlit
      generalize tm.getD 19 undef = x19 at hlit
      generalize tm.getD 20 undef = x20 at hlit
      generalize tm.getD 21 undef = x21 at hlit
      generalize tm.getD 22 undef = x22 at hlit
      generalize tm.getD 23 undef = x23 at hlit
      generalize tm.getD 24 undef = x24 at hlit
      generalize tm.getD 25 undef = x25 at hlit
      generalize tm.getD 26 undef = x26 at hlit
      generalize tm.getD 27 undef = x27 at hlit
      generalize tm.getD 28 undef = x28 at hlit
      generalize tm.getD 29 undef = x29 at hlit
      generalize tm.getD 30 undef = x30 at hlit
      generalize tm.getD 31 undef = x31 at hlit
      generalize tm.getD 32 undef = x32 at hlit
      generalize tm.getD 33 undef = x33 at hlit
      generalize tm.getD 34 undef = x34 at hlit
      generalize tm.getD 35 undef = x35 at hlit
      generalize tm.getD 36 undef = x36 at hlit
      generalize tm.getD 37 undef = x37 at hlit
      generalize tm.getD 38 undef = x38 at hlit
      generalize tm.getD 39 undef = x39 at hlit
      generalize tm.getD 40 undef = x40 at hlit
      generalize tm.getD 41 undef = x41 at hlit
      generalize tm.getD 42 undef = x42 at hlit
      generalize tm.getD 43 undef = x43 at hlit
      generalize tm.getD 44 undef = x44 at hlit
      generalize tm.getD 45 undef = x45 at hlit
      generalize tm.getD 46 undef = x46 at hlit
      generalize tm.getD 47 undef = x47 at hlit
      generalize tm.getD 48 undef = x48 at hlit
      generalize tm.getD 49 undef = x49 at hlit
      generalize tm.getD 50 undef = x50 at hlit
      generalize tm.getD 51 undef = x51 at hlit
      generalize tm.getD 52 undef = x52 at hlit
      generalize tm.getD 53 undef = x53 at hlit
      generalize tm.getD 54 undef = x54 at hlit
      generalize tm.getD 55 undef = x55 at hlit
      generalize tm.getD 56 undef = x56 at hlit
      generalize tm.getD 57 undef = x57 at hlit
      generalize tm.getD 58 undef = x58 at hlit
      generalize tm.getD 59 undef = x59 at hlit
      generalize tm.getD 60 undef = x60 at hlit
      generalize tm.getD 61 undef = x61 at hlit
      generalize tm.getD 62 undef = x62 at hlit
      generalize tm.getD 63 undef = x63 at hlit
      generalize tm.getD 64 undef = x64 at hlit
      generalize tm.getD 65 undef = x65 at hlit
      generalize tm.getD 66 undef = x66 at hlit
      generalize tm.getD 67 undef = x67 at hlit
      generalize tm.getD 68 undef = x68 at hlit
      generalize tm.getD 69 undef = x69 at hlit
      generalize tm.getD 70 undef = x70 at hlit
      generalize tm.getD 71 undef = x71 at hlit
      generalize tm.getD 72 undef = x72 at hlit
      generalize tm.getD 73 undef = x73 at hlit
      generalize tm.getD 74 undef = x74 at hlit
      generalize tm.getD 75 undef = x75 at hlit
      generalize tm.getD 76 undef = x76 at hlit
      generalize tm.getD 77 undef = x77 at hlit
      generalize tm.getD 78 undef = x78 at hlit
      generalize tm.getD 79 undef = x79 at hlit
      generalize tm.getD 80 undef = x80 at hlit
      generalize tm.getD 81 undef = x81 at hlit
      generalize tm.getD 82 undef = x82 at hlit
      generalize tm.getD 83 undef = x83 at hlit
      generalize tm.getD 84 undef = x84 at hlit
      generalize tm.getD 85 undef = x85 at hlit
      generalize tm.getD 86 undef = x86 at hlit
      generalize tm.getD 87 undef = x87 at hlit
      generalize tm.getD 88 undef = x88 at hlit
      generalize tm.getD 89 undef = x89 at hlit
      generalize tm.getD 90 undef = x90 at hlit
      generalize tm.getD 91 undef = x91 at hlit
      generalize tm.getD 92 undef = x92 at hlit
      generalize tm.getD 93 undef = x93 at hlit
      generalize tm.getD 94 undef = x94 at hlit
      generalize tm.getD 95 undef = x95 at hlit
      generalize tm.getD 96 undef = x96 at hlit
      generalize tm.getD 97 undef = x97 at hlit
      generalize tm.getD 98 undef = x98 at hlit
      generalize tm.getD 99 undef = x99 at hlit
      generalize tm.getD 100 undef = x100 at hlit
      generalize tm.getD 101 undef = x101 at hlit
      generalize tm.getD 102 undef = x102 at hlit
      generalize tm.getD 103 undef = x103 at hlit
      generalize tm.getD 104 undef = x104 at hlit
      generalize tm.getD 105 undef = x105 at hlit
      generalize tm.getD 106 undef = x106 at hlit
      generalize tm.getD 107 undef = x107 at hlit
      generalize tm.getD 108 undef = x108 at hlit
      generalize tm.getD 109 undef = x109 at hlit
      generalize tm.getD 110 undef = x110 at hlit
      generalize tm.getD 111 undef = x111 at hlit
      generalize tm.getD 112 undef = x112 at hlit
      generalize tm.getD 113 undef = x113 at hlit
      generalize tm.getD 114 undef = x114 at hlit
      generalize tm.getD 115 undef = x115 at hlit
      generalize tm.getD 116 undef = x116 at hlit
      generalize tm.getD 117 undef = x117 at hlit
      generalize tm.getD 118 undef = x118 at hlit
      generalize tm.getD 119 undef = x119 at hlit
      generalize tm.getD 120 undef = x120 at hlit
      generalize tm.getD 121 undef = x121 at hlit
      generalize tm.getD 122 undef = x122 at hlit
      generalize tm.getD 123 undef = x123 at hlit
      generalize tm.getD 124 undef = x124 at hlit
      generalize tm.getD 125 undef = x125 at hlit
      generalize tm.getD 126 undef = x126 at hlit
      generalize tm.getD 127 undef = x127 at hlit
      generalize tm.getD 128 undef = x128 at hlit
      generalize tm.getD 129 undef = x129 at hlit
      generalize tm.getD 130 undef = x130 at hlit
      generalize tm.getD 131 undef = x131 at hlit
      generalize tm.getD 132 undef = x132 at hlit
      generalize tm.getD 133 undef = x133 at hlit
      generalize tm.getD 134 undef = x134 at hlit
      subst hlit
      subst hdef
      try simp only []
      have b2 := HBE.out w3 hR'
      go_wp2
      go_ret
      exact ⟨rfl, b2⟩
  · have d9 : decide ((v.kind : Int) ≤ 4) = false := decide_eq_false (by omega)
    rw [d9]
    refine Facts.wp_region_preds (n := 135) (by kernel_rfl) (by kernel_rfl) rfl [Facts.Pred.is (Value.slice A5 (evL v).length c5), Facts.Pred.is (Value.string ⟨(evL v).toArray⟩), Facts.Pred.is ((v.val A n c)), Facts.Pred.shows (evL v).length (evL v), Facts.Pred.is (Value.string ⟨(evL v).toArray⟩), Facts.Pred.is (Value.bool true), Facts.Pred.is (Value.bool true), Facts.Pred.is (Value.int .i64 0), Facts.Pred.is (Value.bool true), Facts.Pred.is (Value.bool true), Facts.Pred.is (Value.bool true), Facts.Pred.is (((⟨v.writer, v.seq, v.time, v.kind, xk, xt, xn, xd⟩ : Ev).val A6 n6 c6)), Facts.Pred.is ((v.val A n c)), Facts.Pred.is (Value.bool true), Facts.Pred.is (Value.bool true), Facts.Pred.is (Value.bool true), Facts.Pred.is (((⟨v.writer, v.seq, v.time, v.kind, xk, xt, xn, xd⟩ : Ev).val A6 n6 c6)), Facts.Pred.is (((⟨v.writer, v.seq, v.time, v.kind, xk, xt, xn, xd⟩ : Ev).val A8 n8 c8)), Facts.Pred.is (Value.bool true), Facts.Pred.is (Value.bool true), Facts.Pred.is (Value.bool true), Facts.Pred.is (Value.pointer (some ⟨u6.heap.size, 0, none⟩)), Facts.Pred.is (Value.int .i64 v.writer), Facts.Pred.is (Value.pointer (some ⟨w.heap.size, 0, none⟩)), Facts.Pred.is (Value.int .i64 v.writer), Facts.Pred.is (Value.bool true), Facts.Pred.is (Value.bool true), Facts.Pred.is (Value.bool true), Facts.Pred.is (Value.pointer (some ⟨u6.heap.size, 1, none⟩)), Facts.Pred.is (Value.int .u64 (v.seq : Int)), Facts.Pred.is (Value.pointer (some ⟨w.heap.size, 1, none⟩)), Facts.Pred.is (Value.int .u64 (v.seq : Int)), Facts.Pred.is (Value.bool true), Facts.Pred.is (Value.bool true), Facts.Pred.is (Value.bool true), Facts.Pred.is (Value.pointer (some ⟨u6.heap.size, 2, none⟩)), Facts.Pred.is (Value.int .u64 (v.time : Int)), Facts.Pred.is (Value.pointer (some ⟨w.heap.size, 2, none⟩)), Facts.Pred.is (Value.int .u64 (v.time : Int)), Facts.Pred.is (Value.bool true), Facts.Pred.is (Value.bool true), Facts.Pred.is (Value.bool true), Facts.Pred.is (Value.pointer (some ⟨u6.heap.size, 3, none⟩)), Facts.Pred.is (Value.int .u8 (v.kind : Int)), Facts.Pred.is (Value.pointer (some ⟨w.heap.size, 3, none⟩)), Facts.Pred.is (Value.int .u8 (v.kind : Int)), Facts.Pred.is (Value.bool true), Facts.Pred.is (Value.bool true), Facts.Pred.is (Value.bool true), Facts.Pred.is (Value.pointer (some ⟨u6.heap.size, 4, none⟩)), Facts.Pred.is (Value.string xk), Facts.Pred.is (Value.pointer (some ⟨w.heap.size, 4, none⟩)), Facts.Pred.is (Value.string v.key), Facts.Pred.is (Value.bool v.key.toList.isEmpty), Facts.Pred.is (Value.bool false), Facts.Pred.is (Value.bool false), Facts.Pred.is (Value.pointer (some ⟨w.heap.size, 4, none⟩)), Facts.Pred.is (Value.string v.key), Facts.Pred.is (Value.bool v.key.toList.isEmpty), Facts.Pred.is (Value.bool v.key.toList.isEmpty), Facts.Pred.is (Value.bool true), Facts.Pred.is (Value.bool true), Facts.Pred.is (Value.bool true), Facts.Pred.is (Value.pointer (some ⟨u8.heap.size, 4, none⟩)), Facts.Pred.is (Value.string xk), Facts.Pred.is (Value.pointer (some ⟨u6.heap.size, 4, none⟩)), Facts.Pred.is (Value.string xk), Facts.Pred.is (Value.bool true), Facts.Pred.is (Value.bool true), Facts.Pred.is (Value.bool true), Facts.Pred.is (Value.pointer (some ⟨u8.heap.size, 5, none⟩)), Facts.Pred.is (Value.slice A8 n8 c8), Facts.Pred.is (Value.string ⟨xt.toArray⟩), Facts.Pred.is (Value.pointer (some ⟨u6.heap.size, 5, none⟩)), Facts.Pred.is (Value.slice A6 n6 c6), Facts.Pred.is (Value.string ⟨xt.toArray⟩), Facts.Pred.is (Value.bool true), Facts.Pred.is (Value.bool true), Facts.Pred.is (Value.bool true), Facts.Pred.is (Value.pointer (some ⟨u8.heap.size, 7, none⟩)), Facts.Pred.is (Value.int .i64 xd), Facts.Pred.is (Value.pointer (some ⟨u6.heap.size, 7, none⟩)), Facts.Pred.is (Value.int .i64 xd), Facts.Pred.is (Value.bool true), Facts.Pred.is (Value.bool true), Facts.Pred.is (Value.bool true), Facts.Pred.is ((v.val A n c)), Facts.Pred.is (spotV v.time v.writer), Facts.Pred.is ((v.val A n c)), Facts.Pred.is (spotV v.time v.writer), Facts.Pred.is (Value.bool true), Facts.Pred.is (Value.bool true), Facts.Pred.is (Value.bool true)] ?_ ?_
    · refine ⟨?_, ?_, ?_, ?_, ?_, ?_, ?_, ?_, ?_, ?_, ?_, ?_, ?_, ?_, ?_, ?_, ?_, ?_, ?_, ?_, ?_, ?_, ?_, ?_, ?_, ?_, ?_, ?_, ?_, ?_, ?_, ?_, ?_, ?_, ?_, ?_, ?_, ?_, ?_, ?_, ?_, ?_, ?_, ?_, ?_, ?_, ?_, ?_, ?_, ?_, ?_, ?_, ?_, ?_, ?_, ?_, ?_, ?_, ?_, ?_, ?_, ?_, ?_, ?_, ?_, ?_, ?_, ?_, ?_, ?_, ?_, ?_, ?_, ?_, ?_, ?_, ?_, ?_, ?_, ?_, ?_, ?_, ?_, ?_, ?_, ?_, ?_, ?_, ?_, ?_, ?_, ?_, ?_, trivial⟩
      · refine Facts.step_is (Value.slice A5 (evL v).length c5) fun a W hR hold hnew => ?_
        have f5 : a.tmps.getD 5 undef = Value.slice A5 (evL v).length c5 := hold 5 (by kernel_rfl)
        refine ⟨Facts.wanted_free rfl, ?_, fun _ => rfl⟩
        simp [go_sem, Act.eval, f5]
      · refine Facts.step_is (Value.string ⟨(evL v).toArray⟩) fun a W hR hold hnew => ?_
        have f43 : a.tmps.getD 43 undef = Value.slice A5 (evL v).length c5 := hnew 0 43 (by kernel_rfl)
        have r := (HSP.out W hR).string (P := Try.prog) c5 (t := 23) (s := 9) (e := 5) Try.underlying23 Try.underlying5 Try.underlying9
        refine ⟨Facts.wanted_free rfl, ?_, fun _ => rfl⟩
        simp [go_sem, Act.eval, f43, r]
      · refine Facts.step_is ((v.val A n c)) fun a W hR hold hnew => ?_
        have f2 : a.tmps.getD 2 undef = Value.pointer (some ⟨w.heap.size, 0, none⟩) := hold 2 (by kernel_rfl)
        obtain ⟨hc1, hc2, hc3⟩ := HC.out W hR
        obtain ⟨k0, k1, k2, k3, k4, k5, k6, k7⟩ := box8 hc3
        refine ⟨Facts.wanted_free rfl, ?_, fun _ => rfl⟩
        simp [go_sem, Act.eval, f2, k0, k1, k2, k3, k4, k5, k6, k7, Ev.val]
      · -- 3: Op.call { value (Operand.func 15), args := #[t45], argTypes 
        refine Facts.step_call fun a W hR hold hnew => ?_
        have f45 : a.tmps.getD 45 undef = (v.val A n c) := hnew 2 45 (by kernel_rfl)
        refine ⟨Facts.wanted_free rfl, 12, #[(v.val A n c)], by simp [go_sem, Act.eval, f45], ?_⟩
        refine (refEncode_any v _ _ _ W (HSV.out W hR) VF.out.1 VF.out.2).mono ?_
        rintro e' w7 ⟨A7, c7, rfl, hown7, hb7⟩
        exact ⟨_, rfl, hb7, A7, c7, rfl, Sees.of_own hown7⟩
      · -- 4: Op.convert 23 9 t46
        refine Facts.step_is (Value.string ⟨(evL v).toArray⟩) fun a W hR hold hnew => ?_
        have h6 : ∃ A' c', a.tmps.getD 46 undef = .slice A' (evL v).length c' ∧ Sees W A' (evL v).length (evL v) := hnew 3 46 (by kernel_rfl)
        obtain ⟨A7, c7, f6, hs7⟩ := h6
        have r := hs7.string (P := Try.prog) c7 (t := 23) (s := 9) (e := 5) Try.underlying23 Try.underlying5 Try.underlying9
        refine ⟨Facts.wanted_free rfl, ?_, fun _ => rfl⟩
        simp [go_sem, Act.eval, f6, r]
      · refine Facts.step_is (Value.bool true) fun a W hR hold hnew => ?_
        have f44 : a.tmps.getD 44 undef = Value.string ⟨(evL v).toArray⟩ := hnew 1 44 (by kernel_rfl)
        have f47 : a.tmps.getD 47 undef = Value.string ⟨(evL v).toArray⟩ := hnew 4 47 (by kernel_rfl)
        refine ⟨Facts.wanted_free rfl, ?_, fun _ => rfl⟩
        simp [go_sem, Act.eval, f44, f47]
      · refine Facts.step_is (Value.bool true) fun a W hR hold hnew => ?_
        have f48 : a.tmps.getD 48 undef = Value.bool true := hnew 5 48 (by kernel_rfl)
        refine ⟨Facts.wanted_free rfl, ?_, fun _ => rfl⟩
        simp [go_sem, Act.eval, f48]
      · refine Facts.step_is (Value.int .i64 0) fun a W hR hold hnew => ?_
        have f7 : a.tmps.getD 7 undef = Value.int .i64 0 := hold 7 (by kernel_rfl)
        have g49 : a.tmps.getD 49 undef = .bool true := hnew 6 49 (by kernel_rfl)
        refine ⟨Facts.wanted_by rfl (by kernel_rfl) g49, ?_, fun _ => rfl⟩
        simp [go_sem, Act.eval, f7]
      · refine Facts.step_is (Value.bool true) fun a W hR hold hnew => ?_
        have f50 : a.tmps.getD 50 undef = Value.int .i64 0 := hnew 7 50 (by kernel_rfl)
        have g49 : a.tmps.getD 49 undef = .bool true := hnew 6 49 (by kernel_rfl)
        refine ⟨Facts.wanted_by rfl (by kernel_rfl) g49, ?_, fun _ => rfl⟩
        simp [go_sem, Act.eval, f50]
      · refine Facts.step_is (Value.bool true) fun a W hR hold hnew => ?_
        have f49 : a.tmps.getD 49 undef = Value.bool true := hnew 6 49 (by kernel_rfl)
        have f51 : a.tmps.getD 51 undef = Value.bool true := hnew 8 51 (by kernel_rfl)
        refine ⟨Facts.wanted_free rfl, ?_, fun _ => rfl⟩
        simp [go_sem, Act.eval, f49, f51]
      · refine Facts.step_is (Value.bool true) fun a W hR hold hnew => ?_
        have f52 : a.tmps.getD 52 undef = Value.bool true := hnew 9 52 (by kernel_rfl)
        refine ⟨Facts.wanted_free rfl, ?_, fun _ => rfl⟩
        simp [go_sem, Act.eval, f52]
      · refine Facts.step_is (((⟨v.writer, v.seq, v.time, v.kind, xk, xt, xn, xd⟩ : Ev).val A6 n6 c6)) fun a W hR hold hnew => ?_
        have f6 : a.tmps.getD 6 undef = Value.pointer (some ⟨u6.heap.size, 0, none⟩) := hold 6 (by kernel_rfl)
        have g53 : a.tmps.getD 53 undef = .bool true := hnew 10 53 (by kernel_rfl)
        obtain ⟨hc1, hc2, hc3⟩ := HC.out W hR
        obtain ⟨k0, k1, k2, k3, k4, k5, k6, k7⟩ := box8 hc1
        refine ⟨Facts.wanted_by rfl (by kernel_rfl) g53, ?_, fun _ => rfl⟩
        simp [go_sem, Act.eval, f6, k0, k1, k2, k3, k4, k5, k6, k7, Ev.val]
      · refine Facts.step_is ((v.val A n c)) fun a W hR hold hnew => ?_
        have f2 : a.tmps.getD 2 undef = Value.pointer (some ⟨w.heap.size, 0, none⟩) := hold 2 (by kernel_rfl)
        have g53 : a.tmps.getD 53 undef = .bool true := hnew 10 53 (by kernel_rfl)
        obtain ⟨hc1, hc2, hc3⟩ := HC.out W hR
        obtain ⟨k0, k1, k2, k3, k4, k5, k6, k7⟩ := box8 hc3
        refine ⟨Facts.wanted_by rfl (by kernel_rfl) g53, ?_, fun _ => rfl⟩
        simp [go_sem, Act.eval, f2, k0, k1, k2, k3, k4, k5, k6, k7, Ev.val]
      · -- 13: Op.call { value (Operand.func 16), args := #[t54, t55], argT
        refine Facts.step_call fun a W hR hold hnew => ?_
        have f54 : a.tmps.getD 54 undef = ((⟨v.writer, v.seq, v.time, v.kind, xk, xt, xn, xd⟩ : Ev).val A6 n6 c6) := hnew 11 54 (by kernel_rfl); have f55 : a.tmps.getD 55 undef = (v.val A n c) := hnew 12 55 (by kernel_rfl); have g53 : a.tmps.getD 53 undef = .bool true := hnew 10 53 (by kernel_rfl)
        refine ⟨Facts.wanted_by rfl (by kernel_rfl) g53, 13, #[((⟨v.writer, v.seq, v.time, v.kind, xk, xt, xn, xd⟩ : Ev).val A6 n6 c6), (v.val A n c)], by simp [go_sem, Act.eval, f54, f55], ?_⟩
        refine (same_any (⟨v.writer, v.seq, v.time, v.kind, xk, xt, xn, xd⟩ : Ev) v _ _ _ _ _ _ W (HSX.out W hR) (HSV.out W hR) XF.out.1 VF.out.1 XF.out.2.1 VF.out.2).mono ?_
        rintro e' w7 ⟨rfl, hb7⟩
        exact ⟨_, rfl, hb7, congrArg Value.bool (decide_eq_true XF.out.2.2)⟩
      · refine Facts.step_is (Value.bool true) fun a W hR hold hnew => ?_
        have f53 : a.tmps.getD 53 undef = Value.bool true := hnew 10 53 (by kernel_rfl)
        have f56 : a.tmps.getD 56 undef = Value.bool true := hnew 13 56 (by kernel_rfl)
        refine ⟨Facts.wanted_free rfl, ?_, fun _ => rfl⟩
        simp [go_sem, Act.eval, f53, f56]
      · refine Facts.step_is (Value.bool true) fun a W hR hold hnew => ?_
        have f57 : a.tmps.getD 57 undef = Value.bool true := hnew 14 57 (by kernel_rfl)
        refine ⟨Facts.wanted_free rfl, ?_, fun _ => rfl⟩
        simp [go_sem, Act.eval, f57]
      · refine Facts.step_is (((⟨v.writer, v.seq, v.time, v.kind, xk, xt, xn, xd⟩ : Ev).val A6 n6 c6)) fun a W hR hold hnew => ?_
        have f6 : a.tmps.getD 6 undef = Value.pointer (some ⟨u6.heap.size, 0, none⟩) := hold 6 (by kernel_rfl)
        have g58 : a.tmps.getD 58 undef = .bool true := hnew 15 58 (by kernel_rfl)
        obtain ⟨hc1, hc2, hc3⟩ := HC.out W hR
        obtain ⟨k0, k1, k2, k3, k4, k5, k6, k7⟩ := box8 hc1
        refine ⟨Facts.wanted_by rfl (by kernel_rfl) g58, ?_, fun _ => rfl⟩
        simp [go_sem, Act.eval, f6, k0, k1, k2, k3, k4, k5, k6, k7, Ev.val]
      · refine Facts.step_is (((⟨v.writer, v.seq, v.time, v.kind, xk, xt, xn, xd⟩ : Ev).val A8 n8 c8)) fun a W hR hold hnew => ?_
        have f8 : a.tmps.getD 8 undef = Value.pointer (some ⟨u8.heap.size, 0, none⟩) := hold 8 (by kernel_rfl)
        have g58 : a.tmps.getD 58 undef = .bool true := hnew 15 58 (by kernel_rfl)
        obtain ⟨hc1, hc2, hc3⟩ := HC.out W hR
        obtain ⟨k0, k1, k2, k3, k4, k5, k6, k7⟩ := box8 hc2
        refine ⟨Facts.wanted_by rfl (by kernel_rfl) g58, ?_, fun _ => rfl⟩
        simp [go_sem, Act.eval, f8, k0, k1, k2, k3, k4, k5, k6, k7, Ev.val]
      · -- 18: Op.call { value (Operand.func 17), args := #[t59, t60], argT
        refine Facts.step_call fun a W hR hold hnew => ?_
        have f59 : a.tmps.getD 59 undef = ((⟨v.writer, v.seq, v.time, v.kind, xk, xt, xn, xd⟩ : Ev).val A6 n6 c6) := hnew 16 59 (by kernel_rfl); have f60 : a.tmps.getD 60 undef = ((⟨v.writer, v.seq, v.time, v.kind, xk, xt, xn, xd⟩ : Ev).val A8 n8 c8) := hnew 17 60 (by kernel_rfl); have g58 : a.tmps.getD 58 undef = .bool true := hnew 15 58 (by kernel_rfl)
        refine ⟨Facts.wanted_by rfl (by kernel_rfl) g58, 14, #[((⟨v.writer, v.seq, v.time, v.kind, xk, xt, xn, xd⟩ : Ev).val A6 n6 c6), ((⟨v.writer, v.seq, v.time, v.kind, xk, xt, xn, xd⟩ : Ev).val A8 n8 c8)], by simp [go_sem, Act.eval, f59, f60], ?_⟩
        refine (refSame_any (⟨v.writer, v.seq, v.time, v.kind, xk, xt, xn, xd⟩ : Ev) (⟨v.writer, v.seq, v.time, v.kind, xk, xt, xn, xd⟩ : Ev) _ _ _ _ _ _ W (HSX.out W hR) (HSY.out W hR) XF.out.1 XF.out.1 XF.out.2.1 XF.out.2.1).mono ?_
        rintro e' w7 ⟨rfl, hb7⟩
        exact ⟨_, rfl, hb7, congrArg Value.bool (decide_eq_true rfl)⟩
      · refine Facts.step_is (Value.bool true) fun a W hR hold hnew => ?_
        have f58 : a.tmps.getD 58 undef = Value.bool true := hnew 15 58 (by kernel_rfl)
        have f61 : a.tmps.getD 61 undef = Value.bool true := hnew 18 61 (by kernel_rfl)
        refine ⟨Facts.wanted_free rfl, ?_, fun _ => rfl⟩
        simp [go_sem, Act.eval, f58, f61]
      · refine Facts.step_is (Value.bool true) fun a W hR hold hnew => ?_
        have f62 : a.tmps.getD 62 undef = Value.bool true := hnew 19 62 (by kernel_rfl)
        refine ⟨Facts.wanted_free rfl, ?_, fun _ => rfl⟩
        simp [go_sem, Act.eval, f62]
      · refine Facts.step_is (Value.pointer (some ⟨u6.heap.size, 0, none⟩)) fun a W hR hold hnew => ?_
        have f6 : a.tmps.getD 6 undef = Value.pointer (some ⟨u6.heap.size, 0, none⟩) := hold 6 (by kernel_rfl)
        have g63 : a.tmps.getD 63 undef = .bool true := hnew 20 63 (by kernel_rfl)
        refine ⟨Facts.wanted_by rfl (by kernel_rfl) g63, ?_, fun _ => rfl⟩
        simp [go_sem, Act.eval, f6]
      · refine Facts.step_is (Value.int .i64 v.writer) fun a W hR hold hnew => ?_
        have f64 : a.tmps.getD 64 undef = Value.pointer (some ⟨u6.heap.size, 0, none⟩) := hnew 21 64 (by kernel_rfl)
        have g63 : a.tmps.getD 63 undef = .bool true := hnew 20 63 (by kernel_rfl)
        obtain ⟨hc1, hc2, hc3⟩ := HC.out W hR
        obtain ⟨k0, k1, k2, k3, k4, k5, k6, k7⟩ := box8 hc1
        refine ⟨Facts.wanted_by rfl (by kernel_rfl) g63, ?_, fun _ => rfl⟩
        simp [go_sem, Act.eval, f64, k0, k1, k2, k3, k4, k5, k6, k7, Ev.val]
      · refine Facts.step_is (Value.pointer (some ⟨w.heap.size, 0, none⟩)) fun a W hR hold hnew => ?_
        have f2 : a.tmps.getD 2 undef = Value.pointer (some ⟨w.heap.size, 0, none⟩) := hold 2 (by kernel_rfl)
        have g63 : a.tmps.getD 63 undef = .bool true := hnew 20 63 (by kernel_rfl)
        refine ⟨Facts.wanted_by rfl (by kernel_rfl) g63, ?_, fun _ => rfl⟩
        simp [go_sem, Act.eval, f2]
      · refine Facts.step_is (Value.int .i64 v.writer) fun a W hR hold hnew => ?_
        have f66 : a.tmps.getD 66 undef = Value.pointer (some ⟨w.heap.size, 0, none⟩) := hnew 23 66 (by kernel_rfl)
        have g63 : a.tmps.getD 63 undef = .bool true := hnew 20 63 (by kernel_rfl)
        obtain ⟨hc1, hc2, hc3⟩ := HC.out W hR
        obtain ⟨k0, k1, k2, k3, k4, k5, k6, k7⟩ := box8 hc3
        refine ⟨Facts.wanted_by rfl (by kernel_rfl) g63, ?_, fun _ => rfl⟩
        simp [go_sem, Act.eval, f66, k0, k1, k2, k3, k4, k5, k6, k7, Ev.val]
      · refine Facts.step_is (Value.bool true) fun a W hR hold hnew => ?_
        have f65 : a.tmps.getD 65 undef = Value.int .i64 v.writer := hnew 22 65 (by kernel_rfl)
        have f67 : a.tmps.getD 67 undef = Value.int .i64 v.writer := hnew 24 67 (by kernel_rfl)
        have g63 : a.tmps.getD 63 undef = .bool true := hnew 20 63 (by kernel_rfl)
        refine ⟨Facts.wanted_by rfl (by kernel_rfl) g63, ?_, fun _ => rfl⟩
        simp [go_sem, Act.eval, f65, f67]
      · refine Facts.step_is (Value.bool true) fun a W hR hold hnew => ?_
        have f63 : a.tmps.getD 63 undef = Value.bool true := hnew 20 63 (by kernel_rfl)
        have f68 : a.tmps.getD 68 undef = Value.bool true := hnew 25 68 (by kernel_rfl)
        refine ⟨Facts.wanted_free rfl, ?_, fun _ => rfl⟩
        simp [go_sem, Act.eval, f63, f68]
      · refine Facts.step_is (Value.bool true) fun a W hR hold hnew => ?_
        have f69 : a.tmps.getD 69 undef = Value.bool true := hnew 26 69 (by kernel_rfl)
        refine ⟨Facts.wanted_free rfl, ?_, fun _ => rfl⟩
        simp [go_sem, Act.eval, f69]
      · refine Facts.step_is (Value.pointer (some ⟨u6.heap.size, 1, none⟩)) fun a W hR hold hnew => ?_
        have f6 : a.tmps.getD 6 undef = Value.pointer (some ⟨u6.heap.size, 0, none⟩) := hold 6 (by kernel_rfl)
        have g70 : a.tmps.getD 70 undef = .bool true := hnew 27 70 (by kernel_rfl)
        refine ⟨Facts.wanted_by rfl (by kernel_rfl) g70, ?_, fun _ => rfl⟩
        simp [go_sem, Act.eval, f6]
      · refine Facts.step_is (Value.int .u64 (v.seq : Int)) fun a W hR hold hnew => ?_
        have f71 : a.tmps.getD 71 undef = Value.pointer (some ⟨u6.heap.size, 1, none⟩) := hnew 28 71 (by kernel_rfl)
        have g70 : a.tmps.getD 70 undef = .bool true := hnew 27 70 (by kernel_rfl)
        obtain ⟨hc1, hc2, hc3⟩ := HC.out W hR
        obtain ⟨k0, k1, k2, k3, k4, k5, k6, k7⟩ := box8 hc1
        refine ⟨Facts.wanted_by rfl (by kernel_rfl) g70, ?_, fun _ => rfl⟩
        simp [go_sem, Act.eval, f71, k0, k1, k2, k3, k4, k5, k6, k7, Ev.val]
      · refine Facts.step_is (Value.pointer (some ⟨w.heap.size, 1, none⟩)) fun a W hR hold hnew => ?_
        have f2 : a.tmps.getD 2 undef = Value.pointer (some ⟨w.heap.size, 0, none⟩) := hold 2 (by kernel_rfl)
        have g70 : a.tmps.getD 70 undef = .bool true := hnew 27 70 (by kernel_rfl)
        refine ⟨Facts.wanted_by rfl (by kernel_rfl) g70, ?_, fun _ => rfl⟩
        simp [go_sem, Act.eval, f2]
      · refine Facts.step_is (Value.int .u64 (v.seq : Int)) fun a W hR hold hnew => ?_
        have f73 : a.tmps.getD 73 undef = Value.pointer (some ⟨w.heap.size, 1, none⟩) := hnew 30 73 (by kernel_rfl)
        have g70 : a.tmps.getD 70 undef = .bool true := hnew 27 70 (by kernel_rfl)
        obtain ⟨hc1, hc2, hc3⟩ := HC.out W hR
        obtain ⟨k0, k1, k2, k3, k4, k5, k6, k7⟩ := box8 hc3
        refine ⟨Facts.wanted_by rfl (by kernel_rfl) g70, ?_, fun _ => rfl⟩
        simp [go_sem, Act.eval, f73, k0, k1, k2, k3, k4, k5, k6, k7, Ev.val]
      · refine Facts.step_is (Value.bool true) fun a W hR hold hnew => ?_
        have f72 : a.tmps.getD 72 undef = Value.int .u64 (v.seq : Int) := hnew 29 72 (by kernel_rfl)
        have f74 : a.tmps.getD 74 undef = Value.int .u64 (v.seq : Int) := hnew 31 74 (by kernel_rfl)
        have g70 : a.tmps.getD 70 undef = .bool true := hnew 27 70 (by kernel_rfl)
        refine ⟨Facts.wanted_by rfl (by kernel_rfl) g70, ?_, fun _ => rfl⟩
        simp [go_sem, Act.eval, f72, f74]
      · refine Facts.step_is (Value.bool true) fun a W hR hold hnew => ?_
        have f70 : a.tmps.getD 70 undef = Value.bool true := hnew 27 70 (by kernel_rfl)
        have f75 : a.tmps.getD 75 undef = Value.bool true := hnew 32 75 (by kernel_rfl)
        refine ⟨Facts.wanted_free rfl, ?_, fun _ => rfl⟩
        simp [go_sem, Act.eval, f70, f75]
      · refine Facts.step_is (Value.bool true) fun a W hR hold hnew => ?_
        have f76 : a.tmps.getD 76 undef = Value.bool true := hnew 33 76 (by kernel_rfl)
        refine ⟨Facts.wanted_free rfl, ?_, fun _ => rfl⟩
        simp [go_sem, Act.eval, f76]
      · refine Facts.step_is (Value.pointer (some ⟨u6.heap.size, 2, none⟩)) fun a W hR hold hnew => ?_
        have f6 : a.tmps.getD 6 undef = Value.pointer (some ⟨u6.heap.size, 0, none⟩) := hold 6 (by kernel_rfl)
        have g77 : a.tmps.getD 77 undef = .bool true := hnew 34 77 (by kernel_rfl)
        refine ⟨Facts.wanted_by rfl (by kernel_rfl) g77, ?_, fun _ => rfl⟩
        simp [go_sem, Act.eval, f6]
      · refine Facts.step_is (Value.int .u64 (v.time : Int)) fun a W hR hold hnew => ?_
        have f78 : a.tmps.getD 78 undef = Value.pointer (some ⟨u6.heap.size, 2, none⟩) := hnew 35 78 (by kernel_rfl)
        have g77 : a.tmps.getD 77 undef = .bool true := hnew 34 77 (by kernel_rfl)
        obtain ⟨hc1, hc2, hc3⟩ := HC.out W hR
        obtain ⟨k0, k1, k2, k3, k4, k5, k6, k7⟩ := box8 hc1
        refine ⟨Facts.wanted_by rfl (by kernel_rfl) g77, ?_, fun _ => rfl⟩
        simp [go_sem, Act.eval, f78, k0, k1, k2, k3, k4, k5, k6, k7, Ev.val]
      · refine Facts.step_is (Value.pointer (some ⟨w.heap.size, 2, none⟩)) fun a W hR hold hnew => ?_
        have f2 : a.tmps.getD 2 undef = Value.pointer (some ⟨w.heap.size, 0, none⟩) := hold 2 (by kernel_rfl)
        have g77 : a.tmps.getD 77 undef = .bool true := hnew 34 77 (by kernel_rfl)
        refine ⟨Facts.wanted_by rfl (by kernel_rfl) g77, ?_, fun _ => rfl⟩
        simp [go_sem, Act.eval, f2]
      · refine Facts.step_is (Value.int .u64 (v.time : Int)) fun a W hR hold hnew => ?_
        have f80 : a.tmps.getD 80 undef = Value.pointer (some ⟨w.heap.size, 2, none⟩) := hnew 37 80 (by kernel_rfl)
        have g77 : a.tmps.getD 77 undef = .bool true := hnew 34 77 (by kernel_rfl)
        obtain ⟨hc1, hc2, hc3⟩ := HC.out W hR
        obtain ⟨k0, k1, k2, k3, k4, k5, k6, k7⟩ := box8 hc3
        refine ⟨Facts.wanted_by rfl (by kernel_rfl) g77, ?_, fun _ => rfl⟩
        simp [go_sem, Act.eval, f80, k0, k1, k2, k3, k4, k5, k6, k7, Ev.val]
      · refine Facts.step_is (Value.bool true) fun a W hR hold hnew => ?_
        have f79 : a.tmps.getD 79 undef = Value.int .u64 (v.time : Int) := hnew 36 79 (by kernel_rfl)
        have f81 : a.tmps.getD 81 undef = Value.int .u64 (v.time : Int) := hnew 38 81 (by kernel_rfl)
        have g77 : a.tmps.getD 77 undef = .bool true := hnew 34 77 (by kernel_rfl)
        refine ⟨Facts.wanted_by rfl (by kernel_rfl) g77, ?_, fun _ => rfl⟩
        simp [go_sem, Act.eval, f79, f81]
      · refine Facts.step_is (Value.bool true) fun a W hR hold hnew => ?_
        have f77 : a.tmps.getD 77 undef = Value.bool true := hnew 34 77 (by kernel_rfl)
        have f82 : a.tmps.getD 82 undef = Value.bool true := hnew 39 82 (by kernel_rfl)
        refine ⟨Facts.wanted_free rfl, ?_, fun _ => rfl⟩
        simp [go_sem, Act.eval, f77, f82]
      · refine Facts.step_is (Value.bool true) fun a W hR hold hnew => ?_
        have f83 : a.tmps.getD 83 undef = Value.bool true := hnew 40 83 (by kernel_rfl)
        refine ⟨Facts.wanted_free rfl, ?_, fun _ => rfl⟩
        simp [go_sem, Act.eval, f83]
      · refine Facts.step_is (Value.pointer (some ⟨u6.heap.size, 3, none⟩)) fun a W hR hold hnew => ?_
        have f6 : a.tmps.getD 6 undef = Value.pointer (some ⟨u6.heap.size, 0, none⟩) := hold 6 (by kernel_rfl)
        have g84 : a.tmps.getD 84 undef = .bool true := hnew 41 84 (by kernel_rfl)
        refine ⟨Facts.wanted_by rfl (by kernel_rfl) g84, ?_, fun _ => rfl⟩
        simp [go_sem, Act.eval, f6]
      · refine Facts.step_is (Value.int .u8 (v.kind : Int)) fun a W hR hold hnew => ?_
        have f85 : a.tmps.getD 85 undef = Value.pointer (some ⟨u6.heap.size, 3, none⟩) := hnew 42 85 (by kernel_rfl)
        have g84 : a.tmps.getD 84 undef = .bool true := hnew 41 84 (by kernel_rfl)
        obtain ⟨hc1, hc2, hc3⟩ := HC.out W hR
        obtain ⟨k0, k1, k2, k3, k4, k5, k6, k7⟩ := box8 hc1
        refine ⟨Facts.wanted_by rfl (by kernel_rfl) g84, ?_, fun _ => rfl⟩
        simp [go_sem, Act.eval, f85, k0, k1, k2, k3, k4, k5, k6, k7, Ev.val]
      · refine Facts.step_is (Value.pointer (some ⟨w.heap.size, 3, none⟩)) fun a W hR hold hnew => ?_
        have f2 : a.tmps.getD 2 undef = Value.pointer (some ⟨w.heap.size, 0, none⟩) := hold 2 (by kernel_rfl)
        have g84 : a.tmps.getD 84 undef = .bool true := hnew 41 84 (by kernel_rfl)
        refine ⟨Facts.wanted_by rfl (by kernel_rfl) g84, ?_, fun _ => rfl⟩
        simp [go_sem, Act.eval, f2]
      · refine Facts.step_is (Value.int .u8 (v.kind : Int)) fun a W hR hold hnew => ?_
        have f87 : a.tmps.getD 87 undef = Value.pointer (some ⟨w.heap.size, 3, none⟩) := hnew 44 87 (by kernel_rfl)
        have g84 : a.tmps.getD 84 undef = .bool true := hnew 41 84 (by kernel_rfl)
        obtain ⟨hc1, hc2, hc3⟩ := HC.out W hR
        obtain ⟨k0, k1, k2, k3, k4, k5, k6, k7⟩ := box8 hc3
        refine ⟨Facts.wanted_by rfl (by kernel_rfl) g84, ?_, fun _ => rfl⟩
        simp [go_sem, Act.eval, f87, k0, k1, k2, k3, k4, k5, k6, k7, Ev.val]
      · refine Facts.step_is (Value.bool true) fun a W hR hold hnew => ?_
        have f86 : a.tmps.getD 86 undef = Value.int .u8 (v.kind : Int) := hnew 43 86 (by kernel_rfl)
        have f88 : a.tmps.getD 88 undef = Value.int .u8 (v.kind : Int) := hnew 45 88 (by kernel_rfl)
        have g84 : a.tmps.getD 84 undef = .bool true := hnew 41 84 (by kernel_rfl)
        refine ⟨Facts.wanted_by rfl (by kernel_rfl) g84, ?_, fun _ => rfl⟩
        simp [go_sem, Act.eval, f86, f88]
      · refine Facts.step_is (Value.bool true) fun a W hR hold hnew => ?_
        have f84 : a.tmps.getD 84 undef = Value.bool true := hnew 41 84 (by kernel_rfl)
        have f89 : a.tmps.getD 89 undef = Value.bool true := hnew 46 89 (by kernel_rfl)
        refine ⟨Facts.wanted_free rfl, ?_, fun _ => rfl⟩
        simp [go_sem, Act.eval, f84, f89]
      · refine Facts.step_is (Value.bool true) fun a W hR hold hnew => ?_
        have f90 : a.tmps.getD 90 undef = Value.bool true := hnew 47 90 (by kernel_rfl)
        refine ⟨Facts.wanted_free rfl, ?_, fun _ => rfl⟩
        simp [go_sem, Act.eval, f90]
      · refine Facts.step_is (Value.pointer (some ⟨u6.heap.size, 4, none⟩)) fun a W hR hold hnew => ?_
        have f6 : a.tmps.getD 6 undef = Value.pointer (some ⟨u6.heap.size, 0, none⟩) := hold 6 (by kernel_rfl)
        have g91 : a.tmps.getD 91 undef = .bool true := hnew 48 91 (by kernel_rfl)
        refine ⟨Facts.wanted_by rfl (by kernel_rfl) g91, ?_, fun _ => rfl⟩
        simp [go_sem, Act.eval, f6]
      · refine Facts.step_is (Value.string xk) fun a W hR hold hnew => ?_
        have f92 : a.tmps.getD 92 undef = Value.pointer (some ⟨u6.heap.size, 4, none⟩) := hnew 49 92 (by kernel_rfl)
        have g91 : a.tmps.getD 91 undef = .bool true := hnew 48 91 (by kernel_rfl)
        obtain ⟨hc1, hc2, hc3⟩ := HC.out W hR
        obtain ⟨k0, k1, k2, k3, k4, k5, k6, k7⟩ := box8 hc1
        refine ⟨Facts.wanted_by rfl (by kernel_rfl) g91, ?_, fun _ => rfl⟩
        simp [go_sem, Act.eval, f92, k0, k1, k2, k3, k4, k5, k6, k7, Ev.val]
      · refine Facts.step_is (Value.pointer (some ⟨w.heap.size, 4, none⟩)) fun a W hR hold hnew => ?_
        have f2 : a.tmps.getD 2 undef = Value.pointer (some ⟨w.heap.size, 0, none⟩) := hold 2 (by kernel_rfl)
        have g91 : a.tmps.getD 91 undef = .bool true := hnew 48 91 (by kernel_rfl)
        refine ⟨Facts.wanted_by rfl (by kernel_rfl) g91, ?_, fun _ => rfl⟩
        simp [go_sem, Act.eval, f2]
      · refine Facts.step_is (Value.string v.key) fun a W hR hold hnew => ?_
        have f94 : a.tmps.getD 94 undef = Value.pointer (some ⟨w.heap.size, 4, none⟩) := hnew 51 94 (by kernel_rfl)
        have g91 : a.tmps.getD 91 undef = .bool true := hnew 48 91 (by kernel_rfl)
        obtain ⟨hc1, hc2, hc3⟩ := HC.out W hR
        obtain ⟨k0, k1, k2, k3, k4, k5, k6, k7⟩ := box8 hc3
        refine ⟨Facts.wanted_by rfl (by kernel_rfl) g91, ?_, fun _ => rfl⟩
        simp [go_sem, Act.eval, f94, k0, k1, k2, k3, k4, k5, k6, k7, Ev.val]
      · refine Facts.step_is (Value.bool v.key.toList.isEmpty) fun a W hR hold hnew => ?_
        have f93 : a.tmps.getD 93 undef = Value.string xk := hnew 50 93 (by kernel_rfl)
        have f95 : a.tmps.getD 95 undef = Value.string v.key := hnew 52 95 (by kernel_rfl)
        have g91 : a.tmps.getD 91 undef = .bool true := hnew 48 91 (by kernel_rfl)
        refine ⟨Facts.wanted_by rfl (by kernel_rfl) g91, ?_, fun _ => rfl⟩
        simp [go_sem, Act.eval, f93, f95, hxk]
      · refine Facts.step_is (Value.bool false) fun a W hR hold hnew => ?_
        have f9 : a.tmps.getD 9 undef = Value.bool false := hold 9 (by kernel_rfl)
        have g91 : a.tmps.getD 91 undef = .bool true := hnew 48 91 (by kernel_rfl)
        refine ⟨Facts.wanted_by rfl (by kernel_rfl) g91, ?_, fun _ => rfl⟩
        simp [go_sem, Act.eval, f9]
      · refine Facts.step_is (Value.bool false) fun a W hR hold hnew => ?_
        have f97 : a.tmps.getD 97 undef = Value.bool false := hnew 54 97 (by kernel_rfl)
        have g91 : a.tmps.getD 91 undef = .bool true := hnew 48 91 (by kernel_rfl)
        refine ⟨Facts.wanted_by rfl (by kernel_rfl) g91, ?_, fun _ => rfl⟩
        simp [go_sem, Act.eval, f97]
      · refine Facts.step_is (Value.pointer (some ⟨w.heap.size, 4, none⟩)) fun a W hR hold hnew => ?_
        have f2 : a.tmps.getD 2 undef = Value.pointer (some ⟨w.heap.size, 0, none⟩) := hold 2 (by kernel_rfl)
        have g98 : a.tmps.getD 98 undef = .bool false := hnew 55 98 (by kernel_rfl)
        refine ⟨Facts.wanted_by rfl (by kernel_rfl) g98, ?_, fun _ => rfl⟩
        simp [go_sem, Act.eval, f2]
      · refine Facts.step_is (Value.string v.key) fun a W hR hold hnew => ?_
        have f99 : a.tmps.getD 99 undef = Value.pointer (some ⟨w.heap.size, 4, none⟩) := hnew 56 99 (by kernel_rfl)
        have g98 : a.tmps.getD 98 undef = .bool false := hnew 55 98 (by kernel_rfl)
        obtain ⟨hc1, hc2, hc3⟩ := HC.out W hR
        obtain ⟨k0, k1, k2, k3, k4, k5, k6, k7⟩ := box8 hc3
        refine ⟨Facts.wanted_by rfl (by kernel_rfl) g98, ?_, fun _ => rfl⟩
        simp [go_sem, Act.eval, f99, k0, k1, k2, k3, k4, k5, k6, k7, Ev.val]
      · refine Facts.step_is (Value.bool v.key.toList.isEmpty) fun a W hR hold hnew => ?_
        have f100 : a.tmps.getD 100 undef = Value.string v.key := hnew 57 100 (by kernel_rfl)
        have g98 : a.tmps.getD 98 undef = .bool false := hnew 55 98 (by kernel_rfl)
        refine ⟨Facts.wanted_by rfl (by kernel_rfl) g98, ?_, fun _ => rfl⟩
        simp [go_sem, Act.eval, f100]
      · refine Facts.step_is (Value.bool v.key.toList.isEmpty) fun a W hR hold hnew => ?_
        have f98 : a.tmps.getD 98 undef = Value.bool false := hnew 55 98 (by kernel_rfl)
        have f101 : a.tmps.getD 101 undef = Value.bool v.key.toList.isEmpty := hnew 58 101 (by kernel_rfl)
        have g91 : a.tmps.getD 91 undef = .bool true := hnew 48 91 (by kernel_rfl)
        refine ⟨Facts.wanted_by rfl (by kernel_rfl) g91, ?_, fun _ => rfl⟩
        simp [go_sem, Act.eval, f98, f101]
      · refine Facts.step_is (Value.bool true) fun a W hR hold hnew => ?_
        have f96 : a.tmps.getD 96 undef = Value.bool v.key.toList.isEmpty := hnew 53 96 (by kernel_rfl)
        have f102 : a.tmps.getD 102 undef = Value.bool v.key.toList.isEmpty := hnew 59 102 (by kernel_rfl)
        have g91 : a.tmps.getD 91 undef = .bool true := hnew 48 91 (by kernel_rfl)
        refine ⟨Facts.wanted_by rfl (by kernel_rfl) g91, ?_, fun _ => rfl⟩
        simp [go_sem, Act.eval, f96, f102]
      · refine Facts.step_is (Value.bool true) fun a W hR hold hnew => ?_
        have f91 : a.tmps.getD 91 undef = Value.bool true := hnew 48 91 (by kernel_rfl)
        have f103 : a.tmps.getD 103 undef = Value.bool true := hnew 60 103 (by kernel_rfl)
        refine ⟨Facts.wanted_free rfl, ?_, fun _ => rfl⟩
        simp [go_sem, Act.eval, f91, f103]
      · refine Facts.step_is (Value.bool true) fun a W hR hold hnew => ?_
        have f104 : a.tmps.getD 104 undef = Value.bool true := hnew 61 104 (by kernel_rfl)
        refine ⟨Facts.wanted_free rfl, ?_, fun _ => rfl⟩
        simp [go_sem, Act.eval, f104]
      · refine Facts.step_is (Value.pointer (some ⟨u8.heap.size, 4, none⟩)) fun a W hR hold hnew => ?_
        have f8 : a.tmps.getD 8 undef = Value.pointer (some ⟨u8.heap.size, 0, none⟩) := hold 8 (by kernel_rfl)
        have g105 : a.tmps.getD 105 undef = .bool true := hnew 62 105 (by kernel_rfl)
        refine ⟨Facts.wanted_by rfl (by kernel_rfl) g105, ?_, fun _ => rfl⟩
        simp [go_sem, Act.eval, f8]
      · refine Facts.step_is (Value.string xk) fun a W hR hold hnew => ?_
        have f106 : a.tmps.getD 106 undef = Value.pointer (some ⟨u8.heap.size, 4, none⟩) := hnew 63 106 (by kernel_rfl)
        have g105 : a.tmps.getD 105 undef = .bool true := hnew 62 105 (by kernel_rfl)
        obtain ⟨hc1, hc2, hc3⟩ := HC.out W hR
        obtain ⟨k0, k1, k2, k3, k4, k5, k6, k7⟩ := box8 hc2
        refine ⟨Facts.wanted_by rfl (by kernel_rfl) g105, ?_, fun _ => rfl⟩
        simp [go_sem, Act.eval, f106, k0, k1, k2, k3, k4, k5, k6, k7, Ev.val]
      · refine Facts.step_is (Value.pointer (some ⟨u6.heap.size, 4, none⟩)) fun a W hR hold hnew => ?_
        have f6 : a.tmps.getD 6 undef = Value.pointer (some ⟨u6.heap.size, 0, none⟩) := hold 6 (by kernel_rfl)
        have g105 : a.tmps.getD 105 undef = .bool true := hnew 62 105 (by kernel_rfl)
        refine ⟨Facts.wanted_by rfl (by kernel_rfl) g105, ?_, fun _ => rfl⟩
        simp [go_sem, Act.eval, f6]
      · refine Facts.step_is (Value.string xk) fun a W hR hold hnew => ?_
        have f108 : a.tmps.getD 108 undef = Value.pointer (some ⟨u6.heap.size, 4, none⟩) := hnew 65 108 (by kernel_rfl)
        have g105 : a.tmps.getD 105 undef = .bool true := hnew 62 105 (by kernel_rfl)
        obtain ⟨hc1, hc2, hc3⟩ := HC.out W hR
        obtain ⟨k0, k1, k2, k3, k4, k5, k6, k7⟩ := box8 hc1
        refine ⟨Facts.wanted_by rfl (by kernel_rfl) g105, ?_, fun _ => rfl⟩
        simp [go_sem, Act.eval, f108, k0, k1, k2, k3, k4, k5, k6, k7, Ev.val]
      · refine Facts.step_is (Value.bool true) fun a W hR hold hnew => ?_
        have f107 : a.tmps.getD 107 undef = Value.string xk := hnew 64 107 (by kernel_rfl)
        have f109 : a.tmps.getD 109 undef = Value.string xk := hnew 66 109 (by kernel_rfl)
        have g105 : a.tmps.getD 105 undef = .bool true := hnew 62 105 (by kernel_rfl)
        refine ⟨Facts.wanted_by rfl (by kernel_rfl) g105, ?_, fun _ => rfl⟩
        simp [go_sem, Act.eval, f107, f109]
      · refine Facts.step_is (Value.bool true) fun a W hR hold hnew => ?_
        have f105 : a.tmps.getD 105 undef = Value.bool true := hnew 62 105 (by kernel_rfl)
        have f110 : a.tmps.getD 110 undef = Value.bool true := hnew 67 110 (by kernel_rfl)
        refine ⟨Facts.wanted_free rfl, ?_, fun _ => rfl⟩
        simp [go_sem, Act.eval, f105, f110]
      · refine Facts.step_is (Value.bool true) fun a W hR hold hnew => ?_
        have f111 : a.tmps.getD 111 undef = Value.bool true := hnew 68 111 (by kernel_rfl)
        refine ⟨Facts.wanted_free rfl, ?_, fun _ => rfl⟩
        simp [go_sem, Act.eval, f111]
      · refine Facts.step_is (Value.pointer (some ⟨u8.heap.size, 5, none⟩)) fun a W hR hold hnew => ?_
        have f8 : a.tmps.getD 8 undef = Value.pointer (some ⟨u8.heap.size, 0, none⟩) := hold 8 (by kernel_rfl)
        have g112 : a.tmps.getD 112 undef = .bool true := hnew 69 112 (by kernel_rfl)
        refine ⟨Facts.wanted_by rfl (by kernel_rfl) g112, ?_, fun _ => rfl⟩
        simp [go_sem, Act.eval, f8]
      · refine Facts.step_is (Value.slice A8 n8 c8) fun a W hR hold hnew => ?_
        have f113 : a.tmps.getD 113 undef = Value.pointer (some ⟨u8.heap.size, 5, none⟩) := hnew 70 113 (by kernel_rfl)
        have g112 : a.tmps.getD 112 undef = .bool true := hnew 69 112 (by kernel_rfl)
        obtain ⟨hc1, hc2, hc3⟩ := HC.out W hR
        obtain ⟨k0, k1, k2, k3, k4, k5, k6, k7⟩ := box8 hc2
        refine ⟨Facts.wanted_by rfl (by kernel_rfl) g112, ?_, fun _ => rfl⟩
        simp [go_sem, Act.eval, f113, k0, k1, k2, k3, k4, k5, k6, k7, Ev.val]
      · refine Facts.step_is (Value.string ⟨xt.toArray⟩) fun a W hR hold hnew => ?_
        have f114 : a.tmps.getD 114 undef = Value.slice A8 n8 c8 := hnew 71 114 (by kernel_rfl)
        have g112 : a.tmps.getD 112 undef = .bool true := hnew 69 112 (by kernel_rfl)
        have r := (HSY.out W hR).string (P := Try.prog) c8 (t := 23) (s := 9) (e := 5) Try.underlying23 Try.underlying5 Try.underlying9
        refine ⟨Facts.wanted_by rfl (by kernel_rfl) g112, ?_, fun _ => rfl⟩
        simp [go_sem, Act.eval, f114, r]
      · refine Facts.step_is (Value.pointer (some ⟨u6.heap.size, 5, none⟩)) fun a W hR hold hnew => ?_
        have f6 : a.tmps.getD 6 undef = Value.pointer (some ⟨u6.heap.size, 0, none⟩) := hold 6 (by kernel_rfl)
        have g112 : a.tmps.getD 112 undef = .bool true := hnew 69 112 (by kernel_rfl)
        refine ⟨Facts.wanted_by rfl (by kernel_rfl) g112, ?_, fun _ => rfl⟩
        simp [go_sem, Act.eval, f6]
      · refine Facts.step_is (Value.slice A6 n6 c6) fun a W hR hold hnew => ?_
        have f116 : a.tmps.getD 116 undef = Value.pointer (some ⟨u6.heap.size, 5, none⟩) := hnew 73 116 (by kernel_rfl)
        have g112 : a.tmps.getD 112 undef = .bool true := hnew 69 112 (by kernel_rfl)
        obtain ⟨hc1, hc2, hc3⟩ := HC.out W hR
        obtain ⟨k0, k1, k2, k3, k4, k5, k6, k7⟩ := box8 hc1
        refine ⟨Facts.wanted_by rfl (by kernel_rfl) g112, ?_, fun _ => rfl⟩
        simp [go_sem, Act.eval, f116, k0, k1, k2, k3, k4, k5, k6, k7, Ev.val]
      · refine Facts.step_is (Value.string ⟨xt.toArray⟩) fun a W hR hold hnew => ?_
        have f117 : a.tmps.getD 117 undef = Value.slice A6 n6 c6 := hnew 74 117 (by kernel_rfl)
        have g112 : a.tmps.getD 112 undef = .bool true := hnew 69 112 (by kernel_rfl)
        have r := (HSX.out W hR).string (P := Try.prog) c6 (t := 23) (s := 9) (e := 5) Try.underlying23 Try.underlying5 Try.underlying9
        refine ⟨Facts.wanted_by rfl (by kernel_rfl) g112, ?_, fun _ => rfl⟩
        simp [go_sem, Act.eval, f117, r]
      · refine Facts.step_is (Value.bool true) fun a W hR hold hnew => ?_
        have f115 : a.tmps.getD 115 undef = Value.string ⟨xt.toArray⟩ := hnew 72 115 (by kernel_rfl)
        have f118 : a.tmps.getD 118 undef = Value.string ⟨xt.toArray⟩ := hnew 75 118 (by kernel_rfl)
        have g112 : a.tmps.getD 112 undef = .bool true := hnew 69 112 (by kernel_rfl)
        refine ⟨Facts.wanted_by rfl (by kernel_rfl) g112, ?_, fun _ => rfl⟩
        simp [go_sem, Act.eval, f115, f118]
      · refine Facts.step_is (Value.bool true) fun a W hR hold hnew => ?_
        have f112 : a.tmps.getD 112 undef = Value.bool true := hnew 69 112 (by kernel_rfl)
        have f119 : a.tmps.getD 119 undef = Value.bool true := hnew 76 119 (by kernel_rfl)
        refine ⟨Facts.wanted_free rfl, ?_, fun _ => rfl⟩
        simp [go_sem, Act.eval, f112, f119]
      · refine Facts.step_is (Value.bool true) fun a W hR hold hnew => ?_
        have f120 : a.tmps.getD 120 undef = Value.bool true := hnew 77 120 (by kernel_rfl)
        refine ⟨Facts.wanted_free rfl, ?_, fun _ => rfl⟩
        simp [go_sem, Act.eval, f120]
      · refine Facts.step_is (Value.pointer (some ⟨u8.heap.size, 7, none⟩)) fun a W hR hold hnew => ?_
        have f8 : a.tmps.getD 8 undef = Value.pointer (some ⟨u8.heap.size, 0, none⟩) := hold 8 (by kernel_rfl)
        have g121 : a.tmps.getD 121 undef = .bool true := hnew 78 121 (by kernel_rfl)
        refine ⟨Facts.wanted_by rfl (by kernel_rfl) g121, ?_, fun _ => rfl⟩
        simp [go_sem, Act.eval, f8]
      · refine Facts.step_is (Value.int .i64 xd) fun a W hR hold hnew => ?_
        have f122 : a.tmps.getD 122 undef = Value.pointer (some ⟨u8.heap.size, 7, none⟩) := hnew 79 122 (by kernel_rfl)
        have g121 : a.tmps.getD 121 undef = .bool true := hnew 78 121 (by kernel_rfl)
        obtain ⟨hc1, hc2, hc3⟩ := HC.out W hR
        obtain ⟨k0, k1, k2, k3, k4, k5, k6, k7⟩ := box8 hc2
        refine ⟨Facts.wanted_by rfl (by kernel_rfl) g121, ?_, fun _ => rfl⟩
        simp [go_sem, Act.eval, f122, k0, k1, k2, k3, k4, k5, k6, k7, Ev.val]
      · refine Facts.step_is (Value.pointer (some ⟨u6.heap.size, 7, none⟩)) fun a W hR hold hnew => ?_
        have f6 : a.tmps.getD 6 undef = Value.pointer (some ⟨u6.heap.size, 0, none⟩) := hold 6 (by kernel_rfl)
        have g121 : a.tmps.getD 121 undef = .bool true := hnew 78 121 (by kernel_rfl)
        refine ⟨Facts.wanted_by rfl (by kernel_rfl) g121, ?_, fun _ => rfl⟩
        simp [go_sem, Act.eval, f6]
      · refine Facts.step_is (Value.int .i64 xd) fun a W hR hold hnew => ?_
        have f124 : a.tmps.getD 124 undef = Value.pointer (some ⟨u6.heap.size, 7, none⟩) := hnew 81 124 (by kernel_rfl)
        have g121 : a.tmps.getD 121 undef = .bool true := hnew 78 121 (by kernel_rfl)
        obtain ⟨hc1, hc2, hc3⟩ := HC.out W hR
        obtain ⟨k0, k1, k2, k3, k4, k5, k6, k7⟩ := box8 hc1
        refine ⟨Facts.wanted_by rfl (by kernel_rfl) g121, ?_, fun _ => rfl⟩
        simp [go_sem, Act.eval, f124, k0, k1, k2, k3, k4, k5, k6, k7, Ev.val]
      · refine Facts.step_is (Value.bool true) fun a W hR hold hnew => ?_
        have f123 : a.tmps.getD 123 undef = Value.int .i64 xd := hnew 80 123 (by kernel_rfl)
        have f125 : a.tmps.getD 125 undef = Value.int .i64 xd := hnew 82 125 (by kernel_rfl)
        have g121 : a.tmps.getD 121 undef = .bool true := hnew 78 121 (by kernel_rfl)
        refine ⟨Facts.wanted_by rfl (by kernel_rfl) g121, ?_, fun _ => rfl⟩
        simp [go_sem, Act.eval, f123, f125]
      · refine Facts.step_is (Value.bool true) fun a W hR hold hnew => ?_
        have f121 : a.tmps.getD 121 undef = Value.bool true := hnew 78 121 (by kernel_rfl)
        have f126 : a.tmps.getD 126 undef = Value.bool true := hnew 83 126 (by kernel_rfl)
        refine ⟨Facts.wanted_free rfl, ?_, fun _ => rfl⟩
        simp [go_sem, Act.eval, f121, f126]
      · refine Facts.step_is (Value.bool true) fun a W hR hold hnew => ?_
        have f127 : a.tmps.getD 127 undef = Value.bool true := hnew 84 127 (by kernel_rfl)
        refine ⟨Facts.wanted_free rfl, ?_, fun _ => rfl⟩
        simp [go_sem, Act.eval, f127]
      · refine Facts.step_is ((v.val A n c)) fun a W hR hold hnew => ?_
        have f2 : a.tmps.getD 2 undef = Value.pointer (some ⟨w.heap.size, 0, none⟩) := hold 2 (by kernel_rfl)
        have g128 : a.tmps.getD 128 undef = .bool true := hnew 85 128 (by kernel_rfl)
        obtain ⟨hc1, hc2, hc3⟩ := HC.out W hR
        obtain ⟨k0, k1, k2, k3, k4, k5, k6, k7⟩ := box8 hc3
        refine ⟨Facts.wanted_by rfl (by kernel_rfl) g128, ?_, fun _ => rfl⟩
        simp [go_sem, Act.eval, f2, k0, k1, k2, k3, k4, k5, k6, k7, Ev.val]
      · -- 87: Op.call { value (Operand.func 18), args := #[t129], argTypes
        refine Facts.step_call fun a W hR hold hnew => ?_
        have f129 : a.tmps.getD 129 undef = (v.val A n c) := hnew 86 129 (by kernel_rfl); have g128 : a.tmps.getD 128 undef = .bool true := hnew 85 128 (by kernel_rfl)
        refine ⟨Facts.wanted_by rfl (by kernel_rfl) g128, 15, #[(v.val A n c)], by simp [go_sem, Act.eval, f129], ?_⟩
        refine (at_any v _ _ _ W).mono ?_
        rintro e' w7 ⟨rfl, hb7⟩
        exact ⟨_, rfl, hb7, rfl⟩
      · refine Facts.step_is ((v.val A n c)) fun a W hR hold hnew => ?_
        have f2 : a.tmps.getD 2 undef = Value.pointer (some ⟨w.heap.size, 0, none⟩) := hold 2 (by kernel_rfl)
        have g128 : a.tmps.getD 128 undef = .bool true := hnew 85 128 (by kernel_rfl)
        obtain ⟨hc1, hc2, hc3⟩ := HC.out W hR
        obtain ⟨k0, k1, k2, k3, k4, k5, k6, k7⟩ := box8 hc3
        refine ⟨Facts.wanted_by rfl (by kernel_rfl) g128, ?_, fun _ => rfl⟩
        simp [go_sem, Act.eval, f2, k0, k1, k2, k3, k4, k5, k6, k7, Ev.val]
      · -- 89: Op.call { value (Operand.func 19), args := #[t131], argTypes
        refine Facts.step_call fun a W hR hold hnew => ?_
        have f131 : a.tmps.getD 131 undef = (v.val A n c) := hnew 88 131 (by kernel_rfl); have g128 : a.tmps.getD 128 undef = .bool true := hnew 85 128 (by kernel_rfl)
        refine ⟨Facts.wanted_by rfl (by kernel_rfl) g128, 16, #[(v.val A n c)], by simp [go_sem, Act.eval, f131], ?_⟩
        refine (refAt_any v _ _ _ W).mono ?_
        rintro e' w7 ⟨rfl, hb7⟩
        exact ⟨_, rfl, hb7, rfl⟩
      · refine Facts.step_is (Value.bool true) fun a W hR hold hnew => ?_
        have f130 : a.tmps.getD 130 undef = spotV v.time v.writer := hnew 87 130 (by kernel_rfl)
        have f132 : a.tmps.getD 132 undef = spotV v.time v.writer := hnew 89 132 (by kernel_rfl)
        have g128 : a.tmps.getD 128 undef = .bool true := hnew 85 128 (by kernel_rfl)
        refine ⟨Facts.wanted_by rfl (by kernel_rfl) g128, ?_, fun _ => rfl⟩
        simp [go_sem, Act.eval, f130, f132, spotV]
      · refine Facts.step_is (Value.bool true) fun a W hR hold hnew => ?_
        have f128 : a.tmps.getD 128 undef = Value.bool true := hnew 85 128 (by kernel_rfl)
        have f133 : a.tmps.getD 133 undef = Value.bool true := hnew 90 133 (by kernel_rfl)
        refine ⟨Facts.wanted_free rfl, ?_, fun _ => rfl⟩
        simp [go_sem, Act.eval, f128, f133]
      · refine Facts.step_is (Value.bool true) fun a W hR hold hnew => ?_
        have f134 : a.tmps.getD 134 undef = Value.bool true := hnew 91 134 (by kernel_rfl)
        refine ⟨Facts.wanted_free rfl, ?_, fun _ => rfl⟩
        simp [go_sem, Act.eval, f134]
    · intro a w3 hR' hsize hdef hnew hold
      have f4 : a.tmps.getD 4 undef = Value.bool true := hnew 92 4 (by kernel_rfl)
      obtain ⟨tm, df⟩ := a
      simp only [] at hdef hsize f4
      have hlit : tm = #[tm.getD 0 undef, tm.getD 1 undef, tm.getD 2 undef, tm.getD 3 undef, tm.getD 4 undef, tm.getD 5 undef, tm.getD 6 undef, tm.getD 7 undef, tm.getD 8 undef, tm.getD 9 undef, tm.getD 10 undef, tm.getD 11 undef, tm.getD 12 undef, tm.getD 13 undef, tm.getD 14 undef, tm.getD 15 undef, tm.getD 16 undef, tm.getD 17 undef, tm.getD 18 undef, tm.getD 19 undef, tm.getD 20 undef, tm.getD 21 undef, tm.getD 22 undef, tm.getD 23 undef, tm.getD 24 undef, tm.getD 25 undef, tm.getD 26 undef, tm.getD 27 undef, tm.getD 28 undef, tm.getD 29 undef, tm.getD 30 undef, tm.getD 31 undef, tm.getD 32 undef, tm.getD 33 undef, tm.getD 34 undef, tm.getD 35 undef, tm.getD 36 undef, tm.getD 37 undef, tm.getD 38 undef, tm.getD 39 undef, tm.getD 40 undef, tm.getD 41 undef, tm.getD 42 undef, tm.getD 43 undef, tm.getD 44 undef, tm.getD 45 undef, tm.getD 46 undef, tm.getD 47 undef, tm.getD 48 undef, tm.getD 49 undef, tm.getD 50 undef, tm.getD 51 undef, tm.getD 52 undef, tm.getD 53 undef, tm.getD 54 undef, tm.getD 55 undef, tm.getD 56 undef, tm.getD 57 undef, tm.getD 58 undef, tm.getD 59 undef, tm.getD 60 undef, tm.getD 61 undef, tm.getD 62 undef, tm.getD 63 undef, tm.getD 64 undef, tm.getD 65 undef, tm.getD 66 undef, tm.getD 67 undef, tm.getD 68 undef, tm.getD 69 undef, tm.getD 70 undef, tm.getD 71 undef, tm.getD 72 undef, tm.getD 73 undef, tm.getD 74 undef, tm.getD 75 undef, tm.getD 76 undef, tm.getD 77 undef, tm.getD 78 undef, tm.getD 79 undef, tm.getD 80 undef, tm.getD 81 undef, tm.getD 82 undef, tm.getD 83 undef, tm.getD 84 undef, tm.getD 85 undef, tm.getD 86 undef, tm.getD 87 undef, tm.getD 88 undef, tm.getD 89 undef, tm.getD 90 undef, tm.getD 91 undef, tm.getD 92 undef, tm.getD 93 undef, tm.getD 94 undef, tm.getD 95 undef, tm.getD 96 undef, tm.getD 97 undef, tm.getD 98 undef, tm.getD 99 undef, tm.getD 100 undef, tm.getD 101 undef, tm.getD 102 undef, tm.getD 103 undef, tm.getD 104 undef, tm.getD 105 undef, tm.getD 106 undef, tm.getD 107 undef, tm.getD 108 undef, tm.getD 109 undef, tm.getD 110 undef, tm.getD 111 undef, tm.getD 112 undef, tm.getD 113 undef, tm.getD 114 undef, tm.getD 115 undef, tm.getD 116 undef, tm.getD 117 undef, tm.getD 118 undef, tm.getD 119 undef, tm.getD 120 undef, tm.getD 121 undef, tm.getD 122 undef, tm.getD 123 undef, tm.getD 124 undef, tm.getD 125 undef, tm.getD 126 undef, tm.getD 127 undef, tm.getD 128 undef, tm.getD 129 undef, tm.getD 130 undef, tm.getD 131 undef, tm.getD 132 undef, tm.getD 133 undef, tm.getD 134 undef] := (Facts.array_lit tm hsize).trans rfl
      rw [f4] at hlit
      clear f4 hsize hnew hold
      generalize tm.getD 0 undef = x0 at hlit
      generalize tm.getD 1 undef = x1 at hlit
      generalize tm.getD 2 undef = x2 at hlit
      generalize tm.getD 3 undef = x3 at hlit
      generalize tm.getD 5 undef = x5 at hlit
      generalize tm.getD 6 undef = x6 at hlit
      generalize tm.getD 7 undef = x7 at hlit
      generalize tm.getD 8 undef = x8 at hlit
      generalize tm.getD 9 undef = x9 at hlit
      generalize tm.getD 10 undef = x10 at hlit
      generalize tm.getD 11 undef = x11 at hlit
      generalize tm.getD 12 undef = x12 at hlit
      generalize tm.getD 13 undef = x13 at hlit
      generalize tm.getD 14 undef = x14 at hlit
      generalize tm.getD 15 undef = x15 at hlit
      generalize tm.getD 16 undef = x16 at hlit
      generalize tm.getD 17 undef = x17 at hlit
      generalize tm.getD 18 undef = x18 at hlit
      generalize tm.getD 19 undef = x19 at hlit
      generalize tm.getD 20 undef = x20 at hlit
      generalize tm.getD 21 undef = x21 at hlit
      generalize tm.getD 22 undef = x22 at hlit
      generalize tm.getD 23 undef = x23 at hlit
      generalize tm.getD 24 undef = x24 at hlit
      generalize tm.getD 25 undef = x25 at hlit
      generalize tm.getD 26 undef = x26 at hlit
      generalize tm.getD 27 undef = x27 at hlit
      generalize tm.getD 28 undef = x28 at hlit
      generalize tm.getD 29 undef = x29 at hlit
      generalize tm.getD 30 undef = x30 at hlit
      generalize tm.getD 31 undef = x31 at hlit
      generalize tm.getD 32 undef = x32 at hlit
      generalize tm.getD 33 undef = x33 at hlit
      generalize tm.getD 34 undef = x34 at hlit
      generalize tm.getD 35 undef = x35 at hlit
      generalize tm.getD 36 undef = x36 at hlit
      generalize tm.getD 37 undef = x37 at hlit
      generalize tm.getD 38 undef = x38 at hlit
      generalize tm.getD 39 undef = x39 at hlit
      generalize tm.getD 40 undef = x40 at hlit
      generalize tm.getD 41 undef = x41 at hlit
      generalize tm.getD 42 undef = x42 at hlit
      generalize tm.getD 43 undef = x43 at hlit
      generalize tm.getD 44 undef = x44 at hlit
      generalize tm.getD 45 undef = x45 at hlit
      generalize tm.getD 46 undef = x46 at hlit
      generalize tm.getD 47 undef = x47 at hlit
      generalize tm.getD 48 undef = x48 at hlit
      generalize tm.getD 49 undef = x49 at hlit
      generalize tm.getD 50 undef = x50 at hlit
      generalize tm.getD 51 undef = x51 at hlit
      generalize tm.getD 52 undef = x52 at hlit
      generalize tm.getD 53 undef = x53 at hlit
      generalize tm.getD 54 undef = x54 at hlit
      generalize tm.getD 55 undef = x55 at hlit
      generalize tm.getD 56 undef = x56 at hlit
      generalize tm.getD 57 undef = x57 at hlit
      generalize tm.getD 58 undef = x58 at hlit
      generalize tm.getD 59 undef = x59 at hlit
      generalize tm.getD 60 undef = x60 at hlit
      generalize tm.getD 61 undef = x61 at hlit
      generalize tm.getD 62 undef = x62 at hlit
      generalize tm.getD 63 undef = x63 at hlit
      generalize tm.getD 64 undef = x64 at hlit
      generalize tm.getD 65 undef = x65 at hlit
      generalize tm.getD 66 undef = x66 at hlit
      generalize tm.getD 67 undef = x67 at hlit
      generalize tm.getD 68 undef = x68 at hlit
      generalize tm.getD 69 undef = x69 at hlit
      generalize tm.getD 70 undef = x70 at hlit
      generalize tm.getD 71 undef = x71 at hlit
      generalize tm.getD 72 undef = x72 at hlit
      generalize tm.getD 73 undef = x73 at hlit
      generalize tm.getD 74 undef = x74 at hlit
      generalize tm.getD 75 undef = x75 at hlit
      generalize tm.getD 76 undef = x76 at hlit
      generalize tm.getD 77 undef = x77 at hlit
      generalize tm.getD 78 undef = x78 at hlit
      generalize tm.getD 79 undef = x79 at hlit
      generalize tm.getD 80 undef = x80 at hlit
      generalize tm.getD 81 undef = x81 at hlit
      generalize tm.getD 82 undef = x82 at hlit
      generalize tm.getD 83 undef = x83 at hlit
      generalize tm.getD 84 undef = x84 at hlit
      generalize tm.getD 85 undef = x85 at hlit
      generalize tm.getD 86 undef = x86 at hlit
      generalize tm.getD 87 undef = x87 at hlit
      generalize tm.getD 88 undef = x88 at hlit
      generalize tm.getD 89 undef = x89 at hlit
      generalize tm.getD 90 undef = x90 at hlit
      generalize tm.getD 91 undef = x91 at hlit
      generalize tm.getD 92 undef = x92 at hlit
      generalize tm.getD 93 undef = x93 at hlit
      generalize tm.getD 94 undef = x94 at hlit
      generalize tm.getD 95 undef = x95 at hlit
      generalize tm.getD 96 undef = x96 at hlit
      generalize tm.getD 97 undef = x97 at hlit
      generalize tm.getD 98 undef = x98 at hlit
      generalize tm.getD 99 undef = x99 at hlit
      generalize tm.getD 100 undef = x100 at hlit
      generalize tm.getD 101 undef = x101 at hlit
      generalize tm.getD 102 undef = x102 at hlit
      generalize tm.getD 103 undef = x103 at hlit
      generalize tm.getD 104 undef = x104 at hlit
      generalize tm.getD 105 undef = x105 at hlit
      generalize tm.getD 106 undef = x106 at hlit
      generalize tm.getD 107 undef = x107 at hlit
      generalize tm.getD 108 undef = x108 at hlit
      generalize tm.getD 109 undef = x109 at hlit
      generalize tm.getD 110 undef = x110 at hlit
      generalize tm.getD 111 undef = x111 at hlit
      generalize tm.getD 112 undef = x112 at hlit
      generalize tm.getD 113 undef = x113 at hlit
      generalize tm.getD 114 undef = x114 at hlit
      generalize tm.getD 115 undef = x115 at hlit
      generalize tm.getD 116 undef = x116 at hlit
      generalize tm.getD 117 undef = x117 at hlit
      generalize tm.getD 118 undef = x118 at hlit
      generalize tm.getD 119 undef = x119 at hlit
      generalize tm.getD 120 undef = x120 at hlit
      generalize tm.getD 121 undef = x121 at hlit
      generalize tm.getD 122 undef = x122 at hlit
      generalize tm.getD 123 undef = x123 at hlit
      generalize tm.getD 124 undef = x124 at hlit
      generalize tm.getD 125 undef = x125 at hlit
      generalize tm.getD 126 undef = x126 at hlit
      generalize tm.getD 127 undef = x127 at hlit
      generalize tm.getD 128 undef = x128 at hlit
      generalize tm.getD 129 undef = x129 at hlit
      generalize tm.getD 130 undef = x130 at hlit
      generalize tm.getD 131 undef = x131 at hlit
      generalize tm.getD 132 undef = x132 at hlit
      generalize tm.getD 133 undef = x133 at hlit
      generalize tm.getD 134 undef = x134 at hlit
      subst hlit
      subst hdef
      try simp only []
      have b2 := HBE.out w3 hR'
      go_wp2
      go_ret
      exact ⟨rfl, b2⟩
end Go.Proofs.Ytpakjlgohbofhaa.Evt
