/- event.Same and the document's: their contracts. -/
import Derived.Test.YtocokfgkbdfodaaEvRefEnc
namespace Go.Proofs.Ytocokfgkbdfodaa.Evt
open Go Go.RowKit Go.Proofs.Ytocokfgkbdfodaa.Words Go.Proofs.Ytocokfgkbdfodaa.Enc Go.Proofs.Ytocokfgkbdfodaa.Q Go.Proofs.Ytocokfgkbdfodaa.Made
set_option linter.unusedVariables false

theorem str_beq (l m : List UInt8) : (l == m) = decide (l = m) := by
  rw [Bool.eq_iff_iff]; simp
/-- bytes.Equal. -/
theorem equal_any (A : Option Addr) (n c : Nat) (l : List UInt8) (B : Option Addr) (m k : Nat) (q : List UInt8) (w : World) (h1 : Sees w A n l) (h2 : Sees w B m q) :
    Calls Try.prog 38 #[.slice A n c, .slice B m k] w fun e' w' => e' = .returned (.bool (decide (l = q))) ∧ w' = w := by
  have r1 := h1.string (P := Try.prog) c (t := 23) (s := 9) (e := 5) Try.underlying23 Try.underlying5 Try.underlying9
  have r2 := h2.string (P := Try.prog) k (t := 23) (s := 9) (e := 5) Try.underlying23 Try.underlying5 Try.underlying9
  go_enter Try.func38, Try.ntmps38
  go_wp2
  go_ret
  exact ⟨by show Ending.returned (.bool _) = _; rw [← str_beq], rfl⟩

set_option maxRecDepth 100000 in
set_option maxHeartbeats 1000000 in
theorem same_any (e1 e2 : Ev) (A1 A2 : Option Addr) (n1 c1 n2 c2 : Nat) (w : World) (hs1 : Sees w A1 n1 e1.text) (hs2 : Sees w A2 n2 e2.text) (hq1 : e1.num < 18446744073709551616) (hq2 : e2.num < 18446744073709551616) (hr1 : Right e1) (hr2 : Right e2) :
    Calls Try.prog 16 #[e1.val A1 n1 c1, e2.val A2 n2 c2] w fun e' w' => e' = .returned (.bool (decide (evL e1 = evL e2))) ∧ Below w.heap.size w w' := by
  have str_eq := str_beq (evL e1) (evL e2)
  show Calls _ _ #[.agg (e1.row A1 n1 c1), .agg (e2.row A2 n2 c2)] _ _
  unfold Ev.row
  go_enter Try.func16, Try.ntmps16
  go_wp2_with fail
  generalize hW1 : (w.alloc (.cells #[.int .i64 e1.writer, .int .u64 (e1.seq : Int), .int .u64 (e1.time : Int), .int .u8 (e1.kind : Int), .string e1.key, .slice A1 n1 c1, .float .f64 e1.num, .int .i64 e1.node] 26)).alloc (.cells #[.int .i64 e2.writer, .int .u64 (e2.seq : Int), .int .u64 (e2.time : Int), .int .u8 (e2.kind : Int), .string e2.key, .slice A2 n2 c2, .float .f64 e2.num, .int .i64 e2.node] 26) = W1
  have hb0 : Below w.heap.size w W1.drew := by rw [← hW1]; exact (((Below.refl _ _).alloc (Nat.le_refl _) _).alloc (by simp) _).drew
  have HC : Hid (∀ W, Below W1.drew.heap.size W1.drew W → W.heap[w.heap.size]? = some (.cells (e1.row A1 n1 c1) 26 (0, 0)) ∧ W.heap[w.heap.size + 1]? = some (.cells (e2.row A2 n2 c2) 26 (0, 0))) := Lib.hid (by
    intro W hW
    have h1 : W1.heap[w.heap.size]? = some (.cells (e1.row A1 n1 c1) 26 (0, 0)) := by
      rw [← hW1, Below.heap_alloc _ _ _ (by simp)]; exact heap_alloc_new w _
    have h2 : W1.heap[w.heap.size + 1]? = some (.cells (e2.row A2 n2 c2) 26 (0, 0)) := by
      rw [← hW1]
      have := heap_alloc_new (w.alloc (.cells (e1.row A1 n1 c1) 26)) (.cells (e2.row A2 n2 c2) 26)
      unfold Ev.row at this ⊢
      simpa using this
    have hz : w.heap.size + 1 < W1.heap.size := (Array.getElem?_eq_some_iff.1 h2).1
    exact ⟨(hW.block w.heap.size (by show _ < W1.heap.size; omega)).trans h1, (hW.block (w.heap.size + 1) (by show _ < W1.heap.size; omega)).trans h2⟩)
  have HS1 : Hid (∀ W, Below W1.drew.heap.size W1.drew W → Sees W A1 n1 e1.text) := Lib.hid fun W hW => (hs1.below hb0).below hW
  have HS2 : Hid (∀ W, Below W1.drew.heap.size W1.drew W → Sees W A2 n2 e2.text) := Lib.hid fun W hW => (hs2.below hb0).below hW
  clear hW1
  refine Facts.wp_region_preds (n := 10) (by kernel_rfl) (by kernel_rfl) rfl [Facts.Pred.is (e1.val A1 n1 c1), Facts.Pred.shows (evL e1).length (evL e1), Facts.Pred.is (e2.val A2 n2 c2), Facts.Pred.shows (evL e2).length (evL e2), Facts.Pred.is (Value.bool (decide (evL e1 = evL e2))), Facts.Pred.is (Value.bool (decide (evL e1 = evL e2)))] ?_ ?_
  · refine ⟨?_, ?_, ?_, ?_, ?_, ?_, trivial⟩
    · refine Facts.step_is (e1.val A1 n1 c1) fun a W hR hold hnew => ?_
      have f2 : a.tmps.getD 2 undef = Value.pointer (some ⟨w.heap.size, 0, none⟩) := hold 2 (by kernel_rfl)
      obtain ⟨q1, q2⟩ := HC.out W hR
      obtain ⟨k0, k1, k2, k3, k4, k5, k6, k7⟩ := box8 q1
      refine ⟨Facts.wanted_free rfl, ?_, fun _ => rfl⟩
      simp [go_sem, Act.eval, f2, k0, k1, k2, k3, k4, k5, k6, k7, Ev.val]
    · -- 1: Op.call { value (Operand.func 12), args := #[t5], argTypes :
      refine Facts.step_call fun a W hR hold hnew => ?_
      have f5 : a.tmps.getD 5 undef = e1.val A1 n1 c1 := hnew 0 5 (by kernel_rfl)
      refine ⟨Facts.wanted_free rfl, 12, #[e1.val A1 n1 c1], by simp [go_sem, Act.eval, f5], ?_⟩
      refine (encode_any e1 _ _ _ W (HS1.out W hR) hq1 hr1).mono ?_
      rintro e' w7 ⟨A7, c7, rfl, hown7, hb7⟩
      exact ⟨_, rfl, hb7, A7, c7, rfl, Sees.of_own hown7⟩
    · refine Facts.step_is (e2.val A2 n2 c2) fun a W hR hold hnew => ?_
      have f3 : a.tmps.getD 3 undef = Value.pointer (some ⟨w.heap.size + 1, 0, none⟩) := hold 3 (by kernel_rfl)
      obtain ⟨q1, q2⟩ := HC.out W hR
      obtain ⟨k0, k1, k2, k3, k4, k5, k6, k7⟩ := box8 q2
      refine ⟨Facts.wanted_free rfl, ?_, fun _ => rfl⟩
      simp [go_sem, Act.eval, f3, k0, k1, k2, k3, k4, k5, k6, k7, Ev.val]
    · -- 3: Op.call { value (Operand.func 12), args := #[t7], argTypes :
      refine Facts.step_call fun a W hR hold hnew => ?_
      have f7 : a.tmps.getD 7 undef = e2.val A2 n2 c2 := hnew 2 7 (by kernel_rfl)
      refine ⟨Facts.wanted_free rfl, 12, #[e2.val A2 n2 c2], by simp [go_sem, Act.eval, f7], ?_⟩
      refine (encode_any e2 _ _ _ W (HS2.out W hR) hq2 hr2).mono ?_
      rintro e' w7 ⟨A7, c7, rfl, hown7, hb7⟩
      exact ⟨_, rfl, hb7, A7, c7, rfl, Sees.of_own hown7⟩
    · -- 4: Op.call { value (Operand.func 38), args := #[t6, t8], argTyp
      refine Facts.step_call fun a W hR hold hnew => ?_
      have h6 : ∃ A' c', a.tmps.getD 6 undef = .slice A' (evL e1).length c' ∧ Sees W A' (evL e1).length (evL e1) := hnew 1 6 (by kernel_rfl)
      have h8 : ∃ A' c', a.tmps.getD 8 undef = .slice A' (evL e2).length c' ∧ Sees W A' (evL e2).length (evL e2) := hnew 3 8 (by kernel_rfl)
      obtain ⟨A7, c7, f6, hs7⟩ := h6
      obtain ⟨A8, c8, f8, hs8⟩ := h8
      refine ⟨Facts.wanted_free rfl, 38, #[.slice A7 (evL e1).length c7, .slice A8 (evL e2).length c8], by simp [go_sem, Act.eval, f6, f8], ?_⟩
      refine (equal_any _ _ _ _ _ _ _ _ W hs7 hs8).mono ?_
      rintro e' w7 ⟨rfl, rfl⟩
      exact ⟨_, rfl, Below.refl _ _, rfl⟩
    · refine Facts.step_is (Value.bool (decide (evL e1 = evL e2))) fun a W hR hold hnew => ?_
      have f9 : a.tmps.getD 9 undef = Value.bool (decide (evL e1 = evL e2)) := hnew 4 9 (by kernel_rfl)
      refine ⟨Facts.wanted_free rfl, ?_, fun _ => rfl⟩
      simp [go_sem, Act.eval, f9]
  · intro a w3 hR' hsize hdef hnew hold
    have f4 : a.tmps.getD 4 undef = Value.bool (decide (evL e1 = evL e2)) := hnew 5 4 (by kernel_rfl)
    obtain ⟨tm, df⟩ := a
    simp only [] at hdef hsize f4
    have hlit : tm = #[tm.getD 0 undef, tm.getD 1 undef, tm.getD 2 undef, tm.getD 3 undef, tm.getD 4 undef, tm.getD 5 undef, tm.getD 6 undef, tm.getD 7 undef, tm.getD 8 undef, tm.getD 9 undef] := (Facts.array_lit tm hsize).trans rfl
    rw [f4] at hlit
    clear f4 hsize hnew hold
    generalize tm.getD 0 undef = x0 at hlit
    generalize tm.getD 1 undef = x1 at hlit
    generalize tm.getD 2 undef = x2 at hlit
    generalize tm.getD 3 undef = x3 at hlit
    generalize tm.getD 5 undef = x5 at hlit
    generalize tm.getD 6 undef = x6 at hlit
    generalize tm.getD 7 undef = x7 at hlit
    generalize tm.getD 8 undef = x8 at hlit
    generalize tm.getD 9 undef = x9 at hlit
    subst hlit
    subst hdef
    try simp only []
    have b1 := hb0.trans (hR'.mono hb0.size)
    clear hR' hb0 HC HS1 HS2
    go_wp2
    go_ret
    exact ⟨rfl, b1⟩

set_option maxRecDepth 100000 in
set_option maxHeartbeats 1000000 in
theorem refSame_any (e1 e2 : Ev) (A1 A2 : Option Addr) (n1 c1 n2 c2 : Nat) (w : World) (hs1 : Sees w A1 n1 e1.text) (hs2 : Sees w A2 n2 e2.text) (hq1 : e1.num < 18446744073709551616) (hq2 : e2.num < 18446744073709551616) (hr1 : Right e1) (hr2 : Right e2) :
    Calls Try.prog 17 #[e1.val A1 n1 c1, e2.val A2 n2 c2] w fun e' w' => e' = .returned (.bool (decide (evL e1 = evL e2))) ∧ Below w.heap.size w w' := by
  have str_eq := str_beq (evL e1) (evL e2)
  show Calls _ _ #[.agg (e1.row A1 n1 c1), .agg (e2.row A2 n2 c2)] _ _
  unfold Ev.row
  go_enter Try.func17, Try.ntmps17
  go_wp2_with fail
  generalize hW1 : (w.alloc (.cells #[.int .i64 e1.writer, .int .u64 (e1.seq : Int), .int .u64 (e1.time : Int), .int .u8 (e1.kind : Int), .string e1.key, .slice A1 n1 c1, .float .f64 e1.num, .int .i64 e1.node] 26)).alloc (.cells #[.int .i64 e2.writer, .int .u64 (e2.seq : Int), .int .u64 (e2.time : Int), .int .u8 (e2.kind : Int), .string e2.key, .slice A2 n2 c2, .float .f64 e2.num, .int .i64 e2.node] 26) = W1
  have hb0 : Below w.heap.size w W1.drew := by rw [← hW1]; exact (((Below.refl _ _).alloc (Nat.le_refl _) _).alloc (by simp) _).drew
  have HC : Hid (∀ W, Below W1.drew.heap.size W1.drew W → W.heap[w.heap.size]? = some (.cells (e1.row A1 n1 c1) 26 (0, 0)) ∧ W.heap[w.heap.size + 1]? = some (.cells (e2.row A2 n2 c2) 26 (0, 0))) := Lib.hid (by
    intro W hW
    have h1 : W1.heap[w.heap.size]? = some (.cells (e1.row A1 n1 c1) 26 (0, 0)) := by
      rw [← hW1, Below.heap_alloc _ _ _ (by simp)]; exact heap_alloc_new w _
    have h2 : W1.heap[w.heap.size + 1]? = some (.cells (e2.row A2 n2 c2) 26 (0, 0)) := by
      rw [← hW1]
      have := heap_alloc_new (w.alloc (.cells (e1.row A1 n1 c1) 26)) (.cells (e2.row A2 n2 c2) 26)
      unfold Ev.row at this ⊢
      simpa using this
    have hz : w.heap.size + 1 < W1.heap.size := (Array.getElem?_eq_some_iff.1 h2).1
    exact ⟨(hW.block w.heap.size (by show _ < W1.heap.size; omega)).trans h1, (hW.block (w.heap.size + 1) (by show _ < W1.heap.size; omega)).trans h2⟩)
  have HS1 : Hid (∀ W, Below W1.drew.heap.size W1.drew W → Sees W A1 n1 e1.text) := Lib.hid fun W hW => (hs1.below hb0).below hW
  have HS2 : Hid (∀ W, Below W1.drew.heap.size W1.drew W → Sees W A2 n2 e2.text) := Lib.hid fun W hW => (hs2.below hb0).below hW
  clear hW1
  refine Facts.wp_region_preds (n := 12) (by kernel_rfl) (by kernel_rfl) rfl [Facts.Pred.is (e1.val A1 n1 c1), Facts.Pred.shows (evL e1).length (evL e1), Facts.Pred.is (Value.string ⟨(evL e1).toArray⟩), Facts.Pred.is (e2.val A2 n2 c2), Facts.Pred.shows (evL e2).length (evL e2), Facts.Pred.is (Value.string ⟨(evL e2).toArray⟩), Facts.Pred.is (Value.bool (decide (evL e1 = evL e2))), Facts.Pred.is (Value.bool (decide (evL e1 = evL e2)))] ?_ ?_
  · refine ⟨?_, ?_, ?_, ?_, ?_, ?_, ?_, ?_, trivial⟩
    · refine Facts.step_is (e1.val A1 n1 c1) fun a W hR hold hnew => ?_
      have f2 : a.tmps.getD 2 undef = Value.pointer (some ⟨w.heap.size, 0, none⟩) := hold 2 (by kernel_rfl)
      obtain ⟨q1, q2⟩ := HC.out W hR
      obtain ⟨k0, k1, k2, k3, k4, k5, k6, k7⟩ := box8 q1
      refine ⟨Facts.wanted_free rfl, ?_, fun _ => rfl⟩
      simp [go_sem, Act.eval, f2, k0, k1, k2, k3, k4, k5, k6, k7, Ev.val]
    · -- 1: Op.call { value (Operand.func 15), args := #[t5], argTypes :
      refine Facts.step_call fun a W hR hold hnew => ?_
      have f5 : a.tmps.getD 5 undef = e1.val A1 n1 c1 := hnew 0 5 (by kernel_rfl)
      refine ⟨Facts.wanted_free rfl, 15, #[e1.val A1 n1 c1], by simp [go_sem, Act.eval, f5], ?_⟩
      refine (refEncode_any e1 _ _ _ W (HS1.out W hR) hq1 hr1).mono ?_
      rintro e' w7 ⟨A7, c7, rfl, hown7, hb7⟩
      exact ⟨_, rfl, hb7, A7, c7, rfl, Sees.of_own hown7⟩
    · -- 2: Op.convert 23 9 t6
      refine Facts.step_is (Value.string ⟨(evL e1).toArray⟩) fun a W hR hold hnew => ?_
      have h6 : ∃ A' c', a.tmps.getD 6 undef = .slice A' (evL e1).length c' ∧ Sees W A' (evL e1).length (evL e1) := hnew 1 6 (by kernel_rfl)
      obtain ⟨A7, c7, f6, hs7⟩ := h6
      have r := hs7.string (P := Try.prog) c7 (t := 23) (s := 9) (e := 5) Try.underlying23 Try.underlying5 Try.underlying9
      refine ⟨Facts.wanted_free rfl, ?_, fun _ => rfl⟩
      simp [go_sem, Act.eval, f6, r]
    · refine Facts.step_is (e2.val A2 n2 c2) fun a W hR hold hnew => ?_
      have f3 : a.tmps.getD 3 undef = Value.pointer (some ⟨w.heap.size + 1, 0, none⟩) := hold 3 (by kernel_rfl)
      obtain ⟨q1, q2⟩ := HC.out W hR
      obtain ⟨k0, k1, k2, k3, k4, k5, k6, k7⟩ := box8 q2
      refine ⟨Facts.wanted_free rfl, ?_, fun _ => rfl⟩
      simp [go_sem, Act.eval, f3, k0, k1, k2, k3, k4, k5, k6, k7, Ev.val]
    · -- 4: Op.call { value (Operand.func 15), args := #[t8], argTypes :
      refine Facts.step_call fun a W hR hold hnew => ?_
      have f8 : a.tmps.getD 8 undef = e2.val A2 n2 c2 := hnew 3 8 (by kernel_rfl)
      refine ⟨Facts.wanted_free rfl, 15, #[e2.val A2 n2 c2], by simp [go_sem, Act.eval, f8], ?_⟩
      refine (refEncode_any e2 _ _ _ W (HS2.out W hR) hq2 hr2).mono ?_
      rintro e' w7 ⟨A7, c7, rfl, hown7, hb7⟩
      exact ⟨_, rfl, hb7, A7, c7, rfl, Sees.of_own hown7⟩
    · -- 5: Op.convert 23 9 t9
      refine Facts.step_is (Value.string ⟨(evL e2).toArray⟩) fun a W hR hold hnew => ?_
      have h6 : ∃ A' c', a.tmps.getD 9 undef = .slice A' (evL e2).length c' ∧ Sees W A' (evL e2).length (evL e2) := hnew 4 9 (by kernel_rfl)
      obtain ⟨A7, c7, f6, hs7⟩ := h6
      have r := hs7.string (P := Try.prog) c7 (t := 23) (s := 9) (e := 5) Try.underlying23 Try.underlying5 Try.underlying9
      refine ⟨Facts.wanted_free rfl, ?_, fun _ => rfl⟩
      simp [go_sem, Act.eval, f6, r]
    · refine Facts.step_is (Value.bool (decide (evL e1 = evL e2))) fun a W hR hold hnew => ?_
      have f7 : a.tmps.getD 7 undef = Value.string ⟨(evL e1).toArray⟩ := hnew 2 7 (by kernel_rfl)
      have f10 : a.tmps.getD 10 undef = Value.string ⟨(evL e2).toArray⟩ := hnew 5 10 (by kernel_rfl)
      refine ⟨Facts.wanted_free rfl, ?_, fun _ => rfl⟩
      simp [go_sem, Act.eval, f7, f10, str_eq]
    · refine Facts.step_is (Value.bool (decide (evL e1 = evL e2))) fun a W hR hold hnew => ?_
      have f11 : a.tmps.getD 11 undef = Value.bool (decide (evL e1 = evL e2)) := hnew 6 11 (by kernel_rfl)
      refine ⟨Facts.wanted_free rfl, ?_, fun _ => rfl⟩
      simp [go_sem, Act.eval, f11]
  · intro a w3 hR' hsize hdef hnew hold
    have f4 : a.tmps.getD 4 undef = Value.bool (decide (evL e1 = evL e2)) := hnew 7 4 (by kernel_rfl)
    obtain ⟨tm, df⟩ := a
    simp only [] at hdef hsize f4
    have hlit : tm = #[tm.getD 0 undef, tm.getD 1 undef, tm.getD 2 undef, tm.getD 3 undef, tm.getD 4 undef, tm.getD 5 undef, tm.getD 6 undef, tm.getD 7 undef, tm.getD 8 undef, tm.getD 9 undef, tm.getD 10 undef, tm.getD 11 undef] := (Facts.array_lit tm hsize).trans rfl
    rw [f4] at hlit
    clear f4 hsize hnew hold
    generalize tm.getD 0 undef = x0 at hlit
    generalize tm.getD 1 undef = x1 at hlit
    generalize tm.getD 2 undef = x2 at hlit
    generalize tm.getD 3 undef = x3 at hlit
    generalize tm.getD 5 undef = x5 at hlit
    generalize tm.getD 6 undef = x6 at hlit
    generalize tm.getD 7 undef = x7 at hlit
    generalize tm.getD 8 undef = x8 at hlit
    generalize tm.getD 9 undef = x9 at hlit
    generalize tm.getD 10 undef = x10 at hlit
    generalize tm.getD 11 undef = x11 at hlit
    subst hlit
    subst hdef
    try simp only []
    have b1 := hb0.trans (hR'.mono hb0.size)
    clear hR' hb0 HC HS1 HS2
    go_wp2
    go_ret
    exact ⟨rfl, b1⟩

end Go.Proofs.Ytocokfgkbdfodaa.Evt
