/- The document's Encode: its contract. -/
import Derived.Test.YtocokfgkbdfodaaEvEnc
import Derived.Test.YtocokfgkbdfodaaRefLay
import Derived.Test.YtocokfgkbdfodaaRefFixed
import Derived.Test.YtocokfgkbdfodaaTakeText
import Derived.Test.YtocokfgkbdfodaaFacts
import Derived.Test.YtocokfgkbdfodaaActs
namespace Go.Proofs.Ytocokfgkbdfodaa.Evt
open Go Go.RowKit Go.Proofs.Ytocokfgkbdfodaa.Words Go.Proofs.Ytocokfgkbdfodaa.Enc Go.Proofs.Ytocokfgkbdfodaa.Q Go.Proofs.Ytocokfgkbdfodaa.Made
set_option linter.unusedVariables false

set_option maxRecDepth 100000 in
set_option maxHeartbeats 2000000 in
theorem refEncode_any (e : Ev) (A : Option Addr) (n c : Nat) (w : World) (hs : Sees w A n e.text) (hq : e.num < 18446744073709551616) (hr : Right e) :
    Calls Try.prog 15 #[e.val A n c] w (New w.heap.size (evL e).length (evL e) w) := by
  obtain ⟨wr, sq, tm, kd, key, text, num, node⟩ := e
  unfold Ev.val
  simp only at hs hq ⊢
  obtain ⟨hw1, hw2, hs1, hs2, ht1, ht2, hk1, hk2, hnode, hkey, htext⟩ := hr
  simp only at hw1 hw2 hs1 hs2 ht1 ht2 hk1 hk2 hnode hkey htext
  obtain ⟨i, hi, hz, hsz, hby⟩ := info_parts info8
  obtain ⟨wn, rfl⟩ := Int.eq_ofNat_of_zero_le hw1
  obtain ⟨r, hr⟩ : ∃ r, r = evL ⟨wn, sq, tm, kd, key, text, num, node⟩ := ⟨_, rfl⟩
  rw [← hr]
  have HR := Lib.hid hr
  clear hr
  have HNODE := Lib.hid hnode
  have HKEY := Lib.hid hkey
  have HTEXT := Lib.hid htext
  clear hnode hkey htext
  have hwu : IntKind.u64.wrap (wn : Int) = (wn : Int) := wrap_in wn (by omega)
  have le1 := enc_ten (n := wn) (by omega)
  have le2 := enc_ten (n := sq) (by omega)
  have le3 := enc_ten (n := tm) (by omega)
  have hbx : ∀ W, Below (w.heap.size + 1) (w.alloc (.cells #[.int .i64 (wn : Int), .int .u64 (sq : Int), .int .u64 (tm : Int), .int .u8 (kd : Int), .string key, .slice A n c, .float .f64 num, .int .i64 node] 26)) W →
      W.heap[w.heap.size]? = some (.cells #[.int .i64 (wn : Int), .int .u64 (sq : Int), .int .u64 (tm : Int), .int .u8 (kd : Int), .string key, .slice A n c, .float .f64 num, .int .i64 node] 26 (0, 0)) ∧ Sees W A n text ∧ Below w.heap.size w W ∧ w.heap.size < W.heap.size := by
    intro W hW
    have h := boxed _ w hW
    exact ⟨h.2.1, hs.below h.1, h.1, h.2.2⟩
  have HBX := Lib.hid hbx
  clear hbx hs
  go_enter Try.func15, Try.ntmps15
  go_wp2_with fail
  generalize hW0 : w.alloc (.cells #[.int .i64 (wn : Int), .int .u64 (sq : Int), .int .u64 (tm : Int), .int .u8 (kd : Int), .string key, .slice A n c, .float .f64 num, .int .i64 node] 26) = W0 at HBX ⊢
  have hz0 : w.heap.size + 1 ≤ W0.heap.size := by rw [← hW0]; simp
  clear hW0
  have hZ : Hid (w.heap.size + 1 ≤ W0.drew.heap.size) := Lib.hid (by show w.heap.size + 1 ≤ W0.heap.size; omega)
  have HC : Hid (∀ W, Below W0.drew.heap.size W0.drew W → W.cell? ⟨w.heap.size, 0, none⟩ = some (.int .i64 (wn : Int)) ∧ W.cell? ⟨w.heap.size, 1, none⟩ = some (.int .u64 (sq : Int)) ∧ W.cell? ⟨w.heap.size, 2, none⟩ = some (.int .u64 (tm : Int))) := Lib.hid (by
    intro W hW
    obtain ⟨h0, -, -, -⟩ := HBX.out W (((Below.refl _ _).drew).trans (hW.mono (by show _ ≤ W0.heap.size; omega)))
    obtain ⟨p0, p1, p2, -⟩ := box8 h0
    exact ⟨p0, p1, p2⟩)
  refine Facts.wp_region_preds (n := 56) (by kernel_rfl) (by kernel_rfl) rfl [Facts.Pred.is (Value.pointer (some ⟨w.heap.size, 0, none⟩)), Facts.Pred.is (Value.int .i64 (wn : Int)), Facts.Pred.is (Value.int .u64 (wn : Int)), Take.ownPred (w.heap.size + 1) ((enc wn).length) (enc wn), Facts.Pred.is (Value.pointer (some ⟨w.heap.size, 1, none⟩)), Facts.Pred.is (Value.int .u64 (sq : Int)), Take.ownPred (w.heap.size + 1) ((enc wn).length + (enc sq).length) (enc wn ++ enc sq), Facts.Pred.is (Value.pointer (some ⟨w.heap.size, 2, none⟩)), Facts.Pred.is (Value.int .u64 (tm : Int)), Take.ownPred (w.heap.size + 1) ((enc wn).length + (enc sq).length + (enc tm).length) (enc wn ++ enc sq ++ enc tm), Take.ownPred (w.heap.size + 1) ((enc wn).length + (enc sq).length + (enc tm).length) (enc wn ++ enc sq ++ enc tm)] ?_ ?_
  · refine ⟨?_, ?_, ?_, ?_, ?_, ?_, ?_, ?_, ?_, ?_, ?_, trivial⟩
    · refine Facts.step_is (Value.pointer (some ⟨w.heap.size, 0, none⟩)) fun a W hR hold hnew => ?_
      have f1 : a.tmps.getD 1 undef = Value.pointer (some ⟨w.heap.size, 0, none⟩) := hold 1 (by kernel_rfl)
      refine ⟨Facts.wanted_free rfl, ?_, fun _ => rfl⟩
      simp [go_sem, Act.eval, f1]
    · refine Facts.step_is (Value.int .i64 (wn : Int)) fun a W hR hold hnew => ?_
      have f4 : a.tmps.getD 4 undef = Value.pointer (some ⟨w.heap.size, 0, none⟩) := hnew 0 4 (by kernel_rfl)
      obtain ⟨q0, q1, q2⟩ := HC.out W hR
      refine ⟨Facts.wanted_free rfl, ?_, fun _ => rfl⟩
      simp [go_sem, Act.eval, f4, q0]
    · refine Facts.step_is (Value.int .u64 (wn : Int)) fun a W hR hold hnew => ?_
      have f5 : a.tmps.getD 5 undef = Value.int .i64 (wn : Int) := hnew 1 5 (by kernel_rfl)
      refine ⟨Facts.wanted_free rfl, ?_, fun _ => rfl⟩
      simp [go_sem, Act.eval, f5, hwu]
    · -- 3: Op.call { value (Operand.func 34), args := #[const (Value.sl
      refine Facts.step_call fun a W hR hold hnew => ?_
      have f6 : a.tmps.getD 6 undef = Value.int .u64 (wn : Int) := hnew 2 6 (by kernel_rfl)
      have hWz := Nat.le_trans hZ.out hR.size
      refine ⟨Facts.wanted_free rfl, 34, #[Value.slice none 0 0, Value.int .u64 (wn : Int)], by simp [go_sem, Act.eval, f6], ?_⟩
      refine (refLay_any none 0 0 [] _ W (Sees.nil _ _) (by omega) (by omega) (by omega)).mono ?_
      rintro e w8 ⟨A8, c8, rfl, hown8, hb8⟩
      rw [Int.toNat_natCast] at hown8 ⊢
      rw [List.nil_append, Nat.zero_add] at hown8
      exact ⟨_, rfl, hb8, A8, c8, by rw [Nat.zero_add], Own.lower hown8 hWz⟩
    · refine Facts.step_is (Value.pointer (some ⟨w.heap.size, 1, none⟩)) fun a W hR hold hnew => ?_
      have f1 : a.tmps.getD 1 undef = Value.pointer (some ⟨w.heap.size, 0, none⟩) := hold 1 (by kernel_rfl)
      refine ⟨Facts.wanted_free rfl, ?_, fun _ => rfl⟩
      simp [go_sem, Act.eval, f1]
    · refine Facts.step_is (Value.int .u64 (sq : Int)) fun a W hR hold hnew => ?_
      have f8 : a.tmps.getD 8 undef = Value.pointer (some ⟨w.heap.size, 1, none⟩) := hnew 4 8 (by kernel_rfl)
      obtain ⟨q0, q1, q2⟩ := HC.out W hR
      refine ⟨Facts.wanted_free rfl, ?_, fun _ => rfl⟩
      simp [go_sem, Act.eval, f8, q1]
    · -- 6: Op.call { value (Operand.func 34), args := #[t7, t9], argTyp
      refine Facts.step_call fun a W hR hold hnew => ?_
      have h7 : ∃ A' c', a.tmps.getD 7 undef = .slice A' (enc wn).length c' ∧ W.ownsRow (w.heap.size + 1) 5 1 (.slice A' (enc wn).length c') (enc wn).length (cs (enc wn)) := hnew 3 7 (by kernel_rfl)
      obtain ⟨A7, c7, f7, hs7⟩ := h7
      have f9 : a.tmps.getD 9 undef = Value.int .u64 (sq : Int) := hnew 5 9 (by kernel_rfl)
      have hWz := Nat.le_trans hZ.out hR.size
      refine ⟨Facts.wanted_free rfl, 34, #[Value.slice A7 ((enc wn).length) c7, Value.int .u64 (sq : Int)], by simp [go_sem, Act.eval, f7, f9], ?_⟩
      refine (refLay_any A7 _ c7 _ _ W (Sees.of_own hs7) (by omega) (by omega) (by omega)).mono ?_
      rintro e w8 ⟨A8, c8, rfl, hown8, hb8⟩
      rw [Int.toNat_natCast] at hown8 ⊢
      exact ⟨_, rfl, hb8, A8, c8, rfl, Own.lower hown8 hWz⟩
    · refine Facts.step_is (Value.pointer (some ⟨w.heap.size, 2, none⟩)) fun a W hR hold hnew => ?_
      have f1 : a.tmps.getD 1 undef = Value.pointer (some ⟨w.heap.size, 0, none⟩) := hold 1 (by kernel_rfl)
      refine ⟨Facts.wanted_free rfl, ?_, fun _ => rfl⟩
      simp [go_sem, Act.eval, f1]
    · refine Facts.step_is (Value.int .u64 (tm : Int)) fun a W hR hold hnew => ?_
      have f11 : a.tmps.getD 11 undef = Value.pointer (some ⟨w.heap.size, 2, none⟩) := hnew 7 11 (by kernel_rfl)
      obtain ⟨q0, q1, q2⟩ := HC.out W hR
      refine ⟨Facts.wanted_free rfl, ?_, fun _ => rfl⟩
      simp [go_sem, Act.eval, f11, q2]
    · -- 9: Op.call { value (Operand.func 34), args := #[t10, t12], argT
      refine Facts.step_call fun a W hR hold hnew => ?_
      have h10 : ∃ A' c', a.tmps.getD 10 undef = .slice A' ((enc wn).length + (enc sq).length) c' ∧ W.ownsRow (w.heap.size + 1) 5 1 (.slice A' ((enc wn).length + (enc sq).length) c') ((enc wn).length + (enc sq).length) (cs (enc wn ++ enc sq)) := hnew 6 10 (by kernel_rfl)
      obtain ⟨A7, c7, f10, hs7⟩ := h10
      have f12 : a.tmps.getD 12 undef = Value.int .u64 (tm : Int) := hnew 8 12 (by kernel_rfl)
      have hWz := Nat.le_trans hZ.out hR.size
      refine ⟨Facts.wanted_free rfl, 34, #[Value.slice A7 ((enc wn).length + (enc sq).length) c7, Value.int .u64 (tm : Int)], by simp [go_sem, Act.eval, f10, f12], ?_⟩
      refine (refLay_any A7 _ c7 _ _ W (Sees.of_own hs7) (by omega) (by omega) (by omega)).mono ?_
      rintro e w8 ⟨A8, c8, rfl, hown8, hb8⟩
      rw [Int.toNat_natCast] at hown8 ⊢
      exact ⟨_, rfl, hb8, A8, c8, rfl, Own.lower hown8 hWz⟩
    · -- 10: Op.assign t13
      refine Facts.step_some fun a W hR hold hnew => ?_
      have h13 : ∃ A' c', a.tmps.getD 13 undef = .slice A' ((enc wn).length + (enc sq).length + (enc tm).length) c' ∧ W.ownsRow (w.heap.size + 1) 5 1 (.slice A' ((enc wn).length + (enc sq).length + (enc tm).length) c') ((enc wn).length + (enc sq).length + (enc tm).length) (cs (enc wn ++ enc sq ++ enc tm)) := hnew 9 13 (by kernel_rfl)
      obtain ⟨A7, c7, f13, hs7⟩ := h13
      exact ⟨Facts.wanted_free rfl, .slice A7 ((enc wn).length + (enc sq).length + (enc tm).length) c7, by simp [go_sem, Act.eval, f13], A7, c7, rfl, hs7⟩
  · intro a w3 hR' hsize hdef hnew hold
    have h3 : ∃ A' c', a.tmps.getD 3 undef = .slice A' ((enc wn).length + (enc sq).length + (enc tm).length) c' ∧ w3.ownsRow (w.heap.size + 1) 5 1 (.slice A' ((enc wn).length + (enc sq).length + (enc tm).length) c') ((enc wn).length + (enc sq).length + (enc tm).length) (cs (enc wn ++ enc sq ++ enc tm)) := hnew 10 3 (by kernel_rfl)
    obtain ⟨A3, c3, h3, hown3⟩ := h3
    have f3 : a.tmps.getD 3 undef = Value.slice A3 ((enc wn).length + (enc sq).length + (enc tm).length) c3 := h3
    have f1 : a.tmps.getD 1 undef = Value.pointer (some ⟨w.heap.size, 0, none⟩) := hold 1 (Facts.not_dst (by kernel_rfl))
    obtain ⟨tm, df⟩ := a
    simp only [] at hdef hsize f3 f1
    have hlit : tm = #[tm.getD 0 undef, tm.getD 1 undef, tm.getD 2 undef, tm.getD 3 undef, tm.getD 4 undef, tm.getD 5 undef, tm.getD 6 undef, tm.getD 7 undef, tm.getD 8 undef, tm.getD 9 undef, tm.getD 10 undef, tm.getD 11 undef, tm.getD 12 undef, tm.getD 13 undef, tm.getD 14 undef, tm.getD 15 undef, tm.getD 16 undef, tm.getD 17 undef, tm.getD 18 undef, tm.getD 19 undef, tm.getD 20 undef, tm.getD 21 undef, tm.getD 22 undef, tm.getD 23 undef, tm.getD 24 undef, tm.getD 25 undef, tm.getD 26 undef, tm.getD 27 undef, tm.getD 28 undef, tm.getD 29 undef, tm.getD 30 undef, tm.getD 31 undef, tm.getD 32 undef, tm.getD 33 undef, tm.getD 34 undef, tm.getD 35 undef, tm.getD 36 undef, tm.getD 37 undef, tm.getD 38 undef, tm.getD 39 undef, tm.getD 40 undef, tm.getD 41 undef, tm.getD 42 undef, tm.getD 43 undef, tm.getD 44 undef, tm.getD 45 undef, tm.getD 46 undef, tm.getD 47 undef, tm.getD 48 undef, tm.getD 49 undef, tm.getD 50 undef, tm.getD 51 undef, tm.getD 52 undef, tm.getD 53 undef, tm.getD 54 undef, tm.getD 55 undef] := (Facts.array_lit tm hsize).trans rfl
    rw [f3, f1] at hlit
    clear f3 f1 hsize hnew hold
    generalize tm.getD 0 undef = x0 at hlit
    generalize tm.getD 2 undef = x2 at hlit
    generalize tm.getD 4 undef = x4 at hlit
    generalize tm.getD 5 undef = x5 at hlit
    generalize tm.getD 6 undef = x6 at hlit
    generalize tm.getD 7 undef = x7 at hlit
    generalize tm.getD 8 undef = x8 at hlit
    generalize tm.getD 9 undef = x9 at hlit
    generalize tm.getD 10 undef = x10 at hlit
    generalize tm.getD 11 undef = x11 at hlit
    generalize tm.getD 12 undef = x12 at hlit
    generalize tm.getD 13 undef = x13 at hlit
    generalize tm.getD 14 undef = x14 at hlit
    generalize tm.getD 15 undef = x15 at hlit
    generalize tm.getD 16 undef = x16 at hlit
    generalize tm.getD 17 undef = x17 at hlit
    generalize tm.getD 18 undef = x18 at hlit
    generalize tm.getD 19 undef = x19 at hlit
    generalize tm.getD 20 undef = x20 at hlit
    generalize tm.getD 21 undef = x21 at hlit
    generalize tm.getD 22 undef = x22 at hlit
    generalize tm.getD 23 undef = x23 at hlit
    generalize tm.getD 24 undef = x24 at hlit
    generalize tm.getD 25 undef = x25 at hlit
    generalize tm.getD 26 undef = x26 at hlit
    generalize tm.getD 27 undef = x27 at hlit
    generalize tm.getD 28 undef = x28 at hlit
    generalize tm.getD 29 undef = x29 at hlit
    generalize tm.getD 30 undef = x30 at hlit
    generalize tm.getD 31 undef = x31 at hlit
    generalize tm.getD 32 undef = x32 at hlit
    generalize tm.getD 33 undef = x33 at hlit
    generalize tm.getD 34 undef = x34 at hlit
    generalize tm.getD 35 undef = x35 at hlit
    generalize tm.getD 36 undef = x36 at hlit
    generalize tm.getD 37 undef = x37 at hlit
    generalize tm.getD 38 undef = x38 at hlit
    generalize tm.getD 39 undef = x39 at hlit
    generalize tm.getD 40 undef = x40 at hlit
    generalize tm.getD 41 undef = x41 at hlit
    generalize tm.getD 42 undef = x42 at hlit
    generalize tm.getD 43 undef = x43 at hlit
    generalize tm.getD 44 undef = x44 at hlit
    generalize tm.getD 45 undef = x45 at hlit
    generalize tm.getD 46 undef = x46 at hlit
    generalize tm.getD 47 undef = x47 at hlit
    generalize tm.getD 48 undef = x48 at hlit
    generalize tm.getD 49 undef = x49 at hlit
    generalize tm.getD 50 undef = x50 at hlit
    generalize tm.getD 51 undef = x51 at hlit
    generalize tm.getD 52 undef = x52 at hlit
    generalize tm.getD 53 undef = x53 at hlit
    generalize tm.getD 54 undef = x54 at hlit
    generalize tm.getD 55 undef = x55 at hlit
    subst hlit
    subst hdef
    try simp only []
    have b3 : Below (w.heap.size + 1) W0 w3 := ((Below.refl _ _).drew).trans (hR'.mono (by show _ ≤ W0.heap.size; omega))
    obtain ⟨h0, -, -, hsz3⟩ := HBX.out w3 b3
    obtain ⟨p0, p1, p2, p3, p4, p5, p6, p7⟩ := box8 h0
    clear h0 hR' HC
    have hle : (enc wn).length + (enc sq).length + (enc tm).length ≤ 30 := by omega
    clear le1 le2 le3
    obtain ⟨L, hL⟩ : ∃ L, L = enc wn ++ enc sq ++ enc tm := ⟨_, rfl⟩
    rw [← hL] at hown3
    have hlen : (enc wn).length + (enc sq).length + (enc tm).length = L.length := by rw [hL]; simp only [List.length_append]
    rw [hlen] at hown3 hle ⊢
    have HL := Lib.hid hL
    clear hL hlen
    -- what was read of the three numbers lies above the box
    have hown3' : w3.ownsRow (w.heap.size + 1) 5 1 (.slice A3 L.length c3) L.length (cs L) := hown3
    go_wp2_with (first | (at_builtin; refine wpList_app rfl _ _ 23 rfl (w.heap.size + 1) 5 i (.int .u8 0) Try.underlying23 hi hz hsz hby rfl A3 L.length c3 _ rfl (hown3'.alloc _) _ 1 1 [b8 kd] rfl (Sees.fresh w3 _ _ _ ?e1) ?e2 ?e3 ?_))
    case e1 => rw [b8_toNat]; omega
    case e2 => omega
    case e3 => first | omega | (simp; omega)
    intro A4 c4 w4 hown4 hb4
    have b4 : Below (w.heap.size + 1) W0 w4 := (b3.alloc (by omega) _).trans hb4
    obtain ⟨h0, -, -, hsz4⟩ := HBX.out w4 b4
    clear p0 p1 p2 p3 p4 p5 p6 p7 b3 hown3' hown3 hb4
    obtain ⟨p0, p1, p2, p3, p4, p5, p6, p7⟩ := box8 h0
    clear h0
    have hz4 : w.heap.size + 1 ≤ w4.heap.size := hsz4
    obtain ⟨L5, hL5⟩ : ∃ L5, L5 = L ++ [b8 kd] := ⟨_, rfl⟩
    rw [← hL5] at hown4
    have hlen5 : L.length + 1 = L5.length := by rw [hL5]; simp
    rw [hlen5] at hown4 ⊢
    have hle5 : L5.length ≤ 31 := by omega
    have HL5 := Lib.hid hL5
    clear hL5 hlen5 hle
    have OWN4 := Lib.hid (Own.lower (base' := w.heap.size) hown4 (by omega))
    clear hown4
    have HCV := Lib.hid (fun W => run_bytes_of_string (P := Try.prog) W 9 23 5 key Try.underlying9 Try.underlying23 Try.underlying5)
    have fin : ∀ (W : World) (B : Option Addr) (N k : Nat) (l : List UInt8), W.ownsRow w.heap.size 5 1 (.slice B N k) N (cs l) → Below w.heap.size w W → l = r → New w.heap.size r.length r w (.returned (.slice B N k)) W := by
      intro W B N k l h1 h2 h3
      subst h3
      have hN : N = l.length := by have := h1.1; rw [cs_length] at this; omega
      subst hN
      exact ⟨B, k, rfl, h1, h2⟩
    have FIN := Lib.hid fin
    clear fin
    rcases (show kd = 1 ∨ (kd = 2 ∨ kd = 3) ∨ kd = 4 ∨ kd = 5 ∨ kd = 6 by omega) with hk | hk | hk | hk | hk
    · have HK := Lib.hid hk
      have t4 : decide ((kd : Int) ≤ 4) = true := by simp; omega
      have t1 : ((kd : Int) == 1) = true := by simp; omega
      have t2 : ((kd : Int) == 2) = false := by rw [beq_eq_false_iff_ne]; omega
      have t3 : ((kd : Int) == 3) = false := by rw [beq_eq_false_iff_ne]; omega
      have t5 : ((kd : Int) == 5) = false := by rw [beq_eq_false_iff_ne]; omega
      clear hk hk1 hk2
      have hcv := HCV.out
      go_wp2_with fail
      clear hcv
      have hk6 := HKEY.out (by rw [HK.out]; omega)
      have cs := conv_sees w4 5 key (grownCap w4 key.size 0 5)
      have hp6 := (Sees.of_own OWN4.out).below cs.2
      refine (refText_any A4 _ c4 L5 _ key.size (grownCap w4 key.size 0 5) key.data.toList _ hp6 cs.1 (by omega) (by omega)).mono ?_
      rintro e w6 ⟨A6, c6, rfl, hown6, hb6⟩
      have b6 := b4.trans ((cs.2.mono hz4).trans (hb6.mono (by have := cs.2.size; omega)))
      have h6 := HBX.out w6 b6
      clear p0 p1 p2 p3 p4 p5 p6 p7
      obtain ⟨p0, p1, p2, p3, p4, p5, p6, p7⟩ := box8 h6.1
      have hown := Own.lower (base' := w.heap.size) hown6 (by have := cs.2.size; omega)
      have hlek := enc_ten (n := key.size) (by omega)
      have hsz6 : w.heap.size + 1 ≤ w6.heap.size := by have := h6.2.2.2; omega
      have H6 := Lib.hid h6
      clear h6 hp6 cs hown6 hb6
      have ht6 := HTEXT.out HK.out
      have htn := H6.out.2.1.1
      go_wp2_with fail
      refine (refText_any A6 _ c6 _ A n c text w6 (Sees.of_own hown) H6.out.2.1 (by omega) (by omega)).mono ?_
      rintro e w7 ⟨A7, c7, rfl, hown7, hb7⟩
      have b7 := b6.trans (hb7.mono hsz6)
      have h7 := HBX.out w7 b7
      clear p0 p1 p2 p3 p4 p5 p6 p7
      obtain ⟨p0, p1, p2, p3, p4, p5, p6, p7⟩ := box8 h7.1
      have OWN := Lib.hid (Own.lower (base' := w.heap.size) hown7 (by omega))
      have BEL := Lib.hid h7.2.2.1
      have HTN := Lib.hid htn
      clear hown7 hb7 h7 htn
      go_wp2
      go_ret
      exact FIN.out _ _ _ _ _ OWN.out BEL.out (by rw [HR.out, HL5.out, HL.out, evL_set HK.out, HTN.out, Int.toNat_natCast])
    · have HK' := Lib.hid hk
      have HK := Lib.hid (show kd ≤ 4 by omega)
      have t4 : decide ((kd : Int) ≤ 4) = true := by simp; omega
      have t1 : ((kd : Int) == 1) = false := by rw [beq_eq_false_iff_ne]; omega
      have t2 : (((kd : Int) == 2) = true) ∨ (((kd : Int) == 2) = false ∧ ((kd : Int) == 3) = true) := by
        rcases hk with rfl | rfl
        · left; rfl
        · right; exact ⟨rfl, rfl⟩
      have t5 : ((kd : Int) == 5) = false := by rw [beq_eq_false_iff_ne]; omega
      clear hk hk1 hk2
      have hql := qb_lt num hq
      have T2 := Lib.hid t2
      clear t2
      have hcv := HCV.out
      go_wp2_with fail
      clear hcv
      have hk6 := HKEY.out (HK.out)
      have cs := conv_sees w4 5 key (grownCap w4 key.size 0 5)
      have hp6 := (Sees.of_own OWN4.out).below cs.2
      refine (refText_any A4 _ c4 L5 _ key.size (grownCap w4 key.size 0 5) key.data.toList _ hp6 cs.1 (by omega) (by omega)).mono ?_
      rintro e w6 ⟨A6, c6, rfl, hown6, hb6⟩
      have b6 := b4.trans ((cs.2.mono hz4).trans (hb6.mono (by have := cs.2.size; omega)))
      have h6 := HBX.out w6 b6
      clear p0 p1 p2 p3 p4 p5 p6 p7
      obtain ⟨p0, p1, p2, p3, p4, p5, p6, p7⟩ := box8 h6.1
      have hown := Own.lower (base' := w.heap.size) hown6 (by have := cs.2.size; omega)
      have hlek := enc_ten (n := key.size) (by omega)
      have hsz6 : w.heap.size + 1 ≤ w6.heap.size := by have := h6.2.2.2; omega
      have H6 := Lib.hid h6
      clear h6 hp6 cs hown6 hb6
      rcases T2.out with t2 | ⟨t2, t3⟩
      all_goals
        go_wp2_with fail
        refine (refBits_any _ _).mono ?_
        rintro e w6 ⟨rfl, rfl⟩
        go_wp2_with fail
        refine (refFixed_any A6 _ c6 _ _ w6 (Sees.of_own hown) (by omega) (by omega) (by omega)).mono ?_
        rintro e w7 ⟨A7, c7, rfl, hown7, hb7⟩
        rw [Int.toNat_natCast] at hown7
        have b7 := b6.trans (hb7.mono hsz6)
        have h7 := HBX.out w7 b7
        clear p0 p1 p2 p3 p4 p5 p6 p7
        obtain ⟨p0, p1, p2, p3, p4, p5, p6, p7⟩ := box8 h7.1
        have OWN := Lib.hid (Own.lower (base' := w.heap.size) hown7 (by omega))
        have BEL := Lib.hid h7.2.2.1
        clear hown7 hb7 h7
        go_wp2
        go_ret
        exact FIN.out _ _ _ _ _ OWN.out BEL.out (by rw [HR.out, HL5.out, HL.out, evL_num HK'.out, Int.toNat_natCast])
    · have HK := Lib.hid hk
      have t4 : decide ((kd : Int) ≤ 4) = true := by simp; omega
      have t1 : ((kd : Int) == 1) = false := by rw [beq_eq_false_iff_ne]; omega
      have t2 : ((kd : Int) == 2) = false := by rw [beq_eq_false_iff_ne]; omega
      have t3 : ((kd : Int) == 3) = false := by rw [beq_eq_false_iff_ne]; omega
      have t5 : ((kd : Int) == 5) = false := by rw [beq_eq_false_iff_ne]; omega
      clear hk hk1 hk2
      have hcv := HCV.out
      go_wp2_with fail
      clear hcv
      have hk6 := HKEY.out (by rw [HK.out]; omega)
      have cs := conv_sees w4 5 key (grownCap w4 key.size 0 5)
      have hp6 := (Sees.of_own OWN4.out).below cs.2
      refine (refText_any A4 _ c4 L5 _ key.size (grownCap w4 key.size 0 5) key.data.toList _ hp6 cs.1 (by omega) (by omega)).mono ?_
      rintro e w6 ⟨A6, c6, rfl, hown6, hb6⟩
      have b6 := b4.trans ((cs.2.mono hz4).trans (hb6.mono (by have := cs.2.size; omega)))
      have h6 := HBX.out w6 b6
      clear p0 p1 p2 p3 p4 p5 p6 p7
      obtain ⟨p0, p1, p2, p3, p4, p5, p6, p7⟩ := box8 h6.1
      have hown := Own.lower (base' := w.heap.size) hown6 (by have := cs.2.size; omega)
      have hlek := enc_ten (n := key.size) (by omega)
      have hsz6 : w.heap.size + 1 ≤ w6.heap.size := by have := h6.2.2.2; omega
      have H6 := Lib.hid h6
      clear h6 hp6 cs hown6 hb6
      have OWN := Lib.hid hown
      clear hown
      go_wp2
      go_ret
      exact FIN.out _ _ _ _ _ OWN.out H6.out.2.2.1 (by rw [HR.out, HL5.out, HL.out, evL_drop HK.out, Int.toNat_natCast])
    · have HK := Lib.hid hk
      have t4 : decide ((kd : Int) ≤ 4) = false := by simp; omega
      have t1 : ((kd : Int) == 1) = false := by rw [beq_eq_false_iff_ne]; omega
      have t2 : ((kd : Int) == 2) = false := by rw [beq_eq_false_iff_ne]; omega
      have t3 : ((kd : Int) == 3) = false := by rw [beq_eq_false_iff_ne]; omega
      have t5 : ((kd : Int) == 5) = true := by simp; omega
      clear hk hk1 hk2
      obtain ⟨hn1, hn2⟩ := HNODE.out HK.out
      obtain ⟨nn, rfl⟩ := Int.eq_ofNat_of_zero_le hn1
      have hnu : IntKind.u64.wrap (nn : Int) = (nn : Int) := wrap_in nn (by omega)
      go_wp2_with fail
      refine (refLay_any A4 _ c4 L5 _ _ (Sees.of_own OWN4.out) (by omega) (by omega) (by omega)).mono ?_
      rintro e w6 ⟨A6, c6, rfl, hown6, hb6⟩
      rw [Int.toNat_natCast] at hown6 ⊢
      have h6 := HBX.out w6 (b4.trans (hb6.mono hz4))
      have OWN := Lib.hid (Own.lower (base' := w.heap.size) hown6 (by omega))
      have BEL := Lib.hid h6.2.2.1
      clear hown6 hb6 h6
      go_wp2
      go_ret
      exact FIN.out _ _ _ _ _ OWN.out BEL.out (by rw [HR.out, HL5.out, HL.out, evL_join HK.out, Int.toNat_natCast, Int.toNat_natCast])
    · have HK := Lib.hid hk
      have t4 : decide ((kd : Int) ≤ 4) = false := by simp; omega
      have t1 : ((kd : Int) == 1) = false := by rw [beq_eq_false_iff_ne]; omega
      have t2 : ((kd : Int) == 2) = false := by rw [beq_eq_false_iff_ne]; omega
      have t3 : ((kd : Int) == 3) = false := by rw [beq_eq_false_iff_ne]; omega
      have t5 : ((kd : Int) == 5) = false := by rw [beq_eq_false_iff_ne]; omega
      clear hk hk1 hk2
      have BEL := Lib.hid (HBX.out w4 b4).2.2.1
      go_wp2
      go_ret
      exact FIN.out _ _ _ _ _ OWN4.out BEL.out (by rw [HR.out, HL5.out, HL.out, evL_retire HK.out, Int.toNat_natCast])
end Go.Proofs.Ytocokfgkbdfodaa.Evt
