/- The law CheckWraps, walked out of what is asked of package check. -/
import Derived.Test.YtpfnokplgfkgjaaDoorCheckSaid
namespace Go.Proofs.YtpfnokplgfkgjaaDoor.Chk
open Go Go.RowKit Go.Proofs.YtpfnokplgfkgjaaDoor.Words Go.Proofs.YtpfnokplgfkgjaaDoor.Enc Go.Proofs.YtpfnokplgfkgjaaDoor.Made
set_option linter.unusedVariables false

theorem wraps_long (hsum : SumSaid) (A : Option Addr) (n c : Nat) (B : Option Addr) (m d : Nat) (w : World) (T : Tabs w) (hm : n ≤ maxLen) (hm2 : m ≤ maxLen) (hlen : 400 < n ∨ 200 < m) :
    Calls Tryd.prog 3 #[.slice A n c, .slice B m d] w fun e w' => e = .returned (.bool true) ∧ Below w.heap.size w w' := by
  unfold maxLen at hm hm2
  rcases (show 400 < n ∨ (n ≤ 400 ∧ 200 < m) by omega) with h1 | ⟨h1, h2⟩
  · have hlen' : (400 : Int) < (n : Int) := by omega
    go_enter Tryd.func3, Tryd.ntmps3
    go_wp2_with fail
    refine (awake_any hsum _ T).mono ?_
    rintro e w1 ⟨rfl, hb1⟩
    go_wp2_with fail
    refine (awake_any hsum _ (T.below hb1)).mono ?_
    rintro e w2 ⟨rfl, hb2⟩
    go_wp2
    go_ret
    exact ⟨rfl, hb1.trans (hb2.mono hb1.size)⟩
  · have hlen0 : decide ((400 : Int) < (n : Int)) = false := by simp; omega
    have hlen' : (200 : Int) < (m : Int) := by omega
    go_enter Tryd.func3, Tryd.ntmps3
    go_wp2_with fail
    refine (awake_any hsum _ T).mono ?_
    rintro e w1 ⟨rfl, hb1⟩
    go_wp2_with fail
    refine (awake_any hsum _ (T.below hb1)).mono ?_
    rintro e w2 ⟨rfl, hb2⟩
    go_wp2
    go_ret
    exact ⟨rfl, hb1.trans (hb2.mono hb1.size)⟩

set_option maxRecDepth 100000 in
theorem wraps_short (hsum : SumSaid) (hwrap : WrapSaid) (hsize : SizeSaid) (hopen : OpenSaid) (A : Option Addr) (n c : Nat) (l : List UInt8) (B : Option Addr) (m d : Nat) (q : List UInt8) (w : World) (T : Tabs w) (hs : Sees w A n l) (hc : n ≤ c) (hq : Sees w B m q)
    (hlen : n ≤ 400) (hlen2 : m ≤ 200) :
    Calls Tryd.prog 3 #[.slice A n c, .slice B m d] w fun e w' => e = .returned (.bool true) ∧ Below w.heap.size w w' := by
  obtain ⟨i, hi, hz, hsz, hby⟩ := info_parts info8
  have hd1 : decide ((400 : Int) < (n : Int)) = false := by simp; omega
  have hd2 : decide ((200 : Int) < (m : Int)) = false := by simp; omega
  have hl := hs.1
  have he := enc_ten (n := n) (by omega)
  go_enter Tryd.func3, Tryd.ntmps3
  go_wp2_with fail
  refine (awake_any hsum _ T).mono ?_
  rintro e w1 ⟨rfl, b1⟩
  go_wp2_with fail
  refine (hwrap A n c l w1 (T.below b1) (hs.below b1) hc (by omega)).mono ?_
  rintro e w2 ⟨PA, PC, rfl, hPC, hPC2, hs2, hb2⟩
  have b2 := b1.trans (hb2.mono b1.size)
  obtain ⟨PN, hPN⟩ : ∃ PN, PN = (enc n).length + n + 4 := ⟨_, rfl⟩
  rw [← hPN] at hs2 hPC ⊢
  have hPN2 : PN ≤ 500 := by omega
  have HPN := Lib.hid hPN
  clear hPN he
  go_wp2_with (first | (at_builtin; refine wpList_full rfl (.tmp 33) (.tmp 34) 22 rfl 5 i (.int .u8 0) Tryd.underlying22 hi hz hsz hby PA PN (wrap l) rfl hs2 B m d q rfl (hq.below b2) ?f1 ?_))
  case f1 => omega
  intro A3 c3 w3 hs3 hc3 hc4 hb3
  have b3 := b2.trans (hb3.mono b2.size)
  have o1 := open_wrap l q (n : Int) (by omega) (by omega)
  have o2 := open_long l (by omega)
  have hwl : (wrap l).length = PN := by rw [wrap_length, hl]; exact HPN.out.symm
  rw [hwl] at o1
  rw [hl] at o2
  have O1 := Lib.hid o1
  have O2 := Lib.hid o2
  clear o1 o2 hwl
  go_wp2_with fail
  refine (hopen A3 (PN + m) c3 (wrap l ++ q) (n : Int) w3 (T.below b3) hs3 hc3 hc4 (by omega) (by omega) (by omega)).mono ?_
  rintro e w4 ⟨A4, n4, c4, A5, n5, c5, rfl, hv4, hv5, hc5, _, hb4⟩
  rw [O1.out] at hv4 hv5 ⊢
  have hdq : (wrap l ++ q).drop PN = q := by rw [show PN = (wrap l).length by rw [wrap_length, hl]; exact HPN.out]; exact List.drop_left
  simp only [hdq] at hv4 hv5 ⊢
  clear hdq
  have b4 := b3.trans (hb4.mono b3.size)
  have hs4 := (hs2.below hb3).below hb4
  go_wp2_with fail
  refine (hopen PA PN PC (wrap l) ((n : Int) - 1) w4 (T.below b4) hs4 hPC hPC2 (by omega) (by omega) (by omega)).mono ?_
  rintro e w5 ⟨A6, n6, c6, A7, n7, c7, rfl, _, _, _, _, hb5⟩
  rw [O2.out]
  simp only []
  have b5 := b4.trans (hb5.mono b4.size)
  have hs5 := hs4.below hb5
  have hv45 := hv4.below hb5
  have hv55 := hv5.below hb5
  obtain ⟨s1, hs1⟩ : ∃ s : ByteArray, s = ⟨(wrap l).toArray⟩ := ⟨_, rfl⟩
  obtain ⟨s2, hs2'⟩ : ∃ s : ByteArray, s = ⟨l.toArray⟩ := ⟨_, rfl⟩
  obtain ⟨s3, hs3'⟩ : ∃ s : ByteArray, s = ⟨q.toArray⟩ := ⟨_, rfl⟩
  have STR1 := Lib.hid (fun (W : World) (B : Option Addr) (m k' : Nat) (h : Sees W B m (wrap l)) => show (convert 22 9 (.slice B m k')).run Tryd.prog W = .ok (.string s1) W by rw [hs1]; exact h.string k' Tryd.underlying22 Tryd.underlying5 Tryd.underlying9)
  have STR2 := Lib.hid (fun (W : World) (B : Option Addr) (m k' : Nat) (h : Sees W B m l) => show (convert 22 9 (.slice B m k')).run Tryd.prog W = .ok (.string s2) W by rw [hs2']; exact h.string k' Tryd.underlying22 Tryd.underlying5 Tryd.underlying9)
  have STR3 := Lib.hid (fun (W : World) (B : Option Addr) (m k' : Nat) (h : Sees W B m q) => show (convert 22 9 (.slice B m k')).run Tryd.prog W = .ok (.string s3) W by rw [hs3']; exact h.string k' Tryd.underlying22 Tryd.underlying5 Tryd.underlying9)
  clear hs1 hs2' hs3' hs3 hs4 hs2 hd1 hd2 hz hi hsz hby hv4 hv5
  go_wp2_with fail
  refine Facts.wp_region_preds (n := 92) (by kernel_rfl) (by kernel_rfl) rfl [Facts.Pred.is (Value.slice PA PN PC), Facts.Pred.is (Value.string s1), Facts.Pred.is (Value.slice A n c), Facts.Pred.shows ((enc n).length + n + 4) (wrap l), Facts.Pred.is (.string s1), Facts.Pred.is (Value.bool true), Facts.Pred.is (Value.bool true), Facts.Pred.is (Value.int .i64 (0)), Facts.Pred.is (Value.bool true), Facts.Pred.is (Value.bool true), Facts.Pred.is (Value.bool true), Facts.Pred.is (Value.slice A4 n4 c4), Facts.Pred.is (Value.string s2), Facts.Pred.is (Value.slice A n c), Facts.Pred.is (Value.string s2), Facts.Pred.is (Value.bool true), Facts.Pred.is (Value.bool true), Facts.Pred.is (Value.bool true), Facts.Pred.is (Value.slice A5 n5 c5), Facts.Pred.is (Value.string s3), Facts.Pred.is (Value.slice B m d), Facts.Pred.is (Value.string s3), Facts.Pred.is (Value.bool true), Facts.Pred.is (Value.bool true), Facts.Pred.is (Value.bool true), Facts.Pred.is (Value.slice A n c), Facts.Pred.is (Value.int .i64 ((n : Int))), Facts.Pred.is (.int .i64 (PN : Int)), Facts.Pred.is (Value.slice PA PN PC), Facts.Pred.is (Value.int .i64 ((PN : Int))), Facts.Pred.is (Value.bool true), Facts.Pred.is (Value.bool true), Facts.Pred.is (Value.bool true), Facts.Pred.is (Value.int .i64 (6)), Facts.Pred.is (Value.bool true), Facts.Pred.is (Value.bool true), Facts.Pred.is (Value.bool true), Facts.Pred.is (.int .i64 5), Facts.Pred.is (.int .i64 5), Facts.Pred.is (Value.bool true), Facts.Pred.is (Value.bool true), Facts.Pred.is (Value.bool true)] ?_ ?_
  · refine ⟨?_, ?_, ?_, ?_, ?_, ?_, ?_, ?_, ?_, ?_, ?_, ?_, ?_, ?_, ?_, ?_, ?_, ?_, ?_, ?_, ?_, ?_, ?_, ?_, ?_, ?_, ?_, ?_, ?_, ?_, ?_, ?_, ?_, ?_, ?_, ?_, ?_, ?_, ?_, ?_, ?_, ?_, trivial⟩
    · refine Facts.step_is (Value.slice PA PN PC) fun a W hR hold hnew => ?_
      have f5 : a.tmps.getD 5 undef = Value.slice PA PN PC := hold 5 (by kernel_rfl)
      refine ⟨Facts.wanted_free rfl, ?_, fun _ => rfl⟩
      simp [go_sem, Act.eval, f5]
    · refine Facts.step_is (Value.string s1) fun a W hR hold hnew => ?_
      have f51 : a.tmps.getD 51 undef = Value.slice PA PN PC := hnew 0 51 (by kernel_rfl)
      have r := STR1.out W PA PN PC (hs5.drew.below hR)
      refine ⟨Facts.wanted_free rfl, ?_, fun _ => rfl⟩
      simp [go_sem, Act.eval, f51, r]
    · refine Facts.step_is (Value.slice A n c) fun a W hR hold hnew => ?_
      have f0 : a.tmps.getD 0 undef = Value.slice A n c := hold 0 (by kernel_rfl)
      refine ⟨Facts.wanted_free rfl, ?_, fun _ => rfl⟩
      simp [go_sem, Act.eval, f0]
    · -- 3: Op.call { value (Operand.func 13), args := #[t53], argTypes 
      refine Facts.step_call fun a W hR hold hnew => ?_
      have f53 : a.tmps.getD 53 undef = Value.slice A n c := hnew 2 53 (by kernel_rfl)
      refine ⟨Facts.wanted_free rfl, 10, #[Value.slice A n c], by simp [go_sem, Act.eval, f53], ?_⟩
      refine (refWrap_any A n c l W (hs.below (b5.drew.trans (hR.mono b5.drew.size))) (by omega)).mono ?_
      intro e w7 hnw
      obtain ⟨A7, c7, rfl, _, _, hs7, hb7⟩ := gives_of_new hnw
      exact ⟨_, rfl, hb7, A7, c7, rfl, hs7⟩
    · -- 4: Op.convert 22 9 t54
      refine Facts.step_is (.string s1) fun a W hR hold hnew => ?_
      have h54 : ∃ A' c', a.tmps.getD 54 undef = .slice A' ((enc n).length + n + 4) c' ∧ Sees W A' ((enc n).length + n + 4) (wrap l) := hnew 3 54 (by kernel_rfl)
      obtain ⟨A7, c7, f54, hs7⟩ := h54
      have r := STR1.out W A7 _ c7 hs7
      refine ⟨Facts.wanted_free rfl, ?_, fun _ => rfl⟩
      simp [go_sem, Act.eval, f54, r]
    · refine Facts.step_is (Value.bool true) fun a W hR hold hnew => ?_
      have f52 : a.tmps.getD 52 undef = Value.string s1 := hnew 1 52 (by kernel_rfl)
      have f55 : a.tmps.getD 55 undef = Value.string s1 := hnew 4 55 (by kernel_rfl)
      refine ⟨Facts.wanted_free rfl, ?_, fun _ => rfl⟩
      simp [go_sem, Act.eval, f52, f55]
    · refine Facts.step_is (Value.bool true) fun a W hR hold hnew => ?_
      have f56 : a.tmps.getD 56 undef = Value.bool true := hnew 5 56 (by kernel_rfl)
      refine ⟨Facts.wanted_free rfl, ?_, fun _ => rfl⟩
      simp [go_sem, Act.eval, f56]
    · refine Facts.step_is (Value.int .i64 (0)) fun a W hR hold hnew => ?_
      have f8 : a.tmps.getD 8 undef = Value.int .i64 (0) := hold 8 (by kernel_rfl)
      have g57 : a.tmps.getD 57 undef = .bool true := hnew 6 57 (by kernel_rfl)
      refine ⟨Facts.wanted_by rfl (by kernel_rfl) g57, ?_, fun _ => rfl⟩
      simp [go_sem, Act.eval, f8]
    · refine Facts.step_is (Value.bool true) fun a W hR hold hnew => ?_
      have f58 : a.tmps.getD 58 undef = Value.int .i64 (0) := hnew 7 58 (by kernel_rfl)
      have g57 : a.tmps.getD 57 undef = .bool true := hnew 6 57 (by kernel_rfl)
      refine ⟨Facts.wanted_by rfl (by kernel_rfl) g57, ?_, fun _ => rfl⟩
      simp [go_sem, Act.eval, f58]
    · refine Facts.step_is (Value.bool true) fun a W hR hold hnew => ?_
      have f57 : a.tmps.getD 57 undef = Value.bool true := hnew 6 57 (by kernel_rfl)
      have f59 : a.tmps.getD 59 undef = Value.bool true := hnew 8 59 (by kernel_rfl)
      refine ⟨Facts.wanted_free rfl, ?_, fun _ => rfl⟩
      simp [go_sem, Act.eval, f57, f59]
    · refine Facts.step_is (Value.bool true) fun a W hR hold hnew => ?_
      have f60 : a.tmps.getD 60 undef = Value.bool true := hnew 9 60 (by kernel_rfl)
      refine ⟨Facts.wanted_free rfl, ?_, fun _ => rfl⟩
      simp [go_sem, Act.eval, f60]
    · refine Facts.step_is (Value.slice A4 n4 c4) fun a W hR hold hnew => ?_
      have f6 : a.tmps.getD 6 undef = Value.slice A4 n4 c4 := hold 6 (by kernel_rfl)
      have g61 : a.tmps.getD 61 undef = .bool true := hnew 10 61 (by kernel_rfl)
      refine ⟨Facts.wanted_by rfl (by kernel_rfl) g61, ?_, fun _ => rfl⟩
      simp [go_sem, Act.eval, f6]
    · refine Facts.step_is (Value.string s2) fun a W hR hold hnew => ?_
      have f62 : a.tmps.getD 62 undef = Value.slice A4 n4 c4 := hnew 11 62 (by kernel_rfl)
      have g61 : a.tmps.getD 61 undef = .bool true := hnew 10 61 (by kernel_rfl)
      have r := STR2.out W A4 n4 c4 (hv45.drew.below hR)
      refine ⟨Facts.wanted_by rfl (by kernel_rfl) g61, ?_, fun _ => rfl⟩
      simp [go_sem, Act.eval, f62, r]
    · refine Facts.step_is (Value.slice A n c) fun a W hR hold hnew => ?_
      have f0 : a.tmps.getD 0 undef = Value.slice A n c := hold 0 (by kernel_rfl)
      have g61 : a.tmps.getD 61 undef = .bool true := hnew 10 61 (by kernel_rfl)
      refine ⟨Facts.wanted_by rfl (by kernel_rfl) g61, ?_, fun _ => rfl⟩
      simp [go_sem, Act.eval, f0]
    · refine Facts.step_is (Value.string s2) fun a W hR hold hnew => ?_
      have f64 : a.tmps.getD 64 undef = Value.slice A n c := hnew 13 64 (by kernel_rfl)
      have g61 : a.tmps.getD 61 undef = .bool true := hnew 10 61 (by kernel_rfl)
      have r := STR2.out W A n c (hs.below (b5.drew.trans (hR.mono b5.drew.size)))
      refine ⟨Facts.wanted_by rfl (by kernel_rfl) g61, ?_, fun _ => rfl⟩
      simp [go_sem, Act.eval, f64, r]
    · refine Facts.step_is (Value.bool true) fun a W hR hold hnew => ?_
      have f63 : a.tmps.getD 63 undef = Value.string s2 := hnew 12 63 (by kernel_rfl)
      have f65 : a.tmps.getD 65 undef = Value.string s2 := hnew 14 65 (by kernel_rfl)
      have g61 : a.tmps.getD 61 undef = .bool true := hnew 10 61 (by kernel_rfl)
      refine ⟨Facts.wanted_by rfl (by kernel_rfl) g61, ?_, fun _ => rfl⟩
      simp [go_sem, Act.eval, f63, f65]
    · refine Facts.step_is (Value.bool true) fun a W hR hold hnew => ?_
      have f61 : a.tmps.getD 61 undef = Value.bool true := hnew 10 61 (by kernel_rfl)
      have f66 : a.tmps.getD 66 undef = Value.bool true := hnew 15 66 (by kernel_rfl)
      refine ⟨Facts.wanted_free rfl, ?_, fun _ => rfl⟩
      simp [go_sem, Act.eval, f61, f66]
    · refine Facts.step_is (Value.bool true) fun a W hR hold hnew => ?_
      have f67 : a.tmps.getD 67 undef = Value.bool true := hnew 16 67 (by kernel_rfl)
      refine ⟨Facts.wanted_free rfl, ?_, fun _ => rfl⟩
      simp [go_sem, Act.eval, f67]
    · refine Facts.step_is (Value.slice A5 n5 c5) fun a W hR hold hnew => ?_
      have f7 : a.tmps.getD 7 undef = Value.slice A5 n5 c5 := hold 7 (by kernel_rfl)
      have g68 : a.tmps.getD 68 undef = .bool true := hnew 17 68 (by kernel_rfl)
      refine ⟨Facts.wanted_by rfl (by kernel_rfl) g68, ?_, fun _ => rfl⟩
      simp [go_sem, Act.eval, f7]
    · refine Facts.step_is (Value.string s3) fun a W hR hold hnew => ?_
      have f69 : a.tmps.getD 69 undef = Value.slice A5 n5 c5 := hnew 18 69 (by kernel_rfl)
      have g68 : a.tmps.getD 68 undef = .bool true := hnew 17 68 (by kernel_rfl)
      have r := STR3.out W A5 n5 c5 (hv55.drew.below hR)
      refine ⟨Facts.wanted_by rfl (by kernel_rfl) g68, ?_, fun _ => rfl⟩
      simp [go_sem, Act.eval, f69, r]
    · refine Facts.step_is (Value.slice B m d) fun a W hR hold hnew => ?_
      have f1 : a.tmps.getD 1 undef = Value.slice B m d := hold 1 (by kernel_rfl)
      have g68 : a.tmps.getD 68 undef = .bool true := hnew 17 68 (by kernel_rfl)
      refine ⟨Facts.wanted_by rfl (by kernel_rfl) g68, ?_, fun _ => rfl⟩
      simp [go_sem, Act.eval, f1]
    · refine Facts.step_is (Value.string s3) fun a W hR hold hnew => ?_
      have f71 : a.tmps.getD 71 undef = Value.slice B m d := hnew 20 71 (by kernel_rfl)
      have g68 : a.tmps.getD 68 undef = .bool true := hnew 17 68 (by kernel_rfl)
      have r := STR3.out W B m d (hq.below (b5.drew.trans (hR.mono b5.drew.size)))
      refine ⟨Facts.wanted_by rfl (by kernel_rfl) g68, ?_, fun _ => rfl⟩
      simp [go_sem, Act.eval, f71, r]
    · refine Facts.step_is (Value.bool true) fun a W hR hold hnew => ?_
      have f70 : a.tmps.getD 70 undef = Value.string s3 := hnew 19 70 (by kernel_rfl)
      have f72 : a.tmps.getD 72 undef = Value.string s3 := hnew 21 72 (by kernel_rfl)
      have g68 : a.tmps.getD 68 undef = .bool true := hnew 17 68 (by kernel_rfl)
      refine ⟨Facts.wanted_by rfl (by kernel_rfl) g68, ?_, fun _ => rfl⟩
      simp [go_sem, Act.eval, f70, f72]
    · refine Facts.step_is (Value.bool true) fun a W hR hold hnew => ?_
      have f68 : a.tmps.getD 68 undef = Value.bool true := hnew 17 68 (by kernel_rfl)
      have f73 : a.tmps.getD 73 undef = Value.bool true := hnew 22 73 (by kernel_rfl)
      refine ⟨Facts.wanted_free rfl, ?_, fun _ => rfl⟩
      simp [go_sem, Act.eval, f68, f73]
    · refine Facts.step_is (Value.bool true) fun a W hR hold hnew => ?_
      have f74 : a.tmps.getD 74 undef = Value.bool true := hnew 23 74 (by kernel_rfl)
      refine ⟨Facts.wanted_free rfl, ?_, fun _ => rfl⟩
      simp [go_sem, Act.eval, f74]
    · refine Facts.step_is (Value.slice A n c) fun a W hR hold hnew => ?_
      have f0 : a.tmps.getD 0 undef = Value.slice A n c := hold 0 (by kernel_rfl)
      have g75 : a.tmps.getD 75 undef = .bool true := hnew 24 75 (by kernel_rfl)
      refine ⟨Facts.wanted_by rfl (by kernel_rfl) g75, ?_, fun _ => rfl⟩
      simp [go_sem, Act.eval, f0]
    · refine Facts.step_is (Value.int .i64 ((n : Int))) fun a W hR hold hnew => ?_
      have f76 : a.tmps.getD 76 undef = Value.slice A n c := hnew 25 76 (by kernel_rfl)
      have g75 : a.tmps.getD 75 undef = .bool true := hnew 24 75 (by kernel_rfl)
      refine ⟨Facts.wanted_by rfl (by kernel_rfl) g75, ?_, fun _ => rfl⟩
      simp [go_sem, Act.eval, f76]
    · -- 27: Op.call { value (Operand.func 14), args := #[t77], argTypes 
      refine Facts.step_call fun a W hR hold hnew => ?_
      have f77 : a.tmps.getD 77 undef = Value.int .i64 ((n : Int)) := hnew 26 77 (by kernel_rfl); have g75 : a.tmps.getD 75 undef = .bool true := hnew 24 75 (by kernel_rfl)
      refine ⟨Facts.wanted_by rfl (by kernel_rfl) g75, 11, #[Value.int .i64 ((n : Int))], by simp [go_sem, Act.eval, f77], ?_⟩
      refine (hsize (n : Int) W (by omega) (by omega)).mono ?_
      rintro e w7 ⟨rfl, hb7⟩
      refine ⟨_, rfl, hb7, ?_⟩
      rw [Int.toNat_natCast, ← HPN.out]
      rfl
    · refine Facts.step_is (Value.slice PA PN PC) fun a W hR hold hnew => ?_
      have f5 : a.tmps.getD 5 undef = Value.slice PA PN PC := hold 5 (by kernel_rfl)
      have g75 : a.tmps.getD 75 undef = .bool true := hnew 24 75 (by kernel_rfl)
      refine ⟨Facts.wanted_by rfl (by kernel_rfl) g75, ?_, fun _ => rfl⟩
      simp [go_sem, Act.eval, f5]
    · refine Facts.step_is (Value.int .i64 ((PN : Int))) fun a W hR hold hnew => ?_
      have f79 : a.tmps.getD 79 undef = Value.slice PA PN PC := hnew 28 79 (by kernel_rfl)
      have g75 : a.tmps.getD 75 undef = .bool true := hnew 24 75 (by kernel_rfl)
      refine ⟨Facts.wanted_by rfl (by kernel_rfl) g75, ?_, fun _ => rfl⟩
      simp [go_sem, Act.eval, f79]
    · refine Facts.step_is (Value.bool true) fun a W hR hold hnew => ?_
      have f78 : a.tmps.getD 78 undef = Value.int .i64 ((PN : Int)) := hnew 27 78 (by kernel_rfl)
      have f80 : a.tmps.getD 80 undef = Value.int .i64 ((PN : Int)) := hnew 29 80 (by kernel_rfl)
      have g75 : a.tmps.getD 75 undef = .bool true := hnew 24 75 (by kernel_rfl)
      refine ⟨Facts.wanted_by rfl (by kernel_rfl) g75, ?_, fun _ => rfl⟩
      simp [go_sem, Act.eval, f78, f80]
    · refine Facts.step_is (Value.bool true) fun a W hR hold hnew => ?_
      have f75 : a.tmps.getD 75 undef = Value.bool true := hnew 24 75 (by kernel_rfl)
      have f81 : a.tmps.getD 81 undef = Value.bool true := hnew 30 81 (by kernel_rfl)
      refine ⟨Facts.wanted_free rfl, ?_, fun _ => rfl⟩
      simp [go_sem, Act.eval, f75, f81]
    · refine Facts.step_is (Value.bool true) fun a W hR hold hnew => ?_
      have f82 : a.tmps.getD 82 undef = Value.bool true := hnew 31 82 (by kernel_rfl)
      refine ⟨Facts.wanted_free rfl, ?_, fun _ => rfl⟩
      simp [go_sem, Act.eval, f82]
    · refine Facts.step_is (Value.int .i64 (6)) fun a W hR hold hnew => ?_
      have f11 : a.tmps.getD 11 undef = Value.int .i64 (6) := hold 11 (by kernel_rfl)
      have g83 : a.tmps.getD 83 undef = .bool true := hnew 32 83 (by kernel_rfl)
      refine ⟨Facts.wanted_by rfl (by kernel_rfl) g83, ?_, fun _ => rfl⟩
      simp [go_sem, Act.eval, f11]
    · refine Facts.step_is (Value.bool true) fun a W hR hold hnew => ?_
      have f84 : a.tmps.getD 84 undef = Value.int .i64 (6) := hnew 33 84 (by kernel_rfl)
      have g83 : a.tmps.getD 83 undef = .bool true := hnew 32 83 (by kernel_rfl)
      refine ⟨Facts.wanted_by rfl (by kernel_rfl) g83, ?_, fun _ => rfl⟩
      simp [go_sem, Act.eval, f84]
    · refine Facts.step_is (Value.bool true) fun a W hR hold hnew => ?_
      have f83 : a.tmps.getD 83 undef = Value.bool true := hnew 32 83 (by kernel_rfl)
      have f85 : a.tmps.getD 85 undef = Value.bool true := hnew 34 85 (by kernel_rfl)
      refine ⟨Facts.wanted_free rfl, ?_, fun _ => rfl⟩
      simp [go_sem, Act.eval, f83, f85]
    · refine Facts.step_is (Value.bool true) fun a W hR hold hnew => ?_
      have f86 : a.tmps.getD 86 undef = Value.bool true := hnew 35 86 (by kernel_rfl)
      refine ⟨Facts.wanted_free rfl, ?_, fun _ => rfl⟩
      simp [go_sem, Act.eval, f86]
    · -- 37: Op.call { value (Operand.func 14), args := #[const (Value.in
      refine Facts.step_call fun a W hR hold hnew => ?_
      have g87 : a.tmps.getD 87 undef = .bool true := hnew 36 87 (by kernel_rfl)
      refine ⟨Facts.wanted_by rfl (by kernel_rfl) g87, 11, #[Value.int .i64 (-5)], by simp [go_sem, Act.eval], ?_⟩
      refine (hsize (-5) W (by omega) (by omega)).mono ?_
      rintro e w7 ⟨rfl, hb7⟩
      exact ⟨_, rfl, hb7, by rw [show (enc (Int.toNat (-5))).length + Int.toNat (-5) + 4 = 5 by decide +kernel]; rfl⟩
    · -- 38: Op.call { value (Operand.func 14), args := #[const (0:i64)],
      refine Facts.step_call fun a W hR hold hnew => ?_
      have g87 : a.tmps.getD 87 undef = .bool true := hnew 36 87 (by kernel_rfl)
      refine ⟨Facts.wanted_by rfl (by kernel_rfl) g87, 11, #[Value.int .i64 (0)], by simp [go_sem, Act.eval], ?_⟩
      refine (hsize 0 W (by omega) (by omega)).mono ?_
      rintro e w7 ⟨rfl, hb7⟩
      exact ⟨_, rfl, hb7, by rw [show (enc (Int.toNat 0)).length + Int.toNat 0 + 4 = 5 by decide +kernel]; rfl⟩
    · refine Facts.step_is (Value.bool true) fun a W hR hold hnew => ?_
      have f88 : a.tmps.getD 88 undef = Value.int .i64 (5) := hnew 37 88 (by kernel_rfl)
      have f89 : a.tmps.getD 89 undef = Value.int .i64 (5) := hnew 38 89 (by kernel_rfl)
      have g87 : a.tmps.getD 87 undef = .bool true := hnew 36 87 (by kernel_rfl)
      refine ⟨Facts.wanted_by rfl (by kernel_rfl) g87, ?_, fun _ => rfl⟩
      simp [go_sem, Act.eval, f88, f89]
    · refine Facts.step_is (Value.bool true) fun a W hR hold hnew => ?_
      have f87 : a.tmps.getD 87 undef = Value.bool true := hnew 36 87 (by kernel_rfl)
      have f90 : a.tmps.getD 90 undef = Value.bool true := hnew 39 90 (by kernel_rfl)
      refine ⟨Facts.wanted_free rfl, ?_, fun _ => rfl⟩
      simp [go_sem, Act.eval, f87, f90]
    · refine Facts.step_is (Value.bool true) fun a W hR hold hnew => ?_
      have f91 : a.tmps.getD 91 undef = Value.bool true := hnew 40 91 (by kernel_rfl)
      refine ⟨Facts.wanted_free rfl, ?_, fun _ => rfl⟩
      simp [go_sem, Act.eval, f91]
  · intro a w' hR _ hdef hnew _
    have f4 : a.tmps.getD 4 undef = .bool true := hnew 41 4 (by kernel_rfl)
    go_wp2
    try simp only [Exit.inBlock, Exit.then]
    refine bodyPost_ret (results_tmp rfl _ _ _) hdef ?_
    rw [f4]
    exact ⟨rfl, b5.drew.trans (hR.mono b5.drew.size)⟩
end Go.Proofs.YtpfnokplgfkgjaaDoor.Chk
