/- The law CheckOpens, walked out of what is asked of package check. -/
import Derived.Test.YtpfnokplgfkgjaaDoorCheckSaid
import Derived.Test.YtpfnokplgfkgjaaDoorRefOpen
namespace Go.Proofs.YtpfnokplgfkgjaaDoor.Chk
open Go Go.RowKit Go.Proofs.YtpfnokplgfkgjaaDoor.Words Go.Proofs.YtpfnokplgfkgjaaDoor.Enc Go.Proofs.YtpfnokplgfkgjaaDoor.Made
set_option linter.unusedVariables false

theorem opens_long (hsum : SumSaid) (A : Option Addr) (n c : Nat) (most : Int) (wr : Bool) (w : World) (T : Tabs w) (hm : n ≤ maxLen) (hlen : 300 < n) :
    Calls Tryd.prog 4 #[.slice A n c, .int .i64 most, .bool wr] w fun e w' => e = .returned (.bool true) ∧ Below w.heap.size w w' := by
  unfold maxLen at hm
  have hlen' : (300 : Int) < (n : Int) := by omega
  go_enter Tryd.func4, Tryd.ntmps4
  go_wp2_with fail
  refine (awake_any hsum _ T).mono ?_
  rintro e w1 ⟨rfl, hb1⟩
  go_wp2_with fail
  refine (awake_any hsum _ (T.below hb1)).mono ?_
  rintro e w2 ⟨rfl, hb2⟩
  go_wp2
  go_ret
  exact ⟨rfl, hb1.trans (hb2.mono hb1.size)⟩

theorem opens_short (hsum : SumSaid) (hopen : OpenSaid) (A : Option Addr) (n c : Nat) (l : List UInt8) (most : Int) (wr : Bool) (w : World) (T : Tabs w) (hs : Sees w A n l) (hc : n ≤ c) (hc2 : c ≤ 9223372036854775807) (hm1 : -9223372036854775808 ≤ most) (hm2 : most ≤ 9223372036854775807) (hlen : n ≤ 300) :
    Calls Tryd.prog 4 #[.slice A n c, .int .i64 most, .bool wr] w fun e w' => e = .returned (.bool true) ∧ Below w.heap.size w w' := by
  have hlen' : decide ((300 : Int) < (n : Int)) = false := by simp; omega
  cases wr with
  | false =>
    go_enter Tryd.func4, Tryd.ntmps4
    go_wp2_with fail
    refine (awake_any hsum _ T).mono ?_
    rintro e w1 ⟨rfl, b1⟩
    have hs1 := hs.below b1
    obtain ⟨N, hN⟩ : ∃ N, N = n := ⟨_, rfl⟩
    go_wp2_with fail
    refine (hopen A n c l most w1 (T.below b1) hs1 hc hc2 (by omega) hm1 hm2).mono ?_
    rintro e w2 ⟨A2, n2, c2, A3, n3, c3, rfl, hv2, hv3, hc3, _, hb2⟩
    have b2 := b1.trans (hb2.mono b1.size)
    have hs2 := hs1.below hb2
    go_wp2_with fail
    refine (refOpen_any A n c l most w2 hs2 hc hc2 (by omega) hm1 hm2).mono ?_
    rintro e w3 ⟨A4, n4, c4, rfl, hv4, hb3, _, _⟩
    have b3 := b2.trans (hb3.mono b2.size)
    have hs3 := hs2.below hb3
    have hw2 := hv2.below hb3
    have hw3 := hv3.below hb3
    have KL0 := openL_len l most
    have KL : (openL l most).2.1 ≤ n := by have := hs3.1; omega
    clear KL0
    generalize openL l most = r at hv4 hw2 hw3 KL ⊢
    obtain ⟨r1, k, E⟩ := r
    simp only [] at hv4 hw2 hw3 KL ⊢
    obtain ⟨s1, hs1⟩ : ∃ s : ByteArray, s = ⟨r1.toArray⟩ := ⟨_, rfl⟩
    obtain ⟨s2, hs2⟩ : ∃ s : ByteArray, s = ⟨(l.drop k).toArray⟩ := ⟨_, rfl⟩
    have STR1 := Lib.hid (fun (W : World) (B : Option Addr) (m k' : Nat) (h : Sees W B m r1) => show (convert 22 9 (.slice B m k')).run Tryd.prog W = .ok (.string s1) W by rw [hs1]; exact h.string k' Tryd.underlying22 Tryd.underlying5 Tryd.underlying9)
    have STR2 := Lib.hid (fun (W : World) (B : Option Addr) (m k' : Nat) (h : Sees W B m (l.drop k)) => show (convert 22 9 (.slice B m k')).run Tryd.prog W = .ok (.string s2) W by rw [hs2]; exact h.string k' Tryd.underlying22 Tryd.underlying5 Tryd.underlying9)
    clear hs1 hs2
    go_wp2_with fail
    refine Facts.wp_region_preds (n := 57) (by kernel_rfl) (by kernel_rfl) rfl [Facts.Pred.is (Value.int .i64 (E : Int)), Facts.Pred.is (Value.int .i64 (E : Int)), Facts.Pred.is (Value.bool true), Facts.Pred.is (Value.bool true), Facts.Pred.is (Value.slice A2 n2 c2), Facts.Pred.is (Value.string s1), Facts.Pred.is (Value.slice A4 n4 c4), Facts.Pred.is (Value.string s1), Facts.Pred.is (Value.bool true), Facts.Pred.is (Value.bool true), Facts.Pred.is (Value.bool true), Facts.Pred.is (Value.slice A3 n3 c3), Facts.Pred.is (Value.string s2), Facts.Pred.is (Value.slice A n c), Facts.Pred.is (Value.int .i64 (k : Int)), Facts.Pred.shows (n - k) (l.drop k), Facts.Pred.is (.string s2), Facts.Pred.is (Value.bool true), Facts.Pred.is (Value.bool true), Facts.Pred.is (Value.bool true)] ?_ ?_
    · refine ⟨?_, ?_, ?_, ?_, ?_, ?_, ?_, ?_, ?_, ?_, ?_, ?_, ?_, ?_, ?_, ?_, ?_, ?_, ?_, ?_, trivial⟩
      · refine Facts.step_is (Value.int .i64 (E : Int)) fun a W hR hold hnew => ?_
        have f9 : a.tmps.getD 9 undef = Value.int .i64 (E : Int) := hold 9 (by kernel_rfl)
        refine ⟨Facts.wanted_free rfl, ?_, fun _ => rfl⟩
        simp [go_sem, Act.eval, f9]
      · refine Facts.step_is (Value.int .i64 (E : Int)) fun a W hR hold hnew => ?_
        have f12 : a.tmps.getD 12 undef = Value.int .i64 (E : Int) := hold 12 (by kernel_rfl)
        refine ⟨Facts.wanted_free rfl, ?_, fun _ => rfl⟩
        simp [go_sem, Act.eval, f12]
      · refine Facts.step_is (Value.bool true) fun a W hR hold hnew => ?_
        have f38 : a.tmps.getD 38 undef = Value.int .i64 (E : Int) := hnew 0 38 (by kernel_rfl)
        have f39 : a.tmps.getD 39 undef = Value.int .i64 (E : Int) := hnew 1 39 (by kernel_rfl)
        refine ⟨Facts.wanted_free rfl, ?_, fun _ => rfl⟩
        simp [go_sem, Act.eval, f38, f39]
      · refine Facts.step_is (Value.bool true) fun a W hR hold hnew => ?_
        have f40 : a.tmps.getD 40 undef = Value.bool true := hnew 2 40 (by kernel_rfl)
        refine ⟨Facts.wanted_free rfl, ?_, fun _ => rfl⟩
        simp [go_sem, Act.eval, f40]
      · refine Facts.step_is (Value.slice A2 n2 c2) fun a W hR hold hnew => ?_
        have f7 : a.tmps.getD 7 undef = Value.slice A2 n2 c2 := hold 7 (by kernel_rfl)
        have g41 : a.tmps.getD 41 undef = .bool true := hnew 3 41 (by kernel_rfl)
        refine ⟨Facts.wanted_by rfl (by kernel_rfl) g41, ?_, fun _ => rfl⟩
        simp [go_sem, Act.eval, f7]
      · refine Facts.step_is (Value.string s1) fun a W hR hold hnew => ?_
        have f42 : a.tmps.getD 42 undef = Value.slice A2 n2 c2 := hnew 4 42 (by kernel_rfl)
        have g41 : a.tmps.getD 41 undef = .bool true := hnew 3 41 (by kernel_rfl)
        have r := STR1.out W A2 n2 c2 (hw2.drew.below hR)
        refine ⟨Facts.wanted_by rfl (by kernel_rfl) g41, ?_, fun _ => rfl⟩
        simp [go_sem, Act.eval, f42, r]
      · refine Facts.step_is (Value.slice A4 n4 c4) fun a W hR hold hnew => ?_
        have f10 : a.tmps.getD 10 undef = Value.slice A4 n4 c4 := hold 10 (by kernel_rfl)
        have g41 : a.tmps.getD 41 undef = .bool true := hnew 3 41 (by kernel_rfl)
        refine ⟨Facts.wanted_by rfl (by kernel_rfl) g41, ?_, fun _ => rfl⟩
        simp [go_sem, Act.eval, f10]
      · refine Facts.step_is (Value.string s1) fun a W hR hold hnew => ?_
        have f44 : a.tmps.getD 44 undef = Value.slice A4 n4 c4 := hnew 6 44 (by kernel_rfl)
        have g41 : a.tmps.getD 41 undef = .bool true := hnew 3 41 (by kernel_rfl)
        have r := STR1.out W A4 n4 c4 (hv4.drew.below hR)
        refine ⟨Facts.wanted_by rfl (by kernel_rfl) g41, ?_, fun _ => rfl⟩
        simp [go_sem, Act.eval, f44, r]
      · refine Facts.step_is (Value.bool true) fun a W hR hold hnew => ?_
        have f43 : a.tmps.getD 43 undef = Value.string s1 := hnew 5 43 (by kernel_rfl)
        have f45 : a.tmps.getD 45 undef = Value.string s1 := hnew 7 45 (by kernel_rfl)
        have g41 : a.tmps.getD 41 undef = .bool true := hnew 3 41 (by kernel_rfl)
        refine ⟨Facts.wanted_by rfl (by kernel_rfl) g41, ?_, fun _ => rfl⟩
        simp [go_sem, Act.eval, f43, f45]
      · refine Facts.step_is (Value.bool true) fun a W hR hold hnew => ?_
        have f41 : a.tmps.getD 41 undef = Value.bool true := hnew 3 41 (by kernel_rfl)
        have f46 : a.tmps.getD 46 undef = Value.bool true := hnew 8 46 (by kernel_rfl)
        refine ⟨Facts.wanted_free rfl, ?_, fun _ => rfl⟩
        simp [go_sem, Act.eval, f41, f46]
      · refine Facts.step_is (Value.bool true) fun a W hR hold hnew => ?_
        have f47 : a.tmps.getD 47 undef = Value.bool true := hnew 9 47 (by kernel_rfl)
        refine ⟨Facts.wanted_free rfl, ?_, fun _ => rfl⟩
        simp [go_sem, Act.eval, f47]
      · refine Facts.step_is (Value.slice A3 n3 c3) fun a W hR hold hnew => ?_
        have f8 : a.tmps.getD 8 undef = Value.slice A3 n3 c3 := hold 8 (by kernel_rfl)
        have g48 : a.tmps.getD 48 undef = .bool true := hnew 10 48 (by kernel_rfl)
        refine ⟨Facts.wanted_by rfl (by kernel_rfl) g48, ?_, fun _ => rfl⟩
        simp [go_sem, Act.eval, f8]
      · refine Facts.step_is (Value.string s2) fun a W hR hold hnew => ?_
        have f49 : a.tmps.getD 49 undef = Value.slice A3 n3 c3 := hnew 11 49 (by kernel_rfl)
        have g48 : a.tmps.getD 48 undef = .bool true := hnew 10 48 (by kernel_rfl)
        have r := STR2.out W A3 n3 c3 (hw3.drew.below hR)
        refine ⟨Facts.wanted_by rfl (by kernel_rfl) g48, ?_, fun _ => rfl⟩
        simp [go_sem, Act.eval, f49, r]
      · refine Facts.step_is (Value.slice A n c) fun a W hR hold hnew => ?_
        have f0 : a.tmps.getD 0 undef = Value.slice A n c := hold 0 (by kernel_rfl)
        have g48 : a.tmps.getD 48 undef = .bool true := hnew 10 48 (by kernel_rfl)
        refine ⟨Facts.wanted_by rfl (by kernel_rfl) g48, ?_, fun _ => rfl⟩
        simp [go_sem, Act.eval, f0]
      · refine Facts.step_is (Value.int .i64 (k : Int)) fun a W hR hold hnew => ?_
        have f11 : a.tmps.getD 11 undef = Value.int .i64 (k : Int) := hold 11 (by kernel_rfl)
        have g48 : a.tmps.getD 48 undef = .bool true := hnew 10 48 (by kernel_rfl)
        refine ⟨Facts.wanted_by rfl (by kernel_rfl) g48, ?_, fun _ => rfl⟩
        simp [go_sem, Act.eval, f11]
      · -- 15: Op.slice 22 t51 (some t52) none none
        refine Facts.step_some fun a W hR hold hnew => ?_
        have f51 : a.tmps.getD 51 undef = Value.slice A n c := hnew 13 51 (by kernel_rfl); have f52 : a.tmps.getD 52 undef = Value.int .i64 (k : Int) := hnew 14 52 (by kernel_rfl); have g48 : a.tmps.getD 48 undef = .bool true := hnew 10 48 (by kernel_rfl)
        refine ⟨Facts.wanted_by rfl (by kernel_rfl) g48, .slice (if c = k then A else Option.map (fun x => x.add k) A) (n - k) (c - k), by simp [go_sem, Act.eval, f51, f52, KL], _, _, rfl, (hs3.drew.below hR).cut KL (by intro b o h e; subst e; rw [if_neg (by omega)]; simp [add_plain])⟩
      · -- 16: Op.convert 22 9 t53
        refine Facts.step_is (.string s2) fun a W hR hold hnew => ?_
        have h53 : ∃ A' c', a.tmps.getD 53 undef = .slice A' (n - k) c' ∧ Sees W A' (n - k) (l.drop k) := hnew 15 53 (by kernel_rfl)
        obtain ⟨A7, c7, f53, hs7⟩ := h53
        have r := STR2.out W A7 _ c7 hs7
        have g48 : a.tmps.getD 48 undef = .bool true := hnew 10 48 (by kernel_rfl)
        refine ⟨Facts.wanted_by rfl (by kernel_rfl) g48, ?_, fun _ => rfl⟩
        simp [go_sem, Act.eval, f53, r]
      · refine Facts.step_is (Value.bool true) fun a W hR hold hnew => ?_
        have f50 : a.tmps.getD 50 undef = Value.string s2 := hnew 12 50 (by kernel_rfl)
        have f54 : a.tmps.getD 54 undef = Value.string s2 := hnew 16 54 (by kernel_rfl)
        have g48 : a.tmps.getD 48 undef = .bool true := hnew 10 48 (by kernel_rfl)
        refine ⟨Facts.wanted_by rfl (by kernel_rfl) g48, ?_, fun _ => rfl⟩
        simp [go_sem, Act.eval, f50, f54]
      · refine Facts.step_is (Value.bool true) fun a W hR hold hnew => ?_
        have f48 : a.tmps.getD 48 undef = Value.bool true := hnew 10 48 (by kernel_rfl)
        have f55 : a.tmps.getD 55 undef = Value.bool true := hnew 17 55 (by kernel_rfl)
        refine ⟨Facts.wanted_free rfl, ?_, fun _ => rfl⟩
        simp [go_sem, Act.eval, f48, f55]
      · refine Facts.step_is (Value.bool true) fun a W hR hold hnew => ?_
        have f56 : a.tmps.getD 56 undef = Value.bool true := hnew 18 56 (by kernel_rfl)
        refine ⟨Facts.wanted_free rfl, ?_, fun _ => rfl⟩
        simp [go_sem, Act.eval, f56]
    · intro a w' hR _ hdef hnew _
      have f6 : a.tmps.getD 6 undef = .bool true := hnew 19 6 (by kernel_rfl)
      go_wp2
      try simp only [Exit.inBlock, Exit.then]
      refine bodyPost_ret (results_tmp rfl _ _ _) hdef ?_
      rw [f6]
      exact ⟨rfl, b3.drew.trans (hR.mono b3.drew.size)⟩
  | true =>
    go_enter Tryd.func4, Tryd.ntmps4
    go_wp2_with fail
    refine (awake_any hsum _ T).mono ?_
    rintro e w0 ⟨rfl, b0⟩
    have hs0 := hs.below b0
    go_wp2_with fail
    refine (refWrap_any A n c l w0 hs0 (by omega)).mono ?_
    intro e w1 hnew0
    obtain ⟨PA, PC, rfl, hPC, hPC2, hs1, hb1⟩ := gives_of_new hnew0
    have hl := hs.1
    have he := enc_ten (n := n) (by omega)
    obtain ⟨PN, hPN⟩ : ∃ PN, PN = (enc n).length + n + 4 := ⟨_, rfl⟩
    rw [← hPN] at hs1 hPC ⊢
    have hPN2 : PN ≤ 400 := by omega
    clear hPN
    generalize wrap l = PL at hs1
    have b1 := b0.trans (hb1.mono b0.size)
    go_wp2_with fail
    refine (hopen PA PN PC PL most w1 (T.below b1) hs1 hPC hPC2 (by omega) hm1 hm2).mono ?_
    rintro e w2 ⟨A2, n2, c2, A3, n3, c3, rfl, hv2, hv3, hc3, _, hb2⟩
    have b2 := b1.trans (hb2.mono b1.size)
    have hs2 := hs1.below hb2
    go_wp2_with fail
    refine (refOpen_any PA PN PC PL most w2 hs2 hPC hPC2 (by omega) hm1 hm2).mono ?_
    rintro e w3 ⟨A4, n4, c4, rfl, hv4, hb3, _, _⟩
    have b3 := b2.trans (hb3.mono b2.size)
    have hs3 := hs2.below hb3
    have hw2 := hv2.below hb3
    have hw3 := hv3.below hb3
    go_wp2_with fail
    have KL0 := openL_len PL most
    have KL : (openL PL most).2.1 ≤ PN := by have := hs3.1; omega
    clear KL0
    generalize openL PL most = r at hv4 hw2 hw3 KL ⊢
    obtain ⟨r1, k, E⟩ := r
    simp only [] at hv4 hw2 hw3 KL ⊢
    obtain ⟨s1, hs1⟩ : ∃ s : ByteArray, s = ⟨r1.toArray⟩ := ⟨_, rfl⟩
    obtain ⟨s2, hs2⟩ : ∃ s : ByteArray, s = ⟨(PL.drop k).toArray⟩ := ⟨_, rfl⟩
    have STR1 := Lib.hid (fun (W : World) (B : Option Addr) (m k' : Nat) (h : Sees W B m r1) => show (convert 22 9 (.slice B m k')).run Tryd.prog W = .ok (.string s1) W by rw [hs1]; exact h.string k' Tryd.underlying22 Tryd.underlying5 Tryd.underlying9)
    have STR2 := Lib.hid (fun (W : World) (B : Option Addr) (m k' : Nat) (h : Sees W B m (PL.drop k)) => show (convert 22 9 (.slice B m k')).run Tryd.prog W = .ok (.string s2) W by rw [hs2]; exact h.string k' Tryd.underlying22 Tryd.underlying5 Tryd.underlying9)
    clear hs1 hs2
    go_wp2_with fail
    refine Facts.wp_region_preds (n := 57) (by kernel_rfl) (by kernel_rfl) rfl [Facts.Pred.is (Value.int .i64 (E : Int)), Facts.Pred.is (Value.int .i64 (E : Int)), Facts.Pred.is (Value.bool true), Facts.Pred.is (Value.bool true), Facts.Pred.is (Value.slice A2 n2 c2), Facts.Pred.is (Value.string s1), Facts.Pred.is (Value.slice A4 n4 c4), Facts.Pred.is (Value.string s1), Facts.Pred.is (Value.bool true), Facts.Pred.is (Value.bool true), Facts.Pred.is (Value.bool true), Facts.Pred.is (Value.slice A3 n3 c3), Facts.Pred.is (Value.string s2), Facts.Pred.is (Value.slice PA PN PC), Facts.Pred.is (Value.int .i64 (k : Int)), Facts.Pred.shows (PN - k) (PL.drop k), Facts.Pred.is (.string s2), Facts.Pred.is (Value.bool true), Facts.Pred.is (Value.bool true), Facts.Pred.is (Value.bool true)] ?_ ?_
    · refine ⟨?_, ?_, ?_, ?_, ?_, ?_, ?_, ?_, ?_, ?_, ?_, ?_, ?_, ?_, ?_, ?_, ?_, ?_, ?_, ?_, trivial⟩
      · refine Facts.step_is (Value.int .i64 (E : Int)) fun a W hR hold hnew => ?_
        have f9 : a.tmps.getD 9 undef = Value.int .i64 (E : Int) := hold 9 (by kernel_rfl)
        refine ⟨Facts.wanted_free rfl, ?_, fun _ => rfl⟩
        simp [go_sem, Act.eval, f9]
      · refine Facts.step_is (Value.int .i64 (E : Int)) fun a W hR hold hnew => ?_
        have f12 : a.tmps.getD 12 undef = Value.int .i64 (E : Int) := hold 12 (by kernel_rfl)
        refine ⟨Facts.wanted_free rfl, ?_, fun _ => rfl⟩
        simp [go_sem, Act.eval, f12]
      · refine Facts.step_is (Value.bool true) fun a W hR hold hnew => ?_
        have f38 : a.tmps.getD 38 undef = Value.int .i64 (E : Int) := hnew 0 38 (by kernel_rfl)
        have f39 : a.tmps.getD 39 undef = Value.int .i64 (E : Int) := hnew 1 39 (by kernel_rfl)
        refine ⟨Facts.wanted_free rfl, ?_, fun _ => rfl⟩
        simp [go_sem, Act.eval, f38, f39]
      · refine Facts.step_is (Value.bool true) fun a W hR hold hnew => ?_
        have f40 : a.tmps.getD 40 undef = Value.bool true := hnew 2 40 (by kernel_rfl)
        refine ⟨Facts.wanted_free rfl, ?_, fun _ => rfl⟩
        simp [go_sem, Act.eval, f40]
      · refine Facts.step_is (Value.slice A2 n2 c2) fun a W hR hold hnew => ?_
        have f7 : a.tmps.getD 7 undef = Value.slice A2 n2 c2 := hold 7 (by kernel_rfl)
        have g41 : a.tmps.getD 41 undef = .bool true := hnew 3 41 (by kernel_rfl)
        refine ⟨Facts.wanted_by rfl (by kernel_rfl) g41, ?_, fun _ => rfl⟩
        simp [go_sem, Act.eval, f7]
      · refine Facts.step_is (Value.string s1) fun a W hR hold hnew => ?_
        have f42 : a.tmps.getD 42 undef = Value.slice A2 n2 c2 := hnew 4 42 (by kernel_rfl)
        have g41 : a.tmps.getD 41 undef = .bool true := hnew 3 41 (by kernel_rfl)
        have r := STR1.out W A2 n2 c2 (hw2.drew.below hR)
        refine ⟨Facts.wanted_by rfl (by kernel_rfl) g41, ?_, fun _ => rfl⟩
        simp [go_sem, Act.eval, f42, r]
      · refine Facts.step_is (Value.slice A4 n4 c4) fun a W hR hold hnew => ?_
        have f10 : a.tmps.getD 10 undef = Value.slice A4 n4 c4 := hold 10 (by kernel_rfl)
        have g41 : a.tmps.getD 41 undef = .bool true := hnew 3 41 (by kernel_rfl)
        refine ⟨Facts.wanted_by rfl (by kernel_rfl) g41, ?_, fun _ => rfl⟩
        simp [go_sem, Act.eval, f10]
      · refine Facts.step_is (Value.string s1) fun a W hR hold hnew => ?_
        have f44 : a.tmps.getD 44 undef = Value.slice A4 n4 c4 := hnew 6 44 (by kernel_rfl)
        have g41 : a.tmps.getD 41 undef = .bool true := hnew 3 41 (by kernel_rfl)
        have r := STR1.out W A4 n4 c4 (hv4.drew.below hR)
        refine ⟨Facts.wanted_by rfl (by kernel_rfl) g41, ?_, fun _ => rfl⟩
        simp [go_sem, Act.eval, f44, r]
      · refine Facts.step_is (Value.bool true) fun a W hR hold hnew => ?_
        have f43 : a.tmps.getD 43 undef = Value.string s1 := hnew 5 43 (by kernel_rfl)
        have f45 : a.tmps.getD 45 undef = Value.string s1 := hnew 7 45 (by kernel_rfl)
        have g41 : a.tmps.getD 41 undef = .bool true := hnew 3 41 (by kernel_rfl)
        refine ⟨Facts.wanted_by rfl (by kernel_rfl) g41, ?_, fun _ => rfl⟩
        simp [go_sem, Act.eval, f43, f45]
      · refine Facts.step_is (Value.bool true) fun a W hR hold hnew => ?_
        have f41 : a.tmps.getD 41 undef = Value.bool true := hnew 3 41 (by kernel_rfl)
        have f46 : a.tmps.getD 46 undef = Value.bool true := hnew 8 46 (by kernel_rfl)
        refine ⟨Facts.wanted_free rfl, ?_, fun _ => rfl⟩
        simp [go_sem, Act.eval, f41, f46]
      · refine Facts.step_is (Value.bool true) fun a W hR hold hnew => ?_
        have f47 : a.tmps.getD 47 undef = Value.bool true := hnew 9 47 (by kernel_rfl)
        refine ⟨Facts.wanted_free rfl, ?_, fun _ => rfl⟩
        simp [go_sem, Act.eval, f47]
      · refine Facts.step_is (Value.slice A3 n3 c3) fun a W hR hold hnew => ?_
        have f8 : a.tmps.getD 8 undef = Value.slice A3 n3 c3 := hold 8 (by kernel_rfl)
        have g48 : a.tmps.getD 48 undef = .bool true := hnew 10 48 (by kernel_rfl)
        refine ⟨Facts.wanted_by rfl (by kernel_rfl) g48, ?_, fun _ => rfl⟩
        simp [go_sem, Act.eval, f8]
      · refine Facts.step_is (Value.string s2) fun a W hR hold hnew => ?_
        have f49 : a.tmps.getD 49 undef = Value.slice A3 n3 c3 := hnew 11 49 (by kernel_rfl)
        have g48 : a.tmps.getD 48 undef = .bool true := hnew 10 48 (by kernel_rfl)
        have r := STR2.out W A3 n3 c3 (hw3.drew.below hR)
        refine ⟨Facts.wanted_by rfl (by kernel_rfl) g48, ?_, fun _ => rfl⟩
        simp [go_sem, Act.eval, f49, r]
      · refine Facts.step_is (Value.slice PA PN PC) fun a W hR hold hnew => ?_
        have f0 : a.tmps.getD 0 undef = Value.slice PA PN PC := hold 0 (by kernel_rfl)
        have g48 : a.tmps.getD 48 undef = .bool true := hnew 10 48 (by kernel_rfl)
        refine ⟨Facts.wanted_by rfl (by kernel_rfl) g48, ?_, fun _ => rfl⟩
        simp [go_sem, Act.eval, f0]
      · refine Facts.step_is (Value.int .i64 (k : Int)) fun a W hR hold hnew => ?_
        have f11 : a.tmps.getD 11 undef = Value.int .i64 (k : Int) := hold 11 (by kernel_rfl)
        have g48 : a.tmps.getD 48 undef = .bool true := hnew 10 48 (by kernel_rfl)
        refine ⟨Facts.wanted_by rfl (by kernel_rfl) g48, ?_, fun _ => rfl⟩
        simp [go_sem, Act.eval, f11]
      · -- 15: Op.slice 22 t51 (some t52) none none
        refine Facts.step_some fun a W hR hold hnew => ?_
        have f51 : a.tmps.getD 51 undef = Value.slice PA PN PC := hnew 13 51 (by kernel_rfl); have f52 : a.tmps.getD 52 undef = Value.int .i64 (k : Int) := hnew 14 52 (by kernel_rfl); have g48 : a.tmps.getD 48 undef = .bool true := hnew 10 48 (by kernel_rfl)
        refine ⟨Facts.wanted_by rfl (by kernel_rfl) g48, .slice (if PC = k then PA else Option.map (fun x => x.add k) PA) (PN - k) (PC - k), by simp [go_sem, Act.eval, f51, f52, KL], _, _, rfl, (hs3.drew.below hR).cut KL (by intro b o h e; subst e; rw [if_neg (by omega)]; simp [add_plain])⟩
      · -- 16: Op.convert 22 9 t53
        refine Facts.step_is (.string s2) fun a W hR hold hnew => ?_
        have h53 : ∃ A' c', a.tmps.getD 53 undef = .slice A' (PN - k) c' ∧ Sees W A' (PN - k) (PL.drop k) := hnew 15 53 (by kernel_rfl)
        obtain ⟨A7, c7, f53, hs7⟩ := h53
        have r := STR2.out W A7 _ c7 hs7
        have g48 : a.tmps.getD 48 undef = .bool true := hnew 10 48 (by kernel_rfl)
        refine ⟨Facts.wanted_by rfl (by kernel_rfl) g48, ?_, fun _ => rfl⟩
        simp [go_sem, Act.eval, f53, r]
      · refine Facts.step_is (Value.bool true) fun a W hR hold hnew => ?_
        have f50 : a.tmps.getD 50 undef = Value.string s2 := hnew 12 50 (by kernel_rfl)
        have f54 : a.tmps.getD 54 undef = Value.string s2 := hnew 16 54 (by kernel_rfl)
        have g48 : a.tmps.getD 48 undef = .bool true := hnew 10 48 (by kernel_rfl)
        refine ⟨Facts.wanted_by rfl (by kernel_rfl) g48, ?_, fun _ => rfl⟩
        simp [go_sem, Act.eval, f50, f54]
      · refine Facts.step_is (Value.bool true) fun a W hR hold hnew => ?_
        have f48 : a.tmps.getD 48 undef = Value.bool true := hnew 10 48 (by kernel_rfl)
        have f55 : a.tmps.getD 55 undef = Value.bool true := hnew 17 55 (by kernel_rfl)
        refine ⟨Facts.wanted_free rfl, ?_, fun _ => rfl⟩
        simp [go_sem, Act.eval, f48, f55]
      · refine Facts.step_is (Value.bool true) fun a W hR hold hnew => ?_
        have f56 : a.tmps.getD 56 undef = Value.bool true := hnew 18 56 (by kernel_rfl)
        refine ⟨Facts.wanted_free rfl, ?_, fun _ => rfl⟩
        simp [go_sem, Act.eval, f56]
    · intro a w' hR _ hdef hnew _
      have f6 : a.tmps.getD 6 undef = .bool true := hnew 19 6 (by kernel_rfl)
      go_wp2
      try simp only [Exit.inBlock, Exit.then]
      refine bodyPost_ret (results_tmp rfl _ _ _) hdef ?_
      rw [f6]
      exact ⟨rfl, b3.drew.trans (hR.mono b3.drew.size)⟩
end Go.Proofs.YtpfnokplgfkgjaaDoor.Chk
