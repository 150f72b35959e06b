/- The law DigitsLay, walked: whatever the bytes and the number it returns true and leaves what was there as it was. -/
import Derived.Test.YtiecjhdhhaldpaaAwake
import Derived.Deep.RegionLaw
import Derived.Test.YtiecjhdhhaldpaaFacts
namespace Go.Proofs.Ytiecjhdhhaldpaa.Lay
open Go Go.RowKit Go.Proofs.Ytiecjhdhhaldpaa.Words Go.Proofs.Ytiecjhdhhaldpaa.Enc Go.Proofs.Ytiecjhdhhaldpaa.Made Go.Proofs.Ytiecjhdhhaldpaa.Take Go.Proofs.Ytiecjhdhhaldpaa.Awake
set_option linter.unusedVariables false

theorem long (A : Option Addr) (n c : Nat) (A2 : Option Addr) (n2 c2 : Nat) (x : Int) (w : World) (hc : n ≤ maxLen) (hc2 : n2 ≤ maxLen) (h : 200 < n ∨ 200 < n2) :
    Calls Try.prog 3 #[.slice A n c, .int .u64 x, .slice A2 n2 c2] w fun e w' => e = .returned (.bool true) ∧ Below w.heap.size w w' := by
  unfold maxLen at hc hc2
  rcases (show 200 < n ∨ (n ≤ 200 ∧ 200 < n2) by omega) with h1 | ⟨h1, h2⟩
  · have hlen' : (200 : Int) < (n : Int) := by omega
    go_enter Try.func3, Try.ntmps3
    go_wp2_with fail
    refine (awake_any _).mono ?_
    rintro e w1 ⟨rfl, hb1⟩
    go_wp2_with fail
    refine (awake_any _).mono ?_
    rintro e w2 ⟨rfl, hb2⟩
    go_wp2
    go_ret
    exact ⟨rfl, hb1.trans (hb2.mono hb1.size)⟩
  · have hlen : decide ((200 : Int) < (n : Int)) = false := by simp; omega
    have hlen' : (200 : Int) < (n2 : Int) := by omega
    go_enter Try.func3, Try.ntmps3
    go_wp2_with fail
    refine (awake_any _).mono ?_
    rintro e w1 ⟨rfl, hb1⟩
    go_wp2_with fail
    refine (awake_any _).mono ?_
    rintro e w2 ⟨rfl, hb2⟩
    go_wp2
    go_ret
    exact ⟨rfl, hb1.trans (hb2.mono hb1.size)⟩

theorem short (A : Option Addr) (n c : Nat) (l : List UInt8) (A2 : Option Addr) (n2 c2 : Nat) (q : List UInt8) (x : Int) (w : World) (hs : Sees w A n l) (hq : Sees w A2 n2 q) (h1 : n ≤ 200) (h2 : n2 ≤ 200) (hx0 : 0 ≤ x) (hx : x < 18446744073709551616) :
    Calls Try.prog 3 #[.slice A n c, .int .u64 x, .slice A2 n2 c2] w fun e w' => e = .returned (.bool true) ∧ Below w.heap.size w w' := by
  obtain ⟨i, hi, hz, hsz, hby⟩ := info_parts info8
  have hlen : decide ((200 : Int) < (n : Int)) = false := by simp; omega
  have hlen2 : decide ((200 : Int) < (n2 : Int)) = false := by simp; omega
  go_enter Try.func3, Try.ntmps3
  go_wp2_with fail
  refine (awake_any _).mono ?_
  rintro e w1 ⟨rfl, b1⟩
  go_wp2_with (first | (at_builtin; refine wpList_app rfl _ _ 22 rfl w.heap.size 5 i (.int .u8 0) Try.underlying22 hi hz hsz hby rfl none 0 0 [] rfl (Own.nil _ _ _) A n c l rfl (hs.below b1) ?d1 ?d2 ?_))
  case d1 => omega
  case d2 => exact b1.size
  intro A3 c3 w3 hown3 hb3
  have b3 := b1.trans hb3
  go_wp2_with fail
  refine (lay_any A3 n c3 l x w3 (Sees.of_own hown3) (by omega) hx0 hx).mono ?_
  rintro e w4 ⟨A4, c4, rfl, hown4, hb4⟩
  have b4 := b3.trans (hb4.mono b3.size)
  have hk1 := enc_pos x.toNat
  have hk2 := enc_ten (n := x.toNat) (by omega)
  have hsee4 := Sees.of_own hown4
  obtain ⟨g, o, rfl, _⟩ := hsee4.2 (by omega)
  have hcap4 : n + (enc x.toNat).length ≤ c4 := by
    obtain ⟨_, _, hsh, hcap4⟩ := Own.shape hown4
    injection hsh with _ _ hsh
    omega
  have hcut := hsee4.cut (k := n) (by omega) (A' := some ⟨g, o + n, none⟩) (by intro b' o' _ e; injection e with e; injection e with e1 e2; subst e1; subst e2; rfl)
  rw [List.drop_left' hs.1] at hcut
  have HK : ∃ k, k = (enc x.toNat).length := ⟨_, rfl⟩
  obtain ⟨k, hk⟩ := HK
  rw [← hk] at hk1 hk2 hsee4 hcap4 hcut ⊢
  have HK := Lib.hid hk
  clear hk hown4
  rw [Nat.add_sub_cancel_left] at hcut
  go_wp2_with (first | (at_builtin; go_loud (refine wpList_full rfl (.tmp 36) (.tmp 37) 22 rfl 5 i (.int .u8 0) Try.underlying22 hi hz hsz hby (some ⟨g, o + n, none⟩) k (enc x.toNat) (by show Value.slice (some ⟨g, o + n, none⟩) (n + k - n) (n + k - n) = _; rw [Nat.add_sub_cancel_left]) hcut A2 n2 c2 q rfl (hq.below b4) ?f1 ?_)))
  case f1 => omega
  intro A5 c5 w5 hsee5 hc5 hb5
  have b5 := b4.trans (hb5.mono b4.size)
  go_wp2_with fail
  have htk := tk_lay x.toNat (by omega) q
  refine (take_any A5 (k + n2) c5 _ w5 hsee5 hc5 (by omega)).mono ?_
  rintro e w6 ⟨A6, c6, rfl, hsee6, d, rfl⟩
  rw [htk, ← HK.out] at hsee6 ⊢
  simp only [Nat.add_sub_cancel_left, HK.out, List.drop_left] at hsee6
  simp only [Nat.add_sub_cancel_left]
  rw [show ((x.toNat : Nat) : Int) = x from by omega]
  have hsee4' := (hsee4.below hb5).drewN d
  have b6 : Below w.heap.size w (w5.drewN d) := ⟨b5.os, b5.tape, b5.output, b5.size, b5.block⟩
  generalize w5.drewN d = w6 at hsee6 hsee4' b6 ⊢
  obtain ⟨s1, hs1⟩ : ∃ s : ByteArray, s = ⟨(l ++ enc x.toNat).toArray⟩ := ⟨_, rfl⟩
  obtain ⟨s2, hs2⟩ : ∃ s : ByteArray, s = ⟨q.toArray⟩ := ⟨_, rfl⟩
  have str1 : ∀ (W : World) (B : Option Addr) (k' : Nat), Sees W B (n + k) (l ++ enc x.toNat) → (convert 22 9 (.slice B (n + k) k')).run Try.prog W = .ok (.string s1) W := fun W B k' h => by rw [hs1]; exact h.string k' Try.underlying22 Try.underlying5 Try.underlying9
  have str2 : ∀ (W : World) (B : Option Addr) (k' : Nat), Sees W B n2 q → (convert 22 9 (.slice B n2 k')).run Try.prog W = .ok (.string s2) W := fun W B k' h => by rw [hs2]; exact h.string k' Try.underlying22 Try.underlying5 Try.underlying9
  have STR1 := Lib.hid str1
  have STR2 := Lib.hid str2
  clear str1 str2 hs1 hs2 hcut hsee5 htk hown3 hsee4 hb5 b5 hb4 b4 hb3 b3 hlen hlen2 hz hi hsz hby
  have hsub : ((k : Int) == (n : Int) + (k : Int) - (n : Int)) = true := by simp; omega
  go_wp2_with fail
  refine Facts.wp_region_preds (n := 81) (by kernel_rfl) (by kernel_rfl) rfl [Facts.Pred.is (Value.slice (some ⟨g, o, none⟩) (n + k) c4), Facts.Pred.is (Value.string s1), Facts.Pred.is (Value.slice A n c), Facts.Pred.is (Value.int .u64 x), Facts.Pred.shows (n + k) (l ++ enc x.toNat), Facts.Pred.is (.string s1), Facts.Pred.is (Value.bool true), Facts.Pred.is (Value.bool true), Facts.Pred.is (Value.int .i64 0), Facts.Pred.is (Value.bool true), Facts.Pred.is (Value.bool true), Facts.Pred.is (Value.bool true), Facts.Pred.is (Value.int .u64 x), Facts.Pred.is (Value.int .u64 x), Facts.Pred.is (Value.bool true), Facts.Pred.is (Value.bool true), Facts.Pred.is (Value.bool true), Facts.Pred.is (Value.slice A6 n2 c6), Facts.Pred.is (Value.string s2), Facts.Pred.is (Value.slice A2 n2 c2), Facts.Pred.is (Value.string s2), Facts.Pred.is (Value.bool true), Facts.Pred.is (Value.bool true), Facts.Pred.is (Value.bool true), Facts.Pred.is (Value.int .u64 x), Facts.Pred.is (.int .i64 (k : Int)), Facts.Pred.is (Value.slice (some ⟨g, o, none⟩) (n + k) c4), Facts.Pred.is (Value.int .i64 ((n : Int) + (k : Int))), Facts.Pred.is (Value.slice A n c), Facts.Pred.is (Value.int .i64 (n : Int)), Facts.Pred.is (Value.int .i64 (k : Int)), Facts.Pred.is (Value.bool true), Facts.Pred.is (Value.bool true), Facts.Pred.is (Value.bool true), Facts.Pred.is (Value.int .u64 x), Facts.Pred.is (.int .i64 (k : Int)), Facts.Pred.is (Value.bool true), Facts.Pred.is (Value.bool true), Facts.Pred.is (Value.bool true)] ?_ ?_
  · refine ⟨?_, ?_, ?_, ?_, ?_, ?_, ?_, ?_, ?_, ?_, ?_, ?_, ?_, ?_, ?_, ?_, ?_, ?_, ?_, ?_, ?_, ?_, ?_, ?_, ?_, ?_, ?_, ?_, ?_, ?_, ?_, ?_, ?_, ?_, ?_, ?_, ?_, ?_, ?_, trivial⟩
    · refine Facts.step_is (Value.slice (some ⟨g, o, none⟩) (n + k) c4) fun a W hR hold hnew => ?_
      have f7 : a.tmps.getD 7 undef = Value.slice (some ⟨g, o, none⟩) (n + k) c4 := hold 7 (by kernel_rfl)
      refine ⟨Facts.wanted_free rfl, ?_, fun _ => rfl⟩
      simp [go_sem, Act.eval, f7]
    · refine Facts.step_is (Value.string s1) fun a W hR hold hnew => ?_
      have f43 : a.tmps.getD 43 undef = Value.slice (some ⟨g, o, none⟩) (n + k) c4 := hnew 0 43 (by kernel_rfl)
      have r := STR1.out W (some ⟨g, o, none⟩) c4 (hsee4'.drew.below hR)
      refine ⟨Facts.wanted_free rfl, ?_, fun _ => rfl⟩
      simp [go_sem, Act.eval, f43, r]
    · refine Facts.step_is (Value.slice A n c) fun a W hR hold hnew => ?_
      have f0 : a.tmps.getD 0 undef = Value.slice A n c := hold 0 (by kernel_rfl)
      refine ⟨Facts.wanted_free rfl, ?_, fun _ => rfl⟩
      simp [go_sem, Act.eval, f0]
    · refine Facts.step_is (Value.int .u64 x) fun a W hR hold hnew => ?_
      have f1 : a.tmps.getD 1 undef = Value.int .u64 x := hold 1 (by kernel_rfl)
      refine ⟨Facts.wanted_free rfl, ?_, fun _ => rfl⟩
      simp [go_sem, Act.eval, f1]
    · -- 4: Op.call { value (Operand.func 8), args := #[t45, t46], argTy
      refine Facts.step_call fun a W hR hold hnew => ?_
      have f45 : a.tmps.getD 45 undef = Value.slice A n c := hnew 2 45 (by kernel_rfl); have f46 : a.tmps.getD 46 undef = Value.int .u64 x := hnew 3 46 (by kernel_rfl)
      refine ⟨Facts.wanted_free rfl, 8, #[Value.slice A n c, Value.int .u64 x], by simp [go_sem, Act.eval, f45, f46], ?_⟩
      refine (refLay_any A n c l x W (hs.below (b6.drew.trans (hR.mono b6.drew.size))) (by omega) hx0 hx).mono ?_
      rintro e w7 ⟨A7, c7, rfl, hown7, hb7⟩
      rw [← HK.out] at hown7 ⊢
      exact ⟨_, rfl, hb7, A7, c7, rfl, Sees.of_own hown7⟩
    · -- 5: Op.convert 22 9 t47
      refine Facts.step_is (.string s1) fun a W hR hold hnew => ?_
      have h47 : ∃ A' c', a.tmps.getD 47 undef = .slice A' (n + k) c' ∧ Sees W A' (n + k) (l ++ enc x.toNat) := hnew 4 47 (by kernel_rfl)
      obtain ⟨A7, c7, f47, hs7⟩ := h47
      have r := STR1.out W A7 c7 hs7
      refine ⟨Facts.wanted_free rfl, ?_, fun _ => rfl⟩
      simp [go_sem, Act.eval, f47, r]
    · refine Facts.step_is (Value.bool true) fun a W hR hold hnew => ?_
      have f44 : a.tmps.getD 44 undef = Value.string s1 := hnew 1 44 (by kernel_rfl)
      have f48 : a.tmps.getD 48 undef = Value.string s1 := hnew 5 48 (by kernel_rfl)
      refine ⟨Facts.wanted_free rfl, ?_, fun _ => rfl⟩
      simp [go_sem, Act.eval, f44, f48]
    · refine Facts.step_is (Value.bool true) fun a W hR hold hnew => ?_
      have f49 : a.tmps.getD 49 undef = Value.bool true := hnew 6 49 (by kernel_rfl)
      refine ⟨Facts.wanted_free rfl, ?_, fun _ => rfl⟩
      simp [go_sem, Act.eval, f49]
    · refine Facts.step_is (Value.int .i64 0) fun a W hR hold hnew => ?_
      have f10 : a.tmps.getD 10 undef = Value.int .i64 0 := hold 10 (by kernel_rfl)
      have g50 : a.tmps.getD 50 undef = .bool true := hnew 7 50 (by kernel_rfl)
      refine ⟨Facts.wanted_by rfl (by kernel_rfl) g50, ?_, fun _ => rfl⟩
      simp [go_sem, Act.eval, f10]
    · refine Facts.step_is (Value.bool true) fun a W hR hold hnew => ?_
      have f51 : a.tmps.getD 51 undef = Value.int .i64 0 := hnew 8 51 (by kernel_rfl)
      have g50 : a.tmps.getD 50 undef = .bool true := hnew 7 50 (by kernel_rfl)
      refine ⟨Facts.wanted_by rfl (by kernel_rfl) g50, ?_, fun _ => rfl⟩
      simp [go_sem, Act.eval, f51]
    · refine Facts.step_is (Value.bool true) fun a W hR hold hnew => ?_
      have f50 : a.tmps.getD 50 undef = Value.bool true := hnew 7 50 (by kernel_rfl)
      have f52 : a.tmps.getD 52 undef = Value.bool true := hnew 9 52 (by kernel_rfl)
      refine ⟨Facts.wanted_free rfl, ?_, fun _ => rfl⟩
      simp [go_sem, Act.eval, f50, f52]
    · refine Facts.step_is (Value.bool true) fun a W hR hold hnew => ?_
      have f53 : a.tmps.getD 53 undef = Value.bool true := hnew 10 53 (by kernel_rfl)
      refine ⟨Facts.wanted_free rfl, ?_, fun _ => rfl⟩
      simp [go_sem, Act.eval, f53]
    · refine Facts.step_is (Value.int .u64 x) fun a W hR hold hnew => ?_
      have f8 : a.tmps.getD 8 undef = Value.int .u64 x := hold 8 (by kernel_rfl)
      have g54 : a.tmps.getD 54 undef = .bool true := hnew 11 54 (by kernel_rfl)
      refine ⟨Facts.wanted_by rfl (by kernel_rfl) g54, ?_, fun _ => rfl⟩
      simp [go_sem, Act.eval, f8]
    · refine Facts.step_is (Value.int .u64 x) fun a W hR hold hnew => ?_
      have f1 : a.tmps.getD 1 undef = Value.int .u64 x := hold 1 (by kernel_rfl)
      have g54 : a.tmps.getD 54 undef = .bool true := hnew 11 54 (by kernel_rfl)
      refine ⟨Facts.wanted_by rfl (by kernel_rfl) g54, ?_, fun _ => rfl⟩
      simp [go_sem, Act.eval, f1]
    · refine Facts.step_is (Value.bool true) fun a W hR hold hnew => ?_
      have f55 : a.tmps.getD 55 undef = Value.int .u64 x := hnew 12 55 (by kernel_rfl)
      have f56 : a.tmps.getD 56 undef = Value.int .u64 x := hnew 13 56 (by kernel_rfl)
      have g54 : a.tmps.getD 54 undef = .bool true := hnew 11 54 (by kernel_rfl)
      refine ⟨Facts.wanted_by rfl (by kernel_rfl) g54, ?_, fun _ => rfl⟩
      simp [go_sem, Act.eval, f55, f56]
    · refine Facts.step_is (Value.bool true) fun a W hR hold hnew => ?_
      have f54 : a.tmps.getD 54 undef = Value.bool true := hnew 11 54 (by kernel_rfl)
      have f57 : a.tmps.getD 57 undef = Value.bool true := hnew 14 57 (by kernel_rfl)
      refine ⟨Facts.wanted_free rfl, ?_, fun _ => rfl⟩
      simp [go_sem, Act.eval, f54, f57]
    · refine Facts.step_is (Value.bool true) fun a W hR hold hnew => ?_
      have f58 : a.tmps.getD 58 undef = Value.bool true := hnew 15 58 (by kernel_rfl)
      refine ⟨Facts.wanted_free rfl, ?_, fun _ => rfl⟩
      simp [go_sem, Act.eval, f58]
    · refine Facts.step_is (Value.slice A6 n2 c6) fun a W hR hold hnew => ?_
      have f9 : a.tmps.getD 9 undef = Value.slice A6 n2 c6 := hold 9 (by kernel_rfl)
      have g59 : a.tmps.getD 59 undef = .bool true := hnew 16 59 (by kernel_rfl)
      refine ⟨Facts.wanted_by rfl (by kernel_rfl) g59, ?_, fun _ => rfl⟩
      simp [go_sem, Act.eval, f9]
    · refine Facts.step_is (Value.string s2) fun a W hR hold hnew => ?_
      have f60 : a.tmps.getD 60 undef = Value.slice A6 n2 c6 := hnew 17 60 (by kernel_rfl)
      have g59 : a.tmps.getD 59 undef = .bool true := hnew 16 59 (by kernel_rfl)
      have r := STR2.out W A6 c6 (hsee6.drew.below hR)
      refine ⟨Facts.wanted_by rfl (by kernel_rfl) g59, ?_, fun _ => rfl⟩
      simp [go_sem, Act.eval, f60, r]
    · refine Facts.step_is (Value.slice A2 n2 c2) fun a W hR hold hnew => ?_
      have f2 : a.tmps.getD 2 undef = Value.slice A2 n2 c2 := hold 2 (by kernel_rfl)
      have g59 : a.tmps.getD 59 undef = .bool true := hnew 16 59 (by kernel_rfl)
      refine ⟨Facts.wanted_by rfl (by kernel_rfl) g59, ?_, fun _ => rfl⟩
      simp [go_sem, Act.eval, f2]
    · refine Facts.step_is (Value.string s2) fun a W hR hold hnew => ?_
      have f62 : a.tmps.getD 62 undef = Value.slice A2 n2 c2 := hnew 19 62 (by kernel_rfl)
      have g59 : a.tmps.getD 59 undef = .bool true := hnew 16 59 (by kernel_rfl)
      have r := STR2.out W A2 c2 (hq.below (b6.drew.trans (hR.mono b6.drew.size)))
      refine ⟨Facts.wanted_by rfl (by kernel_rfl) g59, ?_, fun _ => rfl⟩
      simp [go_sem, Act.eval, f62, r]
    · refine Facts.step_is (Value.bool true) fun a W hR hold hnew => ?_
      have f61 : a.tmps.getD 61 undef = Value.string s2 := hnew 18 61 (by kernel_rfl)
      have f63 : a.tmps.getD 63 undef = Value.string s2 := hnew 20 63 (by kernel_rfl)
      have g59 : a.tmps.getD 59 undef = .bool true := hnew 16 59 (by kernel_rfl)
      refine ⟨Facts.wanted_by rfl (by kernel_rfl) g59, ?_, fun _ => rfl⟩
      simp [go_sem, Act.eval, f61, f63]
    · refine Facts.step_is (Value.bool true) fun a W hR hold hnew => ?_
      have f59 : a.tmps.getD 59 undef = Value.bool true := hnew 16 59 (by kernel_rfl)
      have f64 : a.tmps.getD 64 undef = Value.bool true := hnew 21 64 (by kernel_rfl)
      refine ⟨Facts.wanted_free rfl, ?_, fun _ => rfl⟩
      simp [go_sem, Act.eval, f59, f64]
    · refine Facts.step_is (Value.bool true) fun a W hR hold hnew => ?_
      have f65 : a.tmps.getD 65 undef = Value.bool true := hnew 22 65 (by kernel_rfl)
      refine ⟨Facts.wanted_free rfl, ?_, fun _ => rfl⟩
      simp [go_sem, Act.eval, f65]
    · refine Facts.step_is (Value.int .u64 x) fun a W hR hold hnew => ?_
      have f1 : a.tmps.getD 1 undef = Value.int .u64 x := hold 1 (by kernel_rfl)
      have g66 : a.tmps.getD 66 undef = .bool true := hnew 23 66 (by kernel_rfl)
      refine ⟨Facts.wanted_by rfl (by kernel_rfl) g66, ?_, fun _ => rfl⟩
      simp [go_sem, Act.eval, f1]
    · -- 25: Op.call { value (Operand.func 9), args := #[t67], argTypes :
      refine Facts.step_call fun a W hR hold hnew => ?_
      have f67 : a.tmps.getD 67 undef = Value.int .u64 x := hnew 24 67 (by kernel_rfl); have g66 : a.tmps.getD 66 undef = .bool true := hnew 23 66 (by kernel_rfl)
      refine ⟨Facts.wanted_by rfl (by kernel_rfl) g66, 9, #[Value.int .u64 x], by simp [go_sem, Act.eval, f67], ?_⟩
      refine (Len.size_any x W hx0 hx).mono ?_
      rintro e w' ⟨rfl, rfl⟩
      exact ⟨_, rfl, Below.refl _ _, by rw [← HK.out]; rfl⟩
    · refine Facts.step_is (Value.slice (some ⟨g, o, none⟩) (n + k) c4) fun a W hR hold hnew => ?_
      have f7 : a.tmps.getD 7 undef = Value.slice (some ⟨g, o, none⟩) (n + k) c4 := hold 7 (by kernel_rfl)
      have g66 : a.tmps.getD 66 undef = .bool true := hnew 23 66 (by kernel_rfl)
      refine ⟨Facts.wanted_by rfl (by kernel_rfl) g66, ?_, fun _ => rfl⟩
      simp [go_sem, Act.eval, f7]
    · refine Facts.step_is (Value.int .i64 ((n : Int) + (k : Int))) fun a W hR hold hnew => ?_
      have f69 : a.tmps.getD 69 undef = Value.slice (some ⟨g, o, none⟩) (n + k) c4 := hnew 26 69 (by kernel_rfl)
      have g66 : a.tmps.getD 66 undef = .bool true := hnew 23 66 (by kernel_rfl)
      refine ⟨Facts.wanted_by rfl (by kernel_rfl) g66, ?_, fun _ => rfl⟩
      simp [go_sem, Act.eval, f69]
    · refine Facts.step_is (Value.slice A n c) fun a W hR hold hnew => ?_
      have f0 : a.tmps.getD 0 undef = Value.slice A n c := hold 0 (by kernel_rfl)
      have g66 : a.tmps.getD 66 undef = .bool true := hnew 23 66 (by kernel_rfl)
      refine ⟨Facts.wanted_by rfl (by kernel_rfl) g66, ?_, fun _ => rfl⟩
      simp [go_sem, Act.eval, f0]
    · refine Facts.step_is (Value.int .i64 (n : Int)) fun a W hR hold hnew => ?_
      have f71 : a.tmps.getD 71 undef = Value.slice A n c := hnew 28 71 (by kernel_rfl)
      have g66 : a.tmps.getD 66 undef = .bool true := hnew 23 66 (by kernel_rfl)
      refine ⟨Facts.wanted_by rfl (by kernel_rfl) g66, ?_, fun _ => rfl⟩
      simp [go_sem, Act.eval, f71]
    · refine Facts.step_is (Value.int .i64 (k : Int)) fun a W hR hold hnew => ?_
      have f70 : a.tmps.getD 70 undef = Value.int .i64 ((n : Int) + (k : Int)) := hnew 27 70 (by kernel_rfl)
      have f72 : a.tmps.getD 72 undef = Value.int .i64 (n : Int) := hnew 29 72 (by kernel_rfl)
      have g66 : a.tmps.getD 66 undef = .bool true := hnew 23 66 (by kernel_rfl)
      refine ⟨Facts.wanted_by rfl (by kernel_rfl) g66, ?_, fun _ => rfl⟩
      simp [go_sem, Act.eval, f70, f72]
      rw [IntKind.wrap_i64]
      omega
    · refine Facts.step_is (Value.bool true) fun a W hR hold hnew => ?_
      have f68 : a.tmps.getD 68 undef = Value.int .i64 (k : Int) := hnew 25 68 (by kernel_rfl)
      have f73 : a.tmps.getD 73 undef = Value.int .i64 (k : Int) := hnew 30 73 (by kernel_rfl)
      have g66 : a.tmps.getD 66 undef = .bool true := hnew 23 66 (by kernel_rfl)
      refine ⟨Facts.wanted_by rfl (by kernel_rfl) g66, ?_, fun _ => rfl⟩
      simp [go_sem, Act.eval, f68, f73]
    · refine Facts.step_is (Value.bool true) fun a W hR hold hnew => ?_
      have f66 : a.tmps.getD 66 undef = Value.bool true := hnew 23 66 (by kernel_rfl)
      have f74 : a.tmps.getD 74 undef = Value.bool true := hnew 31 74 (by kernel_rfl)
      refine ⟨Facts.wanted_free rfl, ?_, fun _ => rfl⟩
      simp [go_sem, Act.eval, f66, f74]
    · refine Facts.step_is (Value.bool true) fun a W hR hold hnew => ?_
      have f75 : a.tmps.getD 75 undef = Value.bool true := hnew 32 75 (by kernel_rfl)
      refine ⟨Facts.wanted_free rfl, ?_, fun _ => rfl⟩
      simp [go_sem, Act.eval, f75]
    · refine Facts.step_is (Value.int .u64 x) fun a W hR hold hnew => ?_
      have f1 : a.tmps.getD 1 undef = Value.int .u64 x := hold 1 (by kernel_rfl)
      have g76 : a.tmps.getD 76 undef = .bool true := hnew 33 76 (by kernel_rfl)
      refine ⟨Facts.wanted_by rfl (by kernel_rfl) g76, ?_, fun _ => rfl⟩
      simp [go_sem, Act.eval, f1]
    · -- 35: Op.call { value (Operand.func 9), args := #[t77], argTypes :
      refine Facts.step_call fun a W hR hold hnew => ?_
      have f77 : a.tmps.getD 77 undef = Value.int .u64 x := hnew 34 77 (by kernel_rfl); have g76 : a.tmps.getD 76 undef = .bool true := hnew 33 76 (by kernel_rfl)
      refine ⟨Facts.wanted_by rfl (by kernel_rfl) g76, 9, #[Value.int .u64 x], by simp [go_sem, Act.eval, f77], ?_⟩
      refine (Len.size_any x W hx0 hx).mono ?_
      rintro e w' ⟨rfl, rfl⟩
      exact ⟨_, rfl, Below.refl _ _, by rw [← HK.out]; rfl⟩
    · refine Facts.step_is (Value.bool true) fun a W hR hold hnew => ?_
      have f78 : a.tmps.getD 78 undef = Value.int .i64 (k : Int) := hnew 35 78 (by kernel_rfl)
      have g76 : a.tmps.getD 76 undef = .bool true := hnew 33 76 (by kernel_rfl)
      refine ⟨Facts.wanted_by rfl (by kernel_rfl) g76, ?_, fun _ => rfl⟩
      simp [go_sem, Act.eval, f78]
      omega
    · refine Facts.step_is (Value.bool true) fun a W hR hold hnew => ?_
      have f76 : a.tmps.getD 76 undef = Value.bool true := hnew 33 76 (by kernel_rfl)
      have f79 : a.tmps.getD 79 undef = Value.bool true := hnew 36 79 (by kernel_rfl)
      refine ⟨Facts.wanted_free rfl, ?_, fun _ => rfl⟩
      simp [go_sem, Act.eval, f76, f79]
    · refine Facts.step_is (Value.bool true) fun a W hR hold hnew => ?_
      have f80 : a.tmps.getD 80 undef = Value.bool true := hnew 37 80 (by kernel_rfl)
      refine ⟨Facts.wanted_free rfl, ?_, fun _ => rfl⟩
      simp [go_sem, Act.eval, f80]
  · intro a w' hR _ hdef hnew _
    have f6 : a.tmps.getD 6 undef = .bool true := hnew 38 6 (by kernel_rfl)
    go_wp2
    try simp only [Exit.inBlock, Exit.then]
    refine bodyPost_ret (results_tmp rfl _ _ _) hdef ?_
    rw [f6]
    exact ⟨rfl, b6.drew.trans (hR.mono b6.drew.size)⟩

theorem law (A : Option Addr) (n c : Nat) (l : List UInt8) (A2 : Option Addr) (n2 c2 : Nat) (q : List UInt8) (x : Int) (w : World) (hs : Sees w A n l) (hc : n ≤ c) (hm : c ≤ maxLen) (hq : Sees w A2 n2 q) (hc2 : n2 ≤ c2) (hm2 : c2 ≤ maxLen)
    (hx0 : 0 ≤ x) (hx : x < 18446744073709551616) :
    Calls Try.prog 3 #[.slice A n c, .int .u64 x, .slice A2 n2 c2] w fun e w' => e = .returned (.bool true) ∧ Below w.heap.size w w' := by
  by_cases h1 : 200 < n
  · exact long A n c A2 n2 c2 x w (by omega) (by omega) (.inl h1)
  · by_cases h2 : 200 < n2
    · exact long A n c A2 n2 c2 x w (by omega) (by omega) (.inr h2)
    · exact short A n c l A2 n2 c2 q x w hs hq (by omega) (by omega) hx0 hx
end Go.Proofs.Ytiecjhdhhaldpaa.Lay
