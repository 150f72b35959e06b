/- check.Open: what is asked of it. -/
import Derived.Test.YtpoipgdhljegfaaDoorCheckFn
import Derived.Test.YtpoipgdhljegfaaDoorTakeText2
import Derived.Test.YtpoipgdhljegfaaDoorActs
namespace Go.Proofs.YtpoipgdhljegfaaDoor.Chk
open Go Go.RowKit Go.Proofs.YtpoipgdhljegfaaDoor.Words Go.Proofs.YtpoipgdhljegfaaDoor.Enc Go.Proofs.YtpoipgdhljegfaaDoor.Made
set_option linter.unusedVariables false

/-- Open in the order of the program: the text, then the seal. -/
theorem open_text (l : List UInt8) (most : Int) (T : List UInt8) (k E : Nat) (h : Take.texted l most (tk 0 0 l) = (T, k, E)) :
    (E ≠ 0 → k = 0 ∧ openL l most = ([], 0, E)) ∧
    (E = 0 → k ≤ l.length ∧ openL l most = if l.length - k < 4 then ([], 0, 5) else if (l.drop k).take 4 = four (Crc.sum (l.take k)) then (T, k + 4, 0) else ([], 0, 4)) := by
  have hc := fun N K => @Take.tk_one l N K
  have hle := tk_len l 0 0
  rw [Nat.zero_add] at hle
  unfold openL
  generalize tk 0 0 l = t at h hc hle ⊢
  obtain ⟨N, K, F⟩ := t
  unfold Take.texted at h
  unfold opened
  simp only [] at h hc hle ⊢
  by_cases h0 : F = 0
  · subst h0
    rw [if_neg (by simp)] at h ⊢
    by_cases h6 : most < 0 ∨ most < (N : Int)
    · rw [if_pos h6] at h ⊢
      injection h with h1 h2
      injection h2 with h2 h3
      subst h1; subst h2; subst h3
      exact ⟨fun _ => ⟨rfl, rfl⟩, fun h => by cases h⟩
    · rw [if_neg h6] at h ⊢
      by_cases h5 : l.length - K < N
      · rw [if_pos h5] at h ⊢
        injection h with h1 h2
        injection h2 with h2 h3
        subst h1; subst h2; subst h3
        exact ⟨fun _ => ⟨rfl, rfl⟩, fun h => by cases h⟩
      · rw [if_neg h5] at h ⊢
        injection h with h1 h2
        injection h2 with h2 h3
        subst h1; subst h2; subst h3
        refine ⟨fun h => absurd rfl h, fun _ => ⟨by omega, ?_⟩⟩
        by_cases h4 : l.length - (K + N) < 4
        · rw [if_pos h4, if_pos h4]
        · rw [if_neg h4, if_neg h4]
          obtain ⟨hK, hE⟩ := hc N K rfl
          have hlen : ((l.drop K).take N).length = N := by simp; omega
          have hpre : enc N ++ (l.drop K).take N = l.take (K + N) := by rw [← hK, List.take_add]
          have hw : wrap ((l.drop K).take N) = l.take (K + N) ++ four (Crc.sum (l.take (K + N))) := by unfold wrap; rw [hlen, hpre]
          have htk : l.take (K + N + 4) = l.take (K + N) ++ (l.drop (K + N)).take 4 := by rw [List.take_add]
          rw [hw, htk]
          by_cases hq : (l.drop (K + N)).take 4 = four (Crc.sum (l.take (K + N)))
          · rw [if_pos hq, if_neg (by rw [hq]; simp)]
          · rw [if_neg hq, if_pos (by intro e; exact hq (List.append_cancel_left e).symm)]
  · rw [if_pos h0] at h ⊢
    injection h with h1 h2
    injection h2 with h2 h3
    subst h1; subst h2; subst h3
    exact ⟨fun _ => ⟨rfl, rfl⟩, fun h => absurd h h0⟩

/-- The contents in memory of their own, what follows in what was given, the error. -/
def OpenedR (PA : Option Addr) (PN : Nat) (l : List UInt8) (r : List UInt8 × Nat × Nat) (w : World) (e : Ending) (w' : World) : Prop :=
  ∃ A n c A2 n2 c2, e = .returned (.tuple #[.slice A n c, .slice A2 n2 c2, .int .i64 (r.2.2 : Int)]) ∧ w'.ownsRow w.heap.size 5 1 (.slice A n c) n (cs r.1) ∧ (∀ W, Sees W PA PN l → Sees W A2 n2 (l.drop r.2.1)) ∧ n2 ≤ c2 ∧ c2 ≤ 9223372036854775807 ∧ Below w.heap.size w w'

theorem opened_err {PA : Option Addr} {PN : Nat} {l : List UInt8} {r : List UInt8 × Nat × Nat} {E : Nat} (h : r = ([], 0, E)) {w w' : World} {A2 : Option Addr} {n c2 : Nat} (h2 : ∀ W, Sees W PA PN l → Sees W A2 n l) (hc : n ≤ c2) (hc2 : c2 ≤ 9223372036854775807) (hb : Below w.heap.size w w') {F : Int} (hF : F = (E : Int)) :
    OpenedR PA PN l r w (.returned (.tuple #[.slice none 0 0, .slice A2 n c2, .int .i64 F])) w' := by
  subst hF
  subst h
  exact ⟨none, 0, 0, A2, n, c2, rfl, Own.nil _ _ _, h2, hc, hc2, hb⟩

set_option maxRecDepth 100000 in
theorem openR_any (A : Option Addr) (n c : Nat) (l : List UInt8) (most : Int) (w : World) (TB0 : Tabs w) (hs : Sees w A n l) (hc : n ≤ c) (hcm : c ≤ 9223372036854775807) (hn : n ≤ 900000) (hm1 : -9223372036854775808 ≤ most) (hm2 : most ≤ 9223372036854775807) :
    Calls Tryd.prog 12 #[.slice A n c, .int .i64 most] w (OpenedR A n l (openL l most) w) := by
  have hl := hs.1
  go_enter Tryd.func12, Tryd.ntmps12
  go_wp2_with fail
  refine (Take.takeText_any A n c l most w hs hc (by omega) hm1 hm2).mono ?_
  rintro e w1 ⟨A1, n1, c1, A2, n2, c2, rfl, h1, h2p, hc2, hcm2, hb⟩
  have hot := open_text l most
  obtain ⟨r, hr⟩ : ∃ r, r = Take.texted l most (tk 0 0 l) := ⟨_, rfl⟩
  rw [← hr] at h1 h2p hot ⊢
  clear hr
  obtain ⟨T, k, E⟩ := r
  have ho := hot T k E rfl
  clear hot
  simp only [] at h1 h2p ⊢
  have hs1 := hs.below hb
  have h2 := h2p _ hs1
  have TB := TB0.below hb
  by_cases hE : E = 0
  · subst hE
    obtain ⟨hkl, HO⟩ := ho.2 rfl
    have hkn : k ≤ n := by omega
    have hn2 : n2 = n - k := by have := h2.1; rw [List.length_drop] at this; omega
    clear ho
    by_cases h4 : n2 < 4
    · have HP : Hid (openL l most = ([], 0, 5)) := by rw [HO, if_pos (by omega)]; exact rfl
      have h4' : (n2 : Int) < 4 := by omega
      clear HO
      go_wp2_with fail
      refine (Take.clip_any A n c _ hc (by omega)).mono ?_
      rintro e w2 ⟨rfl, rfl⟩
      go_wp2
      go_ret3
      exact opened_err HP.out (fun W h => h) (Nat.le_refl _) (by omega) hb rfl
    · have h4' : decide ((n2 : Int) < 4) = false := by simp; omega
      rw [if_neg (by omega)] at HO
      have hsub : (n : Int) - (n2 : Int) = (k : Int) := by omega
      have h4c : 4 ≤ c2 := by omega
      have hkc : k ≤ c := by omega
      have h4 : 4 ≤ n2 := by omega
      have hwk : IntKind.i64.wrap (k : Int) = (k : Int) := by rw [IntKind.wrap_i64]; omega
      have TD : Tabs w1.drew := TB.below (Below.refl _ _).drew
      have HN2 := Lib.hid hn2
      obtain ⟨eq, heq⟩ : ∃ eq, eq = decide ((l.drop k).take 4 = four (Crc.sum (l.take k))) := ⟨_, rfl⟩
      have HO2 : Hid (openL l most = if eq then (T, k + 4, 0) else ([], 0, 4)) := by
        rw [HO, heq]
        unfold Hid
        simp only [decide_eq_true_eq]
      have HQ : Hid (decide ((l.drop k).take 4 = four (Crc.sum (l.take k))) = eq) := heq.symm
      clear HO heq hn2
      go_wp2_with fail
      refine Facts.wp_region_preds (n := 46) (by kernel_rfl) (by kernel_rfl) rfl [Facts.Pred.is (Value.slice A2 n2 c2), Facts.Pred.shows 4 ((l.drop k).take 4), Facts.Pred.is (Value.slice A n c), Facts.Pred.is (Value.slice A n c), Facts.Pred.is (Value.int .i64 (n : Int)), Facts.Pred.is (Value.slice A2 n2 c2), Facts.Pred.is (Value.int .i64 (n2 : Int)), Facts.Pred.is (Value.int .i64 (k : Int)), Facts.Pred.shows k (l.take k), Facts.Pred.shows 4 (four (Crc.sum (l.take k))), Facts.Pred.is (Value.bool eq), Facts.Pred.is (Value.bool (!eq)), Facts.Pred.is (Value.bool (!eq))] ?_ ?_
      · refine ⟨?_, ?_, ?_, ?_, ?_, ?_, ?_, ?_, ?_, ?_, ?_, ?_, ?_, trivial⟩
        · refine Facts.step_is (Value.slice A2 n2 c2) fun a W hR hold hnew => ?_
          have f8 : a.tmps.getD 8 undef = Value.slice A2 n2 c2 := hold 8 (by kernel_rfl)
          refine ⟨Facts.wanted_free rfl, ?_, fun _ => rfl⟩
          simp [go_sem, Act.eval, f8]
        · -- 1: Op.slice 22 t29 none (some (const (4:i64))) none
          refine Facts.step_some fun a W hR hold hnew => ?_
          have f29 : a.tmps.getD 29 undef = Value.slice A2 n2 c2 := hnew 0 29 (by kernel_rfl)
          exact ⟨Facts.wanted_free rfl, .slice A2 4 c2, by simp [go_sem, Act.eval, f29]; intro h; omega, A2, c2, rfl, (h2.drew.below hR).take h4⟩
        · refine Facts.step_is (Value.slice A n c) fun a W hR hold hnew => ?_
          have f0 : a.tmps.getD 0 undef = Value.slice A n c := hold 0 (by kernel_rfl)
          refine ⟨Facts.wanted_free rfl, ?_, fun _ => rfl⟩
          simp [go_sem, Act.eval, f0]
        · refine Facts.step_is (Value.slice A n c) fun a W hR hold hnew => ?_
          have f0 : a.tmps.getD 0 undef = Value.slice A n c := hold 0 (by kernel_rfl)
          refine ⟨Facts.wanted_free rfl, ?_, fun _ => rfl⟩
          simp [go_sem, Act.eval, f0]
        · refine Facts.step_is (Value.int .i64 (n : Int)) fun a W hR hold hnew => ?_
          have f32 : a.tmps.getD 32 undef = Value.slice A n c := hnew 3 32 (by kernel_rfl)
          refine ⟨Facts.wanted_free rfl, ?_, fun _ => rfl⟩
          simp [go_sem, Act.eval, f32]
        · refine Facts.step_is (Value.slice A2 n2 c2) fun a W hR hold hnew => ?_
          have f8 : a.tmps.getD 8 undef = Value.slice A2 n2 c2 := hold 8 (by kernel_rfl)
          refine ⟨Facts.wanted_free rfl, ?_, fun _ => rfl⟩
          simp [go_sem, Act.eval, f8]
        · refine Facts.step_is (Value.int .i64 (n2 : Int)) fun a W hR hold hnew => ?_
          have f34 : a.tmps.getD 34 undef = Value.slice A2 n2 c2 := hnew 5 34 (by kernel_rfl)
          refine ⟨Facts.wanted_free rfl, ?_, fun _ => rfl⟩
          simp [go_sem, Act.eval, f34]
        · refine Facts.step_is (Value.int .i64 (k : Int)) fun a W hR hold hnew => ?_
          have f33 : a.tmps.getD 33 undef = Value.int .i64 (n : Int) := hnew 4 33 (by kernel_rfl)
          have f35 : a.tmps.getD 35 undef = Value.int .i64 (n2 : Int) := hnew 6 35 (by kernel_rfl)
          refine ⟨Facts.wanted_free rfl, ?_, fun _ => rfl⟩
          simp [go_sem, Act.eval, f33, f35, hsub, hwk]
        · -- 8: Op.slice 22 t31 none (some t36) none
          refine Facts.step_some fun a W hR hold hnew => ?_
          have f31 : a.tmps.getD 31 undef = Value.slice A n c := hnew 2 31 (by kernel_rfl); have f36 : a.tmps.getD 36 undef = Value.int .i64 (k : Int) := hnew 7 36 (by kernel_rfl)
          exact ⟨Facts.wanted_free rfl, .slice A k c, by simp [go_sem, Act.eval, f31, f36, hkc], A, c, rfl, (hs1.drew.below hR).take hkn⟩
        · -- 9: Op.call { value (Operand.func 20), args := #[t37], argTypes 
          refine Facts.step_call fun a W hR hold hnew => ?_
          have h37 : ∃ A5 c5, a.tmps.getD 37 undef = .slice A5 k c5 ∧ Sees W A5 k (l.take k) := hnew 8 37 (by kernel_rfl)
          obtain ⟨A5, c5, f37, hs5⟩ := h37
          refine ⟨Facts.wanted_free rfl, 20, #[.slice A5 k c5], by simp [go_sem, Act.eval, f37], ?_⟩
          refine (seal_any A5 k c5 _ W (TD.below hR) hs5 (by omega)).mono ?_
          rintro e w7 ⟨g7, rfl, hs6, hb6⟩
          exact ⟨_, rfl, hb6, _, _, rfl, hs6⟩
        · -- 10: Op.call { value (Operand.func 23), args := #[t30, t38], argT
          refine Facts.step_call fun a W hR hold hnew => ?_
          have h30 : ∃ A5 c5, a.tmps.getD 30 undef = .slice A5 4 c5 ∧ Sees W A5 4 ((l.drop k).take 4) := hnew 1 30 (by kernel_rfl)
          have h38 : ∃ A5 c5, a.tmps.getD 38 undef = .slice A5 4 c5 ∧ Sees W A5 4 (four (Crc.sum (l.take k))) := hnew 9 38 (by kernel_rfl)
          obtain ⟨A5, c5, f30, hs5⟩ := h30
          obtain ⟨A6, c6, f38, hs6⟩ := h38
          refine ⟨Facts.wanted_free rfl, 23, #[.slice A5 4 c5, .slice A6 4 c6], by simp [go_sem, Act.eval, f30, f38], ?_⟩
          refine (equal_any A5 4 c5 _ A6 4 c6 _ W hs5 hs6 (by omega) (by omega)).mono ?_
          rintro e w7 ⟨rfl, x, rfl⟩
          exact ⟨_, rfl, below_drewN _ _, by rw [HQ.out]; rfl⟩
        · refine Facts.step_is (Value.bool (!eq)) fun a W hR hold hnew => ?_
          have f39 : a.tmps.getD 39 undef = Value.bool eq := hnew 10 39 (by kernel_rfl)
          refine ⟨Facts.wanted_free rfl, ?_, fun _ => rfl⟩
          simp [go_sem, Act.eval, f39]
        · refine Facts.step_is (Value.bool (!eq)) fun a W hR hold hnew => ?_
          have f40 : a.tmps.getD 40 undef = Value.bool (!eq) := hnew 11 40 (by kernel_rfl)
          refine ⟨Facts.wanted_free rfl, ?_, fun _ => rfl⟩
          simp [go_sem, Act.eval, f40]
      · intro a w4 hR' hsize hdef hnew hold
        have f0 : a.tmps.getD 0 undef = Value.slice A n c := hold 0 (Facts.not_dst (by kernel_rfl))
        have f7 : a.tmps.getD 7 undef = Value.slice A1 n1 c1 := hold 7 (Facts.not_dst (by kernel_rfl))
        have f8 : a.tmps.getD 8 undef = Value.slice A2 n2 c2 := hold 8 (Facts.not_dst (by kernel_rfl))
        have f28 : a.tmps.getD 28 undef = Value.bool (!eq) := hnew 12 28 (by kernel_rfl)
        obtain ⟨tm, df⟩ := a
        simp only [] at hdef hsize f0 f7 f8 f28
        have hlit : tm = #[tm.getD 0 undef, tm.getD 1 undef, tm.getD 2 undef, tm.getD 3 undef, tm.getD 4 undef, tm.getD 5 undef, tm.getD 6 undef, tm.getD 7 undef, tm.getD 8 undef, tm.getD 9 undef, tm.getD 10 undef, tm.getD 11 undef, tm.getD 12 undef, tm.getD 13 undef, tm.getD 14 undef, tm.getD 15 undef, tm.getD 16 undef, tm.getD 17 undef, tm.getD 18 undef, tm.getD 19 undef, tm.getD 20 undef, tm.getD 21 undef, tm.getD 22 undef, tm.getD 23 undef, tm.getD 24 undef, tm.getD 25 undef, tm.getD 26 undef, tm.getD 27 undef, tm.getD 28 undef, tm.getD 29 undef, tm.getD 30 undef, tm.getD 31 undef, tm.getD 32 undef, tm.getD 33 undef, tm.getD 34 undef, tm.getD 35 undef, tm.getD 36 undef, tm.getD 37 undef, tm.getD 38 undef, tm.getD 39 undef, tm.getD 40 undef, tm.getD 41 undef, tm.getD 42 undef, tm.getD 43 undef, tm.getD 44 undef, tm.getD 45 undef] := (Facts.array_lit tm hsize).trans rfl
        rw [f0, f7, f8, f28] at hlit
        clear f0 f7 f8 f28 hsize hnew hold
        generalize tm.getD 1 undef = x1 at hlit
        generalize tm.getD 2 undef = x2 at hlit
        generalize tm.getD 3 undef = x3 at hlit
        generalize tm.getD 4 undef = x4 at hlit
        generalize tm.getD 5 undef = x5 at hlit
        generalize tm.getD 6 undef = x6 at hlit
        generalize tm.getD 9 undef = x9 at hlit
        generalize tm.getD 10 undef = x10 at hlit
        generalize tm.getD 11 undef = x11 at hlit
        generalize tm.getD 12 undef = x12 at hlit
        generalize tm.getD 13 undef = x13 at hlit
        generalize tm.getD 14 undef = x14 at hlit
        generalize tm.getD 15 undef = x15 at hlit
        generalize tm.getD 16 undef = x16 at hlit
        generalize tm.getD 17 undef = x17 at hlit
        generalize tm.getD 18 undef = x18 at hlit
        generalize tm.getD 19 undef = x19 at hlit
        generalize tm.getD 20 undef = x20 at hlit
        generalize tm.getD 21 undef = x21 at hlit
        generalize tm.getD 22 undef = x22 at hlit
        generalize tm.getD 23 undef = x23 at hlit
        generalize tm.getD 24 undef = x24 at hlit
        generalize tm.getD 25 undef = x25 at hlit
        generalize tm.getD 26 undef = x26 at hlit
        generalize tm.getD 27 undef = x27 at hlit
        generalize tm.getD 29 undef = x29 at hlit
        generalize tm.getD 30 undef = x30 at hlit
        generalize tm.getD 31 undef = x31 at hlit
        generalize tm.getD 32 undef = x32 at hlit
        generalize tm.getD 33 undef = x33 at hlit
        generalize tm.getD 34 undef = x34 at hlit
        generalize tm.getD 35 undef = x35 at hlit
        generalize tm.getD 36 undef = x36 at hlit
        generalize tm.getD 37 undef = x37 at hlit
        generalize tm.getD 38 undef = x38 at hlit
        generalize tm.getD 39 undef = x39 at hlit
        generalize tm.getD 40 undef = x40 at hlit
        generalize tm.getD 41 undef = x41 at hlit
        generalize tm.getD 42 undef = x42 at hlit
        generalize tm.getD 43 undef = x43 at hlit
        generalize tm.getD 44 undef = x44 at hlit
        generalize tm.getD 45 undef = x45 at hlit
        subst hlit
        subst hdef
        simp only []
        have b4 : Below w.heap.size w w4 := hb.drew.trans (hR'.mono hb.drew.size)
        have h14 := Own.below (w := w1.drew) h1 hR' (Nat.le_refl _)
        clear TD hR' h1 h2 hs1 TB
        cases eq with
        | false =>
          have HP : Hid (openL l most = ([], 0, 4)) := by rw [HO2.out]; exact rfl
          clear HO2 HQ
          go_wp2_with fail
          refine (Take.clip_any A n c _ hc (by omega)).mono ?_
          rintro e w5 ⟨rfl, rfl⟩
          go_wp2
          go_ret3
          exact opened_err HP.out (fun W h => h) (Nat.le_refl _) (by omega) b4 rfl
        | true =>
          have HP : Hid (openL l most = (T, k + 4, 0)) := by rw [HO2.out]; exact rfl
          clear HO2 HQ
          have h4z : (4 : Int) ≤ (n2 : Int) := by omega
          have hcut : ∀ (W : World) (A3 : Option Addr), (∀ b o, 4 < n2 → A2 = some ⟨b, o, none⟩ → A3 = some ⟨b, o + 4, none⟩) → Sees W A n l → Sees W A3 (n2 - 4) (l.drop (k + 4)) := fun W A3 h3 h => by
            rw [← List.drop_drop]
            exact (h2p W h).cut h4 h3
          have HCUT := Lib.hid hcut
          have HS1 := Lib.hid h14
          clear hcut h14 h2p
          go_wp2
          go_quiet (fail)
          go_wp2
          · go_ret3
            rw [HP.out]
            exact ⟨_, _, _, _, _, _, rfl, HS1.out, fun W h => HCUT.out W _ (by intro b o h e; omega) h, by omega, by omega, b4.trans ((below_drewN w4 nq).mono b4.size)⟩
          · go_ret3
            rw [HP.out]
            exact ⟨_, _, _, _, _, _, rfl, HS1.out, fun W h => HCUT.out W _ (by intro b o h e; subst e; rfl) h, by omega, by omega, b4.trans ((below_drewN w4 nq).mono b4.size)⟩
  · have hE2 : ((E : Int) != 0) = true := by simp; omega
    obtain ⟨rfl, HP⟩ := ho.1 hE
    clear hE ho
    go_wp2
    go_ret3
    exact opened_err HP h2p hc2 hcm2 hb rfl

theorem openOk : OpenSaid := fun A n c l most w T hs hc hcm hn hm1 hm2 =>
  (openR_any A n c l most w T hs hc hcm (by omega) hm1 hm2).mono fun e w' ⟨A1, n1, c1, A2, n2, c2, h1, h2, h3, h4, h5, h6⟩ => ⟨A1, n1, c1, A2, n2, c2, h1, Sees.of_own h2, h3 _ (hs.below h6), h4, h5, h6⟩
end Go.Proofs.YtpoipgdhljegfaaDoor.Chk
