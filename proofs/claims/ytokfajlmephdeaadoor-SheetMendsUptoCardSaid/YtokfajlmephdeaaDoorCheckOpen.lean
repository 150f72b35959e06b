/- check.Open: what is asked of it. check.All: what is asked of it. -/
import Derived.Test.YtokfajlmephdeaaDoorCheckFn
import Derived.Test.YtokfajlmephdeaaDoorTakeText
import Derived.Test.YtokfajlmephdeaaDoorActs
namespace Go.Proofs.YtokfajlmephdeaaDoor.Chk
open Go Go.RowKit Go.Proofs.YtokfajlmephdeaaDoor.Words Go.Proofs.YtokfajlmephdeaaDoor.Enc Go.Proofs.YtokfajlmephdeaaDoor.Made
set_option linter.unusedVariables false

/-- Open in the order of the program: the text, then the seal. -/
theorem open_text (l : List UInt8) (most : Int) (T : List UInt8) (k E : Nat) (h : Take.texted l most (tk 0 0 l) = (T, k, E)) :
    (E ≠ 0 → k = 0 ∧ openL l most = ([], 0, E)) ∧
    (E = 0 → k ≤ l.length ∧ openL l most = if l.length - k < 4 then ([], 0, 5) else if (l.drop k).take 4 = four (Crc.sum (l.take k)) then (T, k + 4, 0) else ([], 0, 4)) := by
  have hc := fun N K => @Take.tk_one l N K
  have hle := tk_len l 0 0
  rw [Nat.zero_add] at hle
  unfold openL
  generalize tk 0 0 l = t at h hc hle ⊢
  obtain ⟨N, K, F⟩ := t
  unfold Take.texted at h
  unfold opened
  simp only [] at h hc hle ⊢
  by_cases h0 : F = 0
  · subst h0
    rw [if_neg (by simp)] at h ⊢
    by_cases h6 : most < 0 ∨ most < (N : Int)
    · rw [if_pos h6] at h ⊢
      injection h with h1 h2
      injection h2 with h2 h3
      subst h1; subst h2; subst h3
      exact ⟨fun _ => ⟨rfl, rfl⟩, fun h => by cases h⟩
    · rw [if_neg h6] at h ⊢
      by_cases h5 : l.length - K < N
      · rw [if_pos h5] at h ⊢
        injection h with h1 h2
        injection h2 with h2 h3
        subst h1; subst h2; subst h3
        exact ⟨fun _ => ⟨rfl, rfl⟩, fun h => by cases h⟩
      · rw [if_neg h5] at h ⊢
        injection h with h1 h2
        injection h2 with h2 h3
        subst h1; subst h2; subst h3
        refine ⟨fun h => absurd rfl h, fun _ => ⟨by omega, ?_⟩⟩
        by_cases h4 : l.length - (K + N) < 4
        · rw [if_pos h4, if_pos h4]
        · rw [if_neg h4, if_neg h4]
          obtain ⟨hK, hE⟩ := hc N K rfl
          have hlen : ((l.drop K).take N).length = N := by simp; omega
          have hpre : enc N ++ (l.drop K).take N = l.take (K + N) := by rw [← hK, List.take_add]
          have hw : wrap ((l.drop K).take N) = l.take (K + N) ++ four (Crc.sum (l.take (K + N))) := by unfold wrap; rw [hlen, hpre]
          have htk : l.take (K + N + 4) = l.take (K + N) ++ (l.drop (K + N)).take 4 := by rw [List.take_add]
          rw [hw, htk]
          by_cases hq : (l.drop (K + N)).take 4 = four (Crc.sum (l.take (K + N)))
          · rw [if_pos hq, if_neg (by rw [hq]; simp)]
          · rw [if_neg hq, if_pos (by intro e; exact hq (List.append_cancel_left e).symm)]
  · rw [if_pos h0] at h ⊢
    injection h with h1 h2
    injection h2 with h2 h3
    subst h1; subst h2; subst h3
    exact ⟨fun _ => ⟨rfl, rfl⟩, fun h => absurd h h0⟩

/-- The contents in memory of their own, what follows in what was given, the error. -/
def OpenedR (PA : Option Addr) (PN : Nat) (l : List UInt8) (r : List UInt8 × Nat × Nat) (w : World) (e : Ending) (w' : World) : Prop :=
  ∃ A n c A2 n2 c2, e = .returned (.tuple #[.slice A n c, .slice A2 n2 c2, .int .i64 (r.2.2 : Int)]) ∧ w'.ownsRow w.heap.size 5 1 (.slice A n c) n (cs r.1) ∧ (∀ W, Sees W PA PN l → Sees W A2 n2 (l.drop r.2.1)) ∧ n2 ≤ c2 ∧ c2 ≤ 9223372036854775807 ∧ Below w.heap.size w w'

theorem opened_err {PA : Option Addr} {PN : Nat} {l : List UInt8} {r : List UInt8 × Nat × Nat} {E : Nat} (h : r = ([], 0, E)) {w w' : World} {A2 : Option Addr} {n c2 : Nat} (h2 : ∀ W, Sees W PA PN l → Sees W A2 n l) (hc : n ≤ c2) (hc2 : c2 ≤ 9223372036854775807) (hb : Below w.heap.size w w') {F : Int} (hF : F = (E : Int)) :
    OpenedR PA PN l r w (.returned (.tuple #[.slice none 0 0, .slice A2 n c2, .int .i64 F])) w' := by
  subst hF
  subst h
  exact ⟨none, 0, 0, A2, n, c2, rfl, Own.nil _ _ _, h2, hc, hc2, hb⟩

set_option maxRecDepth 100000 in
theorem openR_any (A : Option Addr) (n c : Nat) (l : List UInt8) (most : Int) (w : World) (TB0 : Tabs w) (hs : Sees w A n l) (hc : n ≤ c) (hcm : c ≤ 9223372036854775807) (hn : n ≤ 900000000) (hm1 : -9223372036854775808 ≤ most) (hm2 : most ≤ 9223372036854775807) :
    Calls Tryd.prog 47 #[.slice A n c, .int .i64 most] w (OpenedR A n l (openL l most) w) := by
  have hl := hs.1
  go_enter Tryd.func47, Tryd.ntmps47
  go_wp2_with fail
  refine (Take.takeText_any A n c l most w hs hc (by omega) hm1 hm2).mono ?_
  rintro e w1 ⟨A1, n1, c1, A2, n2, c2, rfl, h1, h2p, hc2, hcm2, hb⟩
  have hot := open_text l most
  obtain ⟨r, hr⟩ : ∃ r, r = Take.texted l most (tk 0 0 l) := ⟨_, rfl⟩
  rw [← hr] at h1 h2p hot ⊢
  clear hr
  obtain ⟨T, k, E⟩ := r
  have ho := hot T k E rfl
  clear hot
  simp only [] at h1 h2p ⊢
  have hs1 := hs.below hb
  have h2 := h2p _ hs1
  have TB := TB0.below hb
  by_cases hE : E = 0
  · subst hE
    obtain ⟨hkl, HO⟩ := ho.2 rfl
    have hkn : k ≤ n := by omega
    have hn2 : n2 = n - k := by have := h2.1; rw [List.length_drop] at this; omega
    clear ho
    by_cases h4 : n2 < 4
    · have HP : Hid (openL l most = ([], 0, 5)) := by rw [HO, if_pos (by omega)]; exact rfl
      have h4' : (n2 : Int) < 4 := by omega
      clear HO
      go_wp2_with fail
      refine (Take.clip_any A n c _ hc (by omega)).mono ?_
      rintro e w2 ⟨rfl, rfl⟩
      go_wp2
      go_ret3
      exact opened_err HP.out (fun W h => h) (Nat.le_refl _) (by omega) hb rfl
    · have h4' : decide ((n2 : Int) < 4) = false := by simp; omega
      rw [if_neg (by omega)] at HO
      have hsub : (n : Int) - (n2 : Int) = (k : Int) := by omega
      have h4c : 4 ≤ c2 := by omega
      have hkc : k ≤ c := by omega
      have h4 : 4 ≤ n2 := by omega
      have hwk : IntKind.i64.wrap (k : Int) = (k : Int) := by rw [IntKind.wrap_i64]; omega
      have TD : Tabs w1.drew := TB.below (Below.refl _ _).drew
      have HN2 := Lib.hid hn2
      obtain ⟨eq, heq⟩ : ∃ eq, eq = decide ((l.drop k).take 4 = four (Crc.sum (l.take k))) := ⟨_, rfl⟩
      have HO2 : Hid (openL l most = if eq then (T, k + 4, 0) else ([], 0, 4)) := by
        rw [HO, heq]
        unfold Hid
        simp only [decide_eq_true_eq]
      have HQ : Hid (decide ((l.drop k).take 4 = four (Crc.sum (l.take k))) = eq) := heq.symm
      clear HO heq hn2
      go_wp2_with fail
      refine Facts.wp_region_preds (n := 46) (by kernel_rfl) (by kernel_rfl) rfl [Facts.Pred.is (Value.slice A2 n2 c2), Facts.Pred.shows 4 ((l.drop k).take 4), Facts.Pred.is (Value.slice A n c), Facts.Pred.is (Value.slice A n c), Facts.Pred.is (Value.int .i64 (n : Int)), Facts.Pred.is (Value.slice A2 n2 c2), Facts.Pred.is (Value.int .i64 (n2 : Int)), Facts.Pred.is (Value.int .i64 (k : Int)), Facts.Pred.shows k (l.take k), Facts.Pred.shows 4 (four (Crc.sum (l.take k))), Facts.Pred.is (Value.bool eq), Facts.Pred.is (Value.bool (!eq)), Facts.Pred.is (Value.bool (!eq))] ?_ ?_
      · refine ⟨?_, ?_, ?_, ?_, ?_, ?_, ?_, ?_, ?_, ?_, ?_, ?_, ?_, trivial⟩
        · refine Facts.step_is (Value.slice A2 n2 c2) fun a W hR hold hnew => ?_
          have f8 : a.tmps.getD 8 undef = Value.slice A2 n2 c2 := hold 8 (by kernel_rfl)
          refine ⟨Facts.wanted_free rfl, ?_, fun _ => rfl⟩
          simp [go_sem, Act.eval, f8]
        · -- 1: Op.slice 22 t29 none (some (const (4:i64))) none
          refine Facts.step_some fun a W hR hold hnew => ?_
          have f29 : a.tmps.getD 29 undef = Value.slice A2 n2 c2 := hnew 0 29 (by kernel_rfl)
          exact ⟨Facts.wanted_free rfl, .slice A2 4 c2, by simp [go_sem, Act.eval, f29]; intro h; omega, A2, c2, rfl, (h2.drew.below hR).take h4⟩
        · refine Facts.step_is (Value.slice A n c) fun a W hR hold hnew => ?_
          have f0 : a.tmps.getD 0 undef = Value.slice A n c := hold 0 (by kernel_rfl)
          refine ⟨Facts.wanted_free rfl, ?_, fun _ => rfl⟩
          simp [go_sem, Act.eval, f0]
        · refine Facts.step_is (Value.slice A n c) fun a W hR hold hnew => ?_
          have f0 : a.tmps.getD 0 undef = Value.slice A n c := hold 0 (by kernel_rfl)
          refine ⟨Facts.wanted_free rfl, ?_, fun _ => rfl⟩
          simp [go_sem, Act.eval, f0]
        · refine Facts.step_is (Value.int .i64 (n : Int)) fun a W hR hold hnew => ?_
          have f32 : a.tmps.getD 32 undef = Value.slice A n c := hnew 3 32 (by kernel_rfl)
          refine ⟨Facts.wanted_free rfl, ?_, fun _ => rfl⟩
          simp [go_sem, Act.eval, f32]
        · refine Facts.step_is (Value.slice A2 n2 c2) fun a W hR hold hnew => ?_
          have f8 : a.tmps.getD 8 undef = Value.slice A2 n2 c2 := hold 8 (by kernel_rfl)
          refine ⟨Facts.wanted_free rfl, ?_, fun _ => rfl⟩
          simp [go_sem, Act.eval, f8]
        · refine Facts.step_is (Value.int .i64 (n2 : Int)) fun a W hR hold hnew => ?_
          have f34 : a.tmps.getD 34 undef = Value.slice A2 n2 c2 := hnew 5 34 (by kernel_rfl)
          refine ⟨Facts.wanted_free rfl, ?_, fun _ => rfl⟩
          simp [go_sem, Act.eval, f34]
        · refine Facts.step_is (Value.int .i64 (k : Int)) fun a W hR hold hnew => ?_
          have f33 : a.tmps.getD 33 undef = Value.int .i64 (n : Int) := hnew 4 33 (by kernel_rfl)
          have f35 : a.tmps.getD 35 undef = Value.int .i64 (n2 : Int) := hnew 6 35 (by kernel_rfl)
          refine ⟨Facts.wanted_free rfl, ?_, fun _ => rfl⟩
          simp [go_sem, Act.eval, f33, f35, hsub, hwk]
        · -- 8: Op.slice 22 t31 none (some t36) none
          refine Facts.step_some fun a W hR hold hnew => ?_
          have f31 : a.tmps.getD 31 undef = Value.slice A n c := hnew 2 31 (by kernel_rfl); have f36 : a.tmps.getD 36 undef = Value.int .i64 (k : Int) := hnew 7 36 (by kernel_rfl)
          exact ⟨Facts.wanted_free rfl, .slice A k c, by simp [go_sem, Act.eval, f31, f36, hkc], A, c, rfl, (hs1.drew.below hR).take hkn⟩
        · -- 9: Op.call { value (Operand.func 20), args := #[t37], argTypes 
          refine Facts.step_call fun a W hR hold hnew => ?_
          have h37 : ∃ A5 c5, a.tmps.getD 37 undef = .slice A5 k c5 ∧ Sees W A5 k (l.take k) := hnew 8 37 (by kernel_rfl)
          obtain ⟨A5, c5, f37, hs5⟩ := h37
          refine ⟨Facts.wanted_free rfl, 54, #[.slice A5 k c5], by simp [go_sem, Act.eval, f37], ?_⟩
          refine (seal_any A5 k c5 _ W (TD.below hR) hs5 (by omega)).mono ?_
          rintro e w7 ⟨g7, rfl, hs6, hb6⟩
          exact ⟨_, rfl, hb6, _, _, rfl, hs6⟩
        · -- 10: Op.call { value (Operand.func 23), args := #[t30, t38], argT
          refine Facts.step_call fun a W hR hold hnew => ?_
          have h30 : ∃ A5 c5, a.tmps.getD 30 undef = .slice A5 4 c5 ∧ Sees W A5 4 ((l.drop k).take 4) := hnew 1 30 (by kernel_rfl)
          have h38 : ∃ A5 c5, a.tmps.getD 38 undef = .slice A5 4 c5 ∧ Sees W A5 4 (four (Crc.sum (l.take k))) := hnew 9 38 (by kernel_rfl)
          obtain ⟨A5, c5, f30, hs5⟩ := h30
          obtain ⟨A6, c6, f38, hs6⟩ := h38
          refine ⟨Facts.wanted_free rfl, 65, #[.slice A5 4 c5, .slice A6 4 c6], by simp [go_sem, Act.eval, f30, f38], ?_⟩
          refine (equal_any A5 4 c5 _ A6 4 c6 _ W hs5 hs6 (by omega) (by omega)).mono ?_
          rintro e w7 ⟨rfl, x, rfl⟩
          exact ⟨_, rfl, below_drewN _ _, by rw [HQ.out]; rfl⟩
        · refine Facts.step_is (Value.bool (!eq)) fun a W hR hold hnew => ?_
          have f39 : a.tmps.getD 39 undef = Value.bool eq := hnew 10 39 (by kernel_rfl)
          refine ⟨Facts.wanted_free rfl, ?_, fun _ => rfl⟩
          simp [go_sem, Act.eval, f39]
        · refine Facts.step_is (Value.bool (!eq)) fun a W hR hold hnew => ?_
          have f40 : a.tmps.getD 40 undef = Value.bool (!eq) := hnew 11 40 (by kernel_rfl)
          refine ⟨Facts.wanted_free rfl, ?_, fun _ => rfl⟩
          simp [go_sem, Act.eval, f40]
      · intro a w4 hR' hsize hdef hnew hold
        have f0 : a.tmps.getD 0 undef = Value.slice A n c := hold 0 (Facts.not_dst (by kernel_rfl))
        have f7 : a.tmps.getD 7 undef = Value.slice A1 n1 c1 := hold 7 (Facts.not_dst (by kernel_rfl))
        have f8 : a.tmps.getD 8 undef = Value.slice A2 n2 c2 := hold 8 (Facts.not_dst (by kernel_rfl))
        have f28 : a.tmps.getD 28 undef = Value.bool (!eq) := hnew 12 28 (by kernel_rfl)
        obtain ⟨tm, df⟩ := a
        simp only [] at hdef hsize f0 f7 f8 f28
        have hlit : tm = #[tm.getD 0 undef, tm.getD 1 undef, tm.getD 2 undef, tm.getD 3 undef, tm.getD 4 undef, tm.getD 5 undef, tm.getD 6 undef, tm.getD 7 undef, tm.getD 8 undef, tm.getD 9 undef, tm.getD 10 undef, tm.getD 11 undef, tm.getD 12 undef, tm.getD 13 undef, tm.getD 14 undef, tm.getD 15 undef, tm.getD 16 undef, tm.getD 17 undef, tm.getD 18 undef, tm.getD 19 undef, tm.getD 20 undef, tm.getD 21 undef, tm.getD 22 undef, tm.getD 23 undef, tm.getD 24 undef, tm.getD 25 undef, tm.getD 26 undef, tm.getD 27 undef, tm.getD 28 undef, tm.getD 29 undef, tm.getD 30 undef, tm.getD 31 undef, tm.getD 32 undef, tm.getD 33 undef, tm.getD 34 undef, tm.getD 35 undef, tm.getD 36 undef, tm.getD 37 undef, tm.getD 38 undef, tm.getD 39 undef, tm.getD 40 undef, tm.getD 41 undef, tm.getD 42 undef, tm.getD 43 undef, tm.getD 44 undef, tm.getD 45 undef] := (Facts.array_lit tm hsize).trans rfl
        rw [f0, f7, f8, f28] at hlit
        clear f0 f7 f8 f28 hsize hnew hold
        generalize tm.getD 1 undef = x1 at hlit
        generalize tm.getD 2 undef = x2 at hlit
        generalize tm.getD 3 undef = x3 at hlit
        generalize tm.getD 4 undef = x4 at hlit
        generalize tm.getD 5 undef = x5 at hlit
        generalize tm.getD 6 undef = x6 at hlit
        generalize tm.getD 9 undef = x9 at hlit
        generalize tm.getD 10 undef = x10 at hlit
        generalize tm.getD 11 undef = x11 at hlit
        generalize tm.getD 12 undef = x12 at hlit
        generalize tm.getD 13 undef = x13 at hlit
        generalize tm.getD 14 undef = x14 at hlit
        generalize tm.getD 15 undef = x15 at hlit
        generalize tm.getD 16 undef = x16 at hlit
        generalize tm.getD 17 undef = x17 at hlit
        generalize tm.getD 18 undef = x18 at hlit
        generalize tm.getD 19 undef = x19 at hlit
        generalize tm.getD 20 undef = x20 at hlit
        generalize tm.getD 21 undef = x21 at hlit
        generalize tm.getD 22 undef = x22 at hlit
        generalize tm.getD 23 undef = x23 at hlit
        generalize tm.getD 24 undef = x24 at hlit
        generalize tm.getD 25 undef = x25 at hlit
        generalize tm.getD 26 undef = x26 at hlit
        generalize tm.getD 27 undef = x27 at hlit
        generalize tm.getD 29 undef = x29 at hlit
        generalize tm.getD 30 undef = x30 at hlit
        generalize tm.getD 31 undef = x31 at hlit
        generalize tm.getD 32 undef = x32 at hlit
        generalize tm.getD 33 undef = x33 at hlit
        generalize tm.getD 34 undef = x34 at hlit
        generalize tm.getD 35 undef = x35 at hlit
        generalize tm.getD 36 undef = x36 at hlit
        generalize tm.getD 37 undef = x37 at hlit
        generalize tm.getD 38 undef = x38 at hlit
        generalize tm.getD 39 undef = x39 at hlit
        generalize tm.getD 40 undef = x40 at hlit
        generalize tm.getD 41 undef = x41 at hlit
        generalize tm.getD 42 undef = x42 at hlit
        generalize tm.getD 43 undef = x43 at hlit
        generalize tm.getD 44 undef = x44 at hlit
        generalize tm.getD 45 undef = x45 at hlit
        subst hlit
        subst hdef
        simp only []
        have b4 : Below w.heap.size w w4 := hb.drew.trans (hR'.mono hb.drew.size)
        have h14 := Own.below (w := w1.drew) h1 hR' (Nat.le_refl _)
        clear TD hR' h1 h2 hs1 TB
        cases eq with
        | false =>
          have HP : Hid (openL l most = ([], 0, 4)) := by rw [HO2.out]; exact rfl
          clear HO2 HQ
          go_wp2_with fail
          refine (Take.clip_any A n c _ hc (by omega)).mono ?_
          rintro e w5 ⟨rfl, rfl⟩
          go_wp2
          go_ret3
          exact opened_err HP.out (fun W h => h) (Nat.le_refl _) (by omega) b4 rfl
        | true =>
          have HP : Hid (openL l most = (T, k + 4, 0)) := by rw [HO2.out]; exact rfl
          clear HO2 HQ
          have h4z : (4 : Int) ≤ (n2 : Int) := by omega
          have hcut : ∀ (W : World) (A3 : Option Addr), (∀ b o, 4 < n2 → A2 = some ⟨b, o, none⟩ → A3 = some ⟨b, o + 4, none⟩) → Sees W A n l → Sees W A3 (n2 - 4) (l.drop (k + 4)) := fun W A3 h3 h => by
            rw [← List.drop_drop]
            exact (h2p W h).cut h4 h3
          have HCUT := Lib.hid hcut
          have HS1 := Lib.hid h14
          clear hcut h14 h2p
          go_wp2
          go_quiet (fail)
          go_wp2
          · go_ret3
            rw [HP.out]
            exact ⟨_, _, _, _, _, _, rfl, HS1.out, fun W h => HCUT.out W _ (by intro b o h e; omega) h, by omega, by omega, b4.trans ((below_drewN w4 nq).mono b4.size)⟩
          · go_ret3
            rw [HP.out]
            exact ⟨_, _, _, _, _, _, rfl, HS1.out, fun W h => HCUT.out W _ (by intro b o h e; subst e; rfl) h, by omega, by omega, b4.trans ((below_drewN w4 nq).mono b4.size)⟩
  · have hE2 : ((E : Int) != 0) = true := by simp; omega
    obtain ⟨rfl, HP⟩ := ho.1 hE
    clear hE ho
    go_wp2
    go_ret3
    exact opened_err HP h2p hc2 hcm2 hb rfl

theorem openOk : OpenSaid := fun A n c l most w T hs hc hcm hn hm1 hm2 =>
  (openR_any A n c l most w T hs hc hcm (by omega) hm1 hm2).mono fun e w' ⟨A1, n1, c1, A2, n2, c2, h1, h2, h3, h4, h5, h6⟩ => ⟨A1, n1, c1, A2, n2, c2, h1, Sees.of_own h2, h3 _ (hs.below h6), h4, h5, h6⟩
end Go.Proofs.YtokfajlmephdeaaDoor.Chk
namespace Go.Proofs.YtokfajlmephdeaaDoor.Chk
open Go Go.RowKit Go.Proofs.YtokfajlmephdeaaDoor.Words Go.Proofs.YtokfajlmephdeaaDoor.Enc Go.Proofs.YtokfajlmephdeaaDoor.Made
set_option linter.unusedVariables false

/-- The slice values vs, each in memory of its own above base, hold the lists L. -/
def EachOwn (base : Nat) (w : World) (vs : List Value) (L : List (List UInt8)) : Prop :=
  vs.length = L.length ∧ ∀ (j : Nat) (l : List UInt8), L[j]? = some l → ∃ (A : Option Addr) (c : Nat), vs[j]? = some (Value.slice A l.length c) ∧ w.ownsRow base 5 1 (.slice A l.length c) l.length (cs l)
theorem EachOwn.nil (base : Nat) (w : World) : EachOwn base w [] [] := ⟨rfl, fun j l h => by simp at h⟩
theorem EachOwn.each {base : Nat} {w : World} {vs : List Value} {L : List (List UInt8)} (h : EachOwn base w vs L) : Each w vs L :=
  ⟨h.1, fun j l hl => by
    obtain ⟨A, c, hv, ho⟩ := h.2 j l hl
    exact ⟨A, c, hv, (Own.cap ho).1, Sees.of_own ho⟩⟩
theorem EachOwn.of {base : Nat} {w w' : World} {vs : List Value} {L : List (List UInt8)} (h : EachOwn base w vs L)
    (hf : ∀ (v : Value) (n : Nat) (l : List UInt8), w.ownsRow base 5 1 v n (cs l) → w'.ownsRow base 5 1 v n (cs l)) : EachOwn base w' vs L :=
  ⟨h.1, fun j l hl => by
    obtain ⟨A, c, hv, ho⟩ := h.2 j l hl
    exact ⟨A, c, hv, hf _ _ _ ho⟩⟩
theorem EachOwn.snoc {base : Nat} {w : World} {vs : List Value} {L : List (List UInt8)} (h : EachOwn base w vs L) {A : Option Addr} {c : Nat} {l : List UInt8} (hs : w.ownsRow base 5 1 (.slice A l.length c) l.length (cs l)) : EachOwn base w (vs ++ [.slice A l.length c]) (L ++ [l]) := by
  refine ⟨by simp [h.1], fun j m hm => ?_⟩
  rcases Nat.lt_trichotomy j L.length with hj | hj | hj
  · rw [List.getElem?_append_left hj] at hm
    obtain ⟨A', c', hv, r⟩ := h.2 j m hm
    exact ⟨A', c', by rw [List.getElem?_append_left (by rw [h.1]; exact hj)]; exact hv, r⟩
  · subst hj
    rw [List.getElem?_append_right (Nat.le_refl _)] at hm
    simp at hm
    subst hm
    exact ⟨A, c, by rw [List.getElem?_append_right (by rw [h.1]; exact Nat.le_refl _)]; simp [h.1], hs⟩
  · rw [List.getElem?_eq_none (by simp; omega)] at hm
    cases hm
/-- A row of bytes is no row of slices: what is appended to the one leaves the other alone. -/
theorem own_apart {w w' : World} {base base' : Nat} {v : Value} {k : Nat} {vs : List Value} (hrow : w.ownsRow base' 37 1 v k vs) (hg : w.grownBy w' v.ownBlock) {u : Value} {n : Nat} {l : List UInt8}
    (h : w.ownsRow base 5 1 u n (cs l)) : w'.ownsRow base 5 1 u n (cs l) := by
  refine ⟨h.1, ?_⟩
  rcases h.2 with hn | ⟨g, cap, cur, hv, hgb, hh, r⟩
  · exact .inl hn
  · refine .inr ⟨g, cap, cur, hv, hgb, ?_, r⟩
    rw [hg.block g (Array.getElem?_eq_some_iff.1 hh).1 ?_]
    · exact hh
    · intro e
      rcases hrow.2 with ⟨hv0, _⟩ | ⟨g2, cap2, cur2, hv2, _, hh2, _⟩
      · subst hv0; cases e
      · subst hv2
        injection e with e
        subst e
        rw [hh] at hh2
        injection hh2 with e2
        injection e2 with _ e3
        exact absurd e3 (by decide)

def lenIs : Value → Nat
  | .slice _ m _ => m
  | _ => 0

/-- All's texts, each in memory of its own, and the list of them. -/
def AllOwn (r : List (List UInt8) × Nat × Nat) (w : World) (e : Ending) (w' : World) : Prop :=
  ∃ A n c vs, e = .returned (.tuple #[.slice A n c, .int .i64 (r.2.1 : Int), .int .i64 (r.2.2 : Int)]) ∧ w'.ownsRow w.heap.size 37 1 (.slice A n c) n vs ∧ EachOwn w.heap.size w' vs r.1 ∧ Below w.heap.size w w'

set_option maxRecDepth 100000 in
theorem allR_any (A : Option Addr) (n c : Nat) (p : List UInt8) (most : Int) (w : World) (T : Tabs w) (hs : Sees w A n p) (hc : n ≤ c) (hc2 : c ≤ 9223372036854775807) (hn : n ≤ 600000000) (hm1 : -9223372036854775808 ≤ most) (hm2 : most ≤ 9223372036854775807) :
    Calls Tryd.prog 49 #[.slice A n c, .int .i64 most] w (AllOwn (allL p most) w) := by
  obtain ⟨i, hi, hz, hsz, hby⟩ := info_parts info38
  have hl := hs.1
  go_enter Tryd.func49, Tryd.ntmps49
  go_wp2_with fail
  go_loopw [7, 8] (fun v a wr => ∃ (Al : Option Addr) (k cl at_ f : Nat) (L : List (List UInt8)) (vs : List Value) (R : Option Addr) (m rc : Nat), v = .slice Al k cl ∧ a = .slice R m rc ∧ at_ ≤ n ∧ m = n - at_ ∧ n - at_ < f ∧ k ≤ at_ ∧
      wr.ownsRow w.heap.size 37 1 (.slice Al k cl) k vs ∧ EachOwn w.heap.size wr vs L ∧ Below w.heap.size w wr ∧ (∀ W, Sees W A n p → Sees W R m (p.drop at_)) ∧ m ≤ rc ∧ rc ≤ 9223372036854775807 ∧
      Hid (allL p most = (L ++ (allF most f (p.drop at_)).1, at_ + (allF most f (p.drop at_)).2.1, (allF most f (p.drop at_)).2.2))) (fun _ a _ => lenIs a)
  case atStart => exact ⟨none, 0, 0, 0, n + 1, [], [], A, n, c, rfl, rfl, by omega, by omega, by omega, by omega, World.ownsRow_nil _ _ _ _, EachOwn.nil _ _, Below.refl _ _, fun W h => by simpa using h, hc, hc2, by unfold Hid allL; simp [hl]⟩
  case round =>
    obtain ⟨Al, k, cl, at_, f, L, vs, R, m, rc, rfl, rfl, hat, hm, hf, hka, hown, heach, hb, hpart, hmc, hrc, hall⟩ := hrel
    have hwb := hb.size
    have HM := Lib.hid hm
    have hsee := hpart _ (hs.below hb)
    by_cases hlt : 0 < m
    · have hlt' : (0 : Int) < (m : Int) := by omega
      have hne : p.drop at_ ≠ [] := by
        intro e
        have := hsee.1
        rw [e] at this
        simp at this
        omega
      obtain ⟨f', rfl⟩ : ∃ f', f = f' + 1 := ⟨f - 1, by omega⟩
      have hol := openL_len (p.drop at_) most
      have hok := fun h => (opened_ok_len (v := p.drop at_) (most := most) h)
      have hun : allF most (f' + 1) (p.drop at_) = if (openL (p.drop at_) most).2.2 ≠ 0 then ([], 0, (openL (p.drop at_) most).2.2) else
          ((openL (p.drop at_) most).1 :: (allF most f' ((p.drop at_).drop (openL (p.drop at_) most).2.1)).1, (openL (p.drop at_) most).2.1 + (allF most f' ((p.drop at_).drop (openL (p.drop at_) most).2.1)).2.1, (allF most f' ((p.drop at_).drop (openL (p.drop at_) most).2.1)).2.2) := by
        rw [allF, if_neg hne]
      have hall' := hall.out
      rw [hun] at hall'
      have hm6 : m ≤ 600000000 := by omega
      obtain ⟨r, hr⟩ : ∃ r, r = openL (p.drop at_) most := ⟨_, rfl⟩
      rw [← hr] at hall' hol hok
      have HR := Lib.hid hr
      have HALL := Lib.hid hall'
      have HOK := Lib.hid hok
      clear hr hun hall' hall hne hok hm
      go_wp2_with fail
      refine (openR_any R m rc (p.drop at_) most wr (T.below hb) hsee hmc hrc (by omega) hm1 hm2).mono ?_
      rintro e w2 ⟨A1, n1, c1, A2, n2, c2, rfl, hv1, hv2p, hcc2, hcm2, hb2⟩
      rw [← HR.out] at hv1 hv2p ⊢
      have hown' := Own.below hown hb2 (Nat.le_refl _)
      have b2 := hb.trans (hb2.mono hwb)
      have heach2 := heach.of fun v n l h => Own.below h hb2 (Nat.le_refl _)
      obtain ⟨r1, rk, E⟩ := r
      simp only [] at hv1 hv2p hol ⊢
      have hv2 := hv2p _ (hsee.below hb2)
      rw [hsee.1] at hol
      have hn2 : n2 = m - rk := by have := hv2.1; rw [List.length_drop, hsee.1] at this; omega
      have HN2 := Lib.hid hn2
      clear hn2
      by_cases hE : E = 0
      · subst hE
        have hpos : 4 ≤ rk := HOK.out rfl
        have hall2 := HALL.out
        rw [if_neg (by simp)] at hall2
        simp only [List.drop_drop] at hall2 hv2p
        have HA := Lib.hid hall2
        have hr1 : r1.length = n1 := by have := hv1.1; rw [cs_length] at this; omega
        clear hall2 HOK HALL HR hown
        have hw2 := b2.size
        go_wp2_with (first | (at_builtin; refine wpList_append_own _ rfl _ _ 25 rfl w.heap.size 37 i (.slice none 0 0) 1 24 Tryd.underlying25 hi hz hsz hby rfl (by decide) (.slice Al k cl) k vs rfl (hown'.alloc _) ⟨w2.heap.size, 0, none⟩ 1 1 [.slice A1 n1 c1] rfl rfl ?c1 ?c2 ?c3 ?c4 ?c5 ?_))
        case c1 =>
          intro j u hj
          match j, hj with
          | 0, hj => simp at hj; subst hj; simp [Addr.add]
        case c2 => exact slice_one _ _ _
        case c3 => unfold maxLen; have := HM.out; omega
        case c4 => have := HM.out; omega
        case c5 => exact Nat.le_trans hw2 (by simp)
        intro v' w3 hown3 hgrow _
        have hb3 : Below w.heap.size (w2.alloc (.cells #[.slice A1 n1 c1] 37)) w3 := (Below.refl _ _).grown hgrow (Nat.le_trans hw2 (by simp)) (fun g hg => (hown'.lt g hg).1)
        obtain ⟨A3, c3, rfl, _⟩ := Own.shape hown3
        have hkeep : ∀ (v : Value) (n : Nat) (l : List UInt8), w2.ownsRow w.heap.size 5 1 v n (cs l) → w3.ownsRow w.heap.size 5 1 v n (cs l) := fun v n l h => own_apart (hown'.alloc _) hgrow (h.alloc _)
        have heach3 := heach2.of hkeep
        have hv13 := hkeep _ _ _ (Own.lower hv1 hwb)
        go_wp2
        go_roundw
        case rel =>
          have h1 := HM.out
          have h2 := HN2.out
          refine ⟨A3, k + 1, c3, at_ + rk, f', L ++ [r1], vs ++ [.slice A1 n1 c1], A2, n2, c2, rfl, rfl, by omega, by omega, by omega, by omega, hown3, ?_, (b2.alloc hw2 _).trans hb3, fun W h => hv2p W (hpart W h), hcc2, hcm2, ?_⟩
          · have := heach3.snoc (c := c1) (l := r1) (A := A1) (by rw [hr1]; exact hv13)
            rw [hr1] at this
            exact this
          · have h := HA.out
            unfold Hid
            rw [h]
            simp [Nat.add_assoc]
        case measure => have h2 := HN2.out; simp [lenIs]; omega
      · have hE2 : ((E : Int) != 0) = true := by simp; omega
        have hall2 := HALL.out
        rw [if_pos (by simpa using hE)] at hall2
        have HA := Lib.hid hall2
        have hsub : (n : Int) - (m : Int) = (at_ : Int) := by have := HM.out; omega
        clear hE hall2 HOK HALL HR hown
        go_wp2
        go_ret3
        rw [HA.out]
        exact ⟨Al, k, cl, vs, by simp, hown', by simpa using heach2, b2⟩
    · have hm0 : m = 0 := by omega
      have hat' : at_ = n := by omega
      subst hat'
      subst hm0
      have hdn : p.drop at_ = [] := List.drop_eq_nil_of_le (by omega)
      have hall2 := hall.out
      obtain ⟨f', rfl⟩ : ∃ f', f = f' + 1 := ⟨f - 1, by omega⟩
      rw [hdn, allF, if_pos rfl] at hall2
      have HA := Lib.hid hall2
      clear hall2 hall hdn hm
      go_wp2
      go_ret3
      rw [HA.out]
      exact ⟨Al, k, cl, vs, by simp, hown, by simpa using heach, hb⟩

theorem allOk : AllSaid := fun A n c p most w T hs hc hc2 hn hm1 hm2 => (allR_any A n c p most w T hs hc hc2 hn hm1 hm2).mono fun e w' ⟨A1, n1, c1, vs, h1, h2, h3, h4⟩ => ⟨A1, n1, c1, h1, SeesAll.of_own h2 h3.each, h4⟩
end Go.Proofs.YtokfajlmephdeaaDoor.Chk
