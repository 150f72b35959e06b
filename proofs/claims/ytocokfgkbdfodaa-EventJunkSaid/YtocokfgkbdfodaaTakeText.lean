/- digits.TakeText: its contract; a number has one form alone. digits.TakeText: its contract, walked. -/
import Derived.Test.YtocokfgkbdfodaaTake
import Derived.Test.YtocokfgkbdfodaaFacts
import Derived.Test.YtocokfgkbdfodaaShelf
namespace Go.Proofs.Ytocokfgkbdfodaa.Take
open Go Go.RowKit Go.Proofs.Ytocokfgkbdfodaa.Words Go.Proofs.Ytocokfgkbdfodaa.Enc
set_option linter.unusedVariables false

/-! numbers -/
theorem tk_err : ∀ (l : List UInt8) (i m : Nat), (tk i m l).2.2 ≠ 0 → (tk i m l).1 = 0 ∧ (tk i m l).2.1 = 0
  | [], i, m, h => ⟨rfl, rfl⟩
  | b :: r, i, m, h => by
    unfold tk at h ⊢
    split
    · exact ⟨rfl, rfl⟩
    · rename_i h1
      rw [if_neg h1] at h
      split
      · rename_i h2
        rw [if_pos h2] at h
        exact absurd rfl h
      · rename_i h2
        rw [if_neg h2] at h
        exact tk_err r _ _ h
theorem tk_canon : ∀ (l : List UInt8) (i m N K : Nat), i ≤ 9 → tk i m l = (N, K, 0) → ∃ y, N = m + y * 2 ^ (7 * i) ∧ i + (enc y).length = K ∧ l.take (enc y).length = enc y ∧ (0 < i → 0 < y)
  | [], i, m, N, K, hi, h => by simp [tk] at h
  | b :: r, i, m, N, K, hi, h => by
    have hb := b.toNat_lt
    by_cases h1 : (0 < i ∧ b = 0) ∨ (i = 9 ∧ 1 < b.toNat)
    · unfold tk at h
      rw [if_pos h1] at h
      simp at h
    by_cases h2 : b.toNat < 128
    · unfold tk at h
      rw [if_neg h1, if_pos h2] at h
      injection h with h3 h4
      injection h4 with h4 _
      refine ⟨b.toNat, h3.symm, ?_, ?_, ?_⟩
      · rw [enc_small h2]; exact h4
      · rw [enc_small h2]; simp [b8]
      · intro h0
        rcases Nat.eq_zero_or_pos b.toNat with hz | hz
        · exact absurd (.inl ⟨h0, UInt8.toNat_inj.1 hz⟩) h1
        · exact hz
    · have hi9 : i ≠ 9 := fun e => h1 (.inr ⟨e, by omega⟩)
      rw [tk_next hi9 h2] at h
      obtain ⟨y, e1, e2, e3, e4⟩ := tk_canon r (i + 1) _ N K (by omega) h
      have hy := e4 (by omega)
      have hm : (b.toNat % 128 + 128 * y) % 128 = b.toNat % 128 := by omega
      have hd : (b.toNat % 128 + 128 * y) / 128 = y := by omega
      refine ⟨b.toNat % 128 + 128 * y, ?_, ?_, ?_, fun _ => by omega⟩
      · rw [e1, Nat.add_mul, Nat.add_assoc, show 7 * (i + 1) = 7 * i + 7 by omega, Nat.pow_add]
        congr 2
        rw [Nat.mul_comm (2 ^ (7 * i)) (2 ^ 7), ← Nat.mul_assoc, Nat.mul_comm y]
      · rw [enc_great (by omega), hd]
        simp only [List.length_cons]
        omega
      · rw [enc_great (by omega), hd, hm]
        simp only [List.length_cons, List.take_succ_cons, e3]
        congr 1
        apply UInt8.toNat_inj.1
        rw [b8_toNat]
        omega
theorem tk_one {l : List UInt8} {N K : Nat} (h : tk 0 0 l = (N, K, 0)) : l.take K = enc N ∧ (enc N).length = K := by
  obtain ⟨y, e1, e2, e3, _⟩ := tk_canon l 0 0 N K (by omega) h
  simp at e1 e2
  subst e1
  exact ⟨by rw [← e2]; exact e3, e2⟩

/-! TakeText -/
/-- What TakeText tells: the text, how many bytes, the error. -/
def texted (l : List UInt8) (most : Int) (t : Nat × Nat × Nat) : List UInt8 × Nat × Nat :=
  if t.2.2 ≠ 0 then ([], 0, t.2.2)
  else if most < 0 ∨ most < (t.1 : Int) then ([], 0, 6)
  else if l.length - t.2.1 < t.1 then ([], 0, 5)
  else ((l.drop t.2.1).take t.1, t.2.1 + t.1, 0)
/-- A text of its own, what follows in what was given, the error. -/
def Gives3 (PA : Option Addr) (PN : Nat) (l : List UInt8) (r : List UInt8 × Nat × Nat) (w : World) (e : Ending) (w' : World) : Prop :=
  ∃ A n c A2 n2 c2, e = .returned (.tuple #[.slice A n c, .slice A2 n2 c2, .int .i64 (r.2.2 : Int)]) ∧ w'.ownsRow w.heap.size 5 1 (.slice A n c) n (cs r.1) ∧ (∀ W, Sees W PA PN l → Sees W A2 n2 (l.drop r.2.1)) ∧ n2 ≤ c2 ∧ c2 ≤ 9223372036854775807 ∧ Below w.heap.size w w'

/-- bytes.Clone. -/
theorem clone_any (A : Option Addr) (n c : Nat) (l : List UInt8) (w : World) (hs : Sees w A n l) (hn : n ≤ 1000000000) :
    Calls Try.prog 32 #[.slice A n c] w fun e w' => ∃ A' c', e = .returned (.slice A' n c') ∧ w'.ownsRow w.heap.size 5 1 (.slice A' n c') n (cs l) ∧ Below w.heap.size w w' := by
  cases A with
  | none =>
    refine (Try.bytes_Clone_nil n c w).mono ?_
    rintro e w' ⟨rfl, rfl⟩
    have h0 : n = 0 := by
      rcases Nat.eq_zero_or_pos n with h | h
      · exact h
      · obtain ⟨b, o, e, _⟩ := hs.2 h
        cases e
    subst h0
    have hl0 : l = [] := List.eq_nil_of_length_eq_zero hs.1
    subst hl0
    exact ⟨none, 0, rfl, Own.nil _ _ _, Below.refl _ _⟩
  | some a =>
    have hl := hs.1
    refine (Try.bytes_Clone_at a n c (l.map fun b => (b.toNat : Int)) w (by simpa using hl) (by omega) fun i hi => ?_).mono ?_
    · obtain ⟨b, o, e, hc⟩ := hs.2 (by omega)
      injection e with e
      subst e
      have hil : i < l.length := by omega
      rw [add_plain, hc i l[i] (List.getElem?_eq_getElem hil)]
      simp [hil]
    · rintro e w' ⟨v', rfl, hown, _, hb⟩
      rw [List.map_map] at hown
      obtain ⟨A', c', rfl, _⟩ := Own.shape hown
      exact ⟨A', c', rfl, hown, hb⟩
end Go.Proofs.Ytocokfgkbdfodaa.Take
namespace Go.Proofs.Ytocokfgkbdfodaa.Take
open Go Go.RowKit Go.Proofs.Ytocokfgkbdfodaa.Words Go.Proofs.Ytocokfgkbdfodaa.Enc
set_option linter.unusedVariables false

/-- The value is a slice that the call owns. -/
def ownPred (base n : Nat) (l : List UInt8) : Facts.Pred := ⟨fun v w => ∃ A c, v = .slice A n c ∧ w.ownsRow base 5 1 (.slice A n c) n (cs l), fun _ _ _ ⟨A, c, h, hs⟩ hb => ⟨A, c, h, Own.below hs hb (Nat.le_refl _)⟩⟩
/-- The value is a slice that shows m wherever PA shows l, with its room. -/
def partPred (PA : Option Addr) (PN : Nat) (l : List UInt8) (n : Nat) (m : List UInt8) : Facts.Pred := ⟨fun v w => ∃ A c, v = .slice A n c ∧ (∀ W, Sees W PA PN l → Sees W A n m) ∧ n ≤ c ∧ c ≤ 9223372036854775807, fun _ _ _ h _ => h⟩

theorem gives3_err {PA : Option Addr} {PN : Nat} {l : List UInt8} {w w' : World} {A2 : Option Addr} {n c2 E : Nat} (h2 : ∀ W, Sees W PA PN l → Sees W A2 n l) (hc : n ≤ c2) (hc2 : c2 ≤ 9223372036854775807) (hb : Below w.heap.size w w') {F : Int} (hF : F = (E : Int)) :
    Gives3 PA PN l ([], 0, E) w (.returned (.tuple #[.slice none 0 0, .slice A2 n c2, .int .i64 F])) w' := by
  subst hF
  exact ⟨none, 0, 0, A2, n, c2, rfl, Own.nil _ _ _, h2, hc, hc2, hb⟩

set_option maxRecDepth 100000 in
theorem takeText_any (A : Option Addr) (n c : Nat) (l : List UInt8) (most : Int) (w : World) (hs : Sees w A n l) (hc : n ≤ c) (hn : n ≤ 1000000000) (hm1 : -9223372036854775808 ≤ most) (hm2 : most ≤ 9223372036854775807) :
    Calls Try.prog 63 #[.slice A n c, .int .i64 most] w (Gives3 A n l (texted l most (tk 0 0 l)) w) := by
  have hl := hs.1
  have htl := tk_len l 0 0
  have hte := tk_err l 0 0
  rw [Nat.zero_add, hl] at htl
  go_enter Try.func63, Try.ntmps63
  go_wp2_with fail
  refine (take_any A n c l w hs hc hn).mono ?_
  rintro e w1 ⟨A', c', rfl, hv, d, rfl, hpart, hc1, hc2⟩
  have hb : Below w.heap.size w (w.drewN d) := ⟨rfl, rfl, rfl, Nat.le_refl _, fun _ _ => rfl⟩
  obtain ⟨t, ht⟩ : ∃ t, t = tk 0 0 l := ⟨_, rfl⟩
  rw [← ht] at hv hpart hc1 htl hte ⊢
  have HO : Hid (texted l most (tk 0 0 l) = texted l most t) := by rw [ht]; exact rfl
  clear ht
  obtain ⟨N, K, E⟩ := t
  simp only [] at hv hpart hc1 htl hte ⊢
  by_cases hE : E = 0
  · subst hE
    by_cases h6 : most < 0 ∨ most < (N : Int)
    · have HP : Hid (texted l most (tk 0 0 l) = ([], 0, 6)) := by rw [HO.out]; unfold Hid texted; simp [h6]
      by_cases h0 : most < 0
      · clear h6
        go_wp2_with fail
        refine (clip_any A n c _ hc hn).mono ?_
        rintro e w2 ⟨rfl, rfl⟩
        go_wp2
        go_ret3
        rw [HP.out]
        exact gives3_err (fun W h => h) (Nat.le_refl _) (by omega) hb rfl
      · have h6' : most < (N : Int) := by omega
        have h0' : decide (most < 0) = false := by simp; omega
        have hp : 0 ≤ most := by omega
        clear h6 h0
        go_wp2_with fail
        refine (clip_any A n c _ hc hn).mono ?_
        rintro e w2 ⟨rfl, rfl⟩
        go_wp2
        go_ret3
        rw [HP.out]
        exact gives3_err (fun W h => h) (Nat.le_refl _) (by omega) hb rfl
    · have hp : 0 ≤ most := by omega
      have h0' : decide (most < 0) = false := by simp; omega
      have h6' : decide (most < (N : Int)) = false := by simp; omega
      by_cases h5 : n - K < N
      · have HP : Hid (texted l most (tk 0 0 l) = ([], 0, 5)) := by rw [HO.out]; unfold Hid texted; simp [h6, hl, h5]
        have h5' : ((n - K : Nat) : Int) < (N : Int) := by omega
        clear h6
        go_wp2_with fail
        refine (clip_any A n c _ hc hn).mono ?_
        rintro e w2 ⟨rfl, rfl⟩
        go_wp2
        go_ret3
        rw [HP.out]
        exact gives3_err (fun W h => h) (Nat.le_refl _) (by omega) hb rfl
      · have h5' : decide (((n - K : Nat) : Int) < (N : Int)) = false := by simp; omega
        have HP : Hid (texted l most (tk 0 0 l) = ((l.drop K).take N, K + N, 0)) := by rw [HO.out]; unfold Hid texted; simp [h6, hl, h5]
        have hN : N ≤ n - K := by omega
        clear h6 h5
        go_wp2_with fail
        have hNc : N ≤ c' := by omega
        refine Facts.wp_region_preds (n := 47) (by kernel_rfl) (by kernel_rfl) rfl [Facts.Pred.is (Value.slice A' (n - K) c'), Facts.Pred.is (Value.int .u64 (N : Int)), Facts.Pred.shows N ((l.drop K).take N), ownPred w.heap.size N ((l.drop K).take N), Facts.Pred.is (Value.slice A' (n - K) c'), Facts.Pred.is (Value.int .u64 (N : Int)), partPred A n l (n - K - N) ((l.drop K).drop N), ownPred w.heap.size N ((l.drop K).take N), partPred A n l (n - K - N) ((l.drop K).drop N), Facts.Pred.is (Value.int .i64 0)] ?_ ?_
        · refine ⟨?_, ?_, ?_, ?_, ?_, ?_, ?_, ?_, ?_, ?_, trivial⟩
          · refine Facts.step_is (Value.slice A' (n - K) c') fun a W hR hold hnew => ?_
            have f8 : a.tmps.getD 8 undef = Value.slice A' (n - K) c' := hold 8 (by kernel_rfl)
            refine ⟨Facts.wanted_free rfl, ?_, fun _ => rfl⟩
            simp [go_sem, Act.eval, f8]
          · refine Facts.step_is (Value.int .u64 (N : Int)) fun a W hR hold hnew => ?_
            have f7 : a.tmps.getD 7 undef = Value.int .u64 (N : Int) := hold 7 (by kernel_rfl)
            refine ⟨Facts.wanted_free rfl, ?_, fun _ => rfl⟩
            simp [go_sem, Act.eval, f7]
          · -- 2: Op.slice 22 t40 none (some t41) none
            refine Facts.step_some fun a W hR hold hnew => ?_
            have f40 : a.tmps.getD 40 undef = Value.slice A' (n - K) c' := hnew 0 40 (by kernel_rfl); have f41 : a.tmps.getD 41 undef = Value.int .u64 (N : Int) := hnew 1 41 (by kernel_rfl)
            refine ⟨Facts.wanted_free rfl, .slice A' N c', by simp [go_sem, Act.eval, f40, f41, hNc], _, _, rfl, (hv.drew.below hR).take hN⟩
          · -- 3: Op.call { value (Operand.func 31), args := #[t42], argTypes 
            refine Facts.step_call fun a W hR hold hnew => ?_
            have h42 : ∃ A5 c5, a.tmps.getD 42 undef = .slice A5 N c5 ∧ Sees W A5 N ((l.drop K).take N) := hnew 2 42 (by kernel_rfl)
            obtain ⟨A5, c5, f42, hs5⟩ := h42
            refine ⟨Facts.wanted_free rfl, 32, #[.slice A5 N c5], by simp [go_sem, Act.eval, f42], ?_⟩
            refine (clone_any A5 N c5 _ W hs5 (by omega)).mono ?_
            rintro e w7 ⟨A6, c6, rfl, hs6, hb6⟩
            exact ⟨_, rfl, hb6, A6, c6, rfl, Own.lower hs6 hR.size⟩
          · refine Facts.step_is (Value.slice A' (n - K) c') fun a W hR hold hnew => ?_
            have f8 : a.tmps.getD 8 undef = Value.slice A' (n - K) c' := hold 8 (by kernel_rfl)
            refine ⟨Facts.wanted_free rfl, ?_, fun _ => rfl⟩
            simp [go_sem, Act.eval, f8]
          · refine Facts.step_is (Value.int .u64 (N : Int)) fun a W hR hold hnew => ?_
            have f7 : a.tmps.getD 7 undef = Value.int .u64 (N : Int) := hold 7 (by kernel_rfl)
            refine ⟨Facts.wanted_free rfl, ?_, fun _ => rfl⟩
            simp [go_sem, Act.eval, f7]
          · -- 6: Op.slice 22 t44 (some t45) none none
            refine Facts.step_some fun a W hR hold hnew => ?_
            have f44 : a.tmps.getD 44 undef = Value.slice A' (n - K) c' := hnew 4 44 (by kernel_rfl); have f45 : a.tmps.getD 45 undef = Value.int .u64 (N : Int) := hnew 5 45 (by kernel_rfl)
            refine ⟨Facts.wanted_free rfl, .slice (if c' = N then A' else Option.map (fun x => x.add N) A') (n - K - N) (c' - N), by simp [go_sem, Act.eval, f44, f45, hN], _, _, rfl, fun W h => (hpart W h).cut hN (by intro b o h e; subst e; rw [if_neg (by omega)]; simp [add_plain]), by omega, by omega⟩
          · -- 7: Op.assign t43
            refine Facts.step_some fun a W hR hold hnew => ?_
            have h43 : ∃ A5 c5, a.tmps.getD 43 undef = .slice A5 N c5 ∧ W.ownsRow w.heap.size 5 1 (.slice A5 N c5) N (cs ((l.drop K).take N)) := hnew 3 43 (by kernel_rfl)
            obtain ⟨A5, c5, f43, hs5⟩ := h43
            exact ⟨Facts.wanted_free rfl, .slice A5 N c5, by simp [go_sem, Act.eval, f43], A5, c5, rfl, hs5⟩
          · -- 8: Op.assign t46
            refine Facts.step_some fun a W hR hold hnew => ?_
            have h46 : ∃ A5 c5, a.tmps.getD 46 undef = .slice A5 (n - K - N) c5 ∧ (∀ W, Sees W A n l → Sees W A5 (n - K - N) ((l.drop K).drop N)) ∧ n - K - N ≤ c5 ∧ c5 ≤ 9223372036854775807 := hnew 6 46 (by kernel_rfl)
            obtain ⟨A5, c5, f46, hs5⟩ := h46
            exact ⟨Facts.wanted_free rfl, .slice A5 (n - K - N) c5, by simp [go_sem, Act.eval, f46], A5, c5, rfl, hs5⟩
          · refine Facts.step_is (Value.int .i64 0) fun a W hR hold hnew => ?_
            refine ⟨Facts.wanted_free rfl, ?_, fun _ => rfl⟩
            simp [go_sem, Act.eval]
        · intro a w' hR' _ hdef hnew _
          have f6 : a.tmps.getD 6 undef = .int .i64 0 := hnew 9 6 (by kernel_rfl)
          have h4 : ∃ A5 c5, a.tmps.getD 4 undef = .slice A5 N c5 ∧ w'.ownsRow w.heap.size 5 1 (.slice A5 N c5) N (cs ((l.drop K).take N)) := hnew 7 4 (by kernel_rfl)
          have h5 : ∃ A5 c5, a.tmps.getD 5 undef = .slice A5 (n - K - N) c5 ∧ (∀ W, Sees W A n l → Sees W A5 (n - K - N) ((l.drop K).drop N)) ∧ n - K - N ≤ c5 ∧ c5 ≤ 9223372036854775807 := hnew 8 5 (by kernel_rfl)
          obtain ⟨A5, c5, f4, hs5⟩ := h4
          obtain ⟨A6, c6, f5, hs6, hc6, hc7⟩ := h5
          go_wp2
          try simp only [Exit.inBlock, Exit.then]
          refine bodyPost_ret (results_tmp3 rfl _ _ _) hdef ?_
          rw [f4, f5, f6, HP.out]
          refine ⟨A5, N, c5, A6, n - K - N, c6, rfl, hs5, ?_, hc6, hc7, hb.drew.trans (hR'.mono hb.drew.size)⟩
          rw [List.drop_drop] at hs6
          exact hs6
  · have hE' : ((E : Int) == 0) = false := by simp; omega
    have HP : Hid (texted l most (tk 0 0 l) = ([], 0, E)) := by rw [HO.out]; unfold Hid texted; simp [hE]
    have hE2 : ((E : Int) != 0) = true := by simp; omega
    have hK := (hte hE).2
    subst hK
    clear hE
    go_wp2
    go_ret3
    rw [HP.out]
    exact gives3_err hpart hc1 hc2 hb rfl
end Go.Proofs.Ytocokfgkbdfodaa.Take
