/- digits.Take: its contract at whatever bytes. -/
import Derived.Test.YtpfmgjfkjjnadaaRows
import Derived.Test.YtpfmgjfkjjnadaaWords
import Derived.Test.YtpfmgjfkjjnadaaEnc
import Derived.Handy
import Derived.Lib.Hide
import Derived.Deep.QuietTactic
import Derived.BigQuiet
namespace Go.Proofs.Ytpfmgjfkjjnadaa.Take
open Go Go.RowKit Go.Proofs.Ytpfmgjfkjjnadaa.Words Go.Proofs.Ytpfmgjfkjjnadaa.Enc
set_option linter.unusedVariables false

/-- slices.Clip. -/
theorem clip_any (A : Option Addr) (n c : Nat) (w : World) (hc : n ≤ c) (hn : n ≤ 1000000000) :
    Calls Try.prog 35 #[.slice A n c] w fun e w' => e = .returned (.slice A n n) ∧ w' = w := by
  go_enter Try.func35, Try.ntmps35
  go_wp2
  go_ret
  exact ⟨rfl, rfl⟩

/-- What Take comes to: the number, what follows it, the error. -/
def Took (A : Option Addr) (n : Nat) (l : List UInt8) (w : World) (e : Ending) (w' : World) : Prop :=
  ∃ A' c', e = .returned (.tuple #[.int .u64 ((tk 0 0 l).1 : Int), .slice A' (n - (tk 0 0 l).2.1) c', .int .i64 ((tk 0 0 l).2.2 : Int)]) ∧ Sees w' A' (n - (tk 0 0 l).2.1) (l.drop (tk 0 0 l).2.1) ∧ ∃ d, w' = w.drewN d ∧ (∀ W, Sees W A n l → Sees W A' (n - (tk 0 0 l).2.1) (l.drop (tk 0 0 l).2.1)) ∧ n - (tk 0 0 l).2.1 ≤ c' ∧ c' ≤ 9223372036854775807

theorem took_end {w : World} {A : Option Addr} {n : Nat} {l : List UInt8} (hs : Sees w A n l) {k N : Nat} (hk : k ≤ n) (HE : tk 0 0 l = (N, k, 0)) {A' : Option Addr} {m c' : Nat} (hm : m = n - k) (hmc : m ≤ c' ∧ c' ≤ 9223372036854775807)
    (hA : ∀ b o, k < n → A = some ⟨b, o, none⟩ → A' = some ⟨b, o + k, none⟩) {X : Int} (hX : X = (N : Int)) (d : Nat) :
    Took A n l w (.returned (.tuple #[.int .u64 X, .slice A' m c', .int .i64 0])) (w.drewN d) := by
  subst hm
  subst hX
  refine ⟨A', c', by rw [HE]; rfl, ?_, d, rfl, ?_⟩
  · rw [HE]
    exact (hs.cut hk hA).drewN d
  · rw [HE]
    exact ⟨fun W h => h.cut hk hA, hmc⟩
theorem took_err {w : World} {A : Option Addr} {n : Nat} {l : List UInt8} (hs : Sees w A n l) {E : Nat} (HE : tk 0 0 l = (0, 0, E)) (c' : Nat) (hmc : n ≤ c' ∧ c' ≤ 9223372036854775807) {F : Int} (hF : F = (E : Int)) :
    Took A n l w (.returned (.tuple #[.int .u64 0, .slice A n c', .int .i64 F])) w := by
  subst hF
  refine ⟨A, c', by rw [HE]; rfl, ?_, 0, rfl, ?_⟩
  · rw [HE]
    exact hs
  · rw [HE]
    exact ⟨fun W h => h, hmc⟩

theorem take_any (A : Option Addr) (n c : Nat) (l : List UInt8) (w : World) (hs : Sees w A n l) (hc : n ≤ c) (hn : n ≤ 1000000000) :
    Calls Try.prog 42 #[.slice A n c] w (Took A n l w) := by
  go_enter Try.func42, Try.ntmps42
  go_wp2_with fail
  refine (clip_any A n c _ hc hn).mono ?_
  rintro e w' ⟨rfl, rfl⟩
  go_wp2_with fail
  have hl := hs.1
  have start : tk 0 0 l = tk 0 0 (l.drop 0) := rfl
  go_loop [5, 12] (fun v i => ∃ k m : Nat, k ≤ n ∧ k ≤ 9 ∧ v = .int .u64 (m : Int) ∧ i = .int .i64 (k : Int) ∧ Hid (tk 0 0 l = tk k m (l.drop k) ∧ m < 2 ^ (7 * k))) (fun _ i => n - (intOf i).toNat)
  case atStart => exact ⟨0, 0, by omega, by omega, rfl, rfl, rfl, by simp⟩
  case round =>
    obtain ⟨k, m, hkn, hk9, rfl, rfl, hr⟩ := hrel
    by_cases hlt : k < n
    · obtain ⟨b, o, rfl, hcell⟩ := hs.2 (by omega)
      have hkl : k < l.length := by omega
      have hc1 := hcell k l[k] (List.getElem?_eq_getElem hkl)
      have hd : l.drop k = l[k] :: l.drop (k + 1) := List.drop_eq_getElem_cons hkl
      have HD := Lib.hid hd
      clear hd
      generalize l[k] = u at HD hc1
      have hu : u.toNat < 256 := u.toNat_lt
      have HZ : Hid ((u = 0) = (u.toNat = 0)) := by unfold Hid; rw [← UInt8.toNat_inj]; rfl
      have HC := Lib.hid hcell
      clear hcell
      have hout := hr.out
      have HT : Hid (tk 0 0 l = tk k m (u :: l.drop (k + 1))) := by rw [← HD.out]; exact hout.1
      have hm := hout.2
      clear hout hr HZ

      rcases (show k = 0 ∨ (0 < k ∧ k < 9) ∨ k = 9 by omega) with k0 | k1 | k9
      · have hk0 : decide ((0 : Int) < (k : Int)) = false := by simp; omega
        have hk0' : decide (0 < k) = false := by simp; omega
        have h9 : ((k : Int) == 9) = false := by simp; omega
        by_cases ht : u.toNat < 128
        · have htop := top_no _ ht
          have HV := Lib.hid (num_step m u.toNat k hm hu hk9 (by omega))
          have HE : Hid (tk 0 0 l = (m + (u.toNat % 128) * 2 ^ (7 * k), k + 1, 0)) := by rw [HT.out]; exact tk_end (.inl k0) (by omega) ht
          clear hm HT k0 start
          by_cases hlast : n = k + 1
          · subst hlast
            go_wp2
            go_quiet (fail)
            go_wp2
            go_ret3
            refine took_end hs (by omega) HE.out ?_ (by omega) ?_ HV.out _
            · omega
            · rintro _ _ h e; omega
          · go_wp2
            go_quiet (fail)
            go_wp2
            go_ret3
            refine took_end hs (by omega) HE.out ?_ (by omega) ?_ HV.out _
            · omega
            · rintro _ _ h e; injection e with e; injection e with e1 e2; subst e1; subst e2; rfl
        · have htop := top_yes _ hu ht
          have HV := Lib.hid (num_step m u.toNat k hm hu hk9 (by omega))
          have HE : Hid (tk 0 0 l = tk (k + 1) (m + (u.toNat % 128) * 2 ^ (7 * k)) (l.drop (k + 1))) := by rw [HT.out]; exact tk_next (by omega) ht
          have HM := Lib.hid (next_lt m u.toNat k hm)
          have hk8 : k < 9 := by omega
          clear hm HT k0 start
          go_wp2
          go_round
          case rel => exact ⟨k + 1, m + (u.toNat % 128) * 2 ^ (7 * k), by omega, by omega, by rw [HV.out], by go_num, HE.out, HM.out⟩
          case measure => simp [intOf]; omega
      · obtain ⟨k1, k2⟩ := k1
        have hk0 : (0 : Int) < (k : Int) := by omega
        have h9 : ((k : Int) == 9) = false := by simp; omega
        by_cases hz : u.toNat = 0
        · have hzb : ((u.toNat : Int) == 0) = true := by simp [hz]
          have HE : Hid (tk 0 0 l = (0, 0, 4)) := by rw [HT.out]; exact tk_bad0 k1 hz
          clear hm HT start hz
          go_wp2
          go_ret3
          exact took_err hs HE.out _ (by omega) rfl
        · have hzb : ((u.toNat : Int) == 0) = false := by simp; omega
          by_cases ht : u.toNat < 128
          · have htop := top_no _ ht
            have HV := Lib.hid (num_step m u.toNat k hm hu hk9 (by omega))
            have HE : Hid (tk 0 0 l = (m + (u.toNat % 128) * 2 ^ (7 * k), k + 1, 0)) := by rw [HT.out]; exact tk_end (.inr hz) (by omega) ht
            clear hm HT start hz
            by_cases hlast : n = k + 1
            · subst hlast
              go_wp2
              go_quiet (fail)
              go_wp2
              go_ret3
              refine took_end hs (by omega) HE.out ?_ (by omega) ?_ HV.out _
              · omega
              · rintro _ _ h e; omega
            · go_wp2
              go_quiet (fail)
              go_wp2
              go_ret3
              refine took_end hs (by omega) HE.out ?_ (by omega) ?_ HV.out _
              · omega
              · rintro _ _ h e; injection e with e; injection e with e1 e2; subst e1; subst e2; rfl
          · have htop := top_yes _ hu ht
            have HV := Lib.hid (num_step m u.toNat k hm hu hk9 (by omega))
            have HE : Hid (tk 0 0 l = tk (k + 1) (m + (u.toNat % 128) * 2 ^ (7 * k)) (l.drop (k + 1))) := by rw [HT.out]; exact tk_next (by omega) ht
            have HM := Lib.hid (next_lt m u.toNat k hm)
            clear hm HT start hz
            go_wp2
            go_round
            case rel => exact ⟨k + 1, m + (u.toNat % 128) * 2 ^ (7 * k), by omega, by omega, by rw [HV.out], by go_num, HE.out, HM.out⟩
            case measure => simp [intOf]; omega
      · subst k9
        by_cases hz : u.toNat = 0
        · have hzb : ((u.toNat : Int) == 0) = true := by simp [hz]
          have HE : Hid (tk 0 0 l = (0, 0, 4)) := by rw [HT.out]; exact tk_bad0 (by omega) hz
          clear hm HT start hz
          go_wp2
          go_ret3
          exact took_err hs HE.out _ (by omega) rfl
        · have hzb : ((u.toNat : Int) == 0) = false := by simp; omega
          by_cases hone : 1 < u.toNat
          · have hone' : (1 : Int) < (u.toNat : Int) := by omega
            have HE : Hid (tk 0 0 l = (0, 0, 4)) := by rw [HT.out]; exact tk_bad9 hone
            clear hm HT start hz
            go_wp2
            go_ret3
            exact took_err hs HE.out _ (by omega) rfl
          · have hone' : decide ((1 : Int) < (u.toNat : Int)) = false := by simp; omega
            have htop := top_no u.toNat (by omega)
            have HV := Lib.hid (num_step m u.toNat 9 hm hu hk9 (by omega))
            have HE : Hid (tk 0 0 l = (m + (u.toNat % 128) * 2 ^ (7 * 9), 9 + 1, 0)) := by rw [HT.out]; exact tk_end (.inr hz) (by omega) (by omega)
            clear hm HT start hz
            by_cases hlast : n = 9 + 1
            · subst hlast
              go_wp2
              go_quiet (fail)
              go_wp2
              go_ret3
              refine took_end hs (by omega) HE.out ?_ (by omega) ?_ HV.out _
              · omega
              · rintro _ _ h e; omega
            · go_wp2
              go_quiet (fail)
              go_wp2
              go_ret3
              refine took_end hs (by omega) HE.out ?_ (by omega) ?_ HV.out _
              · omega
              · rintro _ _ h e; injection e with e; injection e with e1 e2; subst e1; subst e2; rfl
    · have hkn' : k = n := by omega
      have HE : Hid (tk 0 0 l = (0, 0, 5)) := by
        rw [hr.out.1, List.drop_eq_nil_of_le (by omega)]
        rfl
      clear start hr
      subst hkn'
      go_wp2
      go_ret3
      exact took_err hs HE.out _ (by omega) rfl
end Go.Proofs.Ytpfmgjfkjjnadaa.Take
