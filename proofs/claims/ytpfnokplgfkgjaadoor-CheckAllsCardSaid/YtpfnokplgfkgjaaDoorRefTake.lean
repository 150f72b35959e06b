/- anabranchref01.Take: its contract. -/
import Derived.Test.YtpfnokplgfkgjaaDoorBGround
import Derived.Handy
import Derived.Lib.Hide
namespace Go.Proofs.YtpfnokplgfkgjaaDoor.RefTake
open Go Go.RowKit Go.Proofs.YtpfnokplgfkgjaaDoor.Words Go.Proofs.YtpfnokplgfkgjaaDoor.Enc
set_option linter.unusedVariables false

/-- The document's Take adds where the code joins bits: the same number. -/
theorem add_step (m u k : Nat) (hm : m < 2 ^ (7 * k)) (hu : u < 256) (hk : k ≤ 9) (h9 : k = 9 → u % 128 ≤ 1) :
    IntKind.u64.wrap ((m : Int) + IntKind.u64.wrap ((u : Int) % 128 * 2 ^ (7 * k))) = ((m + (u % 128) * 2 ^ (7 * k) : Nat) : Int) := by
  have hlt : u % 128 < 128 := Nat.mod_lt _ (by omega)
  have hb : m + (u % 128) * 2 ^ (7 * k) < 18446744073709551616 := by
    by_cases h : k = 9
    · have := h9 h
      subst h
      have : (u % 128) * 2 ^ (7 * 9) ≤ 1 * 2 ^ (7 * 9) := Nat.mul_le_mul_right _ this
      omega
    · have h8 := pow_u64 k (by omega)
      have : (u % 128) * 2 ^ (7 * k) ≤ 127 * 2 ^ (7 * k) := Nat.mul_le_mul_right _ (by omega)
      omega
  have e : (u : Int) % 128 * 2 ^ (7 * k) = (((u % 128) * 2 ^ (7 * k) : Nat) : Int) := by
    rw [Int.natCast_mul, Int.natCast_pow, Int.natCast_emod]; rfl
  rw [e, wrap_in _ (by omega), ← Int.natCast_add, wrap_in _ hb]

set_option maxRecDepth 100000 in
theorem refTake_any (A : Option Addr) (n c : Nat) (l : List UInt8) (w : World) (hs : Sees w A n l) (hn : n ≤ 1000000000) :
    Calls Tryd.prog 25 #[.slice A n c] w fun e w' => e = .returned (.tuple #[.int .u64 ((tk 0 0 l).1 : Int), .int .i64 ((tk 0 0 l).2.1 : Int), .int .i64 ((tk 0 0 l).2.2 : Int)]) ∧ w' = w := by
  have hl := hs.1
  go_enter Tryd.func25, Tryd.ntmps25
  go_wp2_with fail
  go_loop [5, 6] (fun v i => ∃ k m : Nat, k ≤ n ∧ k ≤ 9 ∧ v = .int .u64 (m : Int) ∧ i = .int .i64 (k : Int) ∧ Hid (tk 0 0 l = tk k m (l.drop k) ∧ m < 2 ^ (7 * k))) (fun _ i => n - (intOf i).toNat)
  case atStart => exact ⟨0, 0, by omega, by omega, rfl, rfl, rfl, by simp⟩
  case round =>
    obtain ⟨k, m, hkn, hk9, rfl, rfl, hr⟩ := hrel
    by_cases hlt : k < n
    · obtain ⟨b, o, rfl, hcell⟩ := hs.2 (by omega)
      have hkl : k < l.length := by omega
      have hc1 := hcell k l[k] (List.getElem?_eq_getElem hkl)
      have hd : l.drop k = l[k] :: l.drop (k + 1) := List.drop_eq_getElem_cons hkl
      have HD := Lib.hid hd
      clear hd hcell
      generalize l[k] = u at HD hc1
      have hout := hr.out
      have HT : Hid (tk 0 0 l = tk k m (u :: l.drop (k + 1))) := by rw [← HD.out]; exact hout.1
      have hm := hout.2
      have hu : u.toNat < 256 := u.toNat_lt
      obtain ⟨z, hz⟩ : ∃ z, z = u.toNat := ⟨_, rfl⟩
      rw [← hz] at hc1 hu
      have HZ := Lib.hid hz
      clear hout hr hs hz
      rcases (show k = 0 ∨ (0 < k ∧ k < 9) ∨ k = 9 by omega) with k0 | k1 | k9
      · have hk0 : decide ((0 : Int) < (k : Int)) = false := by simp; omega
        have hk0' : decide (0 < k) = false := by simp; omega
        have h9 : ((k : Int) == 9) = false := by simp; omega
        have K0 := Lib.hid k0
        by_cases ht : z < 128
        · have ht' : (z : Int) < 128 := by omega
          have HV := Lib.hid (add_step m z k hm hu (by omega) (by omega))
          have HE : Hid (tk 0 0 l = (m + (z % 128) * 2 ^ (7 * k), k + 1, 0)) := by rw [HT.out, HZ.out]; exact tk_end (.inl k0) (by have := HZ.out; omega) (by have := HZ.out; omega)
          clear hm HT k0
          go_wp2
          go_ret3
          rw [HE.out]
          exact ⟨by rw [← HV.out]; rfl, rfl⟩
        · have ht' : decide ((z : Int) < 128) = false := by simp; omega
          have HV := Lib.hid (add_step m z k hm hu (by omega) (by omega))
          have HE : Hid (tk 0 0 l = tk (k + 1) (m + (z % 128) * 2 ^ (7 * k)) (l.drop (k + 1))) := by rw [HT.out, HZ.out]; exact tk_next (by omega) (by have := HZ.out; omega)
          have HM := Lib.hid (next_lt m z k hm)
          clear hm HT k0
          go_wp2
          go_round
          case rel => exact ⟨k + 1, m + (z % 128) * 2 ^ (7 * k), by omega, by have := K0.out; omega, by rw [← HV.out], by go_num, HE.out, HM.out⟩
          case measure => simp [intOf]; omega
      · obtain ⟨k1, k2⟩ := k1
        have hk0 : (0 : Int) < (k : Int) := by omega
        have h9 : ((k : Int) == 9) = false := by simp; omega
        by_cases h0 : z = 0
        · have hzb : ((z : Int) == 0) = true := by simp; omega
          have HE : Hid (tk 0 0 l = (0, 0, 4)) := by rw [HT.out]; exact tk_bad0 k1 (by have := HZ.out; omega)
          clear hm HT
          go_wp2
          go_ret3
          rw [HE.out]
          exact ⟨rfl, rfl⟩
        · have hzb : ((z : Int) == 0) = false := by simp; omega
          by_cases ht : z < 128
          · have ht' : (z : Int) < 128 := by omega
            have HV := Lib.hid (add_step m z k hm hu (by omega) (by omega))
            have HE : Hid (tk 0 0 l = (m + (z % 128) * 2 ^ (7 * k), k + 1, 0)) := by rw [HT.out, HZ.out]; exact tk_end (.inr (by have := HZ.out; omega)) (by have := HZ.out; omega) (by have := HZ.out; omega)
            clear hm HT
            go_wp2
            go_ret3
            rw [HE.out]
            exact ⟨by rw [← HV.out]; rfl, rfl⟩
          · have ht' : decide ((z : Int) < 128) = false := by simp; omega
            have HV := Lib.hid (add_step m z k hm hu (by omega) (by omega))
            have HE : Hid (tk 0 0 l = tk (k + 1) (m + (z % 128) * 2 ^ (7 * k)) (l.drop (k + 1))) := by rw [HT.out, HZ.out]; exact tk_next (by omega) (by have := HZ.out; omega)
            have HM := Lib.hid (next_lt m z k hm)
            clear hm HT
            go_wp2
            go_round
            case rel => exact ⟨k + 1, m + (z % 128) * 2 ^ (7 * k), by omega, by omega, by rw [← HV.out], by go_num, HE.out, HM.out⟩
            case measure => simp [intOf]; omega
      · have hk0 : (0 : Int) < (k : Int) := by omega
        obtain ⟨bt, hbt⟩ : ∃ bt : Bool, bt = true := ⟨true, rfl⟩
        have h9 : ((k : Int) == 9) = bt := by rw [hbt]; simp; omega
        by_cases hone : 1 < z
        · have hone' : (1 : Int) < (z : Int) := by omega
          have HE : Hid (tk 0 0 l = (0, 0, 4)) := by rw [HT.out]; rw [k9]; exact tk_bad9 (by have := HZ.out; omega)
          clear hm HT k9
          go_wp2
          go_ret3
          rw [HE.out]
          exact ⟨rfl, rfl⟩
        · have hone' : decide ((1 : Int) < (z : Int)) = false := by simp; omega
          by_cases h0 : z = 0
          · have hzb : ((z : Int) == 0) = true := by simp; omega
            have HE : Hid (tk 0 0 l = (0, 0, 4)) := by rw [HT.out]; exact tk_bad0 (by omega) (by have := HZ.out; omega)
            clear hm HT k9
            go_wp2
            go_ret3
            rw [HE.out]
            exact ⟨rfl, rfl⟩
          · have hzb : ((z : Int) == 0) = false := by simp; omega
            have ht' : (z : Int) < 128 := by omega
            have HV := Lib.hid (add_step m z k hm hu (by omega) (by omega))
            have HE : Hid (tk 0 0 l = (m + (z % 128) * 2 ^ (7 * k), k + 1, 0)) := by rw [HT.out, HZ.out]; exact tk_end (.inr (by have := HZ.out; omega)) (by have := HZ.out; omega) (by have := HZ.out; omega)
            have ht2 : decide ((z : Int) < 128) = true := by simp; omega
            have hone2 : z ≤ 1 := by omega
            have H1 := Lib.hid hone2
            obtain ⟨bf, hbf⟩ : ∃ b : Bool, b = false := ⟨false, rfl⟩
            have q1 : decide ((1 : Int) < (z : Int)) = bf := by rw [hbf]; exact hone'
            have q2 : ((z : Int) == 0) = bf := by rw [hbf]; exact hzb
            have q3 : decide ((z : Int) < 128) = bt := by rw [hbt]; exact ht2
            clear hm HT k9 hone h0 ht' hone2 hu hone' hzb ht2
            go_wp2
            go_ret3
            rw [HE.out]
            exact ⟨by rw [← HV.out]; rfl, rfl⟩
    · have hkn' : k = n := by omega
      have HE : Hid (tk 0 0 l = (0, 0, 5)) := by
        rw [hr.out.1, List.drop_eq_nil_of_le (by omega)]
        rfl
      clear hr
      subst hkn'
      go_wp2
      go_ret3
      rw [HE.out]
      exact ⟨rfl, rfl⟩
end Go.Proofs.YtpfnokplgfkgjaaDoor.RefTake
