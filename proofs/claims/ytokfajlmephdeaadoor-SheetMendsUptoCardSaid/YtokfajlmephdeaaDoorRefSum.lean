/- anabranchref01.Sum: its contract. -/
import Derived.Test.YtokfajlmephdeaaDoorRows
import Derived.Test.YtokfajlmephdeaaDoorWords
import Derived.Test.YtokfajlmephdeaaDoorCrc
import Derived.Handy
import Derived.Lib.Hide
namespace Go.Proofs.YtokfajlmephdeaaDoor.RefSum
open Go Go.RowKit Go.Proofs.YtokfajlmephdeaaDoor.Words
set_option linter.unusedVariables false

theorem refSum_any (A : Option Addr) (n c : Nat) (l : List UInt8) (w : World) (hs : Sees w A n l) (hn : n ≤ 1000000000) :
    Calls Tryd.prog 56 #[.slice A n c] w fun e w' => e = .returned (.int .u32 ((Crc.sum l).toNat : Int)) ∧ w' = w := by
  have hl := hs.1
  go_enter Tryd.func56, Tryd.ntmps56
  go_wp2_with fail
  go_loop [3, 4] (fun s i => ∃ k : Nat, k ≤ n ∧ i = .int .i64 (k : Int) ∧ s = .int .u32 ((Crc.run (l.take k)).toNat : Int)) (fun _ i => n - (intOf i).toNat)
  case atStart => exact ⟨0, by omega, rfl, rfl⟩
  case round =>
    obtain ⟨k, hk, rfl, rfl⟩ := hrel
    by_cases hlt : k < n
    · obtain ⟨b, o, rfl, hcell⟩ := hs.2 (by omega)
      have hkl : k < l.length := by omega
      have hc1 := hcell k l[k] (List.getElem?_eq_getElem hkl)
      have ht : l.take (k + 1) = l.take k ++ [l[k]] := by rw [List.take_add_one, List.getElem?_eq_getElem hkl]; rfl
      have HT := Lib.hid ht
      clear ht hcell
      generalize l[k] = u at HT hc1
      generalize hr : Crc.run (l.take k) = r
      have HR := Lib.hid hr
      clear hr
      go_wp2_with fail
      go_loop [3, 5] (fun s i => ∃ j : Nat, j ≤ 8 ∧ i = .int .i64 (j : Int) ∧ s = .int .u32 ((Crc.bits r u j).toNat : Int)) (fun _ i => 8 - (intOf i).toNat)
      case atStart => exact ⟨0, by omega, rfl, rfl⟩
      case round =>
        obtain ⟨j, hj, rfl, rfl⟩ := hrel
        by_cases hj8 : j < 8
        · go_wp2
          · have ht : (bits .and .u32 ((u.toNat : Int) / 2 ^ j % 4294967296) 1 != ((Crc.bits r u j).toNat : Int) / 2147483648) = true := by assumption
            go_round
            case rel => exact ⟨j + 1, by omega, by go_num, by rw [Crc.step_ne ht]; rfl⟩
            case measure => simp [intOf]; omega
          · have ht : (bits .and .u32 ((u.toNat : Int) / 2 ^ j % 4294967296) 1 != ((Crc.bits r u j).toNat : Int) / 2147483648) = false := by assumption
            go_round
            case rel => exact ⟨j + 1, by omega, by go_num, by rw [Crc.step_eq ht]; rfl⟩
            case measure => simp [intOf]; omega
        · have hj' : j = 8 := by omega
          subst hj'
          go_wp2
          go_round
          case rel => exact ⟨k + 1, by omega, by go_num, by rw [HT.out, Crc.run_snoc, HR.out]; rfl⟩
          case measure => simp [intOf]; omega
    · have hk' : k = n := by omega
      subst hk'
      have ht : l.take k = l := by rw [← hl]; exact List.take_length
      rw [ht]
      clear ht
      generalize hr : Crc.run l = r
      have HR := Lib.hid hr
      clear hr
      have hnot := Crc.not_u32 r
      have hfin : (Crc.sum l).toNat = (Crc.back (~~~ r) 32).toNat := by rw [Crc.back_all, ← HR.out]; rfl
      generalize ~~~ r = t at hnot hfin
      have HF := Lib.hid hfin
      clear hfin
      go_wp2_with fail
      go_loop [8, 9] (fun v i => ∃ j : Nat, j ≤ 32 ∧ i = .int .i64 (j : Int) ∧ v = .int .u32 ((Crc.back t j).toNat : Int)) (fun _ i => 32 - (intOf i).toNat)
      case atStart => exact ⟨0, by omega, rfl, rfl⟩
      case round =>
        obtain ⟨j, hj, rfl, rfl⟩ := hrel
        by_cases hj8 : j < 32
        · have hb := Crc.back_step t j
          go_wp2
          go_round
          case rel => exact ⟨j + 1, by omega, by go_num, by first | rfl | rw [hb]⟩
          case measure => simp [intOf]; omega
        · have hj' : j = 32 := by omega
          subst hj'
          go_wp2
          go_ret
          rw [HF.out]
          exact ⟨rfl, rfl⟩
end Go.Proofs.YtokfajlmephdeaaDoor.RefSum
