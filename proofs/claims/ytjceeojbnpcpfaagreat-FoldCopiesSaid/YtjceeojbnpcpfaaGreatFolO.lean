/- The document's mask of a row of flags. -/
import Derived.Test.YtjceeojbnpcpfaaGreatFolN
import Derived.Test.YtjceeojbnpcpfaaGreatFolU0
namespace Go.Proofs.YtjceeojbnpcpfaaGreat.Fol
open Go Go.RowKit Go.Proofs.YtjceeojbnpcpfaaGreat.Words Go.Proofs.YtjceeojbnpcpfaaGreat.Enc Go.Proofs.YtjceeojbnpcpfaaGreat.Q Go.Proofs.YtjceeojbnpcpfaaGreat.Evt Go.Maps Go.Sort Go.Shelf
set_option linter.unusedVariables false
set_option linter.unusedSimpArgs false

theorem node_step {l : List Bool} {j m : Nat} (hj : j < 64) (hm : m = maskN l j) : IntKind.u64.wrap ((m : Int) + IntKind.u64.wrap (2 ^ j)) = ((m + 2 ^ j : Nat) : Int) := by
  have h1 : m < 2 ^ j := by rw [hm]; exact maskN_lt l j
  have h2 : 2 ^ j ≤ 2 ^ 63 := Nat.pow_le_pow_right (by omega) (by omega)
  rw [show ((2 : Int) ^ j) = ((2 ^ j : Nat) : Int) by simp, wrap_in (2 ^ j) (by omega)]
  rw [← Int.natCast_add, wrap_in _ (by omega)]
set_option maxRecDepth 100000 in
set_option maxHeartbeats 1000000 in
theorem nodes_any (A : Option Addr) (c : Nat) (l : List Bool) (S : List Nat) (w : World) (hs : SeesV w S A (bs l)) (hl : l.length = 64) :
    Calls Tryz.prog 67 #[.slice A 64 c] w fun e w' => e = .returned (.int .u64 (maskN l 64 : Int)) ∧ w' = w := by
  obtain ⟨M, hM⟩ : ∃ M, M = maskN l 64 := ⟨_, rfl⟩
  rw [← hM]
  have HM := Lib.hid hM
  have HS := Lib.hid hs
  clear hM hs
  go_enter Tryz.func67, Tryz.ntmps67
  go_wp2_with fail
  go_loopw [3, 4] (fun a3 a4 wr => ∃ (j m : Nat), a4 = .int .i64 (j : Int) ∧ a3 = .int .u64 (m : Int) ∧ j ≤ 64 ∧ Hid (m = maskN l j) ∧ wr = w) (fun a3 a4 _ => 64 - (intOf a4).toNat)
  case atStart => exact ⟨0, 0, rfl, rfl, by omega, Lib.hid rfl, rfl⟩
  case round =>
    obtain ⟨j, m, rfl, rfl, hj, HMJ, rfl⟩ := hrel
    by_cases h1 : j < 64
    · have hd : decide ((j : Int) < 64) = true := decide_eq_true (by omega)
      obtain ⟨x, hxx⟩ : ∃ x, l.getD j false = x := ⟨_, rfl⟩
      obtain ⟨b, o, rfl, hx⟩ := HS.out.get (j := j) (v := .bool x) (by rw [← hxx]; simp [bs, List.getD, hl, h1])
      have HX := Lib.hid hxx
      clear hxx
      cases x with
      | true =>
        have HN := Lib.hid (show m + 2 ^ j = maskN l (j + 1) by rw [maskN, if_pos HX.out, HMJ.out])
        have HO := Lib.hid (node_step (l := l) h1 HMJ.out)
        go_wp2
        go_roundw
        case rel => exact ⟨j + 1, m + 2 ^ j, by simp, by rw [HO.out], by omega, HN, by trivial⟩
        case measure => simp [intOf]; omega
      | false =>
        have HN := Lib.hid (show m = maskN l (j + 1) by rw [HMJ.out, maskN, if_neg (by rw [HX.out]; simp)]; rfl)
        go_wp2
        go_roundw
        case rel => exact ⟨j + 1, m, by simp, rfl, by omega, HN, by trivial⟩
        case measure => simp [intOf]; omega
    · have hd : decide ((j : Int) < 64) = false := decide_eq_false (by omega)
      obtain rfl : j = 64 := by omega
      have hm : m = M := HMJ.out.trans HM.out.symm
      subst hm
      go_wp2
      go_ret
      exact ⟨rfl, rfl⟩
end Go.Proofs.YtjceeojbnpcpfaaGreat.Fol
