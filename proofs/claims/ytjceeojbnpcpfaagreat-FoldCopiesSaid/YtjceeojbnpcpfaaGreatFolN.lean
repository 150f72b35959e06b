/- Package fold: the mask of a set. -/
import Derived.Test.YtjceeojbnpcpfaaGreatFolH
namespace Go.Proofs.YtjceeojbnpcpfaaGreat.Fol
open Go Go.RowKit Go.Proofs.YtjceeojbnpcpfaaGreat.Words Go.Proofs.YtjceeojbnpcpfaaGreat.Enc Go.Proofs.YtjceeojbnpcpfaaGreat.Q Go.Proofs.YtjceeojbnpcpfaaGreat.Evt Go.Maps Go.Sort Go.Shelf
set_option linter.unusedVariables false
set_option linter.unusedSimpArgs false

def maskN (l : List Bool) : Nat → Nat
  | 0 => 0
  | j + 1 => maskN l j + if l.getD j false = true then 2 ^ j else 0
theorem maskN_lt (l : List Bool) (j : Nat) : maskN l j < 2 ^ j := by
  induction j with
  | zero => simp [maskN]
  | succ j ih =>
    unfold maskN
    rw [Nat.pow_succ]
    split <;> omega
theorem mask_step {l : List Bool} {j m : Nat} (hj : j < 64) (hm : m = maskN l j) : bits .or .u64 (m : Int) (IntKind.u64.wrap (2 ^ j)) = ((m + 2 ^ j : Nat) : Int) := by
  have h1 : m < 2 ^ j := by rw [hm]; exact maskN_lt l j
  have h2 : 2 ^ j ≤ 2 ^ 63 := Nat.pow_le_pow_right (by omega) (by omega)
  rw [show ((2 : Int) ^ j) = ((2 ^ j : Nat) : Int) by simp, wrap_in (2 ^ j) (by omega), u64_or_nat m (2 ^ j) (by omega) (by omega)]
  rw [Nat.or_comm]
  have h3 := Nat.two_pow_add_eq_or_of_lt h1 1
  rw [Nat.mul_one] at h3
  rw [← h3, Nat.add_comm]
theorem index_set {R : Array Value} {j : Nat} {b : Bool} (hj : j < 64) (hR : R[j]? = some (.bool b)) (w : World) :
    (Instr.index 55 (.agg R) (.int .i64 (j : Int))).run Tryz.prog w = .ok (.bool b) w := by
  have hn : 0 ≤ (j : Int) ∧ (j : Int) < ((64 : Nat) : Int) := by omega
  simp [Instr.index, run_underlying Tryz.underlying55, asIntOf, hn, hR, go_sem]
  intro h
  omega
set_option maxRecDepth 100000 in
set_option maxHeartbeats 1000000 in
theorem mask_any (l : List Bool) (w : World) (hl : l.length = 64) :
    Calls Tryz.prog 64 #[.agg (bs l).toArray] w fun e w' => e = .returned (.int .u64 (maskN l 64 : Int)) ∧ Below w.heap.size w w' := by
  obtain ⟨R, hR⟩ : ∃ R, R = (bs l).toArray := ⟨_, rfl⟩
  have hRs : R.size = 64 := by rw [hR]; simp [bs, hl]
  have hRg : ∀ j, j < 64 → R[j]? = some (.bool (l.getD j false)) := fun j hj => by rw [hR]; simp [bs, List.getD, hl, hj]
  rw [← hR]
  obtain ⟨M, hM⟩ : ∃ M, M = maskN l 64 := ⟨_, rfl⟩
  rw [← hM]
  have HM := Lib.hid hM
  have HG := Lib.hid hRg
  have hB := (Below.refl w.heap.size w).alloc (Nat.le_refl _) (.cells R 55)
  have hg := heap_alloc_new w (.cells R 55)
  clear hM hRg hR
  go_enter Tryz.func64, Tryz.ntmps64
  have hsi : (Tryz.prog.info? 55).map (·.size) = some R.size := by rw [hRs]; kernel_rfl
  obtain ⟨u, hu⟩ : ∃ u, u = w.alloc (.cells R 55) := ⟨_, rfl⟩
  rw [← hu] at hg hB
  have HU := Lib.hid hu
  clear hu
  go_wp2_with (first | (rw [← HU.out]; refine wpList_getRow rfl 55 (.tmp 1) rfl w.heap.size 55 R (0, 0) _ rfl hg Tryz.underlying55 rfl hsi ?_))
  clear hg hsi
  go_loopw [3, 7] (fun a3 a7 wr => ∃ (j m : Nat), a7 = .int .i64 (j : Int) ∧ a3 = .int .u64 (m : Int) ∧ j ≤ 64 ∧ Hid (m = maskN l j) ∧ wr = u) (fun a3 a7 _ => 64 - (intOf a7).toNat)
  case atStart => exact ⟨0, 0, rfl, rfl, by omega, Lib.hid rfl, rfl⟩
  case round =>
    obtain ⟨j, m, rfl, rfl, hj, HMJ, rfl⟩ := hrel
    by_cases h1 : j < 64
    · have hd : decide ((j : Int) < 64) = true := decide_eq_true (by omega)
      have hx := HG.out j h1
      obtain ⟨x, hxx⟩ : ∃ x, l.getD j false = x := ⟨_, rfl⟩
      rw [hxx] at hx
      have HX := Lib.hid hxx
      clear hxx
      have hix := index_set h1 hx
      cases x with
      | true =>
        have HN := Lib.hid (show m + 2 ^ j = maskN l (j + 1) by rw [maskN, if_pos HX.out, HMJ.out])
        have HO := Lib.hid (mask_step (l := l) h1 HMJ.out)
        go_wp2
        go_roundw
        case rel => exact ⟨j + 1, m + 2 ^ j, by simp, by rw [HO.out], by omega, HN, by trivial⟩
        case measure => simp [intOf]; omega
      | false =>
        have HN := Lib.hid (show m = maskN l (j + 1) by rw [HMJ.out, maskN, if_neg (by rw [HX.out]; simp)]; rfl)
        go_wp2
        go_roundw
        case rel => exact ⟨j + 1, m, by simp, rfl, by omega, HN, by trivial⟩
        case measure => simp [intOf]; omega
    · have hd : decide ((j : Int) < 64) = false := decide_eq_false (by omega)
      obtain rfl : j = 64 := by omega
      go_wp2
      go_ret
      have hm : m = M := HMJ.out.trans HM.out.symm
      subst hm
      exact ⟨rfl, hB⟩
end Go.Proofs.YtjceeojbnpcpfaaGreat.Fol
