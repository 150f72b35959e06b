/- The law's own reference for vectors: Within. -/
import Derived.Test.YtpfmgjfkjjnadaaVec
import Derived.Deep.QuietTactic
import Derived.Lib.Hide
namespace Go.Proofs.Ytpfmgjfkjjnadaa.Vec
open Go Go.RowKit Go.Proofs.Ytpfmgjfkjjnadaa.Words
set_option linter.unusedVariables false
set_option linter.unusedSimpArgs false

theorem within_yes {a b : List Nat} (h : ∀ i, i < a.length → at_ a i ≤ at_ b i) : withinL a b = true := within_iff.2 fun i => by
  by_cases hi : i < a.length
  · exact h i hi
  · rw [at_ge (by omega)]; exact Nat.zero_le _
theorem within_no {a b : List Nat} {i : Nat} (h : ¬ at_ a i ≤ at_ b i) : withinL a b = false := by
  cases hw : withinL a b with
  | false => rfl
  | true => exact absurd (within_iff.1 hw i) h

set_option maxRecDepth 100000 in
theorem refWithin_any (A B : Option Addr) (n c m d : Nat) (a b : List Nat) (w : World) (ha : SeesU w A n a) (hb : SeesU w B m b) (hn : n ≤ 9223372036854775807) :
    Calls Try.prog 14 #[.slice A n c, .slice B m d] w fun e w' => e = .returned (.bool (withinL a b)) ∧ ∃ k, w' = w.drewN k := by
  go_enter Try.func14, Try.ntmps14
  go_wp2_with fail
  go_loopw [5] (fun v wr => ∃ j k : Nat, v = .int .i64 (j : Int) ∧ j ≤ n ∧ (∀ i, i < j → at_ a i ≤ at_ b i) ∧ wr = w.drewN k) (fun v _ => n - (intOf v).toNat)
  case atStart => exact ⟨0, 0, rfl, by omega, fun i hi => absurd hi (by omega), rfl⟩
  case round =>
    obtain ⟨j, k, rfl, hj, hle, rfl⟩ := hrel
    by_cases hlt : j < n
    · obtain ⟨g, o, rfl, hc⟩ := ha.get hlt
      have h2 : (j : Int) < (n : Int) := by omega
      have h3 : (0 : Int) ≤ (j : Int) := by omega
      have HLE := Lib.hid hle
      clear hle
      by_cases hx : at_ a j ≤ at_ b j
      · have HX := Lib.hid hx
        have hd : ¬ at_ b j < at_ a j := by omega
        clear hx
        generalize at_ a j = x1 at hc hd
        go_wp2_with fail
        go_quiet (first | (refine (refGet_any B m d b j _ (hb.drewN _)).mono ?_; intro e w1 h; exact ⟨h.1, _, h.2⟩))
        go_wp2
        go_roundw
        case rel => exact ⟨j + 1, k + nq, by simp, by omega, fun i hi => by
          rcases Nat.lt_or_ge i j with h | h
          · exact HLE.out i h
          · obtain rfl : i = j := by omega
            exact HX.out, rfl⟩
        case measure => simp [intOf]; omega
      · have HX := Lib.hid hx
        have hd : at_ b j < at_ a j := by omega
        clear hx
        generalize at_ a j = x1 at hc hd
        go_wp2_with fail
        go_quiet (first | (refine (refGet_any B m d b j _ (hb.drewN _)).mono ?_; intro e w1 h; exact ⟨h.1, _, h.2⟩))
        go_wp2
        go_ret
        exact ⟨by rw [within_no HX.out]; rfl, _, World.drewN_drewN _ _ _⟩
    · obtain rfl : j = n := by omega
      have HW := Lib.hid (within_yes (b := b) fun i hi => hle i (by have := ha.1; omega))
      clear hle
      go_wp2
      go_ret
      exact ⟨by rw [HW.out]; rfl, _, rfl⟩
end Go.Proofs.Ytpfmgjfkjjnadaa.Vec
