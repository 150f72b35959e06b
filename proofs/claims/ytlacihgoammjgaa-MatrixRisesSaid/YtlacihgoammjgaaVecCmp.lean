/- Package vector: Within, Same, Apart, Lack. -/
import Derived.Test.YtlacihgoammjgaaVecFn
import Derived.Laws.Externs
namespace Go.Proofs.Ytlacihgoammjgaa.Vec
open Go Go.RowKit Go.Proofs.Ytlacihgoammjgaa.Words Go.Proofs.Ytlacihgoammjgaa.Enc Go.Proofs.Ytlacihgoammjgaa.Made Go.Proofs.Ytlacihgoammjgaa.Tape
set_option linter.unusedVariables false
set_option linter.unusedSimpArgs false

set_option maxRecDepth 100000 in
theorem within_at (A B : Option Addr) (n c m d : Nat) (a b : List Nat) (w : World) (ha : SeesU w A n a) (hb : SeesU w B m b) (hn : n ≤ 900000) :
    Calls Try.prog 58 #[.slice A n c, .slice B m d] w fun e w' => e = .returned (.bool (withinL a b)) ∧ ∃ k, w' = w.drewN k := by
  go_enter Try.func58, Try.ntmps58
  go_wp2_with fail
  go_loopw [9] (fun v wr => ∃ j k : Nat, v = .int .i64 (j : Int) ∧ j ≤ n ∧ (∀ i, i < j → at_ a i ≤ at_ b i) ∧ wr = w.drewN k) (fun v _ => n - (intOf v).toNat)
  case atStart => exact ⟨0, 0, rfl, by omega, fun i hi => absurd hi (by omega), rfl⟩
  case round =>
    obtain ⟨j, k, rfl, hj, hle, rfl⟩ := hrel
    by_cases hlt : j < n
    · obtain ⟨g, o, rfl, hc⟩ := ha.get hlt
      have h2 : (j : Int) < (n : Int) := by omega
      have h3 : (0 : Int) ≤ (j : Int) := by omega
      have HLE := Lib.hid hle
      clear hle
      by_cases hx : at_ a j ≤ at_ b j
      · have HX := Lib.hid hx
        have hd : ¬ at_ b j < at_ a j := by omega
        clear hx
        generalize at_ a j = x1 at hc hd
        go_wp2_with fail
        refine (get_at B m d b j _ (hb.drewN _)).mono ?_
        rintro e w4 ⟨rfl, hw4⟩
        subst hw4
        go_wp2
        go_roundw
        case rel => exact ⟨j + 1, k, by simp, by omega, fun i hi => by
          rcases Nat.lt_or_ge i j with h | h
          · exact HLE.out i h
          · obtain rfl : i = j := by omega
            exact HX.out, rfl⟩
        case measure => simp [intOf]; omega
      · have HX := Lib.hid hx
        have hd : at_ b j < at_ a j := by omega
        clear hx
        generalize at_ a j = x1 at hc hd
        go_wp2_with fail
        refine (get_at B m d b j _ (hb.drewN _)).mono ?_
        rintro e w4 ⟨rfl, hw4⟩
        subst hw4
        go_wp2
        go_ret
        exact ⟨by rw [within_no HX.out]; rfl, _, rfl⟩
    · obtain rfl : j = n := by omega
      have HW := Lib.hid (within_yes (b := b) fun i hi => hle i (by have := ha.1; omega))
      clear hle
      go_wp2
      go_ret
      exact ⟨by rw [HW.out]; rfl, _, rfl⟩
theorem below_drewN (w : World) (k : Nat) : Below w.heap.size w (w.drewN k) := by
  have := Below.refl w.heap.size w
  exact ⟨this.os, this.tape, this.output, this.size, this.block⟩
theorem within_any : WithinSaid := fun A B n c m d a b w ta tb => (within_at A B n c m d a b w ta.1 tb.1 ta.2.2.2.2).mono fun e w' ⟨h, k, hk⟩ => ⟨h, by rw [hk]; exact below_drewN w k⟩

set_option maxRecDepth 100000 in
theorem same_any : SameSaid := fun A B n c m d a b w ta tb => by
  go_enter Try.func39, Try.ntmps39
  cases h1 : withinL a b with
  | false =>
    go_wp2_with fail
    refine (within_any _ _ _ _ _ _ _ _ _ ta tb).mono ?_
    rw [h1]
    rintro e w1 ⟨rfl, b1⟩
    have H1 := Lib.hid h1
    clear ta tb h1
    go_wp2
    go_ret
    exact ⟨rfl, b1⟩
  | true =>
    go_wp2_with fail
    refine (within_any _ _ _ _ _ _ _ _ _ ta tb).mono ?_
    rw [h1]
    rintro e w1 ⟨rfl, b1⟩
    have W2 := Lib.hid (within_any _ _ _ _ _ _ _ _ _ (tb.below b1) (ta.below b1))
    have H1 := Lib.hid h1
    clear ta tb h1
    cases h2 : withinL b a with
    | false =>
      rw [h2] at W2
      have H2 := Lib.hid h2
      clear h2
      go_wp2_with fail
      refine W2.out.mono ?_
      rintro e w2 ⟨rfl, b2⟩
      go_wp2
      go_ret
      exact ⟨by rw [H2.out]; rfl, b1.trans (b2.mono b1.size)⟩
    | true =>
      rw [h2] at W2
      have H2 := Lib.hid h2
      clear h2
      go_wp2_with fail
      refine W2.out.mono ?_
      rintro e w2 ⟨rfl, b2⟩
      go_wp2
      go_ret
      exact ⟨by rw [H2.out]; rfl, b1.trans (b2.mono b1.size)⟩
theorem lackL_mono (a b : List Nat) : ∀ j n, j ≤ n → lackL a b j ≤ lackL a b n
  | j, 0, h => by obtain rfl : j = 0 := by omega
                  exact Nat.le_refl _
  | j, n + 1, h => by
    rcases Nat.lt_or_ge j (n + 1) with h1 | h1
    · exact Nat.le_trans (lackL_mono a b j n (by omega)) (Nat.le_add_right _ _)
    · obtain rfl : j = n + 1 := by omega
      exact Nat.le_refl _
end Go.Proofs.Ytlacihgoammjgaa.Vec
