/- The law DigitsFixed, walked: whatever the bytes and the number it returns true and leaves what was there as it was. -/
import Derived.Test.YtiecjhdhhaldpaaAwake
import Derived.Deep.RegionLaw
namespace Go.Proofs.Ytiecjhdhhaldpaa.Fixed
open Go Go.RowKit Go.Proofs.Ytiecjhdhhaldpaa.Words Go.Proofs.Ytiecjhdhhaldpaa.Enc Go.Proofs.Ytiecjhdhhaldpaa.Made Go.Proofs.Ytiecjhdhhaldpaa.Take Go.Proofs.Ytiecjhdhhaldpaa.Awake
set_option linter.unusedVariables false

theorem law (A : Option Addr) (n c : Nat) (l : List UInt8) (x : Int) (w : World) (hs : Sees w A n l) (hc : n ≤ c) (hm : c ≤ maxLen) (hx0 : 0 ≤ x) (hx : x < 18446744073709551616) :
    Calls Try.prog 4 #[.slice A n c, .int .u64 x] w fun e w' => e = .returned (.bool true) ∧ Below w.heap.size w w' := by
  unfold maxLen at hm
  by_cases hlen : 200 < n
  · have hlen' : (200 : Int) < (n : Int) := by omega
    go_enter Try.func4, Try.ntmps4
    go_wp2_with fail
    refine (awake_any _).mono ?_
    rintro e w1 ⟨rfl, hb1⟩
    go_wp2_with fail
    refine (awake_any _).mono ?_
    rintro e w2 ⟨rfl, hb2⟩
    go_wp2
    go_ret
    exact ⟨rfl, hb1.trans (hb2.mono hb1.size)⟩
  · have hlen' : decide ((200 : Int) < (n : Int)) = false := by simp; omega
    go_enter Try.func4, Try.ntmps4
    go_wp2_with fail
    refine (awake_any _).mono ?_
    rintro e w1 ⟨rfl, hb1⟩
    go_wp2_with fail
    obtain ⟨i, hi, hz, hsz, hby⟩ := info_parts info8
    have b0 : Below w.heap.size w w1.drew := hb1.drew
    obtain ⟨s, hs'⟩ : ∃ s : ByteArray, s = ⟨(l ++ fix x.toNat).toArray⟩ := ⟨_, rfl⟩
    have str : ∀ (W : World) (B : Option Addr) (k : Nat), Sees W B (n + 8) (l ++ fix x.toNat) → (convert 22 9 (.slice B (n + 8) k)).run Try.prog W = .ok (.string s) W := fun W B k h => by rw [hs']; exact h.string k Try.underlying22 Try.underlying5 Try.underlying9
    have STR := Lib.hid str
    clear str hs'
    go_region_law (first
      | (refine step_app rfl (.const (.slice none 0 0)) (.tmp 13) 22 rfl w.heap.size 5 i (.int .u8 0) Try.underlying22 hi hz hsz hby rfl none 0 0 [] rfl (Own.nil _ _ _) A n c l (by simp [Act.eval, Act.put]) (hs.below b0) (by omega) b0.size ?_; intro A2 c2 w2 hown2 hb2; have b2 := b0.trans hb2; rw [List.nil_append, Nat.zero_add] at hown2)
      | (go_simp; go_at_call 10; refine (layFixed_any A2 n c2 l x w2 (Sees.of_own hown2) (by omega) hx0 hx).mono ?_; rintro e w3 ⟨A3, c3, rfl, hown3, hb3⟩; have b3 := b2.trans (hb3.mono b2.size); have r3 := STR.out w3 A3 c3 (Sees.of_own hown3))
      | (go_simp; go_at_call 11; refine (refFixed_any A n c l x w3 (hs.below b3) (by omega) hx0 hx).mono ?_; rintro e w4 ⟨A4, c4, rfl, hown4, hb4⟩; have b4 := b3.trans (hb4.mono b3.size); have r34 := STR.out w4 A3 c3 ((Sees.of_own hown3).below hb4); have r4 := STR.out w4 A4 c4 (Sees.of_own hown4)))
    all_goals go_wp2
    all_goals go_ret
    all_goals exact ⟨rfl, b4⟩
end Go.Proofs.Ytiecjhdhhaldpaa.Fixed
