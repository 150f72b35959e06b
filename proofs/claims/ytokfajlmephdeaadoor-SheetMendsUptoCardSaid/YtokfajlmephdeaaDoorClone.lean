/- bytes.Clone: its contract, in words of bytes that are seen. -/
import Derived.Test.YtokfajlmephdeaaDoorWords
import Derived.Test.YtokfajlmephdeaaDoorShelf
namespace Go.Proofs.YtokfajlmephdeaaDoor.Dsk
open Go Go.RowKit Go.Proofs.YtokfajlmephdeaaDoor.Words
set_option linter.unusedVariables false
theorem clone_bytes (A : Option Addr) (n c : Nat) (l : List UInt8) (w : World) (hs : Sees w A n l) (hn : n ≤ 100000000000000) :
    Calls Tryd.prog 31 #[.slice A n c] w fun e w' => ∃ A' c', e = .returned (.slice A' n c') ∧ w'.ownsRow w.heap.size 5 1 (.slice A' n c') n (cs l) ∧ Below w.heap.size w w' := by
  cases A with
  | none =>
    refine (Tryd.bytes_Clone_nil n c w).mono ?_
    rintro e w' ⟨rfl, rfl⟩
    have h0 : n = 0 := by
      rcases Nat.eq_zero_or_pos n with h | h
      · exact h
      · obtain ⟨b, o, e, _⟩ := hs.2 h
        cases e
    subst h0
    have hl0 : l = [] := List.eq_nil_of_length_eq_zero hs.1
    subst hl0
    exact ⟨none, 0, rfl, Own.nil _ _ _, Below.refl _ _⟩
  | some a =>
    have hl := hs.1
    refine (Tryd.bytes_Clone_at a n c (l.map fun b => (b.toNat : Int)) w (by simpa using hl) (by omega) fun i hi => ?_).mono ?_
    · obtain ⟨b, o, e, hc⟩ := hs.2 (by omega)
      injection e with e
      subst e
      have hil : i < l.length := by omega
      rw [add_plain, hc i l[i] (List.getElem?_eq_getElem hil)]
      simp [hil]
    · rintro e w' ⟨v', rfl, hown, _, hb⟩
      rw [List.map_map] at hown
      obtain ⟨A', c', rfl, _⟩ := Own.shape hown
      exact ⟨A', c', rfl, hown, hb⟩
end Go.Proofs.YtokfajlmephdeaaDoor.Dsk
