/- The laws of layer 6, walked: awake, EventRight, EventOrders. -/
import Derived.Test.YtpakjlgohbofhaaEvRef
import Derived.Test.YtpakjlgohbofhaaEvPlace
import Derived.Test.YtpakjlgohbofhaaEvNear
import Derived.Test.YtpakjlgohbofhaaBEvent
import Derived.BigQuiet
import Derived.Deep.Cut
import Derived.Deep.QuietTactic
namespace Go.Proofs.Ytpakjlgohbofhaa.Evt
open Go Go.RowKit Go.Proofs.Ytpakjlgohbofhaa.Words Go.Proofs.Ytpakjlgohbofhaa.Enc Go.Proofs.Ytpakjlgohbofhaa.Q Go.Proofs.Ytpakjlgohbofhaa.Made
set_option linter.unusedVariables false

theorem sample_right : Right ⟨1, 2, 3, 4, ⟨#[107]⟩, [], 0, 0⟩ :=
  ⟨by simp, by simp, by simp, by simp, by simp, by simp, by simp, by simp, fun h => by simp at h, fun _ => ⟨by decide, by decide⟩, fun h => by simp at h⟩
theorem sample_bytes : evL ⟨1, 2, 3, 4, ⟨#[107]⟩, [], 0, 0⟩ = [1, 2, 3, 4, 1, 107] := by
  rw [evL_drop rfl, enc_small (by simp), enc_small (by simp), enc_small (by simp), enc_small (by decide)]
  rfl
set_option maxRecDepth 100000 in
theorem awake_any (w : World) : Calls Try.prog 6 #[] w fun e' w' => e' = .returned (.bool true) ∧ Below w.heap.size w w' := by
  go_enter Try.func6, Try.ntmps6
  go_wp2_with fail
  refine (encode_any ⟨1, 2, 3, 4, ⟨#[107]⟩, [], 0, 0⟩ none 0 0 w (Sees.nil _ _) (by simp) sample_right).mono ?_
  rw [sample_bytes]
  rintro e w1 ⟨A1, c1, rfl, hown, hb⟩
  have r : (convert 23 9 (.slice A1 6 c1)).run Try.prog w1 = .ok (.string ⟨#[1, 2, 3, 4, 1, 107]⟩) w1 := (Sees.of_own hown).string (P := Try.prog) c1 (t := 23) (s := 9) (e := 5) Try.underlying23 Try.underlying5 Try.underlying9
  clear hown
  show match Ending.returned (.slice A1 6 c1), w1 with | _, _ => _
  go_wp2
  go_ret
  exact ⟨rfl, hb⟩

theorem cells2 {w : World} {b : Nat} {v0 v1 : Value} {T : TypeId} {f : Nat × Nat} (h : w.heap[b]? = some (.cells #[v0, v1] T f)) : w.cell? ⟨b, 0, none⟩ = some v0 ∧ w.cell? ⟨b, 1, none⟩ = some v1 := by
  refine ⟨?_, ?_⟩ <;> (rw [cell_of_row w b _ _ _ _ h]; rfl)

/-- The ways two places stand. -/
theorem stand (t1 : Nat) (w1 : Int) (t2 : Nat) (w2 : Int) :
    (decide (cmpS t1 w1 t2 w2 < 0) = true ∧ decide (0 < cmpS t1 w1 t2 w2) = false ∧ (cmpS t1 w1 t2 w2 == 0) = false ∧ decide (0 ≤ cmpS t1 w1 t2 w2) = false ∧ decide (cmpS t2 w2 t1 w1 < 0) = false ∧ (((t1 : Int) == t2) = false ∨ ((t1 : Int) == t2) = true ∧ (w1 == w2) = false)) ∨
    (decide (cmpS t1 w1 t2 w2 < 0) = false ∧ decide (0 < cmpS t1 w1 t2 w2) = true ∧ (cmpS t1 w1 t2 w2 == 0) = false ∧ decide (0 ≤ cmpS t1 w1 t2 w2) = true ∧ decide (cmpS t2 w2 t1 w1 < 0) = true ∧ (((t1 : Int) == t2) = false ∨ ((t1 : Int) == t2) = true ∧ (w1 == w2) = false)) ∨
    (decide (cmpS t1 w1 t2 w2 < 0) = false ∧ decide (0 < cmpS t1 w1 t2 w2) = false ∧ (cmpS t1 w1 t2 w2 == 0) = true ∧ decide (0 ≤ cmpS t1 w1 t2 w2) = true ∧ decide (cmpS t2 w2 t1 w1 < 0) = false ∧ t1 = t2 ∧ w1 = w2) := by
  have e : cmpS t2 w2 t1 w1 < 0 ↔ 0 < cmpS t1 w1 t2 w2 := by rw [cmpS_lt, cmpS_gt]
  have a := @cmpS_lt t1 w1 t2 w2
  have b := @cmpS_gt t1 w1 t2 w2
  rcases Int.lt_trichotomy (cmpS t1 w1 t2 w2) 0 with h | h | h
  · have h1 := a.1 h
    refine .inl ⟨by simp [h], by simp; omega, by rw [beq_eq_false_iff_ne]; omega, by simp; omega, by simp [e]; omega, ?_⟩
    by_cases ht : (t1 : Int) = t2
    · exact .inr ⟨by simp [ht], by rw [beq_eq_false_iff_ne]; omega⟩
    · exact .inl (by rw [beq_eq_false_iff_ne]; omega)
  · have h1 : ¬ (t1 < t2 ∨ t1 = t2 ∧ w1 < w2) := fun k => by have := a.2 k; omega
    have h2 : ¬ (t2 < t1 ∨ t2 = t1 ∧ w2 < w1) := fun k => by have := b.2 k; omega
    exact .inr (.inr ⟨by simp [h], by simp [h], by simp [h], by simp [h], by simp [e, h], by omega, by omega⟩)
  · have h1 := b.1 h
    refine .inr (.inl ⟨by simp; omega, by simp [h], by rw [beq_eq_false_iff_ne]; omega, by simp; omega, by simp [e, h], ?_⟩)
    by_cases ht : (t1 : Int) = t2
    · exact .inr ⟨by simp [ht], by rw [beq_eq_false_iff_ne]; omega⟩
    · exact .inl (by rw [beq_eq_false_iff_ne]; omega)
theorem cmpS_trans {t1 t2 t3 : Nat} {w1 w2 w3 : Int} (h1 : cmpS t1 w1 t2 w2 < 0) (h2 : cmpS t2 w2 t3 w3 < 0) : cmpS t1 w1 t3 w3 < 0 := by
  rw [cmpS_lt] at *
  omega

end Go.Proofs.Ytpakjlgohbofhaa.Evt
