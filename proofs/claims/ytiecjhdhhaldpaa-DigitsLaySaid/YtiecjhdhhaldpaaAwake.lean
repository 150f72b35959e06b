/- The document's examples, as the laws of layer 2 ask for them ('awake'): true. -/
import Derived.Test.YtiecjhdhhaldpaaMade
import Derived.Test.YtiecjhdhhaldpaaTake
namespace Go.Proofs.Ytiecjhdhhaldpaa.Awake
open Go Go.RowKit Go.Proofs.Ytiecjhdhhaldpaa.Words Go.Proofs.Ytiecjhdhhaldpaa.Enc Go.Proofs.Ytiecjhdhhaldpaa.Made Go.Proofs.Ytiecjhdhhaldpaa.Take
set_option linter.unusedVariables false

theorem take_ex (A : Option Addr) (w : World) (hs : Sees w A 2 [128, 0]) :
    Calls Try.prog 7 #[.slice A 2 2] w fun e w' => ∃ A' c', e = .returned (.tuple #[.int .u64 0, .slice A' 2 c', .int .i64 4]) ∧ Below w.heap.size w w' := by
  refine (take_any A 2 2 _ w hs (by omega) (by omega)).mono ?_
  rintro e w' ⟨A', c', rfl, _, d, rfl⟩
  exact ⟨A', c', rfl, ⟨rfl, rfl, rfl, Nat.le_refl _, fun _ _ => rfl⟩⟩
theorem enc_300 : enc 300 = [172, 2] := by decide +kernel
theorem lay_ex (w : World) : Calls Try.prog 6 #[.slice none 0 0, .int .u64 300] w (New w.heap.size 2 [172, 2] w) := by
  have h := lay_any none 0 0 [] 300 w (Sees.nil _ _) (by omega) (by omega) (by omega)
  rw [show (300 : Int).toNat = 300 from rfl, enc_300] at h
  exact h
theorem sees_two (w : World) (e : TypeId) : Sees (w.alloc (.cells #[.int .u8 128, .int .u8 0] e)) (some ⟨w.heap.size, 0, none⟩) 2 [128, 0] := by
  refine ⟨rfl, fun _ => ⟨_, _, rfl, fun j v hv => ?_⟩⟩
  match j, hv with
  | 0, hv => simp at hv; subst hv; simp
  | 1, hv => simp at hv; subst hv; simp

theorem awake_any (w : World) : Calls Try.prog 5 #[] w fun e w' => e = .returned (.bool true) ∧ Below w.heap.size w w' := by
  go_enter Try.func5, Try.ntmps5
  go_wp2_with fail
  refine (take_ex _ _ (sees_two w _)).mono ?_
  rintro e w1 ⟨A1, c1, rfl, hb1⟩
  go_wp2_with fail
  refine (lay_ex _).mono ?_
  rintro e w2 ⟨A2, c2, rfl, hown, hb2⟩
  have hconv := (Sees.of_own hown).string (P := Try.prog) c2 (s := 9) Try.underlying22 Try.underlying5 Try.underlying9
  have hsz := hb1.size
  simp only [World.size_alloc] at hsz
  go_wp2
  go_ret
  exact ⟨rfl, ((Below.refl _ _).alloc (Nat.le_refl _) _).trans ((hb1.mono (by simp)).trans (hb2.mono (by omega)))⟩
end Go.Proofs.Ytiecjhdhhaldpaa.Awake
