/- The law's test for small vectors; what is asked of package vector about bytes. -/
import Derived.Test.YtpfmgjfkjjnadaaVecLayV
import Derived.Test.YtpfmgjfkjjnadaaVecSaid
namespace Go.Proofs.Ytpfmgjfkjjnadaa.Vec
open Go Go.RowKit Go.Proofs.Ytpfmgjfkjjnadaa.Words Go.Proofs.Ytpfmgjfkjjnadaa.Enc Go.Proofs.Ytpfmgjfkjjnadaa.Made Go.Proofs.Ytpfmgjfkjjnadaa.Tape
set_option linter.unusedVariables false
set_option linter.unusedSimpArgs false

set_option maxRecDepth 100000 in
set_option maxHeartbeats 1000000 in
theorem small_any (A : Option Addr) (n c : Nat) (v : List Nat) (w : World) (hv : SeesU w A n v) (hn : n ≤ 9223372036854775807) :
    Calls Try.prog 18 #[.slice A n c] w fun e w' => ∃ b : Bool, e = .returned (.bool b) ∧ (b = true → Small v) ∧ (Small v → b = true) ∧ w' = w := by
  have hvl := hv.1
  go_enter Try.func18, Try.ntmps18
  go_wp2_with fail
  go_loopw [3] (fun x wr => ∃ j : Nat, x = .int .i64 (j : Int) ∧ j ≤ n ∧ Hid (∀ i, i < j → at_ v i ≤ 9223372036854775807) ∧ w = wr) (fun x _ => n - (intOf x).toNat)
  case atStart => exact ⟨0, rfl, by omega, fun i hi => absurd hi (by omega), rfl⟩
  case round =>
    obtain ⟨j, rfl, hj, HLE, rfl⟩ := hrel
    by_cases hlt : j < n
    · obtain ⟨g, o, rfl, hcell⟩ := hv.get hlt
      by_cases hx : at_ v j ≤ 9223372036854775807
      · have H2 : Hid (∀ i, i < j + 1 → at_ v i ≤ 9223372036854775807) := Lib.hid fun i hi => by
          rcases Nat.lt_or_ge i j with h | h
          · exact HLE.out i h
          · obtain rfl : i = j := by omega
            exact hx
        have d1 : decide ((9223372036854775807 : Int) < (at_ v j : Int)) = false := decide_eq_false (by omega)
        clear hx HLE
        generalize at_ v j = x at hcell d1
        go_wp2
        go_roundw
        case rel => exact ⟨j + 1, by simp, by omega, H2, by trivial⟩
        case measure => simp [intOf]; omega
      · have H2 : Hid (¬ Small v) := Lib.hid fun h => hx (h.2 j)
        have d1 : decide ((9223372036854775807 : Int) < (at_ v j : Int)) = true := decide_eq_true (by omega)
        clear hx HLE
        generalize at_ v j = x at hcell d1
        go_wp2
        go_ret
        exact ⟨false, rfl, fun h => Bool.noConfusion h, fun h => absurd h H2.out, rfl⟩
    · obtain rfl : j = n := by omega
      have ALL := Lib.hid (show ∀ i, at_ v i ≤ 9223372036854775807 from fun i => by
        by_cases hi : i < j
        · exact HLE.out i hi
        · rw [at_ge (by omega)]; decide)
      have HL := Lib.hid hvl
      clear HLE hvl
      by_cases h64 : j ≤ 64
      · go_wp2
        go_ret
        exact ⟨true, by simp; omega, fun _ => ⟨by rw [HL.out]; exact h64, ALL.out⟩, fun _ => rfl, rfl⟩
      · go_wp2
        go_ret
        exact ⟨false, by simp; omega, fun h => Bool.noConfusion h, fun h => absurd h.1 (by rw [HL.out]; exact h64), rfl⟩

/-- Bytes that are handed back. -/
def GivesB (w : World) (p : List UInt8) (e : Ending) (w' : World) : Prop := ∃ R rc, e = .returned (.slice R p.length rc) ∧ Sees w' R p.length p ∧ p.length ≤ rc ∧ rc ≤ 9223372036854775807 ∧ Below w.heap.size w w'
def BytesSaid : Prop := ∀ (A : Option Addr) (n c : Nat) (v : List Nat) (w : World), Took2 w A n c v → Small v →
  Calls Try.prog 19 #[.slice A n c] w (GivesB w (layL v))
def LaySaid : Prop := ∀ (A Q : Option Addr) (n c pn pc : Nat) (v : List Nat) (p : List UInt8) (w : World), Took2 w A n c v → Small v → Sees w Q pn p → pn ≤ pc → pc ≤ 9223372036854775807 → pn ≤ 100000 →
  Calls Try.prog 22 #[.slice A n c, .slice Q pn pc] w (GivesB w (p ++ layL v))
def OfGives (g : Nat ⊕ List Nat) (w : World) (e : Ending) (w' : World) : Prop :=
  match g with
  | .inl E => ∃ R rc, e = .returned (.tuple #[.slice R 0 rc, .int .i64 (E : Int)]) ∧ rc ≤ 9223372036854775807 ∧ Below w.heap.size w w'
  | .inr v => ∃ R k rc, e = .returned (.tuple #[.slice R k rc, .int .i64 0]) ∧ SeesU w' R k v ∧ k ≤ rc ∧ rc ≤ 9223372036854775807 ∧ Below w.heap.size w w'
def OfSaid : Prop := ∀ (Q : Option Addr) (pn pc : Nat) (p : List UInt8) (w : World), Sees w Q pn p → pn ≤ pc → pc ≤ 9223372036854775807 → pn ≤ 100000 →
  Calls Try.prog 20 #[.slice Q pn pc] w (OfGives (decV p) w)
theorem small_fits {v : List Nat} (h : Small v) : Fits v := fun i => by have := h.2 i; omega
end Go.Proofs.Ytpfmgjfkjjnadaa.Vec
