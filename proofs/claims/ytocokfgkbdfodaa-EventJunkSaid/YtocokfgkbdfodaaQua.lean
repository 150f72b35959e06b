/- Quantities: their bits, what is plain, of which bits there is one; the document's bits. -/
import Derived.Test.YtocokfgkbdfodaaRows
import Derived.Test.YtocokfgkbdfodaaWords
import Derived.Handy
import Derived.WalkLawsBesides
namespace Go.Proofs.Ytocokfgkbdfodaa.Q
open Go Go.RowKit Go.Proofs.Ytocokfgkbdfodaa.Words
set_option linter.unusedVariables false

set_option maxRecDepth 100000 in
theorem bits_m (x : Nat) (w : World) : (callFunc 46 #[.float .f64 x]).run Try.prog w = .ok (.value (.int .u64 (x : Int))) w := by kernel_rfl
set_option maxRecDepth 100000 in
theorem from_m (x : Nat) (w : World) : (callFunc 55 #[.int .u64 (x : Int)]).run Try.prog w = .ok (.value (.float .f64 x)) w := by kernel_rfl

/-- Is it no number? -/
def void (x : Nat) : Bool := FloatKind.f64.format.order x x != some .eq
/-- The bits that all agree on. -/
def qb (x : Nat) : Nat := if void x then 9221120237041090561 else x
theorem void_void : void 9221120237041090561 = true := by decide +kernel
theorem qb_qb (x : Nat) : qb (qb x) = qb x := by
  unfold qb
  by_cases h : void x
  · simp [h, void_void]
  · simp [h]
theorem qb_lt (x : Nat) (h : x < 18446744073709551616) : qb x < 18446744073709551616 := by
  unfold qb
  split <;> omega
theorem void_zero : void 0 = false := by decide +kernel
theorem qb_zero : qb 0 = 0 := by unfold qb; rw [void_zero]; rfl

set_option maxRecDepth 100000 in
theorem isNaN_any (x : Nat) (w : World) : Calls Try.prog 45 #[.float .f64 x] w fun e w' => e = .returned (.bool (void x)) ∧ w' = w := by
  go_enter Try.func45, Try.ntmps45
  go_wp2
  go_ret
  exact ⟨rfl, rfl⟩

set_option maxRecDepth 100000 in
theorem bits_any (x : Nat) (w : World) : Calls Try.prog 27 #[.float .f64 x] w fun e w' => e = .returned (.int .u64 (qb x : Int)) ∧ w' = w := by
  have hbm := bits_m x
  go_enter Try.func27, Try.ntmps27
  go_wp2_with fail
  refine (isNaN_any _ _).mono ?_
  rintro e w ⟨rfl, rfl⟩
  by_cases h : void x
  · go_wp2
    go_ret
    exact ⟨by simp [qb, h], rfl⟩
  · have h' : void x = false := by simpa using h
    go_wp2
    go_ret
    exact ⟨by simp [qb, h'], rfl⟩

set_option maxRecDepth 100000 in
theorem refVoid_any (x : Nat) (w : World) : Calls Try.prog 56 #[.float .f64 x] w fun e w' => e = .returned (.bool (void x)) ∧ w' = w := by
  go_enter Try.func56, Try.ntmps56
  go_wp2
  go_ret
  exact ⟨rfl, rfl⟩

set_option maxRecDepth 100000 in
theorem refBits_any (x : Nat) (w : World) : Calls Try.prog 37 #[.float .f64 x] w fun e w' => e = .returned (.int .u64 (qb x : Int)) ∧ w' = w := by
  have hbm := bits_m x
  go_enter Try.func37, Try.ntmps37
  go_wp2_with fail
  refine (refVoid_any _ _).mono ?_
  rintro e w ⟨rfl, rfl⟩
  by_cases h : void x
  · go_wp2
    go_ret
    exact ⟨by simp [qb, h], rfl⟩
  · have h' : void x = false := by simpa using h
    go_wp2
    go_ret
    exact ⟨by simp [qb, h'], rfl⟩

set_option maxRecDepth 100000 in
theorem plainQ_any (x : Nat) (w : World) : Calls Try.prog 33 #[.float .f64 x] w fun e w' => e = .returned (.float .f64 (qb x)) ∧ w' = w := by
  have hfm := from_m (qb x)
  go_enter Try.func33, Try.ntmps33
  go_wp2_with fail
  refine (bits_any _ _).mono ?_
  rintro e w ⟨rfl, rfl⟩
  go_wp2
  go_ret
  exact ⟨rfl, rfl⟩

set_option maxRecDepth 100000 in
theorem of_any (n : Nat) (w : World) : Calls Try.prog 52 #[.int .u64 (n : Int)] w fun e w' => e = .returned (.tuple #[.float .f64 (if qb n = n then n else 0), .bool (decide (qb n = n))]) ∧ w' = w := by
  have hfm := from_m n
  go_enter Try.func52, Try.ntmps52
  go_wp2_with fail
  refine (bits_any _ _).mono ?_
  rintro e w ⟨rfl, rfl⟩
  by_cases h : qb n = n
  · have h' : (qb n : Int) = (n : Int) := by rw [h]
    go_wp2
    go_ret2
    exact ⟨by simp, rfl⟩
  · have h' : ¬ (qb n : Int) = (n : Int) := by omega
    go_wp2
    go_ret2
    exact ⟨by simp, rfl⟩
end Go.Proofs.Ytocokfgkbdfodaa.Q
