/- Words for slices of u64 in memory; vectors as lists of numbers; what the law's own reference functions answer. A vector's bytes, as plain data, and what is read of bytes. What is asked of package vector, by its operations; the laws VectorJoins, VectorOrders, VectorLacks out of it. -/
import Derived.Lib.Hide
import Derived.Deep.QuietTactic
import Derived.Laws.OwnMore
import Derived.Lib.SliceRun
import Derived.Test.YtmogoopkjkdkgaaVRp01
import Derived.Test.YtmogoopkjkdkgaaVRp03
import Derived.Test.YtmogoopkjkdkgaaVRp04
namespace Go.Proofs.Ytmogoopkjkdkgaa.Vec
open Go Go.RowKit Go.Proofs.Ytmogoopkjkdkgaa.Words
set_option linter.unusedVariables false
set_option linter.unusedSimpArgs false

/-- Numbers as cells. -/
def us (l : List Nat) : List Value := l.map fun (x : Nat) => Value.int .u64 (x : Int)
theorem us_length (l : List Nat) : (us l).length = l.length := by simp [us]
theorem us_get {l : List Nat} {j x : Nat} (h : l[j]? = some x) : (us l)[j]? = some (.int .u64 (x : Int)) := by simp [us, h]
/-- The slice of n numbers at A shows l. -/
def SeesU (w : World) (A : Option Addr) (n : Nat) (l : List Nat) : Prop :=
  l.length = n ∧ (0 < n → ∃ b o, A = some ⟨b, o, none⟩ ∧ ∀ (j x : Nat), l[j]? = some x → w.cell? ⟨b, o + j, none⟩ = some (.int .u64 (x : Int)))
theorem SeesU.nil (w : World) (A : Option Addr) : SeesU w A 0 [] := ⟨rfl, fun h => absurd h (by omega)⟩
theorem SeesU.drew {w : World} {A : Option Addr} {n : Nat} {l : List Nat} (h : SeesU w A n l) : SeesU w.drew A n l := h
theorem SeesU.drewN {w : World} {A : Option Addr} {n : Nat} {l : List Nat} (h : SeesU w A n l) (k : Nat) : SeesU (w.drewN k) A n l := h
theorem SeesU.below {w w' : World} {A : Option Addr} {n : Nat} {l : List Nat} (h : SeesU w A n l) (hb : Below w.heap.size w w') : SeesU w' A n l := by
  refine ⟨h.1, fun hn => ?_⟩
  obtain ⟨b, o, hA, hc⟩ := h.2 hn
  refine ⟨b, o, hA, fun j u hu => ?_⟩
  have hcell := hc j u hu
  have hlt := World.block_lt_of_cell? _ _ hcell
  rw [hb.cell (p := ⟨b, o + j, none⟩) hlt]
  exact hcell
theorem SeesU.of_own {w : World} {base : Nat} {e : TypeId} {A : Option Addr} {n c : Nat} {l : List Nat} (h : w.ownsRow base e 1 (.slice A n c) n (us l)) : SeesU w A n l := by
  refine ⟨by have := h.1; rw [us_length] at this; omega, fun hn => ?_⟩
  obtain ⟨g, rfl, _⟩ := Own.at_ h hn
  exact ⟨g, 0, rfl, fun j u hu => by rw [← add_plain]; exact h.cells (g := g) rfl j _ (us_get hu)⟩
theorem SeesU.take {w : World} {A : Option Addr} {n : Nat} {l : List Nat} (h : SeesU w A n l) {k : Nat} (hk : k ≤ n) : SeesU w A k (l.take k) := by
  refine ⟨by rw [List.length_take, h.1]; omega, fun hn => ?_⟩
  obtain ⟨b, o, e, hc⟩ := h.2 (by omega)
  refine ⟨b, o, e, fun j u hu => ?_⟩
  rw [List.getElem?_take] at hu
  split at hu
  · exact hc j u hu
  · cases hu
/-- The number at place i; 0 behind the end. -/
def at_ (l : List Nat) (i : Nat) : Nat := l.getD i 0
theorem at_lt {l : List Nat} {i : Nat} (h : i < l.length) : l[i]? = some (at_ l i) := by
  unfold at_
  rw [List.getD_eq_getElem?_getD, List.getElem?_eq_getElem h]
  rfl
/-- Each is below 2^64. -/
def Fits (l : List Nat) : Prop := ∀ i, at_ l i < 18446744073709551616
theorem SeesU.get {w : World} {A : Option Addr} {n : Nat} {l : List Nat} (h : SeesU w A n l) {j : Nat} (hj : j < n) : ∃ b o, A = some ⟨b, o, none⟩ ∧ w.cell? ⟨b, o + j, none⟩ = some (.int .u64 (at_ l j : Int)) := by
  obtain ⟨b, o, hA, hc⟩ := h.2 (by omega)
  exact ⟨b, o, hA, hc j _ (at_lt (by rw [h.1]; exact hj))⟩
theorem SeesU.cell {w : World} {g o n : Nat} {l : List Nat} (h : SeesU w (some ⟨g, o, none⟩) n l) {j : Nat} (hj : j < n) : w.cell? ⟨g, o + j, none⟩ = some (.int .u64 (at_ l j : Int)) := by
  obtain ⟨b, o', hA, hc⟩ := h.get hj
  injection hA with hA
  injection hA with h1 h2
  subst h1; subst h2
  exact hc
/-! What vectors are. -/
/-- No 0 behind. -/
def Trimmed (l : List Nat) : Prop := l = [] ∨ at_ l (l.length - 1) ≠ 0
/-! The law's own reference. -/
end Go.Proofs.Ytmogoopkjkdkgaa.Vec
namespace Go.Proofs.Ytmogoopkjkdkgaa.Vec
open Go Go.RowKit Go.Proofs.Ytmogoopkjkdkgaa.Words Go.Proofs.Ytmogoopkjkdkgaa.Enc Go.Proofs.Ytmogoopkjkdkgaa.Tape
set_option linter.unusedVariables false
set_option linter.unusedSimpArgs false

theorem at_take (v : List Nat) (k i : Nat) : at_ (v.take k) i = if i < k then at_ v i else 0 := by
  unfold at_
  rw [List.getD_eq_getElem?_getD, List.getElem?_take]
  split
  · rw [List.getD_eq_getElem?_getD]
  · rfl
end Go.Proofs.Ytmogoopkjkdkgaa.Vec
namespace Go.Proofs.Ytmogoopkjkdkgaa.Vec
open Go Go.RowKit Go.Proofs.Ytmogoopkjkdkgaa.Words
set_option linter.unusedVariables false
set_option linter.unusedSimpArgs false

/-- A vector that is handed back: seen, trimmed, at most so long, with these numbers. -/
def Gives (w : World) (most : Nat) (f : Nat → Nat) (e : Ending) (w' : World) : Prop :=
  ∃ R k rc l, e = .returned (.slice R k rc) ∧ SeesU w' R k l ∧ k ≤ rc ∧ rc ≤ 9223372036854775807 ∧ k ≤ most ∧ Trimmed l ∧ (∀ i, at_ l i = f i) ∧ Below w.heap.size w w'
def Took2 (w : World) (A : Option Addr) (n c : Nat) (a : List Nat) : Prop := SeesU w A n a ∧ Fits a ∧ n ≤ c ∧ c ≤ 9223372036854775807 ∧ n ≤ 900000
theorem Took2.below {w w' : World} {A : Option Addr} {n c : Nat} {a : List Nat} (h : Took2 w A n c a) (hb : Below w.heap.size w w') : Took2 w' A n c a := ⟨h.1.below hb, h.2⟩
theorem SeesU.new (w : World) (l : List Nat) (T : TypeId) : SeesU (w.alloc (.cells (us l).toArray T)) (some ⟨w.heap.size, 0, none⟩) l.length l :=
  ⟨rfl, fun _ => ⟨w.heap.size, 0, rfl, fun j x hx => by
    rw [Nat.zero_add, cell_of_row _ w.heap.size _ _ _ _ (heap_alloc_new w (.cells (us l).toArray T))]
    have := us_get hx
    simpa using this⟩⟩
theorem Took2.new (w : World) (l : List Nat) (T : TypeId) (k : Nat) (hk : l.length = k) (hf : Fits l) (hl : k ≤ 900000) : Took2 (w.alloc (.cells (us l).toArray T)) (some ⟨w.heap.size, 0, none⟩) k k l := by
  subst hk
  exact ⟨SeesU.new w l T, hf, Nat.le_refl _, by omega, hl⟩
end Go.Proofs.Ytmogoopkjkdkgaa.Vec
