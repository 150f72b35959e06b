/- What is asked of package vector, by its operations; the laws VectorJoins, VectorOrders, VectorLacks out of it. -/
import Derived.Test.YtlacihgoammjgaaVecRef
import Derived.Lib.Hide
namespace Go.Proofs.Ytlacihgoammjgaa.Vec
open Go Go.RowKit Go.Proofs.Ytlacihgoammjgaa.Words
set_option linter.unusedVariables false
set_option linter.unusedSimpArgs false

/-- A vector that is handed back: seen, trimmed, at most so long, with these numbers. -/
def Gives (w : World) (most : Nat) (f : Nat → Nat) (e : Ending) (w' : World) : Prop :=
  ∃ R k rc l, e = .returned (.slice R k rc) ∧ SeesU w' R k l ∧ k ≤ rc ∧ rc ≤ 9223372036854775807 ∧ k ≤ most ∧ Trimmed l ∧ (∀ i, at_ l i = f i) ∧ Below w.heap.size w w'
def Took2 (w : World) (A : Option Addr) (n c : Nat) (a : List Nat) : Prop := SeesU w A n a ∧ Fits a ∧ n ≤ c ∧ c ≤ 9223372036854775807 ∧ n ≤ 900000
theorem Took2.below {w w' : World} {A : Option Addr} {n c : Nat} {a : List Nat} (h : Took2 w A n c a) (hb : Below w.heap.size w w') : Took2 w' A n c a := ⟨h.1.below hb, h.2⟩
def JoinSaid : Prop := ∀ (A B : Option Addr) (n c m d : Nat) (a b : List Nat) (w : World), Took2 w A n c a → Took2 w B m d b →
  Calls Try.prog 38 #[.slice A n c, .slice B m d] w (Gives w (Nat.max n m) fun i => Nat.max (at_ a i) (at_ b i))
def GetSaid : Prop := ∀ (A : Option Addr) (n c i : Nat) (a : List Nat) (w : World), SeesU w A n a → i ≤ 900000 →
  Calls Try.prog 66 #[.slice A n c, .int .i64 (i : Int)] w fun e w' => e = .returned (.int .u64 (at_ a i : Int)) ∧ Below w.heap.size w w'
def WithinSaid : Prop := ∀ (A B : Option Addr) (n c m d : Nat) (a b : List Nat) (w : World), Took2 w A n c a → Took2 w B m d b →
  Calls Try.prog 58 #[.slice A n c, .slice B m d] w fun e w' => e = .returned (.bool (withinL a b)) ∧ Below w.heap.size w w'
def SameSaid : Prop := ∀ (A B : Option Addr) (n c m d : Nat) (a b : List Nat) (w : World), Took2 w A n c a → Took2 w B m d b →
  Calls Try.prog 39 #[.slice A n c, .slice B m d] w fun e w' => e = .returned (.bool (withinL a b && withinL b a)) ∧ Below w.heap.size w w'
theorem SeesU.new (w : World) (l : List Nat) (T : TypeId) : SeesU (w.alloc (.cells (us l).toArray T)) (some ⟨w.heap.size, 0, none⟩) l.length l :=
  ⟨rfl, fun _ => ⟨w.heap.size, 0, rfl, fun j x hx => by
    rw [Nat.zero_add, cell_of_row _ w.heap.size _ _ _ _ (heap_alloc_new w (.cells (us l).toArray T))]
    have := us_get hx
    simpa using this⟩⟩
theorem Took2.new (w : World) (l : List Nat) (T : TypeId) (k : Nat) (hk : l.length = k) (hf : Fits l) (hl : k ≤ 900000) : Took2 (w.alloc (.cells (us l).toArray T)) (some ⟨w.heap.size, 0, none⟩) k k l := by
  subst hk
  exact ⟨SeesU.new w l T, hf, Nat.le_refl _, by omega, hl⟩
theorem fits_list {l : List Nat} (h : ∀ x ∈ l, x < 18446744073709551616) : Fits l := fun i => by
  by_cases hi : i < l.length
  · exact h _ (List.mem_of_getElem? (at_lt hi))
  · rw [at_ge (by omega)]; decide

theorem same_yes {a b : List Nat} (h : ∀ i, at_ a i = at_ b i) : (withinL a b && withinL b a) = true := by
  rw [Bool.and_eq_true]
  exact ⟨within_iff.2 fun i => by rw [h]; exact Nat.le_refl _, within_iff.2 fun i => by rw [h]; exact Nat.le_refl _⟩
theorem fits_max {l a b : List Nat} (h : ∀ i, at_ l i = Nat.max (at_ a i) (at_ b i)) (ha : Fits a) (hb : Fits b) : Fits l := fun i => by
  rw [h]; exact Nat.max_lt.2 ⟨ha i, hb i⟩
theorem fits_min {l a b : List Nat} (h : ∀ i, at_ l i = Nat.min (at_ a i) (at_ b i)) (ha : Fits a) : Fits l := fun i => by
  rw [h]; exact Nat.lt_of_le_of_lt (Nat.min_le_left _ _) (ha i)

end Go.Proofs.Ytlacihgoammjgaa.Vec
