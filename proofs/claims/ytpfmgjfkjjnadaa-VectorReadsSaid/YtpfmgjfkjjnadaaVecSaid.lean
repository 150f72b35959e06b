/- What is asked of package vector, by its operations; the laws VectorJoins, VectorOrders, VectorLacks out of it. -/
import Derived.Test.YtpfmgjfkjjnadaaVecRef
import Derived.Lib.Hide
namespace Go.Proofs.Ytpfmgjfkjjnadaa.Vec
open Go Go.RowKit Go.Proofs.Ytpfmgjfkjjnadaa.Words
set_option linter.unusedVariables false
set_option linter.unusedSimpArgs false

/-- A vector that is handed back: seen, trimmed, at most so long, with these numbers. -/
def Gives (w : World) (most : Nat) (f : Nat → Nat) (e : Ending) (w' : World) : Prop :=
  ∃ R k rc l, e = .returned (.slice R k rc) ∧ SeesU w' R k l ∧ k ≤ rc ∧ rc ≤ 9223372036854775807 ∧ k ≤ most ∧ Trimmed l ∧ (∀ i, at_ l i = f i) ∧ Below w.heap.size w w'
def Took2 (w : World) (A : Option Addr) (n c : Nat) (a : List Nat) : Prop := SeesU w A n a ∧ Fits a ∧ n ≤ c ∧ c ≤ 9223372036854775807 ∧ n ≤ 900000
theorem Took2.below {w w' : World} {A : Option Addr} {n c : Nat} {a : List Nat} (h : Took2 w A n c a) (hb : Below w.heap.size w w') : Took2 w' A n c a := ⟨h.1.below hb, h.2⟩
def JoinSaid : Prop := ∀ (A B : Option Addr) (n c m d : Nat) (a b : List Nat) (w : World), Took2 w A n c a → Took2 w B m d b →
  Calls Try.prog 9 #[.slice A n c, .slice B m d] w (Gives w (Nat.max n m) fun i => Nat.max (at_ a i) (at_ b i))
def MeetSaid : Prop := ∀ (A B : Option Addr) (n c m d : Nat) (a b : List Nat) (w : World), Took2 w A n c a → Took2 w B m d b →
  Calls Try.prog 10 #[.slice A n c, .slice B m d] w (Gives w (Nat.max n m) fun i => Nat.min (at_ a i) (at_ b i))
def GetSaid : Prop := ∀ (A : Option Addr) (n c i : Nat) (a : List Nat) (w : World), SeesU w A n a → i ≤ 900000 →
  Calls Try.prog 12 #[.slice A n c, .int .i64 (i : Int)] w fun e w' => e = .returned (.int .u64 (at_ a i : Int)) ∧ Below w.heap.size w w'
def WithinSaid : Prop := ∀ (A B : Option Addr) (n c m d : Nat) (a b : List Nat) (w : World), Took2 w A n c a → Took2 w B m d b →
  Calls Try.prog 13 #[.slice A n c, .slice B m d] w fun e w' => e = .returned (.bool (withinL a b)) ∧ Below w.heap.size w w'
def SameSaid : Prop := ∀ (A B : Option Addr) (n c m d : Nat) (a b : List Nat) (w : World), Took2 w A n c a → Took2 w B m d b →
  Calls Try.prog 15 #[.slice A n c, .slice B m d] w fun e w' => e = .returned (.bool (withinL a b && withinL b a)) ∧ Below w.heap.size w w'
def ApartSaid : Prop := ∀ (A B : Option Addr) (n c m d : Nat) (a b : List Nat) (w : World), Took2 w A n c a → Took2 w B m d b →
  Calls Try.prog 16 #[.slice A n c, .slice B m d] w fun e w' => e = .returned (.bool (!withinL a b && !withinL b a)) ∧ Below w.heap.size w w'
def LackSaid : Prop := ∀ (A B : Option Addr) (n c m d : Nat) (a b : List Nat) (w : World), Took2 w A n c a → Took2 w B m d b →
  Calls Try.prog 17 #[.slice A n c, .slice B m d] w fun e w' => e = .returned (.int .u64 (Nat.min (lackL a b n) 18446744073709551615 : Nat)) ∧ Below w.heap.size w w'

theorem SeesU.new (w : World) (l : List Nat) (T : TypeId) : SeesU (w.alloc (.cells (us l).toArray T)) (some ⟨w.heap.size, 0, none⟩) l.length l :=
  ⟨rfl, fun _ => ⟨w.heap.size, 0, rfl, fun j x hx => by
    rw [Nat.zero_add, cell_of_row _ w.heap.size _ _ _ _ (heap_alloc_new w (.cells (us l).toArray T))]
    have := us_get hx
    simpa using this⟩⟩
theorem Took2.new (w : World) (l : List Nat) (T : TypeId) (k : Nat) (hk : l.length = k) (hf : Fits l) (hl : k ≤ 900000) : Took2 (w.alloc (.cells (us l).toArray T)) (some ⟨w.heap.size, 0, none⟩) k k l := by
  subst hk
  exact ⟨SeesU.new w l T, hf, Nat.le_refl _, by omega, hl⟩
theorem fits_list {l : List Nat} (h : ∀ x ∈ l, x < 18446744073709551616) : Fits l := fun i => by
  by_cases hi : i < l.length
  · exact h _ (List.mem_of_getElem? (at_lt hi))
  · rw [at_ge (by omega)]; decide

theorem same_yes {a b : List Nat} (h : ∀ i, at_ a i = at_ b i) : (withinL a b && withinL b a) = true := by
  rw [Bool.and_eq_true]
  exact ⟨within_iff.2 fun i => by rw [h]; exact Nat.le_refl _, within_iff.2 fun i => by rw [h]; exact Nat.le_refl _⟩
theorem fits_max {l a b : List Nat} (h : ∀ i, at_ l i = Nat.max (at_ a i) (at_ b i)) (ha : Fits a) (hb : Fits b) : Fits l := fun i => by
  rw [h]; exact Nat.max_lt.2 ⟨ha i, hb i⟩
theorem fits_min {l a b : List Nat} (h : ∀ i, at_ l i = Nat.min (at_ a i) (at_ b i)) (ha : Fits a) : Fits l := fun i => by
  rw [h]; exact Nat.lt_of_le_of_lt (Nat.min_le_left _ _) (ha i)

set_option maxRecDepth 100000 in
theorem awake_any (hj : JoinSaid) (hs : SameSaid) (hl : LackSaid) (w : World) : Calls Try.prog 8 #[] w fun e w' => e = .returned (.bool true) ∧ Below w.heap.size w w' := by
  have f12 : Fits [1, 2] := fits_list (by decide)
  have f3 : Fits [3] := fits_list (by decide)
  have f32 : Fits [3, 2] := fits_list (by decide)
  have f1 : Fits [1] := fits_list (by decide)
  go_enter Try.func8, Try.ntmps8
  go_wp2_with fail
  have t1 : Took2 ((w.alloc (.cells #[.int .u64 1, .int .u64 2] 26)).alloc (.cells #[.int .u64 3] 26)) (some ⟨w.heap.size, 0, none⟩) 2 2 [1, 2] :=
    (Took2.new w [1, 2] 26 2 rfl f12 (by decide)).below ((Below.refl _ _).alloc (Nat.le_refl _) _)
  have t2 : Took2 ((w.alloc (.cells #[.int .u64 1, .int .u64 2] 26)).alloc (.cells #[.int .u64 3] 26)) (some ⟨w.heap.size + 1, 0, none⟩) 1 1 [3] := by
    have := Took2.new (w.alloc (.cells #[.int .u64 1, .int .u64 2] 26)) [3] 26 1 rfl f3 (by decide)
    simpa [us] using this
  have b2 : Below w.heap.size w ((w.alloc (.cells #[.int .u64 1, .int .u64 2] 26)).alloc (.cells #[.int .u64 3] 26)) := ((Below.refl _ _).alloc (Nat.le_refl _) _).alloc (by simp) _
  generalize (w.alloc (.cells #[.int .u64 1, .int .u64 2] 26)).alloc (.cells #[.int .u64 3] 26) = w2 at t1 t2 b2 ⊢
  refine (hj _ _ _ _ _ _ _ _ _ t1 t2).mono ?_
  rintro e w3 ⟨R, k, rc, l, rfl, sl, hk1, hk2, hk3, htr, hat, hb3⟩
  have b3 := b2.trans (hb3.mono b2.size)
  have tl : Took2 w3 R k rc l := ⟨sl, fits_max hat f12 f3, hk1, hk2, by have : Nat.max 2 1 = 2 := rfl; omega⟩
  have hsame : ∀ i, at_ l i = at_ [3, 2] i := fun i => by
    rw [hat]
    match i with
    | 0 => rfl
    | 1 => rfl
    | i + 2 => rfl
  clear t1 t2 b2 hb3 hk3 hk1 hk2 sl htr hat
  go_wp2_with fail
  have t3 : Took2 (w3.alloc (.cells #[.int .u64 3, .int .u64 2] 26)) (some ⟨w3.heap.size, 0, none⟩) 2 2 [3, 2] := Took2.new w3 [3, 2] 26 2 rfl f32 (by decide)
  have b4 := b3.alloc b3.size (.cells #[.int .u64 3, .int .u64 2] 26)
  have tl4 := tl.below ((Below.refl _ _).alloc (Nat.le_refl _) (.cells #[.int .u64 3, .int .u64 2] 26))
  generalize w3.alloc (.cells #[.int .u64 3, .int .u64 2] 26) = w4 at t3 b4 tl4 ⊢
  refine (hs _ _ _ _ _ _ _ _ _ tl4 t3).mono ?_
  rw [same_yes hsame]
  rintro e w5 ⟨rfl, hb5⟩
  have b5 := b4.trans (hb5.mono b4.size)
  clear t3 b4 tl4 tl b3 hb5 hsame
  go_wp2_with fail
  have t1 : Took2 ((w5.alloc (.cells #[.int .u64 3, .int .u64 2] 26)).alloc (.cells #[.int .u64 1] 26)) (some ⟨w5.heap.size, 0, none⟩) 2 2 [3, 2] :=
    (Took2.new w5 [3, 2] 26 2 rfl f32 (by decide)).below ((Below.refl _ _).alloc (Nat.le_refl _) _)
  have t2 : Took2 ((w5.alloc (.cells #[.int .u64 3, .int .u64 2] 26)).alloc (.cells #[.int .u64 1] 26)) (some ⟨w5.heap.size + 1, 0, none⟩) 1 1 [1] := by
    have := Took2.new (w5.alloc (.cells #[.int .u64 3, .int .u64 2] 26)) [1] 26 1 rfl f1 (by decide)
    simpa [us] using this
  have b6 : Below w.heap.size w ((w5.alloc (.cells #[.int .u64 3, .int .u64 2] 26)).alloc (.cells #[.int .u64 1] 26)) := (b5.alloc b5.size _).alloc (by have := b5.size; simp; omega) _
  generalize (w5.alloc (.cells #[.int .u64 3, .int .u64 2] 26)).alloc (.cells #[.int .u64 1] 26) = w6 at t1 t2 b6 ⊢
  refine (hl _ _ _ _ _ _ _ _ _ t1 t2).mono ?_
  rw [show ((Nat.min (lackL [3, 2] [1] 2) 18446744073709551615 : Nat) : Int) = 4 from rfl]
  rintro e w7 ⟨rfl, hb7⟩
  have b7 := b6.trans (hb7.mono b6.size)
  clear t1 t2 b5 b6 hb7
  go_wp2
  go_ret
  exact ⟨rfl, b7⟩
end Go.Proofs.Ytpfmgjfkjjnadaa.Vec
