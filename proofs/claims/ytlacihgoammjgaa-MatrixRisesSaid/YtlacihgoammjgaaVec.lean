/- Words for slices of u64 in memory; vectors as lists of numbers; what the law's own reference functions answer. -/
import Derived.Test.YtlacihgoammjgaaBGround
namespace Go.Proofs.Ytlacihgoammjgaa.Vec
open Go Go.RowKit Go.Proofs.Ytlacihgoammjgaa.Words
set_option linter.unusedVariables false
set_option linter.unusedSimpArgs false

/-- Numbers as cells. -/
def us (l : List Nat) : List Value := l.map fun (x : Nat) => Value.int .u64 (x : Int)
theorem us_length (l : List Nat) : (us l).length = l.length := by simp [us]
theorem us_get {l : List Nat} {j x : Nat} (h : l[j]? = some x) : (us l)[j]? = some (.int .u64 (x : Int)) := by simp [us, h]
theorem us_one (l : List Nat) : ∀ u ∈ us l, u.oneCell' = true := by
  intro u hu
  obtain ⟨_, _, rfl⟩ := List.mem_map.1 hu
  rfl

/-- The slice of n numbers at A shows l. -/
def SeesU (w : World) (A : Option Addr) (n : Nat) (l : List Nat) : Prop :=
  l.length = n ∧ (0 < n → ∃ b o, A = some ⟨b, o, none⟩ ∧ ∀ (j x : Nat), l[j]? = some x → w.cell? ⟨b, o + j, none⟩ = some (.int .u64 (x : Int)))
theorem SeesU.nil (w : World) (A : Option Addr) : SeesU w A 0 [] := ⟨rfl, fun h => absurd h (by omega)⟩
theorem SeesU.drew {w : World} {A : Option Addr} {n : Nat} {l : List Nat} (h : SeesU w A n l) : SeesU w.drew A n l := h
theorem SeesU.drewN {w : World} {A : Option Addr} {n : Nat} {l : List Nat} (h : SeesU w A n l) (k : Nat) : SeesU (w.drewN k) A n l := h
theorem SeesU.below {w w' : World} {A : Option Addr} {n : Nat} {l : List Nat} (h : SeesU w A n l) (hb : Below w.heap.size w w') : SeesU w' A n l := by
  refine ⟨h.1, fun hn => ?_⟩
  obtain ⟨b, o, hA, hc⟩ := h.2 hn
  refine ⟨b, o, hA, fun j u hu => ?_⟩
  have hcell := hc j u hu
  have hlt := World.block_lt_of_cell? _ _ hcell
  rw [hb.cell (p := ⟨b, o + j, none⟩) hlt]
  exact hcell
theorem SeesU.of_own {w : World} {base : Nat} {e : TypeId} {A : Option Addr} {n c : Nat} {l : List Nat} (h : w.ownsRow base e 1 (.slice A n c) n (us l)) : SeesU w A n l := by
  refine ⟨by have := h.1; rw [us_length] at this; omega, fun hn => ?_⟩
  obtain ⟨g, rfl, _⟩ := Own.at_ h hn
  exact ⟨g, 0, rfl, fun j u hu => by rw [← add_plain]; exact h.cells (g := g) rfl j _ (us_get hu)⟩
theorem SeesU.take {w : World} {A : Option Addr} {n : Nat} {l : List Nat} (h : SeesU w A n l) {k : Nat} (hk : k ≤ n) : SeesU w A k (l.take k) := by
  refine ⟨by rw [List.length_take, h.1]; omega, fun hn => ?_⟩
  obtain ⟨b, o, e, hc⟩ := h.2 (by omega)
  refine ⟨b, o, e, fun j u hu => ?_⟩
  rw [List.getElem?_take] at hu
  split at hu
  · exact hc j u hu
  · cases hu
/-- The number at place i; 0 behind the end. -/
def at_ (l : List Nat) (i : Nat) : Nat := l.getD i 0
theorem at_lt {l : List Nat} {i : Nat} (h : i < l.length) : l[i]? = some (at_ l i) := by
  unfold at_
  rw [List.getD_eq_getElem?_getD, List.getElem?_eq_getElem h]
  rfl
theorem at_ge {l : List Nat} {i : Nat} (h : l.length ≤ i) : at_ l i = 0 := by
  unfold at_
  rw [List.getD_eq_getElem?_getD, List.getElem?_eq_none h]
  rfl
/-- Each is below 2^64. -/
def Fits (l : List Nat) : Prop := ∀ i, at_ l i < 18446744073709551616
theorem SeesU.get {w : World} {A : Option Addr} {n : Nat} {l : List Nat} (h : SeesU w A n l) {j : Nat} (hj : j < n) : ∃ b o, A = some ⟨b, o, none⟩ ∧ w.cell? ⟨b, o + j, none⟩ = some (.int .u64 (at_ l j : Int)) := by
  obtain ⟨b, o, hA, hc⟩ := h.2 (by omega)
  exact ⟨b, o, hA, hc j _ (at_lt (by rw [h.1]; exact hj))⟩
theorem SeesU.cell {w : World} {g o n : Nat} {l : List Nat} (h : SeesU w (some ⟨g, o, none⟩) n l) {j : Nat} (hj : j < n) : w.cell? ⟨g, o + j, none⟩ = some (.int .u64 (at_ l j : Int)) := by
  obtain ⟨b, o', hA, hc⟩ := h.get hj
  injection hA with hA
  injection hA with h1 h2
  subst h1; subst h2
  exact hc
/-- A slice of numbers that came in, as the rows open it. -/
theorem seesU_of_row {w : World} {a : Option Addr} {len cap : Nat} {zs : List Int}
    (h : (a = none ∧ len = 0 ∧ cap = 0 ∧ zs = []) ∨ ∃ x, a = some x ∧ len ≤ cap ∧ cap ≤ maxLen ∧ zs.length = cap ∧ (∀ i, i < zs.length → w.cell? (x.add i) = some (.int .u64 (zs.getD i 0))) ∧ ∀ n ∈ zs, (Lit.int .u64 n).wf = true) :
    ∃ l, SeesU w a len l ∧ Fits l ∧ len ≤ cap ∧ cap ≤ maxLen := by
  rcases h with ⟨rfl, rfl, rfl, rfl⟩ | ⟨x, rfl, hl, hm, hz, hc, hw⟩
  · exact ⟨[], SeesU.nil _ _, fun i => by simp [at_], Nat.le_refl _, Nat.zero_le _⟩
  · have hb : ∀ j, j < zs.length → ∃ y : Nat, zs.getD j 0 = (y : Int) ∧ y < 18446744073709551616 := by
      intro j hj
      have hm : zs.getD j 0 ∈ zs := by rw [List.getD_eq_getElem?_getD, List.getElem?_eq_getElem hj]; exact List.getElem_mem hj
      generalize zs.getD j 0 = y at hm ⊢
      have := hw _ hm
      simp [Lit.wf, IntKind.min, IntKind.max, IntKind.signed, IntKind.bits] at this
      exact ⟨y.toNat, by omega, by omega⟩
    have hat : ∀ j, j < len → ((zs.take len).map Int.toNat)[j]? = some (zs.getD j 0).toNat := by
      intro j hj
      rw [List.getElem?_map, List.getElem?_take, if_pos hj, List.getD_eq_getElem?_getD, List.getElem?_eq_getElem (by omega)]
      rfl
    refine ⟨(zs.take len).map Int.toNat, ⟨by simp; omega, fun hn => ?_⟩, fun i => ?_, hl, hm⟩
    · obtain ⟨b, o, s⟩ := x
      have hs0 : s = none := by
        have := hc 0 (by omega)
        simpa [Addr.add] using World.cell?_spot this
      subst hs0
      refine ⟨b, o, rfl, fun j u hu => ?_⟩
      have hj : j < len := by
        have := (List.getElem?_eq_some_iff.1 hu).1
        simp at this; omega
      rw [hat j hj] at hu
      injection hu with hu
      have hcj := hc j (by omega)
      rw [add_plain] at hcj
      rw [hcj]
      obtain ⟨y, hy, _⟩ := hb j (by omega)
      rw [hy] at hu ⊢
      simp at hu
      rw [hu]
    · by_cases hi : i < len
      · obtain ⟨y, hy, hy2⟩ := hb i (by omega)
        unfold at_
        rw [List.getD_eq_getElem?_getD, hat i hi, hy]
        simpa using hy2
      · rw [at_ge (by simp; omega)]
        decide

/-! What vectors are. -/
/-- No 0 behind. -/
def Trimmed (l : List Nat) : Prop := l = [] ∨ at_ l (l.length - 1) ≠ 0
/-- Has b all that a has? -/
def withinL (a b : List Nat) : Bool := (List.range a.length).all fun i => decide (at_ a i ≤ at_ b i)
theorem within_iff {a b : List Nat} : withinL a b = true ↔ ∀ i, at_ a i ≤ at_ b i := by
  unfold withinL
  rw [List.all_eq_true]
  constructor
  · intro h i
    by_cases hi : i < a.length
    · simpa using h i (List.mem_range.2 hi)
    · rw [at_ge (by omega)]; exact Nat.zero_le _
  · intro h i _
    simpa using h i
/-- The sum of what a has and b hasn't, of the first k. -/
def lackL (a b : List Nat) : Nat → Nat
  | 0 => 0
  | k + 1 => lackL a b k + (at_ a k - at_ b k)

/-! The law's own reference. -/
set_option maxRecDepth 100000 in
theorem refGet_any (A : Option Addr) (n c : Nat) (a : List Nat) (i : Nat) (w : World) (hs : SeesU w A n a) :
    Calls Try.prog 24 #[.slice A n c, .int .i64 (i : Int)] w fun e w' => e = .returned (.int .u64 (at_ a i : Int)) ∧ w' = w := by
  have h0 : decide ((i : Int) < 0) = false := decide_eq_false (by omega)
  by_cases hi : i < n
  · obtain ⟨b, o, rfl, hc⟩ := hs.get hi
    generalize at_ a i = x at hc ⊢
    have h1 : decide ((n : Int) ≤ (i : Int)) = false := decide_eq_false (by omega)
    have h2 : (i : Int) < (n : Int) := by omega
    clear hs hi
    go_enter Try.func24, Try.ntmps24
    go_wp2
    go_ret
    exact ⟨rfl, rfl⟩
  · have h1 : n ≤ i := by omega
    rw [at_ge (by rw [hs.1]; omega)]
    clear hs hi
    go_enter Try.func24, Try.ntmps24
    go_wp2
    go_ret
    exact ⟨rfl, rfl⟩
end Go.Proofs.Ytlacihgoammjgaa.Vec
