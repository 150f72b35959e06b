/- Package matrix: a matrix in memory; New, row, Raise. -/
import Derived.Test.YtlacihgoammjgaaMtxJoin
import Derived.Test.YtlacihgoammjgaaVecCmp
namespace Go.Proofs.Ytlacihgoammjgaa.Mtx
open Go Go.RowKit Go.Proofs.Ytlacihgoammjgaa.Words Go.Proofs.Ytlacihgoammjgaa.Vec
set_option linter.unusedVariables false
set_option linter.unusedSimpArgs false

/-- What is known of a member, as it lies in memory. -/
structure Hav where
  A : Option Addr
  n : Nat
  c : Nat
  H : List Nat
  t : Nat
def noHav : Hav := ⟨none, 0, 0, [], 0⟩
/-- The matrix at block mb knows R. -/
structure MatAt (mb : Nat) (R : Nat → Hav) (W : World) : Prop where
  row : ∃ cur : Array Value, W.heap[mb]? = some (.cells cur 84 (0, 0)) ∧ cur.size = 128 ∧ ∀ i, i < 64 → cur[2 * i]? = some (.slice (R i).A (R i).n (R i).c) ∧ cur[2 * i + 1]? = some (.int .u64 ((R i).t : Int))
  took : ∀ i, i < 64 → Took2 W (R i).A (R i).n (R i).c (R i).H
  apart : ∀ i, i < 64 → ∀ a, (R i).A = some a → mb < a.block
  few : ∀ i, i < 64 → (R i).t < 18446744073709551616
theorem MatAt.lt {mb : Nat} {R : Nat → Hav} {W : World} (h : MatAt mb R W) : mb < W.heap.size := by
  obtain ⟨cur, h1, _⟩ := h.row
  exact (Array.getElem?_eq_some_iff.1 h1).1
theorem MatAt.below {mb : Nat} {R : Nat → Hav} {W W' : World} (h : MatAt mb R W) (hb : Below W.heap.size W W') : MatAt mb R W' := by
  have hlt := h.lt
  obtain ⟨cur, h1, h2⟩ := h.row
  exact ⟨⟨cur, (hb.block _ hlt).trans h1, h2⟩, fun i hi => (h.took i hi).below hb, h.apart, h.few⟩
theorem MatAt.cells {mb : Nat} {R : Nat → Hav} {W : World} (h : MatAt mb R W) {i : Nat} (hi : i < 64) : W.cell? ⟨mb, i * 2, none⟩ = some (.slice (R i).A (R i).n (R i).c) ∧ W.cell? ⟨mb, i * 2 + 1, none⟩ = some (.int .u64 ((R i).t : Int)) := by
  obtain ⟨cur, h1, _, h2⟩ := h.row
  obtain ⟨h3, h4⟩ := h2 i hi
  rw [Nat.mul_comm] at h3 h4
  exact ⟨by rw [cell_of_row _ mb _ _ _ _ h1]; exact h3, by rw [cell_of_row _ mb _ _ _ _ h1]; exact h4⟩
theorem SeesU.beside {w w' : World} {S : List Nat} {A : Option Addr} {n : Nat} {l : List Nat} (h : SeesU w A n l) (hb : Beside S w w') (hS : ∀ a, A = some a → a.block ∉ S) : SeesU w' A n l := by
  refine ⟨h.1, fun hn => ?_⟩
  obtain ⟨b, o, hA, hc⟩ := h.2 hn
  exact ⟨b, o, hA, fun j u hu => hb.cell (hc j u hu) (show b ∉ S from hS _ hA)⟩
theorem Took2.beside {w w' : World} {S : List Nat} {A : Option Addr} {n c : Nat} {l : List Nat} (h : Took2 w A n c l) (hb : Beside S w w') (hS : ∀ a, A = some a → a.block ∉ S) : Took2 w' A n c l := ⟨SeesU.beside h.1 hb hS, h.2⟩

/-- One row of the matrix is another one. -/
def upd (R : Nat → Hav) (k : Nat) (x : Hav) : Nat → Hav := fun i => if i = k then x else R i
theorem MatAt.set {mb : Nat} {R : Nat → Hav} {W : World} (h : MatAt mb R W) (k : Nat) (hk : k < 64) (x : Hav) (hx : Took2 W x.A x.n x.c x.H) (ha : ∀ a, x.A = some a → mb < a.block) (ht : x.t < 18446744073709551616) :
    MatAt mb (upd R k x) ((W.setCell ⟨mb, k * 2, none⟩ (.slice x.A x.n x.c)).setCell ⟨mb, k * 2 + 1, none⟩ (.int .u64 (x.t : Int))) := by
  have hbe : Beside [mb] W ((W.setCell ⟨mb, k * 2, none⟩ (.slice x.A x.n x.c)).setCell ⟨mb, k * 2 + 1, none⟩ (.int .u64 (x.t : Int))) := ((Beside.refl _ W).setCell (by simp) _).setCell (by simp) _
  obtain ⟨cur, h1, h2, h3⟩ := h.row
  refine ⟨⟨_, heapSame (heapSame h1), by simp [h2], fun i hi => ?_⟩, fun i hi => ?_, fun i hi => ?_, fun i hi => ?_⟩
  · unfold upd
    by_cases e : i = k
    · subst e
      rw [if_pos rfl, Nat.mul_comm i 2]
      constructor
      · rw [Array.getElem?_setIfInBounds_ne (by omega), Array.getElem?_setIfInBounds_self_of_lt (by omega)]
      · rw [Array.getElem?_setIfInBounds_self_of_lt (by simp; omega)]
    · rw [if_neg e]
      constructor
      · rw [Array.getElem?_setIfInBounds_ne (by omega), Array.getElem?_setIfInBounds_ne (by omega)]; exact (h3 i hi).1
      · rw [Array.getElem?_setIfInBounds_ne (by omega), Array.getElem?_setIfInBounds_ne (by omega)]; exact (h3 i hi).2
  · unfold upd
    by_cases e : i = k
    · rw [if_pos e]; exact Took2.beside hx hbe (fun a h => by have := ha a h; simp; omega)
    · rw [if_neg e]; exact Took2.beside (h.took i hi) hbe (fun a h' => by have := h.apart i hi a h'; simp; omega)
  · unfold upd
    by_cases e : i = k
    · rw [if_pos e]; exact ha
    · rw [if_neg e]; exact h.apart i hi
  · unfold upd
    by_cases e : i = k
    · rw [if_pos e]; exact ht
    · rw [if_neg e]; exact h.few i hi

theorem MatAt.beside {mb : Nat} {R : Nat → Hav} {S : List Nat} {W W' : World} (h : MatAt mb R W) (hb : Beside S W W') (hS : ∀ x ∈ S, x < mb) : MatAt mb R W' := by
  have hlt := h.lt
  obtain ⟨cur, h1, h2⟩ := h.row
  exact ⟨⟨cur, (hb.block _ hlt (fun hm => by have := hS _ hm; omega)).trans h1, h2⟩, fun i hi => Took2.beside (h.took i hi) hb (fun a ha hm => by have := hS _ hm; have := h.apart i hi a ha; omega), h.apart, h.few⟩
theorem nodeM_any (k : Nat) (hk : k < 64) (w : World) : Calls Try.prog 37 #[.int .i64 (k : Int)] w fun e w' => e = .returned (.bool true) ∧ w' = w := by
  have h1 : (k : Int) < 64 := by omega
  go_enter Try.func37, Try.ntmps37
  go_wp2
  go_ret
  exact ⟨rfl, rfl⟩

def zeroRow : Array Value := (List.replicate 64 [Value.slice none 0 0, Value.int .u64 0]).flatten.toArray
set_option maxRecDepth 100000 in
theorem build_mat (W : World) : (Instr.build 84 #[]).run Try.prog W = .ok (.agg zeroRow) W := by kernel_rfl
theorem pairs_at (a b : Value) : ∀ (n i : Nat), i < n → (List.replicate n [a, b]).flatten[2 * i]? = some a ∧ (List.replicate n [a, b]).flatten[2 * i + 1]? = some b
  | 0, i, h => absurd h (by omega)
  | n + 1, 0, _ => ⟨rfl, rfl⟩
  | n + 1, i + 1, h => by
    have := pairs_at a b n i (by omega)
    rw [List.replicate_succ, List.flatten_cons]
    rw [show 2 * (i + 1) = (2 * i) + 1 + 1 by omega]
    simpa using this
theorem zeroRow_at : ∀ i, i < 64 → zeroRow[2 * i]? = some (.slice none 0 0) ∧ zeroRow[2 * i + 1]? = some (.int .u64 0) := by
  intro i hi
  have := pairs_at (Value.slice none 0 0) (Value.int .u64 0) 64 i hi
  unfold zeroRow
  simpa using this
theorem mat_new (w : World) : MatAt w.heap.size (fun _ => noHav) (w.alloc (.cells zeroRow 84)) :=
  ⟨⟨zeroRow, heap_alloc_new w _, rfl, fun i hi => zeroRow_at i hi⟩, fun i hi => ⟨SeesU.nil _ _, fun j => by simp [noHav, at_], Nat.le_refl _, by simp [noHav], by simp [noHav]⟩, fun i hi a h => (by cases h), fun i hi => (by simp [noHav])⟩
set_option maxRecDepth 100000 in
theorem zero_mat : Try.zeroCells84 = zeroRow := by kernel_rfl
set_option maxRecDepth 100000 in
theorem new_any (w : World) : Calls Try.prog 21 #[] w fun e w' => e = .returned (.pointer (some ⟨w.heap.size, 0, none⟩)) ∧ w' = w.alloc (.cells zeroRow 84) := by
  have hz := zero_mat
  generalize zeroRow = z at hz ⊢
  subst hz
  go_enter Try.func21, Try.ntmps21
  go_wp2
  go_ret
  exact ⟨rfl, rfl⟩
end Go.Proofs.Ytlacihgoammjgaa.Mtx
