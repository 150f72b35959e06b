/- event's functions on fields: fieldsOf, isNode; the document's. -/
import Derived.Test.YtocokfgkbdfodaaEvMath
import Derived.Lib.Hide
namespace Go.Proofs.Ytocokfgkbdfodaa.Evt
open Go Go.RowKit Go.Proofs.Ytocokfgkbdfodaa.Words Go.Proofs.Ytocokfgkbdfodaa.Enc Go.Proofs.Ytocokfgkbdfodaa.Q
set_option linter.unusedVariables false

/-- What a kind uses. -/
def usesV (k : Nat) : Value := .tuple #[.agg #[.bool (decide (1 ≤ k ∧ k ≤ 4)), .bool (decide (k = 1)), .bool (decide (k = 2 ∨ k = 3)), .bool (decide (k = 5))], .bool (decide (1 ≤ k ∧ k ≤ 6))]

set_option maxRecDepth 100000 in
theorem fieldsOf_any (k : Nat) (w : World) :
    Calls Try.prog 22 #[.int .u8 (k : Int)] w fun e w' => e = .returned (usesV k) ∧ Below w.heap.size w w' := by
  by_cases hk : 1 ≤ k ∧ k ≤ 6
  · rcases (show k = 1 ∨ k = 2 ∨ k = 3 ∨ k = 4 ∨ k = 5 ∨ k = 6 by omega) with rfl | rfl | rfl | rfl | rfl | rfl
    all_goals
      go_enter Try.func22, Try.ntmps22
      go_wp2
      exact bodyPost_ret (v := usesV _) (by simp [results, Try.results22, go_sem, usesV]) rfl ⟨rfl, (Below.refl _ _).alloc (Nat.le_refl _) _⟩
  · have h1 : ((k : Int) == 1) = false := by rw [beq_eq_false_iff_ne]; omega
    have h2 : ((k : Int) == 2) = false := by rw [beq_eq_false_iff_ne]; omega
    have h3 : ((k : Int) == 3) = false := by rw [beq_eq_false_iff_ne]; omega
    have h4 : ((k : Int) == 4) = false := by rw [beq_eq_false_iff_ne]; omega
    have h5 : ((k : Int) == 5) = false := by rw [beq_eq_false_iff_ne]; omega
    have h6 : ((k : Int) == 6) = false := by rw [beq_eq_false_iff_ne]; omega
    have hu : usesV k = .tuple #[.agg #[.bool false, .bool false, .bool false, .bool false], .bool false] := by
      unfold usesV
      rw [decide_eq_false (show ¬ (1 ≤ k ∧ k ≤ 4) by omega), decide_eq_false (show ¬ (k = 1) by omega), decide_eq_false (show ¬ (k = 2 ∨ k = 3) by omega), decide_eq_false (show ¬ (k = 5) by omega), decide_eq_false hk]
    rw [hu]
    clear hu hk
    go_enter Try.func22, Try.ntmps22
    go_wp2
    exact bodyPost_ret (v := .tuple #[.agg #[.bool false, .bool false, .bool false, .bool false], .bool false]) (by simp [results, Try.results22, go_sem]) rfl ⟨rfl, (Below.refl _ _).alloc (Nat.le_refl _) _⟩

theorem uses1 : usesV 1 = .tuple #[.agg #[.bool true, .bool true, .bool false, .bool false], .bool true] := by simp [usesV]
theorem uses2 : usesV 2 = .tuple #[.agg #[.bool true, .bool false, .bool true, .bool false], .bool true] := by simp [usesV]
theorem uses3 : usesV 3 = .tuple #[.agg #[.bool true, .bool false, .bool true, .bool false], .bool true] := by simp [usesV]
theorem uses4 : usesV 4 = .tuple #[.agg #[.bool true, .bool false, .bool false, .bool false], .bool true] := by simp [usesV]
theorem uses5 : usesV 5 = .tuple #[.agg #[.bool false, .bool false, .bool false, .bool true], .bool true] := by simp [usesV]
theorem uses6 : usesV 6 = .tuple #[.agg #[.bool false, .bool false, .bool false, .bool false], .bool true] := by simp [usesV]
theorem uses_no {k : Nat} (h : k < 1 ∨ 6 < k) : usesV k = .tuple #[.agg #[.bool false, .bool false, .bool false, .bool false], .bool false] := by
  unfold usesV
  rw [decide_eq_false (show ¬ (1 ≤ k ∧ k ≤ 4) by omega), decide_eq_false (show ¬ (k = 1) by omega), decide_eq_false (show ¬ (k = 2 ∨ k = 3) by omega), decide_eq_false (show ¬ (k = 5) by omega), decide_eq_false (show ¬ (1 ≤ k ∧ k ≤ 6) by omega)]

theorem ret_int {k : IntKind} {a b : Int} (h : a = b) : Ending.returned (.int k a) = .returned (.int k b) := by rw [h]
def nodeB (n : Int) : Bool := decide (0 ≤ n ∧ n ≤ 63)
theorem isNode_any (n : Int) (w : World) :
    Calls Try.prog 23 #[.int .i64 n] w fun e w' => e = .returned (.bool (nodeB n)) ∧ w' = w := by
  by_cases h : 0 ≤ n <;> by_cases h2 : n < 64
  all_goals
    go_enter Try.func23, Try.ntmps23
    go_wp2
    go_ret
    refine ⟨?_, rfl⟩
    congr 2
    simp [nodeB]
    omega

/-- The kit's store has no word on floats. -/
theorem store_float (P : Program) (x : Nat) (W : World) (a : Addr) : (store a (.float .f64 x)).run P W = stored P W a (.float .f64 x) .plain := run_store P W a _ _ rfl

theorem box8 {w : World} {b : Nat} {v0 v1 v2 v3 v4 v5 v6 v7 : Value} {T : TypeId} {f : Nat × Nat} (h : w.heap[b]? = some (.cells #[v0, v1, v2, v3, v4, v5, v6, v7] T f)) :
    w.cell? ⟨b, 0, none⟩ = some v0 ∧ w.cell? ⟨b, 1, none⟩ = some v1 ∧ w.cell? ⟨b, 2, none⟩ = some v2 ∧ w.cell? ⟨b, 3, none⟩ = some v3 ∧ w.cell? ⟨b, 4, none⟩ = some v4 ∧ w.cell? ⟨b, 5, none⟩ = some v5 ∧ w.cell? ⟨b, 6, none⟩ = some v6 ∧ w.cell? ⟨b, 7, none⟩ = some v7 := by
  refine ⟨?_, ?_, ?_, ?_, ?_, ?_, ?_, ?_⟩ <;> (rw [cell_of_row w b _ _ _ _ h]; rfl)

theorem b4cells {w : World} {b : Nat} {v0 v1 v2 v3 : Value} {T : TypeId} {f : Nat × Nat} (h : w.heap[b]? = some (.cells #[v0, v1, v2, v3] T f)) :
    w.cell? ⟨b, 0, none⟩ = some v0 ∧ w.cell? ⟨b, 1, none⟩ = some v1 ∧ w.cell? ⟨b, 2, none⟩ = some v2 ∧ w.cell? ⟨b, 3, none⟩ = some v3 := by
  refine ⟨?_, ?_, ?_, ?_⟩ <;> (rw [cell_of_row w b _ _ _ _ h]; rfl)

theorem key_len (key : ByteArray) : key.toList.length = key.size := by rw [ByteArray.toList_eq]; rfl
theorem key_nil {key : ByteArray} {m : Nat} (hm : key.size = m) : key.toList = [] ↔ m = 0 := by
  have hl := key_len key
  constructor
  · intro h; rw [h, List.length_nil] at hl; omega
  · intro h; exact List.eq_nil_of_length_eq_zero (by omega)

section
variable {wr : Int} {sq tm kd : Nat} {key : ByteArray} {text : List UInt8} {num : Nat} {node : Int} {m n : Nat}
theorem rt1 (hm : key.size = m) (hn : text.length = n) (h : (wr < 0 ∨ 63 < wr ∨ sq = 0 ∨ tm = 0 ∨ kd < 1 ∨ 6 < kd) ∨ kd = 5 ∧ (node < 0 ∨ 63 < node)) : (1 : Int) = (rightE ⟨wr, sq, tm, kd, key, text, num, node⟩ : Int) := by
  simp only [rightE]
  by_cases h1 : wr < 0 ∨ 63 < wr ∨ sq = 0 ∨ tm = 0 ∨ kd < 1 ∨ 6 < kd
  · rw [if_pos h1]; rfl
  · rw [if_neg h1, if_pos (by omega)]; rfl
theorem rt6 (hm : key.size = m) (hn : text.length = n) (h1 : ¬ (wr < 0 ∨ 63 < wr ∨ sq = 0 ∨ tm = 0 ∨ kd < 1 ∨ 6 < kd)) (h2 : ¬ (kd = 5 ∧ (node < 0 ∨ 63 < node))) (h : (kd ≤ 4 ∧ (m = 0 ∨ 64 < m)) ∨ kd = 1 ∧ 1048576 < n) : (6 : Int) = (rightE ⟨wr, sq, tm, kd, key, text, num, node⟩ : Int) := by
  simp only [rightE]
  rw [if_neg h1, if_neg h2, hm, hn]
  by_cases h3 : kd ≤ 4 ∧ (m = 0 ∨ 64 < m)
  · rw [if_pos h3]; rfl
  · rw [if_neg h3, if_pos (by omega)]; rfl
theorem rt80 (hm : key.size = m) (hn : text.length = n) (h1 : ¬ (wr < 0 ∨ 63 < wr ∨ sq = 0 ∨ tm = 0 ∨ kd < 1 ∨ 6 < kd)) (h2 : ¬ (kd = 5 ∧ (node < 0 ∨ 63 < node))) (h3 : ¬ ((kd ≤ 4 ∧ (m = 0 ∨ 64 < m)) ∨ kd = 1 ∧ 1048576 < n)) :
    (rightE ⟨wr, sq, tm, kd, key, text, num, node⟩ : Int) = if 9223372036854775808 ≤ sq ∨ 9223372036854775808 ≤ tm then 8 else 0 := by
  simp only [rightE]
  rw [if_neg h1, if_neg h2, hm, hn, if_neg (by omega), if_neg (by omega)]
  split <;> rfl
theorem rt8 (hm : key.size = m) (hn : text.length = n) (h1 : ¬ (wr < 0 ∨ 63 < wr ∨ sq = 0 ∨ tm = 0 ∨ kd < 1 ∨ 6 < kd)) (h2 : ¬ (kd = 5 ∧ (node < 0 ∨ 63 < node))) (h3 : ¬ ((kd ≤ 4 ∧ (m = 0 ∨ 64 < m)) ∨ kd = 1 ∧ 1048576 < n)) (h : 9223372036854775808 ≤ sq ∨ 9223372036854775808 ≤ tm) :
    (8 : Int) = (rightE ⟨wr, sq, tm, kd, key, text, num, node⟩ : Int) := by rw [rt80 hm hn h1 h2 h3, if_pos h]
theorem rt0 (hm : key.size = m) (hn : text.length = n) (h1 : ¬ (wr < 0 ∨ 63 < wr ∨ sq = 0 ∨ tm = 0 ∨ kd < 1 ∨ 6 < kd)) (h2 : ¬ (kd = 5 ∧ (node < 0 ∨ 63 < node))) (h3 : ¬ ((kd ≤ 4 ∧ (m = 0 ∨ 64 < m)) ∨ kd = 1 ∧ 1048576 < n)) (h : ¬ (9223372036854775808 ≤ sq ∨ 9223372036854775808 ≤ tm)) :
    (0 : Int) = (rightE ⟨wr, sq, tm, kd, key, text, num, node⟩ : Int) := by rw [rt80 hm hn h1 h2 h3, if_neg h]
end

/-- The event in a box, in a world that has gone on. -/
theorem boxed (v : Array Value) (w : World) {W : World} (hW : Below (w.heap.size + 1) (w.alloc (.cells v 26)) W) : Below w.heap.size w W ∧
    W.heap[w.heap.size]? = some (.cells v 26 (0, 0)) ∧ w.heap.size < W.heap.size := by
  refine ⟨((Below.refl _ _).alloc (Nat.le_refl _) _).trans (hW.mono (by omega)), ?_, by have := hW.size; simp at this; omega⟩
  rw [hW.block w.heap.size (by omega)]
  exact heap_alloc_new w _

/-- The shapes of what a kind uses. -/
theorem shapes (kd : Nat) : (kd = 1 ∧ usesV kd = .tuple #[.agg #[.bool true, .bool true, .bool false, .bool false], .bool true]) ∨
    ((2 ≤ kd ∧ kd ≤ 4) ∧ ∃ b, usesV kd = .tuple #[.agg #[.bool true, .bool false, .bool b, .bool false], .bool true]) ∨
    (kd = 5 ∧ usesV kd = .tuple #[.agg #[.bool false, .bool false, .bool false, .bool true], .bool true]) ∨
    (kd = 6 ∧ usesV kd = .tuple #[.agg #[.bool false, .bool false, .bool false, .bool false], .bool true]) ∨
    ((kd < 1 ∨ 6 < kd) ∧ usesV kd = .tuple #[.agg #[.bool false, .bool false, .bool false, .bool false], .bool false]) := by
  rcases (show kd = 1 ∨ kd = 2 ∨ kd = 3 ∨ kd = 4 ∨ kd = 5 ∨ kd = 6 ∨ (kd < 1 ∨ 6 < kd) by omega) with rfl | rfl | rfl | rfl | rfl | rfl | hk
  · exact .inl ⟨rfl, uses1⟩
  · exact .inr (.inl ⟨by omega, _, uses2⟩)
  · exact .inr (.inl ⟨by omega, _, uses3⟩)
  · exact .inr (.inl ⟨by omega, _, uses4⟩)
  · exact .inr (.inr (.inl ⟨rfl, uses5⟩))
  · exact .inr (.inr (.inr (.inl ⟨rfl, uses6⟩)))
  · exact .inr (.inr (.inr (.inr ⟨hk, uses_no hk⟩)))

end Go.Proofs.Ytocokfgkbdfodaa.Evt
