/- Package fold: New, Cell. -/
import Derived.Test.YtjceeojbnpcpfaaGreatFolA
import Derived.Test.YtjceeojbnpcpfaaGreatShelf
import Derived.Laws.Cells
namespace Go.Proofs.YtjceeojbnpcpfaaGreat.Fol
open Go Go.RowKit Go.Proofs.YtjceeojbnpcpfaaGreat.Words Go.Proofs.YtjceeojbnpcpfaaGreat.Enc Go.Proofs.YtjceeojbnpcpfaaGreat.Q Go.Proofs.YtjceeojbnpcpfaaGreat.Evt
set_option linter.unusedVariables false
set_option linter.unusedSimpArgs false

section
variable {P : Program} {ops : Array Oper} {rest : List Oper} {op : Oper} {a : Act} {w : World} {Q : Exit → Act → World → Prop}
theorem wpList_build2 (hgd : op.guard = none) (t : TypeId) (i j : Nat) (x y : Operand) (ho : op.op = .build t #[(i, x), (j, y)]) (vx vy v : Value) (hx : a.eval x = vx) (hy : a.eval y = vy)
    (hrun : (Instr.build t #[(i, vx), (j, vy)]).run P w = .ok v w) (h : wpList P ops Q rest (a.put op.dst v) w) : wpList P ops Q (op :: rest) a w := by
  refine wpList_plain hgd fun K hK => ?_
  unfold Oper.wp execOp
  simp only [ho, List.map_toArray, List.map_cons, List.map_nil, hx, hy, Sem.run_bind, Sem.run_pure, Result.andThen_ok, hrun]
  exact hK _ _ h
end
theorem ok_new (n : Nat) : Ok (newF n) := by
  refine ⟨List.Pairwise.nil, by simp [newF], by simp [newF], by simp [newF], fun x hx => ?_, by simp [newF], by simp [newF], by simp [newF], fun p hp => (by cases hp), fun p hp => (by cases hp)⟩
  have : x = 0 := by simpa [newF] using hx
  omega
theorem row_new (mb n : Nat) (hn : n < 64) : (row mb (newF n)).setIfInBounds (1 + n) (.bool true) = row mb (newF (n + 1)) := by
  unfold row cells newF
  simp only [List.setIfInBounds_toArray]
  congr 1
  rw [Nat.add_comm 1 n, List.set_cons_succ, List.set_append_left _ _ (by simp; omega)]
  congr 2
  refine List.ext_getElem (by simp) fun i h1 h2 => ?_
  simp only [List.getElem_set, List.getElem_map, List.getElem_range]
  split
  · rename_i e
    subst e
    simp
  · rename_i e
    congr 1
    apply decide_eq_decide.2
    omega
set_option maxRecDepth 100000 in
theorem build_new (b : Nat) (W : World) : (Instr.build 58 #[(0, .map (some b)), (5, .int .u64 14695981039346656037)]).run Tryz.prog W = .ok (.agg (row b (newF 0))) W := by kernel_rfl

set_option maxRecDepth 100000 in
theorem new_any (n : Nat) (hn : n ≤ 64) (w : World) :
    Calls Tryz.prog 5 #[.int .i64 (n : Int)] w fun e w' => e = .returned (.pointer (some ⟨w.heap.size + 1, 0, none⟩)) ∧
      FoldAt w' [w.heap.size + 1, w.heap.size] (w.heap.size + 1) w.heap.size (newF n) ∧ Below w.heap.size w w' := by
  have hmk := run_makeMap (P := Tryz.prog) 53 w
  have hmin : min (n : Int) 64 = (n : Int) := by omega
  obtain ⟨R, hR⟩ : ∃ R : Nat → Array Value, ∀ j, row w.heap.size (newF j) = R j := ⟨_, fun _ => rfl⟩
  have hrs : ∀ j, (R j).size = 196 := fun j => by rw [← hR]; exact row_size (ok_new j)
  have HST := Lib.hid (fun (j : Nat) (hj : j < 64) => (by rw [← hR, ← hR]; exact row_new w.heap.size j hj : (R j).setIfInBounds (1 + j) (.bool true) = R (j + 1)))
  have hB := Lib.hid (show Below w.heap.size w ((w.alloc (.map #[] 0)).alloc (.cells (R 0) 58)) from ((Below.refl _ _).alloc (Nat.le_refl _) _).alloc (by simp) _)
  have hH := Lib.hid (show ((w.alloc (.map #[] 0)).alloc (.cells (R 0) 58)).heap[w.heap.size + 1]? = some (.cells (R 0) 58 (0, 0)) by
    have := heap_alloc_new (w.alloc (.map #[] 0)) (.cells (R 0) 58)
    simpa using this)
  have hM := Lib.hid (show MapAt ((w.alloc (.map #[] 0)).alloc (.cells (R 0) 58)) w.heap.size [] from (mapAt_made w).kept (Below.heap_alloc _ _ _ (by simp)))
  have hbn := build_new w.heap.size
  rw [hR] at hbn
  have hBN := Lib.hid hbn
  clear hbn
  have hR := Lib.hid hR
  go_enter Tryz.func5, Tryz.ntmps5
  go_wp2_with (first | (refine wpList_build2 rfl 58 0 5 (.tmp 5) (.const (.int .u64 14695981039346656037)) rfl (.map (some w.heap.size)) (.int .u64 14695981039346656037) (.agg (R 0)) rfl rfl (hBN.out _) ?_))
  go_loopw [4, 10] (fun x y wr => ∃ j : Nat, y = .int .i64 (j : Int) ∧ j ≤ n ∧ wr.heap[w.heap.size + 1]? = some (.cells (R j) 58 (0, 0)) ∧ Below w.heap.size w wr ∧ MapAt wr w.heap.size []) (fun x y _ => n - (intOf y).toNat)
  case atStart => exact ⟨0, rfl, by omega, by simpa using hH.out, by simpa using hB.out, by simpa using hM.out⟩
  case round =>
    obtain ⟨j, rfl, hj, hh, hb, hm⟩ := hrel
    by_cases h1 : j < n
    · have hd : decide ((j : Int) < (n : Int)) = true := decide_eq_true (by omega)
      obtain ⟨v, hv⟩ : ∃ v, (R j)[1 + j]? = some v := ⟨_, Array.getElem?_eq_getElem (by rw [hrs]; omega)⟩
      have hc : wr.cell? ⟨w.heap.size + 1, 1 + j, none⟩ = some v := by rw [cell_of_row wr _ _ _ _ _ hh]; exact hv
      have hf : wr.frozen? ⟨w.heap.size + 1, 1 + j, none⟩ = false := frozen_row0 hh
      have hi : (j : Int) < 64 := by omega
      have HH := Lib.hid hh
      have HB := Lib.hid hb
      have HM := Lib.hid hm
      clear hh hb hm hv
      go_wp2
      go_roundw
      case rel =>
        have e := HST.out j (by omega)
        refine ⟨j + 1, by simp, by omega, ?_, Below.beside HB.out ((Beside.refl [w.heap.size + 1] _).setCell (by simp) _) HB.out.size (by simp), HM.out.kept (heapOther (by omega))⟩
        rw [heapSame HH.out, e]
      case measure => simp [intOf]; omega
    · have hd : decide ((j : Int) < (n : Int)) = false := decide_eq_false (by omega)
      obtain rfl : j = n := by omega
      have HH := Lib.hid hh
      have HB := Lib.hid hb
      have HM := Lib.hid hm
      clear hh hb hm
      go_wp2
      go_ret
      refine ⟨rfl, ⟨?_, ⟨[], HM.out, rfl, fun p hp => by cases hp⟩, ok_new _, by omega, by simp, by simp⟩, HB.out⟩
      rw [HH.out, ← hR.out]
end Go.Proofs.YtjceeojbnpcpfaaGreat.Fol
