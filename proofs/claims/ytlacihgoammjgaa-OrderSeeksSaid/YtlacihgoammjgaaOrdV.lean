/- Order: Upto. -/
import Derived.Test.YtlacihgoammjgaaOrdU
import Derived.Test.YtlacihgoammjgaaOrdR
namespace Go.Proofs.Ytlacihgoammjgaa.Ord
open Go Go.RowKit Go.Proofs.Ytlacihgoammjgaa.Words Go.Proofs.Ytlacihgoammjgaa.Enc Go.Proofs.Ytlacihgoammjgaa.Evt Go.Proofs.Ytlacihgoammjgaa.Seg
set_option linter.unusedVariables false
set_option linter.unusedSimpArgs false

def isL (C : List Nat) : List Value := C.map fun (n : Nat) => Value.int .i64 (n : Int)
theorem infoInt : (Try.prog.info? 3).map (fun i => (i.zero, i.size, i.bytes)) = some (some (.int .i64 0), 1, 8) := by kernel_rfl
set_option maxRecDepth 100000 in
theorem make_is (W : World) (kk : Nat) (hk : kk ≤ 1000000) : (Instr.makeSlice 61 (.int .i64 (kk : Int)) (.int .i64 (kk : Int))).run Try.prog W = .ok (.slice (some ⟨W.heap.size, 0, none⟩) kk kk) (W.alloc (.cells (isL (List.replicate kk 0)).toArray 3)) := by
  obtain ⟨i, hi, hz, hsz, hby⟩ := info_parts infoInt
  have := run_make (P := Try.prog) W 61 3 i (.int .i64 0) Try.underlying61 hi hz .i64 .i64 (kk : Int) (kk : Int) (by omega) (Int.le_refl _) (by rw [hby]; omega) (by omega)
  rw [this, hsz]
  simp only [Int.toNat_natCast, Nat.mul_one]
  congr 4
  apply Array.ext'
  rw [show (Value.int .i64 0).cells = #[Value.int .i64 0] from rfl, toList_madeCells_one]
  simp [isL]
/-- How many events of a list have a time of at most tm. -/
def cntOf (tm : Nat) (S : List EvS) : Nat := misses (fun i => decide (tm < (evAt S i).e.time)) S.length
theorem rises_time {S : List EvS} (h : Rises S) : ∀ a b, a ≤ b → b < S.length → (evAt S a).e.time ≤ (evAt S b).e.time := by
  intro a b hab hb
  rcases Nat.lt_or_eq_of_le hab with hlt | rfl
  · have := List.pairwise_iff_getElem.1 h a b (by omega) hb hlt
    have ea : evAt S a = S[a] := by have := evAt_get (S := S) (k := a) (by omega); rw [List.getElem?_eq_getElem (by omega)] at this; exact (Option.some.inj this).symm
    have eb : evAt S b = S[b] := by have := evAt_get (S := S) (k := b) hb; rw [List.getElem?_eq_getElem hb] at this; exact (Option.some.inj this).symm
    rw [ea, eb]
    unfold evLe at this
    omega
  · exact Nat.le_refl _
/-- Of the first k lists the counts stand in the row at g. -/
structure CountsAt (g n k tm : Nat) (L : List HV) (W : World) : Prop where
  ex : ∃ C : List Nat, W.heap[g]? = some (.cells (isL C).toArray 3 (0, 0)) ∧ C.length = n ∧ ∀ (j : Nat) (x : HV), j < k → L[j]? = some x → C[j]? = some (cntOf tm x.S)
theorem CountsAt.keep {g n k tm : Nat} {L : List HV} {W W' : World} (h : CountsAt g n k tm L W) (hb : W'.heap[g]? = W.heap[g]?) : CountsAt g n k tm L W' := by
  obtain ⟨C, h1, h2⟩ := h.ex
  exact ⟨C, hb.trans h1, h2⟩
theorem CountsAt.put {g n k tm : Nat} {L : List HV} {W : World} (h : CountsAt g n k tm L W) {x : HV} (hx : L[k]? = some x) (hk : k < n) : CountsAt g n (k + 1) tm L (W.setCell ⟨g, k, none⟩ (.int .i64 (cntOf tm x.S : Int))) := by
  obtain ⟨C, h1, h2, h3⟩ := h.ex
  refine ⟨C.set k (cntOf tm x.S), ?_, by simpa using h2, fun j y hj hy => ?_⟩
  · rw [heapSame h1]
    congr 2
    apply Array.ext'
    simp [isL, List.map_set]
  · by_cases hjk : j = k
    · subst hjk
      rw [hx] at hy; cases hy
      rw [List.getElem?_set_self (by omega)]
    · rw [List.getElem?_set_ne (Ne.symm hjk)]
      exact h3 j y (by omega) hy

end Go.Proofs.Ytlacihgoammjgaa.Ord
