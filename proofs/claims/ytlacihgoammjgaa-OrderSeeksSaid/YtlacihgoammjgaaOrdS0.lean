/- Order: the document's Sort. -/
import Derived.Test.YtlacihgoammjgaaOrdR
import Derived.Test.YtlacihgoammjgaaOrdM
import Derived.Deep.RegionHeld
import Derived.Deep.Cut
namespace Go.Proofs.Ytlacihgoammjgaa.Ord
open Go Go.RowKit Go.Proofs.Ytlacihgoammjgaa.Words Go.Proofs.Ytlacihgoammjgaa.Enc Go.Proofs.Ytlacihgoammjgaa.Evt Go.Proofs.Ytlacihgoammjgaa.Seg
set_option linter.unusedVariables false
set_option linter.unusedSimpArgs false

/-- An event is put into a list that rises. -/
theorem rises_insert {R : List EvS} {x : EvS} {k : Nat} (hR : Rises R) (hk : k ≤ R.length) (h1 : ∀ j, j < k → evLe (evAt R j) x) (h2 : ∀ j, k ≤ j → j < R.length → evLe x (evAt R j)) : Rises (R.take k ++ [x] ++ R.drop k) := by
  have get : ∀ j (hj : j < R.length), evAt R j = R[j] := fun j hj => by have := evAt_get hj; rw [List.getElem?_eq_getElem hj] at this; exact (Option.some.inj this).symm
  have ha : ∀ a ∈ R.take k, evLe a x := fun a ha => by
    obtain ⟨j, hj, rfl⟩ := List.getElem_of_mem ha
    rw [List.length_take] at hj
    rw [List.getElem_take, ← get j (by omega)]
    exact h1 j (by omega)
  have hb : ∀ b ∈ R.drop k, evLe x b := fun b hb => by
    obtain ⟨j, hj, rfl⟩ := List.getElem_of_mem hb
    rw [List.length_drop] at hj
    rw [List.getElem_drop, ← get (k + j) (by omega)]
    exact h2 (k + j) (by omega) (by omega)
  unfold Rises at *
  rw [List.pairwise_append, List.pairwise_append]
  refine ⟨⟨hR.sublist (List.take_sublist _ _), List.pairwise_singleton _ _, fun a hm b hb' => by rw [List.mem_singleton.1 hb']; exact ha a hm⟩, hR.sublist (List.drop_sublist _ _), fun a hm b hm2 => ?_⟩
  rcases List.mem_append.1 hm with hm | hm
  · exact evLe_trans _ _ _ (ha a hm) (hb b hm2)
  · rw [List.mem_singleton.1 hm]; exact hb b hm2
theorem perm_insert {R : List EvS} {x : EvS} {k : Nat} {S : List EvS} {i : Nat} (hp : R.Perm (S.take i)) (hx : S[i]? = some x) : (R.take k ++ [x] ++ R.drop k).Perm (S.take (i + 1)) := by
  have hi := (List.getElem?_eq_some_iff.1 hx)
  obtain ⟨hil, hxe⟩ := hi
  rw [← List.take_append_getElem hil, hxe]
  have h1 : (R.take k ++ [x] ++ R.drop k).Perm (R.take k ++ R.drop k ++ [x]) := by
    rw [List.append_assoc, List.append_assoc]
    exact (List.perm_append_comm).append_left _
  rw [List.take_append_drop] at h1
  exact h1.trans (hp.append_right _)
theorem rises_le {S : List EvS} (h : Rises S) : ∀ a b, a ≤ b → b < S.length → evLe (evAt S a) (evAt S b) := by
  intro a b hab hb
  rcases Nat.lt_or_eq_of_le hab with hlt | rfl
  · have := List.pairwise_iff_getElem.1 h a b (by omega) hb hlt
    have ea : evAt S a = S[a] := by have := evAt_get (S := S) (k := a) (by omega); rw [List.getElem?_eq_getElem (by omega)] at this; exact (Option.some.inj this).symm
    have eb : evAt S b = S[b] := by have := evAt_get (S := S) (k := b) hb; rw [List.getElem?_eq_getElem hb] at this; exact (Option.some.inj this).symm
    rw [ea, eb]
    exact this
  · exact evLe_refl _
theorem RawEv.drop {w : World} {b o : Nat} {S : List EvS} (h : RawEv w (some ⟨b, o, none⟩) S) (k : Nat) (hk : k < S.length) : RawEv w (some ⟨b, o + k * 8, none⟩) (S.drop k) := fun hn => by
  obtain ⟨b', o', e, hc⟩ := h (by omega)
  cases e
  refine ⟨b, o + k * 8, rfl, fun j v hv => ?_⟩
  rw [Nat.add_assoc]
  refine hc (k * 8 + j) v ?_
  conv => lhs; rw [← List.take_append_drop k S]
  rw [rowsL_append, List.getElem?_append_right (by rw [rowsL_len, List.length_take]; omega), rowsL_len, List.length_take, Nat.min_eq_left (by omega), show k * 8 + j - k * 8 = j by omega]
  exact hv

section
variable {P : Program} {w : World} {ops : Array Oper} {rest : List Oper} {op : Oper} {a : Act} {Q : Exit → Act → World → Prop}
theorem wp_thenB {c : Code} {id : Nat} {K K' : Act → World → Prop} {Q' : Exit → Act → World → Prop} {a : Act} {w : World} (hq : ∀ a w, K a w → K' a w) (h : c.wp P (Exit.inBlock id (Exit.then K Q')) a w) : c.wp P (Exit.inBlock id (Exit.then K' Q')) a w := by
  refine Code.wp_mono (fun e a w he => ?_) h
  cases e with
  | normal => exact hq _ _ he
  | exit m =>
    by_cases hm : m = id
    · simp only [Exit.inBlock, if_pos hm] at he ⊢
      exact hq _ _ he
    · simp only [Exit.inBlock, if_neg hm] at he ⊢
      exact he
  | _ => exact he
theorem wpList_sliceH (hgd : op.guard = none) (t : TypeId) (x hi : Operand) (ho : op.op = .slice t x none (some hi) none) (A : Option Addr) (n c J s : Nat) (hx : a.eval x = .slice A n c) (hlo : a.eval hi = .int .i64 (J : Int)) (hJ : J ≤ c)
    (ht : P.underlying t = some (.slice (P.elem t))) (hs : ∀ W, (sizeOf (P.elem t)).run P W = .ok s W)
    (h : ∀ A', A' = A → wpList P ops Q rest (a.put op.dst (.slice A' J c)) w) : wpList P ops Q (op :: rest) a w := by
  refine wpList_plain hgd fun K hK => ?_
  have h1 : (Instr.slice t (.slice A n c) none (some (.int .i64 (J : Int))) none).run P w = .ok (sliced A 0 J c s) w := by
    rw [run_slice_h w t A n c ht .i64 (J : Int) (by omega) (by omega), hs]
    simp [Result.andThen]
  have h2 : (execOp a.eval op).run P w = .ok (.value (sliced A 0 J c s)) w := by
    unfold execOp
    simp only [ho, Option.map_some, Option.map_none, hx, hlo, Sem.run_bind, Sem.run_pure, run_sliceAt_slice w t _ _ _ _ ht, h1, Result.andThen_ok]
  have h3 : sliced A 0 J c s = .slice A J c := by
    unfold sliced
    split
    · simp
    · cases A <;> simp [Addr.add]
  unfold Oper.wp
  rw [h2, h3]
  exact hK _ _ (h _ rfl)
theorem wpList_sliceL (hgd : op.guard = none) (t : TypeId) (x lo : Operand) (ho : op.op = .slice t x (some lo) none none) (A : Option Addr) (n c J s : Nat) (hx : a.eval x = .slice A n c) (hlo : a.eval lo = .int .i64 (J : Int)) (hJ : J ≤ n)
    (ht : P.underlying t = some (.slice (P.elem t))) (hs : ∀ W, (sizeOf (P.elem t)).run P W = .ok s W)
    (h : ∀ A', (∀ b o, J < n → n ≤ c → A = some ⟨b, o, none⟩ → A' = some ⟨b, o + J * s, none⟩) → wpList P ops Q rest (a.put op.dst (.slice A' (n - J) (c - J))) w) : wpList P ops Q (op :: rest) a w := by
  refine wpList_plain hgd fun K hK => ?_
  have h1 : (Instr.slice t (.slice A n c) (some (.int .i64 (J : Int))) none none).run P w = .ok (sliced A J n c s) w := by
    rw [run_slice_l w t A n c ht .i64 (J : Int) (by omega) (by omega), hs]
    simp [Result.andThen]
  have h2 : (execOp a.eval op).run P w = .ok (.value (sliced A J n c s)) w := by
    unfold execOp
    simp only [ho, Option.map_some, Option.map_none, hx, hlo, Sem.run_bind, Sem.run_pure, run_sliceAt_slice w t _ _ _ _ ht, h1, Result.andThen_ok]
  unfold Oper.wp
  rw [h2]
  refine hK _ _ (h _ fun b o h3 h4 hA => ?_)
  rw [if_neg (by omega), hA]
  simp [Words.add_plain]
end
theorem sizeEv (W : World) : (sizeOf (Try.prog.elem 26)).run Try.prog W = .ok 8 W := by kernel_rfl
theorem elemEv : Try.prog.underlying 26 = some (.slice (Try.prog.elem 26)) := by kernel_rfl
end Go.Proofs.Ytlacihgoammjgaa.Ord
