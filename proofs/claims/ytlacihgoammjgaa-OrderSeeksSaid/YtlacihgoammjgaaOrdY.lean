/- Order: the law OrderCounts. -/
import Derived.Test.YtlacihgoammjgaaOrdV
import Derived.Test.YtlacihgoammjgaaOrdFb
import Derived.Test.YtlacihgoammjgaaOrdW
namespace Go.Proofs.Ytlacihgoammjgaa.Ord
open Go Go.RowKit Go.Proofs.Ytlacihgoammjgaa.Words Go.Proofs.Ytlacihgoammjgaa.Enc Go.Proofs.Ytlacihgoammjgaa.Evt Go.Proofs.Ytlacihgoammjgaa.Seg
set_option linter.unusedVariables false
set_option linter.unusedSimpArgs false

theorem misses_succ (p : Nat → Bool) (k : Nat) : misses p (k + 1) = misses p k + (if p k = true then 0 else 1) := by
  unfold misses
  rw [List.range_succ, List.countP_append]
  cases h : p k <;> simp [h]
theorem misses_le (p : Nat → Bool) (k : Nat) : misses p k ≤ k := by
  unfold misses
  exact Nat.le_trans List.countP_le_length (by simp)
theorem feeds_lists {B0 lb wn i m ob : Nat} {w0 W : World} {L : List HV} {T : List Nat} (h : FeedsAt B0 ob lb wn w0 i m L T W) (hi : i ≤ 60) :
    Lists W.heap.size W (some ⟨ob, 0, none⟩) L ∧ (∀ x ∈ L, Rises x.S) ∧ (∀ x ∈ L, x.S.length ≤ 60) ∧ L.length = wn := by
  refine ⟨⟨fun hn => ⟨ob, 0, (Array.getElem?_eq_some_iff.1 h.out).1, rfl, fun k x hx => ?_⟩, fun x hx => ⟨?_, fun h0 => ?_⟩⟩, fun x hx => ?_, fun x hx => ?_, h.lenL⟩
  · rw [Nat.zero_add, cell_of_row W ob _ _ _ _ h.out, List.getElem?_toArray, List.getElem?_map, hx]; rfl
  · exact own_cap8 (h.own x hx)
  · obtain ⟨g, hg, _⟩ := own_at8 (h.own x hx) h0
    have hr := RawEv.of_own (h.own x hx) h0
    obtain ⟨b, o, hA, hc⟩ := hr
    refine ⟨b, o, ?_, hA, hc⟩
    have h1 : 0 < (rowsL x.S).length := by rw [rowsL_len]; omega
    have := World.block_lt_of_cell? _ _ (hc 0 _ (List.getElem?_eq_getElem h1))
    simpa using this
  · obtain ⟨k, hk, rfl⟩ := List.getElem_of_mem hx
    obtain ⟨t, ht⟩ : ∃ t, T[k]? = some t := ⟨_, List.getElem?_eq_getElem (by rw [h.lenT, ← h.lenL]; exact hk)⟩
    exact (h.good k _ _ (List.getElem?_eq_getElem hk) ht).rise.imp fun h => .inl h
  · have h2 : x.S.length ≤ (flat L).length := by
      obtain ⟨s, t, e⟩ := List.append_of_mem hx
      unfold flat
      rw [e, List.flatMap_append, List.length_append, List.flatMap_cons, List.length_append]
      omega
    rw [h.few] at h2
    omega

end Go.Proofs.Ytlacihgoammjgaa.Ord
