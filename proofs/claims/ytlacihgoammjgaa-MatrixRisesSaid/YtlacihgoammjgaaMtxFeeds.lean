/- Matrix: the law's lists of events, as their times. -/
import Derived.Test.YtlacihgoammjgaaMtxE
import Derived.Test.YtlacihgoammjgaaOrdY
namespace Go.Proofs.Ytlacihgoammjgaa.Mtx
open Go Go.RowKit Go.Proofs.Ytlacihgoammjgaa.Words Go.Proofs.Ytlacihgoammjgaa.Vec Go.Proofs.Ytlacihgoammjgaa.Ord Go.Proofs.Ytlacihgoammjgaa.Seg
set_option linter.unusedVariables false
set_option linter.unusedSimpArgs false

/-- A list of the heap by its times. -/
def hvHav (x : HV) : Hav := ⟨x.A, x.S.length, x.c, x.S.map fun r => r.e.time, 0⟩
def knownOf (L : List HV) : Nat → Hav := fun k => hvHav (HV.at_ L k)
/-- Lists whose times increase, from 1 on. -/
def Rising (K : Nat) (L : Nat → Hav) : Prop := ∀ k, k < K → ∀ a b, a ≤ b → b < (L k).n → at_ (L k).H a ≤ at_ (L k).H b
theorem at_map {S : List EvS} {j : Nat} {r : EvS} (h : S[j]? = some r) : at_ (S.map fun r => r.e.time) j = r.e.time := by
  unfold at_
  rw [List.getD_eq_getElem?_getD, List.getElem?_map, h]; rfl
theorem feeds_known {B0 lb wn i m ob : Nat} {w0 W : World} {L : List HV} {T : List Nat} (h : FeedsAt B0 ob lb wn w0 i m L T W) (hi : i ≤ 60) (hm : m ≤ 1000) (hwn : wn ≤ 6) :
    ListsAt ob wn (knownOf L) W ∧ Rising wn (knownOf L) ∧ ∀ k, k < wn → ∀ a, (knownOf L k).A = some a → B0 ≤ a.block := by
  obtain ⟨_, _, hlen, hL⟩ := feeds_lists h hi
  have hget : ∀ k, k < wn → L[k]? = some (HV.at_ L k) := fun k hk => by
    unfold HV.at_
    rw [List.getD_eq_getElem?_getD, List.getElem?_eq_getElem (by omega)]; rfl
  have hgood : ∀ k, k < wn → ∃ t, t ≤ m ∧ ListOf k t (HV.at_ L k) := fun k hk => by
    have hkT : k < T.length := by rw [h.lenT]; exact hk
    have hT : T[k]? = some T[k] := List.getElem?_eq_getElem hkT
    exact ⟨T[k], h.time _ (List.getElem_mem _), h.good k _ _ (hget k hk) hT⟩
  refine ⟨⟨fun k hk => ?_, fun k hk => by simp [knownOf, hvHav], fun k hk j hj => ?_, by omega, fun k hk => ?_⟩, fun k hk a b hab hb => ?_, fun k hk a ha => new_of_own (h.own _ (List.mem_of_getElem? (hget k hk))) (Nat.le_refl _) a ha⟩
  · rw [cell_of_row W ob _ _ _ _ h.out, List.getElem?_toArray, List.getElem?_map, hget k hk]; rfl
  · obtain ⟨t, ht, hg⟩ := hgood k hk
    have hx := List.mem_of_getElem? (hget k hk)
    have hj' : j < (HV.at_ L k).S.length := hj
    have hr := RawEv.of_own (h.own _ hx)
    obtain ⟨b, o, hA, q0, q1, q2, _⟩ := RawEv.at_ hr (List.getElem?_eq_getElem hj')
    obtain ⟨_, e1, e2, _⟩ := hg.each _ (List.getElem_mem hj')
    have hat : at_ (knownOf L k).H j = ((HV.at_ L k).S[j]).e.time := at_map (List.getElem?_eq_getElem hj')
    refine ⟨b, o, hA, ?_, ?_, ?_⟩
    · rw [hat, Nat.mul_comm j 8]; exact q2
    · rw [hat]; exact e1
    · rw [hat]; omega
  · have := hlen _ (List.mem_of_getElem? (hget k hk))
    show (HV.at_ L k).S.length ≤ 1000
    omega
  · obtain ⟨t, ht, hg⟩ := hgood k hk
    have hb' : b < (HV.at_ L k).S.length := hb
    show at_ ((HV.at_ L k).S.map fun r => r.e.time) a ≤ at_ ((HV.at_ L k).S.map fun r => r.e.time) b
    rw [at_map (List.getElem?_eq_getElem (show a < (HV.at_ L k).S.length by omega)), at_map (List.getElem?_eq_getElem hb')]
    rcases Nat.lt_or_eq_of_le hab with h1 | rfl
    · exact Nat.le_of_lt (List.pairwise_iff_getElem.1 hg.rise a b (by omega) hb' h1)
    · exact Nat.le_refl _

/-! Who is told more tells no earlier time. -/
theorem limit_rises {L : Nat → Hav} {H H' : List Nat} {t t' : Nat} (hH : ∀ i, at_ H i ≤ at_ H' i) (ht : t ≤ t') : ∀ K, Rising K L → limit L H t K ≤ limit L H' t' K
  | 0, _ => ht
  | j + 1, hr => by
    have ih := limit_rises (L := L) hH ht j (fun k hk => hr k (by omega))
    have h1 := hH j
    unfold limit
    split
    · split
      · rename_i h2 h3
        have := hr j (by omega) _ _ h1 h3
        refine Nat.le_min.2 ⟨Nat.le_trans (Nat.min_le_left _ _) ih, Nat.le_trans (Nat.min_le_right _ _) (by omega)⟩
      · exact Nat.le_trans (Nat.min_le_left _ _) ih
    · split
      · rename_i h2 h3; omega
      · exact ih
theorem rowBound_rises {K : Nat} {L : Nat → Hav} {x x' : Hav} {n : Nat} (hr : Rising K L) (hH : ∀ i, at_ x.H i ≤ at_ x'.H i) (ht : x.t ≤ x'.t) (hn : at_ x.H n ≤ (listOf K L n).n → at_ x'.H n ≤ (listOf K L n).n) : rowBound K L x n ≤ rowBound K L x' n := by
  unfold rowBound
  split
  · exact Nat.zero_le _
  · rename_i h1
    rw [if_neg (by have := hn (by omega); omega)]
    exact limit_rises hH ht K hr
theorem bound_rises {K : Nat} {L R R' : Nat → Hav} {who : List Nat} (h : ∀ n, rowBound K L (R n) n ≤ rowBound K L (R' n) n) : ∀ j, boundUpto K L R who j ≤ boundUpto K L R' who j
  | 0 => Nat.le_refl _
  | j + 1 => by
    have ih := bound_rises (who := who) h j
    unfold boundUpto
    exact Nat.le_min.2 ⟨Nat.le_trans (Nat.min_le_left _ _) ih, Nat.le_trans (Nat.min_le_right _ _) (h _)⟩
theorem raised_rises {mb k K t : Nat} {L R R' : Nat → Hav} {H : List Nat} {w w' : World} {who : List Nat} (h : Raised mb k R H t w w' R') (hr : Rising K L) (hk : at_ H k ≤ (listOf K L k).n) (j : Nat) : boundUpto K L R who j ≤ boundUpto K L R' who j := by
  refine bound_rises (fun n => ?_) j
  by_cases e : n = k
  · subst e
    refine rowBound_rises hr (fun i => by rw [h.have_]; exact Nat.le_max_left _ _) (by rw [h.time]; exact Nat.le_max_left _ _) (fun h1 => by rw [h.have_]; exact Nat.max_le.2 ⟨h1, hk⟩)
  · rw [h.other n e]; exact Nat.le_refl _
end Go.Proofs.Ytlacihgoammjgaa.Mtx
