/- Order: a slice of numbers of 16 bits among the arguments. -/
import Derived.Test.YtlacihgoammjgaaOrdFa
import Derived.ChangeArms
namespace Go.Proofs.Ytlacihgoammjgaa.Ord
open Go Go.ChangeShapes Go.WideShapes Go.RowKit Go.Proofs.Ytlacihgoammjgaa.Words
set_option linter.unusedVariables false

theorem seesH_of_row {w : World} {a : Option Addr} {len cap : Nat} {zs : List Int}
    (h : (a = none ∧ len = 0 ∧ cap = 0 ∧ zs = []) ∨ ∃ x, a = some x ∧ len ≤ cap ∧ cap ≤ maxLen ∧ zs.length = cap ∧ (∀ i, i < zs.length → w.cell? (x.add i) = some (.int .u16 (zs.getD i 0))) ∧ ∀ n ∈ zs, (Lit.int .u16 n).wf = true) :
    ∃ l, SeesH w a len l ∧ len ≤ cap ∧ cap ≤ maxLen := by
  rcases h with ⟨rfl, rfl, rfl, rfl⟩ | ⟨x, rfl, hl, hm, hz, hc, hw⟩
  · exact ⟨[], ⟨rfl, fun h => absurd h (by omega), fun x hx => by cases hx⟩, Nat.le_refl _, Nat.zero_le _⟩
  · have hb : ∀ y ∈ zs, ∃ z : Nat, y = (z : Int) ∧ z < 65536 := by
      intro y hy
      have := hw y hy
      simp [Lit.wf, IntKind.min, IntKind.max, IntKind.signed, IntKind.bits] at this
      exact ⟨y.toNat, by omega, by omega⟩
    refine ⟨(zs.take len).map Int.toNat, ⟨by simp; omega, fun hn => ?_, fun y hy => ?_⟩, hl, hm⟩
    · obtain ⟨b, o, s⟩ := x
      have hs0 : s = none := by
        have := hc 0 (by omega)
        simpa [Addr.add] using World.cell?_spot this
      subst hs0
      refine ⟨b, o, rfl, fun j u hu => ?_⟩
      have hj : j < len := by
        have := (List.getElem?_eq_some_iff.1 hu).1
        simp at this; omega
      rw [List.getElem?_map, List.getElem?_take, if_pos hj, List.getElem?_eq_getElem (by omega)] at hu
      injection hu with hu
      have hcj := hc j (by omega)
      rw [Words.add_plain] at hcj
      rw [hcj, List.getD_eq_getElem?_getD, List.getElem?_eq_getElem (by omega)]
      obtain ⟨z, hz1, hz2⟩ := hb _ (List.getElem_mem (show j < zs.length by omega))
      rw [← hu, Option.getD_some, hz1]
      simp
    · obtain ⟨z, hz1, rfl⟩ := List.mem_map.1 hy
      obtain ⟨q, hq1, hq2⟩ := hb z (List.mem_of_mem_take hz1)
      rw [hq1]
      simpa using hq2
end Go.Proofs.Ytlacihgoammjgaa.Ord
