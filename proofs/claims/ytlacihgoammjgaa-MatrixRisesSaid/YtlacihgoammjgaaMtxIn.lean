/- Matrix: a slice of rows among the arguments. -/
import Derived.Test.YtlacihgoammjgaaMtxA
import Derived.Test.YtlacihgoammjgaaAggs
import Derived.Deep.Slices
import Derived.ChangeArms
import Derived.ChangeSlices
namespace Go.Proofs.Ytlacihgoammjgaa.Mtx
open Go Go.ChangeShapes Go.WideShapes Go.RowKit Go.Proofs.Ytlacihgoammjgaa.Words Go.Proofs.Ytlacihgoammjgaa.Vec
set_option linter.unusedVariables false
set_option linter.unusedSimpArgs false

/-- A row of the law, as it came in. -/
structure RowS where
  node : Int
  A : Option Addr
  n : Nat
  c : Nat
  H : List Nat
  t : Nat
instance : Inhabited RowS := ⟨⟨0, none, 0, 0, [], 0⟩⟩
structure RowIn (w : World) (r : RowS) : Prop where
  sees : SeesU w r.A r.n r.H
  fits : Fits r.H
  cap : r.n ≤ r.c ∧ r.c ≤ 9223372036854775807
  none_ : r.A = none → r.c = 0
  time : r.t < 18446744073709551616
def RowS.cells (r : RowS) : List Value := [.int .i64 r.node, .slice r.A r.n r.c, .int .u64 (r.t : Int)]
/-- The rows at a. -/
def RowsIn (w : World) (a : Option Addr) (S : List RowS) : Prop := ∀ i, i < S.length → ∃ b o, a = some ⟨b, o, none⟩ ∧ RowIn w (S.getD i default) ∧ ∀ k v, (S.getD i default).cells[k]? = some v → w.cell? ⟨b, o + i * 3 + k, none⟩ = some v

section
variable {H : Type} {enc : TypeId × Value → H} {w : World} {base : Nat} {held : Bool}
theorem u64_nat {z : Int} (h : (Lit.int .u64 z).wf = true) : ∃ n : Nat, z = n ∧ n < 18446744073709551616 := by
  simp [Lit.wf, IntKind.min, IntKind.max, IntKind.signed, IntKind.bits] at h
  exact ⟨z.toNat, by omega, by omega⟩
theorem list3 {α : Type} {l : List α} (h : l.length = 3) : ∃ a b c, l = [a, b, c] := by
  match l, h with
  | [a, b, c], _ => exact ⟨a, b, c, rfl⟩
/-- A slice of numbers, as a vector. -/
theorem have_of {fuel : Nat} {cs : List Value} {x : DataW H × List MemPlace} (h : DataW.trod enc Try.prog w base (fun _ => true) held fuel 51 cs = some x) :
    ∃ A n c l, cs = [.slice A n c] ∧ SeesU w A n l ∧ Fits l ∧ n ≤ c ∧ c ≤ 9223372036854775807 ∧ (A = none → c = 0) := by
  rcases open_ints Try.underlying51 Try.underlying30 (by kernel_rfl) h with ⟨hcs, _⟩ | ⟨x, l, c, zs, hcs, _, hl, hm, hz, hx, hcell, hwz⟩
  · obtain ⟨l, h1, h2, h3, h4⟩ := Vec.seesU_of_row (w := w) (zs := []) (.inl ⟨rfl, rfl, rfl, rfl⟩)
    exact ⟨none, 0, 0, l, hcs, h1, h2, h3, by omega, fun _ => rfl⟩
  · simp only [if_true] at hz
    obtain ⟨l2, h1, h2, h3, h4⟩ := Vec.seesU_of_row (zs := zs) (.inr ⟨_, rfl, hl, hm, hz, hcell, hwz⟩)
    exact ⟨_, _, _, l2, hcs, h1, h2, h3, by unfold maxLen at h4; omega, fun h => by cases h⟩
theorem row_of {fuel : Nat} {cs : List Value} {x : DataW H × List MemPlace} (h : DataW.trod enc Try.prog w base (fun _ => true) held fuel 53 cs = some x) (hl : cs.length = 3) : ∃ r : RowS, cs = r.cells ∧ RowIn w r := by
  obtain ⟨c0, c1, c2, rfl⟩ := list3 hl
  obtain ⟨xs, n, _, hx, hl, hlen, hg⟩ := DataW.trod_struct Try.underlying53 h
  have g0 := hg 0 _ rfl
  have g1 := hg 1 _ rfl
  have g2 := hg 2 _ rfl
  have e3 : Try.prog.cellsOf 3 = 1 := by kernel_rfl
  have e30 : Try.prog.cellsOf 30 = 1 := by kernel_rfl
  have e31 : Try.prog.cellsOf 51 = 1 := by kernel_rfl
  obtain ⟨y0, y1, y2, rfl⟩ := list3 (hlen.trans rfl)
  simp [e3, e30, e31] at g0 g1 g2
  obtain ⟨z0, h0, _, _⟩ := DataW.trod_int Try.underlying3 g0
  obtain ⟨A, m, c, l, h1, q1, q2, q3, q4, q5⟩ := have_of g1
  obtain ⟨z2, h2, _, w2⟩ := DataW.trod_int Try.underlying30 g2
  obtain ⟨t, rfl, ht⟩ := u64_nat w2
  simp only [List.cons.injEq, and_true] at h0 h1 h2
  refine ⟨⟨z0, A, m, c, l, t⟩, ?_, ⟨q1, q2, ⟨q3, q4⟩, q5, ht⟩⟩
  rw [h0, h1, h2]
  rfl
theorem rowsIn_of {fuel : Nat} {a : Option Addr} {len cap : Nat} {x : DataW H × List MemPlace}
    (h : DataW.trod enc Try.prog w base (fun _ => true) held fuel 50 [.slice a len cap] = some x) : ∃ S : List RowS, S.length = len ∧ RowsIn w a S := by
  have hC : Try.prog.cellsOf 53 = 3 := by kernel_rfl
  rcases Go.Deep.open_slice Try.underlying50 h with ⟨hcs, _⟩ | ⟨ad, len', cap', m, nf, D, Pl, hcs, hb, hl, hm, hmm, hx, hc⟩
  · simp at hcs
    obtain ⟨rfl, rfl, rfl⟩ := hcs
    exact ⟨[], rfl, fun i hi => absurd hi (by simp)⟩
  · simp at hcs
    obtain ⟨rfl, rfl, rfl⟩ := hcs
    have hm' : len ≤ m := by rw [hmm]; split <;> omega
    have each : ∀ i, i < len → ∃ r : RowS, RowIn w r ∧ ∀ k v, r.cells[k]? = some v → w.cell? (ad.add (i * 3 + k)) = some v := by
      intro i hi
      obtain ⟨cs', h1, h2⟩ := hc i (by omega)
      rw [hC] at h1
      obtain ⟨_, hlen, hcell⟩ := World.cells?_some h1
      obtain ⟨r, rfl, hr⟩ := row_of h2 hlen
      refine ⟨r, hr, fun k v hv => ?_⟩
      have hk : k < 3 := (List.getElem?_eq_some_iff.1 hv).1
      have := hcell k hk
      rw [Go.Deep.add_add] at this
      first
        | (rw [this]; exact hv)
        | (rw [this, ← hv, List.getElem?_eq_getElem hk])
    obtain ⟨f, hf⟩ := Go.Deep.choose_lt each
    refine ⟨(List.range len).map f, by simp, fun i hi => ?_⟩
    have hi' : i < len := by simpa using hi
    have hget : ((List.range len).map f).getD i default = f i := by
      rw [List.getD_eq_getElem?_getD, List.getElem?_map, List.getElem?_range hi']; rfl
    obtain ⟨h1, h2⟩ := hf i hi'
    have hs : ad.spot = none := by
      have h3 := World.cell?_spot ((hf 0 (by omega)).2 0 _ rfl)
      simpa [Addr.add] using h3
    obtain ⟨b, o, s⟩ := ad
    simp at hs
    subst hs
    rw [hget]
    refine ⟨b, o, rfl, h1, fun k v hv => ?_⟩
    have := h2 k v hv
    rw [Words.add_plain] at this
    rwa [Nat.add_assoc]
end
end Go.Proofs.Ytlacihgoammjgaa.Mtx
