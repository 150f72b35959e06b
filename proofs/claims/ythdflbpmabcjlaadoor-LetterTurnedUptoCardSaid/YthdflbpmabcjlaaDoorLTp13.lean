/- Package matrix: a matrix in memory; New, row, Raise. Matrix: a slice of rows among the arguments. -/
import Derived.Deep.Slices
import Derived.ChangeArms
import Derived.ChangeSlices
import Derived.Test.YthdflbpmabcjlaaDoorLTp06
import Derived.Test.YthdflbpmabcjlaaDoorLTp12
namespace Go.Proofs.YthdflbpmabcjlaaDoor.Mtx
open Go Go.RowKit Go.Proofs.YthdflbpmabcjlaaDoor.Words Go.Proofs.YthdflbpmabcjlaaDoor.Vec
set_option linter.unusedVariables false
set_option linter.unusedSimpArgs false

theorem SeesU.beside {w w' : World} {S : List Nat} {A : Option Addr} {n : Nat} {l : List Nat} (h : SeesU w A n l) (hb : Beside S w w') (hS : ∀ a, A = some a → a.block ∉ S) : SeesU w' A n l := by
  refine ⟨h.1, fun hn => ?_⟩
  obtain ⟨b, o, hA, hc⟩ := h.2 hn
  exact ⟨b, o, hA, fun j u hu => hb.cell (hc j u hu) (show b ∉ S from hS _ hA)⟩
theorem Took2.beside {w w' : World} {S : List Nat} {A : Option Addr} {n c : Nat} {l : List Nat} (h : Took2 w A n c l) (hb : Beside S w w') (hS : ∀ a, A = some a → a.block ∉ S) : Took2 w' A n c l := ⟨SeesU.beside h.1 hb hS, h.2⟩

def zeroRow : Array Value := (List.replicate 64 [Value.slice none 0 0, Value.int .u64 0]).flatten.toArray
end Go.Proofs.YthdflbpmabcjlaaDoor.Mtx
namespace Go.Proofs.YthdflbpmabcjlaaDoor.Mtx
open Go Go.ChangeShapes Go.WideShapes Go.RowKit Go.Proofs.YthdflbpmabcjlaaDoor.Words Go.Proofs.YthdflbpmabcjlaaDoor.Vec
set_option linter.unusedVariables false
set_option linter.unusedSimpArgs false

/-- A row of the law, as it came in. -/
structure RowS where
  node : Int
  A : Option Addr
  n : Nat
  c : Nat
  H : List Nat
  t : Nat
instance : Inhabited RowS := ⟨⟨0, none, 0, 0, [], 0⟩⟩
structure RowIn (w : World) (r : RowS) : Prop where
  sees : SeesU w r.A r.n r.H
  fits : Fits r.H
  cap : r.n ≤ r.c ∧ r.c ≤ 9223372036854775807
  none_ : r.A = none → r.c = 0
  time : r.t < 18446744073709551616
def RowS.cells (r : RowS) : List Value := [.int .i64 r.node, .slice r.A r.n r.c, .int .u64 (r.t : Int)]
/-- The rows at a. -/
def RowsIn (w : World) (a : Option Addr) (S : List RowS) : Prop := ∀ i, i < S.length → ∃ b o, a = some ⟨b, o, none⟩ ∧ RowIn w (S.getD i default) ∧ ∀ k v, (S.getD i default).cells[k]? = some v → w.cell? ⟨b, o + i * 3 + k, none⟩ = some v

section
variable {H : Type} {enc : TypeId × Value → H} {w : World} {base : Nat} {held : Bool}
theorem u64_nat {z : Int} (h : (Lit.int .u64 z).wf = true) : ∃ n : Nat, z = n ∧ n < 18446744073709551616 := by
  simp [Lit.wf, IntKind.min, IntKind.max, IntKind.signed, IntKind.bits] at h
  exact ⟨z.toNat, by omega, by omega⟩
theorem list3 {α : Type} {l : List α} (h : l.length = 3) : ∃ a b c, l = [a, b, c] := by
  match l, h with
  | [a, b, c], _ => exact ⟨a, b, c, rfl⟩
/-- A slice of numbers, as a vector. -/
theorem have_of {fuel : Nat} {cs : List Value} {x : DataW H × List MemPlace} (h : DataW.trod enc Tryd.prog w base (fun _ => true) held fuel 24 cs = some x) :
    ∃ A n c l, cs = [.slice A n c] ∧ SeesU w A n l ∧ Fits l ∧ n ≤ c ∧ c ≤ 9223372036854775807 ∧ (A = none → c = 0) := by
  rcases open_ints Tryd.underlying24 Tryd.underlying22 (by kernel_rfl) h with ⟨hcs, _⟩ | ⟨x, l, c, zs, hcs, _, hl, hm, hz, hx, hcell, hwz⟩
  · obtain ⟨l, h1, h2, h3, h4⟩ := Vec.seesU_of_row (w := w) (zs := []) (.inl ⟨rfl, rfl, rfl, rfl⟩)
    exact ⟨none, 0, 0, l, hcs, h1, h2, h3, by omega, fun _ => rfl⟩
  · simp only [if_true] at hz
    obtain ⟨l2, h1, h2, h3, h4⟩ := Vec.seesU_of_row (zs := zs) (.inr ⟨_, rfl, hl, hm, hz, hcell, hwz⟩)
    exact ⟨_, _, _, l2, hcs, h1, h2, h3, by unfold maxLen at h4; omega, fun h => by cases h⟩
end
end Go.Proofs.YthdflbpmabcjlaaDoor.Mtx
