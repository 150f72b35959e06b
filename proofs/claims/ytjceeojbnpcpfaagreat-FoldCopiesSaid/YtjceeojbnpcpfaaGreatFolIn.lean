/- The law's small events among the arguments. -/
import Derived.Test.YtjceeojbnpcpfaaGreatFolEv
import Derived.Test.YtjceeojbnpcpfaaGreatAggs
import Derived.Deep.Slices
import Derived.ChangeArms
import Derived.ChangeSlices
namespace Go.Proofs.YtjceeojbnpcpfaaGreat.Fol
open Go Go.ChangeShapes Go.WideShapes Go.RowKit Go.Proofs.YtjceeojbnpcpfaaGreat.Words Go.Proofs.YtjceeojbnpcpfaaGreat.Evt
set_option linter.unusedVariables false
set_option linter.unusedSimpArgs false

instance : Inhabited Pu := ⟨⟨0, 0, 0, 0, 0⟩⟩
/-- The small events at a. -/
def PusIn (w : World) (a : Option Addr) (S : List Pu) : Prop := ∀ i, i < S.length → ∃ b o, a = some ⟨b, o, none⟩ ∧ (S.getD i default).Good ∧ ∀ k v, (S.getD i default).cells[k]? = some v → w.cell? ⟨b, o + i * 5 + k, none⟩ = some v
theorem PusIn.below {w w' : World} {a : Option Addr} {S : List Pu} (h : PusIn w a S) (hb : Below w.heap.size w w') : PusIn w' a S := fun i hi => by
  obtain ⟨b, o, h1, h2, h3⟩ := h i hi
  exact ⟨b, o, h1, h2, fun k v hv => (hb.cell (p := ⟨b, o + i * 5 + k, none⟩) (World.block_lt_of_cell? _ _ (h3 k v hv))).trans (h3 k v hv)⟩

section
variable {H : Type} {enc : TypeId × Value → H} {w : World} {base : Nat} {held : Bool}
theorem u8_nat {z : Int} (h : (Lit.int .u8 z).wf = true) : ∃ n : Nat, z = n ∧ n < 256 := by
  simp [Lit.wf, IntKind.min, IntKind.max, IntKind.signed, IntKind.bits] at h
  exact ⟨z.toNat, by omega, by omega⟩
theorem list5 {α : Type} {l : List α} (h : l.length = 5) : ∃ a b c d e, l = [a, b, c, d, e] := by
  match l, h with
  | [a, b, c, d, e], _ => exact ⟨a, b, c, d, e, rfl⟩
theorem pu_of {fuel : Nat} {cs : List Value} {x : DataW H × List MemPlace} (h : DataW.trod enc Tryz.prog w base (fun _ => true) held fuel 40 cs = some x) (hl : cs.length = 5) : ∃ r : Pu, cs = r.cells ∧ r.Good := by
  obtain ⟨c0, c1, c2, c3, c4, rfl⟩ := list5 hl
  obtain ⟨xs, n, _, hx, hl, hlen, hg⟩ := DataW.trod_struct Tryz.underlying40 h
  have g0 := hg 0 _ rfl
  have g1 := hg 1 _ rfl
  have g2 := hg 2 _ rfl
  have g3 := hg 3 _ rfl
  have g4 := hg 4 _ rfl
  have e3 : Tryz.prog.cellsOf 5 = 1 := by kernel_rfl
  have e30 : Tryz.prog.cellsOf 36 = 1 := by kernel_rfl
  obtain ⟨y0, y1, y2, y3, y4, rfl⟩ := list5 (hlen.trans rfl)
  simp [e3, e30] at g0 g1 g2 g3 g4
  obtain ⟨z0, h0, _, w0⟩ := DataW.trod_int Tryz.underlying5 g0
  obtain ⟨z1, h1, _, w1⟩ := DataW.trod_int Tryz.underlying5 g1
  obtain ⟨z2, h2, _, w2⟩ := DataW.trod_int Tryz.underlying5 g2
  obtain ⟨z3, h3, _, w3⟩ := DataW.trod_int Tryz.underlying5 g3
  obtain ⟨z4, h4, _, w4⟩ := Aggs.trod_float Tryz.underlying36 g4
  obtain ⟨n0, rfl, k0⟩ := u8_nat w0
  obtain ⟨n1, rfl, k1⟩ := u8_nat w1
  obtain ⟨n2, rfl, k2⟩ := u8_nat w2
  obtain ⟨n3, rfl, k3⟩ := u8_nat w3
  simp only [List.cons.injEq, and_true] at h0 h1 h2 h3 h4
  refine ⟨⟨n0, n1, n2, n3, z4⟩, ?_, ⟨k0, k1, k2, k3, ?_⟩⟩
  · rw [h0, h1, h2, h3, h4]; rfl
  · trace_state; simpa [Lit.wf] using w4
theorem pusIn_of {fuel : Nat} {a : Option Addr} {len cap : Nat} {x : DataW H × List MemPlace}
    (h : DataW.trod enc Tryz.prog w base (fun _ => true) held fuel 22 [.slice a len cap] = some x) : ∃ S : List Pu, S.length = len ∧ PusIn w a S := by
  have hC : Tryz.prog.cellsOf 40 = 5 := by kernel_rfl
  rcases Go.Deep.open_slice Tryz.underlying22 h with ⟨hcs, _⟩ | ⟨ad, len', cap', m, nf, D, Pl, hcs, hb, hl, hm, hmm, hx, hc⟩
  · simp at hcs
    obtain ⟨rfl, rfl, rfl⟩ := hcs
    exact ⟨[], rfl, fun i hi => absurd hi (by simp)⟩
  · simp at hcs
    obtain ⟨rfl, rfl, rfl⟩ := hcs
    have hm' : len ≤ m := by rw [hmm]; split <;> omega
    have each : ∀ i, i < len → ∃ r : Pu, r.Good ∧ ∀ k v, r.cells[k]? = some v → w.cell? (ad.add (i * 5 + k)) = some v := by
      intro i hi
      obtain ⟨cs', h1, h2⟩ := hc i (by omega)
      rw [hC] at h1
      obtain ⟨_, hlen, hcell⟩ := World.cells?_some h1
      obtain ⟨r, rfl, hr⟩ := pu_of h2 hlen
      refine ⟨r, hr, fun k v hv => ?_⟩
      have hk : k < 5 := (List.getElem?_eq_some_iff.1 hv).1
      have := hcell k hk
      rw [Go.Deep.add_add] at this
      first
        | (rw [this]; exact hv)
        | (rw [this, ← hv, List.getElem?_eq_getElem hk])
    obtain ⟨f, hf⟩ := Go.Deep.choose_lt each
    refine ⟨(List.range len).map f, by simp, fun i hi => ?_⟩
    have hi' : i < len := by simpa using hi
    have hget : ((List.range len).map f).getD i default = f i := by
      rw [List.getD_eq_getElem?_getD, List.getElem?_map, List.getElem?_range hi']; rfl
    obtain ⟨h1, h2⟩ := hf i hi'
    have hs : ad.spot = none := by
      have h3 := World.cell?_spot ((hf 0 (by omega)).2 0 _ rfl)
      simpa [Addr.add] using h3
    obtain ⟨b, o, s⟩ := ad
    simp at hs
    subst hs
    rw [hget]
    refine ⟨b, o, rfl, h1, fun k v hv => ?_⟩
    have := h2 k v hv
    rw [Words.add_plain] at this
    rwa [Nat.add_assoc]
end
end Go.Proofs.YtjceeojbnpcpfaaGreat.Fol
