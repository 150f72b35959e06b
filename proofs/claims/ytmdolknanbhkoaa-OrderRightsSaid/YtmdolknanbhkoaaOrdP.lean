/- Order: a slice of events among the arguments: its cells. -/
import Derived.Test.YtmdolknanbhkoaaOrdEv
import Derived.Test.YtmdolknanbhkoaaAggs
import Derived.Deep.Slices
import Derived.ChangeArms
namespace Go.Proofs.Ytmdolknanbhkoaa.Ord
open Go Go.ChangeShapes Go.WideShapes Go.RowKit Go.Proofs.Ytmdolknanbhkoaa.Words Go.Proofs.Ytmdolknanbhkoaa.Enc Go.Proofs.Ytmdolknanbhkoaa.Evt Go.Proofs.Ytmdolknanbhkoaa.Seg
set_option linter.unusedVariables false
set_option linter.unusedSimpArgs false

section
variable {H : Type} {enc : TypeId × Value → H} {w : World} {base : Nat} {spare : Nat → Bool} {held : Bool}
theorem u_nat {z : Int} (h : (Lit.int .u64 z).wf = true) : ∃ n : Nat, z = n := by
  simp [Lit.wf, IntKind.min, IntKind.max, IntKind.signed, IntKind.bits] at h
  exact ⟨z.toNat, by omega⟩
theorem u8_nat {z : Int} (h : (Lit.int .u8 z).wf = true) : ∃ n : Nat, z = n := by
  simp [Lit.wf, IntKind.min, IntKind.max, IntKind.signed, IntKind.bits] at h
  exact ⟨z.toNat, by omega⟩
set_option maxHeartbeats 1000000 in
/-- One event's cells. -/
theorem ev_of {fuel : Nat} {cs : List Value} {x : DataW H × List MemPlace} (h : DataW.trod enc Try.prog w base spare held fuel 34 cs = some x) (hl : cs.length = 8) : ∃ r : EvS, cs = r.cells := by
  obtain ⟨c0, c1, c2, c3, c4, c5, c6, c7, rfl⟩ := Aggs.list8 hl
  obtain ⟨xs, n, _, hx, hl, hlen, hg⟩ := DataW.trod_struct Try.underlying34 h
  have g0 := hg 0 _ rfl
  have g1 := hg 1 _ rfl
  have g2 := hg 2 _ rfl
  have g3 := hg 3 _ rfl
  have g4 := hg 4 _ rfl
  have g5 := hg 5 _ rfl
  have g6 := hg 6 _ rfl
  have g7 := hg 7 _ rfl
  have e3 : Try.prog.cellsOf 3 = 1 := by kernel_rfl
  have e30 : Try.prog.cellsOf 30 = 1 := by kernel_rfl
  have e5 : Try.prog.cellsOf 5 = 1 := by kernel_rfl
  have e9 : Try.prog.cellsOf 9 = 1 := by kernel_rfl
  have e31 : Try.prog.cellsOf 31 = 1 := by kernel_rfl
  have e32 : Try.prog.cellsOf 32 = 1 := by kernel_rfl
  have hxl : xs.length = 8 := hlen.trans rfl
  obtain ⟨y0, y1, y2, y3, y4, y5, y6, y7, rfl⟩ := Aggs.list8 hxl
  simp [e3, e30, e5, e9, e31, e32] at g0 g1 g2 g3 g4 g5 g6 g7
  obtain ⟨z0, h0, _, _⟩ := DataW.trod_int Try.underlying3 g0
  obtain ⟨z1, h1, _, w1⟩ := DataW.trod_int Try.underlying30 g1
  obtain ⟨z2, h2, _, w2⟩ := DataW.trod_int Try.underlying30 g2
  obtain ⟨z3, h3, _, w3⟩ := DataW.trod_int Try.underlying5 g3
  obtain ⟨z4, h4, _, _⟩ := DataW.trod_string Try.underlying9 g4
  obtain ⟨a5, l5, k5, h5⟩ := Go.Joins.slice_form Try.underlying31 g5
  obtain ⟨z6, h6, _, _⟩ := Aggs.trod_float Try.underlying32 g6
  obtain ⟨z7, h7, _, _⟩ := DataW.trod_int Try.underlying3 g7
  obtain ⟨n1, rfl⟩ := u_nat w1
  obtain ⟨n2, rfl⟩ := u_nat w2
  obtain ⟨n3, rfl⟩ := u8_nat w3
  simp only [List.cons.injEq, and_true] at h0 h1 h2 h3 h4 h5 h6 h7
  refine ⟨⟨⟨z0, n1, n2, n3, z4, [], z6, z7⟩, a5, l5, k5⟩, ?_⟩
  rw [h0, h1, h2, h3, h4, h5, h6, h7]
  rfl
theorem rawEv_of {fuel : Nat} {a : Option Addr} {len cap : Nat} {x : DataW H × List MemPlace}
    (h : DataW.trod enc Try.prog w base spare held fuel 26 [.slice a len cap] = some x) : ∃ S : List EvS, S.length = len ∧ RawEv w a S := by
  have hC : Try.prog.cellsOf 34 = 8 := by kernel_rfl
  rcases Go.Deep.open_slice Try.underlying26 h with ⟨hcs, _⟩ | ⟨ad, len', cap', m, nf, D, Pl, hcs, hb, hl, hm, hmm, hx, hc⟩
  · simp at hcs
    obtain ⟨rfl, rfl, rfl⟩ := hcs
    exact ⟨[], rfl, fun h => absurd h (by simp)⟩
  · simp at hcs
    obtain ⟨rfl, rfl, rfl⟩ := hcs
    have hm' : len ≤ m := by rw [hmm]; split <;> omega
    have each : ∀ i, i < len → ∃ r : EvS, ∀ k v, r.cells[k]? = some v → w.cell? (ad.add (i * 8 + k)) = some v := by
      intro i hi
      obtain ⟨cs', h1, h2⟩ := hc i (by omega)
      rw [hC] at h1
      obtain ⟨_, hlen, hcell⟩ := World.cells?_some h1
      obtain ⟨r, rfl⟩ := ev_of h2 hlen
      refine ⟨r, fun k v hv => ?_⟩
      have hk : k < 8 := by have := (List.getElem?_eq_some_iff.1 hv).1; rwa [EvS.cells_len] at this
      have := hcell k hk
      rw [Go.Deep.add_add] at this
      first
        | (rw [this]; exact hv)
        | (rw [this, ← hv, List.getElem?_eq_getElem (by rw [EvS.cells_len]; exact hk)])
    haveI : Inhabited EvS := ⟨⟨⟨0, 0, 0, 0, ⟨#[]⟩, [], 0, 0⟩, none, 0, 0⟩⟩
    obtain ⟨f, hf⟩ := Go.Deep.choose_lt each
    have hspot : 0 < len → ad.spot = none := fun h0 => by
      have h1 := hf 0 h0 0 _ rfl
      simpa [Addr.add] using World.cell?_spot h1
    have hrows : ∀ n, n ≤ len → ∀ j v, (rowsL ((List.range n).map f))[j]? = some v → w.cell? (ad.add j) = some v := by
      intro n
      induction n with
      | zero => intro _ j v hv; simp [rowsL] at hv
      | succ n ih =>
        intro hn j v hv
        rw [List.range_succ, List.map_append, rowsL_append] at hv
        by_cases hj : j < (rowsL ((List.range n).map f)).length
        · rw [List.getElem?_append_left hj] at hv
          exact ih (by omega) j v hv
        · rw [List.getElem?_append_right (by omega)] at hv
          simp only [List.map_cons, List.map_nil, rowsL, List.append_nil] at hv
          rw [rowsL_len, List.length_map, List.length_range] at hv hj
          have := hf n (by omega) _ v hv
          rwa [show n * 8 + (j - n * 8) = j by omega] at this
    refine ⟨(List.range len).map f, by simp, fun h0 => ?_⟩
    have hs := hspot (by simpa using h0)
    obtain ⟨b, o, s⟩ := ad
    simp at hs
    subst hs
    refine ⟨b, o, rfl, fun j v hv => ?_⟩
    have := hrows len (Nat.le_refl _) j v hv
    rwa [Words.add_plain] at this
end
end Go.Proofs.Ytmdolknanbhkoaa.Ord
