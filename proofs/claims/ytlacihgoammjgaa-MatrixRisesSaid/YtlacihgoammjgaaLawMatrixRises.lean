/- Proved: the Go function MatrixRises returns true for every input, and each argument reads behind the call as it read before. No condition. -/
import Derived.Test.YtlacihgoammjgaaRows
import Derived.WalkKit
import Derived.Test.YtlacihgoammjgaaMtxLaw
import Derived.Test.YtlacihgoammjgaaOrdQ
import Derived.ProofKit
import Derived.OpenShut
import Derived.ShutString
import Derived.ChangeOld
import Derived.Below
import Derived.WalkLawsBesides
import Derived.SizedLaws
import Derived.Test.YtlacihgoammjgaaAggs
import Derived.Lib.SmallJoins
namespace Go.Proofs.Ytlacihgoammjgaa.matrixRises
open Go.ChangeShapes Go.WideShapes Go.ChangeAt Go.RowKit
open Go.ChangeMaps (open_string shut_string)
set_option linter.unusedVariables false

theorem cells53 : Try.prog.cellsOf 53 = 3 := by kernel_rfl
theorem own : ownKnob Try.prog.godebug = none := by kernel_rfl
theorem laidOut : laidOutB Try.prog = true := by kernel_rfl

set_option maxRecDepth 100000 in
theorem lifted (os : Os) (started : os.Started) (H : Type) (enc : TypeId × Value → H) :
    ReturnsInHanded {} Try.checked os 6 .any (Rows.matrixRisesSpec.pre6 enc Try.prog Try.f6 Rows.matrixRisesRow.domain false) (Rows.matrixRisesSpec.post enc Try.prog Try.f6 false true false false) := by
  refine returnsInHanded_of_change_sized (C := Try.checked) own started (by kernel_rfl) Try.func6
    (ChangeSpec.witness6 (enc := enc) (C := Try.checked) false ⟨#[], #[.slice none 0 0, .slice none 0 0, .agg #[.int .i64 0, .slice none 0 0, .int .u64 0]], []⟩ 8 (by kernel_rfl) (by kernel_rfl) (by kernel_rfl) (by kernel_rfl)) ?_
  intro W base args ds gs before hval0 hW hcnd hsz0 _
  have hval : ∀ (j : Nat) t v, Try.f6.params[j]? = some t → args[j]? = some v → Value.okWide Try.prog W .any base t v := hval0
  have hW' := hW
  obtain ⟨p, q, hA0, hV, rfl, hfz, hnd⟩ := hW
  have hA : DataW.TrodAll enc Try.prog W 0 (fun _ => true) true Try.f6.params.toList args.toList ds p := hA0
  rw [Try.params6] at hA hval
  obtain ⟨v0, vs0, d0, ds0, p0, q0, hargs, rfl, rfl, h0, r0⟩ := trodAll_cons hA
  obtain ⟨v1, vs1, d1, ds1, p1, q1, rfl, rfl, rfl, h1, r1⟩ := trodAll_cons r0
  obtain ⟨v2, vs2, d2, ds2, p2, q2, rfl, rfl, rfl, h2, r2⟩ := trodAll_cons r1
  obtain ⟨rfl, rfl, rfl⟩ := trodAll_nil r2
  obtain rfl : args = #[v0, v1, v2] := by cases args; simp_all
  obtain ⟨rfl, rfl⟩ := trodVars_none hV
  have hsz : (DataW.weightsEach Try.prog (Try.f6.params.toList ++ Rows.matrixRisesSpec.plain.varTypes Try.prog) ([d0, d1, d2] ++ [])).all (· ≤ reachBytes) = true := hsz0
  rw [Try.params6] at hsz
  obtain ⟨a0, len0, cap0, rfl⟩ := okWide_slice Try.underlying22 (hval 0 22 v0 rfl rfl)
  have k0 := h0
  have lt0 : ∀ x ∈ p0, x.block < W.heap.size := by obtain ⟨m, hm⟩ := k0; exact DataW.trod_lt m _ _ _ hm
  obtain ⟨l0, hs0, hc0, hm0⟩ : ∃ l, Ord.SeesH W a0 len0 l ∧ len0 ≤ cap0 ∧ cap0 ≤ maxLen := by
    obtain ⟨fuel, hf⟩ := h0
    rcases open_ints Try.underlying22 Try.underlying65 (by kernel_rfl) hf with ⟨hcs, _⟩ | ⟨x, l, c, zs, hcs, _, hl, hm, hz, hx, hcell, hwz⟩
    · simp [Value.cells] at hcs
      obtain ⟨rfl, rfl, rfl⟩ := hcs
      obtain ⟨l, h1, h2, h3⟩ := Ord.seesH_of_row (w := W) (zs := []) (.inl ⟨rfl, rfl, rfl, rfl⟩)
      exact ⟨l, h1, h2, h3⟩
    · simp [Value.cells] at hcs
      obtain ⟨rfl, rfl, rfl⟩ := hcs
      simp only [if_true] at hz
      obtain ⟨l, h1, h2, h3⟩ := Ord.seesH_of_row (zs := zs) (.inr ⟨_, rfl, hl, hm, hz, hcell, hwz⟩)
      exact ⟨l, h1, h2, h3⟩
  obtain ⟨a1, len1, cap1, rfl⟩ := okWide_slice Try.underlying50 (hval 1 50 v1 rfl rfl)
  have k1 := h1
  have lt1 : ∀ x ∈ p1, x.block < W.heap.size := by obtain ⟨m, hm⟩ := k1; exact DataW.trod_lt m _ _ _ hm
  obtain ⟨l1, hl1, hs1⟩ : ∃ l : List Mtx.RowS, l.length = len1 ∧ Mtx.RowsIn W a1 l := by
    obtain ⟨fuel, hf⟩ := h1
    exact Mtx.rowsIn_of (by simpa [Value.cells] using hf)
  obtain ⟨c2_0, c2_1, c2_2, ⟨y2_0, z2_0⟩, ⟨y2_1, z2_1⟩, ⟨y2_2, z2_2⟩, m2, rfl, rfl, rfl, hy2_0, hy2_1, hy2_2⟩ := Go.Joins.open_agg3 Try.underlying53 (by kernel_rfl) cells53 (hval 2 53 v2 rfl rfl) h2
  obtain ⟨a2_0, e2_0, f2_0, w2_0⟩ := DataW.trod_int Try.underlying3 hy2_0
  obtain rfl : c2_0 = .int .i64 a2_0 := by simpa using e2_0
  obtain ⟨rfl, rfl⟩ := Prod.mk.inj f2_0
  have hx2_0 : -9223372036854775808 ≤ a2_0 ∧ a2_0 ≤ 9223372036854775807 := by
    have w := w2_0
    simp [Lit.wf, IntKind.min, IntKind.max, IntKind.signed, IntKind.bits] at w
    omega
  obtain ⟨a2_1, len2_1, cap2_1, e2_1⟩ := Go.Joins.slice_form Try.underlying51 hy2_1
  obtain rfl : c2_1 = .slice a2_1 len2_1 cap2_1 := by simpa using e2_1
  have k2_1 : DataW.Trod enc Try.prog W 0 (fun _ => true) true 51 (.slice a2_1 len2_1 cap2_1) y2_1 z2_1 := ⟨_, by simpa [Value.cells] using hy2_1⟩
  have lt2_1 : ∀ x ∈ z2_1, x.block < W.heap.size := by obtain ⟨m, hm⟩ := k2_1; exact DataW.trod_lt m _ _ _ hm
  obtain ⟨l2_1, hs2_1, hf2_1, hc2_1, hm2_1, hz2_1⟩ : ∃ l, Vec.SeesU W a2_1 len2_1 l ∧ Vec.Fits l ∧ len2_1 ≤ cap2_1 ∧ cap2_1 ≤ 9223372036854775807 ∧ (a2_1 = none → cap2_1 = 0) := by
    obtain ⟨A', n', c', l, hcs, h1, h2, h3, h4, h5⟩ := Mtx.have_of hy2_1
    simp at hcs
    obtain ⟨rfl, rfl, rfl⟩ := hcs
    exact ⟨l, h1, h2, h3, h4, h5⟩
  obtain ⟨a2_2, e2_2, f2_2, w2_2⟩ := DataW.trod_int Try.underlying30 hy2_2
  obtain rfl : c2_2 = .int .u64 a2_2 := by simpa using e2_2
  obtain ⟨rfl, rfl⟩ := Prod.mk.inj f2_2
  have hx2_2 : 0 ≤ a2_2 ∧ a2_2 ≤ 18446744073709551615 := by
    have w := w2_2
    simp [Lit.wf, IntKind.min, IntKind.max, IntKind.signed, IntKind.bits] at w
    omega
  clear hA0 hval0
  obtain ⟨tm2, rfl⟩ := Int.eq_ofNat_of_zero_le hx2_2.1
  subst hl1
  have law := Mtx.rises_law a0 len0 cap0 l0 a1 cap1 l1 ⟨a2_0, a2_1, len2_1, cap2_1, l2_1, tm2⟩ W hs0 hs1 ⟨hs2_1, hf2_1, ⟨hc2_1, hm2_1⟩, hz2_1, (by have := hx2_2.2; show tm2 < 18446744073709551616; omega)⟩
  refine law.mono fun e W' ⟨he, bel⟩ => ?_
  subst he
  exact ⟨_, rfl, _, _, _, [], _, [], hW', trodAll_mk1 (shut_bool Try.underlying4 _), (trodAll_cons_mk (Below.trod laidOut (by kernel_rfl) (of_decide_eq_true (by kernel_rfl)) k0 bel lt0) (trodAll_cons_mk (Below.trod laidOut (by kernel_rfl) (of_decide_eq_true (by kernel_rfl)) k1 bel lt1) (trodAll_cons_mk (Go.Joins.shut_agg3 (y0 := (.lit (.int .i64 _), [])) (y1 := (y2_1, z2_1)) (y2 := (.lit (.int .u64 _), [])) Try.underlying53 (by kernel_rfl) cells53 (Go.Joins.field_of_Trod (shut_int Try.underlying3 w2_0) rfl) (Go.Joins.field_of_Trod (Below.trod laidOut (by kernel_rfl) (of_decide_eq_true (by kernel_rfl)) k2_1 bel lt2_1) rfl) (Go.Joins.field_of_Trod (shut_int Try.underlying30 w2_2) rfl)) trodAll_mk0))), rfl, bel.frame _, fun h => by cases h⟩

theorem over : Rows.matrixRisesRow.holds Try.pinned (OpenSpec.ofChange Rows.matrixRisesSpec) :=
  OpenClaim.holds_of_wide 6 Try.f6 rfl rfl rfl rfl rfl rfl rfl ⟨rfl, rfl, rfl, rfl, rfl⟩ rfl rfl rfl rfl rfl (by kernel_rfl) Try.func6 (by kernel_rfl)
    (of_decide_eq_true (by kernel_rfl)) (by unfold Func.isWrapper; first | (rw [if_pos (by decide +kernel)]; kernel_rfl) | (rw [if_neg (by decide +kernel)]; exact ⟨rfl, rfl⟩))
    (fun os started H enc _ => lifted os started H enc)

theorem proved : Rows.MatrixRisesSaid := over
#print axioms proved
end Go.Proofs.Ytlacihgoammjgaa.matrixRises
