/- Proved: the Go function FoldNil returns true for every input, and each argument reads behind the call as it read before. No condition. -/
import Derived.Test.YtlbmfbhgpkdjoaaRows
import Derived.WalkKit
import Derived.Test.YtlbmfbhgpkdjoaaFolNil
import Derived.ProofKit
import Derived.OpenShut
import Derived.ShutString
import Derived.ChangeOld
import Derived.Below
import Derived.WalkLawsBesides
import Derived.SizedLaws
import Derived.Test.YtlbmfbhgpkdjoaaAggs
import Derived.Lib.SmallJoins
namespace Go.Proofs.Ytlbmfbhgpkdjoaa.foldNil
open Go.ChangeShapes Go.WideShapes Go.ChangeAt Go.RowKit
open Go.ChangeMaps (open_string shut_string)
set_option linter.unusedVariables false

theorem cells26 : Try.prog.cellsOf 26 = 8 := by kernel_rfl
theorem own : ownKnob Try.prog.godebug = none := by kernel_rfl
theorem laidOut : laidOutB Try.prog = true := by kernel_rfl

set_option maxRecDepth 100000 in
theorem lifted (os : Os) (started : os.Started) (H : Type) (enc : TypeId × Value → H) :
    ReturnsInHanded {} Try.checked os 3 .any (Rows.foldNilSpec.pre6 enc Try.prog Try.f3 Rows.foldNilRow.domain false) (Rows.foldNilSpec.post enc Try.prog Try.f3 false true false false) := by
  refine returnsInHanded_of_change_sized (C := Try.checked) own started (by kernel_rfl) Try.func3
    (ChangeSpec.witness6 (enc := enc) (C := Try.checked) false ⟨#[], #[.agg #[.int .i64 0, .int .u64 0, .int .u64 0, .int .u8 0, .string ByteArray.empty, .slice none 0 0, .float .f64 0, .int .i64 0], .string ByteArray.empty, .int .i64 0], []⟩ 8 (by kernel_rfl) (by kernel_rfl) (by kernel_rfl) (by kernel_rfl)) ?_
  intro W base args ds gs before hval0 hW hcnd hsz0 _
  have hval : ∀ (j : Nat) t v, Try.f3.params[j]? = some t → args[j]? = some v → Value.okWide Try.prog W .any base t v := hval0
  have hW' := hW
  obtain ⟨p, q, hA0, hV, rfl, hfz, hnd⟩ := hW
  have hA : DataW.TrodAll enc Try.prog W 0 (fun _ => true) true Try.f3.params.toList args.toList ds p := hA0
  rw [Try.params3] at hA hval
  obtain ⟨v0, vs0, d0, ds0, p0, q0, hargs, rfl, rfl, h0, r0⟩ := trodAll_cons hA
  obtain ⟨v1, vs1, d1, ds1, p1, q1, rfl, rfl, rfl, h1, r1⟩ := trodAll_cons r0
  obtain ⟨v2, vs2, d2, ds2, p2, q2, rfl, rfl, rfl, h2, r2⟩ := trodAll_cons r1
  obtain ⟨rfl, rfl, rfl⟩ := trodAll_nil r2
  obtain rfl : args = #[v0, v1, v2] := by cases args; simp_all
  obtain ⟨rfl, rfl⟩ := trodVars_none hV
  have hsz : (DataW.weightsEach Try.prog (Try.f3.params.toList ++ Rows.foldNilSpec.plain.varTypes Try.prog) ([d0, d1, d2] ++ [])).all (· ≤ reachBytes) = true := hsz0
  rw [Try.params3] at hsz
  obtain ⟨c0_0, c0_1, c0_2, c0_3, c0_4, c0_5, c0_6, c0_7, ⟨y0_0, z0_0⟩, ⟨y0_1, z0_1⟩, ⟨y0_2, z0_2⟩, ⟨y0_3, z0_3⟩, ⟨y0_4, z0_4⟩, ⟨y0_5, z0_5⟩, ⟨y0_6, z0_6⟩, ⟨y0_7, z0_7⟩, m0, rfl, rfl, rfl, hy0_0, hy0_1, hy0_2, hy0_3, hy0_4, hy0_5, hy0_6, hy0_7⟩ := Aggs.open_agg8 Try.underlying26 (by kernel_rfl) cells26 (hval 0 26 v0 rfl rfl) h0
  obtain ⟨a0_0, e0_0, f0_0, w0_0⟩ := DataW.trod_int Try.underlying3 hy0_0
  obtain rfl : c0_0 = .int .i64 a0_0 := by simpa using e0_0
  obtain ⟨rfl, rfl⟩ := Prod.mk.inj f0_0
  have hx0_0 : -9223372036854775808 ≤ a0_0 ∧ a0_0 ≤ 9223372036854775807 := by
    have w := w0_0
    simp [Lit.wf, IntKind.min, IntKind.max, IntKind.signed, IntKind.bits] at w
    omega
  obtain ⟨a0_1, e0_1, f0_1, w0_1⟩ := DataW.trod_int Try.underlying22 hy0_1
  obtain rfl : c0_1 = .int .u64 a0_1 := by simpa using e0_1
  obtain ⟨rfl, rfl⟩ := Prod.mk.inj f0_1
  have hx0_1 : 0 ≤ a0_1 ∧ a0_1 ≤ 18446744073709551615 := by
    have w := w0_1
    simp [Lit.wf, IntKind.min, IntKind.max, IntKind.signed, IntKind.bits] at w
    omega
  obtain ⟨a0_2, e0_2, f0_2, w0_2⟩ := DataW.trod_int Try.underlying22 hy0_2
  obtain rfl : c0_2 = .int .u64 a0_2 := by simpa using e0_2
  obtain ⟨rfl, rfl⟩ := Prod.mk.inj f0_2
  have hx0_2 : 0 ≤ a0_2 ∧ a0_2 ≤ 18446744073709551615 := by
    have w := w0_2
    simp [Lit.wf, IntKind.min, IntKind.max, IntKind.signed, IntKind.bits] at w
    omega
  obtain ⟨a0_3, e0_3, f0_3, w0_3⟩ := DataW.trod_int Try.underlying5 hy0_3
  obtain rfl : c0_3 = .int .u8 a0_3 := by simpa using e0_3
  obtain ⟨rfl, rfl⟩ := Prod.mk.inj f0_3
  have hx0_3 : 0 ≤ a0_3 ∧ a0_3 ≤ 255 := by
    have w := w0_3
    simp [Lit.wf, IntKind.min, IntKind.max, IntKind.signed, IntKind.bits] at w
    omega
  obtain ⟨a0_4, e0_4, f0_4, hx0_4⟩ := DataW.trod_string Try.underlying9 hy0_4
  obtain rfl : c0_4 = .string a0_4 := by simpa using e0_4
  obtain ⟨rfl, rfl⟩ := Prod.mk.inj f0_4
  have hr0_4 : a0_4.size ≤ 140737488351232 := Aggs.sized_text (Aggs.sized_field hsz (j := 0) (t := 26) rfl rfl Try.underlying26) (j := 4) rfl rfl
  obtain ⟨a0_5, len0_5, cap0_5, e0_5⟩ := Go.Joins.slice_form Try.underlying23 hy0_5
  obtain rfl : c0_5 = .slice a0_5 len0_5 cap0_5 := by simpa using e0_5
  have k0_5 : DataW.Trod enc Try.prog W 0 (fun _ => true) true 23 (.slice a0_5 len0_5 cap0_5) y0_5 z0_5 := ⟨_, by simpa [Value.cells] using hy0_5⟩
  have lt0_5 : ∀ x ∈ z0_5, x.block < W.heap.size := by obtain ⟨m, hm⟩ := k0_5; exact DataW.trod_lt m _ _ _ hm
  obtain ⟨l0_5, hs0_5, hc0_5, hm0_5, hr0_5⟩ : ∃ l, Words.Sees W a0_5 len0_5 l ∧ len0_5 ≤ cap0_5 ∧ cap0_5 ≤ maxLen ∧ cap0_5 ≤ 140737488351232 := by
    rcases open_ints Try.underlying23 Try.underlying5 (by kernel_rfl) hy0_5 with ⟨hcs, _⟩ | ⟨x, l, c, zs, hcs, _, hl, hm, hz, hx, hcell, hwz⟩
    · simp at hcs
      obtain ⟨rfl, rfl, rfl⟩ := hcs
      obtain ⟨l, h1, h2, h3⟩ := Words.sees_of_row (w := W) (zs := []) (.inl ⟨rfl, rfl, rfl, rfl⟩)
      exact ⟨l, h1, h2, h3, Nat.zero_le _⟩
    · simp at hcs
      obtain ⟨rfl, rfl, rfl⟩ := hcs
      simp only [if_true] at hz
      obtain ⟨l, h1, h2, h3⟩ := Words.sees_of_row (zs := zs) (.inr ⟨_, rfl, hl, hm, hz, hcell, hwz⟩)
      refine ⟨l, h1, h2, h3, ?_⟩
      exact Aggs.sized_bytes (Aggs.sized_field hsz (j := 0) (t := 26) rfl rfl Try.underlying26) (j := 5) (t := 23) (e := 5) rfl rfl hx hz Try.underlying23 (by kernel_rfl)
  obtain ⟨a0_6, e0_6, f0_6, w0_6⟩ := Aggs.trod_float Try.underlying24 hy0_6
  obtain rfl : c0_6 = .float .f64 a0_6 := by simpa using e0_6
  obtain ⟨rfl, rfl⟩ := Prod.mk.inj f0_6
  have hx0_6 : a0_6 < 18446744073709551616 := by
    have w := w0_6
    simpa [Lit.wf] using w
  obtain ⟨a0_7, e0_7, f0_7, w0_7⟩ := DataW.trod_int Try.underlying3 hy0_7
  obtain rfl : c0_7 = .int .i64 a0_7 := by simpa using e0_7
  obtain ⟨rfl, rfl⟩ := Prod.mk.inj f0_7
  have hx0_7 : -9223372036854775808 ≤ a0_7 ∧ a0_7 ≤ 9223372036854775807 := by
    have w := w0_7
    simp [Lit.wf, IntKind.min, IntKind.max, IntKind.signed, IntKind.bits] at w
    omega
  obtain ⟨a1, rfl, rfl, rfl, hx1⟩ := open_string Try.underlying9 (hval 1 9 v1 rfl rfl) h1
  obtain ⟨a2, rfl, rfl, rfl, w2⟩ := open_int Try.underlying3 (hval 2 3 v2 rfl rfl) h2
  have hx2 : -9223372036854775808 ≤ a2 ∧ a2 ≤ 9223372036854775807 := by
    have w := w2
    simp [Lit.wf, IntKind.min, IntKind.max, IntKind.signed, IntKind.bits] at w
    omega
  clear hA0 hval0
  obtain ⟨sq0, rfl⟩ := Int.eq_ofNat_of_zero_le hx0_1.1
  obtain ⟨tm0, rfl⟩ := Int.eq_ofNat_of_zero_le hx0_2.1
  obtain ⟨kd0, rfl⟩ := Int.eq_ofNat_of_zero_le hx0_3.1
  have hm0_6 : len0_5 ≤ 9223372036854775807 := by omega
  have hm0_7 : a0_4.size ≤ 9223372036854775807 := by omega
  have law := Fol.nil_law ⟨a0_0, sq0, tm0, kd0, a0_4, l0_5, a0_6, a0_7⟩ a0_5 len0_5 cap0_5 a1 a2 W hm0_6 (by have := hx1; unfold maxLen at this; omega) hm0_7
  refine law.mono fun e W' ⟨he, bel⟩ => ?_
  subst he
  exact ⟨_, rfl, _, _, _, [], _, [], hW', trodAll_mk1 (shut_bool Try.underlying4 _), (trodAll_cons_mk (Aggs.shut_agg8 (y0 := (.lit (.int .i64 _), [])) (y1 := (.lit (.int .u64 _), [])) (y2 := (.lit (.int .u64 _), [])) (y3 := (.lit (.int .u8 _), [])) (y4 := (.lit (.string _), [])) (y5 := (y0_5, z0_5)) (y6 := (.lit (.float .f64 _), [])) (y7 := (.lit (.int .i64 _), [])) Try.underlying26 (by kernel_rfl) cells26 (Go.Joins.field_of_Trod (shut_int Try.underlying3 w0_0) rfl) (Go.Joins.field_of_Trod (shut_int Try.underlying22 w0_1) rfl) (Go.Joins.field_of_Trod (shut_int Try.underlying22 w0_2) rfl) (Go.Joins.field_of_Trod (shut_int Try.underlying5 w0_3) rfl) (Go.Joins.field_of_Trod (shut_string Try.underlying9 hx0_4) rfl) (Go.Joins.field_of_Trod (Below.trod laidOut (by kernel_rfl) (of_decide_eq_true (by kernel_rfl)) k0_5 bel lt0_5) rfl) (Go.Joins.field_of_Trod (shut_float Try.underlying24 w0_6) rfl) (Go.Joins.field_of_Trod (shut_int Try.underlying3 w0_7) rfl)) (trodAll_cons_mk (shut_string Try.underlying9 hx1) (trodAll_cons_mk (shut_int Try.underlying3 w2) trodAll_mk0))), rfl, bel.frame _, fun h => by cases h⟩

theorem over : Rows.foldNilRow.holds Try.pinned (OpenSpec.ofChange Rows.foldNilSpec) :=
  OpenClaim.holds_of_wide 3 Try.f3 rfl rfl rfl rfl rfl rfl rfl ⟨rfl, rfl, rfl, rfl, rfl⟩ rfl rfl rfl rfl rfl (by kernel_rfl) Try.func3 (by kernel_rfl)
    (of_decide_eq_true (by kernel_rfl)) (by unfold Func.isWrapper; first | (rw [if_pos (by decide +kernel)]; kernel_rfl) | (rw [if_neg (by decide +kernel)]; exact ⟨rfl, rfl⟩))
    (fun os started H enc _ => lifted os started H enc)

theorem proved : Rows.FoldNilSaid := over
#print axioms proved
end Go.Proofs.Ytlbmfbhgpkdjoaa.foldNil
