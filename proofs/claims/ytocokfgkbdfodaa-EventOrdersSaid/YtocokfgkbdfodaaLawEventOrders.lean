/- Proved: the Go function EventOrders returns true for every input, and each argument reads behind the call as it read before. No condition. -/
import Derived.Test.YtocokfgkbdfodaaRows
import Derived.WalkKit
import Derived.Test.YtocokfgkbdfodaaEvLaw
import Derived.ProofKit
import Derived.OpenShut
import Derived.ShutString
import Derived.ChangeOld
import Derived.Below
import Derived.WalkLawsBesides
import Derived.SizedLaws
import Derived.Test.YtocokfgkbdfodaaAggs
import Derived.Lib.SmallJoins
namespace Go.Proofs.Ytocokfgkbdfodaa.eventOrders
open Go.ChangeShapes Go.WideShapes Go.ChangeAt Go.RowKit
open Go.ChangeMaps (open_string shut_string)
set_option linter.unusedVariables false

theorem cells39 : Try.prog.cellsOf 39 = 2 := by kernel_rfl
theorem own : ownKnob Try.prog.godebug = none := by kernel_rfl
theorem laidOut : laidOutB Try.prog = true := by kernel_rfl

set_option maxRecDepth 100000 in
theorem lifted (os : Os) (started : os.Started) (H : Type) (enc : TypeId × Value → H) :
    ReturnsInHanded {} Try.checked os 6 .any (Rows.eventOrdersSpec.pre6 enc Try.prog Try.f6 Rows.eventOrdersRow.domain false) (Rows.eventOrdersSpec.post enc Try.prog Try.f6 false true false false) := by
  refine returnsInHanded_of_change_sized (C := Try.checked) own started (by kernel_rfl) Try.func6
    (ChangeSpec.witness6 (enc := enc) (C := Try.checked) false ⟨#[], #[.agg #[.int .u64 0, .int .i64 0], .agg #[.int .u64 0, .int .i64 0], .agg #[.int .u64 0, .int .i64 0]], []⟩ 8 (by kernel_rfl) (by kernel_rfl) (by kernel_rfl) (by kernel_rfl)) ?_
  intro W base args ds gs before hval0 hW hcnd hsz0 _
  have hval : ∀ (j : Nat) t v, Try.f6.params[j]? = some t → args[j]? = some v → Value.okWide Try.prog W .any base t v := hval0
  have hW' := hW
  obtain ⟨p, q, hA0, hV, rfl, hfz, hnd⟩ := hW
  have hA : DataW.TrodAll enc Try.prog W 0 (fun _ => true) true Try.f6.params.toList args.toList ds p := hA0
  rw [Try.params6] at hA hval
  obtain ⟨v0, vs0, d0, ds0, p0, q0, hargs, rfl, rfl, h0, r0⟩ := trodAll_cons hA
  obtain ⟨v1, vs1, d1, ds1, p1, q1, rfl, rfl, rfl, h1, r1⟩ := trodAll_cons r0
  obtain ⟨v2, vs2, d2, ds2, p2, q2, rfl, rfl, rfl, h2, r2⟩ := trodAll_cons r1
  obtain ⟨rfl, rfl, rfl⟩ := trodAll_nil r2
  obtain rfl : args = #[v0, v1, v2] := by cases args; simp_all
  obtain ⟨rfl, rfl⟩ := trodVars_none hV
  have hsz : (DataW.weightsEach Try.prog (Try.f6.params.toList ++ Rows.eventOrdersSpec.plain.varTypes Try.prog) ([d0, d1, d2] ++ [])).all (· ≤ reachBytes) = true := hsz0
  rw [Try.params6] at hsz
  obtain ⟨c0_0, c0_1, ⟨y0_0, z0_0⟩, ⟨y0_1, z0_1⟩, m0, rfl, rfl, rfl, hy0_0, hy0_1⟩ := Go.Joins.open_agg2 Try.underlying39 (by kernel_rfl) cells39 (hval 0 39 v0 rfl rfl) h0
  obtain ⟨a0_0, e0_0, f0_0, w0_0⟩ := DataW.trod_int Try.underlying22 hy0_0
  obtain rfl : c0_0 = .int .u64 a0_0 := by simpa using e0_0
  obtain ⟨rfl, rfl⟩ := Prod.mk.inj f0_0
  have hx0_0 : 0 ≤ a0_0 ∧ a0_0 ≤ 18446744073709551615 := by
    have w := w0_0
    simp [Lit.wf, IntKind.min, IntKind.max, IntKind.signed, IntKind.bits] at w
    omega
  obtain ⟨a0_1, e0_1, f0_1, w0_1⟩ := DataW.trod_int Try.underlying3 hy0_1
  obtain rfl : c0_1 = .int .i64 a0_1 := by simpa using e0_1
  obtain ⟨rfl, rfl⟩ := Prod.mk.inj f0_1
  have hx0_1 : -9223372036854775808 ≤ a0_1 ∧ a0_1 ≤ 9223372036854775807 := by
    have w := w0_1
    simp [Lit.wf, IntKind.min, IntKind.max, IntKind.signed, IntKind.bits] at w
    omega
  obtain ⟨c1_0, c1_1, ⟨y1_0, z1_0⟩, ⟨y1_1, z1_1⟩, m1, rfl, rfl, rfl, hy1_0, hy1_1⟩ := Go.Joins.open_agg2 Try.underlying39 (by kernel_rfl) cells39 (hval 1 39 v1 rfl rfl) h1
  obtain ⟨a1_0, e1_0, f1_0, w1_0⟩ := DataW.trod_int Try.underlying22 hy1_0
  obtain rfl : c1_0 = .int .u64 a1_0 := by simpa using e1_0
  obtain ⟨rfl, rfl⟩ := Prod.mk.inj f1_0
  have hx1_0 : 0 ≤ a1_0 ∧ a1_0 ≤ 18446744073709551615 := by
    have w := w1_0
    simp [Lit.wf, IntKind.min, IntKind.max, IntKind.signed, IntKind.bits] at w
    omega
  obtain ⟨a1_1, e1_1, f1_1, w1_1⟩ := DataW.trod_int Try.underlying3 hy1_1
  obtain rfl : c1_1 = .int .i64 a1_1 := by simpa using e1_1
  obtain ⟨rfl, rfl⟩ := Prod.mk.inj f1_1
  have hx1_1 : -9223372036854775808 ≤ a1_1 ∧ a1_1 ≤ 9223372036854775807 := by
    have w := w1_1
    simp [Lit.wf, IntKind.min, IntKind.max, IntKind.signed, IntKind.bits] at w
    omega
  obtain ⟨c2_0, c2_1, ⟨y2_0, z2_0⟩, ⟨y2_1, z2_1⟩, m2, rfl, rfl, rfl, hy2_0, hy2_1⟩ := Go.Joins.open_agg2 Try.underlying39 (by kernel_rfl) cells39 (hval 2 39 v2 rfl rfl) h2
  obtain ⟨a2_0, e2_0, f2_0, w2_0⟩ := DataW.trod_int Try.underlying22 hy2_0
  obtain rfl : c2_0 = .int .u64 a2_0 := by simpa using e2_0
  obtain ⟨rfl, rfl⟩ := Prod.mk.inj f2_0
  have hx2_0 : 0 ≤ a2_0 ∧ a2_0 ≤ 18446744073709551615 := by
    have w := w2_0
    simp [Lit.wf, IntKind.min, IntKind.max, IntKind.signed, IntKind.bits] at w
    omega
  obtain ⟨a2_1, e2_1, f2_1, w2_1⟩ := DataW.trod_int Try.underlying3 hy2_1
  obtain rfl : c2_1 = .int .i64 a2_1 := by simpa using e2_1
  obtain ⟨rfl, rfl⟩ := Prod.mk.inj f2_1
  have hx2_1 : -9223372036854775808 ≤ a2_1 ∧ a2_1 ≤ 9223372036854775807 := by
    have w := w2_1
    simp [Lit.wf, IntKind.min, IntKind.max, IntKind.signed, IntKind.bits] at w
    omega
  clear hA0 hval0
  obtain ⟨t0, rfl⟩ := Int.eq_ofNat_of_zero_le hx0_0.1
  obtain ⟨t1, rfl⟩ := Int.eq_ofNat_of_zero_le hx1_0.1
  obtain ⟨t2, rfl⟩ := Int.eq_ofNat_of_zero_le hx2_0.1
  have law := Evt.orders_law t0 t1 t2 a0_1 a1_1 a2_1 W
  refine law.mono fun e W' ⟨he, bel⟩ => ?_
  subst he
  exact ⟨_, rfl, _, _, _, [], _, [], hW', trodAll_mk1 (shut_bool Try.underlying4 _), (trodAll_cons_mk (Go.Joins.shut_agg2 (y0 := (.lit (.int .u64 _), [])) (y1 := (.lit (.int .i64 _), [])) Try.underlying39 (by kernel_rfl) cells39 (Go.Joins.field_of_Trod (shut_int Try.underlying22 w0_0) rfl) (Go.Joins.field_of_Trod (shut_int Try.underlying3 w0_1) rfl)) (trodAll_cons_mk (Go.Joins.shut_agg2 (y0 := (.lit (.int .u64 _), [])) (y1 := (.lit (.int .i64 _), [])) Try.underlying39 (by kernel_rfl) cells39 (Go.Joins.field_of_Trod (shut_int Try.underlying22 w1_0) rfl) (Go.Joins.field_of_Trod (shut_int Try.underlying3 w1_1) rfl)) (trodAll_cons_mk (Go.Joins.shut_agg2 (y0 := (.lit (.int .u64 _), [])) (y1 := (.lit (.int .i64 _), [])) Try.underlying39 (by kernel_rfl) cells39 (Go.Joins.field_of_Trod (shut_int Try.underlying22 w2_0) rfl) (Go.Joins.field_of_Trod (shut_int Try.underlying3 w2_1) rfl)) trodAll_mk0))), rfl, bel.frame _, fun h => by cases h⟩

theorem over : Rows.eventOrdersRow.holds Try.pinned (OpenSpec.ofChange Rows.eventOrdersSpec) :=
  OpenClaim.holds_of_wide 6 Try.f6 rfl rfl rfl rfl rfl rfl rfl ⟨rfl, rfl, rfl, rfl, rfl⟩ rfl rfl rfl rfl rfl (by kernel_rfl) Try.func6 (by kernel_rfl)
    (of_decide_eq_true (by kernel_rfl)) (by unfold Func.isWrapper; first | (rw [if_pos (by decide +kernel)]; kernel_rfl) | (rw [if_neg (by decide +kernel)]; exact ⟨rfl, rfl⟩))
    (fun os started H enc _ => lifted os started H enc)

theorem proved : Rows.EventOrdersSaid := over
#print axioms proved
end Go.Proofs.Ytocokfgkbdfodaa.eventOrders
