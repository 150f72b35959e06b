/- Proved: the Go function OrderRights returns true for every input, and each argument reads behind the call as it read before. No condition. -/
import Derived.Test.YtmdolknanbhkoaaRows
import Derived.WalkKit
import Derived.Test.YtmdolknanbhkoaaOrdZ
import Derived.Test.YtmdolknanbhkoaaOrdP
import Derived.ProofKit
import Derived.OpenShut
import Derived.ShutString
import Derived.ChangeOld
import Derived.Below
import Derived.WalkLawsBesides
import Derived.SizedLaws
import Derived.Test.YtmdolknanbhkoaaAggs
import Derived.Lib.SmallJoins
namespace Go.Proofs.Ytmdolknanbhkoaa.orderRights
open Go.ChangeShapes Go.WideShapes Go.ChangeAt Go.RowKit
open Go.ChangeMaps (open_string shut_string)
set_option linter.unusedVariables false

theorem cells42 : Try.prog.cellsOf 42 = 2 := by kernel_rfl
theorem own : ownKnob Try.prog.godebug = none := by kernel_rfl
theorem laidOut : laidOutB Try.prog = true := by kernel_rfl

set_option maxRecDepth 100000 in
theorem lifted (os : Os) (started : os.Started) (H : Type) (enc : TypeId × Value → H) :
    ReturnsInHanded {} Try.checked os 7 .any (Rows.orderRightsSpec.pre6 enc Try.prog Try.f7 Rows.orderRightsRow.domain false) (Rows.orderRightsSpec.post enc Try.prog Try.f7 false true false false) := by
  refine returnsInHanded_of_change_sized (C := Try.checked) own started (by kernel_rfl) Try.func7
    (ChangeSpec.witness6 (enc := enc) (C := Try.checked) false ⟨#[], #[.slice none 0 0, .agg #[.int .u64 0, .int .i64 0]], []⟩ 8 (by kernel_rfl) (by kernel_rfl) (by kernel_rfl) (by kernel_rfl)) ?_
  intro W base args ds gs before hval0 hW hcnd hsz0 _
  have hval : ∀ (j : Nat) t v, Try.f7.params[j]? = some t → args[j]? = some v → Value.okWide Try.prog W .any base t v := hval0
  have hW' := hW
  obtain ⟨p, q, hA0, hV, rfl, hfz, hnd⟩ := hW
  have hA : DataW.TrodAll enc Try.prog W 0 (fun _ => true) true Try.f7.params.toList args.toList ds p := hA0
  rw [Try.params7] at hA hval
  obtain ⟨v0, vs0, d0, ds0, p0, q0, hargs, rfl, rfl, h0, r0⟩ := trodAll_cons hA
  obtain ⟨v1, vs1, d1, ds1, p1, q1, rfl, rfl, rfl, h1, r1⟩ := trodAll_cons r0
  obtain ⟨rfl, rfl, rfl⟩ := trodAll_nil r1
  obtain rfl : args = #[v0, v1] := by cases args; simp_all
  obtain ⟨rfl, rfl⟩ := trodVars_none hV
  have hsz : (DataW.weightsEach Try.prog (Try.f7.params.toList ++ Rows.orderRightsSpec.plain.varTypes Try.prog) ([d0, d1] ++ [])).all (· ≤ reachBytes) = true := hsz0
  rw [Try.params7] at hsz
  obtain ⟨a0, len0, cap0, rfl⟩ := okWide_slice Try.underlying26 (hval 0 26 v0 rfl rfl)
  have k0 := h0
  have lt0 : ∀ x ∈ p0, x.block < W.heap.size := by obtain ⟨m, hm⟩ := k0; exact DataW.trod_lt m _ _ _ hm
  obtain ⟨l0, hl0, hs0⟩ : ∃ l : List Seg.EvS, l.length = len0 ∧ Seg.RawEv W a0 l := by
    obtain ⟨fuel, hf⟩ := h0
    exact Ord.rawEv_of (by simpa [Value.cells] using hf)
  obtain ⟨c1_0, c1_1, ⟨y1_0, z1_0⟩, ⟨y1_1, z1_1⟩, m1, rfl, rfl, rfl, hy1_0, hy1_1⟩ := Go.Joins.open_agg2 Try.underlying42 (by kernel_rfl) cells42 (hval 1 42 v1 rfl rfl) h1
  obtain ⟨a1_0, e1_0, f1_0, w1_0⟩ := DataW.trod_int Try.underlying30 hy1_0
  obtain rfl : c1_0 = .int .u64 a1_0 := by simpa using e1_0
  obtain ⟨rfl, rfl⟩ := Prod.mk.inj f1_0
  have hx1_0 : 0 ≤ a1_0 ∧ a1_0 ≤ 18446744073709551615 := by
    have w := w1_0
    simp [Lit.wf, IntKind.min, IntKind.max, IntKind.signed, IntKind.bits] at w
    omega
  obtain ⟨a1_1, e1_1, f1_1, w1_1⟩ := DataW.trod_int Try.underlying3 hy1_1
  obtain rfl : c1_1 = .int .i64 a1_1 := by simpa using e1_1
  obtain ⟨rfl, rfl⟩ := Prod.mk.inj f1_1
  have hx1_1 : -9223372036854775808 ≤ a1_1 ∧ a1_1 ≤ 9223372036854775807 := by
    have w := w1_1
    simp [Lit.wf, IntKind.min, IntKind.max, IntKind.signed, IntKind.bits] at w
    omega
  clear hA0 hval0
  obtain ⟨tm1, rfl⟩ := Int.eq_ofNat_of_zero_le hx1_0.1
  subst hl0
  have law := Ord.rights_law a0 cap0 l0 tm1 a1_1 W hs0
  refine law.mono fun e W' ⟨he, bel⟩ => ?_
  subst he
  exact ⟨_, rfl, _, _, _, [], _, [], hW', trodAll_mk1 (shut_bool Try.underlying4 _), (trodAll_cons_mk (Below.trod laidOut (by kernel_rfl) (of_decide_eq_true (by kernel_rfl)) k0 bel lt0) (trodAll_cons_mk (Go.Joins.shut_agg2 (y0 := (.lit (.int .u64 _), [])) (y1 := (.lit (.int .i64 _), [])) Try.underlying42 (by kernel_rfl) cells42 (Go.Joins.field_of_Trod (shut_int Try.underlying30 w1_0) rfl) (Go.Joins.field_of_Trod (shut_int Try.underlying3 w1_1) rfl)) trodAll_mk0)), rfl, bel.frame _, fun h => by cases h⟩

theorem over : Rows.orderRightsRow.holds Try.pinned (OpenSpec.ofChange Rows.orderRightsSpec) :=
  OpenClaim.holds_of_wide 7 Try.f7 rfl rfl rfl rfl rfl rfl rfl ⟨rfl, rfl, rfl, rfl, rfl⟩ rfl rfl rfl rfl rfl (by kernel_rfl) Try.func7 (by kernel_rfl)
    (of_decide_eq_true (by kernel_rfl)) (by unfold Func.isWrapper; first | (rw [if_pos (by decide +kernel)]; kernel_rfl) | (rw [if_neg (by decide +kernel)]; exact ⟨rfl, rfl⟩))
    (fun os started H enc _ => lifted os started H enc)

theorem proved : Rows.OrderRightsSaid := over
#print axioms proved
end Go.Proofs.Ytmdolknanbhkoaa.orderRights
