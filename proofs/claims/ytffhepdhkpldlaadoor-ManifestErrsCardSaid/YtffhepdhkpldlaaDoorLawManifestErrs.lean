/- Proved: the Go function ManifestErrs returns true for every input, and each argument reads behind the call as it read before. No condition. -/
import Derived.Test.YtffhepdhkpldlaaDoorRows
import Derived.WalkKit
import Derived.Test.YtffhepdhkpldlaaDoorManErrsM
import Derived.ProofKit
import Derived.OpenShut
import Derived.ShutString
import Derived.ChangeOld
import Derived.Below
import Derived.WalkLawsBesides
import Derived.SizedLaws
import Derived.Test.YtffhepdhkpldlaaDoorAggs
import Derived.Test.YtffhepdhkpldlaaDoorCards
import Derived.Test.YtffhepdhkpldlaaDoorTie
import Derived.LaidMore
import Derived.Lay
import Derived.SevenTiedAt
import Derived.Stop.Joined
import Derived.Lib.SmallJoins
namespace Go.Proofs.YtffhepdhkpldlaaDoor.manifestErrs
open Go.ChangeShapes Go.WideShapes Go.ChangeAt Go.RowKit
open Go.ChangeMaps (open_string shut_string)
set_option linter.unusedVariables false

theorem cells26 : Tryd.prog.cellsOf 26 = 5 := by kernel_rfl
theorem cells50 : Tryd.prog.cellsOf 50 = 3 := by kernel_rfl
theorem own : ownKnob Tryd.prog.godebug = none := by kernel_rfl
theorem laidOut : laidOutB Tryd.prog = true := by kernel_rfl

set_option maxRecDepth 100000 in
theorem lifted (os : Os) (started : os.Started) (H : Type) (enc : TypeId × Value → H) :
    ReturnsInHanded {} Tryd.checked os 5 .any (fun w args => (Rows.manifestErrsSpec.pre enc Tryd.prog Tryd.f5 Rows.manifestErrsRow.domain false w args ∧ laidMetH Tryd.prog Rows.manifestErrsRow.laid w) ∧ sizedMet enc Tryd.prog Tryd.f5 (OpenSpec.ofChange Rows.manifestErrsSpec) false w args) (Rows.manifestErrsSpec.post enc Tryd.prog Tryd.f5 false true false false) := by
  refine returnsInHanded_of_change_and (C := Tryd.checked) (X := fun w _ => laidMetH Tryd.prog Rows.manifestErrsRow.laid w) (fun _ _ _ hh h => h.of_heap hh) own started (by kernel_rfl) Tryd.func5
    (ChangeSpec.witness_shaped (enc := enc) (C := Tryd.checked) (os := os) (X := fun w _ => laidMetH Tryd.prog Rows.manifestErrsRow.laid w) false (World.laidAll Tryd.prog os Rows.manifestErrsRow.laid) #[.agg #[.int .i64 0, .int .u64 0, .slice none 0 0, .int .u64 0, .string ByteArray.empty], .slice none 0 0, .agg #[.int .u8 0, .int .u64 0, .int .u64 0]] 8 (World.laidAll_os _ _ _)
      (World.shaped_of_ZipB (by kernel_rfl) (by kernel_rfl)) (by kernel_rfl) (by kernel_rfl) (by kernel_rfl)
      (by rw [MakeChecks.laidMetH_plain _ _ _ (by kernel_rfl)]; exact laidMet_laidAll _ (by kernel_rfl) (by kernel_rfl))) ?_
  intro W base args ds gs before hval0 hW hcnd _ hL _
  have hval : ∀ (j : Nat) t v, Tryd.f5.params[j]? = some t → args[j]? = some v → Value.okWide Tryd.prog W .any base t v := hval0
  have hW' := hW
  obtain ⟨p, q, hA0, hV, rfl, hfz, hnd⟩ := hW
  have hA : DataW.TrodAll enc Tryd.prog W 0 (fun _ => true) true Tryd.f5.params.toList args.toList ds p := hA0
  rw [Tryd.params5] at hA hval
  obtain ⟨v0, vs0, d0, ds0, p0, q0, hargs, rfl, rfl, h0, r0⟩ := trodAll_cons hA
  obtain ⟨v1, vs1, d1, ds1, p1, q1, rfl, rfl, rfl, h1, r1⟩ := trodAll_cons r0
  obtain ⟨v2, vs2, d2, ds2, p2, q2, rfl, rfl, rfl, h2, r2⟩ := trodAll_cons r1
  obtain ⟨rfl, rfl, rfl⟩ := trodAll_nil r2
  obtain rfl : args = #[v0, v1, v2] := by cases args; simp_all
  obtain ⟨rfl, rfl⟩ := trodVars_none hV
  have hsz : True := trivial
  obtain ⟨c0_0, c0_1, c0_2, c0_3, c0_4, ⟨y0_0, z0_0⟩, ⟨y0_1, z0_1⟩, ⟨y0_2, z0_2⟩, ⟨y0_3, z0_3⟩, ⟨y0_4, z0_4⟩, m0, rfl, rfl, rfl, hy0_0, hy0_1, hy0_2, hy0_3, hy0_4⟩ := Aggs.open_agg5 Tryd.underlying26 (by kernel_rfl) cells26 (hval 0 26 v0 rfl rfl) h0
  obtain ⟨a0_0, e0_0, f0_0, w0_0⟩ := DataW.trod_int Tryd.underlying3 hy0_0
  obtain rfl : c0_0 = .int .i64 a0_0 := by simpa using e0_0
  obtain ⟨rfl, rfl⟩ := Prod.mk.inj f0_0
  have hx0_0 : -9223372036854775808 ≤ a0_0 ∧ a0_0 ≤ 9223372036854775807 := by
    have w := w0_0
    simp [Lit.wf, IntKind.min, IntKind.max, IntKind.signed, IntKind.bits] at w
    omega
  obtain ⟨a0_1, e0_1, f0_1, w0_1⟩ := DataW.trod_int Tryd.underlying22 hy0_1
  obtain rfl : c0_1 = .int .u64 a0_1 := by simpa using e0_1
  obtain ⟨rfl, rfl⟩ := Prod.mk.inj f0_1
  have hx0_1 : 0 ≤ a0_1 ∧ a0_1 ≤ 18446744073709551615 := by
    have w := w0_1
    simp [Lit.wf, IntKind.min, IntKind.max, IntKind.signed, IntKind.bits] at w
    omega
  obtain ⟨a0_2, len0_2, cap0_2, e0_2⟩ := Go.Joins.slice_form Tryd.underlying24 hy0_2
  obtain rfl : c0_2 = .slice a0_2 len0_2 cap0_2 := by simpa using e0_2
  have k0_2 : DataW.Trod enc Tryd.prog W 0 (fun _ => true) true 24 (.slice a0_2 len0_2 cap0_2) y0_2 z0_2 := ⟨_, by simpa [Value.cells] using hy0_2⟩
  have lt0_2 : ∀ x ∈ z0_2, x.block < W.heap.size := by obtain ⟨m, hm⟩ := k0_2; exact DataW.trod_lt m _ _ _ hm
  obtain ⟨l0_2, hs0_2, hf0_2, hc0_2, hm0_2⟩ : ∃ l, Vec.SeesU W a0_2 len0_2 l ∧ Vec.Fits l ∧ len0_2 ≤ cap0_2 ∧ cap0_2 ≤ maxLen := by
    rcases open_ints Tryd.underlying24 Tryd.underlying22 (by kernel_rfl) hy0_2 with ⟨hcs, _⟩ | ⟨x, l, c, zs, hcs, _, hl, hm, hz, hx, hcell, hwz⟩
    · simp at hcs
      obtain ⟨rfl, rfl, rfl⟩ := hcs
      obtain ⟨l, h1, h2, h3, h4⟩ := Vec.seesU_of_row (w := W) (zs := []) (.inl ⟨rfl, rfl, rfl, rfl⟩)
      exact ⟨l, h1, h2, h3, h4⟩
    · simp at hcs
      obtain ⟨rfl, rfl, rfl⟩ := hcs
      simp only [if_true] at hz
      obtain ⟨l, h1, h2, h3, h4⟩ := Vec.seesU_of_row (zs := zs) (.inr ⟨_, rfl, hl, hm, hz, hcell, hwz⟩)
      exact ⟨l, h1, h2, h3, h4⟩
  obtain ⟨a0_3, e0_3, f0_3, w0_3⟩ := DataW.trod_int Tryd.underlying22 hy0_3
  obtain rfl : c0_3 = .int .u64 a0_3 := by simpa using e0_3
  obtain ⟨rfl, rfl⟩ := Prod.mk.inj f0_3
  have hx0_3 : 0 ≤ a0_3 ∧ a0_3 ≤ 18446744073709551615 := by
    have w := w0_3
    simp [Lit.wf, IntKind.min, IntKind.max, IntKind.signed, IntKind.bits] at w
    omega
  obtain ⟨a0_4, e0_4, f0_4, hx0_4⟩ := DataW.trod_string Tryd.underlying9 hy0_4
  obtain rfl : c0_4 = .string a0_4 := by simpa using e0_4
  obtain ⟨rfl, rfl⟩ := Prod.mk.inj f0_4
  obtain ⟨a1, len1, cap1, rfl⟩ := okWide_slice Tryd.underlying27 (hval 1 27 v1 rfl rfl)
  have k1 := h1
  have lt1 : ∀ x ∈ p1, x.block < W.heap.size := by obtain ⟨m, hm⟩ := k1; exact DataW.trod_lt m _ _ _ hm
  obtain ⟨l1, hs1, hc1, hm1⟩ : ∃ l, Words.Sees W a1 len1 l ∧ len1 ≤ cap1 ∧ cap1 ≤ maxLen := by
    obtain ⟨fuel, hf⟩ := h1
    rcases open_ints Tryd.underlying27 Tryd.underlying5 (by kernel_rfl) hf with ⟨hcs, _⟩ | ⟨x, l, c, zs, hcs, _, hl, hm, hz, hx, hcell, hwz⟩
    · simp [Value.cells] at hcs
      obtain ⟨rfl, rfl, rfl⟩ := hcs
      obtain ⟨l, h1, h2, h3⟩ := Words.sees_of_row (w := W) (zs := []) (.inl ⟨rfl, rfl, rfl, rfl⟩)
      exact ⟨l, h1, h2, h3⟩
    · simp [Value.cells] at hcs
      obtain ⟨rfl, rfl, rfl⟩ := hcs
      simp only [if_true] at hz
      obtain ⟨l, h1, h2, h3⟩ := Words.sees_of_row (zs := zs) (.inr ⟨_, rfl, hl, hm, hz, hcell, hwz⟩)
      exact ⟨l, h1, h2, h3⟩
  obtain ⟨c2_0, c2_1, c2_2, ⟨y2_0, z2_0⟩, ⟨y2_1, z2_1⟩, ⟨y2_2, z2_2⟩, m2, rfl, rfl, rfl, hy2_0, hy2_1, hy2_2⟩ := Go.Joins.open_agg3 Tryd.underlying50 (by kernel_rfl) cells50 (hval 2 50 v2 rfl rfl) h2
  obtain ⟨a2_0, e2_0, f2_0, w2_0⟩ := DataW.trod_int Tryd.underlying5 hy2_0
  obtain rfl : c2_0 = .int .u8 a2_0 := by simpa using e2_0
  obtain ⟨rfl, rfl⟩ := Prod.mk.inj f2_0
  have hx2_0 : 0 ≤ a2_0 ∧ a2_0 ≤ 255 := by
    have w := w2_0
    simp [Lit.wf, IntKind.min, IntKind.max, IntKind.signed, IntKind.bits] at w
    omega
  obtain ⟨a2_1, e2_1, f2_1, w2_1⟩ := DataW.trod_int Tryd.underlying22 hy2_1
  obtain rfl : c2_1 = .int .u64 a2_1 := by simpa using e2_1
  obtain ⟨rfl, rfl⟩ := Prod.mk.inj f2_1
  have hx2_1 : 0 ≤ a2_1 ∧ a2_1 ≤ 18446744073709551615 := by
    have w := w2_1
    simp [Lit.wf, IntKind.min, IntKind.max, IntKind.signed, IntKind.bits] at w
    omega
  obtain ⟨a2_2, e2_2, f2_2, w2_2⟩ := DataW.trod_int Tryd.underlying22 hy2_2
  obtain rfl : c2_2 = .int .u64 a2_2 := by simpa using e2_2
  obtain ⟨rfl, rfl⟩ := Prod.mk.inj f2_2
  have hx2_2 : 0 ≤ a2_2 ∧ a2_2 ≤ 18446744073709551615 := by
    have w := w2_2
    simp [Lit.wf, IntKind.min, IntKind.max, IntKind.signed, IntKind.bits] at w
    omega
  clear hA0 hval0
  have TC : Chk.Tabs W := Chk.of_laid hL
  obtain ⟨sr0, rfl⟩ := Int.eq_ofNat_of_zero_le hx0_1.1
  obtain ⟨tm0, rfl⟩ := Int.eq_ofNat_of_zero_le hx0_3.1
  have g0 : Man.Arg W ⟨a0_0, sr0, l0_2, tm0, a0_4⟩ a0_2 len0_2 cap0_2 := ⟨hx0_0.1, hx0_0.2, by show sr0 < 18446744073709551616; omega, by show tm0 < 18446744073709551616; omega, hs0_2, hf0_2, hc0_2, by unfold maxLen at *; omega, by unfold maxLen at *; exact hx0_4⟩
  obtain ⟨kt, rfl⟩ := Int.eq_ofNat_of_zero_le hx2_0.1
  obtain ⟨tA, rfl⟩ := Int.eq_ofNat_of_zero_le hx2_1.1
  obtain ⟨tB, rfl⟩ := Int.eq_ofNat_of_zero_le hx2_2.1
  obtain ⟨k8, rfl⟩ : ∃ k8 : UInt8, k8.toNat = kt := ⟨UInt8.ofNat kt, by rw [UInt8.toNat_ofNat']; omega⟩
  have law : Calls Tryd.prog 5 #[(⟨a0_0, sr0, l0_2, tm0, a0_4⟩ : Man.Mn).val a0_2 len0_2 cap0_2, .slice a1 len1 cap1, Sht.titleV k8 tA tB] W fun e W' => e = .returned (.bool true) ∧ Below W.heap.size W W' := by
    by_cases h : 64 < len0_2 ∨ 60 < a0_4.size ∨ 300 < len1
    · exact Man.errs_short _ _ _ _ _ _ _ _ _ _ W TC g0 (by unfold maxLen at *; omega) h
    · exact Man.errs_main _ _ _ _ _ _ _ l1 k8 tA tB W TC g0 hs1 hc1 (by unfold maxLen at *; omega) (by omega) (by omega) (by omega) (by show a0_4.size ≤ 60; omega) (by omega)
  refine law.mono fun e W' ⟨he, bel⟩ => ?_
  subst he
  exact ⟨_, rfl, _, _, _, [], _, [], hW', trodAll_mk1 (shut_bool Tryd.underlying4 _), (trodAll_cons_mk (Aggs.shut_agg5 (y0 := (.lit (.int .i64 _), [])) (y1 := (.lit (.int .u64 _), [])) (y2 := (y0_2, z0_2)) (y3 := (.lit (.int .u64 _), [])) (y4 := (.lit (.string _), [])) Tryd.underlying26 (by kernel_rfl) cells26 (Go.Joins.field_of_Trod (shut_int Tryd.underlying3 w0_0) rfl) (Go.Joins.field_of_Trod (shut_int Tryd.underlying22 w0_1) rfl) (Go.Joins.field_of_Trod (Below.trod laidOut (by kernel_rfl) (of_decide_eq_true (by kernel_rfl)) k0_2 bel lt0_2) rfl) (Go.Joins.field_of_Trod (shut_int Tryd.underlying22 w0_3) rfl) (Go.Joins.field_of_Trod (shut_string Tryd.underlying9 hx0_4) rfl)) (trodAll_cons_mk (Below.trod laidOut (by kernel_rfl) (of_decide_eq_true (by kernel_rfl)) k1 bel lt1) (trodAll_cons_mk (Go.Joins.shut_agg3 (y0 := (.lit (.int .u8 _), [])) (y1 := (.lit (.int .u64 _), [])) (y2 := (.lit (.int .u64 _), [])) Tryd.underlying50 (by kernel_rfl) cells50 (Go.Joins.field_of_Trod (shut_int Tryd.underlying5 w2_0) rfl) (Go.Joins.field_of_Trod (shut_int Tryd.underlying22 w2_1) rfl) (Go.Joins.field_of_Trod (shut_int Tryd.underlying22 w2_2) rfl)) trodAll_mk0))), rfl, bel.frame _, fun h => by cases h⟩

theorem over : Rows.manifestErrsRow.holds Tryd.pinned (OpenSpec.ofChange Rows.manifestErrsSpec) :=
  OpenClaim.holds_of_wide 5 Tryd.f5 rfl rfl rfl rfl rfl rfl rfl ⟨rfl, rfl, rfl, rfl, rfl⟩ rfl rfl rfl rfl rfl (by kernel_rfl) Tryd.func5 (by kernel_rfl)
    (of_decide_eq_true (by kernel_rfl)) (by unfold Func.isWrapper; first | (rw [if_pos (by decide +kernel)]; kernel_rfl) | (rw [if_neg (by decide +kernel)]; exact ⟨rfl, rfl⟩))
    (fun os started H enc _ => lifted os started H enc)

theorem proved : Rows.ManifestErrsCardSaid :=
  Claim7.holds_tied_plain_at .later [] [.data, .data] true (true, "99ed7061da30ee4c655ab9fb30064b177242a5e8ea9b466580ae39e92a10ff08") true over (fun _ h => by cases h) (by kernel_rfl) (fun _ h => by cases h) manifestErrs_row_tie rfl ⟨rfl, rfl⟩ (by kernel_rfl) rfl
    (fun f fn hf hfn => by
      obtain rfl : f = 5 := Option.some.inj ((show Tryd.prog.funcNamed "anabranch/anabranchlaw10.ManifestErrs" = some 5 by kernel_rfl).symm.trans hf) |>.symm
      obtain rfl : fn = Tryd.f5 := (Option.some.inj (Tryd.func5.symm.trans hfn)).symm
      exact ⟨by kernel_rfl, fun j t ht => by
        rw [Tryd.params5] at ht
        have hm : t ∈ [26, 27, 50] := by simpa using Array.mem_of_getElem? ht
        have hall : ([26, 27, 50].all fun u => !Tryd.prog.wantsStandIn u) = true := by kernel_rfl
        exact (show Tryd.prog.wantsStandIn t = false by simpa using List.all_eq_true.1 hall t hm)⟩)
    (by kernel_rfl)
#print axioms proved
end Go.Proofs.YtffhepdhkpldlaaDoor.manifestErrs
