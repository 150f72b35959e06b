/- Proved: the Go function EventJunk returns true for every input, and each argument reads behind the call as it read before. No condition. -/
import Derived.Test.YtpakjlgohbofhaaRows
import Derived.WalkKit
import Derived.Test.YtpakjlgohbofhaaEvJunk
import Derived.ProofKit
import Derived.OpenShut
import Derived.ShutString
import Derived.ChangeOld
import Derived.Below
import Derived.WalkLawsBesides
import Derived.SizedLaws
import Derived.Test.YtpakjlgohbofhaaAggs
import Derived.Lib.SmallJoins
namespace Go.Proofs.Ytpakjlgohbofhaa.eventJunk
open Go.ChangeShapes Go.WideShapes Go.ChangeAt Go.RowKit
open Go.ChangeMaps (open_string shut_string)
set_option linter.unusedVariables false

theorem cells26 : Try.prog.cellsOf 26 = 8 := by kernel_rfl
theorem own : ownKnob Try.prog.godebug = none := by kernel_rfl
theorem laidOut : laidOutB Try.prog = true := by kernel_rfl

set_option maxRecDepth 100000 in
theorem lifted (os : Os) (started : os.Started) (H : Type) (enc : TypeId × Value → H) :
    ReturnsInHanded {} Try.checked os 4 .any (Rows.eventJunkSpec.pre6 enc Try.prog Try.f4 Rows.eventJunkRow.domain false) (Rows.eventJunkSpec.post enc Try.prog Try.f4 false true false false) := by
  refine returnsInHanded_of_change_sized (C := Try.checked) own started (by kernel_rfl) Try.func4
    (ChangeSpec.witness6 (enc := enc) (C := Try.checked) false ⟨#[], #[.slice none 0 0, .agg #[.int .i64 0, .int .u64 0, .int .u64 0, .int .u8 0, .string ByteArray.empty, .slice none 0 0, .float .f64 0, .int .i64 0], .int .u16 0, .int .u8 0, .int .u16 0], []⟩ 8 (by kernel_rfl) (by kernel_rfl) (by kernel_rfl) (by kernel_rfl)) ?_
  intro W base args ds gs before hval0 hW hcnd hsz0 _
  have hval : ∀ (j : Nat) t v, Try.f4.params[j]? = some t → args[j]? = some v → Value.okWide Try.prog W .any base t v := hval0
  have hW' := hW
  obtain ⟨p, q, hA0, hV, rfl, hfz, hnd⟩ := hW
  have hA : DataW.TrodAll enc Try.prog W 0 (fun _ => true) true Try.f4.params.toList args.toList ds p := hA0
  rw [Try.params4] at hA hval
  obtain ⟨v0, vs0, d0, ds0, p0, q0, hargs, rfl, rfl, h0, r0⟩ := trodAll_cons hA
  obtain ⟨v1, vs1, d1, ds1, p1, q1, rfl, rfl, rfl, h1, r1⟩ := trodAll_cons r0
  obtain ⟨v2, vs2, d2, ds2, p2, q2, rfl, rfl, rfl, h2, r2⟩ := trodAll_cons r1
  obtain ⟨v3, vs3, d3, ds3, p3, q3, rfl, rfl, rfl, h3, r3⟩ := trodAll_cons r2
  obtain ⟨v4, vs4, d4, ds4, p4, q4, rfl, rfl, rfl, h4, r4⟩ := trodAll_cons r3
  obtain ⟨rfl, rfl, rfl⟩ := trodAll_nil r4
  obtain rfl : args = #[v0, v1, v2, v3, v4] := by cases args; simp_all
  obtain ⟨rfl, rfl⟩ := trodVars_none hV
  have hsz : (DataW.weightsEach Try.prog (Try.f4.params.toList ++ Rows.eventJunkSpec.plain.varTypes Try.prog) ([d0, d1, d2, d3, d4] ++ [])).all (· ≤ reachBytes) = true := hsz0
  rw [Try.params4] at hsz
  obtain ⟨a0, len0, cap0, rfl⟩ := okWide_slice Try.underlying23 (hval 0 23 v0 rfl rfl)
  have k0 := h0
  have lt0 : ∀ x ∈ p0, x.block < W.heap.size := by obtain ⟨m, hm⟩ := k0; exact DataW.trod_lt m _ _ _ hm
  obtain ⟨l0, hs0, hc0, hm0, hr0⟩ : ∃ l, Words.Sees W a0 len0 l ∧ len0 ≤ cap0 ∧ cap0 ≤ maxLen ∧ cap0 ≤ 140737488351232 := by
    obtain ⟨fuel, hf⟩ := h0
    rcases open_ints Try.underlying23 Try.underlying5 (by kernel_rfl) hf with ⟨hcs, _⟩ | ⟨x, l, c, zs, hcs, _, hl, hm, hz, hx, hcell, hwz⟩
    · simp [Value.cells] at hcs
      obtain ⟨rfl, rfl, rfl⟩ := hcs
      obtain ⟨l, h1, h2, h3⟩ := Words.sees_of_row (w := W) (zs := []) (.inl ⟨rfl, rfl, rfl, rfl⟩)
      exact ⟨l, h1, h2, h3, Nat.zero_le _⟩
    · simp [Value.cells] at hcs
      obtain ⟨rfl, rfl, rfl⟩ := hcs
      simp only [if_true] at hz
      obtain ⟨l, h1, h2, h3⟩ := Words.sees_of_row (zs := zs) (.inr ⟨_, rfl, hl, hm, hz, hcell, hwz⟩)
      refine ⟨l, h1, h2, h3, ?_⟩
      exact Aggs.sized_bytes hsz (j := 0) (t := 23) (e := 5) (z := []) (Z := []) rfl rfl (by rw [(Prod.mk.inj hx).1]) hz Try.underlying23 (by kernel_rfl)
  obtain ⟨c1_0, c1_1, c1_2, c1_3, c1_4, c1_5, c1_6, c1_7, ⟨y1_0, z1_0⟩, ⟨y1_1, z1_1⟩, ⟨y1_2, z1_2⟩, ⟨y1_3, z1_3⟩, ⟨y1_4, z1_4⟩, ⟨y1_5, z1_5⟩, ⟨y1_6, z1_6⟩, ⟨y1_7, z1_7⟩, m1, rfl, rfl, rfl, hy1_0, hy1_1, hy1_2, hy1_3, hy1_4, hy1_5, hy1_6, hy1_7⟩ := Aggs.open_agg8 Try.underlying26 (by kernel_rfl) cells26 (hval 1 26 v1 rfl rfl) h1
  obtain ⟨a1_0, e1_0, f1_0, w1_0⟩ := DataW.trod_int Try.underlying3 hy1_0
  obtain rfl : c1_0 = .int .i64 a1_0 := by simpa using e1_0
  obtain ⟨rfl, rfl⟩ := Prod.mk.inj f1_0
  have hx1_0 : -9223372036854775808 ≤ a1_0 ∧ a1_0 ≤ 9223372036854775807 := by
    have w := w1_0
    simp [Lit.wf, IntKind.min, IntKind.max, IntKind.signed, IntKind.bits] at w
    omega
  obtain ⟨a1_1, e1_1, f1_1, w1_1⟩ := DataW.trod_int Try.underlying22 hy1_1
  obtain rfl : c1_1 = .int .u64 a1_1 := by simpa using e1_1
  obtain ⟨rfl, rfl⟩ := Prod.mk.inj f1_1
  have hx1_1 : 0 ≤ a1_1 ∧ a1_1 ≤ 18446744073709551615 := by
    have w := w1_1
    simp [Lit.wf, IntKind.min, IntKind.max, IntKind.signed, IntKind.bits] at w
    omega
  obtain ⟨a1_2, e1_2, f1_2, w1_2⟩ := DataW.trod_int Try.underlying22 hy1_2
  obtain rfl : c1_2 = .int .u64 a1_2 := by simpa using e1_2
  obtain ⟨rfl, rfl⟩ := Prod.mk.inj f1_2
  have hx1_2 : 0 ≤ a1_2 ∧ a1_2 ≤ 18446744073709551615 := by
    have w := w1_2
    simp [Lit.wf, IntKind.min, IntKind.max, IntKind.signed, IntKind.bits] at w
    omega
  obtain ⟨a1_3, e1_3, f1_3, w1_3⟩ := DataW.trod_int Try.underlying5 hy1_3
  obtain rfl : c1_3 = .int .u8 a1_3 := by simpa using e1_3
  obtain ⟨rfl, rfl⟩ := Prod.mk.inj f1_3
  have hx1_3 : 0 ≤ a1_3 ∧ a1_3 ≤ 255 := by
    have w := w1_3
    simp [Lit.wf, IntKind.min, IntKind.max, IntKind.signed, IntKind.bits] at w
    omega
  obtain ⟨a1_4, e1_4, f1_4, hx1_4⟩ := DataW.trod_string Try.underlying9 hy1_4
  obtain rfl : c1_4 = .string a1_4 := by simpa using e1_4
  obtain ⟨rfl, rfl⟩ := Prod.mk.inj f1_4
  have hr1_4 : a1_4.size ≤ 140737488351232 := Aggs.sized_text (Aggs.sized_field hsz (j := 1) (t := 26) rfl rfl Try.underlying26) (j := 4) rfl rfl
  obtain ⟨a1_5, len1_5, cap1_5, e1_5⟩ := Go.Joins.slice_form Try.underlying23 hy1_5
  obtain rfl : c1_5 = .slice a1_5 len1_5 cap1_5 := by simpa using e1_5
  have k1_5 : DataW.Trod enc Try.prog W 0 (fun _ => true) true 23 (.slice a1_5 len1_5 cap1_5) y1_5 z1_5 := ⟨_, by simpa [Value.cells] using hy1_5⟩
  have lt1_5 : ∀ x ∈ z1_5, x.block < W.heap.size := by obtain ⟨m, hm⟩ := k1_5; exact DataW.trod_lt m _ _ _ hm
  obtain ⟨l1_5, hs1_5, hc1_5, hm1_5, hr1_5⟩ : ∃ l, Words.Sees W a1_5 len1_5 l ∧ len1_5 ≤ cap1_5 ∧ cap1_5 ≤ maxLen ∧ cap1_5 ≤ 140737488351232 := by
    rcases open_ints Try.underlying23 Try.underlying5 (by kernel_rfl) hy1_5 with ⟨hcs, _⟩ | ⟨x, l, c, zs, hcs, _, hl, hm, hz, hx, hcell, hwz⟩
    · simp at hcs
      obtain ⟨rfl, rfl, rfl⟩ := hcs
      obtain ⟨l, h1, h2, h3⟩ := Words.sees_of_row (w := W) (zs := []) (.inl ⟨rfl, rfl, rfl, rfl⟩)
      exact ⟨l, h1, h2, h3, Nat.zero_le _⟩
    · simp at hcs
      obtain ⟨rfl, rfl, rfl⟩ := hcs
      simp only [if_true] at hz
      obtain ⟨l, h1, h2, h3⟩ := Words.sees_of_row (zs := zs) (.inr ⟨_, rfl, hl, hm, hz, hcell, hwz⟩)
      refine ⟨l, h1, h2, h3, ?_⟩
      exact Aggs.sized_bytes (Aggs.sized_field hsz (j := 1) (t := 26) rfl rfl Try.underlying26) (j := 5) (t := 23) (e := 5) rfl rfl hx hz Try.underlying23 (by kernel_rfl)
  obtain ⟨a1_6, e1_6, f1_6, w1_6⟩ := Aggs.trod_float Try.underlying24 hy1_6
  obtain rfl : c1_6 = .float .f64 a1_6 := by simpa using e1_6
  obtain ⟨rfl, rfl⟩ := Prod.mk.inj f1_6
  have hx1_6 : a1_6 < 18446744073709551616 := by
    have w := w1_6
    simpa [Lit.wf] using w
  obtain ⟨a1_7, e1_7, f1_7, w1_7⟩ := DataW.trod_int Try.underlying3 hy1_7
  obtain rfl : c1_7 = .int .i64 a1_7 := by simpa using e1_7
  obtain ⟨rfl, rfl⟩ := Prod.mk.inj f1_7
  have hx1_7 : -9223372036854775808 ≤ a1_7 ∧ a1_7 ≤ 9223372036854775807 := by
    have w := w1_7
    simp [Lit.wf, IntKind.min, IntKind.max, IntKind.signed, IntKind.bits] at w
    omega
  obtain ⟨a2, rfl, rfl, rfl, w2⟩ := open_int Try.underlying40 (hval 2 40 v2 rfl rfl) h2
  have hx2 : 0 ≤ a2 ∧ a2 ≤ 65535 := by
    have w := w2
    simp [Lit.wf, IntKind.min, IntKind.max, IntKind.signed, IntKind.bits] at w
    omega
  obtain ⟨a3, rfl, rfl, rfl, w3⟩ := open_int Try.underlying5 (hval 3 5 v3 rfl rfl) h3
  have hx3 : 0 ≤ a3 ∧ a3 ≤ 255 := by
    have w := w3
    simp [Lit.wf, IntKind.min, IntKind.max, IntKind.signed, IntKind.bits] at w
    omega
  obtain ⟨a4, rfl, rfl, rfl, w4⟩ := open_int Try.underlying40 (hval 4 40 v4 rfl rfl) h4
  have hx4 : 0 ≤ a4 ∧ a4 ≤ 65535 := by
    have w := w4
    simp [Lit.wf, IntKind.min, IntKind.max, IntKind.signed, IntKind.bits] at w
    omega
  clear hA0 hval0
  obtain ⟨sq1, rfl⟩ := Int.eq_ofNat_of_zero_le hx1_1.1
  obtain ⟨tm1, rfl⟩ := Int.eq_ofNat_of_zero_le hx1_2.1
  obtain ⟨kd1, rfl⟩ := Int.eq_ofNat_of_zero_le hx1_3.1
  have fit1 : Evt.Ev.Fit ⟨a1_0, sq1, tm1, kd1, a1_4, l1_5, a1_6, a1_7⟩ := ⟨hx1_0.1, hx1_0.2, by simp only; omega, by simp only; omega, by simp only; omega, hx1_6, hx1_7.1, hx1_7.2⟩
  have hm1_6 : len1_5 ≤ 9223372036854775807 := by omega
  have hm1_7 : a1_4.size ≤ 9223372036854775807 := by omega
  obtain ⟨x, rfl⟩ := Int.eq_ofNat_of_zero_le hx2.1
  obtain ⟨tn, rfl⟩ := Int.eq_ofNat_of_zero_le hx3.1
  obtain ⟨z, rfl⟩ := Int.eq_ofNat_of_zero_le hx4.1
  have hm0' : len0 ≤ 9223372036854775807 := Nat.le_trans hc0 hm0
  have law := Evt.junk_law a0 len0 cap0 l0 ⟨a1_0, sq1, tm1, kd1, a1_4, l1_5, a1_6, a1_7⟩ a1_5 len1_5 cap1_5 x tn z W hs0 hc0 hm0' fit1 hs1_5 hm1_6 hm1_7 (by omega) (by omega) (by omega)
  refine law.mono fun e W' ⟨he, bel⟩ => ?_
  subst he
  exact ⟨_, rfl, _, _, _, [], _, [], hW', trodAll_mk1 (shut_bool Try.underlying4 _), (trodAll_cons_mk (Below.trod laidOut (by kernel_rfl) (of_decide_eq_true (by kernel_rfl)) k0 bel lt0) (trodAll_cons_mk (Aggs.shut_agg8 (y0 := (.lit (.int .i64 _), [])) (y1 := (.lit (.int .u64 _), [])) (y2 := (.lit (.int .u64 _), [])) (y3 := (.lit (.int .u8 _), [])) (y4 := (.lit (.string _), [])) (y5 := (y1_5, z1_5)) (y6 := (.lit (.float .f64 _), [])) (y7 := (.lit (.int .i64 _), [])) Try.underlying26 (by kernel_rfl) cells26 (Go.Joins.field_of_Trod (shut_int Try.underlying3 w1_0) rfl) (Go.Joins.field_of_Trod (shut_int Try.underlying22 w1_1) rfl) (Go.Joins.field_of_Trod (shut_int Try.underlying22 w1_2) rfl) (Go.Joins.field_of_Trod (shut_int Try.underlying5 w1_3) rfl) (Go.Joins.field_of_Trod (shut_string Try.underlying9 hx1_4) rfl) (Go.Joins.field_of_Trod (Below.trod laidOut (by kernel_rfl) (of_decide_eq_true (by kernel_rfl)) k1_5 bel lt1_5) rfl) (Go.Joins.field_of_Trod (shut_float Try.underlying24 w1_6) rfl) (Go.Joins.field_of_Trod (shut_int Try.underlying3 w1_7) rfl)) (trodAll_cons_mk (shut_int Try.underlying40 w2) (trodAll_cons_mk (shut_int Try.underlying5 w3) (trodAll_cons_mk (shut_int Try.underlying40 w4) trodAll_mk0))))), rfl, bel.frame _, fun h => by cases h⟩

theorem over : Rows.eventJunkRow.holds Try.pinned (OpenSpec.ofChange Rows.eventJunkSpec) :=
  OpenClaim.holds_of_wide 4 Try.f4 rfl rfl rfl rfl rfl rfl rfl ⟨rfl, rfl, rfl, rfl, rfl⟩ rfl rfl rfl rfl rfl (by kernel_rfl) Try.func4 (by kernel_rfl)
    (of_decide_eq_true (by kernel_rfl)) (by unfold Func.isWrapper; first | (rw [if_pos (by decide +kernel)]; kernel_rfl) | (rw [if_neg (by decide +kernel)]; exact ⟨rfl, rfl⟩))
    (fun os started H enc _ => lifted os started H enc)

theorem proved : Rows.EventJunkSaid := over
#print axioms proved
end Go.Proofs.Ytpakjlgohbofhaa.eventJunk
