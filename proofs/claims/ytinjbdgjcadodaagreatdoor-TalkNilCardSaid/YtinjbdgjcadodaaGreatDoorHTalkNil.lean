/- Proved: the Go function TalkNil returns true for every input, and each argument reads behind the call as it read before. No condition. -/
import Derived.Test.YtinjbdgjcadodaaGreatDoorRows
import Derived.Test.YtinjbdgjcadodaaGreatDoorOvercTalkNil
import Derived.Test.YtinjbdgjcadodaaGreatDoorOverTalkNil
import Derived.WalkKit
import Derived.ProofKit
import Derived.OpenShut
import Derived.ShutString
import Derived.ChangeOld
import Derived.Below
import Derived.WalkLawsBesides
import Derived.SizedLaws
import Derived.Test.YtinjbdgjcadodaaGreatDoorCards
import Derived.Test.YtinjbdgjcadodaaGreatDoorTie
import Derived.LaidMore
import Derived.Lay
import Derived.SevenTiedAt
import Derived.Stop.Joined
import Derived.Lib.SmallJoins
import Derived.Test.YtinjbdgjcadodaaGreatDoorTNp39
namespace Go.Proofs.YtinjbdgjcadodaaGreatDoor.talkNil
open Go.ChangeShapes Go.WideShapes Go.ChangeAt Go.RowKit
open Go.ChangeMaps (open_string shut_string)
set_option linter.unusedVariables false

theorem cells31 : Tryz.prog.cellsOf 31 = 14 := by kernel_rfl
theorem own : ownKnob Tryz.prog.godebug = none := by kernel_rfl
theorem laidOut : laidOutB Tryz.prog = true := by kernel_rfl

set_option maxRecDepth 100000 in
theorem lifted (os : Os) (started : os.Started) (H : Type) (enc : TypeId × Value → H) :
    ReturnsInHanded {} Tryz.checked os 3 .any (fun w args => (Rows.talkNilSpec.pre enc Tryz.prog Tryz.f3 Rows.talkNilRow.domain false w args ∧ laidMetH Tryz.prog Rows.talkNilRow.laid w) ∧ sizedMet enc Tryz.prog Tryz.f3 (OpenSpec.ofChange Rows.talkNilSpec) false w args) (Rows.talkNilSpec.post enc Tryz.prog Tryz.f3 false true false false) := by
  refine returnsInHanded_of_change_and (C := Tryz.checked) (X := fun w _ => laidMetH Tryz.prog Rows.talkNilRow.laid w) (fun _ _ _ hh h => h.of_heap hh) own started (by kernel_rfl) Tryz.func3
    (ChangeSpec.witness_shaped (enc := enc) (C := Tryz.checked) (os := os) (X := fun w _ => laidMetH Tryz.prog Rows.talkNilRow.laid w) false (World.laidAll Tryz.prog os Rows.talkNilRow.laid) #[.agg #[.int .u8 0, .int .i64 0, .int .i64 0, .bool false, .int .u64 0, .slice none 0 0, .slice none 0 0, .slice none 0 0, .int .u64 0, .int .u64 0, .int .u32 0, .int .u64 0, .slice none 0 0, .int .i64 0], .int .i64 0] 8 (World.laidAll_os _ _ _)
      (World.shaped_of_ZipB (by kernel_rfl) (by kernel_rfl)) (by kernel_rfl) (by kernel_rfl) (by kernel_rfl)
      (by rw [MakeChecks.laidMetH_plain _ _ _ (by kernel_rfl)]; exact laidMet_laidAll _ (by kernel_rfl) (by kernel_rfl))) ?_
  intro W base args ds gs before hval0 hW hcnd _ hL _
  have hval : ∀ (j : Nat) t v, Tryz.f3.params[j]? = some t → args[j]? = some v → Value.okWide Tryz.prog W .any base t v := hval0
  have hW' := hW
  obtain ⟨p, q, hA0, hV, rfl, hfz, hnd⟩ := hW
  have hA : DataW.TrodAll enc Tryz.prog W 0 (fun _ => true) true Tryz.f3.params.toList args.toList ds p := hA0
  rw [Tryz.params3] at hA hval
  obtain ⟨v0, vs0, d0, ds0, p0, q0, hargs, rfl, rfl, h0, r0⟩ := trodAll_cons hA
  obtain ⟨v1, vs1, d1, ds1, p1, q1, rfl, rfl, rfl, h1, r1⟩ := trodAll_cons r0
  obtain ⟨rfl, rfl, rfl⟩ := trodAll_nil r1
  obtain rfl : args = #[v0, v1] := by cases args; simp_all
  obtain ⟨rfl, rfl⟩ := trodVars_none hV
  have hsz : True := trivial
  obtain ⟨c0_0, c0_1, c0_2, c0_3, c0_4, c0_5, c0_6, c0_7, c0_8, c0_9, c0_10, c0_11, c0_12, c0_13, ⟨y0_0, z0_0⟩, ⟨y0_1, z0_1⟩, ⟨y0_2, z0_2⟩, ⟨y0_3, z0_3⟩, ⟨y0_4, z0_4⟩, ⟨y0_5, z0_5⟩, ⟨y0_6, z0_6⟩, ⟨y0_7, z0_7⟩, ⟨y0_8, z0_8⟩, ⟨y0_9, z0_9⟩, ⟨y0_10, z0_10⟩, ⟨y0_11, z0_11⟩, ⟨y0_12, z0_12⟩, ⟨y0_13, z0_13⟩, m0, rfl, rfl, rfl, hy0_0, hy0_1, hy0_2, hy0_3, hy0_4, hy0_5, hy0_6, hy0_7, hy0_8, hy0_9, hy0_10, hy0_11, hy0_12, hy0_13⟩ := Aggs.open_agg14 Tryz.underlying31 (by kernel_rfl) cells31 (hval 0 31 v0 rfl rfl) h0
  obtain ⟨a0_0, e0_0, f0_0, w0_0⟩ := DataW.trod_int Tryz.underlying5 hy0_0
  obtain rfl : c0_0 = .int .u8 a0_0 := by simpa using e0_0
  obtain ⟨rfl, rfl⟩ := Prod.mk.inj f0_0
  have hx0_0 : 0 ≤ a0_0 ∧ a0_0 ≤ 255 := by
    have w := w0_0
    simp [Lit.wf, IntKind.min, IntKind.max, IntKind.signed, IntKind.bits] at w
    omega
  obtain ⟨a0_1, e0_1, f0_1, w0_1⟩ := DataW.trod_int Tryz.underlying3 hy0_1
  obtain rfl : c0_1 = .int .i64 a0_1 := by simpa using e0_1
  obtain ⟨rfl, rfl⟩ := Prod.mk.inj f0_1
  have hx0_1 : -9223372036854775808 ≤ a0_1 ∧ a0_1 ≤ 9223372036854775807 := by
    have w := w0_1
    simp [Lit.wf, IntKind.min, IntKind.max, IntKind.signed, IntKind.bits] at w
    omega
  obtain ⟨a0_2, e0_2, f0_2, w0_2⟩ := DataW.trod_int Tryz.underlying3 hy0_2
  obtain rfl : c0_2 = .int .i64 a0_2 := by simpa using e0_2
  obtain ⟨rfl, rfl⟩ := Prod.mk.inj f0_2
  have hx0_2 : -9223372036854775808 ≤ a0_2 ∧ a0_2 ≤ 9223372036854775807 := by
    have w := w0_2
    simp [Lit.wf, IntKind.min, IntKind.max, IntKind.signed, IntKind.bits] at w
    omega
  obtain ⟨a0_3, e0_3, f0_3⟩ := Aggs.trod_bool Tryz.underlying4 hy0_3
  obtain rfl : c0_3 = .bool a0_3 := by simpa using e0_3
  obtain ⟨rfl, rfl⟩ := Prod.mk.inj f0_3
  obtain ⟨a0_4, e0_4, f0_4, w0_4⟩ := DataW.trod_int Tryz.underlying22 hy0_4
  obtain rfl : c0_4 = .int .u64 a0_4 := by simpa using e0_4
  obtain ⟨rfl, rfl⟩ := Prod.mk.inj f0_4
  have hx0_4 : 0 ≤ a0_4 ∧ a0_4 ≤ 18446744073709551615 := by
    have w := w0_4
    simp [Lit.wf, IntKind.min, IntKind.max, IntKind.signed, IntKind.bits] at w
    omega
  obtain ⟨a0_5, len0_5, cap0_5, e0_5⟩ := Go.Joins.slice_form Tryz.underlying24 hy0_5
  obtain rfl : c0_5 = .slice a0_5 len0_5 cap0_5 := by simpa using e0_5
  have k0_5 : DataW.Trod enc Tryz.prog W 0 (fun _ => true) true 24 (.slice a0_5 len0_5 cap0_5) y0_5 z0_5 := ⟨_, by simpa [Value.cells] using hy0_5⟩
  have lt0_5 : ∀ x ∈ z0_5, x.block < W.heap.size := by obtain ⟨m, hm⟩ := k0_5; exact DataW.trod_lt m _ _ _ hm
  obtain ⟨l0_5, hs0_5, hf0_5, hc0_5, hm0_5⟩ : ∃ l, Vec.SeesU W a0_5 len0_5 l ∧ Vec.Fits l ∧ len0_5 ≤ cap0_5 ∧ cap0_5 ≤ maxLen := by
    rcases open_ints Tryz.underlying24 Tryz.underlying22 (by kernel_rfl) hy0_5 with ⟨hcs, _⟩ | ⟨x, l, c, zs, hcs, _, hl, hm, hz, hx, hcell, hwz⟩
    · simp at hcs
      obtain ⟨rfl, rfl, rfl⟩ := hcs
      obtain ⟨l, h1, h2, h3, h4⟩ := Vec.seesU_of_row (w := W) (zs := []) (.inl ⟨rfl, rfl, rfl, rfl⟩)
      exact ⟨l, h1, h2, h3, h4⟩
    · simp at hcs
      obtain ⟨rfl, rfl, rfl⟩ := hcs
      simp only [if_true] at hz
      obtain ⟨l, h1, h2, h3, h4⟩ := Vec.seesU_of_row (zs := zs) (.inr ⟨_, rfl, hl, hm, hz, hcell, hwz⟩)
      exact ⟨l, h1, h2, h3, h4⟩
  obtain ⟨a0_6, len0_6, cap0_6, e0_6⟩ := Go.Joins.slice_form Tryz.underlying25 hy0_6
  obtain rfl : c0_6 = .slice a0_6 len0_6 cap0_6 := by simpa using e0_6
  have k0_6 : DataW.Trod enc Tryz.prog W 0 (fun _ => true) true 25 (.slice a0_6 len0_6 cap0_6) y0_6 z0_6 := ⟨_, by simpa [Value.cells] using hy0_6⟩
  have lt0_6 : ∀ x ∈ z0_6, x.block < W.heap.size := by obtain ⟨m, hm⟩ := k0_6; exact DataW.trod_lt m _ _ _ hm
  obtain ⟨a0_7, len0_7, cap0_7, e0_7⟩ := Go.Joins.slice_form Tryz.underlying26 hy0_7
  obtain rfl : c0_7 = .slice a0_7 len0_7 cap0_7 := by simpa using e0_7
  have k0_7 : DataW.Trod enc Tryz.prog W 0 (fun _ => true) true 26 (.slice a0_7 len0_7 cap0_7) y0_7 z0_7 := ⟨_, by simpa [Value.cells] using hy0_7⟩
  have lt0_7 : ∀ x ∈ z0_7, x.block < W.heap.size := by obtain ⟨m, hm⟩ := k0_7; exact DataW.trod_lt m _ _ _ hm
  obtain ⟨a0_8, e0_8, f0_8, w0_8⟩ := DataW.trod_int Tryz.underlying22 hy0_8
  obtain rfl : c0_8 = .int .u64 a0_8 := by simpa using e0_8
  obtain ⟨rfl, rfl⟩ := Prod.mk.inj f0_8
  have hx0_8 : 0 ≤ a0_8 ∧ a0_8 ≤ 18446744073709551615 := by
    have w := w0_8
    simp [Lit.wf, IntKind.min, IntKind.max, IntKind.signed, IntKind.bits] at w
    omega
  obtain ⟨a0_9, e0_9, f0_9, w0_9⟩ := DataW.trod_int Tryz.underlying22 hy0_9
  obtain rfl : c0_9 = .int .u64 a0_9 := by simpa using e0_9
  obtain ⟨rfl, rfl⟩ := Prod.mk.inj f0_9
  have hx0_9 : 0 ≤ a0_9 ∧ a0_9 ≤ 18446744073709551615 := by
    have w := w0_9
    simp [Lit.wf, IntKind.min, IntKind.max, IntKind.signed, IntKind.bits] at w
    omega
  obtain ⟨a0_10, e0_10, f0_10, w0_10⟩ := DataW.trod_int Tryz.underlying27 hy0_10
  obtain rfl : c0_10 = .int .u32 a0_10 := by simpa using e0_10
  obtain ⟨rfl, rfl⟩ := Prod.mk.inj f0_10
  have hx0_10 : 0 ≤ a0_10 ∧ a0_10 ≤ 4294967295 := by
    have w := w0_10
    simp [Lit.wf, IntKind.min, IntKind.max, IntKind.signed, IntKind.bits] at w
    omega
  obtain ⟨a0_11, e0_11, f0_11, w0_11⟩ := DataW.trod_int Tryz.underlying22 hy0_11
  obtain rfl : c0_11 = .int .u64 a0_11 := by simpa using e0_11
  obtain ⟨rfl, rfl⟩ := Prod.mk.inj f0_11
  have hx0_11 : 0 ≤ a0_11 ∧ a0_11 ≤ 18446744073709551615 := by
    have w := w0_11
    simp [Lit.wf, IntKind.min, IntKind.max, IntKind.signed, IntKind.bits] at w
    omega
  obtain ⟨a0_12, len0_12, cap0_12, e0_12⟩ := Go.Joins.slice_form Tryz.underlying28 hy0_12
  obtain rfl : c0_12 = .slice a0_12 len0_12 cap0_12 := by simpa using e0_12
  have k0_12 : DataW.Trod enc Tryz.prog W 0 (fun _ => true) true 28 (.slice a0_12 len0_12 cap0_12) y0_12 z0_12 := ⟨_, by simpa [Value.cells] using hy0_12⟩
  have lt0_12 : ∀ x ∈ z0_12, x.block < W.heap.size := by obtain ⟨m, hm⟩ := k0_12; exact DataW.trod_lt m _ _ _ hm
  obtain ⟨l0_12, hs0_12, hc0_12, hm0_12⟩ : ∃ l, Words.Sees W a0_12 len0_12 l ∧ len0_12 ≤ cap0_12 ∧ cap0_12 ≤ maxLen := by
    rcases open_ints Tryz.underlying28 Tryz.underlying5 (by kernel_rfl) hy0_12 with ⟨hcs, _⟩ | ⟨x, l, c, zs, hcs, _, hl, hm, hz, hx, hcell, hwz⟩
    · simp at hcs
      obtain ⟨rfl, rfl, rfl⟩ := hcs
      obtain ⟨l, h1, h2, h3⟩ := Words.sees_of_row (w := W) (zs := []) (.inl ⟨rfl, rfl, rfl, rfl⟩)
      exact ⟨l, h1, h2, h3⟩
    · simp at hcs
      obtain ⟨rfl, rfl, rfl⟩ := hcs
      simp only [if_true] at hz
      obtain ⟨l, h1, h2, h3⟩ := Words.sees_of_row (zs := zs) (.inr ⟨_, rfl, hl, hm, hz, hcell, hwz⟩)
      exact ⟨l, h1, h2, h3⟩
  obtain ⟨a0_13, e0_13, f0_13, w0_13⟩ := DataW.trod_int Tryz.underlying29 hy0_13
  obtain rfl : c0_13 = .int .i64 a0_13 := by simpa using e0_13
  obtain ⟨rfl, rfl⟩ := Prod.mk.inj f0_13
  have hx0_13 : -9223372036854775808 ≤ a0_13 ∧ a0_13 ≤ 9223372036854775807 := by
    have w := w0_13
    simp [Lit.wf, IntKind.min, IntKind.max, IntKind.signed, IntKind.bits] at w
    omega
  obtain ⟨a1, rfl, rfl, rfl, w1⟩ := open_int Tryz.underlying3 (hval 1 3 v1 rfl rfl) h1
  have hx1 : -9223372036854775808 ≤ a1 ∧ a1 ≤ 9223372036854775807 := by
    have w := w1
    simp [Lit.wf, IntKind.min, IntKind.max, IntKind.signed, IntKind.bits] at w
    omega
  clear hA0 hval0
  have hL' : laidMet Tryz.prog (Seg.heads ++ Chk.listed) W := by
    have e : Rows.talkNilRow.laid = Seg.heads ++ Chk.listed := by kernel_rfl
    rw [← e, ← MakeChecks.laidMetH_plain _ _ _ (by kernel_rfl)]
    exact hL
  obtain ⟨ST, hL2⟩ := Seg.tabs_heads hL'
  have TC : Chk.Tabs W := Chk.of_laid (by rw [MakeChecks.laidMetH_plain _ _ _ (by kernel_rfl)]; exact hL2)
  obtain ⟨kd, rfl⟩ := Int.eq_ofNat_of_zero_le hx0_0.1
  obtain ⟨sr, rfl⟩ := Int.eq_ofNat_of_zero_le hx0_4.1
  obtain ⟨tm, rfl⟩ := Int.eq_ofNat_of_zero_le hx0_8.1
  obtain ⟨sz, rfl⟩ := Int.eq_ofNat_of_zero_le hx0_9.1
  obtain ⟨sm, rfl⟩ := Int.eq_ofNat_of_zero_le hx0_10.1
  obtain ⟨pl, rfl⟩ := Int.eq_ofNat_of_zero_le hx0_11.1
  have law := St.nil_law17 kd sr tm sz sm pl a0_1 a0_2 a0_13 a1 a0_3 a0_5 a0_6 a0_7 a0_12 len0_5 cap0_5 len0_6 cap0_6 len0_7 cap0_7 len0_12 cap0_12 W TC ST
  refine law.mono fun e W' ⟨he, bel⟩ => ?_
  subst he
  exact ⟨_, rfl, _, _, _, [], _, [], hW', trodAll_mk1 (shut_bool Tryz.underlying4 _), (trodAll_cons_mk (Aggs.shut_agg14 (y0 := (.lit (.int .u8 _), [])) (y1 := (.lit (.int .i64 _), [])) (y2 := (.lit (.int .i64 _), [])) (y3 := (.lit (.bool _), [])) (y4 := (.lit (.int .u64 _), [])) (y5 := (y0_5, z0_5)) (y6 := (y0_6, z0_6)) (y7 := (y0_7, z0_7)) (y8 := (.lit (.int .u64 _), [])) (y9 := (.lit (.int .u64 _), [])) (y10 := (.lit (.int .u32 _), [])) (y11 := (.lit (.int .u64 _), [])) (y12 := (y0_12, z0_12)) (y13 := (.lit (.int .i64 _), [])) Tryz.underlying31 (by kernel_rfl) cells31 (Go.Joins.field_of_Trod (shut_int Tryz.underlying5 w0_0) rfl) (Go.Joins.field_of_Trod (shut_int Tryz.underlying3 w0_1) rfl) (Go.Joins.field_of_Trod (shut_int Tryz.underlying3 w0_2) rfl) (Go.Joins.field_of_Trod (shut_bool Tryz.underlying4 _) rfl) (Go.Joins.field_of_Trod (shut_int Tryz.underlying22 w0_4) rfl) (Go.Joins.field_of_Trod (Below.trod laidOut (by kernel_rfl) (of_decide_eq_true (by kernel_rfl)) k0_5 bel lt0_5) rfl) (Go.Joins.field_of_Trod (Below.trod laidOut (by kernel_rfl) (of_decide_eq_true (by kernel_rfl)) k0_6 bel lt0_6) rfl) (Go.Joins.field_of_Trod (Below.trod laidOut (by kernel_rfl) (of_decide_eq_true (by kernel_rfl)) k0_7 bel lt0_7) rfl) (Go.Joins.field_of_Trod (shut_int Tryz.underlying22 w0_8) rfl) (Go.Joins.field_of_Trod (shut_int Tryz.underlying22 w0_9) rfl) (Go.Joins.field_of_Trod (shut_int Tryz.underlying27 w0_10) rfl) (Go.Joins.field_of_Trod (shut_int Tryz.underlying22 w0_11) rfl) (Go.Joins.field_of_Trod (Below.trod laidOut (by kernel_rfl) (of_decide_eq_true (by kernel_rfl)) k0_12 bel lt0_12) rfl) (Go.Joins.field_of_Trod (shut_int Tryz.underlying29 w0_13) rfl)) (trodAll_cons_mk (shut_int Tryz.underlying3 w1) trodAll_mk0)), rfl, bel.frame _, fun h => by cases h⟩

set_option maxRecDepth 100000 in
theorem facts : joinedFacts Tryz.prog 3 Tryz.f3 Rows.talkNilSpec Rows.talkNilRow = true := by
  unfold joinedFacts
  exact both (both (both (both (both (both (both (both (both (both (both (both (both (both (both (both (both (both (both (both (both (both (both (both (both (both (both (both (both (both (both fact0 fact1) fact2) fact3) fact4) fact5) fact6) fact7) fact8) fact9) fact10) fact11) fact12) fact13) fact14) fact15) fact16) fact17) fact18) fact19) fact20) fact21) fact22) fact23) fact24) fact25) fact26) fact27) fact28) fact29) fact30) fact31

theorem over : Rows.talkNilRow.holds Tryz.pinned (OpenSpec.ofChange Rows.talkNilSpec) :=
  OpenClaim.holds_of_wide 3 Tryz.f3 rfl rfl rfl rfl rfl rfl rfl ⟨rfl, rfl, rfl, rfl, rfl⟩ rfl rfl rfl rfl rfl (by kernel_rfl) Tryz.func3 facts
    (of_decide_eq_true (by kernel_rfl)) (by unfold Func.isWrapper; first | (rw [if_pos (by decide +kernel)]; kernel_rfl) | (rw [if_neg (by decide +kernel)]; exact ⟨rfl, rfl⟩))
    (fun os started H enc _ => lifted os started H enc)

theorem proved : Rows.TalkNilCardSaid :=
  Claim7.holds_tied_plain_at .later [] [.data, .data, .data, .sentinel, .sentinel, .data, .data] true (true, "2e00072b916a4eebccb092e601f31592e3e71dc397d48dca2b28bab511be9eac") true over (fun _ h => by cases h) card_wf (fun _ h => by cases h) talkNil_row_tie rfl ⟨rfl, rfl⟩ card_main rfl
    (fun f fn hf hfn => by
      obtain rfl : f = 3 := Option.some.inj (card_named.symm.trans hf) |>.symm
      obtain rfl : fn = Tryz.f3 := (Option.some.inj (Tryz.func3.symm.trans hfn)).symm
      exact ⟨card_looks, fun j t ht => by
        rw [Tryz.params3] at ht
        have hm : t ∈ [31, 3] := by simpa using Array.mem_of_getElem? ht
        exact (show Tryz.prog.wantsStandIn t = false by simpa using List.all_eq_true.1 card_stand t hm)⟩)
    card_goes
#print axioms proved
end Go.Proofs.YtinjbdgjcadodaaGreatDoor.talkNil
