/- Proved: the Go function StoreWrites returns true for every input, and each argument reads behind the call as it read before. No condition. -/
import Derived.Test.YtfkiajidcbefjaaGreatDoorRows
import Derived.Test.YtfkiajidcbefjaaGreatDoorOverStoreWrites
import Derived.WalkKit
import Derived.ProofKit
import Derived.OpenShut
import Derived.ShutString
import Derived.ChangeOld
import Derived.Below
import Derived.WalkLawsBesides
import Derived.SizedLaws
import Derived.Test.YtfkiajidcbefjaaGreatDoorCards
import Derived.Test.YtfkiajidcbefjaaGreatDoorTie
import Derived.LaidMore
import Derived.Lay
import Derived.SevenTiedAt
import Derived.Stop.Joined
import Derived.Lib.SmallJoins
import Derived.Test.YtfkiajidcbefjaaGreatDoorSWp36
namespace Go.Proofs.YtfkiajidcbefjaaGreatDoor.storeWrites
open Go.ChangeShapes Go.WideShapes Go.ChangeAt Go.RowKit
open Go.ChangeMaps (open_string shut_string)
set_option linter.unusedVariables false

theorem cells26 : Tryz.prog.cellsOf 26 = 8 := by kernel_rfl
theorem own : ownKnob Tryz.prog.godebug = none := by kernel_rfl
theorem laidOut : laidOutB Tryz.prog = true := by kernel_rfl

set_option maxRecDepth 100000 in
theorem lifted (os : Os) (started : os.Started) (H : Type) (enc : TypeId × Value → H) :
    ReturnsInHanded {} Tryz.checked os 3 .any (fun w args => (Rows.storeWritesSpec.pre enc Tryz.prog Tryz.f3 Rows.storeWritesRow.domain false w args ∧ laidMetH Tryz.prog Rows.storeWritesRow.laid w) ∧ sizedMet enc Tryz.prog Tryz.f3 (OpenSpec.ofChange Rows.storeWritesSpec) false w args) (Rows.storeWritesSpec.post enc Tryz.prog Tryz.f3 false true false false) := by
  refine returnsInHanded_of_change_and (C := Tryz.checked) (X := fun w _ => laidMetH Tryz.prog Rows.storeWritesRow.laid w) (fun _ _ _ hh h => h.of_heap hh) own started (by kernel_rfl) Tryz.func3
    (ChangeSpec.witness_shaped (enc := enc) (C := Tryz.checked) (os := os) (X := fun w _ => laidMetH Tryz.prog Rows.storeWritesRow.laid w) false (World.laidAll Tryz.prog os Rows.storeWritesRow.laid) #[.int .u8 0, .agg #[.int .i64 0, .int .u64 0, .int .u64 0, .int .u8 0, .string ByteArray.empty, .slice none 0 0, .float .f64 0, .int .i64 0], .bool false] 8 (World.laidAll_os _ _ _)
      (World.shaped_of_ZipB (by kernel_rfl) (by kernel_rfl)) (by kernel_rfl) (by kernel_rfl) (by kernel_rfl)
      (by rw [MakeChecks.laidMetH_plain _ _ _ (by kernel_rfl)]; exact laidMet_laidAll _ (by kernel_rfl) (by kernel_rfl))) ?_
  intro W base args ds gs before hval0 hW hcnd _ hL _
  have hval : ∀ (j : Nat) t v, Tryz.f3.params[j]? = some t → args[j]? = some v → Value.okWide Tryz.prog W .any base t v := hval0
  have hW' := hW
  obtain ⟨p, q, hA0, hV, rfl, hfz, hnd⟩ := hW
  have hA : DataW.TrodAll enc Tryz.prog W 0 (fun _ => true) true Tryz.f3.params.toList args.toList ds p := hA0
  rw [Tryz.params3] at hA hval
  obtain ⟨v0, vs0, d0, ds0, p0, q0, hargs, rfl, rfl, h0, r0⟩ := trodAll_cons hA
  obtain ⟨v1, vs1, d1, ds1, p1, q1, rfl, rfl, rfl, h1, r1⟩ := trodAll_cons r0
  obtain ⟨v2, vs2, d2, ds2, p2, q2, rfl, rfl, rfl, h2, r2⟩ := trodAll_cons r1
  obtain ⟨rfl, rfl, rfl⟩ := trodAll_nil r2
  obtain rfl : args = #[v0, v1, v2] := by cases args; simp_all
  obtain ⟨rfl, rfl⟩ := trodVars_none hV
  have hsz : True := trivial
  obtain ⟨a0, rfl, rfl, rfl, w0⟩ := open_int Tryz.underlying5 (hval 0 5 v0 rfl rfl) h0
  have hx0 : 0 ≤ a0 ∧ a0 ≤ 255 := by
    have w := w0
    simp [Lit.wf, IntKind.min, IntKind.max, IntKind.signed, IntKind.bits] at w
    omega
  obtain ⟨c1_0, c1_1, c1_2, c1_3, c1_4, c1_5, c1_6, c1_7, ⟨y1_0, z1_0⟩, ⟨y1_1, z1_1⟩, ⟨y1_2, z1_2⟩, ⟨y1_3, z1_3⟩, ⟨y1_4, z1_4⟩, ⟨y1_5, z1_5⟩, ⟨y1_6, z1_6⟩, ⟨y1_7, z1_7⟩, m1, rfl, rfl, rfl, hy1_0, hy1_1, hy1_2, hy1_3, hy1_4, hy1_5, hy1_6, hy1_7⟩ := Aggs.open_agg8 Tryz.underlying26 (by kernel_rfl) cells26 (hval 1 26 v1 rfl rfl) h1
  obtain ⟨a1_0, e1_0, f1_0, w1_0⟩ := DataW.trod_int Tryz.underlying3 hy1_0
  obtain rfl : c1_0 = .int .i64 a1_0 := by simpa using e1_0
  obtain ⟨rfl, rfl⟩ := Prod.mk.inj f1_0
  have hx1_0 : -9223372036854775808 ≤ a1_0 ∧ a1_0 ≤ 9223372036854775807 := by
    have w := w1_0
    simp [Lit.wf, IntKind.min, IntKind.max, IntKind.signed, IntKind.bits] at w
    omega
  obtain ⟨a1_1, e1_1, f1_1, w1_1⟩ := DataW.trod_int Tryz.underlying22 hy1_1
  obtain rfl : c1_1 = .int .u64 a1_1 := by simpa using e1_1
  obtain ⟨rfl, rfl⟩ := Prod.mk.inj f1_1
  have hx1_1 : 0 ≤ a1_1 ∧ a1_1 ≤ 18446744073709551615 := by
    have w := w1_1
    simp [Lit.wf, IntKind.min, IntKind.max, IntKind.signed, IntKind.bits] at w
    omega
  obtain ⟨a1_2, e1_2, f1_2, w1_2⟩ := DataW.trod_int Tryz.underlying22 hy1_2
  obtain rfl : c1_2 = .int .u64 a1_2 := by simpa using e1_2
  obtain ⟨rfl, rfl⟩ := Prod.mk.inj f1_2
  have hx1_2 : 0 ≤ a1_2 ∧ a1_2 ≤ 18446744073709551615 := by
    have w := w1_2
    simp [Lit.wf, IntKind.min, IntKind.max, IntKind.signed, IntKind.bits] at w
    omega
  obtain ⟨a1_3, e1_3, f1_3, w1_3⟩ := DataW.trod_int Tryz.underlying5 hy1_3
  obtain rfl : c1_3 = .int .u8 a1_3 := by simpa using e1_3
  obtain ⟨rfl, rfl⟩ := Prod.mk.inj f1_3
  have hx1_3 : 0 ≤ a1_3 ∧ a1_3 ≤ 255 := by
    have w := w1_3
    simp [Lit.wf, IntKind.min, IntKind.max, IntKind.signed, IntKind.bits] at w
    omega
  obtain ⟨a1_4, e1_4, f1_4, hx1_4⟩ := DataW.trod_string Tryz.underlying9 hy1_4
  obtain rfl : c1_4 = .string a1_4 := by simpa using e1_4
  obtain ⟨rfl, rfl⟩ := Prod.mk.inj f1_4
  obtain ⟨a1_5, len1_5, cap1_5, e1_5⟩ := Go.Joins.slice_form Tryz.underlying23 hy1_5
  obtain rfl : c1_5 = .slice a1_5 len1_5 cap1_5 := by simpa using e1_5
  have k1_5 : DataW.Trod enc Tryz.prog W 0 (fun _ => true) true 23 (.slice a1_5 len1_5 cap1_5) y1_5 z1_5 := ⟨_, by simpa [Value.cells] using hy1_5⟩
  have lt1_5 : ∀ x ∈ z1_5, x.block < W.heap.size := by obtain ⟨m, hm⟩ := k1_5; exact DataW.trod_lt m _ _ _ hm
  obtain ⟨l1_5, hs1_5, hc1_5, hm1_5⟩ : ∃ l, Words.Sees W a1_5 len1_5 l ∧ len1_5 ≤ cap1_5 ∧ cap1_5 ≤ maxLen := by
    rcases open_ints Tryz.underlying23 Tryz.underlying5 (by kernel_rfl) hy1_5 with ⟨hcs, _⟩ | ⟨x, l, c, zs, hcs, _, hl, hm, hz, hx, hcell, hwz⟩
    · simp at hcs
      obtain ⟨rfl, rfl, rfl⟩ := hcs
      obtain ⟨l, h1, h2, h3⟩ := Words.sees_of_row (w := W) (zs := []) (.inl ⟨rfl, rfl, rfl, rfl⟩)
      exact ⟨l, h1, h2, h3⟩
    · simp at hcs
      obtain ⟨rfl, rfl, rfl⟩ := hcs
      simp only [if_true] at hz
      obtain ⟨l, h1, h2, h3⟩ := Words.sees_of_row (zs := zs) (.inr ⟨_, rfl, hl, hm, hz, hcell, hwz⟩)
      exact ⟨l, h1, h2, h3⟩
  obtain ⟨a1_6, e1_6, f1_6, w1_6⟩ := Aggs.trod_float Tryz.underlying24 hy1_6
  obtain rfl : c1_6 = .float .f64 a1_6 := by simpa using e1_6
  obtain ⟨rfl, rfl⟩ := Prod.mk.inj f1_6
  have hx1_6 : a1_6 < 18446744073709551616 := by
    have w := w1_6
    simpa [Lit.wf] using w
  obtain ⟨a1_7, e1_7, f1_7, w1_7⟩ := DataW.trod_int Tryz.underlying3 hy1_7
  obtain rfl : c1_7 = .int .i64 a1_7 := by simpa using e1_7
  obtain ⟨rfl, rfl⟩ := Prod.mk.inj f1_7
  have hx1_7 : -9223372036854775808 ≤ a1_7 ∧ a1_7 ≤ 9223372036854775807 := by
    have w := w1_7
    simp [Lit.wf, IntKind.min, IntKind.max, IntKind.signed, IntKind.bits] at w
    omega
  obtain ⟨a2, rfl, rfl, rfl⟩ := open_bool Tryz.underlying4 (hval 2 4 v2 rfl rfl) h2
  clear hA0 hval0
  have hL' : laidMet Tryz.prog (Seg.heads ++ Chk.listed) W := by
    have e : Rows.storeWritesRow.laid = Seg.heads ++ Chk.listed := by kernel_rfl
    rw [← e, ← MakeChecks.laidMetH_plain _ _ _ (by kernel_rfl)]
    exact hL
  obtain ⟨ST, hL2⟩ := Seg.tabs_heads hL'
  have TC : Chk.Tabs W := Chk.of_laid (by rw [MakeChecks.laidMetH_plain _ _ _ (by kernel_rfl)]; exact hL2)
  obtain ⟨nd, rfl⟩ := Int.eq_ofNat_of_zero_le hx0.1
  obtain ⟨sq1, rfl⟩ := Int.eq_ofNat_of_zero_le hx1_1.1
  obtain ⟨tm1, rfl⟩ := Int.eq_ofNat_of_zero_le hx1_2.1
  obtain ⟨kd1, rfl⟩ := Int.eq_ofNat_of_zero_le hx1_3.1
  have fit1 : Evt.Ev.Fit ⟨a1_0, sq1, tm1, kd1, a1_4, l1_5, a1_6, a1_7⟩ := ⟨hx1_0.1, hx1_0.2, by simp only; omega, by simp only; omega, by simp only; omega, hx1_6, hx1_7.1, hx1_7.2⟩
  have hm1_6 : len1_5 ≤ 9223372036854775807 := by unfold maxLen at *; omega
  have hm1_7 : a1_4.size ≤ 9223372036854775807 := by unfold maxLen at *; omega
  have law := St.writes_law nd ⟨a1_0, sq1, tm1, kd1, a1_4, l1_5, a1_6, a1_7⟩ a1_5 len1_5 cap1_5 a2 W (by omega) ⟨TC, ST, fit1, hs1_5, hm1_6, hm1_7⟩
  refine law.mono fun e W' ⟨he, bel⟩ => ?_
  subst he
  exact ⟨_, rfl, _, _, _, [], _, [], hW', trodAll_mk1 (shut_bool Tryz.underlying4 _), (trodAll_cons_mk (shut_int Tryz.underlying5 w0) (trodAll_cons_mk (Aggs.shut_agg8 (y0 := (.lit (.int .i64 _), [])) (y1 := (.lit (.int .u64 _), [])) (y2 := (.lit (.int .u64 _), [])) (y3 := (.lit (.int .u8 _), [])) (y4 := (.lit (.string _), [])) (y5 := (y1_5, z1_5)) (y6 := (.lit (.float .f64 _), [])) (y7 := (.lit (.int .i64 _), [])) Tryz.underlying26 (by kernel_rfl) cells26 (Go.Joins.field_of_Trod (shut_int Tryz.underlying3 w1_0) rfl) (Go.Joins.field_of_Trod (shut_int Tryz.underlying22 w1_1) rfl) (Go.Joins.field_of_Trod (shut_int Tryz.underlying22 w1_2) rfl) (Go.Joins.field_of_Trod (shut_int Tryz.underlying5 w1_3) rfl) (Go.Joins.field_of_Trod (shut_string Tryz.underlying9 hx1_4) rfl) (Go.Joins.field_of_Trod (Below.trod laidOut (by kernel_rfl) (of_decide_eq_true (by kernel_rfl)) k1_5 bel lt1_5) rfl) (Go.Joins.field_of_Trod (shut_float Tryz.underlying24 w1_6) rfl) (Go.Joins.field_of_Trod (shut_int Tryz.underlying3 w1_7) rfl)) (trodAll_cons_mk (shut_bool Tryz.underlying4 _) trodAll_mk0))), rfl, bel.frame _, fun h => by cases h⟩

set_option maxRecDepth 100000 in
theorem facts : joinedFacts Tryz.prog 3 Tryz.f3 Rows.storeWritesSpec Rows.storeWritesRow = true := by
  unfold joinedFacts
  exact both (both (both (both (both (both (both (both (both (both (both (both (both (both (both (both (both (both (both (both (both (both (both (both (both (both (both (both (both (both (both fact0 fact1) fact2) fact3) fact4) fact5) fact6) fact7) fact8) fact9) fact10) fact11) fact12) fact13) fact14) fact15) fact16) fact17) fact18) fact19) fact20) fact21) fact22) fact23) fact24) fact25) fact26) fact27) fact28) fact29) fact30) fact31

theorem over : Rows.storeWritesRow.holds Tryz.pinned (OpenSpec.ofChange Rows.storeWritesSpec) :=
  OpenClaim.holds_of_wide 3 Tryz.f3 rfl rfl rfl rfl rfl rfl rfl ⟨rfl, rfl, rfl, rfl, rfl⟩ rfl rfl rfl rfl rfl (by kernel_rfl) Tryz.func3 facts
    (of_decide_eq_true (by kernel_rfl)) (by unfold Func.isWrapper; first | (rw [if_pos (by decide +kernel)]; kernel_rfl) | (rw [if_neg (by decide +kernel)]; exact ⟨rfl, rfl⟩))
    (fun os started H enc _ => lifted os started H enc)

theorem proved : Rows.StoreWritesCardSaid :=
  Claim7.holds_tied_plain_at .later [] [.data, .data, .data, .sentinel, .sentinel, .data, .data] true (true, "4bd83ea43db278ed8ea9baf57caf3d8790efbc885bc6913cc54daabab71f541e") true over (fun _ h => by cases h) (by kernel_rfl) (fun _ h => by cases h) storeWrites_row_tie rfl ⟨rfl, rfl⟩ (by kernel_rfl) rfl
    (fun f fn hf hfn => by
      obtain rfl : f = 3 := Option.some.inj ((show Tryz.prog.funcNamed "anabranch/anabranchlaw14.StoreWrites" = some 3 by kernel_rfl).symm.trans hf) |>.symm
      obtain rfl : fn = Tryz.f3 := (Option.some.inj (Tryz.func3.symm.trans hfn)).symm
      exact ⟨by kernel_rfl, fun j t ht => by
        rw [Tryz.params3] at ht
        have hm : t ∈ [5, 26, 4] := by simpa using Array.mem_of_getElem? ht
        have hall : ([5, 26, 4].all fun u => !Tryz.prog.wantsStandIn u) = true := by kernel_rfl
        exact (show Tryz.prog.wantsStandIn t = false by simpa using List.all_eq_true.1 hall t hm)⟩)
    (by kernel_rfl)
#print axioms proved
end Go.Proofs.YtfkiajidcbefjaaGreatDoor.storeWrites
