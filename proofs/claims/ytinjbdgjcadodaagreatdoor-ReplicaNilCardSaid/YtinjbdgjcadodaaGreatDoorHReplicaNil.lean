/- Proved: the Go function ReplicaNil returns true for every input, and each argument reads behind the call as it read before. No condition. -/
import Derived.Test.YtinjbdgjcadodaaGreatDoorRows
import Derived.Test.YtinjbdgjcadodaaGreatDoorOvercReplicaNil
import Derived.Test.YtinjbdgjcadodaaGreatDoorOverReplicaNil
import Derived.WalkKit
import Derived.ProofKit
import Derived.OpenShut
import Derived.ShutString
import Derived.ChangeOld
import Derived.Below
import Derived.WalkLawsBesides
import Derived.SizedLaws
import Derived.Test.YtinjbdgjcadodaaGreatDoorCards
import Derived.Test.YtinjbdgjcadodaaGreatDoorTie
import Derived.LaidMore
import Derived.Lay
import Derived.SevenTiedAt
import Derived.Stop.Joined
import Derived.Lib.SmallJoins
import Derived.Test.YtinjbdgjcadodaaGreatDoorRNp47
set_option linter.unusedVariables false
namespace Go.Proofs.YtinjbdgjcadodaaGreatDoor.replicaNil
open Go.ChangeShapes Go.WideShapes Go.ChangeAt Go.RowKit
open Go.ChangeMaps (open_string shut_string)
theorem cells38 : Tryz.prog.cellsOf 38 = 8 := by kernel_rfl
theorem own : ownKnob Tryz.prog.godebug = none := by kernel_rfl
theorem laidOut : laidOutB Tryz.prog = true := by kernel_rfl
set_option maxRecDepth 100000 in
theorem lifted (os : Os) (started : os.Started) (H : Type) (enc : TypeId × Value → H) :
    ReturnsInHanded {} Tryz.checked os 4 .any (fun w args => (Rows.replicaNilSpec.pre enc Tryz.prog Tryz.f4 Rows.replicaNilRow.domain false w args ∧ laidMetH Tryz.prog Rows.replicaNilRow.laid w) ∧ sizedMet enc Tryz.prog Tryz.f4 (OpenSpec.ofChange Rows.replicaNilSpec) false w args) (Rows.replicaNilSpec.post enc Tryz.prog Tryz.f4 false true false false) := by
  refine returnsInHanded_of_change_and (C := Tryz.checked) (X := fun w _ => laidMetH Tryz.prog Rows.replicaNilRow.laid w) (fun _ _ _ hh h => h.of_heap hh) own started (by kernel_rfl) Tryz.func4
    (ChangeSpec.witness_shaped (enc := enc) (C := Tryz.checked) (os := os) (X := fun w _ => laidMetH Tryz.prog Rows.replicaNilRow.laid w) false (World.laidAll Tryz.prog os Rows.replicaNilRow.laid) #[.int .u64 0, .int .i64 0, .string ByteArray.empty, .agg #[.int .i64 0, .int .u64 0, .int .u64 0, .int .u8 0, .string ByteArray.empty, .slice none 0 0, .float .f64 0, .int .i64 0], .slice none 0 0] 8 (World.laidAll_os _ _ _)
      (World.shaped_of_ZipB (by kernel_rfl) (by kernel_rfl)) (by kernel_rfl) (by kernel_rfl) (by kernel_rfl)
      (by rw [MakeChecks.laidMetH_plain _ _ _ (by kernel_rfl)]; exact laidMet_laidAll _ (by kernel_rfl) (by kernel_rfl))) ?_
  intro W base args ds gs before hval0 hW hcnd _ hL _
  have hval : ∀ (j : Nat) t v, Tryz.f4.params[j]? = some t → args[j]? = some v → Value.okWide Tryz.prog W .any base t v := hval0
  have hW' := hW
  obtain ⟨p, q, hA0, hV, rfl, hfz, hnd⟩ := hW
  have hA : DataW.TrodAll enc Tryz.prog W 0 (fun _ => true) true Tryz.f4.params.toList args.toList ds p := hA0
  rw [Tryz.params4] at hA hval
  obtain ⟨v0, vs0, d0, ds0, p0, q0, hargs, rfl, rfl, h0, r0⟩ := trodAll_cons hA
  obtain ⟨v1, vs1, d1, ds1, p1, q1, rfl, rfl, rfl, h1, r1⟩ := trodAll_cons r0
  obtain ⟨v2, vs2, d2, ds2, p2, q2, rfl, rfl, rfl, h2, r2⟩ := trodAll_cons r1
  obtain ⟨v3, vs3, d3, ds3, p3, q3, rfl, rfl, rfl, h3, r3⟩ := trodAll_cons r2
  obtain ⟨v4, vs4, d4, ds4, p4, q4, rfl, rfl, rfl, h4, r4⟩ := trodAll_cons r3
  obtain ⟨rfl, rfl, rfl⟩ := trodAll_nil r4
  obtain rfl : args = #[v0, v1, v2, v3, v4] := by cases args; simp_all
  obtain ⟨rfl, rfl⟩ := trodVars_none hV
  have hsz : True := trivial
  obtain ⟨a0, rfl, rfl, rfl, w0⟩ := open_int Tryz.underlying22 (hval 0 22 v0 rfl rfl) h0
  have hx0 : 0 ≤ a0 ∧ a0 ≤ 18446744073709551615 := by
    have w := w0
    simp [Lit.wf, IntKind.min, IntKind.max, IntKind.signed, IntKind.bits] at w
    omega
  obtain ⟨a1, rfl, rfl, rfl, w1⟩ := open_int Tryz.underlying3 (hval 1 3 v1 rfl rfl) h1
  have hx1 : -9223372036854775808 ≤ a1 ∧ a1 ≤ 9223372036854775807 := by
    have w := w1
    simp [Lit.wf, IntKind.min, IntKind.max, IntKind.signed, IntKind.bits] at w
    omega
  obtain ⟨a2, rfl, rfl, rfl, hx2⟩ := open_string Tryz.underlying9 (hval 2 9 v2 rfl rfl) h2
  obtain ⟨c3_0, c3_1, c3_2, c3_3, c3_4, c3_5, c3_6, c3_7, ⟨y3_0, z3_0⟩, ⟨y3_1, z3_1⟩, ⟨y3_2, z3_2⟩, ⟨y3_3, z3_3⟩, ⟨y3_4, z3_4⟩, ⟨y3_5, z3_5⟩, ⟨y3_6, z3_6⟩, ⟨y3_7, z3_7⟩, m3, rfl, rfl, rfl, hy3_0, hy3_1, hy3_2, hy3_3, hy3_4, hy3_5, hy3_6, hy3_7⟩ := Aggs.open_agg8 Tryz.underlying38 (by kernel_rfl) cells38 (hval 3 38 v3 rfl rfl) h3
  obtain ⟨a3_0, e3_0, f3_0, w3_0⟩ := DataW.trod_int Tryz.underlying3 hy3_0
  obtain rfl : c3_0 = .int .i64 a3_0 := by simpa using e3_0
  obtain ⟨rfl, rfl⟩ := Prod.mk.inj f3_0
  have hx3_0 : -9223372036854775808 ≤ a3_0 ∧ a3_0 ≤ 9223372036854775807 := by
    have w := w3_0
    simp [Lit.wf, IntKind.min, IntKind.max, IntKind.signed, IntKind.bits] at w
    omega
  obtain ⟨a3_1, e3_1, f3_1, w3_1⟩ := DataW.trod_int Tryz.underlying22 hy3_1
  obtain rfl : c3_1 = .int .u64 a3_1 := by simpa using e3_1
  obtain ⟨rfl, rfl⟩ := Prod.mk.inj f3_1
  have hx3_1 : 0 ≤ a3_1 ∧ a3_1 ≤ 18446744073709551615 := by
    have w := w3_1
    simp [Lit.wf, IntKind.min, IntKind.max, IntKind.signed, IntKind.bits] at w
    omega
  obtain ⟨a3_2, e3_2, f3_2, w3_2⟩ := DataW.trod_int Tryz.underlying22 hy3_2
  obtain rfl : c3_2 = .int .u64 a3_2 := by simpa using e3_2
  obtain ⟨rfl, rfl⟩ := Prod.mk.inj f3_2
  have hx3_2 : 0 ≤ a3_2 ∧ a3_2 ≤ 18446744073709551615 := by
    have w := w3_2
    simp [Lit.wf, IntKind.min, IntKind.max, IntKind.signed, IntKind.bits] at w
    omega
  obtain ⟨a3_3, e3_3, f3_3, w3_3⟩ := DataW.trod_int Tryz.underlying5 hy3_3
  obtain rfl : c3_3 = .int .u8 a3_3 := by simpa using e3_3
  obtain ⟨rfl, rfl⟩ := Prod.mk.inj f3_3
  have hx3_3 : 0 ≤ a3_3 ∧ a3_3 ≤ 255 := by
    have w := w3_3
    simp [Lit.wf, IntKind.min, IntKind.max, IntKind.signed, IntKind.bits] at w
    omega
  obtain ⟨a3_4, e3_4, f3_4, hx3_4⟩ := DataW.trod_string Tryz.underlying9 hy3_4
  obtain rfl : c3_4 = .string a3_4 := by simpa using e3_4
  obtain ⟨rfl, rfl⟩ := Prod.mk.inj f3_4
  obtain ⟨a3_5, len3_5, cap3_5, e3_5⟩ := Go.Joins.slice_form Tryz.underlying28 hy3_5
  obtain rfl : c3_5 = .slice a3_5 len3_5 cap3_5 := by simpa using e3_5
  have k3_5 : DataW.Trod enc Tryz.prog W 0 (fun _ => true) true 28 (.slice a3_5 len3_5 cap3_5) y3_5 z3_5 := ⟨_, by simpa [Value.cells] using hy3_5⟩
  have lt3_5 : ∀ x ∈ z3_5, x.block < W.heap.size := by obtain ⟨m, hm⟩ := k3_5; exact DataW.trod_lt m _ _ _ hm
  obtain ⟨l3_5, hs3_5, hc3_5, hm3_5⟩ : ∃ l, Words.Sees W a3_5 len3_5 l ∧ len3_5 ≤ cap3_5 ∧ cap3_5 ≤ maxLen := by
    rcases open_ints Tryz.underlying28 Tryz.underlying5 (by kernel_rfl) hy3_5 with ⟨hcs, _⟩ | ⟨x, l, c, zs, hcs, _, hl, hm, hz, hx, hcell, hwz⟩
    · simp at hcs
      obtain ⟨rfl, rfl, rfl⟩ := hcs
      obtain ⟨l, h1, h2, h3⟩ := Words.sees_of_row (w := W) (zs := []) (.inl ⟨rfl, rfl, rfl, rfl⟩)
      exact ⟨l, h1, h2, h3⟩
    · simp at hcs
      obtain ⟨rfl, rfl, rfl⟩ := hcs
      simp only [if_true] at hz
      obtain ⟨l, h1, h2, h3⟩ := Words.sees_of_row (zs := zs) (.inr ⟨_, rfl, hl, hm, hz, hcell, hwz⟩)
      exact ⟨l, h1, h2, h3⟩
  obtain ⟨a3_6, e3_6, f3_6, w3_6⟩ := Aggs.trod_float Tryz.underlying36 hy3_6
  obtain rfl : c3_6 = .float .f64 a3_6 := by simpa using e3_6
  obtain ⟨rfl, rfl⟩ := Prod.mk.inj f3_6
  have hx3_6 : a3_6 < 18446744073709551616 := by
    have w := w3_6
    simpa [Lit.wf] using w
  obtain ⟨a3_7, e3_7, f3_7, w3_7⟩ := DataW.trod_int Tryz.underlying3 hy3_7
  obtain rfl : c3_7 = .int .i64 a3_7 := by simpa using e3_7
  obtain ⟨rfl, rfl⟩ := Prod.mk.inj f3_7
  have hx3_7 : -9223372036854775808 ≤ a3_7 ∧ a3_7 ≤ 9223372036854775807 := by
    have w := w3_7
    simp [Lit.wf, IntKind.min, IntKind.max, IntKind.signed, IntKind.bits] at w
    omega
  obtain ⟨a4, len4, cap4, rfl⟩ := okWide_slice Tryz.underlying28 (hval 4 28 v4 rfl rfl)
  have k4 := h4
  have lt4 : ∀ x ∈ p4, x.block < W.heap.size := by obtain ⟨m, hm⟩ := k4; exact DataW.trod_lt m _ _ _ hm
  obtain ⟨l4, hs4, hc4, hm4⟩ : ∃ l, Words.Sees W a4 len4 l ∧ len4 ≤ cap4 ∧ cap4 ≤ maxLen := by
    obtain ⟨fuel, hf⟩ := h4
    rcases open_ints Tryz.underlying28 Tryz.underlying5 (by kernel_rfl) hf with ⟨hcs, _⟩ | ⟨x, l, c, zs, hcs, _, hl, hm, hz, hx, hcell, hwz⟩
    · simp [Value.cells] at hcs
      obtain ⟨rfl, rfl, rfl⟩ := hcs
      obtain ⟨l, h1, h2, h3⟩ := Words.sees_of_row (w := W) (zs := []) (.inl ⟨rfl, rfl, rfl, rfl⟩)
      exact ⟨l, h1, h2, h3⟩
    · simp [Value.cells] at hcs
      obtain ⟨rfl, rfl, rfl⟩ := hcs
      simp only [if_true] at hz
      obtain ⟨l, h1, h2, h3⟩ := Words.sees_of_row (zs := zs) (.inr ⟨_, rfl, hl, hm, hz, hcell, hwz⟩)
      exact ⟨l, h1, h2, h3⟩
  clear hA0 hval0
  have hL' : laidMet Tryz.prog (Seg.heads ++ Chk.listed) W := by
    have e : Rows.replicaNilRow.laid = Seg.heads ++ Chk.listed := by kernel_rfl
    rw [← e, ← MakeChecks.laidMetH_plain _ _ _ (by kernel_rfl)]
    exact hL
  obtain ⟨ST, hL2⟩ := Seg.tabs_heads hL'
  have TC : Chk.Tabs W := Chk.of_laid (by rw [MakeChecks.laidMetH_plain _ _ _ (by kernel_rfl)]; exact hL2)
  obtain ⟨q, rfl⟩ := Int.eq_ofNat_of_zero_le hx0.1
  obtain ⟨sq3, rfl⟩ := Int.eq_ofNat_of_zero_le hx3_1.1
  obtain ⟨tm3, rfl⟩ := Int.eq_ofNat_of_zero_le hx3_2.1
  obtain ⟨kd3, rfl⟩ := Int.eq_ofNat_of_zero_le hx3_3.1
  have fit3 : Evt.Ev.Fit ⟨a3_0, sq3, tm3, kd3, a3_4, l3_5, a3_6, a3_7⟩ := ⟨hx3_0.1, hx3_0.2, by simp only; omega, by simp only; omega, by simp only; omega, hx3_6, hx3_7.1, hx3_7.2⟩
  have hm3_6 : len3_5 ≤ 9223372036854775807 := by unfold maxLen at *; omega
  have hm3_7 : a3_4.size ≤ 9223372036854775807 := by unfold maxLen at *; omega
  have law := Rp.nil_law18 q len3_5 cap3_5 len4 cap4 a1 a2 ⟨a3_0, sq3, tm3, kd3, a3_4, l3_5, a3_6, a3_7⟩ a3_5 a4 W TC ST
  refine law.mono fun e W' ⟨he, bel⟩ => ?_
  subst he
  exact ⟨_, rfl, _, _, _, [], _, [], hW', trodAll_mk1 (shut_bool Tryz.underlying4 _), (trodAll_cons_mk (shut_int Tryz.underlying22 w0) (trodAll_cons_mk (shut_int Tryz.underlying3 w1) (trodAll_cons_mk (shut_string Tryz.underlying9 hx2) (trodAll_cons_mk (Aggs.shut_agg8 (y0 := (.lit (.int .i64 _), [])) (y1 := (.lit (.int .u64 _), [])) (y2 := (.lit (.int .u64 _), [])) (y3 := (.lit (.int .u8 _), [])) (y4 := (.lit (.string _), [])) (y5 := (y3_5, z3_5)) (y6 := (.lit (.float .f64 _), [])) (y7 := (.lit (.int .i64 _), [])) Tryz.underlying38 (by kernel_rfl) cells38 (Go.Joins.field_of_Trod (shut_int Tryz.underlying3 w3_0) rfl) (Go.Joins.field_of_Trod (shut_int Tryz.underlying22 w3_1) rfl) (Go.Joins.field_of_Trod (shut_int Tryz.underlying22 w3_2) rfl) (Go.Joins.field_of_Trod (shut_int Tryz.underlying5 w3_3) rfl) (Go.Joins.field_of_Trod (shut_string Tryz.underlying9 hx3_4) rfl) (Go.Joins.field_of_Trod (Below.trod laidOut (by kernel_rfl) (of_decide_eq_true (by kernel_rfl)) k3_5 bel lt3_5) rfl) (Go.Joins.field_of_Trod (shut_float Tryz.underlying36 w3_6) rfl) (Go.Joins.field_of_Trod (shut_int Tryz.underlying3 w3_7) rfl)) (trodAll_cons_mk (Below.trod laidOut (by kernel_rfl) (of_decide_eq_true (by kernel_rfl)) k4 bel lt4) trodAll_mk0))))), rfl, bel.frame _, fun h => by cases h⟩
set_option maxRecDepth 100000 in
theorem facts : joinedFacts Tryz.prog 4 Tryz.f4 Rows.replicaNilSpec Rows.replicaNilRow = true := by
  unfold joinedFacts
  exact both (both (both (both (both (both (both (both (both (both (both (both (both (both (both (both (both (both (both (both (both (both (both (both (both (both (both (both (both (both (both fact0 fact1) fact2) fact3) fact4) fact5) fact6) fact7) fact8) fact9) fact10) fact11) fact12) fact13) fact14) fact15) fact16) fact17) fact18) fact19) fact20) fact21) fact22) fact23) fact24) fact25) fact26) fact27) fact28) fact29) fact30) fact31

theorem over : Rows.replicaNilRow.holds Tryz.pinned (OpenSpec.ofChange Rows.replicaNilSpec) :=
  OpenClaim.holds_of_wide 4 Tryz.f4 rfl rfl rfl rfl rfl rfl rfl ⟨rfl, rfl, rfl, rfl, rfl⟩ rfl rfl rfl rfl rfl (by kernel_rfl) Tryz.func4 facts
    (of_decide_eq_true (by kernel_rfl)) (by unfold Func.isWrapper; first | (rw [if_pos (by decide +kernel)]; kernel_rfl) | (rw [if_neg (by decide +kernel)]; exact ⟨rfl, rfl⟩))
    (fun os started H enc _ => lifted os started H enc)
theorem proved : Rows.ReplicaNilCardSaid :=
  Claim7.holds_tied_plain_at .later [] [.data, .data, .data, .sentinel, .sentinel, .data, .data] true (true, "2e00072b916a4eebccb092e601f31592e3e71dc397d48dca2b28bab511be9eac") true over (fun _ h => by cases h) card_wf (fun _ h => by cases h) replicaNil_row_tie rfl ⟨rfl, rfl⟩ card_main rfl
    (fun f fn hf hfn => by
      obtain rfl : f = 4 := Option.some.inj (card_named.symm.trans hf) |>.symm
      obtain rfl : fn = Tryz.f4 := (Option.some.inj (Tryz.func4.symm.trans hfn)).symm
      exact ⟨card_looks, fun j t ht => by
        rw [Tryz.params4] at ht
        have hm : t ∈ [22, 3, 9, 38, 28] := by simpa using Array.mem_of_getElem? ht
        exact (show Tryz.prog.wantsStandIn t = false by simpa using List.all_eq_true.1 card_stand t hm)⟩)
    card_goes
#print axioms proved
end Go.Proofs.YtinjbdgjcadodaaGreatDoor.replicaNil
