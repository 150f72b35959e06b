/- Proved: the Go function SheetMends returns true, and each argument reads behind the call as it read before, for every input of bulk at most 1048576. The tables of package check lie as the program's text lays them (the card ties them). -/
import Derived.Test.YtfdnlgigllflfaaDoorRows
import Derived.WalkKit
import Derived.Test.YtfdnlgigllflfaaDoorSheetMends
import Derived.Test.YtfdnlgigllflfaaDoorSheetBulk
import Derived.ProofKit
import Derived.OpenShut
import Derived.ShutString
import Derived.ChangeOld
import Derived.Below
import Derived.WalkLawsBesides
import Derived.Test.YtfdnlgigllflfaaDoorCards
import Derived.Test.YtfdnlgigllflfaaDoorTie
import Derived.LaidMore
import Derived.Lay
import Derived.SevenTiedAt
import Derived.Stop.Joined
import Derived.Deep.Matrix
import Derived.Deep.DeepHandedRow
import Derived.Lib.SmallJoins
namespace Go.Proofs.YtfdnlgigllflfaaDoor.sheetMends
open Go.ChangeShapes Go.WideShapes Go.ChangeAt Go.RowKit
set_option linter.unusedVariables false

theorem own : ownKnob Tryd.prog.godebug = none := by kernel_rfl
theorem laidOut : laidOutB Tryd.prog = true := by kernel_rfl
theorem cells24 : Tryd.prog.cellsOf 24 = 3 := by kernel_rfl
theorem tables : Rows.sheetMendsUptoRow.laid = Chk.listed := by kernel_rfl

set_option maxRecDepth 100000 in
theorem contract (H : Type) (enc : TypeId × Value → H) (W : World) (base : Nat) (args : Array Value) (ds gs : List (DataW H)) (before : List MemPlace)
    (hval0 : ∀ (j : Nat) t v, Tryd.f4.params[j]? = some t → args[j]? = some v → Value.okWide Tryd.prog W .any base t v)
    (hW : DataW.Whole enc Tryd.prog Tryd.f4.params.toList Rows.sheetMendsSpec.vars false W args.toList ds gs before) (hL0 : laidMetH Tryd.prog Rows.sheetMendsUptoRow.laid W) (hk : Rows.uptoSmall H (ds ++ gs) = true) :
    Calls Tryd.prog 4 args W fun e W' => ∃ v, e = .returned v ∧ Rows.sheetMendsSpec.post enc Tryd.prog Tryd.f4 false true false false W args v W' := by
  have hL := hL0
  rw [tables] at hL
  have hval : ∀ (j : Nat) t v, Tryd.f4.params[j]? = some t → args[j]? = some v → Value.okWide Tryd.prog W .any base t v := hval0
  have hW' := hW
  obtain ⟨p, q, hA0, hV, rfl, hfz, hnd⟩ := hW
  have hA : DataW.TrodAll enc Tryd.prog W 0 (fun _ => true) true Tryd.f4.params.toList args.toList ds p := hA0
  rw [Tryd.params4] at hA hval
  obtain ⟨v0, vs0, d0, ds0, p0, q0, hargs, rfl, rfl, h0, r0⟩ := trodAll_cons hA
  obtain ⟨v1, vs1, d1, ds1, p1, q1, rfl, rfl, rfl, h1, r1⟩ := trodAll_cons r0
  obtain ⟨v2, vs2, d2, ds2, p2, q2, rfl, rfl, rfl, h2, r2⟩ := trodAll_cons r1
  obtain ⟨v3, vs3, d3, ds3, p3, q3, rfl, rfl, rfl, h3, r3⟩ := trodAll_cons r2
  obtain ⟨rfl, rfl, rfl⟩ := trodAll_nil r3
  obtain rfl : args = #[v0, v1, v2, v3] := by cases args; simp_all
  obtain ⟨rfl, rfl⟩ := trodVars_none hV
  have bulk : Rows.uptoBulkAll [d0, d1, d2, d3] ≤ 1048576 := of_decide_eq_true hk
  simp only [Rows.uptoBulkAll] at bulk
  obtain ⟨c0_0, c0_1, c0_2, y0_0, y0_1, y0_2, m0, rfl, rfl, rfl, hy0_0, hy0_1, hy0_2⟩ := Go.Joins.open_agg3 Tryd.underlying24 (by kernel_rfl) cells24 (hval 0 24 v0 rfl rfl) h0
  obtain ⟨z0_0, e0_0, rfl, w0_0⟩ := DataW.trod_int Tryd.underlying5 hy0_0
  obtain rfl : c0_0 = .int .u8 z0_0 := by simpa using e0_0
  have hz0_0 : 0 ≤ z0_0 ∧ z0_0 ≤ 255 := by
    have w := w0_0
    simp [Lit.wf, IntKind.min, IntKind.max, IntKind.signed, IntKind.bits] at w
    omega
  obtain ⟨z0_1, e0_1, rfl, w0_1⟩ := DataW.trod_int Tryd.underlying22 hy0_1
  obtain rfl : c0_1 = .int .u64 z0_1 := by simpa using e0_1
  have hz0_1 : 0 ≤ z0_1 ∧ z0_1 ≤ 18446744073709551615 := by
    have w := w0_1
    simp [Lit.wf, IntKind.min, IntKind.max, IntKind.signed, IntKind.bits] at w
    omega
  obtain ⟨z0_2, e0_2, rfl, w0_2⟩ := DataW.trod_int Tryd.underlying22 hy0_2
  obtain rfl : c0_2 = .int .u64 z0_2 := by simpa using e0_2
  have hz0_2 : 0 ≤ z0_2 ∧ z0_2 ≤ 18446744073709551615 := by
    have w := w0_2
    simp [Lit.wf, IntKind.min, IntKind.max, IntKind.signed, IntKind.bits] at w
    omega
  obtain ⟨a0_1, rfl⟩ := Int.eq_ofNat_of_zero_le hz0_1.1
  obtain ⟨a0_2, rfl⟩ := Int.eq_ofNat_of_zero_le hz0_2.1
  obtain ⟨k0', rfl⟩ : ∃ k : UInt8, z0_0 = (k.toNat : Int) := ⟨UInt8.ofNat z0_0.toNat, by rw [UInt8.toNat_ofNat']; omega⟩
  have hx0_1 : a0_1 < 18446744073709551616 := by omega
  have hx0_2 : a0_2 < 18446744073709551616 := by omega
  obtain ⟨a1, len1, cap1, rfl⟩ := okWide_slice Tryd.underlying25 (hval 1 25 v1 rfl rfl)
  have k1 := h1
  have lt1 : ∀ x ∈ p1, x.block < W.heap.size := by obtain ⟨m, hm⟩ := k1; exact DataW.trod_lt m _ _ _ hm
  obtain ⟨l1, hs1, hl1, hc1, hm1⟩ : ∃ l, Words.SeesAll W a1 len1 l ∧ Sht.lens l ≤ 10485760 ∧ len1 ≤ cap1 ∧ cap1 ≤ maxLen := by
    obtain ⟨fuel, hf⟩ := h1
    rcases Go.Deep.open_int_rows Tryd.underlying25 Tryd.underlying37 Tryd.underlying5 (by kernel_rfl) (by kernel_rfl) hf with ⟨hcs, _⟩ | ⟨x, l, c, AA, LL, CC, ZZ, hcs, _, hl, hm, hx, hrow⟩
    · simp [Value.cells] at hcs
      obtain ⟨rfl, rfl, rfl⟩ := hcs
      exact ⟨[], Words.SeesAll.nil _ _, by simp [Sht.lens], Nat.le_refl _, Nat.zero_le _⟩
    · simp [Value.cells] at hcs
      obtain ⟨rfl, rfl, rfl⟩ := hcs
      injection hx with hx _
      obtain ⟨L, h1, h2⟩ := Sht.all_of_rows_bulk (H := H) hl hrow
      rw [← hx] at h2
      exact ⟨L, h1, by omega, hl, hm⟩
  obtain ⟨a2, rfl, rfl, rfl, w2⟩ := open_int Tryd.underlying43 (hval 2 43 v2 rfl rfl) h2
  have hx2 : 0 ≤ a2 ∧ a2 ≤ 65535 := by
    have w := w2
    simp [Lit.wf, IntKind.min, IntKind.max, IntKind.signed, IntKind.bits] at w
    omega
  obtain ⟨a3, len3, cap3, rfl⟩ := okWide_slice Tryd.underlying37 (hval 3 37 v3 rfl rfl)
  have k3 := h3
  have lt3 : ∀ x ∈ p3, x.block < W.heap.size := by obtain ⟨m, hm⟩ := k3; exact DataW.trod_lt m _ _ _ hm
  obtain ⟨l3, hs3, hc3, hm3⟩ : ∃ l, Words.Sees W a3 len3 l ∧ len3 ≤ cap3 ∧ cap3 ≤ maxLen := by
    obtain ⟨fuel, hf⟩ := h3
    rcases open_ints Tryd.underlying37 Tryd.underlying5 (by kernel_rfl) hf with ⟨hcs, _⟩ | ⟨x, l, c, zs, hcs, _, hl, hm, hz, _, hcell, hwz⟩
    · simp [Value.cells] at hcs
      obtain ⟨rfl, rfl, rfl⟩ := hcs
      exact Words.sees_of_row (zs := []) (.inl ⟨rfl, rfl, rfl, rfl⟩)
    · simp [Value.cells] at hcs
      obtain ⟨rfl, rfl, rfl⟩ := hcs
      exact Words.sees_of_row (zs := zs) (.inr ⟨_, rfl, hl, hm, by simpa using hz, hcell, hwz⟩)
  clear hA0 hval0
  have law : Calls Tryd.prog 4 #[Sht.titleV k0' a0_1 a0_2, .slice a1 len1 cap1, .int .u16 a2, .slice a3 len3 cap3] W fun e w' => e = .returned (.bool true) ∧ Below W.heap.size W w' := by
    obtain ⟨cut, rfl⟩ := Int.eq_ofNat_of_zero_le hx2.1
    by_cases h1 : 2000 < Sht.lens l1 ∨ 100 < len3
    · exact Sht.mends_long k0' a0_1 a0_2 a1 len1 cap1 l1 (cut : Int) a3 len3 cap3 W (Chk.of_laid hL) hs1 (by omega) (by unfold maxLen at *; omega) h1
    · exact Sht.mends_short k0' a0_1 a0_2 a1 len1 cap1 l1 cut a3 len3 cap3 l3 W (Chk.of_laid hL) hs1 hs3 (by omega) (by omega) hx0_1 hx0_2 (by omega) hc1 hc3
  refine law.mono fun e W' ⟨he, bel⟩ => ?_
  subst he
  exact ⟨_, rfl, _, _, _, [], _, [], hW', trodAll_mk1 (shut_bool Tryd.underlying4 _), (trodAll_cons_mk (Go.Joins.shut_agg3 (y0 := (.lit (.int .u8 _), [])) (y1 := (.lit (.int .u64 _), [])) (y2 := (.lit (.int .u64 _), [])) Tryd.underlying24 (by kernel_rfl) cells24 ⟨1, by simp [DataW.trod, Tryd.underlying5, w0_0]⟩ ⟨1, by simp [DataW.trod, Tryd.underlying22, w0_1]⟩ ⟨1, by simp [DataW.trod, Tryd.underlying22, w0_2]⟩) (trodAll_cons_mk (Below.trod laidOut (by kernel_rfl) (of_decide_eq_true (by kernel_rfl)) k1 bel lt1) (trodAll_cons_mk (shut_int Tryd.underlying43 w2) (trodAll_cons_mk (Below.trod laidOut (by kernel_rfl) (of_decide_eq_true (by kernel_rfl)) k3 bel lt3) trodAll_mk0)))), rfl, bel.frame _, fun h => by cases h⟩

theorem laid_met (os : Os) : laidMetH Tryd.prog Rows.sheetMendsUptoRow.laid ((World.laidAll Tryd.prog os Rows.sheetMendsUptoRow.laid).forCall (fun _ _ => 0) ⟨#[], #[.agg #[.int .u8 0, .int .u64 0, .int .u64 0], .slice none 0 0, .int .u16 0, .slice none 0 0], []⟩).memory := by
  rw [MakeChecks.laidMetH_plain _ _ _ (by kernel_rfl)]
  exact laidMet_laidAll _ (by kernel_rfl) (by kernel_rfl)
theorem reads (os : Os) {H : Type} (enc : TypeId × Value → H) : ∃ places, DataW.whole enc Tryd.prog ((World.laidAll Tryd.prog os Rows.sheetMendsUptoRow.laid).forCall (fun _ _ => 0) ⟨#[], #[.agg #[.int .u8 0, .int .u64 0, .int .u64 0], .slice none 0 0, .int .u16 0, .slice none 0 0], []⟩).memory Tryd.f4.params.toList Rows.sheetMendsSpec.vars false (#[.agg #[.int .u8 0, .int .u64 0, .int .u64 0], .slice none 0 0, .int .u16 0, .slice none 0 0] : Array Value).toList 8 = some ([.agg [.lit (.int .u8 0), .lit (.int .u64 0), .lit (.int .u64 0)], .nil, .lit (.int .u16 0), .nil], [], places) :=
  ⟨[], by kernel_rfl⟩

set_option maxRecDepth 100000 in
theorem lifted (os : Os) (started : os.Started) (H : Type) (enc : TypeId × Value → H) (F : Stop.Interp) :
    ReturnsInHanded {} Tryd.checked os 4 .any ((Rows.OpenSpec.upto Rows.sheetMendsSpec).preRow enc Tryd.prog Tryd.f4 Rows.sheetMendsUptoRow.domain false Rows.sheetMendsUptoRow.laid) (((Rows.OpenSpec.upto Rows.sheetMendsSpec).at F).post enc Tryd.prog Tryd.f4 false true false false) := by
  obtain ⟨places, hx⟩ := reads os enc
  refine returnsInHanded_of_row (C := Tryd.checked) (s := (Rows.OpenSpec.upto Rows.sheetMendsSpec)) own started (by kernel_rfl) Tryd.func4
    (witness_row_at (enc := enc) (C := Tryd.checked) false (World.laidAll Tryd.prog os Rows.sheetMendsUptoRow.laid) #[.agg #[.int .u8 0, .int .u64 0, .int .u64 0], .slice none 0 0, .int .u16 0, .slice none 0 0] (World.laidAll_os _ _ _) (by kernel_rfl) (by kernel_rfl) (by kernel_rfl)
      (OpenSpec.preRow_of_cond 8 hx (by kernel_rfl) (fun k hk => by cases hk; kernel_rfl) (by kernel_rfl) (laid_met os))) ?_
  intro W base args ds gs before hval hW _ hcond _ hL _ _
  exact contract H enc W base args ds gs before hval hW hL (hcond _ rfl)

theorem over : Rows.sheetMendsUptoRow.holds Tryd.pinned (Rows.OpenSpec.upto Rows.sheetMendsSpec) :=
  OpenClaim.holds_of_cond 4 Tryd.f4 rfl rfl rfl rfl rfl rfl rfl ⟨rfl, rfl, rfl, rfl, rfl⟩ rfl rfl rfl rfl rfl (by kernel_rfl) Tryd.func4 (by kernel_rfl)
    (of_decide_eq_true (by kernel_rfl)) (by unfold Func.isWrapper; first | (rw [if_pos (by decide +kernel)]; kernel_rfl) | (rw [if_neg (by decide +kernel)]; exact ⟨rfl, rfl⟩))
    (fun os started H enc _ F => by rw [OpenClaim.pre_eq_preRow]; exact lifted os started H enc F)

theorem proved : Rows.SheetMendsUptoCardSaid :=
  Claim7.holds_tied_plain_at .later [] [.data, .data] true (true, "5c24cc814d18f767d54663eac31f30db33dd80964033be19fcedf6a6d04c6eae") true over (fun _ h => by cases h) (by kernel_rfl) (fun _ h => by cases h) sheetMendsUpto_row_tie rfl ⟨rfl, rfl⟩ (by kernel_rfl) rfl
    (fun f fn hf hfn => by
      obtain rfl : f = 4 := Option.some.inj ((show Tryd.prog.funcNamed "anabranch/anabranchlaw05.SheetMends" = some 4 by kernel_rfl).symm.trans hf) |>.symm
      obtain rfl : fn = Tryd.f4 := (Option.some.inj (Tryd.func4.symm.trans hfn)).symm
      exact ⟨by kernel_rfl, fun j t ht => by
        rw [Tryd.params4] at ht
        have hm : t ∈ [24, 25, 43, 37] := by simpa using Array.mem_of_getElem? ht
        have hall : ([24, 25, 43, 37].all fun u => !Tryd.prog.wantsStandIn u) = true := by kernel_rfl
        exact (show Tryd.prog.wantsStandIn t = false by simpa using List.all_eq_true.1 hall t hm)⟩)
    (by kernel_rfl)
#print axioms proved
end Go.Proofs.YtfdnlgigllflfaaDoor.sheetMends
