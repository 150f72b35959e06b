/- Proved: the Go function LetterTurned returns true, and each argument reads behind the call as it read before, for every input of bulk at most 1048576. The tables of package check lie as the program's text lays them (the card ties them). -/
import Derived.Test.YthdflbpmabcjlaaDoorRows
import Derived.WalkKit
import Derived.ProofKit
import Derived.OpenShut
import Derived.ShutString
import Derived.ChangeOld
import Derived.Below
import Derived.WalkLawsBesides
import Derived.Test.YthdflbpmabcjlaaDoorCards
import Derived.Test.YthdflbpmabcjlaaDoorTie
import Derived.LaidMore
import Derived.Lay
import Derived.SevenTiedAt
import Derived.Stop.Joined
import Derived.Deep.Matrix
import Derived.Deep.DeepHandedRow
import Derived.Lib.SmallJoins
import Derived.Test.YthdflbpmabcjlaaDoorLTp11
import Derived.Test.YthdflbpmabcjlaaDoorLTp31
namespace Go.Proofs.YthdflbpmabcjlaaDoor.letterTurned
open Go.ChangeShapes Go.WideShapes Go.ChangeAt Go.RowKit
set_option linter.unusedVariables false

theorem own : ownKnob Tryd.prog.godebug = none := by kernel_rfl
theorem laidOut : laidOutB Tryd.prog = true := by kernel_rfl
theorem cells29 : Tryd.prog.cellsOf 29 = 13 := by kernel_rfl
theorem tables : Rows.letterTurnedUptoRow.laid = Chk.listed := by kernel_rfl

set_option maxRecDepth 100000 in
theorem contract (H : Type) (enc : TypeId × Value → H) (W : World) (base : Nat) (args : Array Value) (ds gs : List (DataW H)) (before : List MemPlace)
    (hval0 : ∀ (j : Nat) t v, Tryd.f3.params[j]? = some t → args[j]? = some v → Value.okWide Tryd.prog W .any base t v)
    (hW : DataW.Whole enc Tryd.prog Tryd.f3.params.toList Rows.letterTurnedSpec.vars false W args.toList ds gs before) (hL0 : laidMetH Tryd.prog Rows.letterTurnedUptoRow.laid W) (hk : Rows.uptoSmall H (ds ++ gs) = true) :
    Calls Tryd.prog 3 args W fun e W' => ∃ v, e = .returned v ∧ Rows.letterTurnedSpec.post enc Tryd.prog Tryd.f3 false true false false W args v W' := by
  have hL := hL0
  rw [tables] at hL
  have hval : ∀ (j : Nat) t v, Tryd.f3.params[j]? = some t → args[j]? = some v → Value.okWide Tryd.prog W .any base t v := hval0
  have hW' := hW
  obtain ⟨p, q, hA0, hV, rfl, hfz, hnd⟩ := hW
  have hA : DataW.TrodAll enc Tryd.prog W 0 (fun _ => true) true Tryd.f3.params.toList args.toList ds p := hA0
  rw [Tryd.params3] at hA hval
  obtain ⟨v0, vs0, d0, ds0, p0, q0, hargs, rfl, rfl, h0, r0⟩ := trodAll_cons hA
  obtain ⟨v1, vs1, d1, ds1, p1, q1, rfl, rfl, rfl, h1, r1⟩ := trodAll_cons r0
  obtain ⟨v2, vs2, d2, ds2, p2, q2, rfl, rfl, rfl, h2, r2⟩ := trodAll_cons r1
  obtain ⟨v3, vs3, d3, ds3, p3, q3, rfl, rfl, rfl, h3, r3⟩ := trodAll_cons r2
  obtain ⟨v4, vs4, d4, ds4, p4, q4, rfl, rfl, rfl, h4, r4⟩ := trodAll_cons r3
  obtain ⟨rfl, rfl, rfl⟩ := trodAll_nil r4
  obtain rfl : args = #[v0, v1, v2, v3, v4] := by cases args; simp_all
  obtain ⟨rfl, rfl⟩ := trodVars_none hV
  have bulk : Rows.uptoBulkAll [d0, d1, d2, d3, d4] ≤ 1048576 := of_decide_eq_true hk
  simp only [Rows.uptoBulkAll] at bulk
  obtain ⟨c0_0, c0_1, c0_2, c0_3, c0_4, c0_5, c0_6, c0_7, c0_8, c0_9, c0_10, c0_11, c0_12, ⟨y0_0, z0_0⟩, ⟨y0_1, z0_1⟩, ⟨y0_2, z0_2⟩, ⟨y0_3, z0_3⟩, ⟨y0_4, z0_4⟩, ⟨y0_5, z0_5⟩, ⟨y0_6, z0_6⟩, ⟨y0_7, z0_7⟩, ⟨y0_8, z0_8⟩, ⟨y0_9, z0_9⟩, ⟨y0_10, z0_10⟩, ⟨y0_11, z0_11⟩, ⟨y0_12, z0_12⟩, m0, rfl, rfl, rfl, hy0_0, hy0_1, hy0_2, hy0_3, hy0_4, hy0_5, hy0_6, hy0_7, hy0_8, hy0_9, hy0_10, hy0_11, hy0_12⟩ := Aggs.open_agg13 Tryd.underlying29 (by kernel_rfl) cells29 (hval 0 29 v0 rfl rfl) h0
  obtain ⟨a0_0, e0_0, f0_0, w0_0⟩ := DataW.trod_int Tryd.underlying5 hy0_0
  obtain rfl : c0_0 = .int .u8 a0_0 := by simpa using e0_0
  obtain ⟨rfl, rfl⟩ := Prod.mk.inj f0_0
  have hx0_0 : 0 ≤ a0_0 ∧ a0_0 ≤ 255 := by
    have w := w0_0
    simp [Lit.wf, IntKind.min, IntKind.max, IntKind.signed, IntKind.bits] at w
    omega
  obtain ⟨a0_1, e0_1, f0_1, w0_1⟩ := DataW.trod_int Tryd.underlying5 hy0_1
  obtain rfl : c0_1 = .int .u8 a0_1 := by simpa using e0_1
  obtain ⟨rfl, rfl⟩ := Prod.mk.inj f0_1
  have hx0_1 : 0 ≤ a0_1 ∧ a0_1 ≤ 255 := by
    have w := w0_1
    simp [Lit.wf, IntKind.min, IntKind.max, IntKind.signed, IntKind.bits] at w
    omega
  obtain ⟨a0_2, e0_2, f0_2, w0_2⟩ := DataW.trod_int Tryd.underlying5 hy0_2
  obtain rfl : c0_2 = .int .u8 a0_2 := by simpa using e0_2
  obtain ⟨rfl, rfl⟩ := Prod.mk.inj f0_2
  have hx0_2 : 0 ≤ a0_2 ∧ a0_2 ≤ 255 := by
    have w := w0_2
    simp [Lit.wf, IntKind.min, IntKind.max, IntKind.signed, IntKind.bits] at w
    omega
  obtain ⟨a0_3, e0_3, f0_3, w0_3⟩ := DataW.trod_int Tryd.underlying5 hy0_3
  obtain rfl : c0_3 = .int .u8 a0_3 := by simpa using e0_3
  obtain ⟨rfl, rfl⟩ := Prod.mk.inj f0_3
  have hx0_3 : 0 ≤ a0_3 ∧ a0_3 ≤ 255 := by
    have w := w0_3
    simp [Lit.wf, IntKind.min, IntKind.max, IntKind.signed, IntKind.bits] at w
    omega
  obtain ⟨a0_4, e0_4, f0_4⟩ := Aggs.trod_bool Tryd.underlying4 hy0_4
  obtain rfl : c0_4 = .bool a0_4 := by simpa using e0_4
  obtain ⟨rfl, rfl⟩ := Prod.mk.inj f0_4
  obtain ⟨a0_5, e0_5, f0_5, w0_5⟩ := DataW.trod_int Tryd.underlying22 hy0_5
  obtain rfl : c0_5 = .int .u64 a0_5 := by simpa using e0_5
  obtain ⟨rfl, rfl⟩ := Prod.mk.inj f0_5
  have hx0_5 : 0 ≤ a0_5 ∧ a0_5 ≤ 18446744073709551615 := by
    have w := w0_5
    simp [Lit.wf, IntKind.min, IntKind.max, IntKind.signed, IntKind.bits] at w
    omega
  obtain ⟨a0_6, e0_6, f0_6, w0_6⟩ := DataW.trod_int Tryd.underlying22 hy0_6
  obtain rfl : c0_6 = .int .u64 a0_6 := by simpa using e0_6
  obtain ⟨rfl, rfl⟩ := Prod.mk.inj f0_6
  have hx0_6 : 0 ≤ a0_6 ∧ a0_6 ≤ 18446744073709551615 := by
    have w := w0_6
    simp [Lit.wf, IntKind.min, IntKind.max, IntKind.signed, IntKind.bits] at w
    omega
  obtain ⟨a0_7, e0_7, f0_7, w0_7⟩ := DataW.trod_int Tryd.underlying23 hy0_7
  obtain rfl : c0_7 = .int .u32 a0_7 := by simpa using e0_7
  obtain ⟨rfl, rfl⟩ := Prod.mk.inj f0_7
  have hx0_7 : 0 ≤ a0_7 ∧ a0_7 ≤ 4294967295 := by
    have w := w0_7
    simp [Lit.wf, IntKind.min, IntKind.max, IntKind.signed, IntKind.bits] at w
    omega
  obtain ⟨a0_8, e0_8, f0_8, w0_8⟩ := DataW.trod_int Tryd.underlying23 hy0_8
  obtain rfl : c0_8 = .int .u32 a0_8 := by simpa using e0_8
  obtain ⟨rfl, rfl⟩ := Prod.mk.inj f0_8
  have hx0_8 : 0 ≤ a0_8 ∧ a0_8 ≤ 4294967295 := by
    have w := w0_8
    simp [Lit.wf, IntKind.min, IntKind.max, IntKind.signed, IntKind.bits] at w
    omega
  obtain ⟨a0_9, len0_9, cap0_9, e0_9⟩ := Go.Joins.slice_form Tryd.underlying24 hy0_9
  obtain rfl : c0_9 = .slice a0_9 len0_9 cap0_9 := by simpa using e0_9
  have k0_9 : DataW.Trod enc Tryd.prog W 0 (fun _ => true) true 24 (.slice a0_9 len0_9 cap0_9) y0_9 z0_9 := ⟨_, by simpa [Value.cells] using hy0_9⟩
  have lt0_9 : ∀ x ∈ z0_9, x.block < W.heap.size := by obtain ⟨m, hm⟩ := k0_9; exact DataW.trod_lt m _ _ _ hm
  have hb0_9 := Lt.ints_bulk Tryd.underlying24 Tryd.underlying22 (by kernel_rfl) hy0_9
  obtain ⟨l0_9, hs0_9⟩ : ∃ l, Vec.SeesU W a0_9 len0_9 l := by
    obtain ⟨A', n', c', l, hcs, h1, -⟩ := Mtx.have_of hy0_9
    simp at hcs
    obtain ⟨rfl, rfl, rfl⟩ := hcs
    exact ⟨l, h1⟩
  obtain ⟨a0_10, len0_10, cap0_10, e0_10⟩ := Go.Joins.slice_form Tryd.underlying25 hy0_10
  obtain rfl : c0_10 = .slice a0_10 len0_10 cap0_10 := by simpa using e0_10
  have k0_10 : DataW.Trod enc Tryd.prog W 0 (fun _ => true) true 25 (.slice a0_10 len0_10 cap0_10) y0_10 z0_10 := ⟨_, by simpa [Value.cells] using hy0_10⟩
  have lt0_10 : ∀ x ∈ z0_10, x.block < W.heap.size := by obtain ⟨m, hm⟩ := k0_10; exact DataW.trod_lt m _ _ _ hm
  obtain ⟨l0_10, hl0_10, hs0_10, hb0_10, hm0_10⟩ := Lt.rowsIn_bulk hy0_10
  obtain ⟨a0_11, len0_11, cap0_11, e0_11⟩ := Go.Joins.slice_form Tryd.underlying26 hy0_11
  obtain rfl : c0_11 = .slice a0_11 len0_11 cap0_11 := by simpa using e0_11
  have k0_11 : DataW.Trod enc Tryd.prog W 0 (fun _ => true) true 26 (.slice a0_11 len0_11 cap0_11) y0_11 z0_11 := ⟨_, by simpa [Value.cells] using hy0_11⟩
  have lt0_11 : ∀ x ∈ z0_11, x.block < W.heap.size := by obtain ⟨m, hm⟩ := k0_11; exact DataW.trod_lt m _ _ _ hm
  have hb0_11 := Lt.ints_bulk Tryd.underlying26 Tryd.underlying30 (by kernel_rfl) hy0_11
  obtain ⟨l0_11, hs0_11⟩ : ∃ l, Ord.SeesH W a0_11 len0_11 l := by
    rcases open_ints Tryd.underlying26 Tryd.underlying30 (by kernel_rfl) hy0_11 with ⟨hcs, _⟩ | ⟨x, l, c, zs, hcs, _, hl, hm, hz, hx, hcell, hwz⟩
    · simp at hcs
      obtain ⟨rfl, rfl, rfl⟩ := hcs
      obtain ⟨l, h1, -⟩ := Ord.seesH_of_row (w := W) (zs := []) (.inl ⟨rfl, rfl, rfl, rfl⟩)
      exact ⟨l, h1⟩
    · simp at hcs
      obtain ⟨rfl, rfl, rfl⟩ := hcs
      simp only [if_true] at hz
      obtain ⟨l, h1, -⟩ := Ord.seesH_of_row (zs := zs) (.inr ⟨_, rfl, hl, hm, hz, hcell, hwz⟩)
      exact ⟨l, h1⟩
  obtain ⟨a0_12, len0_12, cap0_12, e0_12⟩ := Go.Joins.slice_form Tryd.underlying27 hy0_12
  obtain rfl : c0_12 = .slice a0_12 len0_12 cap0_12 := by simpa using e0_12
  have k0_12 : DataW.Trod enc Tryd.prog W 0 (fun _ => true) true 27 (.slice a0_12 len0_12 cap0_12) y0_12 z0_12 := ⟨_, by simpa [Value.cells] using hy0_12⟩
  have lt0_12 : ∀ x ∈ z0_12, x.block < W.heap.size := by obtain ⟨m, hm⟩ := k0_12; exact DataW.trod_lt m _ _ _ hm
  have hb0_12 := Lt.ints_bulk Tryd.underlying27 Tryd.underlying5 (by kernel_rfl) hy0_12
  obtain ⟨l0_12, hs0_12⟩ : ∃ l, Words.Sees W a0_12 len0_12 l := by
    rcases open_ints Tryd.underlying27 Tryd.underlying5 (by kernel_rfl) hy0_12 with ⟨hcs, _⟩ | ⟨x, l, c, zs, hcs, _, hl, hm, hz, hx, hcell, hwz⟩
    · simp at hcs
      obtain ⟨rfl, rfl, rfl⟩ := hcs
      obtain ⟨l, h1, -⟩ := Words.sees_of_row (w := W) (zs := []) (.inl ⟨rfl, rfl, rfl, rfl⟩)
      exact ⟨l, h1⟩
    · simp at hcs
      obtain ⟨rfl, rfl, rfl⟩ := hcs
      simp only [if_true] at hz
      obtain ⟨l, h1, -⟩ := Words.sees_of_row (zs := zs) (.inr ⟨_, rfl, hl, hm, hz, hcell, hwz⟩)
      exact ⟨l, h1⟩
  obtain ⟨a1, rfl, rfl, rfl, w1⟩ := open_int Tryd.underlying30 (hval 1 30 v1 rfl rfl) h1
  have hx1 : 0 ≤ a1 ∧ a1 ≤ 65535 := by
    have w := w1
    simp [Lit.wf, IntKind.min, IntKind.max, IntKind.signed, IntKind.bits] at w
    omega
  obtain ⟨a2, rfl, rfl, rfl, w2⟩ := open_int Tryd.underlying5 (hval 2 5 v2 rfl rfl) h2
  have hx2 : 0 ≤ a2 ∧ a2 ≤ 255 := by
    have w := w2
    simp [Lit.wf, IntKind.min, IntKind.max, IntKind.signed, IntKind.bits] at w
    omega
  obtain ⟨a3, rfl, rfl, rfl, w3⟩ := open_int Tryd.underlying30 (hval 3 30 v3 rfl rfl) h3
  have hx3 : 0 ≤ a3 ∧ a3 ≤ 65535 := by
    have w := w3
    simp [Lit.wf, IntKind.min, IntKind.max, IntKind.signed, IntKind.bits] at w
    omega
  obtain ⟨a4, rfl, rfl, rfl, w4⟩ := open_int Tryd.underlying5 (hval 4 5 v4 rfl rfl) h4
  have hx4 : 0 ≤ a4 ∧ a4 ≤ 255 := by
    have w := w4
    simp [Lit.wf, IntKind.min, IntKind.max, IntKind.signed, IntKind.bits] at w
    omega
  clear hA0 hval0
  simp only [Rows.uptoBulk, Rows.uptoBulkAll] at bulk
  try simp only [] at hb0_9
  try simp only [] at hb0_10
  try simp only [] at hm0_10
  try simp only [] at hb0_11
  try simp only [] at hb0_12
  obtain ⟨kd, rfl⟩ := Int.eq_ofNat_of_zero_le hx0_0.1
  obtain ⟨fr, rfl⟩ := Int.eq_ofNat_of_zero_le hx0_1.1
  obtain ⟨tt, rfl⟩ := Int.eq_ofNat_of_zero_le hx0_2.1
  obtain ⟨wy, rfl⟩ := Int.eq_ofNat_of_zero_le hx0_3.1
  obtain ⟨ser, rfl⟩ := Int.eq_ofNat_of_zero_le hx0_5.1
  obtain ⟨tm, rfl⟩ := Int.eq_ofNat_of_zero_le hx0_6.1
  obtain ⟨sz, rfl⟩ := Int.eq_ofNat_of_zero_le hx0_7.1
  obtain ⟨pt, rfl⟩ := Int.eq_ofNat_of_zero_le hx0_8.1
  obtain ⟨at1, rfl⟩ := Int.eq_ofNat_of_zero_le hx1.1
  obtain ⟨tu2, rfl⟩ := Int.eq_ofNat_of_zero_le hx2.1
  obtain ⟨cu3, rfl⟩ := Int.eq_ofNat_of_zero_le hx3.1
  obtain ⟨mo4, rfl⟩ := Int.eq_ofNat_of_zero_le hx4.1
  have hR := Lt.rowsNo_fits (Lt.rowM l0_10) len0_10 (by omega) (fun i hi => by have := hm0_10 i hi; omega)
  have hin : Lt.DrIn W ⟨kd, fr, tt, wy, a0_4, ser, tm, sz, pt, a0_9, len0_9, cap0_9, a0_10, len0_10, cap0_10, a0_11, len0_11, cap0_11, a0_12, len0_12, cap0_12⟩ l0_9 l0_10 l0_11 l0_12 := ⟨hs0_9, hs0_10, hl0_10, hs0_11, hs0_12, by show kd < 256 ∧ fr < 256 ∧ tt < 256 ∧ wy < 256; omega, by show ser < 18446744073709551616 ∧ tm < 18446744073709551616 ∧ sz < 4294967296 ∧ pt < 4294967296; omega, by show len0_9 + len0_12 + len0_11 + Lt.rowsNo (Lt.rowM l0_10) len0_10 ≤ _; omega⟩
  have law := Lt.turned_law _ l0_9 l0_10 l0_11 l0_12 at1 tu2 cu3 mo4 W (Chk.of_laid hL) hin (by omega) (by omega) (by omega) (by omega)
  refine law.mono fun e W' ⟨he, bel⟩ => ?_
  subst he
  exact ⟨_, rfl, _, _, _, [], _, [], hW', trodAll_mk1 (shut_bool Tryd.underlying4 _), (trodAll_cons_mk (Aggs.shut_agg13 (y0 := (.lit (.int .u8 _), [])) (y1 := (.lit (.int .u8 _), [])) (y2 := (.lit (.int .u8 _), [])) (y3 := (.lit (.int .u8 _), [])) (y4 := (.lit (.bool _), [])) (y5 := (.lit (.int .u64 _), [])) (y6 := (.lit (.int .u64 _), [])) (y7 := (.lit (.int .u32 _), [])) (y8 := (.lit (.int .u32 _), [])) (y9 := (y0_9, z0_9)) (y10 := (y0_10, z0_10)) (y11 := (y0_11, z0_11)) (y12 := (y0_12, z0_12)) Tryd.underlying29 (by kernel_rfl) cells29 (Go.Joins.field_of_Trod (shut_int Tryd.underlying5 w0_0) rfl) (Go.Joins.field_of_Trod (shut_int Tryd.underlying5 w0_1) rfl) (Go.Joins.field_of_Trod (shut_int Tryd.underlying5 w0_2) rfl) (Go.Joins.field_of_Trod (shut_int Tryd.underlying5 w0_3) rfl) (Go.Joins.field_of_Trod (shut_bool Tryd.underlying4 _) rfl) (Go.Joins.field_of_Trod (shut_int Tryd.underlying22 w0_5) rfl) (Go.Joins.field_of_Trod (shut_int Tryd.underlying22 w0_6) rfl) (Go.Joins.field_of_Trod (shut_int Tryd.underlying23 w0_7) rfl) (Go.Joins.field_of_Trod (shut_int Tryd.underlying23 w0_8) rfl) (Go.Joins.field_of_Trod (Below.trod laidOut (by kernel_rfl) (of_decide_eq_true (by kernel_rfl)) k0_9 bel lt0_9) rfl) (Go.Joins.field_of_Trod (Below.trod laidOut (by kernel_rfl) (of_decide_eq_true (by kernel_rfl)) k0_10 bel lt0_10) rfl) (Go.Joins.field_of_Trod (Below.trod laidOut (by kernel_rfl) (of_decide_eq_true (by kernel_rfl)) k0_11 bel lt0_11) rfl) (Go.Joins.field_of_Trod (Below.trod laidOut (by kernel_rfl) (of_decide_eq_true (by kernel_rfl)) k0_12 bel lt0_12) rfl)) (trodAll_cons_mk (shut_int Tryd.underlying30 w1) (trodAll_cons_mk (shut_int Tryd.underlying5 w2) (trodAll_cons_mk (shut_int Tryd.underlying30 w3) (trodAll_cons_mk (shut_int Tryd.underlying5 w4) trodAll_mk0))))), rfl, bel.frame _, fun h => by cases h⟩

theorem laid_met (os : Os) : laidMetH Tryd.prog Rows.letterTurnedUptoRow.laid ((World.laidAll Tryd.prog os Rows.letterTurnedUptoRow.laid).forCall (fun _ _ => 0) ⟨#[], #[.agg #[.int .u8 0, .int .u8 0, .int .u8 0, .int .u8 0, .bool false, .int .u64 0, .int .u64 0, .int .u32 0, .int .u32 0, .slice none 0 0, .slice none 0 0, .slice none 0 0, .slice none 0 0], .int .u16 0, .int .u8 0, .int .u16 0, .int .u8 0], []⟩).memory := by
  rw [MakeChecks.laidMetH_plain _ _ _ (by kernel_rfl)]
  exact laidMet_laidAll _ (by kernel_rfl) (by kernel_rfl)
theorem reads (os : Os) {H : Type} (enc : TypeId × Value → H) : ∃ places, DataW.whole enc Tryd.prog ((World.laidAll Tryd.prog os Rows.letterTurnedUptoRow.laid).forCall (fun _ _ => 0) ⟨#[], #[.agg #[.int .u8 0, .int .u8 0, .int .u8 0, .int .u8 0, .bool false, .int .u64 0, .int .u64 0, .int .u32 0, .int .u32 0, .slice none 0 0, .slice none 0 0, .slice none 0 0, .slice none 0 0], .int .u16 0, .int .u8 0, .int .u16 0, .int .u8 0], []⟩).memory Tryd.f3.params.toList Rows.letterTurnedSpec.vars false (#[.agg #[.int .u8 0, .int .u8 0, .int .u8 0, .int .u8 0, .bool false, .int .u64 0, .int .u64 0, .int .u32 0, .int .u32 0, .slice none 0 0, .slice none 0 0, .slice none 0 0, .slice none 0 0], .int .u16 0, .int .u8 0, .int .u16 0, .int .u8 0] : Array Value).toList 8 = some ([.agg [.lit (.int .u8 0), .lit (.int .u8 0), .lit (.int .u8 0), .lit (.int .u8 0), .lit (.bool false), .lit (.int .u64 0), .lit (.int .u64 0), .lit (.int .u32 0), .lit (.int .u32 0), .nil, .nil, .nil, .nil], .lit (.int .u16 0), .lit (.int .u8 0), .lit (.int .u16 0), .lit (.int .u8 0)], [], places) :=
  ⟨[], by kernel_rfl⟩

set_option maxRecDepth 100000 in
theorem lifted (os : Os) (started : os.Started) (H : Type) (enc : TypeId × Value → H) (F : Stop.Interp) :
    ReturnsInHanded {} Tryd.checked os 3 .any ((Rows.OpenSpec.upto Rows.letterTurnedSpec).preRow enc Tryd.prog Tryd.f3 Rows.letterTurnedUptoRow.domain false Rows.letterTurnedUptoRow.laid) (((Rows.OpenSpec.upto Rows.letterTurnedSpec).at F).post enc Tryd.prog Tryd.f3 false true false false) := by
  obtain ⟨places, hx⟩ := reads os enc
  refine returnsInHanded_of_row (C := Tryd.checked) (s := (Rows.OpenSpec.upto Rows.letterTurnedSpec)) own started (by kernel_rfl) Tryd.func3
    (witness_row_at (enc := enc) (C := Tryd.checked) false (World.laidAll Tryd.prog os Rows.letterTurnedUptoRow.laid) #[.agg #[.int .u8 0, .int .u8 0, .int .u8 0, .int .u8 0, .bool false, .int .u64 0, .int .u64 0, .int .u32 0, .int .u32 0, .slice none 0 0, .slice none 0 0, .slice none 0 0, .slice none 0 0], .int .u16 0, .int .u8 0, .int .u16 0, .int .u8 0] (World.laidAll_os _ _ _) (by kernel_rfl) (by kernel_rfl) (by kernel_rfl)
      (OpenSpec.preRow_of_cond 8 hx (by kernel_rfl) (fun k hk => by cases hk; kernel_rfl) (by kernel_rfl) (laid_met os))) ?_
  intro W base args ds gs before hval hW _ hcond _ hL _ _
  exact contract H enc W base args ds gs before hval hW hL (hcond _ rfl)

theorem over : Rows.letterTurnedUptoRow.holds Tryd.pinned (Rows.OpenSpec.upto Rows.letterTurnedSpec) :=
  OpenClaim.holds_of_cond 3 Tryd.f3 rfl rfl rfl rfl rfl rfl rfl ⟨rfl, rfl, rfl, rfl, rfl⟩ rfl rfl rfl rfl rfl (by kernel_rfl) Tryd.func3 (by kernel_rfl)
    (of_decide_eq_true (by kernel_rfl)) (by unfold Func.isWrapper; first | (rw [if_pos (by decide +kernel)]; kernel_rfl) | (rw [if_neg (by decide +kernel)]; exact ⟨rfl, rfl⟩))
    (fun os started H enc _ F => by rw [OpenClaim.pre_eq_preRow]; exact lifted os started H enc F)

theorem proved : Rows.LetterTurnedUptoCardSaid :=
  Claim7.holds_tied_plain_at .later [] [.data, .data] true (true, "b030f53907fe65547c74a4fbc3c3e274fa9993c3fa03dd00c6d25ea5afd666d7") true over (fun _ h => by cases h) (by kernel_rfl) (fun _ h => by cases h) letterTurnedUpto_row_tie rfl ⟨rfl, rfl⟩ (by kernel_rfl) rfl
    (fun f fn hf hfn => by
      obtain rfl : f = 3 := Option.some.inj ((show Tryd.prog.funcNamed "anabranch/anabranchlaw16.LetterTurned" = some 3 by kernel_rfl).symm.trans hf) |>.symm
      obtain rfl : fn = Tryd.f3 := (Option.some.inj (Tryd.func3.symm.trans hfn)).symm
      exact ⟨by kernel_rfl, fun j t ht => by
        rw [Tryd.params3] at ht
        have hm : t ∈ [29, 30, 5, 30, 5] := by simpa using Array.mem_of_getElem? ht
        have hall : ([29, 30, 5, 30, 5].all fun u => !Tryd.prog.wantsStandIn u) = true := by kernel_rfl
        exact (show Tryd.prog.wantsStandIn t = false by simpa using List.all_eq_true.1 hall t hm)⟩)
    (by kernel_rfl)
#print axioms proved
end Go.Proofs.YthdflbpmabcjlaaDoor.letterTurned
