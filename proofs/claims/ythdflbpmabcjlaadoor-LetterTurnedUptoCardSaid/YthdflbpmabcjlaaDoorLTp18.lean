/- Layer 16: the law's letter, kind 2. -/
import Derived.Deep.Cut
import Derived.Maps.AppendAt
import Derived.Test.YthdflbpmabcjlaaDoorLTp15
import Derived.Test.YthdflbpmabcjlaaDoorLTp16
namespace Go.Proofs.YthdflbpmabcjlaaDoor.Lt
open Go Go.RowKit Go.Proofs.YthdflbpmabcjlaaDoor.Words Go.Proofs.YthdflbpmabcjlaaDoor.Enc Go.Proofs.YthdflbpmabcjlaaDoor.Evt Go.Proofs.YthdflbpmabcjlaaDoor.Made Go.Proofs.YthdflbpmabcjlaaDoor.Seg
set_option linter.unusedVariables false
set_option linter.unusedSimpArgs false

set_option maxRecDepth 100000 in
set_option maxHeartbeats 4000000 in
theorem letter_k2 (w : World) (d : Dr) (lh : List Nat) (S : List Mtx.RowS) (le : List Nat) (lb : List UInt8) (h : DrAt w d lh S le lb) (hk : 1 + d.kd % 7 = 2) :
    Calls Tryd.prog 8 #[.agg (drV d)] w (LetGives w) := by
  have HD := Lib.hid h
  obtain ⟨u0, hu0⟩ : ∃ u, u = (w.alloc (.cells (drV d) 29)).alloc (.cells #[.int .u8 0, .int .i64 0, .int .i64 0, .bool false, .int .u64 0, .slice none 0 0, .slice none 0 0, .slice none 0 0, .int .u64 0, .int .u64 0, .int .u32 0, .int .u64 0, .slice none 0 0, .int .i64 0] 37) := ⟨_, rfl⟩
  obtain ⟨u, hu⟩ : ∃ u, u = u0.alloc (.cells #[.int .u8 (1 + (d.kd : Int) % 7), .int .i64 ((d.fr : Int) % 64), .int .i64 ((d.tt : Int) % 64), .bool d.mine, .int .u64 ((d.ser : Int) % 9223372036854775808), .slice none 0 0, .slice none 0 0, .slice none 0 0, .int .u64 0, .int .u64 0, .int .u32 0, .int .u64 0, .slice none 0 0, .int .i64 0] 37) := ⟨_, rfl⟩
  have hb0 : Below w.heap.size w u0 := by rw [hu0]; exact ((Below.refl _ _).alloc (Nat.le_refl _) _).alloc (by simp) _
  have hz0 : u0.heap.size = w.heap.size + 2 := by rw [hu0]; simp
  have hg0 : u0.heap[w.heap.size]? = some (.cells (drV d) 29 (0, 0)) := by
    rw [hu0, Below.heap_alloc _ _ _ (by simp)]
    exact heap_alloc_new w _
  have hg1 : u0.heap[w.heap.size + 1]? = some (.cells #[.int .u8 0, .int .i64 0, .int .i64 0, .bool false, .int .u64 0, .slice none 0 0, .slice none 0 0, .slice none 0 0, .int .u64 0, .int .u64 0, .int .u32 0, .int .u64 0, .slice none 0 0, .int .i64 0] 37 (0, 0)) := by
    have := heap_alloc_new (w.alloc (.cells (drV d) 29)) (.cells #[.int .u8 0, .int .i64 0, .int .i64 0, .bool false, .int .u64 0, .slice none 0 0, .slice none 0 0, .slice none 0 0, .int .u64 0, .int .u64 0, .int .u32 0, .int .u64 0, .slice none 0 0, .int .i64 0] 37)
    rw [hu0]
    simpa using this
  have hal : Below u0.heap.size u0 u := by rw [hu]; exact (Below.refl _ _).alloc (Nat.le_refl _) _
  have DS : DSt w u d (ltV (bgn d 2) Adr.zero) := ⟨(hal.block _ (by omega)).trans hg0, (hal.block _ (by omega)).trans hg1, by
    have e0 : 1 + (d.kd : Int) % 7 = ((2 : Nat) : Int) := by omega
    have e1 : (d.fr : Int) % 64 = ((d.fr % 64 : Nat) : Int) := by omega
    have e2 : (d.tt : Int) % 64 = ((d.tt % 64 : Nat) : Int) := by omega
    have e3 : (d.ser : Int) % 9223372036854775808 = ((d.ser % 9223372036854775808 : Nat) : Int) := by omega
    rw [hu, e0, e1, e2, e3, ← hz0]; exact heap_alloc_new u0 _, hb0.trans (hal.mono (by omega))⟩
  obtain ⟨c0, c1, c2, c3, c4, c5, c6, c7, c8, c9, c10, c11, c12⟩ := dr_cells hg0
  have hu8 := h.u8s
  have hu64 := h.u64s
  have HU0 := Lib.hid hu0
  have HU := Lib.hid hu
  have HZ0 := Lib.hid hz0
  have HDS := Lib.hid DS
  clear hu0 hu hb0 hz0 hg0 hg1 hal DS h hk
  unfold drV at HU0 ⊢
  go_enter Tryd.func8, Tryd.ntmps8
  go_upto_region 1 with fail
  rw [← HU0.out]
  go_upto_region 2 with fail
  rw [HZ0.out, ← HU.out]
  obtain ⟨d0, d1, d2, d3, d4, d5, d6, d7, d8, d9, d10, d11, d12⟩ := dr_cells HDS.out.dr
  have k0 : u.cell? ⟨w.heap.size + 2, 0, none⟩ = some (.int .u8 2) := (HDS.out.cell 0).trans rfl
  have k5 : u.cell? ⟨w.heap.size + 2, 5, none⟩ = some (.slice none 0 0) := (HDS.out.cell 5).trans rfl
  have f5 := HDS.out.froz 5
  have VC := Lib.hid (vector_any d.Ha d.hn d.hc lh u (HD.out.H.below HDS.out.b) (by have := HD.out.few.1; omega))
  clear HU c0 c1 c2 c3 c4 c5 c6 c7 c8 c9 c10 c11 c12
  obtain ⟨vl, hvl⟩ : ∃ vl, vl = vecL lh := ⟨_, rfl⟩
  obtain ⟨vn, hvn⟩ : ∃ vn, vn = vl.length := ⟨_, rfl⟩
  rw [← hvl, ← hvn] at VC
  have HVN := Lib.hid (And.intro hvl hvn)
  clear hvl hvn
  go_wp2_with fail
  refine VC.out.mono ?_
  rintro e u1 ⟨VA, vc, rfl, own1, hb1⟩
  have D1 := Lib.hid (HDS.out.below hb1)
  have k5' : u1.cell? ⟨w.heap.size + 2, 5, none⟩ = some (.slice none 0 0) := (D1.out.cell 5).trans rfl
  have f5' := D1.out.froz 5
  have D2 : Hid (DSt w (u1.setCell ⟨w.heap.size + 2, 5, none⟩ (.slice VA vn vc)) d (ltV { bgn d 2 with H := vl } { Adr.zero with Ha := VA, hn := vn, hc := vc })) := Lib.hid (D1.out.set 5 _)
  have OW2 : Hid ((u1.setCell ⟨w.heap.size + 2, 5, none⟩ (.slice VA vn vc)).ownsRow (w.heap.size + 3) 22 1 (.slice VA vn vc) vn (Vec.us vl)) := Lib.hid (Own.beside (Own.lower own1 (by have := HDS.out.size; omega)) ((Beside.refl [w.heap.size + 2] u1).setCell (by simp) _) (by simp))
  clear own1 hb1 VC d0 d1 d2 d3 d4 d5 d6 d7 d8 d9 d10 d11 d12 k0 k5 f5
  go_upto_region 8 with fail
  generalize u1.setCell ⟨w.heap.size + 2, 5, none⟩ (.slice VA vn vc) = u2 at D2 OW2 ⊢
  clear k5' f5' D1 HDS
  have HVS : Hid (Vec.Small vl) := Lib.hid (by
    have h1 := vecL_len lh
    rw [← HVN.out.1] at h1
    refine ⟨by omega, fun i => ?_⟩
    unfold Vec.at_
    rw [List.getD_eq_getElem?_getD]
    cases hi : vl[i]? with
    | none => exact Nat.zero_le _
    | some z => have := vecL_small (l := lh) z (by rw [← HVN.out.1]; exact List.mem_of_getElem? hi); show z ≤ _; omega)
  obtain ⟨N, hN⟩ : ∃ N, N = min d.rn 64 := ⟨_, rfl⟩
  have HN := Lib.hid hN
  have hN64 : N ≤ 64 := by omega
  have hNr : N ≤ d.rn := by omega
  have hrb := HD.out.few.2.1
  obtain ⟨irow, hirow, hzrow, hszrow, hbyrow⟩ := info_parts infoRow
  have INV : Hid (RInv (w.heap.size + 3) 0 [] none 0 u2 ∧ DSt w u2 d (ltV { bgn d 2 with H := vl } { Adr.zero with Ha := VA, hn := vn, hc := vc }) ∧ u2.ownsRow (w.heap.size + 3) 22 1 (.slice VA vn vc) vn (Vec.us vl)) := Lib.hid ⟨⟨World.ownsRow_nil u2 _ _ 3, (fun t ht => by cases ht), (fun t ht => by cases ht)⟩, D2.out, OW2.out⟩
  clear hN D2 OW2
  go_wp2_with fail
  go_loopw [4] (fun y wr => ∃ (j c : Nat) (A : Option Addr) (T : List RV), y = .int .i64 (j : Int) ∧ j ≤ N ∧ Hid (RInv (w.heap.size + 3) j T A c wr ∧ DSt w wr d (ltV { bgn d 2 with H := vl } { Adr.zero with Ha := VA, hn := vn, hc := vc, Ra := A, rn := j, rc := c }) ∧ wr.ownsRow (w.heap.size + 3) 22 1 (.slice VA vn vc) vn (Vec.us vl))) (fun y _ => N - (intOf y).toNat)
  case atStart => exact ⟨0, 0, none, [], rfl, Nat.zero_le _, INV⟩
  case round =>
    obtain ⟨j, c, A, T, rfl, hj, HI⟩ := hrel
    obtain ⟨-, -, -, -, -, -, -, -, -, -, d10, -⟩ := dr_cells HI.out.2.1.dr
    by_cases hlt : j < N
    · have hij : (j : Int) < (d.rn : Int) := by omega
      have hj64 : (j : Int) < 64 := by omega
      have hd0 : (0 : Int) ≤ (j : Int) := by omega
      obtain ⟨lb, lo, hRa, hin, hcl⟩ := (RowsIn.below HD.out.R HI.out.2.1.b) j (by rw [HD.out.rn]; omega)
      have hrf := HD.out.rf j (by rw [HD.out.rn]; omega)
      generalize S.getD j default = rs at hin hcl hrf
      obtain ⟨nd, QA, qn, qc, RH, rt⟩ := rs
      have q0 := hcl 0 _ rfl
      have q1 := hcl 1 _ rfl
      have q2 := hcl 2 _ rfl
      rw [Nat.add_zero] at q0
      have hse := hin.sees
      have hrt := hin.time
      have hqc := hin.cap
      simp only at hse hrt hqc hrf q0 q1 q2
      obtain ⟨un, hune⟩ : ∃ un : Nat, un = (nd % 18446744073709551616).toNat := ⟨_, rfl⟩
      have hun : IntKind.u64.wrap nd = (un : Int) := by rw [IntKind.wrap_u64]; omega
      obtain ⟨nn, hnne⟩ : ∃ nn : Nat, nn = un % 64 := ⟨_, rfl⟩
      have hnn : (un : Int) % 64 = (nn : Int) := by omega
      have htm : (un : Int).tmod 64 = (nn : Int) := by rw [Int.tmod_eq_emod_of_nonneg (by omega)]; exact hnn
      have hnw : IntKind.i64.wrap (nn : Int) = (nn : Int) := by rw [IntKind.wrap_i64]; omega
      obtain ⟨r2, hr2⟩ : ∃ r2 : Nat, r2 = rt % 9223372036854775808 := ⟨_, rfl⟩
      have hrm : (rt : Int) % 9223372036854775808 = (r2 : Int) := by omega
      have htm2 : (rt : Int).tmod 9223372036854775808 = (r2 : Int) := by rw [Int.tmod_eq_emod_of_nonneg (by omega)]; exact hrm
      obtain ⟨rl, hrl⟩ : ∃ rl, rl = vecL RH := ⟨_, rfl⟩
      have ROK : Hid (nn < 64 ∧ Vec.Small rl ∧ r2 < 9223372036854775808) := Lib.hid ⟨by omega, by rw [hrl]; exact small_vec RH, by omega⟩
      have VCR := Lib.hid (fun (W : World) (hs : Vec.SeesU W QA qn RH) => (by have := vector_any QA qn qc RH W hs (by omega); rw [← hrl] at this; exact this : Calls Tryd.prog 16 #[.slice QA qn qc] W fun e w' => ∃ A' c', e = .returned (.slice A' rl.length c') ∧ w'.ownsRow W.heap.size 22 1 (.slice A' rl.length c') rl.length (Vec.us rl) ∧ Below W.heap.size W w'))
      have HWZ := Lib.hid HI.out.2.1.size
      have k6 : wr.cell? ⟨w.heap.size + 2, 6, none⟩ = some (.slice A j c) := (HI.out.2.1.cell 6).trans rfl
      rw [hRa] at d10
      have HC := Lib.hid (fun (W : World) (hW : Below wr.drew.heap.size wr.drew W) => (by
        have hW2 := (Below.refl wr.heap.size wr).drew.trans hW
        have mv : ∀ {p : Addr} {v : Value}, wr.cell? p = some v → W.cell? p = some v := fun h => by rw [hW2.cell (World.block_lt_of_cell? _ _ h)]; exact h
        exact ⟨mv k6, mv d10, mv q0, mv q1, mv q2, hse.below hW2⟩ : W.cell? ⟨w.heap.size + 2, 6, none⟩ = some (.slice A j c) ∧ W.cell? ⟨w.heap.size, 10, none⟩ = some (.slice (some ⟨lb, lo, none⟩) d.rn d.rc) ∧ W.cell? ⟨lb, lo + j * 3, none⟩ = some (.int .i64 nd) ∧ W.cell? ⟨lb, lo + j * 3 + 1, none⟩ = some (.slice QA qn qc) ∧ W.cell? ⟨lb, lo + j * 3 + 2, none⟩ = some (.int .u64 (rt : Int)) ∧ Vec.SeesU W QA qn RH))
      clear hune hnne hr2 hrl hcl hin hse hrt hqc hrf q0 q1 q2 hRa k6
      go_wp2_with fail
      clear d10
      refine Facts.wp_region_tail 27 (n := 119) (by kernel_rfl) (by kernel_rfl) (by kernel_rfl) rfl [Facts.Pred.is (.pointer (some ⟨w.heap.size + 2, 6, none⟩)), Facts.Pred.is (.slice A j c), Facts.Pred.is (.pointer (some ⟨w.heap.size, 10, none⟩)), Facts.Pred.is (.slice (some ⟨lb, lo, none⟩) d.rn d.rc), Facts.Pred.is (.int .i64 (j : Int)), Facts.Pred.is (.pointer (some ⟨lb, lo + j * 3, none⟩)), Facts.Pred.is (.pointer (some ⟨lb, lo + j * 3, none⟩)), Facts.Pred.is (.int .i64 nd), Facts.Pred.is (.int .u64 (un : Int)), Facts.Pred.is (.int .u64 (nn : Int)), Facts.Pred.is (.int .i64 (nn : Int)), Facts.Pred.is (.pointer (some ⟨w.heap.size, 10, none⟩)), Facts.Pred.is (.slice (some ⟨lb, lo, none⟩) d.rn d.rc), Facts.Pred.is (.int .i64 (j : Int)), Facts.Pred.is (.pointer (some ⟨lb, lo + j * 3, none⟩)), Facts.Pred.is (.pointer (some ⟨lb, lo + j * 3 + 1, none⟩)), Facts.Pred.is (.slice QA qn qc), PVec (wr.heap.size) rl, Facts.Pred.is (.pointer (some ⟨w.heap.size, 10, none⟩)), Facts.Pred.is (.slice (some ⟨lb, lo, none⟩) d.rn d.rc), Facts.Pred.is (.int .i64 (j : Int)), Facts.Pred.is (.pointer (some ⟨lb, lo + j * 3, none⟩)), Facts.Pred.is (.pointer (some ⟨lb, lo + j * 3 + 2, none⟩)), Facts.Pred.is (.int .u64 (rt : Int)), Facts.Pred.is (.int .u64 (r2 : Int)), PRow (wr.heap.size) (nn : Int) rl (r2 : Int), PBox (wr.heap.size) (nn : Int) rl (r2 : Int)] ?_ ?_
      · refine ⟨?_, ?_, ?_, ?_, ?_, ?_, ?_, ?_, ?_, ?_, ?_, ?_, ?_, ?_, ?_, ?_, ?_, ?_, ?_, ?_, ?_, ?_, ?_, ?_, ?_, ?_, ?_, trivial⟩
        · refine Facts.step_is (.pointer (some ⟨w.heap.size + 2, 6, none⟩)) fun a W hR hold hnew => ?_
          have f3 : a.tmps.getD 3 undef = .pointer (some ⟨w.heap.size + 2, 0, none⟩) := hold 3 (by kernel_rfl)
          refine ⟨Facts.wanted_free rfl, ?_, fun _ => rfl⟩; simp [go_sem, Act.eval, f3]
        · refine Facts.step_is (.slice A j c) fun a W hR hold hnew => ?_
          have f48 : a.tmps.getD 48 undef = .pointer (some ⟨w.heap.size + 2, 6, none⟩) := hnew 0 48 (by kernel_rfl)
          have q := (HC.out W hR).1
          refine ⟨Facts.wanted_free rfl, ?_, fun _ => rfl⟩; simp [go_sem, Act.eval, f48, q]
        · refine Facts.step_is (.pointer (some ⟨w.heap.size, 10, none⟩)) fun a W hR hold hnew => ?_
          have f1 : a.tmps.getD 1 undef = .pointer (some ⟨w.heap.size, 0, none⟩) := hold 1 (by kernel_rfl)
          refine ⟨Facts.wanted_free rfl, ?_, fun _ => rfl⟩; simp [go_sem, Act.eval, f1]
        · refine Facts.step_is (.slice (some ⟨lb, lo, none⟩) d.rn d.rc) fun a W hR hold hnew => ?_
          have f50 : a.tmps.getD 50 undef = .pointer (some ⟨w.heap.size, 10, none⟩) := hnew 2 50 (by kernel_rfl)
          have q := (HC.out W hR).2.1
          refine ⟨Facts.wanted_free rfl, ?_, fun _ => rfl⟩; simp [go_sem, Act.eval, f50, q]
        · refine Facts.step_is (.int .i64 (j : Int)) fun a W hR hold hnew => ?_
          have f4 : a.tmps.getD 4 undef = .int .i64 (j : Int) := hold 4 (by kernel_rfl)
          refine ⟨Facts.wanted_free rfl, ?_, fun _ => rfl⟩; simp [go_sem, Act.eval, f4]
        · refine Facts.step_is (.pointer (some ⟨lb, lo + j * 3, none⟩)) fun a W hR hold hnew => ?_
          have f51 : a.tmps.getD 51 undef = .slice (some ⟨lb, lo, none⟩) d.rn d.rc := hnew 3 51 (by kernel_rfl)
          have f52 : a.tmps.getD 52 undef = .int .i64 (j : Int) := hnew 4 52 (by kernel_rfl)
          refine ⟨Facts.wanted_free rfl, ?_, fun _ => rfl⟩; simp [go_sem, Act.eval, f51, f52, hij]
        · refine Facts.step_is (.pointer (some ⟨lb, lo + j * 3, none⟩)) fun a W hR hold hnew => ?_
          have f53 : a.tmps.getD 53 undef = .pointer (some ⟨lb, lo + j * 3, none⟩) := hnew 5 53 (by kernel_rfl)
          refine ⟨Facts.wanted_free rfl, ?_, fun _ => rfl⟩; simp [go_sem, Act.eval, f53]
        · refine Facts.step_is (.int .i64 nd) fun a W hR hold hnew => ?_
          have f54 : a.tmps.getD 54 undef = .pointer (some ⟨lb, lo + j * 3, none⟩) := hnew 6 54 (by kernel_rfl)
          have q := (HC.out W hR).2.2.1
          refine ⟨Facts.wanted_free rfl, ?_, fun _ => rfl⟩; simp [go_sem, Act.eval, f54, q]
        · refine Facts.step_is (.int .u64 (un : Int)) fun a W hR hold hnew => ?_
          have f55 : a.tmps.getD 55 undef = .int .i64 nd := hnew 7 55 (by kernel_rfl)
          refine ⟨Facts.wanted_free rfl, ?_, fun _ => rfl⟩; simp [go_sem, Act.eval, f55, hun]
        · refine Facts.step_is (.int .u64 (nn : Int)) fun a W hR hold hnew => ?_
          have f56 : a.tmps.getD 56 undef = .int .u64 (un : Int) := hnew 8 56 (by kernel_rfl)
          refine ⟨Facts.wanted_free rfl, ?_, fun _ => rfl⟩; simp [go_sem, Act.eval, f56, hnn, htm]
        · refine Facts.step_is (.int .i64 (nn : Int)) fun a W hR hold hnew => ?_
          have f57 : a.tmps.getD 57 undef = .int .u64 (nn : Int) := hnew 9 57 (by kernel_rfl)
          refine ⟨Facts.wanted_free rfl, ?_, fun _ => rfl⟩; simp [go_sem, Act.eval, f57, hnw]
        · refine Facts.step_is (.pointer (some ⟨w.heap.size, 10, none⟩)) fun a W hR hold hnew => ?_
          have f1 : a.tmps.getD 1 undef = .pointer (some ⟨w.heap.size, 0, none⟩) := hold 1 (by kernel_rfl)
          refine ⟨Facts.wanted_free rfl, ?_, fun _ => rfl⟩; simp [go_sem, Act.eval, f1]
        · refine Facts.step_is (.slice (some ⟨lb, lo, none⟩) d.rn d.rc) fun a W hR hold hnew => ?_
          have f59 : a.tmps.getD 59 undef = .pointer (some ⟨w.heap.size, 10, none⟩) := hnew 11 59 (by kernel_rfl)
          have q := (HC.out W hR).2.1
          refine ⟨Facts.wanted_free rfl, ?_, fun _ => rfl⟩; simp [go_sem, Act.eval, f59, q]
        · refine Facts.step_is (.int .i64 (j : Int)) fun a W hR hold hnew => ?_
          have f4 : a.tmps.getD 4 undef = .int .i64 (j : Int) := hold 4 (by kernel_rfl)
          refine ⟨Facts.wanted_free rfl, ?_, fun _ => rfl⟩; simp [go_sem, Act.eval, f4]
        · refine Facts.step_is (.pointer (some ⟨lb, lo + j * 3, none⟩)) fun a W hR hold hnew => ?_
          have f60 : a.tmps.getD 60 undef = .slice (some ⟨lb, lo, none⟩) d.rn d.rc := hnew 12 60 (by kernel_rfl)
          have f61 : a.tmps.getD 61 undef = .int .i64 (j : Int) := hnew 13 61 (by kernel_rfl)
          refine ⟨Facts.wanted_free rfl, ?_, fun _ => rfl⟩; simp [go_sem, Act.eval, f60, f61, hij]
        · refine Facts.step_is (.pointer (some ⟨lb, lo + j * 3 + 1, none⟩)) fun a W hR hold hnew => ?_
          have f62 : a.tmps.getD 62 undef = .pointer (some ⟨lb, lo + j * 3, none⟩) := hnew 14 62 (by kernel_rfl)
          refine ⟨Facts.wanted_free rfl, ?_, fun _ => rfl⟩; simp [go_sem, Act.eval, f62]
        · refine Facts.step_is (.slice QA qn qc) fun a W hR hold hnew => ?_
          have f63 : a.tmps.getD 63 undef = .pointer (some ⟨lb, lo + j * 3 + 1, none⟩) := hnew 15 63 (by kernel_rfl)
          have q := (HC.out W hR).2.2.2.1
          refine ⟨Facts.wanted_free rfl, ?_, fun _ => rfl⟩; simp [go_sem, Act.eval, f63, q]
        · refine Facts.step_call fun a W hR hold hnew => ?_
          have f64 : a.tmps.getD 64 undef = .slice QA qn qc := hnew 16 64 (by kernel_rfl)
          have q := (HC.out W hR).2.2.2.2.2
          refine ⟨Facts.wanted_free rfl, 16, #[.slice QA qn qc], by simp [go_sem, Act.eval, f64], ?_⟩
          refine (VCR.out W q).mono ?_
          rintro e w8 ⟨A8, c8, rfl, own8, hb8⟩
          exact ⟨_, rfl, hb8, A8, c8, rfl, Own.lower own8 hR.size⟩
        · refine Facts.step_is (.pointer (some ⟨w.heap.size, 10, none⟩)) fun a W hR hold hnew => ?_
          have f1 : a.tmps.getD 1 undef = .pointer (some ⟨w.heap.size, 0, none⟩) := hold 1 (by kernel_rfl)
          refine ⟨Facts.wanted_free rfl, ?_, fun _ => rfl⟩; simp [go_sem, Act.eval, f1]
        · refine Facts.step_is (.slice (some ⟨lb, lo, none⟩) d.rn d.rc) fun a W hR hold hnew => ?_
          have f66 : a.tmps.getD 66 undef = .pointer (some ⟨w.heap.size, 10, none⟩) := hnew 18 66 (by kernel_rfl)
          have q := (HC.out W hR).2.1
          refine ⟨Facts.wanted_free rfl, ?_, fun _ => rfl⟩; simp [go_sem, Act.eval, f66, q]
        · refine Facts.step_is (.int .i64 (j : Int)) fun a W hR hold hnew => ?_
          have f4 : a.tmps.getD 4 undef = .int .i64 (j : Int) := hold 4 (by kernel_rfl)
          refine ⟨Facts.wanted_free rfl, ?_, fun _ => rfl⟩; simp [go_sem, Act.eval, f4]
        · refine Facts.step_is (.pointer (some ⟨lb, lo + j * 3, none⟩)) fun a W hR hold hnew => ?_
          have f67 : a.tmps.getD 67 undef = .slice (some ⟨lb, lo, none⟩) d.rn d.rc := hnew 19 67 (by kernel_rfl)
          have f68 : a.tmps.getD 68 undef = .int .i64 (j : Int) := hnew 20 68 (by kernel_rfl)
          refine ⟨Facts.wanted_free rfl, ?_, fun _ => rfl⟩; simp [go_sem, Act.eval, f67, f68, hij]
        · refine Facts.step_is (.pointer (some ⟨lb, lo + j * 3 + 2, none⟩)) fun a W hR hold hnew => ?_
          have f69 : a.tmps.getD 69 undef = .pointer (some ⟨lb, lo + j * 3, none⟩) := hnew 21 69 (by kernel_rfl)
          refine ⟨Facts.wanted_free rfl, ?_, fun _ => rfl⟩; simp [go_sem, Act.eval, f69]
        · refine Facts.step_is (.int .u64 (rt : Int)) fun a W hR hold hnew => ?_
          have f70 : a.tmps.getD 70 undef = .pointer (some ⟨lb, lo + j * 3 + 2, none⟩) := hnew 22 70 (by kernel_rfl)
          have q := (HC.out W hR).2.2.2.2.1
          refine ⟨Facts.wanted_free rfl, ?_, fun _ => rfl⟩; simp [go_sem, Act.eval, f70, q]
        · refine Facts.step_is (.int .u64 (r2 : Int)) fun a W hR hold hnew => ?_
          have f71 : a.tmps.getD 71 undef = .int .u64 (rt : Int) := hnew 23 71 (by kernel_rfl)
          refine ⟨Facts.wanted_free rfl, ?_, fun _ => rfl⟩; simp [go_sem, Act.eval, f71, hrm, htm2]
        · refine Facts.step_some fun a W hR hold hnew => ?_
          have f58 : a.tmps.getD 58 undef = .int .i64 (nn : Int) := hnew 10 58 (by kernel_rfl)
          have h65 : ∃ A' c', a.tmps.getD 65 undef = .slice A' rl.length c' ∧ W.ownsRow (wr.heap.size) 22 1 (.slice A' rl.length c') rl.length (Vec.us rl) := hnew 17 65 (by kernel_rfl)
          obtain ⟨A65, c65, f65, o65⟩ := h65
          have f72 : a.tmps.getD 72 undef = .int .u64 (r2 : Int) := hnew 24 72 (by kernel_rfl)
          rw [Array.getD_eq_getD_getElem?] at f58 f65 f72
          exact ⟨Facts.wanted_free rfl, .agg #[.int .i64 (nn : Int), .slice A65 rl.length c65, .int .u64 (r2 : Int)], by simp [go_sem, Act.eval, f58, f65, f72], A65, c65, rfl, o65⟩
        · refine Facts.step_new fun a W hR hold hnew => ?_
          have h73 : ∃ A' c', a.tmps.getD 73 undef = .agg #[.int .i64 (nn : Int), .slice A' rl.length c', .int .u64 (r2 : Int)] ∧ W.ownsRow (wr.heap.size) 22 1 (.slice A' rl.length c') rl.length (Vec.us rl) := hnew 25 73 (by kernel_rfl)
          obtain ⟨A73, c73, f73, o73⟩ := h73
          rw [Array.getD_eq_getD_getElem?] at f73
          exact ⟨Facts.wanted_free rfl, .slice (some ⟨W.heap.size, 0, none⟩) 1 1, W.alloc (.cells #[.int .i64 (nn : Int), .slice A73 rl.length c73, .int .u64 (r2 : Int)] 45), by simp [go_sem, Act.eval, f73], (Below.refl _ _).alloc (Nat.le_refl _) _, A73, c73, W.heap.size, rfl, heap_alloc_new W _, Own.below o73 ((Below.refl _ _).alloc (Nat.le_refl _) _) (Nat.le_refl _)⟩
      · intro a w5 hR' hsize hdef hnew hold
        have f49 : a.tmps.getD 49 undef = .slice A j c := hnew 1 49 (by omega) (by kernel_rfl)
        have h74 : ∃ A' c' g', a.tmps.getD 74 undef = .slice (some ⟨g', 0, none⟩) 1 1 ∧ w5.heap[g']? = some (.cells #[.int .i64 (nn : Int), .slice A' rl.length c', .int .u64 (r2 : Int)] 45 (0, 0)) ∧ w5.ownsRow (wr.heap.size) 22 1 (.slice A' rl.length c') rl.length (Vec.us rl) := hnew 26 74 (by omega) (by kernel_rfl)
        obtain ⟨A74, c74, g74, f74, b74, o74⟩ := h74
        obtain ⟨tm9, df⟩ := a
        have hfr := Ord.frame_region hsize (by rfl) (fun t ht => hold t fun k _ => ht k)
        clear hnew hold
        simp only [List.filterMap_cons, List.filterMap_nil] at hfr
        simp only [List.foldl_cons, List.foldl_nil, List.setIfInBounds_toArray, List.set_cons_succ, List.set_cons_zero] at hfr
        simp only [] at f49 f74 hdef
        rw [f49, f74] at hfr
        clear f49 f74 hsize
        generalize tm9.getD 48 undef = y48 at hfr
        generalize tm9.getD 50 undef = y50 at hfr
        generalize tm9.getD 51 undef = y51 at hfr
        generalize tm9.getD 52 undef = y52 at hfr
        generalize tm9.getD 53 undef = y53 at hfr
        generalize tm9.getD 54 undef = y54 at hfr
        generalize tm9.getD 55 undef = y55 at hfr
        generalize tm9.getD 56 undef = y56 at hfr
        generalize tm9.getD 57 undef = y57 at hfr
        generalize tm9.getD 58 undef = y58 at hfr
        generalize tm9.getD 59 undef = y59 at hfr
        generalize tm9.getD 60 undef = y60 at hfr
        generalize tm9.getD 61 undef = y61 at hfr
        generalize tm9.getD 62 undef = y62 at hfr
        generalize tm9.getD 63 undef = y63 at hfr
        generalize tm9.getD 64 undef = y64 at hfr
        generalize tm9.getD 65 undef = y65 at hfr
        generalize tm9.getD 66 undef = y66 at hfr
        generalize tm9.getD 67 undef = y67 at hfr
        generalize tm9.getD 68 undef = y68 at hfr
        generalize tm9.getD 69 undef = y69 at hfr
        generalize tm9.getD 70 undef = y70 at hfr
        generalize tm9.getD 71 undef = y71 at hfr
        generalize tm9.getD 72 undef = y72 at hfr
        generalize tm9.getD 73 undef = y73 at hfr
        generalize tm9.getD 75 undef = y75 at hfr
        generalize tm9.getD 76 undef = y76 at hfr
        subst hfr
        subst hdef
        simp only [List.drop_succ_cons, List.drop_zero]
        have hRW := (Below.refl wr.heap.size wr).drew.trans hR'
        have I5 := Lib.hid (HI.out.1.below hRW)
        have D5 := Lib.hid (HI.out.2.1.below hRW)
        have O5 := Lib.hid (Own.below HI.out.2.2 hRW (Nat.le_refl _))
        have B74 := Lib.hid b74
        have V74 : Hid (VecNw (w.heap.size + 3) (.slice A j c) w5 ⟨⟨nn, rl, r2⟩, A74, rl.length, c74⟩) := Lib.hid ⟨Vec.SeesU.of_own o74, Fresh.of_own o74 (by have := HWZ.out; omega), Out.of_own o74 (fun x hx => (own_block HI.out.1.own x hx).2.1)⟩
        clear hRW hR' o74 HC VCR b74 HI
        go_wp2_with (first | (at_builtin; refine wpList_append_own_at _ rfl _ _ 25 rfl (w.heap.size + 3) 45 irow zeroRV 3 40 Tryd.underlying25 hirow hzrow hszrow hbyrow rfl (by decide) (.slice A j c) j (rvL T) rfl I5.out.own ⟨g74, 0, none⟩ 1 1 [.int .i64 (nn : Int), .slice A74 rl.length c74, .int .u64 (r2 : Int)] rfl rfl ?c1 ?c2 ?c3 ?c4 ?c5 ?_))
        case c1 =>
          intro jj uu hjj
          rw [add_plain, Nat.zero_add, cell_of_row _ _ _ _ _ _ B74.out]
          rw [← hjj, ← Array.getElem?_toList]
        case c2 => simp [Value.oneCell']
        case c3 => unfold maxLen; omega
        case c4 => omega
        case c5 => have := D5.out.size; omega
        intro v' w6 hown6 hgrow6 _ hat6
        obtain ⟨A6, c6, rfl, hc6⟩ := own_shape8 hown6
        have hown7 : w6.ownsRow (w.heap.size + 3) 45 3 (.slice A6 (j + 1) c6) (j + 1) (rvL (T ++ [⟨⟨nn, rl, r2⟩, A74, rl.length, c74⟩])) := by
          rw [rvL_app]
          simpa [rvL, RV.cells] using hown6
        have I6 := I5.out.more hgrow6 hown7 hat6 V74.out ROK.out
        have hbb := (Beside.refl (Value.slice A j c).ownBlock.toList w5).grown hgrow6 fun k hk => .inl (by simp [hk])
        have D6 : DSt w w6 d (ltV { bgn d 2 with H := vl } { Adr.zero with Ha := VA, hn := vn, hc := vc, Ra := A, rn := j, rc := c }) := D5.out.beside hbb (fun x hx => (own_block I5.out.own x hx).1)
        have O6 : w6.ownsRow (w.heap.size + 3) 22 1 (.slice VA vn vc) vn (Vec.us vl) := own_apart O5.out I5.out.own (by decide) hbb
        have k6 : w6.cell? ⟨w.heap.size + 2, 6, none⟩ = some (.slice A j c) := (D6.cell 6).trans rfl
        have f6 := D6.froz 6
        have hbs : Beside [w.heap.size + 2] w6 (w6.setCell ⟨w.heap.size + 2, 6, none⟩ (.slice A6 (j + 1) c6)) := (Beside.refl [w.heap.size + 2] w6).setCell (p := ⟨w.heap.size + 2, 6, none⟩) (by simp) _
        have FIN := Lib.hid (And.intro (I6.beside hbs (by simp)) (And.intro (D6.set 6 (.slice A6 (j + 1) c6)) (Own.beside O6 hbs (by simp))))
        clear hown6 hgrow6 hat6 hown7 I6 hbb D6 O6 hbs V74 B74 I5 D5 O5
        go_wp2
        go_roundw
        case rel => exact ⟨j + 1, c6, A6, T ++ [⟨⟨nn, rl, r2⟩, A74, rl.length, c74⟩], by simp, by omega, FIN⟩
        case measure => simp [intOf]; omega
    · obtain rfl : j = N := by omega
      have HOK : Hid (Ok { bgn d 2 with H := vl, rows := T.map RV.r }) := Lib.hid (by
        have := bgn_ok d (k := 2) (by omega)
        exact ⟨this.kind, this.ends, this.serial, HVS.out, ⟨by show (T.map RV.r).length ≤ _; rw [List.length_map, HI.out.1.len]; omega, fun r hr => by obtain ⟨t, ht, rfl⟩ := List.mem_map.1 hr; exact HI.out.1.ok t ht⟩, this.E, this.time, this.size, this.bytes⟩)
      have DSF : Hid (DSt w wr d (ltV { bgn d 2 with H := vl, rows := T.map RV.r } { Adr.zero with Ha := VA, hn := vn, hc := vc, Ra := A, rn := j, rc := c })) := Lib.hid HI.out.2.1
      have HL : Hid (Lies w wr { bgn d 2 with H := vl, rows := T.map RV.r } { Adr.zero with Ha := VA, hn := vn, hc := vc, Ra := A, rn := j, rc := c } []) := Lib.hid fun W' hb => ⟨Vec.SeesU.of_own (Own.beside HI.out.2.2 hb (by simp)), by show j = (T.map RV.r).length; rw [List.length_map, HI.out.1.len], (HI.out.1.beside hb (by simp)).lie, rfl, rfl, (bgn_at W' d 2).E, (bgn_at W' d 2).bytes⟩
      have hcond : (d.rn : Nat) = j ∨ j = 64 := by have := HN.out; omega
      clear HI
      rcases hcond with hc | rfl
      · have hd1 : ¬ (j : Int) < (d.rn : Int) := by omega
        clear hc
        go_upto_region 24 with fail
        clear d10
        have GL := Lib.hid DSF.out.lt
        have GR := Lib.hid DSF.out.rs
        have BB := Lib.hid DSF.out.b
        go_wp2_with (first
          | (refine wpList_getRow rfl 37 (.tmp 3) rfl (w.heap.size + 2) 37 (ltV { bgn d 2 with H := vl, rows := T.map RV.r } { Adr.zero with Ha := VA, hn := vn, hc := vc, Ra := A, rn := j, rc := c }) (0, 0) _ rfl ?g1 Tryd.underlying37 rfl (by kernel_rfl) ?_)
          | (refine wpList_putRow rfl 37 (.tmp 2) (.tmp 118) rfl (w.heap.size + 1) 37 #[.int .u8 0, .int .i64 0, .int .i64 0, .bool false, .int .u64 0, .slice none 0 0, .slice none 0 0, .slice none 0 0, .int .u64 0, .int .u64 0, .int .u32 0, .int .u64 0, .slice none 0 0, .int .i64 0] (ltV { bgn d 2 with H := vl, rows := T.map RV.r } { Adr.zero with Ha := VA, hn := vn, hc := vc, Ra := A, rn := j, rc := c }) rfl rfl ?g2 (by kernel_rfl) rfl (by simp [ltV, Value.oneCell']) ?_))
        case g1 => exact GL.out
        case g2 => exact GR.out
        intro W' hW' hbe
        have FIN := Lib.hid (show LetGives w (.returned (.agg (ltV { bgn d 2 with H := vl, rows := T.map RV.r } { Adr.zero with Ha := VA, hn := vn, hc := vc, Ra := A, rn := j, rc := c }))) W' from ⟨_, _, _, rfl, HL.out W' hbe, HOK.out, Below.beside BB.out hbe BB.out.size (by simp)⟩)
        obtain ⟨c0, c1, c2, c3, c4, c5, c6, c7, c8, c9, c10, c11, c12, c13⟩ := lt_cells hW'
        clear hW' hbe
        go_wp2
        refine bodyPost_ret (v := .agg (ltV { bgn d 2 with H := vl, rows := T.map RV.r } { Adr.zero with Ha := VA, hn := vn, hc := vc, Ra := A, rn := j, rc := c })) ?_ rfl FIN.out
        simp [results, Tryd.results8, go_sem, ltV, c0, c1, c2, c3, c4, c5, c6, c7, c8, c9, c10, c11, c12, c13]
      · by_cases hd : (64 : Int) < (d.rn : Int)
        · have hd1 : ¬ (64 : Int) < (64 : Int) := by omega
          go_upto_region 24 with fail
          clear d10
          have GL := Lib.hid DSF.out.lt
          have GR := Lib.hid DSF.out.rs
          have BB := Lib.hid DSF.out.b
          go_wp2_with (first
            | (refine wpList_getRow rfl 37 (.tmp 3) rfl (w.heap.size + 2) 37 (ltV { bgn d 2 with H := vl, rows := T.map RV.r } { Adr.zero with Ha := VA, hn := vn, hc := vc, Ra := A, rn := 64, rc := c }) (0, 0) _ rfl ?g1 Tryd.underlying37 rfl (by kernel_rfl) ?_)
            | (refine wpList_putRow rfl 37 (.tmp 2) (.tmp 118) rfl (w.heap.size + 1) 37 #[.int .u8 0, .int .i64 0, .int .i64 0, .bool false, .int .u64 0, .slice none 0 0, .slice none 0 0, .slice none 0 0, .int .u64 0, .int .u64 0, .int .u32 0, .int .u64 0, .slice none 0 0, .int .i64 0] (ltV { bgn d 2 with H := vl, rows := T.map RV.r } { Adr.zero with Ha := VA, hn := vn, hc := vc, Ra := A, rn := 64, rc := c }) rfl rfl ?g2 (by kernel_rfl) rfl (by simp [ltV, Value.oneCell']) ?_))
          case g1 => exact GL.out
          case g2 => exact GR.out
          intro W' hW' hbe
          have FIN := Lib.hid (show LetGives w (.returned (.agg (ltV { bgn d 2 with H := vl, rows := T.map RV.r } { Adr.zero with Ha := VA, hn := vn, hc := vc, Ra := A, rn := 64, rc := c }))) W' from ⟨_, _, _, rfl, HL.out W' hbe, HOK.out, Below.beside BB.out hbe BB.out.size (by simp)⟩)
          obtain ⟨c0, c1, c2, c3, c4, c5, c6, c7, c8, c9, c10, c11, c12, c13⟩ := lt_cells hW'
          clear hW' hbe
          go_wp2
          refine bodyPost_ret (v := .agg (ltV { bgn d 2 with H := vl, rows := T.map RV.r } { Adr.zero with Ha := VA, hn := vn, hc := vc, Ra := A, rn := 64, rc := c })) ?_ rfl FIN.out
          simp [results, Tryd.results8, go_sem, ltV, c0, c1, c2, c3, c4, c5, c6, c7, c8, c9, c10, c11, c12, c13]
        · go_upto_region 24 with fail
          clear d10
          have GL := Lib.hid DSF.out.lt
          have GR := Lib.hid DSF.out.rs
          have BB := Lib.hid DSF.out.b
          go_wp2_with (first
            | (refine wpList_getRow rfl 37 (.tmp 3) rfl (w.heap.size + 2) 37 (ltV { bgn d 2 with H := vl, rows := T.map RV.r } { Adr.zero with Ha := VA, hn := vn, hc := vc, Ra := A, rn := 64, rc := c }) (0, 0) _ rfl ?g1 Tryd.underlying37 rfl (by kernel_rfl) ?_)
            | (refine wpList_putRow rfl 37 (.tmp 2) (.tmp 118) rfl (w.heap.size + 1) 37 #[.int .u8 0, .int .i64 0, .int .i64 0, .bool false, .int .u64 0, .slice none 0 0, .slice none 0 0, .slice none 0 0, .int .u64 0, .int .u64 0, .int .u32 0, .int .u64 0, .slice none 0 0, .int .i64 0] (ltV { bgn d 2 with H := vl, rows := T.map RV.r } { Adr.zero with Ha := VA, hn := vn, hc := vc, Ra := A, rn := 64, rc := c }) rfl rfl ?g2 (by kernel_rfl) rfl (by simp [ltV, Value.oneCell']) ?_))
          case g1 => exact GL.out
          case g2 => exact GR.out
          intro W' hW' hbe
          have FIN := Lib.hid (show LetGives w (.returned (.agg (ltV { bgn d 2 with H := vl, rows := T.map RV.r } { Adr.zero with Ha := VA, hn := vn, hc := vc, Ra := A, rn := 64, rc := c }))) W' from ⟨_, _, _, rfl, HL.out W' hbe, HOK.out, Below.beside BB.out hbe BB.out.size (by simp)⟩)
          obtain ⟨c0, c1, c2, c3, c4, c5, c6, c7, c8, c9, c10, c11, c12, c13⟩ := lt_cells hW'
          clear hW' hbe
          go_wp2
          refine bodyPost_ret (v := .agg (ltV { bgn d 2 with H := vl, rows := T.map RV.r } { Adr.zero with Ha := VA, hn := vn, hc := vc, Ra := A, rn := 64, rc := c })) ?_ rfl FIN.out
          simp [results, Tryd.results8, go_sem, ltV, c0, c1, c2, c3, c4, c5, c6, c7, c8, c9, c10, c11, c12, c13]
end Go.Proofs.YthdflbpmabcjlaaDoor.Lt
