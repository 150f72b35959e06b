/- Layer 16: the law's letter, kind 5. Layer 16: the law's letter, kind 6. Layer 16: the law's letter, kind 7. Layer 16: the law's short: how much a draft holds. Layer 16: package letter's takeFields, kind 1. -/
import Derived.Deep.Cut
import Derived.Test.YthdflbpmabcjlaaDoorLTp10
import Derived.Test.YthdflbpmabcjlaaDoorLTp15
import Derived.Test.YthdflbpmabcjlaaDoorLTp25
namespace Go.Proofs.YthdflbpmabcjlaaDoor.Lt
open Go Go.RowKit Go.Proofs.YthdflbpmabcjlaaDoor.Words Go.Proofs.YthdflbpmabcjlaaDoor.Enc Go.Proofs.YthdflbpmabcjlaaDoor.Evt Go.Proofs.YthdflbpmabcjlaaDoor.Made Go.Proofs.YthdflbpmabcjlaaDoor.Seg
set_option linter.unusedVariables false
set_option linter.unusedSimpArgs false

set_option maxRecDepth 100000 in
set_option maxHeartbeats 4000000 in
theorem letter_k5 (w : World) (d : Dr) (lh : List Nat) (S : List Mtx.RowS) (le : List Nat) (lb : List UInt8) (h : DrAt w d lh S le lb) (hk : 1 + d.kd % 7 = 5) :
    Calls Tryd.prog 8 #[.agg (drV d)] w (LetGives w) := by
  have HD := Lib.hid h
  obtain ⟨u0, hu0⟩ : ∃ u, u = (w.alloc (.cells (drV d) 29)).alloc (.cells #[.int .u8 0, .int .i64 0, .int .i64 0, .bool false, .int .u64 0, .slice none 0 0, .slice none 0 0, .slice none 0 0, .int .u64 0, .int .u64 0, .int .u32 0, .int .u64 0, .slice none 0 0, .int .i64 0] 37) := ⟨_, rfl⟩
  obtain ⟨u, hu⟩ : ∃ u, u = u0.alloc (.cells #[.int .u8 (1 + (d.kd : Int) % 7), .int .i64 ((d.fr : Int) % 64), .int .i64 ((d.tt : Int) % 64), .bool d.mine, .int .u64 ((d.ser : Int) % 9223372036854775808), .slice none 0 0, .slice none 0 0, .slice none 0 0, .int .u64 0, .int .u64 0, .int .u32 0, .int .u64 0, .slice none 0 0, .int .i64 0] 37) := ⟨_, rfl⟩
  have hb0 : Below w.heap.size w u0 := by rw [hu0]; exact ((Below.refl _ _).alloc (Nat.le_refl _) _).alloc (by simp) _
  have hz0 : u0.heap.size = w.heap.size + 2 := by rw [hu0]; simp
  have hg0 : u0.heap[w.heap.size]? = some (.cells (drV d) 29 (0, 0)) := by
    rw [hu0, Below.heap_alloc _ _ _ (by simp)]
    exact heap_alloc_new w _
  have hg1 : u0.heap[w.heap.size + 1]? = some (.cells #[.int .u8 0, .int .i64 0, .int .i64 0, .bool false, .int .u64 0, .slice none 0 0, .slice none 0 0, .slice none 0 0, .int .u64 0, .int .u64 0, .int .u32 0, .int .u64 0, .slice none 0 0, .int .i64 0] 37 (0, 0)) := by
    have := heap_alloc_new (w.alloc (.cells (drV d) 29)) (.cells #[.int .u8 0, .int .i64 0, .int .i64 0, .bool false, .int .u64 0, .slice none 0 0, .slice none 0 0, .slice none 0 0, .int .u64 0, .int .u64 0, .int .u32 0, .int .u64 0, .slice none 0 0, .int .i64 0] 37)
    rw [hu0]
    simpa using this
  have hal : Below u0.heap.size u0 u := by rw [hu]; exact (Below.refl _ _).alloc (Nat.le_refl _) _
  have DS : DSt w u d (ltV (bgn d 5) Adr.zero) := ⟨(hal.block _ (by omega)).trans hg0, (hal.block _ (by omega)).trans hg1, by
    have e0 : 1 + (d.kd : Int) % 7 = ((5 : Nat) : Int) := by omega
    have e1 : (d.fr : Int) % 64 = ((d.fr % 64 : Nat) : Int) := by omega
    have e2 : (d.tt : Int) % 64 = ((d.tt % 64 : Nat) : Int) := by omega
    have e3 : (d.ser : Int) % 9223372036854775808 = ((d.ser % 9223372036854775808 : Nat) : Int) := by omega
    rw [hu, e0, e1, e2, e3, ← hz0]; exact heap_alloc_new u0 _, hb0.trans (hal.mono (by omega))⟩
  obtain ⟨c0, c1, c2, c3, c4, c5, c6, c7, c8, c9, c10, c11, c12⟩ := dr_cells hg0
  have hu8 := h.u8s
  have hu64 := h.u64s
  have HU0 := Lib.hid hu0
  have HU := Lib.hid hu
  have HZ0 := Lib.hid hz0
  have HDS := Lib.hid DS
  clear hu0 hu hb0 hz0 hg0 hg1 hal DS h hk
  unfold drV at HU0 ⊢
  go_enter Tryd.func8, Tryd.ntmps8
  go_upto_region 1 with fail
  rw [← HU0.out]
  go_upto_region 2 with fail
  rw [HZ0.out, ← HU.out]
  obtain ⟨d0, d1, d2, d3, d4, d5, d6, d7, d8, d9, d10, d11, d12⟩ := dr_cells HDS.out.dr
  have k0 : u.cell? ⟨w.heap.size + 2, 0, none⟩ = some (.int .u8 5) := (HDS.out.cell 0).trans rfl
  have k5 : u.cell? ⟨w.heap.size + 2, 5, none⟩ = some (.slice none 0 0) := (HDS.out.cell 5).trans rfl
  have f5 := HDS.out.froz 5
  have VC := Lib.hid (vector_any d.Ha d.hn d.hc lh u (HD.out.H.below HDS.out.b) (by have := HD.out.few.1; omega))
  clear HU c0 c1 c2 c3 c4 c5 c6 c7 c8 c9 c10 c11 c12
  obtain ⟨vl, hvl⟩ : ∃ vl, vl = vecL lh := ⟨_, rfl⟩
  obtain ⟨vn, hvn⟩ : ∃ vn, vn = vl.length := ⟨_, rfl⟩
  rw [← hvl, ← hvn] at VC
  have HVN := Lib.hid (And.intro hvl hvn)
  clear hvl hvn
  go_wp2_with fail
  refine VC.out.mono ?_
  rintro e u1 ⟨VA, vc, rfl, own1, hb1⟩
  have D1 := Lib.hid (HDS.out.below hb1)
  have k5' : u1.cell? ⟨w.heap.size + 2, 5, none⟩ = some (.slice none 0 0) := (D1.out.cell 5).trans rfl
  have f5' := D1.out.froz 5
  have D2 : Hid (DSt w (u1.setCell ⟨w.heap.size + 2, 5, none⟩ (.slice VA vn vc)) d (ltV { bgn d 5 with H := vl } { Adr.zero with Ha := VA, hn := vn, hc := vc })) := Lib.hid (D1.out.set 5 _)
  have OW2 : Hid ((u1.setCell ⟨w.heap.size + 2, 5, none⟩ (.slice VA vn vc)).ownsRow (w.heap.size + 3) 22 1 (.slice VA vn vc) vn (Vec.us vl)) := Lib.hid (Own.beside (Own.lower own1 (by have := HDS.out.size; omega)) ((Beside.refl [w.heap.size + 2] u1).setCell (by simp) _) (by simp))
  clear own1 hb1 VC d0 d1 d2 d3 d4 d5 d6 d7 d8 d9 d10 d11 d12 k0 k5 f5
  go_upto_region 17 with fail
  generalize u1.setCell ⟨w.heap.size + 2, 5, none⟩ (.slice VA vn vc) = u2 at D2 OW2 ⊢
  clear k5' f5' D1 HDS
  have HVS : Hid (Vec.Small vl) := Lib.hid (by
    have h1 := vecL_len lh
    rw [← HVN.out.1] at h1
    refine ⟨by omega, fun i => ?_⟩
    unfold Vec.at_
    rw [List.getD_eq_getElem?_getD]
    cases hi : vl[i]? with
    | none => exact Nat.zero_le _
    | some z => have := vecL_small (l := lh) z (by rw [← HVN.out.1]; exact List.mem_of_getElem? hi); show z ≤ _; omega)
  obtain ⟨d0, d1, d2, d3, d4, d5, d6, d7, d8, d9, d10, d11, d12⟩ := dr_cells D2.out.dr
  have k8 : u2.cell? ⟨w.heap.size + 2, 8, none⟩ = some (.int .u64 0) := (D2.out.cell 8).trans rfl
  have f8 := D2.out.froz 8
  have k9 : u2.cell? ⟨w.heap.size + 2, 9, none⟩ = some (.int .u64 0) := (D2.out.cell 9).trans rfl
  have f9 := D2.out.froz 9
  have k10 : u2.cell? ⟨w.heap.size + 2, 10, none⟩ = some (.int .u32 0) := (D2.out.cell 10).trans rfl
  have f10 := D2.out.froz 10
  have hw1 : IntKind.u64.wrap (d.sz : Int) = (d.sz : Int) := wrap_in d.sz (by omega)
  have DS2 : Hid (DSt w (((u2.setCell ⟨w.heap.size + 2, 8, none⟩ (.int .u64 ((d.tm : Int) % 9223372036854775808))).setCell ⟨w.heap.size + 2, 9, none⟩ (.int .u64 (d.sz : Int))).setCell ⟨w.heap.size + 2, 10, none⟩ (.int .u32 (d.pt : Int))) d (ltV { bgn d 5 with H := vl, time := d.tm % 9223372036854775808, size := d.sz, sum := d.pt } { Adr.zero with Ha := VA, hn := vn, hc := vc })) := Lib.hid (by
    have e3 : (d.tm : Int) % 9223372036854775808 = ((d.tm % 9223372036854775808 : Nat) : Int) := by omega
    have := ((D2.out.set 8 (.int .u64 ((d.tm : Int) % 9223372036854775808))).set 9 (.int .u64 (d.sz : Int))).set 10 (.int .u32 (d.pt : Int))
    rw [e3] at this ⊢
    exact this)
  have hbs : Beside [w.heap.size + 2] u2 (((u2.setCell ⟨w.heap.size + 2, 8, none⟩ (.int .u64 ((d.tm : Int) % 9223372036854775808))).setCell ⟨w.heap.size + 2, 9, none⟩ (.int .u64 (d.sz : Int))).setCell ⟨w.heap.size + 2, 10, none⟩ (.int .u32 (d.pt : Int))) := (((Beside.refl [w.heap.size + 2] u2).setCell (p := ⟨w.heap.size + 2, 8, none⟩) (by simp) _).setCell (p := ⟨w.heap.size + 2, 9, none⟩) (by simp) _).setCell (p := ⟨w.heap.size + 2, 10, none⟩) (by simp) _
  have HL : Hid (Lies w (((u2.setCell ⟨w.heap.size + 2, 8, none⟩ (.int .u64 ((d.tm : Int) % 9223372036854775808))).setCell ⟨w.heap.size + 2, 9, none⟩ (.int .u64 (d.sz : Int))).setCell ⟨w.heap.size + 2, 10, none⟩ (.int .u32 (d.pt : Int))) { bgn d 5 with H := vl, time := d.tm % 9223372036854775808, size := d.sz, sum := d.pt } { Adr.zero with Ha := VA, hn := vn, hc := vc } []) := Lib.hid fun W' hb => ⟨Vec.SeesU.of_own (Own.beside (Own.beside OW2.out hbs (by simp)) hb (by simp)), rfl, (bgn_at W' d 5).rows, rfl, rfl, (bgn_at W' d 5).E, (bgn_at W' d 5).bytes⟩
  have hok : Ok { bgn d 5 with H := vl, time := d.tm % 9223372036854775808, size := d.sz, sum := d.pt } := by
    have := bgn_ok d (k := 5) (by omega)
    exact ⟨this.kind, this.ends, this.serial, HVS.out, this.rows, this.E, Nat.mod_lt _ (by omega), ⟨by show d.sz < _; omega, this.size.2.1, by show d.pt < _; omega, this.size.2.2.2⟩, this.bytes⟩
  have HOK := Lib.hid hok
  clear hok hbs
  go_upto_region 24 with fail
  generalize ((u2.setCell ⟨w.heap.size + 2, 8, none⟩ (.int .u64 ((d.tm : Int) % 9223372036854775808))).setCell ⟨w.heap.size + 2, 9, none⟩ (.int .u64 (d.sz : Int))).setCell ⟨w.heap.size + 2, 10, none⟩ (.int .u32 (d.pt : Int)) = u3 at DS2 HL ⊢
  clear d0 d1 d2 d3 d4 d5 d6 d7 d8 d9 d10 d11 d12 k8 k9 k10 f8 f9 f10 hw1
  have GL := Lib.hid DS2.out.lt
  have GR := Lib.hid DS2.out.rs
  have BB := Lib.hid DS2.out.b
  go_wp2_with (first
    | (refine wpList_getRow rfl 37 (.tmp 3) rfl (w.heap.size + 2) 37 (ltV { bgn d 5 with H := vl, time := d.tm % 9223372036854775808, size := d.sz, sum := d.pt } { Adr.zero with Ha := VA, hn := vn, hc := vc }) (0, 0) _ rfl ?g1 Tryd.underlying37 rfl (by kernel_rfl) ?_)
    | (refine wpList_putRow rfl 37 (.tmp 2) (.tmp 118) rfl (w.heap.size + 1) 37 #[.int .u8 0, .int .i64 0, .int .i64 0, .bool false, .int .u64 0, .slice none 0 0, .slice none 0 0, .slice none 0 0, .int .u64 0, .int .u64 0, .int .u32 0, .int .u64 0, .slice none 0 0, .int .i64 0] (ltV { bgn d 5 with H := vl, time := d.tm % 9223372036854775808, size := d.sz, sum := d.pt } { Adr.zero with Ha := VA, hn := vn, hc := vc }) rfl rfl ?g2 (by kernel_rfl) rfl (by simp [ltV, Value.oneCell']) ?_))
  case g1 => exact GL.out
  case g2 => exact GR.out
  intro W' hW' hbe
  have FIN := Lib.hid (show LetGives w (.returned (.agg (ltV { bgn d 5 with H := vl, time := d.tm % 9223372036854775808, size := d.sz, sum := d.pt } { Adr.zero with Ha := VA, hn := vn, hc := vc }))) W' from ⟨_, _, _, rfl, HL.out W' hbe, HOK.out, Below.beside BB.out hbe BB.out.size (by simp)⟩)
  obtain ⟨c0, c1, c2, c3, c4, c5, c6, c7, c8, c9, c10, c11, c12, c13⟩ := lt_cells hW'
  clear hW' hbe
  go_wp2
  refine bodyPost_ret (v := .agg (ltV { bgn d 5 with H := vl, time := d.tm % 9223372036854775808, size := d.sz, sum := d.pt } { Adr.zero with Ha := VA, hn := vn, hc := vc })) ?_ rfl FIN.out
  simp [results, Tryd.results8, go_sem, ltV, c0, c1, c2, c3, c4, c5, c6, c7, c8, c9, c10, c11, c12, c13]
end Go.Proofs.YthdflbpmabcjlaaDoor.Lt
namespace Go.Proofs.YthdflbpmabcjlaaDoor.Lt
open Go Go.RowKit Go.Proofs.YthdflbpmabcjlaaDoor.Words Go.Proofs.YthdflbpmabcjlaaDoor.Enc Go.Proofs.YthdflbpmabcjlaaDoor.Evt Go.Proofs.YthdflbpmabcjlaaDoor.Made Go.Proofs.YthdflbpmabcjlaaDoor.Seg
set_option linter.unusedVariables false
set_option linter.unusedSimpArgs false

set_option maxRecDepth 100000 in
set_option maxHeartbeats 4000000 in
theorem letter_k6 (w : World) (d : Dr) (lh : List Nat) (S : List Mtx.RowS) (le : List Nat) (lb : List UInt8) (h : DrAt w d lh S le lb) (hk : 1 + d.kd % 7 = 6) :
    Calls Tryd.prog 8 #[.agg (drV d)] w (LetGives w) := by
  have HD := Lib.hid h
  obtain ⟨u0, hu0⟩ : ∃ u, u = (w.alloc (.cells (drV d) 29)).alloc (.cells #[.int .u8 0, .int .i64 0, .int .i64 0, .bool false, .int .u64 0, .slice none 0 0, .slice none 0 0, .slice none 0 0, .int .u64 0, .int .u64 0, .int .u32 0, .int .u64 0, .slice none 0 0, .int .i64 0] 37) := ⟨_, rfl⟩
  obtain ⟨u, hu⟩ : ∃ u, u = u0.alloc (.cells #[.int .u8 (1 + (d.kd : Int) % 7), .int .i64 ((d.fr : Int) % 64), .int .i64 ((d.tt : Int) % 64), .bool d.mine, .int .u64 ((d.ser : Int) % 9223372036854775808), .slice none 0 0, .slice none 0 0, .slice none 0 0, .int .u64 0, .int .u64 0, .int .u32 0, .int .u64 0, .slice none 0 0, .int .i64 0] 37) := ⟨_, rfl⟩
  have hb0 : Below w.heap.size w u0 := by rw [hu0]; exact ((Below.refl _ _).alloc (Nat.le_refl _) _).alloc (by simp) _
  have hz0 : u0.heap.size = w.heap.size + 2 := by rw [hu0]; simp
  have hg0 : u0.heap[w.heap.size]? = some (.cells (drV d) 29 (0, 0)) := by
    rw [hu0, Below.heap_alloc _ _ _ (by simp)]
    exact heap_alloc_new w _
  have hg1 : u0.heap[w.heap.size + 1]? = some (.cells #[.int .u8 0, .int .i64 0, .int .i64 0, .bool false, .int .u64 0, .slice none 0 0, .slice none 0 0, .slice none 0 0, .int .u64 0, .int .u64 0, .int .u32 0, .int .u64 0, .slice none 0 0, .int .i64 0] 37 (0, 0)) := by
    have := heap_alloc_new (w.alloc (.cells (drV d) 29)) (.cells #[.int .u8 0, .int .i64 0, .int .i64 0, .bool false, .int .u64 0, .slice none 0 0, .slice none 0 0, .slice none 0 0, .int .u64 0, .int .u64 0, .int .u32 0, .int .u64 0, .slice none 0 0, .int .i64 0] 37)
    rw [hu0]
    simpa using this
  have hal : Below u0.heap.size u0 u := by rw [hu]; exact (Below.refl _ _).alloc (Nat.le_refl _) _
  have DS : DSt w u d (ltV (bgn d 6) Adr.zero) := ⟨(hal.block _ (by omega)).trans hg0, (hal.block _ (by omega)).trans hg1, by
    have e0 : 1 + (d.kd : Int) % 7 = ((6 : Nat) : Int) := by omega
    have e1 : (d.fr : Int) % 64 = ((d.fr % 64 : Nat) : Int) := by omega
    have e2 : (d.tt : Int) % 64 = ((d.tt % 64 : Nat) : Int) := by omega
    have e3 : (d.ser : Int) % 9223372036854775808 = ((d.ser % 9223372036854775808 : Nat) : Int) := by omega
    rw [hu, e0, e1, e2, e3, ← hz0]; exact heap_alloc_new u0 _, hb0.trans (hal.mono (by omega))⟩
  obtain ⟨c0, c1, c2, c3, c4, c5, c6, c7, c8, c9, c10, c11, c12⟩ := dr_cells hg0
  have hu8 := h.u8s
  have hu64 := h.u64s
  have HU0 := Lib.hid hu0
  have HU := Lib.hid hu
  have HZ0 := Lib.hid hz0
  have HDS := Lib.hid DS
  clear hu0 hu hb0 hz0 hg0 hg1 hal DS h hk
  unfold drV at HU0 ⊢
  go_enter Tryd.func8, Tryd.ntmps8
  go_upto_region 1 with fail
  rw [← HU0.out]
  go_upto_region 2 with fail
  rw [HZ0.out, ← HU.out]
  obtain ⟨d0, d1, d2, d3, d4, d5, d6, d7, d8, d9, d10, d11, d12⟩ := dr_cells HDS.out.dr
  have k0 : u.cell? ⟨w.heap.size + 2, 0, none⟩ = some (.int .u8 6) := (HDS.out.cell 0).trans rfl
  have k9 : u.cell? ⟨w.heap.size + 2, 9, none⟩ = some (.int .u64 0) := (HDS.out.cell 9).trans rfl
  have f9 := HDS.out.froz 9
  have k11 : u.cell? ⟨w.heap.size + 2, 11, none⟩ = some (.int .u64 0) := (HDS.out.cell 11).trans rfl
  have f11 := HDS.out.froz 11
  have k12 : u.cell? ⟨w.heap.size + 2, 12, none⟩ = some (.slice none 0 0) := (HDS.out.cell 12).trans rfl
  have f12 := HDS.out.froz 12
  have hw1 : IntKind.u64.wrap (d.sz : Int) = (d.sz : Int) := wrap_in d.sz (by omega)
  have hw2 : IntKind.u64.wrap (d.pt : Int) = (d.pt : Int) := wrap_in d.pt (by omega)
  have DS2 : Hid (DSt w (((u.setCell ⟨w.heap.size + 2, 9, none⟩ (.int .u64 (d.sz : Int))).setCell ⟨w.heap.size + 2, 11, none⟩ (.int .u64 (d.pt : Int))).setCell ⟨w.heap.size + 2, 12, none⟩ (.slice d.Ba d.bn d.bc)) d (ltV { bgn d 6 with size := d.sz, pos := d.pt, bytes := lb } { Adr.zero with Ba := d.Ba, bn := d.bn, bc := d.bc })) := Lib.hid (((HDS.out.set 9 _).set 11 _).set 12 _)
  have hbu : Below w.heap.size w (((u.setCell ⟨w.heap.size + 2, 9, none⟩ (.int .u64 (d.sz : Int))).setCell ⟨w.heap.size + 2, 11, none⟩ (.int .u64 (d.pt : Int))).setCell ⟨w.heap.size + 2, 12, none⟩ (.slice d.Ba d.bn d.bc)) := DS2.out.b
  have HL : Hid (Lies w (((u.setCell ⟨w.heap.size + 2, 9, none⟩ (.int .u64 (d.sz : Int))).setCell ⟨w.heap.size + 2, 11, none⟩ (.int .u64 (d.pt : Int))).setCell ⟨w.heap.size + 2, 12, none⟩ (.slice d.Ba d.bn d.bc)) { bgn d 6 with size := d.sz, pos := d.pt, bytes := lb } { Adr.zero with Ba := d.Ba, bn := d.bn, bc := d.bc } []) := Lib.hid fun W' hb => ⟨(bgn_at W' d 6).H, rfl, (bgn_at W' d 6).rows, rfl, rfl, (bgn_at W' d 6).E, ((HD.out.B.below hbu).beside hb (Out.of_lt HD.out.B (Nat.le_refl _) (by simp)))⟩
  have hok : Ok { bgn d 6 with size := d.sz, pos := d.pt, bytes := lb } := by
    have := bgn_ok d (k := 6) (by omega)
    have hb := HD.out.few.2.2.2
    exact ⟨this.kind, this.ends, this.serial, this.H, this.rows, this.E, this.time, ⟨by show d.sz < _; omega, by show d.pt < _; omega, this.size.2.2.1, this.size.2.2.2⟩, by show lb.length ≤ _; rw [HD.out.B.1]; exact hb⟩
  have HOK := Lib.hid hok
  clear hok hbu HU c0 c1 c2 c3 c4 c5 c6 c7 c8 c9 c10 c11 c12
  go_upto_region 24 with fail
  generalize ((u.setCell ⟨w.heap.size + 2, 9, none⟩ (.int .u64 (d.sz : Int))).setCell ⟨w.heap.size + 2, 11, none⟩ (.int .u64 (d.pt : Int))).setCell ⟨w.heap.size + 2, 12, none⟩ (.slice d.Ba d.bn d.bc) = u2 at DS2 HL ⊢
  clear d0 d1 d2 d3 d4 d5 d6 d7 d8 d9 d10 d11 d12 k0 k9 k11 k12 f9 f11 f12 hw1 hw2
  have GL := Lib.hid DS2.out.lt
  have GR := Lib.hid DS2.out.rs
  have BB := Lib.hid DS2.out.b
  go_wp2_with (first
    | (refine wpList_getRow rfl 37 (.tmp 3) rfl (w.heap.size + 2) 37 (ltV { bgn d 6 with size := d.sz, pos := d.pt, bytes := lb } { Adr.zero with Ba := d.Ba, bn := d.bn, bc := d.bc }) (0, 0) _ rfl ?g1 Tryd.underlying37 rfl (by kernel_rfl) ?_)
    | (refine wpList_putRow rfl 37 (.tmp 2) (.tmp 118) rfl (w.heap.size + 1) 37 #[.int .u8 0, .int .i64 0, .int .i64 0, .bool false, .int .u64 0, .slice none 0 0, .slice none 0 0, .slice none 0 0, .int .u64 0, .int .u64 0, .int .u32 0, .int .u64 0, .slice none 0 0, .int .i64 0] (ltV { bgn d 6 with size := d.sz, pos := d.pt, bytes := lb } { Adr.zero with Ba := d.Ba, bn := d.bn, bc := d.bc }) rfl rfl ?g2 (by kernel_rfl) rfl (by simp [ltV, Value.oneCell']) ?_))
  case g1 => exact GL.out
  case g2 => exact GR.out
  intro W' hW' hbe
  have FIN := Lib.hid (show LetGives w (.returned (.agg (ltV { bgn d 6 with size := d.sz, pos := d.pt, bytes := lb } { Adr.zero with Ba := d.Ba, bn := d.bn, bc := d.bc }))) W' from ⟨_, _, _, rfl, HL.out W' hbe, HOK.out, Below.beside BB.out hbe BB.out.size (by simp)⟩)
  obtain ⟨c0, c1, c2, c3, c4, c5, c6, c7, c8, c9, c10, c11, c12, c13⟩ := lt_cells hW'
  clear hW' hbe
  go_wp2
  refine bodyPost_ret (v := .agg (ltV { bgn d 6 with size := d.sz, pos := d.pt, bytes := lb } { Adr.zero with Ba := d.Ba, bn := d.bn, bc := d.bc })) ?_ rfl FIN.out
  simp [results, Tryd.results8, go_sem, ltV, c0, c1, c2, c3, c4, c5, c6, c7, c8, c9, c10, c11, c12, c13]
end Go.Proofs.YthdflbpmabcjlaaDoor.Lt
namespace Go.Proofs.YthdflbpmabcjlaaDoor.Lt
open Go Go.RowKit Go.Proofs.YthdflbpmabcjlaaDoor.Words Go.Proofs.YthdflbpmabcjlaaDoor.Enc Go.Proofs.YthdflbpmabcjlaaDoor.Evt Go.Proofs.YthdflbpmabcjlaaDoor.Made Go.Proofs.YthdflbpmabcjlaaDoor.Seg
set_option linter.unusedVariables false
set_option linter.unusedSimpArgs false

set_option maxRecDepth 100000 in
set_option maxHeartbeats 4000000 in
theorem letter_k7 (w : World) (d : Dr) (lh : List Nat) (S : List Mtx.RowS) (le : List Nat) (lb : List UInt8) (h : DrAt w d lh S le lb) (hk : 1 + d.kd % 7 = 7) :
    Calls Tryd.prog 8 #[.agg (drV d)] w (LetGives w) := by
  have HD := Lib.hid h
  obtain ⟨u0, hu0⟩ : ∃ u, u = (w.alloc (.cells (drV d) 29)).alloc (.cells #[.int .u8 0, .int .i64 0, .int .i64 0, .bool false, .int .u64 0, .slice none 0 0, .slice none 0 0, .slice none 0 0, .int .u64 0, .int .u64 0, .int .u32 0, .int .u64 0, .slice none 0 0, .int .i64 0] 37) := ⟨_, rfl⟩
  obtain ⟨u, hu⟩ : ∃ u, u = u0.alloc (.cells #[.int .u8 (1 + (d.kd : Int) % 7), .int .i64 ((d.fr : Int) % 64), .int .i64 ((d.tt : Int) % 64), .bool d.mine, .int .u64 ((d.ser : Int) % 9223372036854775808), .slice none 0 0, .slice none 0 0, .slice none 0 0, .int .u64 0, .int .u64 0, .int .u32 0, .int .u64 0, .slice none 0 0, .int .i64 0] 37) := ⟨_, rfl⟩
  have hb0 : Below w.heap.size w u0 := by rw [hu0]; exact ((Below.refl _ _).alloc (Nat.le_refl _) _).alloc (by simp) _
  have hz0 : u0.heap.size = w.heap.size + 2 := by rw [hu0]; simp
  have hg0 : u0.heap[w.heap.size]? = some (.cells (drV d) 29 (0, 0)) := by
    rw [hu0, Below.heap_alloc _ _ _ (by simp)]
    exact heap_alloc_new w _
  have hg1 : u0.heap[w.heap.size + 1]? = some (.cells #[.int .u8 0, .int .i64 0, .int .i64 0, .bool false, .int .u64 0, .slice none 0 0, .slice none 0 0, .slice none 0 0, .int .u64 0, .int .u64 0, .int .u32 0, .int .u64 0, .slice none 0 0, .int .i64 0] 37 (0, 0)) := by
    have := heap_alloc_new (w.alloc (.cells (drV d) 29)) (.cells #[.int .u8 0, .int .i64 0, .int .i64 0, .bool false, .int .u64 0, .slice none 0 0, .slice none 0 0, .slice none 0 0, .int .u64 0, .int .u64 0, .int .u32 0, .int .u64 0, .slice none 0 0, .int .i64 0] 37)
    rw [hu0]
    simpa using this
  have hal : Below u0.heap.size u0 u := by rw [hu]; exact (Below.refl _ _).alloc (Nat.le_refl _) _
  have DS : DSt w u d (ltV (bgn d 7) Adr.zero) := ⟨(hal.block _ (by omega)).trans hg0, (hal.block _ (by omega)).trans hg1, by
    have e0 : 1 + (d.kd : Int) % 7 = ((7 : Nat) : Int) := by omega
    have e1 : (d.fr : Int) % 64 = ((d.fr % 64 : Nat) : Int) := by omega
    have e2 : (d.tt : Int) % 64 = ((d.tt % 64 : Nat) : Int) := by omega
    have e3 : (d.ser : Int) % 9223372036854775808 = ((d.ser % 9223372036854775808 : Nat) : Int) := by omega
    rw [hu, e0, e1, e2, e3, ← hz0]; exact heap_alloc_new u0 _, hb0.trans (hal.mono (by omega))⟩
  obtain ⟨c0, c1, c2, c3, c4, c5, c6, c7, c8, c9, c10, c11, c12⟩ := dr_cells hg0
  have hu8 := h.u8s
  have hu64 := h.u64s
  have HU0 := Lib.hid hu0
  have HU := Lib.hid hu
  have HZ0 := Lib.hid hz0
  have HDS := Lib.hid DS
  clear hu0 hu hb0 hz0 hg0 hg1 hal DS h hk
  unfold drV at HU0 ⊢
  go_enter Tryd.func8, Tryd.ntmps8
  go_upto_region 1 with fail
  rw [← HU0.out]
  go_upto_region 2 with fail
  rw [HZ0.out, ← HU.out]
  obtain ⟨d0, d1, d2, d3, d4, d5, d6, d7, d8, d9, d10, d11, d12⟩ := dr_cells HDS.out.dr
  have k0 : u.cell? ⟨w.heap.size + 2, 0, none⟩ = some (.int .u8 7) := (HDS.out.cell 0).trans rfl
  have k13 : u.cell? ⟨w.heap.size + 2, 13, none⟩ = some (.int .i64 0) := (HDS.out.cell 13).trans rfl
  have f13 := HDS.out.froz 13
  have hw : IntKind.i64.wrap (d.wy : Int) = (d.wy : Int) := by rw [IntKind.wrap_i64]; omega
  have DS2 : Hid (DSt w (u.setCell ⟨w.heap.size + 2, 13, none⟩ (.int .i64 (d.wy : Int))) d (ltV { bgn d 7 with why := d.wy } Adr.zero)) := Lib.hid (HDS.out.set 13 _)
  have HL : Hid (Lies w (u.setCell ⟨w.heap.size + 2, 13, none⟩ (.int .i64 (d.wy : Int))) { bgn d 7 with why := d.wy } Adr.zero []) := Lib.hid fun W' hb => ⟨(bgn_at W' d 7).H, rfl, (bgn_at W' d 7).rows, rfl, rfl, (bgn_at W' d 7).E, (bgn_at W' d 7).bytes⟩
  have hok : Ok { bgn d 7 with why := d.wy } := by
    have := bgn_ok d (k := 7) (by omega)
    exact ⟨this.kind, this.ends, this.serial, this.H, this.rows, this.E, this.time, ⟨this.size.1, this.size.2.1, this.size.2.2.1, by show d.wy ≤ 65536; omega⟩, this.bytes⟩
  have HOK := Lib.hid hok
  clear hok HU c0 c1 c2 c3 c4 c5 c6 c7 c8 c9 c10 c11 c12
  go_upto_region 24 with fail
  generalize u.setCell ⟨w.heap.size + 2, 13, none⟩ (.int .i64 (d.wy : Int)) = u2 at DS2 HL ⊢
  clear d0 d1 d2 d3 d4 d5 d6 d7 d8 d9 d10 d11 d12 k0 k13 f13 hw
  have GL := Lib.hid DS2.out.lt
  have GR := Lib.hid DS2.out.rs
  have BB := Lib.hid DS2.out.b
  go_wp2_with (first
    | (refine wpList_getRow rfl 37 (.tmp 3) rfl (w.heap.size + 2) 37 (ltV { bgn d 7 with why := d.wy } Adr.zero) (0, 0) _ rfl ?g1 Tryd.underlying37 rfl (by kernel_rfl) ?_)
    | (refine wpList_putRow rfl 37 (.tmp 2) (.tmp 118) rfl (w.heap.size + 1) 37 #[.int .u8 0, .int .i64 0, .int .i64 0, .bool false, .int .u64 0, .slice none 0 0, .slice none 0 0, .slice none 0 0, .int .u64 0, .int .u64 0, .int .u32 0, .int .u64 0, .slice none 0 0, .int .i64 0] (ltV { bgn d 7 with why := d.wy } Adr.zero) rfl rfl ?g2 (by kernel_rfl) rfl (by simp [ltV, Value.oneCell']) ?_))
  case g1 => exact GL.out
  case g2 => exact GR.out
  intro W' hW' hbe
  have FIN := Lib.hid (show LetGives w (.returned (.agg (ltV { bgn d 7 with why := d.wy } Adr.zero))) W' from ⟨_, _, _, rfl, HL.out W' hbe, HOK.out, Below.beside BB.out hbe BB.out.size (by simp)⟩)
  obtain ⟨c0, c1, c2, c3, c4, c5, c6, c7, c8, c9, c10, c11, c12, c13⟩ := lt_cells hW'
  clear hW' hbe
  go_wp2
  refine bodyPost_ret (v := .agg (ltV { bgn d 7 with why := d.wy } Adr.zero)) ?_ rfl FIN.out
  simp [results, Tryd.results8, go_sem, ltV, c0, c1, c2, c3, c4, c5, c6, c7, c8, c9, c10, c11, c12, c13]
end Go.Proofs.YthdflbpmabcjlaaDoor.Lt
namespace Go.Proofs.YthdflbpmabcjlaaDoor.Lt
open Go Go.RowKit Go.Proofs.YthdflbpmabcjlaaDoor.Words Go.Proofs.YthdflbpmabcjlaaDoor.Enc Go.Proofs.YthdflbpmabcjlaaDoor.Vec
set_option linter.unusedVariables false
set_option linter.unusedSimpArgs false

/-- The rows' numbers, and three for each. -/
def rowsNo (M : Nat → Nat) : Nat → Nat
  | 0 => 0
  | i + 1 => rowsNo M i + (3 + M i)
theorem rowsNo_le (M : Nat → Nat) : ∀ {i j : Nat}, i ≤ j → rowsNo M i ≤ rowsNo M j
  | i, 0, h => by rw [Nat.le_zero.1 h]; exact Nat.le_refl _
  | i, j + 1, h => by
    rcases Nat.lt_or_ge i (j + 1) with h1 | h1
    · have := rowsNo_le M (i := i) (j := j) (by omega)
      show rowsNo M i ≤ rowsNo M j + (3 + M j)
      omega
    · rw [show i = j + 1 by omega]; exact Nat.le_refl _
set_option maxRecDepth 100000 in
set_option maxHeartbeats 2000000 in
theorem short_any (v0 v1 v2 v3 v4 v5 v6 v7 v8 : Value) (Ah : Option Addr) (nh ch : Nat) (Ar : Option Addr) (nr cr : Nat) (Ae : Option Addr) (ne ce : Nat) (Ab : Option Addr) (nb cb : Nat) (M : Nat → Nat) (w : World)
    (hrow : ∀ i, i < nr → ∃ b o A c, Ar = some ⟨b, o, none⟩ ∧ w.cell? ⟨b, o + i * 3 + 1, none⟩ = some (.slice A (M i) c)) (hT : nh + nb + ne + rowsNo M nr ≤ 1000000000000000000) :
    Calls Tryd.prog 6 #[.agg #[v0, v1, v2, v3, v4, v5, v6, v7, v8, .slice Ah nh ch, .slice Ar nr cr, .slice Ae ne ce, .slice Ab nb cb]] w fun e w' => e = .returned (.bool (decide (nh + nb + ne + rowsNo M nr ≤ 1000))) ∧ Below w.heap.size w w' := by
  obtain ⟨u, hu⟩ : ∃ u, u = w.alloc (.cells #[v0, v1, v2, v3, v4, v5, v6, v7, v8, .slice Ah nh ch, .slice Ar nr cr, .slice Ae ne ce, .slice Ab nb cb] 29) := ⟨_, rfl⟩
  have hb1 : Below w.heap.size w u := by rw [hu]; exact (Below.refl _ _).alloc (Nat.le_refl _) _
  have g0 : u.heap[w.heap.size]? = some (.cells #[v0, v1, v2, v3, v4, v5, v6, v7, v8, .slice Ah nh ch, .slice Ar nr cr, .slice Ae ne ce, .slice Ab nb cb] 29 (0, 0)) := by rw [hu]; exact heap_alloc_new w _
  obtain ⟨B, hB⟩ : ∃ B, B = w.heap.size := ⟨_, rfl⟩
  rw [← hB] at g0
  have c9 : u.cell? ⟨B, 9, none⟩ = some (.slice Ah nh ch) := by rw [cell_of_row u B _ _ _ _ g0]; rfl
  have c10 : u.cell? ⟨B, 10, none⟩ = some (.slice Ar nr cr) := by rw [cell_of_row u B _ _ _ _ g0]; rfl
  have c11 : u.cell? ⟨B, 11, none⟩ = some (.slice Ae ne ce) := by rw [cell_of_row u B _ _ _ _ g0]; rfl
  have c12 : u.cell? ⟨B, 12, none⟩ = some (.slice Ab nb cb) := by rw [cell_of_row u B _ _ _ _ g0]; rfl
  have HU := Lib.hid hu
  have HB := Lib.hid hB
  have HB1 := Lib.hid hb1
  have HR := Lib.hid (fun i (hi : i < nr) => (by
    obtain ⟨b, o, A, c, h1, h2⟩ := hrow i hi
    exact ⟨b, o, A, c, h1, by rw [hb1.cell (World.block_lt_of_cell? _ _ h2)]; exact h2⟩ : ∃ b o A c, Ar = some ⟨b, o, none⟩ ∧ u.cell? ⟨b, o + i * 3 + 1, none⟩ = some (.slice A (M i) c)))
  have HT := Lib.hid hT
  obtain ⟨t0, ht0⟩ : ∃ t, t = nh + nb + ne := ⟨_, rfl⟩
  have e1 : (nh : Int) + (nb : Int) = ((nh + nb : Nat) : Int) := by omega
  have e2 : IntKind.i64.wrap ((nh : Int) + (nb : Int)) = (nh : Int) + (nb : Int) := by rw [IntKind.wrap_i64]; omega
  have e3 : (nh : Int) + (nb : Int) + (ne : Int) = (t0 : Int) := by omega
  have e4 : IntKind.i64.wrap (t0 : Int) = (t0 : Int) := by rw [IntKind.wrap_i64]; omega
  have HT0 := Lib.hid ht0
  have hnr : (nr : Int) ≤ 1000000000000000000 := by
    have : ∀ k, k ≤ rowsNo M k := fun k => by
      induction k with
      | zero => exact Nat.le_refl _
      | succ k ih => show k + 1 ≤ rowsNo M k + (3 + M k); omega
    have := this nr
    omega
  clear hu hB hb1 hrow hT ht0 g0 e1
  go_enter Tryd.func6, Tryd.ntmps6
  go_upto_region 1 with fail
  rw [← HU.out, ← HB.out]
  go_wp2_with fail
  go_loopw [3, 4] (fun x y wr => ∃ (i t : Nat), y = .int .i64 (i : Int) ∧ x = .int .i64 (t : Int) ∧ i ≤ nr ∧ Hid (t = t0 + rowsNo M i) ∧ wr = u) (fun _ y _ => nr - (intOf y).toNat)
  case atStart => exact ⟨0, t0, rfl, rfl, Nat.zero_le _, Lib.hid rfl, rfl⟩
  case round =>
    obtain ⟨i, t, rfl, rfl, hi, HTT, rfl⟩ := hrel
    by_cases h1 : i < nr
    · have hd1 : (i : Int) < (nr : Int) := by omega
      have hd0 : (0 : Int) ≤ (i : Int) := by omega
      have hdb : (i : Int) ≤ 1000000000000000000 := by omega
      obtain ⟨b, o, A, c, rfl, hc⟩ := HR.out i h1
      obtain ⟨m, hm⟩ : ∃ m, m = M i := ⟨_, rfl⟩
      rw [← hm] at hc
      have hst : rowsNo M (i + 1) = rowsNo M i + (3 + m) := by rw [hm]; rfl
      have hle := rowsNo_le M (show i + 1 ≤ nr by omega)
      have hb : t + (3 + m) ≤ 1000000000000000000 := by have h1 := HT.out; have h2 := HTT.out; have h3 := HT0.out; omega
      have f1 : IntKind.i64.wrap (3 + (m : Int)) = 3 + (m : Int) := by rw [IntKind.wrap_i64]; omega
      obtain ⟨t', ht'⟩ : ∃ t', t' = t + (3 + m) := ⟨_, rfl⟩
      have f2 : (t : Int) + (3 + (m : Int)) = (t' : Int) := by omega
      have f3 : IntKind.i64.wrap (t' : Int) = (t' : Int) := by rw [IntKind.wrap_i64]; omega
      have HT2 := Lib.hid (show t' = t0 + rowsNo M (i + 1) by have := HTT.out; omega)
      clear hm hst hle hb ht'
      go_wp2
      go_roundw
      case rel => exact ⟨i + 1, t', by simp, rfl, by omega, HT2, trivial⟩
      case measure => simp [intOf]; omega
    · obtain rfl : i = nr := by omega
      have hd1 : ¬ (i : Int) < (i : Int) := by omega
      have htt : decide ((t : Int) ≤ 1000) = decide (nh + nb + ne + rowsNo M i ≤ 1000) := by
        have h2 := HTT.out; have h3 := HT0.out
        rw [decide_eq_decide]; omega
      obtain ⟨bb, hbb⟩ : ∃ bb, bb = decide (nh + nb + ne + rowsNo M i ≤ 1000) := ⟨_, rfl⟩
      rw [← hbb] at htt
      have HBB := Lib.hid hbb
      clear hbb
      go_wp2
      go_ret
      exact ⟨(by rw [HBB.out]; rfl), HB1.out⟩
end Go.Proofs.YthdflbpmabcjlaaDoor.Lt
namespace Go.Proofs.YthdflbpmabcjlaaDoor.Lt
open Go Go.RowKit Go.Proofs.YthdflbpmabcjlaaDoor.Words Go.Proofs.YthdflbpmabcjlaaDoor.Enc Go.Proofs.YthdflbpmabcjlaaDoor.Evt Go.Proofs.YthdflbpmabcjlaaDoor.Made Go.Proofs.YthdflbpmabcjlaaDoor.Tape Go.Proofs.YthdflbpmabcjlaaDoor.Seg
set_option linter.unusedVariables false
set_option linter.unusedSimpArgs false

set_option maxRecDepth 100000 in
set_option maxHeartbeats 4000000 in
theorem fields_k1 (PA : Option Addr) (PN : Nat) (L : List UInt8) (t xb : Nat) (l : List UInt8) (s d : Nat) (m : Bool) (q : Nat) (w : World) (ht : TapeOn PA PN L w t l) (hP : Sees w PA PN L) (hll : l.length ≤ 100000) (hb : w.heap[xb]? = some (.cells (ltV (x0 1 s d m q) Adr.zero) 37 (0, 0))) (hne : xb ≠ t) (hox : Out [xb] PA PN) :
    Calls Tryd.prog 39 #[.pointer (some ⟨t, 0, none⟩), .pointer (some ⟨xb, 0, none⟩)] w (FldGives PA PN L t xb (fieldsT (x0 1 s d m q) l) w) := by
  have st0 : FSt PA PN L t xb w w _ l := ⟨hb, ht, hP, Beside.refl _ _, hne, hox, (Array.getElem?_eq_some_iff.1 hb).1, ht.lt⟩
  have k0 : w.cell? ⟨xb, 0, none⟩ = some (.int .u8 1) := st0.cell 0
  obtain ⟨G, hG⟩ : ∃ G, G = fieldsT (x0 1 s d m q) l := ⟨_, rfl⟩
  rw [← hG]
  have hG2 : G = (vecT l).bind fun v l1 => (rowsT l1).bind fun rs l2 => .ok { x0 1 s d m q with H := v, rows := rs } l2 := by rw [hG]; rfl
  have HG := Lib.hid hG2
  have RD := takeVector_any PA PN L t l w ht hP hll
  clear hG hG2 ht hP hb hne hox
  cases gv : vecT l with
  | bad E =>
    rw [gv] at RD
    obtain rfl : G = .bad E := by rw [HG.out, gv]; rfl
    have NB := Lib.hid RD
    have ST := Lib.hid st0
    clear RD gv HG st0
    go_enter Tryd.func39, Tryd.ntmps39
    clear hll
    go_wp2_with fail
    refine NB.out.mono ?_
    rintro e wb ⟨rfl, hbb⟩
    have HB := Lib.hid (ST.out.bad hbb)
    clear hbb NB
    unfold fault
    go_wp2
    exact ⟨rfl, rfl, HB.out⟩
  | no =>
    rw [gv] at RD
    obtain rfl : G = .no := by rw [HG.out, gv]; rfl
    have NB := Lib.hid RD
    have ST := Lib.hid st0
    clear RD gv HG st0
    go_enter Tryd.func39, Tryd.ntmps39
    go_wp2_with fail
    refine NB.out.mono ?_
    rintro e w1 ⟨R, k, rc, rfl, hb1⟩
    have hbx : w1.heap[xb]? = _ := (hb1.block xb (Array.getElem?_eq_some_iff.1 ST.out.box).1 (by simp; exact ST.out.ne)).trans ST.out.box
    have c5 : w1.cell? ⟨xb, 5, none⟩ = some (.slice none 0 0) := by rw [cell_of_row w1 xb _ _ _ _ hbx]; rfl
    have f5 : w1.frozen? ⟨xb, 5, none⟩ = false := frozen_row0 hbx
    have FIN : Hid ((w1.setCell ⟨xb, 5, none⟩ (.slice R k rc)).heap[xb]? = some (.cells (ltV (x0 1 s d m q) { Adr.zero with Ha := R, hn := k, hc := rc }) 37 (0, 0)) ∧ Beside [t, xb] w (w1.setCell ⟨xb, 5, none⟩ (.slice R k rc))) := Lib.hid ⟨(heapSame hbx).trans rfl, (ST.out.bad hb1).setCell (by simp) _⟩
    clear hb1 hbx NB k0
    go_wp2
    go_ret
    exact ⟨_, _, rfl, FIN.out.1, FIN.out.2⟩
  | ok v l1 =>
    rw [gv] at RD
    have NB := Lib.hid RD
    have ST := Lib.hid st0
    have hl1 : l1.length ≤ 100000 := by have := (vecT_enc gv).1; have h2 := congrArg List.length this; rw [List.length_append] at h2; omega
    have HG1 : Hid (G = (rowsT l1).bind fun rs l2 => .ok { x0 1 s d m q with H := v, rows := rs } l2) := Lib.hid (by rw [HG.out, gv]; rfl)
    clear RD gv HG st0
    go_enter Tryd.func39, Tryd.ntmps39
    go_wp2_with fail
    refine NB.out.mono ?_
    rintro e w1 ⟨R, k, rc, rfl, own1, ht1, hb1⟩
    have ST1 := Lib.hid (ST.out.read hb1 ht1)
    have c5 : w1.cell? ⟨xb, 5, none⟩ = some (.slice none 0 0) := (ST1.out.cell 5).trans rfl
    have f5 := ST1.out.froz 5
    have ST2 := Lib.hid (ST1.out.set 5 (.slice R k rc))
    have OW2 : Hid ((w1.setCell ⟨xb, 5, none⟩ (.slice R k rc)).ownsRow w.heap.size 22 1 (.slice R k rc) k (Vec.us v)) := Lib.hid (Own.beside own1 ((Beside.refl [xb] w1).setCell (by simp) _) (by have := ST.out.old.1; simp; omega))
    clear own1 ht1 hb1 NB ST k0
    go_wp2_with fail
    generalize w1.setCell ⟨xb, 5, none⟩ (.slice R k rc) = w2 at ST2 OW2 ⊢
    have RD := takeRows_any PA PN L t l1 w2 ST2.out.tape ST2.out.see hl1
    clear c5 f5 ST1
    cases gr : rowsT l1 with
    | bad E =>
      rw [gr] at RD
      obtain rfl : G = .bad E := by rw [HG1.out, gr]; rfl
      have NB := Lib.hid RD
      clear RD gr HG1
      clear hll
      go_wp2_with fail
      refine NB.out.mono ?_
      rintro e wb ⟨rfl, hbb⟩
      have HB := Lib.hid (ST2.out.bad hbb)
      clear hbb NB
      unfold fault
      go_wp2
      exact ⟨rfl, rfl, HB.out⟩
    | no =>
      rw [gr] at RD
      obtain rfl : G = .no := by rw [HG1.out, gr]; rfl
      have NB := Lib.hid RD
      clear RD gr HG1
      go_wp2_with fail
      refine NB.out.mono ?_
      rintro e w3 ⟨rfl, hb3⟩
      have hbx := (hb3.block xb (Array.getElem?_eq_some_iff.1 ST2.out.box).1 (by simp; exact ST2.out.ne)).trans ST2.out.box
      have c6 : w3.cell? ⟨xb, 6, none⟩ = some (.slice none 0 0) := by rw [cell_of_row w3 xb _ _ _ _ hbx]; rfl
      have f6 : w3.frozen? ⟨xb, 6, none⟩ = false := frozen_row0 hbx
      have FIN : Hid ((w3.setCell ⟨xb, 6, none⟩ (.slice none 0 0)).heap[xb]? = some (.cells (ltV (x0 1 s d m q) { Adr.zero with Ha := R, hn := k, hc := rc }) 37 (0, 0)) ∧ Beside [t, xb] w (w3.setCell ⟨xb, 6, none⟩ (.slice none 0 0))) := Lib.hid ⟨(heapSame hbx).trans rfl, (ST2.out.bad hb3).setCell (by simp) _⟩
      clear hb3 hbx NB
      go_wp2
      go_ret
      exact ⟨_, _, rfl, FIN.out.1, FIN.out.2⟩
    | ok rs l2 =>
      rw [gr] at RD
      obtain rfl : G = .ok { x0 1 s d m q with H := v, rows := rs } l2 := by rw [HG1.out, gr]; rfl
      have NB := Lib.hid RD
      clear RD gr HG1
      go_wp2_with fail
      refine NB.out.mono ?_
      rintro e w3 ⟨b, rfl, hb0, rw3, ht3, hb3⟩
      have ST3 := Lib.hid (ST2.out.read hb3 ht3)
      have c6 : w3.cell? ⟨xb, 6, none⟩ = some (.slice none 0 0) := (ST3.out.cell 6).trans rfl
      have f6 := ST3.out.froz 6
      have HB0 : Hid (w.heap.size ≤ b) := Lib.hid (by have := ST2.out.bes.size; omega)
      obtain ⟨n, hn⟩ : ∃ n, n = rs.length := ⟨_, rfl⟩
      rw [← hn] at rw3 ⊢
      have ST4 := Lib.hid (ST3.out.set 6 (.slice (some ⟨b, 0, none⟩) n n))
      have OW4 : Hid ((w3.setCell ⟨xb, 6, none⟩ (.slice (some ⟨b, 0, none⟩) n n)).ownsRow w.heap.size 22 1 (.slice R k rc) k (Vec.us v)) := Lib.hid (Own.beside (Own.beside OW2.out hb3 (by have := ST2.out.old.2; simp; omega)) ((Beside.refl [xb] w3).setCell (by simp) _) (by have := ST2.out.old.1; simp; omega))
      have RW4 : Hid (RwsAt b n rs (w3.setCell ⟨xb, 6, none⟩ (.slice (some ⟨b, 0, none⟩) n n))) := Lib.hid (rw3.beside ((Beside.refl [xb] w3).setCell (by simp) _) (by have h1 := ST2.out.old.1; have h2 := ST2.out.bes.size; simp; omega))
      have HN := Lib.hid hn
      clear rw3 ht3 hb3 NB hn OW2 ST2 ST3
      go_wp2
      go_ret
      exact ⟨⟨R, k, rc, some ⟨b, 0, none⟩, n, n, none, 0, 0, none, 0, 0⟩, [], rfl, ST4.out.box, ⟨Vec.SeesU.of_own OW4.out, Fresh.of_own OW4.out (Nat.le_refl _), HN.out, rows_of RW4.out HB0.out, rfl, rfl, raw_nil _, Fresh.none _, (fun r hr => by cases hr), Sees.nil _ _, Fresh.none _⟩, ST4.out.tape, ST4.out.bes⟩
end Go.Proofs.YthdflbpmabcjlaaDoor.Lt
