/- Matrix: the document's example. -/
import Derived.Test.YtlacihgoammjgaaMtxFeeds
namespace Go.Proofs.Ytlacihgoammjgaa.Mtx
open Go Go.RowKit Go.Proofs.Ytlacihgoammjgaa.Words Go.Proofs.Ytlacihgoammjgaa.Vec
set_option linter.unusedVariables false
set_option linter.unusedSimpArgs false

theorem aw_bound {A : Option Addr} {R2 : Nat → Hav} (t0 : (R2 0).t = 5) (t1 : (R2 1).t = 7) (h00 : at_ (R2 0).H 0 = 1) (h10 : at_ (R2 1).H 0 = 1) (h11 : at_ (R2 1).H 1 = 0) : boundUpto 1 (fun _ => ⟨A, 1, 1, [3], 0⟩) R2 [0, 1] 2 = 5 := by
  simp [boundUpto, rowBound, listOf, limit, t0, t1, h00, h10, h11, endT]
set_option maxRecDepth 100000 in
set_option maxHeartbeats 4000000 in
theorem awakeX_yes (w : World) : Calls Try.prog 20 #[] w fun e w' => e = .returned (.bool true) ∧ Below w.heap.size w w' := by
  have hsf := Evt.store_float Try.prog
  go_enter Try.func20, Try.ntmps20
  go_wp2_with fail
  refine (new_any w).mono ?_
  rintro e w1 ⟨rfl, hw1⟩
  have M1 : MatAt w.heap.size (fun _ => noHav) w1 := by rw [hw1]; exact mat_new w
  have B1 : Below w.heap.size w w1 := by rw [hw1]; exact (Below.refl _ _).alloc (Nat.le_refl _) _
  obtain ⟨mb, hmb⟩ : ∃ mb, mb = w.heap.size := ⟨_, rfl⟩
  rw [← hmb] at M1 ⊢
  have HMB := Lib.hid hmb
  clear hmb hw1
  go_upto_region 3 with fail
  obtain ⟨w2, hw2⟩ : ∃ u, u = w1.alloc (Obj.cells #[Value.int IntKind.i64 0, Value.int IntKind.u64 1, Value.int IntKind.u64 3, Value.int IntKind.u8 0, Value.string { data := #[] }, Value.slice none 0 0, Value.float FloatKind.f64 0, Value.int IntKind.i64 0] 34) := ⟨_, rfl⟩
  obtain ⟨eb, heb⟩ : ∃ b, b = w1.heap.size := ⟨_, rfl⟩
  have E2 : w2.cell? ⟨eb, 2, none⟩ = some (.int .u64 3) := by rw [hw2, heb, cell_of_row _ w1.heap.size _ _ _ (0, 0) (heap_alloc_new w1 _)]; rfl
  have B12 : Below w1.heap.size w1 w2 := by rw [hw2]; exact (Below.refl _ _).alloc (Nat.le_refl _) _
  have M2 := Lib.hid (M1.below B12)
  have B2 := Lib.hid (B1.trans (B12.mono B1.size))
  have hes : eb < w2.heap.size := by rw [hw2, heb]; simp
  have hem : eb ≠ mb := by have := M1.lt; omega
  rw [← hw2, ← heb]
  clear hw2 heb B12 B1 M1
  have T2 := Lib.hid (Took2.new w2 [1] 30 1 rfl (fits_list (by decide)) (by decide))
  have MM2 := Lib.hid (M2.out.below ((Below.refl _ _).alloc (Nat.le_refl _) (.cells (us [1]).toArray 30)))
  go_wp2_with fail
  refine (raiseM_any mb 0 (fun _ => noHav) (some ⟨w2.heap.size, 0, none⟩) 1 1 5 [1] _ MM2.out (by decide) T2.out (by decide) (by decide) (fun h => by cases h)).mono ?_
  rintro e w3 ⟨⟨b1, rfl, hb1⟩, R1, D1⟩
  obtain rfl : b1 = true := hb1 (by decide)
  have E3 : w3.cell? ⟨eb, 2, none⟩ = some (.int .u64 3) := D1.beside.cell (a := ⟨eb, 2, none⟩) (by rw [(show Below w2.heap.size w2 (w2.alloc (.cells (us [1]).toArray 30)) from (Below.refl _ _).alloc (Nat.le_refl _) _).cell (p := ⟨eb, 2, none⟩) hes]; exact E2) (by simpa using hem)
  have hes3 : eb < w3.heap.size := World.block_lt_of_cell? _ _ E3
  have B3 : Hid (Below w.heap.size w w3) := Lib.hid (Below.beside (B2.out.alloc B2.out.size _) D1.beside (by have := B2.out.size; simp; omega) (fun k hk => by rw [List.mem_singleton.1 hk, HMB.out]; exact Nat.le_refl _))
  have HD1 := Lib.hid D1
  clear D1 hb1 E2 hes T2 MM2 M2 B2
  go_upto_region 4 with fail
  have T3 := Lib.hid (Took2.new w3 [1] 30 1 rfl (fits_list (by decide)) (by decide))
  have MM3 := Lib.hid (HD1.out.mat.below ((Below.refl _ _).alloc (Nat.le_refl _) (.cells (us [1]).toArray 30)))
  have ht3 : (R1 1).t < 7 := by rw [HD1.out.other 1 (by decide)]; decide
  go_wp2_with fail
  refine (raiseM_any mb 1 R1 (some ⟨w3.heap.size, 0, none⟩) 1 1 7 [1] _ MM3.out (by decide) T3.out (by decide) (by decide) (fun h => by cases h)).mono ?_
  rintro e w4 ⟨⟨b2, rfl, hb2⟩, R2, D2⟩
  obtain rfl : b2 = true := hb2 ht3
  have E4 : w4.cell? ⟨eb, 2, none⟩ = some (.int .u64 3) := D2.beside.cell (a := ⟨eb, 2, none⟩) (by rw [(show Below w3.heap.size w3 (w3.alloc (.cells (us [1]).toArray 30)) from (Below.refl _ _).alloc (Nat.le_refl _) _).cell (p := ⟨eb, 2, none⟩) hes3]; exact E3) (by simpa using hem)
  have hes4 : eb < w4.heap.size := World.block_lt_of_cell? _ _ E4
  have B4 : Hid (Below w.heap.size w w4) := Lib.hid (Below.beside (B3.out.alloc B3.out.size _) D2.beside (by have := B3.out.size; simp; omega) (fun k hk => by rw [List.mem_singleton.1 hk, HMB.out]; exact Nat.le_refl _))
  have HM4 := Lib.hid D2.mat
  have HBD := Lib.hid (aw_bound (A := some ⟨eb, 0, none⟩) (R2 := R2) (by rw [D2.other 0 (by decide), HD1.out.time]; decide) (by rw [D2.time, HD1.out.other 1 (by decide)]; decide) (by rw [D2.other 0 (by decide), HD1.out.have_]; decide) (by rw [D2.have_, HD1.out.other 1 (by decide)]; decide) (by rw [D2.have_, HD1.out.other 1 (by decide)]; decide))
  clear D2 hb2 E3 hes3 T3 MM3 B3 HD1 ht3
  obtain ⟨wg, hwg⟩ : ∃ u, u = w4.alloc (.cells #[.int .i64 0, .int .i64 1] 3) := ⟨_, rfl⟩
  obtain ⟨wl, hwl⟩ : ∃ u, u = wg.alloc (.cells #[.slice (some ⟨eb, 0, none⟩) 1 1] 26) := ⟨_, rfl⟩
  have Bg : Below w4.heap.size w4 wg := by rw [hwg]; exact (Below.refl _ _).alloc (Nat.le_refl _) _
  have Bl : Below wg.heap.size wg wl := by rw [hwl]; exact (Below.refl _ _).alloc (Nat.le_refl _) _
  have Bx : Below w4.heap.size w4 wl := Bg.trans (Bl.mono Bg.size)
  have hgs : wg.heap.size = w4.heap.size + 1 := by rw [hwg]; simp
  have HG : Hid (∀ i, i < [0, 1].length → wl.cell? ⟨w4.heap.size, i, none⟩ = some (.int .i64 (([0, 1] : List Nat).getD i 0 : Int)) ∧ ([0, 1] : List Nat).getD i 0 < 64) := Lib.hid fun i hi => by
    have hc := World.cell_new2 w4 (.int .i64 0) (.int .i64 1) 3
    rw [← hwg] at hc
    match i, hi with
    | 0, _ => exact ⟨by rw [Bl.cell (p := ⟨w4.heap.size, 0, none⟩) (by show w4.heap.size < _; omega)]; exact hc.1, by decide⟩
    | 1, _ => exact ⟨by rw [Bl.cell (p := ⟨w4.heap.size, 1, none⟩) (by show w4.heap.size < _; omega)]; exact hc.2, by decide⟩
  have HL : Hid (ListsAt (w4.heap.size + 1) 1 (fun _ => ⟨some ⟨eb, 0, none⟩, 1, 1, [3], 0⟩) wl) := Lib.hid ⟨fun k hk => by
      obtain rfl : k = 0 := by omega
      rw [hwl, ← hgs, cell_of_row _ wg.heap.size _ _ _ (0, 0) (heap_alloc_new wg _)]; rfl, fun k hk => rfl, fun k hk j hj => by
      obtain rfl : j = 0 := by have : j < 1 := hj; omega
      exact ⟨eb, 0, rfl, by rw [Bx.cell (p := ⟨eb, 0 + 0 * 8 + 2, none⟩) hes4]; exact E4, (show (1 : Nat) ≤ 3 by decide), (show (3 : Nat) < 18446744073709551616 by decide)⟩, by omega, fun k hk => (show (1 : Nat) ≤ 1000 by decide)⟩
  have HML := Lib.hid (HM4.out.below Bx)
  have HBX := Lib.hid (B4.out.trans (Bx.mono B4.out.size))
  have HWG := Lib.hid hwg
  have HWL := Lib.hid hwl
  have HGS := Lib.hid hgs
  clear Bg Bl Bx hgs hwg hwl
  go_wp2_with fail
  rw [← HWG.out, ← HWL.out]
  refine (bound_any mb w4.heap.size 2 (w4.heap.size + 1) 1 R2 (fun _ => ⟨some ⟨eb, 0, none⟩, 1, 1, [3], 0⟩) [0, 1] wl HML.out HL.out HG.out (by decide) (by decide)).mono ?_
  rw [show ([0, 1] : List Nat).length = 2 from rfl, HBD.out]
  rintro e w5 ⟨rfl, hb5⟩
  have H5 := Lib.hid (HBX.out.trans (hb5.mono HBX.out.size))
  clear hb5
  go_wp2
  go_ret
  exact ⟨rfl, H5.out⟩
end Go.Proofs.Ytlacihgoammjgaa.Mtx
