/- feed: does the next event begin a segment? A segment's name. -/
import Derived.Test.YtkphklmgbdljiaaGreatDoorFdLast
namespace Go.Proofs.YtkphklmgbdljiaaGreatDoor.Fd
open Go Go.RowKit Go.Proofs.YtkphklmgbdljiaaGreatDoor.Words Go.Proofs.YtkphklmgbdljiaaGreatDoor.Enc Go.Proofs.YtkphklmgbdljiaaGreatDoor.Evt Go.Proofs.YtkphklmgbdljiaaGreatDoor.Made Go.Proofs.YtkphklmgbdljiaaGreatDoor.Dsk Go.Proofs.YtkphklmgbdljiaaGreatDoor.Sht Go.Proofs.YtkphklmgbdljiaaGreatDoor.Seg
set_option linter.unusedVariables false
set_option linter.unusedSimpArgs false

set_option maxRecDepth 100000 in
theorem full_none [Inhabited XS] (d f x : Nat) (sz : Int) (floor time : Nat) (safe : Nat) (O : List Nat) (h : Hd) (w : World) (F : Feed w d f x sz floor time [] safe O h) :
    Calls Tryz.prog 27 #[.pointer (some ⟨f, 0, none⟩)] w fun e w' => e = .returned (.bool true) ∧ Below w.heap.size w w' := by
  obtain ⟨A, c, _, _, _, _, _, c5, _⟩ := F.box
  clear F
  simp only [List.length_nil] at c5
  go_enter Tryz.func27, Tryz.ntmps27
  go_wp2
  go_ret
  exact ⟨rfl, Below.refl _ _⟩

set_option maxRecDepth 100000 in
theorem full_at [Inhabited XS] (d f x : Nat) (sz : Int) (floor time : Nat) (R : List SegS) (safe : Nat) (A : Option Addr) (c : Nat) (S : List Nat) (h : Hd) (j : Nat) (r : SegS) (w : World) (F : FeedAt w d f x sz floor time R safe A c S h) (hn : R.length = j + 1) (hj : R[j]? = some r) (hm : j ≤ 1000000)
    (hfl : floor < r.p.u + r.p.L.length) (hlt : r.p.u + r.p.L.length < 18446744073709551616) (hne : 0 < r.p.L.length) :
    Calls Tryz.prog 27 #[.pointer (some ⟨f, 0, none⟩)] w fun e w' => e = .returned (.bool (decide (sz ≤ (r.p.z x : Int)))) ∧ Below w.heap.size w w' := by
  have CELLS := Lib.hid (fun W (hW : Below w.heap.size w W) => (F.below hW).cells)
  obtain ⟨_, _, _, _, _, c5, _⟩ := F.cells
  have hf : f < w.heap.size := F.lt f (by simp)
  have hlen : 0 < R.length := by omega
  have hl0 : ¬ R.length = 0 := by omega
  have END := Lib.hid (fun W (hW : Below w.heap.size w W) => end_any d f x sz floor time R safe A c S h j r W (F.below hW) hn hj hm)
  have NXF := Lib.hid (fun W (hW : Below w.heap.size w W) => nextF_last d f x sz floor time R safe A c S h j r W (F.below hW) hn hj hm hfl hlt)
  have NXS := Lib.hid (fun W => next_any (x : Int) r.p.u r.A r.p.L.length r.p.L.length (r.p.z x) W hlt)
  unfold segV at NXS
  unfold SegS.val segV at END
  generalize r.p.u + r.p.L.length = nx at *
  generalize r.p.L.length = nl at *
  generalize r.p.z x = z at *
  generalize R.length = n at *
  clear F hn hj hlt hfl
  go_enter Tryz.func27, Tryz.ntmps27
  go_wp2_with fail
  refine (END.out w (Below.refl _ _)).mono ?_
  rintro e w1 ⟨rfl, hb1⟩
  have g1 := heap_alloc_new w1 (.cells #[.int .i64 0, .int .u64 0, .slice none 0 0, .int .i64 0] 65)
  have b1 := hb1.trans (((Below.refl w1.heap.size w1).alloc (Nat.le_refl _) (.cells #[.int .i64 0, .int .u64 0, .slice none 0 0, .int .i64 0] 65)).mono hb1.size)
  have hz := hb1.size
  have G1 := Lib.hid g1
  have B1 := Lib.hid b1
  clear g1 b1 hb1 c5
  go_wp2_with (refine wpList_putRow rfl 65 (.tmp 3) (.tmp 11) rfl w1.heap.size 65 #[.int .i64 0, .int .u64 0, .slice none 0 0, .int .i64 0] #[.int .i64 (x : Int), .int .u64 (r.p.u : Int), .slice r.A nl nl, .int .i64 (z : Int)] rfl rfl ?g1 (by kernel_rfl) rfl (by simp [Value.oneCell']) ?_)
  case g1 => exact G1.out
  intro W' hW' hbe
  obtain ⟨q0, q1, q2, q3⟩ := b4cells hW'
  have b2 := Below.beside B1.out hbe B1.out.size (by simp; omega)
  obtain ⟨_, _, c2, _, _, c5, _⟩ := CELLS.out W' b2
  have HB2 := Lib.hid b2
  have HW := Lib.hid hW'
  clear hW' hbe b2 B1 G1
  by_cases hzs : sz ≤ (z : Int)
  · have hd : decide (sz ≤ (z : Int)) = true := by simp; omega
    have HD := Lib.hid hd
    clear END NXF NXS
    go_wp2_with fail
    go_quiet (fail)
    go_wp2
    go_ret
    exact ⟨by rw [HD.out]; rfl, HB2.out.trans ((below_drewN' W' _).mono HB2.out.size)⟩
  · have hd : decide (sz ≤ (z : Int)) = false := by simp; omega
    have HD := Lib.hid hd
    have N1 : ∀ W, Below W'.heap.size W' W → Calls Tryz.prog 39 #[.agg #[.int .i64 (x : Int), .int .u64 (r.p.u : Int), .slice r.A nl nl, .int .i64 (z : Int)]] W fun e w' => e = .returned (.int .u64 (nx : Int)) ∧ Hid (Below W'.heap.size W' w') ∧ w'.cell? ⟨w1.heap.size, 0, none⟩ = some (.int .i64 (x : Int)) ∧ w'.cell? ⟨w1.heap.size, 1, none⟩ = some (.int .u64 (r.p.u : Int)) ∧ w'.cell? ⟨w1.heap.size, 2, none⟩ = some (.slice r.A nl nl) ∧ w'.cell? ⟨w1.heap.size, 3, none⟩ = some (.int .i64 (z : Int)) ∧ w'.cell? ⟨f, 2, none⟩ = some (.int .i64 sz) := fun W hW => by
      refine (NXS.out W).mono ?_
      rintro e w' ⟨rfl, hb⟩
      have hb' := hW.trans (hb.mono hW.size)
      have h4 := b4cells ((hb'.block w1.heap.size (Array.getElem?_eq_some_iff.1 HW.out).1).trans HW.out)
      exact ⟨rfl, Lib.hid hb', h4.1, h4.2.1, h4.2.2.1, h4.2.2.2, (CELLS.out w' (HB2.out.trans (hb'.mono HB2.out.size))).2.2.1⟩
    have N2 : ∀ W, Below W'.heap.size W' W → Calls Tryz.prog 17 #[.pointer (some ⟨f, 0, none⟩)] W fun e w' => e = .returned (.int .u64 (nx : Int)) ∧ Hid (Below W'.heap.size W' w') ∧ w'.cell? ⟨w1.heap.size, 0, none⟩ = some (.int .i64 (x : Int)) ∧ w'.cell? ⟨w1.heap.size, 1, none⟩ = some (.int .u64 (r.p.u : Int)) ∧ w'.cell? ⟨w1.heap.size, 2, none⟩ = some (.slice r.A nl nl) ∧ w'.cell? ⟨w1.heap.size, 3, none⟩ = some (.int .i64 (z : Int)) ∧ w'.cell? ⟨f, 2, none⟩ = some (.int .i64 sz) := fun W hW => by
      refine (NXF.out W (HB2.out.trans (hW.mono HB2.out.size))).mono ?_
      rintro e w' ⟨rfl, hb⟩
      have hb' := hW.trans (hb.mono hW.size)
      have h4 := b4cells ((hb'.block w1.heap.size (Array.getElem?_eq_some_iff.1 HW.out).1).trans HW.out)
      exact ⟨rfl, Lib.hid hb', h4.1, h4.2.1, h4.2.2.1, h4.2.2.2, (CELLS.out w' (HB2.out.trans (hb'.mono HB2.out.size))).2.2.1⟩
    clear END NXF NXS CELLS HW
    go_wp2_with fail
    go_region_held3 (fun w' => w'.cell? ⟨w1.heap.size, 0, none⟩ = some (.int .i64 (x : Int)) ∧ w'.cell? ⟨w1.heap.size, 1, none⟩ = some (.int .u64 (r.p.u : Int)) ∧ w'.cell? ⟨w1.heap.size, 2, none⟩ = some (.slice r.A nl nl) ∧ w'.cell? ⟨w1.heap.size, 3, none⟩ = some (.int .i64 (z : Int)) ∧ w'.cell? ⟨f, 2, none⟩ = some (.int .i64 sz)) (go_keep)
      (first
        | (go_at_call 39
           refine (N1 _ ?h0).mono ?_
           case h0 => first | exact Below.refl _ _ | exact (Below.refl _ _).drew | exact HN2.out
           rintro e w6 ⟨rfl, HN1, q0, q1, q2, q3, c2⟩)
        | (go_at_call 17
           refine (N2 _ ?h1).mono ?_
           case h1 => first | exact Below.refl _ _ | exact (Below.refl _ _).drew | exact HN1.out
           rintro e w7 ⟨rfl, HN2, q0, q1, q2, q3, c2⟩))
    all_goals go_wp2
    all_goals go_ret
    all_goals rw [HD.out]
    all_goals first
      | exact ⟨by simp, HB2.out.trans (HN2.out.mono HB2.out.size)⟩
      | exact ⟨by simp, HB2.out.trans (HN1.out.mono HB2.out.size)⟩
/-- A feed is full. -/
theorem full_any [Inhabited XS] (d f x : Nat) (sz : Int) (floor time : Nat) (I : List Part) (p : Part) (safe : Nat) (O : List Nat) (h : Hd) (u0 : Nat) (w : World) (F : Feed w d f x sz floor time (I ++ [p]) safe O h) (G : Good x floor u0 (I ++ [p])) :
    Calls Tryz.prog 27 #[.pointer (some ⟨f, 0, none⟩)] w fun e w' => e = .returned (.bool (decide (sz ≤ (p.z x : Int)))) ∧ Below w.heap.size w w' := by
  obtain ⟨R, A, c, S, hR, hO, F⟩ := F
  have hC := G.chain
  obtain ⟨h1, h2⟩ := chain_last hC
  have hl := chain_len hC
  have hf := G.few
  have hh := G.hi
  have hRl : R.length = I.length + 1 := by rw [← List.length_map (f := SegS.p), hR]; simp
  have hr : ∃ r, R[I.length]? = some r ∧ r.p = p := by
    have : (R.map SegS.p)[I.length]? = some p := by rw [hR]; simp
    rw [List.getElem?_map] at this
    simpa using this
  obtain ⟨r, hr, rfl⟩ := hr
  have hne := List.length_pos_iff.2 (chain_ne hC r.p (by simp))
  exact full_at d f x sz floor time R safe A c S h I.length r w F hRl hr (by simp at hl; omega) (by omega) (by omega) hne

set_option maxRecDepth 100000 in
theorem nameOf_any (x u : Nat) (A : Option Addr) (n c z : Nat) (w : World) (T : STabs w) (hx : x < 64) (hu : u < 18446744073709551616) :
    Calls Tryz.prog 32 #[segV (x : Int) u A n c z] w fun e w' => e = .returned (.string ⟨(nameL (x : Int) u).toArray⟩) ∧ Below w.heap.size w w' := by
  have hb0 := (Below.refl w.heap.size w).alloc (Nat.le_refl _) (.cells #[.int .i64 (x : Int), .int .u64 (u : Int), .slice A n c, .int .i64 (z : Int)] 65)
  unfold segV
  go_enter Tryz.func32, Tryz.ntmps32
  go_wp2_with fail
  refine (name_any (x : Int) u (by omega) (by omega) (by omega) _ (T.below hb0)).mono ?_
  rintro e w1 ⟨rfl, hb1⟩
  have b1 := hb0.trans (hb1.mono hb0.size)
  go_wp2
  go_ret
  exact ⟨rfl, b1⟩
end Go.Proofs.YtkphklmgbdljiaaGreatDoor.Fd
