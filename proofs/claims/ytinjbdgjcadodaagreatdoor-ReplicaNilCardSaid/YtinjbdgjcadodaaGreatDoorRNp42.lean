/- Texts of the law ReplicaNil, put together. -/
import Derived.Sort.OwnSorted
import Derived.Laws.OwnMore
import Derived.Lib.SliceRun
import Derived.Test.YtinjbdgjcadodaaGreatDoorRNp19
import Derived.Test.YtinjbdgjcadodaaGreatDoorRNp34
import Derived.Test.YtinjbdgjcadodaaGreatDoorRNp41
set_option linter.unusedVariables false
set_option linter.unusedSimpArgs false
set_option maxRecDepth 100000
namespace Go.Proofs.YtinjbdgjcadodaaGreatDoor.Fol
open Go Go.RowKit Words Enc Go.Proofs.YtinjbdgjcadodaaGreatDoor.Q Evt
section
variable {S : List Nat} {d mb : Nat} {F : Fo}
set_option maxHeartbeats 1000000 in
theorem apply_bad (e : Ev) (A : Option Addr) (n c : Nat) (w : World) (h : FoldAt w S d mb F) (hr : rightE e ≠ 0) (hs : Sees w A n e.text) (hn : n ≤ 1000000000) (hfit : e.Fit) (hkl : e.key.size ≤ 9223372036854775807) :
  Calls Tryz.prog 105 #[.pointer (some ⟨d, 0, none⟩), e.val A n c] w fun e' w' => e' = .returned (.int .i64 (rightE e : Int)) ∧ Below w.heap.size w w' := by
 have RT := Lib.hid (fun (W : World) => right_any e A n c W hfit hs.1.symm (by rw [hs.1]; omega) hkl)
 obtain ⟨wr, sq, tm, kd, key, text, num, node⟩ := e
 have BX := Lib.hid (fun (W : World) hW => boxed (W := W) #[.int .i64 wr, .int .u64 (sq : Int), .int .u64 (tm : Int), .int .u8 (kd : Int), .string key, .slice A n c, .float .f64 num, .int .i64 node] w hW)
 obtain ⟨r, hre⟩ : ∃ r, r = rightE ⟨wr, sq, tm, kd, key, text, num, node⟩ := ⟨_, rfl⟩
 rw [← hre] at RT hr ⊢
 show Calls _ _ #[_, .agg #[.int .i64 wr, .int .u64 (sq : Int), .int .u64 (tm : Int), .int .u8 (kd : Int), .string key, .slice A n c, .float .f64 num, .int .i64 node]] _ _
 have hne : ((r : Int) == 0) = false := by rw [beq_eq_false_iff_ne]; omega
 have hne2 : ((r : Int) != 0) = true := by simp [hr]
 clear h hs hfit hre hkl
 go_enter Tryz.func105, Tryz.ntmps105
 go_wp2_with fail
 refine (RT.out _).mono ?_
 rintro e' w1 ⟨rfl, hb1⟩
 obtain ⟨b1, g1, z1⟩ := BX.out w1 (by simpa using hb1)
 have B1 := Lib.hid b1
 clear hb1 b1 g1 z1
 go_wp2
 go_ret
 exact ⟨rfl, B1.out⟩
theorem apply_any (e : Ev) (A : Option Addr) (n c : Nat) (w : World) (h : FoldAt w S d mb F) (hs : Sees w A n e.text) (ho : Out [d, mb] A n) (hS : ∀ x ∈ S, x < w.heap.size) (hf : F.L.length < 1000000000000) (hn : n ≤ 1000000000)
  (hfit : e.Fit) (hkl : e.key.size ≤ 9223372036854775807) :
  Calls Tryz.prog 105 #[.pointer (some ⟨d, 0, none⟩), e.val A n c] w fun e' w' => e' = .returned (.int .i64 (applyE F e : Int)) ∧ Makes S d mb w (applyF F e) w' := by
 by_cases hr : rightE e = 0
 ·have hR := (right_iff e).1 hr
  obtain ⟨wr, sq, tm, kd, key, text, num, node⟩ := e
  obtain ⟨i, rfl⟩ := Int.eq_ofNat_of_zero_le hR.w1
  exact apply_right w h hR hfit.q hs ho hS hf hn hfit hkl
 ·have hE : applyE F e = rightE e := by unfold applyE; rw [if_pos hr]
  have hF : applyF F e = F := by unfold applyF; rw [hE, if_neg hr]
  rw [hE, hF]
  refine (apply_bad e A n c w h hr hs hn hfit hkl).mono ?_
  rintro e' w' ⟨rfl, hb⟩
  exact ⟨rfl, h.below hb, Beside.of_below hb _⟩
end
end Go.Proofs.YtinjbdgjcadodaaGreatDoor.Fol
namespace Go.Proofs.YtinjbdgjcadodaaGreatDoor.Fol
open Go Go.RowKit Words Enc Go.Proofs.YtinjbdgjcadodaaGreatDoor.Q Evt Go.Maps Go.Sort Go.Shelf
section
variable {P : Program} {w : World} {ops : Array Oper} {rest : List Oper} {op : Oper} {a : Act} {Q : Exit → Act → World → Prop}
theorem wpList_alloc (hgd : op.guard = none) (t : TypeId) (ho : op.op = .alloc t) (z : Array Value) (hz : (zeroValue t).run P w = .ok (.agg z) w)
  (h : wpList P ops Q rest (a.put op.dst (.pointer (some ⟨w.heap.size, 0, none⟩))) (w.alloc (.cells z t))) : wpList P ops Q (op :: rest) a w := by
 refine wpList_plain hgd fun K hK => ?_
 have h2 : (execOp a.eval op).run P w = .ok (.value (.pointer (some ⟨w.heap.size, 0, none⟩))) (w.alloc (.cells z t)) := by
  unfold execOp
  simp [ho, go_sem, hz, Value.cells]
 unfold Oper.wp
 rw [h2]
 exact hK _ _ h
end
theorem row_map {F : Fo} (mb mb2 : Nat) : (row mb F).setIfInBounds 0 (.map (some mb2)) = row mb2 F := by
 unfold row cells
 simp
set_option maxHeartbeats 2000000 in
theorem copy_any (S : List Nat) (d mb : Nat) (F : Fo) (w : World) (h : FoldAt w S d mb F) :
  Calls Tryz.prog 161 #[.pointer (some ⟨d, 0, none⟩)] w fun e w' => ∃ d2 mb2, e = .returned (.pointer (some ⟨d2, 0, none⟩)) ∧ w.heap.size ≤ d2 ∧ w.heap.size ≤ mb2 ∧ FoldAt w' (d2 :: mb2 :: S) d2 mb2 F ∧ Below w.heap.size w w' := by
 obtain ⟨L, hm, hL, ht⟩ := h.map
 obtain ⟨D, ho, hs⟩ := hm
 have hrow := h.row
 have hok := h.ok
 obtain ⟨R, hR⟩ : ∃ R, R = row mb F := ⟨_, rfl⟩
 have hsz : R.size = 196 := by rw [hR]; exact row_size hok
 rw [← hR] at hrow
 have h1 : R.all (·.oneCell') = true := by
  rw [hR]
  unfold row cells
  simp [List.all_append, List.all_map, Value.oneCell', Function.comp_def]
 obtain ⟨zr, hzr, hzs⟩ : ∃ zr : Array Value, (∀ W, (zeroValue 213).run Tryz.prog W = .ok (.agg zr) W) ∧ zr.size = 196 := ⟨_, fun W => (by kernel_rfl : (zeroValue 213).run Tryz.prog W = .ok (.agg (#[.map none] ++ Array.replicate 128 (.bool false) ++ Array.replicate 64 (.int .u64 0) ++ #[.int .u64 0, .int .i64 0, .int .u64 0])) W), by simp⟩
 have hz0 := hzr w
 have hB1 := (Below.refl w.heap.size w).alloc (Nat.le_refl _) (.cells zr 213)
 have hg1 := heap_alloc_new w (.cells zr 213)
 obtain ⟨u, hu⟩ : ∃ u, u = w.alloc (.cells zr 213) := ⟨_, rfl⟩
 have hus : u.heap.size = w.heap.size + 1 := by rw [hu]; simp
 rw [← hu] at hB1 hg1
 have HU := Lib.hid hu
 obtain ⟨B, hB⟩ : ∃ B, B = w.heap.size := ⟨_, rfl⟩
 have HB := Lib.hid hB
 have hsi : (Tryz.prog.info? 213).map (·.size) = some R.size := by rw [hsz]; kernel_rfl
 have hzz : zr.size = R.size := by rw [hsz, hzs]
 have HH := Lib.hid h
 have HRw := Lib.hid hR
 have HO := Lib.hid (And.intro ho hs)
 have HL := Lib.hid hL
 have HT := Lib.hid ht
 have hlt := h.lt
 clear h ho hs hL ht hR hzr hzs hu hok
 go_enter Tryz.func161, Tryz.ntmps161
 go_wp2_with (first
  | (refine wpList_getRow rfl 213 (.tmp 7) rfl d 213 R (0, 0) _ rfl hrow Tryz.underlying213 rfl hsi ?_)
  | (refine wpList_alloc rfl 213 rfl zr hz0 ?_; rw [← HU.out, ← HB.out]; refine wpList_putRow rfl 213 (.tmp 3) (.tmp 8) rfl B 213 zr R rfl rfl (by rw [hB]; exact hg1) hsi hzz h1 ?_))
 intro w2 g2 hb2
 have hs2 : w.heap.size + 1 ≤ w2.heap.size := by have := hb2.size; omega
 have HB2 := Lib.hid (Below.beside hB1 hb2 (by omega) (fun x hx => by simp at hx; omega))
 have hF2 := HH.out.below HB2.out
 have hm2 : MapAt w2 mb L := MapAt.kept ⟨D, HO.out⟩ (HB2.out.block _ hlt.2)
 obtain ⟨D2, ho2, hsh2⟩ := hm2
 have c2 := hF2.c0
 obtain ⟨n2, hn2⟩ : ∃ n2, n2 = L.length := ⟨_, rfl⟩
 rw [← hn2] at ho2
 have CL := Lib.hid (AnyW.maps_Clone_owns Tryz.clone222 9 celElem mb n2 D2 w2 ho2)
 have HF2 := Lib.hid hF2
 have HS2 := Lib.hid hsh2
 have HN2 := Lib.hid hn2
 clear hF2 hsh2 ho2 hn2 hb2 hB1 hrow hg1 hz0 hzz hsi
 go_wp2_with (first
  | (go_at_call 222; refine CL.out.mono ?_; rintro e w3 ⟨rfl, ho3, _, hb3⟩
     have g3 := (hb3.block _ (by omega : w.heap.size < w2.heap.size)).trans g2
     have c3 : w3.cell? ⟨w.heap.size, 0, none⟩ = some (.map (some mb)) := by rw [cell_of_row w3 _ _ _ _ _ g3, HRw.out]; rfl
     have fr3 := frozen_row0 g3 (i := 0)
     have HB3 := Lib.hid hb3
     have HO3 := Lib.hid ho3
     clear hb3 ho3))
 go_ret
 have hok := HH.out.ok
 refine ⟨w.heap.size, w2.heap.size, rfl, Nat.le_refl _, by omega, ⟨?_, ⟨L, ?_, HL.out, fun p hp => ?_⟩, hok, by omega, by simp, by simp⟩, (HB2.out.trans (HB3.out.mono (by omega))).setCell (Nat.le_refl _) _⟩
 ·rw [heapSame g3, HRw.out, row_map]
 ·exact MapAt.kept ⟨D2, by rw [← HN2.out]; exact HO3.out, HS2.out⟩ (heapOther (by omega))
 ·have h4 := (HT.out p hp).wider (S1 := w.heap.size :: w2.heap.size :: S) (fun x hx => by simp at hx; rcases hx with rfl | rfl | hx <;> first | exact .inl hx | exact .inr (by omega))
  exact h4.beside (S1 := []) (.of_below ((HB2.out.trans (HB3.out.mono (by omega))).setCell (Nat.le_refl _) _) _) fun x hx => by cases hx
end Go.Proofs.YtinjbdgjcadodaaGreatDoor.Fol
