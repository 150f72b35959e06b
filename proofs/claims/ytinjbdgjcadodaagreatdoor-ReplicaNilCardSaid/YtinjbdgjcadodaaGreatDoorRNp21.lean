/- Texts of the law ReplicaNil, put together. -/
import Derived.Deep.RegionHeld3
import Derived.Test.YtinjbdgjcadodaaGreatDoorRNp15
import Derived.Test.YtinjbdgjcadodaaGreatDoorRNp18
import Derived.Test.YtinjbdgjcadodaaGreatDoorRNp19
import Derived.Test.YtinjbdgjcadodaaGreatDoorRNp20
set_option linter.unusedVariables false
set_option linter.unusedSimpArgs false
set_option maxRecDepth 100000
namespace Go.Proofs.YtinjbdgjcadodaaGreatDoor.St
open Go Go.RowKit Words Enc Go.Proofs.YtinjbdgjcadodaaGreatDoor.Made Dsk Seg
theorem infoLs : (Tryz.prog.info? 26).map (fun i => (i.zero, i.size, i.bytes)) = some (some (.slice none 0 0), 1, 24) := by kernel_rfl
theorem StoAt.rangeF {w : World} {g : Nat} {s : Sto} (h : StoAt w g s) : w.rangeAt g 8 s.F := by
 intro j v hv
 have hj : j < 64 := by have := (List.getElem?_eq_some_iff.1 hv).1; rw [h.ok.f] at this; exact this
 exact h.cF hj hv
def zls : Array Value := (List.replicate 64 (Value.slice none 0 0)).toArray
theorem rep_set (z : Value) (n k : Nat) : (List.replicate n z).toArray.setIfInBounds k z = (List.replicate n z).toArray := by
 rw [List.setIfInBounds_toArray]
 congr 1
 refine List.ext_getElem (by simp) fun i _ _ => ?_
 simp [List.getElem_set]
theorem rep_at (z : Value) (n : Nat) {k : Nat} (hk : k < n) : (List.replicate n z).toArray[k]? = some z := by simp [hk]
theorem zls_set (k : Nat) : zls.setIfInBounds k (.slice none 0 0) = zls := rep_set _ _ _
theorem zls_at {k : Nat} (hk : k < 64) : zls[k]? = some (.slice none 0 0) := rep_at _ _ hk
theorem make_64 (W : World) : (Instr.makeSlice 167 (.int .i64 64) (.int .i64 64)).run Tryz.prog W = .ok (.slice (some ⟨W.heap.size, 0, none⟩) 64 64) (W.alloc (.cells zls 26)) := by
 obtain ⟨i, hi, hz, hsz, hby⟩ := info_parts infoLs
 have := run_make (P := Tryz.prog) W 167 26 i (.slice none 0 0) Tryz.underlying167 hi hz .i64 .i64 (64 : Int) (64 : Int) (by omega) (Int.le_refl _) (by rw [hby]; omega) (by omega)
 rw [this, hsz]
 simp only [show Int.toNat 64 = 64 from rfl, Nat.mul_one]
 congr 4
 apply Array.ext'
 rw [show (Value.slice none 0 0).cells = #[Value.slice none 0 0] from rfl, toList_madeCells_one]
 rfl
theorem und_F : Tryz.prog.underlying 88 = some (.array 64 84) := by kernel_rfl
theorem und_row : ∃ dd, Tryz.prog.underlying 88 = some dd ∧ dd.isRow = true := ⟨_, und_F, rfl⟩
theorem index_F (R : Array Value) (v : Value) (j : Nat) (w : World) (hn : R.size = 64) (hj : j < 64) (hR : R[j]? = some v) (hv : v.oneCell' = true) :
  (Instr.index 88 (.agg R) (.int .i64 (j : Int))).run Tryz.prog w = .ok v w := by
 simp [Instr.index, run_underlying und_F, asIntOf, hn, hR, go_sem]
 intro h
 omega
set_option maxHeartbeats 1000000 in
theorem lists_0 (B g : Nat) (s : Sto) (w : World) (h : Opened B w g s 64) :
  Calls Tryz.prog 100 #[.pointer (some ⟨g, 0, none⟩)] w fun e w' => e = .returned (.slice (some ⟨w.heap.size, 0, none⟩) 64 64) ∧ w'.heap[w.heap.size]? = some (.cells zls 26 (0, 0)) ∧ Below w.heap.size w w' := by
 have hmk := make_64 w
 obtain ⟨dd, hdd, hrow⟩ := und_row
 have hr := fun W (hW : Below w.heap.size w W) => (h.sto.below hW).rangeF
 have hlen := h.sto.ok.f
 have HF := Lib.hid h.fs
 obtain ⟨q, hq⟩ : ∃ q, q = s.F := ⟨_, rfl⟩
 rw [← hq] at hr hlen HF
 have hiF : (Tryz.prog.info? 88).map (·.size) = some q.length := by rw [hlen]; kernel_rfl
 have HLEN := Lib.hid hlen
 have HR := Lib.hid hr
 clear h hq hlen hr
 go_enter Tryz.func100, Tryz.ntmps100
 obtain ⟨w1, hw1⟩ : ∃ w1, w1 = w.alloc (.cells zls 26) := ⟨_, rfl⟩
 have hb : Below w.heap.size w w1 := by rw [hw1]; exact (Below.refl w.heap.size w).alloc (Nat.le_refl _) _
 have hz1 : w1.heap[w.heap.size]? = some (.cells zls 26 (0, 0)) := by rw [hw1]; exact heap_alloc_new w _
 rw [← hw1] at hmk
 have hr1 := HR.out _ hb
 have HB1 := Lib.hid hb
 have HZ1 := Lib.hid hz1
 clear hw1 hb hz1
 go_wp2_with (refine wpList_load_mid rfl 88 (.tmp 11) rfl g 8 rfl q dd hr1 hdd hrow hiF ?_)
 go_loopw [13] (fun v wr => ∃ (j : Nat), v = .int .i64 (j : Int) ∧ j ≤ 64 ∧ Hid (Below w.heap.size w wr) ∧ Hid (wr.heap[w.heap.size]? = some (.cells zls 26 (0, 0)))) (fun v _ => 64 - (intOf v).toNat)
 case atStart => exact ⟨0, rfl, Nat.zero_le _, HB1, HZ1⟩
 case round =>
  obtain ⟨j, rfl, hj, HB, HZ⟩ := hrel
  by_cases hlt : j < 64
  ·have hd1 : decide ((j : Int) < 64) = true := decide_eq_true (by omega)
   obtain ⟨f, hf, hbare, _⟩ := HF.out j hlt
   have HAL := Lib.hid (Fd.all0 s.d f (j : Int) s.sz 0 wr (hbare.below HB.out))
   have HJ := Lib.hid hlt
   have q0 : (0 : Int) ≤ (j : Int) := by omega
   have q1 : (j : Int) < 64 := by omega
   have hq1 : q.toArray[j]? = some (.pointer (some ⟨f, 0, none⟩)) := by simpa using hf
   have hix := fun W => index_F q.toArray _ j W (by simpa using HLEN.out) hlt hq1 rfl
   clear hlt hbare hf
   go_wp2_with fail
   refine HAL.out.mono ?_
   rintro e w5 ⟨rfl, hb5⟩
   have b5 := HB.out.trans (hb5.mono HB.out.size)
   have z5 := (hb5.block _ (Array.getElem?_eq_some_iff.1 HZ.out).1).trans HZ.out
   have c5 : w5.cell? ⟨w.heap.size, j, none⟩ = some (.slice none 0 0) := by rw [cell_of_row w5 _ _ _ _ _ z5]; exact zls_at HJ.out
   have y5 : w5.frozen? ⟨w.heap.size, j, none⟩ = false := frozen_row0 z5
   have B5 := Lib.hid b5
   have Z5 := Lib.hid z5
   clear b5 z5 hb5
   go_wp2
   go_roundw
   case rel => exact ⟨j + 1, by simp, HJ.out, Lib.hid (B5.out.setCell (by simp) _), Lib.hid (by rw [heapSame Z5.out, zls_set])⟩
   case measure => have := HJ.out; simp [intOf]; omega
  ·have hd1 : decide ((j : Int) < 64) = false := decide_eq_false (by omega)
   obtain rfl : j = 64 := by omega
   clear hlt
   go_wp2
   go_ret
   exact ⟨rfl, HZ.out, HB.out⟩
end Go.Proofs.YtinjbdgjcadodaaGreatDoor.St
namespace Go.Proofs.YtinjbdgjcadodaaGreatDoor.St
open Go Go.RowKit Words Enc Go.Proofs.YtinjbdgjcadodaaGreatDoor.Made Dsk Seg
open Vec (us uRow make_u uRow_list SeesU Took2 Fits at_ trimN)
def Nexts (s : Sto) (N : Nat → Nat) (w : World) : Prop := ∀ i, i < 64 → N i < 9223372036854775807 ∧ ∃ f, s.F[i]? = some (.pointer (some ⟨f, 0, none⟩)) ∧ ∀ W, Below w.heap.size w W → Calls Tryz.prog 35 #[.pointer (some ⟨f, 0, none⟩)] W fun e w' => e = .returned (.int .u64 ((N i + 1 : Nat) : Int)) ∧ Below W.heap.size W w'
def haveL (N : Nat → Nat) : List Nat := (List.range 64).map N
def haveU (N : Nat → Nat) (j : Nat) : Array Value := (us ((List.range 64).map fun i => if i < j then N i else 0)).toArray
theorem haveU_0 (N : Nat → Nat) : uRow 64 = haveU N 0 := by
 have h : ((List.range 64).map fun i => if i < 0 then N i else 0) = List.replicate 64 0 := by
  refine List.ext_getElem (by rw [List.length_map, List.length_range, List.length_replicate]) fun i h1 h2 => ?_
  rw [List.getElem_map, List.getElem_replicate, if_neg (Nat.not_lt_zero _)]
 unfold haveU
 rw [h]
 apply Array.ext'
 rw [uRow_list]
theorem haveU_set (N : Nat → Nat) {j : Nat} (hj : j < 64) : (haveU N j).setIfInBounds j (.int .u64 (N j : Int)) = haveU N (j + 1) := by
 unfold haveU us
 rw [List.setIfInBounds_toArray]
 congr 1
 refine List.ext_getElem (by simp) fun i h1 h2 => ?_
 simp only [List.getElem_set, List.getElem_map, List.getElem_range]
 by_cases e : j = i
 ·subst e; simp
 ·rw [if_neg e]
  have : (i < j + 1) ↔ i < j := by omega
  simp [this]
theorem haveU_at (N : Nat → Nat) (j : Nat) {k : Nat} (hk : k < 64) : ∃ v, (haveU N j)[k]? = some v := ⟨_, Array.getElem?_eq_getElem (by simp [haveU, us]; exact hk)⟩
theorem haveU_end (N : Nat → Nat) : haveU N 64 = (us (haveL N)).toArray := by
 unfold haveU haveL
 have : ((List.range 64).map fun i => if i < 64 then N i else 0) = (List.range 64).map N := List.map_congr_left fun i hi => by rw [if_pos (by simpa using hi)]
 rw [this]
theorem haveL_len (N : Nat → Nat) : (haveL N).length = 64 := by simp [haveL]
set_option maxHeartbeats 1000000 in
theorem have_s (g : Nat) (s : Sto) (N : Nat → Nat) (w : World) (hs : StoAt w g s) (hN : Nexts s N w) :
  Calls Tryz.prog 45 #[.pointer (some ⟨g, 0, none⟩)] w fun e w' => ∃ R rc, e = .returned (.slice R (trimN (haveL N) 64) rc) ∧ w'.ownsRow w.heap.size 22 1 (.slice R (trimN (haveL N) 64) rc) (trimN (haveL N) 64) (us ((haveL N).take (trimN (haveL N) 64))) ∧ Below w.heap.size w w' := by
 obtain ⟨K, hK⟩ : ∃ K, K = trimN (haveL N) 64 := ⟨_, rfl⟩
 rw [← hK]
 have HK := Lib.hid hK
 clear hK
 have hmk := make_u w 64 (by omega)
 have hmk : (Instr.makeSlice 24 (.int .i64 64) (.int .i64 64)).run Tryz.prog w = .ok (.slice (some ⟨w.heap.size, 0, none⟩) 64 64) (w.alloc (.cells (uRow 64) 22)) := hmk
 obtain ⟨dd, hdd, hrow⟩ := und_row
 have hr := fun W (hW : Below w.heap.size w W) => (hs.below hW).rangeF
 have hlen := hs.ok.f
 have HN := Lib.hid hN
 obtain ⟨q, hq⟩ : ∃ q, q = s.F := ⟨_, rfl⟩
 unfold Nexts at HN
 rw [← hq] at hr hlen HN
 have hiF : (Tryz.prog.info? 88).map (·.size) = some q.length := by rw [hlen]; kernel_rfl
 have HLEN := Lib.hid hlen
 have HR := Lib.hid hr
 clear hs hN hq hlen hr
 go_enter Tryz.func45, Tryz.ntmps45
 obtain ⟨w1, hw1⟩ : ∃ w1, w1 = w.alloc (.cells (uRow 64) 22) := ⟨_, rfl⟩
 have hb : Below w.heap.size w w1 := by rw [hw1]; exact (Below.refl w.heap.size w).alloc (Nat.le_refl _) _
 have hz1 : w1.heap[w.heap.size]? = some (.cells (haveU N 0) 22 (0, 0)) := by rw [hw1, ← haveU_0 N]; exact heap_alloc_new w _
 rw [← hw1] at hmk
 have hr1 := HR.out _ hb
 have HB1 := Lib.hid hb
 have HZ1 := Lib.hid hz1
 clear hw1 hb hz1
 go_wp2_with (refine wpList_load_mid rfl 88 (.tmp 11) rfl g 8 rfl q dd hr1 hdd hrow hiF ?_)
 go_loopw [13] (fun v wr => ∃ (j : Nat), v = .int .i64 (j : Int) ∧ j ≤ 64 ∧ Hid (Below w.heap.size w wr) ∧ Hid (wr.heap[w.heap.size]? = some (.cells (haveU N j) 22 (0, 0)))) (fun v _ => 64 - (intOf v).toNat)
 case atStart => exact ⟨0, rfl, Nat.zero_le _, HB1, HZ1⟩
 case round =>
  obtain ⟨j, rfl, hj, HB, HZ⟩ := hrel
  by_cases hlt : j < 64
  ·have hd1 : decide ((j : Int) < 64) = true := decide_eq_true (by omega)
   obtain ⟨hNj, f, hf, hnx⟩ := HN.out j hlt
   have HNX := Lib.hid (hnx wr HB.out)
   have HJ := Lib.hid hlt
   have q0 : (0 : Int) ≤ (j : Int) := by omega
   have q1 : (j : Int) < 64 := by omega
   have hq1 : q.toArray[j]? = some (.pointer (some ⟨f, 0, none⟩)) := by simpa using hf
   have hix := fun W => index_F q.toArray _ j W (by simpa using HLEN.out) hlt hq1 rfl
   have hsub : IntKind.u64.wrap (((N j + 1 : Nat) : Int) - 1) = (N j : Int) := by rw [IntKind.wrap_u64]; omega
   generalize N j + 1 = nx1 at hsub HNX
   clear hlt hf hnx hNj
   go_wp2_with fail
   refine HNX.out.mono ?_
   rintro e w5 ⟨rfl, hb5⟩
   have b5 := HB.out.trans (hb5.mono HB.out.size)
   have z5 := (hb5.block _ (Array.getElem?_eq_some_iff.1 HZ.out).1).trans HZ.out
   obtain ⟨v5, hv5⟩ := haveU_at N j HJ.out
   have c5 : w5.cell? ⟨w.heap.size, j, none⟩ = some v5 := by rw [cell_of_row w5 _ _ _ _ _ z5]; exact hv5
   have y5 : w5.frozen? ⟨w.heap.size, j, none⟩ = false := frozen_row0 z5
   have B5 := Lib.hid b5
   have Z5 := Lib.hid z5
   clear b5 z5 hb5
   go_wp2
   go_roundw
   case rel => exact ⟨j + 1, by simp, HJ.out, Lib.hid (B5.out.setCell (by simp) _), Lib.hid (by rw [heapSame Z5.out, haveU_set N HJ.out])⟩
   case measure => have := HJ.out; simp [intOf]; omega
  ·have hd1 : decide ((j : Int) < 64) = false := decide_eq_false (by omega)
   obtain rfl : j = 64 := by omega
   have hz := HZ.out
   rw [haveU_end] at hz
   have hse : SeesU wr (some ⟨w.heap.size, 0, none⟩) 64 (haveL N) := by
    have hown : wr.ownsRow w.heap.size 22 1 (.slice (some ⟨w.heap.size, 0, none⟩) 64 64) 64 (us (haveL N)) := ⟨by simp [us, haveL], .inr ⟨w.heap.size, 64, _, rfl, Nat.le_refl _, hz, Nat.le_refl _, by unfold maxLen; omega, by simp [us, haveL], List.take_of_length_le (by simp [us, haveL])⟩⟩
    exact SeesU.of_own hown
   have TR := Lib.hid (Vec.trim_at (some ⟨w.heap.size, 0, none⟩) 64 64 (haveL N) wr hse (by omega) (by omega) (by omega))
   have HBB := Lib.hid HB.out
   clear hlt hz hse
   go_wp2_with fail
   refine TR.out.mono ?_
   unfold Vec.Trims
   rw [← HK.out]
   rintro e w6 ⟨R, rc, rfl, ho, hb6⟩
   have FIN := Lib.hid (And.intro (own_lower8 ho HBB.out.size) (HBB.out.trans (hb6.mono HBB.out.size)))
   clear ho hb6 TR
   go_wp2
   go_ret
   exact ⟨R, rc, rfl, FIN.out⟩
end Go.Proofs.YtinjbdgjcadodaaGreatDoor.St
namespace Go.Proofs.YtinjbdgjcadodaaGreatDoor.Mtx
open Go Go.RowKit Words Vec
theorem cells3 {w : World} {b : Nat} {v0 v1 v2 : Value} {T : TypeId} {f : Nat × Nat} (h : w.heap[b]? = some (.cells #[v0, v1, v2] T f)) : w.cell? ⟨b, 0, none⟩ = some v0 ∧ w.cell? ⟨b, 1, none⟩ = some v1 ∧ w.cell? ⟨b, 2, none⟩ = some v2 := by
 refine ⟨?_, ?_, ?_⟩ <;> (rw [cell_of_row w b _ _ _ _ h]; rfl)
theorem cells2 {w : World} {b : Nat} {v0 v1 : Value} {T : TypeId} {f : Nat × Nat} (h : w.heap[b]? = some (.cells #[v0, v1] T f)) : w.cell? ⟨b, 0, none⟩ = some v0 ∧ w.cell? ⟨b, 1, none⟩ = some v1 := by
 refine ⟨?_, ?_⟩ <;> (rw [cell_of_row w b _ _ _ _ h]; rfl)
def RowTold (w : World) (k : Nat) (x : Hav) (e : Ending) (w' : World) : Prop :=
 ∃ A' c', e = .returned (.agg #[.int .i64 (k : Int), .slice A' (trimN x.H x.n) c', .int .u64 (x.t : Int)]) ∧ w'.ownsRow w.heap.size 22 1 (.slice A' (trimN x.H x.n) c') (trimN x.H x.n) (us (x.H.take (trimN x.H x.n))) ∧ Below w.heap.size w w'
set_option maxHeartbeats 1000000 in
theorem row_any (mb k : Nat) (R : Nat → Hav) (w : World) (hM : MatAt mb R w) (hk : k < 64) :
  Calls Tryz.prog 13 #[.pointer (some ⟨mb, 0, none⟩), .int .i64 (k : Int)] w (RowTold w k (R k)) := by
 obtain ⟨u, hu⟩ : ∃ u, u = w.alloc (.cells #[.int .i64 0, .slice none 0 0, .int .u64 0] 55) := ⟨_, rfl⟩
 have hbu : Below w.heap.size w u := by rw [hu]; exact (Below.refl _ _).alloc (Nat.le_refl _) _
 have G := Lib.hid (show u.heap[w.heap.size]? = some (.cells #[.int .i64 0, .slice none 0 0, .int .u64 0] 55 (0, 0)) by rw [hu]; exact heap_alloc_new w _)
 have ROW := Lib.hid (rowM_any mb k R u (hM.below hbu) hk)
 have HT := Lib.hid ((hM.took k hk).below hbu)
 have HU := Lib.hid hu
 have HBU := Lib.hid hbu
 obtain ⟨K, hK⟩ : ∃ K, K = trimN (R k).H (R k).n := ⟨_, rfl⟩
 unfold RowTold
 rw [← hK]
 have HK := Lib.hid hK
 clear hu hbu hM hK
 unfold Hav.row at ROW
 go_enter Tryz.func13, Tryz.ntmps13
 go_wp2_with fail
 rw [← HU.out]
 refine ROW.out.mono ?_
 rintro e w1 ⟨rfl, hb1⟩
 go_upto_region 2 with fail
 obtain ⟨w2, hw2⟩ : ∃ w2, w2 = w1.alloc (.cells #[.slice (R k).A (R k).n (R k).c, .int .u64 ((R k).t : Int)] 102) := ⟨_, rfl⟩
 have hal : Below w1.heap.size w1 w2 := by rw [hw2]; exact (Below.refl _ _).alloc (Nat.le_refl _) _
 have g5 : w2.heap[w1.heap.size]? = some (.cells #[.slice (R k).A (R k).n (R k).c, .int .u64 ((R k).t : Int)] 102 (0, 0)) := by rw [hw2]; exact heap_alloc_new w1 _
 have hb12 := HBU.out.trans ((hb1.trans (hal.mono hb1.size)).mono HBU.out.size)
 have g4 := ((hb1.trans (hal.mono hb1.size)).block w.heap.size (Array.getElem?_eq_some_iff.1 G.out).1).trans G.out
 have T2 := (HT.out.below (hb1.trans (hal.mono hb1.size)))
 have hlt4 : w.heap.size < w1.heap.size := Nat.lt_of_lt_of_le (Array.getElem?_eq_some_iff.1 G.out).1 hb1.size
 rw [← hw2]
 obtain ⟨b4, hb4⟩ : ∃ b4, b4 = w.heap.size := ⟨_, rfl⟩
 obtain ⟨b5, hb5⟩ : ∃ b5, b5 = w1.heap.size := ⟨_, rfl⟩
 rw [← hb4] at g4 hlt4 ⊢
 rw [← hb5] at g5 hlt4 ⊢
 have CC := fun (W : World) (hW : Below w2.heap.size w2 W) => (by
  have k5 := (hW.block b5 (Array.getElem?_eq_some_iff.1 g5).1).trans g5
  have k4 := (hW.block b4 (Array.getElem?_eq_some_iff.1 g4).1).trans g4
  obtain ⟨x0, x1⟩ := cells2 k5
  obtain ⟨y0, y1, y2⟩ := cells3 k4
  exact ⟨x0, x1, y0, y1, y2, frozen_row0 k4, frozen_row0 k4, frozen_row0 k4, (Array.getElem?_eq_some_iff.1 k4).1⟩ : W.cell? ⟨b5, 0, none⟩ = some (.slice (R k).A (R k).n (R k).c) ∧ W.cell? ⟨b5, 1, none⟩ = some (.int .u64 ((R k).t : Int)) ∧ W.cell? ⟨b4, 0, none⟩ = some (.int .i64 0) ∧ W.cell? ⟨b4, 1, none⟩ = some (.slice none 0 0) ∧ W.cell? ⟨b4, 2, none⟩ = some (.int .u64 0) ∧ W.frozen? ⟨b4, 0, none⟩ = false ∧ W.frozen? ⟨b4, 1, none⟩ = false ∧ W.frozen? ⟨b4, 2, none⟩ = false ∧ b4 < W.heap.size)
 have B2 := Lib.hid hb12
 have TRIM : ∀ W, Below w2.heap.size w2 W → Calls Tryz.prog 48 #[.slice (R k).A (R k).n (R k).c] W fun e w' => ∃ A' c', e = .returned (.slice A' K c') ∧ Hid (Below w.heap.size w w' ∧ w'.ownsRow (w.heap.size + 1) 22 1 (.slice A' K c') K (us ((R k).H.take K)) ∧ w'.heap[b4]? = some (.cells #[.int .i64 0, .slice none 0 0, .int .u64 0] 55 (0, 0))) ∧ w'.cell? ⟨b5, 0, none⟩ = some (.slice (R k).A (R k).n (R k).c) ∧ w'.cell? ⟨b5, 1, none⟩ = some (.int .u64 ((R k).t : Int)) ∧ w'.cell? ⟨b4, 0, none⟩ = some (.int .i64 0) ∧ w'.cell? ⟨b4, 1, none⟩ = some (.slice none 0 0) ∧ w'.cell? ⟨b4, 2, none⟩ = some (.int .u64 0) ∧ w'.frozen? ⟨b4, 0, none⟩ = false ∧ w'.frozen? ⟨b4, 1, none⟩ = false ∧ w'.frozen? ⟨b4, 2, none⟩ = false ∧ b4 < w'.heap.size := fun W hW => by
  have hT := T2.below hW
  refine (trim_at (R k).A (R k).n (R k).c (R k).H W hT.1 hT.2.2.1 hT.2.2.2.2 hT.2.2.2.1).mono ?_
  unfold Trims
  rw [← HK.out]
  rintro e w' ⟨A', c', rfl, ho, hb⟩
  exact ⟨A', c', rfl, Lib.hid ⟨B2.out.trans ((hW.trans (hb.mono hW.size)).mono B2.out.size), Seg.own_lower8 ho (by have := hW.size; have := hal.size; omega), ((hW.trans (hb.mono hW.size)).block b4 (Array.getElem?_eq_some_iff.1 g4).1).trans g4⟩, CC _ (hW.trans (hb.mono hW.size))⟩
 obtain ⟨x0, x1, y0, y1, y2, z0, z1, z2, hl4⟩ := CC w2 (Below.refl _ _)
 have hne : ¬ b4 = b5 := by omega
 have hne' : ¬ b5 = b4 := by omega
 have HB4 := Lib.hid hb4
 clear CC hw2 hal g5 hb12 g4 T2 hlt4 hb4 hb5 hb1
 go_region_held3 (fun w' => w'.cell? ⟨b5, 0, none⟩ = some (.slice (R k).A (R k).n (R k).c) ∧ w'.cell? ⟨b5, 1, none⟩ = some (.int .u64 ((R k).t : Int))) (go_keep)
  (first
   | (go_at_call 48
      refine (TRIM _ ?h1).mono ?_
      case h1 => first | exact Below.refl _ _ | exact (Below.refl _ _).drew
      rintro e w6 ⟨A', c', rfl, HO, x0, x1, y0, y1, y2, z0, z1, z2, hl4⟩))
 have hbe : Beside [b4] w6 (((w6.setCell ⟨b4, 0, none⟩ (.int .i64 (k : Int))).setCell ⟨b4, 1, none⟩ (.slice A' K c')).setCell ⟨b4, 2, none⟩ (.int .u64 ((R k).t : Int))) := (((Beside.refl [b4] w6).setCell (by simp) _).setCell (by simp) _).setCell (by simp) _
 have FIN := Lib.hid (And.intro (Seg.own_lower8 (Seg.own_beside8 HO.out.2.1 hbe (fun x hx => by simp at hx; have := HB4.out; omega)) (Nat.le_succ _)) (Below.beside HO.out.1 hbe HO.out.1.size (by simp; have := HB4.out; omega)))
 have h9 : (((w6.setCell ⟨b4, 0, none⟩ (.int .i64 (k : Int))).setCell ⟨b4, 1, none⟩ (.slice A' K c')).setCell ⟨b4, 2, none⟩ (.int .u64 ((R k).t : Int))).heap[b4]? = some (.cells #[.int .i64 (k : Int), .slice A' K c', .int .u64 ((R k).t : Int)] 55 (0, 0)) := (heapSame (i := 2) (v := .int .u64 ((R k).t : Int)) (heapSame (i := 1) (v := .slice A' K c') (heapSame (i := 0) (v := .int .i64 (k : Int)) HO.out.2.2))).trans rfl
 clear hbe x0 x1 y0 y1 y2 z0 z1 z2 hl4 TRIM
 generalize ((w6.setCell ⟨b4, 0, none⟩ (.int .i64 (k : Int))).setCell ⟨b4, 1, none⟩ (.slice A' K c')).setCell ⟨b4, 2, none⟩ (.int .u64 ((R k).t : Int)) = w9 at FIN h9 ⊢
 obtain ⟨y0, y1, y2⟩ := cells3 h9
 clear h9
 go_wp2
 refine bodyPost_ret (v := .agg #[.int .i64 (k : Int), .slice A' K c', .int .u64 ((R k).t : Int)]) ?_ rfl ⟨A', c', rfl, FIN.out⟩
 simp [results, Tryz.results13, go_sem, y0, y1, y2]
def zeroRV : Value := .agg #[.int .i64 0, .slice none 0 0, .int .u64 0]
theorem infoRow : (Tryz.prog.info? 55).map (fun i => (i.zero, i.size, i.bytes)) = some (some zeroRV, 3, 40) := by kernel_rfl
set_option maxHeartbeats 1000000 in
theorem rows_any (mb : Nat) (R : Nat → Hav) (w : World) (hM : MatAt mb R w) :
  Calls Tryz.prog 76 #[.pointer (some ⟨mb, 0, none⟩)] w fun e w' => ∃ A n c, e = .returned (.slice A n c) ∧ n ≤ 64 ∧ Below w.heap.size w w' := by
 obtain ⟨irow, hirow, hzrow, hszrow, hbyrow⟩ := info_parts infoRow
 have HM := Lib.hid hM
 clear hM
 go_enter Tryz.func76, Tryz.ntmps76
 go_wp2
 go_loopw [3, 6] (fun v3 v6 wr => ∃ (j : Nat) (A : Option Addr) (n c : Nat) (xs : List Value), v6 = .int .i64 (j : Int) ∧ v3 = .slice A n c ∧ j ≤ 64 ∧ n ≤ j ∧ Hid (wr.ownsRow w.heap.size 55 3 (.slice A n c) n xs ∧ Below w.heap.size w wr)) (fun _ v _ => 64 - (intOf v).toNat)
 case atStart => exact ⟨0, none, 0, 0, [], rfl, rfl, Nat.zero_le _, Nat.le_refl _, Lib.hid ⟨World.ownsRow_nil _ _ _ _, Below.refl _ _⟩⟩
 case round =>
  obtain ⟨j, A, n, c, xs, rfl, rfl, hj, hnj, HO⟩ := hrel
  by_cases hlt : j < 64
  ·have hd1 : decide ((j : Int) < 64) = true := decide_eq_true (by omega)
   have HJ := Lib.hid hlt
   have HNJ := Lib.hid (And.intro hnj hlt)
   have RO := row_any mb j R wr (HM.out.below HO.out.2) hlt
   unfold RowTold at RO
   obtain ⟨K, hK⟩ : ∃ K, K = trimN (R j).H (R j).n := ⟨_, rfl⟩
   rw [← hK] at RO
   have RO := Lib.hid RO
   clear hlt hnj hK
   go_wp2_with fail
   refine RO.out.mono ?_
   rintro e w5 ⟨A', c', rfl, ho, hb5⟩
   have hal := (Below.refl w5.heap.size w5).alloc (Nat.le_refl _) (.cells #[.int .i64 (j : Int), .slice A' K c', .int .u64 ((R j).t : Int)] 55)
   have HB6 := Lib.hid (HO.out.2.trans ((hb5.trans (hal.mono hb5.size)).mono HO.out.2.size))
   have HO6 := Lib.hid (Seg.own_below8 HO.out.1 (hb5.trans (hal.mono hb5.size)) (Nat.le_refl _))
   obtain ⟨w6, hw6⟩ : ∃ w6, w6 = w5.alloc (.cells #[.int .i64 (j : Int), .slice A' K c', .int .u64 ((R j).t : Int)] 55) := ⟨_, rfl⟩
   have g6 : w6.heap[w5.heap.size]? = some (.cells #[.int .i64 (j : Int), .slice A' K c', .int .u64 ((R j).t : Int)] 55 (0, 0)) := by rw [hw6]; exact heap_alloc_new w5 _
   rw [← hw6] at HB6 HO6
   obtain ⟨k0, k1, k2⟩ := cells3 g6
   have HW6 := Lib.hid hw6
   clear ho hb5 hal g6 hw6 RO
   go_upto_region 6 with fail
   rw [← HW6.out]
   obtain ⟨b5, hb5⟩ : ∃ b5, b5 = w5.heap.size := ⟨_, rfl⟩
   rw [← hb5] at k0 k1 k2 ⊢
   clear hb5
   have q0 : (0 : Int) ≤ (j : Int) := by omega
   by_cases hK : 0 < K
   ·have hK0 : ¬ K = 0 := by omega
    go_wp2_with (first | (at_builtin; refine wpList_append_own_at _ rfl _ _ 25 rfl w.heap.size 55 irow zeroRV 3 40 Tryz.underlying25 hirow hzrow hszrow hbyrow rfl (by decide) (.slice A n c) n xs rfl (HO6.out.alloc (.cells #[.int .i64 (j : Int), .slice A' K c', .int .u64 ((R j).t : Int)] 55)) ⟨w6.heap.size, 0, none⟩ 1 1 [.int .i64 (j : Int), .slice A' K c', .int .u64 ((R j).t : Int)] rfl rfl ?c1 ?c2 ?c3 ?c4 ?c5 ?_))
    case c1 =>
     intro i v hi
     rw [add_plain, cell_of_row _ w6.heap.size _ _ _ (0, 0) (heap_alloc_new w6 _)]
     simpa using hi
    case c2 => intro v hv; simp at hv; rcases hv with rfl | rfl | rfl <;> rfl
    case c3 => have := HNJ.out; unfold maxLen; omega
    case c4 => have := HNJ.out; omega
    case c5 => have := HB6.out.size; simp; omega
    intro v' w7 hown7 hgrow7 _ _
    have b7 : Below w.heap.size w w7 := (HB6.out.alloc HB6.out.size _).grown hgrow7 (by have := HB6.out.size; simp; omega) (fun g hg => (HO6.out.lt g hg).1)
    obtain ⟨A7, c7, rfl, _⟩ := Seg.own_shape8 hown7
    have H7 := Lib.hid (And.intro hown7 b7)
    clear hown7 hgrow7 b7
    go_wp2
    go_roundw
    case rel => exact ⟨j + 1, A7, n + 1, c7, _, by simp, rfl, HJ.out, by have := HNJ.out; omega, Lib.hid H7.out⟩
    case measure => have := HJ.out; simp [intOf]; omega
   ·obtain rfl : K = 0 := by omega
    clear hK
    by_cases ht : 0 < (R j).t
    ·generalize (R j).t = tj at *
     go_wp2_with (first | (at_builtin; refine wpList_append_own_at _ rfl _ _ 25 rfl w.heap.size 55 irow zeroRV 3 40 Tryz.underlying25 hirow hzrow hszrow hbyrow rfl (by decide) (.slice A n c) n xs rfl (HO6.out.alloc (.cells #[.int .i64 (j : Int), .slice A' 0 c', .int .u64 (tj : Int)] 55)) ⟨w6.heap.size, 0, none⟩ 1 1 [.int .i64 (j : Int), .slice A' 0 c', .int .u64 (tj : Int)] rfl rfl ?c1 ?c2 ?c3 ?c4 ?c5 ?_))
     case c1 =>
      intro i v hi
      rw [add_plain, cell_of_row _ w6.heap.size _ _ _ (0, 0) (heap_alloc_new w6 _)]
      simpa using hi
     case c2 => intro v hv; simp at hv; rcases hv with rfl | rfl | rfl <;> rfl
     case c3 => have := HNJ.out; unfold maxLen; omega
     case c4 => have := HNJ.out; omega
     case c5 => have := HB6.out.size; simp; omega
     intro v' w7 hown7 hgrow7 _ _
     have b7 : Below w.heap.size w w7 := (HB6.out.alloc HB6.out.size _).grown hgrow7 (by have := HB6.out.size; simp; omega) (fun g hg => (HO6.out.lt g hg).1)
     obtain ⟨A7, c7, rfl, _⟩ := Seg.own_shape8 hown7
     have H7 := Lib.hid (And.intro hown7 b7)
     clear hown7 hgrow7 b7
     go_wp2
     go_roundw
     case rel => exact ⟨j + 1, A7, n + 1, c7, _, by simp, rfl, HJ.out, by have := HNJ.out; omega, Lib.hid H7.out⟩
     case measure => have := HJ.out; simp [intOf]; omega
    ·generalize (R j).t = tj at *
     go_wp2
     go_roundw
     case rel => exact ⟨j + 1, A, n, c, xs, by simp, rfl, HJ.out, by have := HNJ.out; omega, Lib.hid ⟨HO6.out, HB6.out⟩⟩
     case measure => have := HJ.out; simp [intOf]; omega
  ·have hd1 : decide ((j : Int) < 64) = false := decide_eq_false (by omega)
   clear hlt
   go_wp2
   go_ret
   exact ⟨A, n, c, rfl, by omega, HO.out.2⟩
end Go.Proofs.YtinjbdgjcadodaaGreatDoor.Mtx
namespace Go.Proofs.YtinjbdgjcadodaaGreatDoor.St
open Go Go.RowKit Words Enc Go.Proofs.YtinjbdgjcadodaaGreatDoor.Made Dsk Seg
open Vec (us SeesU Took2 Fits trimN)
open Mtx (Hav noHav MatAt Raised raiseM_any rows_any)
def haveT (N : Nat → Nat) : List Nat := (haveL N).take (trimN (haveL N) 64)
theorem haveL_at (N : Nat → Nat) (i : Nat) : Vec.at_ (haveL N) i = if i < 64 then N i else 0 := by
 unfold Vec.at_ haveL
 rw [List.getD_eq_getElem?_getD]
 by_cases h : i < 64
 ·simp [h]
 ·simp [h]
theorem haveT_len (N : Nat → Nat) : (haveT N).length = trimN (haveL N) 64 := by
 have := Vec.trimN_le (haveL N) 64
 simp [haveT, haveL_len]
 omega
theorem haveT_fits {N : Nat → Nat} (h : ∀ i, i < 64 → N i < 9223372036854775807) : Fits (haveT N) := by
 intro i
 have : Vec.at_ (haveT N) i ≤ Vec.at_ (haveL N) i := by
  unfold Vec.at_ haveT
  rw [List.getD_eq_getElem?_getD, List.getD_eq_getElem?_getD, List.getElem?_take]
  split
  ·exact Nat.le_refl _
  ·exact Nat.zero_le _
 rw [haveL_at] at this
 split at this
 ·have := h i ‹_›; omega
 ·omega
theorem took_own {w : World} {base : Nat} {A : Option Addr} {k c : Nat} {l : List Nat} (h : w.ownsRow base 22 1 (.slice A k c) k (us l)) (hf : Fits l) (hk : k ≤ 900000) : Took2 w A k c l ∧ (A = none → c = 0) := by
 have h1 := own_cap8 h
 refine ⟨⟨SeesU.of_own h, hf, h1.1, h1.2, hk⟩, fun hA => ?_⟩
 rcases h.2 with ⟨hv, _⟩ | ⟨g, cap, cur, hv, _⟩
 ·injection hv
 ·injection hv with h1
  rw [hA] at h1
  cases h1
theorem have_t (g : Nat) (s : Sto) (N : Nat → Nat) (w : World) (hs : StoAt w g s) (hN : Nexts s N w) :
  Calls Tryz.prog 45 #[.pointer (some ⟨g, 0, none⟩)] w fun e w' => ∃ A rc, e = .returned (.slice A (haveT N).length rc) ∧ (Took2 w' A (haveT N).length rc (haveT N) ∧ (A = none → rc = 0)) ∧ Below w.heap.size w w' := by
 refine (have_s g s N w hs hN).mono ?_
 rintro e w' ⟨A, rc, rfl, ho, hb⟩
 have hl := haveT_len N
 have hk := Vec.trimN_le (haveL N) 64
 rw [← hl] at ho ⊢
 have ho : w'.ownsRow w.heap.size 22 1 (.slice A (haveT N).length rc) (haveT N).length (us (haveT N)) := by
  have h2 : (haveL N).take (haveT N).length = haveT N := by rw [hl]; rfl
  rw [h2] at ho
  exact ho
 exact ⟨A, rc, rfl, took_own ho (haveT_fits fun i hi => (hN i hi).1) (by omega), hb⟩
theorem haveT_le (N : Nat → Nat) : (haveT N).length ≤ 64 := by rw [haveT_len]; exact Vec.trimN_le _ _
set_option maxHeartbeats 1000000 in
theorem note_t (g mb nd : Nat) (s : Sto) (N : Nat → Nat) (R : Nat → Hav) (w : World) (hs : StoAt w g s) (hN : Nexts s N w) (hM : MatAt mb R w) (hnd : nd < 64) (hn : s.node = (nd : Int)) (hck : s.ck < 18446744073709551616) :
  Calls Tryz.prog 12 #[.pointer (some ⟨g, 0, none⟩), .pointer (some ⟨mb, 0, none⟩)] w fun e w' => e = .returned (.tuple #[]) ∧ ∃ w9 R', Below w.heap.size w w9 ∧ Raised mb nd R (haveT N) s.ck w9 w' R' := by
 have NODE := node_any g s w hs
 rw [hn] at NODE
 have NODE := Lib.hid NODE
 have HV := Lib.hid (have_t g s N w hs hN)
 have HL := Lib.hid (haveT_le N)
 have HS := Lib.hid hs
 have HM := Lib.hid hM
 have HCK := Lib.hid hck
 have HND := Lib.hid hnd
 obtain ⟨H, hH⟩ : ∃ H, H = haveT N := ⟨_, rfl⟩
 rw [← hH] at HV HL ⊢
 obtain ⟨ck, hckE⟩ : ∃ ck, ck = s.ck := ⟨_, rfl⟩
 rw [← hckE] at HCK ⊢
 have CLK := Lib.hid (fun W (hW : StoAt W g s) => (by have := clock_any g s W hW; rw [← hckE] at this; exact this : Calls Tryz.prog 46 #[.pointer (some ⟨g, 0, none⟩)] W fun e w' => e = .returned (.int .u64 (ck : Int)) ∧ w' = W))
 clear hs hN hM hn hck hnd hH hckE
 go_enter Tryz.func12, Tryz.ntmps12
 go_wp2_with fail
 refine NODE.out.mono ?_
 rintro e w1 ⟨rfl, rfl⟩
 go_wp2_with fail
 refine HV.out.mono ?_
 rintro e w2 ⟨A, rc, rfl, ⟨ht, hA0⟩, hb2⟩
 have CL := Lib.hid (CLK.out w2 (HS.out.below hb2))
 have RA := Lib.hid (raiseM_any mb nd R A H.length rc ck H w2 (HM.out.below hb2) HND.out ht HL.out HCK.out hA0)
 have HB2 := Lib.hid hb2
 obtain ⟨K, hK⟩ : ∃ K, K = H.length := ⟨_, rfl⟩
 rw [← hK] at RA ⊢
 clear ht hA0 hb2 hK
 go_wp2_with fail
 refine CL.out.mono ?_
 rintro e w3 ⟨rfl, hw3⟩
 subst hw3
 go_wp2_with fail
 refine RA.out.mono ?_
 rintro e w4 ⟨⟨b, rfl, -⟩, R', hR⟩
 have FIN := Lib.hid hR
 clear hR
 go_wp2
 go_returns
 exact ⟨rfl, _, R', HB2.out, FIN.out⟩
theorem mat_off {mb : Nat} {R : Nat → Hav} {S : List Nat} {W W' : World} (h : MatAt mb R W) (hb : Beside S W W') (hm : mb ∉ S) (hS : ∀ i, i < 64 → ∀ a, (R i).A = some a → a.block ∉ S) : MatAt mb R W' := by
 obtain ⟨cur, h1, h2⟩ := h.row
 exact ⟨⟨cur, (hb.block _ h.lt hm).trans h1, h2⟩, fun i hi => Mtx.Took2.beside (h.took i hi) hb (hS i hi), h.apart, h.few⟩
end Go.Proofs.YtinjbdgjcadodaaGreatDoor.St
