/- The document's fold: New. -/
import Derived.Test.YtjceeojbnpcpfaaGreatFolU0
import Derived.RegionTactic
namespace Go.Proofs.YtjceeojbnpcpfaaGreat.Fol
open Go Go.RowKit Go.Proofs.YtjceeojbnpcpfaaGreat.Words Go.Proofs.YtjceeojbnpcpfaaGreat.Enc Go.Proofs.YtjceeojbnpcpfaaGreat.Q Go.Proofs.YtjceeojbnpcpfaaGreat.Evt
set_option linter.unusedVariables false
set_option linter.unusedSimpArgs false

theorem run_make27 (W : World) : (Instr.makeSlice 27 (.int .i64 64) (.int .i64 64)).run Tryz.prog W = .ok (.slice (some ⟨W.heap.size, 0, none⟩) 64 64) (W.alloc (.cells (bs (List.replicate 64 false)).toArray 4)) := by kernel_rfl
theorem run_make28 (W : World) : (Instr.makeSlice 28 (.int .i64 64) (.int .i64 64)).run Tryz.prog W = .ok (.slice (some ⟨W.heap.size, 0, none⟩) 64 64) (W.alloc (.cells (Vec.us (List.replicate 64 0)).toArray 29)) := by kernel_rfl
theorem run_buildR (A5 A6 A7 : Option Addr) (W : World) : (Instr.build 33 #[(1, .slice A5 64 64), (2, .slice A6 64 64), (3, .slice A7 64 64), (5, .int .u64 14695981039346656037)]).run Tryz.prog W =
    .ok (.agg #[.slice none 0 0, .slice A5 64 64, .slice A6 64 64, .slice A7 64 64, .int .u64 0, .int .i64 0, .int .u64 14695981039346656037]) W := by kernel_rfl
theorem alloc4 (u : World) (o1 o2 o3 o4 : Obj) : ((((u.alloc o1).alloc o2).alloc o3).alloc o4).heap[u.heap.size]? = some o1 ∧ ((((u.alloc o1).alloc o2).alloc o3).alloc o4).heap[u.heap.size + 1]? = some o2 ∧
    ((((u.alloc o1).alloc o2).alloc o3).alloc o4).heap[u.heap.size + 1 + 1]? = some o3 ∧ ((((u.alloc o1).alloc o2).alloc o3).alloc o4).heap[u.heap.size + 1 + 1 + 1]? = some o4 ∧ Below u.heap.size u ((((u.alloc o1).alloc o2).alloc o3).alloc o4) := by
  refine ⟨?_, ?_, ?_, ?_, ((((Below.refl _ _).alloc (Nat.le_refl _) _).alloc (by simp) _).alloc (by simp <;> omega) _).alloc (by simp <;> omega) _⟩
  · exact (Below.heap_alloc _ _ _ (by simp <;> omega)).trans ((Below.heap_alloc _ _ _ (by simp <;> omega)).trans ((Below.heap_alloc _ _ _ (by simp)).trans (heap_alloc_new u _)))
  · have := heap_alloc_new (u.alloc o1) o2
    exact (Below.heap_alloc _ _ _ (by simp <;> omega)).trans ((Below.heap_alloc _ _ _ (by simp)).trans (by simpa using this))
  · have := heap_alloc_new ((u.alloc o1).alloc o2) o3
    exact (Below.heap_alloc _ _ _ (by simp)).trans (by simpa using this)
  · have := heap_alloc_new (((u.alloc o1).alloc o2).alloc o3) o4
    simpa using this
theorem alloc4d (u : World) (o1 o2 o3 o4 : Obj) : ((((u.alloc o1).alloc o2).alloc o3).alloc o4).drew.heap[u.heap.size]? = some o1 ∧ ((((u.alloc o1).alloc o2).alloc o3).alloc o4).drew.heap[u.heap.size + 1]? = some o2 ∧
    ((((u.alloc o1).alloc o2).alloc o3).alloc o4).drew.heap[u.heap.size + 1 + 1]? = some o3 ∧ ((((u.alloc o1).alloc o2).alloc o3).alloc o4).drew.heap[u.heap.size + 1 + 1 + 1]? = some o4 ∧ Below u.heap.size u ((((u.alloc o1).alloc o2).alloc o3).alloc o4).drew :=
  ⟨(alloc4 u o1 o2 o3 o4).1, (alloc4 u o1 o2 o3 o4).2.1, (alloc4 u o1 o2 o3 o4).2.2.1, (alloc4 u o1 o2 o3 o4).2.2.2.1, (alloc4 u o1 o2 o3 o4).2.2.2.2.drew⟩
theorem bs_new (n : Nat) : (bs (newF n).J).toArray.setIfInBounds n (.bool true) = (bs (newF (n + 1)).J).toArray := by
  unfold bs newF
  simp only [List.setIfInBounds_toArray]
  congr 1
  refine List.ext_getElem (by simp) fun i h1 h2 => ?_
  simp only [List.getElem_set, List.getElem_map, List.getElem_range]
  split
  · rename_i e
    subst e
    simp
  · rename_i e
    congr 1
    apply decide_eq_decide.2
    omega
structure NewSt (B : Nat) (w1 W : World) (bj bj2 bh : Array Value) (g3 g5 g6 g7 : Nat) : Prop where
  below : Below w1.heap.size w1 W
  s3 : W.heap[g3]? = some (.cells #[.slice none 0 0, .slice (some ⟨g5, 0, none⟩) 64 64, .slice (some ⟨g6, 0, none⟩) 64 64, .slice (some ⟨g7, 0, none⟩) 64 64, .int .u64 0, .int .i64 0, .int .u64 14695981039346656037] 33 (0, 0))
  s5 : W.heap[g5]? = some (.cells bj 4 (0, 0))
  s6 : W.heap[g6]? = some (.cells bj2 4 (0, 0))
  s7 : W.heap[g7]? = some (.cells bh 29 (0, 0))
  n3 : w1.heap.size ≤ g3
  n5 : w1.heap.size ≤ g5
  n6 : w1.heap.size ≤ g6
  n7 : w1.heap.size ≤ g7
  d : g3 ≠ g5 ∧ g3 ≠ g6 ∧ g3 ≠ g7 ∧ g5 ≠ g6 ∧ g5 ≠ g7 ∧ g6 ≠ g7
theorem seesV_rowS {w : World} {S : List Nat} {g : Nat} {vs : List Value} {T : TypeId} {fr : Nat × Nat} (h : w.heap[g]? = some (.cells vs.toArray T fr)) (hg : g ∉ S) : SeesV w S (some ⟨g, 0, none⟩) vs := fun _ => ⟨g, 0, rfl, hg, fun j v hv => by
  rw [cell_of_row w g _ _ _ _ h, Nat.zero_add]
  simpa using hv⟩
set_option maxRecDepth 100000 in
set_option maxHeartbeats 4000000 in
theorem refNew_any (n : Nat) (hn : n ≤ 64) (w : World) (S : List Nat) (hS : ∀ x ∈ S, x < w.heap.size) :
    Calls Tryz.prog 6 #[.int .i64 (n : Int)] w fun e w' => ∃ (h : RH), e = .returned (.agg (rv none 0 0 h)) ∧ RefAt w' S none 0 [] h (newF n) ∧ Below w.heap.size w w' := by
  have hm27 := run_make27
  have hm28 := run_make28
  have hbd := run_buildR
  obtain ⟨bj, hbj⟩ : ∃ bj, bj = (bs (List.replicate 64 false)).toArray := ⟨_, rfl⟩
  obtain ⟨bh, hbh⟩ : ∃ bh, bh = (Vec.us (List.replicate 64 0)).toArray := ⟨_, rfl⟩
  rw [← hbj] at hm27
  rw [← hbh] at hm28
  have HSS := Lib.hid hS
  clear hS
  have HJ := Lib.hid hbj
  have HH := Lib.hid hbh
  have HB := Lib.hid ((Below.refl w.heap.size w).alloc (Nat.le_refl _) (.cells zrv 33))
  have HG := Lib.hid (heap_alloc_new w (.cells zrv 33))
  obtain ⟨u, hu⟩ : ∃ u, u = w.alloc (.cells zrv 33) := ⟨_, rfl⟩
  have hus : w.heap.size + 1 = u.heap.size := by rw [hu]; simp
  rw [← hu] at HB HG
  unfold zrv at hu HG
  have HU := Lib.hid hu
  obtain ⟨B, hB⟩ : ∃ B, B = w.heap.size := ⟨_, rfl⟩
  rw [← hB] at hus HG
  have HBB := Lib.hid hB
  clear hbj hbh hu hB
  go_enter Tryz.func6, Tryz.ntmps6
  go_wp2_with fail
  rw [← HU.out, ← HBB.out]
  refine wp_then (K := fun a W => ∃ (g3 g5 g6 g7 : Nat) (y1 y4 y5 y6 y7 y8 y9 y10 y11 y12 y13 y14 y15 y16 y17 y18 y19 y20 y21 y22 : Value), a = { tmps := #[Value.int .i64 (n : Int), y1, Value.pointer (some ⟨B, 0, none⟩), Value.pointer (some ⟨g3, 0, none⟩), y4, y5, y6, y7, y8, y9, y10, y11, y12, y13, y14, y15, y16, y17, y18, y19, y20, y21, y22], defers := [] } ∧ NewSt B u W bj bj bh g3 g5 g6 g7) ?_ ?_
  · rintro a W ⟨g3, g5, g6, g7, y1, y4, y5, y6, y7, y8, y9, y10, y11, y12, y13, y14, y15, y16, y17, y18, y19, y20, y21, y22, rfl, st⟩
    have hJ0 : bj = (bs (newF 0).J).toArray := by rw [HJ.out]; rfl
    have BG : Hid (W.heap[B]? = some (.cells #[.slice none 0 0, .slice none 0 0, .slice none 0 0, .slice none 0 0, .int .u64 0, .int .i64 0, .int .u64 0] 33 (0, 0))) := Lib.hid ((st.below.block B (by omega)).trans HG.out)
    have ST := Lib.hid st
    clear st hm27 hm28 hbd
    go_wp2_with fail
    go_loopw [4] (fun y wr => ∃ j : Nat, y = .int .i64 (j : Int) ∧ j ≤ n ∧ Hid (NewSt B u wr (bs (newF j).J).toArray bj bh g3 g5 g6 g7) ∧ Hid (wr.heap[B]? = some (.cells #[.slice none 0 0, .slice none 0 0, .slice none 0 0, .slice none 0 0, .int .u64 0, .int .i64 0, .int .u64 0] 33 (0, 0)))) (fun y _ => n - (intOf y).toNat)
    case atStart => exact ⟨0, rfl, by omega, by rw [← hJ0]; exact ST, BG⟩
    case round =>
      obtain ⟨j, rfl, hj, HST, HBG⟩ := hrel
      by_cases h1 : j < n
      · have hd : decide ((j : Int) < (n : Int)) = true := decide_eq_true (by omega)
        have hd2 : decide ((j : Int) < 64) = true := decide_eq_true (by omega)
        have hi : (j : Int) < 64 := by omega
        have c31 : wr.cell? ⟨g3, 1, none⟩ = some (.slice (some ⟨g5, 0, none⟩) 64 64) := by rw [cell_of_row wr _ _ _ _ _ HST.out.s3]; rfl
        obtain ⟨v, hv⟩ : ∃ v, (bs (newF j).J).toArray[j]? = some v := ⟨_, Array.getElem?_eq_getElem (by simp [bs, newF]; omega)⟩
        have c5 : wr.cell? ⟨g5, j, none⟩ = some v := by rw [cell_of_row wr _ _ _ _ _ HST.out.s5]; exact hv
        have f5 : wr.frozen? ⟨g5, j, none⟩ = false := frozen_row0 HST.out.s5
        clear hv
        go_wp2
        go_roundw
        case rel =>
          have st := HST.out
          have hBz : B < u.heap.size := by omega
          have hn5 := st.n5
          refine ⟨j + 1, by simp, by omega, Lib.hid ⟨Below.beside st.below ((Beside.refl [g5] _).setCell (by simp) _) st.below.size (by simpa using st.n5), (heapOther st.d.1).trans st.s3, by rw [heapSame st.s5, bs_new], (heapOther (Ne.symm st.d.2.2.2.1)).trans st.s6, (heapOther (Ne.symm st.d.2.2.2.2.1)).trans st.s7, st.n3, st.n5, st.n6, st.n7, st.d⟩, Lib.hid ((heapOther (by omega)).trans HBG.out)⟩
        case measure => simp [intOf]; omega
      · have hd : decide ((j : Int) < (n : Int)) = false := decide_eq_false (by omega)
        obtain rfl : j = n := by omega
        have g3h := HST.out.s3
        have gB := HBG.out
        go_wp2_with (first
          | (refine wpList_getRow rfl 33 (.tmp 3) rfl g3 33 #[.slice none 0 0, .slice (some ⟨g5, 0, none⟩) 64 64, .slice (some ⟨g6, 0, none⟩) 64 64, .slice (some ⟨g7, 0, none⟩) 64 64, .int .u64 0, .int .i64 0, .int .u64 14695981039346656037] (0, 0) _ rfl g3h Tryz.underlying33 rfl (by kernel_rfl) ?_)
          | (refine wpList_putRow rfl 33 (.tmp 2) (.tmp 22) rfl B 33 #[.slice none 0 0, .slice none 0 0, .slice none 0 0, .slice none 0 0, .int .u64 0, .int .i64 0, .int .u64 0] #[.slice none 0 0, .slice (some ⟨g5, 0, none⟩) 64 64, .slice (some ⟨g6, 0, none⟩) 64 64, .slice (some ⟨g7, 0, none⟩) 64 64, .int .u64 0, .int .i64 0, .int .u64 14695981039346656037] rfl rfl gB (by kernel_rfl) rfl (by simp [Value.oneCell']) ?_))
        intro w6 g8 hb6
        obtain ⟨t0, t1, t2, t3, t4, t5, t6⟩ := rv_cells (h := ⟨some ⟨g5, 0, none⟩, 64, some ⟨g6, 0, none⟩, 64, some ⟨g7, 0, none⟩, 64, 0, 0, 14695981039346656037⟩) g8
        have hbs := Lib.hid hb6
        clear g3h gB hb6 g8
        go_wp2
        refine bodyPost_ret (v := .agg #[.slice none 0 0, .slice (some ⟨g5, 0, none⟩) 64 64, .slice (some ⟨g6, 0, none⟩) 64 64, .slice (some ⟨g7, 0, none⟩) 64 64, .int .u64 0, .int .i64 0, .int .u64 14695981039346656037]) (by simp [results, Tryz.results6, go_sem, t0, t1, t2, t3, t4, t5, t6]) rfl ?_
        have st := HST.out
        have hBz : B < u.heap.size := by omega
        have n5 := st.n5
        have n6 := st.n6
        have n7 := st.n7
        have b5 := (hbs.out.block g5 (Array.getElem?_eq_some_iff.1 st.s5).1 (by simp; omega)).trans st.s5
        have b6 := (hbs.out.block g6 (Array.getElem?_eq_some_iff.1 st.s6).1 (by simp; omega)).trans st.s6
        have b7 := (hbs.out.block g7 (Array.getElem?_eq_some_iff.1 st.s7).1 (by simp; omega)).trans st.s7
        have hR : bj = (bs (newF j).R).toArray := by rw [HJ.out]; rfl
        have hH : bh = (Vec.us (newF j).H).toArray := by rw [HH.out]; rfl
        rw [hR] at b6
        rw [hH] at b7
        refine ⟨⟨some ⟨g5, 0, none⟩, 64, some ⟨g6, 0, none⟩, 64, some ⟨g7, 0, none⟩, 64, 0, 0, 14695981039346656037⟩, rfl, ⟨SeesV.nil, Nat.le_refl _, by omega, fun p hp => (by cases hp), rfl, seesV_rowS b5 (fun hm => by have := HSS.out g5 hm; have := HBB.out; omega), seesV_rowS b6 (fun hm => by have := HSS.out g6 hm; have := HBB.out; omega), seesV_rowS b7 (fun hm => by have := HSS.out g7 hm; have := HBB.out; omega), ⟨Nat.le_refl _, by show (64 : Nat) ≤ _; omega⟩, ⟨Nat.le_refl _, by show (64 : Nat) ≤ _; omega⟩, ⟨Nat.le_refl _, by show (64 : Nat) ≤ _; omega⟩, rfl, rfl, rfl⟩, ?_⟩
        have h1 := HB.out
        rw [← HBB.out] at h1 ⊢
        exact Below.beside (h1.trans (st.below.mono (by omega))) hbs.out (by have := st.below.size; omega) (by simp)
  · go_region
    all_goals
      (refine ⟨_, ?_, ?_, ?_, _, _, _, _, _, _, _, _, _, _, _, _, _, _, _, _, _, _, _, _, rfl, ⟨(alloc4d u _ _ _ _).2.2.2.2, ?_, ?_, ?_, ?_, ?_, ?_, ?_, ?_, ?_⟩⟩
       rotate_left 3
       · first | exact (alloc4d u _ _ _ _).1 | exact (alloc4d u _ _ _ _).2.1 | exact (alloc4d u _ _ _ _).2.2.1 | exact (alloc4d u _ _ _ _).2.2.2.1
       · first | exact (alloc4d u _ _ _ _).1 | exact (alloc4d u _ _ _ _).2.1 | exact (alloc4d u _ _ _ _).2.2.1 | exact (alloc4d u _ _ _ _).2.2.2.1
       · first | exact (alloc4d u _ _ _ _).1 | exact (alloc4d u _ _ _ _).2.1 | exact (alloc4d u _ _ _ _).2.2.1 | exact (alloc4d u _ _ _ _).2.2.2.1
       · first | exact (alloc4d u _ _ _ _).1 | exact (alloc4d u _ _ _ _).2.1 | exact (alloc4d u _ _ _ _).2.2.1 | exact (alloc4d u _ _ _ _).2.2.2.1
       · omega
       · omega
       · omega
       · omega
       · omega)
end Go.Proofs.YtjceeojbnpcpfaaGreat.Fol
