/- The document's fold: New. Words for regions that draw their order and leave operations out. Layer 15: the document's Of: what events come to. -/
import Derived.RegionTactic
import Derived.Test.YtmogoopkjkdkgaaGreatVTp01
import Derived.Test.YtmogoopkjkdkgaaGreatVTp20
import Derived.Test.YtmogoopkjkdkgaaGreatVTp21
namespace Go.Proofs.YtmogoopkjkdkgaaGreat.Fol
open Go Go.RowKit Go.Proofs.YtmogoopkjkdkgaaGreat.Words Go.Proofs.YtmogoopkjkdkgaaGreat.Enc Go.Proofs.YtmogoopkjkdkgaaGreat.Q Go.Proofs.YtmogoopkjkdkgaaGreat.Evt
set_option linter.unusedVariables false
set_option linter.unusedSimpArgs false

theorem run_make27 (W : World) : (Instr.makeSlice 56 (.int .i64 64) (.int .i64 64)).run Tryz.prog W = .ok (.slice (some ⟨W.heap.size, 0, none⟩) 64 64) (W.alloc (.cells (bs (List.replicate 64 false)).toArray 4)) := by kernel_rfl
theorem run_make28 (W : World) : (Instr.makeSlice 50 (.int .i64 64) (.int .i64 64)).run Tryz.prog W = .ok (.slice (some ⟨W.heap.size, 0, none⟩) 64 64) (W.alloc (.cells (Vec.us (List.replicate 64 0)).toArray 28)) := by kernel_rfl
theorem run_buildR (A5 A6 A7 : Option Addr) (W : World) : (Instr.build 60 #[(1, .slice A5 64 64), (2, .slice A6 64 64), (3, .slice A7 64 64), (5, .int .u64 14695981039346656037)]).run Tryz.prog W =
    .ok (.agg #[.slice none 0 0, .slice A5 64 64, .slice A6 64 64, .slice A7 64 64, .int .u64 0, .int .i64 0, .int .u64 14695981039346656037]) W := by kernel_rfl
theorem alloc4 (u : World) (o1 o2 o3 o4 : Obj) : ((((u.alloc o1).alloc o2).alloc o3).alloc o4).heap[u.heap.size]? = some o1 ∧ ((((u.alloc o1).alloc o2).alloc o3).alloc o4).heap[u.heap.size + 1]? = some o2 ∧
    ((((u.alloc o1).alloc o2).alloc o3).alloc o4).heap[u.heap.size + 1 + 1]? = some o3 ∧ ((((u.alloc o1).alloc o2).alloc o3).alloc o4).heap[u.heap.size + 1 + 1 + 1]? = some o4 ∧ Below u.heap.size u ((((u.alloc o1).alloc o2).alloc o3).alloc o4) := by
  refine ⟨?_, ?_, ?_, ?_, ((((Below.refl _ _).alloc (Nat.le_refl _) _).alloc (by simp) _).alloc (by simp <;> omega) _).alloc (by simp <;> omega) _⟩
  · exact (Below.heap_alloc _ _ _ (by simp <;> omega)).trans ((Below.heap_alloc _ _ _ (by simp <;> omega)).trans ((Below.heap_alloc _ _ _ (by simp)).trans (heap_alloc_new u _)))
  · have := heap_alloc_new (u.alloc o1) o2
    exact (Below.heap_alloc _ _ _ (by simp <;> omega)).trans ((Below.heap_alloc _ _ _ (by simp)).trans (by simpa using this))
  · have := heap_alloc_new ((u.alloc o1).alloc o2) o3
    exact (Below.heap_alloc _ _ _ (by simp)).trans (by simpa using this)
  · have := heap_alloc_new (((u.alloc o1).alloc o2).alloc o3) o4
    simpa using this
theorem alloc4d (u : World) (o1 o2 o3 o4 : Obj) : ((((u.alloc o1).alloc o2).alloc o3).alloc o4).drew.heap[u.heap.size]? = some o1 ∧ ((((u.alloc o1).alloc o2).alloc o3).alloc o4).drew.heap[u.heap.size + 1]? = some o2 ∧
    ((((u.alloc o1).alloc o2).alloc o3).alloc o4).drew.heap[u.heap.size + 1 + 1]? = some o3 ∧ ((((u.alloc o1).alloc o2).alloc o3).alloc o4).drew.heap[u.heap.size + 1 + 1 + 1]? = some o4 ∧ Below u.heap.size u ((((u.alloc o1).alloc o2).alloc o3).alloc o4).drew :=
  ⟨(alloc4 u o1 o2 o3 o4).1, (alloc4 u o1 o2 o3 o4).2.1, (alloc4 u o1 o2 o3 o4).2.2.1, (alloc4 u o1 o2 o3 o4).2.2.2.1, (alloc4 u o1 o2 o3 o4).2.2.2.2.drew⟩
theorem bs_new (n : Nat) : (bs (newF n).J).toArray.setIfInBounds n (.bool true) = (bs (newF (n + 1)).J).toArray := by
  unfold bs newF
  simp only [List.setIfInBounds_toArray]
  congr 1
  refine List.ext_getElem (by simp) fun i h1 h2 => ?_
  simp only [List.getElem_set, List.getElem_map, List.getElem_range]
  split
  · rename_i e
    subst e
    simp
  · rename_i e
    congr 1
    apply decide_eq_decide.2
    omega
structure NewSt (B : Nat) (w1 W : World) (bj bj2 bh : Array Value) (g3 g5 g6 g7 : Nat) : Prop where
  below : Below w1.heap.size w1 W
  s3 : W.heap[g3]? = some (.cells #[.slice none 0 0, .slice (some ⟨g5, 0, none⟩) 64 64, .slice (some ⟨g6, 0, none⟩) 64 64, .slice (some ⟨g7, 0, none⟩) 64 64, .int .u64 0, .int .i64 0, .int .u64 14695981039346656037] 60 (0, 0))
  s5 : W.heap[g5]? = some (.cells bj 4 (0, 0))
  s6 : W.heap[g6]? = some (.cells bj2 4 (0, 0))
  s7 : W.heap[g7]? = some (.cells bh 28 (0, 0))
  n3 : w1.heap.size ≤ g3
  n5 : w1.heap.size ≤ g5
  n6 : w1.heap.size ≤ g6
  n7 : w1.heap.size ≤ g7
  d : g3 ≠ g5 ∧ g3 ≠ g6 ∧ g3 ≠ g7 ∧ g5 ≠ g6 ∧ g5 ≠ g7 ∧ g6 ≠ g7
theorem seesV_rowS {w : World} {S : List Nat} {g : Nat} {vs : List Value} {T : TypeId} {fr : Nat × Nat} (h : w.heap[g]? = some (.cells vs.toArray T fr)) (hg : g ∉ S) : SeesV w S (some ⟨g, 0, none⟩) vs := fun _ => ⟨g, 0, rfl, hg, fun j v hv => by
  rw [cell_of_row w g _ _ _ _ h, Nat.zero_add]
  simpa using hv⟩
set_option maxRecDepth 100000 in
set_option maxHeartbeats 4000000 in
theorem refNew_any (n : Nat) (hn : n ≤ 64) (w : World) (S : List Nat) (hS : ∀ x ∈ S, x < w.heap.size) :
    Calls Tryz.prog 52 #[.int .i64 (n : Int)] w fun e w' => ∃ (h : RH), e = .returned (.agg (rv none 0 0 h)) ∧ RefAt w' S none 0 [] h (newF n) ∧ Below w.heap.size w w' := by
  have hm27 := run_make27
  have hm28 := run_make28
  have hbd := run_buildR
  obtain ⟨bj, hbj⟩ : ∃ bj, bj = (bs (List.replicate 64 false)).toArray := ⟨_, rfl⟩
  obtain ⟨bh, hbh⟩ : ∃ bh, bh = (Vec.us (List.replicate 64 0)).toArray := ⟨_, rfl⟩
  rw [← hbj] at hm27
  rw [← hbh] at hm28
  have HSS := Lib.hid hS
  clear hS
  have HJ := Lib.hid hbj
  have HH := Lib.hid hbh
  have HB := Lib.hid ((Below.refl w.heap.size w).alloc (Nat.le_refl _) (.cells zrv 60))
  have HG := Lib.hid (heap_alloc_new w (.cells zrv 60))
  obtain ⟨u, hu⟩ : ∃ u, u = w.alloc (.cells zrv 60) := ⟨_, rfl⟩
  have hus : w.heap.size + 1 = u.heap.size := by rw [hu]; simp
  rw [← hu] at HB HG
  unfold zrv at hu HG
  have HU := Lib.hid hu
  obtain ⟨B, hB⟩ : ∃ B, B = w.heap.size := ⟨_, rfl⟩
  rw [← hB] at hus HG
  have HBB := Lib.hid hB
  clear hbj hbh hu hB
  go_enter Tryz.func52, Tryz.ntmps52
  go_wp2_with fail
  rw [← HU.out, ← HBB.out]
  refine wp_then (K := fun a W => ∃ (g3 g5 g6 g7 : Nat) (y1 y4 y5 y6 y7 y8 y9 y10 y11 y12 y13 y14 y15 y16 y17 y18 y19 y20 y21 y22 : Value), a = { tmps := #[Value.int .i64 (n : Int), y1, Value.pointer (some ⟨B, 0, none⟩), Value.pointer (some ⟨g3, 0, none⟩), y4, y5, y6, y7, y8, y9, y10, y11, y12, y13, y14, y15, y16, y17, y18, y19, y20, y21, y22], defers := [] } ∧ NewSt B u W bj bj bh g3 g5 g6 g7) ?_ ?_
  · rintro a W ⟨g3, g5, g6, g7, y1, y4, y5, y6, y7, y8, y9, y10, y11, y12, y13, y14, y15, y16, y17, y18, y19, y20, y21, y22, rfl, st⟩
    have hJ0 : bj = (bs (newF 0).J).toArray := by rw [HJ.out]; rfl
    have BG : Hid (W.heap[B]? = some (.cells #[.slice none 0 0, .slice none 0 0, .slice none 0 0, .slice none 0 0, .int .u64 0, .int .i64 0, .int .u64 0] 60 (0, 0))) := Lib.hid ((st.below.block B (by omega)).trans HG.out)
    have ST := Lib.hid st
    clear st hm27 hm28 hbd
    go_wp2_with fail
    go_loopw [4] (fun y wr => ∃ j : Nat, y = .int .i64 (j : Int) ∧ j ≤ n ∧ Hid (NewSt B u wr (bs (newF j).J).toArray bj bh g3 g5 g6 g7) ∧ Hid (wr.heap[B]? = some (.cells #[.slice none 0 0, .slice none 0 0, .slice none 0 0, .slice none 0 0, .int .u64 0, .int .i64 0, .int .u64 0] 60 (0, 0)))) (fun y _ => n - (intOf y).toNat)
    case atStart => exact ⟨0, rfl, by omega, by rw [← hJ0]; exact ST, BG⟩
    case round =>
      obtain ⟨j, rfl, hj, HST, HBG⟩ := hrel
      by_cases h1 : j < n
      · have hd : decide ((j : Int) < (n : Int)) = true := decide_eq_true (by omega)
        have hd2 : decide ((j : Int) < 64) = true := decide_eq_true (by omega)
        have hi : (j : Int) < 64 := by omega
        have c31 : wr.cell? ⟨g3, 1, none⟩ = some (.slice (some ⟨g5, 0, none⟩) 64 64) := by rw [cell_of_row wr _ _ _ _ _ HST.out.s3]; rfl
        obtain ⟨v, hv⟩ : ∃ v, (bs (newF j).J).toArray[j]? = some v := ⟨_, Array.getElem?_eq_getElem (by simp [bs, newF]; omega)⟩
        have c5 : wr.cell? ⟨g5, j, none⟩ = some v := by rw [cell_of_row wr _ _ _ _ _ HST.out.s5]; exact hv
        have f5 : wr.frozen? ⟨g5, j, none⟩ = false := frozen_row0 HST.out.s5
        clear hv
        go_wp2
        go_roundw
        case rel =>
          have st := HST.out
          have hBz : B < u.heap.size := by omega
          have hn5 := st.n5
          refine ⟨j + 1, by simp, by omega, Lib.hid ⟨Below.beside st.below ((Beside.refl [g5] _).setCell (by simp) _) st.below.size (by simpa using st.n5), (heapOther st.d.1).trans st.s3, by rw [heapSame st.s5, bs_new], (heapOther (Ne.symm st.d.2.2.2.1)).trans st.s6, (heapOther (Ne.symm st.d.2.2.2.2.1)).trans st.s7, st.n3, st.n5, st.n6, st.n7, st.d⟩, Lib.hid ((heapOther (by omega)).trans HBG.out)⟩
        case measure => simp [intOf]; omega
      · have hd : decide ((j : Int) < (n : Int)) = false := decide_eq_false (by omega)
        obtain rfl : j = n := by omega
        have g3h := HST.out.s3
        have gB := HBG.out
        go_wp2_with (first
          | (refine wpList_getRow rfl 60 (.tmp 3) rfl g3 60 #[.slice none 0 0, .slice (some ⟨g5, 0, none⟩) 64 64, .slice (some ⟨g6, 0, none⟩) 64 64, .slice (some ⟨g7, 0, none⟩) 64 64, .int .u64 0, .int .i64 0, .int .u64 14695981039346656037] (0, 0) _ rfl g3h Tryz.underlying60 rfl (by kernel_rfl) ?_)
          | (refine wpList_putRow rfl 60 (.tmp 2) (.tmp 22) rfl B 60 #[.slice none 0 0, .slice none 0 0, .slice none 0 0, .slice none 0 0, .int .u64 0, .int .i64 0, .int .u64 0] #[.slice none 0 0, .slice (some ⟨g5, 0, none⟩) 64 64, .slice (some ⟨g6, 0, none⟩) 64 64, .slice (some ⟨g7, 0, none⟩) 64 64, .int .u64 0, .int .i64 0, .int .u64 14695981039346656037] rfl rfl gB (by kernel_rfl) rfl (by simp [Value.oneCell']) ?_))
        intro w6 g8 hb6
        obtain ⟨t0, t1, t2, t3, t4, t5, t6⟩ := rv_cells (h := ⟨some ⟨g5, 0, none⟩, 64, some ⟨g6, 0, none⟩, 64, some ⟨g7, 0, none⟩, 64, 0, 0, 14695981039346656037⟩) g8
        have hbs := Lib.hid hb6
        clear g3h gB hb6 g8
        go_wp2
        refine bodyPost_ret (v := .agg #[.slice none 0 0, .slice (some ⟨g5, 0, none⟩) 64 64, .slice (some ⟨g6, 0, none⟩) 64 64, .slice (some ⟨g7, 0, none⟩) 64 64, .int .u64 0, .int .i64 0, .int .u64 14695981039346656037]) (by simp [results, Tryz.results52, go_sem, t0, t1, t2, t3, t4, t5, t6]) rfl ?_
        have st := HST.out
        have hBz : B < u.heap.size := by omega
        have n5 := st.n5
        have n6 := st.n6
        have n7 := st.n7
        have b5 := (hbs.out.block g5 (Array.getElem?_eq_some_iff.1 st.s5).1 (by simp; omega)).trans st.s5
        have b6 := (hbs.out.block g6 (Array.getElem?_eq_some_iff.1 st.s6).1 (by simp; omega)).trans st.s6
        have b7 := (hbs.out.block g7 (Array.getElem?_eq_some_iff.1 st.s7).1 (by simp; omega)).trans st.s7
        have hR : bj = (bs (newF j).R).toArray := by rw [HJ.out]; rfl
        have hH : bh = (Vec.us (newF j).H).toArray := by rw [HH.out]; rfl
        rw [hR] at b6
        rw [hH] at b7
        refine ⟨⟨some ⟨g5, 0, none⟩, 64, some ⟨g6, 0, none⟩, 64, some ⟨g7, 0, none⟩, 64, 0, 0, 14695981039346656037⟩, rfl, ⟨SeesV.nil, Nat.le_refl _, by omega, fun p hp => (by cases hp), rfl, seesV_rowS b5 (fun hm => by have := HSS.out g5 hm; have := HBB.out; omega), seesV_rowS b6 (fun hm => by have := HSS.out g6 hm; have := HBB.out; omega), seesV_rowS b7 (fun hm => by have := HSS.out g7 hm; have := HBB.out; omega), ⟨Nat.le_refl _, by show (64 : Nat) ≤ _; omega⟩, ⟨Nat.le_refl _, by show (64 : Nat) ≤ _; omega⟩, ⟨Nat.le_refl _, by show (64 : Nat) ≤ _; omega⟩, rfl, rfl, rfl⟩, ?_⟩
        have h1 := HB.out
        rw [← HBB.out] at h1 ⊢
        exact Below.beside (h1.trans (st.below.mono (by omega))) hbs.out (by have := st.below.size; omega) (by simp)
  · go_region
    all_goals
      (refine ⟨_, ?_, ?_, ?_, _, _, _, _, _, _, _, _, _, _, _, _, _, _, _, _, _, _, _, _, rfl, ⟨(alloc4d u _ _ _ _).2.2.2.2, ?_, ?_, ?_, ?_, ?_, ?_, ?_, ?_, ?_⟩⟩
       rotate_left 3
       · first | exact (alloc4d u _ _ _ _).1 | exact (alloc4d u _ _ _ _).2.1 | exact (alloc4d u _ _ _ _).2.2.1 | exact (alloc4d u _ _ _ _).2.2.2.1
       · first | exact (alloc4d u _ _ _ _).1 | exact (alloc4d u _ _ _ _).2.1 | exact (alloc4d u _ _ _ _).2.2.1 | exact (alloc4d u _ _ _ _).2.2.2.1
       · first | exact (alloc4d u _ _ _ _).1 | exact (alloc4d u _ _ _ _).2.1 | exact (alloc4d u _ _ _ _).2.2.1 | exact (alloc4d u _ _ _ _).2.2.2.1
       · first | exact (alloc4d u _ _ _ _).1 | exact (alloc4d u _ _ _ _).2.1 | exact (alloc4d u _ _ _ _).2.2.1 | exact (alloc4d u _ _ _ _).2.2.2.1
       · omega
       · omega
       · omega
       · omega
       · omega)
end Go.Proofs.YtmogoopkjkdkgaaGreat.Fol
namespace Go.Proofs.YtmogoopkjkdkgaaGreat.Ord
open Go Go.RowKit Go.Proofs.YtmogoopkjkdkgaaGreat.Words
set_option linter.unusedVariables false
set_option linter.unusedSimpArgs false

theorem frame_fold (tm : Array Value) : ∀ (ds : List Nat) (u : Array Value), u.size = tm.size → (∀ t, t ∉ ds → tm.getD t undef = u.getD t undef) → tm = ds.foldl (fun u d => u.setIfInBounds d (tm.getD d undef)) u
  | [], u, hs, h => by
    apply Array.ext
    · exact hs.symm
    · intro i h1 h2
      have h3 : i < u.size := by omega
      have := h i (by simp)
      simpa [Array.getD, h1, h3] using this
  | d :: ds, u, hs, h => by
    refine frame_fold tm ds (u.setIfInBounds d (tm.getD d undef)) (by simp [hs]) fun t ht => ?_
    by_cases e : d = t
    · subst e
      by_cases hb : d < u.size
      · have hb' : d < tm.size := by omega
        simp [Array.getD, hb, hb']
      · have hb' : ¬ d < tm.size := by omega
        simp [Array.getD, hb, hb']
    · have := h t (by simp only [List.mem_cons, not_or]; exact ⟨fun x => e x.symm, ht⟩)
      rw [this]
      simp only [Array.getD_eq_getD_getElem?]
      rw [Array.getElem?_setIfInBounds_ne e]
theorem frame_region {n : Nat} {l : List Oper} {tm tm0 : Array Value} (hs : tm.size = n) (hs0 : tm0.size = n) (hold : ∀ t : Nat, (∀ i : Nat, (l.toArray[i]?).bind (·.dst) ≠ some t) → tm.getD t undef = tm0.getD t undef) :
    tm = (l.filterMap (·.dst)).foldl (fun u d => u.setIfInBounds d (tm.getD d undef)) tm0 := by
  refine frame_fold tm _ tm0 (by omega) fun t ht => hold t fun i e => ht ?_
  rw [List.getElem?_toArray] at e
  cases ho : l[i]? with
  | none => rw [ho] at e; cases e
  | some o =>
    rw [ho] at e
    exact List.mem_filterMap.2 ⟨o, List.mem_of_getElem? ho, e⟩
end Go.Proofs.YtmogoopkjkdkgaaGreat.Ord
namespace Go.Proofs.YtmogoopkjkdkgaaGreat.Vw
open Go Go.RowKit Go.Proofs.YtmogoopkjkdkgaaGreat.Words Go.Proofs.YtmogoopkjkdkgaaGreat.Enc Go.Proofs.YtmogoopkjkdkgaaGreat.Q Go.Proofs.YtmogoopkjkdkgaaGreat.Evt Go.Proofs.YtmogoopkjkdkgaaGreat.Seg Go.Proofs.YtmogoopkjkdkgaaGreat.Fol
set_option linter.unusedVariables false
set_option linter.unusedSimpArgs false

/-- What the document's Apply is known to do (FolAp: refApply_any). -/
def ApplySaid : Prop := ∀ {La : Option Addr} {lc : Nat} {L : List (Key × RC)} {h : RH} {F : Fo} {S : List Nat} (e : Ev) (A : Option Addr) (n c : Nat) (w : World) (r : RefAt w S La lc L h F) (ok : Ok F) (hs : SeesV w S A (cs e.text)) (hnt : n = e.text.length) (hS : ∀ x ∈ S, x < w.heap.size) (hn : n ≤ 1000000000) (hL : L.length ≤ 1000000) (hfit : e.Fit) (hkl : e.key.size ≤ 9223372036854775807),
    Calls Tryz.prog 53 #[.agg (rv La L.length lc h), e.val A n c] w fun e' w' => ∃ La' lc' L' h', e' = .returned (.tuple #[.agg (rv La' (List.length (α := Key × RC) L') lc' h'), .int .i64 (applyE F e : Int)]) ∧ RefAt w' S La' lc' L' h' (applyF F e) ∧ Below w.heap.size w w'
def PRes (S : List Nat) (F : Fo) : Facts.Pred := ⟨fun v w => ∃ (La2 : Option Addr) (lc2 : Nat) (L2 : List (Key × RC)) (Ja2 : Option Addr) (Jc2 : Nat) (Ra2 : Option Addr) (Rc2 : Nat) (Ha2 : Option Addr) (Hc2 tm2 W02 M2 N2 : Nat) (q : Int), v = .tuple #[.agg #[.slice La2 N2 lc2, .slice Ja2 64 Jc2, .slice Ra2 64 Rc2, .slice Ha2 64 Hc2, .int .u64 (tm2 : Int), .int .i64 (W02 : Int), .int .u64 (M2 : Int)], .int .i64 q] ∧ N2 = L2.length ∧ RefAt w S La2 lc2 L2 ⟨Ja2, Jc2, Ra2, Rc2, Ha2, Hc2, tm2, W02, M2⟩ F, fun v w w' h hb => by
  obtain ⟨La2, lc2, L2, Ja2, Jc2, Ra2, Rc2, Ha2, Hc2, tm2, W02, M2, N2, q, h1, h2, h3⟩ := h
  exact ⟨La2, lc2, L2, Ja2, Jc2, Ra2, Rc2, Ha2, Hc2, tm2, W02, M2, N2, q, h1, h2, h3.below hb⟩⟩
set_option maxRecDepth 100000 in
set_option maxHeartbeats 4000000 in
theorem refOf_any (AS : ApplySaid) (A : Option Addr) (c : Nat) (R : List EvS) (w : World) (h : EvSees w A R) (hR : R.length ≤ 1000) (hx : ∀ r ∈ R, SeesV w [] r.A (cs r.e.text)) :
    Calls Tryz.prog 22 #[.int .i64 3, .slice A R.length c] w fun e w' => ∃ La lc L h, e = .returned (.agg (rv La (List.length (α := Key × RC) L) lc h)) ∧ RefAt w' [] La lc L h (applyAll (newF 3) (R.map EvS.e)) ∧ Below w.heap.size w w' := by
  have hsf := store_float Tryz.prog
  obtain ⟨N, hN⟩ : ∃ N, N = R.length := ⟨_, rfl⟩
  rw [← hN] at hR ⊢
  have HH := Lib.hid (And.intro h (And.intro hN hx))
  obtain ⟨g4, hg4⟩ : ∃ g, g = w.heap.size := ⟨_, rfl⟩
  obtain ⟨u, hu⟩ : ∃ u, u = w.alloc (.cells #[.slice none 0 0, .slice none 0 0, .slice none 0 0, .slice none 0 0, .int .u64 0, .int .i64 0, .int .u64 0] 60) := ⟨_, rfl⟩
  have bu : Below w.heap.size w u := by rw [hu]; exact (Below.refl _ _).alloc (Nat.le_refl _) _
  have gu : u.heap[g4]? = some (.cells #[.slice none 0 0, .slice none 0 0, .slice none 0 0, .slice none 0 0, .int .u64 0, .int .i64 0, .int .u64 0] 60 (0, 0)) := by rw [hu, hg4]; exact heap_alloc_new w _
  have NW := Lib.hid (refNew_any 3 (by omega) u [g4] (fun x hx => by rw [List.mem_singleton] at hx; rw [hx]; exact (Array.getElem?_eq_some_iff.1 gu).1))
  have HQ : ∀ e ∈ R.map EvS.e, e.num < 18446744073709551616 := fun e he => by obtain ⟨r, hr, rfl⟩ := List.mem_map.1 he; exact (h.fit r hr).1.q
  have HNQ := Lib.hid HQ
  have HU := Lib.hid hu
  have HG4 := Lib.hid hg4
  have BU := Lib.hid bu
  have GU := Lib.hid gu
  have hN2 : (N : Int) ≤ 1000 := by omega
  clear h hN hx hu bu gu HQ hg4
  go_enter Tryz.func22, Tryz.ntmps22
  go_upto_region 1 with fail
  rw [← HU.out, ← HG4.out]
  go_wp2_with fail
  refine NW.out.mono ?_
  rintro e w1 ⟨h, rfl, hr1, hb1⟩
  obtain ⟨Ja, Jc, Ra, Rc, Ha, Hc, tm, W0, M⟩ := h
  have HR1 := Lib.hid hr1
  have HB1 := Lib.hid hb1
  unfold rv
  clear hr1 hb1 NW
  go_wp2_with (first | (refine wpList_putRow rfl 60 (.tmp 5) (.tmp 8) rfl w1.heap.size 60 #[.slice none 0 0, .slice none 0 0, .slice none 0 0, .slice none 0 0, .int .u64 0, .int .i64 0, .int .u64 0] #[.slice none 0 0, .slice Ja 64 Jc, .slice Ra 64 Rc, .slice Ha 64 Hc, .int .u64 (tm : Int), .int .i64 (W0 : Int), .int .u64 (M : Int)] rfl rfl ?g0 (by kernel_rfl) rfl (by simp [Value.oneCell']) ?_))
  case g0 => exact heap_alloc_new w1 _
  intro w2 g2 hb2
  obtain ⟨gx, hgx⟩ : ∃ g, g = w1.heap.size := ⟨_, rfl⟩
  rw [← hgx] at g2 hb2 ⊢
  have hb12 : Below w1.heap.size w1 w2 := Below.beside ((Below.refl w1.heap.size w1).alloc (Nat.le_refl _) _) hb2 (by simp) (fun x hx => by rw [List.mem_singleton] at hx; omega)
  have hg4l : g4 < w1.heap.size := Nat.lt_of_lt_of_le (Array.getElem?_eq_some_iff.1 GU.out).1 HB1.out.size
  have HD : Hid (g4 ≠ gx ∧ w.heap.size ≤ g4 ∧ w.heap.size ≤ gx) := Lib.hid (by have := HG4.out; omega)
  have HR2 : Hid (RefAt w2 [g4, gx] none 0 [] ⟨Ja, Jc, Ra, Rc, Ha, Hc, tm, W0, M⟩ (newF 3)) := Lib.hid ((HR1.out.wider (S1 := [g4, gx]) (fun x hx => by
    simp only [List.mem_cons, List.not_mem_nil, or_false] at hx
    rcases hx with rfl | rfl
    · exact .inl (by simp)
    · right; omega)).below hb12)
  have HG2 := Lib.hid g2
  have HB2 : Hid (Below w.heap.size w w2) := Lib.hid (by
    have h1 := BU.out.trans (HB1.out.mono BU.out.size)
    exact h1.trans (hb12.mono h1.size))
  have HZ4 : Hid (w2.heap[g4]? = some (.cells #[.slice none 0 0, .slice none 0 0, .slice none 0 0, .slice none 0 0, .int .u64 0, .int .i64 0, .int .u64 0] 60 (0, 0))) := Lib.hid ((hb12.block g4 hg4l).trans ((HB1.out.block g4 (Array.getElem?_eq_some_iff.1 GU.out).1).trans GU.out))
  clear g2 hb2 hb12 hg4l hgx
  go_wp2_with fail
  go_loopw [6] (fun y wr => ∃ (j : Nat) (La : Option Addr) (lc : Nat) (L : List (Key × RC)) (Ja : Option Addr) (Jc : Nat) (Ra : Option Addr) (Rc : Nat) (Ha : Option Addr) (Hc tm W0 M n' : Nat), y = .int .i64 (j : Int) ∧ j ≤ N ∧ Hid (n' = L.length) ∧ Hid (RefAt wr [g4, gx] La lc L ⟨Ja, Jc, Ra, Rc, Ha, Hc, tm, W0, M⟩ (applyAll (newF 3) ((R.take j).map EvS.e))) ∧ Hid (wr.heap[gx]? = some (.cells #[.slice La n' lc, .slice Ja 64 Jc, .slice Ra 64 Rc, .slice Ha 64 Hc, .int .u64 (tm : Int), .int .i64 (W0 : Int), .int .u64 (M : Int)] 60 (0, 0))) ∧ Hid (wr.heap[g4]? = some (.cells #[.slice none 0 0, .slice none 0 0, .slice none 0 0, .slice none 0 0, .int .u64 0, .int .i64 0, .int .u64 0] 60 (0, 0))) ∧ Hid (Below w.heap.size w wr)) (fun y _ => N - (intOf y).toNat)
  case atStart => exact ⟨0, none, 0, [], Ja, Jc, Ra, Rc, Ha, Hc, tm, W0, M, 0, rfl, Nat.zero_le _, Lib.hid rfl, HR2, HG2, HZ4, HB2⟩
  case round =>
    obtain ⟨j, La, lc, L, Ja, Jc, Ra, Rc, Ha, Hc, tm, W0, M, n', rfl, hj, HNL, HR, HG, HZ, HB⟩ := hrel
    by_cases hlt : j < N
    · have hdj : decide ((j : Int) < (N : Int)) = true := decide_eq_true (by omega)
      have hij : (j : Int) < (N : Int) := by omega
      have hjb : (j : Int) ≤ 1000 := by omega
      obtain ⟨r, hr⟩ : ∃ r, R[j]? = some r := ⟨_, List.getElem?_eq_getElem (by rw [← HH.out.2.1]; exact hlt)⟩
      have hES := HH.out.1.below HB.out
      have hrm := List.mem_of_getElem? hr
      have hst : applyAll (newF 3) ((R.take (j + 1)).map EvS.e) = applyF (applyAll (newF 3) ((R.take j).map EvS.e)) r.e := by
        have := applyAll_take (newF 3) (R.map EvS.e) j (e := r.e) (by rw [List.getElem?_map, hr]; rfl)
        rw [List.map_take, List.map_take]
        exact this
      have hokF : Ok (applyAll (newF 3) ((R.take j).map EvS.e)) := ok_all (fun e he => HNQ.out e (by obtain ⟨q, hq, rfl⟩ := List.mem_map.1 he; exact List.mem_map_of_mem (List.mem_of_mem_take hq))) (ok_new 3)
      have hLl : L.length ≤ 1000 := by
        have h1 := all_len (l := (R.take j).map EvS.e) (F := newF 3) (fun e he => HNQ.out e (by obtain ⟨q, hq, rfl⟩ := List.mem_map.1 he; exact List.mem_map_of_mem (List.mem_of_mem_take hq))) (ok_new 3)
        have h2 : L.length = (applyAll (newF 3) ((R.take j).map EvS.e)).L.length := by rw [← HR.out.cells, mapV_len]
        have h3 : ((R.take j).map EvS.e).length ≤ j := by rw [List.length_map, List.length_take]; omega
        have h4 : (newF 3).L.length = 0 := rfl
        omega
      obtain ⟨b, o, rfl, q0, q1, q2, q3, q4, q5, q6, q7⟩ := RawEv.at_ hES.raw hr
      have htx0 := HH.out.2.2 r hrm
      have hfit := hES.fit r hrm
      have hsees := hES.text r hrm
      rw [show 8 * j = j * 8 by omega] at q0 q1 q2 q3 q4 q5 q6 q7
      obtain ⟨⟨ew, sq, et, kd, key, text, num, node⟩, rA, rn, rc⟩ := r
      simp only [] at q0 q1 q2 q3 q4 q5 q6 q7 htx0 hfit hsees
      obtain ⟨F, hF⟩ : ∃ F, F = applyAll (newF 3) ((R.take j).map EvS.e) := ⟨_, rfl⟩
      have hra := HR.out
      rw [← hF] at hra hst hokF
      have HRA := Lib.hid (And.intro hra (And.intro hokF hst))
      have HFT := Lib.hid (And.intro hfit (And.intro hsees (And.intro htx0 hLl)))
      have hgl := (Array.getElem?_eq_some_iff.1 HG.out).1
      have hlen : rn = text.length := hsees.1.symm
      have hn6 : rn ≤ 1000000 := hfit.2.2
      have hk6 : key.size ≤ 64 := hfit.2.1
      have hf6 : (⟨ew, sq, et, kd, key, text, num, node⟩ : Ev).Fit := hfit.1
      have hx1 : SeesV w [g4, gx] rA (cs text) := htx0.wider (fun x hx => by
        simp only [List.mem_cons, List.not_mem_nil, or_false] at hx
        have := HD.out
        rcases hx with rfl | rfl
        · right; omega
        · right; omega)
      have hg4l := (Array.getElem?_eq_some_iff.1 HZ.out).1
      have AP := Lib.hid (fun (W : World) (hW : Below wr.heap.size wr W) => (by
        have h1 := AS ⟨ew, sq, et, kd, key, text, num, node⟩ rA rn rc W (hra.below hW) hokF (hx1.below (HB.out.trans (hW.mono HB.out.size))) hlen (fun x hx => by
          have := hW.size
          simp only [List.mem_cons, List.not_mem_nil, or_false] at hx
          rcases hx with rfl | rfl
          · omega
          · omega) (by omega) (by omega) hf6 (by show key.size ≤ _; omega)
        unfold rv at h1
        rw [← HNL.out] at h1
        refine Calls.mono h1 ?_
        rintro e' w' ⟨La2, lc2, L2, ⟨Ja2, Jc2, Ra2, Rc2, Ha2, Hc2, tm2, W02, M2⟩, rfl, k1, k2⟩
        exact ⟨_, rfl, k2, La2, lc2, L2, Ja2, Jc2, Ra2, Rc2, Ha2, Hc2, tm2, W02, M2, _, _, rfl, rfl, k1⟩ :
        Calls Tryz.prog 53 #[.agg #[.slice La n' lc, .slice Ja 64 Jc, .slice Ra 64 Rc, .slice Ha 64 Hc, .int .u64 (tm : Int), .int .i64 (W0 : Int), .int .u64 (M : Int)], .agg #[.int .i64 ew, .int .u64 (sq : Int), .int .u64 (et : Int), .int .u8 (kd : Int), .string key, .slice rA rn rc, .float .f64 num, .int .i64 node]] W fun e' w' => ∃ v, e' = .returned v ∧ Below W.heap.size W w' ∧ (PRes [g4, gx] (applyF F ⟨ew, sq, et, kd, key, text, num, node⟩)).p v w'))
      clear hF hra hst hokF hfit hsees htx0 hLl hES hrm hlen hn6 hk6 hf6 hx1
      have hboxr := HG.out
      obtain ⟨r0, r1, r2, r3, r4, r5, r6⟩ := rv_cells (h := ⟨Ja, Jc, Ra, Rc, Ha, Hc, tm, W0, M⟩) hboxr
      clear hboxr
      go_wp2_with fail
      go_region_with (first
        | (go_at_call 53
           refine (AP.out _ ?h1).mono ?_
           case h1 => first | exact (Below.refl _ _).drew | exact Below.refl _ _
           rintro e w4 ⟨v, rfl, hb4, hp4⟩
           obtain ⟨La2, lc2, L2, Ja2, Jc2, Ra2, Rc2, Ha2, Hc2, tm2, W02, M2, N2, q, rfl, hN2, hr4⟩ := hp4
           have hgx4 := (hb4.block gx hgl).trans HG.out
           have fz : ∀ k, w4.frozen? ⟨gx, k, none⟩ = false := fun k => frozen_row0 hgx4
           obtain ⟨c0, c1, c2, c3, c4, c5, c6⟩ := rv_cells (h := ⟨Ja, Jc, Ra, Rc, Ha, Hc, tm, W0, M⟩) hgx4
           have HGX4 := Lib.hid hgx4
           clear hgx4))
      all_goals
        have hbw : Below wr.heap.size wr w4 := by first | exact (Below.refl wr.heap.size wr).drew.trans hb4 | exact ((Below.refl wr.heap.size wr).drew.drew).trans hb4 | exact hb4
        have hg43 := (hbw.block g4 hg4l).trans HZ.out
        have HB3 := Lib.hid (HB.out.trans (hbw.mono HB.out.size))
        have g5 := (heapSame (i := 6) (v := .int .u64 (M2 : Int)) (heapSame (i := 5) (v := .int .i64 (W02 : Int)) (heapSame (i := 4) (v := .int .u64 (tm2 : Int)) (heapSame (i := 3) (v := .slice Ha2 64 Hc2) (heapSame (i := 2) (v := .slice Ra2 64 Rc2) (heapSame (i := 1) (v := .slice Ja2 64 Jc2) (heapSame (i := 0) (v := .slice La2 L2.length lc2) HGX4.out))))))).trans (show _ = some (Obj.cells #[.slice La2 L2.length lc2, .slice Ja2 64 Jc2, .slice Ra2 64 Rc2, .slice Ha2 64 Hc2, .int .u64 (tm2 : Int), .int .i64 (W02 : Int), .int .u64 (M2 : Int)] 60 (0, 0)) from rfl)
        have hb5 := (((((((Beside.refl [gx] w4).setCell (p := ⟨gx, 0, none⟩) (by simp) (.slice La2 L2.length lc2)).setCell (p := ⟨gx, 1, none⟩) (by simp) (.slice Ja2 64 Jc2)).setCell (p := ⟨gx, 2, none⟩) (by simp) (.slice Ra2 64 Rc2)).setCell (p := ⟨gx, 3, none⟩) (by simp) (.slice Ha2 64 Hc2)).setCell (p := ⟨gx, 4, none⟩) (by simp) (.int .u64 (tm2 : Int))).setCell (p := ⟨gx, 5, none⟩) (by simp) (.int .i64 (W02 : Int))).setCell (p := ⟨gx, 6, none⟩) (by simp) (.int .u64 (M2 : Int))
        generalize (((((((w4.setCell ⟨gx, 0, none⟩ (.slice La2 L2.length lc2)).setCell ⟨gx, 1, none⟩ (.slice Ja2 64 Jc2)).setCell ⟨gx, 2, none⟩ (.slice Ra2 64 Rc2)).setCell ⟨gx, 3, none⟩ (.slice Ha2 64 Hc2)).setCell ⟨gx, 4, none⟩ (.int .u64 (tm2 : Int))).setCell ⟨gx, 5, none⟩ (.int .i64 (W02 : Int))).setCell ⟨gx, 6, none⟩ (.int .u64 (M2 : Int))) = w5 at g5 hb5 ⊢
        have hr5 := hr4.beside hb5 (fun x hx => by rw [List.mem_singleton] at hx; exact .inl (by rw [hx]; simp))
        have HR5 : Hid (RefAt w5 [g4, gx] La2 lc2 L2 ⟨Ja2, Jc2, Ra2, Rc2, Ha2, Hc2, tm2, W02, M2⟩ (applyAll (newF 3) ((R.take (j + 1)).map EvS.e))) := Lib.hid (by rw [HRA.out.2.2]; exact hr5)
        have HG5 := Lib.hid g5
        have HZ5 : Hid (w5.heap[g4]? = some (.cells #[.slice none 0 0, .slice none 0 0, .slice none 0 0, .slice none 0 0, .int .u64 0, .int .i64 0, .int .u64 0] 60 (0, 0))) := Lib.hid ((hb5.block g4 (Array.getElem?_eq_some_iff.1 hg43).1 (fun hm => by rw [List.mem_singleton] at hm; exact HD.out.1 hm)).trans hg43)
        have HB5 : Hid (Below w.heap.size w w5) := Lib.hid (by
          have h1 := HB3.out
          exact Below.beside h1 hb5 h1.size (fun x hx => by rw [List.mem_singleton] at hx; have := HD.out; omega))
        have HN5 := Lib.hid hN2
        clear hr5 g5 hb5 hr4 hN2 hg43 hbw hb4 c0 c1 c2 c3 c4 c5 c6 fz AP HGX4 r0 r1 r2 r3 r4 r5 r6 q0 q1 q2 q3 q4 q5 q6 q7
        go_wp2
        go_roundw
        all_goals first | exact ⟨j + 1, La2, lc2, L2, Ja2, Jc2, Ra2, Rc2, Ha2, Hc2, tm2, W02, M2, N2, by simp, by omega, HN5, HR5, HG5, HZ5, HB5⟩ | exact ⟨j + 1, La2, lc2, L2, Ja2, Jc2, Ra2, Rc2, Ha2, Hc2, tm2, W02, M2, L2.length, by simp, by omega, Lib.hid rfl, HR5, HG5, HZ5, HB5⟩ | (simp [intOf]; omega)
    · obtain rfl : j = N := by omega
      have hdj : decide ((j : Int) < (j : Int)) = false := decide_eq_false (by omega)
      have hfin := HR.out
      rw [List.take_of_length_le (by rw [← HH.out.2.1]; exact Nat.le_refl _)] at hfin
      have HFIN := Lib.hid hfin
      have ggx := HG.out
      have gg4 := HZ.out
      clear hfin
      go_wp2_with (first
        | (refine wpList_getRow rfl 60 (.tmp 5) rfl gx 60 #[.slice La n' lc, .slice Ja 64 Jc, .slice Ra 64 Rc, .slice Ha 64 Hc, .int .u64 (tm : Int), .int .i64 (W0 : Int), .int .u64 (M : Int)] (0, 0) _ rfl ggx Tryz.underlying60 rfl (by kernel_rfl) ?_)
        | (refine wpList_putRow rfl 60 (.tmp 4) (.tmp 24) rfl g4 60 #[.slice none 0 0, .slice none 0 0, .slice none 0 0, .slice none 0 0, .int .u64 0, .int .i64 0, .int .u64 0] #[.slice La n' lc, .slice Ja 64 Jc, .slice Ra 64 Rc, .slice Ha 64 Hc, .int .u64 (tm : Int), .int .i64 (W0 : Int), .int .u64 (M : Int)] rfl rfl gg4 (by kernel_rfl) rfl (by simp [Value.oneCell']) ?_))
      intro w6 g6 hb6
      obtain ⟨t0, t1, t2, t3, t4, t5, t6⟩ := rv_cells (h := ⟨Ja, Jc, Ra, Rc, Ha, Hc, tm, W0, M⟩) g6
      have HF6 : Hid (RefAt w6 [] La lc L ⟨Ja, Jc, Ra, Rc, Ha, Hc, tm, W0, M⟩ (applyAll (newF 3) (R.map EvS.e))) := Lib.hid ((HFIN.out.beside hb6 (fun x hx => by rw [List.mem_singleton] at hx; exact .inl (by rw [hx]; simp))).wider (fun x hx => by cases hx))
      have HB6 : Hid (Below w.heap.size w w6) := Lib.hid (Below.beside HB.out hb6 HB.out.size (fun x hx => by rw [List.mem_singleton] at hx; have := HD.out; omega))
      clear g6 hb6 ggx gg4
      go_wp2
      refine bodyPost_ret (v := .agg #[.slice La n' lc, .slice Ja 64 Jc, .slice Ra 64 Rc, .slice Ha 64 Hc, .int .u64 (tm : Int), .int .i64 (W0 : Int), .int .u64 (M : Int)]) (by simp [results, Tryz.results22, go_sem, t0, t1, t2, t3, t4, t5, t6]) rfl ⟨La, lc, L, ⟨Ja, Jc, Ra, Rc, Ha, Hc, tm, W0, M⟩, ?_, HF6.out, HB6.out⟩
      unfold rv
      rw [← HNL.out]
end Go.Proofs.YtmogoopkjkdkgaaGreat.Vw
