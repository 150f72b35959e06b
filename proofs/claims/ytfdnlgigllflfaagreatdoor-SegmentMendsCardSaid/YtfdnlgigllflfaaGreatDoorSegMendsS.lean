/- SegmentMends, walked. -/
import Derived.Test.YtfdnlgigllflfaaGreatDoorSegCut
import Derived.Test.YtfdnlgigllflfaaGreatDoorBEvent
import Derived.Test.YtfdnlgigllflfaaGreatDoorBPlain
import Derived.Deep.RegionWith
import Derived.Deep.DeepCutAuto
import Derived.Deep.RegionHeld3
namespace Go.Proofs.YtfdnlgigllflfaaGreatDoor.Seg
open Go Go.RowKit Go.Proofs.YtfdnlgigllflfaaGreatDoor.Words Go.Proofs.YtfdnlgigllflfaaGreatDoor.Enc Go.Proofs.YtfdnlgigllflfaaGreatDoor.Evt Go.Proofs.YtfdnlgigllflfaaGreatDoor.Made Go.Proofs.YtfdnlgigllflfaaGreatDoor.Dsk Go.Proofs.YtfdnlgigllflfaaGreatDoor.Sht
set_option linter.unusedVariables false
set_option linter.unusedSimpArgs false

theorem b2cells {w : World} {b : Nat} {v0 v1 : Value} {T : TypeId} {f : Nat × Nat} (h : w.heap[b]? = some (.cells #[v0, v1] T f)) : w.cell? ⟨b, 0, none⟩ = some v0 ∧ w.cell? ⟨b, 1, none⟩ = some v1 := by
  refine ⟨?_, ?_⟩ <;> (rw [cell_of_row w b _ _ _ _ h]; rfl)
theorem wp_then {P : Program} {c : Code} {K K' : Act → World → Prop} {Q' : Exit → Act → World → Prop} {a : Act} {w : World} (hq : ∀ a w, K a w → K' a w) (h : c.wp P (Exit.then K Q') a w) : c.wp P (Exit.then K' Q') a w :=
  Code.wp_mono (fun e a w he => by cases e <;> first | exact hq _ _ he | exact he) h
/-- Behind the law's second Add. -/
structure AddSt (w0 W : World) (d : Nat) (S : List Nat) (files : List File) (h : Hd) (b13 : Nat) (A10 : Option Addr) (j Zj : Nat) (A8 : Option Addr) (R : List Ev) : Prop where
  disk : Disk W d S files h
  sees : SeesEv S W A8 (j + 1) R
  bel : Below w0.heap.size w0 W
  sub : ∀ k ∈ S, w0.heap.size ≤ k
  nb : b13 ∉ S
  box : W.heap[b13]? = some (.cells #[.int .i64 5, .int .u64 1, .slice A10 j j, .int .i64 (Zj : Int)] 29 (0, 0))
theorem AddSt.below {w0 W W' : World} {d : Nat} {S : List Nat} {files : List File} {h : Hd} {b13 : Nat} {A10 : Option Addr} {j Zj : Nat} {A8 : Option Addr} {R : List Ev} (s : AddSt w0 W d S files h b13 A10 j Zj A8 R) (hb : Below W.heap.size W W') : AddSt w0 W' d S files h b13 A10 j Zj A8 R :=
  ⟨s.disk.below hb, s.sees.below hb, s.bel.trans (hb.mono s.bel.size), s.sub, s.nb, (hb.block _ (Array.getElem?_eq_some_iff.1 s.box).1).trans s.box⟩
theorem AddSt.box15 {w0 W : World} {d : Nat} {S : List Nat} {files : List File} {h : Hd} {b13 b15 : Nat} {A10 : Option Addr} {j Zj : Nat} {A8 : Option Addr} {R : List Ev} {z0 z1 z2 z3 : Value} {ty : TypeId} (s : AddSt w0 W d S files h b13 A10 j Zj A8 R) (hse : SeesEv (S ++ [b15]) W A8 (j + 1) R) (hn : b15 ∉ S) (hne : b13 ≠ b15) (hw : w0.heap.size ≤ b15) (hz : W.heap[b15]? = some (.cells #[z0, z1, z2, z3] ty (0, 0))) (v0 v1 v2 v3 : Value) :
    AddSt w0 ((((W.setCell ⟨b15, 0, none⟩ v0).setCell ⟨b15, 1, none⟩ v1).setCell ⟨b15, 2, none⟩ v2).setCell ⟨b15, 3, none⟩ v3) d S files h b13 A10 j Zj A8 R ∧
      ((((W.setCell ⟨b15, 0, none⟩ v0).setCell ⟨b15, 1, none⟩ v1).setCell ⟨b15, 2, none⟩ v2).setCell ⟨b15, 3, none⟩ v3).heap[b15]? = some (.cells #[v0, v1, v2, v3] ty (0, 0)) := by
  refine ⟨⟨disk_box (disk_box (disk_box (disk_box s.disk _ hn) _ hn) _ hn) _ hn, ?_, (((s.bel.setCell hw _).setCell hw _).setCell hw _).setCell hw _, s.sub, s.nb, ?_⟩, ?_⟩
  · exact hse.next (((((Beside.refl _ _).setCell (by simp) _).setCell (by simp) _).setCell (by simp) _).setCell (by simp) _) fun k hk => .inl (by simp [hk])
  · rw [heapOther hne, heapOther hne, heapOther hne, heapOther hne]; exact s.box
  · rw [heapSame (heapSame (heapSame (heapSame hz)))]; rfl
set_option maxRecDepth 100000 in
set_option maxHeartbeats 4000000 in
theorem mends_short (ct : Nat) (A : Option Addr) (n c : Nat) (l : List (Nat × Nat)) (K Tt : Nat) (w : World) (T : Chk.Tabs w) (ST : STabs w) (hP : SeesP w A n l) (hn : n ≤ 20) (hct : ct < 65536) (hK : K < 256) (hTt : Tt < 256) :
    Calls Tryz.prog 4 #[.slice A n c, .int .u16 (ct : Int), putV K Tt] w fun e w' => e = .returned (.bool true) ∧ Below w.heap.size w w' := by
  have h20 : ¬ 20 < n := by omega
  have hln := hP.1
  have c5 : ((5 : Nat) : Int) = 5 := rfl
  have c1 : ((1 : Nat) : Int) = 1 := rfl
  have hhl := headL_len (k := 115) (a := 5) (b := 1) (by omega) (by omega)
  have htl := (titleL_len (k := 115) (a := 5) (b := 1) (by omega) (by omega)).2
  have hH50 : (headL 115 5 1).length ≤ 50 := by omega
  clear hhl htl
  have hb0 := (Below.refl w.heap.size w).alloc (Nat.le_refl _) (.cells #[.int .u8 (K : Int), .int .u8 (Tt : Int)] 49)
  have g5 := heap_alloc_new w (.cells #[.int .u8 (K : Int), .int .u8 (Tt : Int)] 49)
  unfold putV
  go_enter Tryz.func4, Tryz.ntmps4
  go_upto_region 1 with fail
  generalize w.alloc (.cells #[.int .u8 (K : Int), .int .u8 (Tt : Int)] 49) = w0 at hb0 g5 ⊢
  have l5 : w.heap.size < w0.heap.size := (Array.getElem?_eq_some_iff.1 g5).1
  go_wp2_with fail
  refine (awake_any w0 (ST.below hb0)).mono ?_
  rintro e w1 ⟨rfl, hb1⟩
  have b1 := hb0.trans (hb1.mono hb0.size)
  go_wp2_with fail
  refine (newC 65536 w1).mono ?_
  rintro e w2 ⟨d, S2, rfl, hd2, hS2, hb2⟩
  have b2 := b1.trans (hb2.mono b1.size)
  have hS2w : ∀ k ∈ S2, w.heap.size ≤ k := fun k hk => Nat.le_trans b1.size (hS2 k hk)
  have n52 : w.heap.size ∉ S2 := fun hm => by have := hS2 _ hm; have := hb1.size; omega
  have g5' := (hb2.block _ (Nat.lt_of_lt_of_le l5 hb1.size)).trans ((hb1.block _ l5).trans g5)
  have TT2 : TabsOn S2 w2 := TabsOn.of T ST b2 hS2w
  have hfill := fill_any d S2 5 1 A n c l w2 TT2 hd2 (fun W hW => hP.below (Below.beside b2 hW b2.size hS2w)) (by omega) (by omega) (by omega) (by omega)
  rw [c5, c1] at hfill
  clear g5 TT2
  go_wp2_with fail
  refine hfill.mono ?_
  rintro e w3 ⟨A3, S3, N3, rfl, hd3, hb3, hs3, hse3⟩
  clear hfill
  have b3 := Below.beside b2 hb3 b2.size hS2w
  have g5 := (hb3.block _ (Array.getElem?_eq_some_iff.1 g5').1 n52).trans g5'
  have hS3w : ∀ k ∈ S3, w.heap.size + 1 ≤ k := fun k hk => by
    rcases hs3 k hk with h | h
    · have := hS2 _ h; have := hb1.size; omega
    · have := (Array.getElem?_eq_some_iff.1 g5').1; omega
  have hS3w' : ∀ k ∈ S3, w.heap.size ≤ k := fun k hk => by have := hS3w k hk; omega
  have hruns := evsF_runs (x := 5) (u := 1) (by omega) (by omega) l 0 (by omega) (by omega)
  rw [Nat.add_zero] at hruns
  have hLl := evsF_len ((5 : Nat) : Int) 1 l 0
  obtain ⟨L, hL⟩ : ∃ L, L = evsF ((5 : Nat) : Int) 1 0 l := ⟨_, rfl⟩
  rw [← hL] at hd3 hse3 hruns hLl ⊢
  clear hL
  rw [hln] at hse3 hd3 hLl ⊢
  have hws := runs_wraps hruns
  rw [hLl] at hws
  have hname := fun W hT => name_any 5 1 (by omega) (by omega) (by omega) W hT
  have hnl := name_len (n := 5) (u := 1) (by omega)
  rw [c1] at hname
  rw [c5] at hnl
  generalize hZ : (headL 115 5 1).length + (wraps (L.map evL)).length = Z at ⊢
  have hbox := (Below.refl w3.heap.size w3).alloc (Nat.le_refl _) (.cells #[.int .i64 5, .int .u64 1, .slice A3 n n, .int .i64 (Z : Int)] 29)
  have g8 := heap_alloc_new w3 (.cells #[.int .i64 5, .int .u64 1, .slice A3 n n, .int .i64 (Z : Int)] 29)
  have hd4 := hd3.below hbox
  have hse4 := hse3.below hbox
  have b4 := b3.trans (hbox.mono b3.size)
  have g5' := (hbox.block _ (Array.getElem?_eq_some_iff.1 g5).1).trans g5
  have hlt3 : ∀ k ∈ S3, k < w3.heap.size := hd3.lt
  unfold segV
  rw [c5, c1]
  go_upto_region 5 with fail
  generalize w3.alloc (.cells #[.int .i64 5, .int .u64 1, .slice A3 n n, .int .i64 (Z : Int)] 29) = w4 at hbox g8 hd4 hse4 b4 g5' ⊢
  generalize w3.heap.size = b8 at g8 hlt3 ⊢
  have n83 : b8 ∉ S3 := fun hm => by have := hlt3 _ hm; omega
  have n53 : w.heap.size ∉ S3 := fun hm => by have := hS3w _ hm; omega
  clear hd3 hse3 hbox b3 hb3 hs3 hd2 hb2 b2 hb1 g5
  go_wp2_with fail
  refine (hname w4 (ST.below b4)).mono ?_
  rintro e w5 ⟨rfl, hb5⟩
  have g8' := (hb5.block b8 (Array.getElem?_eq_some_iff.1 g8).1).trans g8
  have g5 := (hb5.block _ (Array.getElem?_eq_some_iff.1 g5').1).trans g5'
  have hd5 := hd4.below hb5
  have hse5 := hse4.below hb5
  have b5 := b4.trans (hb5.mono b4.size)
  clear hd4 hse4 hb5 g8 g5' hname
  have hhead := fun W hT => head_any 115 5 1 W hT (by omega) (by omega)
  unfold titleV at hhead
  simp only [show ((115 : UInt8).toNat : Int) = 115 from rfl, c5, c1] at hhead
  go_wp2_with fail
  refine (hhead w5 (T.below b5)).mono ?_
  rintro e w6 ⟨A6, c6, rfl, hown6, hb6⟩
  have g8 := (hb6.block b8 (Array.getElem?_eq_some_iff.1 g8').1).trans g8'
  have g5' := (hb6.block _ (Array.getElem?_eq_some_iff.1 g5).1).trans g5
  have hd6 := hd5.below hb6
  have hse6 := hse5.below hb6
  have b6 := b5.trans (hb6.mono b5.size)
  clear hd5 hse5 hb6 g8' g5 hhead hown6
  obtain ⟨HD, hHD⟩ : ∃ HD, HD = headL 115 5 1 := ⟨_, rfl⟩
  obtain ⟨hh, hhh⟩ : ∃ hh, hh = HD.length := ⟨_, rfl⟩
  obtain ⟨WL, hWL⟩ : ∃ WL, WL = (wraps (L.map evL)).length := ⟨_, rfl⟩
  obtain ⟨nw1, hnw1⟩ : ∃ nw1, nw1 = WL + 1 := ⟨_, rfl⟩
  obtain ⟨x, hx⟩ : ∃ x, x = ct % nw1 := ⟨_, rfl⟩
  obtain ⟨nn, hnn⟩ : ∃ nn, nn = hh + x := ⟨_, rfl⟩
  have hxw : x ≤ WL := by have := Nat.mod_lt ct (show 0 < nw1 by omega); omega
  rw [← hHD, ← hhh, ← hWL] at hZ
  have hh50 : hh ≤ 50 := by rw [hhh, hHD]; exact hH50
  have hsub : IntKind.i64.wrap ((Z : Int) - (hh : Int)) = (WL : Int) := by rw [IntWalk.i64_in _ (by omega)]; omega
  have hadd : IntKind.i64.wrap ((WL : Int) + 1) = (nw1 : Int) := by rw [IntWalk.i64_in _ (by omega)]; omega
  have hmod : (ct : Int).tmod (nw1 : Int) = (x : Int) := by rw [hx]; rfl
  have hnz : (nw1 : Int) ≠ 0 := by omega
  have hadd2 : IntKind.i64.wrap ((hh : Int) + (x : Int)) = (nn : Int) := by rw [IntWalk.i64_in _ (by omega)]; omega
  have hcut := fun W hd' => cutC d S3 [⟨nameL ((5 : Nat) : Int) 1, HD ++ wraps (L.map evL), N3⟩] ⟨65536, 2 + n, -1, 0, false⟩ (nameL ((5 : Nat) : Int) 1) ((HD.length + x : Nat) : Int) W hd' (hd_ok (by omega)) (by rw [c5]; omega) (by simp only [sumA, List.length_append]; omega)
  have hce := cut_one (nameL ((5 : Nat) : Int) 1) HD (wraps (L.map evL)) N3 (2 + n) x (by omega)
  rw [hce.1, hce.2, act_un (by decide), ← hhh, ← hnn] at hcut
  rw [show (headL 115 5 1).length = hh by rw [hhh, hHD]]
  rw [← hHD] at hd6
  obtain ⟨q0, q1, q2, q3⟩ := b4cells g8
  have HX := Lib.hid hnn
  have HZ := Lib.hid hZ
  have HW := Lib.hid hWL
  have HN := Lib.hid hnw1
  have HM := Lib.hid hx
  have HHH := Lib.hid hhh
  clear hnn hZ hWL hnw1 hx hhh hce
  go_wp2_with fail
  refine (hcut w6 hd6).mono ?_
  rintro e w7 ⟨rfl, S7, hd7, hb7, hs7⟩
  clear hcut
  have l8 : b8 < w6.heap.size := (Array.getElem?_eq_some_iff.1 g8).1
  have g5 := (hb7.block _ (Array.getElem?_eq_some_iff.1 g5').1 n53).trans g5'
  have g8' := (hb7.block b8 l8 n83).trans g8
  have b7 := Below.beside b6 hb7 b6.size hS3w'
  have hse7 := hse6.next hb7 hs7
  have hS7w : ∀ k ∈ S7, w.heap.size + 1 ≤ k := fun k hk => by
    rcases hs7 k hk with h | h
    · exact hS3w k h
    · have := (Array.getElem?_eq_some_iff.1 g5').1; omega
  have hS7w' : ∀ k ∈ S7, w.heap.size ≤ k := fun k hk => by have := hS7w k hk; omega
  have n87 : b8 ∉ S7 := fun hm => by
    rcases hs7 _ hm with h | h
    · exact n83 h
    · omega
  have n57 : w.heap.size ∉ S7 := fun hm => by have := hS7w _ hm; omega
  have TT7 : TabsOn S7 w7 := TabsOn.of T ST b7 hS7w'
  clear hd6 hse6 hb7 hs7 g8 g5' q0 q1 q2 q3 b6
  rw [hHD] at hd7
  obtain ⟨j, N2, acts2, hj, ha2, hjc, hop⟩ := openTorn d S7 5 1 nn (2 + n + 1) x L w7 TT7 hd7 (by omega) (by omega) hruns (by omega) (by omega) (by have := HW.out; omega)
  have hLTl : (L.take j).length = j := by rw [List.length_take]; omega
  have hrunsj := runs_take j hruns
  clear hd7 TT7
  rw [hLl] at hj
  go_wp2_with fail
  refine hop.mono ?_
  rintro e w8 ⟨A10, S8, rfl, hd8, hb8, hs8, hse8⟩
  clear hop
  have g5' := (hb8.block _ (Array.getElem?_eq_some_iff.1 g5).1 n57).trans g5
  have g8 := (hb8.block b8 (Array.getElem?_eq_some_iff.1 g8').1 n87).trans g8'
  have b8' := Below.beside b7 hb8 b7.size hS7w'
  have hsl8 := hse7.next hb8 hs8
  have hS8w : ∀ k ∈ S8, w.heap.size + 1 ≤ k := fun k hk => by
    rcases hs8 k hk with h | h
    · exact hS7w k h
    · have := (Array.getElem?_eq_some_iff.1 g5).1; omega
  have n58 : w.heap.size ∉ S8 := fun hm => by have := hS8w _ hm; omega
  obtain ⟨Zj, hZj⟩ : ∃ Zj, Zj = (headL 115 5 1).length + (wraps ((L.take j).map evL)).length := ⟨_, rfl⟩
  have hZn : ¬ nn < Zj := by have h1 := HX.out; have h2 := HHH.out; rw [hHD] at h2; omega
  have hZb : Zj ≤ 70000 := by have := HX.out; have := HW.out; omega
  rw [← hZj]
  have HZj := Lib.hid hZj
  have hlt8 : ∀ k ∈ S8, k < w8.heap.size := hd8.lt
  have hbox := (Below.refl w8.heap.size w8).alloc (Nat.le_refl _) (.cells #[.int .i64 5, .int .u64 1, .slice A10 j j, .int .i64 (Zj : Int)] 29)
  have g13 := heap_alloc_new w8 (.cells #[.int .i64 5, .int .u64 1, .slice A10 j j, .int .i64 (Zj : Int)] 29)
  have hd9 := hd8.below hbox
  have hse9 := hse8.below hbox
  have hsl9 := hsl8.below hbox
  have b9 := b8'.trans (hbox.mono b8'.size)
  have g5 := (hbox.block _ (Array.getElem?_eq_some_iff.1 g5').1).trans g5'
  have g8' := (hbox.block _ (Array.getElem?_eq_some_iff.1 g8).1).trans g8
  clear hZj hb8 hs8 hse8 hse7 hsl8 b7 hd8 g8
  unfold segV
  simp only [c5, c1]
  go_upto_region 12 with fail
  generalize w8.alloc (.cells #[.int .i64 5, .int .u64 1, .slice A10 j j, .int .i64 (Zj : Int)] 29) = w9 at hbox g13 hd9 hse9 hsl9 b9 g5 g8' ⊢
  generalize w8.heap.size = b13 at g13 hlt8 ⊢
  have n138 : b13 ∉ S8 := fun hm => by have := hlt8 _ hm; omega
  clear g5' hbox b8'
  have hjn : ¬ n < j := by omega
  have CELL : Hid (∀ W, Below w9.drew.heap.size w9.drew W → ((W.cell? ⟨b8, 0, none⟩ = some (.int .i64 5) ∧ W.cell? ⟨b8, 1, none⟩ = some (.int .u64 1) ∧ W.cell? ⟨b8, 2, none⟩ = some (.slice A3 n n) ∧ W.cell? ⟨b8, 3, none⟩ = some (.int .i64 (Z : Int))) ∧
      (W.cell? ⟨b13, 0, none⟩ = some (.int .i64 5) ∧ W.cell? ⟨b13, 1, none⟩ = some (.int .u64 1) ∧ W.cell? ⟨b13, 2, none⟩ = some (.slice A10 j j) ∧ W.cell? ⟨b13, 3, none⟩ = some (.int .i64 (Zj : Int))))) := fun W hR =>
    ⟨b4cells ((hR.block b8 (Array.getElem?_eq_some_iff.1 g8').1).trans g8'), b4cells ((hR.block b13 (Array.getElem?_eq_some_iff.1 g13).1).trans g13)⟩
  have SAME : Hid (∀ W, Below w9.drew.heap.size w9.drew W → Calls Tryz.prog 16 #[.slice A10 j j, .slice A3 j n] W fun e w' => e = .returned (.bool true) ∧ Below W.heap.size W w') := fun W hR =>
    sameAll_any S8 S8 A10 A3 j j n (L.take j) W (hse9.below (show Below w9.heap.size w9 W from (Below.refl _ _).drew.trans hR)) ((hsl9.take (by omega)).below (show Below w9.heap.size w9 W from (Below.refl _ _).drew.trans hR)) (runs_mem hrunsj) (by omega)
  refine Facts.wp_region_preds (n := 127) (by kernel_rfl) (by kernel_rfl) rfl [Facts.Pred.is (Value.int .i64 0), Facts.Pred.is (Value.bool false), Facts.Pred.is (Value.bool false), Facts.Pred.is (Value.pointer (some ⟨b13, 2, none⟩)), Facts.Pred.is (Value.slice A10 j j), Facts.Pred.is (Value.int .i64 (j : Int)), Facts.Pred.is (Value.slice A n c), Facts.Pred.is (Value.int .i64 (n : Int)), Facts.Pred.is (Value.bool false), Facts.Pred.is (Value.bool false), Facts.Pred.is (Value.bool false), Facts.Pred.is (Value.pointer (some ⟨b13, 2, none⟩)), Facts.Pred.is (Value.slice A10 j j), Facts.Pred.is (Value.pointer (some ⟨b8, 2, none⟩)), Facts.Pred.is (Value.slice A3 n n), Facts.Pred.is (Value.pointer (some ⟨b13, 2, none⟩)), Facts.Pred.is (Value.slice A10 j j), Facts.Pred.is (Value.int .i64 (j : Int)), Facts.Pred.is (Value.slice A3 j n), Facts.Pred.is (Value.bool true), Facts.Pred.is (Value.bool false), Facts.Pred.is (Value.bool false), Facts.Pred.is (Value.bool false), Facts.Pred.is (Value.pointer (some ⟨b13, 3, none⟩)), Facts.Pred.is (Value.int .i64 (Zj : Int)), Facts.Pred.is (Value.int .i64 (nn : Int)), Facts.Pred.is (Value.bool false), Facts.Pred.is (Value.bool false)] ?_ ?_
  · refine ⟨?_, ?_, ?_, ?_, ?_, ?_, ?_, ?_, ?_, ?_, ?_, ?_, ?_, ?_, ?_, ?_, ?_, ?_, ?_, ?_, ?_, ?_, ?_, ?_, ?_, ?_, ?_, ?_, trivial⟩
    · refine Facts.step_is (Value.int .i64 0) fun a W hR hold hnew => ?_
      have f14 : a.tmps.getD 14 undef = Value.int .i64 0 := hold 14 (by kernel_rfl)
      refine ⟨Facts.wanted_free rfl, ?_, fun _ => rfl⟩
      simp [go_sem, Act.eval, f14]
    · refine Facts.step_is (Value.bool false) fun a W hR hold hnew => ?_
      have f60 : a.tmps.getD 60 undef = Value.int .i64 0 := hnew 0 60 (by kernel_rfl)
      refine ⟨Facts.wanted_free rfl, ?_, fun _ => rfl⟩
      simp [go_sem, Act.eval, f60]
    · refine Facts.step_is (Value.bool false) fun a W hR hold hnew => ?_
      have f61 : a.tmps.getD 61 undef = Value.bool false := hnew 1 61 (by kernel_rfl)
      refine ⟨Facts.wanted_free rfl, ?_, fun _ => rfl⟩
      simp [go_sem, Act.eval, f61]
    · refine Facts.step_is (Value.pointer (some ⟨b13, 2, none⟩)) fun a W hR hold hnew => ?_
      have f13 : a.tmps.getD 13 undef = Value.pointer (some ⟨b13, 0, none⟩) := hold 13 (by kernel_rfl)
      have g62 : a.tmps.getD 62 undef = .bool false := hnew 2 62 (by kernel_rfl)
      refine ⟨Facts.wanted_by rfl (by kernel_rfl) g62, ?_, fun _ => rfl⟩
      simp [go_sem, Act.eval, f13]
    · refine Facts.step_is (Value.slice A10 j j) fun a W hR hold hnew => ?_
      have f63 : a.tmps.getD 63 undef = Value.pointer (some ⟨b13, 2, none⟩) := hnew 3 63 (by kernel_rfl)
      have g62 : a.tmps.getD 62 undef = .bool false := hnew 2 62 (by kernel_rfl)
      obtain ⟨⟨y0, y1, y2, y3⟩, ⟨z0, z1, z2, z3⟩⟩ := CELL.out W hR
      refine ⟨Facts.wanted_by rfl (by kernel_rfl) g62, ?_, fun _ => rfl⟩
      simp [go_sem, Act.eval, f63, z2]
    · refine Facts.step_is (Value.int .i64 (j : Int)) fun a W hR hold hnew => ?_
      have f64 : a.tmps.getD 64 undef = Value.slice A10 j j := hnew 4 64 (by kernel_rfl)
      have g62 : a.tmps.getD 62 undef = .bool false := hnew 2 62 (by kernel_rfl)
      refine ⟨Facts.wanted_by rfl (by kernel_rfl) g62, ?_, fun _ => rfl⟩
      simp [go_sem, Act.eval, f64]
    · refine Facts.step_is (Value.slice A n c) fun a W hR hold hnew => ?_
      have f0 : a.tmps.getD 0 undef = Value.slice A n c := hold 0 (by kernel_rfl)
      have g62 : a.tmps.getD 62 undef = .bool false := hnew 2 62 (by kernel_rfl)
      refine ⟨Facts.wanted_by rfl (by kernel_rfl) g62, ?_, fun _ => rfl⟩
      simp [go_sem, Act.eval, f0]
    · refine Facts.step_is (Value.int .i64 (n : Int)) fun a W hR hold hnew => ?_
      have f66 : a.tmps.getD 66 undef = Value.slice A n c := hnew 6 66 (by kernel_rfl)
      have g62 : a.tmps.getD 62 undef = .bool false := hnew 2 62 (by kernel_rfl)
      refine ⟨Facts.wanted_by rfl (by kernel_rfl) g62, ?_, fun _ => rfl⟩
      simp [go_sem, Act.eval, f66]
    · refine Facts.step_is (Value.bool false) fun a W hR hold hnew => ?_
      have f65 : a.tmps.getD 65 undef = Value.int .i64 (j : Int) := hnew 5 65 (by kernel_rfl)
      have f67 : a.tmps.getD 67 undef = Value.int .i64 (n : Int) := hnew 7 67 (by kernel_rfl)
      have g62 : a.tmps.getD 62 undef = .bool false := hnew 2 62 (by kernel_rfl)
      refine ⟨Facts.wanted_by rfl (by kernel_rfl) g62, ?_, fun _ => rfl⟩
      simp [go_sem, Act.eval, f65, f67, hjn]
    · refine Facts.step_is (Value.bool false) fun a W hR hold hnew => ?_
      have f62 : a.tmps.getD 62 undef = Value.bool false := hnew 2 62 (by kernel_rfl)
      have f68 : a.tmps.getD 68 undef = Value.bool false := hnew 8 68 (by kernel_rfl)
      refine ⟨Facts.wanted_free rfl, ?_, fun _ => rfl⟩
      simp [go_sem, Act.eval, f62, f68]
    · refine Facts.step_is (Value.bool false) fun a W hR hold hnew => ?_
      have f69 : a.tmps.getD 69 undef = Value.bool false := hnew 9 69 (by kernel_rfl)
      refine ⟨Facts.wanted_free rfl, ?_, fun _ => rfl⟩
      simp [go_sem, Act.eval, f69]
    · refine Facts.step_is (Value.pointer (some ⟨b13, 2, none⟩)) fun a W hR hold hnew => ?_
      have f13 : a.tmps.getD 13 undef = Value.pointer (some ⟨b13, 0, none⟩) := hold 13 (by kernel_rfl)
      have g70 : a.tmps.getD 70 undef = .bool false := hnew 10 70 (by kernel_rfl)
      refine ⟨Facts.wanted_by rfl (by kernel_rfl) g70, ?_, fun _ => rfl⟩
      simp [go_sem, Act.eval, f13]
    · refine Facts.step_is (Value.slice A10 j j) fun a W hR hold hnew => ?_
      have f71 : a.tmps.getD 71 undef = Value.pointer (some ⟨b13, 2, none⟩) := hnew 11 71 (by kernel_rfl)
      have g70 : a.tmps.getD 70 undef = .bool false := hnew 10 70 (by kernel_rfl)
      obtain ⟨⟨y0, y1, y2, y3⟩, ⟨z0, z1, z2, z3⟩⟩ := CELL.out W hR
      refine ⟨Facts.wanted_by rfl (by kernel_rfl) g70, ?_, fun _ => rfl⟩
      simp [go_sem, Act.eval, f71, z2]
    · refine Facts.step_is (Value.pointer (some ⟨b8, 2, none⟩)) fun a W hR hold hnew => ?_
      have f8 : a.tmps.getD 8 undef = Value.pointer (some ⟨b8, 0, none⟩) := hold 8 (by kernel_rfl)
      have g70 : a.tmps.getD 70 undef = .bool false := hnew 10 70 (by kernel_rfl)
      refine ⟨Facts.wanted_by rfl (by kernel_rfl) g70, ?_, fun _ => rfl⟩
      simp [go_sem, Act.eval, f8]
    · refine Facts.step_is (Value.slice A3 n n) fun a W hR hold hnew => ?_
      have f73 : a.tmps.getD 73 undef = Value.pointer (some ⟨b8, 2, none⟩) := hnew 13 73 (by kernel_rfl)
      have g70 : a.tmps.getD 70 undef = .bool false := hnew 10 70 (by kernel_rfl)
      obtain ⟨⟨y0, y1, y2, y3⟩, ⟨z0, z1, z2, z3⟩⟩ := CELL.out W hR
      refine ⟨Facts.wanted_by rfl (by kernel_rfl) g70, ?_, fun _ => rfl⟩
      simp [go_sem, Act.eval, f73, y2]
    · refine Facts.step_is (Value.pointer (some ⟨b13, 2, none⟩)) fun a W hR hold hnew => ?_
      have f13 : a.tmps.getD 13 undef = Value.pointer (some ⟨b13, 0, none⟩) := hold 13 (by kernel_rfl)
      have g70 : a.tmps.getD 70 undef = .bool false := hnew 10 70 (by kernel_rfl)
      refine ⟨Facts.wanted_by rfl (by kernel_rfl) g70, ?_, fun _ => rfl⟩
      simp [go_sem, Act.eval, f13]
    · refine Facts.step_is (Value.slice A10 j j) fun a W hR hold hnew => ?_
      have f75 : a.tmps.getD 75 undef = Value.pointer (some ⟨b13, 2, none⟩) := hnew 15 75 (by kernel_rfl)
      have g70 : a.tmps.getD 70 undef = .bool false := hnew 10 70 (by kernel_rfl)
      obtain ⟨⟨y0, y1, y2, y3⟩, ⟨z0, z1, z2, z3⟩⟩ := CELL.out W hR
      refine ⟨Facts.wanted_by rfl (by kernel_rfl) g70, ?_, fun _ => rfl⟩
      simp [go_sem, Act.eval, f75, z2]
    · refine Facts.step_is (Value.int .i64 (j : Int)) fun a W hR hold hnew => ?_
      have f76 : a.tmps.getD 76 undef = Value.slice A10 j j := hnew 16 76 (by kernel_rfl)
      have g70 : a.tmps.getD 70 undef = .bool false := hnew 10 70 (by kernel_rfl)
      refine ⟨Facts.wanted_by rfl (by kernel_rfl) g70, ?_, fun _ => rfl⟩
      simp [go_sem, Act.eval, f76]
    · refine Facts.step_is (Value.slice A3 j n) fun a W hR hold hnew => ?_
      have f74 : a.tmps.getD 74 undef = Value.slice A3 n n := hnew 14 74 (by kernel_rfl)
      have f77 : a.tmps.getD 77 undef = Value.int .i64 (j : Int) := hnew 17 77 (by kernel_rfl)
      have g70 : a.tmps.getD 70 undef = .bool false := hnew 10 70 (by kernel_rfl)
      refine ⟨Facts.wanted_by rfl (by kernel_rfl) g70, ?_, fun _ => rfl⟩
      simp [go_sem, Act.eval, f74, f77, hjn]
    · -- 19: Op.call { value (Operand.func 16), args := #[t72, t78], argT
      refine Facts.step_call fun a W hR hold hnew => ?_
      have f72 : a.tmps.getD 72 undef = Value.slice A10 j j := hnew 12 72 (by kernel_rfl); have f78 : a.tmps.getD 78 undef = Value.slice A3 j n := hnew 18 78 (by kernel_rfl); have g70 : a.tmps.getD 70 undef = .bool false := hnew 10 70 (by kernel_rfl)
      refine ⟨Facts.wanted_by rfl (by kernel_rfl) g70, 16, #[Value.slice A10 j j, Value.slice A3 j n], by simp [go_sem, Act.eval, f72, f78], ?_⟩
      refine (SAME.out W hR).mono ?_
      rintro e w9 ⟨rfl, hb9⟩
      exact ⟨_, rfl, hb9, rfl⟩
    · refine Facts.step_is (Value.bool false) fun a W hR hold hnew => ?_
      have f79 : a.tmps.getD 79 undef = Value.bool true := hnew 19 79 (by kernel_rfl)
      have g70 : a.tmps.getD 70 undef = .bool false := hnew 10 70 (by kernel_rfl)
      refine ⟨Facts.wanted_by rfl (by kernel_rfl) g70, ?_, fun _ => rfl⟩
      simp [go_sem, Act.eval, f79]
    · refine Facts.step_is (Value.bool false) fun a W hR hold hnew => ?_
      have f70 : a.tmps.getD 70 undef = Value.bool false := hnew 10 70 (by kernel_rfl)
      have f80 : a.tmps.getD 80 undef = Value.bool false := hnew 20 80 (by kernel_rfl)
      refine ⟨Facts.wanted_free rfl, ?_, fun _ => rfl⟩
      simp [go_sem, Act.eval, f70, f80]
    · refine Facts.step_is (Value.bool false) fun a W hR hold hnew => ?_
      have f81 : a.tmps.getD 81 undef = Value.bool false := hnew 21 81 (by kernel_rfl)
      refine ⟨Facts.wanted_free rfl, ?_, fun _ => rfl⟩
      simp [go_sem, Act.eval, f81]
    · refine Facts.step_is (Value.pointer (some ⟨b13, 3, none⟩)) fun a W hR hold hnew => ?_
      have f13 : a.tmps.getD 13 undef = Value.pointer (some ⟨b13, 0, none⟩) := hold 13 (by kernel_rfl)
      have g82 : a.tmps.getD 82 undef = .bool false := hnew 22 82 (by kernel_rfl)
      refine ⟨Facts.wanted_by rfl (by kernel_rfl) g82, ?_, fun _ => rfl⟩
      simp [go_sem, Act.eval, f13]
    · refine Facts.step_is (Value.int .i64 (Zj : Int)) fun a W hR hold hnew => ?_
      have f83 : a.tmps.getD 83 undef = Value.pointer (some ⟨b13, 3, none⟩) := hnew 23 83 (by kernel_rfl)
      have g82 : a.tmps.getD 82 undef = .bool false := hnew 22 82 (by kernel_rfl)
      obtain ⟨⟨y0, y1, y2, y3⟩, ⟨z0, z1, z2, z3⟩⟩ := CELL.out W hR
      refine ⟨Facts.wanted_by rfl (by kernel_rfl) g82, ?_, fun _ => rfl⟩
      simp [go_sem, Act.eval, f83, z3]
    · refine Facts.step_is (Value.int .i64 (nn : Int)) fun a W hR hold hnew => ?_
      have f12 : a.tmps.getD 12 undef = Value.int .i64 (nn : Int) := hold 12 (by kernel_rfl)
      have g82 : a.tmps.getD 82 undef = .bool false := hnew 22 82 (by kernel_rfl)
      refine ⟨Facts.wanted_by rfl (by kernel_rfl) g82, ?_, fun _ => rfl⟩
      simp [go_sem, Act.eval, f12]
    · refine Facts.step_is (Value.bool false) fun a W hR hold hnew => ?_
      have f84 : a.tmps.getD 84 undef = Value.int .i64 (Zj : Int) := hnew 24 84 (by kernel_rfl)
      have f85 : a.tmps.getD 85 undef = Value.int .i64 (nn : Int) := hnew 25 85 (by kernel_rfl)
      have g82 : a.tmps.getD 82 undef = .bool false := hnew 22 82 (by kernel_rfl)
      refine ⟨Facts.wanted_by rfl (by kernel_rfl) g82, ?_, fun _ => rfl⟩
      simp [go_sem, Act.eval, f84, f85, hZn]
    · refine Facts.step_is (Value.bool false) fun a W hR hold hnew => ?_
      have f82 : a.tmps.getD 82 undef = Value.bool false := hnew 22 82 (by kernel_rfl)
      have f86 : a.tmps.getD 86 undef = Value.bool false := hnew 26 86 (by kernel_rfl)
      refine ⟨Facts.wanted_free rfl, ?_, fun _ => rfl⟩
      simp [go_sem, Act.eval, f82, f86]
  intro a w10 hR hsize hdef hnew hold
  have f5 : a.tmps.getD 5 undef = Value.pointer (some ⟨w.heap.size, 0, none⟩) := hold 5 (Facts.not_dst (by kernel_rfl))
  have f7 : a.tmps.getD 7 undef = Value.pointer (some ⟨d, 0, none⟩) := hold 7 (Facts.not_dst (by kernel_rfl))
  have f10 : a.tmps.getD 10 undef = Value.string ⟨(nameL ((5 : Nat) : Int) 1).toArray⟩ := hold 10 (Facts.not_dst (by kernel_rfl))
  have f13 : a.tmps.getD 13 undef = Value.pointer (some ⟨b13, 0, none⟩) := hold 13 (Facts.not_dst (by kernel_rfl))
  have f87 : a.tmps.getD 87 undef = Value.bool false := hnew 27 87 (by kernel_rfl)
  obtain ⟨tm, df⟩ := a
  simp only [] at hdef hsize f5 f7 f10 f13 f87
  have hlit : tm = #[tm.getD 0 undef, tm.getD 1 undef, tm.getD 2 undef, tm.getD 3 undef, tm.getD 4 undef, tm.getD 5 undef, tm.getD 6 undef, tm.getD 7 undef, tm.getD 8 undef, tm.getD 9 undef, tm.getD 10 undef, tm.getD 11 undef, tm.getD 12 undef, tm.getD 13 undef, tm.getD 14 undef, tm.getD 15 undef, tm.getD 16 undef, tm.getD 17 undef, tm.getD 18 undef, tm.getD 19 undef, tm.getD 20 undef, tm.getD 21 undef, tm.getD 22 undef, tm.getD 23 undef, tm.getD 24 undef, tm.getD 25 undef, tm.getD 26 undef, tm.getD 27 undef, tm.getD 28 undef, tm.getD 29 undef, tm.getD 30 undef, tm.getD 31 undef, tm.getD 32 undef, tm.getD 33 undef, tm.getD 34 undef, tm.getD 35 undef, tm.getD 36 undef, tm.getD 37 undef, tm.getD 38 undef, tm.getD 39 undef, tm.getD 40 undef, tm.getD 41 undef, tm.getD 42 undef, tm.getD 43 undef, tm.getD 44 undef, tm.getD 45 undef, tm.getD 46 undef, tm.getD 47 undef, tm.getD 48 undef, tm.getD 49 undef, tm.getD 50 undef, tm.getD 51 undef, tm.getD 52 undef, tm.getD 53 undef, tm.getD 54 undef, tm.getD 55 undef, tm.getD 56 undef, tm.getD 57 undef, tm.getD 58 undef, tm.getD 59 undef, tm.getD 60 undef, tm.getD 61 undef, tm.getD 62 undef, tm.getD 63 undef, tm.getD 64 undef, tm.getD 65 undef, tm.getD 66 undef, tm.getD 67 undef, tm.getD 68 undef, tm.getD 69 undef, tm.getD 70 undef, tm.getD 71 undef, tm.getD 72 undef, tm.getD 73 undef, tm.getD 74 undef, tm.getD 75 undef, tm.getD 76 undef, tm.getD 77 undef, tm.getD 78 undef, tm.getD 79 undef, tm.getD 80 undef, tm.getD 81 undef, tm.getD 82 undef, tm.getD 83 undef, tm.getD 84 undef, tm.getD 85 undef, tm.getD 86 undef, tm.getD 87 undef, tm.getD 88 undef, tm.getD 89 undef, tm.getD 90 undef, tm.getD 91 undef, tm.getD 92 undef, tm.getD 93 undef, tm.getD 94 undef, tm.getD 95 undef, tm.getD 96 undef, tm.getD 97 undef, tm.getD 98 undef, tm.getD 99 undef, tm.getD 100 undef, tm.getD 101 undef, tm.getD 102 undef, tm.getD 103 undef, tm.getD 104 undef, tm.getD 105 undef, tm.getD 106 undef, tm.getD 107 undef, tm.getD 108 undef, tm.getD 109 undef, tm.getD 110 undef, tm.getD 111 undef, tm.getD 112 undef, tm.getD 113 undef, tm.getD 114 undef, tm.getD 115 undef, tm.getD 116 undef, tm.getD 117 undef, tm.getD 118 undef, tm.getD 119 undef, tm.getD 120 undef, tm.getD 121 undef, tm.getD 122 undef, tm.getD 123 undef, tm.getD 124 undef, tm.getD 125 undef, tm.getD 126 undef] := (Facts.array_lit tm hsize).trans rfl
  rw [f5, f7, f10, f13, f87] at hlit
  clear f5 f7 f10 f13 f87 hsize hnew hold
  generalize tm.getD 0 undef = x0 at hlit
  generalize tm.getD 1 undef = x1 at hlit
  generalize tm.getD 2 undef = x2 at hlit
  generalize tm.getD 3 undef = x3 at hlit
  generalize tm.getD 4 undef = x4 at hlit
  generalize tm.getD 6 undef = x6 at hlit
  generalize tm.getD 8 undef = x8 at hlit
  generalize tm.getD 9 undef = x9 at hlit
  generalize tm.getD 11 undef = x11 at hlit
  generalize tm.getD 12 undef = x12 at hlit
  generalize tm.getD 14 undef = x14 at hlit
  generalize tm.getD 15 undef = x15 at hlit
  generalize tm.getD 16 undef = x16 at hlit
  generalize tm.getD 17 undef = x17 at hlit
  generalize tm.getD 18 undef = x18 at hlit
  generalize tm.getD 19 undef = x19 at hlit
  generalize tm.getD 20 undef = x20 at hlit
  generalize tm.getD 21 undef = x21 at hlit
  generalize tm.getD 22 undef = x22 at hlit
  generalize tm.getD 23 undef = x23 at hlit
  generalize tm.getD 24 undef = x24 at hlit
  generalize tm.getD 25 undef = x25 at hlit
  generalize tm.getD 26 undef = x26 at hlit
  generalize tm.getD 27 undef = x27 at hlit
  generalize tm.getD 28 undef = x28 at hlit
  generalize tm.getD 29 undef = x29 at hlit
  generalize tm.getD 30 undef = x30 at hlit
  generalize tm.getD 31 undef = x31 at hlit
  generalize tm.getD 32 undef = x32 at hlit
  generalize tm.getD 33 undef = x33 at hlit
  generalize tm.getD 34 undef = x34 at hlit
  generalize tm.getD 35 undef = x35 at hlit
  generalize tm.getD 36 undef = x36 at hlit
  generalize tm.getD 37 undef = x37 at hlit
  generalize tm.getD 38 undef = x38 at hlit
  generalize tm.getD 39 undef = x39 at hlit
  generalize tm.getD 40 undef = x40 at hlit
  generalize tm.getD 41 undef = x41 at hlit
  generalize tm.getD 42 undef = x42 at hlit
  generalize tm.getD 43 undef = x43 at hlit
  generalize tm.getD 44 undef = x44 at hlit
  generalize tm.getD 45 undef = x45 at hlit
  generalize tm.getD 46 undef = x46 at hlit
  generalize tm.getD 47 undef = x47 at hlit
  generalize tm.getD 48 undef = x48 at hlit
  generalize tm.getD 49 undef = x49 at hlit
  generalize tm.getD 50 undef = x50 at hlit
  generalize tm.getD 51 undef = x51 at hlit
  generalize tm.getD 52 undef = x52 at hlit
  generalize tm.getD 53 undef = x53 at hlit
  generalize tm.getD 54 undef = x54 at hlit
  generalize tm.getD 55 undef = x55 at hlit
  generalize tm.getD 56 undef = x56 at hlit
  generalize tm.getD 57 undef = x57 at hlit
  generalize tm.getD 58 undef = x58 at hlit
  generalize tm.getD 59 undef = x59 at hlit
  generalize tm.getD 60 undef = x60 at hlit
  generalize tm.getD 61 undef = x61 at hlit
  generalize tm.getD 62 undef = x62 at hlit
  generalize tm.getD 63 undef = x63 at hlit
  generalize tm.getD 64 undef = x64 at hlit
  generalize tm.getD 65 undef = x65 at hlit
  generalize tm.getD 66 undef = x66 at hlit
  generalize tm.getD 67 undef = x67 at hlit
  generalize tm.getD 68 undef = x68 at hlit
  generalize tm.getD 69 undef = x69 at hlit
  generalize tm.getD 70 undef = x70 at hlit
  generalize tm.getD 71 undef = x71 at hlit
  generalize tm.getD 72 undef = x72 at hlit
  generalize tm.getD 73 undef = x73 at hlit
  generalize tm.getD 74 undef = x74 at hlit
  generalize tm.getD 75 undef = x75 at hlit
  generalize tm.getD 76 undef = x76 at hlit
  generalize tm.getD 77 undef = x77 at hlit
  generalize tm.getD 78 undef = x78 at hlit
  generalize tm.getD 79 undef = x79 at hlit
  generalize tm.getD 80 undef = x80 at hlit
  generalize tm.getD 81 undef = x81 at hlit
  generalize tm.getD 82 undef = x82 at hlit
  generalize tm.getD 83 undef = x83 at hlit
  generalize tm.getD 84 undef = x84 at hlit
  generalize tm.getD 85 undef = x85 at hlit
  generalize tm.getD 86 undef = x86 at hlit
  generalize tm.getD 88 undef = x88 at hlit
  generalize tm.getD 89 undef = x89 at hlit
  generalize tm.getD 90 undef = x90 at hlit
  generalize tm.getD 91 undef = x91 at hlit
  generalize tm.getD 92 undef = x92 at hlit
  generalize tm.getD 93 undef = x93 at hlit
  generalize tm.getD 94 undef = x94 at hlit
  generalize tm.getD 95 undef = x95 at hlit
  generalize tm.getD 96 undef = x96 at hlit
  generalize tm.getD 97 undef = x97 at hlit
  generalize tm.getD 98 undef = x98 at hlit
  generalize tm.getD 99 undef = x99 at hlit
  generalize tm.getD 100 undef = x100 at hlit
  generalize tm.getD 101 undef = x101 at hlit
  generalize tm.getD 102 undef = x102 at hlit
  generalize tm.getD 103 undef = x103 at hlit
  generalize tm.getD 104 undef = x104 at hlit
  generalize tm.getD 105 undef = x105 at hlit
  generalize tm.getD 106 undef = x106 at hlit
  generalize tm.getD 107 undef = x107 at hlit
  generalize tm.getD 108 undef = x108 at hlit
  generalize tm.getD 109 undef = x109 at hlit
  generalize tm.getD 110 undef = x110 at hlit
  generalize tm.getD 111 undef = x111 at hlit
  generalize tm.getD 112 undef = x112 at hlit
  generalize tm.getD 113 undef = x113 at hlit
  generalize tm.getD 114 undef = x114 at hlit
  generalize tm.getD 115 undef = x115 at hlit
  generalize tm.getD 116 undef = x116 at hlit
  generalize tm.getD 117 undef = x117 at hlit
  generalize tm.getD 118 undef = x118 at hlit
  generalize tm.getD 119 undef = x119 at hlit
  generalize tm.getD 120 undef = x120 at hlit
  generalize tm.getD 121 undef = x121 at hlit
  generalize tm.getD 122 undef = x122 at hlit
  generalize tm.getD 123 undef = x123 at hlit
  generalize tm.getD 124 undef = x124 at hlit
  generalize tm.getD 125 undef = x125 at hlit
  generalize tm.getD 126 undef = x126 at hlit
  subst hlit
  subst hdef
  try simp only []
  have hR' : Below w9.heap.size w9 w10 := (Below.refl _ _).drew.trans hR
  have hd10 := hd9.below hR'
  have g5' := (hR'.block _ (Array.getElem?_eq_some_iff.1 g5).1).trans g5
  have g13' := (hR'.block _ (Array.getElem?_eq_some_iff.1 g13).1).trans g13
  have b10 := b9.trans (hR'.mono b9.size)
  have hse10 := hse9.below hR'
  have hl5 : w.heap.size < w10.heap.size := (Array.getElem?_eq_some_iff.1 g5').1
  have hl13 : b13 < w10.heap.size := (Array.getElem?_eq_some_iff.1 g13').1
  clear g5 g13 g8' hd9 hse9 hsl9 b9 hR hR' CELL SAME
  obtain ⟨p0, p1⟩ := b2cells g5'
  obtain ⟨z0, z1, z2, z3⟩ := b4cells g13'
  have NEXTW : ∀ W, Below w10.heap.size w10 W → Calls Tryz.prog 17 #[.agg #[.int .i64 5, .int .u64 1, .slice A10 j j, .int .i64 (Zj : Int)]] W fun e w' => e = .returned (.int .u64 ((1 + j : Nat) : Int)) ∧ Hid (Below w10.heap.size w10 w' ∧ Below W.heap.size W w') ∧ (w'.cell? ⟨w.heap.size, 0, none⟩ = some (.int .u8 (K : Int)) ∧ w'.cell? ⟨w.heap.size, 1, none⟩ = some (.int .u8 (Tt : Int))) ∧ (w'.cell? ⟨b13, 0, none⟩ = some (.int .i64 5) ∧ w'.cell? ⟨b13, 1, none⟩ = some (.int .u64 1) ∧ w'.cell? ⟨b13, 2, none⟩ = some (.slice A10 j j) ∧ w'.cell? ⟨b13, 3, none⟩ = some (.int .i64 (Zj : Int))) ∧ w.heap.size < w'.heap.size ∧ b13 < w'.heap.size ∧ ¬ w.heap.size = w'.heap.size ∧ ¬ b13 = w'.heap.size ∧ ¬ w'.heap.size = w.heap.size ∧ ¬ w'.heap.size = b13 := fun W hW => by
    refine (next_any 5 1 A10 j j Zj W (by omega)).mono ?_
    rintro e w' ⟨rfl, hb⟩
    have hB := hW.trans (hb.mono hW.size)
    exact ⟨rfl, Lib.hid ⟨hB, hb⟩, b2cells ((hB.block _ hl5).trans g5'), b4cells ((hB.block _ hl13).trans g13'), by have := hB.size; omega, by have := hB.size; omega, by have := hB.size; omega, by have := hB.size; omega, by have := hB.size; omega, by have := hB.size; omega⟩
  have EVW : ∀ W, Below w10.heap.size w10 W → Calls Tryz.prog 15 #[.agg #[.int .u8 (K : Int), .int .u8 (Tt : Int)], .int .i64 5, .int .u64 ((1 + j : Nat) : Int), .int .u64 999] W fun e w' => ∃ A6 n6 c6, e = .returned ((putE K Tt ((5 : Nat) : Int) (1 + j) 999).val A6 n6 c6) ∧ Hid (Sees w' A6 n6 (putE K Tt ((5 : Nat) : Int) (1 + j) 999).text ∧ Fresh w10.heap.size A6 n6 ∧ Below w10.heap.size w10 w') ∧ Hid (Below W.heap.size W w') ∧ (w'.cell? ⟨w.heap.size, 0, none⟩ = some (.int .u8 (K : Int)) ∧ w'.cell? ⟨w.heap.size, 1, none⟩ = some (.int .u8 (Tt : Int))) ∧ (w'.cell? ⟨b13, 0, none⟩ = some (.int .i64 5) ∧ w'.cell? ⟨b13, 1, none⟩ = some (.int .u64 1) ∧ w'.cell? ⟨b13, 2, none⟩ = some (.slice A10 j j) ∧ w'.cell? ⟨b13, 3, none⟩ = some (.int .i64 (Zj : Int))) ∧ w.heap.size < w'.heap.size ∧ b13 < w'.heap.size ∧ ¬ w.heap.size = w'.heap.size ∧ ¬ b13 = w'.heap.size ∧ ¬ w'.heap.size = w.heap.size ∧ ¬ w'.heap.size = b13 := fun W hW => by
    refine (event_any K Tt ((5 : Nat) : Int) (1 + j) 999 W hK hTt).mono ?_
    rintro e w' ⟨A7, n7, c7, rfl, hs7, h71, h72, hf7, hb7⟩
    have hB := hW.trans (hb7.mono hW.size)
    exact ⟨A7, n7, c7, rfl, Lib.hid ⟨hs7, fun h0 a ha => Nat.le_trans hW.size (hf7 h0 a ha), hB⟩, Lib.hid hb7, b2cells ((hB.block _ hl5).trans g5'), b4cells ((hB.block _ hl13).trans g13'), by have := hB.size; omega, by have := hB.size; omega, by have := hB.size; omega, by have := hB.size; omega, by have := hB.size; omega, by have := hB.size; omega⟩
  have hwr := ev_short (K := K) (T := Tt) (x := 5) (seq := 1 + j) (time := 999) (by omega) (by omega) (by omega) (by omega) (by omega)
  have hrt := putE_right (K := K) (T := Tt) (x := 5) (seq := 1 + j) (time := 999) (by omega) (by omega) (by omega) (by omega) (by omega)
  obtain ⟨E1, hE1⟩ : ∃ E1, E1 = putE K Tt ((5 : Nat) : Int) (1 + j) 999 := ⟨_, rfl⟩
  obtain ⟨Zk, hZk⟩ : ∃ Zk, Zk = Zj + (wrap (evL E1)).length := ⟨_, rfl⟩
  have ADDW : ∀ (B : List Nat) (A6 : Option Addr) (n6 c6 : Nat) (w7 W : World), Hid (Sees w7 A6 n6 (putE K Tt ((5 : Nat) : Int) (1 + j) 999).text ∧ Fresh w10.heap.size A6 n6 ∧ Below w10.heap.size w10 w7) → Below w7.heap.size w7 W → (∀ k ∈ B, w10.heap.size ≤ k ∧ k < W.heap.size) →
      Calls Tryz.prog 19 #[.agg #[.int .i64 5, .int .u64 1, .slice A10 j j, .int .i64 (Zj : Int)], .pointer (some ⟨d, 0, none⟩), (putE K Tt ((5 : Nat) : Int) (1 + j) 999).val A6 n6 c6] W fun e w8 => ∃ A8 S9, e = .returned (.tuple #[.agg #[.int .i64 5, .int .u64 1, .slice A8 (j + 1) (j + 1), .int .i64 (Zk : Int)], .int .i64 0]) ∧
        Hid (AddSt w w8 d S9 [⟨nameL ((5 : Nat) : Int) 1, headL 115 5 1 ++ wraps ((L.take j ++ [E1]).map evL), N2⟩] ⟨65536, acts2 + 1, -1, 0, false⟩ b13 A10 j Zj A8 (L.take j ++ [E1])) ∧ Hid (Beside S8 W w8 ∧ (∀ k ∈ S9, k ∈ S8 ∨ W.heap.size ≤ k) ∧ SeesEv (S9 ++ B) w8 A8 (j + 1) (L.take j ++ [E1])) ∧ ((w8.cell? ⟨w.heap.size, 0, none⟩ = some (.int .u8 (K : Int)) ∧ w8.cell? ⟨w.heap.size, 1, none⟩ = some (.int .u8 (Tt : Int))) ∧ (w8.cell? ⟨b13, 0, none⟩ = some (.int .i64 5) ∧ w8.cell? ⟨b13, 1, none⟩ = some (.int .u64 1) ∧ w8.cell? ⟨b13, 2, none⟩ = some (.slice A10 j j) ∧ w8.cell? ⟨b13, 3, none⟩ = some (.int .i64 (Zj : Int)))) := by
    intro B A6 n6 c6 w7 W h67 hW hBB
    obtain ⟨hs6, hf6, hb7⟩ := h67.out
    have hbW := hb7.trans (hW.mono hb7.size)
    have hTT : TabsOn S8 W := TabsOn.of T ST (b10.trans (hbW.mono b10.size)) fun k hk => by have := hS8w k hk; omega
    have hcall := addSL B d S8 5 1 A10 j j Zj N2 acts2 (L.take j) (headL 115 5 1 ++ wraps ((L.take j).map evL)) K Tt 999 A6 n6 c6 W hTT (hd10.below hbW) (hse10.next (Beside.of_below hbW S8) fun k hk => (List.mem_append.1 hk).imp id fun h => (hBB k h).1) (fun k hk => (hBB k hk).2) (hs6.below hW) (hf6.out fun k hk => hd10.lt k hk) (by omega) (by omega) (by omega) (by omega) (by omega) (by omega) (by omega) (by omega) (by rw [List.length_append]; have := HZj.out; have := HW.out; have := HX.out; have hwt := runs_wraps hrunsj; omega)
    unfold segV at hcall
    rw [c5, c1] at hcall
    refine hcall.mono ?_
    rintro e w8 ⟨A8, S9, rfl, hd8, hb8, hs8, hse8⟩
    have hwc : wraps ((L.take j ++ [E1]).map evL) = wraps ((L.take j).map evL) ++ wrap (evL E1) := by rw [List.map_append, wraps_append]; simp [wraps]
    have hsz := hbW.size
    refine ⟨A8, S9, by rw [hZk, hE1]; rfl, Lib.hid ⟨?_, ?_, Below.beside (b10.trans (hbW.mono b10.size)) hb8 (Nat.le_trans b10.size hsz) (fun k hk => by have := hS8w k hk; omega), ?_, ?_, ?_⟩, Lib.hid ⟨hb8, hs8, by rw [hE1]; exact hse8⟩, b2cells ((hb8.block w.heap.size (by omega) n58).trans ((hbW.block w.heap.size hl5).trans g5')), b4cells ((hb8.block b13 (by omega) n138).trans ((hbW.block b13 hl13).trans g13'))⟩
    · rw [hwc, ← List.append_assoc, hE1]; exact hd8
    · rw [hE1]; exact hse8.next (Beside.refl _ _) fun k hk => .inl (by simp [hk])
    · intro k hk
      rcases hs8 k hk with h | h
      · have := hS8w k h; omega
      · omega
    · intro hm
      rcases hs8 _ hm with h | h
      · exact n138 h
      · omega
    · exact (hb8.block b13 (by omega) n138).trans ((hbW.block b13 hl13).trans g13')
  have hS8lt : ∀ k ∈ S8, k < w10.heap.size := hd10.lt
  have HE1 := Lib.hid hE1
  have HZk := Lib.hid hZk
  clear hE1 hZk hse10 hd10 hwr hrt g5' b10
  have hZROW : ∀ (W W' : World) (b15 : Nat), W.heap[b15]? = some (.cells #[.int .i64 0, .int .u64 0, .slice none 0 0, .int .i64 0] 29 (0, 0)) → Beside S8 W W' → b15 ∉ S8 →
      W'.heap[b15]? = some (.cells #[.int .i64 0, .int .u64 0, .slice none 0 0, .int .i64 0] 29 (0, 0)) ∧ (W'.cell? ⟨b15, 0, none⟩ = some (.int .i64 0) ∧ W'.cell? ⟨b15, 1, none⟩ = some (.int .u64 0) ∧ W'.cell? ⟨b15, 2, none⟩ = some (.slice none 0 0) ∧ W'.cell? ⟨b15, 3, none⟩ = some (.int .i64 0)) ∧ W'.frozen? ⟨b15, 0, none⟩ = false ∧ W'.frozen? ⟨b15, 1, none⟩ = false ∧ W'.frozen? ⟨b15, 2, none⟩ = false ∧ W'.frozen? ⟨b15, 3, none⟩ = false ∧ b15 < W'.heap.size := by
    intro W W' b15 hz hb hn
    have h := (hb.block b15 (Array.getElem?_eq_some_iff.1 hz).1 hn).trans hz
    exact ⟨h, b4cells h, frozen_row0 h, frozen_row0 h, frozen_row0 h, frozen_row0 h, (Array.getElem?_eq_some_iff.1 h).1⟩
  have hS8l : ∀ k ∈ S8, k < w10.heap.size := hS8lt
  have ADDB : ∀ (b15 : Nat) (A6 : Option Addr) (n6 c6 : Nat) (w7 W : World), Hid (Sees w7 A6 n6 (putE K Tt ((5 : Nat) : Int) (1 + j) 999).text ∧ Fresh w10.heap.size A6 n6 ∧ Below w10.heap.size w10 w7) → Below w7.heap.size w7 W → W.heap[b15]? = some (.cells #[.int .i64 0, .int .u64 0, .slice none 0 0, .int .i64 0] 29 (0, 0)) → w10.heap.size ≤ b15 →
      Calls Tryz.prog 19 #[.agg #[.int .i64 5, .int .u64 1, .slice A10 j j, .int .i64 (Zj : Int)], .pointer (some ⟨d, 0, none⟩), (putE K Tt ((5 : Nat) : Int) (1 + j) 999).val A6 n6 c6] W fun e w8 => ∃ A8 S9, e = .returned (.tuple #[.agg #[.int .i64 5, .int .u64 1, .slice A8 (j + 1) (j + 1), .int .i64 (Zk : Int)], .int .i64 0]) ∧
        Hid (AddSt w w8 d S9 [⟨nameL ((5 : Nat) : Int) 1, headL 115 5 1 ++ wraps ((L.take j ++ [E1]).map evL), N2⟩] ⟨65536, acts2 + 1, -1, 0, false⟩ b13 A10 j Zj A8 (L.take j ++ [E1]) ∧ (∀ k ∈ S9, k ∈ S8 ∨ W.heap.size ≤ k) ∧ SeesEv (S9 ++ [b15]) w8 A8 (j + 1) (L.take j ++ [E1])) ∧ Hid (w8.heap[b15]? = some (.cells #[.int .i64 0, .int .u64 0, .slice none 0 0, .int .i64 0] 29 (0, 0)) ∧ b15 < W.heap.size ∧ w10.heap.size ≤ b15) ∧
        (w8.cell? ⟨b15, 0, none⟩ = some (.int .i64 0) ∧ w8.cell? ⟨b15, 1, none⟩ = some (.int .u64 0) ∧ w8.cell? ⟨b15, 2, none⟩ = some (.slice none 0 0) ∧ w8.cell? ⟨b15, 3, none⟩ = some (.int .i64 0)) ∧ w8.frozen? ⟨b15, 0, none⟩ = false ∧ w8.frozen? ⟨b15, 1, none⟩ = false ∧ w8.frozen? ⟨b15, 2, none⟩ = false ∧ w8.frozen? ⟨b15, 3, none⟩ = false ∧ b15 < w8.heap.size ∧ ((w8.cell? ⟨w.heap.size, 0, none⟩ = some (.int .u8 (K : Int)) ∧ w8.cell? ⟨w.heap.size, 1, none⟩ = some (.int .u8 (Tt : Int))) ∧ (w8.cell? ⟨b13, 0, none⟩ = some (.int .i64 5) ∧ w8.cell? ⟨b13, 1, none⟩ = some (.int .u64 1) ∧ w8.cell? ⟨b13, 2, none⟩ = some (.slice A10 j j) ∧ w8.cell? ⟨b13, 3, none⟩ = some (.int .i64 (Zj : Int)))) := by
    intro b15 A6 n6 c6 w7 W h67 hW hz hb15
    have hn15 : b15 ∉ S8 := fun hm => by have := hS8l _ hm; omega
    refine (ADDW [b15] A6 n6 c6 w7 W h67 hW (fun k hk => by simp at hk; subst hk; exact ⟨hb15, (Array.getElem?_eq_some_iff.1 hz).1⟩)).mono ?_
    rintro e w8 ⟨A8, S9, rfl, HA, HB, HC⟩
    obtain ⟨z0, z1, z2, z3, z4, z5, z6⟩ := hZROW W w8 b15 hz HB.out.1 hn15
    exact ⟨A8, S9, rfl, Lib.hid ⟨HA.out, HB.out.2.1, HB.out.2.2⟩, Lib.hid ⟨z0, (Array.getElem?_eq_some_iff.1 hz).1, hb15⟩, z1, z2, z3, z4, z5, z6, HC⟩
  have m5 : ¬ w.heap.size = w10.heap.size := by omega
  have m13 : ¬ b13 = w10.heap.size := by omega
  have k5 : ¬ w10.heap.size = w.heap.size := by omega
  have k13 : ¬ w10.heap.size = b13 := by omega
  go_upto_region 14 with fail
  refine wp_then (K := fun a W => ∃ (b15 : Nat) (A8 : Option Addr) (S9 : List Nat) (y88 y89 y90 y91 y92 y93 y94 y95 y96 y97 : Value), a = { tmps := #[x0, x1, x2, x3, x4, Value.pointer (some ⟨w.heap.size, 0, none⟩), x6, Value.pointer (some ⟨d, 0, none⟩), x8, x9, Value.string ⟨(nameL ((5 : Nat) : Int) 1).toArray⟩, x11, x12, Value.pointer (some ⟨b13, 0, none⟩), x14, Value.pointer (some ⟨b15, 0, none⟩), Value.int .i64 0, x17, x18, x19, x20, x21, x22, x23, x24, x25, x26, x27, x28, x29, x30, x31, x32, x33, x34, x35, x36, x37, x38, x39, x40, x41, x42, x43, x44, x45, x46, x47, x48, x49, x50, x51, x52, x53, x54, x55, x56, x57, x58, x59, x60, x61, x62, x63, x64, x65, x66, x67, x68, x69, x70, x71, x72, x73, x74, x75, x76, x77, x78, x79, x80, x81, x82, x83, x84, x85, x86, Value.bool false, y88, y89, y90, y91, y92, y93, y94, y95, y96, y97, x98, x99, x100, x101, x102, x103, x104, x105, x106, x107, x108, x109, x110, x111, x112, x113, x114, x115, x116, x117, x118, x119, x120, x121, x122, x123, x124, x125, x126], defers := [] } ∧ Hid (AddSt w W d S9 [⟨nameL ((5 : Nat) : Int) 1, headL 115 5 1 ++ wraps ((L.take j ++ [E1]).map evL), N2⟩] ⟨65536, acts2 + 1, -1, 0, false⟩ b13 A10 j Zj A8 (L.take j ++ [E1]) ∧ b15 ∉ S9 ∧ W.heap[b15]? = some (.cells #[.int .i64 5, .int .u64 1, .slice A8 (j + 1) (j + 1), .int .i64 (Zk : Int)] 29 (0, 0)))) ?after ?region
  case region =>
    go_region_held3 (fun w' => (w'.cell? ⟨w.heap.size, 0, none⟩ = some (.int .u8 (K : Int)) ∧ w'.cell? ⟨w.heap.size, 1, none⟩ = some (.int .u8 (Tt : Int))) ∧ (w'.cell? ⟨b13, 0, none⟩ = some (.int .i64 5) ∧ w'.cell? ⟨b13, 1, none⟩ = some (.int .u64 1) ∧ w'.cell? ⟨b13, 2, none⟩ = some (.slice A10 j j) ∧ w'.cell? ⟨b13, 3, none⟩ = some (.int .i64 (Zj : Int)))) (go_keep)
     (first
      | (go_at_call 17
         refine (NEXTW _ ?h0).mono ?_
         case h0 => first | exact Below.refl _ _ | exact (Below.refl _ _).drew | exact (Below.refl _ _).alloc (Nat.le_refl _) _ | exact (Below.refl _ _).drew.alloc (Nat.le_refl _) _
         rintro e w6 ⟨rfl, HN6, ⟨p0, p1⟩, ⟨z0, z1, z2, z3⟩, l5, l13, m5, m13, k5, k13⟩)
      | (go_at_call 15
         refine (EVW _ ?h1).mono ?_
         case h1 => first | exact HN6.out.1 | exact HN6.out.1.alloc HN6.out.1.size _
         rintro e w7 ⟨A6, n6, c6, rfl, HE6, HB7, ⟨p0, p1⟩, ⟨z0, z1, z2, z3⟩, l5, l13, m5, m13, k5, k13⟩)
      | (go_at_call 19
         first
           | refine (ADDB w7.heap.size _ _ _ _ _ HE6 ?h2 (heap_alloc_new _ _) HE6.out.2.2.size).mono ?_
           | refine (ADDB w6.heap.size _ _ _ _ _ HE6 ?h2 ((HB7.out.block _ (by simp)).trans (heap_alloc_new _ _)) HN6.out.1.size).mono ?_
           | refine (ADDB w10.heap.size _ _ _ _ _ HE6 ?h2 ((HB7.out.block _ (Nat.lt_of_lt_of_le (by simp) HN6.out.2.size)).trans ((HN6.out.2.block _ (by simp)).trans (heap_alloc_new _ _))) (Nat.le_refl _)).mono ?_
         case h2 => first | exact Below.refl _ _ | exact (Below.refl _ _).alloc (Nat.le_refl _) _
         rintro e w8 ⟨A8, S9, rfl, HFN, HBX, ⟨u0, u1, u2, u3⟩, f0, f1, f2, f3, hz8, ⟨p0, p1⟩, ⟨z0, z1, z2, z3⟩⟩)
      | (go_at_call 19
         refine (ADDW [] _ _ _ _ _ HE6 ?h2 (fun k hk => by cases hk)).mono ?_
         case h2 => exact Below.refl _ _
         rintro e w8 ⟨A8, S9, rfl, HFN, HBS, ⟨p0, p1⟩, ⟨z0, z1, z2, z3⟩⟩))
    · exact ⟨_, A8, S9, _, _, _, _, _, _, _, _, _, _, rfl, Lib.hid ⟨HFN.out.below ((Below.refl _ _).alloc (Nat.le_refl _) _), fun hm => by have := HFN.out.disk.lt _ hm; omega, heap_alloc_new _ _⟩⟩
    all_goals
      obtain ⟨hA1, hA2, hA3⟩ := HFN.out
      obtain ⟨hz1, hz2, hz3⟩ := HBX.out
      have hnk : ∀ b, w10.heap.size ≤ b → b < _ → b ∉ S9 := fun b h1 h2 hm => (hA2 _ hm).elim (fun h => by have := hS8l _ h; omega) (fun h => Nat.lt_irrefl _ (Nat.lt_of_lt_of_le h2 h))
      have hn15 := hnk _ hz3 hz2
      have hq := hA1.box15 hA3 hn15 (by omega) (by omega) hz1 (.int .i64 5) (.int .u64 1) (.slice A8 (j + 1) (j + 1)) (.int .i64 (Zk : Int))
      exact ⟨_, A8, S9, _, _, _, _, _, _, _, _, _, _, rfl, Lib.hid ⟨hq.1, hn15, hq.2⟩⟩
  case after =>
    rintro a W ⟨b15, A8, S9, y88, y89, y90, y91, y92, y93, y94, y95, y96, y97, rfl, HW⟩
    simp only []
    obtain ⟨hA, hn15, g15⟩ := HW.out
    have hLL : (L.take j ++ [E1]).length = j + 1 := by rw [List.length_append, hLTl]; rfl
    have hrt := putE_right (K := K) (T := Tt) (x := 5) (seq := 1 + j) (time := 999) (by omega) (by omega) (by omega) (by omega) (by omega)
    have hruns2 : Runs ((5 : Nat) : Int) 1 (L.take j ++ [E1]) := runs_snoc hrunsj (by rw [HE1.out, hLTl]; exact ⟨rfl, rfl, hrt, by simp [putE], putE_plain, putE_text⟩)
    have hop2 := openL d S9 5 1 N2 (acts2 + 1) (L.take j ++ [E1]) W (TabsOn.of T ST hA.bel hA.sub) hA.disk (by omega) (by omega) hruns2 (by omega) (by omega)
    rw [hLL] at hop2
    generalize (headL 115 5 1).length + (wraps ((L.take j ++ [E1]).map evL)).length = Zf at hop2
    generalize L.take j ++ [E1] = L2 at hA hop2 hruns2
    clear NEXTW EVW ADDW ADDB hZROW p0 p1 z0 z1 z2 z3 HW hLL
    go_wp2_with fail
    refine hop2.mono ?_
    rintro e w12 ⟨A12, S12, rfl, hd12, hb12, hs12, hse12⟩
    have g15' := (hb12.block _ (Array.getElem?_eq_some_iff.1 g15).1 hn15).trans g15
    have g13 := (hb12.block _ (Array.getElem?_eq_some_iff.1 hA.box).1 hA.nb).trans hA.box
    have hsv := hA.sees.next hb12 hs12
    have b12 := Below.beside hA.bel hb12 hA.bel.size hA.sub
    have hbox := (Below.refl w12.heap.size w12).alloc (Nat.le_refl _) (.cells #[.int .i64 5, .int .u64 1, .slice A12 (j + 1) (j + 1), .int .i64 (Zf : Int)] 29)
    have g17 := heap_alloc_new w12 (.cells #[.int .i64 5, .int .u64 1, .slice A12 (j + 1) (j + 1), .int .i64 (Zf : Int)] 29)
    have g15 := (hbox.block _ (Array.getElem?_eq_some_iff.1 g15').1).trans g15'
    have g13' := (hbox.block _ (Array.getElem?_eq_some_iff.1 g13).1).trans g13
    have hse13 := hse12.below hbox
    have hsv13 := hsv.below hbox
    have b13' := b12.trans (hbox.mono b12.size)
    clear g15' g13 hsv hse12 b12 hd12 hb12 hs12 hop2 hA
    unfold segV
    simp only [c5, c1]
    go_upto_region 16 with fail
    generalize w12.alloc (.cells #[.int .i64 5, .int .u64 1, .slice A12 (j + 1) (j + 1), .int .i64 (Zf : Int)] 29) = w13 at g17 g15 g13' hse13 hsv13 b13' ⊢
    generalize w12.heap.size = b17 at g17 ⊢
    clear hbox
    obtain ⟨q0, q1, q2, q3⟩ := b4cells g15
    obtain ⟨r0, r1, r2, r3⟩ := b4cells g17
    have hsame := sameAll_any S12 S12 A8 A12 (j + 1) (j + 1) (j + 1) L2 w13 hsv13 hse13 (runs_mem hruns2) (by omega)
    go_wp2_with fail
    refine hsame.mono ?_
    rintro e w14 ⟨rfl, hb14⟩
    have k17 := (hb14.block _ (Array.getElem?_eq_some_iff.1 g17).1).trans g17
    have k13 := (hb14.block _ (Array.getElem?_eq_some_iff.1 g13').1).trans g13'
    have b14 := b13'.trans (hb14.mono b13'.size)
    clear q0 q1 q2 q3 r0 r1 r2 r3 hsame g15 g17 g13' hse13 hsv13
    obtain ⟨r0, r1, r2, r3⟩ := b4cells k17
    obtain ⟨t0, t1, t2, t3⟩ := b4cells k13
    have hwj : IntKind.i64.wrap ((j : Int) + 1) = ((j + 1 : Nat) : Int) := by rw [IntWalk.i64_in _ (by omega)]; omega
    go_wp2
    go_ret
    exact ⟨by first | rfl | simp, b14⟩
theorem mends_law (ct : Nat) (A : Option Addr) (n c : Nat) (l : List (Nat × Nat)) (K Tt : Nat) (w : World) (T : Chk.Tabs w) (ST : STabs w) (hP : SeesP w A n l) (hct : ct < 65536) (hK : K < 256) (hTt : Tt < 256) :
    Calls Tryz.prog 4 #[.slice A n c, .int .u16 (ct : Int), putV K Tt] w fun e w' => e = .returned (.bool true) ∧ Below w.heap.size w w' := by
  by_cases h : 20 < n
  · exact mends_long8 ct A n c K Tt w ST h
  · exact mends_short ct A n c l K Tt w T ST hP (by omega) hct hK hTt
end Go.Proofs.YtfdnlgigllflfaaGreatDoor.Seg
