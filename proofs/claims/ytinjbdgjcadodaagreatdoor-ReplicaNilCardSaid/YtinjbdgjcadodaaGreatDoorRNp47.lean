/- Texts of the law ReplicaNil, put together. -/
import Derived.Lib.SmallJoins
import Derived.ShutString
import Derived.WalkLawsBesides
import Derived.Laws.Cover2
import Derived.SizedLaws
import Derived.ChangeSlices
import Derived.Test.YtinjbdgjcadodaaGreatDoorRNp46
set_option linter.unusedVariables false
set_option linter.unusedSimpArgs false
set_option maxRecDepth 100000
namespace Go.Proofs.YtinjbdgjcadodaaGreatDoor.Rp
open Go Go.RowKit Words Enc Go.Proofs.YtinjbdgjcadodaaGreatDoor.Made Dsk Seg Evt St
theorem ret_law18 (tm : Array Value) (w W : World) (h10 : tm[10]? = some (.bool true)) (h : Below w.heap.size w W) : bodyPost Tryz.prog Tryz.f4 (fun e w' => e = .returned (.bool true) ∧ Below w.heap.size w w') Exit.ret ⟨tm, []⟩ W := by
 refine bodyPost_ret (v := .bool true) ?_ rfl ⟨rfl, h⟩
 simp [results, Tryz.results4, go_sem, h10]
set_option maxHeartbeats 4000000 in
theorem nil_far1 (q me ke pn pc : Nat) (to : Int) (key : ByteArray) (ev : Ev) (Be Pa : Option Addr) (w : World) (T : Chk.Tabs w) (ST : STabs w)  (h1 : ¬ key.size ≤ 100) :
  Calls Tryz.prog 4 #[.int .u64 (q : Int), .int .i64 to, .string key, .agg #[.int .i64 ev.writer, .int .u64 (ev.seq : Int), .int .u64 (ev.time : Int), .int .u8 (ev.kind : Int), .string ev.key, .slice Be me ke, .float .f64 ev.num, .int .i64 ev.node], .slice Pa pn pc] w fun e w' => e = .returned (.bool true) ∧ Below w.heap.size w w' := by
 have hsf := store_float Tryz.prog
 obtain ⟨u, hu⟩ : ∃ u, u = w.alloc (.cells #[.int .i64 ev.writer, .int .u64 (ev.seq : Int), .int .u64 (ev.time : Int), .int .u8 (ev.kind : Int), .string ev.key, .slice Be me ke, .float .f64 ev.num, .int .i64 ev.node] 38) := ⟨_, rfl⟩
 have hbu : Below w.heap.size w u := by rw [hu]; exact (Below.refl _ _).alloc (Nat.le_refl _) _
 have G := Lib.hid (show u.heap[w.heap.size]? = some (.cells #[.int .i64 ev.writer, .int .u64 (ev.seq : Int), .int .u64 (ev.time : Int), .int .u8 (ev.kind : Int), .string ev.key, .slice Be me ke, .float .f64 ev.num, .int .i64 ev.node] 38 (0, 0)) by rw [hu]; exact heap_alloc_new w _)
 have HBU := Lib.hid hbu
 have AW := Lib.hid (fun W (hW : Below u.heap.size u W) => awake18 W ((T.below hbu).below hW) ((ST.below hbu).below hW))
 have HT := Lib.hid (And.intro T ST)
 have HU := Lib.hid hu
 clear hu hbu T ST
 have q1 : decide ((100 : Int) < (key.size : Int)) = true := decide_eq_true (by omega)
 clear h1
 go_enter Tryz.func4, Tryz.ntmps4
 go_wp2_with fail
 rw [← HU.out]
 refine (AW.out u (Below.refl _ _)).mono ?_
 rintro e w1 ⟨rfl, hb1⟩
 have G1 := (hb1.block _ (Array.getElem?_eq_some_iff.1 G.out).1).trans G.out
 obtain ⟨x0, x1, x2, x3, x4, x5, x6, x7⟩ := box8 G1
 have AW2 := Lib.hid (AW.out w1 hb1)
 have HBB := Lib.hid (HBU.out.trans (hb1.mono HBU.out.size))
 clear G1 hb1 AW HU G HT
 go_wp2_with fail
 refine AW2.out.mono ?_
 rintro e w2 ⟨rfl, hb2⟩
 have FIN := Lib.hid (HBB.out.trans (hb2.mono HBB.out.size))
 clear hb2
 go_wp2
 exact ret_law18 _ w _ rfl FIN.out
set_option maxHeartbeats 4000000 in
theorem nil_far2 (q me ke pn pc : Nat) (to : Int) (key : ByteArray) (ev : Ev) (Be Pa : Option Addr) (w : World) (T : Chk.Tabs w) (ST : STabs w) (h1 : key.size ≤ 100) (h2 : ¬ pn ≤ 200) :
  Calls Tryz.prog 4 #[.int .u64 (q : Int), .int .i64 to, .string key, .agg #[.int .i64 ev.writer, .int .u64 (ev.seq : Int), .int .u64 (ev.time : Int), .int .u8 (ev.kind : Int), .string ev.key, .slice Be me ke, .float .f64 ev.num, .int .i64 ev.node], .slice Pa pn pc] w fun e w' => e = .returned (.bool true) ∧ Below w.heap.size w w' := by
 have hsf := store_float Tryz.prog
 obtain ⟨u, hu⟩ : ∃ u, u = w.alloc (.cells #[.int .i64 ev.writer, .int .u64 (ev.seq : Int), .int .u64 (ev.time : Int), .int .u8 (ev.kind : Int), .string ev.key, .slice Be me ke, .float .f64 ev.num, .int .i64 ev.node] 38) := ⟨_, rfl⟩
 have hbu : Below w.heap.size w u := by rw [hu]; exact (Below.refl _ _).alloc (Nat.le_refl _) _
 have G := Lib.hid (show u.heap[w.heap.size]? = some (.cells #[.int .i64 ev.writer, .int .u64 (ev.seq : Int), .int .u64 (ev.time : Int), .int .u8 (ev.kind : Int), .string ev.key, .slice Be me ke, .float .f64 ev.num, .int .i64 ev.node] 38 (0, 0)) by rw [hu]; exact heap_alloc_new w _)
 have HBU := Lib.hid hbu
 have AW := Lib.hid (fun W (hW : Below u.heap.size u W) => awake18 W ((T.below hbu).below hW) ((ST.below hbu).below hW))
 have HT := Lib.hid (And.intro T ST)
 have HU := Lib.hid hu
 clear hu hbu T ST
 have q1 : decide ((100 : Int) < (key.size : Int)) = false := decide_eq_false (by omega)
 have q2 : decide ((200 : Int) < (pn : Int)) = true := decide_eq_true (by omega)
 clear h1 h2
 go_enter Tryz.func4, Tryz.ntmps4
 go_wp2_with fail
 rw [← HU.out]
 refine (AW.out u (Below.refl _ _)).mono ?_
 rintro e w1 ⟨rfl, hb1⟩
 have G1 := (hb1.block _ (Array.getElem?_eq_some_iff.1 G.out).1).trans G.out
 obtain ⟨x0, x1, x2, x3, x4, x5, x6, x7⟩ := box8 G1
 have AW2 := Lib.hid (AW.out w1 hb1)
 have HBB := Lib.hid (HBU.out.trans (hb1.mono HBU.out.size))
 clear G1 hb1 AW HU G HT
 go_wp2_with fail
 refine AW2.out.mono ?_
 rintro e w2 ⟨rfl, hb2⟩
 have FIN := Lib.hid (HBB.out.trans (hb2.mono HBB.out.size))
 clear hb2
 go_wp2
 exact ret_law18 _ w _ rfl FIN.out
set_option maxHeartbeats 4000000 in
theorem nil_far3 (q me ke pn pc : Nat) (to : Int) (key : ByteArray) (ev : Ev) (Be Pa : Option Addr) (w : World) (T : Chk.Tabs w) (ST : STabs w) (h1 : key.size ≤ 100) (h2 : pn ≤ 200) (h3 : ¬ ev.key.size ≤ 100) :
  Calls Tryz.prog 4 #[.int .u64 (q : Int), .int .i64 to, .string key, .agg #[.int .i64 ev.writer, .int .u64 (ev.seq : Int), .int .u64 (ev.time : Int), .int .u8 (ev.kind : Int), .string ev.key, .slice Be me ke, .float .f64 ev.num, .int .i64 ev.node], .slice Pa pn pc] w fun e w' => e = .returned (.bool true) ∧ Below w.heap.size w w' := by
 have hsf := store_float Tryz.prog
 obtain ⟨u, hu⟩ : ∃ u, u = w.alloc (.cells #[.int .i64 ev.writer, .int .u64 (ev.seq : Int), .int .u64 (ev.time : Int), .int .u8 (ev.kind : Int), .string ev.key, .slice Be me ke, .float .f64 ev.num, .int .i64 ev.node] 38) := ⟨_, rfl⟩
 have hbu : Below w.heap.size w u := by rw [hu]; exact (Below.refl _ _).alloc (Nat.le_refl _) _
 have G := Lib.hid (show u.heap[w.heap.size]? = some (.cells #[.int .i64 ev.writer, .int .u64 (ev.seq : Int), .int .u64 (ev.time : Int), .int .u8 (ev.kind : Int), .string ev.key, .slice Be me ke, .float .f64 ev.num, .int .i64 ev.node] 38 (0, 0)) by rw [hu]; exact heap_alloc_new w _)
 have HBU := Lib.hid hbu
 have AW := Lib.hid (fun W (hW : Below u.heap.size u W) => awake18 W ((T.below hbu).below hW) ((ST.below hbu).below hW))
 have HT := Lib.hid (And.intro T ST)
 have HU := Lib.hid hu
 clear hu hbu T ST
 have q1 : decide ((100 : Int) < (key.size : Int)) = false := decide_eq_false (by omega)
 have q2 : decide ((200 : Int) < (pn : Int)) = false := decide_eq_false (by omega)
 have q3 : decide ((100 : Int) < (ev.key.size : Int)) = true := decide_eq_true (by omega)
 clear h1 h2 h3
 go_enter Tryz.func4, Tryz.ntmps4
 go_wp2_with fail
 rw [← HU.out]
 refine (AW.out u (Below.refl _ _)).mono ?_
 rintro e w1 ⟨rfl, hb1⟩
 have G1 := (hb1.block _ (Array.getElem?_eq_some_iff.1 G.out).1).trans G.out
 obtain ⟨x0, x1, x2, x3, x4, x5, x6, x7⟩ := box8 G1
 have AW2 := Lib.hid (AW.out w1 hb1)
 have HBB := Lib.hid (HBU.out.trans (hb1.mono HBU.out.size))
 clear G1 hb1 AW HU G HT
 go_wp2_with fail
 refine AW2.out.mono ?_
 rintro e w2 ⟨rfl, hb2⟩
 have FIN := Lib.hid (HBB.out.trans (hb2.mono HBB.out.size))
 clear hb2
 go_wp2
 exact ret_law18 _ w _ rfl FIN.out
set_option maxHeartbeats 4000000 in
theorem nil_far4 (q me ke pn pc : Nat) (to : Int) (key : ByteArray) (ev : Ev) (Be Pa : Option Addr) (w : World) (T : Chk.Tabs w) (ST : STabs w) (h1 : key.size ≤ 100) (h2 : pn ≤ 200) (h3 : ev.key.size ≤ 100) (h4 : ¬ me ≤ 100) :
  Calls Tryz.prog 4 #[.int .u64 (q : Int), .int .i64 to, .string key, .agg #[.int .i64 ev.writer, .int .u64 (ev.seq : Int), .int .u64 (ev.time : Int), .int .u8 (ev.kind : Int), .string ev.key, .slice Be me ke, .float .f64 ev.num, .int .i64 ev.node], .slice Pa pn pc] w fun e w' => e = .returned (.bool true) ∧ Below w.heap.size w w' := by
 have hsf := store_float Tryz.prog
 obtain ⟨u, hu⟩ : ∃ u, u = w.alloc (.cells #[.int .i64 ev.writer, .int .u64 (ev.seq : Int), .int .u64 (ev.time : Int), .int .u8 (ev.kind : Int), .string ev.key, .slice Be me ke, .float .f64 ev.num, .int .i64 ev.node] 38) := ⟨_, rfl⟩
 have hbu : Below w.heap.size w u := by rw [hu]; exact (Below.refl _ _).alloc (Nat.le_refl _) _
 have G := Lib.hid (show u.heap[w.heap.size]? = some (.cells #[.int .i64 ev.writer, .int .u64 (ev.seq : Int), .int .u64 (ev.time : Int), .int .u8 (ev.kind : Int), .string ev.key, .slice Be me ke, .float .f64 ev.num, .int .i64 ev.node] 38 (0, 0)) by rw [hu]; exact heap_alloc_new w _)
 have HBU := Lib.hid hbu
 have AW := Lib.hid (fun W (hW : Below u.heap.size u W) => awake18 W ((T.below hbu).below hW) ((ST.below hbu).below hW))
 have HT := Lib.hid (And.intro T ST)
 have HU := Lib.hid hu
 clear hu hbu T ST
 have q1 : decide ((100 : Int) < (key.size : Int)) = false := decide_eq_false (by omega)
 have q2 : decide ((200 : Int) < (pn : Int)) = false := decide_eq_false (by omega)
 have q3 : decide ((100 : Int) < (ev.key.size : Int)) = false := decide_eq_false (by omega)
 have q4 : decide ((100 : Int) < (me : Int)) = true := decide_eq_true (by omega)
 clear h1 h2 h3 h4
 go_enter Tryz.func4, Tryz.ntmps4
 go_wp2_with fail
 rw [← HU.out]
 refine (AW.out u (Below.refl _ _)).mono ?_
 rintro e w1 ⟨rfl, hb1⟩
 have G1 := (hb1.block _ (Array.getElem?_eq_some_iff.1 G.out).1).trans G.out
 obtain ⟨x0, x1, x2, x3, x4, x5, x6, x7⟩ := box8 G1
 have AW2 := Lib.hid (AW.out w1 hb1)
 have HBB := Lib.hid (HBU.out.trans (hb1.mono HBU.out.size))
 clear G1 hb1 AW HU G HT
 go_wp2_with fail
 refine AW2.out.mono ?_
 rintro e w2 ⟨rfl, hb2⟩
 have FIN := Lib.hid (HBB.out.trans (hb2.mono HBB.out.size))
 clear hb2
 go_wp2
 exact ret_law18 _ w _ rfl FIN.out
set_option maxHeartbeats 8000000 in
theorem nil_main18 (q me ke pn pc : Nat) (to : Int) (key : ByteArray) (ev : Ev) (Be Pa : Option Addr) (w : World) (T : Chk.Tabs w) (ST : STabs w) (h1 : key.size ≤ 100) (h2 : pn ≤ 200) (h3 : ev.key.size ≤ 100) (h4 : me ≤ 100) :
  Calls Tryz.prog 4 #[.int .u64 (q : Int), .int .i64 to, .string key, .agg #[.int .i64 ev.writer, .int .u64 (ev.seq : Int), .int .u64 (ev.time : Int), .int .u8 (ev.kind : Int), .string ev.key, .slice Be me ke, .float .f64 ev.num, .int .i64 ev.node], .slice Pa pn pc] w fun e w' => e = .returned (.bool true) ∧ Below w.heap.size w w' := by
 have hsf := store_float Tryz.prog
 obtain ⟨u, hu⟩ : ∃ u, u = w.alloc (.cells #[.int .i64 ev.writer, .int .u64 (ev.seq : Int), .int .u64 (ev.time : Int), .int .u8 (ev.kind : Int), .string ev.key, .slice Be me ke, .float .f64 ev.num, .int .i64 ev.node] 38) := ⟨_, rfl⟩
 have hbu : Below w.heap.size w u := by rw [hu]; exact (Below.refl _ _).alloc (Nat.le_refl _) _
 have G := Lib.hid (show u.heap[w.heap.size]? = some (.cells #[.int .i64 ev.writer, .int .u64 (ev.seq : Int), .int .u64 (ev.time : Int), .int .u8 (ev.kind : Int), .string ev.key, .slice Be me ke, .float .f64 ev.num, .int .i64 ev.node] 38 (0, 0)) by rw [hu]; exact heap_alloc_new w _)
 have HBU := Lib.hid hbu
 have AW := Lib.hid (fun W (hW : Below u.heap.size u W) => awake18 W ((T.below hbu).below hW) ((ST.below hbu).below hW))
 have HT := Lib.hid (And.intro T ST)
 have HU := Lib.hid hu
 clear hu hbu T ST
 have q1 : decide ((100 : Int) < (key.size : Int)) = false := decide_eq_false (by omega)
 have q2 : decide ((200 : Int) < (pn : Int)) = false := decide_eq_false (by omega)
 have q3 : decide ((100 : Int) < (ev.key.size : Int)) = false := decide_eq_false (by omega)
 have q4 : decide ((100 : Int) < (me : Int)) = false := decide_eq_false (by omega)
 clear h1 h2 h3 h4
 go_enter Tryz.func4, Tryz.ntmps4
 go_wp2_with fail
 rw [← HU.out]
 refine (AW.out u (Below.refl _ _)).mono ?_
 rintro e w1 ⟨rfl, hb1⟩
 have G1 := (hb1.block _ (Array.getElem?_eq_some_iff.1 G.out).1).trans G.out
 obtain ⟨x0, x1, x2, x3, x4, x5, x6, x7⟩ := box8 G1
 have HB1 := Lib.hid (HBU.out.trans (hb1.mono HBU.out.size))
 have WR := Lib.hid (show Calls Tryz.prog 18 #[.pointer none, .agg #[.int .i64 ev.writer, .int .u64 (ev.seq : Int), .int .u64 (ev.time : Int), .int .u8 (ev.kind : Int), .string ev.key, .slice Be me ke, .float .f64 ev.num, .int .i64 ev.node]] w1 _ from writeR_nil ev Be me ke w1)
 clear G1 hb1 AW HU G HBU
 go_wp2_with fail
 refine WR.out.mono ?_
 rintro e w2 ⟨Y, rfl, ⟨hs, ho⟩, hb2⟩
 have HB2 := Lib.hid (HB1.out.trans (hb2.mono HB1.out.size))
 have HY := Lib.hid (And.intro hs ho)
 have Z2 := heap_alloc_new w2 (.cells zRowE 38)
 have hal2 := (Below.refl w2.heap.size w2).alloc (Nat.le_refl _) (.cells zRowE 38)
 clear hs ho hb2 WR HB1
 unfold zRowE at Z2 hal2
 have Z2 := Lib.hid Z2
 have HAL2 := Lib.hid hal2
 clear hal2 x0 x1 x2 x3 x4 x5 x6 x7
 go_wp2_with (first
  | (refine wpList_putRow rfl 38 (.tmp 12) (.tmp 53) rfl w2.heap.size 38 _ Y rfl rfl Z2.out (by rw [HY.out.1]; kernel_rfl) (by rw [HY.out.1]; rfl) HY.out.2 ?_))
 intro w3 hW3 hbe3
 have hb3 : Below w2.heap.size w2 w3 := Below.beside HAL2.out hbe3 HAL2.out.size (by simp)
 have HB3 := Lib.hid (HB2.out.trans (hb3.mono HB2.out.size))
 clear hW3 hbe3 hb3 Z2 HAL2 HY HB2
 have RD := Lib.hid (readR_nil key w3)
 go_wp2_with fail
 refine RD.out.mono ?_
 rintro e w4 ⟨rfl, hb4⟩
 have HB4 := Lib.hid (HB3.out.trans (hb4.mono HB3.out.size))
 have Z4 := heap_alloc_new w4 (.cells zCell 63)
 have hal4 := (Below.refl w4.heap.size w4).alloc (Nat.le_refl _) (.cells zCell 63)
 unfold zCell at Z4 hal4 ⊢
 have Z4 := Lib.hid Z4
 have HAL4 := Lib.hid hal4
 clear hal4 hb4 RD HB3
 go_wp2_with (first
  | (refine wpList_putRow rfl 63 (.tmp 14) (.tmp 59) rfl w4.heap.size 63 _ #[.int .u8 0, .slice none 0 0, .float .f64 0] rfl rfl Z4.out (by kernel_rfl) rfl (by simp [Value.oneCell']) ?_))
 intro w5 hW5 hbe5
 have hb5 : Below w4.heap.size w4 w5 := Below.beside HAL4.out hbe5 HAL4.out.size (by simp)
 have HB5 := Lib.hid (HB4.out.trans (hb5.mono HB4.out.size))
 clear hW5 hbe5 hb5 Z4 HAL4 HB4
 go_wp2_with fail
 refine (begin_nil to w5).mono ?_
 rintro e w6 ⟨rfl, rfl⟩
 go_wp2_with fail
 refine (hear_nil Pa pn pc w6).mono ?_
 rintro e w7 ⟨rfl, rfl⟩
 go_wp2_with fail
 refine (newC 65536 w7).mono ?_
 rintro e w8 ⟨d, S0, rfl, hd, hS0, hb8⟩
 have HD := Lib.hid hd
 have HS := Lib.hid hS0
 have HB8 := Lib.hid hb8
 clear hd hS0 hb8
 go_wp2_with fail
 refine (config_111 w8).mono ?_
 rintro e w9 ⟨rfl, hb9⟩
 have O1 := Lib.hid (openR_often d q S0 w7 w9 (HT.out.1.below HB5.out) (HT.out.2.below HB5.out) (HB8.out.trans (hb9.mono HB8.out.size)) HS.out (HD.out.below hb9))
 clear hb9 HD HS HB8
 go_wp2_with fail
 refine O1.out.mono ?_
 rintro e w10 ⟨v1, E1, rfl, hE1, hb10⟩
 have HE1 := Lib.hid hE1
 have HB10 := Lib.hid (HB5.out.trans (hb10.mono HB5.out.size))
 clear hE1 hb10 O1 HB5
 go_wp2_with fail
 refine (newC 65536 w10).mono ?_
 rintro e w11 ⟨d2, S2, rfl, hd, hS0, hb11⟩
 have HD := Lib.hid hd
 have HS := Lib.hid hS0
 have HB11 := Lib.hid hb11
 clear hd hS0 hb11
 go_wp2_with fail
 refine (config_111 w11).mono ?_
 rintro e w12 ⟨rfl, hb12⟩
 have O2 := Lib.hid (openR_whom d2 to S2 w10 w12 (HT.out.1.below HB10.out) (HT.out.2.below HB10.out) (HB11.out.trans (hb12.mono HB11.out.size)) HS.out (HD.out.below hb12))
 clear hb12 HD HS HB11
 go_wp2_with fail
 refine O2.out.mono ?_
 rintro e w13 ⟨v2, E2, rfl, hE2, hb13⟩
 have HE2 := Lib.hid hE2
 have FIN := Lib.hid (HB10.out.trans (hb13.mono HB10.out.size))
 clear hE2 hb13 O2 HB10 HT
 go_wp2_with fail
 refine (stable_nil _).mono ?_
 rintro e w14 ⟨rfl, rfl⟩
 go_wp2_with fail
 refine (trunc_nil _).mono ?_
 rintro e w15 ⟨rfl, rfl⟩
 go_wp2_with fail
 refine (store_nil _).mono ?_
 rintro e w16 ⟨rfl, rfl⟩
 go_wp2_with fail
 refine (matrix_nil _).mono ?_
 rintro e w17 ⟨rfl, rfl⟩
 go_wp2_with fail
 refine (view_nil _).mono ?_
 rintro e w18 ⟨rfl, rfl⟩
 go_wp2_with fail
 refine (vector_nil _).mono ?_
 rintro e w19 ⟨rfl, rfl⟩
 rcases HE1.out with ⟨rfl, g1, g2⟩ | ⟨rfl, g1⟩ | ⟨rfl, g1, g2⟩
 ·have r1 : decide ((0 : Int) < (q : Int)) = true := decide_eq_true (by omega)
  have r0 : decide (0 < q) = true := decide_eq_true (by omega)
  have r2 : decide ((q : Int) < (1073741824 : Int)) = true := decide_eq_true (by omega)
  clear g1 g2
  rcases HE2.out with ⟨rfl, k1, k2⟩ | ⟨rfl, k1⟩ | ⟨rfl, k1, k2⟩
  ·have s1 : decide ((0 : Int) ≤ to) = true := decide_eq_true (by omega)
   have s2 : decide (to < (64 : Int)) = true := decide_eq_true (by omega)
   clear k1 k2 HE1 HE2
   go_wp2
   exact ret_law18 _ w _ rfl FIN.out
  ·have s1 : decide ((0 : Int) ≤ to) = false := decide_eq_false (by omega)
   clear k1 HE1 HE2
   go_wp2
   exact ret_law18 _ w _ rfl FIN.out
  ·have s1 : decide ((0 : Int) ≤ to) = true := decide_eq_true (by omega)
   have s2 : decide (to < (64 : Int)) = false := decide_eq_false (by omega)
   clear k1 k2 HE1 HE2
   go_wp2
   exact ret_law18 _ w _ rfl FIN.out
 ·have r1 : decide ((0 : Int) < (q : Int)) = false := decide_eq_false (by omega)
  have r0 : decide (0 < q) = false := decide_eq_false (by omega)
  clear g1
  rcases HE2.out with ⟨rfl, k1, k2⟩ | ⟨rfl, k1⟩ | ⟨rfl, k1, k2⟩
  ·have s1 : decide ((0 : Int) ≤ to) = true := decide_eq_true (by omega)
   have s2 : decide (to < (64 : Int)) = true := decide_eq_true (by omega)
   clear k1 k2 HE1 HE2
   go_wp2
   exact ret_law18 _ w _ rfl FIN.out
  ·have s1 : decide ((0 : Int) ≤ to) = false := decide_eq_false (by omega)
   clear k1 HE1 HE2
   go_wp2
   exact ret_law18 _ w _ rfl FIN.out
  ·have s1 : decide ((0 : Int) ≤ to) = true := decide_eq_true (by omega)
   have s2 : decide (to < (64 : Int)) = false := decide_eq_false (by omega)
   clear k1 k2 HE1 HE2
   go_wp2
   exact ret_law18 _ w _ rfl FIN.out
 ·have r1 : decide ((0 : Int) < (q : Int)) = true := decide_eq_true (by omega)
  have r0 : decide (0 < q) = true := decide_eq_true (by omega)
  have r2 : decide ((q : Int) < (1073741824 : Int)) = false := decide_eq_false (by omega)
  clear g1 g2
  rcases HE2.out with ⟨rfl, k1, k2⟩ | ⟨rfl, k1⟩ | ⟨rfl, k1, k2⟩
  ·have s1 : decide ((0 : Int) ≤ to) = true := decide_eq_true (by omega)
   have s2 : decide (to < (64 : Int)) = true := decide_eq_true (by omega)
   clear k1 k2 HE1 HE2
   go_wp2
   exact ret_law18 _ w _ rfl FIN.out
  ·have s1 : decide ((0 : Int) ≤ to) = false := decide_eq_false (by omega)
   clear k1 HE1 HE2
   go_wp2
   exact ret_law18 _ w _ rfl FIN.out
  ·have s1 : decide ((0 : Int) ≤ to) = true := decide_eq_true (by omega)
   have s2 : decide (to < (64 : Int)) = false := decide_eq_false (by omega)
   clear k1 k2 HE1 HE2
   go_wp2
   exact ret_law18 _ w _ rfl FIN.out
theorem nil_law18 (q me ke pn pc : Nat) (to : Int) (key : ByteArray) (ev : Ev) (Be Pa : Option Addr) (w : World) (T : Chk.Tabs w) (ST : STabs w) : Calls Tryz.prog 4 #[.int .u64 (q : Int), .int .i64 to, .string key, .agg #[.int .i64 ev.writer, .int .u64 (ev.seq : Int), .int .u64 (ev.time : Int), .int .u8 (ev.kind : Int), .string ev.key, .slice Be me ke, .float .f64 ev.num, .int .i64 ev.node], .slice Pa pn pc] w fun e w' => e = .returned (.bool true) ∧ Below w.heap.size w w' := by
 by_cases h1 : key.size ≤ 100
 ·by_cases h2 : pn ≤ 200
  ·by_cases h3 : ev.key.size ≤ 100
   ·by_cases h4 : me ≤ 100
    ·exact nil_main18 q me ke pn pc to key ev Be Pa w T ST h1 h2 h3 h4
    ·exact nil_far4 q me ke pn pc to key ev Be Pa w T ST h1 h2 h3 h4
   ·exact nil_far3 q me ke pn pc to key ev Be Pa w T ST h1 h2 h3
  ·exact nil_far2 q me ke pn pc to key ev Be Pa w T ST h1 h2
 ·exact nil_far1 q me ke pn pc to key ev Be Pa w T ST h1
end Go.Proofs.YtinjbdgjcadodaaGreatDoor.Rp
namespace Go.Proofs.YtinjbdgjcadodaaGreatDoor.Aggs
open Go Go.ChangeShapes Go.WideShapes Go.ChangeAt Go.Joins Go.Deep Go.RowKit
section
variable {H : Type} {enc : TypeId × Value → H} {P : Program} {w : World} {base : Nat} {spare : Nat → Bool} {held : Bool}
theorem trod_float {t : TypeId} {k : FloatKind} {fuel : Nat} {cs : List Value} {x : DataW H × List MemPlace} (ht : P.underlying t = some (.float k)) (h : DataW.trod enc P w base spare held fuel t cs = some x) : ∃ b, cs = [.float k b] ∧ x = (.lit (.float k b), []) ∧ (Lit.float k b).wf = true := by
 cases fuel with
 | zero => simp [DataW.trod] at h
 | succ n =>
   unfold DataW.trod at h
   rw [ht] at h
   split at h <;> simp_all
theorem array8 {α : Type} {cs : Array α} (h : cs.size = 8) : ∃ c0 c1 c2 c3 c4 c5 c6 c7, cs = #[c0, c1, c2, c3, c4, c5, c6, c7] := by
 obtain ⟨l⟩ := cs
 match l, h with
 | [c0, c1, c2, c3, c4, c5, c6, c7], _ => exact ⟨c0, c1, c2, c3, c4, c5, c6, c7, rfl⟩
theorem list8 {α : Type} {l : List α} (h : l.length = 8) : ∃ c0 c1 c2 c3 c4 c5 c6 c7, l = [c0, c1, c2, c3, c4, c5, c6, c7] := by
 match l, h with
 | [c0, c1, c2, c3, c4, c5, c6, c7], _ => exact ⟨c0, c1, c2, c3, c4, c5, c6, c7, rfl⟩
theorem open_agg8 {r : Reach} {b0 : Nat} {t : TypeId} {f0 f1 f2 f3 f4 f5 f6 f7 : Field} {v : Value} {d : DataW H} {p : List MemPlace} (hs : P.underlying t = some (.struct #[f0, f1, f2, f3, f4, f5, f6, f7])) (hone : oneCellFields P #[f0, f1, f2, f3, f4, f5, f6, f7] = true) (hC : P.cellsOf t = 8)
  (hv : Value.okWide P w r b0 t v) (h : DataW.Trod enc P w base spare held t v d p) :
  ∃ (v0 v1 v2 v3 v4 v5 v6 v7 : Value) (y0 y1 y2 y3 y4 y5 y6 y7 : DataW H × List MemPlace) (n : Nat), v = .agg #[v0, v1, v2, v3, v4, v5, v6, v7] ∧ d = .agg [y0.1, y1.1, y2.1, y3.1, y4.1, y5.1, y6.1, y7.1] ∧ p = y0.2 ++ (y1.2 ++ (y2.2 ++ (y3.2 ++ (y4.2 ++ (y5.2 ++ (y6.2 ++ (y7.2))))))) ∧
    DataW.trod enc P w base spare held n f0.type [v0] = some y0 ∧ DataW.trod enc P w base spare held n f1.type [v1] = some y1 ∧ DataW.trod enc P w base spare held n f2.type [v2] = some y2 ∧ DataW.trod enc P w base spare held n f3.type [v3] = some y3 ∧ DataW.trod enc P w base spare held n f4.type [v4] = some y4 ∧ DataW.trod enc P w base spare held n f5.type [v5] = some y5 ∧ DataW.trod enc P w base spare held n f6.type [v6] = some y6 ∧ DataW.trod enc P w base spare held n f7.type [v7] = some y7 := by
 obtain ⟨cs, rfl, hsz⟩ := okWide_struct hs hv
 obtain ⟨c0, c1, c2, c3, c4, c5, c6, c7, rfl⟩ := array8 (hsz.trans hC)
 obtain ⟨fuel, hf⟩ := h
 obtain ⟨xs, n, _, hx, hl, hlen, hg⟩ := DataW.trod_struct hs hf
 obtain ⟨y0, y1, y2, y3, y4, y5, y6, y7, rfl⟩ := list8 (hlen.trans rfl)
 obtain ⟨o0, k0⟩ := hone_of hone 0 f0 rfl
 obtain ⟨o1, k1⟩ := hone_of hone 1 f1 rfl
 obtain ⟨o2, k2⟩ := hone_of hone 2 f2 rfl
 obtain ⟨o3, k3⟩ := hone_of hone 3 f3 rfl
 obtain ⟨o4, k4⟩ := hone_of hone 4 f4 rfl
 obtain ⟨o5, k5⟩ := hone_of hone 5 f5 rfl
 obtain ⟨o6, k6⟩ := hone_of hone 6 f6 rfl
 obtain ⟨o7, k7⟩ := hone_of hone 7 f7 rfl
 simp only [Prod.mk.injEq] at hx
 refine ⟨c0, c1, c2, c3, c4, c5, c6, c7, y0, y1, y2, y3, y4, y5, y6, y7, n, rfl, hx.1, by simpa using hx.2, ?_, ?_, ?_, ?_, ?_, ?_, ?_, ?_⟩
 ·simpa [Value.cells, o0, k0] using hg 0 f0 rfl
 ·simpa [Value.cells, o1, k1] using hg 1 f1 rfl
 ·simpa [Value.cells, o2, k2] using hg 2 f2 rfl
 ·simpa [Value.cells, o3, k3] using hg 3 f3 rfl
 ·simpa [Value.cells, o4, k4] using hg 4 f4 rfl
 ·simpa [Value.cells, o5, k5] using hg 5 f5 rfl
 ·simpa [Value.cells, o6, k6] using hg 6 f6 rfl
 ·simpa [Value.cells, o7, k7] using hg 7 f7 rfl
theorem shut_agg8 {t : TypeId} {f0 f1 f2 f3 f4 f5 f6 f7 : Field} {v0 v1 v2 v3 v4 v5 v6 v7 : Value} {y0 y1 y2 y3 y4 y5 y6 y7 : DataW H × List MemPlace} (hs : P.underlying t = some (.struct #[f0, f1, f2, f3, f4, f5, f6, f7])) (hone : oneCellFields P #[f0, f1, f2, f3, f4, f5, f6, f7] = true) (hC : P.cellsOf t = 8)
  (t0 : ∃ n, DataW.trod enc P w base spare held n f0.type [v0] = some y0) (t1 : ∃ n, DataW.trod enc P w base spare held n f1.type [v1] = some y1) (t2 : ∃ n, DataW.trod enc P w base spare held n f2.type [v2] = some y2) (t3 : ∃ n, DataW.trod enc P w base spare held n f3.type [v3] = some y3) (t4 : ∃ n, DataW.trod enc P w base spare held n f4.type [v4] = some y4) (t5 : ∃ n, DataW.trod enc P w base spare held n f5.type [v5] = some y5) (t6 : ∃ n, DataW.trod enc P w base spare held n f6.type [v6] = some y6) (t7 : ∃ n, DataW.trod enc P w base spare held n f7.type [v7] = some y7) :
  DataW.Trod enc P w base spare held t (.agg #[v0, v1, v2, v3, v4, v5, v6, v7]) (.agg [y0.1, y1.1, y2.1, y3.1, y4.1, y5.1, y6.1, y7.1]) (y0.2 ++ (y1.2 ++ (y2.2 ++ (y3.2 ++ (y4.2 ++ (y5.2 ++ (y6.2 ++ (y7.2)))))))) := by
 obtain ⟨n0, t0⟩ := t0
 obtain ⟨n1, t1⟩ := t1
 obtain ⟨n2, t2⟩ := t2
 obtain ⟨n3, t3⟩ := t3
 obtain ⟨n4, t4⟩ := t4
 obtain ⟨n5, t5⟩ := t5
 obtain ⟨n6, t6⟩ := t6
 obtain ⟨n7, t7⟩ := t7
 obtain ⟨o0, k0⟩ := hone_of hone 0 f0 rfl
 obtain ⟨o1, k1⟩ := hone_of hone 1 f1 rfl
 obtain ⟨o2, k2⟩ := hone_of hone 2 f2 rfl
 obtain ⟨o3, k3⟩ := hone_of hone 3 f3 rfl
 obtain ⟨o4, k4⟩ := hone_of hone 4 f4 rfl
 obtain ⟨o5, k5⟩ := hone_of hone 5 f5 rfl
 obtain ⟨o6, k6⟩ := hone_of hone 6 f6 rfl
 obtain ⟨o7, k7⟩ := hone_of hone 7 f7 rfl
 have u0 := DataW.trod_le (show n0 ≤ n0 + n1 + n2 + n3 + n4 + n5 + n6 + n7 by omega) t0
 have u1 := DataW.trod_le (show n1 ≤ n0 + n1 + n2 + n3 + n4 + n5 + n6 + n7 by omega) t1
 have u2 := DataW.trod_le (show n2 ≤ n0 + n1 + n2 + n3 + n4 + n5 + n6 + n7 by omega) t2
 have u3 := DataW.trod_le (show n3 ≤ n0 + n1 + n2 + n3 + n4 + n5 + n6 + n7 by omega) t3
 have u4 := DataW.trod_le (show n4 ≤ n0 + n1 + n2 + n3 + n4 + n5 + n6 + n7 by omega) t4
 have u5 := DataW.trod_le (show n5 ≤ n0 + n1 + n2 + n3 + n4 + n5 + n6 + n7 by omega) t5
 have u6 := DataW.trod_le (show n6 ≤ n0 + n1 + n2 + n3 + n4 + n5 + n6 + n7 by omega) t6
 have u7 := DataW.trod_le (show n7 ≤ n0 + n1 + n2 + n3 + n4 + n5 + n6 + n7 by omega) t7
 have ts := trod_struct_mk (enc := enc) (w := w) (base := base) (spare := spare) (held := held) (n := n0 + n1 + n2 + n3 + n4 + n5 + n6 + n7) (cs := [v0, v1, v2, v3, v4, v5, v6, v7]) (xs := [y0, y1, y2, y3, y4, y5, y6, y7]) hs (by simp [hC]) (by simp [o0, k0, o1, k1, o2, k2, o3, k3, o4, k4, o5, k5, o6, k6, o7, k7, u0, u1, u2, u3, u4, u5, u6, u7])
 exact ⟨_, by simpa [Value.cells] using ts⟩
end
end Go.Proofs.YtinjbdgjcadodaaGreatDoor.Aggs
