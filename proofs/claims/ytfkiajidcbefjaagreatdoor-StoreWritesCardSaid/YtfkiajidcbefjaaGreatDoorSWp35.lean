/- The law StoreWrites. The law StoreWrites. -/
import Derived.Test.YtfkiajidcbefjaaGreatDoorSWp09
import Derived.Test.YtfkiajidcbefjaaGreatDoorSWp34
namespace Go.Proofs.YtfkiajidcbefjaaGreatDoor.St
open Go Go.RowKit Go.Proofs.YtfkiajidcbefjaaGreatDoor.Words Go.Proofs.YtfkiajidcbefjaaGreatDoor.Enc Go.Proofs.YtfkiajidcbefjaaGreatDoor.Made Go.Proofs.YtfkiajidcbefjaaGreatDoor.Dsk Go.Proofs.YtfkiajidcbefjaaGreatDoor.Seg Go.Proofs.YtfkiajidcbefjaaGreatDoor.Evt Go.Proofs.YtfkiajidcbefjaaGreatDoor.Fol
open Go.Proofs.YtfkiajidcbefjaaGreatDoor.Fd (XS xsX xsO xsC Feed FeedAt FNext Part SegS blk bx hdA Rise evsP)
set_option linter.unusedVariables false
set_option linter.unusedSimpArgs false

set_option maxRecDepth 100000 in
set_option maxHeartbeats 4000000 in
theorem sw_wrong (node : Nat) (ev : Ev) (A : Option Addr) (n c : Nat) (w : World) (hnode : node < 256) (h : Given ev A n c w) (hk : ev.key.size ≤ 100 ∧ n ≤ 500) (hn3 : node % 5 < 3) (hw : rightE (asOwn ev (node % 5) 1 1) ≠ 0) : Calls Tryz.prog 3 #[.int .u8 (node : Int), ev.val A n c, .bool false] w fun e w' => e = .returned (.bool true) ∧ Below w.heap.size w w' := by
  have hsf := store_float Tryz.prog
  obtain ⟨u, hu⟩ : ∃ u, u = w.alloc (.cells #[.int .i64 ev.writer, .int .u64 (ev.seq : Int), .int .u64 (ev.time : Int), .int .u8 (ev.kind : Int), .string ev.key, .slice A n c, .float .f64 ev.num, .int .i64 ev.node] 26) := ⟨_, rfl⟩
  have hbu : Below w.heap.size w u := by rw [hu]; exact (Below.refl _ _).alloc (Nat.le_refl _) _
  have G := Lib.hid (show u.heap[w.heap.size]? = some (.cells (ev.row A n c) 26 (0, 0)) by rw [hu]; exact heap_alloc_new w _)
  have HBU := Lib.hid hbu
  have AW := Lib.hid (awake14 u (h.tabs.below hbu) (h.stabs.below hbu))
  have HU := Lib.hid hu
  have H := Lib.hid h
  clear hu hbu h
  have HK := Lib.hid hk
  clear hk
  have HN3 := Lib.hid (And.intro hn3 hw)
  clear hn3 hw
  have HFT := Lib.hid (And.intro H.out.fit (And.intro (show n = ev.text.length from H.out.sees.1.symm) (And.intro (show ev.text.length ≤ 9223372036854775807 by have := H.out.sees.1; have := H.out.n1; omega) H.out.key)))
  unfold Ev.val
  go_enter Tryz.func3, Tryz.ntmps3
  go_wp2_with fail
  rw [← HU.out]
  refine AW.out.mono ?_
  rintro e w1 ⟨rfl, hb1⟩
  have G1 := Lib.hid ((hb1.block _ (Array.getElem?_eq_some_iff.1 G.out).1).trans G.out)
  have HB1 := Lib.hid (HBU.out.trans (hb1.mono HBU.out.size))
  obtain ⟨b4, hb4⟩ : ∃ b4, b4 = w.heap.size := ⟨_, rfl⟩
  rw [← hb4] at G1 ⊢
  have HB4 := Lib.hid hb4
  have g1 := G1.out
  unfold Ev.row at g1
  obtain ⟨x0, x1, x2, x3, x4, x5, x6, x7⟩ := box8 g1
  clear hb1 hb4 g1 AW
  have q1 : decide ((100 : Int) < (ev.key.size : Int)) = false := decide_eq_false (by have := HK.out.1; omega)
  have q2 : decide ((500 : Int) < (n : Int)) = false := decide_eq_false (by have := HK.out.2; omega)
  have hm5 : (node : Int).tmod 5 = ((node % 5 : Nat) : Int) := by rw [Int.tmod_eq_emod_of_nonneg (by omega)]; omega
  go_upto_region 5 with fail
  obtain ⟨nd, hnd, hnd5⟩ : ∃ nd : Nat, (node : Int) % 5 = (nd : Int) ∧ nd = node % 5 := ⟨node % 5, by omega, rfl⟩
  rw [hnd]
  have hn64 : nd < 64 := by omega
  have HND := Lib.hid (And.intro hnd5 hn64)
  have H1 := Lib.hid (And.intro (H.out.tabs.below HB1.out) (H.out.stabs.below HB1.out))
  clear hm5 hnd hnd5 q1 q2
  refine (newC 65536 w1).mono ?_
  rintro e w2 ⟨d, S0, rfl, hd, hS0, hb2⟩
  have OP := Lib.hid (open14 d nd 65536 S0 w1 w2 H1.out.1 H1.out.2 hb2 hS0 hd hn64 (by omega))
  clear hd hS0 hb2 x0 x1 x2 x3 x4 x5 x6 x7
  go_wp2_with fail
  refine OP.out.mono ?_
  rintro e w3 ⟨g, s, S, f, rfl, hF⟩
  have HF := Lib.hid hF
  clear OP hF
  have RF := fun (W : World) => refRight_any (asOwn ev nd 1 1) A n c W (own_fit HFT.out.1 HND.out.2 (by omega) (by omega)) HFT.out.2.1 HFT.out.2.2.1 HFT.out.2.2.2
  have RF : ∀ W, Calls Tryz.prog 10 #[.agg #[.int .i64 (nd : Int), .int .u64 1, .int .u64 1, .int .u8 (ev.kind : Int), .string ev.key, .slice A n c, .float .f64 ev.num, .int .i64 ev.node]] W fun e' w' => e' = .returned (.int .i64 (rightE (asOwn ev nd 1 1) : Int)) ∧ Below W.heap.size W w' := RF
  have WR : Calls Tryz.prog 8 #[.pointer (some ⟨g, 0, none⟩), .agg #[.int .i64 ev.writer, .int .u64 (ev.seq : Int), .int .u64 (ev.time : Int), .int .u8 (ev.kind : Int), .string ev.key, .slice A n c, .float .f64 ev.num, .int .i64 ev.node]] w3 _ := HF.out.wrong (by rw [HND.out.1]; exact HN3.out.1) ev A n c HFT.out.1 HFT.out.2.1 HFT.out.2.2.1 HFT.out.2.2.2 (by rw [HND.out.1]; exact HN3.out.2)
  obtain ⟨E, hE⟩ : ∃ E, E = rightE (asOwn ev nd 1 1) := ⟨_, rfl⟩
  rw [← hE] at WR RF
  have hE1 : ((E : Int) == 0) = false := by rw [beq_eq_false_iff_ne]; have := HN3.out.2; rw [← HND.out.1, ← hE] at this; omega
  have RF := Lib.hid RF
  clear hE
  have WR := Lib.hid WR
  obtain ⟨ck, hck⟩ : ∃ ck, ck = s.ck := ⟨_, rfl⟩
  have HCK := Lib.hid hck
  have HBW := Lib.hid HF.out.below
  have HS2 := Lib.hid HF.out.sto
  obtain ⟨s2, hs2⟩ : ∃ s2, s2 = s := ⟨_, rfl⟩
  rw [← hs2] at HS2 HCK
  clear hck hs2
  have G4s := (HBW.out.block b4 (Array.getElem?_eq_some_iff.1 G1.out).1).trans G1.out
  have g4 := G4s
  unfold Ev.row at g4
  obtain ⟨x0, x1, x2, x3, x4, x5, x6, x7⟩ := box8 g4
  clear g4
  have G4s := Lib.hid G4s
  go_wp2_with fail
  refine (clock_any g s2 w3 HS2.out).mono ?_
  rintro e w3 ⟨rfl, rfl⟩
  rw [← HCK.out]
  go_wp2_with fail
  refine WR.out.mono ?_
  rintro e w5 ⟨rfl, hb5⟩
  have G5 := Lib.hid ((hb5.block b4 (Array.getElem?_eq_some_iff.1 G4s.out).1).trans G4s.out)
  have HS5 := Lib.hid (HS2.out.below hb5)
  have HB5 := Lib.hid (HBW.out.trans (hb5.mono HBW.out.size))
  have Z5 := Lib.hid (heap_alloc_new w5 (.cells zRowE 26))
  have hal5 := (Below.refl w5.heap.size w5).alloc (Nat.le_refl _) (.cells zRowE 26)
  have G5a := Lib.hid ((hal5.block b4 (Array.getElem?_eq_some_iff.1 G5.out).1).trans G5.out)
  have HS5a := Lib.hid (HS5.out.below hal5)
  have HB5a := Lib.hid (HB5.out.trans (hal5.mono HB5.out.size))
  have hl5 : b4 < w5.heap.size ∧ g < w5.heap.size ∧ w1.heap.size ≤ w5.heap.size := ⟨(Array.getElem?_eq_some_iff.1 G5.out).1, HS5.out.lt, HB5.out.size⟩
  have HL5 := Lib.hid hl5
  clear hal5 hb5 hl5 x0 x1 x2 x3 x4 x5 x6 x7
  unfold zEv zRowE
  go_wp2_with (first
    | (refine wpList_putRow rfl 26 (.tmp 10) (.tmp 45) rfl w5.heap.size 26 zRowE zRowE rfl rfl Z5.out (by kernel_rfl) rfl (by simp [zRowE, Ev.row, Value.oneCell']) ?_))
  intro w6 hW6 hbe6
  obtain ⟨b10, hb10⟩ : ∃ b10, b10 = w5.heap.size := ⟨_, rfl⟩
  rw [← hb10] at hW6 hbe6 ⊢
  have h10 : b4 ≠ b10 ∧ g ≠ b10 ∧ w1.heap.size ≤ b10 := by have := HL5.out; omega
  have HB10 := Lib.hid (And.intro hb10 h10)
  have G6 := Lib.hid ((hbe6.block b4 (Array.getElem?_eq_some_iff.1 G5a.out).1 (by simp; exact h10.1)).trans G5a.out)
  have HS6 := Lib.hid (HS5a.out.beside hbe6 (by simp; exact h10.2.1))
  have HB6 := Lib.hid (Below.beside HB5a.out hbe6 HB5a.out.size (by simp; exact h10.2.2))
  have X6 := Lib.hid (show w6.heap[b10]? = some (.cells zRowE 26 (0, 0)) from hW6)
  clear hb10 h10 hW6 hbe6 G5a HS5a HB5a Z5 G5 HS5 HB5
  have g6 := G6.out
  unfold Ev.row at g6
  obtain ⟨x0, x1, x2, x3, x4, x5, x6, x7⟩ := box8 g6
  clear g6
  have Z6 := Lib.hid (heap_alloc_new w6 (.cells zRowE 26))
  have hal6 := (Below.refl w6.heap.size w6).alloc (Nat.le_refl _) (.cells zRowE 26)
  have G6a := Lib.hid ((hal6.block b4 (Array.getElem?_eq_some_iff.1 G6.out).1).trans G6.out)
  have X6a := Lib.hid ((hal6.block b10 (Array.getElem?_eq_some_iff.1 X6.out).1).trans X6.out)
  have HS6a := Lib.hid (HS6.out.below hal6)
  have HB6a := Lib.hid (HB6.out.trans (hal6.mono HB6.out.size))
  have HL6 := Lib.hid (show b4 < w6.heap.size ∧ g < w6.heap.size ∧ w1.heap.size ≤ w6.heap.size ∧ b10 < w6.heap.size from ⟨(Array.getElem?_eq_some_iff.1 G6.out).1, HS6.out.lt, HB6.out.size, (Array.getElem?_eq_some_iff.1 X6.out).1⟩)
  clear hal6
  go_wp2_with (first
    | (refine wpList_putRow rfl 26 (.tmp 13) (.tmp 47) rfl w6.heap.size 26 zRowE #[.int .i64 ev.writer, .int .u64 (ev.seq : Int), .int .u64 (ev.time : Int), .int .u8 (ev.kind : Int), .string ev.key, .slice A n c, .float .f64 ev.num, .int .i64 ev.node] rfl rfl Z6.out (by kernel_rfl) rfl (by simp [Value.oneCell']) ?_))
  intro w7 hW7 hbe7
  obtain ⟨b13, hb13⟩ : ∃ b13, b13 = w6.heap.size := ⟨_, rfl⟩
  rw [← hb13] at hW7 hbe7 ⊢
  have h13 : b4 ≠ b13 ∧ g ≠ b13 ∧ w1.heap.size ≤ b13 ∧ b10 ≠ b13 := by have := HL6.out; omega
  have H13 := Lib.hid (And.intro hb13 h13)
  have G7 := Lib.hid ((hbe7.block b4 (Array.getElem?_eq_some_iff.1 G6a.out).1 (by simp; exact h13.1)).trans G6a.out)
  have X7 := Lib.hid ((hbe7.block b10 (Array.getElem?_eq_some_iff.1 X6a.out).1 (by simp; exact h13.2.2.2)).trans X6a.out)
  have HS7 := Lib.hid (HS6a.out.beside hbe7 (by simp; exact h13.2.1))
  have HB7 := Lib.hid (Below.beside HB6a.out hbe7 HB6a.out.size (by simp; exact h13.2.2.1))
  have Y7 := Lib.hid hW7
  obtain ⟨y0, y1, y2, y3, y4, y5, y6, y7⟩ := box8 hW7
  have f0 := frozen_row0 (i := 0) hW7
  have f1 := frozen_row0 (i := 1) hW7
  have f2 := frozen_row0 (i := 2) hW7
  have hl13 := (Array.getElem?_eq_some_iff.1 hW7).1
  clear hb13 hW7 hbe7 x0 x1 x2 x3 x4 x5 x6 x7 G6a HS6a HB6a Z6 X6a X6 G6 HS6 HB6 h13
  go_upto_region 14 with fail
  have hbe8 : Beside [b13] w7 (((w7.setCell ⟨b13, 0, none⟩ (.int .i64 (nd : Int))).setCell ⟨b13, 1, none⟩ (.int .u64 1)).setCell ⟨b13, 2, none⟩ (.int .u64 1)) := (((Beside.refl [b13] w7).setCell (by simp) _).setCell (by simp) _).setCell (by simp) _
  have Y8 := Lib.hid (show (((w7.setCell ⟨b13, 0, none⟩ (.int .i64 (nd : Int))).setCell ⟨b13, 1, none⟩ (.int .u64 1)).setCell ⟨b13, 2, none⟩ (.int .u64 1)).heap[b13]? = some (.cells ((asOwn ev nd 1 1).row A n c) 26 (0, 0)) from (heapSame (i := 2) (v := .int .u64 1) (heapSame (i := 1) (v := .int .u64 1) (heapSame (i := 0) (v := .int .i64 (nd : Int)) Y7.out))).trans rfl)
  have G8 := Lib.hid ((hbe8.block b4 (Array.getElem?_eq_some_iff.1 G7.out).1 (by simp; exact H13.out.2.1)).trans G7.out)
  have X8 := Lib.hid ((hbe8.block b10 (Array.getElem?_eq_some_iff.1 X7.out).1 (by simp; exact H13.out.2.2.2.2)).trans X7.out)
  have HS8 := Lib.hid (HS7.out.beside hbe8 (by simp; exact H13.out.2.2.1))
  have HB8 := Lib.hid (Below.beside HB7.out hbe8 HB7.out.size (by simp; exact H13.out.2.2.2.1))
  clear hbe8 y0 y1 y2 y3 y4 y5 y6 y7 f0 f1 f2 hl13 Y7 G7 X7 HS7 HB7
  generalize ((w7.setCell ⟨b13, 0, none⟩ (.int .i64 (nd : Int))).setCell ⟨b13, 1, none⟩ (.int .u64 1)).setCell ⟨b13, 2, none⟩ (.int .u64 1) = w8 at Y8 G8 X8 HS8 HB8 ⊢
  have g8 := G8.out
  unfold Ev.row at g8
  obtain ⟨x0, x1, x2, x3, x4, x5, x6, x7⟩ := box8 g8
  have yy := Y8.out
  unfold Ev.row asOwn at yy
  obtain ⟨y0, y1, y2, y3, y4, y5, y6, y7⟩ := box8 yy
  clear g8 yy
  have hd3 : decide ((3 : Int) ≤ (nd : Int)) = false := decide_eq_false (by have := HN3.out.1; have := HND.out.1; omega)
  go_wp2_with fail
  refine (RF.out w8).mono ?_
  rintro e w9 ⟨rfl, hb9⟩
  have G9 := Lib.hid ((hb9.block b4 (Array.getElem?_eq_some_iff.1 G8.out).1).trans G8.out)
  have X9 := Lib.hid ((hb9.block b10 (Array.getElem?_eq_some_iff.1 X8.out).1).trans X8.out)
  have Y9 := Lib.hid ((hb9.block b13 (Array.getElem?_eq_some_iff.1 Y8.out).1).trans Y8.out)
  have HS9 := Lib.hid (HS8.out.below hb9)
  have HB9 := Lib.hid (HB8.out.trans (hb9.mono HB8.out.size))
  have yy := Y9.out
  unfold Ev.row asOwn at yy
  clear hb9 x0 x1 x2 x3 x4 x5 x6 x7 y0 y1 y2 y3 y4 y5 y6 y7
  obtain ⟨y0, y1, y2, y3, y4, y5, y6, y7⟩ := box8 yy
  clear yy
  go_wp2_with fail
  refine (RF.out w9).mono ?_
  rintro e w10 ⟨rfl, hb10⟩
  have xx := (hb10.block b10 (Array.getElem?_eq_some_iff.1 X9.out).1).trans X9.out
  unfold zRowE at xx
  obtain ⟨_, k1, _⟩ := box8 xx
  have HSE := Lib.hid (HS9.out.below hb10)
  have HBE := Lib.hid (HB1.out.trans ((HB9.out.trans (hb10.mono HB9.out.size)).mono HB1.out.size))
  clear xx hb10 y0 y1 y2 y3 y4 y5 y6 y7
  go_wp2_with fail
  refine (clock_any g s2 w10 HSE.out).mono ?_
  rintro e w10 ⟨rfl, rfl⟩
  rw [← HCK.out]
  go_wp2
  go_ret
  exact ⟨rfl, HBE.out⟩
set_option maxRecDepth 100000 in
set_option maxHeartbeats 4000000 in
theorem sw_old (node : Nat) (ev : Ev) (A : Option Addr) (n c : Nat) (w : World) (hnode : node < 256) (h : Given ev A n c w) (hk : ev.key.size ≤ 100 ∧ n ≤ 500) (hn3 : node % 5 < 3) (hw : rightE (asOwn ev (node % 5) 1 1) = 0) (h5 : ev.kind = 5) (nj : Nat) (hnj : ev.node = (nj : Int)) (hj : nj < 3) : Calls Tryz.prog 3 #[.int .u8 (node : Int), ev.val A n c, .bool false] w fun e w' => e = .returned (.bool true) ∧ Below w.heap.size w w' := by
  have hsf := store_float Tryz.prog
  obtain ⟨u, hu⟩ : ∃ u, u = w.alloc (.cells #[.int .i64 ev.writer, .int .u64 (ev.seq : Int), .int .u64 (ev.time : Int), .int .u8 (ev.kind : Int), .string ev.key, .slice A n c, .float .f64 ev.num, .int .i64 ev.node] 26) := ⟨_, rfl⟩
  have hbu : Below w.heap.size w u := by rw [hu]; exact (Below.refl _ _).alloc (Nat.le_refl _) _
  have G := Lib.hid (show u.heap[w.heap.size]? = some (.cells (ev.row A n c) 26 (0, 0)) by rw [hu]; exact heap_alloc_new w _)
  have HBU := Lib.hid hbu
  have AW := Lib.hid (awake14 u (h.tabs.below hbu) (h.stabs.below hbu))
  have HU := Lib.hid hu
  have H := Lib.hid h
  clear hu hbu h
  have HK := Lib.hid hk
  clear hk
  have HN3 := Lib.hid (And.intro hn3 (And.intro hw (And.intro h5 (And.intro hnj hj))))
  clear hn3 hw h5 hnj hj
  have HFT := Lib.hid (And.intro H.out.fit (And.intro (show n = ev.text.length from H.out.sees.1.symm) (And.intro (show ev.text.length ≤ 9223372036854775807 by have := H.out.sees.1; have := H.out.n1; omega) H.out.key)))
  unfold Ev.val
  go_enter Tryz.func3, Tryz.ntmps3
  go_wp2_with fail
  rw [← HU.out]
  refine AW.out.mono ?_
  rintro e w1 ⟨rfl, hb1⟩
  have G1 := Lib.hid ((hb1.block _ (Array.getElem?_eq_some_iff.1 G.out).1).trans G.out)
  have HB1 := Lib.hid (HBU.out.trans (hb1.mono HBU.out.size))
  obtain ⟨b4, hb4⟩ : ∃ b4, b4 = w.heap.size := ⟨_, rfl⟩
  rw [← hb4] at G1 ⊢
  have HB4 := Lib.hid hb4
  have g1 := G1.out
  unfold Ev.row at g1
  obtain ⟨x0, x1, x2, x3, x4, x5, x6, x7⟩ := box8 g1
  clear hb1 hb4 g1 AW
  have q1 : decide ((100 : Int) < (ev.key.size : Int)) = false := decide_eq_false (by have := HK.out.1; omega)
  have q2 : decide ((500 : Int) < (n : Int)) = false := decide_eq_false (by have := HK.out.2; omega)
  have hm5 : (node : Int).tmod 5 = ((node % 5 : Nat) : Int) := by rw [Int.tmod_eq_emod_of_nonneg (by omega)]; omega
  go_upto_region 5 with fail
  obtain ⟨nd, hnd, hnd5⟩ : ∃ nd : Nat, (node : Int) % 5 = (nd : Int) ∧ nd = node % 5 := ⟨node % 5, by omega, rfl⟩
  rw [hnd]
  have hn64 : nd < 64 := by omega
  have HND := Lib.hid (And.intro hnd5 hn64)
  have H1 := Lib.hid (And.intro (H.out.tabs.below HB1.out) (H.out.stabs.below HB1.out))
  clear hm5 hnd hnd5 q1 q2
  refine (newC 65536 w1).mono ?_
  rintro e w2 ⟨d, S0, rfl, hd, hS0, hb2⟩
  have OP := Lib.hid (open14 d nd 65536 S0 w1 w2 H1.out.1 H1.out.2 hb2 hS0 hd hn64 (by omega))
  clear hd hS0 hb2 x0 x1 x2 x3 x4 x5 x6 x7
  go_wp2_with fail
  refine OP.out.mono ?_
  rintro e w3 ⟨g, s, S, f, rfl, hF⟩
  have HF := Lib.hid hF
  clear OP hF
  have RF := fun (W : World) => refRight_any (asOwn ev nd 1 1) A n c W (own_fit HFT.out.1 HND.out.2 (by omega) (by omega)) HFT.out.2.1 HFT.out.2.2.1 HFT.out.2.2.2
  have RF : ∀ W, Calls Tryz.prog 10 #[.agg #[.int .i64 (nd : Int), .int .u64 1, .int .u64 1, .int .u8 (ev.kind : Int), .string ev.key, .slice A n c, .float .f64 ev.num, .int .i64 ev.node]] W fun e' w' => e' = .returned (.int .i64 (rightE (asOwn ev nd 1 1) : Int)) ∧ Below W.heap.size W w' := RF
  have WR : Calls Tryz.prog 8 #[.pointer (some ⟨g, 0, none⟩), .agg #[.int .i64 ev.writer, .int .u64 (ev.seq : Int), .int .u64 (ev.time : Int), .int .u8 (ev.kind : Int), .string ev.key, .slice A n c, .float .f64 ev.num, .int .i64 ev.node]] w3 _ := HF.out.old (by rw [HND.out.1]; exact HN3.out.1) ev A n c HFT.out.1 HFT.out.2.1 HFT.out.2.2.1 HFT.out.2.2.2 (by rw [HND.out.1]; exact HN3.out.2.1) HN3.out.2.2.1 nj HN3.out.2.2.2.1 (by have := HN3.out.2.2.2.2; omega) HN3.out.2.2.2.2
  rw [show rightE (asOwn ev nd 1 1) = 0 by rw [HND.out.1]; exact HN3.out.2.1] at RF
  have RF := Lib.hid RF
  have WR := Lib.hid WR
  obtain ⟨ck, hck⟩ : ∃ ck, ck = s.ck := ⟨_, rfl⟩
  have HCK := Lib.hid hck
  have HBW := Lib.hid HF.out.below
  have HS2 := Lib.hid HF.out.sto
  obtain ⟨s2, hs2⟩ : ∃ s2, s2 = s := ⟨_, rfl⟩
  rw [← hs2] at HS2 HCK
  clear hck hs2
  have G4s := (HBW.out.block b4 (Array.getElem?_eq_some_iff.1 G1.out).1).trans G1.out
  have g4 := G4s
  unfold Ev.row at g4
  obtain ⟨x0, x1, x2, x3, x4, x5, x6, x7⟩ := box8 g4
  clear g4
  have G4s := Lib.hid G4s
  go_wp2_with fail
  refine (clock_any g s2 w3 HS2.out).mono ?_
  rintro e w3 ⟨rfl, rfl⟩
  rw [← HCK.out]
  go_wp2_with fail
  refine WR.out.mono ?_
  rintro e w5 ⟨rfl, hb5⟩
  have G5 := Lib.hid ((hb5.block b4 (Array.getElem?_eq_some_iff.1 G4s.out).1).trans G4s.out)
  have HS5 := Lib.hid (HS2.out.below hb5)
  have HB5 := Lib.hid (HBW.out.trans (hb5.mono HBW.out.size))
  have Z5 := Lib.hid (heap_alloc_new w5 (.cells zRowE 26))
  have hal5 := (Below.refl w5.heap.size w5).alloc (Nat.le_refl _) (.cells zRowE 26)
  have G5a := Lib.hid ((hal5.block b4 (Array.getElem?_eq_some_iff.1 G5.out).1).trans G5.out)
  have HS5a := Lib.hid (HS5.out.below hal5)
  have HB5a := Lib.hid (HB5.out.trans (hal5.mono HB5.out.size))
  have hl5 : b4 < w5.heap.size ∧ g < w5.heap.size ∧ w1.heap.size ≤ w5.heap.size := ⟨(Array.getElem?_eq_some_iff.1 G5.out).1, HS5.out.lt, HB5.out.size⟩
  have HL5 := Lib.hid hl5
  clear hal5 hb5 hl5 x0 x1 x2 x3 x4 x5 x6 x7
  unfold zEv zRowE
  go_wp2_with (first
    | (refine wpList_putRow rfl 26 (.tmp 10) (.tmp 45) rfl w5.heap.size 26 zRowE zRowE rfl rfl Z5.out (by kernel_rfl) rfl (by simp [zRowE, Ev.row, Value.oneCell']) ?_))
  intro w6 hW6 hbe6
  obtain ⟨b10, hb10⟩ : ∃ b10, b10 = w5.heap.size := ⟨_, rfl⟩
  rw [← hb10] at hW6 hbe6 ⊢
  have h10 : b4 ≠ b10 ∧ g ≠ b10 ∧ w1.heap.size ≤ b10 := by have := HL5.out; omega
  have HB10 := Lib.hid (And.intro hb10 h10)
  have G6 := Lib.hid ((hbe6.block b4 (Array.getElem?_eq_some_iff.1 G5a.out).1 (by simp; exact h10.1)).trans G5a.out)
  have HS6 := Lib.hid (HS5a.out.beside hbe6 (by simp; exact h10.2.1))
  have HB6 := Lib.hid (Below.beside HB5a.out hbe6 HB5a.out.size (by simp; exact h10.2.2))
  have X6 := Lib.hid (show w6.heap[b10]? = some (.cells zRowE 26 (0, 0)) from hW6)
  clear hb10 h10 hW6 hbe6 G5a HS5a HB5a Z5 G5 HS5 HB5
  have g6 := G6.out
  unfold Ev.row at g6
  obtain ⟨x0, x1, x2, x3, x4, x5, x6, x7⟩ := box8 g6
  clear g6
  have Z6 := Lib.hid (heap_alloc_new w6 (.cells zRowE 26))
  have hal6 := (Below.refl w6.heap.size w6).alloc (Nat.le_refl _) (.cells zRowE 26)
  have G6a := Lib.hid ((hal6.block b4 (Array.getElem?_eq_some_iff.1 G6.out).1).trans G6.out)
  have X6a := Lib.hid ((hal6.block b10 (Array.getElem?_eq_some_iff.1 X6.out).1).trans X6.out)
  have HS6a := Lib.hid (HS6.out.below hal6)
  have HB6a := Lib.hid (HB6.out.trans (hal6.mono HB6.out.size))
  have HL6 := Lib.hid (show b4 < w6.heap.size ∧ g < w6.heap.size ∧ w1.heap.size ≤ w6.heap.size ∧ b10 < w6.heap.size from ⟨(Array.getElem?_eq_some_iff.1 G6.out).1, HS6.out.lt, HB6.out.size, (Array.getElem?_eq_some_iff.1 X6.out).1⟩)
  clear hal6
  go_wp2_with (first
    | (refine wpList_putRow rfl 26 (.tmp 13) (.tmp 47) rfl w6.heap.size 26 zRowE #[.int .i64 ev.writer, .int .u64 (ev.seq : Int), .int .u64 (ev.time : Int), .int .u8 (ev.kind : Int), .string ev.key, .slice A n c, .float .f64 ev.num, .int .i64 ev.node] rfl rfl Z6.out (by kernel_rfl) rfl (by simp [Value.oneCell']) ?_))
  intro w7 hW7 hbe7
  obtain ⟨b13, hb13⟩ : ∃ b13, b13 = w6.heap.size := ⟨_, rfl⟩
  rw [← hb13] at hW7 hbe7 ⊢
  have h13 : b4 ≠ b13 ∧ g ≠ b13 ∧ w1.heap.size ≤ b13 ∧ b10 ≠ b13 := by have := HL6.out; omega
  have H13 := Lib.hid (And.intro hb13 h13)
  have G7 := Lib.hid ((hbe7.block b4 (Array.getElem?_eq_some_iff.1 G6a.out).1 (by simp; exact h13.1)).trans G6a.out)
  have X7 := Lib.hid ((hbe7.block b10 (Array.getElem?_eq_some_iff.1 X6a.out).1 (by simp; exact h13.2.2.2)).trans X6a.out)
  have HS7 := Lib.hid (HS6a.out.beside hbe7 (by simp; exact h13.2.1))
  have HB7 := Lib.hid (Below.beside HB6a.out hbe7 HB6a.out.size (by simp; exact h13.2.2.1))
  have Y7 := Lib.hid hW7
  obtain ⟨y0, y1, y2, y3, y4, y5, y6, y7⟩ := box8 hW7
  have f0 := frozen_row0 (i := 0) hW7
  have f1 := frozen_row0 (i := 1) hW7
  have f2 := frozen_row0 (i := 2) hW7
  have hl13 := (Array.getElem?_eq_some_iff.1 hW7).1
  clear hb13 hW7 hbe7 x0 x1 x2 x3 x4 x5 x6 x7 G6a HS6a HB6a Z6 X6a X6 G6 HS6 HB6 h13
  go_upto_region 14 with fail
  have hbe8 : Beside [b13] w7 (((w7.setCell ⟨b13, 0, none⟩ (.int .i64 (nd : Int))).setCell ⟨b13, 1, none⟩ (.int .u64 1)).setCell ⟨b13, 2, none⟩ (.int .u64 1)) := (((Beside.refl [b13] w7).setCell (by simp) _).setCell (by simp) _).setCell (by simp) _
  have Y8 := Lib.hid (show (((w7.setCell ⟨b13, 0, none⟩ (.int .i64 (nd : Int))).setCell ⟨b13, 1, none⟩ (.int .u64 1)).setCell ⟨b13, 2, none⟩ (.int .u64 1)).heap[b13]? = some (.cells ((asOwn ev nd 1 1).row A n c) 26 (0, 0)) from (heapSame (i := 2) (v := .int .u64 1) (heapSame (i := 1) (v := .int .u64 1) (heapSame (i := 0) (v := .int .i64 (nd : Int)) Y7.out))).trans rfl)
  have G8 := Lib.hid ((hbe8.block b4 (Array.getElem?_eq_some_iff.1 G7.out).1 (by simp; exact H13.out.2.1)).trans G7.out)
  have X8 := Lib.hid ((hbe8.block b10 (Array.getElem?_eq_some_iff.1 X7.out).1 (by simp; exact H13.out.2.2.2.2)).trans X7.out)
  have HS8 := Lib.hid (HS7.out.beside hbe8 (by simp; exact H13.out.2.2.1))
  have HB8 := Lib.hid (Below.beside HB7.out hbe8 HB7.out.size (by simp; exact H13.out.2.2.2.1))
  clear hbe8 y0 y1 y2 y3 y4 y5 y6 y7 f0 f1 f2 hl13 Y7 G7 X7 HS7 HB7
  generalize ((w7.setCell ⟨b13, 0, none⟩ (.int .i64 (nd : Int))).setCell ⟨b13, 1, none⟩ (.int .u64 1)).setCell ⟨b13, 2, none⟩ (.int .u64 1) = w8 at Y8 G8 X8 HS8 HB8 ⊢
  have g8 := G8.out
  unfold Ev.row at g8
  obtain ⟨x0, x1, x2, x3, x4, x5, x6, x7⟩ := box8 g8
  have yy := Y8.out
  unfold Ev.row asOwn at yy
  obtain ⟨y0, y1, y2, y3, y4, y5, y6, y7⟩ := box8 yy
  clear g8 yy
  have hd3 : decide ((3 : Int) ≤ (nd : Int)) = false := decide_eq_false (by have := HN3.out.1; have := HND.out.1; omega)
  go_wp2_with fail
  refine (RF.out w8).mono ?_
  rintro e w9 ⟨rfl, hb9⟩
  have G9 := Lib.hid ((hb9.block b4 (Array.getElem?_eq_some_iff.1 G8.out).1).trans G8.out)
  have X9 := Lib.hid ((hb9.block b10 (Array.getElem?_eq_some_iff.1 X8.out).1).trans X8.out)
  have Y9 := Lib.hid ((hb9.block b13 (Array.getElem?_eq_some_iff.1 Y8.out).1).trans Y8.out)
  have HS9 := Lib.hid (HS8.out.below hb9)
  have HB9 := Lib.hid (HB8.out.trans (hb9.mono HB8.out.size))
  have gg := G9.out
  unfold Ev.row at gg
  rw [HN3.out.2.2.1, HN3.out.2.2.2.1] at gg
  clear hb9 x0 x1 x2 x3 x4 x5 x6 x7 y0 y1 y2 y3 y4 y5 y6 y7
  obtain ⟨x0, x1, x2, x3, x4, x5, x6, x7⟩ := box8 gg
  have hj3 : decide ((nj : Int) < 3) = true := decide_eq_true (by have := HN3.out.2.2.2.2; omega)
  have xx := X9.out
  unfold zRowE at xx
  obtain ⟨_, k1, _⟩ := box8 xx
  have HSE := HS9
  have HBE := Lib.hid (HB1.out.trans (HB9.out.mono HB1.out.size))
  clear xx gg
  go_wp2_with fail
  refine (clock_any g s2 w9 HSE.out).mono ?_
  rintro e w9 ⟨rfl, rfl⟩
  rw [← HCK.out]
  go_wp2
  go_ret
  exact ⟨rfl, HBE.out⟩
end Go.Proofs.YtfkiajidcbefjaaGreatDoor.St
namespace Go.Proofs.YtfkiajidcbefjaaGreatDoor.St
open Go Go.RowKit Go.Proofs.YtfkiajidcbefjaaGreatDoor.Words Go.Proofs.YtfkiajidcbefjaaGreatDoor.Enc Go.Proofs.YtfkiajidcbefjaaGreatDoor.Made Go.Proofs.YtfkiajidcbefjaaGreatDoor.Dsk Go.Proofs.YtfkiajidcbefjaaGreatDoor.Seg Go.Proofs.YtfkiajidcbefjaaGreatDoor.Evt Go.Proofs.YtfkiajidcbefjaaGreatDoor.Fol
open Go.Proofs.YtfkiajidcbefjaaGreatDoor.Fd (XS xsX xsO xsC Feed FeedAt FNext Part SegS blk bx hdA Rise evsP)
set_option linter.unusedVariables false
set_option linter.unusedSimpArgs false

set_option maxRecDepth 100000 in
set_option maxHeartbeats 4000000 in
theorem sw_fineA (node : Nat) (ev : Ev) (A : Option Addr) (n c : Nat) (w : World) (hnode : node < 256) (h : Given ev A n c w) (hk : ev.key.size ≤ 100 ∧ n ≤ 500) (hn3 : node % 5 < 3) (hk5 : ev.kind ≠ 5) (hw : rightE (asOwn ev (node % 5) 1 1) = 0) (h5 : ev.kind = 5 → ∃ nj : Nat, ev.node = (nj : Int) ∧ nj < 64 ∧ ¬ nj < 3) : Calls Tryz.prog 3 #[.int .u8 (node : Int), ev.val A n c, .bool false] w fun e w' => e = .returned (.bool true) ∧ Below w.heap.size w w' := by
  have hsf := store_float Tryz.prog
  obtain ⟨u, hu⟩ : ∃ u, u = w.alloc (.cells #[.int .i64 ev.writer, .int .u64 (ev.seq : Int), .int .u64 (ev.time : Int), .int .u8 (ev.kind : Int), .string ev.key, .slice A n c, .float .f64 ev.num, .int .i64 ev.node] 26) := ⟨_, rfl⟩
  have hbu : Below w.heap.size w u := by rw [hu]; exact (Below.refl _ _).alloc (Nat.le_refl _) _
  have G := Lib.hid (show u.heap[w.heap.size]? = some (.cells (ev.row A n c) 26 (0, 0)) by rw [hu]; exact heap_alloc_new w _)
  have HBU := Lib.hid hbu
  have AW := Lib.hid (awake14 u (h.tabs.below hbu) (h.stabs.below hbu))
  have HU := Lib.hid hu
  have H := Lib.hid h
  clear hu hbu h
  have HK := Lib.hid hk
  clear hk
  have HN3 := Lib.hid (And.intro hn3 (And.intro hw h5))
  have HK5 := Lib.hid hk5
  clear hn3 hw h5 hk5
  have HFT := Lib.hid (And.intro H.out.fit (And.intro (show n = ev.text.length from H.out.sees.1.symm) (And.intro (show ev.text.length ≤ 9223372036854775807 by have := H.out.sees.1; have := H.out.n1; omega) H.out.key)))
  unfold Ev.val
  go_enter Tryz.func3, Tryz.ntmps3
  go_wp2_with fail
  rw [← HU.out]
  refine AW.out.mono ?_
  rintro e w1 ⟨rfl, hb1⟩
  have G1 := Lib.hid ((hb1.block _ (Array.getElem?_eq_some_iff.1 G.out).1).trans G.out)
  have HB1 := Lib.hid (HBU.out.trans (hb1.mono HBU.out.size))
  obtain ⟨b4, hb4⟩ : ∃ b4, b4 = w.heap.size := ⟨_, rfl⟩
  rw [← hb4] at G1 ⊢
  have HB4 := Lib.hid hb4
  have g1 := G1.out
  unfold Ev.row at g1
  obtain ⟨x0, x1, x2, x3, x4, x5, x6, x7⟩ := box8 g1
  clear hb1 hb4 g1 AW
  have q1 : decide ((100 : Int) < (ev.key.size : Int)) = false := decide_eq_false (by have := HK.out.1; omega)
  have q2 : decide ((500 : Int) < (n : Int)) = false := decide_eq_false (by have := HK.out.2; omega)
  have hm5 : (node : Int).tmod 5 = ((node % 5 : Nat) : Int) := by rw [Int.tmod_eq_emod_of_nonneg (by omega)]; omega
  go_upto_region 5 with fail
  obtain ⟨nd, hnd, hnd5⟩ : ∃ nd : Nat, (node : Int) % 5 = (nd : Int) ∧ nd = node % 5 := ⟨node % 5, by omega, rfl⟩
  rw [hnd]
  have hn64 : nd < 64 := by omega
  have HND := Lib.hid (And.intro hnd5 hn64)
  have H1 := Lib.hid (And.intro (H.out.tabs.below HB1.out) (H.out.stabs.below HB1.out))
  clear hm5 hnd hnd5 q1 q2
  refine (newC 65536 w1).mono ?_
  rintro e w2 ⟨d, S0, rfl, hd, hS0, hb2⟩
  have OP := Lib.hid (open14 d nd 65536 S0 w1 w2 H1.out.1 H1.out.2 hb2 hS0 hd hn64 (by omega))
  clear hd hS0 hb2 x0 x1 x2 x3 x4 x5 x6 x7
  go_wp2_with fail
  refine OP.out.mono ?_
  rintro e w3 ⟨g, s, S, f, rfl, hF⟩
  have HF := Lib.hid hF
  clear OP hF
  have RF := fun (W : World) => refRight_any (asOwn ev nd 1 1) A n c W (own_fit HFT.out.1 HND.out.2 (by omega) (by omega)) HFT.out.2.1 HFT.out.2.2.1 HFT.out.2.2.2
  have RF : ∀ W, Calls Tryz.prog 10 #[.agg #[.int .i64 (nd : Int), .int .u64 1, .int .u64 1, .int .u8 (ev.kind : Int), .string ev.key, .slice A n c, .float .f64 ev.num, .int .i64 ev.node]] W fun e' w' => e' = .returned (.int .i64 (rightE (asOwn ev nd 1 1) : Int)) ∧ Below W.heap.size W w' := RF
  have hry : Right (asOwn ev nd 1 1) := (right_iff _).1 (by rw [HND.out.1]; exact HN3.out.2.1)
  have HRY := Lib.hid hry
  have WR : Calls Tryz.prog 8 #[.pointer (some ⟨g, 0, none⟩), .agg #[.int .i64 ev.writer, .int .u64 (ev.seq : Int), .int .u64 (ev.time : Int), .int .u8 (ev.kind : Int), .string ev.key, .slice A n c, .float .f64 ev.num, .int .i64 ev.node]] w3 _ := HF.out.fine H1.out.1 H1.out.2 (by omega) (by omega) (by rw [HND.out.1]; exact HN3.out.1) ev A n c (H.out.sees.below HB1.out) HFT.out.1 (by have := HK.out.2; have := HFT.out.2.1; omega) (by have := HK.out.1; omega) (by rw [HND.out.1]; exact HN3.out.2.1) HN3.out.2.2
  rw [show rightE (asOwn ev nd 1 1) = 0 by rw [HND.out.1]; exact HN3.out.2.1] at RF
  have RF := Lib.hid RF
  have WR := Lib.hid WR
  obtain ⟨ck, hck⟩ : ∃ ck, ck = s.ck := ⟨_, rfl⟩
  have HCK := Lib.hid hck
  have HBW := Lib.hid HF.out.below
  have HS2 := Lib.hid HF.out.sto
  have HCK3 := Lib.hid (show ((noteS s (asOwn ev nd 1 1)).ck : Int) = 1 from rfl)
  obtain ⟨s3, hs3⟩ : ∃ s3, s3 = noteS s (asOwn ev nd 1 1) := ⟨_, rfl⟩
  have HS3 := Lib.hid hs3
  rw [← hs3] at HCK3
  obtain ⟨s2, hs2⟩ : ∃ s2, s2 = s := ⟨_, rfl⟩
  rw [← hs2] at HS2 HCK
  clear hck hs2 hs3 hry
  have G4s := (HBW.out.block b4 (Array.getElem?_eq_some_iff.1 G1.out).1).trans G1.out
  have g4 := G4s
  unfold Ev.row at g4
  obtain ⟨x0, x1, x2, x3, x4, x5, x6, x7⟩ := box8 g4
  clear g4
  have G4s := Lib.hid G4s
  go_wp2_with fail
  refine (clock_any g s2 w3 HS2.out).mono ?_
  rintro e w3 ⟨rfl, rfl⟩
  rw [← HCK.out]
  go_wp2_with fail
  refine WR.out.mono ?_
  rintro e w5 ⟨-, ⟨A', n', c', rfl, hse5⟩, hst5, hbw5⟩
  rw [← HS3.out] at hst5
  obtain ⟨z, hz⟩ : ∃ z, z = plainE (asOwn ev nd 1 1) := ⟨_, rfl⟩
  rw [← hz] at hse5 ⊢
  have HZ := Lib.hid hz
  clear hz
  have G5 := Lib.hid ((hbw5.block b4 (Array.getElem?_eq_some_iff.1 G1.out).1).trans G1.out)
  have HS5 := Lib.hid hst5
  have HB5 := Lib.hid hbw5
  have E5 := Lib.hid hse5
  have Z5 := Lib.hid (heap_alloc_new w5 (.cells zRowE 26))
  have hal5 := (Below.refl w5.heap.size w5).alloc (Nat.le_refl _) (.cells zRowE 26)
  have G5a := Lib.hid ((hal5.block b4 (Array.getElem?_eq_some_iff.1 G5.out).1).trans G5.out)
  have HS5a := Lib.hid (HS5.out.below hal5)
  have HB5a := Lib.hid (HB5.out.trans (hal5.mono HB5.out.size))
  have hl5 : b4 < w5.heap.size ∧ g < w5.heap.size ∧ w1.heap.size ≤ w5.heap.size := ⟨(Array.getElem?_eq_some_iff.1 G5.out).1, HS5.out.lt, HB5.out.size⟩
  have HL5 := Lib.hid hl5
  clear hal5 hst5 hbw5 hse5 hl5 x0 x1 x2 x3 x4 x5 x6 x7
  unfold Ev.val
  go_wp2_with (first
    | (refine wpList_putRow rfl 26 (.tmp 10) (.tmp 45) rfl w5.heap.size 26 zRowE (z.row A' n' c') rfl rfl Z5.out (by kernel_rfl) rfl (by simp [zRowE, Ev.row, Value.oneCell']) ?_))
  intro w6 hW6 hbe6
  obtain ⟨b10, hb10⟩ : ∃ b10, b10 = w5.heap.size := ⟨_, rfl⟩
  rw [← hb10] at hW6 hbe6 ⊢
  have h10 : b4 ≠ b10 ∧ g ≠ b10 ∧ w1.heap.size ≤ b10 := by have := HL5.out; omega
  have HB10 := Lib.hid (And.intro hb10 h10)
  have G6 := Lib.hid ((hbe6.block b4 (Array.getElem?_eq_some_iff.1 G5a.out).1 (by simp; exact h10.1)).trans G5a.out)
  have HS6 := Lib.hid (HS5a.out.beside hbe6 (by simp; exact h10.2.1))
  have HB6 := Lib.hid (Below.beside HB5a.out hbe6 HB5a.out.size (by simp; exact h10.2.2))
  have X6 := Lib.hid (show w6.heap[b10]? = some (.cells (z.row A' n' c') 26 (0, 0)) from hW6)
  have E6 := Lib.hid ((E5.out.below ((Below.refl w5.heap.size w5).alloc (Nat.le_refl _) (.cells zRowE 26))).beside hbe6 (out_old E5.out (fun k hk => by simp at hk; subst hk; exact Nat.le_of_eq hb10.symm)))
  clear hb10 h10 hW6 hbe6 G5a HS5a HB5a Z5 G5 HS5 HB5
  have g6 := G6.out
  unfold Ev.row at g6
  obtain ⟨x0, x1, x2, x3, x4, x5, x6, x7⟩ := box8 g6
  clear g6
  have Z6 := Lib.hid (heap_alloc_new w6 (.cells zRowE 26))
  have hal6 := (Below.refl w6.heap.size w6).alloc (Nat.le_refl _) (.cells zRowE 26)
  have G6a := Lib.hid ((hal6.block b4 (Array.getElem?_eq_some_iff.1 G6.out).1).trans G6.out)
  have X6a := Lib.hid ((hal6.block b10 (Array.getElem?_eq_some_iff.1 X6.out).1).trans X6.out)
  have HS6a := Lib.hid (HS6.out.below hal6)
  have HB6a := Lib.hid (HB6.out.trans (hal6.mono HB6.out.size))
  have HL6 := Lib.hid (show b4 < w6.heap.size ∧ g < w6.heap.size ∧ w1.heap.size ≤ w6.heap.size ∧ b10 < w6.heap.size from ⟨(Array.getElem?_eq_some_iff.1 G6.out).1, HS6.out.lt, HB6.out.size, (Array.getElem?_eq_some_iff.1 X6.out).1⟩)
  clear hal6
  go_wp2_with (first
    | (refine wpList_putRow rfl 26 (.tmp 13) (.tmp 47) rfl w6.heap.size 26 zRowE #[.int .i64 ev.writer, .int .u64 (ev.seq : Int), .int .u64 (ev.time : Int), .int .u8 (ev.kind : Int), .string ev.key, .slice A n c, .float .f64 ev.num, .int .i64 ev.node] rfl rfl Z6.out (by kernel_rfl) rfl (by simp [Value.oneCell']) ?_))
  intro w7 hW7 hbe7
  obtain ⟨b13, hb13⟩ : ∃ b13, b13 = w6.heap.size := ⟨_, rfl⟩
  rw [← hb13] at hW7 hbe7 ⊢
  have h13 : b4 ≠ b13 ∧ g ≠ b13 ∧ w1.heap.size ≤ b13 ∧ b10 ≠ b13 := by have := HL6.out; omega
  have H13 := Lib.hid (And.intro hb13 h13)
  have G7 := Lib.hid ((hbe7.block b4 (Array.getElem?_eq_some_iff.1 G6a.out).1 (by simp; exact h13.1)).trans G6a.out)
  have X7 := Lib.hid ((hbe7.block b10 (Array.getElem?_eq_some_iff.1 X6a.out).1 (by simp; exact h13.2.2.2)).trans X6a.out)
  have HS7 := Lib.hid (HS6a.out.beside hbe7 (by simp; exact h13.2.1))
  have HB7 := Lib.hid (Below.beside HB6a.out hbe7 HB6a.out.size (by simp; exact h13.2.2.1))
  have E7 := Lib.hid ((E6.out.below ((Below.refl w6.heap.size w6).alloc (Nat.le_refl _) (.cells zRowE 26))).beside hbe7 (out_old E6.out (fun k hk => by simp at hk; subst hk; exact Nat.le_of_eq hb13.symm)))
  have Y7 := Lib.hid hW7
  obtain ⟨y0, y1, y2, y3, y4, y5, y6, y7⟩ := box8 hW7
  have f0 := frozen_row0 (i := 0) hW7
  have f1 := frozen_row0 (i := 1) hW7
  have f2 := frozen_row0 (i := 2) hW7
  have hl13 := (Array.getElem?_eq_some_iff.1 hW7).1
  clear hb13 hW7 hbe7 x0 x1 x2 x3 x4 x5 x6 x7 G6a HS6a HB6a Z6 X6a X6 G6 HS6 HB6 h13
  go_upto_region 14 with fail
  have hbe8 : Beside [b13] w7 (((w7.setCell ⟨b13, 0, none⟩ (.int .i64 (nd : Int))).setCell ⟨b13, 1, none⟩ (.int .u64 1)).setCell ⟨b13, 2, none⟩ (.int .u64 1)) := (((Beside.refl [b13] w7).setCell (by simp) _).setCell (by simp) _).setCell (by simp) _
  have Y8 := Lib.hid (show (((w7.setCell ⟨b13, 0, none⟩ (.int .i64 (nd : Int))).setCell ⟨b13, 1, none⟩ (.int .u64 1)).setCell ⟨b13, 2, none⟩ (.int .u64 1)).heap[b13]? = some (.cells ((asOwn ev nd 1 1).row A n c) 26 (0, 0)) from (heapSame (i := 2) (v := .int .u64 1) (heapSame (i := 1) (v := .int .u64 1) (heapSame (i := 0) (v := .int .i64 (nd : Int)) Y7.out))).trans rfl)
  have G8 := Lib.hid ((hbe8.block b4 (Array.getElem?_eq_some_iff.1 G7.out).1 (by simp; exact H13.out.2.1)).trans G7.out)
  have X8 := Lib.hid ((hbe8.block b10 (Array.getElem?_eq_some_iff.1 X7.out).1 (by simp; exact H13.out.2.2.2.2)).trans X7.out)
  have HS8 := Lib.hid (HS7.out.beside hbe8 (by simp; exact H13.out.2.2.1))
  have HB8 := Lib.hid (Below.beside HB7.out hbe8 HB7.out.size (by simp; exact H13.out.2.2.2.1))
  have E8 := Lib.hid (E7.out.beside hbe8 (out_old E6.out (fun k hk => by simp at hk; subst hk; exact Nat.le_of_eq H13.out.1.symm)))
  clear hbe8 y0 y1 y2 y3 y4 y5 y6 y7 f0 f1 f2 hl13 Y7 G7 X7 HS7 HB7
  generalize ((w7.setCell ⟨b13, 0, none⟩ (.int .i64 (nd : Int))).setCell ⟨b13, 1, none⟩ (.int .u64 1)).setCell ⟨b13, 2, none⟩ (.int .u64 1) = w8 at Y8 G8 X8 HS8 HB8 E8 ⊢
  have g8 := G8.out
  unfold Ev.row at g8
  obtain ⟨x0, x1, x2, x3, x4, x5, x6, x7⟩ := box8 g8
  have yy := Y8.out
  unfold Ev.row asOwn at yy
  obtain ⟨y0, y1, y2, y3, y4, y5, y6, y7⟩ := box8 yy
  clear g8 yy
  have hd3 : decide ((3 : Int) ≤ (nd : Int)) = false := decide_eq_false (by have := HN3.out.1; have := HND.out.1; omega)
  go_wp2_with fail
  refine (RF.out w8).mono ?_
  rintro e w9 ⟨rfl, hb9⟩
  have G9 := Lib.hid ((hb9.block b4 (Array.getElem?_eq_some_iff.1 G8.out).1).trans G8.out)
  have X9 := Lib.hid ((hb9.block b10 (Array.getElem?_eq_some_iff.1 X8.out).1).trans X8.out)
  have Y9 := Lib.hid ((hb9.block b13 (Array.getElem?_eq_some_iff.1 Y8.out).1).trans Y8.out)
  have HS9 := Lib.hid (HS8.out.below hb9)
  have HB9 := Lib.hid (HB8.out.trans (hb9.mono HB8.out.size))
  have gg := G9.out
  unfold Ev.row at gg
  have yy := Y9.out
  unfold Ev.row asOwn at yy
  clear x0 x1 x2 x3 x4 x5 x6 x7 y0 y1 y2 y3 y4 y5 y6 y7
  obtain ⟨x0, x1, x2, x3, x4, x5, x6, x7⟩ := box8 gg
  obtain ⟨y0, y1, y2, y3, y4, y5, y6, y7⟩ := box8 yy
  clear yy
  have SM := refSame_any (plainE (asOwn ev nd 1 1)) (asOwn ev nd 1 1) A' A n' c' n c w9 (by rw [← HZ.out]; exact E8.out.below hb9) ((H.out.sees.below HB1.out).below HB9.out) (plain_num HFT.out.1.q) HFT.out.1.q (plain_right HRY.out) HRY.out
  rw [plain_evL HRY.out.k1, ← HZ.out, decide_eq_true rfl] at SM
  have SM : Calls Tryz.prog 11 #[z.val A' n' c', .agg #[.int .i64 (nd : Int), .int .u64 1, .int .u64 1, .int .u8 (ev.kind : Int), .string ev.key, .slice A n c, .float .f64 ev.num, .int .i64 ev.node]] w9 fun e' w' => e' = .returned (.bool true) ∧ Below w9.heap.size w9 w' := SM
  have SM := Lib.hid SM
  have xx := X9.out
  unfold Ev.row at xx
  obtain ⟨k0, k1, k2, k3, k4, k5, k6, k7⟩ := box8 xx
  have HSE := HS9
  clear xx gg hb9
  unfold Ev.val at SM
  have q5 : ((ev.kind : Int) == 5) = false := by rw [beq_eq_false_iff_ne]; have := HK5.out; omega
  go_wp2_with fail
  refine SM.out.mono ?_
  rintro e w10 ⟨rfl, hb10⟩
  have HS10 := Lib.hid (HSE.out.below hb10)
  have HBE := Lib.hid (HB1.out.trans ((HB9.out.trans (hb10.mono HB9.out.size)).mono HB1.out.size))
  clear hb10 x0 x1 x2 x3 x4 x5 x6 x7 y0 y1 y2 y3 y4 y5 y6 y7 k0 k1 k2 k3 k4 k5 k6 k7
  go_wp2_with fail
  refine (clock_any g s3 w10 HS10.out).mono ?_
  rintro e w11 ⟨rfl, rfl⟩
  rw [HCK3.out]
  go_wp2
  go_ret
  exact ⟨rfl, HBE.out⟩
end Go.Proofs.YtfkiajidcbefjaaGreatDoor.St
