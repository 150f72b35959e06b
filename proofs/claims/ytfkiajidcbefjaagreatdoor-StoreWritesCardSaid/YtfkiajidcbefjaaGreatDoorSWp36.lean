/- The law StoreWrites. The law StoreWrites, whole. A struct of eight one-cell fields, by value: opened, and shut. No program. -/
import Derived.Lib.SmallJoins
import Derived.ShutString
import Derived.WalkLawsBesides
import Derived.Laws.Cover2
import Derived.SizedLaws
import Derived.ChangeSlices
import Derived.Test.YtfkiajidcbefjaaGreatDoorSWp09
import Derived.Test.YtfkiajidcbefjaaGreatDoorSWp34
import Derived.Test.YtfkiajidcbefjaaGreatDoorSWp35
namespace Go.Proofs.YtfkiajidcbefjaaGreatDoor.St
open Go Go.RowKit Go.Proofs.YtfkiajidcbefjaaGreatDoor.Words Go.Proofs.YtfkiajidcbefjaaGreatDoor.Enc Go.Proofs.YtfkiajidcbefjaaGreatDoor.Made Go.Proofs.YtfkiajidcbefjaaGreatDoor.Dsk Go.Proofs.YtfkiajidcbefjaaGreatDoor.Seg Go.Proofs.YtfkiajidcbefjaaGreatDoor.Evt Go.Proofs.YtfkiajidcbefjaaGreatDoor.Fol
open Go.Proofs.YtfkiajidcbefjaaGreatDoor.Fd (XS xsX xsO xsC Feed FeedAt FNext Part SegS blk bx hdA Rise evsP)
set_option linter.unusedVariables false
set_option linter.unusedSimpArgs false

set_option maxRecDepth 100000 in
set_option maxHeartbeats 4000000 in
theorem sw_fineB (node : Nat) (ev : Ev) (A : Option Addr) (n c : Nat) (w : World) (hnode : node < 256) (h : Given ev A n c w) (hk : ev.key.size ≤ 100 ∧ n ≤ 500) (hn3 : node % 5 < 3) (nj : Nat) (hk5 : ev.kind = 5 ∧ ev.node = (nj : Int) ∧ ¬ nj < 3) (hw : rightE (asOwn ev (node % 5) 1 1) = 0) (h5 : ev.kind = 5 → ∃ nj : Nat, ev.node = (nj : Int) ∧ nj < 64 ∧ ¬ nj < 3) : Calls Tryz.prog 3 #[.int .u8 (node : Int), ev.val A n c, .bool false] w fun e w' => e = .returned (.bool true) ∧ Below w.heap.size w w' := by
  have hsf := store_float Tryz.prog
  obtain ⟨u, hu⟩ : ∃ u, u = w.alloc (.cells #[.int .i64 ev.writer, .int .u64 (ev.seq : Int), .int .u64 (ev.time : Int), .int .u8 (ev.kind : Int), .string ev.key, .slice A n c, .float .f64 ev.num, .int .i64 ev.node] 26) := ⟨_, rfl⟩
  have hbu : Below w.heap.size w u := by rw [hu]; exact (Below.refl _ _).alloc (Nat.le_refl _) _
  have G := Lib.hid (show u.heap[w.heap.size]? = some (.cells (ev.row A n c) 26 (0, 0)) by rw [hu]; exact heap_alloc_new w _)
  have HBU := Lib.hid hbu
  have AW := Lib.hid (awake14 u (h.tabs.below hbu) (h.stabs.below hbu))
  have HU := Lib.hid hu
  have H := Lib.hid h
  clear hu hbu h
  have HK := Lib.hid hk
  clear hk
  have HN3 := Lib.hid (And.intro hn3 (And.intro hw h5))
  have HK5 := Lib.hid hk5
  clear hn3 hw h5 hk5
  have HFT := Lib.hid (And.intro H.out.fit (And.intro (show n = ev.text.length from H.out.sees.1.symm) (And.intro (show ev.text.length ≤ 9223372036854775807 by have := H.out.sees.1; have := H.out.n1; omega) H.out.key)))
  unfold Ev.val
  go_enter Tryz.func3, Tryz.ntmps3
  go_wp2_with fail
  rw [← HU.out]
  refine AW.out.mono ?_
  rintro e w1 ⟨rfl, hb1⟩
  have G1 := Lib.hid ((hb1.block _ (Array.getElem?_eq_some_iff.1 G.out).1).trans G.out)
  have HB1 := Lib.hid (HBU.out.trans (hb1.mono HBU.out.size))
  obtain ⟨b4, hb4⟩ : ∃ b4, b4 = w.heap.size := ⟨_, rfl⟩
  rw [← hb4] at G1 ⊢
  have HB4 := Lib.hid hb4
  have g1 := G1.out
  unfold Ev.row at g1
  obtain ⟨x0, x1, x2, x3, x4, x5, x6, x7⟩ := box8 g1
  clear hb1 hb4 g1 AW
  have q1 : decide ((100 : Int) < (ev.key.size : Int)) = false := decide_eq_false (by have := HK.out.1; omega)
  have q2 : decide ((500 : Int) < (n : Int)) = false := decide_eq_false (by have := HK.out.2; omega)
  have hm5 : (node : Int).tmod 5 = ((node % 5 : Nat) : Int) := by rw [Int.tmod_eq_emod_of_nonneg (by omega)]; omega
  go_upto_region 5 with fail
  obtain ⟨nd, hnd, hnd5⟩ : ∃ nd : Nat, (node : Int) % 5 = (nd : Int) ∧ nd = node % 5 := ⟨node % 5, by omega, rfl⟩
  rw [hnd]
  have hn64 : nd < 64 := by omega
  have HND := Lib.hid (And.intro hnd5 hn64)
  have H1 := Lib.hid (And.intro (H.out.tabs.below HB1.out) (H.out.stabs.below HB1.out))
  clear hm5 hnd hnd5 q1 q2
  refine (newC 65536 w1).mono ?_
  rintro e w2 ⟨d, S0, rfl, hd, hS0, hb2⟩
  have OP := Lib.hid (open14 d nd 65536 S0 w1 w2 H1.out.1 H1.out.2 hb2 hS0 hd hn64 (by omega))
  clear hd hS0 hb2 x0 x1 x2 x3 x4 x5 x6 x7
  go_wp2_with fail
  refine OP.out.mono ?_
  rintro e w3 ⟨g, s, S, f, rfl, hF⟩
  have HF := Lib.hid hF
  clear OP hF
  have RF := fun (W : World) => refRight_any (asOwn ev nd 1 1) A n c W (own_fit HFT.out.1 HND.out.2 (by omega) (by omega)) HFT.out.2.1 HFT.out.2.2.1 HFT.out.2.2.2
  have RF : ∀ W, Calls Tryz.prog 10 #[.agg #[.int .i64 (nd : Int), .int .u64 1, .int .u64 1, .int .u8 (ev.kind : Int), .string ev.key, .slice A n c, .float .f64 ev.num, .int .i64 ev.node]] W fun e' w' => e' = .returned (.int .i64 (rightE (asOwn ev nd 1 1) : Int)) ∧ Below W.heap.size W w' := RF
  have hry : Right (asOwn ev nd 1 1) := (right_iff _).1 (by rw [HND.out.1]; exact HN3.out.2.1)
  have HRY := Lib.hid hry
  have WR : Calls Tryz.prog 8 #[.pointer (some ⟨g, 0, none⟩), .agg #[.int .i64 ev.writer, .int .u64 (ev.seq : Int), .int .u64 (ev.time : Int), .int .u8 (ev.kind : Int), .string ev.key, .slice A n c, .float .f64 ev.num, .int .i64 ev.node]] w3 _ := HF.out.fine H1.out.1 H1.out.2 (by omega) (by omega) (by rw [HND.out.1]; exact HN3.out.1) ev A n c (H.out.sees.below HB1.out) HFT.out.1 (by have := HK.out.2; have := HFT.out.2.1; omega) (by have := HK.out.1; omega) (by rw [HND.out.1]; exact HN3.out.2.1) HN3.out.2.2
  rw [show rightE (asOwn ev nd 1 1) = 0 by rw [HND.out.1]; exact HN3.out.2.1] at RF
  have RF := Lib.hid RF
  have WR := Lib.hid WR
  obtain ⟨ck, hck⟩ : ∃ ck, ck = s.ck := ⟨_, rfl⟩
  have HCK := Lib.hid hck
  have HBW := Lib.hid HF.out.below
  have HS2 := Lib.hid HF.out.sto
  have HCK3 := Lib.hid (show ((noteS s (asOwn ev nd 1 1)).ck : Int) = 1 from rfl)
  obtain ⟨s3, hs3⟩ : ∃ s3, s3 = noteS s (asOwn ev nd 1 1) := ⟨_, rfl⟩
  have HS3 := Lib.hid hs3
  rw [← hs3] at HCK3
  obtain ⟨s2, hs2⟩ : ∃ s2, s2 = s := ⟨_, rfl⟩
  rw [← hs2] at HS2 HCK
  clear hck hs2 hs3 hry
  have G4s := (HBW.out.block b4 (Array.getElem?_eq_some_iff.1 G1.out).1).trans G1.out
  have g4 := G4s
  unfold Ev.row at g4
  obtain ⟨x0, x1, x2, x3, x4, x5, x6, x7⟩ := box8 g4
  clear g4
  have G4s := Lib.hid G4s
  go_wp2_with fail
  refine (clock_any g s2 w3 HS2.out).mono ?_
  rintro e w3 ⟨rfl, rfl⟩
  rw [← HCK.out]
  go_wp2_with fail
  refine WR.out.mono ?_
  rintro e w5 ⟨-, ⟨A', n', c', rfl, hse5⟩, hst5, hbw5⟩
  rw [← HS3.out] at hst5
  obtain ⟨z, hz⟩ : ∃ z, z = plainE (asOwn ev nd 1 1) := ⟨_, rfl⟩
  rw [← hz] at hse5 ⊢
  have HZ := Lib.hid hz
  clear hz
  have G5 := Lib.hid ((hbw5.block b4 (Array.getElem?_eq_some_iff.1 G1.out).1).trans G1.out)
  have HS5 := Lib.hid hst5
  have HB5 := Lib.hid hbw5
  have E5 := Lib.hid hse5
  have Z5 := Lib.hid (heap_alloc_new w5 (.cells zRowE 26))
  have hal5 := (Below.refl w5.heap.size w5).alloc (Nat.le_refl _) (.cells zRowE 26)
  have G5a := Lib.hid ((hal5.block b4 (Array.getElem?_eq_some_iff.1 G5.out).1).trans G5.out)
  have HS5a := Lib.hid (HS5.out.below hal5)
  have HB5a := Lib.hid (HB5.out.trans (hal5.mono HB5.out.size))
  have hl5 : b4 < w5.heap.size ∧ g < w5.heap.size ∧ w1.heap.size ≤ w5.heap.size := ⟨(Array.getElem?_eq_some_iff.1 G5.out).1, HS5.out.lt, HB5.out.size⟩
  have HL5 := Lib.hid hl5
  clear hal5 hst5 hbw5 hse5 hl5 x0 x1 x2 x3 x4 x5 x6 x7
  unfold Ev.val
  go_wp2_with (first
    | (refine wpList_putRow rfl 26 (.tmp 10) (.tmp 45) rfl w5.heap.size 26 zRowE (z.row A' n' c') rfl rfl Z5.out (by kernel_rfl) rfl (by simp [zRowE, Ev.row, Value.oneCell']) ?_))
  intro w6 hW6 hbe6
  obtain ⟨b10, hb10⟩ : ∃ b10, b10 = w5.heap.size := ⟨_, rfl⟩
  rw [← hb10] at hW6 hbe6 ⊢
  have h10 : b4 ≠ b10 ∧ g ≠ b10 ∧ w1.heap.size ≤ b10 := by have := HL5.out; omega
  have HB10 := Lib.hid (And.intro hb10 h10)
  have G6 := Lib.hid ((hbe6.block b4 (Array.getElem?_eq_some_iff.1 G5a.out).1 (by simp; exact h10.1)).trans G5a.out)
  have HS6 := Lib.hid (HS5a.out.beside hbe6 (by simp; exact h10.2.1))
  have HB6 := Lib.hid (Below.beside HB5a.out hbe6 HB5a.out.size (by simp; exact h10.2.2))
  have X6 := Lib.hid (show w6.heap[b10]? = some (.cells (z.row A' n' c') 26 (0, 0)) from hW6)
  have E6 := Lib.hid ((E5.out.below ((Below.refl w5.heap.size w5).alloc (Nat.le_refl _) (.cells zRowE 26))).beside hbe6 (out_old E5.out (fun k hk => by simp at hk; subst hk; exact Nat.le_of_eq hb10.symm)))
  clear hb10 h10 hW6 hbe6 G5a HS5a HB5a Z5 G5 HS5 HB5
  have g6 := G6.out
  unfold Ev.row at g6
  obtain ⟨x0, x1, x2, x3, x4, x5, x6, x7⟩ := box8 g6
  clear g6
  have Z6 := Lib.hid (heap_alloc_new w6 (.cells zRowE 26))
  have hal6 := (Below.refl w6.heap.size w6).alloc (Nat.le_refl _) (.cells zRowE 26)
  have G6a := Lib.hid ((hal6.block b4 (Array.getElem?_eq_some_iff.1 G6.out).1).trans G6.out)
  have X6a := Lib.hid ((hal6.block b10 (Array.getElem?_eq_some_iff.1 X6.out).1).trans X6.out)
  have HS6a := Lib.hid (HS6.out.below hal6)
  have HB6a := Lib.hid (HB6.out.trans (hal6.mono HB6.out.size))
  have HL6 := Lib.hid (show b4 < w6.heap.size ∧ g < w6.heap.size ∧ w1.heap.size ≤ w6.heap.size ∧ b10 < w6.heap.size from ⟨(Array.getElem?_eq_some_iff.1 G6.out).1, HS6.out.lt, HB6.out.size, (Array.getElem?_eq_some_iff.1 X6.out).1⟩)
  clear hal6
  go_wp2_with (first
    | (refine wpList_putRow rfl 26 (.tmp 13) (.tmp 47) rfl w6.heap.size 26 zRowE #[.int .i64 ev.writer, .int .u64 (ev.seq : Int), .int .u64 (ev.time : Int), .int .u8 (ev.kind : Int), .string ev.key, .slice A n c, .float .f64 ev.num, .int .i64 ev.node] rfl rfl Z6.out (by kernel_rfl) rfl (by simp [Value.oneCell']) ?_))
  intro w7 hW7 hbe7
  obtain ⟨b13, hb13⟩ : ∃ b13, b13 = w6.heap.size := ⟨_, rfl⟩
  rw [← hb13] at hW7 hbe7 ⊢
  have h13 : b4 ≠ b13 ∧ g ≠ b13 ∧ w1.heap.size ≤ b13 ∧ b10 ≠ b13 := by have := HL6.out; omega
  have H13 := Lib.hid (And.intro hb13 h13)
  have G7 := Lib.hid ((hbe7.block b4 (Array.getElem?_eq_some_iff.1 G6a.out).1 (by simp; exact h13.1)).trans G6a.out)
  have X7 := Lib.hid ((hbe7.block b10 (Array.getElem?_eq_some_iff.1 X6a.out).1 (by simp; exact h13.2.2.2)).trans X6a.out)
  have HS7 := Lib.hid (HS6a.out.beside hbe7 (by simp; exact h13.2.1))
  have HB7 := Lib.hid (Below.beside HB6a.out hbe7 HB6a.out.size (by simp; exact h13.2.2.1))
  have E7 := Lib.hid ((E6.out.below ((Below.refl w6.heap.size w6).alloc (Nat.le_refl _) (.cells zRowE 26))).beside hbe7 (out_old E6.out (fun k hk => by simp at hk; subst hk; exact Nat.le_of_eq hb13.symm)))
  have Y7 := Lib.hid hW7
  obtain ⟨y0, y1, y2, y3, y4, y5, y6, y7⟩ := box8 hW7
  have f0 := frozen_row0 (i := 0) hW7
  have f1 := frozen_row0 (i := 1) hW7
  have f2 := frozen_row0 (i := 2) hW7
  have hl13 := (Array.getElem?_eq_some_iff.1 hW7).1
  clear hb13 hW7 hbe7 x0 x1 x2 x3 x4 x5 x6 x7 G6a HS6a HB6a Z6 X6a X6 G6 HS6 HB6 h13
  go_upto_region 14 with fail
  have hbe8 : Beside [b13] w7 (((w7.setCell ⟨b13, 0, none⟩ (.int .i64 (nd : Int))).setCell ⟨b13, 1, none⟩ (.int .u64 1)).setCell ⟨b13, 2, none⟩ (.int .u64 1)) := (((Beside.refl [b13] w7).setCell (by simp) _).setCell (by simp) _).setCell (by simp) _
  have Y8 := Lib.hid (show (((w7.setCell ⟨b13, 0, none⟩ (.int .i64 (nd : Int))).setCell ⟨b13, 1, none⟩ (.int .u64 1)).setCell ⟨b13, 2, none⟩ (.int .u64 1)).heap[b13]? = some (.cells ((asOwn ev nd 1 1).row A n c) 26 (0, 0)) from (heapSame (i := 2) (v := .int .u64 1) (heapSame (i := 1) (v := .int .u64 1) (heapSame (i := 0) (v := .int .i64 (nd : Int)) Y7.out))).trans rfl)
  have G8 := Lib.hid ((hbe8.block b4 (Array.getElem?_eq_some_iff.1 G7.out).1 (by simp; exact H13.out.2.1)).trans G7.out)
  have X8 := Lib.hid ((hbe8.block b10 (Array.getElem?_eq_some_iff.1 X7.out).1 (by simp; exact H13.out.2.2.2.2)).trans X7.out)
  have HS8 := Lib.hid (HS7.out.beside hbe8 (by simp; exact H13.out.2.2.1))
  have HB8 := Lib.hid (Below.beside HB7.out hbe8 HB7.out.size (by simp; exact H13.out.2.2.2.1))
  have E8 := Lib.hid (E7.out.beside hbe8 (out_old E6.out (fun k hk => by simp at hk; subst hk; exact Nat.le_of_eq H13.out.1.symm)))
  clear hbe8 y0 y1 y2 y3 y4 y5 y6 y7 f0 f1 f2 hl13 Y7 G7 X7 HS7 HB7
  generalize ((w7.setCell ⟨b13, 0, none⟩ (.int .i64 (nd : Int))).setCell ⟨b13, 1, none⟩ (.int .u64 1)).setCell ⟨b13, 2, none⟩ (.int .u64 1) = w8 at Y8 G8 X8 HS8 HB8 E8 ⊢
  have g8 := G8.out
  unfold Ev.row at g8
  obtain ⟨x0, x1, x2, x3, x4, x5, x6, x7⟩ := box8 g8
  have yy := Y8.out
  unfold Ev.row asOwn at yy
  obtain ⟨y0, y1, y2, y3, y4, y5, y6, y7⟩ := box8 yy
  clear g8 yy
  have hd3 : decide ((3 : Int) ≤ (nd : Int)) = false := decide_eq_false (by have := HN3.out.1; have := HND.out.1; omega)
  go_wp2_with fail
  refine (RF.out w8).mono ?_
  rintro e w9 ⟨rfl, hb9⟩
  have G9 := Lib.hid ((hb9.block b4 (Array.getElem?_eq_some_iff.1 G8.out).1).trans G8.out)
  have X9 := Lib.hid ((hb9.block b10 (Array.getElem?_eq_some_iff.1 X8.out).1).trans X8.out)
  have Y9 := Lib.hid ((hb9.block b13 (Array.getElem?_eq_some_iff.1 Y8.out).1).trans Y8.out)
  have HS9 := Lib.hid (HS8.out.below hb9)
  have HB9 := Lib.hid (HB8.out.trans (hb9.mono HB8.out.size))
  have gg := G9.out
  unfold Ev.row at gg
  have yy := Y9.out
  unfold Ev.row asOwn at yy
  clear x0 x1 x2 x3 x4 x5 x6 x7 y0 y1 y2 y3 y4 y5 y6 y7
  obtain ⟨x0, x1, x2, x3, x4, x5, x6, x7⟩ := box8 gg
  obtain ⟨y0, y1, y2, y3, y4, y5, y6, y7⟩ := box8 yy
  clear yy
  have SM := refSame_any (plainE (asOwn ev nd 1 1)) (asOwn ev nd 1 1) A' A n' c' n c w9 (by rw [← HZ.out]; exact E8.out.below hb9) ((H.out.sees.below HB1.out).below HB9.out) (plain_num HFT.out.1.q) HFT.out.1.q (plain_right HRY.out) HRY.out
  rw [plain_evL HRY.out.k1, ← HZ.out, decide_eq_true rfl] at SM
  have SM : Calls Tryz.prog 11 #[z.val A' n' c', .agg #[.int .i64 (nd : Int), .int .u64 1, .int .u64 1, .int .u8 (ev.kind : Int), .string ev.key, .slice A n c, .float .f64 ev.num, .int .i64 ev.node]] w9 fun e' w' => e' = .returned (.bool true) ∧ Below w9.heap.size w9 w' := SM
  have SM := Lib.hid SM
  have xx := X9.out
  unfold Ev.row at xx
  obtain ⟨k0, k1, k2, k3, k4, k5, k6, k7⟩ := box8 xx
  have HSE := HS9
  clear xx gg hb9
  unfold Ev.val at SM
  have q5 : decide ((nj : Int) < 3) = false := decide_eq_false (by have := HK5.out.2.2; omega)
  rw [HK5.out.1] at x3
  rw [HK5.out.2.1] at x7
  go_wp2_with fail
  refine SM.out.mono ?_
  rintro e w10 ⟨rfl, hb10⟩
  have HS10 := Lib.hid (HSE.out.below hb10)
  have HBE := Lib.hid (HB1.out.trans ((HB9.out.trans (hb10.mono HB9.out.size)).mono HB1.out.size))
  clear hb10 x0 x1 x2 x3 x4 x5 x6 x7 y0 y1 y2 y3 y4 y5 y6 y7 k0 k1 k2 k3 k4 k5 k6 k7
  go_wp2_with fail
  refine (clock_any g s3 w10 HS10.out).mono ?_
  rintro e w11 ⟨rfl, rfl⟩
  rw [HCK3.out]
  go_wp2
  go_ret
  exact ⟨rfl, HBE.out⟩
end Go.Proofs.YtfkiajidcbefjaaGreatDoor.St
namespace Go.Proofs.YtfkiajidcbefjaaGreatDoor.St
open Go Go.RowKit Go.Proofs.YtfkiajidcbefjaaGreatDoor.Words Go.Proofs.YtfkiajidcbefjaaGreatDoor.Enc Go.Proofs.YtfkiajidcbefjaaGreatDoor.Made Go.Proofs.YtfkiajidcbefjaaGreatDoor.Dsk Go.Proofs.YtfkiajidcbefjaaGreatDoor.Seg Go.Proofs.YtfkiajidcbefjaaGreatDoor.Evt Go.Proofs.YtfkiajidcbefjaaGreatDoor.Fol
set_option linter.unusedVariables false
set_option linter.unusedSimpArgs false

theorem writes_law (node : Nat) (ev : Ev) (A : Option Addr) (n c : Nat) (r : Bool) (w : World) (hnode : node < 256) (h : Given ev A n c w) :
    Calls Tryz.prog 3 #[.int .u8 (node : Int), ev.val A n c, .bool r] w fun e w' => e = .returned (.bool true) ∧ Below w.heap.size w w' := by
  by_cases hk : ev.key.size ≤ 100 ∧ n ≤ 500
  · by_cases hn3 : node % 5 < 3
    · cases r with
      | true => exact sw_retired node ev A n c w hnode h hk hn3
      | false =>
        by_cases hw : rightE (asOwn ev (node % 5) 1 1) = 0
        · have hr := (right_iff _).1 hw
          by_cases h5 : ev.kind = 5
          · have hnd := hr.n h5
            obtain ⟨nj, hnj⟩ : ∃ nj : Nat, ev.node = (nj : Int) := ⟨ev.node.toNat, by have : 0 ≤ ev.node := hnd.1; omega⟩
            have hlt : nj < 64 := by have : ev.node ≤ 63 := hnd.2; omega
            by_cases hj : nj < 3
            · exact sw_old node ev A n c w hnode h hk hn3 hw h5 nj hnj hj
            · exact sw_fineB node ev A n c w hnode h hk hn3 nj ⟨h5, hnj, hj⟩ hw fun _ => ⟨nj, hnj, hlt, hj⟩
          · exact sw_fineA node ev A n c w hnode h hk hn3 h5 hw fun h => absurd h h5
        · exact sw_wrong node ev A n c w hnode h hk hn3 hw
    · cases r with
      | true => exact sw_memberR node ev A n c w hnode h hk hn3
      | false => exact sw_member node ev A n c w hnode h hk hn3
  · exact sw_long r node ev A n c w hnode h hk
end Go.Proofs.YtfkiajidcbefjaaGreatDoor.St
namespace Go.Proofs.YtfkiajidcbefjaaGreatDoor.Aggs
open Go Go.ChangeShapes Go.WideShapes Go.ChangeAt Go.Joins Go.Deep Go.RowKit
set_option linter.unusedVariables false
section
variable {H : Type} {enc : TypeId × Value → H} {P : Program} {w : World} {base : Nat} {spare : Nat → Bool} {held : Bool}

theorem trod_float {t : TypeId} {k : FloatKind} {fuel : Nat} {cs : List Value} {x : DataW H × List MemPlace} (ht : P.underlying t = some (.float k)) (h : DataW.trod enc P w base spare held fuel t cs = some x) : ∃ b, cs = [.float k b] ∧ x = (.lit (.float k b), []) ∧ (Lit.float k b).wf = true := by
  cases fuel with
  | zero => simp [DataW.trod] at h
  | succ n =>
    unfold DataW.trod at h
    rw [ht] at h
    split at h <;> simp_all
theorem trod_bool {t : TypeId} {fuel : Nat} {cs : List Value} {x : DataW H × List MemPlace} (ht : P.underlying t = some .bool) (h : DataW.trod enc P w base spare held fuel t cs = some x) : ∃ b, cs = [.bool b] ∧ x = (.lit (.bool b), []) := by
  cases fuel with
  | zero => simp [DataW.trod] at h
  | succ n =>
    unfold DataW.trod at h
    rw [ht] at h
    split at h <;> simp_all

theorem array8 {α : Type} {cs : Array α} (h : cs.size = 8) : ∃ c0 c1 c2 c3 c4 c5 c6 c7, cs = #[c0, c1, c2, c3, c4, c5, c6, c7] := by
  obtain ⟨l⟩ := cs
  match l, h with
  | [c0, c1, c2, c3, c4, c5, c6, c7], _ => exact ⟨c0, c1, c2, c3, c4, c5, c6, c7, rfl⟩
theorem list8 {α : Type} {l : List α} (h : l.length = 8) : ∃ c0 c1 c2 c3 c4 c5 c6 c7, l = [c0, c1, c2, c3, c4, c5, c6, c7] := by
  match l, h with
  | [c0, c1, c2, c3, c4, c5, c6, c7], _ => exact ⟨c0, c1, c2, c3, c4, c5, c6, c7, rfl⟩
theorem open_agg8 {r : Reach} {b0 : Nat} {t : TypeId} {f0 f1 f2 f3 f4 f5 f6 f7 : Field} {v : Value} {d : DataW H} {p : List MemPlace} (hs : P.underlying t = some (.struct #[f0, f1, f2, f3, f4, f5, f6, f7])) (hone : oneCellFields P #[f0, f1, f2, f3, f4, f5, f6, f7] = true) (hC : P.cellsOf t = 8)
    (hv : Value.okWide P w r b0 t v) (h : DataW.Trod enc P w base spare held t v d p) :
    ∃ (v0 v1 v2 v3 v4 v5 v6 v7 : Value) (y0 y1 y2 y3 y4 y5 y6 y7 : DataW H × List MemPlace) (n : Nat), v = .agg #[v0, v1, v2, v3, v4, v5, v6, v7] ∧ d = .agg [y0.1, y1.1, y2.1, y3.1, y4.1, y5.1, y6.1, y7.1] ∧ p = y0.2 ++ (y1.2 ++ (y2.2 ++ (y3.2 ++ (y4.2 ++ (y5.2 ++ (y6.2 ++ (y7.2))))))) ∧
      DataW.trod enc P w base spare held n f0.type [v0] = some y0 ∧ DataW.trod enc P w base spare held n f1.type [v1] = some y1 ∧ DataW.trod enc P w base spare held n f2.type [v2] = some y2 ∧ DataW.trod enc P w base spare held n f3.type [v3] = some y3 ∧ DataW.trod enc P w base spare held n f4.type [v4] = some y4 ∧ DataW.trod enc P w base spare held n f5.type [v5] = some y5 ∧ DataW.trod enc P w base spare held n f6.type [v6] = some y6 ∧ DataW.trod enc P w base spare held n f7.type [v7] = some y7 := by
  obtain ⟨cs, rfl, hsz⟩ := okWide_struct hs hv
  obtain ⟨c0, c1, c2, c3, c4, c5, c6, c7, rfl⟩ := array8 (hsz.trans hC)
  obtain ⟨fuel, hf⟩ := h
  obtain ⟨xs, n, _, hx, hl, hlen, hg⟩ := DataW.trod_struct hs hf
  obtain ⟨y0, y1, y2, y3, y4, y5, y6, y7, rfl⟩ := list8 (hlen.trans rfl)
  obtain ⟨o0, k0⟩ := hone_of hone 0 f0 rfl
  obtain ⟨o1, k1⟩ := hone_of hone 1 f1 rfl
  obtain ⟨o2, k2⟩ := hone_of hone 2 f2 rfl
  obtain ⟨o3, k3⟩ := hone_of hone 3 f3 rfl
  obtain ⟨o4, k4⟩ := hone_of hone 4 f4 rfl
  obtain ⟨o5, k5⟩ := hone_of hone 5 f5 rfl
  obtain ⟨o6, k6⟩ := hone_of hone 6 f6 rfl
  obtain ⟨o7, k7⟩ := hone_of hone 7 f7 rfl
  simp only [Prod.mk.injEq] at hx
  refine ⟨c0, c1, c2, c3, c4, c5, c6, c7, y0, y1, y2, y3, y4, y5, y6, y7, n, rfl, hx.1, by simpa using hx.2, ?_, ?_, ?_, ?_, ?_, ?_, ?_, ?_⟩
  · simpa [Value.cells, o0, k0] using hg 0 f0 rfl
  · simpa [Value.cells, o1, k1] using hg 1 f1 rfl
  · simpa [Value.cells, o2, k2] using hg 2 f2 rfl
  · simpa [Value.cells, o3, k3] using hg 3 f3 rfl
  · simpa [Value.cells, o4, k4] using hg 4 f4 rfl
  · simpa [Value.cells, o5, k5] using hg 5 f5 rfl
  · simpa [Value.cells, o6, k6] using hg 6 f6 rfl
  · simpa [Value.cells, o7, k7] using hg 7 f7 rfl
theorem shut_agg8 {t : TypeId} {f0 f1 f2 f3 f4 f5 f6 f7 : Field} {v0 v1 v2 v3 v4 v5 v6 v7 : Value} {y0 y1 y2 y3 y4 y5 y6 y7 : DataW H × List MemPlace} (hs : P.underlying t = some (.struct #[f0, f1, f2, f3, f4, f5, f6, f7])) (hone : oneCellFields P #[f0, f1, f2, f3, f4, f5, f6, f7] = true) (hC : P.cellsOf t = 8)
    (t0 : ∃ n, DataW.trod enc P w base spare held n f0.type [v0] = some y0) (t1 : ∃ n, DataW.trod enc P w base spare held n f1.type [v1] = some y1) (t2 : ∃ n, DataW.trod enc P w base spare held n f2.type [v2] = some y2) (t3 : ∃ n, DataW.trod enc P w base spare held n f3.type [v3] = some y3) (t4 : ∃ n, DataW.trod enc P w base spare held n f4.type [v4] = some y4) (t5 : ∃ n, DataW.trod enc P w base spare held n f5.type [v5] = some y5) (t6 : ∃ n, DataW.trod enc P w base spare held n f6.type [v6] = some y6) (t7 : ∃ n, DataW.trod enc P w base spare held n f7.type [v7] = some y7) :
    DataW.Trod enc P w base spare held t (.agg #[v0, v1, v2, v3, v4, v5, v6, v7]) (.agg [y0.1, y1.1, y2.1, y3.1, y4.1, y5.1, y6.1, y7.1]) (y0.2 ++ (y1.2 ++ (y2.2 ++ (y3.2 ++ (y4.2 ++ (y5.2 ++ (y6.2 ++ (y7.2)))))))) := by
  obtain ⟨n0, t0⟩ := t0
  obtain ⟨n1, t1⟩ := t1
  obtain ⟨n2, t2⟩ := t2
  obtain ⟨n3, t3⟩ := t3
  obtain ⟨n4, t4⟩ := t4
  obtain ⟨n5, t5⟩ := t5
  obtain ⟨n6, t6⟩ := t6
  obtain ⟨n7, t7⟩ := t7
  obtain ⟨o0, k0⟩ := hone_of hone 0 f0 rfl
  obtain ⟨o1, k1⟩ := hone_of hone 1 f1 rfl
  obtain ⟨o2, k2⟩ := hone_of hone 2 f2 rfl
  obtain ⟨o3, k3⟩ := hone_of hone 3 f3 rfl
  obtain ⟨o4, k4⟩ := hone_of hone 4 f4 rfl
  obtain ⟨o5, k5⟩ := hone_of hone 5 f5 rfl
  obtain ⟨o6, k6⟩ := hone_of hone 6 f6 rfl
  obtain ⟨o7, k7⟩ := hone_of hone 7 f7 rfl
  have u0 := DataW.trod_le (show n0 ≤ n0 + n1 + n2 + n3 + n4 + n5 + n6 + n7 by omega) t0
  have u1 := DataW.trod_le (show n1 ≤ n0 + n1 + n2 + n3 + n4 + n5 + n6 + n7 by omega) t1
  have u2 := DataW.trod_le (show n2 ≤ n0 + n1 + n2 + n3 + n4 + n5 + n6 + n7 by omega) t2
  have u3 := DataW.trod_le (show n3 ≤ n0 + n1 + n2 + n3 + n4 + n5 + n6 + n7 by omega) t3
  have u4 := DataW.trod_le (show n4 ≤ n0 + n1 + n2 + n3 + n4 + n5 + n6 + n7 by omega) t4
  have u5 := DataW.trod_le (show n5 ≤ n0 + n1 + n2 + n3 + n4 + n5 + n6 + n7 by omega) t5
  have u6 := DataW.trod_le (show n6 ≤ n0 + n1 + n2 + n3 + n4 + n5 + n6 + n7 by omega) t6
  have u7 := DataW.trod_le (show n7 ≤ n0 + n1 + n2 + n3 + n4 + n5 + n6 + n7 by omega) t7
  have ts := trod_struct_mk (enc := enc) (w := w) (base := base) (spare := spare) (held := held) (n := n0 + n1 + n2 + n3 + n4 + n5 + n6 + n7) (cs := [v0, v1, v2, v3, v4, v5, v6, v7]) (xs := [y0, y1, y2, y3, y4, y5, y6, y7]) hs (by simp [hC]) (by simp [o0, k0, o1, k1, o2, k2, o3, k3, o4, k4, o5, k5, o6, k6, o7, k7, u0, u1, u2, u3, u4, u5, u6, u7])
  exact ⟨_, by simpa [Value.cells] using ts⟩
theorem array5 {α : Type} {cs : Array α} (h : cs.size = 5) : ∃ c0 c1 c2 c3 c4, cs = #[c0, c1, c2, c3, c4] := by
  obtain ⟨l⟩ := cs
  match l, h with
  | [c0, c1, c2, c3, c4], _ => exact ⟨c0, c1, c2, c3, c4, rfl⟩
theorem list5 {α : Type} {l : List α} (h : l.length = 5) : ∃ c0 c1 c2 c3 c4, l = [c0, c1, c2, c3, c4] := by
  match l, h with
  | [c0, c1, c2, c3, c4], _ => exact ⟨c0, c1, c2, c3, c4, rfl⟩
theorem open_agg5 {r : Reach} {b0 : Nat} {t : TypeId} {f0 f1 f2 f3 f4 : Field} {v : Value} {d : DataW H} {p : List MemPlace} (hs : P.underlying t = some (.struct #[f0, f1, f2, f3, f4])) (hone : oneCellFields P #[f0, f1, f2, f3, f4] = true) (hC : P.cellsOf t = 5)
    (hv : Value.okWide P w r b0 t v) (h : DataW.Trod enc P w base spare held t v d p) :
    ∃ (v0 v1 v2 v3 v4 : Value) (y0 y1 y2 y3 y4 : DataW H × List MemPlace) (n : Nat), v = .agg #[v0, v1, v2, v3, v4] ∧ d = .agg [y0.1, y1.1, y2.1, y3.1, y4.1] ∧ p = y0.2 ++ (y1.2 ++ (y2.2 ++ (y3.2 ++ (y4.2)))) ∧
      DataW.trod enc P w base spare held n f0.type [v0] = some y0 ∧ DataW.trod enc P w base spare held n f1.type [v1] = some y1 ∧ DataW.trod enc P w base spare held n f2.type [v2] = some y2 ∧ DataW.trod enc P w base spare held n f3.type [v3] = some y3 ∧ DataW.trod enc P w base spare held n f4.type [v4] = some y4 := by
  obtain ⟨cs, rfl, hsz⟩ := okWide_struct hs hv
  obtain ⟨c0, c1, c2, c3, c4, rfl⟩ := array5 (hsz.trans hC)
  obtain ⟨fuel, hf⟩ := h
  obtain ⟨xs, n, _, hx, hl, hlen, hg⟩ := DataW.trod_struct hs hf
  obtain ⟨y0, y1, y2, y3, y4, rfl⟩ := list5 (hlen.trans rfl)
  obtain ⟨o0, k0⟩ := hone_of hone 0 f0 rfl
  obtain ⟨o1, k1⟩ := hone_of hone 1 f1 rfl
  obtain ⟨o2, k2⟩ := hone_of hone 2 f2 rfl
  obtain ⟨o3, k3⟩ := hone_of hone 3 f3 rfl
  obtain ⟨o4, k4⟩ := hone_of hone 4 f4 rfl
  simp only [Prod.mk.injEq] at hx
  refine ⟨c0, c1, c2, c3, c4, y0, y1, y2, y3, y4, n, rfl, hx.1, by simpa using hx.2, ?_, ?_, ?_, ?_, ?_⟩
  · simpa [Value.cells, o0, k0] using hg 0 f0 rfl
  · simpa [Value.cells, o1, k1] using hg 1 f1 rfl
  · simpa [Value.cells, o2, k2] using hg 2 f2 rfl
  · simpa [Value.cells, o3, k3] using hg 3 f3 rfl
  · simpa [Value.cells, o4, k4] using hg 4 f4 rfl
theorem shut_agg5 {t : TypeId} {f0 f1 f2 f3 f4 : Field} {v0 v1 v2 v3 v4 : Value} {y0 y1 y2 y3 y4 : DataW H × List MemPlace} (hs : P.underlying t = some (.struct #[f0, f1, f2, f3, f4])) (hone : oneCellFields P #[f0, f1, f2, f3, f4] = true) (hC : P.cellsOf t = 5)
    (t0 : ∃ n, DataW.trod enc P w base spare held n f0.type [v0] = some y0) (t1 : ∃ n, DataW.trod enc P w base spare held n f1.type [v1] = some y1) (t2 : ∃ n, DataW.trod enc P w base spare held n f2.type [v2] = some y2) (t3 : ∃ n, DataW.trod enc P w base spare held n f3.type [v3] = some y3) (t4 : ∃ n, DataW.trod enc P w base spare held n f4.type [v4] = some y4) :
    DataW.Trod enc P w base spare held t (.agg #[v0, v1, v2, v3, v4]) (.agg [y0.1, y1.1, y2.1, y3.1, y4.1]) (y0.2 ++ (y1.2 ++ (y2.2 ++ (y3.2 ++ (y4.2))))) := by
  obtain ⟨n0, t0⟩ := t0
  obtain ⟨n1, t1⟩ := t1
  obtain ⟨n2, t2⟩ := t2
  obtain ⟨n3, t3⟩ := t3
  obtain ⟨n4, t4⟩ := t4
  obtain ⟨o0, k0⟩ := hone_of hone 0 f0 rfl
  obtain ⟨o1, k1⟩ := hone_of hone 1 f1 rfl
  obtain ⟨o2, k2⟩ := hone_of hone 2 f2 rfl
  obtain ⟨o3, k3⟩ := hone_of hone 3 f3 rfl
  obtain ⟨o4, k4⟩ := hone_of hone 4 f4 rfl
  have u0 := DataW.trod_le (show n0 ≤ n0 + n1 + n2 + n3 + n4 by omega) t0
  have u1 := DataW.trod_le (show n1 ≤ n0 + n1 + n2 + n3 + n4 by omega) t1
  have u2 := DataW.trod_le (show n2 ≤ n0 + n1 + n2 + n3 + n4 by omega) t2
  have u3 := DataW.trod_le (show n3 ≤ n0 + n1 + n2 + n3 + n4 by omega) t3
  have u4 := DataW.trod_le (show n4 ≤ n0 + n1 + n2 + n3 + n4 by omega) t4
  have ts := trod_struct_mk (enc := enc) (w := w) (base := base) (spare := spare) (held := held) (n := n0 + n1 + n2 + n3 + n4) (cs := [v0, v1, v2, v3, v4]) (xs := [y0, y1, y2, y3, y4]) hs (by simp [hC]) (by simp [o0, k0, o1, k1, o2, k2, o3, k3, o4, k4, u0, u1, u2, u3, u4])
  exact ⟨_, by simpa [Value.cells] using ts⟩

/-! The form's own reach. -/
theorem sized_field {ts : List TypeId} {ds : List (DataW H)} (h : (DataW.weightsEach P ts ds).all (· ≤ reachBytes) = true) {j : Nat} {t : TypeId} {fs : Array Field} {parts : List (DataW H)} (ht : ts[j]? = some t) (hd : ds[j]? = some (.agg parts)) (hu : P.underlying t = some (.struct fs)) :
    (DataW.weightsEach P (fs.toList.map (·.type)) parts).all (· ≤ reachBytes) = true := by
  rw [List.all_eq_true]
  intro n hn
  exact List.all_eq_true.1 h _ (DataW.weights_mem_each ht hd n (by simpa [DataW.weights, hu] using hn))
theorem sized_bytes {ts : List TypeId} {ds : List (DataW H)} (h : (DataW.weightsEach P ts ds).all (· ≤ reachBytes) = true) {j : Nat} {t e : TypeId} {zs : List Int} {len cap : Nat} {y : DataW H} {z Z : List MemPlace} {k : IntKind} (ht : ts[j]? = some t) (hd : ds[j]? = some y)
    (hy : (y, z) = (.slice (lits k (zs.take len)) (lits k (zs.drop len)), Z)) (hz : zs.length = cap) (hu : P.underlying t = some (.slice e)) (hb : P.bytesOf e = 1) : cap ≤ 140737488351232 := by
  obtain ⟨rfl, -⟩ := Prod.mk.inj hy
  have := sized_slice h ht hd hu
  rw [hb] at this
  simp only [lits, List.length_map, List.length_take, List.length_drop, reachBytes] at this
  omega
theorem sized_text {ts : List TypeId} {ds : List (DataW H)} (h : (DataW.weightsEach P ts ds).all (· ≤ reachBytes) = true) {j : Nat} {t : TypeId} {s : ByteArray} (ht : ts[j]? = some t) (hd : ds[j]? = some (.lit (.string s.data.toList))) : s.size ≤ 140737488351232 := by
  have := sized_string h ht hd
  simp only [reachBytes] at this
  have e : s.data.toList.length = s.size := rfl
  omega
end
end Go.Proofs.YtfkiajidcbefjaaGreatDoor.Aggs
