/- The document's fold: Apply of an event that may not be. -/
import Derived.Test.YtjceeojbnpcpfaaGreatFolU0
import Derived.Test.YtjceeojbnpcpfaaGreatEvRef
namespace Go.Proofs.YtjceeojbnpcpfaaGreat.Fol
open Go Go.RowKit Go.Proofs.YtjceeojbnpcpfaaGreat.Words Go.Proofs.YtjceeojbnpcpfaaGreat.Enc Go.Proofs.YtjceeojbnpcpfaaGreat.Q Go.Proofs.YtjceeojbnpcpfaaGreat.Evt Go.Proofs.YtjceeojbnpcpfaaGreat.Facts
set_option linter.unusedVariables false
set_option linter.unusedSimpArgs false

section
variable {La : Option Addr} {lc : Nat} {L : List (Key × RC)} {h : RH} {F : Fo} {S : List Nat}
set_option maxRecDepth 100000 in
set_option maxHeartbeats 8000000 in
theorem refApply_bad (e : Ev) (A : Option Addr) (n c : Nat) (w : World) (r : RefAt w S La lc L h F) (hr : rightE e ≠ 0) (hnt : n = e.text.length) (hn : n ≤ 1000000000) (hfit : e.Fit) (hkl : e.key.size ≤ 9223372036854775807) :
    Calls Tryz.prog 9 #[.agg (rv La L.length lc h), e.val A n c] w fun e' w' => e' = .returned (.tuple #[.agg (rv La L.length lc h), .int .i64 (rightE e : Int)]) ∧ Below w.heap.size w w' := by
  have RT := Lib.hid (fun (W : World) => refRight_any e A n c W hfit hnt (by omega) hkl)
  obtain ⟨wr, sq, tm, kd, key, text, num, node⟩ := e
  obtain ⟨Ja, Jc, Ra, Rc, Ha, Hc, T0, W0, M0⟩ := h
  obtain ⟨n', hnl⟩ : ∃ n', n' = L.length := ⟨_, rfl⟩
  obtain ⟨q, hqe⟩ : ∃ q, q = rightE ⟨wr, sq, tm, kd, key, text, num, node⟩ := ⟨_, rfl⟩
  rw [← hqe] at RT hr ⊢
  have BX := Lib.hid (fun (W : World) hW => boxesT (rv La n' lc ⟨Ja, Jc, Ra, Rc, Ha, Hc, T0, W0, M0⟩) #[.int .i64 wr, .int .u64 (sq : Int), .int .u64 (tm : Int), .int .u8 (kd : Int), .string key, .slice A n c, .float .f64 num, .int .i64 node] #[.slice none 0 0, .slice none 0 0, .slice none 0 0, .slice none 0 0, .int .u64 0, .int .i64 0, .int .u64 0] 33 38 33 w W hW)
  unfold rv at BX ⊢
  rw [← hnl]
  show Calls _ _ #[.agg #[.slice La n' lc, .slice Ja 64 Jc, .slice Ra 64 Rc, .slice Ha 64 Hc, .int .u64 (T0 : Int), .int .i64 (W0 : Int), .int .u64 (M0 : Int)], .agg #[.int .i64 wr, .int .u64 (sq : Int), .int .u64 (tm : Int), .int .u8 (kd : Int), .string key, .slice A n c, .float .f64 num, .int .i64 node]] _ _
  have RT2 : ∀ W, Calls Tryz.prog 20 #[.agg #[.int .i64 wr, .int .u64 (sq : Int), .int .u64 (tm : Int), .int .u8 (kd : Int), .string key, .slice A n c, .float .f64 num, .int .i64 node]] W fun e' w' => e' = .returned (.int .i64 (q : Int)) ∧ Below W.heap.size W w' := fun W => RT.out W
  have RTH := Lib.hid RT2
  have hne : ((q : Int) == 0) = false := by rw [beq_eq_false_iff_ne]; omega
  have hne2 : ((q : Int) != 0) = true := by simp [hr]
  have hsf := store_float Tryz.prog
  clear RT RT2 r hnt hn hfit hkl hqe hnl
  obtain ⟨B, hBe⟩ : ∃ B, B = w.heap.size := ⟨_, rfl⟩
  have HB := Lib.hid hBe
  go_enter Tryz.func9, Tryz.ntmps9
  go_wp2_with fail
  refine (RTH.out _).mono ?_
  rintro e' w1 ⟨rfl, hb1⟩
  obtain ⟨b1, g0, g1, g2, z1⟩ := BX.out w1 (by simpa using hb1)
  rw [← hBe] at g0 g2 z1
  have HB1 := Lib.hid b1
  clear hb1 b1 g1 hBe
  rw [← HB.out]
  go_wp2_with (first
    | (refine wpList_getRow rfl 33 (.tmp 2) rfl B 33 #[.slice La n' lc, .slice Ja 64 Jc, .slice Ra 64 Rc, .slice Ha 64 Hc, .int .u64 (T0 : Int), .int .i64 (W0 : Int), .int .u64 (M0 : Int)] (0, 0) _ rfl g0 Tryz.underlying33 rfl (by kernel_rfl) ?_)
    | (refine wpList_putRow rfl 33 (.tmp 4) (.tmp 17) rfl (B + 1 + 1) 33 #[.slice none 0 0, .slice none 0 0, .slice none 0 0, .slice none 0 0, .int .u64 0, .int .i64 0, .int .u64 0] #[.slice La n' lc, .slice Ja 64 Jc, .slice Ra 64 Rc, .slice Ha 64 Hc, .int .u64 (T0 : Int), .int .i64 (W0 : Int), .int .u64 (M0 : Int)] rfl rfl g2 (by kernel_rfl) rfl (by simp [Value.oneCell']) ?_))
  intro w6 g7 hb6
  obtain ⟨t0, t1, t2, t3, t4, t5, t6⟩ := rv_cells (h := ⟨Ja, Jc, Ra, Rc, Ha, Hc, T0, W0, M0⟩) g7
  have HB6 := Lib.hid (Below.beside HB1.out hb6 HB1.out.size (fun x hx => by have := HB.out; simp at hx; omega))
  clear g0 g2 g7 hb6
  go_wp2
  refine bodyPost_ret (v := .tuple #[.agg #[.slice La n' lc, .slice Ja 64 Jc, .slice Ra 64 Rc, .slice Ha 64 Hc, .int .u64 (T0 : Int), .int .i64 (W0 : Int), .int .u64 (M0 : Int)], .int .i64 (q : Int)]) (by simp [results, Tryz.results9, go_sem, t0, t1, t2, t3, t4, t5, t6]) rfl ⟨rfl, HB6.out⟩
end
end Go.Proofs.YtjceeojbnpcpfaaGreat.Fol
