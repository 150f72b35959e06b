/- Package fold: Apply of any event; a nil fold; the laws' example. -/
import Derived.Test.YtjceeojbnpcpfaaGreatFolF
namespace Go.Proofs.YtjceeojbnpcpfaaGreat.Fol
open Go Go.RowKit Go.Proofs.YtjceeojbnpcpfaaGreat.Words Go.Proofs.YtjceeojbnpcpfaaGreat.Enc Go.Proofs.YtjceeojbnpcpfaaGreat.Q Go.Proofs.YtjceeojbnpcpfaaGreat.Evt
set_option linter.unusedVariables false
set_option linter.unusedSimpArgs false

section
variable {S : List Nat} {d mb : Nat} {F : Fo}
set_option maxRecDepth 100000 in
set_option maxHeartbeats 1000000 in
theorem apply_bad (e : Ev) (A : Option Addr) (n c : Nat) (w : World) (h : FoldAt w S d mb F) (hr : rightE e ≠ 0) (hs : Sees w A n e.text) (hn : n ≤ 1000000000) (hfit : e.Fit) (hkl : e.key.size ≤ 9223372036854775807) :
    Calls Tryz.prog 8 #[.pointer (some ⟨d, 0, none⟩), e.val A n c] w fun e' w' => e' = .returned (.int .i64 (rightE e : Int)) ∧ Below w.heap.size w w' := by
  have RT := Lib.hid (fun (W : World) => right_any e A n c W hfit hs.1.symm (by rw [hs.1]; omega) hkl)
  obtain ⟨wr, sq, tm, kd, key, text, num, node⟩ := e
  have BX := Lib.hid (fun (W : World) hW => boxed (W := W) #[.int .i64 wr, .int .u64 (sq : Int), .int .u64 (tm : Int), .int .u8 (kd : Int), .string key, .slice A n c, .float .f64 num, .int .i64 node] w hW)
  obtain ⟨r, hre⟩ : ∃ r, r = rightE ⟨wr, sq, tm, kd, key, text, num, node⟩ := ⟨_, rfl⟩
  rw [← hre] at RT hr ⊢
  show Calls _ _ #[_, .agg #[.int .i64 wr, .int .u64 (sq : Int), .int .u64 (tm : Int), .int .u8 (kd : Int), .string key, .slice A n c, .float .f64 num, .int .i64 node]] _ _
  have hne : ((r : Int) == 0) = false := by rw [beq_eq_false_iff_ne]; omega
  have hne2 : ((r : Int) != 0) = true := by simp [hr]
  clear h hs hfit hre hkl
  go_enter Tryz.func8, Tryz.ntmps8
  go_wp2_with fail
  refine (RT.out _).mono ?_
  rintro e' w1 ⟨rfl, hb1⟩
  obtain ⟨b1, g1, z1⟩ := BX.out w1 (by simpa using hb1)
  have B1 := Lib.hid b1
  clear hb1 b1 g1 z1
  go_wp2
  go_ret
  exact ⟨rfl, B1.out⟩
/-- Apply, of whatever event. -/
theorem apply_any (e : Ev) (A : Option Addr) (n c : Nat) (w : World) (h : FoldAt w S d mb F) (hs : Sees w A n e.text) (ho : Out [d, mb] A n) (hS : ∀ x ∈ S, x < w.heap.size) (hf : F.L.length < 1000000000000) (hn : n ≤ 1000000000)
    (hfit : e.Fit) (hkl : e.key.size ≤ 9223372036854775807) :
    Calls Tryz.prog 8 #[.pointer (some ⟨d, 0, none⟩), e.val A n c] w fun e' w' => e' = .returned (.int .i64 (applyE F e : Int)) ∧ Makes S d mb w (applyF F e) w' := by
  by_cases hr : rightE e = 0
  · have hR := (right_iff e).1 hr
    obtain ⟨wr, sq, tm, kd, key, text, num, node⟩ := e
    obtain ⟨i, rfl⟩ := Int.eq_ofNat_of_zero_le hR.w1
    exact apply_right w h hR hfit.q hs ho hS hf hn hfit hkl
  · have hE : applyE F e = rightE e := by unfold applyE; rw [if_pos hr]
    have hF : applyF F e = F := by unfold applyF; rw [hE, if_neg hr]
    rw [hE, hF]
    refine (apply_bad e A n c w h hr hs hn hfit hkl).mono ?_
    rintro e' w' ⟨rfl, hb⟩
    exact ⟨rfl, h.below hb, Beside.of_below hb _⟩
end

/-! ### A nil fold -/
/-! ### The laws' example -/
def ex1 : Ev := ⟨0, 1, 1, 3, ⟨#[107]⟩, [], 4607182418800017408, 0⟩
def ex2 : Ev := ⟨1, 1, 2, 3, ⟨#[107]⟩, [], 4611686018427387904, 0⟩
theorem ex_e1 : applyE (newF 2) ex1 = 0 := by kernel_rfl
theorem ex_e2 : applyE (applyF (newF 2) ex1) ex2 = 0 := by kernel_rfl
theorem ex_lk : lk [107] (applyF (applyF (newF 2) ex1) ex2).L = some ⟨2, [], 4613937818241073152⟩ := by kernel_rfl
theorem ex_len1 : (applyF (newF 2) ex1).L.length = 1 := by kernel_rfl
theorem build_ex1 (W : World) : (Instr.build 38 #[(0, .int .i64 0), (1, .int .u64 1), (2, .int .u64 1), (3, .int .u8 3), (4, .string ⟨#[107]⟩), (6, .float .f64 4607182418800017408)]).run Tryz.prog W = .ok (ex1.val none 0 0) W := by kernel_rfl
theorem build_ex2 (W : World) : (Instr.build 38 #[(0, .int .i64 1), (1, .int .u64 1), (2, .int .u64 2), (3, .int .u8 3), (4, .string ⟨#[107]⟩), (6, .float .f64 4611686018427387904)]).run Tryz.prog W = .ok (ex2.val none 0 0) W := by kernel_rfl
theorem ex_fit1 : ex1.Fit := ⟨by decide, by decide, by decide, by decide, by decide, by decide, by decide, by decide⟩
theorem ex_fit2 : ex2.Fit := ⟨by decide, by decide, by decide, by decide, by decide, by decide, by decide, by decide⟩
set_option maxRecDepth 100000 in
set_option maxHeartbeats 1000000 in
theorem awake_any (w : World) : Calls Tryz.prog 4 #[] w fun e w' => e = .returned (.bool true) ∧ Below w.heap.size w w' := by
  have hsf := store_float Tryz.prog
  have heq : ∀ W, (binOp .eql 36 (.float .f64 4613937818241073152) (.float .f64 4613937818241073152)).run Tryz.prog W = .ok (.bool true) W := fun W => by kernel_rfl
  have N1 := Lib.hid (new_any 2 (by omega) w)
  have A1 := Lib.hid (fun (W : World) (d mb : Nat) (S : List Nat) (h : FoldAt W S d mb (newF 2)) (hS : ∀ x ∈ S, x < W.heap.size) => (by
    have := apply_any ex1 none 0 0 W h (Sees.nil _ _) (fun h => absurd h (by omega)) hS (by simp [newF]) (by omega) ex_fit1 (by decide)
    rw [ex_e1] at this
    exact this))
  have A2 := Lib.hid (fun (W : World) (d mb : Nat) (S : List Nat) (h : FoldAt W S d mb (applyF (newF 2) ex1)) (hS : ∀ x ∈ S, x < W.heap.size) => (by
    have := apply_any ex2 none 0 0 W h (Sees.nil _ _) (fun h => absurd h (by omega)) hS (by rw [ex_len1]; omega) (by omega) ex_fit2 (by decide)
    rw [ex_e2] at this
    exact this))
  have C1 := Lib.hid (fun (W : World) (d mb : Nat) (S : List Nat) (h : FoldAt W S d mb (applyF (applyF (newF 2) ex1) ex2)) => (by
    have := cell_any ⟨#[107]⟩ S d mb _ W h (by decide)
    have e : (⟨#[107]⟩ : ByteArray).data.toList = [107] := rfl
    rw [e, ex_lk] at this
    exact this))
  have hb1 := build_ex1
  have hb2 := build_ex2
  unfold Ev.val ex1 at hb1
  unfold Ev.val ex2 at hb2
  go_enter Tryz.func4, Tryz.ntmps4
  go_wp2_with fail
  refine N1.out.mono ?_
  rintro e w1 ⟨rfl, hF1, hb⟩
  have hl1 := hF1.lt
  have HF1 := Lib.hid hF1
  have HB1 := Lib.hid hb
  clear hF1 hb
  go_wp2_with fail
  refine (A1.out w1 _ _ _ HF1.out (by intro x hx; simp at hx; omega)).mono ?_
  rintro e w2 ⟨rfl, hm2⟩
  have HM2 := Lib.hid hm2
  clear hm2
  go_wp2_with fail
  refine (A2.out w2 _ _ _ HM2.out.1 (by intro x hx; have := HM2.out.2.size; simp at hx; omega)).mono ?_
  rintro e w3 ⟨rfl, hm3⟩
  have HM3 := Lib.hid hm3
  clear hm3
  go_wp2_with fail
  refine (C1.out w3 _ _ _ HM3.out.1).mono ?_
  rintro e w4 ⟨hb4, A, n, c, rfl, hs⟩
  have HB4 := Lib.hid (Below.beside HB1.out (((HM2.out.2.trans HM3.out.2 fun x hx => .inl hx).below hb4)) HB1.out.size (by simp))
  clear hs hb4
  go_wp2
  go_ret
  exact ⟨rfl, HB4.out.alloc (HB4.out.size) _⟩
end Go.Proofs.YtjceeojbnpcpfaaGreat.Fol
