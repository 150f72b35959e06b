/- The document's Right: its contract. -/
import Derived.Test.YtmogoopkjkdkgaaGreatVTp04
namespace Go.Proofs.YtmogoopkjkdkgaaGreat.Evt
open Go Go.RowKit Go.Proofs.YtmogoopkjkdkgaaGreat.Words Go.Proofs.YtmogoopkjkdkgaaGreat.Enc Go.Proofs.YtmogoopkjkdkgaaGreat.Q
set_option linter.unusedVariables false

/-- What the document's Right says of the values. -/
abbrev RefSays (wr : Int) (sq tm kd : Nat) (key : ByteArray) (A : Option Addr) (n c : Nat) (num : Nat) (node : Int) (w : World) (r : Int) : Prop :=
  Calls Tryz.prog 87 #[.agg #[.int .i64 wr, .int .u64 (sq : Int), .int .u64 (tm : Int), .int .u8 (kd : Int), .string key, .slice A n c, .float .f64 num, .int .i64 node]] w fun e' w' => e' = .returned (.int .i64 r) ∧ Below w.heap.size w w'

theorem box1 (v : Array Value) (w : World) : Below w.heap.size w (w.alloc (.cells v 32)) := (Below.refl _ _).alloc (Nat.le_refl _) _

theorem dec_lim (sq tm : Nat) : (decide ((9223372036854775808 : Int) ≤ (sq : Int)) = true ∧ lim sq tm = 8) ∨ (decide ((9223372036854775808 : Int) ≤ (sq : Int)) = false ∧ decide ((9223372036854775808 : Int) ≤ (tm : Int)) = true ∧ lim sq tm = 8) ∨ (decide ((9223372036854775808 : Int) ≤ (sq : Int)) = false ∧ decide ((9223372036854775808 : Int) ≤ (tm : Int)) = false ∧ lim sq tm = 0) := by
  by_cases h : 9223372036854775808 ≤ sq
  · exact .inl ⟨by simp; omega, lim8 (.inl h)⟩
  · by_cases h2 : 9223372036854775808 ≤ tm
    · exact .inr (.inl ⟨by simp; omega, by simp; omega, lim8 (.inr h2)⟩)
    · exact .inr (.inr ⟨by simp; omega, by simp; omega, lim0 (by omega)⟩)

section
variable {wr : Int} {sq tm kd : Nat} {key : ByteArray} {A : Option Addr} {n c : Nat} {num : Nat} {node : Int} {w : World}
set_option maxRecDepth 100000 in
theorem ref_w1 (h1 : decide (wr < 0) = true) : RefSays wr sq tm kd key A n c num node w 1 := by
  go_enter Tryz.func87, Tryz.ntmps87
  go_wp2
  go_ret
  exact ⟨rfl, box1 _ _⟩
set_option maxRecDepth 100000 in
theorem ref_w2 (h1 : decide (wr < 0) = false) (h2 : decide (63 < wr) = true) : RefSays wr sq tm kd key A n c num node w 1 := by
  go_enter Tryz.func87, Tryz.ntmps87
  go_wp2
  go_ret
  exact ⟨rfl, box1 _ _⟩
set_option maxRecDepth 100000 in
theorem ref_s (h1 : decide (wr < 0) = false) (h2 : decide (63 < wr) = false) (h3 : ((sq : Int) == 0) = true) : RefSays wr sq tm kd key A n c num node w 1 := by
  go_enter Tryz.func87, Tryz.ntmps87
  go_wp2
  go_ret
  exact ⟨rfl, box1 _ _⟩
set_option maxRecDepth 100000 in
theorem ref_t (h1 : decide (wr < 0) = false) (h2 : decide (63 < wr) = false) (h3 : ((sq : Int) == 0) = false) (h4 : ((tm : Int) == 0) = true) : RefSays wr sq tm kd key A n c num node w 1 := by
  go_enter Tryz.func87, Tryz.ntmps87
  go_wp2
  go_ret
  exact ⟨rfl, box1 _ _⟩
set_option maxRecDepth 100000 in
theorem ref_k1 (h1 : decide (wr < 0) = false) (h2 : decide (63 < wr) = false) (h3 : ((sq : Int) == 0) = false) (h4 : ((tm : Int) == 0) = false) (h5 : decide ((kd : Int) < 1) = true) : RefSays wr sq tm kd key A n c num node w 1 := by
  go_enter Tryz.func87, Tryz.ntmps87
  go_wp2
  go_ret
  exact ⟨rfl, box1 _ _⟩
set_option maxRecDepth 100000 in
theorem ref_k2 (h1 : decide (wr < 0) = false) (h2 : decide (63 < wr) = false) (h3 : ((sq : Int) == 0) = false) (h4 : ((tm : Int) == 0) = false) (h5 : decide ((kd : Int) < 1) = false) (h6 : decide (6 < (kd : Int)) = true) : RefSays wr sq tm kd key A n c num node w 1 := by
  go_enter Tryz.func87, Tryz.ntmps87
  go_wp2
  go_ret
  exact ⟨rfl, box1 _ _⟩
set_option maxRecDepth 100000 in
theorem ref_n1 (h1 : decide (wr < 0) = false) (h2 : decide (63 < wr) = false) (h3 : ((sq : Int) == 0) = false) (h4 : ((tm : Int) == 0) = false) (h5 : decide ((kd : Int) < 1) = false) (h6 : decide (6 < (kd : Int)) = false) (h7 : ((kd : Int) == 5) = true) (h8 : decide (node < 0) = true) : RefSays wr sq tm kd key A n c num node w 1 := by
  go_enter Tryz.func87, Tryz.ntmps87
  go_wp2
  go_ret
  exact ⟨rfl, box1 _ _⟩
set_option maxRecDepth 100000 in
theorem ref_n2 (h1 : decide (wr < 0) = false) (h2 : decide (63 < wr) = false) (h3 : ((sq : Int) == 0) = false) (h4 : ((tm : Int) == 0) = false) (h5 : decide ((kd : Int) < 1) = false) (h6 : decide (6 < (kd : Int)) = false) (h7 : ((kd : Int) == 5) = true) (h8 : decide (node < 0) = false) (h9 : decide (63 < node) = true) : RefSays wr sq tm kd key A n c num node w 1 := by
  go_enter Tryz.func87, Tryz.ntmps87
  go_wp2
  go_ret
  exact ⟨rfl, box1 _ _⟩
set_option maxRecDepth 100000 in
set_option maxHeartbeats 1000000 in
theorem ref_5 (h1 : decide (wr < 0) = false) (h2 : decide (63 < wr) = false) (h3 : ((sq : Int) == 0) = false) (h4 : ((tm : Int) == 0) = false) (h5 : decide ((kd : Int) < 1) = false) (h6 : decide (6 < (kd : Int)) = false) (h7 : ((kd : Int) == 5) = true) (h8 : decide (node < 0) = false) (h9 : decide (63 < node) = false) (h10 : decide ((kd : Int) ≤ 4) = false) (h11 : ((kd : Int) == 1) = false) : RefSays wr sq tm kd key A n c num node w (lim sq tm) := by
  rcases dec_lim sq tm with ⟨l1, l3⟩ | ⟨l1, l2, l3⟩ | ⟨l1, l2, l3⟩
  all_goals
    rw [l3]
    clear l3
    go_enter Tryz.func87, Tryz.ntmps87
    go_wp2
    go_ret
    exact ⟨rfl, box1 _ _⟩
set_option maxRecDepth 100000 in
set_option maxHeartbeats 1000000 in
theorem ref_6 (h1 : decide (wr < 0) = false) (h2 : decide (63 < wr) = false) (h3 : ((sq : Int) == 0) = false) (h4 : ((tm : Int) == 0) = false) (h5 : decide ((kd : Int) < 1) = false) (h6 : decide (6 < (kd : Int)) = false) (h7 : ((kd : Int) == 5) = false) (h10 : decide ((kd : Int) ≤ 4) = false) (h11 : ((kd : Int) == 1) = false) : RefSays wr sq tm kd key A n c num node w (lim sq tm) := by
  rcases dec_lim sq tm with ⟨l1, l3⟩ | ⟨l1, l2, l3⟩ | ⟨l1, l2, l3⟩
  all_goals
    rw [l3]
    clear l3
    go_enter Tryz.func87, Tryz.ntmps87
    go_wp2
    go_ret
    exact ⟨rfl, box1 _ _⟩
set_option maxRecDepth 100000 in
theorem ref_k60 (h1 : decide (wr < 0) = false) (h2 : decide (63 < wr) = false) (h3 : ((sq : Int) == 0) = false) (h4 : ((tm : Int) == 0) = false) (h5 : decide ((kd : Int) < 1) = false) (h6 : decide (6 < (kd : Int)) = false) (h7 : ((kd : Int) == 5) = false) (h10 : decide ((kd : Int) ≤ 4) = true) (hl : key.size ≤ 9223372036854775807) (h11 : ((key.size : Int) == 0) = true) : RefSays wr sq tm kd key A n c num node w 6 := by
  go_enter Tryz.func87, Tryz.ntmps87
  go_wp2
  go_ret
  exact ⟨rfl, box1 _ _⟩
set_option maxRecDepth 100000 in
theorem ref_k6l (h1 : decide (wr < 0) = false) (h2 : decide (63 < wr) = false) (h3 : ((sq : Int) == 0) = false) (h4 : ((tm : Int) == 0) = false) (h5 : decide ((kd : Int) < 1) = false) (h6 : decide (6 < (kd : Int)) = false) (h7 : ((kd : Int) == 5) = false) (h10 : decide ((kd : Int) ≤ 4) = true) (hl : key.size ≤ 9223372036854775807) (h11 : ((key.size : Int) == 0) = false) (h12 : decide (64 < (key.size : Int)) = true) : RefSays wr sq tm kd key A n c num node w 6 := by
  go_enter Tryz.func87, Tryz.ntmps87
  go_wp2
  go_ret
  exact ⟨rfl, box1 _ _⟩
set_option maxRecDepth 100000 in
theorem ref_tl (h1 : decide (wr < 0) = false) (h2 : decide (63 < wr) = false) (h3 : ((sq : Int) == 0) = false) (h4 : ((tm : Int) == 0) = false) (h5 : decide ((kd : Int) < 1) = false) (h6 : decide (6 < (kd : Int)) = false) (h7 : ((kd : Int) == 5) = false) (h10 : decide ((kd : Int) ≤ 4) = true) (hl : key.size ≤ 9223372036854775807) (h11 : ((key.size : Int) == 0) = false) (h12 : decide (64 < (key.size : Int)) = false) (h13 : ((kd : Int) == 1) = true) (h14 : decide (1048576 < (n : Int)) = true) : RefSays wr sq tm kd key A n c num node w 6 := by
  go_enter Tryz.func87, Tryz.ntmps87
  go_wp2
  go_ret
  exact ⟨rfl, box1 _ _⟩
set_option maxRecDepth 100000 in
set_option maxHeartbeats 1000000 in
theorem ref_1 (h1 : decide (wr < 0) = false) (h2 : decide (63 < wr) = false) (h3 : ((sq : Int) == 0) = false) (h4 : ((tm : Int) == 0) = false) (h5 : decide ((kd : Int) < 1) = false) (h6 : decide (6 < (kd : Int)) = false) (h7 : ((kd : Int) == 5) = false) (h10 : decide ((kd : Int) ≤ 4) = true) (hl : key.size ≤ 9223372036854775807) (h11 : ((key.size : Int) == 0) = false) (h12 : decide (64 < (key.size : Int)) = false) (h13 : ((kd : Int) == 1) = true) (h14 : decide (1048576 < (n : Int)) = false) : RefSays wr sq tm kd key A n c num node w (lim sq tm) := by
  rcases dec_lim sq tm with ⟨l1, l3⟩ | ⟨l1, l2, l3⟩ | ⟨l1, l2, l3⟩
  all_goals
    rw [l3]
    clear l3
    go_enter Tryz.func87, Tryz.ntmps87
    go_wp2
    go_ret
    exact ⟨rfl, box1 _ _⟩
set_option maxRecDepth 100000 in
set_option maxHeartbeats 1000000 in
theorem ref_2 (h1 : decide (wr < 0) = false) (h2 : decide (63 < wr) = false) (h3 : ((sq : Int) == 0) = false) (h4 : ((tm : Int) == 0) = false) (h5 : decide ((kd : Int) < 1) = false) (h6 : decide (6 < (kd : Int)) = false) (h7 : ((kd : Int) == 5) = false) (h10 : decide ((kd : Int) ≤ 4) = true) (hl : key.size ≤ 9223372036854775807) (h11 : ((key.size : Int) == 0) = false) (h12 : decide (64 < (key.size : Int)) = false) (h13 : ((kd : Int) == 1) = false) : RefSays wr sq tm kd key A n c num node w (lim sq tm) := by
  rcases dec_lim sq tm with ⟨l1, l3⟩ | ⟨l1, l2, l3⟩ | ⟨l1, l2, l3⟩
  all_goals
    rw [l3]
    clear l3
    go_enter Tryz.func87, Tryz.ntmps87
    go_wp2
    go_ret
    exact ⟨rfl, box1 _ _⟩
end
theorem dec_y {p : Prop} [Decidable p] (h : p) : decide p = true := decide_eq_true h
theorem dec_n {p : Prop} [Decidable p] (h : ¬ p) : decide p = false := decide_eq_false h
theorem beq_y {a b : Int} (h : a = b) : (a == b) = true := by subst h; simp
theorem beq_n {a b : Int} (h : ¬ a = b) : (a == b) = false := beq_eq_false_iff_ne.2 h

/-- The document's Right, of any event. -/
theorem refRight_any (e : Ev) (A : Option Addr) (n c : Nat) (w : World) (hf : e.Fit) (hn : n = e.text.length) (hl : e.text.length ≤ 9223372036854775807) (hl2 : e.key.size ≤ 9223372036854775807) :
    Calls Tryz.prog 87 #[e.val A n c] w fun e' w' => e' = .returned (.int .i64 (rightE e : Int)) ∧ Below w.heap.size w w' := by
  show RefSays e.writer e.seq e.time e.kind e.key A n c e.num e.node w (rightE e : Int)
  subst hn
  by_cases h1 : e.writer < 0
  case pos => rw [rightE_bad (e := e) (by omega)]; exact ref_w1 (dec_y h1)
  by_cases h2 : 63 < e.writer
  case pos => rw [rightE_bad (e := e) (by omega)]; exact ref_w2 (dec_n h1) (dec_y h2)
  by_cases h3 : e.seq = 0
  case pos => rw [rightE_bad (e := e) (by omega)]; exact ref_s (dec_n h1) (dec_n h2) (beq_zero h3)
  by_cases h4 : e.time = 0
  case pos => rw [rightE_bad (e := e) (by omega)]; exact ref_t (dec_n h1) (dec_n h2) (beq_pos h3) (beq_zero h4)
  by_cases h5 : (e.kind : Int) < 1
  case pos => rw [rightE_bad (e := e) (by omega)]; exact ref_k1 (dec_n h1) (dec_n h2) (beq_pos h3) (beq_pos h4) (dec_y h5)
  by_cases h6 : 6 < (e.kind : Int)
  case pos => rw [rightE_bad (e := e) (by omega)]; exact ref_k2 (dec_n h1) (dec_n h2) (beq_pos h3) (beq_pos h4) (dec_n h5) (dec_y h6)
  by_cases h7 : (e.kind : Int) = 5
  case pos =>
    by_cases h8 : e.node < 0
    case pos => rw [rightE_bad (e := e) (by omega)]; exact ref_n1 (dec_n h1) (dec_n h2) (beq_pos h3) (beq_pos h4) (dec_n h5) (dec_n h6) (beq_y h7) (dec_y h8)
    by_cases h9 : 63 < e.node
    case pos => rw [rightE_bad (e := e) (by omega)]; exact ref_n2 (dec_n h1) (dec_n h2) (beq_pos h3) (beq_pos h4) (dec_n h5) (dec_n h6) (beq_y h7) (dec_n h8) (dec_y h9)
    rw [rightE_lim (e := e) (by omega) (by omega) (by omega)]
    exact ref_5 (dec_n h1) (dec_n h2) (beq_pos h3) (beq_pos h4) (dec_n h5) (dec_n h6) (beq_y h7) (dec_n h8) (dec_n h9) (dec_n (by omega)) (beq_n (by omega))
  by_cases h10 : (e.kind : Int) ≤ 4
  case neg =>
    rw [rightE_lim (e := e) (by omega) (by omega) (by omega)]
    exact ref_6 (dec_n h1) (dec_n h2) (beq_pos h3) (beq_pos h4) (dec_n h5) (dec_n h6) (beq_n h7) (dec_n h10) (beq_n (by omega))
  by_cases h11 : e.key.size = 0
  case pos =>
    rw [rightE_long (e := e) (by omega) (by omega) (by omega)]
    exact ref_k60 (dec_n h1) (dec_n h2) (beq_pos h3) (beq_pos h4) (dec_n h5) (dec_n h6) (beq_n h7) (dec_y h10) hl2 (beq_zero h11)
  by_cases h12 : 64 < (e.key.size : Int)
  case pos =>
    rw [rightE_long (e := e) (by omega) (by omega) (by omega)]
    exact ref_k6l (dec_n h1) (dec_n h2) (beq_pos h3) (beq_pos h4) (dec_n h5) (dec_n h6) (beq_n h7) (dec_y h10) hl2 (beq_pos h11) (dec_y h12)
  by_cases h13 : (e.kind : Int) = 1
  case neg =>
    rw [rightE_lim (e := e) (by omega) (by omega) (by omega)]
    exact ref_2 (dec_n h1) (dec_n h2) (beq_pos h3) (beq_pos h4) (dec_n h5) (dec_n h6) (beq_n h7) (dec_y h10) hl2 (beq_pos h11) (dec_n h12) (beq_n h13)
  by_cases h14 : 1048576 < (e.text.length : Int)
  case pos =>
    rw [rightE_long (e := e) (by omega) (by omega) (by omega)]
    exact ref_tl (dec_n h1) (dec_n h2) (beq_pos h3) (beq_pos h4) (dec_n h5) (dec_n h6) (beq_n h7) (dec_y h10) hl2 (beq_pos h11) (dec_n h12) (beq_y h13) (dec_y h14)
  rw [rightE_lim (e := e) (by omega) (by omega) (by omega)]
  exact ref_1 (dec_n h1) (dec_n h2) (beq_pos h3) (beq_pos h4) (dec_n h5) (dec_n h6) (beq_n h7) (dec_y h10) hl2 (beq_pos h11) (dec_n h12) (beq_y h13) (dec_n h14)
end Go.Proofs.YtmogoopkjkdkgaaGreat.Evt
