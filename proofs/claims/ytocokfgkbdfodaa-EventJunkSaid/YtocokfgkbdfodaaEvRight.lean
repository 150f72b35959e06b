/- event.Right: its contract. -/
import Derived.Test.YtocokfgkbdfodaaEvFn
namespace Go.Proofs.Ytocokfgkbdfodaa.Evt
open Go Go.RowKit Go.Proofs.Ytocokfgkbdfodaa.Words Go.Proofs.Ytocokfgkbdfodaa.Enc Go.Proofs.Ytocokfgkbdfodaa.Q
set_option linter.unusedVariables false

/-- What Right says of the values. -/
abbrev RightSays (wr : Int) (sq tm kd : Nat) (key : ByteArray) (A : Option Addr) (n c : Nat) (num : Nat) (node : Int) (w : World) (r : Int) : Prop :=
  Calls Try.prog 10 #[.agg #[.int .i64 wr, .int .u64 (sq : Int), .int .u64 (tm : Int), .int .u8 (kd : Int), .string key, .slice A n c, .float .f64 num, .int .i64 node]] w fun e' w' => e' = .returned (.int .i64 r) ∧ Below w.heap.size w w'

section
variable {wr : Int} {sq tm kd : Nat} {key : ByteArray} {A : Option Addr} {n c : Nat} {num : Nat} {node : Int} {w : World}
set_option maxRecDepth 100000 in
theorem right_w (hw : nodeB wr = false) : RightSays wr sq tm kd key A n c num node w 1 := by
  go_enter Try.func10, Try.ntmps10
  go_wp2_with fail
  refine (fieldsOf_any _ _).mono ?_
  rintro e w1 ⟨rfl, hb⟩
  have h1 := boxed _ w (W := w1) (by simpa using hb)
  obtain ⟨c0, c1, c2, c3, c4, c5, c6, c7⟩ := box8 h1.2.1
  have hz := h1.2.2
  have h2 := Lib.hid h1
  clear h1 hb
  unfold usesV
  go_wp2_with fail
  refine (isNode_any _ _).mono ?_
  rintro e w ⟨rfl, rfl⟩
  go_wp2
  go_ret
  exact ⟨rfl, h2.out.1.alloc (Nat.le_of_lt hz) _⟩

set_option maxRecDepth 100000 in
theorem right_s (hw : nodeB wr = true) (hs : ((sq : Int) == 0) = true) : RightSays wr sq tm kd key A n c num node w 1 := by
  go_enter Try.func10, Try.ntmps10
  go_wp2_with fail
  refine (fieldsOf_any _ _).mono ?_
  rintro e w1 ⟨rfl, hb⟩
  have h1 := boxed _ w (W := w1) (by simpa using hb)
  obtain ⟨c0, c1, c2, c3, c4, c5, c6, c7⟩ := box8 h1.2.1
  have hz := h1.2.2
  have h2 := Lib.hid h1
  clear h1 hb
  unfold usesV
  go_wp2_with fail
  refine (isNode_any _ _).mono ?_
  rintro e w ⟨rfl, rfl⟩
  go_wp2
  go_ret
  exact ⟨rfl, h2.out.1.alloc (Nat.le_of_lt hz) _⟩

set_option maxRecDepth 100000 in
theorem right_t (hw : nodeB wr = true) (hs : ((sq : Int) == 0) = false) (ht : ((tm : Int) == 0) = true) : RightSays wr sq tm kd key A n c num node w 1 := by
  go_enter Try.func10, Try.ntmps10
  go_wp2_with fail
  refine (fieldsOf_any _ _).mono ?_
  rintro e w1 ⟨rfl, hb⟩
  have h1 := boxed _ w (W := w1) (by simpa using hb)
  obtain ⟨c0, c1, c2, c3, c4, c5, c6, c7⟩ := box8 h1.2.1
  have hz := h1.2.2
  have h2 := Lib.hid h1
  clear h1 hb
  unfold usesV
  go_wp2_with fail
  refine (isNode_any _ _).mono ?_
  rintro e w ⟨rfl, rfl⟩
  go_wp2
  go_ret
  exact ⟨rfl, h2.out.1.alloc (Nat.le_of_lt hz) _⟩

set_option maxRecDepth 100000 in
theorem right_k1 (b1 b2 b3 b4 : Bool) (hu : usesV kd = .tuple #[.agg #[.bool b1, .bool b2, .bool b3, .bool b4], .bool true]) (hw : nodeB wr = true) (hs : ((sq : Int) == 0) = false) (ht : ((tm : Int) == 0) = false) (h : b4 = true) (hn : nodeB node = false) : RightSays wr sq tm kd key A n c num node w 1 := by
  have HU := Lib.hid hu
  clear hu
  subst h
  go_enter Try.func10, Try.ntmps10
  go_wp2_with fail
  refine (fieldsOf_any _ _).mono ?_
  rintro e w1 ⟨rfl, hb⟩
  have h1 := boxed _ w (W := w1) (by simpa using hb)
  obtain ⟨c0, c1, c2, c3, c4, c5, c6, c7⟩ := box8 h1.2.1
  have hz := h1.2.2
  have h2 := Lib.hid h1
  clear h1 hb
  rw [HU.out]
  go_wp2_with fail
  refine (isNode_any _ _).mono ?_
  rintro e w ⟨rfl, rfl⟩
  go_wp2_with fail
  refine (isNode_any _ _).mono ?_
  rintro e w ⟨rfl, rfl⟩
  go_wp2
  go_ret
  exact ⟨rfl, h2.out.1.alloc (Nat.le_of_lt hz) _⟩

set_option maxRecDepth 100000 in
theorem right_k6 (b2 b3 b4 : Bool) (hu : usesV kd = .tuple #[.agg #[.bool true, .bool b2, .bool b3, .bool b4], .bool true]) (hw : nodeB wr = true) (hs : ((sq : Int) == 0) = false) (ht : ((tm : Int) == 0) = false) (hb4 : b4 = false) (hk : key.toList = []) (hk2 : key.toList.isEmpty = true) : RightSays wr sq tm kd key A n c num node w 6 := by
  have HU := Lib.hid hu
  clear hu
  subst hb4
  go_enter Try.func10, Try.ntmps10
  go_wp2_with fail
  refine (fieldsOf_any _ _).mono ?_
  rintro e w1 ⟨rfl, hb⟩
  have h1 := boxed _ w (W := w1) (by simpa using hb)
  obtain ⟨c0, c1, c2, c3, c4, c5, c6, c7⟩ := box8 h1.2.1
  have hz := h1.2.2
  have h2 := Lib.hid h1
  clear h1 hb
  rw [HU.out]
  go_wp2_with fail
  refine (isNode_any _ _).mono ?_
  rintro e w ⟨rfl, rfl⟩
  go_wp2
  go_ret
  exact ⟨rfl, h2.out.1.alloc (Nat.le_of_lt hz) _⟩

set_option maxRecDepth 100000 in
theorem right_kl (b2 b3 b4 : Bool) (hu : usesV kd = .tuple #[.agg #[.bool true, .bool b2, .bool b3, .bool b4], .bool true]) (hw : nodeB wr = true) (hs : ((sq : Int) == 0) = false) (ht : ((tm : Int) == 0) = false) (hb4 : b4 = false) (hk : ¬ key.toList = []) (hk2 : key.toList.isEmpty = false) (hl : key.size ≤ 9223372036854775807) (hl2 : 64 < key.size) : RightSays wr sq tm kd key A n c num node w 6 := by
  have HU := Lib.hid hu
  clear hu
  subst hb4
  go_enter Try.func10, Try.ntmps10
  go_wp2_with fail
  refine (fieldsOf_any _ _).mono ?_
  rintro e w1 ⟨rfl, hb⟩
  have h1 := boxed _ w (W := w1) (by simpa using hb)
  obtain ⟨c0, c1, c2, c3, c4, c5, c6, c7⟩ := box8 h1.2.1
  have hz := h1.2.2
  have h2 := Lib.hid h1
  clear h1 hb
  rw [HU.out]
  go_wp2_with fail
  refine (isNode_any _ _).mono ?_
  rintro e w ⟨rfl, rfl⟩
  go_wp2
  go_ret
  exact ⟨rfl, h2.out.1.alloc (Nat.le_of_lt hz) _⟩

def lim (sq tm : Nat) : Int := if 9223372036854775808 ≤ sq ∨ 9223372036854775808 ≤ tm then 8 else 0
theorem lim8 {sq tm : Nat} (h : 9223372036854775808 ≤ sq ∨ 9223372036854775808 ≤ tm) : lim sq tm = 8 := if_pos h
theorem lim0 {sq tm : Nat} (h : ¬ (9223372036854775808 ≤ sq ∨ 9223372036854775808 ≤ tm)) : lim sq tm = 0 := if_neg h

set_option maxRecDepth 100000 in
theorem right_no (hu : usesV kd = .tuple #[.agg #[.bool false, .bool false, .bool false, .bool false], .bool false]) (hw : nodeB wr = true) (hs : ((sq : Int) == 0) = false) (ht : ((tm : Int) == 0) = false) : RightSays wr sq tm kd key A n c num node w 1 := by
  have HU := Lib.hid hu
  clear hu
  go_enter Try.func10, Try.ntmps10
  go_wp2_with fail
  refine (fieldsOf_any _ _).mono ?_
  rintro e w1 ⟨rfl, hb⟩
  have h1 := boxed _ w (W := w1) (by simpa using hb)
  obtain ⟨c0, c1, c2, c3, c4, c5, c6, c7⟩ := box8 h1.2.1
  have hz := h1.2.2
  have h2 := Lib.hid h1
  clear h1 hb
  rw [HU.out]
  go_wp2_with fail
  refine (isNode_any _ _).mono ?_
  rintro e w ⟨rfl, rfl⟩
  go_wp2
  go_ret
  exact ⟨rfl, h2.out.1.alloc (Nat.le_of_lt hz) _⟩

set_option maxRecDepth 100000 in
theorem right_tl (hu : usesV kd = .tuple #[.agg #[.bool true, .bool true, .bool false, .bool false], .bool true]) (hw : nodeB wr = true) (hs : ((sq : Int) == 0) = false) (ht : ((tm : Int) == 0) = false) (hk : ¬ key.toList = []) (hk2 : key.toList.isEmpty = false) (hl : key.size ≤ 9223372036854775807) (hl2 : ¬ 64 < key.size) (hn : 1048576 < n) : RightSays wr sq tm kd key A n c num node w 6 := by
  have HU := Lib.hid hu
  clear hu
  go_enter Try.func10, Try.ntmps10
  go_wp2_with fail
  refine (fieldsOf_any _ _).mono ?_
  rintro e w1 ⟨rfl, hb⟩
  have h1 := boxed _ w (W := w1) (by simpa using hb)
  obtain ⟨c0, c1, c2, c3, c4, c5, c6, c7⟩ := box8 h1.2.1
  have hz := h1.2.2
  have h2 := Lib.hid h1
  clear h1 hb
  rw [HU.out]
  go_wp2_with fail
  refine (isNode_any _ _).mono ?_
  rintro e w ⟨rfl, rfl⟩
  go_wp2
  go_ret
  exact ⟨rfl, h2.out.1.alloc (Nat.le_of_lt hz) _⟩

set_option maxRecDepth 100000 in
theorem right_1 (hu : usesV kd = .tuple #[.agg #[.bool true, .bool true, .bool false, .bool false], .bool true]) (hw : nodeB wr = true) (hs : ((sq : Int) == 0) = false) (ht : ((tm : Int) == 0) = false) (hk : ¬ key.toList = []) (hk2 : key.toList.isEmpty = false) (hl : key.size ≤ 9223372036854775807) (hl2 : ¬ 64 < key.size) (hn : ¬ 1048576 < n) (s64 : sq < 18446744073709551616) (t64 : tm < 18446744073709551616) : RightSays wr sq tm kd key A n c num node w (lim sq tm) := by
  have HU := Lib.hid hu
  clear hu
  go_enter Try.func10, Try.ntmps10
  go_wp2_with fail
  refine (fieldsOf_any _ _).mono ?_
  rintro e w1 ⟨rfl, hb⟩
  have h1 := boxed _ w (W := w1) (by simpa using hb)
  obtain ⟨c0, c1, c2, c3, c4, c5, c6, c7⟩ := box8 h1.2.1
  have hz := h1.2.2
  have h2 := Lib.hid h1
  clear h1 hb
  rw [HU.out]
  go_wp2_with fail
  refine (isNode_any _ _).mono ?_
  rintro e w ⟨rfl, rfl⟩
  go_wp2
  all_goals
    go_ret
    refine ⟨ret_int ?_, h2.out.1.alloc (Nat.le_of_lt hz) _⟩
    first
      | exact (lim8 (by omega)).symm
      | exact (lim0 (by omega)).symm

set_option maxRecDepth 100000 in
theorem right_2 (b3 : Bool) (hu : usesV kd = .tuple #[.agg #[.bool true, .bool false, .bool b3, .bool false], .bool true]) (hw : nodeB wr = true) (hs : ((sq : Int) == 0) = false) (ht : ((tm : Int) == 0) = false) (hk : ¬ key.toList = []) (hk2 : key.toList.isEmpty = false) (hl : key.size ≤ 9223372036854775807) (hl2 : ¬ 64 < key.size) (s64 : sq < 18446744073709551616) (t64 : tm < 18446744073709551616) : RightSays wr sq tm kd key A n c num node w (lim sq tm) := by
  have HU := Lib.hid hu
  clear hu
  go_enter Try.func10, Try.ntmps10
  go_wp2_with fail
  refine (fieldsOf_any _ _).mono ?_
  rintro e w1 ⟨rfl, hb⟩
  have h1 := boxed _ w (W := w1) (by simpa using hb)
  obtain ⟨c0, c1, c2, c3, c4, c5, c6, c7⟩ := box8 h1.2.1
  have hz := h1.2.2
  have h2 := Lib.hid h1
  clear h1 hb
  rw [HU.out]
  go_wp2_with fail
  refine (isNode_any _ _).mono ?_
  rintro e w ⟨rfl, rfl⟩
  go_wp2
  all_goals
    go_ret
    refine ⟨ret_int ?_, h2.out.1.alloc (Nat.le_of_lt hz) _⟩
    first
      | exact (lim8 (by omega)).symm
      | exact (lim0 (by omega)).symm

set_option maxRecDepth 100000 in
theorem right_5 (hu : usesV kd = .tuple #[.agg #[.bool false, .bool false, .bool false, .bool true], .bool true]) (hw : nodeB wr = true) (hs : ((sq : Int) == 0) = false) (ht : ((tm : Int) == 0) = false) (hn : nodeB node = true) (s64 : sq < 18446744073709551616) (t64 : tm < 18446744073709551616) : RightSays wr sq tm kd key A n c num node w (lim sq tm) := by
  have HU := Lib.hid hu
  clear hu
  go_enter Try.func10, Try.ntmps10
  go_wp2_with fail
  refine (fieldsOf_any _ _).mono ?_
  rintro e w1 ⟨rfl, hb⟩
  have h1 := boxed _ w (W := w1) (by simpa using hb)
  obtain ⟨c0, c1, c2, c3, c4, c5, c6, c7⟩ := box8 h1.2.1
  have hz := h1.2.2
  have h2 := Lib.hid h1
  clear h1 hb
  rw [HU.out]
  go_wp2_with fail
  refine (isNode_any _ _).mono ?_
  rintro e w ⟨rfl, rfl⟩
  go_wp2_with fail
  refine (isNode_any _ _).mono ?_
  rintro e w ⟨rfl, rfl⟩
  go_wp2
  all_goals
    go_ret
    refine ⟨ret_int ?_, h2.out.1.alloc (Nat.le_of_lt hz) _⟩
    first
      | exact (lim8 (by omega)).symm
      | exact (lim0 (by omega)).symm

set_option maxRecDepth 100000 in
theorem right_6 (hu : usesV kd = .tuple #[.agg #[.bool false, .bool false, .bool false, .bool false], .bool true]) (hw : nodeB wr = true) (hs : ((sq : Int) == 0) = false) (ht : ((tm : Int) == 0) = false) (s64 : sq < 18446744073709551616) (t64 : tm < 18446744073709551616) : RightSays wr sq tm kd key A n c num node w (lim sq tm) := by
  have HU := Lib.hid hu
  clear hu
  go_enter Try.func10, Try.ntmps10
  go_wp2_with fail
  refine (fieldsOf_any _ _).mono ?_
  rintro e w1 ⟨rfl, hb⟩
  have h1 := boxed _ w (W := w1) (by simpa using hb)
  obtain ⟨c0, c1, c2, c3, c4, c5, c6, c7⟩ := box8 h1.2.1
  have hz := h1.2.2
  have h2 := Lib.hid h1
  clear h1 hb
  rw [HU.out]
  go_wp2_with fail
  refine (isNode_any _ _).mono ?_
  rintro e w ⟨rfl, rfl⟩
  go_wp2
  all_goals
    go_ret
    refine ⟨ret_int ?_, h2.out.1.alloc (Nat.le_of_lt hz) _⟩
    first
      | exact (lim8 (by omega)).symm
      | exact (lim0 (by omega)).symm
end

theorem rightE_bad {e : Ev} (h : (e.writer < 0 ∨ 63 < e.writer ∨ e.seq = 0 ∨ e.time = 0 ∨ e.kind < 1 ∨ 6 < e.kind) ∨ e.kind = 5 ∧ (e.node < 0 ∨ 63 < e.node)) : rightE e = 1 := by
  unfold rightE
  by_cases h1 : e.writer < 0 ∨ 63 < e.writer ∨ e.seq = 0 ∨ e.time = 0 ∨ e.kind < 1 ∨ 6 < e.kind
  · rw [if_pos h1]
  · rw [if_neg h1, if_pos (by omega)]
theorem rightE_long {e : Ev} (h1 : ¬ (e.writer < 0 ∨ 63 < e.writer ∨ e.seq = 0 ∨ e.time = 0 ∨ e.kind < 1 ∨ 6 < e.kind)) (h2 : ¬ (e.kind = 5 ∧ (e.node < 0 ∨ 63 < e.node))) (h : (e.kind ≤ 4 ∧ (e.key.size = 0 ∨ 64 < e.key.size)) ∨ e.kind = 1 ∧ 1048576 < e.text.length) : rightE e = 6 := by
  unfold rightE
  rw [if_neg h1, if_neg h2]
  by_cases h3 : e.kind ≤ 4 ∧ (e.key.size = 0 ∨ 64 < e.key.size)
  · rw [if_pos h3]
  · rw [if_neg h3, if_pos (by omega)]
theorem rightE_lim {e : Ev} (h1 : ¬ (e.writer < 0 ∨ 63 < e.writer ∨ e.seq = 0 ∨ e.time = 0 ∨ e.kind < 1 ∨ 6 < e.kind)) (h2 : ¬ (e.kind = 5 ∧ (e.node < 0 ∨ 63 < e.node))) (h3 : ¬ ((e.kind ≤ 4 ∧ (e.key.size = 0 ∨ 64 < e.key.size)) ∨ e.kind = 1 ∧ 1048576 < e.text.length)) : (rightE e : Int) = lim e.seq e.time := by
  unfold rightE lim
  rw [if_neg h1, if_neg h2, if_neg (by omega), if_neg (by omega)]
  split <;> rfl

theorem beq_zero {n : Nat} (h : n = 0) : ((n : Int) == 0) = true := by subst h; rfl
theorem beq_pos {n : Nat} (h : n ≠ 0) : ((n : Int) == 0) = false := by rw [beq_eq_false_iff_ne]; omega
theorem node_no {n : Int} (h : ¬ (0 ≤ n ∧ n ≤ 63)) : nodeB n = false := decide_eq_false h
theorem node_yes {n : Int} (h : 0 ≤ n ∧ n ≤ 63) : nodeB n = true := decide_eq_true h

/-- event.Right, of any event. -/
theorem right_any (e : Ev) (A : Option Addr) (n c : Nat) (w : World) (hf : e.Fit) (hn : n = e.text.length) (hl : e.text.length ≤ 9223372036854775807) (hl2 : e.key.size ≤ 9223372036854775807) :
    Calls Try.prog 10 #[e.val A n c] w fun e' w' => e' = .returned (.int .i64 (rightE e : Int)) ∧ Below w.heap.size w w' := by
  show RightSays e.writer e.seq e.time e.kind e.key A n c e.num e.node w (rightE e : Int)
  have h64 := hf.s
  have t64 := hf.t
  subst hn
  by_cases hw : 0 ≤ e.writer ∧ e.writer ≤ 63
  case neg => rw [rightE_bad (e := e) (by omega)]; exact right_w (node_no hw)
  have hw' := node_yes hw
  by_cases hs : e.seq = 0
  case pos => rw [rightE_bad (e := e) (by omega)]; exact right_s hw' (beq_zero hs)
  have hs' := beq_pos hs
  by_cases ht : e.time = 0
  case pos => rw [rightE_bad (e := e) (by omega)]; exact right_t hw' hs' (beq_zero ht)
  have ht' := beq_pos ht
  have hkl := key_len e.key
  have hke : e.key.size = 0 ∨ (0 < e.key.size ∧ ¬ e.key.toList = [] ∧ e.key.toList.isEmpty = false) := by
    cases h : e.key.toList with
    | nil => left; rw [h, List.length_nil] at hkl; omega
    | cons x r => right; rw [h, List.length_cons] at hkl; exact ⟨by omega, by simp, rfl⟩
  have hk0 : e.key.size = 0 → e.key.toList = [] ∧ e.key.toList.isEmpty = true := fun h => by
    have : e.key.toList = [] := List.eq_nil_of_length_eq_zero (by omega)
    rw [this]; exact ⟨rfl, rfl⟩
  clear hkl
  rcases shapes e.kind with ⟨hk, hu⟩ | ⟨hk, b, hu⟩ | ⟨hk, hu⟩ | ⟨hk, hu⟩ | ⟨hk, hu⟩
  · rcases hke with hke | ⟨hk1, hk2, hk3⟩
    · rw [rightE_long (e := e) (by omega) (by omega) (by omega)]; exact right_k6 _ _ _ hu hw' hs' ht' rfl (hk0 hke).1 (hk0 hke).2
    · by_cases hl3 : 64 < e.key.size
      · rw [rightE_long (e := e) (by omega) (by omega) (by omega)]; exact right_kl _ _ _ hu hw' hs' ht' rfl hk2 hk3 hl2 hl3
      · by_cases hn : 1048576 < e.text.length
        · rw [rightE_long (e := e) (by omega) (by omega) (by omega)]; exact right_tl hu hw' hs' ht' hk2 hk3 hl2 hl3 hn
        · rw [rightE_lim (e := e) (by omega) (by omega) (by omega)]; exact right_1 hu hw' hs' ht' hk2 hk3 hl2 hl3 hn h64 t64
  · rcases hke with hke | ⟨hk1, hk2, hk3⟩
    · rw [rightE_long (e := e) (by omega) (by omega) (by omega)]; exact right_k6 _ _ _ hu hw' hs' ht' rfl (hk0 hke).1 (hk0 hke).2
    · by_cases hl3 : 64 < e.key.size
      · rw [rightE_long (e := e) (by omega) (by omega) (by omega)]; exact right_kl _ _ _ hu hw' hs' ht' rfl hk2 hk3 hl2 hl3
      · rw [rightE_lim (e := e) (by omega) (by omega) (by omega)]; exact right_2 _ hu hw' hs' ht' hk2 hk3 hl2 hl3 h64 t64
  · by_cases hn : 0 ≤ e.node ∧ e.node ≤ 63
    · rw [rightE_lim (e := e) (by omega) (by omega) (by omega)]; exact right_5 hu hw' hs' ht' (node_yes hn) h64 t64
    · rw [rightE_bad (e := e) (by omega)]; exact right_k1 _ _ _ _ hu hw' hs' ht' rfl (node_no hn)
  · rw [rightE_lim (e := e) (by omega) (by omega) (by omega)]; exact right_6 hu hw' hs' ht' h64 t64
  · rw [rightE_bad (e := e) (by omega)]; exact right_no hu hw' hs' ht'
end Go.Proofs.Ytocokfgkbdfodaa.Evt
