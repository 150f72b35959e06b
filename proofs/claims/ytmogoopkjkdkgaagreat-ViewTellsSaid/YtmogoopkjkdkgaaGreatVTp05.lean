/- Sums of floats: what all agree on. Layer 11: a fold as plain data: keys that rise, what an event makes of it. Lists and numbers alone, no program. Layer 15: events in the order of all, one after the other: each is taken. Lists and numbers alone. -/
import Derived.Sort.KeysCollected
import Derived.Test.YtmogoopkjkdkgaaGreatVTp04
namespace Go.Proofs.YtmogoopkjkdkgaaGreat.Q
open Go Go.RowKit Go.Proofs.YtmogoopkjkdkgaaGreat.Words
set_option linter.unusedVariables false
set_option linter.unusedSimpArgs false

/-- The bits that all agree on, of what an operation gives. -/
def ob (o : Option Nat) : Nat := match o with | some r => qb r | none => 9221120237041090561
theorem qb_ob (o : Option Nat) : qb (ob o) = ob o := by
  cases o with
  | none => simp [ob, qb, void_void]
  | some r => exact qb_qb r
theorem cmp_self (a : Int) : compare a a = .eq := by simp [compare, compareOfLessAndEq]
theorem void_nan {x : Nat} {s : Bool} {t : Nat} (h : FloatKind.f64.format.read x = .nan s t) : void x = true := by
  unfold void Ieee.Format.order
  rw [h]
  rfl
theorem nan_of_void {x : Nat} (h : void x = true) : ∃ s t, FloatKind.f64.format.read x = .nan s t := by
  unfold void Ieee.Format.order at h
  cases hr : FloatKind.f64.format.read x with
  | nan s t => exact ⟨s, t, rfl⟩
  | infinity s => rw [hr] at h; simp [Ieee.Datum.order] at h
  | number s m i => rw [hr] at h; simp [Ieee.Datum.order, cmp_self] at h
theorem read_great (x : Nat) (h : 9218868437227405312 < x % 9223372036854775808) : ∃ s t, FloatKind.f64.format.read x = .nan s t := by
  have e : FloatKind.f64.format.read x = if x % 9223372036854775808 < 4503599627370496 then .number (x / 9223372036854775808 % 2 == 1) (x % 9223372036854775808) (-1074)
    else if x % 9223372036854775808 < 9218868437227405312 then .number (x / 9223372036854775808 % 2 == 1) (4503599627370496 + x % 9223372036854775808 % 4503599627370496) (-1074 + (x % 9223372036854775808 / 4503599627370496 - 1 : Nat))
    else if x % 9223372036854775808 = 9218868437227405312 then .infinity (x / 9223372036854775808 % 2 == 1) else .nan (x / 9223372036854775808 % 2 == 1) (x % 9223372036854775808 - 9218868437227405312) := rfl
  rw [e, if_neg (by omega), if_neg (by omega), if_neg (by omega)]
  exact ⟨_, _, rfl⟩
theorem nan_void (t : Nat) : void ((t % 2) * 2 ^ 63 + 0x7ff0000000000000 + 1 + (t / 2) % (2 ^ 52 - 1)) = true := by
  have h1 : t % 2 < 2 := Nat.mod_lt _ (by omega)
  have h2 : (t / 2) % (2 ^ 52 - 1) < 2 ^ 52 - 1 := Nat.mod_lt _ (by omega)
  generalize t % 2 = a at h1
  generalize (t / 2) % (2 ^ 52 - 1) = b at h2
  obtain ⟨s, u, h⟩ := read_great (a * 2 ^ 63 + 0x7ff0000000000000 + 1 + b) (by omega)
  exact void_nan h
theorem add_any (x y : Nat) (t : TypeId) (w : World) : ∃ r w', (binOp .add t (.float .f64 x) (.float .f64 y)).run Tryz.prog w = .ok (.float .f64 r) w' ∧ qb r = ob (FloatKind.f64.format.add x y) ∧ Below w.heap.size w w' := by
  cases h : FloatKind.f64.format.add x y with
  | some r => exact ⟨r, w, by simp [binOp, Op.floatArith, h], rfl, Below.refl _ _⟩
  | none =>
    refine ⟨Question.cut (.nanBits .f64 x y) (w.tape w.drawn (.nanBits .f64 x y)), w.drew, by simp [binOp, Op.floatArith, h, Question.forced], ?_, (Below.refl _ _).drew⟩
    have hv : void (Question.cut (.nanBits .f64 x y) (w.tape w.drawn (.nanBits .f64 x y))) = true := nan_void _
    rw [qb, hv]; rfl
theorem sub_any (x y : Nat) (t : TypeId) (w : World) : ∃ r w', (binOp .sub t (.float .f64 x) (.float .f64 y)).run Tryz.prog w = .ok (.float .f64 r) w' ∧ qb r = ob (FloatKind.f64.format.sub x y) ∧ Below w.heap.size w w' := by
  cases h : FloatKind.f64.format.sub x y with
  | some r => exact ⟨r, w, by simp [binOp, Op.floatArith, h], rfl, Below.refl _ _⟩
  | none =>
    refine ⟨Question.cut (.nanBits .f64 x y) (w.tape w.drawn (.nanBits .f64 x y)), w.drew, by simp [binOp, Op.floatArith, h, Question.forced], ?_, (Below.refl _ _).drew⟩
    have hv : void (Question.cut (.nanBits .f64 x y) (w.tape w.drawn (.nanBits .f64 x y))) = true := nan_void _
    rw [qb, hv]; rfl
theorem add_void {x y : Nat} (h : void x = true ∨ void y = true) : FloatKind.f64.format.add x y = none := by
  unfold Ieee.Format.add
  rcases h with h | h
  · obtain ⟨s, t, e⟩ := nan_of_void h
    rw [e]; rfl
  · obtain ⟨s, t, e⟩ := nan_of_void h
    rw [e]
    cases FloatKind.f64.format.read x <;> rfl
theorem sub_void {x : Nat} (h : void x = true) : FloatKind.f64.format.sub x x = none := by
  unfold Ieee.Format.sub
  obtain ⟨s, t, e⟩ := nan_of_void h
  rw [e]; rfl
theorem word_lt (neg : Bool) {r : Nat} (h : r ≤ 9223372036854775807) : FloatKind.f64.format.word neg r < 18446744073709551616 := by
  have e : FloatKind.f64.format.word neg r = if neg then 9223372036854775808 + r else r := rfl
  rw [e]
  split <;> omega
theorem write_lt (d : Ieee.Datum) : FloatKind.f64.format.write d < 18446744073709551616 := by
  have hi : FloatKind.f64.format.infRung = 9218868437227405312 := rfl
  have hb : FloatKind.f64.format.binade = 4503599627370496 := rfl
  cases d with
  | number s m i =>
    unfold Ieee.Format.write Ieee.Format.nearest
    simp only []
    split
    · exact word_lt _ (by omega)
    · refine word_lt _ (Nat.le_trans (Nat.min_le_right _ _) ?_)
      rw [hi]; omega
  | infinity s =>
    unfold Ieee.Format.write
    simp only []
    exact word_lt _ (by rw [hi]; omega)
  | nan s t =>
    unfold Ieee.Format.write
    simp only []
    refine word_lt _ ?_
    rw [hi, hb]
    have := Nat.mod_lt t (show 4503599627370496 > 0 by omega)
    omega
theorem ob_lt (x y : Nat) : ob (FloatKind.f64.format.add x y) < 18446744073709551616 := by
  unfold ob
  unfold Ieee.Format.add
  cases ((FloatKind.f64.format.read x).sum (FloatKind.f64.format.read y)) with
  | none => simp
  | some d => exact qb_lt _ (write_lt d)
theorem void_qb (x : Nat) : void (qb x) = void x := by
  unfold qb
  cases h : void x with
  | true => simpa using void_void
  | false => simpa using h
/-- Whichever bits a NaN has, the sum is the same. -/
theorem ob_add {x y a b : Nat} (hx : qb x = qb a) (hy : qb y = qb b) : ob (FloatKind.f64.format.add x y) = ob (FloatKind.f64.format.add a b) := by
  have vx : void x = void a := by rw [← void_qb x, hx, void_qb]
  have vy : void y = void b := by rw [← void_qb y, hy, void_qb]
  by_cases h : void x = true ∨ void y = true
  · rw [add_void h, add_void (by rw [← vx, ← vy]; exact h)]
  · have h1 : void x = false := by cases hv : void x <;> simp_all
    have h2 : void y = false := by cases hv : void y <;> simp_all
    have e1 : x = a := by unfold qb at hx; rw [← vx, h1] at hx; simpa using hx
    have e2 : y = b := by unfold qb at hy; rw [← vy, h2] at hy; simpa using hy
    rw [e1, e2]

set_option maxRecDepth 100000 in
theorem sumq_any (x y : Nat) (w : World) : Calls Tryz.prog 108 #[.float .f64 x, .float .f64 y] w fun e w' => e = .returned (.float .f64 (ob (FloatKind.f64.format.add x y))) ∧ Below w.heap.size w w' := by
  obtain ⟨r, w1, hrun, hq, hb⟩ := add_any x y 30 w
  go_enter Tryz.func108, Tryz.ntmps108
  go_wp2_with fail
  refine (plainQ_any _ _).mono ?_
  rintro e w2 ⟨rfl, rfl⟩
  rw [hq]
  go_wp2
  go_ret
  exact ⟨rfl, hb⟩
end Go.Proofs.YtmogoopkjkdkgaaGreat.Q
namespace Go.Proofs.YtmogoopkjkdkgaaGreat.Fol
open Go Go.RowKit Go.Proofs.YtmogoopkjkdkgaaGreat.Words Go.Proofs.YtmogoopkjkdkgaaGreat.Enc Go.Proofs.YtmogoopkjkdkgaaGreat.Q Go.Proofs.YtmogoopkjkdkgaaGreat.Evt
set_option linter.unusedVariables false
set_option linter.unusedSimpArgs false

abbrev Key := List UInt8
theorem key_tri (a b : Key) : a < b ∨ a = b ∨ b < a := by
  by_cases h : a < b
  · exact .inl h
  · by_cases h2 : b < a
    · exact .inr (.inr h2)
    · exact .inr (.inl (List.le_antisymm (List.not_lt.1 h2) (List.not_lt.1 h)))
theorem key_ne {a b : Key} (h : a < b) : a ≠ b := fun e => List.lt_irrefl _ (e ▸ h)
section
variable {α β : Type}
/-- What stands at a key. -/
def lk (s : Key) (L : List (Key × α)) : Option α := (L.find? fun p => decide (p.1 = s)).map (·.2)
def Rise (L : List (Key × α)) : Prop := L.Pairwise fun p q => p.1 < q.1
/-- A key has that. -/
def ins (k : Key) (c : α) : List (Key × α) → List (Key × α)
  | [] => [(k, c)]
  | p :: r => if p.1 < k then p :: ins k c r else if p.1 = k then (k, c) :: r else (k, c) :: p :: r
/-- A key has nothing. -/
def del (k : Key) : List (Key × α) → List (Key × α)
  | [] => []
  | p :: r => if p.1 = k then r else p :: del k r
/-- How many keys stand ahead of a key. -/
def idx (k : Key) : List (Key × α) → Nat
  | [] => 0
  | p :: r => if p.1 < k then idx k r + 1 else 0

theorem lk_nil (s : Key) : lk s ([] : List (Key × α)) = none := rfl
theorem lk_cons (s : Key) (p : Key × α) (r : List (Key × α)) : lk s (p :: r) = if p.1 = s then some p.2 else lk s r := by
  unfold lk
  rw [List.find?_cons]
  by_cases h : p.1 = s <;> simp [h]
theorem lk_none_iff {s : Key} {L : List (Key × α)} : lk s L = none ↔ ∀ p ∈ L, p.1 ≠ s := by simp [lk]
theorem lk_some_mem {s : Key} {L : List (Key × α)} {c : α} (h : lk s L = some c) : (s, c) ∈ L := by
  induction L with
  | nil => cases h
  | cons p r ih =>
    rw [lk_cons] at h
    split at h
    · rename_i e
      injection h with h
      subst h; subst e
      exact List.mem_cons_self
    · exact List.mem_cons_of_mem _ (ih h)
theorem lk_ins (s k : Key) (c : α) (L : List (Key × α)) : lk s (ins k c L) = if s = k then some c else lk s L := by
  induction L with
  | nil =>
    simp only [ins, lk_cons, lk_nil]
    by_cases h : s = k
    · simp [h]
    · simp [h, Ne.symm h]
  | cons p r ih =>
    simp only [ins]
    split
    · rename_i h
      rw [lk_cons, lk_cons, ih]
      by_cases e : s = k
      · subst e
        rw [if_pos rfl, if_neg (key_ne h), if_pos rfl]
      · rw [if_neg e, if_neg e]
    · rename_i h
      split
      · rename_i h2
        rw [lk_cons, lk_cons]
        by_cases e : s = k
        · subst e; simp
        · simp [e, Ne.symm e, h2]
      · rename_i h2
        rw [lk_cons]
        by_cases e : s = k
        · subst e; simp
        · simp [e, Ne.symm e]
theorem mem_ins {k : Key} {c : α} {L : List (Key × α)} {p : Key × α} (h : p ∈ ins k c L) : p = (k, c) ∨ p ∈ L := by
  induction L with
  | nil => simp [ins] at h; exact .inl h
  | cons q r ih =>
    simp only [ins] at h
    split at h
    · rcases List.mem_cons.1 h with rfl | h
      · exact .inr List.mem_cons_self
      · exact (ih h).imp id fun h => List.mem_cons_of_mem _ h
    · split at h
      · rcases List.mem_cons.1 h with rfl | h
        · exact .inl rfl
        · exact .inr (List.mem_cons_of_mem _ h)
      · rcases List.mem_cons.1 h with rfl | h
        · exact .inl rfl
        · exact .inr h
theorem mem_del {k : Key} {L : List (Key × α)} {p : Key × α} (h : p ∈ del k L) : p ∈ L := by
  induction L with
  | nil => cases h
  | cons q r ih =>
    simp only [del] at h
    split at h
    · exact List.mem_cons_of_mem _ h
    · rcases List.mem_cons.1 h with rfl | h
      · exact List.mem_cons_self
      · exact List.mem_cons_of_mem _ (ih h)
theorem rise_ins {k : Key} {c : α} {L : List (Key × α)} (h : Rise L) : Rise (ins k c L) := by
  unfold Rise at h ⊢
  induction L with
  | nil => simp [ins]
  | cons q r ih =>
    rw [List.pairwise_cons] at h
    simp only [ins]
    split
    · rename_i hq
      rw [List.pairwise_cons]
      refine ⟨fun p hp => ?_, ih h.2⟩
      rcases mem_ins hp with rfl | hp
      · exact hq
      · exact h.1 p hp
    · rename_i hq
      split
      · rename_i he
        rw [List.pairwise_cons]
        exact ⟨fun p hp => by have := h.1 p hp; rwa [he] at this, h.2⟩
      · rename_i he
        have hk : k < q.1 := by
          rcases key_tri k q.1 with h1 | h1 | h1
          · exact h1
          · exact absurd h1.symm he
          · exact absurd h1 hq
        rw [List.pairwise_cons, List.pairwise_cons]
        refine ⟨fun p hp => ?_, h⟩
        rcases List.mem_cons.1 hp with rfl | hp
        · exact hk
        · exact List.lt_trans hk (h.1 p hp)
theorem del_sub (k : Key) (L : List (Key × α)) : (del k L).Sublist L := by
  induction L with
  | nil => exact List.Sublist.refl _
  | cons q r ih =>
    simp only [del]
    split
    · exact List.sublist_cons_self _ _
    · exact ih.cons_cons _
theorem rise_del {k : Key} {L : List (Key × α)} (h : Rise L) : Rise (del k L) := h.sublist (del_sub k L)
theorem lk_head {k : Key} {q : Key × α} {r : List (Key × α)} (h : Rise (q :: r)) (hk : ¬ q.1 < k) : lk k r = none := by
  rw [lk_none_iff]
  intro p hp e
  have := (List.pairwise_cons.1 h).1 p hp
  rw [e] at this
  exact hk this
theorem lk_del (s k : Key) {L : List (Key × α)} (h : Rise L) : lk s (del k L) = if s = k then none else lk s L := by
  induction L with
  | nil => simp [del, lk_nil]
  | cons q r ih =>
    simp only [del]
    by_cases e : q.1 = k
    · rw [if_pos e]
      by_cases e2 : s = k
      · subst e2
        rw [if_pos rfl]
        exact lk_head h (by rw [e]; exact List.lt_irrefl _)
      · rw [if_neg e2, lk_cons, if_neg (by rw [e]; exact Ne.symm e2)]
    · rw [if_neg e, lk_cons, lk_cons, ih (List.pairwise_cons.1 h).2]
      by_cases e2 : s = k
      · subst e2; rw [if_pos rfl, if_neg e, if_pos rfl]
      · rw [if_neg e2, if_neg e2]
theorem len_ins (k : Key) (c : α) {L : List (Key × α)} (h : Rise L) : (ins k c L).length = if (lk k L).isSome then L.length else L.length + 1 := by
  induction L with
  | nil => simp [ins, lk_nil]
  | cons q r ih =>
    have ih := ih (List.pairwise_cons.1 h).2
    simp only [ins, lk_cons]
    by_cases h1 : q.1 < k
    · rw [if_pos h1, if_neg (key_ne h1), List.length_cons, ih]
      split <;> simp
    · rw [if_neg h1]
      by_cases h2 : q.1 = k
      · rw [if_pos h2, if_pos h2]; simp
      · rw [if_neg h2, if_neg h2, lk_head h h1]; simp
theorem len_del (k : Key) (L : List (Key × α)) : (del k L).length = if (lk k L).isSome then L.length - 1 else L.length := by
  induction L with
  | nil => simp [del, lk_nil]
  | cons q r ih =>
    simp only [del, lk_cons]
    by_cases h2 : q.1 = k
    · rw [if_pos h2, if_pos h2]; simp
    · rw [if_neg h2, if_neg h2, List.length_cons, ih]
      split
      · rename_i hs
        have : r ≠ [] := by rintro rfl; cases hs
        have := List.length_pos_iff.2 this
        simp; omega
      · simp
theorem idx_le (k : Key) (L : List (Key × α)) : idx k L ≤ L.length := by
  induction L with
  | nil => simp [idx]
  | cons q r ih => simp only [idx]; split <;> simp; omega
theorem idx_lt {k : Key} {L : List (Key × α)} {j : Nat} {p : Key × α} (hj : j < idx k L) (hp : L[j]? = some p) : p.1 < k := by
  induction L generalizing j with
  | nil => simp at hp
  | cons q r ih =>
    simp only [idx] at hj
    split at hj
    · cases j with
      | zero => simp at hp; subst hp; assumption
      | succ j => exact ih (j := j) (by omega) (by simpa using hp)
    · omega
theorem idx_at {k : Key} {L : List (Key × α)} {p : Key × α} (hp : L[idx k L]? = some p) : ¬ p.1 < k := by
  induction L with
  | nil => simp at hp
  | cons q r ih =>
    simp only [idx] at hp
    split at hp
    · exact ih (by simpa using hp)
    · simp at hp; subst hp; assumption
theorem idx_is {k : Key} {L : List (Key × α)} {i : Nat} (hi : i ≤ L.length) (h1 : ∀ j p, j < i → L[j]? = some p → p.1 < k) (h2 : ∀ p, L[i]? = some p → ¬ p.1 < k) : i = idx k L := by
  rcases Nat.lt_trichotomy i (idx k L) with h | h | h
  · have hl : i < L.length := by have := idx_le k L; omega
    exact absurd (idx_lt h (List.getElem?_eq_getElem hl)) (h2 _ (List.getElem?_eq_getElem hl))
  · exact h
  · have hl : idx k L < L.length := by omega
    exact absurd (h1 _ _ h (List.getElem?_eq_getElem hl)) (idx_at (List.getElem?_eq_getElem hl))
/-- Is the key there? -/
def there (k : Key) (L : List (Key × α)) : Bool := match L[idx k L]? with
  | some p => decide (p.1 = k)
  | none => false
theorem lk_idx {k : Key} {L : List (Key × α)} (h : Rise L) : lk k L = if there k L then (L[idx k L]?).map (·.2) else none := by
  induction L with
  | nil => simp [lk_nil, there]
  | cons q r ih =>
    have ih := ih (List.pairwise_cons.1 h).2
    by_cases h1 : q.1 < k
    · have e : idx k (q :: r) = idx k r + 1 := by simp only [idx, if_pos h1]
      have ht : there k (q :: r) = there k r := by simp only [there, e, List.getElem?_cons_succ]
      rw [lk_cons, if_neg (key_ne h1), ih, ht, e, List.getElem?_cons_succ]
    · have e : idx k (q :: r) = 0 := by simp only [idx, if_neg h1]
      have ht : there k (q :: r) = decide (q.1 = k) := by simp only [there, e, List.getElem?_cons_zero]
      rw [lk_cons, lk_head h h1, ht, e]
      by_cases h2 : q.1 = k <;> simp [h2]
theorem ins_eq (k : Key) (c : α) (L : List (Key × α)) : ins k c L = L.take (idx k L) ++ (k, c) :: L.drop (idx k L + (if there k L then 1 else 0)) := by
  induction L with
  | nil => simp [ins, idx, there]
  | cons q r ih =>
    by_cases h1 : q.1 < k
    · have e : idx k (q :: r) = idx k r + 1 := by simp only [idx, if_pos h1]
      have ht : there k (q :: r) = there k r := by simp only [there, e, List.getElem?_cons_succ]
      simp only [ins, if_pos h1, e, ht]
      rw [ih, List.take_succ_cons, List.cons_append, show idx k r + 1 + (if there k r = true then 1 else 0) = (idx k r + (if there k r = true then 1 else 0)) + 1 by omega, List.drop_succ_cons]
    · have e : idx k (q :: r) = 0 := by simp only [idx, if_neg h1]
      have ht : there k (q :: r) = decide (q.1 = k) := by simp only [there, e, List.getElem?_cons_zero]
      simp only [ins, if_neg h1, e, ht]
      by_cases h2 : q.1 = k <;> simp [h2]
theorem del_eq (k : Key) {L : List (Key × α)} (h : Rise L) : del k L = if there k L then L.take (idx k L) ++ L.drop (idx k L + 1) else L := by
  induction L with
  | nil => simp [del, there]
  | cons q r ih =>
    have ih := ih (List.pairwise_cons.1 h).2
    by_cases h1 : q.1 < k
    · have e : idx k (q :: r) = idx k r + 1 := by simp only [idx, if_pos h1]
      have ht : there k (q :: r) = there k r := by simp only [there, e, List.getElem?_cons_succ]
      simp only [del, if_neg (key_ne h1), e, ht]
      rw [ih]
      split <;> simp
    · have e : idx k (q :: r) = 0 := by simp only [idx, if_neg h1]
      have ht : there k (q :: r) = decide (q.1 = k) := by simp only [there, e, List.getElem?_cons_zero]
      simp only [del, e, ht]
      by_cases h2 : q.1 = k
      · simp [h2]
      · have hn : ∀ p ∈ r, p.1 ≠ k := lk_none_iff.1 (lk_head h h1)
        have hd : ∀ l : List (Key × α), (∀ p ∈ l, p.1 ≠ k) → del k l = l := by
          intro l
          induction l with
          | nil => intro _; rfl
          | cons p r ih => intro hp; simp only [del, if_neg (hp p List.mem_cons_self)]; rw [ih fun q hq => hp q (List.mem_cons_of_mem _ hq)]
        simp [h2, hd r hn]

/-- The same with other values. -/
def mapV (f : α → β) (L : List (Key × α)) : List (Key × β) := L.map fun p => (p.1, f p.2)
theorem mapV_len (f : α → β) (L : List (Key × α)) : (mapV f L).length = L.length := by simp [mapV]
theorem mapV_get (f : α → β) (L : List (Key × α)) (j : Nat) : (mapV f L)[j]? = (L[j]?).map fun p => (p.1, f p.2) := by simp [mapV]
theorem mapV_ins (f : α → β) (k : Key) (c : α) (L : List (Key × α)) : mapV f (ins k c L) = ins k (f c) (mapV f L) := by
  induction L with
  | nil => rfl
  | cons q r ih =>
    unfold mapV at ih ⊢
    simp only [List.map_cons, ins]
    split
    · rw [List.map_cons, ih]
    · split <;> simp
theorem mapV_del (f : α → β) (k : Key) (L : List (Key × α)) : mapV f (del k L) = del k (mapV f L) := by
  induction L with
  | nil => rfl
  | cons q r ih =>
    unfold mapV at ih ⊢
    simp only [List.map_cons, del]
    split
    · rfl
    · rw [List.map_cons, ih]
theorem mapV_lk (f : α → β) (k : Key) (L : List (Key × α)) : lk k (mapV f L) = (lk k L).map f := by
  induction L with
  | nil => rfl
  | cons q r ih =>
    have : mapV f (q :: r) = (q.1, f q.2) :: mapV f r := rfl
    rw [this, lk_cons, lk_cons, ih]
    split <;> rfl
theorem mapV_rise (f : α → β) (L : List (Key × α)) : Rise (mapV f L) ↔ Rise L := by
  unfold Rise mapV
  rw [List.pairwise_map]
theorem mapV_keys (f : α → β) (L : List (Key × α)) : (mapV f L).map (·.1) = L.map (·.1) := by simp [mapV, Function.comp_def]
theorem rise_sorted {L : List (Key × α)} (h : Rise L) {ss : List Key} (hp : ss.Perm (L.map (·.1))) : ss.mergeSort leB = L.map (·.1) := by
  rw [mergeSort_of_perm hp]
  refine List.mergeSort_of_pairwise ?_
  rw [List.pairwise_map]
  refine List.Pairwise.imp (fun {p q} hpq => ?_) h
  simpa using List.le_of_lt hpq
theorem rise_nodup {L : List (Key × α)} (h : Rise L) : (L.map (·.1)).Nodup := by
  unfold List.Nodup
  rw [List.pairwise_map]
  exact List.Pairwise.imp (fun {p q} hpq => key_ne hpq) h
end

/-- What a key has. -/
structure Cel where
  kind : Nat
  text : List UInt8
  num : Nat
/-- A fold. -/
structure Fo where
  L : List (Key × Cel)
  J : List Bool
  R : List Bool
  H : List Nat
  time : Nat
  wr : Nat
  mark : Nat
def hashL (m : Nat) (p : List UInt8) : Nat := p.foldl (fun m b => ((m ^^^ b.toNat) * 1099511628211) % 18446744073709551616) m
/-- Does the event stand behind the last one? -/
def behind (F : Fo) (e : Ev) : Prop := F.time < e.time ∨ F.time = e.time ∧ (F.wr : Int) < e.writer
instance (F : Fo) (e : Ev) : Decidable (behind F e) := by unfold behind; infer_instance
/-- The sum of an Add. -/
def sumOf (F : Fo) (k : Key) (x : Nat) : Nat := match lk k F.L with
  | some c => if c.kind = 2 then ob (FloatKind.f64.format.add c.num (qb x)) else qb x
  | none => qb x
def change (F : Fo) (e : Ev) : Fo :=
  if e.kind = 1 then { F with L := ins e.key.data.toList ⟨1, e.text, 0⟩ F.L }
  else if e.kind = 2 then { F with L := ins e.key.data.toList ⟨2, [], qb e.num⟩ F.L }
  else if e.kind = 3 then { F with L := ins e.key.data.toList ⟨2, [], sumOf F e.key.data.toList e.num⟩ F.L }
  else if e.kind = 4 then { F with L := del e.key.data.toList F.L }
  else if e.kind = 5 then { F with J := F.J.set e.node.toNat true }
  else { F with R := F.R.set e.writer.toNat true }
def taken (F : Fo) (e : Ev) : Fo := { change F e with H := F.H.set e.writer.toNat e.seq, time := e.time, wr := e.writer.toNat, mark := hashL F.mark (evL e) }
/-- What an event makes of a fold, and the error. -/
def applyE (F : Fo) (e : Ev) : Nat := if rightE e ≠ 0 then rightE e else if ¬ behind F e then 10 else if e.seq ≠ F.H.getD e.writer.toNat 0 + 1 then 9 else 0
def applyF (F : Fo) (e : Ev) : Fo := if applyE F e = 0 then taken F e else F
def newF (n : Nat) : Fo := ⟨[], (List.range 64).map fun i => decide (i < n), List.replicate 64 false, List.replicate 64 0, 0, 0, 14695981039346656037⟩

/-- A fold's numbers are in their bounds. -/
structure Ok (F : Fo) : Prop where
  rise : Rise F.L
  j : F.J.length = 64
  r : F.R.length = 64
  h : F.H.length = 64
  hs : ∀ n ∈ F.H, n < 9223372036854775808
  time : F.time < 9223372036854775808
  wr : F.wr ≤ 63
  mark : F.mark < 18446744073709551616
  cel : ∀ p ∈ F.L, p.1.length ≤ 64 ∧ p.2.text.length ≤ 1048576 ∧ p.2.num < 18446744073709551616 ∧ (p.2.kind = 1 ∨ p.2.kind = 2)
  plain : ∀ p ∈ F.L, qb p.2.num = p.2.num
end Go.Proofs.YtmogoopkjkdkgaaGreat.Fol
namespace Go.Proofs.YtmogoopkjkdkgaaGreat.Vw
open Go Go.RowKit Go.Proofs.YtmogoopkjkdkgaaGreat.Words Go.Proofs.YtmogoopkjkdkgaaGreat.Enc Go.Proofs.YtmogoopkjkdkgaaGreat.Q Go.Proofs.YtmogoopkjkdkgaaGreat.Evt Go.Proofs.YtmogoopkjkdkgaaGreat.Fol
set_option linter.unusedVariables false
set_option linter.unusedSimpArgs false

/-- Does one event stand ahead of another one? -/
def ahead (a b : Ev) : Prop := a.time < b.time ∨ a.time = b.time ∧ a.writer < b.writer
/-- Is each event taken? -/
def Flows : Fo → List Ev → Prop
  | _, [] => True
  | F, e :: r => applyE F e = 0 ∧ Flows (applyF F e) r
def applyAll (F : Fo) (l : List Ev) : Fo := l.foldl applyF F
theorem applyAll_append (F : Fo) (a b : List Ev) : applyAll F (a ++ b) = applyAll (applyAll F a) b := by unfold applyAll; rw [List.foldl_append]
theorem applyAll_take (F : Fo) (l : List Ev) (j : Nat) {e : Ev} (h : l[j]? = some e) : applyAll F (l.take (j + 1)) = applyF (applyAll F (l.take j)) e := by
  unfold applyAll
  rw [List.take_add_one, h]
  simp
theorem Flows.append : ∀ {F : Fo} {a b : List Ev}, Flows F (a ++ b) → Flows F a ∧ Flows (applyAll F a) b
  | _, [], _, h => ⟨trivial, h⟩
  | F, e :: r, b, h => by
    obtain ⟨h1, h2⟩ := Flows.append (F := applyF F e) (a := r) (b := b) h.2
    exact ⟨⟨h.1, h1⟩, h2⟩
theorem Flows.at_ {F : Fo} {l : List Ev} (h : Flows F l) {j : Nat} {e : Ev} (hj : l[j]? = some e) : applyE (applyAll F (l.take j)) e = 0 := by
  have hl : j < l.length := (List.getElem?_eq_some_iff.1 hj).1
  have hs : l = l.take j ++ l.drop j := (List.take_append_drop j l).symm
  rw [hs] at h
  have h2 := h.append.2
  rw [List.drop_eq_getElem_cons hl] at h2
  have he : l[j] = e := by rw [List.getElem?_eq_getElem hl] at hj; injection hj
  rw [he] at h2
  exact h2.1
/-- How many events of a writer there are. -/
def ofW (k : Int) (l : List Ev) : Nat := (l.filter fun e => decide (e.writer = k)).length
theorem ofW_append (k : Int) (a b : List Ev) : ofW k (a ++ b) = ofW k a + ofW k b := by unfold ofW; rw [List.filter_append, List.length_append]
theorem ofW_one (k : Int) (e : Ev) : ofW k [e] = if e.writer = k then 1 else 0 := by
  unfold ofW
  by_cases h : e.writer = k <;> simp [h]
theorem flows_of : ∀ (rest done : List Ev) (F : Fo), F.H.length = 64 → (∀ k : Nat, k < 64 → F.H.getD k 0 = ofW (k : Int) done) → (∀ e ∈ rest, behind F e) → rest.Pairwise ahead → (∀ e ∈ rest, Right e) →
    (∀ i e, rest[i]? = some e → e.seq = ofW e.writer (done ++ rest.take i) + 1) → Flows F rest
  | [], _, _, _, _, _, _, _, _ => trivial
  | e :: r, done, F, hl, hH, hb, hp, hr, hs => by
    have hR := hr e List.mem_cons_self
    have h0 : rightE e = 0 := (right_iff e).2 hR
    have hbe := hb e List.mem_cons_self
    obtain ⟨i, hi⟩ := Int.eq_ofNat_of_zero_le hR.w1
    have hi64 : i < 64 := by have := hR.w2; omega
    have hs0 := hs 0 e rfl
    rw [List.take_zero, List.append_nil, hi, ← hH i hi64] at hs0
    have hE : applyE F e = 0 := by
      unfold applyE
      rw [h0, if_neg (by simp), if_neg (by simpa using hbe), hi, Int.toNat_natCast, if_neg (by simpa using hs0)]
    have hF : applyF F e = taken F e := by unfold applyF; rw [hE, if_pos rfl]
    have hp1 := List.pairwise_cons.1 hp
    refine ⟨hE, ?_⟩
    rw [hF]
    refine flows_of r (done ++ [e]) (taken F e) (by unfold taken; simp [hl]) (fun k hk => ?_) (fun e' he' => ?_) hp1.2 (fun e' he' => hr e' (List.mem_cons_of_mem _ he')) fun j e' hj => ?_
    · rw [ofW_append, ofW_one]
      show (F.H.set e.writer.toNat e.seq).getD k 0 = _
      rw [hi, Int.toNat_natCast]
      by_cases hk2 : i = k
      · subst hk2
        rw [List.getD_eq_getElem?_getD, List.getElem?_set_self (by omega), if_pos rfl, ← hH i hi64, ← hs0]
        rfl
      · rw [List.getD_eq_getElem?_getD, List.getElem?_set_ne hk2, ← List.getD_eq_getElem?_getD, hH k hk, if_neg (by omega), Nat.add_zero]
    · have ha := hp1.1 e' he'
      unfold behind
      show e.time < e'.time ∨ e.time = e'.time ∧ ((e.writer.toNat : Nat) : Int) < e'.writer
      unfold ahead at ha
      rw [hi] at ha ⊢
      simpa using ha
    · have := hs (j + 1) e' (by simpa using hj)
      rw [this, List.take_succ_cons]
      simp
/-- In strictly rising lists the writer's events stand where its own list has them. -/
theorem seq_of {R : List Ev} {P : Int → List Ev} (hf : ∀ k, R.filter (fun e => decide (e.writer = k)) = P k) (hq : ∀ k j e, (P k)[j]? = some e → e.seq = j + 1) {i : Nat} {e : Ev} (hi : R[i]? = some e) : e.seq = ofW e.writer (R.take i) + 1 := by
  have hl : i < R.length := (List.getElem?_eq_some_iff.1 hi).1
  have he : R[i] = e := by rw [List.getElem?_eq_getElem hl] at hi; injection hi
  refine hq e.writer _ e ?_
  rw [← hf]
  have hs : R = R.take i ++ e :: R.drop (i + 1) := by rw [← he, ← List.drop_eq_getElem_cons hl, List.take_append_drop]
  unfold ofW
  rw [show R.filter (fun e' => decide (e'.writer = e.writer)) = (R.take i).filter (fun e' => decide (e'.writer = e.writer)) ++ e :: (R.drop (i + 1)).filter (fun e' => decide (e'.writer = e.writer)) by
    conv => lhs; rw [hs]
    rw [List.filter_append, List.filter_cons, if_pos (by simp)]]
  rw [List.getElem?_append_right (Nat.le_refl _), Nat.sub_self]
  rfl
theorem flows_new (n : Nat) {R : List Ev} {P : Int → List Ev} (hp : R.Pairwise ahead) (hr : ∀ e ∈ R, Right e) (hf : ∀ k, R.filter (fun e => decide (e.writer = k)) = P k) (hq : ∀ k j e, (P k)[j]? = some e → e.seq = j + 1) : Flows (newF n) R :=
  flows_of R [] (newF n) rfl (fun k hk => by
    unfold newF
    rw [List.getD_eq_getElem?_getD, List.getElem?_replicate, if_pos hk]
    rfl) (fun e he => by
    have h := hr e he
    unfold behind newF
    show 0 < e.time ∨ _
    exact .inl (by have := h.t1; omega)) hp hr fun i e hi => by
    rw [List.nil_append]
    exact seq_of hf hq hi
end Go.Proofs.YtmogoopkjkdkgaaGreat.Vw
