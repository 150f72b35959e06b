/- Places: At, Compare, the document's Ahead. Layer 16: a letter's bytes: lists and numbers alone. -/
import Derived.Test.YthdflbpmabcjlaaDoorLTp01
import Derived.Test.YthdflbpmabcjlaaDoorLTp05
import Derived.Test.YthdflbpmabcjlaaDoorLTp06
namespace Go.Proofs.YthdflbpmabcjlaaDoor.Evt
open Go Go.RowKit Go.Proofs.YthdflbpmabcjlaaDoor.Words Go.Proofs.YthdflbpmabcjlaaDoor.Enc Go.Proofs.YthdflbpmabcjlaaDoor.Q
set_option linter.unusedVariables false

def spotV (t : Nat) (wr : Int) : Value := .agg #[.int .u64 (t : Int), .int .i64 wr]

set_option maxRecDepth 100000 in
theorem refAt_any (e : Ev) (A : Option Addr) (n c : Nat) (w : World) :
    Calls Tryd.prog 50 #[e.val A n c] w fun e' w' => e' = .returned (spotV e.time e.writer) ∧ Below w.heap.size w w' := by
  unfold Ev.val spotV
  go_enter Tryd.func50, Tryd.ntmps50
  go_wp2
  exact bodyPost_ret (v := .agg #[.int .u64 (e.time : Int), .int .i64 e.writer]) (by simp [results, Tryd.results50, go_sem]) rfl ⟨rfl, ((Below.refl _ _).alloc (Nat.le_refl _) _).alloc (by simp) _⟩

/-- How two numbers stand. -/
def cmpI (a b : Int) : Int := if a < b then -1 else if b < a then 1 else 0
/-- How two places stand. -/
def cmpS (t1 : Nat) (w1 : Int) (t2 : Nat) (w2 : Int) : Int := if cmpI t1 t2 = 0 then cmpI w1 w2 else cmpI t1 t2

theorem cmpS_lt {t1 : Nat} {w1 : Int} {t2 : Nat} {w2 : Int} : cmpS t1 w1 t2 w2 < 0 ↔ t1 < t2 ∨ t1 = t2 ∧ w1 < w2 := by
  unfold cmpS cmpI
  repeat' split
  all_goals omega
set_option maxRecDepth 100000 in
theorem ahead_any (t1 : Nat) (w1 : Int) (t2 : Nat) (w2 : Int) (w : World) :
    Calls Tryd.prog 49 #[spotV t1 w1, spotV t2 w2] w fun e' w' => e' = .returned (.bool (decide (cmpS t1 w1 t2 w2 < 0))) ∧ Below w.heap.size w w' := by
  unfold spotV
  obtain ⟨r, hr⟩ : ∃ r, r = decide (cmpS t1 w1 t2 w2 < 0) := ⟨_, rfl⟩
  rw [← hr]
  have HR := Lib.hid hr
  clear hr
  have fin : ∀ x : Bool, (x = true ↔ t1 < t2 ∨ t1 = t2 ∧ w1 < w2) → Ending.returned (.bool x) = .returned (.bool r) := fun x hx => by
    rw [HR.out]
    congr 2
    rw [Bool.eq_iff_iff, hx, decide_eq_true_eq, cmpS_lt]
  have FIN := Lib.hid fin
  clear fin HR
  by_cases h1 : t1 < t2
  · have h1' : decide (t1 < t2) = true := decide_eq_true h1
    have H := Lib.hid h1
    clear h1
    go_enter Tryd.func49, Tryd.ntmps49
    go_wp2
    go_ret
    have hh := H.out
    exact ⟨FIN.out _ (by simp; omega), ((Below.refl _ _).alloc (Nat.le_refl _) _).alloc (by simp) _⟩
  · have h1' : decide (t1 < t2) = false := decide_eq_false h1
    by_cases h2 : (t1 : Int) = (t2 : Int)
    · have h2' : ((t1 : Int) == (t2 : Int)) = true := by simp [h2]
      have H := Lib.hid (And.intro h1 h2)
      clear h1 h2
      go_enter Tryd.func49, Tryd.ntmps49
      go_wp2
      go_ret
      have hh := H.out
      exact ⟨FIN.out _ (by simp; omega), ((Below.refl _ _).alloc (Nat.le_refl _) _).alloc (by simp) _⟩
    · have h2' : ((t1 : Int) == (t2 : Int)) = false := by rw [beq_eq_false_iff_ne]; exact h2
      have H := Lib.hid (And.intro h1 h2)
      clear h1 h2
      go_enter Tryd.func49, Tryd.ntmps49
      go_wp2
      go_ret
      have hh := H.out
      exact ⟨FIN.out _ (by simp; omega), ((Below.refl _ _).alloc (Nat.le_refl _) _).alloc (by simp) _⟩
end Go.Proofs.YthdflbpmabcjlaaDoor.Evt
namespace Go.Proofs.YthdflbpmabcjlaaDoor.Lt
open Go Go.RowKit Go.Proofs.YthdflbpmabcjlaaDoor.Words Go.Proofs.YthdflbpmabcjlaaDoor.Enc Go.Proofs.YthdflbpmabcjlaaDoor.Evt
set_option linter.unusedVariables false
set_option linter.unusedSimpArgs false

/-- A row: a node, what it has, a time. -/
structure Rw where
  node : Nat
  H : List Nat
  time : Nat
/-- A letter. -/
structure Lt where
  kind : Nat
  src : Nat
  dst : Nat
  mine : Bool
  serial : Nat
  H : List Nat
  rows : List Rw
  E : List Ev
  time : Nat
  size : Nat
  sum : Nat
  pos : Nat
  bytes : List UInt8
  why : Nat
def rwL (r : Rw) : List UInt8 := enc r.node ++ Vec.layL r.H ++ enc r.time
def rwsL (l : List Rw) : List UInt8 := l.flatMap rwL
def txL (e : Ev) : List UInt8 := enc (evL e).length ++ evL e
def txsL (l : List Ev) : List UInt8 := l.flatMap txL
def ltHead (x : Lt) : List UInt8 := enc 1 ++ [UInt8.ofNat x.kind] ++ enc x.src ++ enc x.dst ++ enc (if x.mine then 1 else 0) ++ enc x.serial
def ltRest (x : Lt) : List UInt8 :=
  if x.kind = 1 ∨ x.kind = 2 ∨ x.kind = 4 then Vec.layL x.H ++ enc x.rows.length ++ rwsL x.rows
  else if x.kind = 3 then Vec.layL x.H ++ enc x.E.length ++ txsL x.E
  else if x.kind = 5 then Vec.layL x.H ++ enc x.time ++ enc x.size ++ enc x.sum
  else if x.kind = 6 then enc x.size ++ enc x.pos ++ enc x.bytes.length ++ x.bytes
  else enc x.why
/-- What a letter's record holds. -/
def ltL (x : Lt) : List UInt8 := ltHead x ++ ltRest x
theorem rwsL_take (l : List Rw) (j : Nat) {r : Rw} (h : l[j]? = some r) : rwsL (l.take (j + 1)) = rwsL (l.take j) ++ rwL r := by
  unfold rwsL
  rw [List.take_add_one, h]
  simp
theorem txsL_take (l : List Ev) (j : Nat) {e : Ev} (h : l[j]? = some e) : txsL (l.take (j + 1)) = txsL (l.take j) ++ txL e := by
  unfold txsL
  rw [List.take_add_one, h]
  simp
theorem rwsL_len : ∀ (l : List Rw) (K : Nat), (∀ r ∈ l, (rwL r).length ≤ K) → (rwsL l).length ≤ K * l.length
  | [], K, _ => by simp [rwsL]
  | r :: t, K, h => by
    have ih := rwsL_len t K (fun x hx => h x (List.mem_cons_of_mem _ hx))
    have := h r List.mem_cons_self
    unfold rwsL at ih ⊢
    rw [List.flatMap_cons, List.length_append, List.length_cons, Nat.mul_add, Nat.mul_one]
    omega
theorem txsL_len : ∀ (l : List Ev) (K : Nat), (∀ e ∈ l, (txL e).length ≤ K) → (txsL l).length ≤ K * l.length
  | [], K, _ => by simp [txsL]
  | r :: t, K, h => by
    have ih := txsL_len t K (fun x hx => h x (List.mem_cons_of_mem _ hx))
    have := h r List.mem_cons_self
    unfold txsL at ih ⊢
    rw [List.flatMap_cons, List.length_append, List.length_cons, Nat.mul_add, Nat.mul_one]
    omega
theorem rwL_len {r : Rw} (h1 : r.node < 64) (h2 : Vec.Small r.H) (h4 : r.time < 18446744073709551616) : (rwL r).length ≤ 720 := by
  unfold rwL
  have a := enc_ten (n := r.node) (by omega)
  have b := enc_ten (n := r.time) h4
  have c := Vec.layL_len h2
  simp only [List.length_append]
  omega
/-- A letter that may be. -/
structure Ok (x : Lt) : Prop where
  kind : 1 ≤ x.kind ∧ x.kind ≤ 7
  ends : x.src < 64 ∧ x.dst < 64
  serial : x.serial < 9223372036854775808
  H : Vec.Small x.H
  rows : x.rows.length ≤ 64 ∧ ∀ r ∈ x.rows, r.node < 64 ∧ Vec.Small r.H ∧ r.time < 9223372036854775808
  E : x.E.length ≤ 1000 ∧ ∀ e ∈ x.E, Right e ∧ e.num < 18446744073709551616 ∧ (evL e).length ≤ 2000
  time : x.time < 9223372036854775808
  size : x.size < 18446744073709551616 ∧ x.pos < 18446744073709551616 ∧ x.sum < 4294967296 ∧ x.why ≤ 65536
  bytes : x.bytes.length ≤ 100000
theorem ltHead_len {x : Lt} (h : Ok x) : (ltHead x).length ≤ 60 := by
  have a1 := enc_ten (n := 1) (by omega)
  have a2 := enc_ten (n := x.src) (by have := h.ends; omega)
  have a3 := enc_ten (n := x.dst) (by have := h.ends; omega)
  have a4 := enc_ten (n := if x.mine then 1 else 0) (by split <;> omega)
  have a5 := enc_ten (n := x.serial) (by have := h.serial; omega)
  unfold ltHead
  simp only [List.length_append, List.length_cons, List.length_nil]
  omega
theorem rws_small {x : Lt} (h : Ok x) (k : Nat) : (rwsL (x.rows.take k)).length ≤ 46080 := by
  have b3 := rwsL_len (x.rows.take k) 720 (fun r hr => by obtain ⟨h1, h2, h4⟩ := h.rows.2 r (List.mem_of_mem_take hr); exact rwL_len h1 h2 (by omega))
  have := h.rows.1
  rw [List.length_take] at b3
  omega
theorem txs_small {x : Lt} (h : Ok x) (k : Nat) : (txsL (x.E.take k)).length ≤ 2010000 := by
  have b5 := txsL_len (x.E.take k) 2010 (fun e he => by
    have h1 := (h.E.2 e (List.mem_of_mem_take he)).2.2
    have h2 := enc_ten (n := (evL e).length) (by omega)
    unfold txL
    rw [List.length_append]
    omega)
  have := h.E.1
  rw [List.length_take] at b5
  omega
theorem ltL_len {x : Lt} (h : Ok x) : (ltL x).length ≤ 3000000 := by
  have hh := ltHead_len h
  have b1 := Vec.layL_len h.H
  have b2 := enc_ten (n := x.rows.length) (by have := h.rows.1; omega)
  have b3 := rws_small h x.rows.length
  have b4 := enc_ten (n := x.E.length) (by have := h.E.1; omega)
  have b5 := txs_small h x.E.length
  rw [List.take_length] at b3 b5
  have b6 := enc_ten (n := x.time) (by have := h.time; omega)
  have b7 := enc_ten (n := x.size) h.size.1
  have b8 := enc_ten (n := x.sum) (by have := h.size; omega)
  have b9 := enc_ten (n := x.pos) h.size.2.1
  have c1 := enc_ten (n := x.bytes.length) (by have := h.bytes; omega)
  have c2 := enc_ten (n := x.why) (by have := h.size; omega)
  have c3 := h.bytes
  unfold ltL ltRest
  rw [List.length_append]
  split
  · simp only [List.length_append]; omega
  · split
    · simp only [List.length_append]; omega
    · split
      · simp only [List.length_append]; omega
      · split
        · simp only [List.length_append]; omega
        · omega
end Go.Proofs.YthdflbpmabcjlaaDoor.Lt
