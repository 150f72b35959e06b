/- Layer 16: a letter's bytes: lists and numbers alone. Layer 16: what is read of bytes as a letter: lists and numbers alone. -/
import Derived.Test.YthdflbpmabcjlaaDoorLJp01
import Derived.Test.YthdflbpmabcjlaaDoorLJp05
import Derived.Test.YthdflbpmabcjlaaDoorLJp06
import Derived.Test.YthdflbpmabcjlaaDoorLJp07
namespace Go.Proofs.YthdflbpmabcjlaaDoor.Lt
open Go Go.RowKit Go.Proofs.YthdflbpmabcjlaaDoor.Words Go.Proofs.YthdflbpmabcjlaaDoor.Enc Go.Proofs.YthdflbpmabcjlaaDoor.Evt
set_option linter.unusedVariables false
set_option linter.unusedSimpArgs false

/-- A row: a node, what it has, a time. -/
structure Rw where
  node : Nat
  H : List Nat
  time : Nat
/-- A letter. -/
structure Lt where
  kind : Nat
  src : Nat
  dst : Nat
  mine : Bool
  serial : Nat
  H : List Nat
  rows : List Rw
  E : List Ev
  time : Nat
  size : Nat
  sum : Nat
  pos : Nat
  bytes : List UInt8
  why : Nat
def rwL (r : Rw) : List UInt8 := enc r.node ++ Vec.layL r.H ++ enc r.time
def rwsL (l : List Rw) : List UInt8 := l.flatMap rwL
def txL (e : Ev) : List UInt8 := enc (evL e).length ++ evL e
def txsL (l : List Ev) : List UInt8 := l.flatMap txL
def ltHead (x : Lt) : List UInt8 := enc 1 ++ [UInt8.ofNat x.kind] ++ enc x.src ++ enc x.dst ++ enc (if x.mine then 1 else 0) ++ enc x.serial
def ltRest (x : Lt) : List UInt8 :=
  if x.kind = 1 ∨ x.kind = 2 ∨ x.kind = 4 then Vec.layL x.H ++ enc x.rows.length ++ rwsL x.rows
  else if x.kind = 3 then Vec.layL x.H ++ enc x.E.length ++ txsL x.E
  else if x.kind = 5 then Vec.layL x.H ++ enc x.time ++ enc x.size ++ enc x.sum
  else if x.kind = 6 then enc x.size ++ enc x.pos ++ enc x.bytes.length ++ x.bytes
  else enc x.why
/-- What a letter's record holds. -/
def ltL (x : Lt) : List UInt8 := ltHead x ++ ltRest x
theorem rwsL_take (l : List Rw) (j : Nat) {r : Rw} (h : l[j]? = some r) : rwsL (l.take (j + 1)) = rwsL (l.take j) ++ rwL r := by
  unfold rwsL
  rw [List.take_add_one, h]
  simp
theorem txsL_take (l : List Ev) (j : Nat) {e : Ev} (h : l[j]? = some e) : txsL (l.take (j + 1)) = txsL (l.take j) ++ txL e := by
  unfold txsL
  rw [List.take_add_one, h]
  simp
theorem rwsL_len : ∀ (l : List Rw) (K : Nat), (∀ r ∈ l, (rwL r).length ≤ K) → (rwsL l).length ≤ K * l.length
  | [], K, _ => by simp [rwsL]
  | r :: t, K, h => by
    have ih := rwsL_len t K (fun x hx => h x (List.mem_cons_of_mem _ hx))
    have := h r List.mem_cons_self
    unfold rwsL at ih ⊢
    rw [List.flatMap_cons, List.length_append, List.length_cons, Nat.mul_add, Nat.mul_one]
    omega
theorem txsL_len : ∀ (l : List Ev) (K : Nat), (∀ e ∈ l, (txL e).length ≤ K) → (txsL l).length ≤ K * l.length
  | [], K, _ => by simp [txsL]
  | r :: t, K, h => by
    have ih := txsL_len t K (fun x hx => h x (List.mem_cons_of_mem _ hx))
    have := h r List.mem_cons_self
    unfold txsL at ih ⊢
    rw [List.flatMap_cons, List.length_append, List.length_cons, Nat.mul_add, Nat.mul_one]
    omega
theorem rwL_len {r : Rw} (h1 : r.node < 64) (h2 : Vec.Small r.H) (h4 : r.time < 18446744073709551616) : (rwL r).length ≤ 720 := by
  unfold rwL
  have a := enc_ten (n := r.node) (by omega)
  have b := enc_ten (n := r.time) h4
  have c := Vec.layL_len h2
  simp only [List.length_append]
  omega
/-- A letter that may be. -/
structure Ok (x : Lt) : Prop where
  kind : 1 ≤ x.kind ∧ x.kind ≤ 7
  ends : x.src < 64 ∧ x.dst < 64
  serial : x.serial < 9223372036854775808
  H : Vec.Small x.H
  rows : x.rows.length ≤ 64 ∧ ∀ r ∈ x.rows, r.node < 64 ∧ Vec.Small r.H ∧ r.time < 9223372036854775808
  E : x.E.length ≤ 1000 ∧ ∀ e ∈ x.E, Right e ∧ e.num < 18446744073709551616 ∧ (evL e).length ≤ 2000
  time : x.time < 9223372036854775808
  size : x.size < 18446744073709551616 ∧ x.pos < 18446744073709551616 ∧ x.sum < 4294967296 ∧ x.why ≤ 65536
  bytes : x.bytes.length ≤ 100000
theorem ltHead_len {x : Lt} (h : Ok x) : (ltHead x).length ≤ 60 := by
  have a1 := enc_ten (n := 1) (by omega)
  have a2 := enc_ten (n := x.src) (by have := h.ends; omega)
  have a3 := enc_ten (n := x.dst) (by have := h.ends; omega)
  have a4 := enc_ten (n := if x.mine then 1 else 0) (by split <;> omega)
  have a5 := enc_ten (n := x.serial) (by have := h.serial; omega)
  unfold ltHead
  simp only [List.length_append, List.length_cons, List.length_nil]
  omega
theorem rws_small {x : Lt} (h : Ok x) (k : Nat) : (rwsL (x.rows.take k)).length ≤ 46080 := by
  have b3 := rwsL_len (x.rows.take k) 720 (fun r hr => by obtain ⟨h1, h2, h4⟩ := h.rows.2 r (List.mem_of_mem_take hr); exact rwL_len h1 h2 (by omega))
  have := h.rows.1
  rw [List.length_take] at b3
  omega
theorem txs_small {x : Lt} (h : Ok x) (k : Nat) : (txsL (x.E.take k)).length ≤ 2010000 := by
  have b5 := txsL_len (x.E.take k) 2010 (fun e he => by
    have h1 := (h.E.2 e (List.mem_of_mem_take he)).2.2
    have h2 := enc_ten (n := (evL e).length) (by omega)
    unfold txL
    rw [List.length_append]
    omega)
  have := h.E.1
  rw [List.length_take] at b5
  omega
theorem ltL_len {x : Lt} (h : Ok x) : (ltL x).length ≤ 3000000 := by
  have hh := ltHead_len h
  have b1 := Vec.layL_len h.H
  have b2 := enc_ten (n := x.rows.length) (by have := h.rows.1; omega)
  have b3 := rws_small h x.rows.length
  have b4 := enc_ten (n := x.E.length) (by have := h.E.1; omega)
  have b5 := txs_small h x.E.length
  rw [List.take_length] at b3 b5
  have b6 := enc_ten (n := x.time) (by have := h.time; omega)
  have b7 := enc_ten (n := x.size) h.size.1
  have b8 := enc_ten (n := x.sum) (by have := h.size; omega)
  have b9 := enc_ten (n := x.pos) h.size.2.1
  have c1 := enc_ten (n := x.bytes.length) (by have := h.bytes; omega)
  have c2 := enc_ten (n := x.why) (by have := h.size; omega)
  have c3 := h.bytes
  unfold ltL ltRest
  rw [List.length_append]
  split
  · simp only [List.length_append]; omega
  · split
    · simp only [List.length_append]; omega
    · split
      · simp only [List.length_append]; omega
      · split
        · simp only [List.length_append]; omega
        · omega
end Go.Proofs.YthdflbpmabcjlaaDoor.Lt
namespace Go.Proofs.YthdflbpmabcjlaaDoor.Lt
open Go Go.RowKit Go.Proofs.YthdflbpmabcjlaaDoor.Words Go.Proofs.YthdflbpmabcjlaaDoor.Enc Go.Proofs.YthdflbpmabcjlaaDoor.Evt Go.Proofs.YthdflbpmabcjlaaDoor.Made Go.Proofs.YthdflbpmabcjlaaDoor.Tape Go.Proofs.YthdflbpmabcjlaaDoor.Vec
set_option linter.unusedVariables false
set_option linter.unusedSimpArgs false

/-- What a reader of a part answers: an error at which the tape gives up; 'no'; or a part, and what is left. -/
inductive Tk (α : Type) where
  | bad (E : Nat)
  | no
  | ok (a : α) (r : List UInt8)
def Tk.bind {α β : Type} : Tk α → (α → List UInt8 → Tk β) → Tk β
  | .bad E, _ => .bad E
  | .no, _ => .no
  | .ok a r, f => f a r
def gT {α : Type} : Got α → Tk α
  | .bad E => .bad E
  | .ok a r => .ok a r
theorem Tk.bind_ok {α β : Type} {g : Tk α} {f : α → List UInt8 → Tk β} {b : β} {r : List UInt8} (h : g.bind f = .ok b r) : ∃ a r1, g = .ok a r1 ∧ f a r1 = .ok b r := by
  cases g with
  | bad E => cases h
  | no => cases h
  | ok a r1 => exact ⟨a, r1, rfl, h⟩
theorem gT_ok {α : Type} {g : Got α} {a : α} {r : List UInt8} (h : gT g = .ok a r) : g = .ok a r := by
  cases g with
  | bad E => cases h
  | ok b r1 => cases h; rfl
def vecT (l : List UInt8) : Tk (List Nat) := (gT (readG l)).bind fun v r => if 0 < v.length ∧ at_ v (v.length - 1) = 0 then .no else .ok v r
def rowsN : Nat → List UInt8 → Tk (List Rw)
  | 0, l => .ok [] l
  | k + 1, l => (gT (numG 63 l)).bind fun nd l1 => (vecT l1).bind fun v l2 => (gT (numG 9223372036854775807 l2)).bind fun t l3 => (rowsN k l3).bind fun rs l4 => .ok (⟨nd, v, t⟩ :: rs) l4
def rowsT (l : List UInt8) : Tk (List Rw) := (gT (numG 64 l)).bind rowsN
def evsN : Nat → List UInt8 → Tk (List Ev)
  | 0, l => .ok [] l
  | k + 1, l => (gT (textG 4194304 l)).bind fun T l1 =>
    match decG T with
    | .inl _ => .no
    | .inr e => (evsN k l1).bind fun es l2 => .ok (e :: es) l2
def evsT (l : List UInt8) : Tk (List Ev) := (gT (numG 9223372036854775807 l)).bind evsN
def zeroL : Lt := ⟨0, 0, 0, false, 0, [], [], [], 0, 0, 0, 0, [], 0⟩
def fieldsT (x : Lt) (l : List UInt8) : Tk Lt :=
  if x.kind = 1 ∨ x.kind = 2 ∨ x.kind = 4 then (vecT l).bind fun v l1 => (rowsT l1).bind fun rs l2 => .ok { x with H := v, rows := rs } l2
  else if x.kind = 3 then (vecT l).bind fun v l1 => (evsT l1).bind fun es l2 => .ok { x with H := v, E := es } l2
  else if x.kind = 5 then (vecT l).bind fun v l1 => (gT (numG 9223372036854775807 l1)).bind fun t l2 => (gT (numG 1099511627776 l2)).bind fun s l3 => (gT (numG 4294967295 l3)).bind fun c l4 => .ok { x with H := v, time := t, size := s, sum := c } l4
  else if x.kind = 6 then (gT (numG 1099511627776 l)).bind fun s l1 => (gT (numG 1099511627776 l1)).bind fun p l2 => (gT (textG 4194304 l2)).bind fun T l3 => .ok { x with size := s, pos := p, bytes := T } l3
  else (gT (numG 65536 l)).bind fun y l1 => .ok { x with why := y } l1
def headT (k : Nat) (l : List UInt8) : Tk Lt :=
  (gT (numG 63 l)).bind fun a l1 => (gT (numG 63 l1)).bind fun b l2 => (gT (numG 1 l2)).bind fun m l3 => (gT (numG 9223372036854775807 l3)).bind fun s l4 => .ok { zeroL with kind := k, src := a, dst := b, mine := decide (m = 1), serial := s } l4
def takeT (l : List UInt8) : Tk Lt :=
  match l with
  | [] => .bad 5
  | b :: l1 => if b.toNat ≠ 1 then .no else
    match l1 with
    | [] => .bad 5
    | k :: l2 => if k.toNat < 1 ∨ 7 < k.toNat then .no else (headT k.toNat l2).bind fieldsT

theorem textG_enc {most : Nat} {T l rest : List UInt8} (h : textG most l = .ok T rest) : l = enc T.length ++ (T ++ rest) ∧ T.length ≤ most := by
  obtain ⟨h1, h2, rfl⟩ := textG_ok h
  unfold Take.texted at h1 h2 ⊢
  split at h1
  · rename_i h0; exact absurd h1 h0
  · rename_i h0
    rw [if_neg h0] at h2 ⊢
    split at h1
    · cases h1
    · rename_i h5
      rw [if_neg h5] at h2 ⊢
      split at h1
      · cases h1
      · rename_i h6
        rw [if_neg h6] at h2 ⊢
        simp only at h2 ⊢
        have h4 := @Take.tk_one l (tk 0 0 l).1 (tk 0 0 l).2.1 (Prod.ext rfl (Prod.ext rfl (show (tk 0 0 l).2.2 = 0 by omega)))
        have hT : T.length = (tk 0 0 l).1 := by
          rw [← h2, List.length_take, List.length_drop]; omega
        refine ⟨?_, by omega⟩
        rw [hT, ← h4.1, ← h2, ← List.drop_drop, List.take_append_drop, List.take_append_drop]
theorem textG_errs {most E : Nat} {l : List UInt8} (h : textG most l = .bad E) : E = 4 ∨ E = 5 ∨ E = 6 := by
  have := tk_errs l 0 0
  obtain ⟨h1, h2⟩ := textG_bad h
  unfold Take.texted at h1 h2
  split at h2
  · simp only at h2; omega
  · split at h2
    · simp only at h2; omega
    · split at h2
      · simp only at h2; omega
      · rename_i a b c
        rw [if_neg a, if_neg b, if_neg c] at h1
        exact absurd rfl h1
theorem vecT_ok {l r : List UInt8} {v : List Nat} (h : vecT l = .ok v r) : readG l = .ok v r ∧ ¬ (0 < v.length ∧ at_ v (v.length - 1) = 0) := by
  obtain ⟨a, r1, h1, h2⟩ := Tk.bind_ok h
  have h3 := gT_ok h1
  by_cases hz : 0 < a.length ∧ at_ a (a.length - 1) = 0
  · rw [if_pos hz] at h2; cases h2
  · rw [if_neg hz] at h2; cases h2; exact ⟨h3, hz⟩
theorem vecT_enc {l r : List UInt8} {v : List Nat} (h : vecT l = .ok v r) : l = layL v ++ r ∧ Small v := by
  obtain ⟨h1, h2⟩ := vecT_ok h
  obtain ⟨h3, h4⟩ := readG_ok h1
  have ht : Trimmed v := by
    rcases Nat.eq_zero_or_pos v.length with h0 | h0
    · exact .inl (List.eq_nil_of_length_eq_zero h0)
    · exact .inr fun e => h2 ⟨h0, e⟩
  exact ⟨by rw [layL_trimmed ht, h4, List.append_assoc], h3⟩
theorem rowsN_ok : ∀ (k : Nat) (l r : List UInt8) (rs : List Rw), rowsN k l = .ok rs r → l = rwsL rs ++ r ∧ rs.length = k ∧ ∀ x ∈ rs, x.node < 64 ∧ Small x.H ∧ x.time < 9223372036854775808
  | 0, l, r, rs, h => by
    cases h
    exact ⟨rfl, rfl, fun x hx => by cases hx⟩
  | k + 1, l, r, rs, h => by
    obtain ⟨nd, l1, h1, h⟩ := Tk.bind_ok h
    obtain ⟨v, l2, h2, h⟩ := Tk.bind_ok h
    obtain ⟨t, l3, h3, h⟩ := Tk.bind_ok h
    obtain ⟨qs, l4, h4, h⟩ := Tk.bind_ok h
    cases h
    obtain ⟨e1, b1⟩ := Vec.numG_enc (gT_ok h1)
    obtain ⟨e2, b2⟩ := vecT_enc h2
    obtain ⟨e3, b3⟩ := Vec.numG_enc (gT_ok h3)
    obtain ⟨e4, b4, b5⟩ := rowsN_ok k _ _ _ h4
    refine ⟨?_, by simp [b4], fun x hx => ?_⟩
    · rw [e1, e2, e3, e4]
      show _ = (List.flatMap rwL (⟨nd, v, t⟩ :: qs)) ++ r
      rw [List.flatMap_cons]
      simp only [rwL, rwsL, List.append_assoc]
    · rcases List.mem_cons.1 hx with rfl | hx
      · exact ⟨by show nd < 64; omega, b2, by show t < _; omega⟩
      · exact b5 x hx
theorem evsN_ok : ∀ (k : Nat) (l r : List UInt8) (es : List Ev), evsN k l = .ok es r → l = txsL es ++ r ∧ es.length = k ∧ ∀ e ∈ es, Right e ∧ e.num < 18446744073709551616 ∧ (evL e).length ≤ l.length
  | 0, l, r, es, h => by
    cases h
    exact ⟨rfl, rfl, fun x hx => by cases hx⟩
  | k + 1, l, r, es, h => by
    obtain ⟨T, l1, h1, h⟩ := Tk.bind_ok h
    cases hd : decG T with
    | inl E => rw [hd] at h; cases h
    | inr e =>
      rw [hd] at h
      obtain ⟨qs, l2, h2, h⟩ := Tk.bind_ok h
      cases h
      obtain ⟨e1, b1⟩ := textG_enc (gT_ok h1)
      obtain ⟨e2, b2, b3, -⟩ := decG_ok hd
      obtain ⟨e4, b4, b5⟩ := evsN_ok k _ _ _ h2
      have hle : l1.length ≤ l.length := by rw [e1]; simp only [List.length_append]; omega
      refine ⟨?_, by simp [b4], fun x hx => ?_⟩
      · rw [e1, e2, e4]
        show _ = (List.flatMap txL (e :: qs)) ++ r
        rw [List.flatMap_cons]
        simp only [txL, txsL, List.append_assoc]
      · rcases List.mem_cons.1 hx with rfl | hx
        · refine ⟨b2, b3.q, ?_⟩
          rw [← e2, e1]; simp only [List.length_append]; omega
        · obtain ⟨q1, q2, q3⟩ := b5 x hx
          exact ⟨q1, q2, by omega⟩
theorem txsL_long : ∀ l : List Ev, l.length ≤ (txsL l).length
  | [] => Nat.le_refl _
  | e :: t => by
    have ih := txsL_long t
    have := enc_pos (evL e).length
    have h2 : 1 ≤ (txL e).length := by unfold txL; rw [List.length_append]; omega
    unfold txsL at ih ⊢
    rw [List.flatMap_cons, List.length_append, List.length_cons]
    omega
/-- What headT gives. -/
structure Hd (k : Nat) (x : Lt) : Prop where
  kind : x.kind = k
  ends : x.src < 64 ∧ x.dst < 64
  serial : x.serial < 9223372036854775808
  rest : x.H = [] ∧ x.rows = [] ∧ x.E = [] ∧ x.time = 0 ∧ x.size = 0 ∧ x.sum = 0 ∧ x.pos = 0 ∧ x.bytes = [] ∧ x.why = 0
theorem headT_ok {k : Nat} {l r : List UInt8} {x : Lt} (h : headT k l = .ok x r) : Hd k x ∧ l = enc x.src ++ enc x.dst ++ enc (if x.mine then 1 else 0) ++ enc x.serial ++ r := by
  obtain ⟨a, l1, h1, h⟩ := Tk.bind_ok h
  obtain ⟨b, l2, h2, h⟩ := Tk.bind_ok h
  obtain ⟨m, l3, h3, h⟩ := Tk.bind_ok h
  obtain ⟨s, l4, h4, h⟩ := Tk.bind_ok h
  cases h
  obtain ⟨e1, b1⟩ := Vec.numG_enc (gT_ok h1)
  obtain ⟨e2, b2⟩ := Vec.numG_enc (gT_ok h2)
  obtain ⟨e3, b3⟩ := Vec.numG_enc (gT_ok h3)
  obtain ⟨e4, b4⟩ := Vec.numG_enc (gT_ok h4)
  have hm : (if decide (m = 1) = true then 1 else 0) = m := by
    rcases Nat.lt_or_ge m 1 with h0 | h0
    · rw [if_neg (by simp; omega)]; omega
    · rw [if_pos (by simp; omega)]; omega
  refine ⟨⟨rfl, ⟨by show a < 64; omega, by show b < 64; omega⟩, by show s < _; omega, rfl, rfl, rfl, rfl, rfl, rfl, rfl, rfl, rfl⟩, ?_⟩
  show l = enc a ++ enc b ++ enc (if decide (m = 1) = true then 1 else 0) ++ enc s ++ r
  rw [hm, e1, e2, e3, e4]
  simp only [List.append_assoc]
theorem small_nil : Small [] := ⟨by simp, fun i => by simp [at_]⟩
theorem fieldsT_ok {x y : Lt} {l r : List UInt8} (hk : 1 ≤ x.kind ∧ x.kind ≤ 7) (hx : Hd x.kind x) (hl : l.length ≤ 1000) (h : fieldsT x l = .ok y r) : l = ltRest y ++ r ∧ ltHead y = ltHead x ∧ Ok y := by
  obtain ⟨z1, z2, z3, z4, z5, z6, z7, z8, z9⟩ := hx.rest
  have base : Ok x := ⟨hk, hx.ends, hx.serial, by rw [z1]; exact small_nil, by rw [z2]; exact ⟨by simp, fun r hr => by cases hr⟩, by rw [z3]; exact ⟨by simp, fun r hr => by cases hr⟩, by rw [z4]; omega, by rw [z5, z6, z7, z9]; omega, by rw [z8]; simp⟩
  unfold fieldsT at h
  unfold ltRest
  split at h
  · rename_i hk1
    obtain ⟨v, l1, h1, h⟩ := Tk.bind_ok h
    obtain ⟨rs, l2, h2, h⟩ := Tk.bind_ok h
    cases h
    obtain ⟨n, l3, h3, h4⟩ := Tk.bind_ok h2
    obtain ⟨e1, b1⟩ := vecT_enc h1
    obtain ⟨e3, b3⟩ := Vec.numG_enc (gT_ok h3)
    obtain ⟨e4, b4, b5⟩ := rowsN_ok _ _ _ _ h4
    refine ⟨?_, rfl, ⟨hk, hx.ends, hx.serial, b1, ⟨by show rs.length ≤ 64; omega, b5⟩, base.E, base.time, base.size, base.bytes⟩⟩
    show l = (if x.kind = 1 ∨ x.kind = 2 ∨ x.kind = 4 then layL v ++ enc rs.length ++ rwsL rs else _) ++ r
    rw [if_pos hk1, e1, e3, e4, b4]
    simp only [List.append_assoc]
  · rename_i hk1
    split at h
    · rename_i hk2
      obtain ⟨v, l1, h1, h⟩ := Tk.bind_ok h
      obtain ⟨es, l2, h2, h⟩ := Tk.bind_ok h
      cases h
      obtain ⟨n, l3, h3, h4⟩ := Tk.bind_ok h2
      obtain ⟨e1, b1⟩ := vecT_enc h1
      obtain ⟨e3, b3⟩ := Vec.numG_enc (gT_ok h3)
      obtain ⟨e4, b4, b5⟩ := evsN_ok _ _ _ _ h4
      have hl3 : l3.length ≤ 1000 := by have e5 := e1; rw [e3] at e5; have := congrArg List.length e5; simp only [List.length_append] at this; omega
      have hes : es.length ≤ 1000 := by have h6 := txsL_long es; have := congrArg List.length e4; simp only [List.length_append] at this; omega
      refine ⟨?_, rfl, ⟨hk, hx.ends, hx.serial, b1, base.rows, ⟨hes, fun e he => by obtain ⟨q1, q2, q3⟩ := b5 e he; exact ⟨q1, q2, by omega⟩⟩, base.time, base.size, base.bytes⟩⟩
      show l = (if x.kind = 1 ∨ x.kind = 2 ∨ x.kind = 4 then _ else if x.kind = 3 then layL v ++ enc es.length ++ txsL es else _) ++ r
      rw [if_neg hk1, if_pos hk2, e1, e3, e4, b4]
      simp only [List.append_assoc]
    · rename_i hk2
      split at h
      · rename_i hk3
        obtain ⟨v, l1, h1, h⟩ := Tk.bind_ok h
        obtain ⟨t, l2, h2, h⟩ := Tk.bind_ok h
        obtain ⟨s, l3, h3, h⟩ := Tk.bind_ok h
        obtain ⟨c, l4, h4, h⟩ := Tk.bind_ok h
        cases h
        obtain ⟨e1, b1⟩ := vecT_enc h1
        obtain ⟨e2, b2⟩ := Vec.numG_enc (gT_ok h2)
        obtain ⟨e3, b3⟩ := Vec.numG_enc (gT_ok h3)
        obtain ⟨e4, b4⟩ := Vec.numG_enc (gT_ok h4)
        refine ⟨?_, rfl, ⟨hk, hx.ends, hx.serial, b1, base.rows, base.E, by show t < _; omega, ⟨by show s < _; omega, base.size.2.1, by show c < _; omega, base.size.2.2.2⟩, base.bytes⟩⟩
        show l = (if x.kind = 1 ∨ x.kind = 2 ∨ x.kind = 4 then _ else if x.kind = 3 then _ else if x.kind = 5 then layL v ++ enc t ++ enc s ++ enc c else _) ++ r
        rw [if_neg hk1, if_neg hk2, if_pos hk3, e1, e2, e3, e4]
        simp only [List.append_assoc]
      · rename_i hk3
        split at h
        · rename_i hk4
          obtain ⟨s, l1, h1, h⟩ := Tk.bind_ok h
          obtain ⟨p, l2, h2, h⟩ := Tk.bind_ok h
          obtain ⟨T, l3, h3, h⟩ := Tk.bind_ok h
          cases h
          obtain ⟨e1, b1⟩ := Vec.numG_enc (gT_ok h1)
          obtain ⟨e2, b2⟩ := Vec.numG_enc (gT_ok h2)
          obtain ⟨e3, b3⟩ := textG_enc (gT_ok h3)
          have hT : T.length ≤ 1000 := by have e5 := e1; rw [e2, e3] at e5; have := congrArg List.length e5; simp only [List.length_append] at this; omega
          refine ⟨?_, rfl, ⟨hk, hx.ends, hx.serial, base.H, base.rows, base.E, base.time, ⟨by show s < _; omega, by show p < _; omega, base.size.2.2.1, base.size.2.2.2⟩, by show T.length ≤ _; omega⟩⟩
          show l = (if x.kind = 1 ∨ x.kind = 2 ∨ x.kind = 4 then _ else if x.kind = 3 then _ else if x.kind = 5 then _ else if x.kind = 6 then enc s ++ enc p ++ enc T.length ++ T else _) ++ r
          rw [if_neg hk1, if_neg hk2, if_neg hk3, if_pos hk4, e1, e2, e3]
          simp only [List.append_assoc]
        · rename_i hk4
          obtain ⟨y, l1, h1, h⟩ := Tk.bind_ok h
          cases h
          obtain ⟨e1, b1⟩ := Vec.numG_enc (gT_ok h1)
          refine ⟨?_, rfl, ⟨hk, hx.ends, hx.serial, base.H, base.rows, base.E, base.time, ⟨base.size.1, base.size.2.1, base.size.2.2.1, by show y ≤ _; omega⟩, base.bytes⟩⟩
          show l = (if x.kind = 1 ∨ x.kind = 2 ∨ x.kind = 4 then _ else if x.kind = 3 then _ else if x.kind = 5 then _ else if x.kind = 6 then _ else enc y) ++ r
          rw [if_neg hk1, if_neg hk2, if_neg hk3, if_neg hk4, e1]
theorem enc_one : enc 1 = [UInt8.ofNat 1] := by unfold enc; rfl
theorem takeT_ok {l r : List UInt8} {x : Lt} (hl : l.length ≤ 1000) (h : takeT l = .ok x r) : l = ltL x ++ r ∧ Ok x := by
  unfold takeT at h
  match l, h with
  | b :: k :: l2, h =>
    simp only [] at h
    by_cases hb : b.toNat ≠ 1
    · rw [if_pos hb] at h; cases h
    rw [if_neg hb] at h
    by_cases hk : k.toNat < 1 ∨ 7 < k.toNat
    · rw [if_pos hk] at h; cases h
    rw [if_neg hk] at h
    obtain ⟨y, l3, h1, h2⟩ := Tk.bind_ok h
    obtain ⟨q1, q2⟩ := headT_ok h1
    have hl3 : l3.length ≤ 1000 := by have := congrArg List.length q2; simp only [List.length_append, List.length_cons] at this hl; omega
    obtain ⟨e1, e2, ok⟩ := fieldsT_ok (by rw [q1.kind]; omega) (by rw [q1.kind]; exact q1) hl3 h2
    refine ⟨?_, ok⟩
    have hb1 : b = UInt8.ofNat 1 := by
      have : b.toNat = 1 := by omega
      exact UInt8.toNat.inj (by rw [this]; rfl)
    have hk1 : k = UInt8.ofNat y.kind := by rw [q1.kind]; exact UInt8.toNat.inj (by rw [UInt8.toNat_ofNat']; exact (Nat.mod_eq_of_lt k.toNat_lt).symm)
    unfold ltL
    rw [e2]
    unfold ltHead
    rw [enc_one, q2, e1, ← hk1, ← hb1]
    simp only [List.append_assoc, List.cons_append, List.nil_append]
  | [b], h =>
    simp only [] at h
    by_cases hb : b.toNat ≠ 1
    · rw [if_pos hb] at h; cases h
    · rw [if_neg hb] at h; cases h
/-- The law's own letter is read back. -/
def wakeL : Lt := { zeroL with kind := 7, src := 1, dst := 2, serial := 3, why := 3 }
theorem wake_take : takeT (ltL wakeL) = .ok wakeL [] := by
  have h : ltL wakeL = UInt8.ofNat 1 :: UInt8.ofNat 7 :: (enc 1 ++ (enc 2 ++ (enc 0 ++ (enc 3 ++ (enc 3 ++ []))))) := by
    show enc 1 ++ [UInt8.ofNat 7] ++ enc 1 ++ enc 2 ++ enc 0 ++ enc 3 ++ enc 3 = _
    rw [List.append_nil]
    simp only [List.append_assoc]
    rw [enc_one]
    rfl
  rw [h]
  unfold takeT headT
  simp only []
  rw [if_neg (by decide), if_neg (by decide), Vec.numG_of (by omega) (by omega)]
  simp only [gT, Tk.bind]
  rw [Vec.numG_of (by omega) (by omega)]
  simp only [gT, Tk.bind]
  rw [Vec.numG_of (by omega) (by omega)]
  simp only [gT, Tk.bind]
  rw [Vec.numG_of (by omega) (by omega)]
  simp only [gT, Tk.bind]
  unfold fieldsT
  rw [if_neg (by decide), if_neg (by decide), if_neg (by decide), if_neg (by decide), Vec.numG_of (by omega) (by omega)]
  rfl
end Go.Proofs.YthdflbpmabcjlaaDoor.Lt
