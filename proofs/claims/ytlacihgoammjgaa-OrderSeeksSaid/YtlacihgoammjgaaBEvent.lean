/- Quantities: their bits, what is plain, of which bits there is one; the document's bits. -/
import Derived.Test.YtlacihgoammjgaaRows
import Derived.Test.YtlacihgoammjgaaBGround
import Derived.Handy
import Derived.WalkLawsBesides
import Derived.Lib.Hide
import Derived.Test.YtlacihgoammjgaaBCheck
import Derived.Test.YtlacihgoammjgaaBPlain
namespace Go.Proofs.Ytlacihgoammjgaa.Q
open Go Go.RowKit Go.Proofs.Ytlacihgoammjgaa.Words
set_option linter.unusedVariables false

set_option maxRecDepth 100000 in
theorem bits_m (x : Nat) (w : World) : (callFunc 62 #[.float .f64 x]).run Try.prog w = .ok (.value (.int .u64 (x : Int))) w := by kernel_rfl
/-- Is it no number? -/
def void (x : Nat) : Bool := FloatKind.f64.format.order x x != some .eq
/-- The bits that all agree on. -/
def qb (x : Nat) : Nat := if void x then 9221120237041090561 else x
theorem void_void : void 9221120237041090561 = true := by decide +kernel
theorem qb_qb (x : Nat) : qb (qb x) = qb x := by
  unfold qb
  by_cases h : void x
  · simp [h, void_void]
  · simp [h]
theorem qb_lt (x : Nat) (h : x < 18446744073709551616) : qb x < 18446744073709551616 := by
  unfold qb
  split <;> omega
theorem void_zero : void 0 = false := by decide +kernel
theorem qb_zero : qb 0 = 0 := by unfold qb; rw [void_zero]; rfl

set_option maxRecDepth 100000 in
theorem refVoid_any (x : Nat) (w : World) : Calls Try.prog 61 #[.float .f64 x] w fun e w' => e = .returned (.bool (void x)) ∧ w' = w := by
  go_enter Try.func61, Try.ntmps61
  go_wp2
  go_ret
  exact ⟨rfl, rfl⟩

set_option maxRecDepth 100000 in
theorem refBits_any (x : Nat) (w : World) : Calls Try.prog 49 #[.float .f64 x] w fun e w' => e = .returned (.int .u64 (qb x : Int)) ∧ w' = w := by
  have hbm := bits_m x
  go_enter Try.func49, Try.ntmps49
  go_wp2_with fail
  refine (refVoid_any _ _).mono ?_
  rintro e w ⟨rfl, rfl⟩
  by_cases h : void x
  · go_wp2
    go_ret
    exact ⟨by simp [qb, h], rfl⟩
  · have h' : void x = false := by simpa using h
    go_wp2
    go_ret
    exact ⟨by simp [qb, h'], rfl⟩

end Go.Proofs.Ytlacihgoammjgaa.Q

/- Events as plain data: which may be, what their bytes are. -/
namespace Go.Proofs.Ytlacihgoammjgaa.Evt
open Go Go.RowKit Go.Proofs.Ytlacihgoammjgaa.Words Go.Proofs.Ytlacihgoammjgaa.Enc Go.Proofs.Ytlacihgoammjgaa.Q
set_option linter.unusedVariables false

structure Ev where
  writer : Int
  seq : Nat
  time : Nat
  kind : Nat
  key : ByteArray
  text : List UInt8
  num : Nat
  node : Int

/-- The event as a value; its text lies at A. -/
def Ev.val (e : Ev) (A : Option Addr) (n c : Nat) : Value :=
  .agg #[.int .i64 e.writer, .int .u64 (e.seq : Int), .int .u64 (e.time : Int), .int .u8 (e.kind : Int), .string e.key, .slice A n c, .float .f64 e.num, .int .i64 e.node]

/-- Its cells. -/
def Ev.row (e : Ev) (A : Option Addr) (n c : Nat) : Array Value :=
  #[.int .i64 e.writer, .int .u64 (e.seq : Int), .int .u64 (e.time : Int), .int .u8 (e.kind : Int), .string e.key, .slice A n c, .float .f64 e.num, .int .i64 e.node]

/-- The numbers are numbers of their kinds. -/
structure Ev.Fit (e : Ev) : Prop where
  w1 : -9223372036854775808 ≤ e.writer
  w2 : e.writer ≤ 9223372036854775807
  s : e.seq < 18446744073709551616
  t : e.time < 18446744073709551616
  k : e.kind < 256
  q : e.num < 18446744073709551616
  n1 : -9223372036854775808 ≤ e.node
  n2 : e.node ≤ 9223372036854775807

def rightE (e : Ev) : Nat :=
  if e.writer < 0 ∨ 63 < e.writer ∨ e.seq = 0 ∨ e.time = 0 ∨ e.kind < 1 ∨ 6 < e.kind then 1
  else if e.kind = 5 ∧ (e.node < 0 ∨ 63 < e.node) then 1
  else if e.kind ≤ 4 ∧ (e.key.size = 0 ∨ 64 < e.key.size) then 6
  else if e.kind = 1 ∧ 1048576 < e.text.length then 6
  else if 9223372036854775808 ≤ e.seq ∨ 9223372036854775808 ≤ e.time then 8 else 0

/-- What the kind says. -/
def dataL (e : Ev) : List UInt8 :=
  (if e.kind ≤ 4 then enc e.key.size ++ e.key.data.toList else []) ++ ((if e.kind = 1 then enc e.text.length ++ e.text else []) ++
    ((if e.kind = 2 ∨ e.kind = 3 then fix (qb e.num) else []) ++ (if e.kind = 5 then enc e.node.toNat else [])))
/-- An event's bytes. -/
def evL (e : Ev) : List UInt8 := enc e.writer.toNat ++ (enc e.seq ++ (enc e.time ++ ([b8 e.kind] ++ dataL e)))

/-- What of an event its kind says. -/
def plainE (e : Ev) : Ev :=
  { writer := e.writer, seq := e.seq, time := e.time, kind := e.kind
    key := if 1 ≤ e.kind ∧ e.kind ≤ 4 then e.key else ⟨#[]⟩
    text := if e.kind = 1 then e.text else []
    num := if e.kind = 2 ∨ e.kind = 3 then qb e.num else 0
    node := if e.kind = 5 then e.node else 0 }

structure Right (e : Ev) : Prop where
  w1 : 0 ≤ e.writer
  w2 : e.writer ≤ 63
  s1 : 1 ≤ e.seq
  s2 : e.seq < 9223372036854775808
  t1 : 1 ≤ e.time
  t2 : e.time < 9223372036854775808
  k1 : 1 ≤ e.kind
  k2 : e.kind ≤ 6
  n : e.kind = 5 → 0 ≤ e.node ∧ e.node ≤ 63
  key : e.kind ≤ 4 → 1 ≤ e.key.size ∧ e.key.size ≤ 64
  text : e.kind = 1 → e.text.length ≤ 1048576

theorem right_iff (e : Ev) : rightE e = 0 ↔ Right e := by
  unfold rightE
  constructor
  · intro h
    split at h
    · cases h
    · rename_i h1
      split at h
      · cases h
      · rename_i h2
        split at h
        · cases h
        · rename_i h3
          split at h
          · cases h
          · rename_i h4
            split at h
            · cases h
            · rename_i h5
              exact ⟨by omega, by omega, by omega, by omega, by omega, by omega, by omega, by omega, fun k => by omega, fun k => by omega, fun k => by omega⟩
  · intro h
    obtain ⟨a, b, c, d, f, g, i, j, n, k, t⟩ := h
    rw [if_neg (by omega), if_neg (fun h => by have := n h.1; omega), if_neg (fun h => by have := k h.1; omega), if_neg (fun h => by have := t h.1; omega), if_neg (by omega)]

theorem plain_right {e : Ev} (h : Right e) : Right (plainE e) := by
  obtain ⟨a, b, c, d, f, g, i, j, n, k, t⟩ := h
  refine ⟨a, b, c, d, f, g, i, j, fun h => ?_, fun h => ?_, fun h => ?_⟩
  · have h5 : e.kind = 5 := h
    simp only [plainE, if_pos h5]; exact n h5
  · have h5 : e.kind ≤ 4 := h
    simp only [plainE, if_pos (show 1 ≤ e.kind ∧ e.kind ≤ 4 from ⟨i, h5⟩)]; exact k h5
  · have h5 : e.kind = 1 := h
    simp only [plainE, if_pos h5]; exact t h5
theorem plain_evL {e : Ev} (h : 1 ≤ e.kind) : evL (plainE e) = evL e := by
  have hd : dataL (plainE e) = dataL e := by
    obtain ⟨wr, sq, tm, kd, key, text, num, node⟩ := e
    replace h : 1 ≤ kd := h
    simp only [dataL, plainE]
    by_cases h1 : kd ≤ 4 <;> by_cases h2 : kd = 1 <;> by_cases h3 : kd = 2 ∨ kd = 3 <;> by_cases h4 : kd = 5 <;> simp [h, h1, h2, h3, h4, qb_qb]
  unfold evL
  rw [hd]
  rfl
theorem plain_plain (e : Ev) : plainE (plainE e) = plainE e := by
  simp only [plainE]
  congr 1
  · split <;> simp_all
  · split <;> simp_all
  · split <;> simp_all [qb_qb]
  · split <;> simp_all

section
variable {wr : Int} {sq tm kd : Nat} {key : ByteArray} {text : List UInt8} {num : Nat} {node : Int}
theorem evL_set (h : kd = 1) : evL ⟨wr, sq, tm, kd, key, text, num, node⟩ = enc wr.toNat ++ enc sq ++ enc tm ++ [b8 kd] ++ enc key.size ++ key.data.toList ++ enc text.length ++ text := by
  simp only [evL, dataL]
  rw [if_pos (show kd ≤ 4 by omega), if_pos h, if_neg (by omega), if_neg (by omega)]
  simp only [List.append_assoc, List.append_nil]
theorem evL_num (h : kd = 2 ∨ kd = 3) : evL ⟨wr, sq, tm, kd, key, text, num, node⟩ = enc wr.toNat ++ enc sq ++ enc tm ++ [b8 kd] ++ enc key.size ++ key.data.toList ++ fix (qb num) := by
  simp only [evL, dataL]
  rw [if_pos (show kd ≤ 4 by omega), if_neg (by omega), if_pos h, if_neg (by omega)]
  simp only [List.append_assoc, List.append_nil, List.nil_append]
theorem evL_drop (h : kd = 4) : evL ⟨wr, sq, tm, kd, key, text, num, node⟩ = enc wr.toNat ++ enc sq ++ enc tm ++ [b8 kd] ++ enc key.size ++ key.data.toList := by
  simp only [evL, dataL]
  rw [if_pos (show kd ≤ 4 by omega), if_neg (by omega), if_neg (by omega), if_neg (by omega)]
  simp only [List.append_assoc, List.append_nil]
theorem evL_join (h : kd = 5) : evL ⟨wr, sq, tm, kd, key, text, num, node⟩ = enc wr.toNat ++ enc sq ++ enc tm ++ [b8 kd] ++ enc node.toNat := by
  simp only [evL, dataL]
  rw [if_neg (show ¬ kd ≤ 4 by omega), if_neg (by omega), if_neg (by omega), if_pos h]
  simp only [List.append_assoc, List.nil_append]
theorem evL_retire (h : kd = 6) : evL ⟨wr, sq, tm, kd, key, text, num, node⟩ = enc wr.toNat ++ enc sq ++ enc tm ++ [b8 kd] := by
  simp only [evL, dataL]
  rw [if_neg (show ¬ kd ≤ 4 by omega), if_neg (by omega), if_neg (by omega), if_neg (by omega)]
  simp only [List.append_assoc, List.append_nil]
end
theorem evL_len {e : Ev} (h : Right e) : (evL e).length ≤ 130 + e.text.length := by
  obtain ⟨wr, sq, tm, kd, key, text, num, node⟩ := e
  obtain ⟨hw1, hw2, hs1, hs2, ht1, ht2, hk1, hk2, hnode, hkey, htext⟩ := h
  simp only at hw1 hw2 hs1 hs2 ht1 ht2 hk1 hk2 hnode hkey htext ⊢
  have l1 := enc_ten (n := wr.toNat) (by omega)
  have l2 := enc_ten (n := sq) (by omega)
  have l3 := enc_ten (n := tm) (by omega)
  have lk : key.data.toList.length = key.size := rfl
  have l8 := fix_length (qb num)
  rcases (show kd = 1 ∨ (kd = 2 ∨ kd = 3) ∨ kd = 4 ∨ kd = 5 ∨ kd = 6 by omega) with hk | hk | hk | hk | hk
  · have h1 := hkey (by omega)
    have h2 := htext hk
    have l4 := enc_ten (n := key.size) (by omega)
    have l5 := enc_ten (n := text.length) (by omega)
    rw [evL_set hk]; simp only [List.length_append, List.length_cons, List.length_nil]; omega
  · have h1 := hkey (by omega)
    have l4 := enc_ten (n := key.size) (by omega)
    rw [evL_num hk]; simp only [List.length_append, List.length_cons, List.length_nil]; omega
  · have h1 := hkey (by omega)
    have l4 := enc_ten (n := key.size) (by omega)
    rw [evL_drop hk]; simp only [List.length_append, List.length_cons, List.length_nil]; omega
  · have h1 := hnode hk
    have l4 := enc_ten (n := node.toNat) (by omega)
    rw [evL_join hk]; simp only [List.length_append, List.length_cons, List.length_nil]; omega
  · rw [evL_retire hk]; simp only [List.length_append, List.length_cons, List.length_nil]; omega
theorem plain_num {e : Ev} (h : e.num < 18446744073709551616) : (plainE e).num < 18446744073709551616 := by
  simp only [plainE]
  split
  · exact qb_lt _ h
  · omega
end Go.Proofs.Ytlacihgoammjgaa.Evt

/- event's functions on fields: fieldsOf, isNode; the document's. -/
namespace Go.Proofs.Ytlacihgoammjgaa.Evt
open Go Go.RowKit Go.Proofs.Ytlacihgoammjgaa.Words Go.Proofs.Ytlacihgoammjgaa.Enc Go.Proofs.Ytlacihgoammjgaa.Q
set_option linter.unusedVariables false

/-- What a kind uses. -/
def usesV (k : Nat) : Value := .tuple #[.agg #[.bool (decide (1 ≤ k ∧ k ≤ 4)), .bool (decide (k = 1)), .bool (decide (k = 2 ∨ k = 3)), .bool (decide (k = 5))], .bool (decide (1 ≤ k ∧ k ≤ 6))]

theorem uses1 : usesV 1 = .tuple #[.agg #[.bool true, .bool true, .bool false, .bool false], .bool true] := by simp [usesV]
theorem uses2 : usesV 2 = .tuple #[.agg #[.bool true, .bool false, .bool true, .bool false], .bool true] := by simp [usesV]
theorem uses3 : usesV 3 = .tuple #[.agg #[.bool true, .bool false, .bool true, .bool false], .bool true] := by simp [usesV]
theorem uses4 : usesV 4 = .tuple #[.agg #[.bool true, .bool false, .bool false, .bool false], .bool true] := by simp [usesV]
theorem uses5 : usesV 5 = .tuple #[.agg #[.bool false, .bool false, .bool false, .bool true], .bool true] := by simp [usesV]
theorem uses6 : usesV 6 = .tuple #[.agg #[.bool false, .bool false, .bool false, .bool false], .bool true] := by simp [usesV]
theorem uses_no {k : Nat} (h : k < 1 ∨ 6 < k) : usesV k = .tuple #[.agg #[.bool false, .bool false, .bool false, .bool false], .bool false] := by
  unfold usesV
  rw [decide_eq_false (show ¬ (1 ≤ k ∧ k ≤ 4) by omega), decide_eq_false (show ¬ (k = 1) by omega), decide_eq_false (show ¬ (k = 2 ∨ k = 3) by omega), decide_eq_false (show ¬ (k = 5) by omega), decide_eq_false (show ¬ (1 ≤ k ∧ k ≤ 6) by omega)]

theorem ret_int {k : IntKind} {a b : Int} (h : a = b) : Ending.returned (.int k a) = .returned (.int k b) := by rw [h]
def nodeB (n : Int) : Bool := decide (0 ≤ n ∧ n ≤ 63)
/-- The kit's store has no word on floats. -/
theorem store_float (P : Program) (x : Nat) (W : World) (a : Addr) : (store a (.float .f64 x)).run P W = stored P W a (.float .f64 x) .plain := run_store P W a _ _ rfl

theorem box8 {w : World} {b : Nat} {v0 v1 v2 v3 v4 v5 v6 v7 : Value} {T : TypeId} {f : Nat × Nat} (h : w.heap[b]? = some (.cells #[v0, v1, v2, v3, v4, v5, v6, v7] T f)) :
    w.cell? ⟨b, 0, none⟩ = some v0 ∧ w.cell? ⟨b, 1, none⟩ = some v1 ∧ w.cell? ⟨b, 2, none⟩ = some v2 ∧ w.cell? ⟨b, 3, none⟩ = some v3 ∧ w.cell? ⟨b, 4, none⟩ = some v4 ∧ w.cell? ⟨b, 5, none⟩ = some v5 ∧ w.cell? ⟨b, 6, none⟩ = some v6 ∧ w.cell? ⟨b, 7, none⟩ = some v7 := by
  refine ⟨?_, ?_, ?_, ?_, ?_, ?_, ?_, ?_⟩ <;> (rw [cell_of_row w b _ _ _ _ h]; rfl)

theorem b4cells {w : World} {b : Nat} {v0 v1 v2 v3 : Value} {T : TypeId} {f : Nat × Nat} (h : w.heap[b]? = some (.cells #[v0, v1, v2, v3] T f)) :
    w.cell? ⟨b, 0, none⟩ = some v0 ∧ w.cell? ⟨b, 1, none⟩ = some v1 ∧ w.cell? ⟨b, 2, none⟩ = some v2 ∧ w.cell? ⟨b, 3, none⟩ = some v3 := by
  refine ⟨?_, ?_, ?_, ?_⟩ <;> (rw [cell_of_row w b _ _ _ _ h]; rfl)

theorem key_len (key : ByteArray) : key.toList.length = key.size := by rw [ByteArray.toList_eq]; rfl
theorem key_nil {key : ByteArray} {m : Nat} (hm : key.size = m) : key.toList = [] ↔ m = 0 := by
  have hl := key_len key
  constructor
  · intro h; rw [h, List.length_nil] at hl; omega
  · intro h; exact List.eq_nil_of_length_eq_zero (by omega)

section
variable {wr : Int} {sq tm kd : Nat} {key : ByteArray} {text : List UInt8} {num : Nat} {node : Int} {m n : Nat}
theorem rt1 (hm : key.size = m) (hn : text.length = n) (h : (wr < 0 ∨ 63 < wr ∨ sq = 0 ∨ tm = 0 ∨ kd < 1 ∨ 6 < kd) ∨ kd = 5 ∧ (node < 0 ∨ 63 < node)) : (1 : Int) = (rightE ⟨wr, sq, tm, kd, key, text, num, node⟩ : Int) := by
  simp only [rightE]
  by_cases h1 : wr < 0 ∨ 63 < wr ∨ sq = 0 ∨ tm = 0 ∨ kd < 1 ∨ 6 < kd
  · rw [if_pos h1]; rfl
  · rw [if_neg h1, if_pos (by omega)]; rfl
theorem rt6 (hm : key.size = m) (hn : text.length = n) (h1 : ¬ (wr < 0 ∨ 63 < wr ∨ sq = 0 ∨ tm = 0 ∨ kd < 1 ∨ 6 < kd)) (h2 : ¬ (kd = 5 ∧ (node < 0 ∨ 63 < node))) (h : (kd ≤ 4 ∧ (m = 0 ∨ 64 < m)) ∨ kd = 1 ∧ 1048576 < n) : (6 : Int) = (rightE ⟨wr, sq, tm, kd, key, text, num, node⟩ : Int) := by
  simp only [rightE]
  rw [if_neg h1, if_neg h2, hm, hn]
  by_cases h3 : kd ≤ 4 ∧ (m = 0 ∨ 64 < m)
  · rw [if_pos h3]; rfl
  · rw [if_neg h3, if_pos (by omega)]; rfl
theorem rt80 (hm : key.size = m) (hn : text.length = n) (h1 : ¬ (wr < 0 ∨ 63 < wr ∨ sq = 0 ∨ tm = 0 ∨ kd < 1 ∨ 6 < kd)) (h2 : ¬ (kd = 5 ∧ (node < 0 ∨ 63 < node))) (h3 : ¬ ((kd ≤ 4 ∧ (m = 0 ∨ 64 < m)) ∨ kd = 1 ∧ 1048576 < n)) :
    (rightE ⟨wr, sq, tm, kd, key, text, num, node⟩ : Int) = if 9223372036854775808 ≤ sq ∨ 9223372036854775808 ≤ tm then 8 else 0 := by
  simp only [rightE]
  rw [if_neg h1, if_neg h2, hm, hn, if_neg (by omega), if_neg (by omega)]
  split <;> rfl
theorem rt8 (hm : key.size = m) (hn : text.length = n) (h1 : ¬ (wr < 0 ∨ 63 < wr ∨ sq = 0 ∨ tm = 0 ∨ kd < 1 ∨ 6 < kd)) (h2 : ¬ (kd = 5 ∧ (node < 0 ∨ 63 < node))) (h3 : ¬ ((kd ≤ 4 ∧ (m = 0 ∨ 64 < m)) ∨ kd = 1 ∧ 1048576 < n)) (h : 9223372036854775808 ≤ sq ∨ 9223372036854775808 ≤ tm) :
    (8 : Int) = (rightE ⟨wr, sq, tm, kd, key, text, num, node⟩ : Int) := by rw [rt80 hm hn h1 h2 h3, if_pos h]
theorem rt0 (hm : key.size = m) (hn : text.length = n) (h1 : ¬ (wr < 0 ∨ 63 < wr ∨ sq = 0 ∨ tm = 0 ∨ kd < 1 ∨ 6 < kd)) (h2 : ¬ (kd = 5 ∧ (node < 0 ∨ 63 < node))) (h3 : ¬ ((kd ≤ 4 ∧ (m = 0 ∨ 64 < m)) ∨ kd = 1 ∧ 1048576 < n)) (h : ¬ (9223372036854775808 ≤ sq ∨ 9223372036854775808 ≤ tm)) :
    (0 : Int) = (rightE ⟨wr, sq, tm, kd, key, text, num, node⟩ : Int) := by rw [rt80 hm hn h1 h2 h3, if_neg h]
end

/-- The event in a box, in a world that has gone on. -/
theorem boxed (v : Array Value) (w : World) {W : World} (hW : Below (w.heap.size + 1) (w.alloc (.cells v 34)) W) : Below w.heap.size w W ∧
    W.heap[w.heap.size]? = some (.cells v 34 (0, 0)) ∧ w.heap.size < W.heap.size := by
  refine ⟨((Below.refl _ _).alloc (Nat.le_refl _) _).trans (hW.mono (by omega)), ?_, by have := hW.size; simp at this; omega⟩
  rw [hW.block w.heap.size (by omega)]
  exact heap_alloc_new w _

/-- The shapes of what a kind uses. -/
theorem shapes (kd : Nat) : (kd = 1 ∧ usesV kd = .tuple #[.agg #[.bool true, .bool true, .bool false, .bool false], .bool true]) ∨
    ((2 ≤ kd ∧ kd ≤ 4) ∧ ∃ b, usesV kd = .tuple #[.agg #[.bool true, .bool false, .bool b, .bool false], .bool true]) ∨
    (kd = 5 ∧ usesV kd = .tuple #[.agg #[.bool false, .bool false, .bool false, .bool true], .bool true]) ∨
    (kd = 6 ∧ usesV kd = .tuple #[.agg #[.bool false, .bool false, .bool false, .bool false], .bool true]) ∨
    ((kd < 1 ∨ 6 < kd) ∧ usesV kd = .tuple #[.agg #[.bool false, .bool false, .bool false, .bool false], .bool false]) := by
  rcases (show kd = 1 ∨ kd = 2 ∨ kd = 3 ∨ kd = 4 ∨ kd = 5 ∨ kd = 6 ∨ (kd < 1 ∨ 6 < kd) by omega) with rfl | rfl | rfl | rfl | rfl | rfl | hk
  · exact .inl ⟨rfl, uses1⟩
  · exact .inr (.inl ⟨by omega, _, uses2⟩)
  · exact .inr (.inl ⟨by omega, _, uses3⟩)
  · exact .inr (.inl ⟨by omega, _, uses4⟩)
  · exact .inr (.inr (.inl ⟨rfl, uses5⟩))
  · exact .inr (.inr (.inr (.inl ⟨rfl, uses6⟩)))
  · exact .inr (.inr (.inr (.inr ⟨hk, uses_no hk⟩)))

end Go.Proofs.Ytlacihgoammjgaa.Evt

/- event.Right: its contract. -/
namespace Go.Proofs.Ytlacihgoammjgaa.Evt
open Go Go.RowKit Go.Proofs.Ytlacihgoammjgaa.Words Go.Proofs.Ytlacihgoammjgaa.Enc Go.Proofs.Ytlacihgoammjgaa.Q
set_option linter.unusedVariables false

section
variable {wr : Int} {sq tm kd : Nat} {key : ByteArray} {A : Option Addr} {n c : Nat} {num : Nat} {node : Int} {w : World}
def lim (sq tm : Nat) : Int := if 9223372036854775808 ≤ sq ∨ 9223372036854775808 ≤ tm then 8 else 0
theorem lim8 {sq tm : Nat} (h : 9223372036854775808 ≤ sq ∨ 9223372036854775808 ≤ tm) : lim sq tm = 8 := if_pos h
theorem lim0 {sq tm : Nat} (h : ¬ (9223372036854775808 ≤ sq ∨ 9223372036854775808 ≤ tm)) : lim sq tm = 0 := if_neg h

end

theorem rightE_bad {e : Ev} (h : (e.writer < 0 ∨ 63 < e.writer ∨ e.seq = 0 ∨ e.time = 0 ∨ e.kind < 1 ∨ 6 < e.kind) ∨ e.kind = 5 ∧ (e.node < 0 ∨ 63 < e.node)) : rightE e = 1 := by
  unfold rightE
  by_cases h1 : e.writer < 0 ∨ 63 < e.writer ∨ e.seq = 0 ∨ e.time = 0 ∨ e.kind < 1 ∨ 6 < e.kind
  · rw [if_pos h1]
  · rw [if_neg h1, if_pos (by omega)]
theorem rightE_long {e : Ev} (h1 : ¬ (e.writer < 0 ∨ 63 < e.writer ∨ e.seq = 0 ∨ e.time = 0 ∨ e.kind < 1 ∨ 6 < e.kind)) (h2 : ¬ (e.kind = 5 ∧ (e.node < 0 ∨ 63 < e.node))) (h : (e.kind ≤ 4 ∧ (e.key.size = 0 ∨ 64 < e.key.size)) ∨ e.kind = 1 ∧ 1048576 < e.text.length) : rightE e = 6 := by
  unfold rightE
  rw [if_neg h1, if_neg h2]
  by_cases h3 : e.kind ≤ 4 ∧ (e.key.size = 0 ∨ 64 < e.key.size)
  · rw [if_pos h3]
  · rw [if_neg h3, if_pos (by omega)]
theorem rightE_lim {e : Ev} (h1 : ¬ (e.writer < 0 ∨ 63 < e.writer ∨ e.seq = 0 ∨ e.time = 0 ∨ e.kind < 1 ∨ 6 < e.kind)) (h2 : ¬ (e.kind = 5 ∧ (e.node < 0 ∨ 63 < e.node))) (h3 : ¬ ((e.kind ≤ 4 ∧ (e.key.size = 0 ∨ 64 < e.key.size)) ∨ e.kind = 1 ∧ 1048576 < e.text.length)) : (rightE e : Int) = lim e.seq e.time := by
  unfold rightE lim
  rw [if_neg h1, if_neg h2, if_neg (by omega), if_neg (by omega)]
  split <;> rfl

theorem beq_zero {n : Nat} (h : n = 0) : ((n : Int) == 0) = true := by subst h; rfl
theorem beq_pos {n : Nat} (h : n ≠ 0) : ((n : Int) == 0) = false := by rw [beq_eq_false_iff_ne]; omega
theorem node_no {n : Int} (h : ¬ (0 ≤ n ∧ n ≤ 63)) : nodeB n = false := decide_eq_false h
theorem node_yes {n : Int} (h : 0 ≤ n ∧ n ≤ 63) : nodeB n = true := decide_eq_true h

end Go.Proofs.Ytlacihgoammjgaa.Evt

/- event.Encode: its contract. -/
namespace Go.Proofs.Ytlacihgoammjgaa.Evt
open Go Go.RowKit Go.Proofs.Ytlacihgoammjgaa.Words Go.Proofs.Ytlacihgoammjgaa.Enc Go.Proofs.Ytlacihgoammjgaa.Q Go.Proofs.Ytlacihgoammjgaa.Made
set_option linter.unusedVariables false

/-- What '[]byte(s)' lays. -/
abbrev convW (W : World) (e : TypeId) (s : ByteArray) (c : Nat) : World := (W.alloc (.cells (bytesRow s c) e ((bytesRow s c).size, (bytesRow s c).size + 1))).drew
theorem conv_sees (W : World) (e : TypeId) (s : ByteArray) (c : Nat) : Sees (convW W e s c) (some ⟨W.heap.size, 0, none⟩) s.size s.data.toList ∧ Below W.heap.size W (convW W e s c) := by
  refine ⟨(sees_marked W e _ _ s.size s.data.toList rfl fun j u hu => ?_).drew, ((Below.refl _ _).alloc (Nat.le_refl _) _).drew⟩
  have hj : j < s.data.size := by have := (List.getElem?_eq_some_iff.1 hu).1; simpa using this
  unfold bytesRow
  rw [Array.getElem?_append_left (by simpa using hj)]
  simp only [Array.getElem?_map]
  rw [← Array.getElem?_toList, hu]
  rfl

end Go.Proofs.Ytlacihgoammjgaa.Evt

/- The document's Encode: its contract. -/
namespace Go.Proofs.Ytlacihgoammjgaa.Evt
open Go Go.RowKit Go.Proofs.Ytlacihgoammjgaa.Words Go.Proofs.Ytlacihgoammjgaa.Enc Go.Proofs.Ytlacihgoammjgaa.Q Go.Proofs.Ytlacihgoammjgaa.Made
set_option linter.unusedVariables false

set_option maxRecDepth 100000 in
set_option maxHeartbeats 2000000 in
theorem refEncode_any (e : Ev) (A : Option Addr) (n c : Nat) (w : World) (hs : Sees w A n e.text) (hq : e.num < 18446744073709551616) (hr : Right e) :
    Calls Try.prog 31 #[e.val A n c] w (New w.heap.size (evL e).length (evL e) w) := by
  obtain ⟨wr, sq, tm, kd, key, text, num, node⟩ := e
  unfold Ev.val
  simp only at hs hq ⊢
  obtain ⟨hw1, hw2, hs1, hs2, ht1, ht2, hk1, hk2, hnode, hkey, htext⟩ := hr
  simp only at hw1 hw2 hs1 hs2 ht1 ht2 hk1 hk2 hnode hkey htext
  obtain ⟨i, hi, hz, hsz, hby⟩ := info_parts info8
  obtain ⟨wn, rfl⟩ := Int.eq_ofNat_of_zero_le hw1
  obtain ⟨r, hr⟩ : ∃ r, r = evL ⟨wn, sq, tm, kd, key, text, num, node⟩ := ⟨_, rfl⟩
  rw [← hr]
  have HR := Lib.hid hr
  clear hr
  have HNODE := Lib.hid hnode
  have HKEY := Lib.hid hkey
  have HTEXT := Lib.hid htext
  clear hnode hkey htext
  have hwu : IntKind.u64.wrap (wn : Int) = (wn : Int) := wrap_in wn (by omega)
  have le1 := enc_ten (n := wn) (by omega)
  have le2 := enc_ten (n := sq) (by omega)
  have le3 := enc_ten (n := tm) (by omega)
  have hbx : ∀ W, Below (w.heap.size + 1) (w.alloc (.cells #[.int .i64 (wn : Int), .int .u64 (sq : Int), .int .u64 (tm : Int), .int .u8 (kd : Int), .string key, .slice A n c, .float .f64 num, .int .i64 node] 34)) W →
      W.heap[w.heap.size]? = some (.cells #[.int .i64 (wn : Int), .int .u64 (sq : Int), .int .u64 (tm : Int), .int .u8 (kd : Int), .string key, .slice A n c, .float .f64 num, .int .i64 node] 34 (0, 0)) ∧ Sees W A n text ∧ Below w.heap.size w W ∧ w.heap.size < W.heap.size := by
    intro W hW
    have h := boxed _ w hW
    exact ⟨h.2.1, hs.below h.1, h.1, h.2.2⟩
  have HBX := Lib.hid hbx
  clear hbx hs
  go_enter Try.func31, Try.ntmps31
  go_wp2_with fail
  generalize hW0 : w.alloc (.cells #[.int .i64 (wn : Int), .int .u64 (sq : Int), .int .u64 (tm : Int), .int .u8 (kd : Int), .string key, .slice A n c, .float .f64 num, .int .i64 node] 34) = W0 at HBX ⊢
  have hz0 : w.heap.size + 1 ≤ W0.heap.size := by rw [← hW0]; simp
  clear hW0
  have hZ : Hid (w.heap.size + 1 ≤ W0.drew.heap.size) := Lib.hid (by show w.heap.size + 1 ≤ W0.heap.size; omega)
  have HC : Hid (∀ W, Below W0.drew.heap.size W0.drew W → W.cell? ⟨w.heap.size, 0, none⟩ = some (.int .i64 (wn : Int)) ∧ W.cell? ⟨w.heap.size, 1, none⟩ = some (.int .u64 (sq : Int)) ∧ W.cell? ⟨w.heap.size, 2, none⟩ = some (.int .u64 (tm : Int))) := Lib.hid (by
    intro W hW
    obtain ⟨h0, -, -, -⟩ := HBX.out W (((Below.refl _ _).drew).trans (hW.mono (by show _ ≤ W0.heap.size; omega)))
    obtain ⟨p0, p1, p2, -⟩ := box8 h0
    exact ⟨p0, p1, p2⟩)
  refine Facts.wp_region_preds (n := 56) (by kernel_rfl) (by kernel_rfl) rfl [Facts.Pred.is (Value.pointer (some ⟨w.heap.size, 0, none⟩)), Facts.Pred.is (Value.int .i64 (wn : Int)), Facts.Pred.is (Value.int .u64 (wn : Int)), Take.ownPred (w.heap.size + 1) ((enc wn).length) (enc wn), Facts.Pred.is (Value.pointer (some ⟨w.heap.size, 1, none⟩)), Facts.Pred.is (Value.int .u64 (sq : Int)), Take.ownPred (w.heap.size + 1) ((enc wn).length + (enc sq).length) (enc wn ++ enc sq), Facts.Pred.is (Value.pointer (some ⟨w.heap.size, 2, none⟩)), Facts.Pred.is (Value.int .u64 (tm : Int)), Take.ownPred (w.heap.size + 1) ((enc wn).length + (enc sq).length + (enc tm).length) (enc wn ++ enc sq ++ enc tm), Take.ownPred (w.heap.size + 1) ((enc wn).length + (enc sq).length + (enc tm).length) (enc wn ++ enc sq ++ enc tm)] ?_ ?_
  · refine ⟨?_, ?_, ?_, ?_, ?_, ?_, ?_, ?_, ?_, ?_, ?_, trivial⟩
    · refine Facts.step_is (Value.pointer (some ⟨w.heap.size, 0, none⟩)) fun a W hR hold hnew => ?_
      have f1 : a.tmps.getD 1 undef = Value.pointer (some ⟨w.heap.size, 0, none⟩) := hold 1 (by kernel_rfl)
      refine ⟨Facts.wanted_free rfl, ?_, fun _ => rfl⟩
      simp [go_sem, Act.eval, f1]
    · refine Facts.step_is (Value.int .i64 (wn : Int)) fun a W hR hold hnew => ?_
      have f4 : a.tmps.getD 4 undef = Value.pointer (some ⟨w.heap.size, 0, none⟩) := hnew 0 4 (by kernel_rfl)
      obtain ⟨q0, q1, q2⟩ := HC.out W hR
      refine ⟨Facts.wanted_free rfl, ?_, fun _ => rfl⟩
      simp [go_sem, Act.eval, f4, q0]
    · refine Facts.step_is (Value.int .u64 (wn : Int)) fun a W hR hold hnew => ?_
      have f5 : a.tmps.getD 5 undef = Value.int .i64 (wn : Int) := hnew 1 5 (by kernel_rfl)
      refine ⟨Facts.wanted_free rfl, ?_, fun _ => rfl⟩
      simp [go_sem, Act.eval, f5, hwu]
    · -- 3: Op.call { value (Operand.func 34), args := #[const (Value.sl
      refine Facts.step_call fun a W hR hold hnew => ?_
      have f6 : a.tmps.getD 6 undef = Value.int .u64 (wn : Int) := hnew 2 6 (by kernel_rfl)
      have hWz := Nat.le_trans hZ.out hR.size
      refine ⟨Facts.wanted_free rfl, 46, #[Value.slice none 0 0, Value.int .u64 (wn : Int)], by simp [go_sem, Act.eval, f6], ?_⟩
      refine (refLay_any none 0 0 [] _ W (Sees.nil _ _) (by omega) (by omega) (by omega)).mono ?_
      rintro e w8 ⟨A8, c8, rfl, hown8, hb8⟩
      rw [Int.toNat_natCast] at hown8 ⊢
      rw [List.nil_append, Nat.zero_add] at hown8
      exact ⟨_, rfl, hb8, A8, c8, by rw [Nat.zero_add], Own.lower hown8 hWz⟩
    · refine Facts.step_is (Value.pointer (some ⟨w.heap.size, 1, none⟩)) fun a W hR hold hnew => ?_
      have f1 : a.tmps.getD 1 undef = Value.pointer (some ⟨w.heap.size, 0, none⟩) := hold 1 (by kernel_rfl)
      refine ⟨Facts.wanted_free rfl, ?_, fun _ => rfl⟩
      simp [go_sem, Act.eval, f1]
    · refine Facts.step_is (Value.int .u64 (sq : Int)) fun a W hR hold hnew => ?_
      have f8 : a.tmps.getD 8 undef = Value.pointer (some ⟨w.heap.size, 1, none⟩) := hnew 4 8 (by kernel_rfl)
      obtain ⟨q0, q1, q2⟩ := HC.out W hR
      refine ⟨Facts.wanted_free rfl, ?_, fun _ => rfl⟩
      simp [go_sem, Act.eval, f8, q1]
    · -- 6: Op.call { value (Operand.func 34), args := #[t7, t9], argTyp
      refine Facts.step_call fun a W hR hold hnew => ?_
      have h7 : ∃ A' c', a.tmps.getD 7 undef = .slice A' (enc wn).length c' ∧ W.ownsRow (w.heap.size + 1) 5 1 (.slice A' (enc wn).length c') (enc wn).length (cs (enc wn)) := hnew 3 7 (by kernel_rfl)
      obtain ⟨A7, c7, f7, hs7⟩ := h7
      have f9 : a.tmps.getD 9 undef = Value.int .u64 (sq : Int) := hnew 5 9 (by kernel_rfl)
      have hWz := Nat.le_trans hZ.out hR.size
      refine ⟨Facts.wanted_free rfl, 46, #[Value.slice A7 ((enc wn).length) c7, Value.int .u64 (sq : Int)], by simp [go_sem, Act.eval, f7, f9], ?_⟩
      refine (refLay_any A7 _ c7 _ _ W (Sees.of_own hs7) (by omega) (by omega) (by omega)).mono ?_
      rintro e w8 ⟨A8, c8, rfl, hown8, hb8⟩
      rw [Int.toNat_natCast] at hown8 ⊢
      exact ⟨_, rfl, hb8, A8, c8, rfl, Own.lower hown8 hWz⟩
    · refine Facts.step_is (Value.pointer (some ⟨w.heap.size, 2, none⟩)) fun a W hR hold hnew => ?_
      have f1 : a.tmps.getD 1 undef = Value.pointer (some ⟨w.heap.size, 0, none⟩) := hold 1 (by kernel_rfl)
      refine ⟨Facts.wanted_free rfl, ?_, fun _ => rfl⟩
      simp [go_sem, Act.eval, f1]
    · refine Facts.step_is (Value.int .u64 (tm : Int)) fun a W hR hold hnew => ?_
      have f11 : a.tmps.getD 11 undef = Value.pointer (some ⟨w.heap.size, 2, none⟩) := hnew 7 11 (by kernel_rfl)
      obtain ⟨q0, q1, q2⟩ := HC.out W hR
      refine ⟨Facts.wanted_free rfl, ?_, fun _ => rfl⟩
      simp [go_sem, Act.eval, f11, q2]
    · -- 9: Op.call { value (Operand.func 34), args := #[t10, t12], argT
      refine Facts.step_call fun a W hR hold hnew => ?_
      have h10 : ∃ A' c', a.tmps.getD 10 undef = .slice A' ((enc wn).length + (enc sq).length) c' ∧ W.ownsRow (w.heap.size + 1) 5 1 (.slice A' ((enc wn).length + (enc sq).length) c') ((enc wn).length + (enc sq).length) (cs (enc wn ++ enc sq)) := hnew 6 10 (by kernel_rfl)
      obtain ⟨A7, c7, f10, hs7⟩ := h10
      have f12 : a.tmps.getD 12 undef = Value.int .u64 (tm : Int) := hnew 8 12 (by kernel_rfl)
      have hWz := Nat.le_trans hZ.out hR.size
      refine ⟨Facts.wanted_free rfl, 46, #[Value.slice A7 ((enc wn).length + (enc sq).length) c7, Value.int .u64 (tm : Int)], by simp [go_sem, Act.eval, f10, f12], ?_⟩
      refine (refLay_any A7 _ c7 _ _ W (Sees.of_own hs7) (by omega) (by omega) (by omega)).mono ?_
      rintro e w8 ⟨A8, c8, rfl, hown8, hb8⟩
      rw [Int.toNat_natCast] at hown8 ⊢
      exact ⟨_, rfl, hb8, A8, c8, rfl, Own.lower hown8 hWz⟩
    · -- 10: Op.assign t13
      refine Facts.step_some fun a W hR hold hnew => ?_
      have h13 : ∃ A' c', a.tmps.getD 13 undef = .slice A' ((enc wn).length + (enc sq).length + (enc tm).length) c' ∧ W.ownsRow (w.heap.size + 1) 5 1 (.slice A' ((enc wn).length + (enc sq).length + (enc tm).length) c') ((enc wn).length + (enc sq).length + (enc tm).length) (cs (enc wn ++ enc sq ++ enc tm)) := hnew 9 13 (by kernel_rfl)
      obtain ⟨A7, c7, f13, hs7⟩ := h13
      exact ⟨Facts.wanted_free rfl, .slice A7 ((enc wn).length + (enc sq).length + (enc tm).length) c7, by simp [go_sem, Act.eval, f13], A7, c7, rfl, hs7⟩
  · intro a w3 hR' hsize hdef hnew hold
    have h3 : ∃ A' c', a.tmps.getD 3 undef = .slice A' ((enc wn).length + (enc sq).length + (enc tm).length) c' ∧ w3.ownsRow (w.heap.size + 1) 5 1 (.slice A' ((enc wn).length + (enc sq).length + (enc tm).length) c') ((enc wn).length + (enc sq).length + (enc tm).length) (cs (enc wn ++ enc sq ++ enc tm)) := hnew 10 3 (by kernel_rfl)
    obtain ⟨A3, c3, h3, hown3⟩ := h3
    have f3 : a.tmps.getD 3 undef = Value.slice A3 ((enc wn).length + (enc sq).length + (enc tm).length) c3 := h3
    have f1 : a.tmps.getD 1 undef = Value.pointer (some ⟨w.heap.size, 0, none⟩) := hold 1 (Facts.not_dst (by kernel_rfl))
    obtain ⟨tm, df⟩ := a
    simp only [] at hdef hsize f3 f1
    have hlit : tm = #[tm.getD 0 undef, tm.getD 1 undef, tm.getD 2 undef, tm.getD 3 undef, tm.getD 4 undef, tm.getD 5 undef, tm.getD 6 undef, tm.getD 7 undef, tm.getD 8 undef, tm.getD 9 undef, tm.getD 10 undef, tm.getD 11 undef, tm.getD 12 undef, tm.getD 13 undef, tm.getD 14 undef, tm.getD 15 undef, tm.getD 16 undef, tm.getD 17 undef, tm.getD 18 undef, tm.getD 19 undef, tm.getD 20 undef, tm.getD 21 undef, tm.getD 22 undef, tm.getD 23 undef, tm.getD 24 undef, tm.getD 25 undef, tm.getD 26 undef, tm.getD 27 undef, tm.getD 28 undef, tm.getD 29 undef, tm.getD 30 undef, tm.getD 31 undef, tm.getD 32 undef, tm.getD 33 undef, tm.getD 34 undef, tm.getD 35 undef, tm.getD 36 undef, tm.getD 37 undef, tm.getD 38 undef, tm.getD 39 undef, tm.getD 40 undef, tm.getD 41 undef, tm.getD 42 undef, tm.getD 43 undef, tm.getD 44 undef, tm.getD 45 undef, tm.getD 46 undef, tm.getD 47 undef, tm.getD 48 undef, tm.getD 49 undef, tm.getD 50 undef, tm.getD 51 undef, tm.getD 52 undef, tm.getD 53 undef, tm.getD 54 undef, tm.getD 55 undef] := (Facts.array_lit tm hsize).trans rfl
    rw [f3, f1] at hlit
    clear f3 f1 hsize hnew hold
    generalize tm.getD 0 undef = x0 at hlit
    generalize tm.getD 2 undef = x2 at hlit
    generalize tm.getD 4 undef = x4 at hlit
    generalize tm.getD 5 undef = x5 at hlit
    generalize tm.getD 6 undef = x6 at hlit
    generalize tm.getD 7 undef = x7 at hlit
    generalize tm.getD 8 undef = x8 at hlit
    generalize tm.getD 9 undef = x9 at hlit
    generalize tm.getD 10 undef = x10 at hlit
    generalize tm.getD 11 undef = x11 at hlit
    generalize tm.getD 12 undef = x12 at hlit
    generalize tm.getD 13 undef = x13 at hlit
    generalize tm.getD 14 undef = x14 at hlit
    generalize tm.getD 15 undef = x15 at hlit
    generalize tm.getD 16 undef = x16 at hlit
    generalize tm.getD 17 undef = x17 at hlit
    generalize tm.getD 18 undef = x18 at hlit
    generalize tm.getD 19 undef = x19 at hlit
    generalize tm.getD 20 undef = x20 at hlit
    generalize tm.getD 21 undef = x21 at hlit
    generalize tm.getD 22 undef = x22 at hlit
    generalize tm.getD 23 undef = x23 at hlit
    generalize tm.getD 24 undef = x24 at hlit
    generalize tm.getD 25 undef = x25 at hlit
    generalize tm.getD 26 undef = x26 at hlit
    generalize tm.getD 27 undef = x27 at hlit
    generalize tm.getD 28 undef = x28 at hlit
    generalize tm.getD 29 undef = x29 at hlit
    generalize tm.getD 30 undef = x30 at hlit
    generalize tm.getD 31 undef = x31 at hlit
    generalize tm.getD 32 undef = x32 at hlit
    generalize tm.getD 33 undef = x33 at hlit
    generalize tm.getD 34 undef = x34 at hlit
    generalize tm.getD 35 undef = x35 at hlit
    generalize tm.getD 36 undef = x36 at hlit
    generalize tm.getD 37 undef = x37 at hlit
    generalize tm.getD 38 undef = x38 at hlit
    generalize tm.getD 39 undef = x39 at hlit
    generalize tm.getD 40 undef = x40 at hlit
    generalize tm.getD 41 undef = x41 at hlit
    generalize tm.getD 42 undef = x42 at hlit
    generalize tm.getD 43 undef = x43 at hlit
    generalize tm.getD 44 undef = x44 at hlit
    generalize tm.getD 45 undef = x45 at hlit
    generalize tm.getD 46 undef = x46 at hlit
    generalize tm.getD 47 undef = x47 at hlit
    generalize tm.getD 48 undef = x48 at hlit
    generalize tm.getD 49 undef = x49 at hlit
    generalize tm.getD 50 undef = x50 at hlit
    generalize tm.getD 51 undef = x51 at hlit
    generalize tm.getD 52 undef = x52 at hlit
    generalize tm.getD 53 undef = x53 at hlit
    generalize tm.getD 54 undef = x54 at hlit
    generalize tm.getD 55 undef = x55 at hlit
    subst hlit
    subst hdef
    try simp only []
    have b3 : Below (w.heap.size + 1) W0 w3 := ((Below.refl _ _).drew).trans (hR'.mono (by show _ ≤ W0.heap.size; omega))
    obtain ⟨h0, -, -, hsz3⟩ := HBX.out w3 b3
    obtain ⟨p0, p1, p2, p3, p4, p5, p6, p7⟩ := box8 h0
    clear h0 hR' HC
    have hle : (enc wn).length + (enc sq).length + (enc tm).length ≤ 30 := by omega
    clear le1 le2 le3
    obtain ⟨L, hL⟩ : ∃ L, L = enc wn ++ enc sq ++ enc tm := ⟨_, rfl⟩
    rw [← hL] at hown3
    have hlen : (enc wn).length + (enc sq).length + (enc tm).length = L.length := by rw [hL]; simp only [List.length_append]
    rw [hlen] at hown3 hle ⊢
    have HL := Lib.hid hL
    clear hL hlen
    -- what was read of the three numbers lies above the box
    have hown3' : w3.ownsRow (w.heap.size + 1) 5 1 (.slice A3 L.length c3) L.length (cs L) := hown3
    go_wp2_with (first | (at_builtin; refine wpList_app rfl _ _ 31 rfl (w.heap.size + 1) 5 i (.int .u8 0) Try.underlying31 hi hz hsz hby rfl A3 L.length c3 _ rfl (hown3'.alloc _) _ 1 1 [b8 kd] rfl (Sees.fresh w3 _ _ _ ?e1) ?e2 ?e3 ?_))
    case e1 => rw [b8_toNat]; omega
    case e2 => omega
    case e3 => first | omega | (simp; omega)
    intro A4 c4 w4 hown4 hb4
    have b4 : Below (w.heap.size + 1) W0 w4 := (b3.alloc (by omega) _).trans hb4
    obtain ⟨h0, -, -, hsz4⟩ := HBX.out w4 b4
    clear p0 p1 p2 p3 p4 p5 p6 p7 b3 hown3' hown3 hb4
    obtain ⟨p0, p1, p2, p3, p4, p5, p6, p7⟩ := box8 h0
    clear h0
    have hz4 : w.heap.size + 1 ≤ w4.heap.size := hsz4
    obtain ⟨L5, hL5⟩ : ∃ L5, L5 = L ++ [b8 kd] := ⟨_, rfl⟩
    rw [← hL5] at hown4
    have hlen5 : L.length + 1 = L5.length := by rw [hL5]; simp
    rw [hlen5] at hown4 ⊢
    have hle5 : L5.length ≤ 31 := by omega
    have HL5 := Lib.hid hL5
    clear hL5 hlen5 hle
    have OWN4 := Lib.hid (Own.lower (base' := w.heap.size) hown4 (by omega))
    clear hown4
    have HCV := Lib.hid (fun W => run_bytes_of_string (P := Try.prog) W 9 31 5 key Try.underlying9 Try.underlying31 Try.underlying5)
    have fin : ∀ (W : World) (B : Option Addr) (N k : Nat) (l : List UInt8), W.ownsRow w.heap.size 5 1 (.slice B N k) N (cs l) → Below w.heap.size w W → l = r → New w.heap.size r.length r w (.returned (.slice B N k)) W := by
      intro W B N k l h1 h2 h3
      subst h3
      have hN : N = l.length := by have := h1.1; rw [cs_length] at this; omega
      subst hN
      exact ⟨B, k, rfl, h1, h2⟩
    have FIN := Lib.hid fin
    clear fin
    rcases (show kd = 1 ∨ (kd = 2 ∨ kd = 3) ∨ kd = 4 ∨ kd = 5 ∨ kd = 6 by omega) with hk | hk | hk | hk | hk
    · have HK := Lib.hid hk
      have t4 : decide ((kd : Int) ≤ 4) = true := by simp; omega
      have t1 : ((kd : Int) == 1) = true := by simp; omega
      have t2 : ((kd : Int) == 2) = false := by rw [beq_eq_false_iff_ne]; omega
      have t3 : ((kd : Int) == 3) = false := by rw [beq_eq_false_iff_ne]; omega
      have t5 : ((kd : Int) == 5) = false := by rw [beq_eq_false_iff_ne]; omega
      clear hk hk1 hk2
      have hcv := HCV.out
      go_wp2_with fail
      clear hcv
      have hk6 := HKEY.out (by rw [HK.out]; omega)
      have cs := conv_sees w4 5 key (grownCap w4 key.size 0 5)
      have hp6 := (Sees.of_own OWN4.out).below cs.2
      refine (refText_any A4 _ c4 L5 _ key.size (grownCap w4 key.size 0 5) key.data.toList _ hp6 cs.1 (by omega) (by omega)).mono ?_
      rintro e w6 ⟨A6, c6, rfl, hown6, hb6⟩
      have b6 := b4.trans ((cs.2.mono hz4).trans (hb6.mono (by have := cs.2.size; omega)))
      have h6 := HBX.out w6 b6
      clear p0 p1 p2 p3 p4 p5 p6 p7
      obtain ⟨p0, p1, p2, p3, p4, p5, p6, p7⟩ := box8 h6.1
      have hown := Own.lower (base' := w.heap.size) hown6 (by have := cs.2.size; omega)
      have hlek := enc_ten (n := key.size) (by omega)
      have hsz6 : w.heap.size + 1 ≤ w6.heap.size := by have := h6.2.2.2; omega
      have H6 := Lib.hid h6
      clear h6 hp6 cs hown6 hb6
      have ht6 := HTEXT.out HK.out
      have htn := H6.out.2.1.1
      go_wp2_with fail
      refine (refText_any A6 _ c6 _ A n c text w6 (Sees.of_own hown) H6.out.2.1 (by omega) (by omega)).mono ?_
      rintro e w7 ⟨A7, c7, rfl, hown7, hb7⟩
      have b7 := b6.trans (hb7.mono hsz6)
      have h7 := HBX.out w7 b7
      clear p0 p1 p2 p3 p4 p5 p6 p7
      obtain ⟨p0, p1, p2, p3, p4, p5, p6, p7⟩ := box8 h7.1
      have OWN := Lib.hid (Own.lower (base' := w.heap.size) hown7 (by omega))
      have BEL := Lib.hid h7.2.2.1
      have HTN := Lib.hid htn
      clear hown7 hb7 h7 htn
      go_wp2
      go_ret
      exact FIN.out _ _ _ _ _ OWN.out BEL.out (by rw [HR.out, HL5.out, HL.out, evL_set HK.out, HTN.out, Int.toNat_natCast])
    · have HK' := Lib.hid hk
      have HK := Lib.hid (show kd ≤ 4 by omega)
      have t4 : decide ((kd : Int) ≤ 4) = true := by simp; omega
      have t1 : ((kd : Int) == 1) = false := by rw [beq_eq_false_iff_ne]; omega
      have t2 : (((kd : Int) == 2) = true) ∨ (((kd : Int) == 2) = false ∧ ((kd : Int) == 3) = true) := by
        rcases hk with rfl | rfl
        · left; rfl
        · right; exact ⟨rfl, rfl⟩
      have t5 : ((kd : Int) == 5) = false := by rw [beq_eq_false_iff_ne]; omega
      clear hk hk1 hk2
      have hql := qb_lt num hq
      have T2 := Lib.hid t2
      clear t2
      have hcv := HCV.out
      go_wp2_with fail
      clear hcv
      have hk6 := HKEY.out (HK.out)
      have cs := conv_sees w4 5 key (grownCap w4 key.size 0 5)
      have hp6 := (Sees.of_own OWN4.out).below cs.2
      refine (refText_any A4 _ c4 L5 _ key.size (grownCap w4 key.size 0 5) key.data.toList _ hp6 cs.1 (by omega) (by omega)).mono ?_
      rintro e w6 ⟨A6, c6, rfl, hown6, hb6⟩
      have b6 := b4.trans ((cs.2.mono hz4).trans (hb6.mono (by have := cs.2.size; omega)))
      have h6 := HBX.out w6 b6
      clear p0 p1 p2 p3 p4 p5 p6 p7
      obtain ⟨p0, p1, p2, p3, p4, p5, p6, p7⟩ := box8 h6.1
      have hown := Own.lower (base' := w.heap.size) hown6 (by have := cs.2.size; omega)
      have hlek := enc_ten (n := key.size) (by omega)
      have hsz6 : w.heap.size + 1 ≤ w6.heap.size := by have := h6.2.2.2; omega
      have H6 := Lib.hid h6
      clear h6 hp6 cs hown6 hb6
      rcases T2.out with t2 | ⟨t2, t3⟩
      all_goals
        go_wp2_with fail
        refine (refBits_any _ _).mono ?_
        rintro e w6 ⟨rfl, rfl⟩
        go_wp2_with fail
        refine (refFixed_any A6 _ c6 _ _ w6 (Sees.of_own hown) (by omega) (by omega) (by omega)).mono ?_
        rintro e w7 ⟨A7, c7, rfl, hown7, hb7⟩
        rw [Int.toNat_natCast] at hown7
        have b7 := b6.trans (hb7.mono hsz6)
        have h7 := HBX.out w7 b7
        clear p0 p1 p2 p3 p4 p5 p6 p7
        obtain ⟨p0, p1, p2, p3, p4, p5, p6, p7⟩ := box8 h7.1
        have OWN := Lib.hid (Own.lower (base' := w.heap.size) hown7 (by omega))
        have BEL := Lib.hid h7.2.2.1
        clear hown7 hb7 h7
        go_wp2
        go_ret
        exact FIN.out _ _ _ _ _ OWN.out BEL.out (by rw [HR.out, HL5.out, HL.out, evL_num HK'.out, Int.toNat_natCast])
    · have HK := Lib.hid hk
      have t4 : decide ((kd : Int) ≤ 4) = true := by simp; omega
      have t1 : ((kd : Int) == 1) = false := by rw [beq_eq_false_iff_ne]; omega
      have t2 : ((kd : Int) == 2) = false := by rw [beq_eq_false_iff_ne]; omega
      have t3 : ((kd : Int) == 3) = false := by rw [beq_eq_false_iff_ne]; omega
      have t5 : ((kd : Int) == 5) = false := by rw [beq_eq_false_iff_ne]; omega
      clear hk hk1 hk2
      have hcv := HCV.out
      go_wp2_with fail
      clear hcv
      have hk6 := HKEY.out (by rw [HK.out]; omega)
      have cs := conv_sees w4 5 key (grownCap w4 key.size 0 5)
      have hp6 := (Sees.of_own OWN4.out).below cs.2
      refine (refText_any A4 _ c4 L5 _ key.size (grownCap w4 key.size 0 5) key.data.toList _ hp6 cs.1 (by omega) (by omega)).mono ?_
      rintro e w6 ⟨A6, c6, rfl, hown6, hb6⟩
      have b6 := b4.trans ((cs.2.mono hz4).trans (hb6.mono (by have := cs.2.size; omega)))
      have h6 := HBX.out w6 b6
      clear p0 p1 p2 p3 p4 p5 p6 p7
      obtain ⟨p0, p1, p2, p3, p4, p5, p6, p7⟩ := box8 h6.1
      have hown := Own.lower (base' := w.heap.size) hown6 (by have := cs.2.size; omega)
      have hlek := enc_ten (n := key.size) (by omega)
      have hsz6 : w.heap.size + 1 ≤ w6.heap.size := by have := h6.2.2.2; omega
      have H6 := Lib.hid h6
      clear h6 hp6 cs hown6 hb6
      have OWN := Lib.hid hown
      clear hown
      go_wp2
      go_ret
      exact FIN.out _ _ _ _ _ OWN.out H6.out.2.2.1 (by rw [HR.out, HL5.out, HL.out, evL_drop HK.out, Int.toNat_natCast])
    · have HK := Lib.hid hk
      have t4 : decide ((kd : Int) ≤ 4) = false := by simp; omega
      have t1 : ((kd : Int) == 1) = false := by rw [beq_eq_false_iff_ne]; omega
      have t2 : ((kd : Int) == 2) = false := by rw [beq_eq_false_iff_ne]; omega
      have t3 : ((kd : Int) == 3) = false := by rw [beq_eq_false_iff_ne]; omega
      have t5 : ((kd : Int) == 5) = true := by simp; omega
      clear hk hk1 hk2
      obtain ⟨hn1, hn2⟩ := HNODE.out HK.out
      obtain ⟨nn, rfl⟩ := Int.eq_ofNat_of_zero_le hn1
      have hnu : IntKind.u64.wrap (nn : Int) = (nn : Int) := wrap_in nn (by omega)
      go_wp2_with fail
      refine (refLay_any A4 _ c4 L5 _ _ (Sees.of_own OWN4.out) (by omega) (by omega) (by omega)).mono ?_
      rintro e w6 ⟨A6, c6, rfl, hown6, hb6⟩
      rw [Int.toNat_natCast] at hown6 ⊢
      have h6 := HBX.out w6 (b4.trans (hb6.mono hz4))
      have OWN := Lib.hid (Own.lower (base' := w.heap.size) hown6 (by omega))
      have BEL := Lib.hid h6.2.2.1
      clear hown6 hb6 h6
      go_wp2
      go_ret
      exact FIN.out _ _ _ _ _ OWN.out BEL.out (by rw [HR.out, HL5.out, HL.out, evL_join HK.out, Int.toNat_natCast, Int.toNat_natCast])
    · have HK := Lib.hid hk
      have t4 : decide ((kd : Int) ≤ 4) = false := by simp; omega
      have t1 : ((kd : Int) == 1) = false := by rw [beq_eq_false_iff_ne]; omega
      have t2 : ((kd : Int) == 2) = false := by rw [beq_eq_false_iff_ne]; omega
      have t3 : ((kd : Int) == 3) = false := by rw [beq_eq_false_iff_ne]; omega
      have t5 : ((kd : Int) == 5) = false := by rw [beq_eq_false_iff_ne]; omega
      clear hk hk1 hk2
      have BEL := Lib.hid (HBX.out w4 b4).2.2.1
      go_wp2
      go_ret
      exact FIN.out _ _ _ _ _ OWN4.out BEL.out (by rw [HR.out, HL5.out, HL.out, evL_retire HK.out, Int.toNat_natCast])
end Go.Proofs.Ytlacihgoammjgaa.Evt

/- event.Same and the document's: their contracts. -/
namespace Go.Proofs.Ytlacihgoammjgaa.Evt
open Go Go.RowKit Go.Proofs.Ytlacihgoammjgaa.Words Go.Proofs.Ytlacihgoammjgaa.Enc Go.Proofs.Ytlacihgoammjgaa.Q Go.Proofs.Ytlacihgoammjgaa.Made
set_option linter.unusedVariables false

theorem str_beq (l m : List UInt8) : (l == m) = decide (l = m) := by
  rw [Bool.eq_iff_iff]; simp
set_option maxRecDepth 100000 in
set_option maxHeartbeats 1000000 in
theorem refSame_any (e1 e2 : Ev) (A1 A2 : Option Addr) (n1 c1 n2 c2 : Nat) (w : World) (hs1 : Sees w A1 n1 e1.text) (hs2 : Sees w A2 n2 e2.text) (hq1 : e1.num < 18446744073709551616) (hq2 : e2.num < 18446744073709551616) (hr1 : Right e1) (hr2 : Right e2) :
    Calls Try.prog 12 #[e1.val A1 n1 c1, e2.val A2 n2 c2] w fun e' w' => e' = .returned (.bool (decide (evL e1 = evL e2))) ∧ Below w.heap.size w w' := by
  have str_eq := str_beq (evL e1) (evL e2)
  show Calls _ _ #[.agg (e1.row A1 n1 c1), .agg (e2.row A2 n2 c2)] _ _
  unfold Ev.row
  go_enter Try.func12, Try.ntmps12
  go_wp2_with fail
  generalize hW1 : (w.alloc (.cells #[.int .i64 e1.writer, .int .u64 (e1.seq : Int), .int .u64 (e1.time : Int), .int .u8 (e1.kind : Int), .string e1.key, .slice A1 n1 c1, .float .f64 e1.num, .int .i64 e1.node] 34)).alloc (.cells #[.int .i64 e2.writer, .int .u64 (e2.seq : Int), .int .u64 (e2.time : Int), .int .u8 (e2.kind : Int), .string e2.key, .slice A2 n2 c2, .float .f64 e2.num, .int .i64 e2.node] 34) = W1
  have hb0 : Below w.heap.size w W1.drew := by rw [← hW1]; exact (((Below.refl _ _).alloc (Nat.le_refl _) _).alloc (by simp) _).drew
  have HC : Hid (∀ W, Below W1.drew.heap.size W1.drew W → W.heap[w.heap.size]? = some (.cells (e1.row A1 n1 c1) 34 (0, 0)) ∧ W.heap[w.heap.size + 1]? = some (.cells (e2.row A2 n2 c2) 34 (0, 0))) := Lib.hid (by
    intro W hW
    have h1 : W1.heap[w.heap.size]? = some (.cells (e1.row A1 n1 c1) 34 (0, 0)) := by
      rw [← hW1, Below.heap_alloc _ _ _ (by simp)]; exact heap_alloc_new w _
    have h2 : W1.heap[w.heap.size + 1]? = some (.cells (e2.row A2 n2 c2) 34 (0, 0)) := by
      rw [← hW1]
      have := heap_alloc_new (w.alloc (.cells (e1.row A1 n1 c1) 34)) (.cells (e2.row A2 n2 c2) 34)
      unfold Ev.row at this ⊢
      simpa using this
    have hz : w.heap.size + 1 < W1.heap.size := (Array.getElem?_eq_some_iff.1 h2).1
    exact ⟨(hW.block w.heap.size (by show _ < W1.heap.size; omega)).trans h1, (hW.block (w.heap.size + 1) (by show _ < W1.heap.size; omega)).trans h2⟩)
  have HS1 : Hid (∀ W, Below W1.drew.heap.size W1.drew W → Sees W A1 n1 e1.text) := Lib.hid fun W hW => (hs1.below hb0).below hW
  have HS2 : Hid (∀ W, Below W1.drew.heap.size W1.drew W → Sees W A2 n2 e2.text) := Lib.hid fun W hW => (hs2.below hb0).below hW
  clear hW1
  refine Facts.wp_region_preds (n := 12) (by kernel_rfl) (by kernel_rfl) rfl [Facts.Pred.is (e1.val A1 n1 c1), Facts.Pred.shows (evL e1).length (evL e1), Facts.Pred.is (Value.string ⟨(evL e1).toArray⟩), Facts.Pred.is (e2.val A2 n2 c2), Facts.Pred.shows (evL e2).length (evL e2), Facts.Pred.is (Value.string ⟨(evL e2).toArray⟩), Facts.Pred.is (Value.bool (decide (evL e1 = evL e2))), Facts.Pred.is (Value.bool (decide (evL e1 = evL e2)))] ?_ ?_
  · refine ⟨?_, ?_, ?_, ?_, ?_, ?_, ?_, ?_, trivial⟩
    · refine Facts.step_is (e1.val A1 n1 c1) fun a W hR hold hnew => ?_
      have f2 : a.tmps.getD 2 undef = Value.pointer (some ⟨w.heap.size, 0, none⟩) := hold 2 (by kernel_rfl)
      obtain ⟨q1, q2⟩ := HC.out W hR
      obtain ⟨k0, k1, k2, k3, k4, k5, k6, k7⟩ := box8 q1
      refine ⟨Facts.wanted_free rfl, ?_, fun _ => rfl⟩
      simp [go_sem, Act.eval, f2, k0, k1, k2, k3, k4, k5, k6, k7, Ev.val]
    · -- 1: Op.call { value (Operand.func 15), args := #[t5], argTypes :
      refine Facts.step_call fun a W hR hold hnew => ?_
      have f5 : a.tmps.getD 5 undef = e1.val A1 n1 c1 := hnew 0 5 (by kernel_rfl)
      refine ⟨Facts.wanted_free rfl, 31, #[e1.val A1 n1 c1], by simp [go_sem, Act.eval, f5], ?_⟩
      refine (refEncode_any e1 _ _ _ W (HS1.out W hR) hq1 hr1).mono ?_
      rintro e' w7 ⟨A7, c7, rfl, hown7, hb7⟩
      exact ⟨_, rfl, hb7, A7, c7, rfl, Sees.of_own hown7⟩
    · -- 2: Op.convert 23 9 t6
      refine Facts.step_is (Value.string ⟨(evL e1).toArray⟩) fun a W hR hold hnew => ?_
      have h6 : ∃ A' c', a.tmps.getD 6 undef = .slice A' (evL e1).length c' ∧ Sees W A' (evL e1).length (evL e1) := hnew 1 6 (by kernel_rfl)
      obtain ⟨A7, c7, f6, hs7⟩ := h6
      have r := hs7.string (P := Try.prog) c7 (t := 31) (s := 9) (e := 5) Try.underlying31 Try.underlying5 Try.underlying9
      refine ⟨Facts.wanted_free rfl, ?_, fun _ => rfl⟩
      simp [go_sem, Act.eval, f6, r]
    · refine Facts.step_is (e2.val A2 n2 c2) fun a W hR hold hnew => ?_
      have f3 : a.tmps.getD 3 undef = Value.pointer (some ⟨w.heap.size + 1, 0, none⟩) := hold 3 (by kernel_rfl)
      obtain ⟨q1, q2⟩ := HC.out W hR
      obtain ⟨k0, k1, k2, k3, k4, k5, k6, k7⟩ := box8 q2
      refine ⟨Facts.wanted_free rfl, ?_, fun _ => rfl⟩
      simp [go_sem, Act.eval, f3, k0, k1, k2, k3, k4, k5, k6, k7, Ev.val]
    · -- 4: Op.call { value (Operand.func 15), args := #[t8], argTypes :
      refine Facts.step_call fun a W hR hold hnew => ?_
      have f8 : a.tmps.getD 8 undef = e2.val A2 n2 c2 := hnew 3 8 (by kernel_rfl)
      refine ⟨Facts.wanted_free rfl, 31, #[e2.val A2 n2 c2], by simp [go_sem, Act.eval, f8], ?_⟩
      refine (refEncode_any e2 _ _ _ W (HS2.out W hR) hq2 hr2).mono ?_
      rintro e' w7 ⟨A7, c7, rfl, hown7, hb7⟩
      exact ⟨_, rfl, hb7, A7, c7, rfl, Sees.of_own hown7⟩
    · -- 5: Op.convert 23 9 t9
      refine Facts.step_is (Value.string ⟨(evL e2).toArray⟩) fun a W hR hold hnew => ?_
      have h6 : ∃ A' c', a.tmps.getD 9 undef = .slice A' (evL e2).length c' ∧ Sees W A' (evL e2).length (evL e2) := hnew 4 9 (by kernel_rfl)
      obtain ⟨A7, c7, f6, hs7⟩ := h6
      have r := hs7.string (P := Try.prog) c7 (t := 31) (s := 9) (e := 5) Try.underlying31 Try.underlying5 Try.underlying9
      refine ⟨Facts.wanted_free rfl, ?_, fun _ => rfl⟩
      simp [go_sem, Act.eval, f6, r]
    · refine Facts.step_is (Value.bool (decide (evL e1 = evL e2))) fun a W hR hold hnew => ?_
      have f7 : a.tmps.getD 7 undef = Value.string ⟨(evL e1).toArray⟩ := hnew 2 7 (by kernel_rfl)
      have f10 : a.tmps.getD 10 undef = Value.string ⟨(evL e2).toArray⟩ := hnew 5 10 (by kernel_rfl)
      refine ⟨Facts.wanted_free rfl, ?_, fun _ => rfl⟩
      simp [go_sem, Act.eval, f7, f10, str_eq]
    · refine Facts.step_is (Value.bool (decide (evL e1 = evL e2))) fun a W hR hold hnew => ?_
      have f11 : a.tmps.getD 11 undef = Value.bool (decide (evL e1 = evL e2)) := hnew 6 11 (by kernel_rfl)
      refine ⟨Facts.wanted_free rfl, ?_, fun _ => rfl⟩
      simp [go_sem, Act.eval, f11]
  · intro a w3 hR' hsize hdef hnew hold
    have f4 : a.tmps.getD 4 undef = Value.bool (decide (evL e1 = evL e2)) := hnew 7 4 (by kernel_rfl)
    obtain ⟨tm, df⟩ := a
    simp only [] at hdef hsize f4
    have hlit : tm = #[tm.getD 0 undef, tm.getD 1 undef, tm.getD 2 undef, tm.getD 3 undef, tm.getD 4 undef, tm.getD 5 undef, tm.getD 6 undef, tm.getD 7 undef, tm.getD 8 undef, tm.getD 9 undef, tm.getD 10 undef, tm.getD 11 undef] := (Facts.array_lit tm hsize).trans rfl
    rw [f4] at hlit
    clear f4 hsize hnew hold
    generalize tm.getD 0 undef = x0 at hlit
    generalize tm.getD 1 undef = x1 at hlit
    generalize tm.getD 2 undef = x2 at hlit
    generalize tm.getD 3 undef = x3 at hlit
    generalize tm.getD 5 undef = x5 at hlit
    generalize tm.getD 6 undef = x6 at hlit
    generalize tm.getD 7 undef = x7 at hlit
    generalize tm.getD 8 undef = x8 at hlit
    generalize tm.getD 9 undef = x9 at hlit
    generalize tm.getD 10 undef = x10 at hlit
    generalize tm.getD 11 undef = x11 at hlit
    subst hlit
    subst hdef
    try simp only []
    have b1 := hb0.trans (hR'.mono hb0.size)
    clear hR' hb0 HC HS1 HS2
    go_wp2
    go_ret
    exact ⟨rfl, b1⟩

end Go.Proofs.Ytlacihgoammjgaa.Evt

/- event.Plain: its contract. -/
namespace Go.Proofs.Ytlacihgoammjgaa.Evt
open Go Go.RowKit Go.Proofs.Ytlacihgoammjgaa.Words Go.Proofs.Ytlacihgoammjgaa.Enc Go.Proofs.Ytlacihgoammjgaa.Q
set_option linter.unusedVariables false

/-- What Plain answers. -/
def PlainGives (e : Ev) (w : World) (e' : Ending) (w' : World) : Prop :=
  ∃ A' n' c', e' = .returned ((plainE e).val A' n' c') ∧ Sees w' A' n' (plainE e).text ∧ n' ≤ c' ∧ c' ≤ 9223372036854775807 ∧ Below w.heap.size w w'

/-- .. and its text is new. -/
def PlainNew (e : Ev) (w : World) (e' : Ending) (w' : World) : Prop :=
  ∃ A' n' c', e' = .returned ((plainE e).val A' n' c') ∧ Sees w' A' n' (plainE e).text ∧ n' ≤ c' ∧ c' ≤ 9223372036854775807 ∧ Below w.heap.size w w' ∧ (0 < n' → ∀ a, A' = some a → w.heap.size ≤ a.block)

/-- Three boxes, one behind the other. -/
theorem boxes3 (a b c : Array Value) (T : TypeId) (w : World) {W : World} (hW : Below (w.heap.size + 3) (((w.alloc (.cells a T)).alloc (.cells b T)).alloc (.cells c T)) W) :
    W.heap[w.heap.size]? = some (.cells a T (0, 0)) ∧ W.heap[w.heap.size + 1]? = some (.cells b T (0, 0)) ∧ W.heap[w.heap.size + 1 + 1]? = some (.cells c T (0, 0)) ∧ Below w.heap.size w W ∧ w.heap.size + 3 ≤ W.heap.size := by
  have b0 := (((Below.refl w.heap.size w).alloc (Nat.le_refl _) (.cells a T)).alloc (by simp) (.cells b T)).alloc (by simp; omega) (.cells c T)
  refine ⟨?_, ?_, ?_, b0.trans (hW.mono (by omega)), by have := hW.size; simp at this; omega⟩
  · rw [hW.block w.heap.size (by omega), Below.heap_alloc _ _ _ (by simp; omega), Below.heap_alloc _ _ _ (by simp)]
    exact heap_alloc_new w _
  · rw [hW.block (w.heap.size + 1) (by omega), Below.heap_alloc _ _ _ (by simp)]
    have := heap_alloc_new (w.alloc (.cells a T)) (.cells b T)
    simpa using this
  · rw [hW.block (w.heap.size + 1 + 1) (by omega)]
    have := heap_alloc_new ((w.alloc (.cells a T)).alloc (.cells b T)) (.cells c T)
    simpa using this

end Go.Proofs.Ytlacihgoammjgaa.Evt
