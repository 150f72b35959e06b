/- Events as plain data: which may be, what their bytes are. -/
import Derived.Test.YtocokfgkbdfodaaQua
import Derived.Test.YtocokfgkbdfodaaEnc
namespace Go.Proofs.Ytocokfgkbdfodaa.Evt
open Go Go.RowKit Go.Proofs.Ytocokfgkbdfodaa.Words Go.Proofs.Ytocokfgkbdfodaa.Enc Go.Proofs.Ytocokfgkbdfodaa.Q
set_option linter.unusedVariables false

structure Ev where
  writer : Int
  seq : Nat
  time : Nat
  kind : Nat
  key : ByteArray
  text : List UInt8
  num : Nat
  node : Int

/-- The event as a value; its text lies at A. -/
def Ev.val (e : Ev) (A : Option Addr) (n c : Nat) : Value :=
  .agg #[.int .i64 e.writer, .int .u64 (e.seq : Int), .int .u64 (e.time : Int), .int .u8 (e.kind : Int), .string e.key, .slice A n c, .float .f64 e.num, .int .i64 e.node]

/-- Its cells. -/
def Ev.row (e : Ev) (A : Option Addr) (n c : Nat) : Array Value :=
  #[.int .i64 e.writer, .int .u64 (e.seq : Int), .int .u64 (e.time : Int), .int .u8 (e.kind : Int), .string e.key, .slice A n c, .float .f64 e.num, .int .i64 e.node]

/-- The numbers are numbers of their kinds. -/
structure Ev.Fit (e : Ev) : Prop where
  w1 : -9223372036854775808 ≤ e.writer
  w2 : e.writer ≤ 9223372036854775807
  s : e.seq < 18446744073709551616
  t : e.time < 18446744073709551616
  k : e.kind < 256
  q : e.num < 18446744073709551616
  n1 : -9223372036854775808 ≤ e.node
  n2 : e.node ≤ 9223372036854775807

def rightE (e : Ev) : Nat :=
  if e.writer < 0 ∨ 63 < e.writer ∨ e.seq = 0 ∨ e.time = 0 ∨ e.kind < 1 ∨ 6 < e.kind then 1
  else if e.kind = 5 ∧ (e.node < 0 ∨ 63 < e.node) then 1
  else if e.kind ≤ 4 ∧ (e.key.size = 0 ∨ 64 < e.key.size) then 6
  else if e.kind = 1 ∧ 1048576 < e.text.length then 6
  else if 9223372036854775808 ≤ e.seq ∨ 9223372036854775808 ≤ e.time then 8 else 0

/-- What the kind says. -/
def dataL (e : Ev) : List UInt8 :=
  (if e.kind ≤ 4 then enc e.key.size ++ e.key.data.toList else []) ++ ((if e.kind = 1 then enc e.text.length ++ e.text else []) ++
    ((if e.kind = 2 ∨ e.kind = 3 then fix (qb e.num) else []) ++ (if e.kind = 5 then enc e.node.toNat else [])))
/-- An event's bytes. -/
def evL (e : Ev) : List UInt8 := enc e.writer.toNat ++ (enc e.seq ++ (enc e.time ++ ([b8 e.kind] ++ dataL e)))

/-- What of an event its kind says. -/
def plainE (e : Ev) : Ev :=
  { writer := e.writer, seq := e.seq, time := e.time, kind := e.kind
    key := if 1 ≤ e.kind ∧ e.kind ≤ 4 then e.key else ⟨#[]⟩
    text := if e.kind = 1 then e.text else []
    num := if e.kind = 2 ∨ e.kind = 3 then qb e.num else 0
    node := if e.kind = 5 then e.node else 0 }

structure Right (e : Ev) : Prop where
  w1 : 0 ≤ e.writer
  w2 : e.writer ≤ 63
  s1 : 1 ≤ e.seq
  s2 : e.seq < 9223372036854775808
  t1 : 1 ≤ e.time
  t2 : e.time < 9223372036854775808
  k1 : 1 ≤ e.kind
  k2 : e.kind ≤ 6
  n : e.kind = 5 → 0 ≤ e.node ∧ e.node ≤ 63
  key : e.kind ≤ 4 → 1 ≤ e.key.size ∧ e.key.size ≤ 64
  text : e.kind = 1 → e.text.length ≤ 1048576

theorem right_iff (e : Ev) : rightE e = 0 ↔ Right e := by
  unfold rightE
  constructor
  · intro h
    split at h
    · cases h
    · rename_i h1
      split at h
      · cases h
      · rename_i h2
        split at h
        · cases h
        · rename_i h3
          split at h
          · cases h
          · rename_i h4
            split at h
            · cases h
            · rename_i h5
              exact ⟨by omega, by omega, by omega, by omega, by omega, by omega, by omega, by omega, fun k => by omega, fun k => by omega, fun k => by omega⟩
  · intro h
    obtain ⟨a, b, c, d, f, g, i, j, n, k, t⟩ := h
    rw [if_neg (by omega), if_neg (fun h => by have := n h.1; omega), if_neg (fun h => by have := k h.1; omega), if_neg (fun h => by have := t h.1; omega), if_neg (by omega)]

theorem plain_right {e : Ev} (h : Right e) : Right (plainE e) := by
  obtain ⟨a, b, c, d, f, g, i, j, n, k, t⟩ := h
  refine ⟨a, b, c, d, f, g, i, j, fun h => ?_, fun h => ?_, fun h => ?_⟩
  · have h5 : e.kind = 5 := h
    simp only [plainE, if_pos h5]; exact n h5
  · have h5 : e.kind ≤ 4 := h
    simp only [plainE, if_pos (show 1 ≤ e.kind ∧ e.kind ≤ 4 from ⟨i, h5⟩)]; exact k h5
  · have h5 : e.kind = 1 := h
    simp only [plainE, if_pos h5]; exact t h5
theorem plain_evL {e : Ev} (h : 1 ≤ e.kind) : evL (plainE e) = evL e := by
  have hd : dataL (plainE e) = dataL e := by
    obtain ⟨wr, sq, tm, kd, key, text, num, node⟩ := e
    replace h : 1 ≤ kd := h
    simp only [dataL, plainE]
    by_cases h1 : kd ≤ 4 <;> by_cases h2 : kd = 1 <;> by_cases h3 : kd = 2 ∨ kd = 3 <;> by_cases h4 : kd = 5 <;> simp [h, h1, h2, h3, h4, qb_qb]
  unfold evL
  rw [hd]
  rfl
theorem plain_plain (e : Ev) : plainE (plainE e) = plainE e := by
  simp only [plainE]
  congr 1
  · split <;> simp_all
  · split <;> simp_all
  · split <;> simp_all [qb_qb]
  · split <;> simp_all

section
variable {wr : Int} {sq tm kd : Nat} {key : ByteArray} {text : List UInt8} {num : Nat} {node : Int}
theorem evL_set (h : kd = 1) : evL ⟨wr, sq, tm, kd, key, text, num, node⟩ = enc wr.toNat ++ enc sq ++ enc tm ++ [b8 kd] ++ enc key.size ++ key.data.toList ++ enc text.length ++ text := by
  simp only [evL, dataL]
  rw [if_pos (show kd ≤ 4 by omega), if_pos h, if_neg (by omega), if_neg (by omega)]
  simp only [List.append_assoc, List.append_nil]
theorem evL_num (h : kd = 2 ∨ kd = 3) : evL ⟨wr, sq, tm, kd, key, text, num, node⟩ = enc wr.toNat ++ enc sq ++ enc tm ++ [b8 kd] ++ enc key.size ++ key.data.toList ++ fix (qb num) := by
  simp only [evL, dataL]
  rw [if_pos (show kd ≤ 4 by omega), if_neg (by omega), if_pos h, if_neg (by omega)]
  simp only [List.append_assoc, List.append_nil, List.nil_append]
theorem evL_drop (h : kd = 4) : evL ⟨wr, sq, tm, kd, key, text, num, node⟩ = enc wr.toNat ++ enc sq ++ enc tm ++ [b8 kd] ++ enc key.size ++ key.data.toList := by
  simp only [evL, dataL]
  rw [if_pos (show kd ≤ 4 by omega), if_neg (by omega), if_neg (by omega), if_neg (by omega)]
  simp only [List.append_assoc, List.append_nil]
theorem evL_join (h : kd = 5) : evL ⟨wr, sq, tm, kd, key, text, num, node⟩ = enc wr.toNat ++ enc sq ++ enc tm ++ [b8 kd] ++ enc node.toNat := by
  simp only [evL, dataL]
  rw [if_neg (show ¬ kd ≤ 4 by omega), if_neg (by omega), if_neg (by omega), if_pos h]
  simp only [List.append_assoc, List.nil_append]
theorem evL_retire (h : kd = 6) : evL ⟨wr, sq, tm, kd, key, text, num, node⟩ = enc wr.toNat ++ enc sq ++ enc tm ++ [b8 kd] := by
  simp only [evL, dataL]
  rw [if_neg (show ¬ kd ≤ 4 by omega), if_neg (by omega), if_neg (by omega), if_neg (by omega)]
  simp only [List.append_assoc, List.append_nil]
end
theorem evL_len {e : Ev} (h : Right e) : (evL e).length ≤ 130 + e.text.length := by
  obtain ⟨wr, sq, tm, kd, key, text, num, node⟩ := e
  obtain ⟨hw1, hw2, hs1, hs2, ht1, ht2, hk1, hk2, hnode, hkey, htext⟩ := h
  simp only at hw1 hw2 hs1 hs2 ht1 ht2 hk1 hk2 hnode hkey htext ⊢
  have l1 := enc_ten (n := wr.toNat) (by omega)
  have l2 := enc_ten (n := sq) (by omega)
  have l3 := enc_ten (n := tm) (by omega)
  have lk : key.data.toList.length = key.size := rfl
  have l8 := fix_length (qb num)
  rcases (show kd = 1 ∨ (kd = 2 ∨ kd = 3) ∨ kd = 4 ∨ kd = 5 ∨ kd = 6 by omega) with hk | hk | hk | hk | hk
  · have h1 := hkey (by omega)
    have h2 := htext hk
    have l4 := enc_ten (n := key.size) (by omega)
    have l5 := enc_ten (n := text.length) (by omega)
    rw [evL_set hk]; simp only [List.length_append, List.length_cons, List.length_nil]; omega
  · have h1 := hkey (by omega)
    have l4 := enc_ten (n := key.size) (by omega)
    rw [evL_num hk]; simp only [List.length_append, List.length_cons, List.length_nil]; omega
  · have h1 := hkey (by omega)
    have l4 := enc_ten (n := key.size) (by omega)
    rw [evL_drop hk]; simp only [List.length_append, List.length_cons, List.length_nil]; omega
  · have h1 := hnode hk
    have l4 := enc_ten (n := node.toNat) (by omega)
    rw [evL_join hk]; simp only [List.length_append, List.length_cons, List.length_nil]; omega
  · rw [evL_retire hk]; simp only [List.length_append, List.length_cons, List.length_nil]; omega
theorem plain_num {e : Ev} (h : e.num < 18446744073709551616) : (plainE e).num < 18446744073709551616 := by
  simp only [plainE]
  split
  · exact qb_lt _ h
  · omega
end Go.Proofs.Ytocokfgkbdfodaa.Evt
