/- Texts of the law ReplicaNil, put together. -/
import Derived.Test.YtinjbdgjcadodaaGreatDoorRows
import Derived.Handy
import Derived.WalkLawsBesides
import Derived.Lib.Hide
import Derived.Test.YtinjbdgjcadodaaGreatDoorRNp01
import Derived.Test.YtinjbdgjcadodaaGreatDoorRNp03
import Derived.Test.YtinjbdgjcadodaaGreatDoorRNp04
set_option linter.unusedVariables false
set_option maxRecDepth 100000
namespace Go.Proofs.YtinjbdgjcadodaaGreatDoor.Q
open Go Go.RowKit Words
theorem bits_m (x : Nat) (w : World) : (callFunc 197 #[.float .f64 x]).run Tryz.prog w = .ok (.value (.int .u64 (x : Int))) w := by kernel_rfl
theorem from_m (x : Nat) (w : World) : (callFunc 129 #[.int .u64 (x : Int)]).run Tryz.prog w = .ok (.value (.float .f64 x)) w := by kernel_rfl
def void (x : Nat) : Bool := FloatKind.f64.format.order x x != some .eq
def qb (x : Nat) : Nat := if void x then 9221120237041090561 else x
theorem void_void : void 9221120237041090561 = true := by decide +kernel
theorem qb_qb (x : Nat) : qb (qb x) = qb x := by
 unfold qb
 by_cases h : void x
 ·simp [h, void_void]
 ·simp [h]
theorem qb_lt (x : Nat) (h : x < 18446744073709551616) : qb x < 18446744073709551616 := by
 unfold qb
 split <;> omega
theorem void_zero : void 0 = false := by decide +kernel
theorem qb_zero : qb 0 = 0 := by unfold qb; rw [void_zero]; rfl
theorem isNaN_any (x : Nat) (w : World) : Calls Tryz.prog 196 #[.float .f64 x] w fun e w' => e = .returned (.bool (void x)) ∧ w' = w := by
 go_enter Tryz.func196, Tryz.ntmps196
 go_wp2
 go_ret
 exact ⟨rfl, rfl⟩
theorem bits_any (x : Nat) (w : World) : Calls Tryz.prog 130 #[.float .f64 x] w fun e w' => e = .returned (.int .u64 (qb x : Int)) ∧ w' = w := by
 have hbm := bits_m x
 go_enter Tryz.func130, Tryz.ntmps130
 go_wp2_with fail
 refine (isNaN_any _ _).mono ?_
 rintro e w ⟨rfl, rfl⟩
 by_cases h : void x
 ·go_wp2
  go_ret
  exact ⟨by simp [qb, h], rfl⟩
 ·have h' : void x = false := by simpa using h
  go_wp2
  go_ret
  exact ⟨by simp [qb, h'], rfl⟩
theorem plainQ_any (x : Nat) (w : World) : Calls Tryz.prog 75 #[.float .f64 x] w fun e w' => e = .returned (.float .f64 (qb x)) ∧ w' = w := by
 have hfm := from_m (qb x)
 go_enter Tryz.func75, Tryz.ntmps75
 go_wp2_with fail
 refine (bits_any _ _).mono ?_
 rintro e w ⟨rfl, rfl⟩
 go_wp2
 go_ret
 exact ⟨rfl, rfl⟩
end Go.Proofs.YtinjbdgjcadodaaGreatDoor.Q
namespace Go.Proofs.YtinjbdgjcadodaaGreatDoor.Evt
open Go Go.RowKit Words Enc Go.Proofs.YtinjbdgjcadodaaGreatDoor.Q
structure Ev where
 writer : Int
 seq : Nat
 time : Nat
 kind : Nat
 key : ByteArray
 text : List UInt8
 num : Nat
 node : Int
def Ev.val (e : Ev) (A : Option Addr) (n c : Nat) : Value :=
 .agg #[.int .i64 e.writer, .int .u64 (e.seq : Int), .int .u64 (e.time : Int), .int .u8 (e.kind : Int), .string e.key, .slice A n c, .float .f64 e.num, .int .i64 e.node]
def Ev.row (e : Ev) (A : Option Addr) (n c : Nat) : Array Value :=
 #[.int .i64 e.writer, .int .u64 (e.seq : Int), .int .u64 (e.time : Int), .int .u8 (e.kind : Int), .string e.key, .slice A n c, .float .f64 e.num, .int .i64 e.node]
structure Ev.Fit (e : Ev) : Prop where
 w1 : -9223372036854775808 ≤ e.writer
 w2 : e.writer ≤ 9223372036854775807
 s : e.seq < 18446744073709551616
 t : e.time < 18446744073709551616
 k : e.kind < 256
 q : e.num < 18446744073709551616
 n1 : -9223372036854775808 ≤ e.node
 n2 : e.node ≤ 9223372036854775807
def rightE (e : Ev) : Nat :=
 if e.writer < 0 ∨ 63 < e.writer ∨ e.seq = 0 ∨ e.time = 0 ∨ e.kind < 1 ∨ 6 < e.kind then 1
 else if e.kind = 5 ∧ (e.node < 0 ∨ 63 < e.node) then 1
 else if e.kind ≤ 4 ∧ (e.key.size = 0 ∨ 64 < e.key.size) then 6
 else if e.kind = 1 ∧ 1048576 < e.text.length then 6
 else if 9223372036854775808 ≤ e.seq ∨ 9223372036854775808 ≤ e.time then 8 else 0
def dataL (e : Ev) : List UInt8 :=
 (if e.kind ≤ 4 then enc e.key.size ++ e.key.data.toList else []) ++ ((if e.kind = 1 then enc e.text.length ++ e.text else []) ++
  ((if e.kind = 2 ∨ e.kind = 3 then fix (qb e.num) else []) ++ (if e.kind = 5 then enc e.node.toNat else [])))
def evL (e : Ev) : List UInt8 := enc e.writer.toNat ++ (enc e.seq ++ (enc e.time ++ ([b8 e.kind] ++ dataL e)))
def plainE (e : Ev) : Ev :=
 { writer := e.writer, seq := e.seq, time := e.time, kind := e.kind
   key := if 1 ≤ e.kind ∧ e.kind ≤ 4 then e.key else ⟨#[]⟩
   text := if e.kind = 1 then e.text else []
   num := if e.kind = 2 ∨ e.kind = 3 then qb e.num else 0
   node := if e.kind = 5 then e.node else 0 }
structure Right (e : Ev) : Prop where
 w1 : 0 ≤ e.writer
 w2 : e.writer ≤ 63
 s1 : 1 ≤ e.seq
 s2 : e.seq < 9223372036854775808
 t1 : 1 ≤ e.time
 t2 : e.time < 9223372036854775808
 k1 : 1 ≤ e.kind
 k2 : e.kind ≤ 6
 n : e.kind = 5 → 0 ≤ e.node ∧ e.node ≤ 63
 key : e.kind ≤ 4 → 1 ≤ e.key.size ∧ e.key.size ≤ 64
 text : e.kind = 1 → e.text.length ≤ 1048576
theorem right_iff (e : Ev) : rightE e = 0 ↔ Right e := by
 unfold rightE
 constructor
 ·intro h
  split at h
  ·cases h
  ·rename_i h1
   split at h
   ·cases h
   ·rename_i h2
    split at h
    ·cases h
    ·rename_i h3
     split at h
     ·cases h
     ·rename_i h4
      split at h
      ·cases h
      ·rename_i h5
       exact ⟨by omega, by omega, by omega, by omega, by omega, by omega, by omega, by omega, fun k => by omega, fun k => by omega, fun k => by omega⟩
 ·intro h
  obtain ⟨a, b, c, d, f, g, i, j, n, k, t⟩ := h
  rw [if_neg (by omega), if_neg (fun h => by have := n h.1; omega), if_neg (fun h => by have := k h.1; omega), if_neg (fun h => by have := t h.1; omega), if_neg (by omega)]
theorem plain_right {e : Ev} (h : Right e) : Right (plainE e) := by
 obtain ⟨a, b, c, d, f, g, i, j, n, k, t⟩ := h
 refine ⟨a, b, c, d, f, g, i, j, fun h => ?_, fun h => ?_, fun h => ?_⟩
 ·have h5 : e.kind = 5 := h
  simp only [plainE, if_pos h5]; exact n h5
 ·have h5 : e.kind ≤ 4 := h
  simp only [plainE, if_pos (show 1 ≤ e.kind ∧ e.kind ≤ 4 from ⟨i, h5⟩)]; exact k h5
 ·have h5 : e.kind = 1 := h
  simp only [plainE, if_pos h5]; exact t h5
theorem plain_evL {e : Ev} (h : 1 ≤ e.kind) : evL (plainE e) = evL e := by
 have hd : dataL (plainE e) = dataL e := by
  obtain ⟨wr, sq, tm, kd, key, text, num, node⟩ := e
  replace h : 1 ≤ kd := h
  simp only [dataL, plainE]
  by_cases h1 : kd ≤ 4 <;> by_cases h2 : kd = 1 <;> by_cases h3 : kd = 2 ∨ kd = 3 <;> by_cases h4 : kd = 5 <;> simp [h, h1, h2, h3, h4, qb_qb]
 unfold evL
 rw [hd]
 rfl
section
variable {wr : Int} {sq tm kd : Nat} {key : ByteArray} {text : List UInt8} {num : Nat} {node : Int}
theorem evL_set (h : kd = 1) : evL ⟨wr, sq, tm, kd, key, text, num, node⟩ = enc wr.toNat ++ enc sq ++ enc tm ++ [b8 kd] ++ enc key.size ++ key.data.toList ++ enc text.length ++ text := by
 simp only [evL, dataL]
 rw [if_pos (show kd ≤ 4 by omega), if_pos h, if_neg (by omega), if_neg (by omega)]
 simp only [List.append_assoc, List.append_nil]
theorem evL_num (h : kd = 2 ∨ kd = 3) : evL ⟨wr, sq, tm, kd, key, text, num, node⟩ = enc wr.toNat ++ enc sq ++ enc tm ++ [b8 kd] ++ enc key.size ++ key.data.toList ++ fix (qb num) := by
 simp only [evL, dataL]
 rw [if_pos (show kd ≤ 4 by omega), if_neg (by omega), if_pos h, if_neg (by omega)]
 simp only [List.append_assoc, List.append_nil, List.nil_append]
theorem evL_drop (h : kd = 4) : evL ⟨wr, sq, tm, kd, key, text, num, node⟩ = enc wr.toNat ++ enc sq ++ enc tm ++ [b8 kd] ++ enc key.size ++ key.data.toList := by
 simp only [evL, dataL]
 rw [if_pos (show kd ≤ 4 by omega), if_neg (by omega), if_neg (by omega), if_neg (by omega)]
 simp only [List.append_assoc, List.append_nil]
theorem evL_join (h : kd = 5) : evL ⟨wr, sq, tm, kd, key, text, num, node⟩ = enc wr.toNat ++ enc sq ++ enc tm ++ [b8 kd] ++ enc node.toNat := by
 simp only [evL, dataL]
 rw [if_neg (show ¬ kd ≤ 4 by omega), if_neg (by omega), if_neg (by omega), if_pos h]
 simp only [List.append_assoc, List.nil_append]
theorem evL_retire (h : kd = 6) : evL ⟨wr, sq, tm, kd, key, text, num, node⟩ = enc wr.toNat ++ enc sq ++ enc tm ++ [b8 kd] := by
 simp only [evL, dataL]
 rw [if_neg (show ¬ kd ≤ 4 by omega), if_neg (by omega), if_neg (by omega), if_neg (by omega)]
 simp only [List.append_assoc, List.append_nil]
end
theorem evL_len {e : Ev} (h : Right e) : (evL e).length ≤ 130 + e.text.length := by
 obtain ⟨wr, sq, tm, kd, key, text, num, node⟩ := e
 obtain ⟨hw1, hw2, hs1, hs2, ht1, ht2, hk1, hk2, hnode, hkey, htext⟩ := h
 simp only at hw1 hw2 hs1 hs2 ht1 ht2 hk1 hk2 hnode hkey htext ⊢
 have l1 := enc_ten (n := wr.toNat) (by omega)
 have l2 := enc_ten (n := sq) (by omega)
 have l3 := enc_ten (n := tm) (by omega)
 have lk : key.data.toList.length = key.size := rfl
 have l8 := fix_length (qb num)
 rcases (show kd = 1 ∨ (kd = 2 ∨ kd = 3) ∨ kd = 4 ∨ kd = 5 ∨ kd = 6 by omega) with hk | hk | hk | hk | hk
 ·have h1 := hkey (by omega)
  have h2 := htext hk
  have l4 := enc_ten (n := key.size) (by omega)
  have l5 := enc_ten (n := text.length) (by omega)
  rw [evL_set hk]; simp only [List.length_append, List.length_cons, List.length_nil]; omega
 ·have h1 := hkey (by omega)
  have l4 := enc_ten (n := key.size) (by omega)
  rw [evL_num hk]; simp only [List.length_append, List.length_cons, List.length_nil]; omega
 ·have h1 := hkey (by omega)
  have l4 := enc_ten (n := key.size) (by omega)
  rw [evL_drop hk]; simp only [List.length_append, List.length_cons, List.length_nil]; omega
 ·have h1 := hnode hk
  have l4 := enc_ten (n := node.toNat) (by omega)
  rw [evL_join hk]; simp only [List.length_append, List.length_cons, List.length_nil]; omega
 ·rw [evL_retire hk]; simp only [List.length_append, List.length_cons, List.length_nil]; omega
theorem plain_num {e : Ev} (h : e.num < 18446744073709551616) : (plainE e).num < 18446744073709551616 := by
 simp only [plainE]
 split
 ·exact qb_lt _ h
 ·omega
def usesV (k : Nat) : Value := .tuple #[.agg #[.bool (decide (1 ≤ k ∧ k ≤ 4)), .bool (decide (k = 1)), .bool (decide (k = 2 ∨ k = 3)), .bool (decide (k = 5))], .bool (decide (1 ≤ k ∧ k ≤ 6))]
theorem fieldsOf_any (k : Nat) (w : World) :
  Calls Tryz.prog 66 #[.int .u8 (k : Int)] w fun e w' => e = .returned (usesV k) ∧ Below w.heap.size w w' := by
 by_cases hk : 1 ≤ k ∧ k ≤ 6
 ·rcases (show k = 1 ∨ k = 2 ∨ k = 3 ∨ k = 4 ∨ k = 5 ∨ k = 6 by omega) with rfl | rfl | rfl | rfl | rfl | rfl
  all_goals
   go_enter Tryz.func66, Tryz.ntmps66
   go_wp2
   exact bodyPost_ret (v := usesV _) (by simp [results, Tryz.results66, go_sem, usesV]) rfl ⟨rfl, (Below.refl _ _).alloc (Nat.le_refl _) _⟩
 ·have h1 : ((k : Int) == 1) = false := by rw [beq_eq_false_iff_ne]; omega
  have h2 : ((k : Int) == 2) = false := by rw [beq_eq_false_iff_ne]; omega
  have h3 : ((k : Int) == 3) = false := by rw [beq_eq_false_iff_ne]; omega
  have h4 : ((k : Int) == 4) = false := by rw [beq_eq_false_iff_ne]; omega
  have h5 : ((k : Int) == 5) = false := by rw [beq_eq_false_iff_ne]; omega
  have h6 : ((k : Int) == 6) = false := by rw [beq_eq_false_iff_ne]; omega
  have hu : usesV k = .tuple #[.agg #[.bool false, .bool false, .bool false, .bool false], .bool false] := by
   unfold usesV
   rw [decide_eq_false (show ¬ (1 ≤ k ∧ k ≤ 4) by omega), decide_eq_false (show ¬ (k = 1) by omega), decide_eq_false (show ¬ (k = 2 ∨ k = 3) by omega), decide_eq_false (show ¬ (k = 5) by omega), decide_eq_false hk]
  rw [hu]
  clear hu hk
  go_enter Tryz.func66, Tryz.ntmps66
  go_wp2
  exact bodyPost_ret (v := .tuple #[.agg #[.bool false, .bool false, .bool false, .bool false], .bool false]) (by simp [results, Tryz.results66, go_sem]) rfl ⟨rfl, (Below.refl _ _).alloc (Nat.le_refl _) _⟩
theorem uses1 : usesV 1 = .tuple #[.agg #[.bool true, .bool true, .bool false, .bool false], .bool true] := by simp [usesV]
theorem uses2 : usesV 2 = .tuple #[.agg #[.bool true, .bool false, .bool true, .bool false], .bool true] := by simp [usesV]
theorem uses3 : usesV 3 = .tuple #[.agg #[.bool true, .bool false, .bool true, .bool false], .bool true] := by simp [usesV]
theorem uses4 : usesV 4 = .tuple #[.agg #[.bool true, .bool false, .bool false, .bool false], .bool true] := by simp [usesV]
theorem uses5 : usesV 5 = .tuple #[.agg #[.bool false, .bool false, .bool false, .bool true], .bool true] := by simp [usesV]
theorem uses6 : usesV 6 = .tuple #[.agg #[.bool false, .bool false, .bool false, .bool false], .bool true] := by simp [usesV]
theorem uses_no {k : Nat} (h : k < 1 ∨ 6 < k) : usesV k = .tuple #[.agg #[.bool false, .bool false, .bool false, .bool false], .bool false] := by
 unfold usesV
 rw [decide_eq_false (show ¬ (1 ≤ k ∧ k ≤ 4) by omega), decide_eq_false (show ¬ (k = 1) by omega), decide_eq_false (show ¬ (k = 2 ∨ k = 3) by omega), decide_eq_false (show ¬ (k = 5) by omega), decide_eq_false (show ¬ (1 ≤ k ∧ k ≤ 6) by omega)]
theorem ret_int {k : IntKind} {a b : Int} (h : a = b) : Ending.returned (.int k a) = .returned (.int k b) := by rw [h]
def nodeB (n : Int) : Bool := decide (0 ≤ n ∧ n ≤ 63)
theorem isNode_any (n : Int) (w : World) :
  Calls Tryz.prog 67 #[.int .i64 n] w fun e w' => e = .returned (.bool (nodeB n)) ∧ w' = w := by
 by_cases h : 0 ≤ n <;> by_cases h2 : n < 64
 all_goals
  go_enter Tryz.func67, Tryz.ntmps67
  go_wp2
  go_ret
  refine ⟨?_, rfl⟩
  congr 2
  simp [nodeB]
  omega
theorem store_float (P : Program) (x : Nat) (W : World) (a : Addr) : (store a (.float .f64 x)).run P W = stored P W a (.float .f64 x) .plain := run_store P W a _ _ rfl
theorem box8 {w : World} {b : Nat} {v0 v1 v2 v3 v4 v5 v6 v7 : Value} {T : TypeId} {f : Nat × Nat} (h : w.heap[b]? = some (.cells #[v0, v1, v2, v3, v4, v5, v6, v7] T f)) :
  w.cell? ⟨b, 0, none⟩ = some v0 ∧ w.cell? ⟨b, 1, none⟩ = some v1 ∧ w.cell? ⟨b, 2, none⟩ = some v2 ∧ w.cell? ⟨b, 3, none⟩ = some v3 ∧ w.cell? ⟨b, 4, none⟩ = some v4 ∧ w.cell? ⟨b, 5, none⟩ = some v5 ∧ w.cell? ⟨b, 6, none⟩ = some v6 ∧ w.cell? ⟨b, 7, none⟩ = some v7 := by
 refine ⟨?_, ?_, ?_, ?_, ?_, ?_, ?_, ?_⟩ <;> (rw [cell_of_row w b _ _ _ _ h]; rfl)
theorem b4cells {w : World} {b : Nat} {v0 v1 v2 v3 : Value} {T : TypeId} {f : Nat × Nat} (h : w.heap[b]? = some (.cells #[v0, v1, v2, v3] T f)) :
  w.cell? ⟨b, 0, none⟩ = some v0 ∧ w.cell? ⟨b, 1, none⟩ = some v1 ∧ w.cell? ⟨b, 2, none⟩ = some v2 ∧ w.cell? ⟨b, 3, none⟩ = some v3 := by
 refine ⟨?_, ?_, ?_, ?_⟩ <;> (rw [cell_of_row w b _ _ _ _ h]; rfl)
theorem key_len (key : ByteArray) : key.toList.length = key.size := by rw [ByteArray.toList_eq]; rfl
section
variable {wr : Int} {sq tm kd : Nat} {key : ByteArray} {text : List UInt8} {num : Nat} {node : Int} {m n : Nat}
end
theorem boxed (v : Array Value) (w : World) {W : World} (hW : Below (w.heap.size + 1) (w.alloc (.cells v 38)) W) : Below w.heap.size w W ∧
  W.heap[w.heap.size]? = some (.cells v 38 (0, 0)) ∧ w.heap.size < W.heap.size := by
 refine ⟨((Below.refl _ _).alloc (Nat.le_refl _) _).trans (hW.mono (by omega)), ?_, by have := hW.size; simp at this; omega⟩
 rw [hW.block w.heap.size (by omega)]
 exact heap_alloc_new w _
theorem shapes (kd : Nat) : (kd = 1 ∧ usesV kd = .tuple #[.agg #[.bool true, .bool true, .bool false, .bool false], .bool true]) ∨
  ((2 ≤ kd ∧ kd ≤ 4) ∧ ∃ b, usesV kd = .tuple #[.agg #[.bool true, .bool false, .bool b, .bool false], .bool true]) ∨
  (kd = 5 ∧ usesV kd = .tuple #[.agg #[.bool false, .bool false, .bool false, .bool true], .bool true]) ∨
  (kd = 6 ∧ usesV kd = .tuple #[.agg #[.bool false, .bool false, .bool false, .bool false], .bool true]) ∨
  ((kd < 1 ∨ 6 < kd) ∧ usesV kd = .tuple #[.agg #[.bool false, .bool false, .bool false, .bool false], .bool false]) := by
 rcases (show kd = 1 ∨ kd = 2 ∨ kd = 3 ∨ kd = 4 ∨ kd = 5 ∨ kd = 6 ∨ (kd < 1 ∨ 6 < kd) by omega) with rfl | rfl | rfl | rfl | rfl | rfl | hk
 ·exact .inl ⟨rfl, uses1⟩
 ·exact .inr (.inl ⟨by omega, _, uses2⟩)
 ·exact .inr (.inl ⟨by omega, _, uses3⟩)
 ·exact .inr (.inl ⟨by omega, _, uses4⟩)
 ·exact .inr (.inr (.inl ⟨rfl, uses5⟩))
 ·exact .inr (.inr (.inr (.inl ⟨rfl, uses6⟩)))
 ·exact .inr (.inr (.inr (.inr ⟨hk, uses_no hk⟩)))
abbrev RightSays (wr : Int) (sq tm kd : Nat) (key : ByteArray) (A : Option Addr) (n c : Nat) (num : Nat) (node : Int) (w : World) (r : Int) : Prop :=
 Calls Tryz.prog 36 #[.agg #[.int .i64 wr, .int .u64 (sq : Int), .int .u64 (tm : Int), .int .u8 (kd : Int), .string key, .slice A n c, .float .f64 num, .int .i64 node]] w fun e' w' => e' = .returned (.int .i64 r) ∧ Below w.heap.size w w'
section
variable {wr : Int} {sq tm kd : Nat} {key : ByteArray} {A : Option Addr} {n c : Nat} {num : Nat} {node : Int} {w : World}
theorem right_w (hw : nodeB wr = false) : RightSays wr sq tm kd key A n c num node w 1 := by
 go_enter Tryz.func36, Tryz.ntmps36
 go_wp2_with fail
 refine (fieldsOf_any _ _).mono ?_
 rintro e w1 ⟨rfl, hb⟩
 have h1 := boxed _ w (W := w1) (by simpa using hb)
 obtain ⟨c0, c1, c2, c3, c4, c5, c6, c7⟩ := box8 h1.2.1
 have hz := h1.2.2
 have h2 := Lib.hid h1
 clear h1 hb
 unfold usesV
 go_wp2_with fail
 refine (isNode_any _ _).mono ?_
 rintro e w ⟨rfl, rfl⟩
 go_wp2
 go_ret
 exact ⟨rfl, h2.out.1.alloc (Nat.le_of_lt hz) _⟩
theorem right_s (hw : nodeB wr = true) (hs : ((sq : Int) == 0) = true) : RightSays wr sq tm kd key A n c num node w 1 := by
 go_enter Tryz.func36, Tryz.ntmps36
 go_wp2_with fail
 refine (fieldsOf_any _ _).mono ?_
 rintro e w1 ⟨rfl, hb⟩
 have h1 := boxed _ w (W := w1) (by simpa using hb)
 obtain ⟨c0, c1, c2, c3, c4, c5, c6, c7⟩ := box8 h1.2.1
 have hz := h1.2.2
 have h2 := Lib.hid h1
 clear h1 hb
 unfold usesV
 go_wp2_with fail
 refine (isNode_any _ _).mono ?_
 rintro e w ⟨rfl, rfl⟩
 go_wp2
 go_ret
 exact ⟨rfl, h2.out.1.alloc (Nat.le_of_lt hz) _⟩
theorem right_t (hw : nodeB wr = true) (hs : ((sq : Int) == 0) = false) (ht : ((tm : Int) == 0) = true) : RightSays wr sq tm kd key A n c num node w 1 := by
 go_enter Tryz.func36, Tryz.ntmps36
 go_wp2_with fail
 refine (fieldsOf_any _ _).mono ?_
 rintro e w1 ⟨rfl, hb⟩
 have h1 := boxed _ w (W := w1) (by simpa using hb)
 obtain ⟨c0, c1, c2, c3, c4, c5, c6, c7⟩ := box8 h1.2.1
 have hz := h1.2.2
 have h2 := Lib.hid h1
 clear h1 hb
 unfold usesV
 go_wp2_with fail
 refine (isNode_any _ _).mono ?_
 rintro e w ⟨rfl, rfl⟩
 go_wp2
 go_ret
 exact ⟨rfl, h2.out.1.alloc (Nat.le_of_lt hz) _⟩
theorem right_k1 (b1 b2 b3 b4 : Bool) (hu : usesV kd = .tuple #[.agg #[.bool b1, .bool b2, .bool b3, .bool b4], .bool true]) (hw : nodeB wr = true) (hs : ((sq : Int) == 0) = false) (ht : ((tm : Int) == 0) = false) (h : b4 = true) (hn : nodeB node = false) : RightSays wr sq tm kd key A n c num node w 1 := by
 have HU := Lib.hid hu
 clear hu
 subst h
 go_enter Tryz.func36, Tryz.ntmps36
 go_wp2_with fail
 refine (fieldsOf_any _ _).mono ?_
 rintro e w1 ⟨rfl, hb⟩
 have h1 := boxed _ w (W := w1) (by simpa using hb)
 obtain ⟨c0, c1, c2, c3, c4, c5, c6, c7⟩ := box8 h1.2.1
 have hz := h1.2.2
 have h2 := Lib.hid h1
 clear h1 hb
 rw [HU.out]
 go_wp2_with fail
 refine (isNode_any _ _).mono ?_
 rintro e w ⟨rfl, rfl⟩
 go_wp2_with fail
 refine (isNode_any _ _).mono ?_
 rintro e w ⟨rfl, rfl⟩
 go_wp2
 go_ret
 exact ⟨rfl, h2.out.1.alloc (Nat.le_of_lt hz) _⟩
theorem right_k6 (b2 b3 b4 : Bool) (hu : usesV kd = .tuple #[.agg #[.bool true, .bool b2, .bool b3, .bool b4], .bool true]) (hw : nodeB wr = true) (hs : ((sq : Int) == 0) = false) (ht : ((tm : Int) == 0) = false) (hb4 : b4 = false) (hk : key.toList = []) (hk2 : key.toList.isEmpty = true) : RightSays wr sq tm kd key A n c num node w 6 := by
 have HU := Lib.hid hu
 clear hu
 subst hb4
 go_enter Tryz.func36, Tryz.ntmps36
 go_wp2_with fail
 refine (fieldsOf_any _ _).mono ?_
 rintro e w1 ⟨rfl, hb⟩
 have h1 := boxed _ w (W := w1) (by simpa using hb)
 obtain ⟨c0, c1, c2, c3, c4, c5, c6, c7⟩ := box8 h1.2.1
 have hz := h1.2.2
 have h2 := Lib.hid h1
 clear h1 hb
 rw [HU.out]
 go_wp2_with fail
 refine (isNode_any _ _).mono ?_
 rintro e w ⟨rfl, rfl⟩
 go_wp2
 go_ret
 exact ⟨rfl, h2.out.1.alloc (Nat.le_of_lt hz) _⟩
theorem right_kl (b2 b3 b4 : Bool) (hu : usesV kd = .tuple #[.agg #[.bool true, .bool b2, .bool b3, .bool b4], .bool true]) (hw : nodeB wr = true) (hs : ((sq : Int) == 0) = false) (ht : ((tm : Int) == 0) = false) (hb4 : b4 = false) (hk : ¬ key.toList = []) (hk2 : key.toList.isEmpty = false) (hl : key.size ≤ 9223372036854775807) (hl2 : 64 < key.size) : RightSays wr sq tm kd key A n c num node w 6 := by
 have HU := Lib.hid hu
 clear hu
 subst hb4
 go_enter Tryz.func36, Tryz.ntmps36
 go_wp2_with fail
 refine (fieldsOf_any _ _).mono ?_
 rintro e w1 ⟨rfl, hb⟩
 have h1 := boxed _ w (W := w1) (by simpa using hb)
 obtain ⟨c0, c1, c2, c3, c4, c5, c6, c7⟩ := box8 h1.2.1
 have hz := h1.2.2
 have h2 := Lib.hid h1
 clear h1 hb
 rw [HU.out]
 go_wp2_with fail
 refine (isNode_any _ _).mono ?_
 rintro e w ⟨rfl, rfl⟩
 go_wp2
 go_ret
 exact ⟨rfl, h2.out.1.alloc (Nat.le_of_lt hz) _⟩
def lim (sq tm : Nat) : Int := if 9223372036854775808 ≤ sq ∨ 9223372036854775808 ≤ tm then 8 else 0
theorem lim8 {sq tm : Nat} (h : 9223372036854775808 ≤ sq ∨ 9223372036854775808 ≤ tm) : lim sq tm = 8 := if_pos h
theorem lim0 {sq tm : Nat} (h : ¬ (9223372036854775808 ≤ sq ∨ 9223372036854775808 ≤ tm)) : lim sq tm = 0 := if_neg h
theorem right_no (hu : usesV kd = .tuple #[.agg #[.bool false, .bool false, .bool false, .bool false], .bool false]) (hw : nodeB wr = true) (hs : ((sq : Int) == 0) = false) (ht : ((tm : Int) == 0) = false) : RightSays wr sq tm kd key A n c num node w 1 := by
 have HU := Lib.hid hu
 clear hu
 go_enter Tryz.func36, Tryz.ntmps36
 go_wp2_with fail
 refine (fieldsOf_any _ _).mono ?_
 rintro e w1 ⟨rfl, hb⟩
 have h1 := boxed _ w (W := w1) (by simpa using hb)
 obtain ⟨c0, c1, c2, c3, c4, c5, c6, c7⟩ := box8 h1.2.1
 have hz := h1.2.2
 have h2 := Lib.hid h1
 clear h1 hb
 rw [HU.out]
 go_wp2_with fail
 refine (isNode_any _ _).mono ?_
 rintro e w ⟨rfl, rfl⟩
 go_wp2
 go_ret
 exact ⟨rfl, h2.out.1.alloc (Nat.le_of_lt hz) _⟩
theorem right_tl (hu : usesV kd = .tuple #[.agg #[.bool true, .bool true, .bool false, .bool false], .bool true]) (hw : nodeB wr = true) (hs : ((sq : Int) == 0) = false) (ht : ((tm : Int) == 0) = false) (hk : ¬ key.toList = []) (hk2 : key.toList.isEmpty = false) (hl : key.size ≤ 9223372036854775807) (hl2 : ¬ 64 < key.size) (hn : 1048576 < n) : RightSays wr sq tm kd key A n c num node w 6 := by
 have HU := Lib.hid hu
 clear hu
 go_enter Tryz.func36, Tryz.ntmps36
 go_wp2_with fail
 refine (fieldsOf_any _ _).mono ?_
 rintro e w1 ⟨rfl, hb⟩
 have h1 := boxed _ w (W := w1) (by simpa using hb)
 obtain ⟨c0, c1, c2, c3, c4, c5, c6, c7⟩ := box8 h1.2.1
 have hz := h1.2.2
 have h2 := Lib.hid h1
 clear h1 hb
 rw [HU.out]
 go_wp2_with fail
 refine (isNode_any _ _).mono ?_
 rintro e w ⟨rfl, rfl⟩
 go_wp2
 go_ret
 exact ⟨rfl, h2.out.1.alloc (Nat.le_of_lt hz) _⟩
theorem right_1 (hu : usesV kd = .tuple #[.agg #[.bool true, .bool true, .bool false, .bool false], .bool true]) (hw : nodeB wr = true) (hs : ((sq : Int) == 0) = false) (ht : ((tm : Int) == 0) = false) (hk : ¬ key.toList = []) (hk2 : key.toList.isEmpty = false) (hl : key.size ≤ 9223372036854775807) (hl2 : ¬ 64 < key.size) (hn : ¬ 1048576 < n) (s64 : sq < 18446744073709551616) (t64 : tm < 18446744073709551616) : RightSays wr sq tm kd key A n c num node w (lim sq tm) := by
 have HU := Lib.hid hu
 clear hu
 go_enter Tryz.func36, Tryz.ntmps36
 go_wp2_with fail
 refine (fieldsOf_any _ _).mono ?_
 rintro e w1 ⟨rfl, hb⟩
 have h1 := boxed _ w (W := w1) (by simpa using hb)
 obtain ⟨c0, c1, c2, c3, c4, c5, c6, c7⟩ := box8 h1.2.1
 have hz := h1.2.2
 have h2 := Lib.hid h1
 clear h1 hb
 rw [HU.out]
 go_wp2_with fail
 refine (isNode_any _ _).mono ?_
 rintro e w ⟨rfl, rfl⟩
 go_wp2
 all_goals
  go_ret
  refine ⟨ret_int ?_, h2.out.1.alloc (Nat.le_of_lt hz) _⟩
  first
   | exact (lim8 (by omega)).symm
   | exact (lim0 (by omega)).symm
theorem right_2 (b3 : Bool) (hu : usesV kd = .tuple #[.agg #[.bool true, .bool false, .bool b3, .bool false], .bool true]) (hw : nodeB wr = true) (hs : ((sq : Int) == 0) = false) (ht : ((tm : Int) == 0) = false) (hk : ¬ key.toList = []) (hk2 : key.toList.isEmpty = false) (hl : key.size ≤ 9223372036854775807) (hl2 : ¬ 64 < key.size) (s64 : sq < 18446744073709551616) (t64 : tm < 18446744073709551616) : RightSays wr sq tm kd key A n c num node w (lim sq tm) := by
 have HU := Lib.hid hu
 clear hu
 go_enter Tryz.func36, Tryz.ntmps36
 go_wp2_with fail
 refine (fieldsOf_any _ _).mono ?_
 rintro e w1 ⟨rfl, hb⟩
 have h1 := boxed _ w (W := w1) (by simpa using hb)
 obtain ⟨c0, c1, c2, c3, c4, c5, c6, c7⟩ := box8 h1.2.1
 have hz := h1.2.2
 have h2 := Lib.hid h1
 clear h1 hb
 rw [HU.out]
 go_wp2_with fail
 refine (isNode_any _ _).mono ?_
 rintro e w ⟨rfl, rfl⟩
 go_wp2
 all_goals
  go_ret
  refine ⟨ret_int ?_, h2.out.1.alloc (Nat.le_of_lt hz) _⟩
  first
   | exact (lim8 (by omega)).symm
   | exact (lim0 (by omega)).symm
theorem right_5 (hu : usesV kd = .tuple #[.agg #[.bool false, .bool false, .bool false, .bool true], .bool true]) (hw : nodeB wr = true) (hs : ((sq : Int) == 0) = false) (ht : ((tm : Int) == 0) = false) (hn : nodeB node = true) (s64 : sq < 18446744073709551616) (t64 : tm < 18446744073709551616) : RightSays wr sq tm kd key A n c num node w (lim sq tm) := by
 have HU := Lib.hid hu
 clear hu
 go_enter Tryz.func36, Tryz.ntmps36
 go_wp2_with fail
 refine (fieldsOf_any _ _).mono ?_
 rintro e w1 ⟨rfl, hb⟩
 have h1 := boxed _ w (W := w1) (by simpa using hb)
 obtain ⟨c0, c1, c2, c3, c4, c5, c6, c7⟩ := box8 h1.2.1
 have hz := h1.2.2
 have h2 := Lib.hid h1
 clear h1 hb
 rw [HU.out]
 go_wp2_with fail
 refine (isNode_any _ _).mono ?_
 rintro e w ⟨rfl, rfl⟩
 go_wp2_with fail
 refine (isNode_any _ _).mono ?_
 rintro e w ⟨rfl, rfl⟩
 go_wp2
 all_goals
  go_ret
  refine ⟨ret_int ?_, h2.out.1.alloc (Nat.le_of_lt hz) _⟩
  first
   | exact (lim8 (by omega)).symm
   | exact (lim0 (by omega)).symm
theorem right_6 (hu : usesV kd = .tuple #[.agg #[.bool false, .bool false, .bool false, .bool false], .bool true]) (hw : nodeB wr = true) (hs : ((sq : Int) == 0) = false) (ht : ((tm : Int) == 0) = false) (s64 : sq < 18446744073709551616) (t64 : tm < 18446744073709551616) : RightSays wr sq tm kd key A n c num node w (lim sq tm) := by
 have HU := Lib.hid hu
 clear hu
 go_enter Tryz.func36, Tryz.ntmps36
 go_wp2_with fail
 refine (fieldsOf_any _ _).mono ?_
 rintro e w1 ⟨rfl, hb⟩
 have h1 := boxed _ w (W := w1) (by simpa using hb)
 obtain ⟨c0, c1, c2, c3, c4, c5, c6, c7⟩ := box8 h1.2.1
 have hz := h1.2.2
 have h2 := Lib.hid h1
 clear h1 hb
 rw [HU.out]
 go_wp2_with fail
 refine (isNode_any _ _).mono ?_
 rintro e w ⟨rfl, rfl⟩
 go_wp2
 all_goals
  go_ret
  refine ⟨ret_int ?_, h2.out.1.alloc (Nat.le_of_lt hz) _⟩
  first
   | exact (lim8 (by omega)).symm
   | exact (lim0 (by omega)).symm
end
theorem rightE_bad {e : Ev} (h : (e.writer < 0 ∨ 63 < e.writer ∨ e.seq = 0 ∨ e.time = 0 ∨ e.kind < 1 ∨ 6 < e.kind) ∨ e.kind = 5 ∧ (e.node < 0 ∨ 63 < e.node)) : rightE e = 1 := by
 unfold rightE
 by_cases h1 : e.writer < 0 ∨ 63 < e.writer ∨ e.seq = 0 ∨ e.time = 0 ∨ e.kind < 1 ∨ 6 < e.kind
 ·rw [if_pos h1]
 ·rw [if_neg h1, if_pos (by omega)]
theorem rightE_long {e : Ev} (h1 : ¬ (e.writer < 0 ∨ 63 < e.writer ∨ e.seq = 0 ∨ e.time = 0 ∨ e.kind < 1 ∨ 6 < e.kind)) (h2 : ¬ (e.kind = 5 ∧ (e.node < 0 ∨ 63 < e.node))) (h : (e.kind ≤ 4 ∧ (e.key.size = 0 ∨ 64 < e.key.size)) ∨ e.kind = 1 ∧ 1048576 < e.text.length) : rightE e = 6 := by
 unfold rightE
 rw [if_neg h1, if_neg h2]
 by_cases h3 : e.kind ≤ 4 ∧ (e.key.size = 0 ∨ 64 < e.key.size)
 ·rw [if_pos h3]
 ·rw [if_neg h3, if_pos (by omega)]
theorem rightE_lim {e : Ev} (h1 : ¬ (e.writer < 0 ∨ 63 < e.writer ∨ e.seq = 0 ∨ e.time = 0 ∨ e.kind < 1 ∨ 6 < e.kind)) (h2 : ¬ (e.kind = 5 ∧ (e.node < 0 ∨ 63 < e.node))) (h3 : ¬ ((e.kind ≤ 4 ∧ (e.key.size = 0 ∨ 64 < e.key.size)) ∨ e.kind = 1 ∧ 1048576 < e.text.length)) : (rightE e : Int) = lim e.seq e.time := by
 unfold rightE lim
 rw [if_neg h1, if_neg h2, if_neg (by omega), if_neg (by omega)]
 split <;> rfl
theorem beq_zero {n : Nat} (h : n = 0) : ((n : Int) == 0) = true := by subst h; rfl
theorem beq_pos {n : Nat} (h : n ≠ 0) : ((n : Int) == 0) = false := by rw [beq_eq_false_iff_ne]; omega
theorem node_no {n : Int} (h : ¬ (0 ≤ n ∧ n ≤ 63)) : nodeB n = false := decide_eq_false h
theorem node_yes {n : Int} (h : 0 ≤ n ∧ n ≤ 63) : nodeB n = true := decide_eq_true h
theorem right_any (e : Ev) (A : Option Addr) (n c : Nat) (w : World) (hf : e.Fit) (hn : n = e.text.length) (hl : e.text.length ≤ 9223372036854775807) (hl2 : e.key.size ≤ 9223372036854775807) :
  Calls Tryz.prog 36 #[e.val A n c] w fun e' w' => e' = .returned (.int .i64 (rightE e : Int)) ∧ Below w.heap.size w w' := by
 show RightSays e.writer e.seq e.time e.kind e.key A n c e.num e.node w (rightE e : Int)
 have h64 := hf.s
 have t64 := hf.t
 subst hn
 by_cases hw : 0 ≤ e.writer ∧ e.writer ≤ 63
 case neg => rw [rightE_bad (e := e) (by omega)]; exact right_w (node_no hw)
 have hw' := node_yes hw
 by_cases hs : e.seq = 0
 case pos => rw [rightE_bad (e := e) (by omega)]; exact right_s hw' (beq_zero hs)
 have hs' := beq_pos hs
 by_cases ht : e.time = 0
 case pos => rw [rightE_bad (e := e) (by omega)]; exact right_t hw' hs' (beq_zero ht)
 have ht' := beq_pos ht
 have hkl := key_len e.key
 have hke : e.key.size = 0 ∨ (0 < e.key.size ∧ ¬ e.key.toList = [] ∧ e.key.toList.isEmpty = false) := by
  cases h : e.key.toList with
  | nil => left; rw [h, List.length_nil] at hkl; omega
  | cons x r => right; rw [h, List.length_cons] at hkl; exact ⟨by omega, by simp, rfl⟩
 have hk0 : e.key.size = 0 → e.key.toList = [] ∧ e.key.toList.isEmpty = true := fun h => by
  have : e.key.toList = [] := List.eq_nil_of_length_eq_zero (by omega)
  rw [this]; exact ⟨rfl, rfl⟩
 clear hkl
 rcases shapes e.kind with ⟨hk, hu⟩ | ⟨hk, b, hu⟩ | ⟨hk, hu⟩ | ⟨hk, hu⟩ | ⟨hk, hu⟩
 ·rcases hke with hke | ⟨hk1, hk2, hk3⟩
  ·rw [rightE_long (e := e) (by omega) (by omega) (by omega)]; exact right_k6 _ _ _ hu hw' hs' ht' rfl (hk0 hke).1 (hk0 hke).2
  ·by_cases hl3 : 64 < e.key.size
   ·rw [rightE_long (e := e) (by omega) (by omega) (by omega)]; exact right_kl _ _ _ hu hw' hs' ht' rfl hk2 hk3 hl2 hl3
   ·by_cases hn : 1048576 < e.text.length
    ·rw [rightE_long (e := e) (by omega) (by omega) (by omega)]; exact right_tl hu hw' hs' ht' hk2 hk3 hl2 hl3 hn
    ·rw [rightE_lim (e := e) (by omega) (by omega) (by omega)]; exact right_1 hu hw' hs' ht' hk2 hk3 hl2 hl3 hn h64 t64
 ·rcases hke with hke | ⟨hk1, hk2, hk3⟩
  ·rw [rightE_long (e := e) (by omega) (by omega) (by omega)]; exact right_k6 _ _ _ hu hw' hs' ht' rfl (hk0 hke).1 (hk0 hke).2
  ·by_cases hl3 : 64 < e.key.size
   ·rw [rightE_long (e := e) (by omega) (by omega) (by omega)]; exact right_kl _ _ _ hu hw' hs' ht' rfl hk2 hk3 hl2 hl3
   ·rw [rightE_lim (e := e) (by omega) (by omega) (by omega)]; exact right_2 _ hu hw' hs' ht' hk2 hk3 hl2 hl3 h64 t64
 ·by_cases hn : 0 ≤ e.node ∧ e.node ≤ 63
  ·rw [rightE_lim (e := e) (by omega) (by omega) (by omega)]; exact right_5 hu hw' hs' ht' (node_yes hn) h64 t64
  ·rw [rightE_bad (e := e) (by omega)]; exact right_k1 _ _ _ _ hu hw' hs' ht' rfl (node_no hn)
 ·rw [rightE_lim (e := e) (by omega) (by omega) (by omega)]; exact right_6 hu hw' hs' ht' h64 t64
 ·rw [rightE_bad (e := e) (by omega)]; exact right_no hu hw' hs' ht'
end Go.Proofs.YtinjbdgjcadodaaGreatDoor.Evt
namespace Go.Proofs.YtinjbdgjcadodaaGreatDoor.Evt
open Go Go.RowKit Words Enc Go.Proofs.YtinjbdgjcadodaaGreatDoor.Q Go.Proofs.YtinjbdgjcadodaaGreatDoor.Made
abbrev convW (W : World) (e : TypeId) (s : ByteArray) (c : Nat) : World := (W.alloc (.cells (bytesRow s c) e ((bytesRow s c).size, (bytesRow s c).size + 1))).drew
theorem conv_sees (W : World) (e : TypeId) (s : ByteArray) (c : Nat) : Sees (convW W e s c) (some ⟨W.heap.size, 0, none⟩) s.size s.data.toList ∧ Below W.heap.size W (convW W e s c) := by
 refine ⟨(sees_marked W e _ _ s.size s.data.toList rfl fun j u hu => ?_).drew, ((Below.refl _ _).alloc (Nat.le_refl _) _).drew⟩
 have hj : j < s.data.size := by have := (List.getElem?_eq_some_iff.1 hu).1; simpa using this
 unfold bytesRow
 rw [Array.getElem?_append_left (by simpa using hj)]
 simp only [Array.getElem?_map]
 rw [← Array.getElem?_toList, hu]
 rfl
set_option maxHeartbeats 2000000 in
theorem encode_any (e : Ev) (A : Option Addr) (n c : Nat) (w : World) (hs : Sees w A n e.text) (hq : e.num < 18446744073709551616) (hr : Right e) :
  Calls Tryz.prog 168 #[e.val A n c] w (New w.heap.size (evL e).length (evL e) w) := by
 obtain ⟨wr, sq, tm, kd, key, text, num, node⟩ := e
 unfold Ev.val
 simp only at hs hq ⊢
 obtain ⟨hw1, hw2, hs1, hs2, ht1, ht2, hk1, hk2, hnode, hkey, htext⟩ := hr
 simp only at hw1 hw2 hs1 hs2 ht1 ht2 hk1 hk2 hnode hkey htext
 obtain ⟨i, hi, hz, hsz, hby⟩ := info_parts info8
 obtain ⟨wn, rfl⟩ := Int.eq_ofNat_of_zero_le hw1
 obtain ⟨r, hr⟩ : ∃ r, r = evL ⟨wn, sq, tm, kd, key, text, num, node⟩ := ⟨_, rfl⟩
 rw [← hr]
 have HR := Lib.hid hr
 clear hr
 have HNODE := Lib.hid hnode
 have HKEY := Lib.hid hkey
 have HTEXT := Lib.hid htext
 clear hnode hkey htext
 have hwu : IntKind.u64.wrap (wn : Int) = (wn : Int) := wrap_in wn (by omega)
 have le1 := enc_ten (n := wn) (by omega)
 have le2 := enc_ten (n := sq) (by omega)
 have le3 := enc_ten (n := tm) (by omega)
 have hbx : ∀ W, Below (w.heap.size + 1) (w.alloc (.cells #[.int .i64 (wn : Int), .int .u64 (sq : Int), .int .u64 (tm : Int), .int .u8 (kd : Int), .string key, .slice A n c, .float .f64 num, .int .i64 node] 38)) W →
   W.heap[w.heap.size]? = some (.cells #[.int .i64 (wn : Int), .int .u64 (sq : Int), .int .u64 (tm : Int), .int .u8 (kd : Int), .string key, .slice A n c, .float .f64 num, .int .i64 node] 38 (0, 0)) ∧ Sees W A n text ∧ Below w.heap.size w W ∧ w.heap.size < W.heap.size := by
  intro W hW
  have h := boxed _ w hW
  exact ⟨h.2.1, hs.below h.1, h.1, h.2.2⟩
 have HBX := Lib.hid hbx
 clear hbx hs
 obtain ⟨m, hm⟩ : ∃ m, m = w.heap.size := ⟨_, rfl⟩
 have HM := Lib.hid hm
 clear hm
 go_enter Tryz.func168, Tryz.ntmps168
 go_wp2_with fail
 generalize hW0 : w.alloc (.cells #[.int .i64 (wn : Int), .int .u64 (sq : Int), .int .u64 (tm : Int), .int .u8 (kd : Int), .string key, .slice A n c, .float .f64 num, .int .i64 node] 38) = W0 at HBX ⊢
 have hz0 : w.heap.size + 1 ≤ W0.heap.size := by rw [← hW0]; simp
 clear hW0
 refine (lay_any none 0 0 [] _ W0 (Sees.nil _ _) (by omega) (by omega) (by omega)).mono ?_
 rintro e w1 ⟨A1, c1, rfl, hown1, hb1⟩
 rw [Int.toNat_natCast, List.nil_append, Nat.zero_add] at *
 have b1 := hb1.mono hz0
 obtain ⟨h0, -, -, -⟩ := HBX.out w1 b1
 obtain ⟨p0, p1, p2, p3, p4, p5, p6, p7⟩ := box8 h0
 clear h0 hb1
 go_wp2_with fail
 refine (lay_any A1 _ c1 (enc wn) _ w1 (Sees.of_own hown1) (by omega) (by omega) (by omega)).mono ?_
 rintro e w2 ⟨A2, c2, rfl, hown2, hb2⟩
 rw [Int.toNat_natCast] at *
 have b2 := b1.trans (hb2.mono (by have := b1.size; omega))
 obtain ⟨h0, -, -, -⟩ := HBX.out w2 b2
 clear p0 p1 p2 p3 p4 p5 p6 p7 hb2
 obtain ⟨p0, p1, p2, p3, p4, p5, p6, p7⟩ := box8 h0
 clear h0 hown1
 go_wp2_with fail
 refine (lay_any A2 _ c2 _ _ w2 (Sees.of_own hown2) (by omega) (by omega) (by omega)).mono ?_
 rintro e w3 ⟨A3, c3, rfl, hown3, hb3⟩
 rw [Int.toNat_natCast] at *
 have b3 := b2.trans (hb3.mono (by have := b2.size; omega))
 obtain ⟨h0, -, -, -⟩ := HBX.out w3 b3
 clear p0 p1 p2 p3 p4 p5 p6 p7 hb3
 obtain ⟨p0, p1, p2, p3, p4, p5, p6, p7⟩ := box8 h0
 have hown3' := Own.lower (base' := w.heap.size + 1) hown3 (by have := b2.size; omega)
 have hsz3 := b3.size
 clear h0 hown2 hown3 b2
 have hle : (enc wn).length + (enc sq).length + (enc tm).length ≤ 30 := by omega
 clear le1 le2 le3
 obtain ⟨L, hL⟩ : ∃ L, L = enc wn ++ enc sq ++ enc tm := ⟨_, rfl⟩
 rw [← hL] at hown3'
 have hlen : (enc wn).length + (enc sq).length + (enc tm).length = L.length := by rw [hL]; simp only [List.length_append]
 rw [hlen] at hown3' hle ⊢
 have HL := Lib.hid hL
 clear hL hlen
 go_wp2_with (first | (at_builtin; refine wpList_app rfl _ _ 28 rfl (w.heap.size + 1) 5 i (.int .u8 0) Tryz.underlying28 hi hz hsz hby rfl A3 L.length c3 _ rfl (hown3'.alloc _) _ 1 1 [b8 kd] rfl (Sees.fresh w3 _ _ _ ?e1) ?e2 ?e3 ?_))
 case e1 => rw [b8_toNat]; omega
 case e2 => omega
 case e3 => have := b3.size; simp; omega
 intro A4 c4 w4 hown4 hb4
 have b4 : Below (w.heap.size + 1) W0 w4 := (b3.alloc (by omega) _).trans hb4
 obtain ⟨h0, -, -, -⟩ := HBX.out w4 b4
 clear p0 p1 p2 p3 p4 p5 p6 p7 b3 hown3' hb4
 obtain ⟨p0, p1, p2, p3, p4, p5, p6, p7⟩ := box8 h0
 clear h0
 have hsz4 := b4.size
 obtain ⟨L5, hL5⟩ : ∃ L5, L5 = L ++ [b8 kd] := ⟨_, rfl⟩
 rw [← hL5] at hown4
 have hlen5 : L.length + 1 = L5.length := by rw [hL5]; simp
 rw [hlen5] at hown4 ⊢
 have hle5 : L5.length ≤ 31 := by omega
 have HL5 := Lib.hid hL5
 clear hL5 hlen5 hle
 have hP := Sees.of_own hown4
 have HOWN := Lib.hid hown4
 clear hown4
 go_wp2_with fail
 refine (fieldsOf_any _ _).mono ?_
 rintro e w5 ⟨rfl, hb5⟩
 have b5 := b4.trans (hb5.mono (by omega))
 have hsz5 := b5.size
 have hf : ∀ (b1 b2 b3 b4 : Bool) (W : World), Below (w5.heap.size + 1) (w5.alloc (.cells #[.bool b1, .bool b2, .bool b3, .bool b4] 137)) W →
   W.heap[w5.heap.size]? = some (.cells #[.bool b1, .bool b2, .bool b3, .bool b4] 137 (0, 0)) ∧
   W.heap[w.heap.size]? = some (.cells #[.int .i64 (wn : Int), .int .u64 (sq : Int), .int .u64 (tm : Int), .int .u8 (kd : Int), .string key, .slice A n c, .float .f64 num, .int .i64 node] 38 (0, 0)) ∧ Sees W A n text ∧ Below w.heap.size w W ∧ w5.heap.size < W.heap.size ∧ Sees W A4 L5.length L5 := by
  intro b1 b2 b3 b4 W hW
  have hA := ((Below.refl _ _).alloc (Nat.le_refl w5.heap.size) (.cells #[.bool b1, .bool b2, .bool b3, .bool b4] 137)).trans (hW.mono (by omega))
  obtain ⟨h1, h2, h3, h4⟩ := HBX.out W (b5.trans (hA.mono (by omega)))
  refine ⟨?_, h1, h2, h3, ?_, (hP.below hb5).below hA⟩
  ·rw [hW.block w5.heap.size (by omega)]
   exact heap_alloc_new w5 _
  ·have := hW.size; simp at this; omega
 have HF := Lib.hid hf
 clear hf
 obtain ⟨h0, -, -, -⟩ := HBX.out w5 b5
 clear p0 p1 p2 p3 p4 p5 p6 p7
 obtain ⟨p0, p1, p2, p3, p4, p5, p6, p7⟩ := box8 h0
 have OWN5 := Lib.hid (Own.lower (base' := w.heap.size) (Own.below HOWN.out hb5 (Nat.le_refl _)) (by omega))
 clear h0 hb5 hP b4 b5 HBX HOWN
 have hlt5 : w.heap.size < w5.heap.size := by omega
 have HCV := Lib.hid (fun W => run_bytes_of_string (P := Tryz.prog) W 9 28 5 key Tryz.underlying9 Tryz.underlying28 Tryz.underlying5)
 have hsz : w.heap.size < w5.heap.size + 1 := by omega
 have fin : ∀ (W : World) (B : Option Addr) (N k : Nat) (l : List UInt8), W.ownsRow w.heap.size 5 1 (.slice B N k) N (cs l) → Below w.heap.size w W → l = r → New w.heap.size r.length r w (.returned (.slice B N k)) W := by
  intro W B N k l h1 h2 h3
  subst h3
  have hN : N = l.length := by have := h1.1; rw [cs_length] at this; omega
  subst hN
  exact ⟨B, k, rfl, h1, h2⟩
 have FIN := Lib.hid fin
 clear fin
 rcases (show kd = 1 ∨ (kd = 2 ∨ kd = 3) ∨ kd = 4 ∨ kd = 5 ∨ kd = 6 by omega) with hk | hk | hk | hk | hk
 ·rw [hk, uses1]
  have HK := Lib.hid hk
  clear hk hk1 hk2
  have HF1 := Lib.hid (HF.out true true false false)
  clear HF
  have hcv := HCV.out
  go_wp2_with fail
  clear hcv
  generalize hF1 : w5.alloc (.cells #[.bool true, .bool true, .bool false, .bool false] 137) = F1 at HF1 ⊢
  have hz6 : F1.heap.size = w5.heap.size + 1 := by rw [← hF1]; simp
  clear hF1
  have hk6 := HKEY.out (by rw [HK.out]; omega)
  have cs := conv_sees F1 5 key (grownCap F1 key.size 0 5)
  rw [hz6] at cs
  have hp6 := HF1.out _ (cs.2)
  refine (layText_any A4 _ c4 L5 _ key.size (grownCap F1 key.size 0 5) key.data.toList _ hp6.2.2.2.2.2 cs.1 (by omega) (by omega)).mono ?_
  rintro e w6 ⟨A6, c6, rfl, hown6, hb6⟩
  have b6 := cs.2.trans (hb6.mono (by have := cs.2.size; omega))
  have h6 := HF1.out w6 b6
  obtain ⟨q0, q1, q2, q3⟩ := b4cells h6.1
  clear p0 p1 p2 p3 p4 p5 p6 p7
  obtain ⟨p0, p1, p2, p3, p4, p5, p6, p7⟩ := box8 h6.2.1
  have hown := Own.lower (base' := w.heap.size) hown6 (by have := cs.2.size; omega)
  have hlek := enc_ten (n := key.size) (by omega)
  have hsz6 : w5.heap.size + 1 ≤ w6.heap.size := by have := h6.2.2.2.2.1; omega
  have H6 := Lib.hid h6
  clear h6 hp6 cs hown6 hb6
  have ht6 := HTEXT.out HK.out
  have htn := H6.out.2.2.1.1
  go_wp2_with fail
  refine (layText_any A6 _ c6 _ A n c text w6 (Sees.of_own hown) H6.out.2.2.1 (by omega) (by omega)).mono ?_
  rintro e w7 ⟨A7, c7, rfl, hown7, hb7⟩
  have b7 := b6.trans (hb7.mono hsz6)
  have h7 := HF1.out w7 b7
  clear q0 q1 q2 q3
  obtain ⟨q0, q1, q2, q3⟩ := b4cells h7.1
  have OWN := Lib.hid (Own.lower (base' := w.heap.size) hown7 (by omega))
  have BEL := Lib.hid h7.2.2.2.1
  have HTN := Lib.hid htn
  clear hown7 hb7 h7 htn
  go_wp2
  go_ret
  exact FIN.out _ _ _ _ _ OWN.out BEL.out (by rw [HR.out, HL5.out, HL.out, evL_set HK.out, HTN.out, Int.toNat_natCast])
 ·obtain ⟨b, hu⟩ : ∃ b, usesV kd = .tuple #[.agg #[.bool true, .bool false, .bool true, .bool false], .bool b] := by
   rcases hk with rfl | rfl
   ·exact ⟨_, uses2⟩
   ·exact ⟨_, uses3⟩
  rw [hu]
  have HK' := Lib.hid hk
  have HK := Lib.hid (show kd ≤ 4 ∧ kd ≠ 1 ∧ kd ≠ 5 by omega)
  clear hk hk1 hk2 hu
  have HF1 := Lib.hid (HF.out true false true false)
  clear HF
  have hcv := HCV.out
  go_wp2_with fail
  clear hcv
  generalize hF1 : w5.alloc (.cells #[.bool true, .bool false, .bool true, .bool false] 137) = F1 at HF1 ⊢
  have hz6 : F1.heap.size = w5.heap.size + 1 := by rw [← hF1]; simp
  clear hF1
  have hk6 := HKEY.out HK.out.1
  have cs := conv_sees F1 5 key (grownCap F1 key.size 0 5)
  rw [hz6] at cs
  have hp6 := HF1.out _ (cs.2)
  refine (layText_any A4 _ c4 L5 _ key.size (grownCap F1 key.size 0 5) key.data.toList _ hp6.2.2.2.2.2 cs.1 (by omega) (by omega)).mono ?_
  rintro e w6 ⟨A6, c6, rfl, hown6, hb6⟩
  have b6 := cs.2.trans (hb6.mono (by have := cs.2.size; omega))
  have h6 := HF1.out w6 b6
  obtain ⟨q0, q1, q2, q3⟩ := b4cells h6.1
  clear p0 p1 p2 p3 p4 p5 p6 p7
  obtain ⟨p0, p1, p2, p3, p4, p5, p6, p7⟩ := box8 h6.2.1
  have hown := Own.lower (base' := w.heap.size) hown6 (by have := cs.2.size; omega)
  have hlek := enc_ten (n := key.size) (by omega)
  have hsz6 : w5.heap.size + 1 ≤ w6.heap.size := by have := h6.2.2.2.2.1; omega
  have H6 := Lib.hid h6
  clear h6 hp6 cs hown6 hb6
  have hql := qb_lt num hq
  go_wp2_with fail
  refine (bits_any _ _).mono ?_
  rintro e w6 ⟨rfl, rfl⟩
  go_wp2_with fail
  refine (layFixed_any A6 _ c6 _ _ w6 (Sees.of_own hown) (by omega) (by omega) (by omega)).mono ?_
  rintro e w7 ⟨A7, c7, rfl, hown7, hb7⟩
  rw [Int.toNat_natCast] at hown7
  have b7 := b6.trans (hb7.mono hsz6)
  have h7 := HF1.out w7 b7
  clear q0 q1 q2 q3
  obtain ⟨q0, q1, q2, q3⟩ := b4cells h7.1
  have OWN := Lib.hid (Own.lower (base' := w.heap.size) hown7 (by omega))
  have BEL := Lib.hid h7.2.2.2.1
  clear hown7 hb7 h7
  go_wp2
  go_ret
  exact FIN.out _ _ _ _ _ OWN.out BEL.out (by rw [HR.out, HL5.out, HL.out, evL_num HK'.out, Int.toNat_natCast])
 ·rw [hk, uses4]
  have HK := Lib.hid hk
  clear hk hk1 hk2
  have HF1 := Lib.hid (HF.out true false false false)
  clear HF
  have hcv := HCV.out
  go_wp2_with fail
  clear hcv
  generalize hF1 : w5.alloc (.cells #[.bool true, .bool false, .bool false, .bool false] 137) = F1 at HF1 ⊢
  have hz6 : F1.heap.size = w5.heap.size + 1 := by rw [← hF1]; simp
  clear hF1
  have hk6 := HKEY.out (by rw [HK.out]; omega)
  have cs := conv_sees F1 5 key (grownCap F1 key.size 0 5)
  rw [hz6] at cs
  have hp6 := HF1.out _ (cs.2)
  refine (layText_any A4 _ c4 L5 _ key.size (grownCap F1 key.size 0 5) key.data.toList _ hp6.2.2.2.2.2 cs.1 (by omega) (by omega)).mono ?_
  rintro e w6 ⟨A6, c6, rfl, hown6, hb6⟩
  have b6 := cs.2.trans (hb6.mono (by have := cs.2.size; omega))
  have h6 := HF1.out w6 b6
  obtain ⟨q0, q1, q2, q3⟩ := b4cells h6.1
  clear p0 p1 p2 p3 p4 p5 p6 p7
  obtain ⟨p0, p1, p2, p3, p4, p5, p6, p7⟩ := box8 h6.2.1
  have hown := Own.lower (base' := w.heap.size) hown6 (by have := cs.2.size; omega)
  have hlek := enc_ten (n := key.size) (by omega)
  have hsz6 : w5.heap.size + 1 ≤ w6.heap.size := by have := h6.2.2.2.2.1; omega
  have H6 := Lib.hid h6
  clear h6 hp6 cs hown6 hb6
  have OWN := Lib.hid hown
  clear hown
  go_wp2
  go_ret
  exact FIN.out _ _ _ _ _ OWN.out H6.out.2.2.2.1 (by rw [HR.out, HL5.out, HL.out, evL_drop HK.out, Int.toNat_natCast])
 ·rw [hk, uses5]
  have HK := Lib.hid hk
  clear hk hk1 hk2
  have HF1 := Lib.hid (HF.out false false false true)
  clear HF
  obtain ⟨hn1, hn2⟩ := HNODE.out HK.out
  obtain ⟨nn, rfl⟩ := Int.eq_ofNat_of_zero_le hn1
  have hnu : IntKind.u64.wrap (nn : Int) = (nn : Int) := wrap_in nn (by omega)
  have h5 := HF1.out _ (Below.refl _ _)
  go_wp2_with fail
  refine (lay_any A4 _ c4 L5 _ _ h5.2.2.2.2.2 (by omega) (by omega) (by omega)).mono ?_
  rintro e w6 ⟨A6, c6, rfl, hown6, hb6⟩
  rw [Int.toNat_natCast] at hown6 ⊢
  have h6 := HF1.out w6 (by simpa using hb6)
  have OWN := Lib.hid (Own.lower (base' := w.heap.size) hown6 (by simp; omega))
  have BEL := Lib.hid h6.2.2.2.1
  clear hown6 hb6 h6 h5
  go_wp2
  go_ret
  exact FIN.out _ _ _ _ _ OWN.out BEL.out (by rw [HR.out, HL5.out, HL.out, evL_join HK.out, Int.toNat_natCast, Int.toNat_natCast])
 ·rw [hk, uses6]
  have HK := Lib.hid hk
  clear hk hk1 hk2
  have HF1 := Lib.hid (HF.out false false false false)
  clear HF
  have h5 := HF1.out _ (Below.refl _ _)
  have BEL := Lib.hid h5.2.2.2.1
  have OWN := Lib.hid (OWN5.out.alloc (.cells #[.bool false, .bool false, .bool false, .bool false] 137))
  clear h5
  go_wp2
  go_ret
  exact FIN.out _ _ _ _ _ OWN.out BEL.out (by rw [HR.out, HL5.out, HL.out, evL_retire HK.out, Int.toNat_natCast])
end Go.Proofs.YtinjbdgjcadodaaGreatDoor.Evt
namespace Go.Proofs.YtinjbdgjcadodaaGreatDoor.Evt
open Go Go.RowKit Words Enc Go.Proofs.YtinjbdgjcadodaaGreatDoor.Q
def PlainNew (e : Ev) (w : World) (e' : Ending) (w' : World) : Prop :=
 ∃ A' n' c', e' = .returned ((plainE e).val A' n' c') ∧ Sees w' A' n' (plainE e).text ∧ n' ≤ c' ∧ c' ≤ 9223372036854775807 ∧ Below w.heap.size w w' ∧ (0 < n' → ∀ a, A' = some a → w.heap.size ≤ a.block)
theorem boxes3 (a b c : Array Value) (T : TypeId) (w : World) {W : World} (hW : Below (w.heap.size + 3) (((w.alloc (.cells a T)).alloc (.cells b T)).alloc (.cells c T)) W) :
  W.heap[w.heap.size]? = some (.cells a T (0, 0)) ∧ W.heap[w.heap.size + 1]? = some (.cells b T (0, 0)) ∧ W.heap[w.heap.size + 1 + 1]? = some (.cells c T (0, 0)) ∧ Below w.heap.size w W ∧ w.heap.size + 3 ≤ W.heap.size := by
 have b0 := (((Below.refl w.heap.size w).alloc (Nat.le_refl _) (.cells a T)).alloc (by simp) (.cells b T)).alloc (by simp; omega) (.cells c T)
 refine ⟨?_, ?_, ?_, b0.trans (hW.mono (by omega)), by have := hW.size; simp at this; omega⟩
 ·rw [hW.block w.heap.size (by omega), Below.heap_alloc _ _ _ (by simp; omega), Below.heap_alloc _ _ _ (by simp)]
  exact heap_alloc_new w _
 ·rw [hW.block (w.heap.size + 1) (by omega), Below.heap_alloc _ _ _ (by simp)]
  have := heap_alloc_new (w.alloc (.cells a T)) (.cells b T)
  simpa using this
 ·rw [hW.block (w.heap.size + 1 + 1) (by omega)]
  have := heap_alloc_new ((w.alloc (.cells a T)).alloc (.cells b T)) (.cells c T)
  simpa using this
set_option maxHeartbeats 2000000 in
theorem plain_new (e : Ev) (A : Option Addr) (n c : Nat) (w : World) (hs : Sees w A n e.text) (hn : n ≤ 1000000000) :
  Calls Tryz.prog 39 #[e.val A n c] w (PlainNew e w) := by
 obtain ⟨wr, sq, tm, kd, key, text, num, node⟩ := e
 show Calls _ _ #[.agg (Ev.row _ A n c)] _ _
 unfold Ev.row
 simp only at hs ⊢
 have hsf := store_float Tryz.prog
 go_enter Tryz.func39, Tryz.ntmps39
 go_wp2_with fail
 have hbx : ∀ W, Below (w.heap.size + 3) (((w.alloc (.cells #[.int .i64 wr, .int .u64 (sq : Int), .int .u64 (tm : Int), .int .u8 (kd : Int), .string key, .slice A n c, .float .f64 num, .int .i64 node] 38)).alloc (.cells #[.int .i64 0, .int .u64 0, .int .u64 0, .int .u8 0, .string ⟨#[]⟩, .slice none 0 0, .float .f64 0, .int .i64 0] 38)).alloc (.cells #[.int .i64 wr, .int .u64 (sq : Int), .int .u64 (tm : Int), .int .u8 (kd : Int), .string ⟨#[]⟩, .slice none 0 0, .float .f64 0, .int .i64 0] 38)) W → _ := fun W hW => boxes3 _ _ _ _ w hW
 have HBX := Lib.hid hbx
 clear hbx
 generalize hW0 : ((w.alloc (.cells #[.int .i64 wr, .int .u64 (sq : Int), .int .u64 (tm : Int), .int .u8 (kd : Int), .string key, .slice A n c, .float .f64 num, .int .i64 node] 38)).alloc (.cells #[.int .i64 0, .int .u64 0, .int .u64 0, .int .u8 0, .string ⟨#[]⟩, .slice none 0 0, .float .f64 0, .int .i64 0] 38)).alloc (.cells #[.int .i64 wr, .int .u64 (sq : Int), .int .u64 (tm : Int), .int .u8 (kd : Int), .string ⟨#[]⟩, .slice none 0 0, .float .f64 0, .int .i64 0] 38) = W0 at HBX ⊢
 have hz0 : w.heap.size + 3 ≤ W0.heap.size := by rw [← hW0]; simp
 clear hW0
 refine (fieldsOf_any _ _).mono ?_
 rintro e w2 ⟨rfl, hb⟩
 obtain ⟨g0, g1, g2, bel, hsz⟩ := HBX.out w2 (hb.mono hz0)
 obtain ⟨p0, p1, p2, p3, p4, p5, p6, p7⟩ := box8 g0
 obtain ⟨q0, q1, q2, q3, q4, q5, q6, q7⟩ := box8 g2
 clear q0 q1 q2 q3
 have y4 := frozen_row0 (i := 4) g2
 have y5 := frozen_row0 (i := 5) g2
 have y6 := frozen_row0 (i := 6) g2
 have y7 := frozen_row0 (i := 7) g2
 have hz1 : w.heap.size < w2.heap.size := by omega
 have hz2 : w.heap.size + 1 < w2.heap.size := by omega
 have hz3 : w.heap.size + 1 + 1 < w2.heap.size := by omega
 have G := Lib.hid (And.intro g0 (And.intro g1 g2))
 have BEL := Lib.hid bel
 have HS := Lib.hid hs
 have HSZ := Lib.hid hsz
 clear g0 g1 g2 bel hs HBX hb hz0 hsz
 have fin : ∀ (v : Value) (W : World) (A' : Option Addr) (n' c' : Nat), v = (plainE ⟨wr, sq, tm, kd, key, text, num, node⟩).val A' n' c' → Sees W A' n' (plainE ⟨wr, sq, tm, kd, key, text, num, node⟩).text → n' ≤ c' → c' ≤ 9223372036854775807 → Below w.heap.size w W → (0 < n' → ∀ a, A' = some a → w.heap.size ≤ a.block) → PlainNew ⟨wr, sq, tm, kd, key, text, num, node⟩ w (.returned v) W :=
  fun v W A' n' c' h1 h2 h3 h4 h5 h6 => ⟨A', n', c', by rw [h1], h2, h3, h4, h5, h6⟩
 have FIN := Lib.hid fin
 clear fin
 have hcase : kd = 1 ∨ (kd = 2 ∨ kd = 3) ∨ kd = 4 ∨ kd = 5 ∨ (kd < 1 ∨ 5 < kd) := by omega
 rcases hcase with hk | hk | hk | hk | hk
 ·rw [hk, uses1]
  have HK := Lib.hid hk
  clear hk
  go_wp2_with fail
  have bA : Below w.heap.size w ((w2.setCell ⟨w.heap.size + 1 + 1, 4, none⟩ (.string key)).alloc (.cells #[.bool true, .bool true, .bool false, .bool false] 137)) := (BEL.out.setCell (by simp; omega) _).alloc (by simp; omega) _
  have gf : ((w2.setCell ⟨w.heap.size + 1 + 1, 4, none⟩ (.string key)).alloc (.cells #[.bool true, .bool true, .bool false, .bool false] 137)).heap[w2.heap.size]? = some (.cells #[.bool true, .bool true, .bool false, .bool false] 137 (0, 0)) := by
   have := heap_alloc_new (w2.setCell ⟨w.heap.size + 1 + 1, 4, none⟩ (.string key)) (.cells #[.bool true, .bool true, .bool false, .bool false] 137)
   simpa using this
  have gb : ((w2.setCell ⟨w.heap.size + 1 + 1, 4, none⟩ (.string key)).alloc (.cells #[.bool true, .bool true, .bool false, .bool false] 137)).heap[w.heap.size + 1]? = some (.cells #[.int .i64 0, .int .u64 0, .int .u64 0, .int .u8 0, .string ⟨#[]⟩, .slice none 0 0, .float .f64 0, .int .i64 0] 38 (0, 0)) := by
   rw [Below.heap_alloc _ _ _ (by first | omega | simpa using hz2), heapOther (by omega)]; exact G.out.2.1
  have gc : ((w2.setCell ⟨w.heap.size + 1 + 1, 4, none⟩ (.string key)).alloc (.cells #[.bool true, .bool true, .bool false, .bool false] 137)).heap[w.heap.size + 1 + 1]? = some (.cells #[.int .i64 wr, .int .u64 (sq : Int), .int .u64 (tm : Int), .int .u8 (kd : Int), .string key, .slice none 0 0, .float .f64 0, .int .i64 0] 38 (0, 0)) := by
   rw [Below.heap_alloc _ _ _ (by first | omega | simpa using hz3)]
   exact (heapSame G.out.2.2).trans rfl
  have hsA := HS.out.below bA
  generalize hWA : (w2.setCell ⟨w.heap.size + 1 + 1, 4, none⟩ (.string key)).alloc (.cells #[.bool true, .bool true, .bool false, .bool false] 137) = WA at bA gf gb gc hsA ⊢
  clear hWA
  have hzA : w2.heap.size < WA.heap.size := (Array.getElem?_eq_some_iff.1 gf).1
  refine (Take.clone_any A n c text WA hsA hn).mono ?_
  rintro e w3 ⟨A', c', rfl, hown, hb3⟩
  have hcp := (Own.cap hown).1
  go_wp2_with fail
  refine (Take.clip_any A' n c' w3 hcp hn).mono ?_
  rintro e w3 ⟨rfl, rfl⟩
  clear hcp
  clear p0 p1 p2 p3 p4 p5 p6 p7 q4 q5 q6 q7 y4 y5 y6 y7
  have kf := (hb3.block w2.heap.size hzA).trans gf
  have kb := (hb3.block (w.heap.size + 1) (by omega)).trans gb
  have kc := (hb3.block (w.heap.size + 1 + 1) (by omega)).trans gc
  obtain ⟨f0, f1, f2, f3⟩ := b4cells kf
  have q5 : w3.cell? ⟨w.heap.size + 1 + 1, 5, none⟩ = _ := (box8 kc).2.2.2.2.2.1
  have y5 := frozen_row0 (i := 5) kc
  have hne2 : ¬ w.heap.size + 1 + 1 = w2.heap.size := by omega
  have hne1 : ¬ w2.heap.size = w.heap.size + 1 + 1 := by omega
  have b3 := bA.trans (hb3.mono (by omega))
  have HKB := Lib.hid kb
  have HKC := Lib.hid kc
  have HB3 := Lib.hid b3
  have HO := Lib.hid (And.intro hown hb3.size)
  have HZA := Lib.hid hzA
  clear kf kb kc gf gb gc hb3 hown bA hsA b3 hzA
  go_wp2_with (first
   | (refine wpList_getRow rfl 38 (.tmp 3) rfl (w.heap.size + 1 + 1) 38 #[.int .i64 wr, .int .u64 (sq : Int), .int .u64 (tm : Int), .int .u8 (kd : Int), .string key, .slice A' n n, .float .f64 0, .int .i64 0] (0, 0) _ rfl ?g1 Tryz.underlying38 rfl (by kernel_rfl) ?_)
   | (refine wpList_putRow rfl 38 (.tmp 2) (.tmp 44) rfl (w.heap.size + 1) 38 #[.int .i64 0, .int .u64 0, .int .u64 0, .int .u8 0, .string ⟨#[]⟩, .slice none 0 0, .float .f64 0, .int .i64 0] #[.int .i64 wr, .int .u64 (sq : Int), .int .u64 (tm : Int), .int .u8 (kd : Int), .string key, .slice A' n n, .float .f64 0, .int .i64 0] rfl rfl ?g2 (by kernel_rfl) rfl (by simp [Value.oneCell']) ?_))
  case g1 => exact (heapSame HKC.out).trans rfl
  case g2 => rw [heapOther (by omega)]; exact HKB.out
  intro W' hW' hbe
  have BB : Hid (Below w.heap.size w W') := Lib.hid (Below.beside (HB3.out.setCell (by simp; omega) _) hbe (by have := HB3.out.size; simp; first | omega | (simp; omega)) (by simp))
  have TX : Hid (Sees W' A' n text) := Lib.hid (by
   have hzA := HZA.out
   have ho := HO.out.1
   have h5 := (Sees.of_own ho).beside ((Beside.refl [w.heap.size + 1 + 1] w3).setCell (p := ⟨w.heap.size + 1 + 1, 5, none⟩) (by simp) (.slice A' n n)) (Out.of_own ho (by simp; omega))
   exact h5.beside hbe (Out.of_own ho (by simp; omega)))
  obtain ⟨k0, k1, k2, k3, k4, k5, k6, k7⟩ := box8 hW'
  clear hbe hW'
  go_wp2
  refine bodyPost_ret (v := .agg #[.int .i64 wr, .int .u64 (sq : Int), .int .u64 (tm : Int), .int .u8 (kd : Int), .string key, .slice A' n n, .float .f64 0, .int .i64 0]) ?_ rfl (FIN.out _ _ A' n n ?_ ?_ (Nat.le_refl _) (Nat.le_trans (Own.cap HO.out.1).1 (Own.cap HO.out.1).2) BB.out (fun h0 a ha => by obtain ⟨g, hg, hge⟩ := Own.at_ HO.out.1 h0; rw [hg] at ha; cases ha; have := HB3.out.size; have := HZA.out; have := HSZ.out; show _ ≤ g; omega))
  ·simp [results, Tryz.results39, go_sem, k0, k1, k2, k3, k4, k5, k6, k7]
  ·have hk := HK.out
   simp [plainE, Ev.val, hk]
  ·have hk := HK.out
   have : (plainE ⟨wr, sq, tm, kd, key, text, num, node⟩).text = text := by simp [plainE, hk]
   rw [this]
   exact TX.out
 ·have hu : ∃ b, usesV kd = .tuple #[.agg #[.bool true, .bool false, .bool true, .bool false], .bool b] := by
   rcases hk with rfl | rfl
   ·exact ⟨_, uses2⟩
   ·exact ⟨_, uses3⟩
  obtain ⟨b, hu⟩ := hu
  rw [hu]
  have HK := Lib.hid hk
  clear hk hu
  go_wp2_with fail
  refine (plainQ_any _ _).mono ?_
  rintro e w3 ⟨rfl, rfl⟩
  go_wp2_with (first
   | (refine wpList_getRow rfl 38 (.tmp 3) rfl (w.heap.size + 1 + 1) 38 #[.int .i64 wr, .int .u64 (sq : Int), .int .u64 (tm : Int), .int .u8 (kd : Int), .string key, .slice none 0 0, .float .f64 (qb num), .int .i64 0] (0, 0) _ rfl ?g1 Tryz.underlying38 rfl (by kernel_rfl) ?_)
   | (refine wpList_putRow rfl 38 (.tmp 2) (.tmp 44) rfl (w.heap.size + 1) 38 #[.int .i64 0, .int .u64 0, .int .u64 0, .int .u8 0, .string ⟨#[]⟩, .slice none 0 0, .float .f64 0, .int .i64 0] #[.int .i64 wr, .int .u64 (sq : Int), .int .u64 (tm : Int), .int .u8 (kd : Int), .string key, .slice none 0 0, .float .f64 (qb num), .int .i64 0] rfl rfl ?g2 (by kernel_rfl) rfl (by simp [Value.oneCell']) ?_))
  case g1 => rw [Below.heap_alloc _ _ _ (by first | omega | simpa using hz3)]; exact (heapSame (heapSame (G.out.2.2))).trans rfl
  case g2 => rw [Below.heap_alloc _ _ _ (by first | omega | simpa using hz2)]; rw [heapOther (by omega)]; rw [heapOther (by omega)]; exact G.out.2.1
  intro W' hW' hbe
  have BB : Hid (Below w.heap.size w W') := Lib.hid (Below.beside ((((BEL.out).setCell (by simp; omega) _).setCell (by simp; omega) _).alloc (by first | omega | (simp; omega)) _) hbe (by try simp; first | omega | (simp; omega)) (by simp))
  obtain ⟨k0, k1, k2, k3, k4, k5, k6, k7⟩ := box8 hW'
  clear hbe hW'
  go_wp2
  refine bodyPost_ret (v := .agg #[.int .i64 wr, .int .u64 (sq : Int), .int .u64 (tm : Int), .int .u8 (kd : Int), .string key, .slice none 0 0, .float .f64 (qb num), .int .i64 0]) ?_ rfl (FIN.out _ _ none 0 0 ?_ ?_ (Nat.le_refl _) (by omega) BB.out (fun h0 => absurd h0 (by omega)))
  ·simp [results, Tryz.results39, go_sem, k0, k1, k2, k3, k4, k5, k6, k7]
  ·have hk := HK.out
   simp [plainE, Ev.val, hk, show ¬ kd = 5 by omega, show ¬ kd = 1 by omega, show 1 ≤ kd ∧ kd ≤ 4 by omega]
  ·have hk := HK.out
   have : (plainE ⟨wr, sq, tm, kd, key, text, num, node⟩).text = [] := by simp [plainE]; omega
   rw [this]
   exact Sees.nil _ _
 ·have hu : usesV kd = _ := hk ▸ uses4
  rw [hu]
  have HK := Lib.hid hk
  clear hk hu
  go_wp2_with (first
   | (refine wpList_getRow rfl 38 (.tmp 3) rfl (w.heap.size + 1 + 1) 38 #[.int .i64 wr, .int .u64 (sq : Int), .int .u64 (tm : Int), .int .u8 (kd : Int), .string key, .slice none 0 0, .float .f64 0, .int .i64 0] (0, 0) _ rfl ?g1 Tryz.underlying38 rfl (by kernel_rfl) ?_)
   | (refine wpList_putRow rfl 38 (.tmp 2) (.tmp 44) rfl (w.heap.size + 1) 38 #[.int .i64 0, .int .u64 0, .int .u64 0, .int .u8 0, .string ⟨#[]⟩, .slice none 0 0, .float .f64 0, .int .i64 0] #[.int .i64 wr, .int .u64 (sq : Int), .int .u64 (tm : Int), .int .u8 (kd : Int), .string key, .slice none 0 0, .float .f64 0, .int .i64 0] rfl rfl ?g2 (by kernel_rfl) rfl (by simp [Value.oneCell']) ?_))
  case g1 => rw [Below.heap_alloc _ _ _ (by first | omega | simpa using hz3)]; exact (heapSame (G.out.2.2)).trans rfl
  case g2 => rw [Below.heap_alloc _ _ _ (by first | omega | simpa using hz2)]; rw [heapOther (by omega)]; exact G.out.2.1
  intro W' hW' hbe
  have BB : Hid (Below w.heap.size w W') := Lib.hid (Below.beside (((BEL.out).setCell (by simp; omega) _).alloc (by first | omega | (simp; omega)) _) hbe (by try simp; first | omega | (simp; omega)) (by simp))
  obtain ⟨k0, k1, k2, k3, k4, k5, k6, k7⟩ := box8 hW'
  clear hbe hW'
  go_wp2
  refine bodyPost_ret (v := .agg #[.int .i64 wr, .int .u64 (sq : Int), .int .u64 (tm : Int), .int .u8 (kd : Int), .string key, .slice none 0 0, .float .f64 0, .int .i64 0]) ?_ rfl (FIN.out _ _ none 0 0 ?_ ?_ (Nat.le_refl _) (by omega) BB.out (fun h0 => absurd h0 (by omega)))
  ·simp [results, Tryz.results39, go_sem, k0, k1, k2, k3, k4, k5, k6, k7]
  ·have hk := HK.out
   simp [plainE, Ev.val, hk]
  ·have hk := HK.out
   have : (plainE ⟨wr, sq, tm, kd, key, text, num, node⟩).text = [] := by simp [plainE]; omega
   rw [this]
   exact Sees.nil _ _
 ·have hu : usesV kd = _ := hk ▸ uses5
  rw [hu]
  have HK := Lib.hid hk
  clear hk hu
  go_wp2_with (first
   | (refine wpList_getRow rfl 38 (.tmp 3) rfl (w.heap.size + 1 + 1) 38 #[.int .i64 wr, .int .u64 (sq : Int), .int .u64 (tm : Int), .int .u8 (kd : Int), .string ⟨#[]⟩, .slice none 0 0, .float .f64 0, .int .i64 node] (0, 0) _ rfl ?g1 Tryz.underlying38 rfl (by kernel_rfl) ?_)
   | (refine wpList_putRow rfl 38 (.tmp 2) (.tmp 44) rfl (w.heap.size + 1) 38 #[.int .i64 0, .int .u64 0, .int .u64 0, .int .u8 0, .string ⟨#[]⟩, .slice none 0 0, .float .f64 0, .int .i64 0] #[.int .i64 wr, .int .u64 (sq : Int), .int .u64 (tm : Int), .int .u8 (kd : Int), .string ⟨#[]⟩, .slice none 0 0, .float .f64 0, .int .i64 node] rfl rfl ?g2 (by kernel_rfl) rfl (by simp [Value.oneCell']) ?_))
  case g1 => rw [Below.heap_alloc _ _ _ (by first | omega | simpa using hz3)]; exact (heapSame (G.out.2.2)).trans rfl
  case g2 => rw [Below.heap_alloc _ _ _ (by first | omega | simpa using hz2)]; rw [heapOther (by omega)]; exact G.out.2.1
  intro W' hW' hbe
  have BB : Hid (Below w.heap.size w W') := Lib.hid (Below.beside (((BEL.out).setCell (by simp; omega) _).alloc (by first | omega | (simp; omega)) _) hbe (by try simp; first | omega | (simp; omega)) (by simp))
  obtain ⟨k0, k1, k2, k3, k4, k5, k6, k7⟩ := box8 hW'
  clear hbe hW'
  go_wp2
  refine bodyPost_ret (v := .agg #[.int .i64 wr, .int .u64 (sq : Int), .int .u64 (tm : Int), .int .u8 (kd : Int), .string ⟨#[]⟩, .slice none 0 0, .float .f64 0, .int .i64 node]) ?_ rfl (FIN.out _ _ none 0 0 ?_ ?_ (Nat.le_refl _) (by omega) BB.out (fun h0 => absurd h0 (by omega)))
  ·simp [results, Tryz.results39, go_sem, k0, k1, k2, k3, k4, k5, k6, k7]
  ·have hk := HK.out
   simp [plainE, Ev.val, hk]
  ·have hk := HK.out
   have : (plainE ⟨wr, sq, tm, kd, key, text, num, node⟩).text = [] := by simp [plainE]; omega
   rw [this]
   exact Sees.nil _ _
 ·obtain ⟨b, hu⟩ : ∃ b, usesV kd = .tuple #[.agg #[.bool false, .bool false, .bool false, .bool false], .bool b] := by
   by_cases h6 : kd = 6
   ·subst h6; exact ⟨_, uses6⟩
   ·exact ⟨_, uses_no (by omega)⟩
  rw [hu]
  have HK := Lib.hid hk
  clear hk hu
  go_wp2_with (first
   | (refine wpList_getRow rfl 38 (.tmp 3) rfl (w.heap.size + 1 + 1) 38 #[.int .i64 wr, .int .u64 (sq : Int), .int .u64 (tm : Int), .int .u8 (kd : Int), .string ⟨#[]⟩, .slice none 0 0, .float .f64 0, .int .i64 0] (0, 0) _ rfl ?g1 Tryz.underlying38 rfl (by kernel_rfl) ?_)
   | (refine wpList_putRow rfl 38 (.tmp 2) (.tmp 44) rfl (w.heap.size + 1) 38 #[.int .i64 0, .int .u64 0, .int .u64 0, .int .u8 0, .string ⟨#[]⟩, .slice none 0 0, .float .f64 0, .int .i64 0] #[.int .i64 wr, .int .u64 (sq : Int), .int .u64 (tm : Int), .int .u8 (kd : Int), .string ⟨#[]⟩, .slice none 0 0, .float .f64 0, .int .i64 0] rfl rfl ?g2 (by kernel_rfl) rfl (by simp [Value.oneCell']) ?_))
  case g1 => rw [Below.heap_alloc _ _ _ (by first | omega | simpa using hz3)]; exact (G.out.2.2).trans rfl
  case g2 => rw [Below.heap_alloc _ _ _ (by first | omega | simpa using hz2)]; exact G.out.2.1
  intro W' hW' hbe
  have BB : Hid (Below w.heap.size w W') := Lib.hid (Below.beside ((BEL.out).alloc (by first | omega | (simp; omega)) _) hbe (by try simp; first | omega | (simp; omega)) (by simp))
  obtain ⟨k0, k1, k2, k3, k4, k5, k6, k7⟩ := box8 hW'
  clear hbe hW'
  go_wp2
  refine bodyPost_ret (v := .agg #[.int .i64 wr, .int .u64 (sq : Int), .int .u64 (tm : Int), .int .u8 (kd : Int), .string ⟨#[]⟩, .slice none 0 0, .float .f64 0, .int .i64 0]) ?_ rfl (FIN.out _ _ none 0 0 ?_ ?_ (Nat.le_refl _) (by omega) BB.out (fun h0 => absurd h0 (by omega)))
  ·simp [results, Tryz.results39, go_sem, k0, k1, k2, k3, k4, k5, k6, k7]
  ·have hk := HK.out
   simp [plainE, Ev.val, show ¬ kd = 1 by omega, show ¬ (kd = 2 ∨ kd = 3) by omega, show ¬ kd = 5 by omega, show ¬ (1 ≤ kd ∧ kd ≤ 4) by omega]
  ·have hk := HK.out
   have : (plainE ⟨wr, sq, tm, kd, key, text, num, node⟩).text = [] := by simp [plainE]; omega
   rw [this]
   exact Sees.nil _ _
end Go.Proofs.YtinjbdgjcadodaaGreatDoor.Evt
