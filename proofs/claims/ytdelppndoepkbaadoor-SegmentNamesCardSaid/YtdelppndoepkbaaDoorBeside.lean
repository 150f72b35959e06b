/- Words on memory: what a call may have turned besides what it owns; a row of bytes whose room may end ahead of its block's. No program. -/
import Derived.Test.YtdelppndoepkbaaDoorWords
import Derived.Maps.AppendAt
import Derived.Maps.RangeWalk
namespace Go.Proofs.YtdelppndoepkbaaDoor.Words
open Go Go.RowKit
set_option linter.unusedVariables false

/-- Of what was there nothing has turned but what lies in blocks of S. -/
structure Beside (S : List Nat) (w w' : World) : Prop where
  os : w'.os = w.os
  tape : w'.tape = w.tape
  output : w'.output = w.output
  size : w.heap.size ≤ w'.heap.size
  block : ∀ k, k < w.heap.size → k ∉ S → w'.heap[k]? = w.heap[k]?

theorem Beside.refl (S : List Nat) (w : World) : Beside S w w := ⟨rfl, rfl, rfl, Nat.le_refl _, fun _ _ _ => rfl⟩
theorem Beside.drewN {S : List Nat} {a w : World} (h : Beside S a w) (n : Nat) : Beside S a (w.drewN n) := ⟨h.os, h.tape, h.output, h.size, h.block⟩
theorem Beside.drew {S : List Nat} {a w : World} (h : Beside S a w) : Beside S a w.drew := ⟨h.os, h.tape, h.output, h.size, h.block⟩
/-- Two steps: what the second one may turn lies in what the first one may, or is new. -/
theorem Beside.trans {S S1 : List Nat} {a b c : World} (h : Beside S a b) (k : Beside S1 b c) (hs : ∀ x ∈ S1, x ∈ S ∨ a.heap.size ≤ x) : Beside S a c :=
  ⟨k.os.trans h.os, k.tape.trans h.tape, k.output.trans h.output, Nat.le_trans h.size k.size, fun i hi hn =>
    (k.block i (Nat.lt_of_lt_of_le hi h.size) (fun hm => by
      rcases hs i hm with h1 | h1
      · exact hn h1
      · omega)).trans (h.block i hi hn)⟩
theorem Beside.wider {S S1 : List Nat} {a b : World} (h : Beside S a b) (hs : ∀ x ∈ S, x ∈ S1 ∨ a.heap.size ≤ x) : Beside S1 a b :=
  ⟨h.os, h.tape, h.output, h.size, fun i hi hn => h.block i hi fun hm => by
    rcases hs i hm with h1 | h1
    · exact hn h1
    · omega⟩
theorem Beside.setCell {S : List Nat} {a w : World} (h : Beside S a w) {p : Addr} (hp : p.block ∈ S) (u : Value) : Beside S a (w.setCell p u) :=
  h.trans (S1 := S) ⟨rfl, rfl, rfl, by simp, fun k hk hn => Below.heap_setCell _ _ _ _ (fun e => hn (e ▸ hp))⟩ fun x hx => .inl hx
theorem Beside.setNew {S : List Nat} {a w : World} (h : Beside S a w) {p : Addr} (hp : a.heap.size ≤ p.block) (u : Value) : Beside S a (w.setCell p u) :=
  h.trans (S1 := [p.block]) ⟨rfl, rfl, rfl, by simp, fun k hk hn => Below.heap_setCell _ _ _ _ (fun e => hn (by simp [e]))⟩ fun x hx => .inr (by simp at hx; omega)
theorem Beside.alloc {S : List Nat} {a w : World} (h : Beside S a w) (o : Obj) : Beside S a (w.alloc o) :=
  h.trans (S1 := []) ⟨rfl, rfl, rfl, by simp, fun k hk _ => Below.heap_alloc _ _ _ hk⟩ fun x hx => by cases hx
theorem Beside.grown {S : List Nat} {a w w' : World} {row : Option Nat} (h : Beside S a w) (hg : w.grownBy w' row) (hr : ∀ k, row = some k → k ∈ S ∨ a.heap.size ≤ k) : Beside S a w' :=
  h.trans (S1 := row.toList) ⟨hg.os, hg.tape, hg.output, hg.size, fun k hk hn => hg.block k hk (fun e => hn (by rw [← e]; simp))⟩ fun x hx => hr x (by simpa using hx)
theorem Beside.of_below {w w' : World} (h : Below w.heap.size w w') (S : List Nat) : Beside S w w' := ⟨h.os, h.tape, h.output, h.size, fun k hk _ => h.block k hk⟩
/-- Behind a call that has turned nothing that was there. -/
theorem Beside.below {S : List Nat} {a w w' : World} (h : Beside S a w) (hb : Below w.heap.size w w') : Beside S a w' := h.trans (S1 := []) (.of_below hb _) fun x hx => by cases hx
/-- What is owned is all new: of what was there nothing has turned. -/
theorem Below.beside {S : List Nat} {B : Nat} {a w w' : World} (h : Below B a w) (k : Beside S w w') (hB : B ≤ w.heap.size) (hs : ∀ x ∈ S, B ≤ x) : Below B a w' :=
  h.trans ⟨k.os, k.tape, k.output, k.size, fun i hi => k.block i (by omega) fun hm => by have := hs i hm; omega⟩
theorem Beside.cell {S : List Nat} {w w' : World} (h : Beside S w w') {a : Addr} {v : Value} (hc : w.cell? a = some v) (hn : a.block ∉ S) : w'.cell? a = some v :=
  (World.cell?_of_block (h.block a.block (World.block_lt_of_cell? w a hc) hn)).trans hc

/-- A slice of bytes that lies outside S. -/
def Out (S : List Nat) (A : Option Addr) (n : Nat) : Prop := 0 < n → ∀ a, A = some a → a.block ∉ S
theorem Sees.beside {S : List Nat} {w w' : World} {A : Option Addr} {n : Nat} {l : List UInt8} (h : Sees w A n l) (hb : Beside S w w') (hS : Out S A n) : Sees w' A n l := by
  refine ⟨h.1, fun hn => ?_⟩
  obtain ⟨b, o, hA, hc⟩ := h.2 hn
  exact ⟨b, o, hA, fun j u hu => hb.cell (hc j u hu) (by simpa using hS hn _ hA)⟩
/-- It lies there still where S has turned: what is new in S is new altogether. -/
theorem Out.next {S S1 : List Nat} {w : World} {A : Option Addr} {n : Nat} {l : List UInt8} (h : Out S A n) (hs : Sees w A n l) (hS : ∀ x ∈ S1, x ∈ S ∨ w.heap.size ≤ x) : Out S1 A n := by
  intro hn a ha hm
  obtain ⟨b, o, hA, hc⟩ := hs.2 hn
  rcases hS _ hm with h1 | h1
  · exact h hn a ha h1
  · have h0 : 0 < l.length := by have := hs.1; omega
    have := World.block_lt_of_cell? _ _ (hc 0 l[0] (List.getElem?_eq_getElem h0))
    rw [hA] at ha
    cases ha
    simp at h1 this
    omega
theorem Out.of_lt {S : List Nat} {B : Nat} {w : World} {A : Option Addr} {n : Nat} {l : List UInt8} (hs : Sees w A n l) (hB : w.heap.size ≤ B) (hS : ∀ x ∈ S, B ≤ x) : Out S A n :=
  Out.next (S := []) (fun _ _ _ => by simp) hs fun x hx => .inr (Nat.le_trans hB (hS x hx))
theorem Out.of_own {S : List Nat} {w : World} {base : Nat} {e : TypeId} {A : Option Addr} {n c : Nat} {xs : List Value} (h : w.ownsRow base e 1 (.slice A n c) n xs) (hS : ∀ x ∈ S, x < base) : Out S A n := by
  intro hn a ha hm
  obtain ⟨g, rfl, hg⟩ := Own.at_ h hn
  cases ha
  have := hS _ hm
  simp at this
  omega

theorem Own.beside {w w' : World} {base : Nat} {S : List Nat} {e : TypeId} {v : Value} {n : Nat} {xs : List Value} (h : w.ownsRow base e 1 v n xs) (hb : Beside S w w') (hS : ∀ x ∈ S, x < base) : w'.ownsRow base e 1 v n xs := by
  refine ⟨h.1, ?_⟩
  rcases h.2 with hn | ⟨g, cap, cur, hv, hg, hh, r⟩
  · exact .inl hn
  · exact .inr ⟨g, cap, cur, hv, hg, by rw [hb.block g (Array.getElem?_eq_some_iff.1 hh).1 (fun hm => by have := hS g hm; omega)]; exact hh, r⟩
theorem heapSame {w : World} {b i : Nat} {cur : Array Value} {e : TypeId} {f : Nat × Nat} {v : Value} (h : w.heap[b]? = some (.cells cur e f)) : (w.setCell ⟨b, i, none⟩ v).heap[b]? = some (.cells (cur.setIfInBounds i v) e f) := by
  simp [World.setCell, Array.getElem?_modify, h]
theorem heapOther {w : World} {b k i : Nat} {v : Value} (h : k ≠ b) : (w.setCell ⟨b, i, none⟩ v).heap[k]? = w.heap[k]? := Below.heap_setCell _ _ _ _ h
theorem frozen_row0 {w : World} {b i : Nat} {cur : Array Value} {e : TypeId} (h : w.heap[b]? = some (.cells cur e (0, 0))) : w.frozen? ⟨b, i, none⟩ = false := by
  simp [World.frozen?, h]

/-- Bytes in a block of their own; the slice's room may end ahead of the block's. -/
def ByteRow (e : TypeId) (w : World) (A : Option Addr) (n c : Nat) (l : List UInt8) : Prop :=
  l.length = n ∧ ((A = none ∧ n = 0 ∧ c = 0) ∨ ∃ g cur, A = some ⟨g, 0, none⟩ ∧ w.heap[g]? = some (.cells cur e (0, 0)) ∧ n ≤ c ∧ c ≤ maxLen ∧ c ≤ cur.size ∧ cur.toList.take n = cs l)
theorem ByteRow.nil (e : TypeId) (w : World) : ByteRow e w none 0 0 [] := ⟨rfl, .inl ⟨rfl, rfl, rfl⟩⟩
theorem ByteRow.kept {e : TypeId} {w w' : World} {A : Option Addr} {n c : Nat} {l : List UInt8} (h : ByteRow e w A n c l) (hk : ∀ a, A = some a → w'.heap[a.block]? = w.heap[a.block]?) : ByteRow e w' A n c l := by
  refine ⟨h.1, ?_⟩
  rcases h.2 with h0 | ⟨g, cur, rfl, hg, r⟩
  · exact .inl h0
  · exact .inr ⟨g, cur, rfl, (hk _ rfl).trans hg, r⟩
theorem ByteRow.lt {e : TypeId} {w : World} {A : Option Addr} {n c : Nat} {l : List UInt8} (h : ByteRow e w A n c l) : ∀ a, A = some a → a.block < w.heap.size := by
  intro a ha
  rcases h.2 with ⟨rfl, _⟩ | ⟨g, cur, rfl, hg, _⟩
  · cases ha
  · cases ha
    exact (Array.getElem?_eq_some_iff.1 hg).1
theorem ByteRow.cap {e : TypeId} {w : World} {A : Option Addr} {n c : Nat} {l : List UInt8} (h : ByteRow e w A n c l) : n ≤ c ∧ c ≤ 9223372036854775807 := by
  rcases h.2 with ⟨_, rfl, rfl⟩ | ⟨g, cur, _, _, h1, h2, _⟩
  · omega
  · unfold maxLen at h2
    omega
theorem ByteRow.sees {e : TypeId} {w : World} {A : Option Addr} {n c : Nat} {l : List UInt8} (h : ByteRow e w A n c l) : Sees w A n l := by
  refine ⟨h.1, fun hn => ?_⟩
  rcases h.2 with ⟨_, h0, _⟩ | ⟨g, cur, rfl, hg, hnc, hcm, hcs, ht⟩
  · omega
  · refine ⟨g, 0, rfl, fun j u hu => ?_⟩
    rw [Nat.zero_add, cell_of_row _ g j cur e (0, 0) hg]
    have h1 := cs_get hu
    rw [← ht, List.getElem?_take] at h1
    split at h1
    · simpa using h1
    · cases h1
/-- A row that is owned is such. -/
theorem ByteRow.of_own {e : TypeId} {w : World} {base : Nat} {A : Option Addr} {n c : Nat} {l : List UInt8} (h : w.ownsRow base e 1 (.slice A n c) n (cs l)) : ByteRow e w A n c l := by
  refine ⟨by have := h.1; rw [cs_length] at this; omega, ?_⟩
  rcases h.2 with ⟨hv, rfl⟩ | ⟨g, cap, cur, hv, _, hg, hn, hc, hs, ht⟩
  · injection hv with h1 h2 h3
    exact .inl ⟨h1, rfl, h3⟩
  · injection hv with h1 h2 h3
    subst h3
    exact .inr ⟨g, cur, h1, hg, hn, hc, by omega, by simpa using ht⟩
/-- Its first k bytes, without room behind them: 's[:k:k]'. -/
theorem ByteRow.cut {e : TypeId} {w : World} {A : Option Addr} {n c : Nat} {l : List UInt8} (h : ByteRow e w A n c l) {k : Nat} (hk : k ≤ n) : ByteRow e w A k k (l.take k) := by
  refine ⟨by rw [List.length_take, h.1]; omega, ?_⟩
  rcases h.2 with ⟨rfl, h0, _⟩ | ⟨g, cur, rfl, hg, hnc, hcm, hcs, ht⟩
  · exact .inl ⟨rfl, by omega, by omega⟩
  · refine .inr ⟨g, cur, rfl, hg, Nat.le_refl _, by omega, by omega, ?_⟩
    have : cs (l.take k) = (cs l).take k := by simp [cs, List.map_take]
    rw [this, ← ht, List.take_take, Nat.min_eq_left hk]

section
variable {P : Program}
/-- append onto such bytes, of bytes that are seen, wherever they lie: in place, or in a new block. -/
theorem run_data {w : World} (t ty e : TypeId) (i : TypeInfo) (z : Value) (ht : P.underlying t = some (.slice e)) (hi : P.info? e = some i) (hz : i.zero = some z)
    (hsize : i.size = 1) (hby : i.bytes = 1) (hzs : z.cells.size = 1)
    (A : Option Addr) (n c : Nat) (l : List UInt8) (hd : ByteRow e w A n c l)
    (S : Option Addr) (m k : Nat) (q : List UInt8) (hs : Sees w S m q) (h63 : n + m ≤ 140737488355328) :
    ∃ A' c' w', (Builtin.append_ #[t, t] ty #[.slice A n c, .slice S m k]).run P w = .ok (.slice A' (n + m) c') w' ∧ ByteRow e w' A' (n + m) c' (l ++ q) ∧
      Beside ((A.map (·.block)).toList) w w' ∧ (∀ a', A' = some a' → (∃ a, A = some a ∧ a'.block = a.block) ∨ (w.heap.size ≤ a'.block)) := by
  have hlen : (l ++ q).length = n + m := by rw [List.length_append, hd.1, hs.1]
  cases S with
  | none =>
    have hm : m = 0 := by
      rcases Nat.eq_zero_or_pos m with h0 | h0
      · exact h0
      · obtain ⟨b, o, h, _⟩ := hs.2 h0
        cases h
    subst hm
    have hq : q = [] := List.eq_nil_of_length_eq_zero hs.1
    subst hq
    refine ⟨A, c, w, ?_, by simpa using hd, Beside.refl _ _, fun a' ha => .inl ⟨a', ha, rfl⟩⟩
    rcases hd.2 with ⟨rfl, rfl, rfl⟩ | ⟨g, cur, rfl, _, hnc, _⟩
    · simp [Builtin.append_, run_underlying ht, sizeOf, typeInfo, hi, Builtin.lenOf, Builtin.firstCells]
    · simp [Builtin.append_, run_underlying ht, sizeOf, typeInfo, hi, Builtin.lenOf, Builtin.firstCells, hnc, storeCells]
  | some ad =>
    have hnews : ∀ j u, (cs q)[j]? = some u → w.cell? (ad.add j) = some u := by
      intro j u hu
      obtain ⟨y, hy, rfl⟩ := of_cs_get hu
      have hj : j < q.length := (List.getElem?_eq_some_iff.1 hy).1
      obtain ⟨b, o, h, hc⟩ := hs.2 (by have := hs.1; omega)
      injection h with h
      subst h
      rw [add_plain]
      exact hc j y hy
    have new : ∀ (z' : Array Value) (cap : Nat), n + m ≤ cap → cap ≤ maxLen → z'.size = cap - (n + m) → ByteRow e (w.drew.alloc (.cells ((cs l).toArray ++ (cs q).toArray ++ z') e)) (some ⟨w.heap.size, 0, none⟩) (n + m) cap (l ++ q) := by
      intro z' cap hcap hmx hzz
      refine ⟨hlen, .inr ⟨w.heap.size, _, rfl, heap_alloc_new w.drew _, hcap, hmx, ?_, ?_⟩⟩
      · simp [cs_length, hd.1, hs.1, hzz]; omega
      · simp only [Array.toList_append, List.append_assoc]
        rw [← List.append_assoc, ← cs_append, ← hlen, ← cs_length (l ++ q)]
        exact List.take_left
    rcases hd.2 with ⟨rfl, rfl, rfl⟩ | ⟨g, cur, rfl, hg, hnc, hcm, hcs, htake⟩
    · have hl : l = [] := List.eq_nil_of_length_eq_zero hd.1
      subst hl
      by_cases hm : m = 0
      · subst hm
        have hq : q = [] := List.eq_nil_of_length_eq_zero hs.1
        subst hq
        refine ⟨none, 0, w, ?_, ByteRow.nil e w, Beside.refl _ _, fun a' ha => by (cases ha)⟩
        simp [Builtin.append_, run_underlying ht, sizeOf, typeInfo, hi, Builtin.lenOf, Builtin.firstCells, loadCells, loadCellsFrom]
      · have hr := run_append_nil (P := P) w t ty e i z ht hi hz ad m k (cs q) (by rw [cs_length, hs.1, hsize]; omega) hnews (by omega) (by omega) (by rw [hby]; omega)
        have hge := grownCap_ge w m 0 e
        have hgm := grownCap_le_maxLen w m 0 e (by unfold maxLen; omega)
        have := new (Builtin.zeroCells z.cells (grownCap w m 0 e - m)) (grownCap w m 0 e) (by omega) hgm (by simp [size_zeroCells, hzs])
        simp only [Nat.zero_add, cs, List.map_nil, Array.empty_append] at this hr ⊢
        exact ⟨_, _, _, hr, this, (Beside.refl _ _).drew.alloc _, fun a' ha => .inr (by cases ha; exact Nat.le_refl _)⟩
    · by_cases hroom : n + m ≤ c
      · have hfit : n * i.size + (cs q).length ≤ cur.size := by rw [cs_length, hs.1, hsize]; omega
        have hr := run_append_room (P := P) w t ty e i ht hi g n c cur hg ad m k (cs q) (by rw [cs_length, hs.1, hsize]; omega) hnews (cs_one q) hroom hfit
        refine ⟨_, _, _, hr, ⟨hlen, .inr ⟨g, _, rfl, setRow_heap w g cur _ e _ hg, hroom, hcm, ?_, ?_⟩⟩, ⟨rfl, rfl, rfl, by simp, fun j hj hn => setRow_other w g j _ (fun e => hn (by simp [e]))⟩, fun a' ha => .inl ⟨_, rfl, by cases ha; rfl⟩⟩
        · simp only [List.size_toArray, List.length_append, List.length_take, List.length_drop, Array.length_toList, cs_length, hs.1, hsize]
          omega
        · rw [hsize, Nat.mul_one, htake, ← cs_append, ← hlen, ← cs_length (l ++ q)]
          exact List.take_left
      · have holds : ∀ j u, (cs l)[j]? = some u → w.cell? ((⟨g, 0, none⟩ : Addr).add j) = some u := by
          intro j u hu
          obtain ⟨y, hy, rfl⟩ := of_cs_get hu
          obtain ⟨b, o, h, hc⟩ := hd.sees.2 (by have := (List.getElem?_eq_some_iff.1 hy).1; have := hd.1; omega)
          injection h with h
          cases h
          rw [add_plain]
          exact hc j y hy
        have hr := run_append_grow (P := P) w t ty e i z ht hi hz ⟨g, 0, none⟩ n c (cs l) (by rw [cs_length, hd.1, hsize]; omega) holds ad m k (cs q) (by rw [cs_length, hs.1, hsize]; omega) hnews (by omega) (by omega) (growslice_fits (by omega) (by rw [hby]; omega))
        have hge := grownCap_ge w (n + m) c e
        have hgm := grownCap_le_maxLen w (n + m) c e (by unfold maxLen; omega)
        have := new (Builtin.zeroCells z.cells (grownCap w (n + m) c e - (n + m))) (grownCap w (n + m) c e) hge hgm (by simp [size_zeroCells, hzs])
        exact ⟨_, _, _, hr, this, (Beside.refl _ _).drew.alloc _, fun a' ha => .inr (by cases ha; exact Nat.le_refl _)⟩

theorem wpList_data {w : World} {ops : Array Oper} {rest : List Oper} {o : Oper} {a : Act} {Q : Exit → Act → World → Prop} (hgd : o.guard = none) (s x : Operand) (t : TypeId)
    (ho : o.op = .call { callee := .builtin .append, args := #[s, x], argTypes := #[t, t] })
    (e : TypeId) (i : TypeInfo) (z : Value) (ht : P.underlying t = some (.slice e)) (hi : P.info? e = some i) (hz : i.zero = some z)
    (hsize : i.size = 1) (hby : i.bytes = 1) (hzs : z.cells.size = 1)
    (A : Option Addr) (n c : Nat) (l : List UInt8) (hs : a.eval s = .slice A n c) (hd : ByteRow e w A n c l)
    (S : Option Addr) (m k : Nat) (q : List UInt8) (hx : a.eval x = .slice S m k) (hq : Sees w S m q) (h63 : n + m ≤ 140737488355328)
    (h : ∀ A' c' w', ByteRow e w' A' (n + m) c' (l ++ q) → Beside ((A.map (·.block)).toList) w w' → (∀ a', A' = some a' → (∃ a, A = some a ∧ a'.block = a.block) ∨ (w.heap.size ≤ a'.block)) → wpList P ops Q rest (a.put o.dst (.slice A' (n + m) c')) w') : wpList P ops Q (o :: rest) a w := by
  refine wpList_plain hgd fun K hK => ?_
  obtain ⟨A', c', w', hrun, h2, h3, h4⟩ := run_data (P := P) t o.type e i z ht hi hz hsize hby hzs A n c l hd S m k q hq h63
  unfold Oper.wp execOp
  simp only [ho, resolve, invoke, builtin, Sem.run_bind, Sem.run_pure, Result.andThen_ok, List.map_toArray, List.map_cons, List.map_nil, hs, hx, hrun]
  exact hK _ _ (h A' c' w' h2 h3 h4)
end
end Go.Proofs.YtdelppndoepkbaaDoor.Words
