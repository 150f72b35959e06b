/- A fold in memory: its struct, the map of its cells, their texts. -/
import Derived.Test.YtjceeojbnpcpfaaGreatFolMath
import Derived.Maps.OwnSet
import Derived.Maps.RangeWalk
import Derived.Deep.MidRow
import Derived.Sort.Walk0
namespace Go.Proofs.YtjceeojbnpcpfaaGreat.Fol
open Go Go.RowKit Go.Proofs.YtjceeojbnpcpfaaGreat.Words Go.Proofs.YtjceeojbnpcpfaaGreat.Enc Go.Proofs.YtjceeojbnpcpfaaGreat.Q Go.Proofs.YtjceeojbnpcpfaaGreat.Evt
set_option linter.unusedVariables false
set_option linter.unusedSimpArgs false

/-- What a key has; its text lies at A. -/
structure MC where
  kind : Nat
  A : Option Addr
  c : Nat
  text : List UInt8
  num : Nat
def MC.val (m : MC) : Value := .agg #[.int .u8 (m.kind : Int), .slice m.A m.text.length m.c, .float .f64 m.num]
def MC.cel (m : MC) : Cel := ⟨m.kind, m.text, m.num⟩
def zeroC : Value := .agg #[.int .u8 0, .slice none 0 0, .float .f64 0]
def valAt (o : Option MC) : Value := match o with | some m => m.val | none => zeroC
/-- How a cell in the map reads: as itself. -/
def celElem (v : Value) : Option (DataW Value × List MemPlace) := some (.held v, [])
theorem celElem_inv {v : Value} {x : Value} {ps : List MemPlace} (h : celElem v = some (.held x, ps)) : v = x := by
  unfold celElem at h
  injection h with h
  injection h with h _
  injection h
def Shows (D : DataW Value) (L : List (Key × MC)) : Prop :=
  (∀ s, D.atKey (.string s) (.held zeroC) = .held (valAt (lk s L))) ∧ (∀ s, Maps.has D (.string s) = (lk s L).isSome) ∧ Maps.size D = L.length
def MapAt (w : World) (mb : Nat) (L : List (Key × MC)) : Prop := ∃ D, w.ownsMap Tryz.prog 9 celElem mb L.length D ∧ Shows D L
theorem MapAt.lt {w : World} {mb : Nat} {L : List (Key × MC)} (h : MapAt w mb L) : mb < w.heap.size := by obtain ⟨D, h, _⟩ := h; exact h.lt
theorem MapAt.kept {w w' : World} {mb : Nat} {L : List (Key × MC)} (h : MapAt w mb L) (hk : w'.heap[mb]? = w.heap[mb]?) : MapAt w' mb L := by
  obtain ⟨D, ⟨es, clock, hb, r⟩, hs⟩ := h
  exact ⟨D, ⟨es, clock, hk.trans hb, r⟩, hs⟩
theorem keyStr : Maps.Keyed Tryz.prog 9 := Maps.string_keyed Tryz.underlying9
theorem key_mk {k : ByteArray} (hs : k.size ≤ 100000) : keyOf Tryz.prog 9 (.string k) = some (.string k.data.toList) :=
  WideMaps.keyOf_string_mk (P := Tryz.prog) (k := 9) Tryz.underlying9 (s := k) (by unfold maxLen; omega)
theorem zeroCel (w : World) : (zeroValue 50).run Tryz.prog w = .ok zeroC w := by kernel_rfl
theorem ownsMap_tight {w : World} {b n : Nat} {D : DataW Value} (h : w.ownsMap Tryz.prog 9 celElem b n D) : w.ownsMap Tryz.prog 9 celElem b (Maps.size D) D := by
  obtain ⟨es, clock, hb, F, hs, rfl⟩ := h
  refine ⟨es, clock, hb, F, ?_, rfl⟩
  simp [Maps.size, length_sorted]
/-- 'm[key]'. -/
theorem MapAt.run_look {w : World} {mb : Nat} {L : List (Key × MC)} (h : MapAt w mb L) {k : ByteArray} (hs : k.size ≤ 100000) :
    (Instr.lookup 53 (.map (some mb)) (.string k) false).run Tryz.prog w = .ok (valAt (lk k.data.toList L)) w := by
  obtain ⟨D, ho, h1, _⟩ := h
  obtain ⟨v, ps, hr, hv⟩ := ho.lookup keyStr Tryz.underlying53 (zeroCel w) (show celElem zeroC = some (.held zeroC, []) from rfl) (key_mk hs)
  rw [h1] at hv
  rw [hr, celElem_inv hv]
/-- 'v, ok := m[key]'. -/
theorem MapAt.run_look_ok {w : World} {mb : Nat} {L : List (Key × MC)} (h : MapAt w mb L) {k : ByteArray} (hs : k.size ≤ 100000) :
    (Instr.lookup 53 (.map (some mb)) (.string k) true).run Tryz.prog w = .ok (.tuple #[valAt (lk k.data.toList L), .bool (lk k.data.toList L).isSome]) w := by
  obtain ⟨D, ho, h1, h2, _⟩ := h
  obtain ⟨v, ps, hr, hv⟩ := ho.look_ok keyStr Tryz.underlying53 (zeroCel w) (show celElem zeroC = some (.held zeroC, []) from rfl) (key_mk hs)
  rw [h1] at hv
  rw [hr, celElem_inv hv, h2]
theorem MapAt.run_len {w : World} {mb : Nat} {L : List (Key × MC)} (h : MapAt w mb L) (ty : TypeId) :
    (Builtin.len_ #[53] ty #[.map (some mb)]).run Tryz.prog w = .ok (.int .i64 (L.length : Int)) w := by
  obtain ⟨D, ho, h1, h2, h3⟩ := h
  rw [ho.len Tryz.underlying53 ty, h3]
/-- 'm[key] = cell'. -/
theorem MapAt.run_store {w : World} {mb : Nat} {L : List (Key × MC)} (h : MapAt w mb L) (hr : Rise L) (m : MC) {k : ByteArray} (hs : k.size ≤ 100000) (hn : L.length < 1000000000000) :
    ∃ w', (Instr.mapUpdate 53 (.map (some mb)) (.string k) m.val).run Tryz.prog w = .ok () w' ∧ MapAt w' mb (ins k.data.toList m L) ∧ w.mapTurned w' mb := by
  obtain ⟨D, ho, h1, h2, h3⟩ := h
  obtain ⟨w', hrun, ho', ht⟩ := ho.store keyStr Tryz.underlying53 (by unfold maxLen; omega) (key_mk hs) (show celElem m.val = some (.held m.val, []) from rfl)
  have hsz : Maps.size (D.put (.string k.data.toList) (.held m.val)) = (ins k.data.toList m L).length := by
    rw [Maps.size_put (ho.tidy keyStr), h2, h3, len_ins _ _ hr]
  refine ⟨w', hrun, ⟨_, by rw [← hsz]; exact ownsMap_tight ho', fun s => ?_, fun s => ?_, hsz⟩, ht⟩
  · rw [lk_ins]
    by_cases e : s = k.data.toList
    · rw [if_pos e, e, Maps.atKey_put_same ho.isMap (keyStr.key (key_mk hs))]
      rfl
    · rw [if_neg e, Maps.atKey_put_other (by intro h; injection h with h; exact e h), h1]
  · rw [lk_ins]
    by_cases e : s = k.data.toList
    · rw [if_pos e, e, Maps.has_put_same ho.isMap (keyStr.key (key_mk hs))]
      rfl
    · rw [if_neg e, Maps.has_put_other (by intro h; injection h with h; exact e h), h2]
/-- 'delete(m, key)'. -/
theorem MapAt.run_del {w : World} {mb : Nat} {L : List (Key × MC)} (h : MapAt w mb L) (hr : Rise L) {k : ByteArray} (hs : k.size ≤ 100000) (ty : TypeId) :
    ∃ w', (Builtin.delete_ #[53, 9] ty #[.map (some mb), .string k]).run Tryz.prog w = .ok (.tuple #[]) w' ∧ MapAt w' mb (del k.data.toList L) ∧ w.mapTurned w' mb := by
  obtain ⟨D, ho, h1, h2, h3⟩ := h
  obtain ⟨w', hrun, ho', ht⟩ := ho.drop keyStr Tryz.underlying53 (key_mk hs) ty
  have hsz := Maps.size_del (k := .string k.data.toList) (ho.tidy keyStr)
  rw [h2, h3] at hsz
  have hsz2 : Maps.size (D.del (.string k.data.toList)) = (del k.data.toList L).length := by
    rw [len_del]
    split at hsz <;> rename_i hi
    · rw [if_pos hi]; omega
    · rw [if_neg hi]; omega
  refine ⟨w', hrun, ⟨_, by rw [← hsz2]; exact ownsMap_tight ho', fun s => ?_, fun s => ?_, hsz2⟩, ht⟩
  · rw [lk_del _ _ hr]
    by_cases e : s = k.data.toList
    · rw [if_pos e, e, Maps.atKey_del_same]
      rfl
    · rw [if_neg e, Maps.atKey_del_other (by intro h; injection h with h; exact e h), h1]
  · rw [lk_del _ _ hr]
    by_cases e : s = k.data.toList
    · rw [if_pos e, e, Maps.has_del_same]
      rfl
    · rw [if_neg e, Maps.has_del_other (by intro h; injection h with h; exact e h), h2]
theorem mapAt_made (w : World) : MapAt (w.alloc (.map #[] 0)) w.heap.size [] :=
  ⟨_, World.ownsMap_made w Tryz.prog 9 celElem, fun s => rfl, fun s => rfl, rfl⟩

/-- A fold's cells in its struct. -/
def cells (mb : Nat) (F : Fo) : List Value :=
  .map (some mb) :: (F.J.map .bool ++ (F.R.map .bool ++ (F.H.map (fun n : Nat => .int .u64 (n : Int)) ++ [.int .u64 (F.time : Int), .int .i64 (F.wr : Int), .int .u64 (F.mark : Int)])))
def row (mb : Nat) (F : Fo) : Array Value := (cells mb F).toArray
/-- A cell's text in memory; it lies outside S. -/
structure TextAt (w : World) (S : List Nat) (m : MC) : Prop where
  sees : Sees w m.A m.text.length m.text
  cap : m.text.length ≤ m.c
  out : Out S m.A m.text.length
structure FoldAt (w : World) (S : List Nat) (d mb : Nat) (F : Fo) : Prop where
  row : w.heap[d]? = some (.cells (row mb F) 58 (0, 0))
  map : ∃ L : List (Key × MC), MapAt w mb L ∧ mapV MC.cel L = F.L ∧ ∀ p ∈ L, TextAt w S p.2
  ok : Ok F
  ne : d ≠ mb
  dS : d ∈ S
  mS : mb ∈ S

theorem cells_len {mb : Nat} {F : Fo} (h : Ok F) : (cells mb F).length = 196 := by simp [cells, h.j, h.r, h.h]
theorem row_size {mb : Nat} {F : Fo} (h : Ok F) : (row mb F).size = 196 := by simp [row, cells_len h]
theorem cells_J {mb : Nat} {F : Fo} (h : Ok F) {i : Nat} (hi : i < 64) : (cells mb F)[1 + i]? = some (.bool (F.J.getD i false)) := by
  unfold cells
  rw [Nat.add_comm 1 i, List.getElem?_cons_succ, List.getElem?_append_left (by rw [List.length_map, h.j]; exact hi), List.getElem?_map, List.getElem?_eq_getElem (by rw [h.j]; exact hi)]
  simp [List.getD, h.j, hi]
theorem cells_R {mb : Nat} {F : Fo} (h : Ok F) {i : Nat} (hi : i < 64) : (cells mb F)[65 + i]? = some (.bool (F.R.getD i false)) := by
  unfold cells
  rw [show 65 + i = (64 + i) + 1 by omega, List.getElem?_cons_succ, List.getElem?_append_right (by rw [List.length_map, h.j]; omega), List.length_map, h.j, Nat.add_sub_cancel_left,
    List.getElem?_append_left (by rw [List.length_map, h.r]; exact hi), List.getElem?_map, List.getElem?_eq_getElem (by rw [h.r]; exact hi)]
  simp [List.getD, h.r, hi]
theorem cells_H {mb : Nat} {F : Fo} (h : Ok F) {i : Nat} (hi : i < 64) : (cells mb F)[129 + i]? = some (.int .u64 (F.H.getD i 0 : Int)) := by
  unfold cells
  rw [show 129 + i = (64 + (64 + i)) + 1 by omega, List.getElem?_cons_succ, List.getElem?_append_right (by rw [List.length_map, h.j]; omega), List.length_map, h.j, Nat.add_sub_cancel_left,
    List.getElem?_append_right (by rw [List.length_map, h.r]; omega), List.length_map, h.r, Nat.add_sub_cancel_left, List.getElem?_append_left (by rw [List.length_map, h.h]; exact hi), List.getElem?_map, List.getElem?_eq_getElem (by rw [h.h]; exact hi)]
  simp [List.getD, h.h, hi]
theorem cells_tail {mb : Nat} {F : Fo} (h : Ok F) : (cells mb F)[193]? = some (.int .u64 (F.time : Int)) ∧ (cells mb F)[194]? = some (.int .i64 (F.wr : Int)) ∧ (cells mb F)[195]? = some (.int .u64 (F.mark : Int)) := by
  unfold cells
  have e : ∀ k, ((F.J.map Value.bool ++ (F.R.map Value.bool ++ (F.H.map (fun n : Nat => Value.int .u64 (n : Int)) ++ [.int .u64 (F.time : Int), .int .i64 (F.wr : Int), .int .u64 (F.mark : Int)]))))[64 + (64 + (64 + k))]? = [Value.int .u64 (F.time : Int), .int .i64 (F.wr : Int), .int .u64 (F.mark : Int)][k]? := by
    intro k
    rw [List.getElem?_append_right (by rw [List.length_map, h.j]; omega), List.length_map, h.j, Nat.add_sub_cancel_left, List.getElem?_append_right (by rw [List.length_map, h.r]; omega), List.length_map, h.r, Nat.add_sub_cancel_left,
      List.getElem?_append_right (by rw [List.length_map, h.h]; omega), List.length_map, h.h, Nat.add_sub_cancel_left]
  exact ⟨e 0, e 1, e 2⟩

section
variable {w : World} {S : List Nat} {d mb : Nat} {F : Fo}
theorem FoldAt.cell (h : FoldAt w S d mb F) {i : Nat} {v : Value} (hv : (cells mb F)[i]? = some v) : w.cell? ⟨d, i, none⟩ = some v := by
  rw [cell_of_row w d _ _ _ _ h.row]
  simpa [Fol.row] using hv
theorem FoldAt.c0 (h : FoldAt w S d mb F) : w.cell? ⟨d, 0, none⟩ = some (.map (some mb)) := h.cell rfl
theorem FoldAt.cJ (h : FoldAt w S d mb F) {i : Nat} (hi : i < 64) : w.cell? ⟨d, 1 + i, none⟩ = some (.bool (F.J.getD i false)) := h.cell (cells_J h.ok hi)
theorem FoldAt.cR (h : FoldAt w S d mb F) {i : Nat} (hi : i < 64) : w.cell? ⟨d, 65 + i, none⟩ = some (.bool (F.R.getD i false)) := h.cell (cells_R h.ok hi)
theorem FoldAt.cH (h : FoldAt w S d mb F) {i : Nat} (hi : i < 64) : w.cell? ⟨d, 129 + i, none⟩ = some (.int .u64 (F.H.getD i 0 : Int)) := h.cell (cells_H h.ok hi)
theorem FoldAt.cT (h : FoldAt w S d mb F) : w.cell? ⟨d, 193, none⟩ = some (.int .u64 (F.time : Int)) ∧ w.cell? ⟨d, 194, none⟩ = some (.int .i64 (F.wr : Int)) ∧ w.cell? ⟨d, 195, none⟩ = some (.int .u64 (F.mark : Int)) :=
  ⟨h.cell (cells_tail h.ok).1, h.cell (cells_tail h.ok).2.1, h.cell (cells_tail h.ok).2.2⟩
theorem FoldAt.frozen (h : FoldAt w S d mb F) (i : Nat) : w.frozen? ⟨d, i, none⟩ = false := frozen_row0 h.row
theorem FoldAt.lt (h : FoldAt w S d mb F) : d < w.heap.size ∧ mb < w.heap.size := ⟨(Array.getElem?_eq_some_iff.1 h.row).1, by obtain ⟨L, hm, _⟩ := h.map; exact hm.lt⟩
theorem TextAt.beside {w' : World} {S1 : List Nat} {m : MC} (h : TextAt w S m) (hb : Beside S1 w w') (hS : ∀ x ∈ S1, x ∈ S ∨ w.heap.size ≤ x) : TextAt w' S m :=
  ⟨h.sees.beside hb (h.out.next h.sees hS), h.cap, h.out⟩
theorem TextAt.wider {S1 : List Nat} {m : MC} (h : TextAt w S m) (hS : ∀ x ∈ S1, x ∈ S ∨ w.heap.size ≤ x) : TextAt w S1 m := ⟨h.sees, h.cap, h.out.next h.sees hS⟩
theorem FoldAt.beside {w' : World} {S1 : List Nat} (h : FoldAt w S d mb F) (hb : Beside S1 w w') (hS : ∀ x ∈ S1, (x ∈ S ∧ x ≠ d ∧ x ≠ mb) ∨ w.heap.size ≤ x) : FoldAt w' S d mb F := by
  have hl := h.lt
  have hd : d ∉ S1 := fun hm => by rcases hS d hm with ⟨_, h1, _⟩ | h1 <;> omega
  have hm : mb ∉ S1 := fun hm => by rcases hS mb hm with ⟨_, _, h1⟩ | h1 <;> omega
  refine ⟨(hb.block d hl.1 hd).trans h.row, ?_, h.ok, h.ne, h.dS, h.mS⟩
  obtain ⟨L, h1, h2, h3⟩ := h.map
  exact ⟨L, h1.kept (hb.block mb hl.2 hm), h2, fun p hp => (h3 p hp).beside hb fun x hx => (hS x hx).imp And.left id⟩
theorem FoldAt.below {w' : World} (h : FoldAt w S d mb F) (hb : Below w.heap.size w w') : FoldAt w' S d mb F := h.beside (S1 := []) (.of_below hb _) fun x hx => by cases hx
theorem FoldAt.drewN (h : FoldAt w S d mb F) (k : Nat) : FoldAt (w.drewN k) S d mb F := h.below ⟨rfl, rfl, rfl, Nat.le_refl _, fun _ _ => rfl⟩
theorem FoldAt.wider {S1 : List Nat} (h : FoldAt w S d mb F) (h1 : ∀ x ∈ S, x ∈ S1) (hS : ∀ x ∈ S1, x ∈ S ∨ w.heap.size ≤ x) : FoldAt w S1 d mb F := by
  obtain ⟨L, a, b, c⟩ := h.map
  exact ⟨h.row, ⟨L, a, b, fun p hp => (c p hp).wider hS⟩, h.ok, h.ne, h1 _ h.dS, h1 _ h.mS⟩
end
end Go.Proofs.YtjceeojbnpcpfaaGreat.Fol
