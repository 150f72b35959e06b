/- A fold in memory: its struct, the map of its cells, their texts. Places: At, Compare, the document's Ahead. Package fold: what is told of a fold by its struct alone; hash. -/
import Derived.Maps.OwnSet
import Derived.Maps.RangeWalk
import Derived.Deep.MidRow
import Derived.Sort.Walk0
import Derived.WalkLawsBesides
import Derived.Test.YtmogoopkjkdkgaaGreatVTp01
import Derived.Test.YtmogoopkjkdkgaaGreatVTp04
import Derived.Test.YtmogoopkjkdkgaaGreatVTp05
namespace Go.Proofs.YtmogoopkjkdkgaaGreat.Fol
open Go Go.RowKit Go.Proofs.YtmogoopkjkdkgaaGreat.Words Go.Proofs.YtmogoopkjkdkgaaGreat.Enc Go.Proofs.YtmogoopkjkdkgaaGreat.Q Go.Proofs.YtmogoopkjkdkgaaGreat.Evt
set_option linter.unusedVariables false
set_option linter.unusedSimpArgs false

/-- What a key has; its text lies at A. -/
structure MC where
  kind : Nat
  A : Option Addr
  c : Nat
  text : List UInt8
  num : Nat
def MC.val (m : MC) : Value := .agg #[.int .u8 (m.kind : Int), .slice m.A m.text.length m.c, .float .f64 m.num]
def MC.cel (m : MC) : Cel := ⟨m.kind, m.text, m.num⟩
def zeroC : Value := .agg #[.int .u8 0, .slice none 0 0, .float .f64 0]
def valAt (o : Option MC) : Value := match o with | some m => m.val | none => zeroC
/-- How a cell in the map reads: as itself. -/
def celElem (v : Value) : Option (DataW Value × List MemPlace) := some (.held v, [])
theorem celElem_inv {v : Value} {x : Value} {ps : List MemPlace} (h : celElem v = some (.held x, ps)) : v = x := by
  unfold celElem at h
  injection h with h
  injection h with h _
  injection h
def Shows (D : DataW Value) (L : List (Key × MC)) : Prop :=
  (∀ s, D.atKey (.string s) (.held zeroC) = .held (valAt (lk s L))) ∧ (∀ s, Maps.has D (.string s) = (lk s L).isSome) ∧ Maps.size D = L.length
def MapAt (w : World) (mb : Nat) (L : List (Key × MC)) : Prop := ∃ D, w.ownsMap Tryz.prog 9 celElem mb L.length D ∧ Shows D L
theorem MapAt.lt {w : World} {mb : Nat} {L : List (Key × MC)} (h : MapAt w mb L) : mb < w.heap.size := by obtain ⟨D, h, _⟩ := h; exact h.lt
theorem MapAt.kept {w w' : World} {mb : Nat} {L : List (Key × MC)} (h : MapAt w mb L) (hk : w'.heap[mb]? = w.heap[mb]?) : MapAt w' mb L := by
  obtain ⟨D, ⟨es, clock, hb, r⟩, hs⟩ := h
  exact ⟨D, ⟨es, clock, hk.trans hb, r⟩, hs⟩
theorem keyStr : Maps.Keyed Tryz.prog 9 := Maps.string_keyed Tryz.underlying9
theorem key_mk {k : ByteArray} (hs : k.size ≤ 100000) : keyOf Tryz.prog 9 (.string k) = some (.string k.data.toList) :=
  WideMaps.keyOf_string_mk (P := Tryz.prog) (k := 9) Tryz.underlying9 (s := k) (by unfold maxLen; omega)
theorem zeroCel (w : World) : (zeroValue 69).run Tryz.prog w = .ok zeroC w := by kernel_rfl
theorem ownsMap_tight {w : World} {b n : Nat} {D : DataW Value} (h : w.ownsMap Tryz.prog 9 celElem b n D) : w.ownsMap Tryz.prog 9 celElem b (Maps.size D) D := by
  obtain ⟨es, clock, hb, F, hs, rfl⟩ := h
  refine ⟨es, clock, hb, F, ?_, rfl⟩
  simp [Maps.size, length_sorted]
/-- 'm[key]'. -/
theorem MapAt.run_look {w : World} {mb : Nat} {L : List (Key × MC)} (h : MapAt w mb L) {k : ByteArray} (hs : k.size ≤ 100000) :
    (Instr.lookup 78 (.map (some mb)) (.string k) false).run Tryz.prog w = .ok (valAt (lk k.data.toList L)) w := by
  obtain ⟨D, ho, h1, _⟩ := h
  obtain ⟨v, ps, hr, hv⟩ := ho.lookup keyStr Tryz.underlying78 (zeroCel w) (show celElem zeroC = some (.held zeroC, []) from rfl) (key_mk hs)
  rw [h1] at hv
  rw [hr, celElem_inv hv]
/-- 'v, ok := m[key]'. -/
theorem MapAt.run_look_ok {w : World} {mb : Nat} {L : List (Key × MC)} (h : MapAt w mb L) {k : ByteArray} (hs : k.size ≤ 100000) :
    (Instr.lookup 78 (.map (some mb)) (.string k) true).run Tryz.prog w = .ok (.tuple #[valAt (lk k.data.toList L), .bool (lk k.data.toList L).isSome]) w := by
  obtain ⟨D, ho, h1, h2, _⟩ := h
  obtain ⟨v, ps, hr, hv⟩ := ho.look_ok keyStr Tryz.underlying78 (zeroCel w) (show celElem zeroC = some (.held zeroC, []) from rfl) (key_mk hs)
  rw [h1] at hv
  rw [hr, celElem_inv hv, h2]
theorem MapAt.run_len {w : World} {mb : Nat} {L : List (Key × MC)} (h : MapAt w mb L) (ty : TypeId) :
    (Builtin.len_ #[78] ty #[.map (some mb)]).run Tryz.prog w = .ok (.int .i64 (L.length : Int)) w := by
  obtain ⟨D, ho, h1, h2, h3⟩ := h
  rw [ho.len Tryz.underlying78 ty, h3]
/-- 'm[key] = cell'. -/
theorem MapAt.run_store {w : World} {mb : Nat} {L : List (Key × MC)} (h : MapAt w mb L) (hr : Rise L) (m : MC) {k : ByteArray} (hs : k.size ≤ 100000) (hn : L.length < 1000000000000) :
    ∃ w', (Instr.mapUpdate 78 (.map (some mb)) (.string k) m.val).run Tryz.prog w = .ok () w' ∧ MapAt w' mb (ins k.data.toList m L) ∧ w.mapTurned w' mb := by
  obtain ⟨D, ho, h1, h2, h3⟩ := h
  obtain ⟨w', hrun, ho', ht⟩ := ho.store keyStr Tryz.underlying78 (by unfold maxLen; omega) (key_mk hs) (show celElem m.val = some (.held m.val, []) from rfl)
  have hsz : Maps.size (D.put (.string k.data.toList) (.held m.val)) = (ins k.data.toList m L).length := by
    rw [Maps.size_put (ho.tidy keyStr), h2, h3, len_ins _ _ hr]
  refine ⟨w', hrun, ⟨_, by rw [← hsz]; exact ownsMap_tight ho', fun s => ?_, fun s => ?_, hsz⟩, ht⟩
  · rw [lk_ins]
    by_cases e : s = k.data.toList
    · rw [if_pos e, e, Maps.atKey_put_same ho.isMap (keyStr.key (key_mk hs))]
      rfl
    · rw [if_neg e, Maps.atKey_put_other (by intro h; injection h with h; exact e h), h1]
  · rw [lk_ins]
    by_cases e : s = k.data.toList
    · rw [if_pos e, e, Maps.has_put_same ho.isMap (keyStr.key (key_mk hs))]
      rfl
    · rw [if_neg e, Maps.has_put_other (by intro h; injection h with h; exact e h), h2]
/-- 'delete(m, key)'. -/
theorem MapAt.run_del {w : World} {mb : Nat} {L : List (Key × MC)} (h : MapAt w mb L) (hr : Rise L) {k : ByteArray} (hs : k.size ≤ 100000) (ty : TypeId) :
    ∃ w', (Builtin.delete_ #[78, 9] ty #[.map (some mb), .string k]).run Tryz.prog w = .ok (.tuple #[]) w' ∧ MapAt w' mb (del k.data.toList L) ∧ w.mapTurned w' mb := by
  obtain ⟨D, ho, h1, h2, h3⟩ := h
  obtain ⟨w', hrun, ho', ht⟩ := ho.drop keyStr Tryz.underlying78 (key_mk hs) ty
  have hsz := Maps.size_del (k := .string k.data.toList) (ho.tidy keyStr)
  rw [h2, h3] at hsz
  have hsz2 : Maps.size (D.del (.string k.data.toList)) = (del k.data.toList L).length := by
    rw [len_del]
    split at hsz <;> rename_i hi
    · rw [if_pos hi]; omega
    · rw [if_neg hi]; omega
  refine ⟨w', hrun, ⟨_, by rw [← hsz2]; exact ownsMap_tight ho', fun s => ?_, fun s => ?_, hsz2⟩, ht⟩
  · rw [lk_del _ _ hr]
    by_cases e : s = k.data.toList
    · rw [if_pos e, e, Maps.atKey_del_same]
      rfl
    · rw [if_neg e, Maps.atKey_del_other (by intro h; injection h with h; exact e h), h1]
  · rw [lk_del _ _ hr]
    by_cases e : s = k.data.toList
    · rw [if_pos e, e, Maps.has_del_same]
      rfl
    · rw [if_neg e, Maps.has_del_other (by intro h; injection h with h; exact e h), h2]
theorem mapAt_made (w : World) : MapAt (w.alloc (.map #[] 0)) w.heap.size [] :=
  ⟨_, World.ownsMap_made w Tryz.prog 9 celElem, fun s => rfl, fun s => rfl, rfl⟩

/-- A fold's cells in its struct. -/
def cells (mb : Nat) (F : Fo) : List Value :=
  .map (some mb) :: (F.J.map .bool ++ (F.R.map .bool ++ (F.H.map (fun n : Nat => .int .u64 (n : Int)) ++ [.int .u64 (F.time : Int), .int .i64 (F.wr : Int), .int .u64 (F.mark : Int)])))
def row (mb : Nat) (F : Fo) : Array Value := (cells mb F).toArray
/-- A cell's text in memory; it lies outside S. -/
structure TextAt (w : World) (S : List Nat) (m : MC) : Prop where
  sees : Sees w m.A m.text.length m.text
  cap : m.text.length ≤ m.c
  out : Out S m.A m.text.length
structure FoldAt (w : World) (S : List Nat) (d mb : Nat) (F : Fo) : Prop where
  row : w.heap[d]? = some (.cells (row mb F) 83 (0, 0))
  map : ∃ L : List (Key × MC), MapAt w mb L ∧ mapV MC.cel L = F.L ∧ ∀ p ∈ L, TextAt w S p.2
  ok : Ok F
  ne : d ≠ mb
  dS : d ∈ S
  mS : mb ∈ S

theorem cells_len {mb : Nat} {F : Fo} (h : Ok F) : (cells mb F).length = 196 := by simp [cells, h.j, h.r, h.h]
theorem row_size {mb : Nat} {F : Fo} (h : Ok F) : (row mb F).size = 196 := by simp [row, cells_len h]
theorem cells_J {mb : Nat} {F : Fo} (h : Ok F) {i : Nat} (hi : i < 64) : (cells mb F)[1 + i]? = some (.bool (F.J.getD i false)) := by
  unfold cells
  rw [Nat.add_comm 1 i, List.getElem?_cons_succ, List.getElem?_append_left (by rw [List.length_map, h.j]; exact hi), List.getElem?_map, List.getElem?_eq_getElem (by rw [h.j]; exact hi)]
  simp [List.getD, h.j, hi]
theorem cells_R {mb : Nat} {F : Fo} (h : Ok F) {i : Nat} (hi : i < 64) : (cells mb F)[65 + i]? = some (.bool (F.R.getD i false)) := by
  unfold cells
  rw [show 65 + i = (64 + i) + 1 by omega, List.getElem?_cons_succ, List.getElem?_append_right (by rw [List.length_map, h.j]; omega), List.length_map, h.j, Nat.add_sub_cancel_left,
    List.getElem?_append_left (by rw [List.length_map, h.r]; exact hi), List.getElem?_map, List.getElem?_eq_getElem (by rw [h.r]; exact hi)]
  simp [List.getD, h.r, hi]
theorem cells_H {mb : Nat} {F : Fo} (h : Ok F) {i : Nat} (hi : i < 64) : (cells mb F)[129 + i]? = some (.int .u64 (F.H.getD i 0 : Int)) := by
  unfold cells
  rw [show 129 + i = (64 + (64 + i)) + 1 by omega, List.getElem?_cons_succ, List.getElem?_append_right (by rw [List.length_map, h.j]; omega), List.length_map, h.j, Nat.add_sub_cancel_left,
    List.getElem?_append_right (by rw [List.length_map, h.r]; omega), List.length_map, h.r, Nat.add_sub_cancel_left, List.getElem?_append_left (by rw [List.length_map, h.h]; exact hi), List.getElem?_map, List.getElem?_eq_getElem (by rw [h.h]; exact hi)]
  simp [List.getD, h.h, hi]
theorem cells_tail {mb : Nat} {F : Fo} (h : Ok F) : (cells mb F)[193]? = some (.int .u64 (F.time : Int)) ∧ (cells mb F)[194]? = some (.int .i64 (F.wr : Int)) ∧ (cells mb F)[195]? = some (.int .u64 (F.mark : Int)) := by
  unfold cells
  have e : ∀ k, ((F.J.map Value.bool ++ (F.R.map Value.bool ++ (F.H.map (fun n : Nat => Value.int .u64 (n : Int)) ++ [.int .u64 (F.time : Int), .int .i64 (F.wr : Int), .int .u64 (F.mark : Int)]))))[64 + (64 + (64 + k))]? = [Value.int .u64 (F.time : Int), .int .i64 (F.wr : Int), .int .u64 (F.mark : Int)][k]? := by
    intro k
    rw [List.getElem?_append_right (by rw [List.length_map, h.j]; omega), List.length_map, h.j, Nat.add_sub_cancel_left, List.getElem?_append_right (by rw [List.length_map, h.r]; omega), List.length_map, h.r, Nat.add_sub_cancel_left,
      List.getElem?_append_right (by rw [List.length_map, h.h]; omega), List.length_map, h.h, Nat.add_sub_cancel_left]
  exact ⟨e 0, e 1, e 2⟩

section
variable {w : World} {S : List Nat} {d mb : Nat} {F : Fo}
theorem FoldAt.cell (h : FoldAt w S d mb F) {i : Nat} {v : Value} (hv : (cells mb F)[i]? = some v) : w.cell? ⟨d, i, none⟩ = some v := by
  rw [cell_of_row w d _ _ _ _ h.row]
  simpa [Fol.row] using hv
theorem FoldAt.c0 (h : FoldAt w S d mb F) : w.cell? ⟨d, 0, none⟩ = some (.map (some mb)) := h.cell rfl
theorem FoldAt.cJ (h : FoldAt w S d mb F) {i : Nat} (hi : i < 64) : w.cell? ⟨d, 1 + i, none⟩ = some (.bool (F.J.getD i false)) := h.cell (cells_J h.ok hi)
theorem FoldAt.cR (h : FoldAt w S d mb F) {i : Nat} (hi : i < 64) : w.cell? ⟨d, 65 + i, none⟩ = some (.bool (F.R.getD i false)) := h.cell (cells_R h.ok hi)
theorem FoldAt.cH (h : FoldAt w S d mb F) {i : Nat} (hi : i < 64) : w.cell? ⟨d, 129 + i, none⟩ = some (.int .u64 (F.H.getD i 0 : Int)) := h.cell (cells_H h.ok hi)
theorem FoldAt.cT (h : FoldAt w S d mb F) : w.cell? ⟨d, 193, none⟩ = some (.int .u64 (F.time : Int)) ∧ w.cell? ⟨d, 194, none⟩ = some (.int .i64 (F.wr : Int)) ∧ w.cell? ⟨d, 195, none⟩ = some (.int .u64 (F.mark : Int)) :=
  ⟨h.cell (cells_tail h.ok).1, h.cell (cells_tail h.ok).2.1, h.cell (cells_tail h.ok).2.2⟩
theorem FoldAt.frozen (h : FoldAt w S d mb F) (i : Nat) : w.frozen? ⟨d, i, none⟩ = false := frozen_row0 h.row
theorem FoldAt.lt (h : FoldAt w S d mb F) : d < w.heap.size ∧ mb < w.heap.size := ⟨(Array.getElem?_eq_some_iff.1 h.row).1, by obtain ⟨L, hm, _⟩ := h.map; exact hm.lt⟩
theorem TextAt.beside {w' : World} {S1 : List Nat} {m : MC} (h : TextAt w S m) (hb : Beside S1 w w') (hS : ∀ x ∈ S1, x ∈ S ∨ w.heap.size ≤ x) : TextAt w' S m :=
  ⟨h.sees.beside hb (h.out.next h.sees hS), h.cap, h.out⟩
theorem TextAt.wider {S1 : List Nat} {m : MC} (h : TextAt w S m) (hS : ∀ x ∈ S1, x ∈ S ∨ w.heap.size ≤ x) : TextAt w S1 m := ⟨h.sees, h.cap, h.out.next h.sees hS⟩
theorem FoldAt.beside {w' : World} {S1 : List Nat} (h : FoldAt w S d mb F) (hb : Beside S1 w w') (hS : ∀ x ∈ S1, (x ∈ S ∧ x ≠ d ∧ x ≠ mb) ∨ w.heap.size ≤ x) : FoldAt w' S d mb F := by
  have hl := h.lt
  have hd : d ∉ S1 := fun hm => by rcases hS d hm with ⟨_, h1, _⟩ | h1 <;> omega
  have hm : mb ∉ S1 := fun hm => by rcases hS mb hm with ⟨_, _, h1⟩ | h1 <;> omega
  refine ⟨(hb.block d hl.1 hd).trans h.row, ?_, h.ok, h.ne, h.dS, h.mS⟩
  obtain ⟨L, h1, h2, h3⟩ := h.map
  exact ⟨L, h1.kept (hb.block mb hl.2 hm), h2, fun p hp => (h3 p hp).beside hb fun x hx => (hS x hx).imp And.left id⟩
theorem FoldAt.below {w' : World} (h : FoldAt w S d mb F) (hb : Below w.heap.size w w') : FoldAt w' S d mb F := h.beside (S1 := []) (.of_below hb _) fun x hx => by cases hx
theorem FoldAt.drewN (h : FoldAt w S d mb F) (k : Nat) : FoldAt (w.drewN k) S d mb F := h.below ⟨rfl, rfl, rfl, Nat.le_refl _, fun _ _ => rfl⟩
theorem FoldAt.wider {S1 : List Nat} (h : FoldAt w S d mb F) (h1 : ∀ x ∈ S, x ∈ S1) (hS : ∀ x ∈ S1, x ∈ S ∨ w.heap.size ≤ x) : FoldAt w S1 d mb F := by
  obtain ⟨L, a, b, c⟩ := h.map
  exact ⟨h.row, ⟨L, a, b, fun p hp => (c p hp).wider hS⟩, h.ok, h.ne, h1 _ h.dS, h1 _ h.mS⟩
end
end Go.Proofs.YtmogoopkjkdkgaaGreat.Fol
namespace Go.Proofs.YtmogoopkjkdkgaaGreat.Evt
open Go Go.RowKit Go.Proofs.YtmogoopkjkdkgaaGreat.Words Go.Proofs.YtmogoopkjkdkgaaGreat.Enc Go.Proofs.YtmogoopkjkdkgaaGreat.Q
set_option linter.unusedVariables false

def spotV (t : Nat) (wr : Int) : Value := .agg #[.int .u64 (t : Int), .int .i64 wr]

set_option maxRecDepth 100000 in
theorem at_any (e : Ev) (A : Option Addr) (n c : Nat) (w : World) :
    Calls Tryz.prog 47 #[e.val A n c] w fun e' w' => e' = .returned (spotV e.time e.writer) ∧ Below w.heap.size w w' := by
  unfold Ev.val spotV
  go_enter Tryz.func47, Tryz.ntmps47
  go_wp2
  exact bodyPost_ret (v := .agg #[.int .u64 (e.time : Int), .int .i64 e.writer]) (by simp [results, Tryz.results47, go_sem]) rfl ⟨rfl, ((Below.refl _ _).alloc (Nat.le_refl _) _).alloc (by simp) _⟩
set_option maxRecDepth 100000 in
theorem refAt_any (e : Ev) (A : Option Addr) (n c : Nat) (w : World) :
    Calls Tryz.prog 41 #[e.val A n c] w fun e' w' => e' = .returned (spotV e.time e.writer) ∧ Below w.heap.size w w' := by
  unfold Ev.val spotV
  go_enter Tryz.func41, Tryz.ntmps41
  go_wp2
  exact bodyPost_ret (v := .agg #[.int .u64 (e.time : Int), .int .i64 e.writer]) (by simp [results, Tryz.results41, go_sem]) rfl ⟨rfl, ((Below.refl _ _).alloc (Nat.le_refl _) _).alloc (by simp) _⟩

theorem nanU_any (x : Int) (w : World) : Calls Tryz.prog 106 #[.int .u64 x] w fun e' w' => e' = .returned (.bool false) ∧ w' = w := by
  go_enter Tryz.func106, Tryz.ntmps106
  go_wp2
  go_ret
  simp
theorem nanI_any (x : Int) (w : World) : Calls Tryz.prog 107 #[.int .i64 x] w fun e' w' => e' = .returned (.bool false) ∧ w' = w := by
  go_enter Tryz.func107, Tryz.ntmps107
  go_wp2
  go_ret
  simp
/-- How two numbers stand. -/
def cmpI (a b : Int) : Int := if a < b then -1 else if b < a then 1 else 0
set_option maxRecDepth 100000 in
theorem cmpU_any (a b : Int) (w : World) : Calls Tryz.prog 83 #[.int .u64 a, .int .u64 b] w fun e' w' => e' = .returned (.int .i64 (cmpI a b)) ∧ w' = w := by
  obtain ⟨r, hr⟩ : ∃ r, r = cmpI a b := ⟨_, rfl⟩
  rw [← hr]
  have HR := Lib.hid hr
  clear hr
  go_enter Tryz.func83, Tryz.ntmps83
  go_wp2_with fail
  refine (nanU_any _ _).mono ?_
  rintro e w ⟨rfl, rfl⟩
  go_wp2_with fail
  refine (nanU_any _ _).mono ?_
  rintro e w ⟨rfl, rfl⟩
  go_wp2
  all_goals
    go_ret
    refine ⟨ret_int ?_, rfl⟩
    rw [HR.out]
    unfold cmpI
    repeat' split
    all_goals omega
set_option maxRecDepth 100000 in
theorem cmpI_any (a b : Int) (w : World) : Calls Tryz.prog 84 #[.int .i64 a, .int .i64 b] w fun e' w' => e' = .returned (.int .i64 (cmpI a b)) ∧ w' = w := by
  obtain ⟨r, hr⟩ : ∃ r, r = cmpI a b := ⟨_, rfl⟩
  rw [← hr]
  have HR := Lib.hid hr
  clear hr
  go_enter Tryz.func84, Tryz.ntmps84
  go_wp2_with fail
  refine (nanI_any _ _).mono ?_
  rintro e w ⟨rfl, rfl⟩
  go_wp2_with fail
  refine (nanI_any _ _).mono ?_
  rintro e w ⟨rfl, rfl⟩
  go_wp2
  all_goals
    go_ret
    refine ⟨ret_int ?_, rfl⟩
    rw [HR.out]
    unfold cmpI
    repeat' split
    all_goals omega
set_option maxRecDepth 100000 in
theorem or_any (x y : Int) (g : Nat) (w : World) (h0 : w.cell? ⟨g, 0, none⟩ = some (.int .i64 x)) (h1 : w.cell? ⟨g, 1, none⟩ = some (.int .i64 y)) :
    Calls Tryz.prog 82 #[.slice (some ⟨g, 0, none⟩) 2 2] w fun e' w' => e' = .returned (.int .i64 (if x = 0 then y else x)) ∧ w' = w := by
  obtain ⟨r, hr⟩ : ∃ r, r = (if x = 0 then y else x) := ⟨_, rfl⟩
  rw [← hr]
  have HR := Lib.hid hr
  clear hr
  go_enter Tryz.func82, Tryz.ntmps82
  go_wp2
  go_loop [8] (fun i => i = .int .i64 0 ∨ (i = .int .i64 1 ∧ x = 0) ∨ (i = .int .i64 2 ∧ x = 0 ∧ y = 0)) (fun i => 2 - (intOf i).toNat)
  case atStart => exact .inl rfl
  case round =>
    rcases hrel with rfl | ⟨rfl, h⟩ | ⟨rfl, h, h'⟩
    · by_cases hx : x = 0
      · have hx' : (x == 0) = true := by simp [hx]
        have HX := Lib.hid hx
        clear hx
        go_wp2
        go_round
        case rel => exact .inr (.inl ⟨rfl, HX.out⟩)
        case measure => simp [intOf]
      · have hx' : (x == 0) = false := by rw [beq_eq_false_iff_ne]; exact hx
        have HX := Lib.hid hx
        clear hx
        go_wp2
        go_ret
        exact ⟨by rw [HR.out, if_neg HX.out]; rfl, rfl⟩
    · have HX := Lib.hid h
      clear h
      by_cases hx : y = 0
      · have hx' : (y == 0) = true := by simp [hx]
        have HY := Lib.hid hx
        clear hx
        go_wp2
        go_round
        case rel => exact .inr (.inr ⟨rfl, HX.out, HY.out⟩)
        case measure => simp [intOf]
      · have hx' : (y == 0) = false := by rw [beq_eq_false_iff_ne]; exact hx
        have HY := Lib.hid hx
        clear hx
        go_wp2
        go_ret
        exact ⟨by rw [HR.out, if_pos HX.out]; rfl, rfl⟩
    · have HX := Lib.hid h
      have HY := Lib.hid h'
      clear h h'
      go_wp2
      go_ret
      exact ⟨by rw [HR.out, if_pos HX.out, HY.out]; rfl, rfl⟩

/-- How two places stand. -/
def cmpS (t1 : Nat) (w1 : Int) (t2 : Nat) (w2 : Int) : Int := if cmpI t1 t2 = 0 then cmpI w1 w2 else cmpI t1 t2

/-- Two numbers in a row of their own. -/
def pairPred (x y : Int) : Facts.Pred := ⟨fun v w => ∃ g, v = .slice (some ⟨g, 0, none⟩) 2 2 ∧ w.cell? ⟨g, 0, none⟩ = some (.int .i64 x) ∧ w.cell? ⟨g, 1, none⟩ = some (.int .i64 y),
  fun _ w w' ⟨g, h, h0, h1⟩ hb => ⟨g, h, by rw [hb.cell (World.block_lt_of_cell? _ _ h0)]; exact h0, by rw [hb.cell (World.block_lt_of_cell? _ _ h1)]; exact h1⟩⟩

set_option maxRecDepth 100000 in
theorem compare_any (t1 : Nat) (w1 : Int) (t2 : Nat) (w2 : Int) (w : World) :
    Calls Tryz.prog 46 #[spotV t1 w1, spotV t2 w2] w fun e' w' => e' = .returned (.int .i64 (cmpS t1 w1 t2 w2)) ∧ Below w.heap.size w w' := by
  unfold spotV
  have hc : ∀ W, Below ((w.alloc (.cells #[.int .u64 (t1 : Int), .int .i64 w1] 58)).alloc (.cells #[.int .u64 (t2 : Int), .int .i64 w2] 58)).drew.heap.size ((w.alloc (.cells #[.int .u64 (t1 : Int), .int .i64 w1] 58)).alloc (.cells #[.int .u64 (t2 : Int), .int .i64 w2] 58)).drew W →
      W.cell? ⟨w.heap.size, 0, none⟩ = some (.int .u64 (t1 : Int)) ∧ W.cell? ⟨w.heap.size, 1, none⟩ = some (.int .i64 w1) ∧ W.cell? ⟨w.heap.size + 1, 0, none⟩ = some (.int .u64 (t2 : Int)) ∧ W.cell? ⟨w.heap.size + 1, 1, none⟩ = some (.int .i64 w2) := by
    intro W hW
    refine ⟨?_, ?_, ?_, ?_⟩ <;> (rw [hW.cell (by simp <;> omega)]; simp)
  have HC := Lib.hid hc
  clear hc
  go_enter Tryz.func46, Tryz.ntmps46
  go_wp2_with fail
  refine Facts.wp_region_preds (n := 17) (by kernel_rfl) (by kernel_rfl) rfl [Facts.Pred.is (Value.pointer (some ⟨w.heap.size, 0, none⟩)), Facts.Pred.is (Value.int .u64 (t1 : Int)), Facts.Pred.is (Value.pointer (some ⟨w.heap.size + 1, 0, none⟩)), Facts.Pred.is (Value.int .u64 (t2 : Int)), Facts.Pred.is (Value.int .i64 (cmpI t1 t2)), Facts.Pred.is (Value.pointer (some ⟨w.heap.size, 1, none⟩)), Facts.Pred.is (Value.int .i64 w1), Facts.Pred.is (Value.pointer (some ⟨w.heap.size + 1, 1, none⟩)), Facts.Pred.is (Value.int .i64 w2), Facts.Pred.is (Value.int .i64 (cmpI w1 w2)), pairPred (cmpI t1 t2) (cmpI w1 w2), Facts.Pred.is (Value.int .i64 (cmpS t1 w1 t2 w2)), Facts.Pred.is (Value.int .i64 (cmpS t1 w1 t2 w2))] ?_ ?_
  · refine ⟨?_, ?_, ?_, ?_, ?_, ?_, ?_, ?_, ?_, ?_, ?_, ?_, ?_, trivial⟩
    · refine Facts.step_is (Value.pointer (some ⟨w.heap.size, 0, none⟩)) fun a W hR hold hnew => ?_
      have f2 : a.tmps.getD 2 undef = Value.pointer (some ⟨w.heap.size, 0, none⟩) := hold 2 (by kernel_rfl)
      refine ⟨Facts.wanted_free rfl, ?_, fun _ => rfl⟩; simp [go_sem, Act.eval, f2]
    · refine Facts.step_is (Value.int .u64 (t1 : Int)) fun a W hR hold hnew => ?_
      have f5 : a.tmps.getD 5 undef = Value.pointer (some ⟨w.heap.size, 0, none⟩) := hnew 0 5 (by kernel_rfl)
      obtain ⟨q0, q1, q2, q3⟩ := HC.out W hR
      refine ⟨Facts.wanted_free rfl, ?_, fun _ => rfl⟩; simp [go_sem, Act.eval, f5, q0]
    · refine Facts.step_is (Value.pointer (some ⟨w.heap.size + 1, 0, none⟩)) fun a W hR hold hnew => ?_
      have f3 : a.tmps.getD 3 undef = Value.pointer (some ⟨w.heap.size + 1, 0, none⟩) := hold 3 (by kernel_rfl)
      refine ⟨Facts.wanted_free rfl, ?_, fun _ => rfl⟩; simp [go_sem, Act.eval, f3]
    · refine Facts.step_is (Value.int .u64 (t2 : Int)) fun a W hR hold hnew => ?_
      have f7 : a.tmps.getD 7 undef = Value.pointer (some ⟨w.heap.size + 1, 0, none⟩) := hnew 2 7 (by kernel_rfl)
      obtain ⟨q0, q1, q2, q3⟩ := HC.out W hR
      refine ⟨Facts.wanted_free rfl, ?_, fun _ => rfl⟩; simp [go_sem, Act.eval, f7, q2]
    · -- 4: Op.call { value (Operand.func 40), args := #[t6, t8], argTyp
      refine Facts.step_call fun a W hR hold hnew => ?_
      have f6 : a.tmps.getD 6 undef = Value.int .u64 (t1 : Int) := hnew 1 6 (by kernel_rfl); have f8 : a.tmps.getD 8 undef = Value.int .u64 (t2 : Int) := hnew 3 8 (by kernel_rfl)
      refine ⟨Facts.wanted_free rfl, 83, #[Value.int .u64 (t1 : Int), Value.int .u64 (t2 : Int)], by simp [go_sem, Act.eval, f6, f8], ?_⟩
      refine (cmpU_any _ _ W).mono ?_
      rintro e w' ⟨rfl, rfl⟩
      exact ⟨_, rfl, Below.refl _ _, rfl⟩
    · refine Facts.step_is (Value.pointer (some ⟨w.heap.size, 1, none⟩)) fun a W hR hold hnew => ?_
      have f2 : a.tmps.getD 2 undef = Value.pointer (some ⟨w.heap.size, 0, none⟩) := hold 2 (by kernel_rfl)
      refine ⟨Facts.wanted_free rfl, ?_, fun _ => rfl⟩; simp [go_sem, Act.eval, f2]
    · refine Facts.step_is (Value.int .i64 w1) fun a W hR hold hnew => ?_
      have f10 : a.tmps.getD 10 undef = Value.pointer (some ⟨w.heap.size, 1, none⟩) := hnew 5 10 (by kernel_rfl)
      obtain ⟨q0, q1, q2, q3⟩ := HC.out W hR
      refine ⟨Facts.wanted_free rfl, ?_, fun _ => rfl⟩; simp [go_sem, Act.eval, f10, q1]
    · refine Facts.step_is (Value.pointer (some ⟨w.heap.size + 1, 1, none⟩)) fun a W hR hold hnew => ?_
      have f3 : a.tmps.getD 3 undef = Value.pointer (some ⟨w.heap.size + 1, 0, none⟩) := hold 3 (by kernel_rfl)
      refine ⟨Facts.wanted_free rfl, ?_, fun _ => rfl⟩; simp [go_sem, Act.eval, f3]
    · refine Facts.step_is (Value.int .i64 w2) fun a W hR hold hnew => ?_
      have f12 : a.tmps.getD 12 undef = Value.pointer (some ⟨w.heap.size + 1, 1, none⟩) := hnew 7 12 (by kernel_rfl)
      obtain ⟨q0, q1, q2, q3⟩ := HC.out W hR
      refine ⟨Facts.wanted_free rfl, ?_, fun _ => rfl⟩; simp [go_sem, Act.eval, f12, q3]
    · -- 9: Op.call { value (Operand.func 41), args := #[t11, t13], argT
      refine Facts.step_call fun a W hR hold hnew => ?_
      have f11 : a.tmps.getD 11 undef = Value.int .i64 w1 := hnew 6 11 (by kernel_rfl); have f13 : a.tmps.getD 13 undef = Value.int .i64 w2 := hnew 8 13 (by kernel_rfl)
      refine ⟨Facts.wanted_free rfl, 84, #[Value.int .i64 w1, Value.int .i64 w2], by simp [go_sem, Act.eval, f11, f13], ?_⟩
      refine (cmpI_any _ _ W).mono ?_
      rintro e w' ⟨rfl, rfl⟩
      exact ⟨_, rfl, Below.refl _ _, rfl⟩
    · -- 10: Op.buildSlice 85 2 #[(0, t9), (1, t14)]
      refine Facts.step_new fun a W hR hold hnew => ?_
      have f9 : a.tmps.getD 9 undef = Value.int .i64 (cmpI t1 t2) := hnew 4 9 (by kernel_rfl); have f14 : a.tmps.getD 14 undef = Value.int .i64 (cmpI w1 w2) := hnew 9 14 (by kernel_rfl)
      refine ⟨Facts.wanted_free rfl, .slice (some ⟨W.heap.size, 0, none⟩) 2 2, W.alloc (.cells #[.int .i64 (cmpI t1 t2), .int .i64 (cmpI w1 w2)] 3), ?_, (Below.refl _ _).alloc (Nat.le_refl _) _, _, rfl, ?_, ?_⟩
      · rw [Array.getD_eq_getD_getElem?] at f9 f14
        simp [go_sem, Act.eval, f9, f14]
      · simp
      · simp
    · -- 11: Op.call { value (Operand.func 39), args := #[t15], argTypes 
      refine Facts.step_call fun a W hR hold hnew => ?_
      have h15 : ∃ g, a.tmps.getD 15 undef = .slice (some ⟨g, 0, none⟩) 2 2 ∧ W.cell? ⟨g, 0, none⟩ = some (.int .i64 (cmpI t1 t2)) ∧ W.cell? ⟨g, 1, none⟩ = some (.int .i64 (cmpI w1 w2)) := hnew 10 15 (by kernel_rfl)
      obtain ⟨g, f15, k0, k1⟩ := h15
      refine ⟨Facts.wanted_free rfl, 82, #[.slice (some ⟨g, 0, none⟩) 2 2], by simp [go_sem, Act.eval, f15], ?_⟩
      refine (or_any _ _ g W k0 k1).mono ?_
      rintro e w' ⟨rfl, rfl⟩
      exact ⟨_, rfl, Below.refl _ _, rfl⟩
    · refine Facts.step_is (Value.int .i64 (cmpS t1 w1 t2 w2)) fun a W hR hold hnew => ?_
      have f16 : a.tmps.getD 16 undef = Value.int .i64 (cmpS t1 w1 t2 w2) := hnew 11 16 (by kernel_rfl)
      refine ⟨Facts.wanted_free rfl, ?_, fun _ => rfl⟩; simp [go_sem, Act.eval, f16]
  · intro a w4 hR' hsize hdef hnew hold
    have f4 : a.tmps.getD 4 undef = Value.int .i64 (cmpS t1 w1 t2 w2) := hnew 12 4 (by kernel_rfl)
    obtain ⟨tm, df⟩ := a
    simp only [] at hdef hsize f4
    obtain ⟨xq, hxq, hlit⟩ := Facts.lits tm hsize Facts.idx17 Facts.idx17_eq
    rw [hxq] at f4
    simp only [Facts.idx17, List.map_cons, List.map_nil, f4] at hlit
    clear f4 hsize hnew hold hxq
    subst hlit
    subst hdef
    try simp only []
    have b0 : Below w.heap.size w ((w.alloc (.cells #[.int .u64 (t1 : Int), .int .i64 w1] 58)).alloc (.cells #[.int .u64 (t2 : Int), .int .i64 w2] 58)).drew := (((Below.refl _ _).alloc (Nat.le_refl _) _).alloc (by simp) _).drew
    have b1 := b0.trans (hR'.mono b0.size)
    clear hR' b0 HC
    go_wp2
    go_ret
    exact ⟨rfl, b1⟩

theorem cmpS_lt {t1 : Nat} {w1 : Int} {t2 : Nat} {w2 : Int} : cmpS t1 w1 t2 w2 < 0 ↔ t1 < t2 ∨ t1 = t2 ∧ w1 < w2 := by
  unfold cmpS cmpI
  repeat' split
  all_goals omega
theorem cmpS_gt {t1 : Nat} {w1 : Int} {t2 : Nat} {w2 : Int} : 0 < cmpS t1 w1 t2 w2 ↔ t2 < t1 ∨ t2 = t1 ∧ w2 < w1 := by
  unfold cmpS cmpI
  repeat' split
  all_goals omega
set_option maxRecDepth 100000 in
theorem ahead_any (t1 : Nat) (w1 : Int) (t2 : Nat) (w2 : Int) (w : World) :
    Calls Tryz.prog 40 #[spotV t1 w1, spotV t2 w2] w fun e' w' => e' = .returned (.bool (decide (cmpS t1 w1 t2 w2 < 0))) ∧ Below w.heap.size w w' := by
  unfold spotV
  obtain ⟨r, hr⟩ : ∃ r, r = decide (cmpS t1 w1 t2 w2 < 0) := ⟨_, rfl⟩
  rw [← hr]
  have HR := Lib.hid hr
  clear hr
  have fin : ∀ x : Bool, (x = true ↔ t1 < t2 ∨ t1 = t2 ∧ w1 < w2) → Ending.returned (.bool x) = .returned (.bool r) := fun x hx => by
    rw [HR.out]
    congr 2
    rw [Bool.eq_iff_iff, hx, decide_eq_true_eq, cmpS_lt]
  have FIN := Lib.hid fin
  clear fin HR
  by_cases h1 : t1 < t2
  · have h1' : decide (t1 < t2) = true := decide_eq_true h1
    have H := Lib.hid h1
    clear h1
    go_enter Tryz.func40, Tryz.ntmps40
    go_wp2
    go_ret
    have hh := H.out
    exact ⟨FIN.out _ (by simp; omega), ((Below.refl _ _).alloc (Nat.le_refl _) _).alloc (by simp) _⟩
  · have h1' : decide (t1 < t2) = false := decide_eq_false h1
    by_cases h2 : (t1 : Int) = (t2 : Int)
    · have h2' : ((t1 : Int) == (t2 : Int)) = true := by simp [h2]
      have H := Lib.hid (And.intro h1 h2)
      clear h1 h2
      go_enter Tryz.func40, Tryz.ntmps40
      go_wp2
      go_ret
      have hh := H.out
      exact ⟨FIN.out _ (by simp; omega), ((Below.refl _ _).alloc (Nat.le_refl _) _).alloc (by simp) _⟩
    · have h2' : ((t1 : Int) == (t2 : Int)) = false := by rw [beq_eq_false_iff_ne]; exact h2
      have H := Lib.hid (And.intro h1 h2)
      clear h1 h2
      go_enter Tryz.func40, Tryz.ntmps40
      go_wp2
      go_ret
      have hh := H.out
      exact ⟨FIN.out _ (by simp; omega), ((Below.refl _ _).alloc (Nat.le_refl _) _).alloc (by simp) _⟩
end Go.Proofs.YtmogoopkjkdkgaaGreat.Evt
namespace Go.Proofs.YtmogoopkjkdkgaaGreat.Fol
open Go Go.RowKit Go.Proofs.YtmogoopkjkdkgaaGreat.Words Go.Proofs.YtmogoopkjkdkgaaGreat.Enc Go.Proofs.YtmogoopkjkdkgaaGreat.Q Go.Proofs.YtmogoopkjkdkgaaGreat.Evt
set_option linter.unusedVariables false
set_option linter.unusedSimpArgs false

theorem hashL_lt {m : Nat} (p : List UInt8) (h : m < 18446744073709551616) : hashL m p < 18446744073709551616 := by
  unfold hashL
  induction p generalizing m with
  | nil => exact h
  | cons b r ih => exact ih (Nat.mod_lt _ (by omega))
theorem hashL_snoc (m : Nat) (p : List UInt8) (b : UInt8) : hashL m (p ++ [b]) = ((hashL m p ^^^ b.toNat) * 1099511628211) % 18446744073709551616 := by
  unfold hashL
  rw [List.foldl_append, List.foldl_cons, List.foldl_nil]
theorem hash_step {m b : Nat} (hm : m < 18446744073709551616) (hb : b < 256) : IntKind.u64.wrap (bits .xor .u64 (m : Int) (IntKind.u64.wrap (b : Int)) * 1099511628211) = (((m ^^^ b) * 1099511628211 % 18446744073709551616 : Nat) : Int) := by
  rw [wrap_in b (by omega), u64_xor_nat m b hm (by omega), IntKind.wrap_u64]
  generalize m ^^^ b = x
  omega

set_option maxRecDepth 100000 in
theorem hash_any (m : Nat) (A : Option Addr) (n c : Nat) (l : List UInt8) (w : World) (hs : Sees w A n l) (hm : m < 18446744073709551616) (hn : n ≤ 1000000000000) :
    Calls Tryz.prog 50 #[.int .u64 (m : Int), .slice A n c] w fun e w' => e = .returned (.int .u64 (hashL m l : Int)) ∧ w' = w := by
  have HS := Lib.hid hs
  have hl := hs.1
  clear hs
  go_enter Tryz.func50, Tryz.ntmps50
  go_wp2_with fail
  go_loopw [0, 6, 9, 10, 11, 12, 13, 14, 15, 16, 17, 18] (fun a0 a6 a9 a10 a11 a12 a13 a14 a15 a16 a17 a18 wr => ∃ (j X : Nat), a9 = .int .i64 (j : Int) ∧ a0 = .int .u64 (X : Int) ∧ j ≤ n ∧ Hid (X = hashL m (l.take j)) ∧ X < 18446744073709551616 ∧ w = wr) (fun a0 a6 a9 a10 a11 a12 a13 a14 a15 a16 a17 a18 _ => n - (intOf a9).toNat)
  case atStart => exact ⟨0, m, rfl, rfl, by omega, Lib.hid (by simp [hashL]), hm, rfl⟩
  case round =>
    obtain ⟨j, X, rfl, rfl, hj, HX, hX, rfl⟩ := hrel
    by_cases h1 : j < n
    · obtain ⟨b, o, rfl, hc⟩ := HS.out.2 (by omega)
      have hc1 := hc j l[j] (List.getElem?_eq_getElem (by omega))
      obtain ⟨u, hu⟩ : ∃ u, l[j] = u := ⟨_, rfl⟩
      rw [hu] at hc1
      have HST := Lib.hid (hash_step (m := X) (b := u.toNat) hX u.toNat_lt)
      have HN := Lib.hid (show (X ^^^ u.toNat) * 1099511628211 % 18446744073709551616 = hashL m (l.take (j + 1)) by
        rw [List.take_add_one, List.getElem?_eq_getElem (by omega), hu]
        simp only [Option.toList_some]
        rw [hashL_snoc, HX.out])
      have HY : (X ^^^ u.toNat) * 1099511628211 % 18446744073709551616 < 18446744073709551616 := Nat.mod_lt _ (by omega)
      have hd : decide ((j : Int) < (n : Int)) = true := decide_eq_true (by omega)
      obtain ⟨U, hU⟩ : ∃ U, u.toNat = U := ⟨_, rfl⟩
      rw [hU] at hc1 HST HN HY
      obtain ⟨Y, hY⟩ : ∃ Y, (X ^^^ U) * 1099511628211 % 18446744073709551616 = Y := ⟨_, rfl⟩
      rw [hY] at HST HN HY
      have hst := HST.out
      clear hc hu hU hY
      go_wp2
      go_roundw
      case rel => exact ⟨j + 1, Y, by simp, rfl, by omega, HN, HY, by trivial⟩
      case measure => simp [intOf]; omega
    · have hd : decide ((j : Int) < (n : Int)) = false := decide_eq_false (by omega)
      obtain rfl : j = n := by omega
      have HE := Lib.hid (show X = hashL m l by rw [HX.out, List.take_of_length_le (by omega)])
      go_wp2
      go_ret
      exact ⟨by rw [HE.out]; rfl, rfl⟩

section
variable {S : List Nat} {d mb : Nat} {F : Fo}
set_option maxRecDepth 100000 in
theorem mark_any (w : World) (h : FoldAt w S d mb F) : Calls Tryz.prog 38 #[.pointer (some ⟨d, 0, none⟩)] w fun e w' => e = .returned (.int .u64 (F.mark : Int)) ∧ w' = w := by
  obtain ⟨_, _, c3⟩ := h.cT
  go_enter Tryz.func38, Tryz.ntmps38
  go_wp2
  go_ret
  exact ⟨rfl, rfl⟩
end

section
variable {P : Program} {ops : Array Oper} {rest : List Oper} {op : Oper} {a : Act} {w : World} {Q : Exit → Act → World → Prop}
/-- A row out of the middle of a block, where the operation has a guard that says yes. -/
theorem wpList_load_midG (hw : Region.wanted op (yielded ops a.tmps) = true) (ty : TypeId) (x : Operand) (ho : op.op = .load ty x)
    (b o : Nat) (hx : a.eval x = .pointer (some ⟨b, o, none⟩)) (cs : List Value) (d : TypeDesc) (hc : w.rangeAt b o cs)
    (hu : P.underlying ty = some d) (hd : d.isRow = true) (hi : (P.info? ty).map (·.size) = some cs.length)
    (h : wpList P ops Q rest (a.put op.dst (.agg cs.toArray)) w) : wpList P ops Q (op :: rest) a w := by
  unfold wpList
  rw [if_pos hw]
  exact .inl (wp_load_mid ty x ho b o hx cs d hc hu hd hi h)
end

/-- Sixty-four truths as cells. -/
def bs (l : List Bool) : List Value := l.map .bool
def inSet (l : List Bool) (n : Int) : Bool := decide (0 ≤ n ∧ n < 64) && l.getD n.toNat false
set_option maxRecDepth 100000 in
theorem has_any (l : List Bool) (n : Int) (w : World) (hl : l.length = 64) :
    Calls Tryz.prog 113 #[.agg (bs l).toArray, .int .i64 n] w fun e w' => e = .returned (.bool (inSet l n)) ∧ Below w.heap.size w w' := by
  by_cases h0 : 0 ≤ n
  · by_cases h1 : n < 64
    · have hb : inSet l n = l.getD n.toNat false := by unfold inSet; rw [decide_eq_true ⟨h0, h1⟩, Bool.true_and]
      rw [hb]
      obtain ⟨k, rfl⟩ := Int.eq_ofNat_of_zero_le h0
      have hk : k < 64 := by omega
      have hc : (w.alloc (.cells (bs l).toArray 80)).cell? ⟨w.heap.size, k, none⟩ = some (.bool (l.getD k false)) := by
        rw [cell_of_row _ w.heap.size _ _ _ (0, 0) (heap_alloc_new w _)]
        simp [bs, List.getD, hl, hk]
      rw [Int.toNat_natCast]
      generalize l.getD k false = x at hc ⊢
      have hal : Below w.heap.size w (w.alloc (.cells (bs l).toArray 80)) := (Below.refl _ _).alloc (Nat.le_refl _) _
      have d0 : decide ((0 : Int) ≤ (k : Int)) = true := decide_eq_true h0
      have d1 : decide ((k : Int) < 64) = true := decide_eq_true h1
      generalize bs l = q at hc hal ⊢
      clear hl
      go_enter Tryz.func113, Tryz.ntmps113
      go_wp2
      go_ret
      exact ⟨rfl, hal⟩
    · have hb : inSet l n = false := by unfold inSet; rw [decide_eq_false (fun h => h1 h.2), Bool.false_and]
      rw [hb]
      have hal : Below w.heap.size w (w.alloc (.cells (bs l).toArray 80)) := (Below.refl _ _).alloc (Nat.le_refl _) _
      generalize bs l = q at hal ⊢
      clear hl hb
      go_enter Tryz.func113, Tryz.ntmps113
      go_wp2
      go_ret
      exact ⟨rfl, hal⟩
  · have hb : inSet l n = false := by unfold inSet; rw [decide_eq_false (fun h => h0 h.1), Bool.false_and]
    rw [hb]
    have hal : Below w.heap.size w (w.alloc (.cells (bs l).toArray 80)) := (Below.refl _ _).alloc (Nat.le_refl _) _
    generalize bs l = q at hal ⊢
    clear hl hb
    go_enter Tryz.func113, Tryz.ntmps113
    go_wp2
    go_ret
    exact ⟨rfl, hal⟩

section
variable {S : List Nat} {d mb : Nat} {F : Fo}
theorem FoldAt.rangeJ {w : World} (h : FoldAt w S d mb F) : w.rangeAt d 1 (bs F.J) := by
  intro j v hv
  have hj : j < 64 := by have := (List.getElem?_eq_some_iff.1 hv).1; simpa [bs, h.ok.j] using this
  rw [h.cJ hj, ← hv]
  simp [bs, List.getD, h.ok.j, hj]
theorem FoldAt.rangeR {w : World} (h : FoldAt w S d mb F) : w.rangeAt d 65 (bs F.R) := by
  intro j v hv
  have hj : j < 64 := by have := (List.getElem?_eq_some_iff.1 hv).1; simpa [bs, h.ok.r] using this
  rw [h.cR hj, ← hv]
  simp [bs, List.getD, h.ok.r, hj]
set_option maxRecDepth 100000 in
theorem joined_any (n : Int) (w : World) (h : FoldAt w S d mb F) : Calls Tryz.prog 101 #[.pointer (some ⟨d, 0, none⟩), .int .i64 n] w fun e w' => e = .returned (.bool (inSet F.J n)) ∧ Below w.heap.size w w' := by
  have hr := h.rangeJ
  have hl := h.ok.j
  have hh := has_any F.J n w hl
  have hlen : (bs F.J).length = 64 := by simp [bs, hl]
  clear h hl
  generalize inSet F.J n = x at hh ⊢
  generalize bs F.J = q at hh hr hlen
  have HH := Lib.hid hh
  clear hh
  have hi : (Tryz.prog.info? 80).map (·.size) = some q.length := by rw [hlen]; kernel_rfl
  clear hlen
  go_enter Tryz.func101, Tryz.ntmps101
  go_wp2_with (first | (refine wpList_load_midG (by rfl) 80 (.tmp 10) rfl d 1 rfl q _ hr Tryz.underlying80 rfl hi ?_))
  refine HH.out.mono ?_
  rintro e w1 ⟨rfl, hb⟩
  go_wp2
  go_ret
  exact ⟨rfl, hb⟩
set_option maxRecDepth 100000 in
theorem retired_any (n : Int) (w : World) (h : FoldAt w S d mb F) : Calls Tryz.prog 102 #[.pointer (some ⟨d, 0, none⟩), .int .i64 n] w fun e w' => e = .returned (.bool (inSet F.R n)) ∧ Below w.heap.size w w' := by
  have hr := h.rangeR
  have hl := h.ok.r
  have hh := has_any F.R n w hl
  have hlen : (bs F.R).length = 64 := by simp [bs, hl]
  clear h hl
  generalize inSet F.R n = x at hh ⊢
  generalize bs F.R = q at hh hr hlen
  have HH := Lib.hid hh
  clear hh
  have hi : (Tryz.prog.info? 80).map (·.size) = some q.length := by rw [hlen]; kernel_rfl
  clear hlen
  go_enter Tryz.func102, Tryz.ntmps102
  go_wp2_with (first | (refine wpList_load_midG (by rfl) 80 (.tmp 10) rfl d 65 rfl q _ hr Tryz.underlying80 rfl hi ?_))
  refine HH.out.mono ?_
  rintro e w1 ⟨rfl, hb⟩
  go_wp2
  go_ret
  exact ⟨rfl, hb⟩
def memB (F : Fo) (n : Int) : Bool := inSet F.J n && !inSet F.R n
set_option maxRecDepth 100000 in
theorem member_any (n : Int) (w : World) (h : FoldAt w S d mb F) : Calls Tryz.prog 74 #[.pointer (some ⟨d, 0, none⟩), .int .i64 n] w fun e w' => e = .returned (.bool (memB F n)) ∧ Below w.heap.size w w' := by
  have HJ := Lib.hid (joined_any n w h)
  have HR := Lib.hid (fun W (hb : Below w.heap.size w W) => retired_any n W (h.below hb))
  have hm : memB F n = (inSet F.J n && !inSet F.R n) := rfl
  rw [hm]
  clear h hm
  generalize inSet F.J n = x at HJ ⊢
  generalize inSet F.R n = y at HR ⊢
  go_enter Tryz.func74, Tryz.ntmps74
  go_wp2_with fail
  refine HJ.out.mono ?_
  rintro e w1 ⟨rfl, hb⟩
  cases x with
  | false =>
    go_wp2
    go_ret
    exact ⟨rfl, hb⟩
  | true =>
    go_wp2_with fail
    refine (HR.out w1 hb).mono ?_
    rintro e w2 ⟨rfl, hb2⟩
    cases y <;> (go_wp2; go_ret; exact ⟨rfl, hb.trans (hb2.mono hb.size)⟩)
end
end Go.Proofs.YtmogoopkjkdkgaaGreat.Fol
