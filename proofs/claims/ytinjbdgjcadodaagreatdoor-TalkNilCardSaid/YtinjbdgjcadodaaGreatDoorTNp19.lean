/- Sums of floats: what all agree on. Layer 11: a fold as plain data: keys that rise, what an event makes of it. Lists and numbers alone, no program. A fold in memory: its struct, the map of its cells, their texts. Package fold: what is told of a fold by its struct alone; hash. Package fold: New, Cell. Package fold: Have. -/
import Derived.Sort.KeysCollected
import Derived.Maps.OwnSet
import Derived.Maps.RangeWalk
import Derived.Deep.MidRow
import Derived.Sort.Walk0
import Derived.WalkLawsBesides
import Derived.Laws.Cells
import Derived.StillTailTactics
import Derived.Test.YtinjbdgjcadodaaGreatDoorTNp02
import Derived.Test.YtinjbdgjcadodaaGreatDoorTNp08
import Derived.Test.YtinjbdgjcadodaaGreatDoorTNp17
import Derived.Test.YtinjbdgjcadodaaGreatDoorTNp18
namespace Go.Proofs.YtinjbdgjcadodaaGreatDoor.Q
open Go Go.RowKit Go.Proofs.YtinjbdgjcadodaaGreatDoor.Words
set_option linter.unusedVariables false
set_option linter.unusedSimpArgs false

/-- The bits that all agree on, of what an operation gives. -/
def ob (o : Option Nat) : Nat := match o with | some r => qb r | none => 9221120237041090561
theorem void_nan {x : Nat} {s : Bool} {t : Nat} (h : FloatKind.f64.format.read x = .nan s t) : void x = true := by
  unfold void Ieee.Format.order
  rw [h]
  rfl
theorem read_great (x : Nat) (h : 9218868437227405312 < x % 9223372036854775808) : ∃ s t, FloatKind.f64.format.read x = .nan s t := by
  have e : FloatKind.f64.format.read x = if x % 9223372036854775808 < 4503599627370496 then .number (x / 9223372036854775808 % 2 == 1) (x % 9223372036854775808) (-1074)
    else if x % 9223372036854775808 < 9218868437227405312 then .number (x / 9223372036854775808 % 2 == 1) (4503599627370496 + x % 9223372036854775808 % 4503599627370496) (-1074 + (x % 9223372036854775808 / 4503599627370496 - 1 : Nat))
    else if x % 9223372036854775808 = 9218868437227405312 then .infinity (x / 9223372036854775808 % 2 == 1) else .nan (x / 9223372036854775808 % 2 == 1) (x % 9223372036854775808 - 9218868437227405312) := rfl
  rw [e, if_neg (by omega), if_neg (by omega), if_neg (by omega)]
  exact ⟨_, _, rfl⟩
theorem nan_void (t : Nat) : void ((t % 2) * 2 ^ 63 + 0x7ff0000000000000 + 1 + (t / 2) % (2 ^ 52 - 1)) = true := by
  have h1 : t % 2 < 2 := Nat.mod_lt _ (by omega)
  have h2 : (t / 2) % (2 ^ 52 - 1) < 2 ^ 52 - 1 := Nat.mod_lt _ (by omega)
  generalize t % 2 = a at h1
  generalize (t / 2) % (2 ^ 52 - 1) = b at h2
  obtain ⟨s, u, h⟩ := read_great (a * 2 ^ 63 + 0x7ff0000000000000 + 1 + b) (by omega)
  exact void_nan h
theorem add_any (x y : Nat) (t : TypeId) (w : World) : ∃ r w', (binOp .add t (.float .f64 x) (.float .f64 y)).run Tryz.prog w = .ok (.float .f64 r) w' ∧ qb r = ob (FloatKind.f64.format.add x y) ∧ Below w.heap.size w w' := by
  cases h : FloatKind.f64.format.add x y with
  | some r => exact ⟨r, w, by simp [binOp, Op.floatArith, h], rfl, Below.refl _ _⟩
  | none =>
    refine ⟨Question.cut (.nanBits .f64 x y) (w.tape w.drawn (.nanBits .f64 x y)), w.drew, by simp [binOp, Op.floatArith, h, Question.forced], ?_, (Below.refl _ _).drew⟩
    have hv : void (Question.cut (.nanBits .f64 x y) (w.tape w.drawn (.nanBits .f64 x y))) = true := nan_void _
    rw [qb, hv]; rfl
end Go.Proofs.YtinjbdgjcadodaaGreatDoor.Q
namespace Go.Proofs.YtinjbdgjcadodaaGreatDoor.Fol
open Go Go.RowKit Go.Proofs.YtinjbdgjcadodaaGreatDoor.Words Go.Proofs.YtinjbdgjcadodaaGreatDoor.Enc Go.Proofs.YtinjbdgjcadodaaGreatDoor.Q Go.Proofs.YtinjbdgjcadodaaGreatDoor.Evt
set_option linter.unusedVariables false
set_option linter.unusedSimpArgs false

abbrev Key := List UInt8
theorem key_ne {a b : Key} (h : a < b) : a ≠ b := fun e => List.lt_irrefl _ (e ▸ h)
section
variable {α β : Type}
/-- What stands at a key. -/
def lk (s : Key) (L : List (Key × α)) : Option α := (L.find? fun p => decide (p.1 = s)).map (·.2)
def Rise (L : List (Key × α)) : Prop := L.Pairwise fun p q => p.1 < q.1
/-- A key has that. -/
def ins (k : Key) (c : α) : List (Key × α) → List (Key × α)
  | [] => [(k, c)]
  | p :: r => if p.1 < k then p :: ins k c r else if p.1 = k then (k, c) :: r else (k, c) :: p :: r
/-- A key has nothing. -/
def del (k : Key) : List (Key × α) → List (Key × α)
  | [] => []
  | p :: r => if p.1 = k then r else p :: del k r
/-- How many keys stand ahead of a key. -/
def idx (k : Key) : List (Key × α) → Nat
  | [] => 0
  | p :: r => if p.1 < k then idx k r + 1 else 0

theorem lk_nil (s : Key) : lk s ([] : List (Key × α)) = none := rfl
theorem lk_cons (s : Key) (p : Key × α) (r : List (Key × α)) : lk s (p :: r) = if p.1 = s then some p.2 else lk s r := by
  unfold lk
  rw [List.find?_cons]
  by_cases h : p.1 = s <;> simp [h]
theorem lk_none_iff {s : Key} {L : List (Key × α)} : lk s L = none ↔ ∀ p ∈ L, p.1 ≠ s := by simp [lk]
theorem lk_ins (s k : Key) (c : α) (L : List (Key × α)) : lk s (ins k c L) = if s = k then some c else lk s L := by
  induction L with
  | nil =>
    simp only [ins, lk_cons, lk_nil]
    by_cases h : s = k
    · simp [h]
    · simp [h, Ne.symm h]
  | cons p r ih =>
    simp only [ins]
    split
    · rename_i h
      rw [lk_cons, lk_cons, ih]
      by_cases e : s = k
      · subst e
        rw [if_pos rfl, if_neg (key_ne h), if_pos rfl]
      · rw [if_neg e, if_neg e]
    · rename_i h
      split
      · rename_i h2
        rw [lk_cons, lk_cons]
        by_cases e : s = k
        · subst e; simp
        · simp [e, Ne.symm e, h2]
      · rename_i h2
        rw [lk_cons]
        by_cases e : s = k
        · subst e; simp
        · simp [e, Ne.symm e]
theorem lk_head {k : Key} {q : Key × α} {r : List (Key × α)} (h : Rise (q :: r)) (hk : ¬ q.1 < k) : lk k r = none := by
  rw [lk_none_iff]
  intro p hp e
  have := (List.pairwise_cons.1 h).1 p hp
  rw [e] at this
  exact hk this
theorem lk_del (s k : Key) {L : List (Key × α)} (h : Rise L) : lk s (del k L) = if s = k then none else lk s L := by
  induction L with
  | nil => simp [del, lk_nil]
  | cons q r ih =>
    simp only [del]
    by_cases e : q.1 = k
    · rw [if_pos e]
      by_cases e2 : s = k
      · subst e2
        rw [if_pos rfl]
        exact lk_head h (by rw [e]; exact List.lt_irrefl _)
      · rw [if_neg e2, lk_cons, if_neg (by rw [e]; exact Ne.symm e2)]
    · rw [if_neg e, lk_cons, lk_cons, ih (List.pairwise_cons.1 h).2]
      by_cases e2 : s = k
      · subst e2; rw [if_pos rfl, if_neg e, if_pos rfl]
      · rw [if_neg e2, if_neg e2]
theorem len_ins (k : Key) (c : α) {L : List (Key × α)} (h : Rise L) : (ins k c L).length = if (lk k L).isSome then L.length else L.length + 1 := by
  induction L with
  | nil => simp [ins, lk_nil]
  | cons q r ih =>
    have ih := ih (List.pairwise_cons.1 h).2
    simp only [ins, lk_cons]
    by_cases h1 : q.1 < k
    · rw [if_pos h1, if_neg (key_ne h1), List.length_cons, ih]
      split <;> simp
    · rw [if_neg h1]
      by_cases h2 : q.1 = k
      · rw [if_pos h2, if_pos h2]; simp
      · rw [if_neg h2, if_neg h2, lk_head h h1]; simp
theorem len_del (k : Key) (L : List (Key × α)) : (del k L).length = if (lk k L).isSome then L.length - 1 else L.length := by
  induction L with
  | nil => simp [del, lk_nil]
  | cons q r ih =>
    simp only [del, lk_cons]
    by_cases h2 : q.1 = k
    · rw [if_pos h2, if_pos h2]; simp
    · rw [if_neg h2, if_neg h2, List.length_cons, ih]
      split
      · rename_i hs
        have : r ≠ [] := by rintro rfl; cases hs
        have := List.length_pos_iff.2 this
        simp; omega
      · simp
/-- Is the key there? -/
def there (k : Key) (L : List (Key × α)) : Bool := match L[idx k L]? with
  | some p => decide (p.1 = k)
  | none => false
/-- The same with other values. -/
def mapV (f : α → β) (L : List (Key × α)) : List (Key × β) := L.map fun p => (p.1, f p.2)
theorem mapV_len (f : α → β) (L : List (Key × α)) : (mapV f L).length = L.length := by simp [mapV]
end

/-- What a key has. -/
structure Cel where
  kind : Nat
  text : List UInt8
  num : Nat
/-- A fold. -/
structure Fo where
  L : List (Key × Cel)
  J : List Bool
  R : List Bool
  H : List Nat
  time : Nat
  wr : Nat
  mark : Nat
/-- Does the event stand behind the last one? -/
def behind (F : Fo) (e : Ev) : Prop := F.time < e.time ∨ F.time = e.time ∧ (F.wr : Int) < e.writer
instance (F : Fo) (e : Ev) : Decidable (behind F e) := by unfold behind; infer_instance
/-- The sum of an Add. -/
def sumOf (F : Fo) (k : Key) (x : Nat) : Nat := match lk k F.L with
  | some c => if c.kind = 2 then ob (FloatKind.f64.format.add c.num (qb x)) else qb x
  | none => qb x
def change (F : Fo) (e : Ev) : Fo :=
  if e.kind = 1 then { F with L := ins e.key.data.toList ⟨1, e.text, 0⟩ F.L }
  else if e.kind = 2 then { F with L := ins e.key.data.toList ⟨2, [], qb e.num⟩ F.L }
  else if e.kind = 3 then { F with L := ins e.key.data.toList ⟨2, [], sumOf F e.key.data.toList e.num⟩ F.L }
  else if e.kind = 4 then { F with L := del e.key.data.toList F.L }
  else if e.kind = 5 then { F with J := F.J.set e.node.toNat true }
  else { F with R := F.R.set e.writer.toNat true }
def newF (n : Nat) : Fo := ⟨[], (List.range 64).map fun i => decide (i < n), List.replicate 64 false, List.replicate 64 0, 0, 0, 14695981039346656037⟩

/-- A fold's numbers are in their bounds. -/
structure Ok (F : Fo) : Prop where
  rise : Rise F.L
  j : F.J.length = 64
  r : F.R.length = 64
  h : F.H.length = 64
  hs : ∀ n ∈ F.H, n < 9223372036854775808
  time : F.time < 9223372036854775808
  wr : F.wr ≤ 63
  mark : F.mark < 18446744073709551616
  cel : ∀ p ∈ F.L, p.1.length ≤ 64 ∧ p.2.text.length ≤ 1048576 ∧ p.2.num < 18446744073709551616 ∧ (p.2.kind = 1 ∨ p.2.kind = 2)
  plain : ∀ p ∈ F.L, qb p.2.num = p.2.num
end Go.Proofs.YtinjbdgjcadodaaGreatDoor.Fol
namespace Go.Proofs.YtinjbdgjcadodaaGreatDoor.Fol
open Go Go.RowKit Go.Proofs.YtinjbdgjcadodaaGreatDoor.Words Go.Proofs.YtinjbdgjcadodaaGreatDoor.Enc Go.Proofs.YtinjbdgjcadodaaGreatDoor.Q Go.Proofs.YtinjbdgjcadodaaGreatDoor.Evt
set_option linter.unusedVariables false
set_option linter.unusedSimpArgs false

/-- What a key has; its text lies at A. -/
structure MC where
  kind : Nat
  A : Option Addr
  c : Nat
  text : List UInt8
  num : Nat
def MC.val (m : MC) : Value := .agg #[.int .u8 (m.kind : Int), .slice m.A m.text.length m.c, .float .f64 m.num]
def MC.cel (m : MC) : Cel := ⟨m.kind, m.text, m.num⟩
def zeroC : Value := .agg #[.int .u8 0, .slice none 0 0, .float .f64 0]
def valAt (o : Option MC) : Value := match o with | some m => m.val | none => zeroC
/-- How a cell in the map reads: as itself. -/
def celElem (v : Value) : Option (DataW Value × List MemPlace) := some (.held v, [])
theorem celElem_inv {v : Value} {x : Value} {ps : List MemPlace} (h : celElem v = some (.held x, ps)) : v = x := by
  unfold celElem at h
  injection h with h
  injection h with h _
  injection h
def Shows (D : DataW Value) (L : List (Key × MC)) : Prop :=
  (∀ s, D.atKey (.string s) (.held zeroC) = .held (valAt (lk s L))) ∧ (∀ s, Maps.has D (.string s) = (lk s L).isSome) ∧ Maps.size D = L.length
def MapAt (w : World) (mb : Nat) (L : List (Key × MC)) : Prop := ∃ D, w.ownsMap Tryz.prog 9 celElem mb L.length D ∧ Shows D L
theorem MapAt.lt {w : World} {mb : Nat} {L : List (Key × MC)} (h : MapAt w mb L) : mb < w.heap.size := by obtain ⟨D, h, _⟩ := h; exact h.lt
theorem MapAt.kept {w w' : World} {mb : Nat} {L : List (Key × MC)} (h : MapAt w mb L) (hk : w'.heap[mb]? = w.heap[mb]?) : MapAt w' mb L := by
  obtain ⟨D, ⟨es, clock, hb, r⟩, hs⟩ := h
  exact ⟨D, ⟨es, clock, hk.trans hb, r⟩, hs⟩
theorem keyStr : Maps.Keyed Tryz.prog 9 := Maps.string_keyed Tryz.underlying9
theorem key_mk {k : ByteArray} (hs : k.size ≤ 100000) : keyOf Tryz.prog 9 (.string k) = some (.string k.data.toList) :=
  WideMaps.keyOf_string_mk (P := Tryz.prog) (k := 9) Tryz.underlying9 (s := k) (by unfold maxLen; omega)
theorem zeroCel (w : World) : (zeroValue 63).run Tryz.prog w = .ok zeroC w := by kernel_rfl
theorem ownsMap_tight {w : World} {b n : Nat} {D : DataW Value} (h : w.ownsMap Tryz.prog 9 celElem b n D) : w.ownsMap Tryz.prog 9 celElem b (Maps.size D) D := by
  obtain ⟨es, clock, hb, F, hs, rfl⟩ := h
  refine ⟨es, clock, hb, F, ?_, rfl⟩
  simp [Maps.size, length_sorted]
/-- 'm[key]'. -/
theorem MapAt.run_look {w : World} {mb : Nat} {L : List (Key × MC)} (h : MapAt w mb L) {k : ByteArray} (hs : k.size ≤ 100000) :
    (Instr.lookup 208 (.map (some mb)) (.string k) false).run Tryz.prog w = .ok (valAt (lk k.data.toList L)) w := by
  obtain ⟨D, ho, h1, _⟩ := h
  obtain ⟨v, ps, hr, hv⟩ := ho.lookup keyStr Tryz.underlying208 (zeroCel w) (show celElem zeroC = some (.held zeroC, []) from rfl) (key_mk hs)
  rw [h1] at hv
  rw [hr, celElem_inv hv]
/-- 'm[key] = cell'. -/
theorem MapAt.run_store {w : World} {mb : Nat} {L : List (Key × MC)} (h : MapAt w mb L) (hr : Rise L) (m : MC) {k : ByteArray} (hs : k.size ≤ 100000) (hn : L.length < 1000000000000) :
    ∃ w', (Instr.mapUpdate 208 (.map (some mb)) (.string k) m.val).run Tryz.prog w = .ok () w' ∧ MapAt w' mb (ins k.data.toList m L) ∧ w.mapTurned w' mb := by
  obtain ⟨D, ho, h1, h2, h3⟩ := h
  obtain ⟨w', hrun, ho', ht⟩ := ho.store keyStr Tryz.underlying208 (by unfold maxLen; omega) (key_mk hs) (show celElem m.val = some (.held m.val, []) from rfl)
  have hsz : Maps.size (D.put (.string k.data.toList) (.held m.val)) = (ins k.data.toList m L).length := by
    rw [Maps.size_put (ho.tidy keyStr), h2, h3, len_ins _ _ hr]
  refine ⟨w', hrun, ⟨_, by rw [← hsz]; exact ownsMap_tight ho', fun s => ?_, fun s => ?_, hsz⟩, ht⟩
  · rw [lk_ins]
    by_cases e : s = k.data.toList
    · rw [if_pos e, e, Maps.atKey_put_same ho.isMap (keyStr.key (key_mk hs))]
      rfl
    · rw [if_neg e, Maps.atKey_put_other (by intro h; injection h with h; exact e h), h1]
  · rw [lk_ins]
    by_cases e : s = k.data.toList
    · rw [if_pos e, e, Maps.has_put_same ho.isMap (keyStr.key (key_mk hs))]
      rfl
    · rw [if_neg e, Maps.has_put_other (by intro h; injection h with h; exact e h), h2]
/-- 'delete(m, key)'. -/
theorem MapAt.run_del {w : World} {mb : Nat} {L : List (Key × MC)} (h : MapAt w mb L) (hr : Rise L) {k : ByteArray} (hs : k.size ≤ 100000) (ty : TypeId) :
    ∃ w', (Builtin.delete_ #[208, 9] ty #[.map (some mb), .string k]).run Tryz.prog w = .ok (.tuple #[]) w' ∧ MapAt w' mb (del k.data.toList L) ∧ w.mapTurned w' mb := by
  obtain ⟨D, ho, h1, h2, h3⟩ := h
  obtain ⟨w', hrun, ho', ht⟩ := ho.drop keyStr Tryz.underlying208 (key_mk hs) ty
  have hsz := Maps.size_del (k := .string k.data.toList) (ho.tidy keyStr)
  rw [h2, h3] at hsz
  have hsz2 : Maps.size (D.del (.string k.data.toList)) = (del k.data.toList L).length := by
    rw [len_del]
    split at hsz <;> rename_i hi
    · rw [if_pos hi]; omega
    · rw [if_neg hi]; omega
  refine ⟨w', hrun, ⟨_, by rw [← hsz2]; exact ownsMap_tight ho', fun s => ?_, fun s => ?_, hsz2⟩, ht⟩
  · rw [lk_del _ _ hr]
    by_cases e : s = k.data.toList
    · rw [if_pos e, e, Maps.atKey_del_same]
      rfl
    · rw [if_neg e, Maps.atKey_del_other (by intro h; injection h with h; exact e h), h1]
  · rw [lk_del _ _ hr]
    by_cases e : s = k.data.toList
    · rw [if_pos e, e, Maps.has_del_same]
      rfl
    · rw [if_neg e, Maps.has_del_other (by intro h; injection h with h; exact e h), h2]
theorem mapAt_made (w : World) : MapAt (w.alloc (.map #[] 0)) w.heap.size [] :=
  ⟨_, World.ownsMap_made w Tryz.prog 9 celElem, fun s => rfl, fun s => rfl, rfl⟩

/-- A fold's cells in its struct. -/
def cells (mb : Nat) (F : Fo) : List Value :=
  .map (some mb) :: (F.J.map .bool ++ (F.R.map .bool ++ (F.H.map (fun n : Nat => .int .u64 (n : Int)) ++ [.int .u64 (F.time : Int), .int .i64 (F.wr : Int), .int .u64 (F.mark : Int)])))
def row (mb : Nat) (F : Fo) : Array Value := (cells mb F).toArray
/-- A cell's text in memory; it lies outside S. -/
structure TextAt (w : World) (S : List Nat) (m : MC) : Prop where
  sees : Sees w m.A m.text.length m.text
  cap : m.text.length ≤ m.c
  out : Out S m.A m.text.length
structure FoldAt (w : World) (S : List Nat) (d mb : Nat) (F : Fo) : Prop where
  row : w.heap[d]? = some (.cells (row mb F) 213 (0, 0))
  map : ∃ L : List (Key × MC), MapAt w mb L ∧ mapV MC.cel L = F.L ∧ ∀ p ∈ L, TextAt w S p.2
  ok : Ok F
  ne : d ≠ mb
  dS : d ∈ S
  mS : mb ∈ S

theorem cells_len {mb : Nat} {F : Fo} (h : Ok F) : (cells mb F).length = 196 := by simp [cells, h.j, h.r, h.h]
theorem row_size {mb : Nat} {F : Fo} (h : Ok F) : (row mb F).size = 196 := by simp [row, cells_len h]
theorem cells_J {mb : Nat} {F : Fo} (h : Ok F) {i : Nat} (hi : i < 64) : (cells mb F)[1 + i]? = some (.bool (F.J.getD i false)) := by
  unfold cells
  rw [Nat.add_comm 1 i, List.getElem?_cons_succ, List.getElem?_append_left (by rw [List.length_map, h.j]; exact hi), List.getElem?_map, List.getElem?_eq_getElem (by rw [h.j]; exact hi)]
  simp [List.getD, h.j, hi]
theorem cells_R {mb : Nat} {F : Fo} (h : Ok F) {i : Nat} (hi : i < 64) : (cells mb F)[65 + i]? = some (.bool (F.R.getD i false)) := by
  unfold cells
  rw [show 65 + i = (64 + i) + 1 by omega, List.getElem?_cons_succ, List.getElem?_append_right (by rw [List.length_map, h.j]; omega), List.length_map, h.j, Nat.add_sub_cancel_left,
    List.getElem?_append_left (by rw [List.length_map, h.r]; exact hi), List.getElem?_map, List.getElem?_eq_getElem (by rw [h.r]; exact hi)]
  simp [List.getD, h.r, hi]
theorem cells_H {mb : Nat} {F : Fo} (h : Ok F) {i : Nat} (hi : i < 64) : (cells mb F)[129 + i]? = some (.int .u64 (F.H.getD i 0 : Int)) := by
  unfold cells
  rw [show 129 + i = (64 + (64 + i)) + 1 by omega, List.getElem?_cons_succ, List.getElem?_append_right (by rw [List.length_map, h.j]; omega), List.length_map, h.j, Nat.add_sub_cancel_left,
    List.getElem?_append_right (by rw [List.length_map, h.r]; omega), List.length_map, h.r, Nat.add_sub_cancel_left, List.getElem?_append_left (by rw [List.length_map, h.h]; exact hi), List.getElem?_map, List.getElem?_eq_getElem (by rw [h.h]; exact hi)]
  simp [List.getD, h.h, hi]
section
variable {w : World} {S : List Nat} {d mb : Nat} {F : Fo}
theorem FoldAt.cell (h : FoldAt w S d mb F) {i : Nat} {v : Value} (hv : (cells mb F)[i]? = some v) : w.cell? ⟨d, i, none⟩ = some v := by
  rw [cell_of_row w d _ _ _ _ h.row]
  simpa [Fol.row] using hv
theorem FoldAt.c0 (h : FoldAt w S d mb F) : w.cell? ⟨d, 0, none⟩ = some (.map (some mb)) := h.cell rfl
theorem FoldAt.cJ (h : FoldAt w S d mb F) {i : Nat} (hi : i < 64) : w.cell? ⟨d, 1 + i, none⟩ = some (.bool (F.J.getD i false)) := h.cell (cells_J h.ok hi)
theorem FoldAt.cR (h : FoldAt w S d mb F) {i : Nat} (hi : i < 64) : w.cell? ⟨d, 65 + i, none⟩ = some (.bool (F.R.getD i false)) := h.cell (cells_R h.ok hi)
theorem FoldAt.cH (h : FoldAt w S d mb F) {i : Nat} (hi : i < 64) : w.cell? ⟨d, 129 + i, none⟩ = some (.int .u64 (F.H.getD i 0 : Int)) := h.cell (cells_H h.ok hi)
theorem FoldAt.frozen (h : FoldAt w S d mb F) (i : Nat) : w.frozen? ⟨d, i, none⟩ = false := frozen_row0 h.row
theorem FoldAt.lt (h : FoldAt w S d mb F) : d < w.heap.size ∧ mb < w.heap.size := ⟨(Array.getElem?_eq_some_iff.1 h.row).1, by obtain ⟨L, hm, _⟩ := h.map; exact hm.lt⟩
theorem TextAt.beside {w' : World} {S1 : List Nat} {m : MC} (h : TextAt w S m) (hb : Beside S1 w w') (hS : ∀ x ∈ S1, x ∈ S ∨ w.heap.size ≤ x) : TextAt w' S m :=
  ⟨h.sees.beside hb (h.out.next h.sees hS), h.cap, h.out⟩
theorem TextAt.wider {S1 : List Nat} {m : MC} (h : TextAt w S m) (hS : ∀ x ∈ S1, x ∈ S ∨ w.heap.size ≤ x) : TextAt w S1 m := ⟨h.sees, h.cap, h.out.next h.sees hS⟩
theorem FoldAt.beside {w' : World} {S1 : List Nat} (h : FoldAt w S d mb F) (hb : Beside S1 w w') (hS : ∀ x ∈ S1, (x ∈ S ∧ x ≠ d ∧ x ≠ mb) ∨ w.heap.size ≤ x) : FoldAt w' S d mb F := by
  have hl := h.lt
  have hd : d ∉ S1 := fun hm => by rcases hS d hm with ⟨_, h1, _⟩ | h1 <;> omega
  have hm : mb ∉ S1 := fun hm => by rcases hS mb hm with ⟨_, _, h1⟩ | h1 <;> omega
  refine ⟨(hb.block d hl.1 hd).trans h.row, ?_, h.ok, h.ne, h.dS, h.mS⟩
  obtain ⟨L, h1, h2, h3⟩ := h.map
  exact ⟨L, h1.kept (hb.block mb hl.2 hm), h2, fun p hp => (h3 p hp).beside hb fun x hx => (hS x hx).imp And.left id⟩
theorem FoldAt.below {w' : World} (h : FoldAt w S d mb F) (hb : Below w.heap.size w w') : FoldAt w' S d mb F := h.beside (S1 := []) (.of_below hb _) fun x hx => by cases hx
theorem FoldAt.drewN (h : FoldAt w S d mb F) (k : Nat) : FoldAt (w.drewN k) S d mb F := h.below ⟨rfl, rfl, rfl, Nat.le_refl _, fun _ _ => rfl⟩
theorem FoldAt.wider {S1 : List Nat} (h : FoldAt w S d mb F) (h1 : ∀ x ∈ S, x ∈ S1) (hS : ∀ x ∈ S1, x ∈ S ∨ w.heap.size ≤ x) : FoldAt w S1 d mb F := by
  obtain ⟨L, a, b, c⟩ := h.map
  exact ⟨h.row, ⟨L, a, b, fun p hp => (c p hp).wider hS⟩, h.ok, h.ne, h1 _ h.dS, h1 _ h.mS⟩
end
end Go.Proofs.YtinjbdgjcadodaaGreatDoor.Fol
namespace Go.Proofs.YtinjbdgjcadodaaGreatDoor.Fol
open Go Go.RowKit Go.Proofs.YtinjbdgjcadodaaGreatDoor.Words Go.Proofs.YtinjbdgjcadodaaGreatDoor.Enc Go.Proofs.YtinjbdgjcadodaaGreatDoor.Q Go.Proofs.YtinjbdgjcadodaaGreatDoor.Evt
set_option linter.unusedVariables false
set_option linter.unusedSimpArgs false

section
variable {S : List Nat} {d mb : Nat} {F : Fo}
end

section
variable {P : Program} {ops : Array Oper} {rest : List Oper} {op : Oper} {a : Act} {w : World} {Q : Exit → Act → World → Prop}
/-- A row out of the middle of a block, where the operation has a guard that says yes. -/
theorem wpList_load_midG (hw : Region.wanted op (yielded ops a.tmps) = true) (ty : TypeId) (x : Operand) (ho : op.op = .load ty x)
    (b o : Nat) (hx : a.eval x = .pointer (some ⟨b, o, none⟩)) (cs : List Value) (d : TypeDesc) (hc : w.rangeAt b o cs)
    (hu : P.underlying ty = some d) (hd : d.isRow = true) (hi : (P.info? ty).map (·.size) = some cs.length)
    (h : wpList P ops Q rest (a.put op.dst (.agg cs.toArray)) w) : wpList P ops Q (op :: rest) a w := by
  unfold wpList
  rw [if_pos hw]
  exact .inl (wp_load_mid ty x ho b o hx cs d hc hu hd hi h)
end

/-- Sixty-four truths as cells. -/
def bs (l : List Bool) : List Value := l.map .bool
def inSet (l : List Bool) (n : Int) : Bool := decide (0 ≤ n ∧ n < 64) && l.getD n.toNat false
set_option maxRecDepth 100000 in
theorem has_any (l : List Bool) (n : Int) (w : World) (hl : l.length = 64) :
    Calls Tryz.prog 188 #[.agg (bs l).toArray, .int .i64 n] w fun e w' => e = .returned (.bool (inSet l n)) ∧ Below w.heap.size w w' := by
  by_cases h0 : 0 ≤ n
  · by_cases h1 : n < 64
    · have hb : inSet l n = l.getD n.toNat false := by unfold inSet; rw [decide_eq_true ⟨h0, h1⟩, Bool.true_and]
      rw [hb]
      obtain ⟨k, rfl⟩ := Int.eq_ofNat_of_zero_le h0
      have hk : k < 64 := by omega
      have hc : (w.alloc (.cells (bs l).toArray 209)).cell? ⟨w.heap.size, k, none⟩ = some (.bool (l.getD k false)) := by
        rw [cell_of_row _ w.heap.size _ _ _ (0, 0) (heap_alloc_new w _)]
        simp [bs, List.getD, hl, hk]
      rw [Int.toNat_natCast]
      generalize l.getD k false = x at hc ⊢
      have hal : Below w.heap.size w (w.alloc (.cells (bs l).toArray 209)) := (Below.refl _ _).alloc (Nat.le_refl _) _
      have d0 : decide ((0 : Int) ≤ (k : Int)) = true := decide_eq_true h0
      have d1 : decide ((k : Int) < 64) = true := decide_eq_true h1
      generalize bs l = q at hc hal ⊢
      clear hl
      go_enter Tryz.func188, Tryz.ntmps188
      go_wp2
      go_ret
      exact ⟨rfl, hal⟩
    · have hb : inSet l n = false := by unfold inSet; rw [decide_eq_false (fun h => h1 h.2), Bool.false_and]
      rw [hb]
      have hal : Below w.heap.size w (w.alloc (.cells (bs l).toArray 209)) := (Below.refl _ _).alloc (Nat.le_refl _) _
      generalize bs l = q at hal ⊢
      clear hl hb
      go_enter Tryz.func188, Tryz.ntmps188
      go_wp2
      go_ret
      exact ⟨rfl, hal⟩
  · have hb : inSet l n = false := by unfold inSet; rw [decide_eq_false (fun h => h0 h.1), Bool.false_and]
    rw [hb]
    have hal : Below w.heap.size w (w.alloc (.cells (bs l).toArray 209)) := (Below.refl _ _).alloc (Nat.le_refl _) _
    generalize bs l = q at hal ⊢
    clear hl hb
    go_enter Tryz.func188, Tryz.ntmps188
    go_wp2
    go_ret
    exact ⟨rfl, hal⟩

section
variable {S : List Nat} {d mb : Nat} {F : Fo}
theorem FoldAt.rangeJ {w : World} (h : FoldAt w S d mb F) : w.rangeAt d 1 (bs F.J) := by
  intro j v hv
  have hj : j < 64 := by have := (List.getElem?_eq_some_iff.1 hv).1; simpa [bs, h.ok.j] using this
  rw [h.cJ hj, ← hv]
  simp [bs, List.getD, h.ok.j, hj]
theorem FoldAt.rangeR {w : World} (h : FoldAt w S d mb F) : w.rangeAt d 65 (bs F.R) := by
  intro j v hv
  have hj : j < 64 := by have := (List.getElem?_eq_some_iff.1 hv).1; simpa [bs, h.ok.r] using this
  rw [h.cR hj, ← hv]
  simp [bs, List.getD, h.ok.r, hj]
set_option maxRecDepth 100000 in
theorem joined_any (n : Int) (w : World) (h : FoldAt w S d mb F) : Calls Tryz.prog 118 #[.pointer (some ⟨d, 0, none⟩), .int .i64 n] w fun e w' => e = .returned (.bool (inSet F.J n)) ∧ Below w.heap.size w w' := by
  have hr := h.rangeJ
  have hl := h.ok.j
  have hh := has_any F.J n w hl
  have hlen : (bs F.J).length = 64 := by simp [bs, hl]
  clear h hl
  generalize inSet F.J n = x at hh ⊢
  generalize bs F.J = q at hh hr hlen
  have HH := Lib.hid hh
  clear hh
  have hi : (Tryz.prog.info? 209).map (·.size) = some q.length := by rw [hlen]; kernel_rfl
  clear hlen
  go_enter Tryz.func118, Tryz.ntmps118
  go_wp2_with (first | (refine wpList_load_midG (by rfl) 209 (.tmp 10) rfl d 1 rfl q _ hr Tryz.underlying209 rfl hi ?_))
  refine HH.out.mono ?_
  rintro e w1 ⟨rfl, hb⟩
  go_wp2
  go_ret
  exact ⟨rfl, hb⟩
set_option maxRecDepth 100000 in
theorem retired_any (n : Int) (w : World) (h : FoldAt w S d mb F) : Calls Tryz.prog 119 #[.pointer (some ⟨d, 0, none⟩), .int .i64 n] w fun e w' => e = .returned (.bool (inSet F.R n)) ∧ Below w.heap.size w w' := by
  have hr := h.rangeR
  have hl := h.ok.r
  have hh := has_any F.R n w hl
  have hlen : (bs F.R).length = 64 := by simp [bs, hl]
  clear h hl
  generalize inSet F.R n = x at hh ⊢
  generalize bs F.R = q at hh hr hlen
  have HH := Lib.hid hh
  clear hh
  have hi : (Tryz.prog.info? 209).map (·.size) = some q.length := by rw [hlen]; kernel_rfl
  clear hlen
  go_enter Tryz.func119, Tryz.ntmps119
  go_wp2_with (first | (refine wpList_load_midG (by rfl) 209 (.tmp 10) rfl d 65 rfl q _ hr Tryz.underlying209 rfl hi ?_))
  refine HH.out.mono ?_
  rintro e w1 ⟨rfl, hb⟩
  go_wp2
  go_ret
  exact ⟨rfl, hb⟩
end
end Go.Proofs.YtinjbdgjcadodaaGreatDoor.Fol
namespace Go.Proofs.YtinjbdgjcadodaaGreatDoor.Fol
open Go Go.RowKit Go.Proofs.YtinjbdgjcadodaaGreatDoor.Words Go.Proofs.YtinjbdgjcadodaaGreatDoor.Enc Go.Proofs.YtinjbdgjcadodaaGreatDoor.Q Go.Proofs.YtinjbdgjcadodaaGreatDoor.Evt
set_option linter.unusedVariables false
set_option linter.unusedSimpArgs false

section
variable {P : Program} {ops : Array Oper} {rest : List Oper} {op : Oper} {a : Act} {w : World} {Q : Exit → Act → World → Prop}
theorem wpList_build2 (hgd : op.guard = none) (t : TypeId) (i j : Nat) (x y : Operand) (ho : op.op = .build t #[(i, x), (j, y)]) (vx vy v : Value) (hx : a.eval x = vx) (hy : a.eval y = vy)
    (hrun : (Instr.build t #[(i, vx), (j, vy)]).run P w = .ok v w) (h : wpList P ops Q rest (a.put op.dst v) w) : wpList P ops Q (op :: rest) a w := by
  refine wpList_plain hgd fun K hK => ?_
  unfold Oper.wp execOp
  simp only [ho, List.map_toArray, List.map_cons, List.map_nil, hx, hy, Sem.run_bind, Sem.run_pure, Result.andThen_ok, hrun]
  exact hK _ _ h
end
theorem ok_new (n : Nat) : Ok (newF n) := by
  refine ⟨List.Pairwise.nil, by simp [newF], by simp [newF], by simp [newF], fun x hx => ?_, by simp [newF], by simp [newF], by simp [newF], fun p hp => (by cases hp), fun p hp => (by cases hp)⟩
  have : x = 0 := by simpa [newF] using hx
  omega
theorem row_new (mb n : Nat) (hn : n < 64) : (row mb (newF n)).setIfInBounds (1 + n) (.bool true) = row mb (newF (n + 1)) := by
  unfold row cells newF
  simp only [List.setIfInBounds_toArray]
  congr 1
  rw [Nat.add_comm 1 n, List.set_cons_succ, List.set_append_left _ _ (by simp; omega)]
  congr 2
  refine List.ext_getElem (by simp) fun i h1 h2 => ?_
  simp only [List.getElem_set, List.getElem_map, List.getElem_range]
  split
  · rename_i e
    subst e
    simp
  · rename_i e
    congr 1
    apply decide_eq_decide.2
    omega
set_option maxRecDepth 100000 in
theorem build_new (b : Nat) (W : World) : (Instr.build 213 #[(0, .map (some b)), (5, .int .u64 14695981039346656037)]).run Tryz.prog W = .ok (.agg (row b (newF 0))) W := by kernel_rfl

set_option maxRecDepth 100000 in
theorem new_any (n : Nat) (hn : n ≤ 64) (w : World) :
    Calls Tryz.prog 110 #[.int .i64 (n : Int)] w fun e w' => e = .returned (.pointer (some ⟨w.heap.size + 1, 0, none⟩)) ∧
      FoldAt w' [w.heap.size + 1, w.heap.size] (w.heap.size + 1) w.heap.size (newF n) ∧ Below w.heap.size w w' := by
  have hmk := run_makeMap (P := Tryz.prog) 208 w
  have hmin : min (n : Int) 64 = (n : Int) := by omega
  obtain ⟨R, hR⟩ : ∃ R : Nat → Array Value, ∀ j, row w.heap.size (newF j) = R j := ⟨_, fun _ => rfl⟩
  have hrs : ∀ j, (R j).size = 196 := fun j => by rw [← hR]; exact row_size (ok_new j)
  have HST := Lib.hid (fun (j : Nat) (hj : j < 64) => (by rw [← hR, ← hR]; exact row_new w.heap.size j hj : (R j).setIfInBounds (1 + j) (.bool true) = R (j + 1)))
  have hB := Lib.hid (show Below w.heap.size w ((w.alloc (.map #[] 0)).alloc (.cells (R 0) 213)) from ((Below.refl _ _).alloc (Nat.le_refl _) _).alloc (by simp) _)
  have hH := Lib.hid (show ((w.alloc (.map #[] 0)).alloc (.cells (R 0) 213)).heap[w.heap.size + 1]? = some (.cells (R 0) 213 (0, 0)) by
    have := heap_alloc_new (w.alloc (.map #[] 0)) (.cells (R 0) 213)
    simpa using this)
  have hM := Lib.hid (show MapAt ((w.alloc (.map #[] 0)).alloc (.cells (R 0) 213)) w.heap.size [] from (mapAt_made w).kept (Below.heap_alloc _ _ _ (by simp)))
  have hbn := build_new w.heap.size
  rw [hR] at hbn
  have hBN := Lib.hid hbn
  clear hbn
  have hR := Lib.hid hR
  go_enter Tryz.func110, Tryz.ntmps110
  go_wp2_with (first | (refine wpList_build2 rfl 213 0 5 (.tmp 5) (.const (.int .u64 14695981039346656037)) rfl (.map (some w.heap.size)) (.int .u64 14695981039346656037) (.agg (R 0)) rfl rfl (hBN.out _) ?_))
  go_loopw [4, 10] (fun x y wr => ∃ j : Nat, y = .int .i64 (j : Int) ∧ j ≤ n ∧ wr.heap[w.heap.size + 1]? = some (.cells (R j) 213 (0, 0)) ∧ Below w.heap.size w wr ∧ MapAt wr w.heap.size []) (fun x y _ => n - (intOf y).toNat)
  case atStart => exact ⟨0, rfl, by omega, by simpa using hH.out, by simpa using hB.out, by simpa using hM.out⟩
  case round =>
    obtain ⟨j, rfl, hj, hh, hb, hm⟩ := hrel
    by_cases h1 : j < n
    · have hd : decide ((j : Int) < (n : Int)) = true := decide_eq_true (by omega)
      obtain ⟨v, hv⟩ : ∃ v, (R j)[1 + j]? = some v := ⟨_, Array.getElem?_eq_getElem (by rw [hrs]; omega)⟩
      have hc : wr.cell? ⟨w.heap.size + 1, 1 + j, none⟩ = some v := by rw [cell_of_row wr _ _ _ _ _ hh]; exact hv
      have hf : wr.frozen? ⟨w.heap.size + 1, 1 + j, none⟩ = false := frozen_row0 hh
      have hi : (j : Int) < 64 := by omega
      have HH := Lib.hid hh
      have HB := Lib.hid hb
      have HM := Lib.hid hm
      clear hh hb hm hv
      go_wp2
      go_roundw
      case rel =>
        have e := HST.out j (by omega)
        refine ⟨j + 1, by simp, by omega, ?_, Below.beside HB.out ((Beside.refl [w.heap.size + 1] _).setCell (by simp) _) HB.out.size (by simp), HM.out.kept (heapOther (by omega))⟩
        rw [heapSame HH.out, e]
      case measure => simp [intOf]; omega
    · have hd : decide ((j : Int) < (n : Int)) = false := decide_eq_false (by omega)
      obtain rfl : j = n := by omega
      have HH := Lib.hid hh
      have HB := Lib.hid hb
      have HM := Lib.hid hm
      clear hh hb hm
      go_wp2
      go_ret
      refine ⟨rfl, ⟨?_, ⟨[], HM.out, rfl, fun p hp => by cases hp⟩, ok_new _, by omega, by simp, by simp⟩, HB.out⟩
      rw [HH.out, ← hR.out]
end Go.Proofs.YtinjbdgjcadodaaGreatDoor.Fol
namespace Go.Proofs.YtinjbdgjcadodaaGreatDoor.Fol
open Go Go.RowKit Go.Proofs.YtinjbdgjcadodaaGreatDoor.Words Go.Proofs.YtinjbdgjcadodaaGreatDoor.Enc Go.Proofs.YtinjbdgjcadodaaGreatDoor.Q Go.Proofs.YtinjbdgjcadodaaGreatDoor.Evt
set_option linter.unusedVariables false
set_option linter.unusedSimpArgs false

theorem FoldAt.seesH {S : List Nat} {d mb : Nat} {F : Fo} {w : World} (h : FoldAt w S d mb F) : Vec.SeesU w (some ⟨d, 129, none⟩) 64 F.H := ⟨h.ok.h, fun _ => ⟨d, 129, rfl, fun j x hj => by
  have hj64 : j < 64 := by have h1 := (List.getElem?_eq_some_iff.1 hj).1; have h2 := h.ok.h; omega
  have h3 := h.cH hj64
  rw [show F.H.getD j 0 = x by simp [List.getD, hj]] at h3
  exact h3⟩⟩
set_option maxRecDepth 100000 in
theorem have_any (S : List Nat) (d mb : Nat) (F : Fo) (w : World) (h : FoldAt w S d mb F) :
    Calls Tryz.prog 112 #[.pointer (some ⟨d, 0, none⟩)] w (Vec.Trims w F.H 64) := by
  have TR := Lib.hid (Vec.trim_at (some ⟨d, 129, none⟩) 64 64 F.H w h.seesH (by omega) (by omega) (by omega))
  have c0 := h.c0
  have hlt := h.lt
  have hr := h.row
  unfold Vec.Trims at *
  obtain ⟨K, hK⟩ : ∃ K, K = Vec.trimN F.H 64 := ⟨_, rfl⟩
  rw [← hK] at TR ⊢
  clear h hK
  go_enter Tryz.func112, Tryz.ntmps112
  go_wp2_with fail
  refine TR.out.mono ?_
  rintro e w2 ⟨R, rc, rfl, h1, h2⟩
  have FIN := Lib.hid (And.intro h1 h2)
  clear h1 h2 TR
  go_wp2
  go_ret
  exact ⟨_, _, rfl, FIN.out⟩
end Go.Proofs.YtinjbdgjcadodaaGreatDoor.Fol
