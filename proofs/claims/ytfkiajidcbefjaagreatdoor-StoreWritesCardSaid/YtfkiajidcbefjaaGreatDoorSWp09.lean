/- store: its struct as it lies: 201 cells, with three arrays. DERIVED: THE SHELF's CONTRACTS AT THIS DUMP, IN PLAIN WORDS (tools/lay-plain.mjs out of 'TryzShelf.lean', which tools/lay-shelf.mjs wrote): THE SAME DECLARATIONS UNDER THE SAME NAMES: 'import', 'namespace', 'open', 'def', 'theorem' AND NOTHING ELSE: no command of the shelf's: FOR A HAND-IN. Each laying: the table of numbers ('.._ren') and one theorem, a field a fact of the dump's own or the kernel's comparison; each contract: ONE APPLICATION. The document's Right: its contract. -/
import Derived.Shelf.Small.Bits
import Derived.Shelf.Strconv.Atoi
import Derived.Shelf.Strconv.Itoa0
import Derived.Shelf.Strconv.Itoa1
import Derived.Shelf.LaysM
import Derived.Shelf.Strconv.Itoa2
import Derived.Shelf.Strconv.Itoa3
import Derived.Shelf.Strconv.AtoiErrFast
import Derived.Shelf.Strconv.ParseIntEmpty
import Derived.Shelf.Strconv.AtoiFail
import Derived.Shelf.Strconv.Clone
import Derived.Shelf.Strconv.SyntaxError
import Derived.Shelf.LaysC
import Derived.Shelf.Strconv.ToError
import Derived.Shelf.Strconv.Lower
import Derived.Shelf.Strconv.ParseUint10
import Derived.Shelf.Strconv.ParseUint10Empty
import Derived.Shelf.Strconv.ParseUint10Any
import Derived.Shelf.Strconv.ParseInt10
import Derived.Shelf.Strconv.AtoiLong
import Derived.Shelf.Strconv.AtoiInnerAll
import Derived.Shelf.Strconv.RangeError
import Derived.Shelf.Strconv.ToErrorRange
import Derived.Shelf.Strconv.AtoiAll
import Derived.Shelf.Strings.Search1
import Derived.Shelf.Strings.Search2
import Derived.Shelf.Strings.Cut
import Derived.Shelf.Strings.Shaped
import Derived.Shelf.Sort.Plain
import Derived.Shelf.Strings.Prefix
import Derived.Shelf.Bits.Mul64
import Derived.Shelf.Slices.In.SortNone
import Derived.Ground.SlbCloneProg
import Derived.Shelf.Bytes.SlClone
import Derived.Test.YtfkiajidcbefjaaGreatDoorProg
import Derived.Test.YtfkiajidcbefjaaGreatDoorSWp02
import Derived.Test.YtfkiajidcbefjaaGreatDoorSWp05
import Derived.Test.YtfkiajidcbefjaaGreatDoorSWp08
namespace Go.Proofs.YtfkiajidcbefjaaGreatDoor.St
open Go Go.RowKit Go.Proofs.YtfkiajidcbefjaaGreatDoor.Words Go.Proofs.YtfkiajidcbefjaaGreatDoor.Enc Go.Proofs.YtfkiajidcbefjaaGreatDoor.Fol
set_option linter.unusedVariables false
set_option linter.unusedSimpArgs false

/-- What a store's struct holds. -/
structure Sto where
  d : Nat
  sz : Int
  node : Int
  ser : Nat
  fl : Value
  tm : Nat
  fo : ByteArray
  base : Value
  F : List Value
  ck : Nat
  J : List Bool
  R : List Bool
structure Sto.Ok (s : Sto) : Prop where
  f : s.F.length = 64
  j : s.J.length = 64
  r : s.R.length = 64
def Sto.head (s : Sto) : List Value := [.pointer (some ⟨s.d, 0, none⟩), .int .i64 s.sz, .int .i64 s.node, .int .u64 (s.ser : Int), s.fl, .int .u64 (s.tm : Int), .string s.fo, s.base]
def Sto.cells (s : Sto) : List Value := s.head ++ (s.F ++ ([.int .u64 (s.ck : Int)] ++ (bs s.J ++ bs s.R)))
def Sto.row (s : Sto) : Array Value := s.cells.toArray
theorem head_len (s : Sto) : s.head.length = 8 := rfl
theorem bs_len (l : List Bool) : (bs l).length = l.length := by simp [bs]
theorem cells_len {s : Sto} (h : s.Ok) : s.cells.length = 201 := by simp [Sto.cells, head_len, bs_len, h.f, h.j, h.r]
theorem row_size {s : Sto} (h : s.Ok) : s.row.size = 201 := by simp [Sto.row, cells_len h]
theorem at_mid {α : Type} {a b c : List α} {n k : Nat} (hn : a.length = n) (hk : k < b.length) : (a ++ (b ++ c))[n + k]? = b[k]? := by
  rw [List.getElem?_append_right (by omega), hn, Nat.add_sub_cancel_left, List.getElem?_append_left hk]
theorem set_mid {α : Type} {a b c : List α} {n k : Nat} {v : α} (hn : a.length = n) (hk : k < b.length) : (a ++ (b ++ c)).set (n + k) v = a ++ (b.set k v ++ c) := by
  rw [List.set_append_right _ _ (by omega), hn, Nat.add_sub_cancel_left, List.set_append_left _ _ hk]
theorem Sto.splitC (s : Sto) : s.cells = (s.head ++ s.F) ++ ([.int .u64 (s.ck : Int)] ++ (bs s.J ++ bs s.R)) := by simp [Sto.cells]
theorem Sto.splitJ (s : Sto) : s.cells = (s.head ++ s.F ++ [.int .u64 (s.ck : Int)]) ++ (bs s.J ++ bs s.R) := by simp [Sto.cells]
theorem Sto.splitR (s : Sto) : s.cells = (s.head ++ s.F ++ [.int .u64 (s.ck : Int)] ++ bs s.J) ++ (bs s.R ++ []) := by simp [Sto.cells]
theorem cells_F {s : Sto} (h : s.Ok) {k : Nat} (hk : k < 64) : s.cells[8 + k]? = s.F[k]? := at_mid (head_len s) (by rw [h.f]; exact hk)
theorem cells_C {s : Sto} (h : s.Ok) : s.cells[72]? = some (.int .u64 (s.ck : Int)) := by
  rw [s.splitC]
  exact at_mid (n := 72) (k := 0) (by simp [head_len, h.f]) (by simp)
theorem cells_J {s : Sto} (h : s.Ok) {k : Nat} (hk : k < 64) : s.cells[73 + k]? = some (.bool (s.J.getD k false)) := by
  rw [s.splitJ, at_mid (n := 73) (by simp [head_len, h.f]) (by rw [bs_len, h.j]; exact hk)]
  simp [bs, List.getD, h.j, hk]
theorem cells_R {s : Sto} (h : s.Ok) {k : Nat} (hk : k < 64) : s.cells[137 + k]? = some (.bool (s.R.getD k false)) := by
  rw [s.splitR, at_mid (n := 137) (by simp [head_len, h.f, bs_len, h.j]) (by rw [bs_len, h.r]; exact hk)]
  simp [bs, List.getD, h.r, hk]
theorem set_F {s : Sto} (h : s.Ok) {k : Nat} (hk : k < 64) (v : Value) : s.row.setIfInBounds (8 + k) v = ({ s with F := s.F.set k v } : Sto).row := by
  unfold Sto.row
  rw [List.setIfInBounds_toArray]
  congr 1
  exact set_mid (head_len s) (by rw [h.f]; exact hk)
theorem set_C {s : Sto} (h : s.Ok) (x : Nat) : s.row.setIfInBounds 72 (.int .u64 (x : Int)) = ({ s with ck := x } : Sto).row := by
  unfold Sto.row
  rw [List.setIfInBounds_toArray]
  congr 1
  rw [s.splitC, Sto.splitC]
  exact set_mid (n := 72) (k := 0) (by simp [head_len, h.f]) (by simp)
theorem bs_set (l : List Bool) (k : Nat) (b : Bool) : (bs l).set k (.bool b) = bs (l.set k b) := by simp [bs, List.map_set]
theorem set_J {s : Sto} (h : s.Ok) {k : Nat} (hk : k < 64) (b : Bool) : s.row.setIfInBounds (73 + k) (.bool b) = ({ s with J := s.J.set k b } : Sto).row := by
  unfold Sto.row
  rw [List.setIfInBounds_toArray]
  congr 1
  rw [s.splitJ, Sto.splitJ, set_mid (n := 73) (by simp [head_len, h.f]) (by rw [bs_len, h.j]; exact hk), bs_set]
  rfl
theorem set_R {s : Sto} (h : s.Ok) {k : Nat} (hk : k < 64) (b : Bool) : s.row.setIfInBounds (137 + k) (.bool b) = ({ s with R := s.R.set k b } : Sto).row := by
  unfold Sto.row
  rw [List.setIfInBounds_toArray]
  congr 1
  rw [s.splitR, Sto.splitR, set_mid (n := 137) (by simp [head_len, h.f, bs_len, h.j]) (by rw [bs_len, h.r]; exact hk), bs_set]
  rfl
theorem set_base (s : Sto) (v : Value) : s.row.setIfInBounds 7 v = ({ s with base := v } : Sto).row := by
  unfold Sto.row
  rw [List.setIfInBounds_toArray]
  rfl
/-- A store's struct in the heap. -/
structure StoAt (w : World) (g : Nat) (s : Sto) : Prop where
  row : w.heap[g]? = some (.cells s.row 80 (0, 0))
  ok : s.Ok
section
variable {w : World} {g : Nat} {s : Sto}
theorem StoAt.lt (h : StoAt w g s) : g < w.heap.size := (Array.getElem?_eq_some_iff.1 h.row).1
theorem StoAt.beside {w' : World} {S : List Nat} (h : StoAt w g s) (hb : Beside S w w') (hg : g ∉ S) : StoAt w' g s := ⟨(hb.block g h.lt hg).trans h.row, h.ok⟩
theorem StoAt.below {w' : World} (h : StoAt w g s) (hb : Below w.heap.size w w') : StoAt w' g s := ⟨(hb.block g h.lt).trans h.row, h.ok⟩
theorem StoAt.cell (h : StoAt w g s) {i : Nat} {v : Value} (hv : s.cells[i]? = some v) : w.cell? ⟨g, i, none⟩ = some v := by
  rw [cell_of_row w g _ _ _ _ h.row]
  simpa [Sto.row] using hv
theorem StoAt.head (h : StoAt w g s) : w.cell? ⟨g, 0, none⟩ = some (.pointer (some ⟨s.d, 0, none⟩)) ∧ w.cell? ⟨g, 1, none⟩ = some (.int .i64 s.sz) ∧ w.cell? ⟨g, 2, none⟩ = some (.int .i64 s.node) ∧ w.cell? ⟨g, 3, none⟩ = some (.int .u64 (s.ser : Int)) ∧ w.cell? ⟨g, 4, none⟩ = some s.fl ∧ w.cell? ⟨g, 5, none⟩ = some (.int .u64 (s.tm : Int)) ∧ w.cell? ⟨g, 6, none⟩ = some (.string s.fo) ∧ w.cell? ⟨g, 7, none⟩ = some s.base :=
  ⟨h.cell rfl, h.cell rfl, h.cell rfl, h.cell rfl, h.cell rfl, h.cell rfl, h.cell rfl, h.cell rfl⟩
theorem StoAt.cF (h : StoAt w g s) {k : Nat} (hk : k < 64) {v : Value} (hv : s.F[k]? = some v) : w.cell? ⟨g, 8 + k, none⟩ = some v := h.cell ((cells_F h.ok hk).trans hv)
theorem StoAt.cC (h : StoAt w g s) : w.cell? ⟨g, 72, none⟩ = some (.int .u64 (s.ck : Int)) := h.cell (cells_C h.ok)
theorem StoAt.cJ (h : StoAt w g s) {k : Nat} (hk : k < 64) : w.cell? ⟨g, 73 + k, none⟩ = some (.bool (s.J.getD k false)) := h.cell (cells_J h.ok hk)
theorem StoAt.cR (h : StoAt w g s) {k : Nat} (hk : k < 64) : w.cell? ⟨g, 137 + k, none⟩ = some (.bool (s.R.getD k false)) := h.cell (cells_R h.ok hk)
theorem StoAt.frozen (h : StoAt w g s) (i : Nat) : w.frozen? ⟨g, i, none⟩ = false := frozen_row0 h.row
theorem StoAt.rangeJ (h : StoAt w g s) : w.rangeAt g 73 (bs s.J) := by
  intro j v hv
  have hj : j < 64 := by have := (List.getElem?_eq_some_iff.1 hv).1; simpa [bs, h.ok.j] using this
  rw [h.cJ hj, ← hv]
  simp [bs, List.getD, h.ok.j, hj]
theorem StoAt.rangeR (h : StoAt w g s) : w.rangeAt g 137 (bs s.R) := by
  intro j v hv
  have hj : j < 64 := by have := (List.getElem?_eq_some_iff.1 hv).1; simpa [bs, h.ok.r] using this
  rw [h.cR hj, ← hv]
  simp [bs, List.getD, h.ok.r, hj]
theorem StoAt.setF (h : StoAt w g s) {k : Nat} (hk : k < 64) (v : Value) : StoAt (w.setCell ⟨g, 8 + k, none⟩ v) g { s with F := s.F.set k v } :=
  ⟨by rw [heapSame h.row, set_F h.ok hk], ⟨by simpa using h.ok.f, h.ok.j, h.ok.r⟩⟩
theorem StoAt.setC (h : StoAt w g s) (x : Nat) : StoAt (w.setCell ⟨g, 72, none⟩ (.int .u64 (x : Int))) g { s with ck := x } :=
  ⟨by rw [heapSame h.row, set_C h.ok], ⟨h.ok.f, h.ok.j, h.ok.r⟩⟩
theorem StoAt.setJ (h : StoAt w g s) {k : Nat} (hk : k < 64) (b : Bool) : StoAt (w.setCell ⟨g, 73 + k, none⟩ (.bool b)) g { s with J := s.J.set k b } :=
  ⟨by rw [heapSame h.row, set_J h.ok hk], ⟨h.ok.f, by simpa using h.ok.j, h.ok.r⟩⟩
theorem StoAt.setR (h : StoAt w g s) {k : Nat} (hk : k < 64) (b : Bool) : StoAt (w.setCell ⟨g, 137 + k, none⟩ (.bool b)) g { s with R := s.R.set k b } :=
  ⟨by rw [heapSame h.row, set_R h.ok hk], ⟨h.ok.f, h.ok.j, by simpa using h.ok.r⟩⟩
theorem StoAt.setBase (h : StoAt w g s) (v : Value) : StoAt (w.setCell ⟨g, 7, none⟩ v) g { s with base := v } :=
  ⟨by rw [heapSame h.row, set_base], ⟨h.ok.f, h.ok.j, h.ok.r⟩⟩
end

set_option maxRecDepth 100000 in
theorem isNode_s (n : Nat) (w : World) (hn : n < 64) : Calls Tryz.prog 87 #[.int .i64 (n : Int)] w fun e w' => e = .returned (.bool true) ∧ w' = w := by
  have d0 : decide ((0 : Int) ≤ (n : Int)) = true := decide_eq_true (by omega)
  have d1 : decide ((n : Int) < 64) = true := decide_eq_true (by omega)
  go_enter Tryz.func87, Tryz.ntmps87
  go_wp2
  go_ret
  exact ⟨rfl, rfl⟩
set_option maxRecDepth 100000 in
theorem has_s (l : List Bool) (n : Nat) (w : World) (hl : l.length = 64) (hn : n < 64) :
    Calls Tryz.prog 47 #[.agg (bs l).toArray, .int .i64 (n : Int)] w fun e w' => e = .returned (.bool (l.getD n false)) ∧ Below w.heap.size w w' := by
  have hc : (w.alloc (.cells (bs l).toArray 78)).cell? ⟨w.heap.size, n, none⟩ = some (.bool (l.getD n false)) := by
    rw [cell_of_row _ w.heap.size _ _ _ (0, 0) (heap_alloc_new w _)]
    simp [bs, List.getD, hl, hn]
  generalize l.getD n false = x at hc ⊢
  have hal : Below w.heap.size w (w.alloc (.cells (bs l).toArray 78)) := (Below.refl _ _).alloc (Nat.le_refl _) _
  have d0 : decide ((0 : Int) ≤ (n : Int)) = true := decide_eq_true (by omega)
  have d1 : decide ((n : Int) < 64) = true := decide_eq_true (by omega)
  generalize bs l = q at hc hal ⊢
  have HI := Lib.hid (fun W => isNode_s n W hn)
  clear hl
  go_enter Tryz.func47, Tryz.ntmps47
  go_wp2_with fail
  refine (HI.out _).mono ?_
  rintro e w1 ⟨rfl, rfl⟩
  go_wp2
  go_ret
  exact ⟨rfl, hal⟩
set_option maxRecDepth 100000 in
theorem joined_s (g : Nat) (s : Sto) (n : Nat) (w : World) (h : StoAt w g s) (hn : n < 64) : Calls Tryz.prog 24 #[.pointer (some ⟨g, 0, none⟩), .int .i64 (n : Int)] w fun e w' => e = .returned (.bool (s.J.getD n false)) ∧ Below w.heap.size w w' := by
  have hr := h.rangeJ
  have hh := has_s s.J n w h.ok.j hn
  have hlen : (bs s.J).length = 64 := by rw [bs_len, h.ok.j]
  clear h
  generalize s.J.getD n false = x at hh ⊢
  generalize bs s.J = q at hh hr hlen
  have HH := Lib.hid hh
  clear hh
  have hi : (Tryz.prog.info? 78).map (·.size) = some q.length := by rw [hlen]; kernel_rfl
  clear hlen
  go_enter Tryz.func24, Tryz.ntmps24
  go_wp2_with (first | (refine wpList_load_midG (by rfl) 78 (.tmp 10) rfl g 73 rfl q _ hr Tryz.underlying78 rfl hi ?_))
  refine HH.out.mono ?_
  rintro e w1 ⟨rfl, hb⟩
  go_wp2
  go_ret
  exact ⟨rfl, hb⟩
def memS (s : Sto) (n : Nat) : Bool := s.J.getD n false && !s.R.getD n false
set_option maxRecDepth 100000 in
theorem member_s (g : Nat) (s : Sto) (n : Nat) (w : World) (h : StoAt w g s) (hn : n < 64) : Calls Tryz.prog 26 #[.pointer (some ⟨g, 0, none⟩), .int .i64 (n : Int)] w fun e w' => e = .returned (.bool (memS s n)) ∧ Below w.heap.size w w' := by
  have HJ := Lib.hid (joined_s g s n w h hn)
  have HR := Lib.hid (fun W (hb : Below w.heap.size w W) => (⟨(h.below hb).rangeR, has_s s.R n W h.ok.r hn⟩ : W.rangeAt g 137 (bs s.R) ∧ _))
  have hlen : (bs s.R).length = 64 := by rw [bs_len, h.ok.r]
  have hm : memS s n = (s.J.getD n false && !s.R.getD n false) := rfl
  rw [hm]
  clear h hm
  generalize s.J.getD n false = x at HJ ⊢
  generalize s.R.getD n false = y at HR ⊢
  generalize bs s.R = q at HR hlen
  have hi : (Tryz.prog.info? 78).map (·.size) = some q.length := by rw [hlen]; kernel_rfl
  clear hlen
  go_enter Tryz.func26, Tryz.ntmps26
  go_wp2_with fail
  refine HJ.out.mono ?_
  rintro e w1 ⟨rfl, hb⟩
  obtain ⟨hr, hh⟩ := HR.out w1 hb
  have HH := Lib.hid hh
  have HB := Lib.hid hb
  clear hh hb HR HJ
  cases x with
  | false =>
    go_wp2
    go_ret
    exact ⟨rfl, HB.out⟩
  | true =>
    go_wp2_with (first | (refine wpList_load_midG (by rfl) 78 (.tmp 11) rfl g 137 rfl q _ hr Tryz.underlying78 rfl hi ?_))
    refine HH.out.mono ?_
    rintro e w2 ⟨rfl, hb2⟩
    go_wp2
    go_ret
    exact ⟨rfl, HB.out.trans (hb2.mono HB.out.size)⟩
set_option maxRecDepth 100000 in
theorem node_any (g : Nat) (s : Sto) (w : World) (h : StoAt w g s) : Calls Tryz.prog 25 #[.pointer (some ⟨g, 0, none⟩)] w fun e w' => e = .returned (.int .i64 s.node) ∧ w' = w := by
  obtain ⟨_, _, c2, _⟩ := h.head
  clear h
  go_enter Tryz.func25, Tryz.ntmps25
  go_wp2
  go_ret
  exact ⟨rfl, rfl⟩
set_option maxRecDepth 100000 in
theorem clock_any (g : Nat) (s : Sto) (w : World) (h : StoAt w g s) : Calls Tryz.prog 9 #[.pointer (some ⟨g, 0, none⟩)] w fun e w' => e = .returned (.int .u64 (s.ck : Int)) ∧ w' = w := by
  have c := h.cC
  clear h
  go_enter Tryz.func9, Tryz.ntmps9
  go_wp2
  go_ret
  exact ⟨rfl, rfl⟩
end Go.Proofs.YtfkiajidcbefjaaGreatDoor.St
namespace Go.Proofs
open Go.Shelf
open Go.RowKit Go.Sort in
/-- .. and plain. (LAID: no walk: one application.) -/
theorem Tryz.slices_Sort_string_none (p : Option Addr) (cap : Nat) (w : World) :
    Calls Tryz.prog 127 #[.slice p 0 cap] w fun e w' => e = .returned (.tuple #[]) ∧ w' = w := Any.slices_Sort_string_none Tryz.lays190 p cap w
end Go.Proofs
namespace Go.Proofs.YtfkiajidcbefjaaGreatDoor.Evt
open Go Go.RowKit Go.Proofs.YtfkiajidcbefjaaGreatDoor.Words Go.Proofs.YtfkiajidcbefjaaGreatDoor.Enc Go.Proofs.YtfkiajidcbefjaaGreatDoor.Q
set_option linter.unusedVariables false

/-- What the document's Right says of the values. -/
abbrev RefSays (wr : Int) (sq tm kd : Nat) (key : ByteArray) (A : Option Addr) (n c : Nat) (num : Nat) (node : Int) (w : World) (r : Int) : Prop :=
  Calls Tryz.prog 10 #[.agg #[.int .i64 wr, .int .u64 (sq : Int), .int .u64 (tm : Int), .int .u8 (kd : Int), .string key, .slice A n c, .float .f64 num, .int .i64 node]] w fun e' w' => e' = .returned (.int .i64 r) ∧ Below w.heap.size w w'

theorem box1 (v : Array Value) (w : World) : Below w.heap.size w (w.alloc (.cells v 26)) := (Below.refl _ _).alloc (Nat.le_refl _) _

theorem dec_lim (sq tm : Nat) : (decide ((9223372036854775808 : Int) ≤ (sq : Int)) = true ∧ lim sq tm = 8) ∨ (decide ((9223372036854775808 : Int) ≤ (sq : Int)) = false ∧ decide ((9223372036854775808 : Int) ≤ (tm : Int)) = true ∧ lim sq tm = 8) ∨ (decide ((9223372036854775808 : Int) ≤ (sq : Int)) = false ∧ decide ((9223372036854775808 : Int) ≤ (tm : Int)) = false ∧ lim sq tm = 0) := by
  by_cases h : 9223372036854775808 ≤ sq
  · exact .inl ⟨by simp; omega, lim8 (.inl h)⟩
  · by_cases h2 : 9223372036854775808 ≤ tm
    · exact .inr (.inl ⟨by simp; omega, by simp; omega, lim8 (.inr h2)⟩)
    · exact .inr (.inr ⟨by simp; omega, by simp; omega, lim0 (by omega)⟩)

section
variable {wr : Int} {sq tm kd : Nat} {key : ByteArray} {A : Option Addr} {n c : Nat} {num : Nat} {node : Int} {w : World}
set_option maxRecDepth 100000 in
theorem ref_w1 (h1 : decide (wr < 0) = true) : RefSays wr sq tm kd key A n c num node w 1 := by
  go_enter Tryz.func10, Tryz.ntmps10
  go_wp2
  go_ret
  exact ⟨rfl, box1 _ _⟩
set_option maxRecDepth 100000 in
theorem ref_w2 (h1 : decide (wr < 0) = false) (h2 : decide (63 < wr) = true) : RefSays wr sq tm kd key A n c num node w 1 := by
  go_enter Tryz.func10, Tryz.ntmps10
  go_wp2
  go_ret
  exact ⟨rfl, box1 _ _⟩
set_option maxRecDepth 100000 in
theorem ref_s (h1 : decide (wr < 0) = false) (h2 : decide (63 < wr) = false) (h3 : ((sq : Int) == 0) = true) : RefSays wr sq tm kd key A n c num node w 1 := by
  go_enter Tryz.func10, Tryz.ntmps10
  go_wp2
  go_ret
  exact ⟨rfl, box1 _ _⟩
set_option maxRecDepth 100000 in
theorem ref_t (h1 : decide (wr < 0) = false) (h2 : decide (63 < wr) = false) (h3 : ((sq : Int) == 0) = false) (h4 : ((tm : Int) == 0) = true) : RefSays wr sq tm kd key A n c num node w 1 := by
  go_enter Tryz.func10, Tryz.ntmps10
  go_wp2
  go_ret
  exact ⟨rfl, box1 _ _⟩
set_option maxRecDepth 100000 in
theorem ref_k1 (h1 : decide (wr < 0) = false) (h2 : decide (63 < wr) = false) (h3 : ((sq : Int) == 0) = false) (h4 : ((tm : Int) == 0) = false) (h5 : decide ((kd : Int) < 1) = true) : RefSays wr sq tm kd key A n c num node w 1 := by
  go_enter Tryz.func10, Tryz.ntmps10
  go_wp2
  go_ret
  exact ⟨rfl, box1 _ _⟩
set_option maxRecDepth 100000 in
theorem ref_k2 (h1 : decide (wr < 0) = false) (h2 : decide (63 < wr) = false) (h3 : ((sq : Int) == 0) = false) (h4 : ((tm : Int) == 0) = false) (h5 : decide ((kd : Int) < 1) = false) (h6 : decide (6 < (kd : Int)) = true) : RefSays wr sq tm kd key A n c num node w 1 := by
  go_enter Tryz.func10, Tryz.ntmps10
  go_wp2
  go_ret
  exact ⟨rfl, box1 _ _⟩
set_option maxRecDepth 100000 in
theorem ref_n1 (h1 : decide (wr < 0) = false) (h2 : decide (63 < wr) = false) (h3 : ((sq : Int) == 0) = false) (h4 : ((tm : Int) == 0) = false) (h5 : decide ((kd : Int) < 1) = false) (h6 : decide (6 < (kd : Int)) = false) (h7 : ((kd : Int) == 5) = true) (h8 : decide (node < 0) = true) : RefSays wr sq tm kd key A n c num node w 1 := by
  go_enter Tryz.func10, Tryz.ntmps10
  go_wp2
  go_ret
  exact ⟨rfl, box1 _ _⟩
set_option maxRecDepth 100000 in
theorem ref_n2 (h1 : decide (wr < 0) = false) (h2 : decide (63 < wr) = false) (h3 : ((sq : Int) == 0) = false) (h4 : ((tm : Int) == 0) = false) (h5 : decide ((kd : Int) < 1) = false) (h6 : decide (6 < (kd : Int)) = false) (h7 : ((kd : Int) == 5) = true) (h8 : decide (node < 0) = false) (h9 : decide (63 < node) = true) : RefSays wr sq tm kd key A n c num node w 1 := by
  go_enter Tryz.func10, Tryz.ntmps10
  go_wp2
  go_ret
  exact ⟨rfl, box1 _ _⟩
set_option maxRecDepth 100000 in
set_option maxHeartbeats 1000000 in
theorem ref_5 (h1 : decide (wr < 0) = false) (h2 : decide (63 < wr) = false) (h3 : ((sq : Int) == 0) = false) (h4 : ((tm : Int) == 0) = false) (h5 : decide ((kd : Int) < 1) = false) (h6 : decide (6 < (kd : Int)) = false) (h7 : ((kd : Int) == 5) = true) (h8 : decide (node < 0) = false) (h9 : decide (63 < node) = false) (h10 : decide ((kd : Int) ≤ 4) = false) (h11 : ((kd : Int) == 1) = false) : RefSays wr sq tm kd key A n c num node w (lim sq tm) := by
  rcases dec_lim sq tm with ⟨l1, l3⟩ | ⟨l1, l2, l3⟩ | ⟨l1, l2, l3⟩
  all_goals
    rw [l3]
    clear l3
    go_enter Tryz.func10, Tryz.ntmps10
    go_wp2
    go_ret
    exact ⟨rfl, box1 _ _⟩
set_option maxRecDepth 100000 in
set_option maxHeartbeats 1000000 in
theorem ref_6 (h1 : decide (wr < 0) = false) (h2 : decide (63 < wr) = false) (h3 : ((sq : Int) == 0) = false) (h4 : ((tm : Int) == 0) = false) (h5 : decide ((kd : Int) < 1) = false) (h6 : decide (6 < (kd : Int)) = false) (h7 : ((kd : Int) == 5) = false) (h10 : decide ((kd : Int) ≤ 4) = false) (h11 : ((kd : Int) == 1) = false) : RefSays wr sq tm kd key A n c num node w (lim sq tm) := by
  rcases dec_lim sq tm with ⟨l1, l3⟩ | ⟨l1, l2, l3⟩ | ⟨l1, l2, l3⟩
  all_goals
    rw [l3]
    clear l3
    go_enter Tryz.func10, Tryz.ntmps10
    go_wp2
    go_ret
    exact ⟨rfl, box1 _ _⟩
set_option maxRecDepth 100000 in
theorem ref_k60 (h1 : decide (wr < 0) = false) (h2 : decide (63 < wr) = false) (h3 : ((sq : Int) == 0) = false) (h4 : ((tm : Int) == 0) = false) (h5 : decide ((kd : Int) < 1) = false) (h6 : decide (6 < (kd : Int)) = false) (h7 : ((kd : Int) == 5) = false) (h10 : decide ((kd : Int) ≤ 4) = true) (hl : key.size ≤ 9223372036854775807) (h11 : ((key.size : Int) == 0) = true) : RefSays wr sq tm kd key A n c num node w 6 := by
  go_enter Tryz.func10, Tryz.ntmps10
  go_wp2
  go_ret
  exact ⟨rfl, box1 _ _⟩
set_option maxRecDepth 100000 in
theorem ref_k6l (h1 : decide (wr < 0) = false) (h2 : decide (63 < wr) = false) (h3 : ((sq : Int) == 0) = false) (h4 : ((tm : Int) == 0) = false) (h5 : decide ((kd : Int) < 1) = false) (h6 : decide (6 < (kd : Int)) = false) (h7 : ((kd : Int) == 5) = false) (h10 : decide ((kd : Int) ≤ 4) = true) (hl : key.size ≤ 9223372036854775807) (h11 : ((key.size : Int) == 0) = false) (h12 : decide (64 < (key.size : Int)) = true) : RefSays wr sq tm kd key A n c num node w 6 := by
  go_enter Tryz.func10, Tryz.ntmps10
  go_wp2
  go_ret
  exact ⟨rfl, box1 _ _⟩
set_option maxRecDepth 100000 in
theorem ref_tl (h1 : decide (wr < 0) = false) (h2 : decide (63 < wr) = false) (h3 : ((sq : Int) == 0) = false) (h4 : ((tm : Int) == 0) = false) (h5 : decide ((kd : Int) < 1) = false) (h6 : decide (6 < (kd : Int)) = false) (h7 : ((kd : Int) == 5) = false) (h10 : decide ((kd : Int) ≤ 4) = true) (hl : key.size ≤ 9223372036854775807) (h11 : ((key.size : Int) == 0) = false) (h12 : decide (64 < (key.size : Int)) = false) (h13 : ((kd : Int) == 1) = true) (h14 : decide (1048576 < (n : Int)) = true) : RefSays wr sq tm kd key A n c num node w 6 := by
  go_enter Tryz.func10, Tryz.ntmps10
  go_wp2
  go_ret
  exact ⟨rfl, box1 _ _⟩
set_option maxRecDepth 100000 in
set_option maxHeartbeats 1000000 in
theorem ref_1 (h1 : decide (wr < 0) = false) (h2 : decide (63 < wr) = false) (h3 : ((sq : Int) == 0) = false) (h4 : ((tm : Int) == 0) = false) (h5 : decide ((kd : Int) < 1) = false) (h6 : decide (6 < (kd : Int)) = false) (h7 : ((kd : Int) == 5) = false) (h10 : decide ((kd : Int) ≤ 4) = true) (hl : key.size ≤ 9223372036854775807) (h11 : ((key.size : Int) == 0) = false) (h12 : decide (64 < (key.size : Int)) = false) (h13 : ((kd : Int) == 1) = true) (h14 : decide (1048576 < (n : Int)) = false) : RefSays wr sq tm kd key A n c num node w (lim sq tm) := by
  rcases dec_lim sq tm with ⟨l1, l3⟩ | ⟨l1, l2, l3⟩ | ⟨l1, l2, l3⟩
  all_goals
    rw [l3]
    clear l3
    go_enter Tryz.func10, Tryz.ntmps10
    go_wp2
    go_ret
    exact ⟨rfl, box1 _ _⟩
set_option maxRecDepth 100000 in
set_option maxHeartbeats 1000000 in
theorem ref_2 (h1 : decide (wr < 0) = false) (h2 : decide (63 < wr) = false) (h3 : ((sq : Int) == 0) = false) (h4 : ((tm : Int) == 0) = false) (h5 : decide ((kd : Int) < 1) = false) (h6 : decide (6 < (kd : Int)) = false) (h7 : ((kd : Int) == 5) = false) (h10 : decide ((kd : Int) ≤ 4) = true) (hl : key.size ≤ 9223372036854775807) (h11 : ((key.size : Int) == 0) = false) (h12 : decide (64 < (key.size : Int)) = false) (h13 : ((kd : Int) == 1) = false) : RefSays wr sq tm kd key A n c num node w (lim sq tm) := by
  rcases dec_lim sq tm with ⟨l1, l3⟩ | ⟨l1, l2, l3⟩ | ⟨l1, l2, l3⟩
  all_goals
    rw [l3]
    clear l3
    go_enter Tryz.func10, Tryz.ntmps10
    go_wp2
    go_ret
    exact ⟨rfl, box1 _ _⟩
end
theorem dec_y {p : Prop} [Decidable p] (h : p) : decide p = true := decide_eq_true h
theorem dec_n {p : Prop} [Decidable p] (h : ¬ p) : decide p = false := decide_eq_false h
theorem beq_y {a b : Int} (h : a = b) : (a == b) = true := by subst h; simp
theorem beq_n {a b : Int} (h : ¬ a = b) : (a == b) = false := beq_eq_false_iff_ne.2 h

/-- The document's Right, of any event. -/
theorem refRight_any (e : Ev) (A : Option Addr) (n c : Nat) (w : World) (hf : e.Fit) (hn : n = e.text.length) (hl : e.text.length ≤ 9223372036854775807) (hl2 : e.key.size ≤ 9223372036854775807) :
    Calls Tryz.prog 10 #[e.val A n c] w fun e' w' => e' = .returned (.int .i64 (rightE e : Int)) ∧ Below w.heap.size w w' := by
  show RefSays e.writer e.seq e.time e.kind e.key A n c e.num e.node w (rightE e : Int)
  subst hn
  by_cases h1 : e.writer < 0
  case pos => rw [rightE_bad (e := e) (by omega)]; exact ref_w1 (dec_y h1)
  by_cases h2 : 63 < e.writer
  case pos => rw [rightE_bad (e := e) (by omega)]; exact ref_w2 (dec_n h1) (dec_y h2)
  by_cases h3 : e.seq = 0
  case pos => rw [rightE_bad (e := e) (by omega)]; exact ref_s (dec_n h1) (dec_n h2) (beq_zero h3)
  by_cases h4 : e.time = 0
  case pos => rw [rightE_bad (e := e) (by omega)]; exact ref_t (dec_n h1) (dec_n h2) (beq_pos h3) (beq_zero h4)
  by_cases h5 : (e.kind : Int) < 1
  case pos => rw [rightE_bad (e := e) (by omega)]; exact ref_k1 (dec_n h1) (dec_n h2) (beq_pos h3) (beq_pos h4) (dec_y h5)
  by_cases h6 : 6 < (e.kind : Int)
  case pos => rw [rightE_bad (e := e) (by omega)]; exact ref_k2 (dec_n h1) (dec_n h2) (beq_pos h3) (beq_pos h4) (dec_n h5) (dec_y h6)
  by_cases h7 : (e.kind : Int) = 5
  case pos =>
    by_cases h8 : e.node < 0
    case pos => rw [rightE_bad (e := e) (by omega)]; exact ref_n1 (dec_n h1) (dec_n h2) (beq_pos h3) (beq_pos h4) (dec_n h5) (dec_n h6) (beq_y h7) (dec_y h8)
    by_cases h9 : 63 < e.node
    case pos => rw [rightE_bad (e := e) (by omega)]; exact ref_n2 (dec_n h1) (dec_n h2) (beq_pos h3) (beq_pos h4) (dec_n h5) (dec_n h6) (beq_y h7) (dec_n h8) (dec_y h9)
    rw [rightE_lim (e := e) (by omega) (by omega) (by omega)]
    exact ref_5 (dec_n h1) (dec_n h2) (beq_pos h3) (beq_pos h4) (dec_n h5) (dec_n h6) (beq_y h7) (dec_n h8) (dec_n h9) (dec_n (by omega)) (beq_n (by omega))
  by_cases h10 : (e.kind : Int) ≤ 4
  case neg =>
    rw [rightE_lim (e := e) (by omega) (by omega) (by omega)]
    exact ref_6 (dec_n h1) (dec_n h2) (beq_pos h3) (beq_pos h4) (dec_n h5) (dec_n h6) (beq_n h7) (dec_n h10) (beq_n (by omega))
  by_cases h11 : e.key.size = 0
  case pos =>
    rw [rightE_long (e := e) (by omega) (by omega) (by omega)]
    exact ref_k60 (dec_n h1) (dec_n h2) (beq_pos h3) (beq_pos h4) (dec_n h5) (dec_n h6) (beq_n h7) (dec_y h10) hl2 (beq_zero h11)
  by_cases h12 : 64 < (e.key.size : Int)
  case pos =>
    rw [rightE_long (e := e) (by omega) (by omega) (by omega)]
    exact ref_k6l (dec_n h1) (dec_n h2) (beq_pos h3) (beq_pos h4) (dec_n h5) (dec_n h6) (beq_n h7) (dec_y h10) hl2 (beq_pos h11) (dec_y h12)
  by_cases h13 : (e.kind : Int) = 1
  case neg =>
    rw [rightE_lim (e := e) (by omega) (by omega) (by omega)]
    exact ref_2 (dec_n h1) (dec_n h2) (beq_pos h3) (beq_pos h4) (dec_n h5) (dec_n h6) (beq_n h7) (dec_y h10) hl2 (beq_pos h11) (dec_n h12) (beq_n h13)
  by_cases h14 : 1048576 < (e.text.length : Int)
  case pos =>
    rw [rightE_long (e := e) (by omega) (by omega) (by omega)]
    exact ref_tl (dec_n h1) (dec_n h2) (beq_pos h3) (beq_pos h4) (dec_n h5) (dec_n h6) (beq_n h7) (dec_y h10) hl2 (beq_pos h11) (dec_n h12) (beq_y h13) (dec_y h14)
  rw [rightE_lim (e := e) (by omega) (by omega) (by omega)]
  exact ref_1 (dec_n h1) (dec_n h2) (beq_pos h3) (beq_pos h4) (dec_n h5) (dec_n h6) (beq_n h7) (dec_y h10) hl2 (beq_pos h11) (dec_n h12) (beq_y h13) (dec_n h14)
end Go.Proofs.YtfkiajidcbefjaaGreatDoor.Evt
