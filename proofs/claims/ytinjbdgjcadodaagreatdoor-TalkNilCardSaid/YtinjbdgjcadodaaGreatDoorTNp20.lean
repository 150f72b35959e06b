/- store: its struct as it lies: 201 cells, with three arrays. store: the feeds are opened, on a disk that has no file of any. feed: All of a feed without parts. store: all feeds are opened, on a disk that has no file of any. store: Lists, of feeds without parts. -/
import Derived.Deep.RegionWith
import Derived.Deep.RegionHeld3
import Derived.Test.YtinjbdgjcadodaaGreatDoorTNp11
import Derived.Test.YtinjbdgjcadodaaGreatDoorTNp15
import Derived.Test.YtinjbdgjcadodaaGreatDoorTNp17
import Derived.Test.YtinjbdgjcadodaaGreatDoorTNp19
namespace Go.Proofs.YtinjbdgjcadodaaGreatDoor.St
open Go Go.RowKit Go.Proofs.YtinjbdgjcadodaaGreatDoor.Words Go.Proofs.YtinjbdgjcadodaaGreatDoor.Enc Go.Proofs.YtinjbdgjcadodaaGreatDoor.Fol
set_option linter.unusedVariables false
set_option linter.unusedSimpArgs false

/-- What a store's struct holds. -/
structure Sto where
  d : Nat
  sz : Int
  node : Int
  ser : Nat
  fl : Value
  tm : Nat
  fo : ByteArray
  base : Value
  F : List Value
  ck : Nat
  J : List Bool
  R : List Bool
structure Sto.Ok (s : Sto) : Prop where
  f : s.F.length = 64
  j : s.J.length = 64
  r : s.R.length = 64
def Sto.head (s : Sto) : List Value := [.pointer (some ⟨s.d, 0, none⟩), .int .i64 s.sz, .int .i64 s.node, .int .u64 (s.ser : Int), s.fl, .int .u64 (s.tm : Int), .string s.fo, s.base]
def Sto.cells (s : Sto) : List Value := s.head ++ (s.F ++ ([.int .u64 (s.ck : Int)] ++ (bs s.J ++ bs s.R)))
def Sto.row (s : Sto) : Array Value := s.cells.toArray
theorem head_len (s : Sto) : s.head.length = 8 := rfl
theorem bs_len (l : List Bool) : (bs l).length = l.length := by simp [bs]
theorem cells_len {s : Sto} (h : s.Ok) : s.cells.length = 201 := by simp [Sto.cells, head_len, bs_len, h.f, h.j, h.r]
theorem row_size {s : Sto} (h : s.Ok) : s.row.size = 201 := by simp [Sto.row, cells_len h]
theorem at_mid {α : Type} {a b c : List α} {n k : Nat} (hn : a.length = n) (hk : k < b.length) : (a ++ (b ++ c))[n + k]? = b[k]? := by
  rw [List.getElem?_append_right (by omega), hn, Nat.add_sub_cancel_left, List.getElem?_append_left hk]
theorem set_mid {α : Type} {a b c : List α} {n k : Nat} {v : α} (hn : a.length = n) (hk : k < b.length) : (a ++ (b ++ c)).set (n + k) v = a ++ (b.set k v ++ c) := by
  rw [List.set_append_right _ _ (by omega), hn, Nat.add_sub_cancel_left, List.set_append_left _ _ hk]
theorem Sto.splitC (s : Sto) : s.cells = (s.head ++ s.F) ++ ([.int .u64 (s.ck : Int)] ++ (bs s.J ++ bs s.R)) := by simp [Sto.cells]
theorem Sto.splitJ (s : Sto) : s.cells = (s.head ++ s.F ++ [.int .u64 (s.ck : Int)]) ++ (bs s.J ++ bs s.R) := by simp [Sto.cells]
theorem Sto.splitR (s : Sto) : s.cells = (s.head ++ s.F ++ [.int .u64 (s.ck : Int)] ++ bs s.J) ++ (bs s.R ++ []) := by simp [Sto.cells]
theorem cells_F {s : Sto} (h : s.Ok) {k : Nat} (hk : k < 64) : s.cells[8 + k]? = s.F[k]? := at_mid (head_len s) (by rw [h.f]; exact hk)
theorem cells_C {s : Sto} (h : s.Ok) : s.cells[72]? = some (.int .u64 (s.ck : Int)) := by
  rw [s.splitC]
  exact at_mid (n := 72) (k := 0) (by simp [head_len, h.f]) (by simp)
theorem cells_J {s : Sto} (h : s.Ok) {k : Nat} (hk : k < 64) : s.cells[73 + k]? = some (.bool (s.J.getD k false)) := by
  rw [s.splitJ, at_mid (n := 73) (by simp [head_len, h.f]) (by rw [bs_len, h.j]; exact hk)]
  simp [bs, List.getD, h.j, hk]
theorem cells_R {s : Sto} (h : s.Ok) {k : Nat} (hk : k < 64) : s.cells[137 + k]? = some (.bool (s.R.getD k false)) := by
  rw [s.splitR, at_mid (n := 137) (by simp [head_len, h.f, bs_len, h.j]) (by rw [bs_len, h.r]; exact hk)]
  simp [bs, List.getD, h.r, hk]
theorem set_F {s : Sto} (h : s.Ok) {k : Nat} (hk : k < 64) (v : Value) : s.row.setIfInBounds (8 + k) v = ({ s with F := s.F.set k v } : Sto).row := by
  unfold Sto.row
  rw [List.setIfInBounds_toArray]
  congr 1
  exact set_mid (head_len s) (by rw [h.f]; exact hk)
theorem set_C {s : Sto} (h : s.Ok) (x : Nat) : s.row.setIfInBounds 72 (.int .u64 (x : Int)) = ({ s with ck := x } : Sto).row := by
  unfold Sto.row
  rw [List.setIfInBounds_toArray]
  congr 1
  rw [s.splitC, Sto.splitC]
  exact set_mid (n := 72) (k := 0) (by simp [head_len, h.f]) (by simp)
theorem bs_set (l : List Bool) (k : Nat) (b : Bool) : (bs l).set k (.bool b) = bs (l.set k b) := by simp [bs, List.map_set]
theorem set_J {s : Sto} (h : s.Ok) {k : Nat} (hk : k < 64) (b : Bool) : s.row.setIfInBounds (73 + k) (.bool b) = ({ s with J := s.J.set k b } : Sto).row := by
  unfold Sto.row
  rw [List.setIfInBounds_toArray]
  congr 1
  rw [s.splitJ, Sto.splitJ, set_mid (n := 73) (by simp [head_len, h.f]) (by rw [bs_len, h.j]; exact hk), bs_set]
  rfl
theorem set_R {s : Sto} (h : s.Ok) {k : Nat} (hk : k < 64) (b : Bool) : s.row.setIfInBounds (137 + k) (.bool b) = ({ s with R := s.R.set k b } : Sto).row := by
  unfold Sto.row
  rw [List.setIfInBounds_toArray]
  congr 1
  rw [s.splitR, Sto.splitR, set_mid (n := 137) (by simp [head_len, h.f, bs_len, h.j]) (by rw [bs_len, h.r]; exact hk), bs_set]
  rfl
theorem set_base (s : Sto) (v : Value) : s.row.setIfInBounds 7 v = ({ s with base := v } : Sto).row := by
  unfold Sto.row
  rw [List.setIfInBounds_toArray]
  rfl
/-- A store's struct in the heap. -/
structure StoAt (w : World) (g : Nat) (s : Sto) : Prop where
  row : w.heap[g]? = some (.cells s.row 92 (0, 0))
  ok : s.Ok
section
variable {w : World} {g : Nat} {s : Sto}
theorem StoAt.lt (h : StoAt w g s) : g < w.heap.size := (Array.getElem?_eq_some_iff.1 h.row).1
theorem StoAt.beside {w' : World} {S : List Nat} (h : StoAt w g s) (hb : Beside S w w') (hg : g ∉ S) : StoAt w' g s := ⟨(hb.block g h.lt hg).trans h.row, h.ok⟩
theorem StoAt.below {w' : World} (h : StoAt w g s) (hb : Below w.heap.size w w') : StoAt w' g s := ⟨(hb.block g h.lt).trans h.row, h.ok⟩
theorem StoAt.cell (h : StoAt w g s) {i : Nat} {v : Value} (hv : s.cells[i]? = some v) : w.cell? ⟨g, i, none⟩ = some v := by
  rw [cell_of_row w g _ _ _ _ h.row]
  simpa [Sto.row] using hv
theorem StoAt.head (h : StoAt w g s) : w.cell? ⟨g, 0, none⟩ = some (.pointer (some ⟨s.d, 0, none⟩)) ∧ w.cell? ⟨g, 1, none⟩ = some (.int .i64 s.sz) ∧ w.cell? ⟨g, 2, none⟩ = some (.int .i64 s.node) ∧ w.cell? ⟨g, 3, none⟩ = some (.int .u64 (s.ser : Int)) ∧ w.cell? ⟨g, 4, none⟩ = some s.fl ∧ w.cell? ⟨g, 5, none⟩ = some (.int .u64 (s.tm : Int)) ∧ w.cell? ⟨g, 6, none⟩ = some (.string s.fo) ∧ w.cell? ⟨g, 7, none⟩ = some s.base :=
  ⟨h.cell rfl, h.cell rfl, h.cell rfl, h.cell rfl, h.cell rfl, h.cell rfl, h.cell rfl, h.cell rfl⟩
theorem StoAt.cF (h : StoAt w g s) {k : Nat} (hk : k < 64) {v : Value} (hv : s.F[k]? = some v) : w.cell? ⟨g, 8 + k, none⟩ = some v := h.cell ((cells_F h.ok hk).trans hv)
theorem StoAt.cC (h : StoAt w g s) : w.cell? ⟨g, 72, none⟩ = some (.int .u64 (s.ck : Int)) := h.cell (cells_C h.ok)
theorem StoAt.cJ (h : StoAt w g s) {k : Nat} (hk : k < 64) : w.cell? ⟨g, 73 + k, none⟩ = some (.bool (s.J.getD k false)) := h.cell (cells_J h.ok hk)
theorem StoAt.cR (h : StoAt w g s) {k : Nat} (hk : k < 64) : w.cell? ⟨g, 137 + k, none⟩ = some (.bool (s.R.getD k false)) := h.cell (cells_R h.ok hk)
theorem StoAt.frozen (h : StoAt w g s) (i : Nat) : w.frozen? ⟨g, i, none⟩ = false := frozen_row0 h.row
theorem StoAt.rangeJ (h : StoAt w g s) : w.rangeAt g 73 (bs s.J) := by
  intro j v hv
  have hj : j < 64 := by have := (List.getElem?_eq_some_iff.1 hv).1; simpa [bs, h.ok.j] using this
  rw [h.cJ hj, ← hv]
  simp [bs, List.getD, h.ok.j, hj]
theorem StoAt.rangeR (h : StoAt w g s) : w.rangeAt g 137 (bs s.R) := by
  intro j v hv
  have hj : j < 64 := by have := (List.getElem?_eq_some_iff.1 hv).1; simpa [bs, h.ok.r] using this
  rw [h.cR hj, ← hv]
  simp [bs, List.getD, h.ok.r, hj]
theorem StoAt.setF (h : StoAt w g s) {k : Nat} (hk : k < 64) (v : Value) : StoAt (w.setCell ⟨g, 8 + k, none⟩ v) g { s with F := s.F.set k v } :=
  ⟨by rw [heapSame h.row, set_F h.ok hk], ⟨by simpa using h.ok.f, h.ok.j, h.ok.r⟩⟩
theorem StoAt.setC (h : StoAt w g s) (x : Nat) : StoAt (w.setCell ⟨g, 72, none⟩ (.int .u64 (x : Int))) g { s with ck := x } :=
  ⟨by rw [heapSame h.row, set_C h.ok], ⟨h.ok.f, h.ok.j, h.ok.r⟩⟩
theorem StoAt.setJ (h : StoAt w g s) {k : Nat} (hk : k < 64) (b : Bool) : StoAt (w.setCell ⟨g, 73 + k, none⟩ (.bool b)) g { s with J := s.J.set k b } :=
  ⟨by rw [heapSame h.row, set_J h.ok hk], ⟨h.ok.f, by simpa using h.ok.j, h.ok.r⟩⟩
theorem StoAt.setR (h : StoAt w g s) {k : Nat} (hk : k < 64) (b : Bool) : StoAt (w.setCell ⟨g, 137 + k, none⟩ (.bool b)) g { s with R := s.R.set k b } :=
  ⟨by rw [heapSame h.row, set_R h.ok hk], ⟨h.ok.f, h.ok.j, by simpa using h.ok.r⟩⟩
theorem StoAt.setBase (h : StoAt w g s) (v : Value) : StoAt (w.setCell ⟨g, 7, none⟩ v) g { s with base := v } :=
  ⟨by rw [heapSame h.row, set_base], ⟨h.ok.f, h.ok.j, h.ok.r⟩⟩
end

set_option maxRecDepth 100000 in
theorem isNode_s (n : Nat) (w : World) (hn : n < 64) : Calls Tryz.prog 120 #[.int .i64 (n : Int)] w fun e w' => e = .returned (.bool true) ∧ w' = w := by
  have d0 : decide ((0 : Int) ≤ (n : Int)) = true := decide_eq_true (by omega)
  have d1 : decide ((n : Int) < 64) = true := decide_eq_true (by omega)
  go_enter Tryz.func120, Tryz.ntmps120
  go_wp2
  go_ret
  exact ⟨rfl, rfl⟩
set_option maxRecDepth 100000 in
theorem has_s (l : List Bool) (n : Nat) (w : World) (hl : l.length = 64) (hn : n < 64) :
    Calls Tryz.prog 63 #[.agg (bs l).toArray, .int .i64 (n : Int)] w fun e w' => e = .returned (.bool (l.getD n false)) ∧ Below w.heap.size w w' := by
  have hc : (w.alloc (.cells (bs l).toArray 90)).cell? ⟨w.heap.size, n, none⟩ = some (.bool (l.getD n false)) := by
    rw [cell_of_row _ w.heap.size _ _ _ (0, 0) (heap_alloc_new w _)]
    simp [bs, List.getD, hl, hn]
  generalize l.getD n false = x at hc ⊢
  have hal : Below w.heap.size w (w.alloc (.cells (bs l).toArray 90)) := (Below.refl _ _).alloc (Nat.le_refl _) _
  have d0 : decide ((0 : Int) ≤ (n : Int)) = true := decide_eq_true (by omega)
  have d1 : decide ((n : Int) < 64) = true := decide_eq_true (by omega)
  generalize bs l = q at hc hal ⊢
  have HI := Lib.hid (fun W => isNode_s n W hn)
  clear hl
  go_enter Tryz.func63, Tryz.ntmps63
  go_wp2_with fail
  refine (HI.out _).mono ?_
  rintro e w1 ⟨rfl, rfl⟩
  go_wp2
  go_ret
  exact ⟨rfl, hal⟩
set_option maxRecDepth 100000 in
theorem joined_s (g : Nat) (s : Sto) (n : Nat) (w : World) (h : StoAt w g s) (hn : n < 64) : Calls Tryz.prog 32 #[.pointer (some ⟨g, 0, none⟩), .int .i64 (n : Int)] w fun e w' => e = .returned (.bool (s.J.getD n false)) ∧ Below w.heap.size w w' := by
  have hr := h.rangeJ
  have hh := has_s s.J n w h.ok.j hn
  have hlen : (bs s.J).length = 64 := by rw [bs_len, h.ok.j]
  clear h
  generalize s.J.getD n false = x at hh ⊢
  generalize bs s.J = q at hh hr hlen
  have HH := Lib.hid hh
  clear hh
  have hi : (Tryz.prog.info? 90).map (·.size) = some q.length := by rw [hlen]; kernel_rfl
  clear hlen
  go_enter Tryz.func32, Tryz.ntmps32
  go_wp2_with (first | (refine wpList_load_midG (by rfl) 90 (.tmp 10) rfl g 73 rfl q _ hr Tryz.underlying90 rfl hi ?_))
  refine HH.out.mono ?_
  rintro e w1 ⟨rfl, hb⟩
  go_wp2
  go_ret
  exact ⟨rfl, hb⟩
def memS (s : Sto) (n : Nat) : Bool := s.J.getD n false && !s.R.getD n false
set_option maxRecDepth 100000 in
theorem member_s (g : Nat) (s : Sto) (n : Nat) (w : World) (h : StoAt w g s) (hn : n < 64) : Calls Tryz.prog 34 #[.pointer (some ⟨g, 0, none⟩), .int .i64 (n : Int)] w fun e w' => e = .returned (.bool (memS s n)) ∧ Below w.heap.size w w' := by
  have HJ := Lib.hid (joined_s g s n w h hn)
  have HR := Lib.hid (fun W (hb : Below w.heap.size w W) => (⟨(h.below hb).rangeR, has_s s.R n W h.ok.r hn⟩ : W.rangeAt g 137 (bs s.R) ∧ _))
  have hlen : (bs s.R).length = 64 := by rw [bs_len, h.ok.r]
  have hm : memS s n = (s.J.getD n false && !s.R.getD n false) := rfl
  rw [hm]
  clear h hm
  generalize s.J.getD n false = x at HJ ⊢
  generalize s.R.getD n false = y at HR ⊢
  generalize bs s.R = q at HR hlen
  have hi : (Tryz.prog.info? 90).map (·.size) = some q.length := by rw [hlen]; kernel_rfl
  clear hlen
  go_enter Tryz.func34, Tryz.ntmps34
  go_wp2_with fail
  refine HJ.out.mono ?_
  rintro e w1 ⟨rfl, hb⟩
  obtain ⟨hr, hh⟩ := HR.out w1 hb
  have HH := Lib.hid hh
  have HB := Lib.hid hb
  clear hh hb HR HJ
  cases x with
  | false =>
    go_wp2
    go_ret
    exact ⟨rfl, HB.out⟩
  | true =>
    go_wp2_with (first | (refine wpList_load_midG (by rfl) 90 (.tmp 11) rfl g 137 rfl q _ hr Tryz.underlying90 rfl hi ?_))
    refine HH.out.mono ?_
    rintro e w2 ⟨rfl, hb2⟩
    go_wp2
    go_ret
    exact ⟨rfl, HB.out.trans (hb2.mono HB.out.size)⟩
set_option maxRecDepth 100000 in
theorem node_any (g : Nat) (s : Sto) (w : World) (h : StoAt w g s) : Calls Tryz.prog 33 #[.pointer (some ⟨g, 0, none⟩)] w fun e w' => e = .returned (.int .i64 s.node) ∧ w' = w := by
  obtain ⟨_, _, c2, _⟩ := h.head
  clear h
  go_enter Tryz.func33, Tryz.ntmps33
  go_wp2
  go_ret
  exact ⟨rfl, rfl⟩
set_option maxRecDepth 100000 in
theorem clock_any (g : Nat) (s : Sto) (w : World) (h : StoAt w g s) : Calls Tryz.prog 46 #[.pointer (some ⟨g, 0, none⟩)] w fun e w' => e = .returned (.int .u64 (s.ck : Int)) ∧ w' = w := by
  have c := h.cC
  clear h
  go_enter Tryz.func46, Tryz.ntmps46
  go_wp2
  go_ret
  exact ⟨rfl, rfl⟩
end Go.Proofs.YtinjbdgjcadodaaGreatDoor.St
namespace Go.Proofs.YtinjbdgjcadodaaGreatDoor.St
open Go Go.RowKit Go.Proofs.YtinjbdgjcadodaaGreatDoor.Words Go.Proofs.YtinjbdgjcadodaaGreatDoor.Enc Go.Proofs.YtinjbdgjcadodaaGreatDoor.Made Go.Proofs.YtinjbdgjcadodaaGreatDoor.Dsk Go.Proofs.YtinjbdgjcadodaaGreatDoor.Seg
set_option linter.unusedVariables false
set_option linter.unusedSimpArgs false

/-- No file is one of a feed's. -/
def NoFeed (files : List File) : Prop := ∀ x : Nat, x < 64 → ∀ f ∈ files, Lib.hasPrefix f.name (beginL (x : Int)) = false
/-- A feed that has no file. -/
def Bare (w : World) (d f k : Nat) (sz : Int) : Prop := w.heap[f]? = some (.cells (Fd.cells d (k : Int) sz 0 0 (.slice none 0 0) 0) 132 (0, 0))
theorem Bare.below {w w' : World} {d f k : Nat} {sz : Int} (h : Bare w d f k sz) (hb : Below w.heap.size w w') : Bare w' d f k sz := (hb.block f (Array.getElem?_eq_some_iff.1 h).1).trans h
set_option maxRecDepth 100000 in
set_option maxHeartbeats 1000000 in
theorem openFeed_0 (g k : Nat) (s : Sto) (S : List Nat) (files : List File) (h : Hd) (w : World) (hs : StoAt w g s) (hd : Disk w s.d S files h) (T : STabs w) (hoff : h.off = false) (hfew : files.length ≤ 100000) (hno : NoFeed files) (hk : k < 64) (hfl : s.fl = .slice none 0 0) (htm : s.tm = 0) :
    Calls Tryz.prog 117 #[.pointer (some ⟨g, 0, none⟩), .int .i64 (k : Int)] w fun e w' => e = .returned (.int .i64 0) ∧ ∃ f, StoAt w' g { s with F := s.F.set k (.pointer (some ⟨f, 0, none⟩)) } ∧ Bare w' s.d f k s.sz ∧ w.heap.size ≤ f ∧ Beside [g] w w' := by
  have HS := Lib.hid (fun W (hW : Below w.heap.size w W) => hs.below hW)
  have hg0 := hs.lt
  obtain ⟨v, hv⟩ : ∃ v, s.F[k]? = some v := ⟨_, List.getElem?_eq_getElem (by rw [hs.ok.f]; exact hk)⟩
  have CELLS : ∀ w', Below w.heap.size w w' → (w'.cell? ⟨g, 0, none⟩ = some (.pointer (some ⟨s.d, 0, none⟩)) ∧ w'.cell? ⟨g, 1, none⟩ = some (.int .i64 s.sz) ∧ w'.cell? ⟨g, 4, none⟩ = some (.slice none 0 0) ∧ w'.cell? ⟨g, 5, none⟩ = some (.int .u64 0)) ∧ w'.cell? ⟨g, 8 + k, none⟩ = some v ∧ w'.frozen? ⟨g, 8 + k, none⟩ = false ∧ g < w'.heap.size := fun W hW => by
    have hq := hs.below hW
    obtain ⟨c0, c1, _, _, c4, c5, _⟩ := hq.head
    rw [hfl] at c4
    rw [htm] at c5
    exact ⟨⟨c0, c1, c4, c5⟩, hq.cF hk hv, hq.frozen _, hq.lt⟩
  have KEEP := Lib.hid (fun (W : World) (f : Nat) (hW : Below w.heap.size w W) => (by
    obtain ⟨c0, c1, _, _, c4, c5, _⟩ := ((hs.below hW).setF hk (.pointer (some ⟨f, 0, none⟩))).head
    exact ⟨c0, c1, c4.trans (congrArg some hfl), c5.trans (show some (Value.int .u64 ((s.tm : Nat) : Int)) = some (.int .u64 0) by rw [htm]; rfl)⟩ : (W.setCell ⟨g, 8 + k, none⟩ (.pointer (some ⟨f, 0, none⟩))).cell? ⟨g, 0, none⟩ = some (.pointer (some ⟨s.d, 0, none⟩)) ∧ (W.setCell ⟨g, 8 + k, none⟩ (.pointer (some ⟨f, 0, none⟩))).cell? ⟨g, 1, none⟩ = some (.int .i64 s.sz) ∧ (W.setCell ⟨g, 8 + k, none⟩ (.pointer (some ⟨f, 0, none⟩))).cell? ⟨g, 4, none⟩ = some (.slice none 0 0) ∧ (W.setCell ⟨g, 8 + k, none⟩ (.pointer (some ⟨f, 0, none⟩))).cell? ⟨g, 5, none⟩ = some (.int .u64 0)))
  have GET : ∀ W, Below w.heap.size w W → Calls Tryz.prog 187 #[.slice none 0 0, .int .i64 (k : Int)] W fun e w' => e = .returned (.int .u64 0) ∧ Hid (Below w.heap.size w w') ∧ (w'.cell? ⟨g, 0, none⟩ = some (.pointer (some ⟨s.d, 0, none⟩)) ∧ w'.cell? ⟨g, 1, none⟩ = some (.int .i64 s.sz) ∧ w'.cell? ⟨g, 4, none⟩ = some (.slice none 0 0) ∧ w'.cell? ⟨g, 5, none⟩ = some (.int .u64 0)) ∧ w'.cell? ⟨g, 8 + k, none⟩ = some v ∧ w'.frozen? ⟨g, 8 + k, none⟩ = false ∧ g < w'.heap.size := fun W hW => by
    refine (Fd.get0 k W).mono ?_
    rintro e w' ⟨rfl, rfl⟩
    exact ⟨rfl, Lib.hid hW, CELLS _ hW⟩
  have OPEN : ∀ W, Below w.heap.size w W → Calls Tryz.prog 186 #[.pointer (some ⟨s.d, 0, none⟩), .int .i64 (k : Int), .int .i64 s.sz, .int .u64 0, .int .u64 0] W fun e w' => ∃ f, e = .returned (.tuple #[.pointer (some ⟨f, 0, none⟩), .int .i64 0]) ∧ Hid (Below w.heap.size w w' ∧ Bare w' s.d f k s.sz ∧ w.heap.size ≤ f) ∧ (w'.cell? ⟨g, 0, none⟩ = some (.pointer (some ⟨s.d, 0, none⟩)) ∧ w'.cell? ⟨g, 1, none⟩ = some (.int .i64 s.sz) ∧ w'.cell? ⟨g, 4, none⟩ = some (.slice none 0 0) ∧ w'.cell? ⟨g, 5, none⟩ = some (.int .u64 0)) ∧ w'.cell? ⟨g, 8 + k, none⟩ = some v ∧ w'.frozen? ⟨g, 8 + k, none⟩ = false ∧ g < w'.heap.size := fun W hW => by
    refine (Fd.openE s.d S files h (k : Int) s.sz 0 0 W (T.below hW) (hd.below hW) hoff hfew (hno k hk) (by omega) (by omega)).mono ?_
    rintro e w' ⟨f, rfl, hf, hbx, hb⟩
    have hb2 := hW.trans (hb.mono hW.size)
    exact ⟨f, rfl, Lib.hid ⟨hb2, hbx, Nat.le_trans hW.size hf⟩, CELLS _ hb2⟩
  obtain ⟨⟨c0, c1, c4, c5⟩, cF, fF, hg⟩ := CELLS w (Below.refl _ _)
  have HK : (k : Int) < 64 := by omega
  have HK0 : (0 : Int) ≤ (k : Int) := by omega
  have HKN := Lib.hid hk
  have HG0 := Lib.hid hg0
  clear CELLS hs hd T hno hv hfl htm hk hg0
  go_enter Tryz.func117, Tryz.ntmps117
  go_upto_region 1 with fail
  go_region_held3 (fun w' => w'.cell? ⟨g, 0, none⟩ = some (.pointer (some ⟨s.d, 0, none⟩)) ∧ w'.cell? ⟨g, 1, none⟩ = some (.int .i64 s.sz) ∧ w'.cell? ⟨g, 4, none⟩ = some (.slice none 0 0) ∧ w'.cell? ⟨g, 5, none⟩ = some (.int .u64 0)) (first | go_keep | exact KEEP.out _ _ HO.out.1)
    (first
      | (go_at_call 187
         refine (GET _ ?h1).mono ?_
         case h1 => first | exact Below.refl _ _ | exact (Below.refl _ _).drew
         rintro e w6 ⟨rfl, HG, ⟨c0, c1, c4, c5⟩, cF, fF, hg⟩)
      | (go_at_call 186
         refine (OPEN _ ?h2).mono ?_
         case h2 => first | exact HG.out | exact HG.out.drew
         rintro e w7 ⟨f, rfl, HO, ⟨c0, c1, c4, c5⟩, cF, fF, hg⟩))
  all_goals go_wp2
  all_goals go_ret
  all_goals exact ⟨rfl, f, (HS.out _ HO.out.1).setF HKN.out _, (heapOther (by have := HO.out.2.2; have := HG0.out; omega)).trans HO.out.2.1, HO.out.2.2, (Beside.of_below HO.out.1 [g]).trans ((Beside.refl _ _).setCell (by simp) _) fun k hk => .inl hk⟩
end Go.Proofs.YtinjbdgjcadodaaGreatDoor.St
namespace Go.Proofs.YtinjbdgjcadodaaGreatDoor.Fd
open Go Go.RowKit Go.Proofs.YtinjbdgjcadodaaGreatDoor.Words Go.Proofs.YtinjbdgjcadodaaGreatDoor.Enc Go.Proofs.YtinjbdgjcadodaaGreatDoor.Evt Go.Proofs.YtinjbdgjcadodaaGreatDoor.Made Go.Proofs.YtinjbdgjcadodaaGreatDoor.Dsk Go.Proofs.YtinjbdgjcadodaaGreatDoor.Seg
set_option linter.unusedVariables false
set_option linter.unusedSimpArgs false

set_option maxRecDepth 100000 in
set_option maxHeartbeats 1000000 in
theorem from0 (d f : Nat) (x sz : Int) (floor time : Nat) (seq : Nat) (most : Int) (w : World) (g : w.heap[f]? = some (.cells (cells d x sz floor time (.slice none 0 0) 0) 132 (0, 0))) :
    Calls Tryz.prog 221 #[.pointer (some ⟨f, 0, none⟩), .int .u64 (seq : Int), .int .i64 most] w fun e w' => e = .returned (.slice none 0 0) ∧ Below w.heap.size w w' := by
  have hfl : f < w.heap.size := (Array.getElem?_eq_some_iff.1 g).1
  have hbx := (Below.refl w.heap.size w).alloc (Nat.le_refl _) (.cells #[.pointer (some ⟨f, 0, none⟩)] 84)
  have hby' := hbx.alloc hbx.size (.cells #[.int .u64 (seq : Int)] 22)
  have e3 := heap_alloc_new w (.cells #[.pointer (some ⟨f, 0, none⟩)] 84)
  have e3' := (Below.heap_alloc (w.alloc (.cells #[.pointer (some ⟨f, 0, none⟩)] 84)) (.cells #[.int .u64 (seq : Int)] 22) w.heap.size (by simp)).trans e3
  go_enter Tryz.func221, Tryz.ntmps221
  go_upto_region 1 with fail
  generalize (w.alloc (.cells #[.pointer (some ⟨f, 0, none⟩)] 84)).alloc (.cells #[.int .u64 (seq : Int)] 22) = w2 at hby' e3' ⊢
  obtain ⟨b3, hb3⟩ : ∃ b3, b3 = w.heap.size := ⟨_, rfl⟩
  obtain ⟨b4, hb4⟩ : ∃ b4, b4 = w.heap.size + 1 := ⟨_, rfl⟩
  rw [← hb4]
  rw [← hb3] at e3' ⊢
  have g2 := (hby'.block f hfl).trans g
  have q3 : w2.cell? ⟨b3, 0, none⟩ = some (.pointer (some ⟨f, 0, none⟩)) := by rw [cell_of_row w2 b3 _ _ _ _ e3']; rfl
  have c5 : w2.cell? ⟨f, 5, none⟩ = some (.slice none 0 0) := by rw [cell_of_row w2 f _ _ _ _ g2]; rfl
  have hsr : Calls Tryz.prog 159 #[.int .i64 0, .func (.func 273) #[] #[.pointer (some ⟨b3, 0, none⟩), .pointer (some ⟨b4, 0, none⟩)]] w2 _ := search_any (.pointer (some ⟨b3, 0, none⟩)) (.pointer (some ⟨b4, 0, none⟩)) 0 (fun _ => true) w2 (by omega) (fun W i _ hi => absurd hi (by omega)) (fun _ _ _ _ _ => rfl)
  have HSR := Lib.hid hsr
  have G2 := Lib.hid g2
  have E3 := Lib.hid e3'
  have B2 := Lib.hid hby'
  clear hsr hb3 hb4 hby' hbx e3 g g2 e3'
  go_wp2_with fail
  refine HSR.out.mono ?_
  rintro e w3 ⟨k, rfl, hk, -, -, hb3⟩
  obtain rfl : k = 0 := by omega
  have g3 := (hb3.block f (Array.getElem?_eq_some_iff.1 G2.out).1).trans G2.out
  have h3 := (hb3.block b3 (Array.getElem?_eq_some_iff.1 E3.out).1).trans E3.out
  have q3 : w3.cell? ⟨b3, 0, none⟩ = some (.pointer (some ⟨f, 0, none⟩)) := by rw [cell_of_row w3 b3 _ _ _ _ h3]; rfl
  have c5 : w3.cell? ⟨f, 5, none⟩ = some (.slice none 0 0) := by rw [cell_of_row w3 f _ _ _ _ g3]; rfl
  have B3 := Lib.hid (B2.out.trans (hb3.mono B2.out.size))
  clear g3 h3 hb3 HSR
  go_wp2
  go_loopw [8, 26] (fun v8 v26 wr => v8 = .slice none 0 0 ∧ v26 = .int .i64 0 ∧ wr = w3) (fun _ _ _ => 0)
  case atStart => exact ⟨rfl, rfl, rfl⟩
  case round =>
    obtain ⟨rfl, rfl, rfl⟩ := hrel
    go_wp2
    go_ret
    exact ⟨rfl, B3.out⟩

set_option maxRecDepth 100000 in
theorem all0 (d f : Nat) (x sz : Int) (time : Nat) (w : World) (g : w.heap[f]? = some (.cells (cells d x sz 0 time (.slice none 0 0) 0) 132 (0, 0))) :
    Calls Tryz.prog 158 #[.pointer (some ⟨f, 0, none⟩)] w fun e w' => e = .returned (.slice none 0 0) ∧ Below w.heap.size w w' := by
  have hlt := (Array.getElem?_eq_some_iff.1 g).1
  have GB := Lib.hid (fun W (hW : Below w.heap.size w W) => (hW.block f hlt).trans g)
  have c3 : ∀ W, Below w.heap.size w W → W.cell? ⟨f, 3, none⟩ = some (.int .u64 0) := fun W hW => by rw [cell_of_row W f _ _ _ _ (GB.out W hW)]; rfl
  have N1 : ∀ W, Below w.heap.size w W → Calls Tryz.prog 35 #[.pointer (some ⟨f, 0, none⟩)] W fun e w' => e = .returned (.int .u64 1) ∧ Hid (Below w.heap.size w w') ∧ w'.cell? ⟨f, 3, none⟩ = some (.int .u64 0) := fun W hW => by
    refine (next_bare d f x sz 0 time none 0 0 W (GB.out W hW) (by omega)).mono ?_
    rintro e w' ⟨rfl, hb⟩
    have b := hW.trans (hb.mono hW.size)
    exact ⟨rfl, Lib.hid b, c3 w' b⟩
  have R1 : ∀ W, Below w.heap.size w W → Calls Tryz.prog 221 #[.pointer (some ⟨f, 0, none⟩), .int .u64 1, .int .i64 0] W fun e w' => e = .returned (.slice none 0 0) ∧ Hid (Below w.heap.size w w') ∧ w'.cell? ⟨f, 3, none⟩ = some (.int .u64 0) := fun W hW => by
    refine (from0 d f x sz 0 time 1 0 W (GB.out W hW)).mono ?_
    rintro e w' ⟨rfl, hb⟩
    have b := hW.trans (hb.mono hW.size)
    exact ⟨rfl, Lib.hid b, c3 w' b⟩
  have k3 := c3 w (Below.refl _ _)
  clear c3 g
  go_enter Tryz.func158, Tryz.ntmps158
  go_upto_region 3 with fail
  go_region_held3 (fun w' => w'.cell? ⟨f, 3, none⟩ = some (.int .u64 0)) (go_keep)
    (first
      | (go_at_call 35
         refine (N1 _ ?h1).mono ?_
         case h1 => first | exact Below.refl _ _ | exact (Below.refl _ _).drew
         rintro e w6 ⟨rfl, HN, k3⟩)
      | (go_at_call 221
         refine (R1 _ ?h2).mono ?_
         case h2 => first | exact HN.out | exact HN.out.drew
         rintro e w7 ⟨rfl, HF, k3⟩))
  go_wp2
  go_ret
  exact ⟨rfl, HF.out⟩
end Go.Proofs.YtinjbdgjcadodaaGreatDoor.Fd
namespace Go.Proofs.YtinjbdgjcadodaaGreatDoor.St
open Go Go.RowKit Go.Proofs.YtinjbdgjcadodaaGreatDoor.Words Go.Proofs.YtinjbdgjcadodaaGreatDoor.Enc Go.Proofs.YtinjbdgjcadodaaGreatDoor.Made Go.Proofs.YtinjbdgjcadodaaGreatDoor.Dsk Go.Proofs.YtinjbdgjcadodaaGreatDoor.Seg
set_option linter.unusedVariables false
set_option linter.unusedSimpArgs false

/-- The first feeds are there. -/
structure Opened (B : Nat) (w : World) (g : Nat) (s : Sto) (j : Nat) : Prop where
  sto : StoAt w g s
  fs : ∀ i, i < j → ∃ f, s.F[i]? = some (.pointer (some ⟨f, 0, none⟩)) ∧ Bare w s.d f i s.sz ∧ B ≤ f
theorem Bare.lt {w : World} {d f k : Nat} {sz : Int} (h : Bare w d f k sz) : f < w.heap.size := (Array.getElem?_eq_some_iff.1 h).1
theorem Opened.next {B : Nat} {w w5 w6 : World} {g f j : Nat} {s : Sto} (h : Opened B w g s j) (hg : g < B) (hj : j < 64) (h5 : StoAt w5 g { s with F := s.F.set j (.pointer (some ⟨f, 0, none⟩)) }) (hf : w.heap.size ≤ f) (hB : B ≤ w.heap.size) (b5 : Beside [g] w w5) (h6 : Bare w6 s.d f j s.sz) (b6 : Beside [f] w5 w6) :
    Opened B w6 g { s with F := s.F.set j (.pointer (some ⟨f, 0, none⟩)) } (j + 1) := by
  have hgw := h.sto.lt
  refine ⟨h5.beside b6 (by simp; omega), fun i hi => ?_⟩
  by_cases e : i = j
  · subst e
    exact ⟨f, by simp [List.getElem?_set, h.sto.ok.f, hj], h6, by omega⟩
  · obtain ⟨f', h1, h2, h3⟩ := h.fs i (by omega)
    have hl := h2.lt
    have hl5 : f' < w5.heap.size := Nat.lt_of_lt_of_le hl b5.size
    refine ⟨f', by rw [List.getElem?_set_ne (by omega)]; exact h1, ?_, h3⟩
    exact (b6.block f' hl5 (by simp; omega)).trans ((b5.block f' hl (by simp; omega)).trans h2)

set_option maxRecDepth 100000 in
set_option maxHeartbeats 1000000 in
theorem openFeeds_0 (g : Nat) (s : Sto) (S : List Nat) (files : List File) (h : Hd) (w : World) (hs : StoAt w g s) (hd : Disk w s.d S files h) (hgS : g ∉ S) (T : TabsOn (S ++ [g]) w) (hoff : h.off = false) (hfew : files.length ≤ 100000) (hno : NoFeed files) (hfl : s.fl = .slice none 0 0) (htm : s.tm = 0) :
    Calls Tryz.prog 61 #[.pointer (some ⟨g, 0, none⟩)] w fun e w' => e = .returned (.int .i64 0) ∧ ∃ F, Opened w.heap.size w' g { s with F := F } 64 ∧ Beside [g] w w' := by
  have hg := hs.lt
  have OF := Lib.hid (fun (F : List Value) (j : Nat) (W : World) (hj : j < 64) (hW : Beside [g] w W) (hst : StoAt W g { s with F := F }) => openFeed_0 g j { s with F := F } S files h W hst (hd.beside hW (by simpa using fun hm => hgS hm)) (T W (hW.wider fun k hk => .inl (List.mem_append.2 (.inr hk)))).2 hoff hfew hno hj hfl htm)
  have H0 := Lib.hid (⟨hs, fun i hi => by omega⟩ : Opened w.heap.size w g { s with F := s.F } 0)
  have HG := Lib.hid hg
  clear hs hd hgS T hno hfl htm hg
  go_enter Tryz.func61, Tryz.ntmps61
  go_wp2
  go_loopw [6] (fun v wr => ∃ (j : Nat) (F : List Value), v = .int .i64 (j : Int) ∧ j ≤ 64 ∧ Hid (Opened w.heap.size wr g { s with F := F } j) ∧ Hid (Beside [g] w wr)) (fun v _ => 64 - (intOf v).toNat)
  case atStart => exact ⟨0, s.F, rfl, Nat.zero_le _, H0, Lib.hid (Beside.refl _ _)⟩
  case round =>
    obtain ⟨j, F, rfl, hj, HO, HB⟩ := hrel
    by_cases hlt : j < 64
    · have hd1 : decide ((j : Int) < 64) = true := decide_eq_true (by omega)
      have OFJ := Lib.hid (OF.out F j wr hlt HB.out HO.out.sto)
      have hJ := Lib.hid hlt
      clear hlt
      go_wp2_with fail
      refine OFJ.out.mono ?_
      rintro e w5 ⟨rfl, f, h5, hbare, hf, hb5⟩
      have c8 : w5.cell? ⟨g, 8 + j, none⟩ = some (.pointer (some ⟨f, 0, none⟩)) := h5.cF hJ.out (by simp [List.getElem?_set, HO.out.sto.ok.f, hJ.out])
      have HSY := Lib.hid (Fd.sync0 s.d f (j : Int) s.sz 0 0 w5 hbare)
      have H5 := Lib.hid (And.intro h5 (And.intro hf hb5))
      have q0 : (0 : Int) ≤ (j : Int) := by omega
      have q1 : (j : Int) < 64 := by have := hJ.out; omega
      clear h5 hbare hf hb5 OFJ
      go_wp2_with fail
      refine HSY.out.mono ?_
      rintro e w6 ⟨rfl, hbx, hb6⟩
      have HN := Lib.hid (HO.out.next HG.out hJ.out H5.out.1 H5.out.2.1 HB.out.size H5.out.2.2 hbx hb6)
      have HB6 := Lib.hid ((HB.out.trans H5.out.2.2 fun k hk => .inl hk).trans hb6 fun k hk => by
        have h1 := HB.out.size
        have h2 := H5.out.2.1
        simp at hk
        subst hk
        exact .inr (by omega))
      clear hbx hb6 c8
      go_wp2
      go_roundw
      case rel => exact ⟨j + 1, _, by simp, hJ.out, HN, HB6⟩
      case measure => have := hJ.out; simp [intOf]; omega
    · have hd1 : decide ((j : Int) < 64) = false := decide_eq_false (by omega)
      obtain rfl : j = 64 := by omega
      clear hlt
      go_wp2
      go_ret
      exact ⟨rfl, F, HO.out, HB.out⟩
end Go.Proofs.YtinjbdgjcadodaaGreatDoor.St
namespace Go.Proofs.YtinjbdgjcadodaaGreatDoor.St
open Go Go.RowKit Go.Proofs.YtinjbdgjcadodaaGreatDoor.Words Go.Proofs.YtinjbdgjcadodaaGreatDoor.Enc Go.Proofs.YtinjbdgjcadodaaGreatDoor.Made Go.Proofs.YtinjbdgjcadodaaGreatDoor.Dsk Go.Proofs.YtinjbdgjcadodaaGreatDoor.Seg
set_option linter.unusedVariables false
set_option linter.unusedSimpArgs false

theorem infoLs : (Tryz.prog.info? 26).map (fun i => (i.zero, i.size, i.bytes)) = some (some (.slice none 0 0), 1, 24) := by kernel_rfl
theorem StoAt.rangeF {w : World} {g : Nat} {s : Sto} (h : StoAt w g s) : w.rangeAt g 8 s.F := by
  intro j v hv
  have hj : j < 64 := by have := (List.getElem?_eq_some_iff.1 hv).1; rw [h.ok.f] at this; exact this
  exact h.cF hj hv
def zls : Array Value := (List.replicate 64 (Value.slice none 0 0)).toArray
theorem rep_set (z : Value) (n k : Nat) : (List.replicate n z).toArray.setIfInBounds k z = (List.replicate n z).toArray := by
  rw [List.setIfInBounds_toArray]
  congr 1
  refine List.ext_getElem (by simp) fun i _ _ => ?_
  simp [List.getElem_set]
theorem rep_at (z : Value) (n : Nat) {k : Nat} (hk : k < n) : (List.replicate n z).toArray[k]? = some z := by simp [hk]
theorem zls_set (k : Nat) : zls.setIfInBounds k (.slice none 0 0) = zls := rep_set _ _ _
theorem zls_at {k : Nat} (hk : k < 64) : zls[k]? = some (.slice none 0 0) := rep_at _ _ hk
set_option maxRecDepth 100000 in
theorem make_64 (W : World) : (Instr.makeSlice 167 (.int .i64 64) (.int .i64 64)).run Tryz.prog W = .ok (.slice (some ⟨W.heap.size, 0, none⟩) 64 64) (W.alloc (.cells zls 26)) := by
  obtain ⟨i, hi, hz, hsz, hby⟩ := info_parts infoLs
  have := run_make (P := Tryz.prog) W 167 26 i (.slice none 0 0) Tryz.underlying167 hi hz .i64 .i64 (64 : Int) (64 : Int) (by omega) (Int.le_refl _) (by rw [hby]; omega) (by omega)
  rw [this, hsz]
  simp only [show Int.toNat 64 = 64 from rfl, Nat.mul_one]
  congr 4
  apply Array.ext'
  rw [show (Value.slice none 0 0).cells = #[Value.slice none 0 0] from rfl, toList_madeCells_one]
  rfl
theorem und_F : Tryz.prog.underlying 88 = some (.array 64 84) := by kernel_rfl
theorem und_row : ∃ dd, Tryz.prog.underlying 88 = some dd ∧ dd.isRow = true := ⟨_, und_F, rfl⟩
theorem index_F (R : Array Value) (v : Value) (j : Nat) (w : World) (hn : R.size = 64) (hj : j < 64) (hR : R[j]? = some v) (hv : v.oneCell' = true) :
    (Instr.index 88 (.agg R) (.int .i64 (j : Int))).run Tryz.prog w = .ok v w := by
  simp [Instr.index, run_underlying und_F, asIntOf, hn, hR, go_sem]
  intro h
  omega
set_option maxRecDepth 100000 in
set_option maxHeartbeats 1000000 in
theorem lists_0 (B g : Nat) (s : Sto) (w : World) (h : Opened B w g s 64) :
    Calls Tryz.prog 100 #[.pointer (some ⟨g, 0, none⟩)] w fun e w' => e = .returned (.slice (some ⟨w.heap.size, 0, none⟩) 64 64) ∧ w'.heap[w.heap.size]? = some (.cells zls 26 (0, 0)) ∧ Below w.heap.size w w' := by
  have hmk := make_64 w
  obtain ⟨dd, hdd, hrow⟩ := und_row
  have hr := fun W (hW : Below w.heap.size w W) => (h.sto.below hW).rangeF
  have hlen := h.sto.ok.f
  have HF := Lib.hid h.fs
  obtain ⟨q, hq⟩ : ∃ q, q = s.F := ⟨_, rfl⟩
  rw [← hq] at hr hlen HF
  have hiF : (Tryz.prog.info? 88).map (·.size) = some q.length := by rw [hlen]; kernel_rfl
  have HLEN := Lib.hid hlen
  have HR := Lib.hid hr
  clear h hq hlen hr
  go_enter Tryz.func100, Tryz.ntmps100
  obtain ⟨w1, hw1⟩ : ∃ w1, w1 = w.alloc (.cells zls 26) := ⟨_, rfl⟩
  have hb : Below w.heap.size w w1 := by rw [hw1]; exact (Below.refl w.heap.size w).alloc (Nat.le_refl _) _
  have hz1 : w1.heap[w.heap.size]? = some (.cells zls 26 (0, 0)) := by rw [hw1]; exact heap_alloc_new w _
  rw [← hw1] at hmk
  have hr1 := HR.out _ hb
  have HB1 := Lib.hid hb
  have HZ1 := Lib.hid hz1
  clear hw1 hb hz1
  go_wp2_with (refine wpList_load_mid rfl 88 (.tmp 11) rfl g 8 rfl q dd hr1 hdd hrow hiF ?_)
  go_loopw [13] (fun v wr => ∃ (j : Nat), v = .int .i64 (j : Int) ∧ j ≤ 64 ∧ Hid (Below w.heap.size w wr) ∧ Hid (wr.heap[w.heap.size]? = some (.cells zls 26 (0, 0)))) (fun v _ => 64 - (intOf v).toNat)
  case atStart => exact ⟨0, rfl, Nat.zero_le _, HB1, HZ1⟩
  case round =>
    obtain ⟨j, rfl, hj, HB, HZ⟩ := hrel
    by_cases hlt : j < 64
    · have hd1 : decide ((j : Int) < 64) = true := decide_eq_true (by omega)
      obtain ⟨f, hf, hbare, _⟩ := HF.out j hlt
      have HAL := Lib.hid (Fd.all0 s.d f (j : Int) s.sz 0 wr (hbare.below HB.out))
      have HJ := Lib.hid hlt
      have q0 : (0 : Int) ≤ (j : Int) := by omega
      have q1 : (j : Int) < 64 := by omega
      have hq1 : q.toArray[j]? = some (.pointer (some ⟨f, 0, none⟩)) := by simpa using hf
      have hix := fun W => index_F q.toArray _ j W (by simpa using HLEN.out) hlt hq1 rfl
      clear hlt hbare hf
      go_wp2_with fail
      refine HAL.out.mono ?_
      rintro e w5 ⟨rfl, hb5⟩
      have b5 := HB.out.trans (hb5.mono HB.out.size)
      have z5 := (hb5.block _ (Array.getElem?_eq_some_iff.1 HZ.out).1).trans HZ.out
      have c5 : w5.cell? ⟨w.heap.size, j, none⟩ = some (.slice none 0 0) := by rw [cell_of_row w5 _ _ _ _ _ z5]; exact zls_at HJ.out
      have y5 : w5.frozen? ⟨w.heap.size, j, none⟩ = false := frozen_row0 z5
      have B5 := Lib.hid b5
      have Z5 := Lib.hid z5
      clear b5 z5 hb5
      go_wp2
      go_roundw
      case rel => exact ⟨j + 1, by simp, HJ.out, Lib.hid (B5.out.setCell (by simp) _), Lib.hid (by rw [heapSame Z5.out, zls_set])⟩
      case measure => have := HJ.out; simp [intOf]; omega
    · have hd1 : decide ((j : Int) < 64) = false := decide_eq_false (by omega)
      obtain rfl : j = 64 := by omega
      clear hlt
      go_wp2
      go_ret
      exact ⟨rfl, HZ.out, HB.out⟩
end Go.Proofs.YtinjbdgjcadodaaGreatDoor.St
