/- Texts of the law ReplicaNil, put together. -/
import Derived.Test.YtinjbdgjcadodaaGreatDoorRNp02
import Derived.Test.YtinjbdgjcadodaaGreatDoorRNp03
import Derived.Test.YtinjbdgjcadodaaGreatDoorRNp07
set_option linter.unusedVariables false
set_option linter.unusedSimpArgs false
set_option maxRecDepth 100000
namespace Go.Proofs.YtinjbdgjcadodaaGreatDoor.St
open Go Go.RowKit Words Enc Fol
structure Sto where
 d : Nat
 sz : Int
 node : Int
 ser : Nat
 fl : Value
 tm : Nat
 fo : ByteArray
 base : Value
 F : List Value
 ck : Nat
 J : List Bool
 R : List Bool
structure Sto.Ok (s : Sto) : Prop where
 f : s.F.length = 64
 j : s.J.length = 64
 r : s.R.length = 64
def Sto.head (s : Sto) : List Value := [.pointer (some ⟨s.d, 0, none⟩), .int .i64 s.sz, .int .i64 s.node, .int .u64 (s.ser : Int), s.fl, .int .u64 (s.tm : Int), .string s.fo, s.base]
def Sto.cells (s : Sto) : List Value := s.head ++ (s.F ++ ([.int .u64 (s.ck : Int)] ++ (bs s.J ++ bs s.R)))
def Sto.row (s : Sto) : Array Value := s.cells.toArray
theorem head_len (s : Sto) : s.head.length = 8 := rfl
theorem bs_len (l : List Bool) : (bs l).length = l.length := by simp [bs]
theorem cells_len {s : Sto} (h : s.Ok) : s.cells.length = 201 := by simp [Sto.cells, head_len, bs_len, h.f, h.j, h.r]
theorem row_size {s : Sto} (h : s.Ok) : s.row.size = 201 := by simp [Sto.row, cells_len h]
theorem at_mid {α : Type} {a b c : List α} {n k : Nat} (hn : a.length = n) (hk : k < b.length) : (a ++ (b ++ c))[n + k]? = b[k]? := by
 rw [List.getElem?_append_right (by omega), hn, Nat.add_sub_cancel_left, List.getElem?_append_left hk]
theorem set_mid {α : Type} {a b c : List α} {n k : Nat} {v : α} (hn : a.length = n) (hk : k < b.length) : (a ++ (b ++ c)).set (n + k) v = a ++ (b.set k v ++ c) := by
 rw [List.set_append_right _ _ (by omega), hn, Nat.add_sub_cancel_left, List.set_append_left _ _ hk]
theorem Sto.splitC (s : Sto) : s.cells = (s.head ++ s.F) ++ ([.int .u64 (s.ck : Int)] ++ (bs s.J ++ bs s.R)) := by simp [Sto.cells]
theorem Sto.splitJ (s : Sto) : s.cells = (s.head ++ s.F ++ [.int .u64 (s.ck : Int)]) ++ (bs s.J ++ bs s.R) := by simp [Sto.cells]
theorem Sto.splitR (s : Sto) : s.cells = (s.head ++ s.F ++ [.int .u64 (s.ck : Int)] ++ bs s.J) ++ (bs s.R ++ []) := by simp [Sto.cells]
theorem cells_F {s : Sto} (h : s.Ok) {k : Nat} (hk : k < 64) : s.cells[8 + k]? = s.F[k]? := at_mid (head_len s) (by rw [h.f]; exact hk)
theorem cells_C {s : Sto} (h : s.Ok) : s.cells[72]? = some (.int .u64 (s.ck : Int)) := by
 rw [s.splitC]
 exact at_mid (n := 72) (k := 0) (by simp [head_len, h.f]) (by simp)
theorem cells_J {s : Sto} (h : s.Ok) {k : Nat} (hk : k < 64) : s.cells[73 + k]? = some (.bool (s.J.getD k false)) := by
 rw [s.splitJ, at_mid (n := 73) (by simp [head_len, h.f]) (by rw [bs_len, h.j]; exact hk)]
 simp [bs, List.getD, h.j, hk]
theorem cells_R {s : Sto} (h : s.Ok) {k : Nat} (hk : k < 64) : s.cells[137 + k]? = some (.bool (s.R.getD k false)) := by
 rw [s.splitR, at_mid (n := 137) (by simp [head_len, h.f, bs_len, h.j]) (by rw [bs_len, h.r]; exact hk)]
 simp [bs, List.getD, h.r, hk]
theorem set_F {s : Sto} (h : s.Ok) {k : Nat} (hk : k < 64) (v : Value) : s.row.setIfInBounds (8 + k) v = ({ s with F := s.F.set k v } : Sto).row := by
 unfold Sto.row
 rw [List.setIfInBounds_toArray]
 congr 1
 exact set_mid (head_len s) (by rw [h.f]; exact hk)
theorem set_C {s : Sto} (h : s.Ok) (x : Nat) : s.row.setIfInBounds 72 (.int .u64 (x : Int)) = ({ s with ck := x } : Sto).row := by
 unfold Sto.row
 rw [List.setIfInBounds_toArray]
 congr 1
 rw [s.splitC, Sto.splitC]
 exact set_mid (n := 72) (k := 0) (by simp [head_len, h.f]) (by simp)
theorem bs_set (l : List Bool) (k : Nat) (b : Bool) : (bs l).set k (.bool b) = bs (l.set k b) := by simp [bs, List.map_set]
theorem set_J {s : Sto} (h : s.Ok) {k : Nat} (hk : k < 64) (b : Bool) : s.row.setIfInBounds (73 + k) (.bool b) = ({ s with J := s.J.set k b } : Sto).row := by
 unfold Sto.row
 rw [List.setIfInBounds_toArray]
 congr 1
 rw [s.splitJ, Sto.splitJ, set_mid (n := 73) (by simp [head_len, h.f]) (by rw [bs_len, h.j]; exact hk), bs_set]
 rfl
theorem set_R {s : Sto} (h : s.Ok) {k : Nat} (hk : k < 64) (b : Bool) : s.row.setIfInBounds (137 + k) (.bool b) = ({ s with R := s.R.set k b } : Sto).row := by
 unfold Sto.row
 rw [List.setIfInBounds_toArray]
 congr 1
 rw [s.splitR, Sto.splitR, set_mid (n := 137) (by simp [head_len, h.f, bs_len, h.j]) (by rw [bs_len, h.r]; exact hk), bs_set]
 rfl
theorem set_base (s : Sto) (v : Value) : s.row.setIfInBounds 7 v = ({ s with base := v } : Sto).row := by
 unfold Sto.row
 rw [List.setIfInBounds_toArray]
 rfl
structure StoAt (w : World) (g : Nat) (s : Sto) : Prop where
 row : w.heap[g]? = some (.cells s.row 92 (0, 0))
 ok : s.Ok
section
variable {w : World} {g : Nat} {s : Sto}
theorem StoAt.lt (h : StoAt w g s) : g < w.heap.size := (Array.getElem?_eq_some_iff.1 h.row).1
theorem StoAt.beside {w' : World} {S : List Nat} (h : StoAt w g s) (hb : Beside S w w') (hg : g ∉ S) : StoAt w' g s := ⟨(hb.block g h.lt hg).trans h.row, h.ok⟩
theorem StoAt.below {w' : World} (h : StoAt w g s) (hb : Below w.heap.size w w') : StoAt w' g s := ⟨(hb.block g h.lt).trans h.row, h.ok⟩
theorem StoAt.cell (h : StoAt w g s) {i : Nat} {v : Value} (hv : s.cells[i]? = some v) : w.cell? ⟨g, i, none⟩ = some v := by
 rw [cell_of_row w g _ _ _ _ h.row]
 simpa [Sto.row] using hv
theorem StoAt.head (h : StoAt w g s) : w.cell? ⟨g, 0, none⟩ = some (.pointer (some ⟨s.d, 0, none⟩)) ∧ w.cell? ⟨g, 1, none⟩ = some (.int .i64 s.sz) ∧ w.cell? ⟨g, 2, none⟩ = some (.int .i64 s.node) ∧ w.cell? ⟨g, 3, none⟩ = some (.int .u64 (s.ser : Int)) ∧ w.cell? ⟨g, 4, none⟩ = some s.fl ∧ w.cell? ⟨g, 5, none⟩ = some (.int .u64 (s.tm : Int)) ∧ w.cell? ⟨g, 6, none⟩ = some (.string s.fo) ∧ w.cell? ⟨g, 7, none⟩ = some s.base :=
 ⟨h.cell rfl, h.cell rfl, h.cell rfl, h.cell rfl, h.cell rfl, h.cell rfl, h.cell rfl, h.cell rfl⟩
theorem StoAt.cF (h : StoAt w g s) {k : Nat} (hk : k < 64) {v : Value} (hv : s.F[k]? = some v) : w.cell? ⟨g, 8 + k, none⟩ = some v := h.cell ((cells_F h.ok hk).trans hv)
theorem StoAt.cC (h : StoAt w g s) : w.cell? ⟨g, 72, none⟩ = some (.int .u64 (s.ck : Int)) := h.cell (cells_C h.ok)
theorem StoAt.cJ (h : StoAt w g s) {k : Nat} (hk : k < 64) : w.cell? ⟨g, 73 + k, none⟩ = some (.bool (s.J.getD k false)) := h.cell (cells_J h.ok hk)
theorem StoAt.cR (h : StoAt w g s) {k : Nat} (hk : k < 64) : w.cell? ⟨g, 137 + k, none⟩ = some (.bool (s.R.getD k false)) := h.cell (cells_R h.ok hk)
theorem StoAt.frozen (h : StoAt w g s) (i : Nat) : w.frozen? ⟨g, i, none⟩ = false := frozen_row0 h.row
theorem StoAt.rangeJ (h : StoAt w g s) : w.rangeAt g 73 (bs s.J) := by
 intro j v hv
 have hj : j < 64 := by have := (List.getElem?_eq_some_iff.1 hv).1; simpa [bs, h.ok.j] using this
 rw [h.cJ hj, ← hv]
 simp [bs, List.getD, h.ok.j, hj]
theorem StoAt.rangeR (h : StoAt w g s) : w.rangeAt g 137 (bs s.R) := by
 intro j v hv
 have hj : j < 64 := by have := (List.getElem?_eq_some_iff.1 hv).1; simpa [bs, h.ok.r] using this
 rw [h.cR hj, ← hv]
 simp [bs, List.getD, h.ok.r, hj]
theorem StoAt.setF (h : StoAt w g s) {k : Nat} (hk : k < 64) (v : Value) : StoAt (w.setCell ⟨g, 8 + k, none⟩ v) g { s with F := s.F.set k v } :=
 ⟨by rw [heapSame h.row, set_F h.ok hk], ⟨by simpa using h.ok.f, h.ok.j, h.ok.r⟩⟩
theorem StoAt.setC (h : StoAt w g s) (x : Nat) : StoAt (w.setCell ⟨g, 72, none⟩ (.int .u64 (x : Int))) g { s with ck := x } :=
 ⟨by rw [heapSame h.row, set_C h.ok], ⟨h.ok.f, h.ok.j, h.ok.r⟩⟩
theorem StoAt.setJ (h : StoAt w g s) {k : Nat} (hk : k < 64) (b : Bool) : StoAt (w.setCell ⟨g, 73 + k, none⟩ (.bool b)) g { s with J := s.J.set k b } :=
 ⟨by rw [heapSame h.row, set_J h.ok hk], ⟨h.ok.f, by simpa using h.ok.j, h.ok.r⟩⟩
theorem StoAt.setR (h : StoAt w g s) {k : Nat} (hk : k < 64) (b : Bool) : StoAt (w.setCell ⟨g, 137 + k, none⟩ (.bool b)) g { s with R := s.R.set k b } :=
 ⟨by rw [heapSame h.row, set_R h.ok hk], ⟨h.ok.f, h.ok.j, by simpa using h.ok.r⟩⟩
theorem StoAt.setBase (h : StoAt w g s) (v : Value) : StoAt (w.setCell ⟨g, 7, none⟩ v) g { s with base := v } :=
 ⟨by rw [heapSame h.row, set_base], ⟨h.ok.f, h.ok.j, h.ok.r⟩⟩
end
theorem isNode_s (n : Nat) (w : World) (hn : n < 64) : Calls Tryz.prog 120 #[.int .i64 (n : Int)] w fun e w' => e = .returned (.bool true) ∧ w' = w := by
 have d0 : decide ((0 : Int) ≤ (n : Int)) = true := decide_eq_true (by omega)
 have d1 : decide ((n : Int) < 64) = true := decide_eq_true (by omega)
 go_enter Tryz.func120, Tryz.ntmps120
 go_wp2
 go_ret
 exact ⟨rfl, rfl⟩
theorem has_s (l : List Bool) (n : Nat) (w : World) (hl : l.length = 64) (hn : n < 64) :
  Calls Tryz.prog 63 #[.agg (bs l).toArray, .int .i64 (n : Int)] w fun e w' => e = .returned (.bool (l.getD n false)) ∧ Below w.heap.size w w' := by
 have hc : (w.alloc (.cells (bs l).toArray 90)).cell? ⟨w.heap.size, n, none⟩ = some (.bool (l.getD n false)) := by
  rw [cell_of_row _ w.heap.size _ _ _ (0, 0) (heap_alloc_new w _)]
  simp [bs, List.getD, hl, hn]
 generalize l.getD n false = x at hc ⊢
 have hal : Below w.heap.size w (w.alloc (.cells (bs l).toArray 90)) := (Below.refl _ _).alloc (Nat.le_refl _) _
 have d0 : decide ((0 : Int) ≤ (n : Int)) = true := decide_eq_true (by omega)
 have d1 : decide ((n : Int) < 64) = true := decide_eq_true (by omega)
 generalize bs l = q at hc hal ⊢
 have HI := Lib.hid (fun W => isNode_s n W hn)
 clear hl
 go_enter Tryz.func63, Tryz.ntmps63
 go_wp2_with fail
 refine (HI.out _).mono ?_
 rintro e w1 ⟨rfl, rfl⟩
 go_wp2
 go_ret
 exact ⟨rfl, hal⟩
theorem joined_s (g : Nat) (s : Sto) (n : Nat) (w : World) (h : StoAt w g s) (hn : n < 64) : Calls Tryz.prog 32 #[.pointer (some ⟨g, 0, none⟩), .int .i64 (n : Int)] w fun e w' => e = .returned (.bool (s.J.getD n false)) ∧ Below w.heap.size w w' := by
 have hr := h.rangeJ
 have hh := has_s s.J n w h.ok.j hn
 have hlen : (bs s.J).length = 64 := by rw [bs_len, h.ok.j]
 clear h
 generalize s.J.getD n false = x at hh ⊢
 generalize bs s.J = q at hh hr hlen
 have HH := Lib.hid hh
 clear hh
 have hi : (Tryz.prog.info? 90).map (·.size) = some q.length := by rw [hlen]; kernel_rfl
 clear hlen
 go_enter Tryz.func32, Tryz.ntmps32
 go_wp2_with (first | (refine wpList_load_midG (by rfl) 90 (.tmp 10) rfl g 73 rfl q _ hr Tryz.underlying90 rfl hi ?_))
 refine HH.out.mono ?_
 rintro e w1 ⟨rfl, hb⟩
 go_wp2
 go_ret
 exact ⟨rfl, hb⟩
def memS (s : Sto) (n : Nat) : Bool := s.J.getD n false && !s.R.getD n false
theorem member_s (g : Nat) (s : Sto) (n : Nat) (w : World) (h : StoAt w g s) (hn : n < 64) : Calls Tryz.prog 34 #[.pointer (some ⟨g, 0, none⟩), .int .i64 (n : Int)] w fun e w' => e = .returned (.bool (memS s n)) ∧ Below w.heap.size w w' := by
 have HJ := Lib.hid (joined_s g s n w h hn)
 have HR := Lib.hid (fun W (hb : Below w.heap.size w W) => (⟨(h.below hb).rangeR, has_s s.R n W h.ok.r hn⟩ : W.rangeAt g 137 (bs s.R) ∧ _))
 have hlen : (bs s.R).length = 64 := by rw [bs_len, h.ok.r]
 have hm : memS s n = (s.J.getD n false && !s.R.getD n false) := rfl
 rw [hm]
 clear h hm
 generalize s.J.getD n false = x at HJ ⊢
 generalize s.R.getD n false = y at HR ⊢
 generalize bs s.R = q at HR hlen
 have hi : (Tryz.prog.info? 90).map (·.size) = some q.length := by rw [hlen]; kernel_rfl
 clear hlen
 go_enter Tryz.func34, Tryz.ntmps34
 go_wp2_with fail
 refine HJ.out.mono ?_
 rintro e w1 ⟨rfl, hb⟩
 obtain ⟨hr, hh⟩ := HR.out w1 hb
 have HH := Lib.hid hh
 have HB := Lib.hid hb
 clear hh hb HR HJ
 cases x with
 | false =>
   go_wp2
   go_ret
   exact ⟨rfl, HB.out⟩
 | true =>
   go_wp2_with (first | (refine wpList_load_midG (by rfl) 90 (.tmp 11) rfl g 137 rfl q _ hr Tryz.underlying90 rfl hi ?_))
   refine HH.out.mono ?_
   rintro e w2 ⟨rfl, hb2⟩
   go_wp2
   go_ret
   exact ⟨rfl, HB.out.trans (hb2.mono HB.out.size)⟩
theorem node_any (g : Nat) (s : Sto) (w : World) (h : StoAt w g s) : Calls Tryz.prog 33 #[.pointer (some ⟨g, 0, none⟩)] w fun e w' => e = .returned (.int .i64 s.node) ∧ w' = w := by
 obtain ⟨_, _, c2, _⟩ := h.head
 clear h
 go_enter Tryz.func33, Tryz.ntmps33
 go_wp2
 go_ret
 exact ⟨rfl, rfl⟩
theorem clock_any (g : Nat) (s : Sto) (w : World) (h : StoAt w g s) : Calls Tryz.prog 46 #[.pointer (some ⟨g, 0, none⟩)] w fun e w' => e = .returned (.int .u64 (s.ck : Int)) ∧ w' = w := by
 have c := h.cC
 clear h
 go_enter Tryz.func46, Tryz.ntmps46
 go_wp2
 go_ret
 exact ⟨rfl, rfl⟩
end Go.Proofs.YtinjbdgjcadodaaGreatDoor.St
namespace Go.Proofs.YtinjbdgjcadodaaGreatDoor.Facts
open Go Go.RowKit Words
def waits (ops : Array Oper) (j i : Nat) : Bool := ((ops[j]?).map fun o => o.after.any fun e => Region.binds .any e && e.on == i).getD false
section
variable {P : Program} {ops : Array Oper} {a0 : Act} {I : (Nat → Bool) → Act → World → Prop} {R : World → World → Prop} {Fact : Nat → Value → World → Prop}
def StepI (P : Program) (ops : Array Oper) (a0 : Act) (I : (Nat → Bool) → Act → World → Prop) (R : World → World → Prop) (Fact : Nat → Value → World → Prop) (j : Nat) (o : Oper) : Prop :=
 ∀ (s : Nat → Bool) (a : Act) (w : World), a.tmps.size = a0.tmps.size → s j = false → (∀ i, waits ops j i = true → s i = true) → I s a w → (∀ t, early ops j t = true → a.tmps.getD t undef = a0.tmps.getD t undef) → (∀ i d, dep ops j i d = true → Fact i (a.tmps.getD d undef) w) →
   (Region.wanted o (yielded ops a.tmps) = true → ∀ (K : Act → World → Prop) (Q : Exit → Act → World → Prop), (∀ v w', I (fun i => s i || i == j) (a.put o.dst v) w' → R w w' → Fact j v w' → K (a.put o.dst v) w') → o.wp P a w K Q) ∧
   (Region.wanted o (yielded ops a.tmps) = false → Fact j undef w ∧ I (fun i => s i || i == j) (a.put o.dst undef) w)
structure InvI (ops : Array Oper) (a0 : Act) (I : (Nat → Bool) → Act → World → Prop) (Fact : Nat → Value → World → Prop) (listed : Array Bool) (a : Act) (w : World) : Prop where
 len : listed.size = ops.size
 size : a.tmps.size = a0.tmps.size
 defers : a.defers = a0.defers
 inv : I (fun i => listed.getD i false) a w
 new : ∀ i d, listed.getD i false = true → (ops[i]?).bind (·.dst) = some d → Fact i (a.tmps.getD d undef) w
 old : ∀ t, (∀ i, listed.getD i false = true → (ops[i]?).bind (·.dst) ≠ some t) → a.tmps.getD t undef = a0.tmps.getD t undef
 closed : ∀ i o, ops[i]? = some o → listed.getD i false = true → ∀ e ∈ o.after, Region.binds .any e = true → listed.getD e.on false = true
theorem wpAny_factsI {n : Nat} (hs : sound n ops = true) (hn : a0.tmps.size = n) (refl : ∀ a, R a a)
  (mono : ∀ i v w w', Fact i v w → R w w' → Fact i v w')
  (hstep : ∀ j o, ops[j]? = some o → StepI P ops a0 I R Fact j o)
  {Q : Exit → Act → World → Prop}
  (hend : ∀ a w, InvI ops a0 I Fact (Array.replicate ops.size true) a w → Q .normal a w) :
  ∀ (fuel : Nat) (listed : Array Bool) (a : Act) (w : World), InvI ops a0 I Fact listed a w → listed.toList.count false ≤ fuel → wpAny P .any ops Q fuel listed a w := by
 have fin : ∀ (listed : Array Bool) (a : Act) (w : World), InvI ops a0 I Fact listed a w → (∀ i, i < ops.size → listed.getD i false = true) → Q .normal a w := by
  intro listed a w hI hall
  have : listed = Array.replicate ops.size true := by
   apply Array.ext
   ·simp [hI.len]
   ·intro i h1 h2
    have := hall i (by rw [← hI.len]; exact h1)
    simpa [h1] using this
  subst this
  exact hend a w hI
 intro fuel
 induction fuel with
 | zero =>
   intro listed a w hI hc
   have hall : ∀ i, i < ops.size → listed.getD i false = true := by
    intro i hi
    have h0 : listed.toList.count false = 0 := by omega
    rw [List.count_eq_zero] at h0
    have hi' : i < listed.size := by rw [hI.len]; exact hi
    cases hb : listed[i] with
    | true => simp [hi', hb]
    | false => exact absurd (by rw [← hb]; simp) h0
   refine ⟨?_, fin listed a w hI hall⟩
   rw [List.eq_nil_iff_forall_not_mem]
   intro j hj
   obtain ⟨h1, o, ho, _⟩ := mem_ready.1 hj
   have hjs : j < ops.size := (Array.getElem?_eq_some_iff.1 ho).1
   have hjl : j < listed.size := by rw [hI.len]; exact hjs
   have := hall j hjs
   simp [hjl] at this h1
   rw [this] at h1
   cases h1
 | succ fuel ih =>
   intro listed a w hI hc
   refine ⟨fun hr => fin listed a w hI (all_listed hs hI.len hr), fun j hj => ?_⟩
   obtain ⟨h1, o, ho, hedge⟩ := mem_ready.1 hj
   have hjs : j < ops.size := (Array.getElem?_eq_some_iff.1 ho).1
   have hjl : j < listed.size := by rw [hI.len]; exact hjs
   have hjf : listed[j] = false := by simpa [hjl] using h1
   have hjn : listed.getD j false = false := by simp [hjl, hjf]
   have early_ok : ∀ t, early ops j t = true → a.tmps.getD t undef = a0.tmps.getD t undef := by
    intro t ht
    refine hI.old t fun i hi hd => ?_
    have his : i < ops.size := by
     rcases Nat.lt_or_ge i ops.size with h' | h'
     ·exact h'
     ·rw [Array.getElem?_eq_none h'] at hd; cases hd
    simp only [early, List.all_eq_true, List.mem_range] at ht
    have := ht i his
    rw [hd] at this
    simp only [bne_self_eq_false, Bool.false_or, Bool.or_eq_true, beq_iff_eq] at this
    rcases this with rfl | this
    ·rw [hjn] at hi; cases hi
    ·rw [Array.getElem?_eq_getElem his] at this
     simp only [Option.map_some, Option.getD_some] at this
     obtain ⟨e, he, hb⟩ := Array.any_eq_true'.1 this
     simp only [Bool.and_eq_true, beq_iff_eq] at hb
     have := hI.closed i _ (Array.getElem?_eq_getElem his) hi e he hb.1
     rw [hb.2, hjn] at this
     cases this
   have wait_ok : ∀ i, waits ops j i = true → listed.getD i false = true := by
    intro i hw
    simp only [waits, ho, Option.map_some, Option.getD_some] at hw
    obtain ⟨e, he, hb⟩ := Array.any_eq_true'.1 hw
    simp only [Bool.and_eq_true, beq_iff_eq] at hb
    rw [← hb.2]
    exact hedge e he hb.1
   have dep_ok : ∀ i d, dep ops j i d = true → Fact i (a.tmps.getD d undef) w := by
    intro i d hd
    simp only [dep, ho, Option.map_some, Option.getD_some, Bool.and_eq_true, beq_iff_eq] at hd
    obtain ⟨e, he, hb⟩ := Array.any_eq_true'.1 hd.1
    simp only [Bool.and_eq_true, beq_iff_eq] at hb
    exact hI.new i d (by rw [← hb.2]; exact hedge e he hb.1) hd.2
   obtain ⟨s1, s2⟩ := hstep j o ho (fun i => listed.getD i false) a w hI.size hjn (fun i hw => wait_ok i hw) hI.inv early_ok dep_ok
   have next : ∀ v w', I (fun i => (fun i => listed.getD i false) i || i == j) (a.put o.dst v) w' → R w w' → Fact j v w' → wpAny P .any ops Q fuel (listed.setIfInBounds j true) (a.put o.dst v) w' := by
    intro v w' hII hR hF
    have hlist : ∀ i, (listed.setIfInBounds j true).getD i false = true ↔ i = j ∨ listed.getD i false = true := by
     intro i
     by_cases hij : i = j
     ·subst hij; simp [hjl]
     ·rw [getD_set_ne false (Ne.symm hij)]; simp [hij]
    have hsame : (fun i => (listed.setIfInBounds j true).getD i false) = fun i => (fun i => listed.getD i false) i || i == j := by
     funext i
     have := hlist i
     by_cases hij : i = j
     ·subst hij; rw [this.2 (.inl rfl)]; simp
     ·rw [getD_set_ne false (Ne.symm hij)]; simp [hij]
    refine ih _ _ _ ⟨by simp [hI.len], by rw [size_put]; exact hI.size, by rw [defers_put]; exact hI.defers, (by rw [hsame]; exact hII), ?_, ?_, ?_⟩ ?_
    ·intro i d hi hd
     rcases (hlist i).1 hi with rfl | hi'
     ·rw [ho] at hd
      have hd' : o.dst = some d := hd
      rw [hd', getD_put_same (by rw [hI.size, hn]; exact sound_dst hs (by rw [ho]; exact hd))]
      exact hF
     ·have hne : ∀ d', o.dst = some d' → d ≠ d' := by
       rintro d' hd' rfl
       have : i = j := sound_ne hs hd (by rw [ho]; exact hd')
       subst this
       rw [hjn] at hi'; cases hi'
      have keep : (a.put o.dst v).tmps.getD d undef = a.tmps.getD d undef := by
       cases hod : o.dst with
       | none => rfl
       | some d' => exact getD_put_other (hne d' hod)
      rw [keep]
      exact mono i _ w w' (hI.new i d hi' hd) hR
    ·intro t ht
     have hne : ∀ d', o.dst = some d' → t ≠ d' := by
      rintro d' hd' rfl
      exact ht j ((hlist j).2 (.inl rfl)) (by rw [ho]; exact hd')
     have keep : (a.put o.dst v).tmps.getD t undef = a.tmps.getD t undef := by
      cases hod : o.dst with
      | none => rfl
      | some d' => exact getD_put_other (hne d' hod)
     rw [keep]
     exact hI.old t fun i hi => ht i ((hlist i).2 (.inr hi))
    ·intro i o' ho' hi e he hb
     rcases (hlist i).1 hi with rfl | hi'
     ·rw [ho] at ho'
      injection ho' with ho'
      subst ho'
      exact (hlist _).2 (.inr (hedge e he hb))
     ·exact (hlist _).2 (.inr (hI.closed i o' ho' hi' e he hb))
    ·have hjl' : j < listed.toList.length := by simpa using hjl
     have hcs := List.count_set (a := true) (b := false) hjl'
     have hset : (listed.setIfInBounds j true).toList = listed.toList.set j true := by simp
     rw [hset, hcs]
     have hpos : 0 < listed.toList.count false := by
      rw [List.count_pos_iff]
      exact List.mem_iff_getElem.2 ⟨j, hjl', by simpa using hjf⟩
     have e : listed.toList[j] = false := by simpa using hjf
     rw [e, if_pos (show (false == false) = true from rfl), if_neg (show ¬ (true == false) = true by decide)]
     omega
   unfold wpOp
   simp only [ho]
   split
   ·rename_i hw
    exact .inl (s1 hw _ _ next)
   ·rename_i hw
    exact next undef w (s2 (by simpa using hw)).2 (refl w) (s2 (by simpa using hw)).1
structure PredR (R : World → World → Prop) where
 p : Value → World → Prop
 mono : ∀ v w w', p v w → R w w' → p v w'
def PredR.is {R : World → World → Prop} (u : Value) : PredR R := ⟨fun v _ => v = u, fun _ _ _ h _ => h⟩
def PredR.any {R : World → World → Prop} : PredR R := ⟨fun _ _ => True, fun _ _ _ h _ => h⟩
def PredR.that {R : World → World → Prop} (q : Value → Prop) : PredR R := ⟨fun v _ => q v, fun _ _ _ h _ => h⟩
def holdsR {R : World → World → Prop} (L : List (PredR R)) (i : Nat) (v : Value) (w : World) : Prop := (L.getD i PredR.any).p v w
def AllI (P : Program) (ops : Array Oper) (a0 : Act) (I : (Nat → Bool) → Act → World → Prop) (R : World → World → Prop) (L : List (PredR R)) : Nat → List Oper → Prop
 | _, [] => True
 | k, o :: r => StepI P ops a0 I R (holdsR L) k o ∧ AllI P ops a0 I R L (k + 1) r
theorem AllI.step {R : World → World → Prop} {L : List (PredR R)} : ∀ {l : List Oper} {k : Nat}, AllI P ops a0 I R L k l → ∀ j o, l[j]? = some o → StepI P ops a0 I R (holdsR L) (k + j) o
 | [], _, _, _, _, h => by simp at h
 | o :: r, k, h, 0, o', ho => by simp at ho; subst ho; exact h.1
 | o :: r, k, h, j + 1, o', ho => by
   have := AllI.step h.2 j o' (by simpa using ho)
   rw [show k + (j + 1) = k + 1 + j by omega]
   exact this
theorem wp_region_inv (I : (Nat → Bool) → Act → World → Prop) (R : World → World → Prop) {n : Nat} {l : List Oper} {id : Nat} {w : World} {Q : Exit → Act → World → Prop} (hm : P.follows .mixedOrders = true) (hs : sound n l.toArray = true) (hn : a0.tmps.size = n) (refl : ∀ a, R a a)
  (L : List (PredR R)) (h0 : I (fun _ => false) a0 w.drew) (hall : AllI P l.toArray a0 I R L 0 l)
  (hend : ∀ a w', I (fun i => decide (i < l.length)) a w' → a.tmps.size = n → a.defers = a0.defers → (∀ i d, (l.toArray[i]?).bind (·.dst) = some d → holdsR L i (a.tmps.getD d undef) w') →
   (∀ t : Nat, (∀ i : Nat, (l.toArray[i]?).bind (·.dst) ≠ some t) → a.tmps.getD t undef = a0.tmps.getD t undef) → Q .normal a w') :
  (Code.region id l.toArray true).wp P Q a0 w := by
 refine wp_region_any hm ?_
 refine wpAny_factsI (I := I) (R := R) (Fact := holdsR L) hs hn refl (fun i v w1 w2 h hb => (L.getD i PredR.any).mono v w1 w2 h hb)
  (fun j o ho => by have := hall.step j o (by simpa using ho); rwa [Nat.zero_add] at this) (fun a w' hI => ?_) _ _ _ _
  ⟨by simp, rfl, rfl, ?_, ?_, fun _ _ => rfl, ?_⟩ ?_
 ·have hL : (fun i => (Array.replicate l.toArray.size true).getD i false) = fun i => decide (i < l.length) := by
   funext i
   rw [Array.getD_eq_getD_getElem?, Array.getElem?_replicate]
   by_cases h : i < l.length <;> simp [h]
  refine hend a w' (by have := hI.inv; rwa [hL] at this) (by rw [hI.size, hn]) hI.defers (fun i d hd => hI.new i d ?_ hd) fun t ht => hI.old t fun i _ => ht i
  have : i < l.toArray.size := by
   rcases Nat.lt_or_ge i l.toArray.size with h' | h'
   ·exact h'
   ·rw [Array.getElem?_eq_none h'] at hd; cases hd
  simp at this
  simp [this]
 ·have : (fun i => (Array.replicate l.toArray.size false).getD i false) = fun _ => false := by funext i; exact none_listed _ i
  rw [this]
  exact h0
 ·intro i d hi
  rw [none_listed] at hi
  cases hi
 ·intro i o _ hi
  rw [none_listed] at hi
  cases hi
 ·have := List.count_le_length (a := false) (l := (Array.replicate l.toArray.size false).toList)
  rw [Array.length_toList, Array.size_replicate] at this
  exact this
theorem stepI_is {L : List (PredR R)} {j : Nat} {o : Oper} (u : Value) (refl : ∀ a, R a a)
  (h : ∀ (s : Nat → Bool) (a : Act) (w : World), a.tmps.size = a0.tmps.size → s j = false → (∀ i, waits ops j i = true → s i = true) → I s a w → (∀ t, early ops j t = true → a.tmps.getD t undef = a0.tmps.getD t undef) → (∀ i d, dep ops j i d = true → holdsR L i (a.tmps.getD d undef) w) →
   Region.wanted o (yielded ops a.tmps) = true ∧ (execOp a.eval o).run P w = .ok (.value u) w ∧ I (fun i => s i || i == j) (a.put o.dst u) w ∧ ∀ w, holdsR L j u w) : StepI P ops a0 I R (holdsR L) j o := by
 intro s a w hsz hsj hwt hI hold hnew
 obtain ⟨hw, hr, hI2, hF⟩ := h s a w hsz hsj hwt hI hold hnew
 refine ⟨fun _ K Q hK => ?_, fun hf => by rw [hw] at hf; cases hf⟩
 unfold Oper.wp
 rw [hr]
 exact hK u w hI2 (refl _) (hF w)
theorem stepI_new {L : List (PredR R)} {j : Nat} {o : Oper}
  (h : ∀ (s : Nat → Bool) (a : Act) (w : World), a.tmps.size = a0.tmps.size → s j = false → (∀ i, waits ops j i = true → s i = true) → I s a w → (∀ t, early ops j t = true → a.tmps.getD t undef = a0.tmps.getD t undef) → (∀ i d, dep ops j i d = true → holdsR L i (a.tmps.getD d undef) w) →
   Region.wanted o (yielded ops a.tmps) = true ∧ ∃ u w', (execOp a.eval o).run P w = .ok (.value u) w' ∧ I (fun i => s i || i == j) (a.put o.dst u) w' ∧ R w w' ∧ holdsR L j u w') : StepI P ops a0 I R (holdsR L) j o := by
 intro s a w hsz hsj hwt hI hold hnew
 obtain ⟨hw, u, w', hr, hI2, hb, hF⟩ := h s a w hsz hsj hwt hI hold hnew
 refine ⟨fun _ K Q hK => ?_, fun hf => by rw [hw] at hf; cases hf⟩
 unfold Oper.wp
 rw [hr]
 exact hK u w' hI2 hb hF
theorem stepI_store {L : List (PredR R)} {j : Nat} {o : Oper}
  (h : ∀ (s : Nat → Bool) (a : Act) (w : World), a.tmps.size = a0.tmps.size → s j = false → (∀ i, waits ops j i = true → s i = true) → I s a w → (∀ t, early ops j t = true → a.tmps.getD t undef = a0.tmps.getD t undef) → (∀ i d, dep ops j i d = true → holdsR L i (a.tmps.getD d undef) w) →
   Region.wanted o (yielded ops a.tmps) = true ∧ ∃ w', (execOp a.eval o).run P w = .ok .skip w' ∧ I (fun i => s i || i == j) (a.put o.dst undef) w' ∧ R w w' ∧ holdsR L j undef w') : StepI P ops a0 I R (holdsR L) j o := by
 intro s a w hsz hsj hwt hI hold hnew
 obtain ⟨hw, w', hr, hI2, hb, hF⟩ := h s a w hsz hsj hwt hI hold hnew
 refine ⟨fun _ K Q hK => ?_, fun hf => by rw [hw] at hf; cases hf⟩
 unfold Oper.wp
 rw [hr]
 exact hK undef w' hI2 hb hF
theorem stepI_call {L : List (PredR R)} {j : Nat} {o : Oper}
  (h : ∀ (s : Nat → Bool) (a : Act) (w : World), a.tmps.size = a0.tmps.size → s j = false → (∀ i, waits ops j i = true → s i = true) → I s a w → (∀ t, early ops j t = true → a.tmps.getD t undef = a0.tmps.getD t undef) → (∀ i d, dep ops j i d = true → holdsR L i (a.tmps.getD d undef) w) →
   Region.wanted o (yielded ops a.tmps) = true ∧ ∃ f args, (execOp a.eval o).run P w = .ok (.enter f args) w ∧ Calls P f args w fun e w' => ∃ v, e = .returned v ∧ I (fun i => s i || i == j) (a.put o.dst v) w' ∧ R w w' ∧ holdsR L j v w') :
  StepI P ops a0 I R (holdsR L) j o := by
 intro s a w hsz hsj hwt hI hold hnew
 obtain ⟨hw, f, args, hr, hc⟩ := h s a w hsz hsj hwt hI hold hnew
 refine ⟨fun _ K Q hK => ?_, fun hf => by rw [hw] at hf; cases hf⟩
 unfold Oper.wp
 rw [hr]
 refine hc.mono ?_
 rintro e w' ⟨v, rfl, hI2, hb, hF⟩
 exact hK v w' hI2 hb hF
end
theorem exec_getRow {P : Program} {W : World} {op : Oper} {a : Act} (ty : TypeId) (x : Operand) (ho : op.op = .load ty x) (b : Nat) (e : TypeId) (cs : Array Value) (fr : Nat × Nat) (d : TypeDesc) (hx : a.eval x = .pointer (some ⟨b, 0, none⟩)) (hb : W.heap[b]? = some (.cells cs e fr)) (hu : P.underlying ty = some d) (hd : (match d with | .struct _ | .array _ _ => true | _ => false) = true) (hi : (P.info? ty).map (·.size) = some cs.size) :
  (execOp a.eval op).run P W = .ok (.value (.agg cs)) W := by
 unfold execOp
 simp only [ho, hx, Instr.loadAt, Instr.sureAddr, Sem.run_bind, Sem.run_pure, Result.andThen_ok, run_loadVar_row W b e ty cs fr d hb hu hd hi]
theorem exec_putRow {P : Program} {W : World} {op : Oper} {a : Act} (ty : TypeId) (x y : Operand) (ho : op.op = .store ty x y) (b : Nat) (e : TypeId) (cur vs : Array Value) (hx : a.eval x = .pointer (some ⟨b, 0, none⟩)) (hy : a.eval y = .agg vs) (hb : W.heap[b]? = some (.cells cur e (0, 0))) (hi : (P.info? ty).map (·.size) = some vs.size) (hs : cur.size = vs.size) (h1 : vs.all (·.oneCell') = true) :
  (execOp a.eval op).run P W = .ok .skip (W.setRow b vs) := by
 unfold execOp
 simp only [ho, hx, hy, Instr.storeAt, Instr.sureAddr, Sem.run_bind, Sem.run_pure, Result.andThen_ok, run_storeVar_row W b e ty cur vs hb hi hs h1]
def BoxR (T : TypeId) (n B : Nat) (a b : World) : Prop := ∀ k X, B ≤ k → a.heap[k]? = some (.cells X T (0, 0)) → X.size = n → X.all (·.oneCell') = true → ∃ Y, b.heap[k]? = some (.cells Y T (0, 0)) ∧ Y.size = n ∧ Y.all (·.oneCell') = true
theorem BoxR.refl (T : TypeId) (n B : Nat) (a : World) : BoxR T n B a a := fun k X _ h h1 h2 => ⟨X, h, h1, h2⟩
theorem BoxR.beside {T : TypeId} {n B : Nat} {a b : World} {D : List Nat} (h : Beside D a b) (hD : ∀ k ∈ D, k < B) : BoxR T n B a b :=
 fun k X hk hx h1 h2 => ⟨X, (h.block k (Array.getElem?_eq_some_iff.1 hx).1 (fun hm => by have := hD k hm; omega)).trans hx, h1, h2⟩
theorem BoxR.below {T : TypeId} {n B : Nat} {a b : World} (h : Below a.heap.size a b) : BoxR T n B a b := BoxR.beside (Beside.of_below h []) fun k hk => by cases hk
theorem BoxR.stored {T T' : TypeId} {n B : Nat} {W : World} {x : Nat} {X vs : Array Value} (hx : W.heap[x]? = some (.cells X T' (0, 0))) (hs : vs.size = n) (h1 : vs.all (·.oneCell') = true) : BoxR T n B W (W.setRow x vs) := fun k Y hk hY hn hone => by
 by_cases e : k = x
 ·subst e
  rw [hx] at hY
  injection hY with hY
  injection hY with hY hT hf
  subst hY
  subst hT
  exact ⟨vs, heap_setRow hx, hs, h1⟩
 ·exact ⟨Y, ((setRow_beside W x vs).block k (Array.getElem?_eq_some_iff.1 hY).1 (by simp; exact e)).trans hY, hn, hone⟩
def PBoxR (T : TypeId) (n B : Nat) : PredR (BoxR T n B) := ⟨fun v W => ∃ b Y, v = .pointer (some ⟨b, 0, none⟩) ∧ B ≤ b ∧ W.heap[b]? = some (.cells Y T (0, 0)) ∧ Y.size = n ∧ Y.all (·.oneCell') = true, fun v w w' ⟨b, Y, h1, h2, h3, h4, h5⟩ hb => by
 obtain ⟨Z, h6, h7⟩ := hb b Y h2 h3 h4 h5
 exact ⟨b, Z, h1, h2, h6, h7⟩⟩
end Go.Proofs.YtinjbdgjcadodaaGreatDoor.Facts
