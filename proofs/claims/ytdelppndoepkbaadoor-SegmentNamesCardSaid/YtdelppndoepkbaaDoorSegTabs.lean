/- What the listed variables of the standard library give the walks: a table of powers of ten, one cell of another table, two errors. -/
import Derived.Test.YtdelppndoepkbaaDoorRows
import Derived.Test.YtdelppndoepkbaaDoorWords
import Derived.Handy
import Derived.LaidMore
import Derived.LaidLaws
import Derived.Lib.LaidTab
import Derived.Lib.SmallJoins
import Derived.Lib.ItoaNum
import Derived.Stop.LaidErr
namespace Go.Proofs.YtdelppndoepkbaaDoor.Seg
open Go Go.RowKit Go.Proofs.YtdelppndoepkbaaDoor.Words
set_option linter.unusedVariables false

structure STabs (w : World) : Prop where
  pows : Lib.TabIs Tryd.prog w "internal/strconv.uint64pow10" .u64 Lib.pow10Tab
  deb : w.cell? ⟨5, 15, none⟩ = some (.int .u8 4)
  es : ∃ u v, w.cell? ⟨2, 0, none⟩ = some (.iface u v)
  er : ∃ u v, w.cell? ⟨3, 0, none⟩ = some (.iface u v)
theorem named_pows : Tryd.prog.globalNamed "internal/strconv.uint64pow10" = some 0 := by kernel_rfl
theorem named_deb : Tryd.prog.globalNamed "math/bits.deBruijn64tab" = some 5 := by kernel_rfl
theorem named_es : Tryd.prog.globalNamed "strconv.ErrSyntax" = some 2 := by kernel_rfl
theorem named_er : Tryd.prog.globalNamed "strconv.ErrRange" = some 3 := by kernel_rfl
theorem cell_below {w w' : World} {p : Addr} {v : Value} (h : w.cell? p = some v) (hb : Below w.heap.size w w') : w'.cell? p = some v := by
  rw [hb.cell (World.block_lt_of_cell? _ _ h)]
  exact h
theorem STabs.below {w w' : World} (h : STabs w) (hb : Below w.heap.size w w') : STabs w' := by
  obtain ⟨u, v, h1⟩ := h.es
  obtain ⟨x, y, h2⟩ := h.er
  exact ⟨Joins.tab_stays named_pows h.pows hb (Nat.le_refl _), cell_below h.deb hb, ⟨u, v, cell_below h1 hb⟩, ⟨x, y, cell_below h2 hb⟩⟩

theorem laid_iface {P : Program} {n nm : String} {d : DataW Unit} {r : List (String × DataW Unit)} {W : World} {g : Nat} {ti : TypeId} {ms : Array (String × TypeId)}
    (h : laidMet P ((n, .iface nm d) :: r) W) (hg : P.globalNamed n = some g) (ht : (P.globals[g]?).map (·.type) = some ti) (hi : P.underlying ti = some (.interface ms)) : ∃ u v, W.cell? ⟨g, 0, none⟩ = some (.iface u v) := by
  obtain ⟨ps, ⟨g0, t0, cs0, f0, p0, q0, hg0, ht0, hv0, hd0, _, e0⟩, _, hrows⟩ := h
  obtain rfl := Option.some.inj (hg.symm.trans hg0)
  obtain rfl := Option.some.inj (ht.symm.trans ht0)
  obtain ⟨l0⟩ := cs0
  obtain ⟨f1, u, v, hcs, hn, h1⟩ := iface_of_trod hi hd0
  simp only at hcs
  subst hcs
  exact ⟨u, v, by simpa using World.var?_cell hg0 hv0 0⟩

def debInts : List Int := [0, 1, 56, 2, 57, 49, 28, 3, 61, 58, 42, 50, 38, 29, 17, 4, 62, 47, 59, 36, 45, 43, 51, 22, 53, 39, 33, 30, 24, 18, 12, 5, 63, 55, 48, 27, 60, 41, 37, 16, 46, 35, 44, 21, 52, 32, 23, 11, 54, 26, 40, 15, 34, 20, 31, 10, 25, 14, 19, 9, 13, 8, 7, 6]
set_option maxRecDepth 100000 in
theorem tabs_of {W : World} {d32 dr ds : DataW Unit} {n32 nr ns : String} {r : List (String × DataW Unit)}
    (h : laidMet Tryd.prog ((n32, d32) :: ("math/bits.deBruijn64tab", Lib.tabData .u8 debInts) :: ("internal/strconv.uint64pow10", Lib.tabData .u64 Lib.pow10Tab) :: ("strconv.ErrRange", .iface nr dr) :: ("strconv.ErrSyntax", .iface ns ds) :: r) W) : STabs W ∧ laidMet Tryd.prog r W := by
  have h1 := h.tail
  have h2 := h1.tail
  have h3 := h2.tail
  have h4 := h3.tail
  have hd := Lib.tabIs_of_head (g := 5) (t := 94) (e := 5) (n := 64) named_deb (by kernel_rfl) Tryd.underlying94 Tryd.underlying5 (by kernel_rfl) (by kernel_rfl) h1
  exact ⟨⟨Lib.tabIs_of_head (g := 0) (t := 76) (e := 22) (n := 20) named_pows (by kernel_rfl) Tryd.underlying76 Tryd.underlying22 (by kernel_rfl) (by kernel_rfl) h2,
    hd.cell named_deb 15 (by decide),
    laid_iface h4 named_es (by kernel_rfl) Tryd.underlying36,
    laid_iface h3 named_er (by kernel_rfl) Tryd.underlying36⟩, h4.tail⟩
/-- What the rows of layer 8 list first. -/
def heads : List (String × DataW Unit) := [("math/bits.deBruijn32tab", Rows.laid_math_bits_deBruijn32tab), ("math/bits.deBruijn64tab", Lib.tabData .u8 debInts), ("internal/strconv.uint64pow10", Lib.tabData .u64 Lib.pow10Tab),
  ("strconv.ErrRange", .iface "*errors.errorString" (.ptr (.agg [.lit (.string [118, 97, 108, 117, 101, 32, 111, 117, 116, 32, 111, 102, 32, 114, 97, 110, 103, 101])]))),
  ("strconv.ErrSyntax", .iface "*errors.errorString" (.ptr (.agg [.lit (.string [105, 110, 118, 97, 108, 105, 100, 32, 115, 121, 110, 116, 97, 120])])))]
theorem tabs_heads {W : World} {r : List (String × DataW Unit)} (h : laidMet Tryd.prog (heads ++ r) W) : STabs W ∧ laidMet Tryd.prog r W := tabs_of h
end Go.Proofs.YtdelppndoepkbaaDoor.Seg
