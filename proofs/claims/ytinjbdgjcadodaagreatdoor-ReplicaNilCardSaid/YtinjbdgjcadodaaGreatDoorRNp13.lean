/- Texts of the law ReplicaNil, put together. -/
import Derived.Deep.QuietTactic
import Derived.BigQuiet
import Derived.WalkSpells
import Derived.Lib.SlBytesConst
import Derived.Laws.StructEq
import Derived.Deep.Cut
import Derived.Test.YtinjbdgjcadodaaGreatDoorRNp03
import Derived.Test.YtinjbdgjcadodaaGreatDoorRNp04
import Derived.Test.YtinjbdgjcadodaaGreatDoorRNp05
import Derived.Test.YtinjbdgjcadodaaGreatDoorRNp12
set_option linter.unusedVariables false
set_option linter.unusedSimpArgs false
namespace Go.Proofs.YtinjbdgjcadodaaGreatDoor.Sht
open Go Go.RowKit Words Enc Go.Proofs.YtinjbdgjcadodaaGreatDoor.Made Dsk
theorem hd_fits5 {h : Hd} (h1 : -9223372036854775808 ≤ h.room) (h2 : h.room ≤ 9223372036854775807) (h3 : h.acts ≤ 1000000000000) (h4 : -9223372036854775808 ≤ h.left) (h5 : h.left ≤ 9223372036854775807) (h6 : -9223372036854775808 ≤ h.torn) (h7 : h.torn ≤ 9223372036854775807) : h.fits := ⟨⟨h1, h2⟩, h3, ⟨h4, h5⟩, ⟨h6, h7⟩⟩
theorem step_low5 {w0 w w' : World} {S S' : List Nat} (b : Below w0.heap.size w0 w) (hS : ∀ k ∈ S, w0.heap.size ≤ k) (hb : Beside S w w') (hs : ∀ k ∈ S', k ∈ S ∨ w.heap.size ≤ k) : Below w0.heap.size w0 w' ∧ ∀ k ∈ S', w0.heap.size ≤ k :=
 ⟨Below.beside b hb b.size hS, fun k hk => by
  rcases hs k hk with h | h
  ·exact hS k h
  ·have := b.size; omega⟩
theorem act_un {room left torn : Int} {acts : Nat} (hl : left < 0) : Hd.act ⟨room, acts, left, torn, false⟩ = ⟨room, acts + 1, left, torn, false⟩ := by
 have h1 : ¬ left = 0 := by omega
 have h2 : ¬ 0 < left := by omega
 simp [Hd.act, h1, h2]
theorem may_un {room left torn : Int} {acts : Nat} (hl : left ≠ 0) : Hd.may ⟨room, acts, left, torn, false⟩ = true := by simp [Hd.may, hl]
def Since (w0 : World) (d : Nat) (files : List File) (h : Hd) (w : World) : Prop := ∃ S, Disk w d S files h ∧ Below w0.heap.size w0 w ∧ ∀ k ∈ S, w0.heap.size ≤ k
theorem since_next {w0 w w' : World} {d : Nat} {S : List Nat} {files : List File} {h : Hd} (b : Below w0.heap.size w0 w) (hS : ∀ k ∈ S, w0.heap.size ≤ k) (hn : Dsk.Next S w d files h w') : Since w0 d files h w' := by
 obtain ⟨S', hd, hb, hs⟩ := hn
 obtain ⟨b', hS'⟩ := step_low5 b hS hb hs
 exact ⟨S', hd, b', hS'⟩
def TitleAt (w : World) (m : Nat) (k : UInt8) (a b : Nat) : Prop := w.heap[m]? = some (.cells #[.int .u8 (k.toNat : Int), .int .u64 (a : Int), .int .u64 (b : Int)] 244 (0, 0))
theorem TitleAt.cells {w : World} {m : Nat} {k : UInt8} {a b : Nat} (h : TitleAt w m k a b) : w.cell? ⟨m, 0, none⟩ = some (.int .u8 (k.toNat : Int)) ∧ w.cell? ⟨m, 1, none⟩ = some (.int .u64 (a : Int)) ∧ w.cell? ⟨m, 2, none⟩ = some (.int .u64 (b : Int)) := by
 unfold TitleAt at h
 refine ⟨?_, ?_, ?_⟩ <;> (rw [cell_of_row w m _ _ _ _ h]; rfl)
theorem wanted_not {ops : Array Oper} {o : Oper} {a : Act} {g d : Nat} {b : Bool} (h : o.guard = some (g, b)) (hd : (ops[g]?).bind (·.dst) = some d) (hv : a.tmps.getD d undef = .bool (!b)) : Region.wanted o (yielded ops a.tmps) = false := by
 have hlt : d < a.tmps.size := by
  rcases Nat.lt_or_ge d a.tmps.size with h' | h'
  ·exact h'
  ·rw [Array.getD_eq_getD_getElem?, Array.getElem?_eq_none h'] at hv
   cases hv
 have hy : yielded ops a.tmps g = some (!b) := by
  unfold yielded
  rw [hd]
  simp only [Option.bind_some]
  rw [Array.getD_eq_getD_getElem?, Array.getElem?_eq_getElem hlt] at hv
  rw [Array.getElem?_eq_getElem hlt]
  simp only [Option.getD_some] at hv
  rw [hv]
 cases b <;> simp [Region.wanted, h, hy]
theorem step_skip {P : Program} {ops : Array Oper} {a0 : Act} {w0 : World} {L : List Facts.Pred} {j : Nat} {o : Oper}
  (h : ∀ (a : Act) (w : World), (∀ i d, Facts.dep ops j i d = true → Facts.holds L i (a.tmps.getD d undef) w) → Region.wanted o (yielded ops a.tmps) = false) (hu : ∀ w, Facts.holds L j undef w) :
  Facts.Step P ops a0 w0 (fun a b => Below a.heap.size a b) (Facts.holds L) j o := fun a w _ _ hnew =>
 ⟨fun hw => absurd hw (by rw [h a w hnew]; decide), fun _ => hu w⟩
end Go.Proofs.YtinjbdgjcadodaaGreatDoor.Sht
namespace Go.Proofs.YtinjbdgjcadodaaGreatDoor.Evt
open Go Go.RowKit Words Enc Go.Proofs.YtinjbdgjcadodaaGreatDoor.Q Go.Proofs.YtinjbdgjcadodaaGreatDoor.Tape
section
variable {PA : Option Addr} {PN : Nat} {L : List UInt8}
def Fresh (B : Nat) (A : Option Addr) (n : Nat) : Prop := 0 < n → ∀ a, A = some a → B ≤ a.block
theorem Fresh.none (B : Nat) : Fresh B none 0 := fun h => absurd h (by omega)
theorem Fresh.out {B : Nat} {A : Option Addr} {n : Nat} (h : Fresh B A n) {S : List Nat} (hS : ∀ x ∈ S, x < B) : Out S A n := fun hn a ha hm => by have := h hn a ha; have := hS _ hm; omega
structure St (PA : Option Addr) (PN : Nat) (L : List UInt8) (w : World) (t m p f : Nat) (row F : Array Value) (l : List UInt8) (W : World) : Prop where
 gm : W.heap[m]? = some (.cells #[.int .i64 0, .int .u64 0, .int .u64 0, .int .u8 0, .string ⟨#[]⟩, .slice none 0 0, .float .f64 0, .int .i64 0] 38 (0, 0))
 gp : W.heap[p]? = some (.cells row 38 (0, 0))
 gf : W.heap[f]? = some (.cells F 137 (0, 0))
 gb : Beside [t] w W
 gtape : TapeOn PA PN L W t l
 gsrc : Sees w PA PN L
 goff : Out [t] PA PN
 glt : t < w.heap.size
 ghm : w.heap.size ≤ m
 gmp : m < p
 gpf : p < f
end
end Go.Proofs.YtinjbdgjcadodaaGreatDoor.Evt
