/- The functions that the laws of layer 5 call: short, same, head, lay. head and lay, as the laws of layer 5 reckon them. -/
import Derived.Deep.QuietTactic
import Derived.BigQuiet
import Derived.WalkSpells
import Derived.Lib.SlBytesConst
import Derived.Laws.StructEq
import Derived.Test.YtinjbdgjcadodaaGreatDoorTNp05
import Derived.Test.YtinjbdgjcadodaaGreatDoorTNp06
import Derived.Test.YtinjbdgjcadodaaGreatDoorTNp09
namespace Go.Proofs.YtinjbdgjcadodaaGreatDoor.Sht
open Go Go.RowKit Go.Proofs.YtinjbdgjcadodaaGreatDoor.Words Go.Proofs.YtinjbdgjcadodaaGreatDoor.Enc Go.Proofs.YtinjbdgjcadodaaGreatDoor.Made Go.Proofs.YtinjbdgjcadodaaGreatDoor.Dsk
set_option linter.unusedVariables false

end Go.Proofs.YtinjbdgjcadodaaGreatDoor.Sht
namespace Go.Proofs.YtinjbdgjcadodaaGreatDoor.Sht
open Go Go.RowKit Go.Proofs.YtinjbdgjcadodaaGreatDoor.Words Go.Proofs.YtinjbdgjcadodaaGreatDoor.Enc Go.Proofs.YtinjbdgjcadodaaGreatDoor.Made Go.Proofs.YtinjbdgjcadodaaGreatDoor.Dsk
set_option linter.unusedVariables false

end Go.Proofs.YtinjbdgjcadodaaGreatDoor.Sht

/- The example with which the laws of layer 5 begin. What Swap comes to, on a disk of one file: plain lists. Calls of the laws of layer 5, held against the world in which the law began. -/
namespace Go.Proofs.YtinjbdgjcadodaaGreatDoor.Sht
open Go Go.RowKit Go.Proofs.YtinjbdgjcadodaaGreatDoor.Words Go.Proofs.YtinjbdgjcadodaaGreatDoor.Enc Go.Proofs.YtinjbdgjcadodaaGreatDoor.Made Go.Proofs.YtinjbdgjcadodaaGreatDoor.Dsk
set_option linter.unusedVariables false

theorem hd_fits5 {h : Hd} (h1 : -9223372036854775808 ≤ h.room) (h2 : h.room ≤ 9223372036854775807) (h3 : h.acts ≤ 1000000000000) (h4 : -9223372036854775808 ≤ h.left) (h5 : h.left ≤ 9223372036854775807) (h6 : -9223372036854775808 ≤ h.torn) (h7 : h.torn ≤ 9223372036854775807) : h.fits := ⟨⟨h1, h2⟩, h3, ⟨h4, h5⟩, ⟨h6, h7⟩⟩
theorem ok_f5 : okName [102] = true := by decide +kernel
/-- Behind a step on a disk of the call's own. -/
theorem step_low5 {w0 w w' : World} {S S' : List Nat} (b : Below w0.heap.size w0 w) (hS : ∀ k ∈ S, w0.heap.size ≤ k) (hb : Beside S w w') (hs : ∀ k ∈ S', k ∈ S ∨ w.heap.size ≤ k) : Below w0.heap.size w0 w' ∧ ∀ k ∈ S', w0.heap.size ≤ k :=
  ⟨Below.beside b hb b.size hS, fun k hk => by
    rcases hs k hk with h | h
    · exact hS k h
    · have := b.size; omega⟩
end Go.Proofs.YtinjbdgjcadodaaGreatDoor.Sht
namespace Go.Proofs.YtinjbdgjcadodaaGreatDoor.Sht
open Go Go.RowKit Go.Proofs.YtinjbdgjcadodaaGreatDoor.Words Go.Proofs.YtinjbdgjcadodaaGreatDoor.Enc Go.Proofs.YtinjbdgjcadodaaGreatDoor.Made Go.Proofs.YtinjbdgjcadodaaGreatDoor.Dsk
set_option linter.unusedVariables false

abbrev fN : List UInt8 := [102]
theorem act_un {room left torn : Int} {acts : Nat} (hl : left < 0) : Hd.act ⟨room, acts, left, torn, false⟩ = ⟨room, acts + 1, left, torn, false⟩ := by
  have h1 : ¬ left = 0 := by omega
  have h2 : ¬ 0 < left := by omega
  simp [Hd.act, h1, h2]
theorem may_un {room left torn : Int} {acts : Nat} (hl : left ≠ 0) : Hd.may ⟨room, acts, left, torn, false⟩ = true := by simp [Hd.may, hl]

end Go.Proofs.YtinjbdgjcadodaaGreatDoor.Sht
namespace Go.Proofs.YtinjbdgjcadodaaGreatDoor.Sht
open Go Go.RowKit Go.Proofs.YtinjbdgjcadodaaGreatDoor.Words Go.Proofs.YtinjbdgjcadodaaGreatDoor.Enc Go.Proofs.YtinjbdgjcadodaaGreatDoor.Made Go.Proofs.YtinjbdgjcadodaaGreatDoor.Dsk
set_option linter.unusedVariables false

/-- A disk of the law's own: all that it owns is new since w0; what was there in w0 is as it was. -/
def Since (w0 : World) (d : Nat) (files : List File) (h : Hd) (w : World) : Prop := ∃ S, Disk w d S files h ∧ Below w0.heap.size w0 w ∧ ∀ k ∈ S, w0.heap.size ≤ k
theorem Since.below {w0 w : World} {d : Nat} {files : List File} {h : Hd} (s : Since w0 d files h w) : Below w0.heap.size w0 w := by obtain ⟨_, _, b, _⟩ := s; exact b
theorem Since.after {w0 w w' : World} {d : Nat} {files : List File} {h : Hd} (s : Since w0 d files h w) (hb : Below w.heap.size w w') : Since w0 d files h w' := by
  obtain ⟨S, hd, b, hS⟩ := s
  exact ⟨S, hd.below hb, b.trans (hb.mono b.size), hS⟩
theorem since_next {w0 w w' : World} {d : Nat} {S : List Nat} {files : List File} {h : Hd} (b : Below w0.heap.size w0 w) (hS : ∀ k ∈ S, w0.heap.size ≤ k) (hn : Dsk.Next S w d files h w') : Since w0 d files h w' := by
  obtain ⟨S', hd, hb, hs⟩ := hn
  obtain ⟨b', hS'⟩ := step_low5 b hS hb hs
  exact ⟨S', hd, b', hS'⟩
/-- A title's variable. -/
def TitleAt (w : World) (m : Nat) (k : UInt8) (a b : Nat) : Prop := w.heap[m]? = some (.cells #[.int .u8 (k.toNat : Int), .int .u64 (a : Int), .int .u64 (b : Int)] 244 (0, 0))
theorem TitleAt.cells {w : World} {m : Nat} {k : UInt8} {a b : Nat} (h : TitleAt w m k a b) : w.cell? ⟨m, 0, none⟩ = some (.int .u8 (k.toNat : Int)) ∧ w.cell? ⟨m, 1, none⟩ = some (.int .u64 (a : Int)) ∧ w.cell? ⟨m, 2, none⟩ = some (.int .u64 (b : Int)) := by
  unfold TitleAt at h
  refine ⟨?_, ?_, ?_⟩ <;> (rw [cell_of_row w m _ _ _ _ h]; rfl)
theorem TitleAt.lt {w : World} {m : Nat} {k : UInt8} {a b : Nat} (h : TitleAt w m k a b) : m < w.heap.size := (Array.getElem?_eq_some_iff.1 h).1
theorem TitleAt.below {w0 w : World} {m : Nat} {k : UInt8} {a b : Nat} (h : TitleAt w0 m k a b) (hb : Below w0.heap.size w0 w) : TitleAt w m k a b := (hb.block m h.lt).trans h
end Go.Proofs.YtinjbdgjcadodaaGreatDoor.Sht

/- More calls of the laws of layer 5: Begin, Add, Read, held against the world in which the law began; two titles that are one. -/
namespace Go.Proofs.YtinjbdgjcadodaaGreatDoor.Sht
open Go Go.RowKit Go.Proofs.YtinjbdgjcadodaaGreatDoor.Words Go.Proofs.YtinjbdgjcadodaaGreatDoor.Enc Go.Proofs.YtinjbdgjcadodaaGreatDoor.Made Go.Proofs.YtinjbdgjcadodaaGreatDoor.Dsk
set_option linter.unusedVariables false

theorem beginL (w0 w : World) (d : Nat) (k : UInt8) (a b : Nat) (T : Chk.Tabs w0) (ha : a < 18446744073709551616) (hb : b < 18446744073709551616) (hd : Since w0 d [] ⟨65536, 0, -1, 0, false⟩ w) :
    Calls Tryz.prog 249 #[.pointer (some ⟨d, 0, none⟩), .string ⟨#[102]⟩, titleV k a b] w fun e w' => e = .returned (.int .i64 0) ∧ Since w0 d [⟨fN, headL k a b, (headL k a b).length⟩] ⟨65536, 2, -1, 0, false⟩ w' := by
  obtain ⟨S, hd, bel, hS⟩ := hd
  have hhl := headL_len (k := k) ha hb
  have htl := (titleL_len (k := k) ha hb).2
  have hlen : (headL k a b).length ≤ 50 := by omega
  have ha1 : appE ⟨65536, 0, -1, 0, false⟩ fN (headL k a b) [] = 0 := by simp [appE, may_un, sumA]; omega
  have hf1 : appF ⟨65536, 0, -1, 0, false⟩ fN (headL k a b) [] = [⟨fN, headL k a b, 0⟩] := by simp [appF, sumA, put]; omega
  have hr : beginR ⟨65536, 0, -1, 0, false⟩ fN (headL k a b) [] = (0, [⟨fN, headL k a b, (headL k a b).length⟩], ⟨65536, 2, -1, 0, false⟩) := by
    have he : readE ⟨65536, 0, -1, 0, false⟩ fN [] = 2 := by simp [readE, lookA]
    unfold beginR
    rw [he, if_neg (by decide)]
    unfold createR
    rw [ha1, if_pos rfl, hf1, act_un (by decide), act_un (by decide)]
    simp [thereE, thereF, may_un, lookA, upd, syncG]
  have := begin_any d S [] ⟨65536, 0, -1, 0, false⟩ fN k a b w (T.below bel) ha hb hd (hd_fits5 (by simp) (by simp) (by simp) (by simp) (by simp) (by simp) (by simp)) (by simp) ok_f5 (by simp [sumA]) (by rw [hf1]; simp only [sumA]; omega) (by simp)
  rw [hr] at this
  refine this.mono ?_
  rintro e w' ⟨rfl, hn⟩
  exact ⟨rfl, since_next bel hS hn⟩
end Go.Proofs.YtinjbdgjcadodaaGreatDoor.Sht

/- Mend of a sheet that is torn, and what follows it: held against the world in which the law began. -/
namespace Go.Proofs.YtinjbdgjcadodaaGreatDoor.Sht
open Go Go.RowKit Go.Proofs.YtinjbdgjcadodaaGreatDoor.Words Go.Proofs.YtinjbdgjcadodaaGreatDoor.Enc Go.Proofs.YtinjbdgjcadodaaGreatDoor.Made Go.Proofs.YtinjbdgjcadodaaGreatDoor.Dsk
set_option linter.unusedVariables false

/-- An operation that isn't wanted. -/
theorem wanted_not {ops : Array Oper} {o : Oper} {a : Act} {g d : Nat} {b : Bool} (h : o.guard = some (g, b)) (hd : (ops[g]?).bind (·.dst) = some d) (hv : a.tmps.getD d undef = .bool (!b)) : Region.wanted o (yielded ops a.tmps) = false := by
  have hlt : d < a.tmps.size := by
    rcases Nat.lt_or_ge d a.tmps.size with h' | h'
    · exact h'
    · rw [Array.getD_eq_getD_getElem?, Array.getElem?_eq_none h'] at hv
      cases hv
  have hy : yielded ops a.tmps g = some (!b) := by
    unfold yielded
    rw [hd]
    simp only [Option.bind_some]
    rw [Array.getD_eq_getD_getElem?, Array.getElem?_eq_getElem hlt] at hv
    rw [Array.getElem?_eq_getElem hlt]
    simp only [Option.getD_some] at hv
    rw [hv]
  cases b <;> simp [Region.wanted, h, hy]
theorem step_skip {P : Program} {ops : Array Oper} {a0 : Act} {w0 : World} {L : List Facts.Pred} {j : Nat} {o : Oper}
    (h : ∀ (a : Act) (w : World), (∀ i d, Facts.dep ops j i d = true → Facts.holds L i (a.tmps.getD d undef) w) → Region.wanted o (yielded ops a.tmps) = false) (hu : ∀ w, Facts.holds L j undef w) :
    Facts.Step P ops a0 w0 (fun a b => Below a.heap.size a b) (Facts.holds L) j o := fun a w _ _ hnew =>
  ⟨fun hw => absurd hw (by rw [h a w hnew]; decide), fun _ => hu w⟩
end Go.Proofs.YtinjbdgjcadodaaGreatDoor.Sht
