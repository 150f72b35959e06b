/- The document's fold in memory. -/
import Derived.Test.YtjceeojbnpcpfaaGreatFolT
namespace Go.Proofs.YtjceeojbnpcpfaaGreat.Fol
open Go Go.RowKit Go.Proofs.YtjceeojbnpcpfaaGreat.Words Go.Proofs.YtjceeojbnpcpfaaGreat.Enc Go.Proofs.YtjceeojbnpcpfaaGreat.Q Go.Proofs.YtjceeojbnpcpfaaGreat.Evt
set_option linter.unusedVariables false
set_option linter.unusedSimpArgs false

theorem wp_then {P : Program} {c : Code} {K K' : Act → World → Prop} {Q' : Exit → Act → World → Prop} {a : Act} {w : World} (hq : ∀ a w, K a w → K' a w) (h : c.wp P (Exit.then K Q') a w) : c.wp P (Exit.then K' Q') a w :=
  Code.wp_mono (fun e a w he => by cases e <;> first | exact hq _ _ he | exact he) h

/-- A cell's text in the document's list. -/
structure TextR (w : World) (S : List Nat) (m : RC) : Prop where
  sees : SeesV w S m.A (cs m.text)
  num : qb m.num < 18446744073709551616
/-- The document's fold in memory, outside S. -/
structure RefAt (w : World) (S : List Nat) (La : Option Addr) (lc : Nat) (L : List (Key × RC)) (h : RH) (F : Fo) : Prop where
  rows : SeesV w S La (rowsR L)
  cap : L.length ≤ lc
  cap2 : lc ≤ 9223372036854775807
  texts : ∀ p ∈ L, TextR w S p.2
  cells : mapV RC.cel L = F.L
  J : SeesV w S h.Ja (bs F.J)
  R : SeesV w S h.Ra (bs F.R)
  H : SeesV w S h.Ha (Vec.us F.H)
  jc : 64 ≤ h.Jc ∧ h.Jc ≤ 9223372036854775807
  rc : 64 ≤ h.Rc ∧ h.Rc ≤ 9223372036854775807
  hc : 64 ≤ h.Hc ∧ h.Hc ≤ 9223372036854775807
  T : h.T = F.time
  W : h.W = F.wr
  M : h.M = F.mark
section
variable {w w' : World} {S : List Nat} {La : Option Addr} {lc : Nat} {L : List (Key × RC)} {h : RH} {F : Fo}
theorem TextR.beside {m : RC} {S1 : List Nat} (t : TextR w S m) (hb : Beside S1 w w') (hS : ∀ x ∈ S1, x ∈ S ∨ w.heap.size ≤ x) : TextR w' S m := ⟨t.sees.beside hb hS, t.num⟩
theorem TextR.wider {m : RC} {S1 : List Nat} (t : TextR w S m) (hS : ∀ x ∈ S1, x ∈ S ∨ w.heap.size ≤ x) : TextR w S1 m := ⟨t.sees.wider hS, t.num⟩
theorem RefAt.beside {S1 : List Nat} (r : RefAt w S La lc L h F) (hb : Beside S1 w w') (hS : ∀ x ∈ S1, x ∈ S ∨ w.heap.size ≤ x) : RefAt w' S La lc L h F :=
  ⟨r.rows.beside hb hS, r.cap, r.cap2, fun p hp => (r.texts p hp).beside hb hS, r.cells, r.J.beside hb hS, r.R.beside hb hS, r.H.beside hb hS, r.jc, r.rc, r.hc, r.T, r.W, r.M⟩
theorem RefAt.below (r : RefAt w S La lc L h F) (hb : Below w.heap.size w w') : RefAt w' S La lc L h F := r.beside (S1 := []) (.of_below hb _) fun x hx => by cases hx
theorem RefAt.wider {S1 : List Nat} (r : RefAt w S La lc L h F) (hS : ∀ x ∈ S1, x ∈ S ∨ w.heap.size ≤ x) : RefAt w S1 La lc L h F :=
  ⟨r.rows.wider hS, r.cap, r.cap2, fun p hp => (r.texts p hp).wider hS, r.cells, r.J.wider hS, r.R.wider hS, r.H.wider hS, r.jc, r.rc, r.hc, r.T, r.W, r.M⟩
end

end Go.Proofs.YtjceeojbnpcpfaaGreat.Fol
