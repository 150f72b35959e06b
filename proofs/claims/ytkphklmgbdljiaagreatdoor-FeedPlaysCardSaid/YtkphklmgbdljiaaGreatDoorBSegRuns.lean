/- Events that follow each other. -/
import Derived.Test.YtkphklmgbdljiaaGreatDoorBSegOpen
namespace Go.Proofs.YtkphklmgbdljiaaGreatDoor.Seg
open Go Go.RowKit Go.Proofs.YtkphklmgbdljiaaGreatDoor.Words Go.Proofs.YtkphklmgbdljiaaGreatDoor.Enc Go.Proofs.YtkphklmgbdljiaaGreatDoor.Evt Go.Proofs.YtkphklmgbdljiaaGreatDoor.Made Go.Proofs.YtkphklmgbdljiaaGreatDoor.Dsk Go.Proofs.YtkphklmgbdljiaaGreatDoor.Sht
set_option linter.unusedVariables false
set_option linter.unusedSimpArgs false

/-- Events that follow each other from number q on. -/
def Runs (x : Int) : Nat → List Ev → Prop
  | _, [] => True
  | q, e :: r => (e.writer = x ∧ e.seq = q ∧ Right e ∧ e.num < 18446744073709551616 ∧ plainE e = e ∧ e.text.length ≤ 29) ∧ Runs x (q + 1) r
theorem runs_snoc {x : Int} : ∀ {L : List Ev} {q : Nat} {e : Ev}, Runs x q L → (e.writer = x ∧ e.seq = q + L.length ∧ Right e ∧ e.num < 18446744073709551616 ∧ plainE e = e ∧ e.text.length ≤ 29) → Runs x q (L ++ [e])
  | [], q, e, _, h => ⟨by simpa using h, trivial⟩
  | a :: r, q, e, h, he => ⟨h.1, runs_snoc h.2 (by rw [List.length_cons] at he; rw [show q + 1 + r.length = q + (r.length + 1) by omega]; exact he)⟩
theorem runs_mem {x : Int} : ∀ {L : List Ev} {q : Nat}, Runs x q L → ∀ e ∈ L, Right e ∧ e.num < 18446744073709551616
  | [], q, _, e, he => by cases he
  | a :: r, q, h, e, he => by
    rcases List.mem_cons.1 he with rfl | he
    · exact ⟨h.1.2.2.1, h.1.2.2.2.1⟩
    · exact runs_mem h.2 e he
theorem runs_text {x : Int} : ∀ {L : List Ev} {q : Nat}, Runs x q L → ∀ l ∈ L.map evL, l.length ≤ 159
  | [], q, _, l, hl => by cases hl
  | a :: r, q, h, l, hl => by
    rcases List.mem_cons.1 hl with rfl | hl
    · have := evL_len h.1.2.2.1; have := h.1.2.2.2.2.2; omega
    · exact runs_text h.2 l hl
/-- Their records, and others behind them, are read as they are. -/
theorem prefE_runs {x : Int} : ∀ {L : List Ev} {q : Nat} (M : List (List UInt8)), Runs x q L → prefE x q (L.map evL ++ M) = L ++ prefE x (q + L.length) M
  | [], q, M, _ => by simp
  | e :: r, q, M, h => by
    have hd := decG_evL h.1.2.2.1 h.1.2.2.2.1
    rw [h.1.2.2.2.2.1] at hd
    rw [List.map_cons, List.cons_append, prefE_on hd ⟨h.1.1, h.1.2.1⟩, prefE_runs M h.2, List.length_cons, List.cons_append]
    rw [show q + 1 + r.length = q + (r.length + 1) by omega]
theorem runs_wraps {x : Int} {L : List Ev} {q : Nat} (h : Runs x q L) : (wraps (L.map evL)).length ≤ 175 * L.length := by
  induction L generalizing q with
  | nil => simp [wraps]
  | cons e r ih =>
    have h1 := ih h.2
    have h2 := evL_len h.1.2.2.1
    have h3 := h.1.2.2.2.2.2
    have he := enc_two (n := (evL e).length) (by omega)
    have h4 := wrap_length (evL e)
    have hw : (wraps (evL e :: r.map evL)).length = (wrap (evL e)).length + (wraps (r.map evL)).length := by simp [wraps]
    simp only [List.map_cons, List.length_cons, hw]
    omega

end Go.Proofs.YtkphklmgbdljiaaGreatDoor.Seg
