/- The law VectorReads, walked out of what is asked of package vector. -/
import Derived.Test.YtffhepdhkpldlaaDoorVecSmall
namespace Go.Proofs.YtffhepdhkpldlaaDoor.Vec
open Go Go.RowKit Go.Proofs.YtffhepdhkpldlaaDoor.Words Go.Proofs.YtffhepdhkpldlaaDoor.Enc Go.Proofs.YtffhepdhkpldlaaDoor.Made Go.Proofs.YtffhepdhkpldlaaDoor.Tape
set_option linter.unusedVariables false
set_option linter.unusedSimpArgs false

theorem SeesU.beside {S : List Nat} {w w' : World} {A : Option Addr} {n : Nat} {l : List Nat} (h : SeesU w A n l) (hb : Beside S w w') (hS : Out S A n) : SeesU w' A n l := by
  refine ⟨h.1, fun hn => ?_⟩
  obtain ⟨b, o, hA, hc⟩ := h.2 hn
  exact ⟨b, o, hA, fun j u hu => hb.cell (hc j u hu) (show b ∉ S from hS hn _ hA)⟩
theorem seesU_off {w : World} {t : Nat} {B : Option Addr} {m k : Nat} {T : TypeId} {f : Nat × Nat} (hb : w.heap[t]? = some (.cells #[.slice B m k] T f)) {A : Option Addr} {n : Nat} {l : List Nat} (h : SeesU w A n l) : Out [t] A n := by
  intro hn a ha hm
  obtain ⟨b, o, e, hc⟩ := h.2 hn
  rw [e] at ha
  injection ha with ha
  subst ha
  have hl : 0 < l.length := by rw [h.1]; exact hn
  have h1 := hc 0 l[0] (List.getElem?_eq_getElem hl)
  simp at hm
  subst hm
  rw [cell_of_row w b (o + 0) _ _ _ hb] at h1
  cases o with
  | zero => simp at h1
  | succ o => simp at h1
theorem seesU_cell {w : World} {t : Nat} {x : Int} {T : TypeId} {f : Nat × Nat} (hb : w.heap[t]? = some (.cells #[.int .i64 x] T f)) {A : Option Addr} {n : Nat} {l : List Nat} (h : SeesU w A n l) : Out [t] A n := by
  intro hn a ha hm
  obtain ⟨b, o, e, hc⟩ := h.2 hn
  rw [e] at ha
  injection ha with ha
  subst ha
  have hl : 0 < l.length := by rw [h.1]; exact hn
  have h1 := hc 0 l[0] (List.getElem?_eq_getElem hl)
  simp at hm
  subst hm
  rw [cell_of_row w b (o + 0) _ _ _ hb] at h1
  cases o with
  | zero => simp at h1
  | succ o => simp at h1
theorem Took2.beside {S : List Nat} {w w' : World} {A : Option Addr} {n c : Nat} {a : List Nat} (h : Took2 w A n c a) (hb : Beside S w w') (hS : Out S A n) : Took2 w' A n c a := ⟨h.1.beside hb hS, h.2⟩
theorem Out.two {p1 p2 : Nat} {A : Option Addr} {n : Nat} (h1 : Out [p1] A n) (h2 : Out [p2] A n) : Out [p1, p2] A n := fun hn a ha hm => by
  simp only [List.mem_cons, List.not_mem_nil, or_false] at hm
  rcases hm with hm | hm
  · exact h1 hn a ha (by simp [hm])
  · exact h2 hn a ha (by simp [hm])

/-- What is read of a tape. -/
def ReadGives (PA : Option Addr) (PN : Nat) (L : List UInt8) (t : Nat) (g : Got (List Nat)) (w : World) (e : Ending) (w' : World) : Prop :=
  match g with
  | .bad E => e = fault E ∧ Beside [t] w w'
  | .ok v r => ∃ R k rc, e = .returned (.slice R k rc) ∧ SeesU w' R k v ∧ k ≤ rc ∧ rc ≤ 9223372036854775807 ∧ TapeOn PA PN L w' t r ∧ Beside [t] w w'
def ReadSaid : Prop := ∀ (PA : Option Addr) (PN : Nat) (L : List UInt8) (t : Nat) (l : List UInt8) (w : World), TapeOn PA PN L w t l → Sees w PA PN L → l.length ≤ 100000 →
  Calls Tryd.prog 32 #[.pointer (some ⟨t, 0, none⟩)] w (ReadGives PA PN L t (readG l) w)

end Go.Proofs.YtffhepdhkpldlaaDoor.Vec
