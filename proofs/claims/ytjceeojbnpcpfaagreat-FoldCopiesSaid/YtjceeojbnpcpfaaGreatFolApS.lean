/- What applying small events does to a fold: lists and numbers alone. -/
import Derived.Test.YtjceeojbnpcpfaaGreatFolX
import Derived.Test.YtjceeojbnpcpfaaGreatFolEv
namespace Go.Proofs.YtjceeojbnpcpfaaGreat.Fol
open Go Go.RowKit Go.Proofs.YtjceeojbnpcpfaaGreat.Words Go.Proofs.YtjceeojbnpcpfaaGreat.Enc Go.Proofs.YtjceeojbnpcpfaaGreat.Q Go.Proofs.YtjceeojbnpcpfaaGreat.Evt
set_option linter.unusedVariables false
set_option linter.unusedSimpArgs false

theorem change_mem {F : Fo} {e : Ev} {p : Key × Cel} (h : p ∈ (change F e).L) : (p.1 = e.key.data.toList ∧ (p.2.text = e.text ∨ p.2.text = [])) ∨ p ∈ F.L := by
  unfold change at h
  split at h
  · rcases mem_ins h with rfl | h
    · exact .inl ⟨rfl, .inl rfl⟩
    · exact .inr h
  · split at h
    · rcases mem_ins h with rfl | h
      · exact .inl ⟨rfl, .inr rfl⟩
      · exact .inr h
    · split at h
      · rcases mem_ins h with rfl | h
        · exact .inl ⟨rfl, .inr rfl⟩
        · exact .inr h
      · split at h
        · exact .inr (mem_del h)
        · split at h <;> exact .inr h
theorem change_len {F : Fo} {e : Ev} (hr : Rise F.L) : (change F e).L.length ≤ F.L.length + 1 := by
  have hi : ∀ (k : Key) (c : Cel), (ins k c F.L).length ≤ F.L.length + 1 := fun k c => by rw [len_ins k c hr]; split <;> omega
  have hd : ∀ (k : Key), (del k F.L).length ≤ F.L.length + 1 := fun k => by rw [len_del k F.L]; split <;> omega
  unfold change
  split
  · exact hi _ _
  · split
    · exact hi _ _
    · split
      · exact hi _ _
      · split
        · exact hd _
        · split <;> (show F.L.length ≤ _; omega)
theorem apply_L {F : Fo} {e : Ev} : (applyF F e).L = (change F e).L ∨ (applyF F e).L = F.L := by
  unfold applyF
  split
  · exact .inl rfl
  · exact .inr rfl
/-- Few short keys, short texts. -/
structure Few (j : Nat) (F : Fo) : Prop where
  len : F.L.length ≤ j
  key : ∀ p ∈ F.L, p.1.length = 1
  text : ∀ p ∈ F.L, p.2.text.length ≤ 2
theorem pu_text (x : Pu) (F : Fo) : (x.ev F).text.length ≤ 2 := by
  show (if x.K % 6 = 0 then [UInt8.ofNat x.A, UInt8.ofNat x.T] else []).length ≤ 2
  split <;> simp
theorem Few.step {j : Nat} {F : Fo} (h : Few j F) (ok : Ok F) (x : Pu) : Few (j + 1) (applyF F (x.ev F)) := by
  have key : ∀ p ∈ (applyF F (x.ev F)).L, p.1.length = 1 ∧ p.2.text.length ≤ 2 := fun p hp => by
    rcases apply_L (F := F) (e := x.ev F) with e1 | e1
    · rw [e1] at hp
      rcases change_mem hp with ⟨h1, h2⟩ | h1
      · refine ⟨by rw [h1]; rfl, ?_⟩
        rcases h2 with h2 | h2
        · rw [h2]; exact pu_text x F
        · rw [h2]; simp
      · exact ⟨h.key p h1, h.text p h1⟩
    · rw [e1] at hp
      exact ⟨h.key p hp, h.text p hp⟩
  refine ⟨?_, fun p hp => (key p hp).1, fun p hp => (key p hp).2⟩
  rcases apply_L (F := F) (e := x.ev F) with e1 | e1
  · rw [e1]; have := change_len (e := x.ev F) ok.rise; have := h.len; omega
  · rw [e1]; have := h.len; omega
theorem Few.none_ {j : Nat} {F : Fo} (h : Few j F) : lk [110, 111, 110, 101] F.L = none := by
  rw [lk_none_iff]
  intro p hp e
  have := h.key p hp
  rw [e] at this
  simp at this
theorem fix_len (n : Nat) : (fix n).length = 8 := by simp [fix]
theorem celL_le {p : Key × Cel} (h1 : p.1.length = 1) (h2 : p.2.text.length ≤ 2) : (celL p).length ≤ 24 := by
  unfold celL
  have a := enc_ten (n := p.1.length) (by omega)
  have b := enc_ten (n := p.2.text.length) (by omega)
  simp only [List.length_append, List.length_cons, List.length_nil, h1]
  rw [h1] at a
  split
  · rw [List.length_append]; omega
  · rw [fix_len]; omega
theorem celsL_few : ∀ (L : List (Key × Cel)), (∀ p ∈ L, p.1.length = 1) → (∀ p ∈ L, p.2.text.length ≤ 2) → (celsL L).length ≤ 24 * L.length
  | [], _, _ => by simp [celsL]
  | p :: r, h1, h2 => by
    have ih := celsL_few r (fun q hq => h1 q (List.mem_cons_of_mem _ hq)) (fun q hq => h2 q (List.mem_cons_of_mem _ hq))
    have := celL_le (h1 p List.mem_cons_self) (h2 p List.mem_cons_self)
    unfold celsL at ih ⊢
    rw [List.flatMap_cons, List.length_append, List.length_cons]
    omega
theorem encs_le : ∀ (v : List Nat), (∀ x ∈ v, x < 18446744073709551616) → (Vec.encs v).length ≤ 10 * v.length
  | [], _ => by simp [Vec.encs]
  | x :: r, h => by
    have ih := encs_le r (fun y hy => h y (List.mem_cons_of_mem _ hy))
    have := enc_ten (n := x) (h x List.mem_cons_self)
    unfold Vec.encs at ih ⊢
    rw [List.flatMap_cons, List.length_append, List.length_cons]
    omega
theorem Few.bytes {j : Nat} {F : Fo} (h : Few j F) (ok : Ok F) (hj : j ≤ 100) : (foldL F).length ≤ 100000000 := by
  have h1 := celsL_few F.L h.key h.text
  have h2 := h.len
  have a := enc_ten (n := F.time) (by have := ok.time; omega)
  have b := enc_ten (n := F.wr) (by have := ok.wr; omega)
  have c := enc_ten (n := F.L.length) (by omega)
  have d : (Vec.layL F.H).length ≤ 650 := by
    unfold Vec.layL
    have e1 := enc_ten (n := Vec.trimN F.H F.H.length) (by have := Vec.trimN_le F.H F.H.length; rw [ok.h] at this ⊢; omega)
    have e2 := encs_le (Vec.trimL F.H) (fun x hx => by
      have := ok.hs x (List.mem_of_mem_take hx)
      omega)
    have e3 : (Vec.trimL F.H).length ≤ 64 := by rw [Vec.trimL_len]; have := Vec.trimN_le F.H F.H.length; rw [ok.h] at this ⊢; exact this
    rw [List.length_append]
    omega
  unfold foldL headF
  simp only [List.length_append, fix_len]
  omega
theorem few_new (n : Nat) : Few 0 (newF n) := ⟨Nat.le_refl _, fun p hp => (by cases hp), fun p hp => (by cases hp)⟩
theorem pu_fit {x : Pu} (hx : x.Good) {F : Fo} (ok : Ok F) : (x.ev F).Fit := by
  have h1 := ok.time
  have h2 : F.H.getD (x.W % 4) 0 < 9223372036854775808 := by
    rw [List.getD_eq_getElem?_getD]
    cases hg : F.H[x.W % 4]? with
    | none => exact (by decide : (0 : Nat) < 9223372036854775808)
    | some y => exact ok.hs y (List.mem_of_getElem? hg)
  refine ⟨?_, ?_, ?_, ?_, ?_, hx.x, ?_, ?_⟩ <;> simp only [Pu.ev]
  · omega
  · omega
  · split <;> omega
  · omega
  · omega
  · omega
  · omega
/-- What small events come to. -/
def runPu (F : Fo) (l : List Pu) : Fo := l.foldl (fun F x => applyF F (x.ev F)) F
theorem runPu_take (F : Fo) (l : List Pu) (j : Nat) {x : Pu} (h : l[j]? = some x) : runPu F (l.take (j + 1)) = applyF (runPu F (l.take j)) (x.ev (runPu F (l.take j))) := by
  unfold runPu
  rw [List.take_add_one, h]
  simp
end Go.Proofs.YtjceeojbnpcpfaaGreat.Fol
