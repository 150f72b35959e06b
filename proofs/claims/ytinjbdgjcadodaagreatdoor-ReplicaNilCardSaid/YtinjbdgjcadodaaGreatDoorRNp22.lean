/- Texts of the law ReplicaNil, put together. -/
import Derived.Test.YtinjbdgjcadodaaGreatDoorRNp12
import Derived.Test.YtinjbdgjcadodaaGreatDoorRNp13
set_option linter.unusedVariables false
set_option linter.unusedSimpArgs false
namespace Go.Proofs.YtinjbdgjcadodaaGreatDoor.Sht
open Go Go.RowKit Words Enc Go.Proofs.YtinjbdgjcadodaaGreatDoor.Made Go.Proofs.YtinjbdgjcadodaaGreatDoor.Tape
def markG : List UInt8 → List UInt8 → Nat ⊕ List UInt8
 | [], l => .inr l
 | _ :: _, [] => .inl 5
 | m :: ms, b :: l => if b = m then markG ms l else .inl 4
def marks : List UInt8 := [97, 110, 97, 49]
def titleG (l : List UInt8) : Nat ⊕ (UInt8 × Nat × Nat) :=
 match markG marks l with
 | .inl E => .inl E
 | .inr l1 =>
 match byteG l1 with
 | .bad E => .inl E
 | .ok k l2 =>
 match numG 18446744073709551615 l2 with
 | .bad E => .inl E
 | .ok a l3 =>
 match numG 18446744073709551615 l3 with
 | .bad E => .inl E
 | .ok b l4 => if l4 ≠ [] then .inl 4 else .inr (k, a, b)
theorem markG_cons (m b : UInt8) (ms l : List UInt8) : markG (m :: ms) (b :: l) = if b = m then markG ms l else .inl 4 := rfl
theorem markG_errs : ∀ {ms l : List UInt8} {E : Nat}, markG ms l = .inl E → E = 4 ∨ E = 5
 | [], l, E, h => by cases h
 | m :: ms, [], E, h => by simp [markG] at h; omega
 | m :: ms, b :: l, E, h => by
   rw [markG_cons] at h
   by_cases hb : b = m
   ·rw [if_pos hb] at h; exact markG_errs h
   ·rw [if_neg hb] at h; injection h with h; omega
theorem tk_errs5 : ∀ (l : List UInt8) (i n : Nat), (tk i n l).2.2 = 0 ∨ (tk i n l).2.2 = 4 ∨ (tk i n l).2.2 = 5
 | [], i, n => .inr (.inr rfl)
 | b :: r, i, n => by
   unfold tk
   split
   ·exact .inr (.inl rfl)
   ·split
    ·exact .inl rfl
    ·exact tk_errs5 r _ _
theorem tnum_errs {most E : Nat} {l : List UInt8} (h : numG most l = .bad E) : E = 4 ∨ E = 5 ∨ E = 6 := by
 have := tk_errs5 l 0 0
 rcases numG_bad h with ⟨h1, h2⟩ | ⟨-, -, h2⟩ <;> omega
theorem titleG_errs {l : List UInt8} {E : Nat} (h : titleG l = .inl E) : E = 4 ∨ E = 5 ∨ E = 6 := by
 unfold titleG at h
 cases h1 : markG marks l with
 | inl E1 => rw [h1] at h; injection h with h; subst h; have := markG_errs h1; omega
 | inr l1 =>
 rw [h1] at h
 simp only [] at h
 cases l1 with
 | nil => simp [byteG] at h; omega
 | cons k l2 =>
 simp only [byteG] at h
 cases h3 : numG 18446744073709551615 l2 with
 | bad E1 => rw [h3] at h; injection h with h; subst h; exact tnum_errs h3
 | ok a l3 =>
 rw [h3] at h
 simp only [] at h
 cases h4 : numG 18446744073709551615 l3 with
 | bad E1 => rw [h4] at h; injection h with h; subst h; exact tnum_errs h4
 | ok b l4 =>
 rw [h4] at h
 simp only [] at h
 by_cases hr : l4 ≠ []
 ·rw [if_pos hr] at h; injection h with h; omega
 ·rw [if_neg hr] at h; cases h
end Go.Proofs.YtinjbdgjcadodaaGreatDoor.Sht
namespace Go.Proofs.YtinjbdgjcadodaaGreatDoor.Sht
open Go Go.RowKit Words Enc Go.Proofs.YtinjbdgjcadodaaGreatDoor.Made Go.Proofs.YtinjbdgjcadodaaGreatDoor.Tape Dsk
def scanG (p : List UInt8) : Nat ⊕ ((UInt8 × Nat × Nat) × Nat) :=
 if (openL p most).2.2 ≠ 0 then .inl (openL p most).2.2 else
 match titleG (openL p most).1 with
 | .inl E => .inl E
 | .inr t => .inr (t, (openL p most).2.1)
theorem openL_errs (l : List UInt8) (m : Int) : (openL l m).2.2 = 0 ∨ (openL l m).2.2 = 4 ∨ (openL l m).2.2 = 5 ∨ (openL l m).2.2 = 6 := by
 have := tk_errs5 l 0 0
 unfold openL opened
 split
 ·simp only []; omega
 split
 ·simp
 split
 ·simp
 split
 ·simp
 split
 ·simp
 ·simp
theorem scanG_errs {p : List UInt8} {E : Nat} (h : scanG p = .inl E) : E = 4 ∨ E = 5 ∨ E = 6 := by
 have := openL_errs p most
 unfold scanG at h
 by_cases h0 : (openL p most).2.2 ≠ 0
 ·rw [if_pos h0] at h; injection h with h; omega
 ·rw [if_neg h0] at h
  cases h1 : titleG (openL p most).1 with
  | inl E1 => rw [h1] at h; injection h with h; subst h; exact titleG_errs h1
  | inr t => rw [h1] at h; cases h
end Go.Proofs.YtinjbdgjcadodaaGreatDoor.Sht
namespace Go.Proofs.YtinjbdgjcadodaaGreatDoor.Sht
open Go Go.RowKit Words Enc Go.Proofs.YtinjbdgjcadodaaGreatDoor.Made Dsk
theorem swap_newN {f t : List UInt8} (hft : f ≠ t) {room left torn : Int} {acts : Nat} {q : List UInt8} (hl : left < 0) (hq : (q.length : Int) ≤ room) :
  swapR ⟨room, acts, left, torn, false⟩ f t q [] = (0, [⟨f, q, q.length⟩], ⟨room, acts + 4, left, torn, false⟩) := by
 have h0 : left ≠ 0 := by omega
 have hr : removeF ⟨room, acts, left, torn, false⟩ t [] = [] := by simp [removeF, dropF, hft, hft.symm]
 have ht : thereE ⟨room, acts, left, torn, false⟩ t [] = 2 := by simp [thereE, may_un h0, lookA, hft, hft.symm]
 have ha : appE ⟨room, acts + 1, left, torn, false⟩ t q [] = 0 := by simp [appE, may_un h0, sumA, hq]
 have hf : appF ⟨room, acts + 1, left, torn, false⟩ t q [] = [⟨t, q, 0⟩] := by simp [appF, h0, sumA, hq, put, hft, hft.symm]
 have hc : createR ⟨room, acts + 1, left, torn, false⟩ t q [] = (0, [⟨t, q, q.length⟩], ⟨room, acts + 3, left, torn, false⟩) := by
  unfold createR
  rw [ha, if_pos rfl, hf, act_un hl, act_un hl]
  simp [thereE, thereF, may_un h0, lookA, upd, syncG, hft, hft.symm]
 unfold swapR
 rw [ht, if_neg (by decide), hr, act_un hl, hc, if_neg (by simp)]
 simp only [act_un hl]
 simp [thereE, moveF, may_un h0, moved, lookA, dropF, hft, hft.symm]
theorem swap_smallN {t : List UInt8} {h : Hd} {files : List File} {q : List UInt8} {B : Nat} (hB : sumA files + q.length ≤ B) :
  sumA (removeF h t files) ≤ B ∧ sumA (appF h.act t q (removeF h t files)) ≤ B ∧ sumA (createR h.act t q (removeF h t files)).2.1 ≤ B := by
 have hdrop : ∀ l : List File, sumA (dropF t l) ≤ sumA l := by
  intro l
  induction l with
  | nil => simp [dropF]
  | cons x r ih =>
    simp only [dropF, List.filter_cons] at ih ⊢
    split
    ·simp only [sumA]; omega
    ·simp only [sumA]; omega
 have h1 : sumA (removeF h t files) ≤ sumA files := by
  unfold removeF
  split
  ·exact hdrop files
  ·exact Nat.le_refl _
 have hput : ∀ (x : List UInt8) (l : List File), sumA (put t x l) = sumA l + x.length := by
  intro x l
  induction l with
  | nil => simp [put, sumA]
  | cons y r ih =>
    simp only [put]
    split
    ·simp only [sumA, List.length_append]; omega
    ·simp only [sumA, ih]; omega
 have h2 : ∀ (g : Hd) (l : List File), sumA (appF g t q l) ≤ sumA l + q.length := by
  intro g l
  unfold appF tornF
  split
  ·omega
  ·split
   ·split
    ·rw [hput, List.length_take]; omega
    ·omega
   ·split
    ·rw [hput]; omega
    ·omega
 have hupd : ∀ l : List File, sumA (upd t syncG l) = sumA l := by
  intro l
  induction l with
  | nil => rfl
  | cons y r ih =>
    simp only [upd, List.map_cons, sumA] at ih ⊢
    rw [ih]
    split <;> simp [syncG]
 have h3 := h2 h.act (removeF h t files)
 refine ⟨by omega, by omega, ?_⟩
 unfold createR
 split
 ·simp only [thereF]
  split
  ·rw [hupd]; omega
  ·omega
 ·simp only []; omega
theorem swap_fewN {t : List UInt8} {h : Hd} {files : List File} {q : List UInt8} : (removeF h t files).length ≤ files.length ∧ (createR h.act t q (removeF h t files)).2.1.length ≤ files.length + 1 := by
 have h1 : (removeF h t files).length ≤ files.length := by
  unfold removeF dropF
  split
  ·exact List.length_filter_le _ _
  ·exact Nat.le_refl _
 have hput : ∀ (x : List UInt8) (l : List File), (put t x l).length ≤ l.length + 1 := by
  intro x l
  induction l with
  | nil => simp [put]
  | cons y r ih =>
    simp only [put]
    split
    ·simp
    ·simp only [List.length_cons]; omega
 have h2 : ∀ (g : Hd) (l : List File), (appF g t q l).length ≤ l.length + 1 := by
  intro g l
  unfold appF tornF
  split
  ·omega
  ·split
   ·split
    ·exact hput _ _
    ·omega
   ·split
    ·exact hput _ _
    ·omega
 have h3 := h2 h.act (removeF h t files)
 refine ⟨h1, ?_⟩
 unfold createR
 split
 ·simp only [thereF]
  split
  ·simp [upd]; omega
  ·omega
 ·simp only []; omega
end Go.Proofs.YtinjbdgjcadodaaGreatDoor.Sht
