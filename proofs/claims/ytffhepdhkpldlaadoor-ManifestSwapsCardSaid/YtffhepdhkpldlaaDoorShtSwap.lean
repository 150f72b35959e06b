/- Swap on a disk of one file, whatever the names: plain lists. -/
import Derived.Test.YtffhepdhkpldlaaDoorBSheetLaw
namespace Go.Proofs.YtffhepdhkpldlaaDoor.Sht
open Go Go.RowKit Go.Proofs.YtffhepdhkpldlaaDoor.Words Go.Proofs.YtffhepdhkpldlaaDoor.Enc Go.Proofs.YtffhepdhkpldlaaDoor.Made Go.Proofs.YtffhepdhkpldlaaDoor.Dsk
set_option linter.unusedVariables false
set_option linter.unusedSimpArgs false

theorem swap_newN {f t : List UInt8} (hft : f ≠ t) {room left torn : Int} {acts : Nat} {q : List UInt8} (hl : left < 0) (hq : (q.length : Int) ≤ room) :
    swapR ⟨room, acts, left, torn, false⟩ f t q [] = (0, [⟨f, q, q.length⟩], ⟨room, acts + 4, left, torn, false⟩) := by
  have h0 : left ≠ 0 := by omega
  have hr : removeF ⟨room, acts, left, torn, false⟩ t [] = [] := by simp [removeF, dropF, hft, hft.symm]
  have ht : thereE ⟨room, acts, left, torn, false⟩ t [] = 2 := by simp [thereE, may_un h0, lookA, hft, hft.symm]
  have ha : appE ⟨room, acts + 1, left, torn, false⟩ t q [] = 0 := by simp [appE, may_un h0, sumA, hq]
  have hf : appF ⟨room, acts + 1, left, torn, false⟩ t q [] = [⟨t, q, 0⟩] := by simp [appF, h0, sumA, hq, put, hft, hft.symm]
  have hc : createR ⟨room, acts + 1, left, torn, false⟩ t q [] = (0, [⟨t, q, q.length⟩], ⟨room, acts + 3, left, torn, false⟩) := by
    unfold createR
    rw [ha, if_pos rfl, hf, act_un hl, act_un hl]
    simp [thereE, thereF, may_un h0, lookA, upd, syncG, hft, hft.symm]
  unfold swapR
  rw [ht, if_neg (by decide), hr, act_un hl, hc, if_neg (by simp)]
  simp only [act_un hl]
  simp [thereE, moveF, may_un h0, moved, lookA, dropF, hft, hft.symm]
/-- .. beside the old one; with what is left of a new file, or without. -/
theorem swap_oldN {f t : List UInt8} (hft : f ≠ t) {room left torn : Int} {acts : Nat} {p q p2 : List UInt8} {n n2 : Nat} (hl : left < 0) (rest : List File) (hrest : rest = [] ∨ rest = [⟨t, p2, n2⟩]) :
    swapR ⟨room, acts, left, torn, false⟩ f t q (⟨f, p, n⟩ :: rest) = if (p.length : Int) + q.length ≤ room then (0, [⟨f, q, q.length⟩], ⟨room, acts + 4, left, torn, false⟩) else (3, [⟨f, p, n⟩], ⟨room, acts + 2, left, torn, false⟩) := by
  have h0 : left ≠ 0 := by omega
  have hr : removeF ⟨room, acts, left, torn, false⟩ t (⟨f, p, n⟩ :: rest) = [⟨f, p, n⟩] := by
    rcases hrest with rfl | rfl <;> simp [removeF, dropF, may_un h0, hft, hft.symm]
  have ht : thereE ⟨room, acts, left, torn, false⟩ t (⟨f, p, n⟩ :: rest) ≠ 7 := by
    rcases hrest with rfl | rfl <;> simp [thereE, may_un h0, lookA, hft, hft.symm]
  unfold swapR
  rw [if_neg ht, hr, act_un hl]
  by_cases hq : (p.length : Int) + q.length ≤ room
  · have ha : appE ⟨room, acts + 1, left, torn, false⟩ t q [⟨f, p, n⟩] = 0 := by simp [appE, may_un h0, sumA, hq]
    have hf : appF ⟨room, acts + 1, left, torn, false⟩ t q [⟨f, p, n⟩] = [⟨f, p, n⟩, ⟨t, q, 0⟩] := by simp [appF, h0, sumA, hq, put, hft, hft.symm]
    have hc : createR ⟨room, acts + 1, left, torn, false⟩ t q [⟨f, p, n⟩] = (0, [⟨f, p, n⟩, ⟨t, q, q.length⟩], ⟨room, acts + 3, left, torn, false⟩) := by
      unfold createR
      rw [ha, if_pos rfl, hf, act_un hl, act_un hl]
      simp [thereE, thereF, may_un h0, lookA, upd, syncG, hft, hft.symm]
    rw [hc, if_neg (by simp), if_pos hq]
    simp only [act_un hl]
    simp [thereE, moveF, may_un h0, moved, lookA, dropF, upd, hft, hft.symm]
  · have ha : appE ⟨room, acts + 1, left, torn, false⟩ t q [⟨f, p, n⟩] = 3 := by simp [appE, may_un h0, sumA, hq]
    have hf : appF ⟨room, acts + 1, left, torn, false⟩ t q [⟨f, p, n⟩] = [⟨f, p, n⟩] := by simp [appF, h0, sumA, hq]
    have hc : createR ⟨room, acts + 1, left, torn, false⟩ t q [⟨f, p, n⟩] = (3, [⟨f, p, n⟩], ⟨room, acts + 2, left, torn, false⟩) := by
      unfold createR
      rw [ha, if_neg (by decide), hf, act_un hl]
    rw [hc, if_pos (by simp), if_neg hq]
/-- The sums that Swap's contract asks for, where all is small. -/
theorem swap_smallN {t : List UInt8} {h : Hd} {files : List File} {q : List UInt8} {B : Nat} (hB : sumA files + q.length ≤ B) :
    sumA (removeF h t files) ≤ B ∧ sumA (appF h.act t q (removeF h t files)) ≤ B ∧ sumA (createR h.act t q (removeF h t files)).2.1 ≤ B := by
  have hdrop : ∀ l : List File, sumA (dropF t l) ≤ sumA l := by
    intro l
    induction l with
    | nil => simp [dropF]
    | cons x r ih =>
      simp only [dropF, List.filter_cons] at ih ⊢
      split
      · simp only [sumA]; omega
      · simp only [sumA]; omega
  have h1 : sumA (removeF h t files) ≤ sumA files := by
    unfold removeF
    split
    · exact hdrop files
    · exact Nat.le_refl _
  have hput : ∀ (x : List UInt8) (l : List File), sumA (put t x l) = sumA l + x.length := by
    intro x l
    induction l with
    | nil => simp [put, sumA]
    | cons y r ih =>
      simp only [put]
      split
      · simp only [sumA, List.length_append]; omega
      · simp only [sumA, ih]; omega
  have h2 : ∀ (g : Hd) (l : List File), sumA (appF g t q l) ≤ sumA l + q.length := by
    intro g l
    unfold appF tornF
    split
    · omega
    · split
      · split
        · rw [hput, List.length_take]; omega
        · omega
      · split
        · rw [hput]; omega
        · omega
  have hupd : ∀ l : List File, sumA (upd t syncG l) = sumA l := by
    intro l
    induction l with
    | nil => rfl
    | cons y r ih =>
      simp only [upd, List.map_cons, sumA] at ih ⊢
      rw [ih]
      split <;> simp [syncG]
  have h3 := h2 h.act (removeF h t files)
  refine ⟨by omega, by omega, ?_⟩
  unfold createR
  split
  · simp only [thereF]
    split
    · rw [hupd]; omega
    · omega
  · simp only []; omega
theorem swap_fewN {t : List UInt8} {h : Hd} {files : List File} {q : List UInt8} : (removeF h t files).length ≤ files.length ∧ (createR h.act t q (removeF h t files)).2.1.length ≤ files.length + 1 := by
  have h1 : (removeF h t files).length ≤ files.length := by
    unfold removeF dropF
    split
    · exact List.length_filter_le _ _
    · exact Nat.le_refl _
  have hput : ∀ (x : List UInt8) (l : List File), (put t x l).length ≤ l.length + 1 := by
    intro x l
    induction l with
    | nil => simp [put]
    | cons y r ih =>
      simp only [put]
      split
      · simp
      · simp only [List.length_cons]; omega
  have h2 : ∀ (g : Hd) (l : List File), (appF g t q l).length ≤ l.length + 1 := by
    intro g l
    unfold appF tornF
    split
    · omega
    · split
      · split
        · exact hput _ _
        · omega
      · split
        · exact hput _ _
        · omega
  have h3 := h2 h.act (removeF h t files)
  refine ⟨h1, ?_⟩
  unfold createR
  split
  · simp only [thereF]
    split
    · simp [upd]; omega
    · omega
  · simp only []; omega
theorem act_onN {room left torn : Int} {acts : Nat} (hl : 0 < left) : Hd.act ⟨room, acts, left, torn, false⟩ = ⟨room, acts + 1, left - 1, torn, false⟩ := by
  have h1 : ¬ left = 0 := by omega
  simp [Hd.act, h1, hl]
theorem act_stopN {room torn : Int} {acts : Nat} : Hd.act ⟨room, acts, 0, torn, false⟩ = ⟨room, acts + 1, 0, torn, true⟩ := by simp [Hd.act]
theorem may_stopN {room torn : Int} {acts : Nat} : Hd.may ⟨room, acts, 0, torn, false⟩ = false := by simp [Hd.may]

/-- What a fall leaves of a file that is durable, and of one behind it. -/
theorem crash_wholeN (keep : Int) (s p : List UInt8) : crashG keep ⟨s, p, p.length⟩ = ⟨s, p, p.length⟩ := by simp [crashG]
/-- The second Swap of the law, stopped or not, and the fall behind it. -/
def ArmedN (f t : List UInt8) (st : Nat) (torn keep : Int) (wa wb : List UInt8) (E : Int) (p : List UInt8) (files : List File) (h : Hd) (rest : List File) : Prop :=
  swapR ⟨65536, 4, (st : Int), torn, false⟩ f t wb [⟨f, wa, wa.length⟩] = (E, files, h) ∧ files.map (crashG keep) = ⟨f, p, p.length⟩ :: rest ∧ (rest = [] ∨ ∃ p2 n2, rest = [⟨t, p2, n2⟩]) ∧
  (E = 7 ∧ p = wa ∨ E = 0 ∧ p = wb) ∧ sumA files ≤ wa.length + wb.length ∧ sumA rest ≤ wb.length ∧ h.acts ≤ 8 ∧ h.room = 65536 ∧ h.torn = torn ∧ files.length ≤ 2

theorem armed_anyN {f t : List UInt8} (hft : f ≠ t) (st : Nat) (hst : st < 6) (torn keep : Int) (wa wb : List UInt8) (hab : wa.length + wb.length ≤ 65536) : ∃ E p files h rest, ArmedN f t st torn keep wa wb E p files h rest := by
  have hq : (wa.length : Int) + wb.length ≤ 65536 := by omega
  have hcr : ∀ x : File, x.name = t → ∃ p2 n2, crashG keep x = ⟨t, p2, n2⟩ ∧ p2.length ≤ x.p.length := fun x hx => ⟨_, _, by unfold crashG; rw [hx], by rw [List.length_take]; omega⟩
  match st, hst with
  | 0, _ =>
    refine ⟨7, wa, [⟨f, wa, wa.length⟩], ⟨65536, 5, 0, torn, true⟩, [], ?_, by simp [crash_wholeN], .inl rfl, .inl ⟨rfl, rfl⟩, by simp [sumA], by simp [sumA], by simp, rfl, rfl, by simp⟩
    unfold swapR
    rw [if_pos (by simp [thereE, may_stopN, hft, hft.symm])]
    simp [removeF, may_stopN, act_stopN, hft, hft.symm]
  | 1, _ =>
    have hm : Hd.may ⟨65536, 4, (1 : Int), torn, false⟩ = true := may_un (by decide)
    have ha : Hd.act ⟨65536, 4, (1 : Int), torn, false⟩ = ⟨65536, 5, 0, torn, false⟩ := act_onN (by decide)
    have hr : removeF ⟨65536, 4, (1 : Int), torn, false⟩ t [⟨f, wa, wa.length⟩] = [⟨f, wa, wa.length⟩] := by simp [removeF, dropF, hm, hft, hft.symm]
    have hc : createR ⟨65536, 5, 0, torn, false⟩ t wb [⟨f, wa, wa.length⟩] = (7, tornF ⟨65536, 6, 0, torn, true⟩ t wb [⟨f, wa, wa.length⟩], ⟨65536, 6, 0, torn, true⟩) := by
      unfold createR
      rw [if_neg (by simp [appE, may_stopN])]
      simp [appE, may_stopN, appF, act_stopN]
    have hs : swapR ⟨65536, 4, (1 : Int), torn, false⟩ f t wb [⟨f, wa, wa.length⟩] = (7, tornF ⟨65536, 6, 0, torn, true⟩ t wb [⟨f, wa, wa.length⟩], ⟨65536, 6, 0, torn, true⟩) := by
      unfold swapR
      rw [if_neg (by simp [thereE, hm, lookA, hft, hft.symm]), hr, ha, hc, if_pos (by simp)]
    by_cases ht : 0 < torn ∧ ((sumA [⟨f, wa, wa.length⟩] : Int) + min torn wb.length ≤ 65536)
    · have hf : tornF ⟨65536, 6, 0, torn, true⟩ t wb [⟨f, wa, wa.length⟩] = [⟨f, wa, wa.length⟩, ⟨t, wb.take torn.toNat, 0⟩] := by
        unfold tornF
        rw [if_pos ht]
        simp [put, hft, hft.symm]
      obtain ⟨p2, n2, e2, l2⟩ := hcr ⟨t, wb.take torn.toNat, 0⟩ rfl
      have l2' : p2.length ≤ wb.length := by simp only [List.length_take] at l2; omega
      exact ⟨7, wa, _, _, [⟨t, p2, n2⟩], by show swapR ⟨65536, 4, (1 : Int), torn, false⟩ f t wb _ = _; rw [hs, hf], by simp only [List.map_cons, List.map_nil, crash_wholeN, e2], .inr ⟨p2, n2, rfl⟩, .inl ⟨rfl, rfl⟩, by simp [sumA, List.length_take]; omega, by simpa [sumA] using l2', by simp, rfl, rfl, by simp⟩
    · have hf : tornF ⟨65536, 6, 0, torn, true⟩ t wb [⟨f, wa, wa.length⟩] = [⟨f, wa, wa.length⟩] := by
        unfold tornF
        rw [if_neg ht]
      exact ⟨7, wa, _, _, [], by show swapR ⟨65536, 4, (1 : Int), torn, false⟩ f t wb _ = _; rw [hs, hf], by simp [crash_wholeN], .inl rfl, .inl ⟨rfl, rfl⟩, by simp [sumA], by simp [sumA], by simp, rfl, rfl, by simp⟩
  | 2, _ =>
    have hm : Hd.may ⟨65536, 4, (2 : Int), torn, false⟩ = true := may_un (by decide)
    have ha : Hd.act ⟨65536, 4, (2 : Int), torn, false⟩ = ⟨65536, 5, 1, torn, false⟩ := act_onN (by decide)
    have ha2 : Hd.act ⟨65536, 5, 1, torn, false⟩ = ⟨65536, 6, 0, torn, false⟩ := act_onN (by decide)
    have hm2 : Hd.may ⟨65536, 5, 1, torn, false⟩ = true := may_un (by decide)
    have hr : removeF ⟨65536, 4, (2 : Int), torn, false⟩ t [⟨f, wa, wa.length⟩] = [⟨f, wa, wa.length⟩] := by simp [removeF, dropF, hm, hft, hft.symm]
    have hc : createR ⟨65536, 5, 1, torn, false⟩ t wb [⟨f, wa, wa.length⟩] = (7, [⟨f, wa, wa.length⟩, ⟨t, wb, 0⟩], ⟨65536, 7, 0, torn, true⟩) := by
      unfold createR
      rw [if_pos (by simp [appE, hm2, sumA, hq]), ha2, act_stopN]
      simp [thereE, thereF, may_stopN, appF, sumA, hq, put, hft, hft.symm]
    obtain ⟨p2, n2, e2, l2⟩ := hcr ⟨t, wb, 0⟩ rfl
    have l2' : p2.length ≤ wb.length := l2
    refine ⟨7, wa, [⟨f, wa, wa.length⟩, ⟨t, wb, 0⟩], ⟨65536, 7, 0, torn, true⟩, [⟨t, p2, n2⟩], ?_, by simp only [List.map_cons, List.map_nil, crash_wholeN, e2], .inr ⟨p2, n2, rfl⟩, .inl ⟨rfl, rfl⟩, by simp [sumA], by simpa [sumA] using l2', by simp, rfl, rfl, by simp⟩
    show swapR ⟨65536, 4, (2 : Int), torn, false⟩ f t wb _ = _
    unfold swapR
    rw [if_neg (by simp [thereE, hm, lookA, hft, hft.symm]), hr, ha, hc, if_pos (by simp)]
  | 3, _ =>
    have hm : Hd.may ⟨65536, 4, (3 : Int), torn, false⟩ = true := may_un (by decide)
    have ha : Hd.act ⟨65536, 4, (3 : Int), torn, false⟩ = ⟨65536, 5, 2, torn, false⟩ := act_onN (by decide)
    have ha2 : Hd.act ⟨65536, 5, 2, torn, false⟩ = ⟨65536, 6, 1, torn, false⟩ := act_onN (by decide)
    have ha3 : Hd.act ⟨65536, 6, 1, torn, false⟩ = ⟨65536, 7, 0, torn, false⟩ := act_onN (by decide)
    have hm2 : Hd.may ⟨65536, 5, 2, torn, false⟩ = true := may_un (by decide)
    have hm3 : Hd.may ⟨65536, 6, 1, torn, false⟩ = true := may_un (by decide)
    have hr : removeF ⟨65536, 4, (3 : Int), torn, false⟩ t [⟨f, wa, wa.length⟩] = [⟨f, wa, wa.length⟩] := by simp [removeF, dropF, hm, hft, hft.symm]
    have hc : createR ⟨65536, 5, 2, torn, false⟩ t wb [⟨f, wa, wa.length⟩] = (0, [⟨f, wa, wa.length⟩, ⟨t, wb, wb.length⟩], ⟨65536, 7, 0, torn, false⟩) := by
      unfold createR
      rw [if_pos (by simp [appE, hm2, sumA, hq]), ha2, ha3]
      simp [thereE, thereF, hm3, appF, sumA, hq, put, lookA, upd, syncG, hft, hft.symm]
    obtain ⟨p2, n2, e2, l2⟩ := hcr ⟨t, wb, wb.length⟩ rfl
    have l2' : p2.length ≤ wb.length := l2
    refine ⟨7, wa, [⟨f, wa, wa.length⟩, ⟨t, wb, wb.length⟩], ⟨65536, 8, 0, torn, true⟩, [⟨t, p2, n2⟩], ?_, by simp only [List.map_cons, List.map_nil, crash_wholeN] at e2 ⊢; rw [e2], .inr ⟨p2, n2, rfl⟩, .inl ⟨rfl, rfl⟩, by simp [sumA], by simpa [sumA] using l2', by simp, rfl, rfl, by simp⟩
    show swapR ⟨65536, 4, (3 : Int), torn, false⟩ f t wb _ = _
    unfold swapR
    rw [if_neg (by simp [thereE, hm, lookA, hft, hft.symm]), hr, ha, hc, if_neg (by simp)]
    simp [thereE, moveF, may_stopN, act_stopN, hft, hft.symm]
  | n + 4, hn =>
    have e0 : ((n + 4 : Nat) : Int) = (n : Int) + 4 := by omega
    have hm : Hd.may ⟨65536, 4, (n : Int) + 4, torn, false⟩ = true := may_un (by omega)
    have ha : Hd.act ⟨65536, 4, (n : Int) + 4, torn, false⟩ = ⟨65536, 5, (n : Int) + 3, torn, false⟩ := (act_onN (by omega)).trans (by congr 1; omega)
    have ha2 : Hd.act ⟨65536, 5, (n : Int) + 3, torn, false⟩ = ⟨65536, 6, (n : Int) + 2, torn, false⟩ := (act_onN (by omega)).trans (by congr 1; omega)
    have ha3 : Hd.act ⟨65536, 6, (n : Int) + 2, torn, false⟩ = ⟨65536, 7, (n : Int) + 1, torn, false⟩ := (act_onN (by omega)).trans (by congr 1; omega)
    have ha4 : Hd.act ⟨65536, 7, (n : Int) + 1, torn, false⟩ = ⟨65536, 8, (n : Int), torn, false⟩ := (act_onN (by omega)).trans (by congr 1; omega)
    have hm2 : Hd.may ⟨65536, 5, (n : Int) + 3, torn, false⟩ = true := may_un (by omega)
    have hm3 : Hd.may ⟨65536, 6, (n : Int) + 2, torn, false⟩ = true := may_un (by omega)
    have hm4 : Hd.may ⟨65536, 7, (n : Int) + 1, torn, false⟩ = true := may_un (by omega)
    have hne : ¬ ((n : Int) + 3 = 0) := by omega
    have hr : removeF ⟨65536, 4, (n : Int) + 4, torn, false⟩ t [⟨f, wa, wa.length⟩] = [⟨f, wa, wa.length⟩] := by simp [removeF, dropF, hm, hft, hft.symm]
    have hc : createR ⟨65536, 5, (n : Int) + 3, torn, false⟩ t wb [⟨f, wa, wa.length⟩] = (0, [⟨f, wa, wa.length⟩, ⟨t, wb, wb.length⟩], ⟨65536, 7, (n : Int) + 1, torn, false⟩) := by
      unfold createR
      rw [if_pos (by simp [appE, hm2, sumA, hq]), ha2, ha3]
      simp [thereE, thereF, hm3, appF, sumA, hq, put, lookA, upd, syncG, hne, hft, hft.symm]
    refine ⟨0, wb, [⟨f, wb, wb.length⟩], ⟨65536, 8, (n : Int), torn, false⟩, [], ?_, by simp [crash_wholeN], .inl rfl, .inr ⟨rfl, rfl⟩, by simp [sumA], by simp [sumA], by simp, rfl, rfl, by simp⟩
    rw [e0]
    unfold swapR
    rw [if_neg (by simp [thereE, hm, lookA, hft, hft.symm]), hr, ha, hc, if_neg (by simp)]
    simp only [ha4]
    simp [thereE, moveF, hm4, moved, lookA, dropF, upd, hft, hft.symm]
end Go.Proofs.YtffhepdhkpldlaaDoor.Sht
