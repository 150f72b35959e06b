/- Swap on a disk that stops: plain lists. -/
import Derived.Test.YtfdnlgigllflfaaDoorBSheetLaw
namespace Go.Proofs.YtfdnlgigllflfaaDoor.Sht
open Go Go.RowKit Go.Proofs.YtfdnlgigllflfaaDoor.Words Go.Proofs.YtfdnlgigllflfaaDoor.Enc Go.Proofs.YtfdnlgigllflfaaDoor.Made Go.Proofs.YtfdnlgigllflfaaDoor.Dsk
set_option linter.unusedVariables false

theorem act_on {room left torn : Int} {acts : Nat} (hl : 0 < left) : Hd.act ⟨room, acts, left, torn, false⟩ = ⟨room, acts + 1, left - 1, torn, false⟩ := by
  have h1 : ¬ left = 0 := by omega
  simp [Hd.act, h1, hl]
theorem act_stop {room torn : Int} {acts : Nat} : Hd.act ⟨room, acts, 0, torn, false⟩ = ⟨room, acts + 1, 0, torn, true⟩ := by simp [Hd.act]
theorem may_stop {room torn : Int} {acts : Nat} : Hd.may ⟨room, acts, 0, torn, false⟩ = false := by simp [Hd.may]

/-- What a fall leaves of a file that is durable, and of one behind it. -/
theorem crash_whole5 (keep : Int) (s p : List UInt8) : crashG keep ⟨s, p, p.length⟩ = ⟨s, p, p.length⟩ := by simp [crashG]
/-- The second Swap of the law, stopped or not, and the fall behind it. -/
def Armed (st : Nat) (torn keep : Int) (wa wb : List UInt8) (E : Int) (p : List UInt8) (files : List File) (h : Hd) (rest : List File) : Prop :=
  swapR ⟨65536, 4, (st : Int), torn, false⟩ fN tN wb [⟨fN, wa, wa.length⟩] = (E, files, h) ∧ files.map (crashG keep) = ⟨fN, p, p.length⟩ :: rest ∧ (rest = [] ∨ ∃ p2 n2, rest = [⟨tN, p2, n2⟩]) ∧
  (E = 7 ∧ p = wa ∨ E = 0 ∧ p = wb) ∧ sumA files ≤ wa.length + wb.length ∧ sumA rest ≤ wb.length ∧ h.acts ≤ 8 ∧ h.room = 65536 ∧ h.torn = torn ∧ files.length ≤ 2

theorem armed_any (st : Nat) (hst : st < 6) (torn keep : Int) (wa wb : List UInt8) (hab : wa.length + wb.length ≤ 65536) : ∃ E p files h rest, Armed st torn keep wa wb E p files h rest := by
  have hq : (wa.length : Int) + wb.length ≤ 65536 := by omega
  have hcr : ∀ x : File, x.name = tN → ∃ p2 n2, crashG keep x = ⟨tN, p2, n2⟩ ∧ p2.length ≤ x.p.length := fun x hx => ⟨_, _, by unfold crashG; rw [hx], by rw [List.length_take]; omega⟩
  match st, hst with
  | 0, _ =>
    refine ⟨7, wa, [⟨fN, wa, wa.length⟩], ⟨65536, 5, 0, torn, true⟩, [], ?_, by simp [crash_whole5], .inl rfl, .inl ⟨rfl, rfl⟩, by simp [sumA], by simp [sumA], by simp, rfl, rfl, by simp⟩
    unfold swapR
    rw [if_pos (by simp [thereE, may_stop])]
    simp [removeF, may_stop, act_stop]
  | 1, _ =>
    have hm : Hd.may ⟨65536, 4, (1 : Int), torn, false⟩ = true := may_un (by decide)
    have ha : Hd.act ⟨65536, 4, (1 : Int), torn, false⟩ = ⟨65536, 5, 0, torn, false⟩ := act_on (by decide)
    have hr : removeF ⟨65536, 4, (1 : Int), torn, false⟩ tN [⟨fN, wa, wa.length⟩] = [⟨fN, wa, wa.length⟩] := by simp [removeF, dropF, hm]
    have hc : createR ⟨65536, 5, 0, torn, false⟩ tN wb [⟨fN, wa, wa.length⟩] = (7, tornF ⟨65536, 6, 0, torn, true⟩ tN wb [⟨fN, wa, wa.length⟩], ⟨65536, 6, 0, torn, true⟩) := by
      unfold createR
      rw [if_neg (by simp [appE, may_stop])]
      simp [appE, may_stop, appF, act_stop]
    have hs : swapR ⟨65536, 4, (1 : Int), torn, false⟩ fN tN wb [⟨fN, wa, wa.length⟩] = (7, tornF ⟨65536, 6, 0, torn, true⟩ tN wb [⟨fN, wa, wa.length⟩], ⟨65536, 6, 0, torn, true⟩) := by
      unfold swapR
      rw [if_neg (by simp [thereE, hm, lookA]), hr, ha, hc, if_pos (by simp)]
    by_cases ht : 0 < torn ∧ ((sumA [⟨fN, wa, wa.length⟩] : Int) + min torn wb.length ≤ 65536)
    · have hf : tornF ⟨65536, 6, 0, torn, true⟩ tN wb [⟨fN, wa, wa.length⟩] = [⟨fN, wa, wa.length⟩, ⟨tN, wb.take torn.toNat, 0⟩] := by
        unfold tornF
        rw [if_pos ht]
        simp [put]
      obtain ⟨p2, n2, e2, l2⟩ := hcr ⟨tN, wb.take torn.toNat, 0⟩ rfl
      have l2' : p2.length ≤ wb.length := by simp only [List.length_take] at l2; omega
      exact ⟨7, wa, _, _, [⟨tN, p2, n2⟩], by show swapR ⟨65536, 4, (1 : Int), torn, false⟩ fN tN wb _ = _; rw [hs, hf], by simp only [List.map_cons, List.map_nil, crash_whole5, e2], .inr ⟨p2, n2, rfl⟩, .inl ⟨rfl, rfl⟩, by simp [sumA, List.length_take]; omega, by simpa [sumA] using l2', by simp, rfl, rfl, by simp⟩
    · have hf : tornF ⟨65536, 6, 0, torn, true⟩ tN wb [⟨fN, wa, wa.length⟩] = [⟨fN, wa, wa.length⟩] := by
        unfold tornF
        rw [if_neg ht]
      exact ⟨7, wa, _, _, [], by show swapR ⟨65536, 4, (1 : Int), torn, false⟩ fN tN wb _ = _; rw [hs, hf], by simp [crash_whole5], .inl rfl, .inl ⟨rfl, rfl⟩, by simp [sumA], by simp [sumA], by simp, rfl, rfl, by simp⟩
  | 2, _ =>
    have hm : Hd.may ⟨65536, 4, (2 : Int), torn, false⟩ = true := may_un (by decide)
    have ha : Hd.act ⟨65536, 4, (2 : Int), torn, false⟩ = ⟨65536, 5, 1, torn, false⟩ := act_on (by decide)
    have ha2 : Hd.act ⟨65536, 5, 1, torn, false⟩ = ⟨65536, 6, 0, torn, false⟩ := act_on (by decide)
    have hm2 : Hd.may ⟨65536, 5, 1, torn, false⟩ = true := may_un (by decide)
    have hr : removeF ⟨65536, 4, (2 : Int), torn, false⟩ tN [⟨fN, wa, wa.length⟩] = [⟨fN, wa, wa.length⟩] := by simp [removeF, dropF, hm]
    have hc : createR ⟨65536, 5, 1, torn, false⟩ tN wb [⟨fN, wa, wa.length⟩] = (7, [⟨fN, wa, wa.length⟩, ⟨tN, wb, 0⟩], ⟨65536, 7, 0, torn, true⟩) := by
      unfold createR
      rw [if_pos (by simp [appE, hm2, sumA, hq]), ha2, act_stop]
      simp [thereE, thereF, may_stop, appF, sumA, hq, put]
    obtain ⟨p2, n2, e2, l2⟩ := hcr ⟨tN, wb, 0⟩ rfl
    have l2' : p2.length ≤ wb.length := l2
    refine ⟨7, wa, [⟨fN, wa, wa.length⟩, ⟨tN, wb, 0⟩], ⟨65536, 7, 0, torn, true⟩, [⟨tN, p2, n2⟩], ?_, by simp only [List.map_cons, List.map_nil, crash_whole5, e2], .inr ⟨p2, n2, rfl⟩, .inl ⟨rfl, rfl⟩, by simp [sumA], by simpa [sumA] using l2', by simp, rfl, rfl, by simp⟩
    show swapR ⟨65536, 4, (2 : Int), torn, false⟩ fN tN wb _ = _
    unfold swapR
    rw [if_neg (by simp [thereE, hm, lookA]), hr, ha, hc, if_pos (by simp)]
  | 3, _ =>
    have hm : Hd.may ⟨65536, 4, (3 : Int), torn, false⟩ = true := may_un (by decide)
    have ha : Hd.act ⟨65536, 4, (3 : Int), torn, false⟩ = ⟨65536, 5, 2, torn, false⟩ := act_on (by decide)
    have ha2 : Hd.act ⟨65536, 5, 2, torn, false⟩ = ⟨65536, 6, 1, torn, false⟩ := act_on (by decide)
    have ha3 : Hd.act ⟨65536, 6, 1, torn, false⟩ = ⟨65536, 7, 0, torn, false⟩ := act_on (by decide)
    have hm2 : Hd.may ⟨65536, 5, 2, torn, false⟩ = true := may_un (by decide)
    have hm3 : Hd.may ⟨65536, 6, 1, torn, false⟩ = true := may_un (by decide)
    have hr : removeF ⟨65536, 4, (3 : Int), torn, false⟩ tN [⟨fN, wa, wa.length⟩] = [⟨fN, wa, wa.length⟩] := by simp [removeF, dropF, hm]
    have hc : createR ⟨65536, 5, 2, torn, false⟩ tN wb [⟨fN, wa, wa.length⟩] = (0, [⟨fN, wa, wa.length⟩, ⟨tN, wb, wb.length⟩], ⟨65536, 7, 0, torn, false⟩) := by
      unfold createR
      rw [if_pos (by simp [appE, hm2, sumA, hq]), ha2, ha3]
      simp [thereE, thereF, hm3, appF, sumA, hq, put, lookA, upd, syncG]
    obtain ⟨p2, n2, e2, l2⟩ := hcr ⟨tN, wb, wb.length⟩ rfl
    have l2' : p2.length ≤ wb.length := l2
    refine ⟨7, wa, [⟨fN, wa, wa.length⟩, ⟨tN, wb, wb.length⟩], ⟨65536, 8, 0, torn, true⟩, [⟨tN, p2, n2⟩], ?_, by simp only [List.map_cons, List.map_nil, crash_whole5] at e2 ⊢; rw [e2], .inr ⟨p2, n2, rfl⟩, .inl ⟨rfl, rfl⟩, by simp [sumA], by simpa [sumA] using l2', by simp, rfl, rfl, by simp⟩
    show swapR ⟨65536, 4, (3 : Int), torn, false⟩ fN tN wb _ = _
    unfold swapR
    rw [if_neg (by simp [thereE, hm, lookA]), hr, ha, hc, if_neg (by simp)]
    simp [thereE, moveF, may_stop, act_stop]
  | n + 4, hn =>
    have e0 : ((n + 4 : Nat) : Int) = (n : Int) + 4 := by omega
    have hm : Hd.may ⟨65536, 4, (n : Int) + 4, torn, false⟩ = true := may_un (by omega)
    have ha : Hd.act ⟨65536, 4, (n : Int) + 4, torn, false⟩ = ⟨65536, 5, (n : Int) + 3, torn, false⟩ := (act_on (by omega)).trans (by congr 1; omega)
    have ha2 : Hd.act ⟨65536, 5, (n : Int) + 3, torn, false⟩ = ⟨65536, 6, (n : Int) + 2, torn, false⟩ := (act_on (by omega)).trans (by congr 1; omega)
    have ha3 : Hd.act ⟨65536, 6, (n : Int) + 2, torn, false⟩ = ⟨65536, 7, (n : Int) + 1, torn, false⟩ := (act_on (by omega)).trans (by congr 1; omega)
    have ha4 : Hd.act ⟨65536, 7, (n : Int) + 1, torn, false⟩ = ⟨65536, 8, (n : Int), torn, false⟩ := (act_on (by omega)).trans (by congr 1; omega)
    have hm2 : Hd.may ⟨65536, 5, (n : Int) + 3, torn, false⟩ = true := may_un (by omega)
    have hm3 : Hd.may ⟨65536, 6, (n : Int) + 2, torn, false⟩ = true := may_un (by omega)
    have hm4 : Hd.may ⟨65536, 7, (n : Int) + 1, torn, false⟩ = true := may_un (by omega)
    have hne : ¬ ((n : Int) + 3 = 0) := by omega
    have hr : removeF ⟨65536, 4, (n : Int) + 4, torn, false⟩ tN [⟨fN, wa, wa.length⟩] = [⟨fN, wa, wa.length⟩] := by simp [removeF, dropF, hm]
    have hc : createR ⟨65536, 5, (n : Int) + 3, torn, false⟩ tN wb [⟨fN, wa, wa.length⟩] = (0, [⟨fN, wa, wa.length⟩, ⟨tN, wb, wb.length⟩], ⟨65536, 7, (n : Int) + 1, torn, false⟩) := by
      unfold createR
      rw [if_pos (by simp [appE, hm2, sumA, hq]), ha2, ha3]
      simp [thereE, thereF, hm3, appF, sumA, hq, put, lookA, upd, syncG, hne]
    refine ⟨0, wb, [⟨fN, wb, wb.length⟩], ⟨65536, 8, (n : Int), torn, false⟩, [], ?_, by simp [crash_whole5], .inl rfl, .inr ⟨rfl, rfl⟩, by simp [sumA], by simp [sumA], by simp, rfl, rfl, by simp⟩
    rw [e0]
    unfold swapR
    rw [if_neg (by simp [thereE, hm, lookA]), hr, ha, hc, if_neg (by simp)]
    simp only [ha4]
    simp [thereE, moveF, hm4, moved, lookA, dropF, upd]
end Go.Proofs.YtfdnlgigllflfaaDoor.Sht
