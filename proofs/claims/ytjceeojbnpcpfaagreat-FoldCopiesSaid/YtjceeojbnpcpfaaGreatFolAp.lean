/- The document's fold: Apply, of any event. -/
import Derived.Test.YtjceeojbnpcpfaaGreatFolVbad
import Derived.Test.YtjceeojbnpcpfaaGreatFolVgap
import Derived.Test.YtjceeojbnpcpfaaGreatFolVk1
import Derived.Test.YtjceeojbnpcpfaaGreatFolVk2
import Derived.Test.YtjceeojbnpcpfaaGreatFolVk3a
import Derived.Test.YtjceeojbnpcpfaaGreatFolVk3b
import Derived.Test.YtjceeojbnpcpfaaGreatFolVk3c
import Derived.Test.YtjceeojbnpcpfaaGreatFolVk4
import Derived.Test.YtjceeojbnpcpfaaGreatFolVk5
import Derived.Test.YtjceeojbnpcpfaaGreatFolVk6
namespace Go.Proofs.YtjceeojbnpcpfaaGreat.Fol
open Go Go.RowKit Go.Proofs.YtjceeojbnpcpfaaGreat.Words Go.Proofs.YtjceeojbnpcpfaaGreat.Enc Go.Proofs.YtjceeojbnpcpfaaGreat.Q Go.Proofs.YtjceeojbnpcpfaaGreat.Evt Go.Proofs.YtjceeojbnpcpfaaGreat.Facts
set_option linter.unusedVariables false
set_option linter.unusedSimpArgs false

theorem refApply_any {La : Option Addr} {lc : Nat} {L : List (Key × RC)} {h : RH} {F : Fo} {S : List Nat} (e : Ev) (A : Option Addr) (n c : Nat) (w : World) (r : RefAt w S La lc L h F) (ok : Ok F) (hs : SeesV w S A (cs e.text)) (hnt : n = e.text.length) (hS : ∀ x ∈ S, x < w.heap.size) (hn : n ≤ 1000000000) (hL : L.length ≤ 1000000) (hfit : e.Fit) (hkl : e.key.size ≤ 9223372036854775807) :
    Calls Tryz.prog 9 #[.agg (rv La L.length lc h), e.val A n c] w fun e' w' => ∃ La' lc' L' h', e' = .returned (.tuple #[.agg (rv La' (List.length (α := Key × RC) L') lc' h'), .int .i64 (applyE F e : Int)]) ∧ RefAt w' S La' lc' L' h' (applyF F e) ∧ Below w.heap.size w w' := by
  by_cases hr : rightE e = 0
  · have hR := (right_iff e).1 hr
    obtain ⟨wr, sq, tm, kd, key, text, num, node⟩ := e
    obtain ⟨i, rfl⟩ := Int.eq_ofNat_of_zero_le hR.w1
    have hq : num < 18446744073709551616 := hfit.q
    have hkd : kd = 1 ∨ kd = 2 ∨ kd = 3 ∨ kd = 4 ∨ kd = 5 ∨ kd = 6 := by have h1 := hR.k1; have h2 := hR.k2; simp only at h1 h2; omega
    cases hX : decide (cmpS h.T (h.W : Int) tm (i : Int) < 0) with
    | false => exact refApply_behind w r ok hR hq hs hnt hS hn hL hfit hkl hX
    | true =>
      cases hY : (!decide (sq = F.H.getD i 0 + 1)) with
      | true => exact refApply_gap w r ok hR hq hs hnt hS hn hL hfit hkl hX hY
      | false =>
        rcases hkd with hk | hk | hk | hk | hk | hk
        · exact refApply_k1 w r ok hR hq hs hnt hS hn hL hfit hkl hX hY hk
        · exact refApply_k2 w r ok hR hq hs hnt hS hn hL hfit hkl hX hY hk
        · cases hth : there key.data.toList L with
          | false => exact refApply_k3a w r ok hR hq hs hnt hS hn hL hfit hkl hX hY hk hth
          | true =>
            obtain ⟨p, hp⟩ := there_get hth
            by_cases h2 : p.2.kind = 2
            · exact refApply_k3c w r ok hR hq hs hnt hS hn hL hfit hkl hX hY hk hth (fun p' hp' => by rw [hp] at hp'; injection hp' with hp'; subst hp'; exact h2)
            · exact refApply_k3b w r ok hR hq hs hnt hS hn hL hfit hkl hX hY hk hth (fun p' hp' => by rw [hp] at hp'; injection hp' with hp'; subst hp'; exact h2)
        · exact refApply_k4 w r ok hR hq hs hnt hS hn hL hfit hkl hX hY hk
        · exact refApply_k5 w r ok hR hq hs hnt hS hn hL hfit hkl hX hY hk
        · exact refApply_k6 w r ok hR hq hs hnt hS hn hL hfit hkl hX hY hk
  · have hE : applyE F e = rightE e := by unfold applyE; rw [if_pos hr]
    have hF : applyF F e = F := by unfold applyF; rw [hE, if_neg hr]
    rw [hE, hF]
    refine (refApply_bad e A n c w r hr hnt hn hfit hkl).mono ?_
    rintro e' w' ⟨rfl, hb⟩
    exact ⟨La, lc, L, h, rfl, r.below hb, hb⟩
end Go.Proofs.YtjceeojbnpcpfaaGreat.Fol
