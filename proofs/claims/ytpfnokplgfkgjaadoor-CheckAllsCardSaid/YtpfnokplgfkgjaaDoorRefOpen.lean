/- anabranchref01.Open: its contract. -/
import Derived.Test.YtpfnokplgfkgjaaDoorBPlain
import Derived.Test.YtpfnokplgfkgjaaDoorRefTake
import Derived.Deep.QuietTactic
import Derived.BigQuiet
namespace Go.Proofs.YtpfnokplgfkgjaaDoor.Made
open Go Go.RowKit Go.Proofs.YtpfnokplgfkgjaaDoor.Words Go.Proofs.YtpfnokplgfkgjaaDoor.Enc
set_option linter.unusedVariables false

/-- What Open comes to; what it tells lies in what it was given. -/
def Opened (PA : Option Addr) (PN : Nat) (l : List UInt8) (r : List UInt8 × Nat × Nat) (w : World) (e : Ending) (w' : World) : Prop :=
  ∃ A n c, e = .returned (.tuple #[.slice A n c, .int .i64 (r.2.1 : Int), .int .i64 (r.2.2 : Int)]) ∧ Sees w' A n r.1 ∧ Below w.heap.size w w' ∧ (∀ W, Sees W PA PN l → Sees W A n r.1) ∧ n ≤ c

set_option maxRecDepth 100000 in
theorem refOpen_any (A : Option Addr) (n c : Nat) (l : List UInt8) (most : Int) (w : World) (hs : Sees w A n l) (hc : n ≤ c) (hc2 : c ≤ 9223372036854775807) (hn : n ≤ 800000000) (hm1 : -9223372036854775808 ≤ most) (hm2 : most ≤ 9223372036854775807) :
    Calls Tryd.prog 12 #[.slice A n c, .int .i64 most] w (Opened A n l (openL l most) w) := by
  have hl := hs.1
  obtain ⟨t, ht⟩ : ∃ t, t = tk 0 0 l := ⟨_, rfl⟩
  have HT := Lib.hid ht
  clear ht
  have htl := tk_len l 0 0
  rw [← HT.out] at htl
  have ho : openL l most = opened l most t := by unfold openL; rw [HT.out]
  have HO := Lib.hid ho
  clear ho
  obtain ⟨N, K, E⟩ := t
  simp only [] at htl
  rw [Nat.zero_add, hl] at htl
  go_enter Tryd.func12, Tryd.ntmps12
  go_wp2_with fail
  refine (RefTake.refTake_any A n c l w hs (by omega)).mono ?_
  rintro e w1 ⟨rfl, rfl⟩
  rw [← HT.out]
  simp only []
  by_cases hE : E = 0
  · subst hE
    by_cases h6 : most < 0 ∨ most < (N : Int)
    · have HP : Hid (openL l most = ([], 0, 6)) := by rw [HO.out]; unfold Hid opened; simp [h6]
      by_cases h0 : most < 0
      · clear h6
        go_wp2
        go_ret3
        rw [HP.out]
        exact ⟨none, 0, 0, rfl, Sees.nil _ _, Below.refl _ _, fun _ _ => Sees.nil _ _, Nat.le_refl _⟩
      · have h6' : most < (N : Int) := by omega
        have h0' : decide (most < 0) = false := by simp; omega
        have hp : 0 ≤ most := by omega
        clear h6 h0
        go_wp2
        go_ret3
        rw [HP.out]
        exact ⟨none, 0, 0, rfl, Sees.nil _ _, Below.refl _ _, fun _ _ => Sees.nil _ _, Nat.le_refl _⟩
    · have hp : 0 ≤ most := by omega
      have h0' : decide (most < 0) = false := by simp; omega
      have h6' : decide (most < (N : Int)) = false := by simp; omega
      by_cases h5 : n - K < N
      · have HP : Hid (openL l most = ([], 0, 5)) := by rw [HO.out]; unfold Hid opened; simp [h6, hl, h5]
        have h5' : (n : Int) - (K : Int) < (N : Int) := by omega
        clear h6
        go_wp2
        go_ret3
        rw [HP.out]
        exact ⟨none, 0, 0, rfl, Sees.nil _ _, Below.refl _ _, fun _ _ => Sees.nil _ _, Nat.le_refl _⟩
      · have h5' : decide ((n : Int) - (K : Int) < (N : Int)) = false := by simp; omega
        have hN : N ≤ 800000000 := by omega
        have hend : K + N ≤ n := by omega
        by_cases h4 : n - (K + N) < 4
        · have HP : Hid (openL l most = ([], 0, 5)) := by rw [HO.out]; unfold Hid opened; simp [h6, hl, h5, h4]
          have h4' : (n : Int) - ((K : Int) + (N : Int)) < 4 := by omega
          clear h6
          go_wp2
          go_ret3
          rw [HP.out]
          exact ⟨none, 0, 0, rfl, Sees.nil _ _, Below.refl _ _, fun _ _ => Sees.nil _ _, Nat.le_refl _⟩
        · have h4' : decide ((n : Int) - ((K : Int) + (N : Int)) < 4) = false := by simp; omega
          have hbig : K + N + 4 ≤ n := by omega
          obtain ⟨b, o, rfl, hcell⟩ := hs.2 (by omega)
          have HC := Lib.hid hcell
          clear hcell
          have hsub := (hs.cut (k := K) (by omega) (A' := some ⟨b, o + K, none⟩) (by intro b' o' _ e; injection e with e; injection e with e1 e2; subst e1; subst e2; rfl)).take (k := N) (by omega)
          have htk4 := hs.take (k := K + N + 4) hbig
          go_wp2_with fail
          refine (refWrap_any _ N _ _ w1 hsub (by omega)).mono ?_
          rintro e w2 ⟨A2, c2, rfl, hown2, hb2⟩
          have hw2 := Sees.of_own hown2
          have htk4' := htk4.below hb2
          obtain ⟨s2, hs2⟩ : ∃ s : ByteArray, s = ⟨(l.take (K + N + 4)).toArray⟩ := ⟨_, rfl⟩
          have r2 : ∀ d, (convert 22 9 (.slice (some ⟨b, o, none⟩) (K + N + 4) c)).run Tryd.prog (w2.drewN d) = .ok (.string s2) (w2.drewN d) := fun d => by rw [hs2]; exact (htk4'.drewN d).string c Tryd.underlying22 Tryd.underlying5 Tryd.underlying9
          by_cases heq : wrap ((l.drop K).take N) = l.take (K + N + 4)
          · have HP : Hid (openL l most = ((l.drop K).take N, K + N + 4, 0)) := by rw [HO.out]; unfold Hid opened; simp [h6, hl, h5, h4, heq]
            have r1 : ∀ d, (convert 22 9 (.slice A2 ((enc N).length + N + 4) c2)).run Tryd.prog (w2.drewN d) = .ok (.string s2) (w2.drewN d) := fun d => by rw [hs2, ← heq]; exact (hw2.drewN d).string c2 Tryd.underlying22 Tryd.underlying5 Tryd.underlying9
            have HS := Lib.hid (hsub.below hb2)
            clear h6 h5 h4 heq hs2 hown2 hw2 htk4' htk4 hsub hs
            go_wp2_with fail
            go_quiet (fail)
            go_wp2
            go_ret3
            rw [HP.out]
            exact ⟨_, _, _, rfl, by rw [Nat.add_sub_cancel_left]; exact HS.out.drewN nq, ⟨hb2.os, hb2.tape, hb2.output, hb2.size, hb2.block⟩, fun W h => by rw [Nat.add_sub_cancel_left]; exact (h.cut (k := K) (by omega) (A' := some ⟨b, o + K, none⟩) (by intro b' o' _ e; injection e with e; injection e with e1 e2; subst e1; subst e2; rfl)).take (k := N) (by omega), by omega⟩
          · obtain ⟨s1, hs1⟩ : ∃ s : ByteArray, s = ⟨(wrap ((l.drop K).take N)).toArray⟩ := ⟨_, rfl⟩
            have HP : Hid (openL l most = ([], 0, 4)) := by rw [HO.out]; unfold Hid opened; simp [h6, hl, h5, h4, heq]
            have r1 : ∀ d, (convert 22 9 (.slice A2 ((enc N).length + N + 4) c2)).run Tryd.prog (w2.drewN d) = .ok (.string s1) (w2.drewN d) := fun d => by rw [hs1]; exact (hw2.drewN d).string c2 Tryd.underlying22 Tryd.underlying5 Tryd.underlying9
            have hne' : (s1.toList == s2.toList) = false := by rw [hs1, hs2, bytes_toList, bytes_toList]; simpa using heq
            clear h6 h5 h4 heq hs1 hs2 hown2 hw2 htk4' htk4 hsub hs
            go_wp2_with fail
            go_quiet (fail)
            go_wp2
            go_ret3
            rw [HP.out]
            exact ⟨none, 0, 0, rfl, Sees.nil _ _, ⟨hb2.os, hb2.tape, hb2.output, hb2.size, hb2.block⟩, fun _ _ => Sees.nil _ _, Nat.le_refl _⟩
  · have hE' : ((E : Int) == 0) = false := by simp; omega
    have HP : Hid (openL l most = ([], 0, E)) := by rw [HO.out]; unfold Hid opened; simp [hE]
    have hE2 : ((E : Int) != 0) = true := by simp; omega
    clear hE
    go_wp2
    go_ret3
    rw [HP.out]
    exact ⟨none, 0, 0, rfl, Sees.nil _ _, Below.refl _ _, fun _ _ => Sees.nil _ _, Nat.le_refl _⟩
end Go.Proofs.YtpfnokplgfkgjaaDoor.Made
