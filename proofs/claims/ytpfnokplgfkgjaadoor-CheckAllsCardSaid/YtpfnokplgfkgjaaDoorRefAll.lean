/- anabranchref01.All: its contract. -/
import Derived.Test.YtpfnokplgfkgjaaDoorRefOpen
import Derived.Test.YtpfnokplgfkgjaaDoorBPlain
namespace Go.Proofs.YtpfnokplgfkgjaaDoor.Made
open Go Go.RowKit Go.Proofs.YtpfnokplgfkgjaaDoor.Words Go.Proofs.YtpfnokplgfkgjaaDoor.Enc
set_option linter.unusedVariables false

set_option maxRecDepth 100000 in
theorem refAll_any (A : Option Addr) (n c : Nat) (p : List UInt8) (most : Int) (w : World) (hs : Sees w A n p) (hc : n ≤ c) (hc2 : c ≤ 9223372036854775807) (hn : n ≤ 800000000) (hm1 : -9223372036854775808 ≤ most) (hm2 : most ≤ 9223372036854775807) :
    Calls Tryd.prog 14 #[.slice A n c, .int .i64 most] w (AllSeen (allL p most) w) := by
  obtain ⟨i, hi, hz, hsz, hby⟩ := info_parts info38
  have hl := hs.1
  go_enter Tryd.func14, Tryd.ntmps14
  go_wp2_with fail
  go_loopw [7, 8] (fun v a wr => ∃ (Al : Option Addr) (k cl at_ f : Nat) (L : List (List UInt8)) (vs : List Value), v = .slice Al k cl ∧ a = .int .i64 (at_ : Int) ∧ at_ ≤ n ∧ n - at_ < f ∧ k ≤ at_ ∧
      wr.ownsRow w.heap.size 22 1 (.slice Al k cl) k vs ∧ Each w vs L ∧ Below w.heap.size w wr ∧
      Hid (allL p most = (L ++ (allF most f (p.drop at_)).1, at_ + (allF most f (p.drop at_)).2.1, (allF most f (p.drop at_)).2.2))) (fun _ a _ => n - (intOf a).toNat)
  case atStart => exact ⟨none, 0, 0, 0, n + 1, [], [], rfl, rfl, by omega, by omega, by omega, World.ownsRow_nil _ _ _ _, Each.nil _, Below.refl _ _, by unfold Hid allL; simp [hl]⟩
  case round =>
    obtain ⟨Al, k, cl, at_, f, L, vs, rfl, rfl, hat, hf, hka, hown, heach, hb, hall⟩ := hrel
    have hwb := hb.size
    by_cases hlt : at_ < n
    · obtain ⟨b, o, rfl, hcell⟩ := hs.2 (by omega)
      have HC := Lib.hid hcell
      clear hcell
      have hcut := hs.cut (k := at_) (by omega) (A' := some ⟨b, o + at_, none⟩) (by intro b' o' _ e; injection e with e; injection e with e1 e2; subst e1; subst e2; rfl)
      have hne : p.drop at_ ≠ [] := by
        intro e
        have := congrArg List.length e
        rw [List.length_drop] at this
        simp at this
        omega
      obtain ⟨f', rfl⟩ : ∃ f', f = f' + 1 := ⟨f - 1, by omega⟩
      have hol := openL_len (p.drop at_) most
      have hok := fun h => (opened_ok_len (v := p.drop at_) (most := most) h)
      have hun : allF most (f' + 1) (p.drop at_) = if (openL (p.drop at_) most).2.2 ≠ 0 then ([], 0, (openL (p.drop at_) most).2.2) else
          ((openL (p.drop at_) most).1 :: (allF most f' ((p.drop at_).drop (openL (p.drop at_) most).2.1)).1, (openL (p.drop at_) most).2.1 + (allF most f' ((p.drop at_).drop (openL (p.drop at_) most).2.1)).2.1, (allF most f' ((p.drop at_).drop (openL (p.drop at_) most).2.1)).2.2) := by
        rw [allF, if_neg hne]
      have hall' := hall.out
      rw [hun] at hall'
      obtain ⟨r, hr⟩ : ∃ r, r = openL (p.drop at_) most := ⟨_, rfl⟩
      rw [← hr] at hall' hol hok
      have HR := Lib.hid hr
      have HALL := Lib.hid hall'
      have HOK := Lib.hid hok
      clear hr hun hall' hall hne hok
      go_wp2_with fail
      refine (refOpen_any (some ⟨b, o + at_, none⟩) (n - at_) (c - at_) (p.drop at_) most wr (hcut.below hb) (by omega) (by omega) (by omega) hm1 hm2).mono ?_
      rintro e w2 ⟨A2, n2, c2, rfl, hv2, hb2, hsub, hc2'⟩
      rw [← HR.out] at hv2 hsub ⊢
      have hown' := Own.below hown hb2 (Nat.le_refl _)
      have b2 := hb.trans (hb2.mono hwb)
      obtain ⟨r1, rk, E⟩ := r
      simp only [] at hv2 hsub hol ⊢
      rw [List.length_drop, hl] at hol
      by_cases hE : E = 0
      · subst hE
        have hpos : 4 ≤ rk := HOK.out rfl
        have hall2 := HALL.out
        rw [if_neg (by simp)] at hall2
        simp only [List.drop_drop] at hall2
        have HA := Lib.hid hall2
        have hr1 := hv2.1
        clear hall2 HOK HALL HR hown
        have hw2 := b2.size
        go_wp2_with (first | (at_builtin; refine wpList_append_own _ rfl _ _ 35 rfl w.heap.size 22 i (.slice none 0 0) 1 24 Tryd.underlying35 hi hz hsz hby rfl (by decide) (.slice Al k cl) k vs rfl (hown'.alloc _) ⟨w2.heap.size, 0, none⟩ 1 1 [.slice A2 n2 c2] rfl rfl ?c1 ?c2 ?c3 ?c4 ?c5 ?_))
        case c1 =>
          intro j u hj
          match j, hj with
          | 0, hj => simp at hj; subst hj; simp [Addr.add]
        case c2 => exact slice_one _ _ _
        case c3 => unfold maxLen; omega
        case c4 => omega
        case c5 => exact Nat.le_trans hw2 (by simp)
        intro v' w3 hown3 hgrow _
        have hb3 : Below w.heap.size (w2.alloc (.cells #[.slice A2 n2 c2] 22)) w3 := (Below.refl _ _).grown hgrow (Nat.le_trans hw2 (by simp)) (fun g hg => (hown'.lt g hg).1)
        obtain ⟨A3, c3, rfl, _⟩ := Own.shape hown3
        go_wp2
        go_roundw
        case rel => exact ⟨A3, k + 1, c3, at_ + rk, f', L ++ [r1], vs ++ [.slice A2 n2 c2], rfl, by go_num, by omega, by omega, by omega, hown3, by
            have := heach.snoc (c := c2) (l := r1) (A := A2) (by omega) (by rw [hr1]; exact hsub w hcut)
            rw [hr1] at this
            exact this, (b2.alloc hw2 _).trans hb3, by
            have h := HA.out
            unfold Hid
            rw [h]
            simp [Nat.add_assoc]⟩
        case measure => simp [intOf]; omega
      · have hE2 : ((E : Int) != 0) = true := by simp; omega
        have hall2 := HALL.out
        rw [if_pos (by simpa using hE)] at hall2
        have HA := Lib.hid hall2
        clear hE hall2 HOK HALL HR hown
        go_wp2
        go_ret3
        rw [HA.out]
        exact ⟨Al, k, cl, by simp, by simpa using SeesAll.of_own hown' (heach.below b2), b2⟩
    · have hat' : at_ = n := by omega
      subst hat'
      have hdn : p.drop at_ = [] := List.drop_eq_nil_of_le (by omega)
      have hall2 := hall.out
      obtain ⟨f', rfl⟩ : ∃ f', f = f' + 1 := ⟨f - 1, by omega⟩
      rw [hdn, allF, if_pos rfl] at hall2
      have HA := Lib.hid hall2
      clear hall2 hall hdn
      go_wp2
      go_ret3
      rw [HA.out]
      exact ⟨Al, k, cl, by simp, by simpa using SeesAll.of_own hown (heach.below hb), hb⟩
end Go.Proofs.YtpfnokplgfkgjaaDoor.Made
