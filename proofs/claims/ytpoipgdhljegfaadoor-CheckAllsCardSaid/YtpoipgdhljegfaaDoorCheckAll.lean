/- check.All: what is asked of it. -/
import Derived.Test.YtpoipgdhljegfaaDoorCheckOpen
import Derived.Test.YtpoipgdhljegfaaDoorCheckAlls
namespace Go.Proofs.YtpoipgdhljegfaaDoor.Chk
open Go Go.RowKit Go.Proofs.YtpoipgdhljegfaaDoor.Words Go.Proofs.YtpoipgdhljegfaaDoor.Enc Go.Proofs.YtpoipgdhljegfaaDoor.Made
set_option linter.unusedVariables false

/-- The slice values vs, each in memory of its own above base, hold the lists L. -/
def EachOwn (base : Nat) (w : World) (vs : List Value) (L : List (List UInt8)) : Prop :=
  vs.length = L.length ∧ ∀ (j : Nat) (l : List UInt8), L[j]? = some l → ∃ (A : Option Addr) (c : Nat), vs[j]? = some (Value.slice A l.length c) ∧ w.ownsRow base 5 1 (.slice A l.length c) l.length (cs l)
theorem EachOwn.nil (base : Nat) (w : World) : EachOwn base w [] [] := ⟨rfl, fun j l h => by simp at h⟩
theorem EachOwn.each {base : Nat} {w : World} {vs : List Value} {L : List (List UInt8)} (h : EachOwn base w vs L) : Each w vs L :=
  ⟨h.1, fun j l hl => by
    obtain ⟨A, c, hv, ho⟩ := h.2 j l hl
    exact ⟨A, c, hv, (Own.cap ho).1, Sees.of_own ho⟩⟩
theorem EachOwn.of {base : Nat} {w w' : World} {vs : List Value} {L : List (List UInt8)} (h : EachOwn base w vs L)
    (hf : ∀ (v : Value) (n : Nat) (l : List UInt8), w.ownsRow base 5 1 v n (cs l) → w'.ownsRow base 5 1 v n (cs l)) : EachOwn base w' vs L :=
  ⟨h.1, fun j l hl => by
    obtain ⟨A, c, hv, ho⟩ := h.2 j l hl
    exact ⟨A, c, hv, hf _ _ _ ho⟩⟩
theorem EachOwn.snoc {base : Nat} {w : World} {vs : List Value} {L : List (List UInt8)} (h : EachOwn base w vs L) {A : Option Addr} {c : Nat} {l : List UInt8} (hs : w.ownsRow base 5 1 (.slice A l.length c) l.length (cs l)) : EachOwn base w (vs ++ [.slice A l.length c]) (L ++ [l]) := by
  refine ⟨by simp [h.1], fun j m hm => ?_⟩
  rcases Nat.lt_trichotomy j L.length with hj | hj | hj
  · rw [List.getElem?_append_left hj] at hm
    obtain ⟨A', c', hv, r⟩ := h.2 j m hm
    exact ⟨A', c', by rw [List.getElem?_append_left (by rw [h.1]; exact hj)]; exact hv, r⟩
  · subst hj
    rw [List.getElem?_append_right (Nat.le_refl _)] at hm
    simp at hm
    subst hm
    exact ⟨A, c, by rw [List.getElem?_append_right (by rw [h.1]; exact Nat.le_refl _)]; simp [h.1], hs⟩
  · rw [List.getElem?_eq_none (by simp; omega)] at hm
    cases hm
/-- A row of bytes is no row of slices: what is appended to the one leaves the other alone. -/
theorem own_apart {w w' : World} {base base' : Nat} {v : Value} {k : Nat} {vs : List Value} (hrow : w.ownsRow base' 22 1 v k vs) (hg : w.grownBy w' v.ownBlock) {u : Value} {n : Nat} {l : List UInt8}
    (h : w.ownsRow base 5 1 u n (cs l)) : w'.ownsRow base 5 1 u n (cs l) := by
  refine ⟨h.1, ?_⟩
  rcases h.2 with hn | ⟨g, cap, cur, hv, hgb, hh, r⟩
  · exact .inl hn
  · refine .inr ⟨g, cap, cur, hv, hgb, ?_, r⟩
    rw [hg.block g (Array.getElem?_eq_some_iff.1 hh).1 ?_]
    · exact hh
    · intro e
      rcases hrow.2 with ⟨hv0, _⟩ | ⟨g2, cap2, cur2, hv2, _, hh2, _⟩
      · subst hv0; cases e
      · subst hv2
        injection e with e
        subst e
        rw [hh] at hh2
        injection hh2 with e2
        injection e2 with _ e3
        exact absurd e3 (by decide)

def lenIs : Value → Nat
  | .slice _ m _ => m
  | _ => 0

set_option maxRecDepth 100000 in
theorem allOk : AllSaid := by
  intro A n c p most w T hs hc hc2 hn hm1 hm2
  obtain ⟨i, hi, hz, hsz, hby⟩ := info_parts info38
  have hl := hs.1
  go_enter Tryd.func16, Tryd.ntmps16
  go_wp2_with fail
  go_loopw [7, 8] (fun v a wr => ∃ (Al : Option Addr) (k cl at_ f : Nat) (L : List (List UInt8)) (vs : List Value) (R : Option Addr) (m rc : Nat), v = .slice Al k cl ∧ a = .slice R m rc ∧ at_ ≤ n ∧ m = n - at_ ∧ n - at_ < f ∧ k ≤ at_ ∧
      wr.ownsRow w.heap.size 22 1 (.slice Al k cl) k vs ∧ EachOwn w.heap.size wr vs L ∧ Below w.heap.size w wr ∧ (∀ W, Sees W A n p → Sees W R m (p.drop at_)) ∧ m ≤ rc ∧ rc ≤ 9223372036854775807 ∧
      Hid (allL p most = (L ++ (allF most f (p.drop at_)).1, at_ + (allF most f (p.drop at_)).2.1, (allF most f (p.drop at_)).2.2))) (fun _ a _ => lenIs a)
  case atStart => exact ⟨none, 0, 0, 0, n + 1, [], [], A, n, c, rfl, rfl, by omega, by omega, by omega, by omega, World.ownsRow_nil _ _ _ _, EachOwn.nil _ _, Below.refl _ _, fun W h => by simpa using h, hc, hc2, by unfold Hid allL; simp [hl]⟩
  case round =>
    obtain ⟨Al, k, cl, at_, f, L, vs, R, m, rc, rfl, rfl, hat, hm, hf, hka, hown, heach, hb, hpart, hmc, hrc, hall⟩ := hrel
    have hwb := hb.size
    have HM := Lib.hid hm
    have hsee := hpart _ (hs.below hb)
    by_cases hlt : 0 < m
    · have hlt' : (0 : Int) < (m : Int) := by omega
      have hne : p.drop at_ ≠ [] := by
        intro e
        have := hsee.1
        rw [e] at this
        simp at this
        omega
      obtain ⟨f', rfl⟩ : ∃ f', f = f' + 1 := ⟨f - 1, by omega⟩
      have hol := openL_len (p.drop at_) most
      have hok := fun h => (opened_ok_len (v := p.drop at_) (most := most) h)
      have hun : allF most (f' + 1) (p.drop at_) = if (openL (p.drop at_) most).2.2 ≠ 0 then ([], 0, (openL (p.drop at_) most).2.2) else
          ((openL (p.drop at_) most).1 :: (allF most f' ((p.drop at_).drop (openL (p.drop at_) most).2.1)).1, (openL (p.drop at_) most).2.1 + (allF most f' ((p.drop at_).drop (openL (p.drop at_) most).2.1)).2.1, (allF most f' ((p.drop at_).drop (openL (p.drop at_) most).2.1)).2.2) := by
        rw [allF, if_neg hne]
      have hall' := hall.out
      rw [hun] at hall'
      have hm6 : m ≤ 600000 := by omega
      obtain ⟨r, hr⟩ : ∃ r, r = openL (p.drop at_) most := ⟨_, rfl⟩
      rw [← hr] at hall' hol hok
      have HR := Lib.hid hr
      have HALL := Lib.hid hall'
      have HOK := Lib.hid hok
      clear hr hun hall' hall hne hok hm
      go_wp2_with fail
      refine (openR_any R m rc (p.drop at_) most wr (T.below hb) hsee hmc hrc (by omega) hm1 hm2).mono ?_
      rintro e w2 ⟨A1, n1, c1, A2, n2, c2, rfl, hv1, hv2p, hcc2, hcm2, hb2⟩
      rw [← HR.out] at hv1 hv2p ⊢
      have hown' := Own.below hown hb2 (Nat.le_refl _)
      have b2 := hb.trans (hb2.mono hwb)
      have heach2 := heach.of fun v n l h => Own.below h hb2 (Nat.le_refl _)
      obtain ⟨r1, rk, E⟩ := r
      simp only [] at hv1 hv2p hol ⊢
      have hv2 := hv2p _ (hsee.below hb2)
      rw [hsee.1] at hol
      have hn2 : n2 = m - rk := by have := hv2.1; rw [List.length_drop, hsee.1] at this; omega
      have HN2 := Lib.hid hn2
      clear hn2
      by_cases hE : E = 0
      · subst hE
        have hpos : 4 ≤ rk := HOK.out rfl
        have hall2 := HALL.out
        rw [if_neg (by simp)] at hall2
        simp only [List.drop_drop] at hall2 hv2p
        have HA := Lib.hid hall2
        have hr1 : r1.length = n1 := by have := hv1.1; rw [cs_length] at this; omega
        clear hall2 HOK HALL HR hown
        have hw2 := b2.size
        go_wp2_with (first | (at_builtin; refine wpList_append_own _ rfl _ _ 38 rfl w.heap.size 22 i (.slice none 0 0) 1 24 Tryd.underlying38 hi hz hsz hby rfl (by decide) (.slice Al k cl) k vs rfl (hown'.alloc _) ⟨w2.heap.size, 0, none⟩ 1 1 [.slice A1 n1 c1] rfl rfl ?c1 ?c2 ?c3 ?c4 ?c5 ?_))
        case c1 =>
          intro j u hj
          match j, hj with
          | 0, hj => simp at hj; subst hj; simp [Addr.add]
        case c2 => exact slice_one _ _ _
        case c3 => unfold maxLen; have := HM.out; omega
        case c4 => have := HM.out; omega
        case c5 => exact Nat.le_trans hw2 (by simp)
        intro v' w3 hown3 hgrow _
        have hb3 : Below w.heap.size (w2.alloc (.cells #[.slice A1 n1 c1] 22)) w3 := (Below.refl _ _).grown hgrow (Nat.le_trans hw2 (by simp)) (fun g hg => (hown'.lt g hg).1)
        obtain ⟨A3, c3, rfl, _⟩ := Own.shape hown3
        have hkeep : ∀ (v : Value) (n : Nat) (l : List UInt8), w2.ownsRow w.heap.size 5 1 v n (cs l) → w3.ownsRow w.heap.size 5 1 v n (cs l) := fun v n l h => own_apart (hown'.alloc _) hgrow (h.alloc _)
        have heach3 := heach2.of hkeep
        have hv13 := hkeep _ _ _ (Own.lower hv1 hwb)
        go_wp2
        go_roundw
        case rel =>
          have h1 := HM.out
          have h2 := HN2.out
          refine ⟨A3, k + 1, c3, at_ + rk, f', L ++ [r1], vs ++ [.slice A1 n1 c1], A2, n2, c2, rfl, rfl, by omega, by omega, by omega, by omega, hown3, ?_, (b2.alloc hw2 _).trans hb3, fun W h => hv2p W (hpart W h), hcc2, hcm2, ?_⟩
          · have := heach3.snoc (c := c1) (l := r1) (A := A1) (by rw [hr1]; exact hv13)
            rw [hr1] at this
            exact this
          · have h := HA.out
            unfold Hid
            rw [h]
            simp [Nat.add_assoc]
        case measure => have h2 := HN2.out; simp [lenIs]; omega
      · have hE2 : ((E : Int) != 0) = true := by simp; omega
        have hall2 := HALL.out
        rw [if_pos (by simpa using hE)] at hall2
        have HA := Lib.hid hall2
        have hsub : (n : Int) - (m : Int) = (at_ : Int) := by have := HM.out; omega
        clear hE hall2 HOK HALL HR hown
        go_wp2
        go_ret3
        rw [HA.out]
        exact ⟨Al, k, cl, by simp, by simpa using SeesAll.of_own hown' heach2.each, b2⟩
    · have hm0 : m = 0 := by omega
      have hat' : at_ = n := by omega
      subst hat'
      subst hm0
      have hdn : p.drop at_ = [] := List.drop_eq_nil_of_le (by omega)
      have hall2 := hall.out
      obtain ⟨f', rfl⟩ : ∃ f', f = f' + 1 := ⟨f - 1, by omega⟩
      rw [hdn, allF, if_pos rfl] at hall2
      have HA := Lib.hid hall2
      clear hall2 hall hdn hm
      go_wp2
      go_ret3
      rw [HA.out]
      exact ⟨Al, k, cl, by simp, by simpa using SeesAll.of_own hown heach.each, hb⟩
end Go.Proofs.YtpoipgdhljegfaaDoor.Chk
