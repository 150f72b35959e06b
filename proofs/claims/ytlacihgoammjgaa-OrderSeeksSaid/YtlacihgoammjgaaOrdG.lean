/- Order: container/heap: down. -/
import Derived.Test.YtlacihgoammjgaaOrdF
namespace Go.Proofs.Ytlacihgoammjgaa.Ord
open Go Go.RowKit Go.Proofs.Ytlacihgoammjgaa.Words Go.Proofs.Ytlacihgoammjgaa.Enc Go.Proofs.Ytlacihgoammjgaa.Evt Go.Proofs.Ytlacihgoammjgaa.Seg
set_option linter.unusedVariables false
set_option linter.unusedSimpArgs false

/-- What stands while the first m places are mended downwards. -/
structure Downs (B p : Nat) (T : TypeId) (A : Option Addr) (c n : Nat) (hs0 : List HV) (w0 : World) (hs1 : List HV) (m i : Nat) (hs : List HV) (w : World) : Prop where
  md : Mends B p T A c n hs0 w0 hs w
  inv : DownInv hvLe (HV.at_ hs) m i
  far : ∀ k, m ≤ k → HV.at_ hs k = HV.at_ hs1 k
theorem Downs.swap {B p : Nat} {T : TypeId} {A : Option Addr} {c n : Nat} {hs0 : List HV} {w0 : World} {hs1 hs : List HV} {m i j : Nat} {w w' : World} (h : Downs B p T A c n hs0 w0 hs1 m i hs w) (hmn : m ≤ n) (hj : i < j) (hjm : j < m) (hji : (j - 1) / 2 = i)
    (hl : hvLe (HV.at_ hs j) (HV.at_ hs i)) (hm : ∀ k, 0 < k → k < m → (k - 1) / 2 = i → hvLe (HV.at_ hs j) (HV.at_ hs k)) (hat : HeadsAt B p T A c (swL hs noHV i j) w') (hb : Below B w w') (hbs : Beside (mine p A) w w') : Downs B p T A c n hs0 w0 hs1 m j (swL hs noHV i j) w' := by
  have e := at_swap (hs := hs) (i := i) (j := j) (by rw [h.md.len]; omega) (by rw [h.md.len]; omega)
  refine ⟨h.md.swap (by omega) (by omega) hat hb hbs, by rw [e]; exact h.inv.go (by omega) hjm hji hl hm, fun k hk => ?_⟩
  rw [e]
  unfold swp
  rw [if_neg (by omega), if_neg (by omega)]
  exact h.far k hk
def DownEnd (B p : Nat) (T : TypeId) (A : Option Addr) (c n : Nat) (hs0 : List HV) (w0 : World) (hs1 : List HV) (m : Nat) (e : Ending) (w' : World) : Prop :=
  (∃ b, e = .returned (.bool b)) ∧ ∃ hs, Mends B p T A c n hs0 w0 hs w' ∧ Heaped hvLe (HV.at_ hs) m ∧ ∀ k, m ≤ k → HV.at_ hs k = HV.at_ hs1 k

set_option maxRecDepth 100000 in
set_option maxHeartbeats 8000000 in
theorem down_any {B p : Nat} {T : TypeId} {A : Option Addr} {c n : Nat} {hs0 : List HV} {w0 : World} (hs1 : List HV) (w : World) (m : Nat) (hmn : m ≤ n) (hn : n ≤ 1000000001) (hM : Mends B p T A c n hs0 w0 hs1 w) (hD : DownInv hvLe (HV.at_ hs1) m 0) :
    Calls Try.prog 44 #[IH p, .int .i64 0, .int .i64 (m : Int)] w (DownEnd B p T A c n hs0 w0 hs1 m) := by
  have STOP : ∀ hs W i (b : Bool), Downs B p T A c n hs0 w0 hs1 m i hs W → (∀ k, 0 < k → k < m → (k - 1) / 2 = i → hvLe (HV.at_ hs i) (HV.at_ hs k)) → DownEnd B p T A c n hs0 w0 hs1 m (.returned (.bool b)) W := fun hs W i b h hk =>
    ⟨⟨b, rfl⟩, hs, h.md, h.inv.stop hk, h.far⟩
  have HST := Lib.hid STOP
  have H0 := Lib.hid (Downs.mk (w0 := w0) (hs0 := hs0) hM hD (fun k _ => rfl))
  clear hM hD STOP
  go_enter Try.func44, Try.ntmps44
  go_wp2_with fail
  go_loopw [7] (fun iv W => ∃ (i : Nat) (hs : List HV), iv = .int .i64 (i : Int) ∧ i ≤ m ∧ Hid (Downs B p T A c n hs0 w0 hs1 m i hs W)) (fun iv _ => m - (intOf iv).toNat)
  case atStart => exact ⟨0, hs1, rfl, Nat.zero_le _, H0⟩
  case round =>
    obtain ⟨i, hs, rfl, hi, HD⟩ := hrel
    obtain ⟨j1, hj1⟩ : ∃ j1, j1 = 2 * i + 1 := ⟨_, rfl⟩
    obtain ⟨j2, hj2⟩ : ∃ j2, j2 = 2 * i + 2 := ⟨_, rfl⟩
    have e1 : 2 * (i : Int) + 1 = (j1 : Int) := by omega
    have e2 : (j1 : Int) + 1 = (j2 : Int) := by omega
    have b1 : ¬ ((j1 : Int) < 0) := by omega
    have b2 : (j2 : Int) ≤ 4000000000 := by omega
    have hlen := HD.out.md.len
    have hcell := HD.out.md.at_.cell
    rw [hlen] at hcell
    have hml := m_less p _ wr hcell
    have kids : ∀ k, 0 < k → k < m → (k - 1) / 2 = i → k = j1 ∨ k = j2 := fun k _ _ _ => by omega
    have HK := Lib.hid kids
    have HJ := Lib.hid (And.intro hj1 hj2)
    have HL := Lib.hid hlen
    have LE : ∀ W, HeadsAt B p T A c hs W → ∀ a b, a < m → b < m → Calls Try.prog 89 #[.slice A n c, .int .i64 (a : Int), .int .i64 (b : Int)] W fun e w' => e = .returned (.bool (lessB (HV.at_ hs a).one (HV.at_ hs b).one)) ∧ HeadsAt B p T A c hs w' ∧ Below W.heap.size W w' := fun W hW a b ha hb => by
      have := less_at hW HD.out.md.ne a b (by rw [hlen]; omega) (by rw [hlen]; omega)
      rwa [hlen] at this
    have SW : ∀ W, HeadsAt B p T A c hs W → ∀ a b, a < m → b < m → Calls Try.prog 90 #[.slice A n c, .int .i64 (a : Int), .int .i64 (b : Int)] W fun e w' => e = .returned (.tuple #[]) ∧ HeadsAt B p T A c (swL hs noHV a b) w' ∧ Below B W w' ∧ Beside (mine p A) W w' := fun W hW a b ha hb => by
      have := swap_any hW a b (by rw [hlen]; omega) (by rw [hlen]; omega)
      rwa [hlen] at this
    clear hlen kids hj1 hj2
    by_cases h1 : j1 < m
    · have him : i < m := by have := HJ.out; omega
      by_cases h2 : j2 < m
      · cases hl : lessB (HV.at_ hs j2).one (HV.at_ hs j1).one with
        | true =>
          have MIN : ∀ k, 0 < k → k < m → (k - 1) / 2 = i → hvLe (HV.at_ hs j2) (HV.at_ hs k) := fun k k1 k2 k3 => by
              rcases HK.out k k1 k2 k3 with rfl | rfl
              · exact lessB_yes hl
              · exact hvLe_refl _
          have HMIN := Lib.hid MIN
          clear MIN
          have hjm : j2 < m := by omega
          have hij : i < j2 := by have := HJ.out; omega
          have hji : (j2 - 1) / 2 = i := by have := HJ.out; omega
          have HJI := Lib.hid hji
          clear hji
          cases hx : lessB (HV.at_ hs j2).one (HV.at_ hs i).one with
          | false =>
            go_wp2_with fail
            refine (LE _ HD.out.md.at_ j2 j1 h2 h1).mono ?_
            rw [hl]
            rintro e w1 ⟨rfl, h1a, hb1⟩
            have hc1 := h1a.cell
            rw [HL.out] at hc1
            have hml1 := m_less p _ w1 hc1
            go_wp2_with fail
            refine (LE _ h1a j2 i h2 him).mono ?_
            rw [hx]
            rintro e w2 ⟨rfl, h2a, hb2⟩
            have hc2 := h2a.cell
            rw [HL.out] at hc2
            have hms2 := m_swap p _ w2 hc2
            go_wp2
            go_ret
            exact HST.out hs w2 i _ ⟨(HD.out.md.next h1a hb1).next h2a hb2, HD.out.inv, HD.out.far⟩ (fun k k1 k2 k3 => hvLe_trans _ _ _ (lessB_no hx) (HMIN.out k k1 k2 k3))
          | true =>
            go_wp2_with fail
            refine (LE _ HD.out.md.at_ j2 j1 h2 h1).mono ?_
            rw [hl]
            rintro e w1 ⟨rfl, h1a, hb1⟩
            have hc1 := h1a.cell
            rw [HL.out] at hc1
            have hml1 := m_less p _ w1 hc1
            go_wp2_with fail
            refine (LE _ h1a j2 i h2 him).mono ?_
            rw [hx]
            rintro e w2 ⟨rfl, h2a, hb2⟩
            have hc2 := h2a.cell
            rw [HL.out] at hc2
            have hms2 := m_swap p _ w2 hc2
            go_wp2_with fail
            refine (SW w2 h2a i j2 him h2).mono ?_
            rintro e w3 ⟨rfl, h3a, hb3, hs3⟩
            go_wp2
            go_roundw
            case rel => exact ⟨j2, _, rfl, by omega, Lib.hid ((Downs.mk ((HD.out.md.next h1a hb1).next h2a hb2) HD.out.inv HD.out.far).swap hmn hij hjm HJI.out (lessB_yes hx) HMIN.out h3a hb3 hs3)⟩
            case measure => simp [intOf]; omega
        | false =>
          have MIN : ∀ k, 0 < k → k < m → (k - 1) / 2 = i → hvLe (HV.at_ hs j1) (HV.at_ hs k) := fun k k1 k2 k3 => by
              rcases HK.out k k1 k2 k3 with rfl | rfl
              · exact hvLe_refl _
              · exact lessB_no hl
          have HMIN := Lib.hid MIN
          clear MIN
          have hjm : j1 < m := by omega
          have hij : i < j1 := by have := HJ.out; omega
          have hji : (j1 - 1) / 2 = i := by have := HJ.out; omega
          have HJI := Lib.hid hji
          clear hji
          cases hx : lessB (HV.at_ hs j1).one (HV.at_ hs i).one with
          | false =>
            go_wp2_with fail
            refine (LE _ HD.out.md.at_ j2 j1 h2 h1).mono ?_
            rw [hl]
            rintro e w1 ⟨rfl, h1a, hb1⟩
            have hc1 := h1a.cell
            rw [HL.out] at hc1
            have hml1 := m_less p _ w1 hc1
            go_wp2_with fail
            refine (LE _ h1a j1 i h1 him).mono ?_
            rw [hx]
            rintro e w2 ⟨rfl, h2a, hb2⟩
            have hc2 := h2a.cell
            rw [HL.out] at hc2
            have hms2 := m_swap p _ w2 hc2
            go_wp2
            go_ret
            exact HST.out hs w2 i _ ⟨(HD.out.md.next h1a hb1).next h2a hb2, HD.out.inv, HD.out.far⟩ (fun k k1 k2 k3 => hvLe_trans _ _ _ (lessB_no hx) (HMIN.out k k1 k2 k3))
          | true =>
            go_wp2_with fail
            refine (LE _ HD.out.md.at_ j2 j1 h2 h1).mono ?_
            rw [hl]
            rintro e w1 ⟨rfl, h1a, hb1⟩
            have hc1 := h1a.cell
            rw [HL.out] at hc1
            have hml1 := m_less p _ w1 hc1
            go_wp2_with fail
            refine (LE _ h1a j1 i h1 him).mono ?_
            rw [hx]
            rintro e w2 ⟨rfl, h2a, hb2⟩
            have hc2 := h2a.cell
            rw [HL.out] at hc2
            have hms2 := m_swap p _ w2 hc2
            go_wp2_with fail
            refine (SW w2 h2a i j1 him h1).mono ?_
            rintro e w3 ⟨rfl, h3a, hb3, hs3⟩
            go_wp2
            go_roundw
            case rel => exact ⟨j1, _, rfl, by omega, Lib.hid ((Downs.mk ((HD.out.md.next h1a hb1).next h2a hb2) HD.out.inv HD.out.far).swap hmn hij hjm HJI.out (lessB_yes hx) HMIN.out h3a hb3 hs3)⟩
            case measure => simp [intOf]; omega
      · have hd2 : decide ((j2 : Int) < (m : Int)) = false := decide_eq_false (by omega)
        have MIN : ∀ k, 0 < k → k < m → (k - 1) / 2 = i → hvLe (HV.at_ hs j1) (HV.at_ hs k) := fun k k1 k2 k3 => by
            rcases HK.out k k1 k2 k3 with rfl | rfl
            · exact hvLe_refl _
            · exact absurd k2 h2
        have HMIN := Lib.hid MIN
        clear MIN
        have hjm : j1 < m := by omega
        have hij : i < j1 := by have := HJ.out; omega
        have hji : (j1 - 1) / 2 = i := by have := HJ.out; omega
        have HJI := Lib.hid hji
        clear hji
        cases hx : lessB (HV.at_ hs j1).one (HV.at_ hs i).one with
        | false =>
          go_wp2_with fail
          refine (LE _ HD.out.md.at_ j1 i h1 him).mono ?_
          rw [hx]
          rintro e w2 ⟨rfl, h2a, hb2⟩
          have hc2 := h2a.cell
          rw [HL.out] at hc2
          have hms2 := m_swap p _ w2 hc2
          go_wp2
          go_ret
          exact HST.out hs w2 i _ ⟨HD.out.md.next h2a hb2, HD.out.inv, HD.out.far⟩ (fun k k1 k2 k3 => hvLe_trans _ _ _ (lessB_no hx) (HMIN.out k k1 k2 k3))
        | true =>
          go_wp2_with fail
          refine (LE _ HD.out.md.at_ j1 i h1 him).mono ?_
          rw [hx]
          rintro e w2 ⟨rfl, h2a, hb2⟩
          have hc2 := h2a.cell
          rw [HL.out] at hc2
          have hms2 := m_swap p _ w2 hc2
          go_wp2_with fail
          refine (SW w2 h2a i j1 him h1).mono ?_
          rintro e w3 ⟨rfl, h3a, hb3, hs3⟩
          go_wp2
          go_roundw
          case rel => exact ⟨j1, _, rfl, by omega, Lib.hid ((Downs.mk (HD.out.md.next h2a hb2) HD.out.inv HD.out.far).swap hmn hij hjm HJI.out (lessB_yes hx) HMIN.out h3a hb3 hs3)⟩
          case measure => simp [intOf]; omega
    · have hge : (m : Int) ≤ (j1 : Int) := by omega
      have HF := Lib.hid (fun b => HST.out hs wr i b HD.out (fun k k1 k2 k3 => by have := HK.out k k1 k2 k3; have := HJ.out; omega))
      go_wp2
      go_ret
      exact HF.out _
end Go.Proofs.Ytlacihgoammjgaa.Ord
