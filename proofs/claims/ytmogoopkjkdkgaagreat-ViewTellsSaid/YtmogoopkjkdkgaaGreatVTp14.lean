/- Order: container/heap: down. Order: container/heap: Push, Fix, Pop; add. Order: container/heap: Pop; add, over. Order: over, left. -/
import Derived.Test.YtmogoopkjkdkgaaGreatVTp13
namespace Go.Proofs.YtmogoopkjkdkgaaGreat.Ord
open Go Go.RowKit Go.Proofs.YtmogoopkjkdkgaaGreat.Words Go.Proofs.YtmogoopkjkdkgaaGreat.Enc Go.Proofs.YtmogoopkjkdkgaaGreat.Evt Go.Proofs.YtmogoopkjkdkgaaGreat.Seg
set_option linter.unusedVariables false
set_option linter.unusedSimpArgs false

/-- What stands while the first m places are mended downwards. -/
structure Downs (B p : Nat) (T : TypeId) (A : Option Addr) (c n : Nat) (hs0 : List HV) (w0 : World) (hs1 : List HV) (m i : Nat) (hs : List HV) (w : World) : Prop where
  md : Mends B p T A c n hs0 w0 hs w
  inv : DownInv hvLe (HV.at_ hs) m i
  far : ∀ k, m ≤ k → HV.at_ hs k = HV.at_ hs1 k
theorem Downs.swap {B p : Nat} {T : TypeId} {A : Option Addr} {c n : Nat} {hs0 : List HV} {w0 : World} {hs1 hs : List HV} {m i j : Nat} {w w' : World} (h : Downs B p T A c n hs0 w0 hs1 m i hs w) (hmn : m ≤ n) (hj : i < j) (hjm : j < m) (hji : (j - 1) / 2 = i)
    (hl : hvLe (HV.at_ hs j) (HV.at_ hs i)) (hm : ∀ k, 0 < k → k < m → (k - 1) / 2 = i → hvLe (HV.at_ hs j) (HV.at_ hs k)) (hat : HeadsAt B p T A c (swL hs noHV i j) w') (hb : Below B w w') (hbs : Beside (mine p A) w w') : Downs B p T A c n hs0 w0 hs1 m j (swL hs noHV i j) w' := by
  have e := at_swap (hs := hs) (i := i) (j := j) (by rw [h.md.len]; omega) (by rw [h.md.len]; omega)
  refine ⟨h.md.swap (by omega) (by omega) hat hb hbs, by rw [e]; exact h.inv.go (by omega) hjm hji hl hm, fun k hk => ?_⟩
  rw [e]
  unfold swp
  rw [if_neg (by omega), if_neg (by omega)]
  exact h.far k hk
def DownEnd (B p : Nat) (T : TypeId) (A : Option Addr) (c n : Nat) (hs0 : List HV) (w0 : World) (hs1 : List HV) (m : Nat) (e : Ending) (w' : World) : Prop :=
  (∃ b, e = .returned (.bool b)) ∧ ∃ hs, Mends B p T A c n hs0 w0 hs w' ∧ Heaped hvLe (HV.at_ hs) m ∧ ∀ k, m ≤ k → HV.at_ hs k = HV.at_ hs1 k

set_option maxRecDepth 100000 in
set_option maxHeartbeats 8000000 in
theorem down_any {B p : Nat} {T : TypeId} {A : Option Addr} {c n : Nat} {hs0 : List HV} {w0 : World} (hs1 : List HV) (w : World) (m : Nat) (hmn : m ≤ n) (hn : n ≤ 1000000001) (hM : Mends B p T A c n hs0 w0 hs1 w) (hD : DownInv hvLe (HV.at_ hs1) m 0) :
    Calls Tryz.prog 115 #[IH p, .int .i64 0, .int .i64 (m : Int)] w (DownEnd B p T A c n hs0 w0 hs1 m) := by
  have STOP : ∀ hs W i (b : Bool), Downs B p T A c n hs0 w0 hs1 m i hs W → (∀ k, 0 < k → k < m → (k - 1) / 2 = i → hvLe (HV.at_ hs i) (HV.at_ hs k)) → DownEnd B p T A c n hs0 w0 hs1 m (.returned (.bool b)) W := fun hs W i b h hk =>
    ⟨⟨b, rfl⟩, hs, h.md, h.inv.stop hk, h.far⟩
  have HST := Lib.hid STOP
  have H0 := Lib.hid (Downs.mk (w0 := w0) (hs0 := hs0) hM hD (fun k _ => rfl))
  clear hM hD STOP
  go_enter Tryz.func115, Tryz.ntmps115
  go_wp2_with fail
  go_loopw [7] (fun iv W => ∃ (i : Nat) (hs : List HV), iv = .int .i64 (i : Int) ∧ i ≤ m ∧ Hid (Downs B p T A c n hs0 w0 hs1 m i hs W)) (fun iv _ => m - (intOf iv).toNat)
  case atStart => exact ⟨0, hs1, rfl, Nat.zero_le _, H0⟩
  case round =>
    obtain ⟨i, hs, rfl, hi, HD⟩ := hrel
    obtain ⟨j1, hj1⟩ : ∃ j1, j1 = 2 * i + 1 := ⟨_, rfl⟩
    obtain ⟨j2, hj2⟩ : ∃ j2, j2 = 2 * i + 2 := ⟨_, rfl⟩
    have e1 : 2 * (i : Int) + 1 = (j1 : Int) := by omega
    have e2 : (j1 : Int) + 1 = (j2 : Int) := by omega
    have b1 : ¬ ((j1 : Int) < 0) := by omega
    have b2 : (j2 : Int) ≤ 4000000000 := by omega
    have hlen := HD.out.md.len
    have hcell := HD.out.md.at_.cell
    rw [hlen] at hcell
    have hml := m_less p _ wr hcell
    have kids : ∀ k, 0 < k → k < m → (k - 1) / 2 = i → k = j1 ∨ k = j2 := fun k _ _ _ => by omega
    have HK := Lib.hid kids
    have HJ := Lib.hid (And.intro hj1 hj2)
    have HL := Lib.hid hlen
    have LE : ∀ W, HeadsAt B p T A c hs W → ∀ a b, a < m → b < m → Calls Tryz.prog 151 #[.slice A n c, .int .i64 (a : Int), .int .i64 (b : Int)] W fun e w' => e = .returned (.bool (lessB (HV.at_ hs a).one (HV.at_ hs b).one)) ∧ HeadsAt B p T A c hs w' ∧ Below W.heap.size W w' := fun W hW a b ha hb => by
      have := less_at hW HD.out.md.ne a b (by rw [hlen]; omega) (by rw [hlen]; omega)
      rwa [hlen] at this
    have SW : ∀ W, HeadsAt B p T A c hs W → ∀ a b, a < m → b < m → Calls Tryz.prog 152 #[.slice A n c, .int .i64 (a : Int), .int .i64 (b : Int)] W fun e w' => e = .returned (.tuple #[]) ∧ HeadsAt B p T A c (swL hs noHV a b) w' ∧ Below B W w' ∧ Beside (mine p A) W w' := fun W hW a b ha hb => by
      have := swap_any hW a b (by rw [hlen]; omega) (by rw [hlen]; omega)
      rwa [hlen] at this
    clear hlen kids hj1 hj2
    by_cases h1 : j1 < m
    · have him : i < m := by have := HJ.out; omega
      by_cases h2 : j2 < m
      · cases hl : lessB (HV.at_ hs j2).one (HV.at_ hs j1).one with
        | true =>
          have MIN : ∀ k, 0 < k → k < m → (k - 1) / 2 = i → hvLe (HV.at_ hs j2) (HV.at_ hs k) := fun k k1 k2 k3 => by
              rcases HK.out k k1 k2 k3 with rfl | rfl
              · exact lessB_yes hl
              · exact hvLe_refl _
          have HMIN := Lib.hid MIN
          clear MIN
          have hjm : j2 < m := by omega
          have hij : i < j2 := by have := HJ.out; omega
          have hji : (j2 - 1) / 2 = i := by have := HJ.out; omega
          have HJI := Lib.hid hji
          clear hji
          cases hx : lessB (HV.at_ hs j2).one (HV.at_ hs i).one with
          | false =>
            go_wp2_with fail
            refine (LE _ HD.out.md.at_ j2 j1 h2 h1).mono ?_
            rw [hl]
            rintro e w1 ⟨rfl, h1a, hb1⟩
            have hc1 := h1a.cell
            rw [HL.out] at hc1
            have hml1 := m_less p _ w1 hc1
            go_wp2_with fail
            refine (LE _ h1a j2 i h2 him).mono ?_
            rw [hx]
            rintro e w2 ⟨rfl, h2a, hb2⟩
            have hc2 := h2a.cell
            rw [HL.out] at hc2
            have hms2 := m_swap p _ w2 hc2
            go_wp2
            go_ret
            exact HST.out hs w2 i _ ⟨(HD.out.md.next h1a hb1).next h2a hb2, HD.out.inv, HD.out.far⟩ (fun k k1 k2 k3 => hvLe_trans _ _ _ (lessB_no hx) (HMIN.out k k1 k2 k3))
          | true =>
            go_wp2_with fail
            refine (LE _ HD.out.md.at_ j2 j1 h2 h1).mono ?_
            rw [hl]
            rintro e w1 ⟨rfl, h1a, hb1⟩
            have hc1 := h1a.cell
            rw [HL.out] at hc1
            have hml1 := m_less p _ w1 hc1
            go_wp2_with fail
            refine (LE _ h1a j2 i h2 him).mono ?_
            rw [hx]
            rintro e w2 ⟨rfl, h2a, hb2⟩
            have hc2 := h2a.cell
            rw [HL.out] at hc2
            have hms2 := m_swap p _ w2 hc2
            go_wp2_with fail
            refine (SW w2 h2a i j2 him h2).mono ?_
            rintro e w3 ⟨rfl, h3a, hb3, hs3⟩
            go_wp2
            go_roundw
            case rel => exact ⟨j2, _, rfl, by omega, Lib.hid ((Downs.mk ((HD.out.md.next h1a hb1).next h2a hb2) HD.out.inv HD.out.far).swap hmn hij hjm HJI.out (lessB_yes hx) HMIN.out h3a hb3 hs3)⟩
            case measure => simp [intOf]; omega
        | false =>
          have MIN : ∀ k, 0 < k → k < m → (k - 1) / 2 = i → hvLe (HV.at_ hs j1) (HV.at_ hs k) := fun k k1 k2 k3 => by
              rcases HK.out k k1 k2 k3 with rfl | rfl
              · exact hvLe_refl _
              · exact lessB_no hl
          have HMIN := Lib.hid MIN
          clear MIN
          have hjm : j1 < m := by omega
          have hij : i < j1 := by have := HJ.out; omega
          have hji : (j1 - 1) / 2 = i := by have := HJ.out; omega
          have HJI := Lib.hid hji
          clear hji
          cases hx : lessB (HV.at_ hs j1).one (HV.at_ hs i).one with
          | false =>
            go_wp2_with fail
            refine (LE _ HD.out.md.at_ j2 j1 h2 h1).mono ?_
            rw [hl]
            rintro e w1 ⟨rfl, h1a, hb1⟩
            have hc1 := h1a.cell
            rw [HL.out] at hc1
            have hml1 := m_less p _ w1 hc1
            go_wp2_with fail
            refine (LE _ h1a j1 i h1 him).mono ?_
            rw [hx]
            rintro e w2 ⟨rfl, h2a, hb2⟩
            have hc2 := h2a.cell
            rw [HL.out] at hc2
            have hms2 := m_swap p _ w2 hc2
            go_wp2
            go_ret
            exact HST.out hs w2 i _ ⟨(HD.out.md.next h1a hb1).next h2a hb2, HD.out.inv, HD.out.far⟩ (fun k k1 k2 k3 => hvLe_trans _ _ _ (lessB_no hx) (HMIN.out k k1 k2 k3))
          | true =>
            go_wp2_with fail
            refine (LE _ HD.out.md.at_ j2 j1 h2 h1).mono ?_
            rw [hl]
            rintro e w1 ⟨rfl, h1a, hb1⟩
            have hc1 := h1a.cell
            rw [HL.out] at hc1
            have hml1 := m_less p _ w1 hc1
            go_wp2_with fail
            refine (LE _ h1a j1 i h1 him).mono ?_
            rw [hx]
            rintro e w2 ⟨rfl, h2a, hb2⟩
            have hc2 := h2a.cell
            rw [HL.out] at hc2
            have hms2 := m_swap p _ w2 hc2
            go_wp2_with fail
            refine (SW w2 h2a i j1 him h1).mono ?_
            rintro e w3 ⟨rfl, h3a, hb3, hs3⟩
            go_wp2
            go_roundw
            case rel => exact ⟨j1, _, rfl, by omega, Lib.hid ((Downs.mk ((HD.out.md.next h1a hb1).next h2a hb2) HD.out.inv HD.out.far).swap hmn hij hjm HJI.out (lessB_yes hx) HMIN.out h3a hb3 hs3)⟩
            case measure => simp [intOf]; omega
      · have hd2 : decide ((j2 : Int) < (m : Int)) = false := decide_eq_false (by omega)
        have MIN : ∀ k, 0 < k → k < m → (k - 1) / 2 = i → hvLe (HV.at_ hs j1) (HV.at_ hs k) := fun k k1 k2 k3 => by
            rcases HK.out k k1 k2 k3 with rfl | rfl
            · exact hvLe_refl _
            · exact absurd k2 h2
        have HMIN := Lib.hid MIN
        clear MIN
        have hjm : j1 < m := by omega
        have hij : i < j1 := by have := HJ.out; omega
        have hji : (j1 - 1) / 2 = i := by have := HJ.out; omega
        have HJI := Lib.hid hji
        clear hji
        cases hx : lessB (HV.at_ hs j1).one (HV.at_ hs i).one with
        | false =>
          go_wp2_with fail
          refine (LE _ HD.out.md.at_ j1 i h1 him).mono ?_
          rw [hx]
          rintro e w2 ⟨rfl, h2a, hb2⟩
          have hc2 := h2a.cell
          rw [HL.out] at hc2
          have hms2 := m_swap p _ w2 hc2
          go_wp2
          go_ret
          exact HST.out hs w2 i _ ⟨HD.out.md.next h2a hb2, HD.out.inv, HD.out.far⟩ (fun k k1 k2 k3 => hvLe_trans _ _ _ (lessB_no hx) (HMIN.out k k1 k2 k3))
        | true =>
          go_wp2_with fail
          refine (LE _ HD.out.md.at_ j1 i h1 him).mono ?_
          rw [hx]
          rintro e w2 ⟨rfl, h2a, hb2⟩
          have hc2 := h2a.cell
          rw [HL.out] at hc2
          have hms2 := m_swap p _ w2 hc2
          go_wp2_with fail
          refine (SW w2 h2a i j1 him h1).mono ?_
          rintro e w3 ⟨rfl, h3a, hb3, hs3⟩
          go_wp2
          go_roundw
          case rel => exact ⟨j1, _, rfl, by omega, Lib.hid ((Downs.mk (HD.out.md.next h2a hb2) HD.out.inv HD.out.far).swap hmn hij hjm HJI.out (lessB_yes hx) HMIN.out h3a hb3 hs3)⟩
          case measure => simp [intOf]; omega
    · have hge : (m : Int) ≤ (j1 : Int) := by omega
      have HF := Lib.hid (fun b => HST.out hs wr i b HD.out (fun k k1 k2 k3 => by have := HK.out k k1 k2 k3; have := HJ.out; omega))
      go_wp2
      go_ret
      exact HF.out _
end Go.Proofs.YtmogoopkjkdkgaaGreat.Ord
namespace Go.Proofs.YtmogoopkjkdkgaaGreat.Ord
open Go Go.RowKit Go.Proofs.YtmogoopkjkdkgaaGreat.Words Go.Proofs.YtmogoopkjkdkgaaGreat.Enc Go.Proofs.YtmogoopkjkdkgaaGreat.Evt Go.Proofs.YtmogoopkjkdkgaaGreat.Seg
set_option linter.unusedVariables false
set_option linter.unusedSimpArgs false

/-- The variable at block p has a heap of these lists. -/
structure HeapAt (B p : Nat) (T : TypeId) (hs : List HV) (w : World) : Prop where
  ex : ∃ A c, HeadsAt B p T A c hs w
  heap : Heap hs
theorem at_append_lt {hs : List HV} {x : HV} {k : Nat} (h : k < hs.length) : HV.at_ (hs ++ [x]) k = HV.at_ hs k := by
  unfold HV.at_
  rw [List.getD_eq_getElem?_getD, List.getD_eq_getElem?_getD, List.getElem?_append_left h]
theorem at_take {hs : List HV} {n k : Nat} (h : k < n) : HV.at_ (hs.take n) k = HV.at_ hs k := by
  unfold HV.at_
  rw [List.getD_eq_getElem?_getD, List.getD_eq_getElem?_getD, List.getElem?_take, if_pos h]
theorem at_set_ne {hs : List HV} {x : HV} {i k : Nat} (h : k ≠ i) : HV.at_ (hs.set i x) k = HV.at_ hs k := by
  unfold HV.at_
  rw [List.getD_eq_getElem?_getD, List.getD_eq_getElem?_getD, List.getElem?_set_ne (Ne.symm h)]

set_option maxRecDepth 100000 in
set_option maxHeartbeats 4000000 in
theorem hpush_any {B p : Nat} {T : TypeId} {hs : List HV} {w : World} (h : HeapAt B p T hs w) (hB : B ≤ w.heap.size) (x : HV) (hx : Lies B w x) (hxn : x.S ≠ []) (hn : hs.length ≤ 1000000000) :
    Calls Tryz.prog 103 #[IH p, .iface 24 x.val] w fun e w' => e = .returned (.tuple #[]) ∧ (∃ hs', HeapAt B p T hs' w' ∧ hs'.Perm (hs ++ [x])) ∧ Below B w w' := by
  obtain ⟨⟨A, c, hA⟩, hH⟩ := h
  have HP := push_any hA hB x hx hn
  have hmp := m_push p w
  obtain ⟨xa, xn, xc, hxv⟩ : ∃ xa xn xc, x.val = .slice xa xn xc := ⟨_, _, _, rfl⟩
  rw [hxv] at HP ⊢
  have UP : ∀ (A' : Option Addr) (c' : Nat) (W : World), HeadsAt B p T A' c' (hs ++ [x]) W → Below B w W → Calls Tryz.prog 114 #[IH p, .int .i64 (hs.length : Int)] W fun e w' => e = .returned (.tuple #[]) ∧ Hid ((∃ hs', HeapAt B p T hs' w' ∧ hs'.Perm (hs ++ [x])) ∧ Below B w w') := fun A' c' W hW hb => by
    refine (up_any (n := hs.length + 1) (hs0 := hs ++ [x]) (w0 := W) (hs ++ [x]) W hs.length (by omega) (by omega) ⟨hW, List.Perm.refl _, by simp, fun y hy => ?_, Below.refl _ _, Beside.refl _ _⟩ (hH.ord.upLast fun k hk => at_append_lt hk)).mono ?_
    · rcases List.mem_append.1 hy with hy | hy
      · exact hH.ne y hy
      · rw [List.mem_singleton.1 hy]; exact hxn
    · rintro e w' ⟨rfl, hs', hm, hh⟩
      exact ⟨rfl, Lib.hid ⟨⟨hs', ⟨⟨_, _, hm.at_⟩, hh⟩, hm.perm⟩, hb.trans hm.below⟩⟩
  have LEN : ∀ (A' : Option Addr) (c' : Nat) (W : World), HeadsAt B p T A' c' (hs ++ [x]) W → (method 291 138 (.pointer (some ⟨p, 0, none⟩)) "Len").run Tryz.prog W = .ok (150, .slice A' (hs.length + 1) c') W := fun A' c' W hW => by
    have := m_len p _ W hW.cell
    simpa using this
  clear hA hH
  generalize hs.length = n at *
  go_enter Tryz.func103, Tryz.ntmps103
  go_wp2_with fail
  refine HP.mono ?_
  rintro e w1 ⟨rfl, ⟨A', c', h1⟩, hb1⟩
  have hml := LEN A' c' w1 h1
  go_wp2_with fail
  refine (len_any A' (n + 1) c' w1).mono ?_
  rintro e w2 ⟨rfl, rfl⟩
  go_wp2_with fail
  refine (UP A' c' _ h1 hb1).mono ?_
  rintro e w3 ⟨rfl, HF⟩
  go_wp2
  go_end0
  exact ⟨rfl, HF.out.1, HF.out.2⟩

set_option maxRecDepth 100000 in
set_option maxHeartbeats 4000000 in
/-- The first list of a heap has become another one. -/
theorem hfix_any {B p : Nat} {T : TypeId} {A : Option Addr} {c : Nat} {hs : List HV} {w : World} (h : HeadsAt B p T A c hs w) (hne : ∀ x ∈ hs, x.S ≠ []) (hn0 : 0 < hs.length) (hD : DownInv hvLe (HV.at_ hs) hs.length 0) (hn : hs.length ≤ 1000000000) :
    Calls Tryz.prog 104 #[IH p, .int .i64 0] w fun e w' => e = .returned (.tuple #[]) ∧ (∃ hs', HeadsAt B p T A c hs' w' ∧ Heap hs' ∧ hs'.Perm hs) ∧ Below B w w' ∧ Beside (mine p A) w w' := by
  have LEN := m_len p _ w h.cell
  have DO := down_any (B := B) (w0 := w) hs w hs.length (Nat.le_refl _) (by omega) ⟨h, List.Perm.refl hs, rfl, hne, Below.refl B w, Beside.refl _ _⟩ hD
  have UP : ∀ (hs' : List HV) (W : World), Mends B p T A c hs.length hs w hs' W → Heaped hvLe (HV.at_ hs') hs.length → Calls Tryz.prog 114 #[IH p, .int .i64 0] W fun e w' => e = .returned (.tuple #[]) ∧ Hid ((∃ hs', HeadsAt B p T A c hs' w' ∧ Heap hs' ∧ hs'.Perm hs) ∧ Below B w w' ∧ Beside (mine p A) w w') := fun hs' W hM hh => by
    refine (up_any (n := hs.length) hs' W 0 hn0 (by omega) hM ⟨fun k h1 h2 h3 => hh k h1 h2, fun h => absurd h (by omega)⟩).mono ?_
    rintro e w' ⟨rfl, hs2, hm, hh⟩
    exact ⟨rfl, Lib.hid ⟨⟨hs2, hm.at_, hh, hm.perm⟩, hm.below, hm.beside⟩⟩
  have FI : ∀ (hs' : List HV) (W : World), Mends B p T A c hs.length hs w hs' W → Heaped hvLe (HV.at_ hs') hs.length → Hid ((∃ hs', HeadsAt B p T A c hs' W ∧ Heap hs' ∧ hs'.Perm hs) ∧ Below B w W ∧ Beside (mine p A) w W) := fun hs' W hM hh =>
    Lib.hid ⟨⟨hs', hM.at_, ⟨by rw [hM.len]; exact hh, hM.ne⟩, hM.perm⟩, hM.below, hM.beside⟩
  clear h hne hD
  go_enter Tryz.func104, Tryz.ntmps104
  go_wp2_with fail
  refine (len_any A hs.length c _).mono ?_
  rintro e w2 ⟨rfl, rfl⟩
  go_wp2_with fail
  refine DO.mono ?_
  rintro e w1 ⟨⟨b, rfl⟩, hs1, hM1, hh1, _⟩
  have HM := Lib.hid (And.intro hM1 hh1)
  clear hM1 hh1
  have hnot : ∀ (x : Bool) (w : World), (Op.unary .not (.bool x)).run Tryz.prog w = .ok (.bool (!x)) w := fun _ _ => rfl
  cases b with
  | true =>
    go_wp2
    go_end0
    have HF := FI _ _ HM.out.1 HM.out.2
    exact ⟨rfl, HF.out.1, HF.out.2.1, HF.out.2.2⟩
  | false =>
    go_wp2_with fail
    refine (UP _ _ HM.out.1 HM.out.2).mono ?_
    rintro e w3 ⟨rfl, HF⟩
    go_wp2
    go_end0
    exact ⟨rfl, HF.out.1, HF.out.2.1, HF.out.2.2⟩
end Go.Proofs.YtmogoopkjkdkgaaGreat.Ord
namespace Go.Proofs.YtmogoopkjkdkgaaGreat.Ord
open Go Go.RowKit Go.Proofs.YtmogoopkjkdkgaaGreat.Words Go.Proofs.YtmogoopkjkdkgaaGreat.Enc Go.Proofs.YtmogoopkjkdkgaaGreat.Evt Go.Proofs.YtmogoopkjkdkgaaGreat.Seg
set_option linter.unusedVariables false
set_option linter.unusedSimpArgs false

set_option maxRecDepth 100000 in
set_option maxHeartbeats 4000000 in
theorem hpop_any {B p n : Nat} {T : TypeId} {A : Option Addr} {c : Nat} {hs : List HV} {w : World} (hA : HeadsAt B p T A c hs w) (hH : Heap hs) (hl : hs.length = n + 1) (hn : n ≤ 1000000000) :
    Calls Tryz.prog 105 #[IH p] w fun e w' => (∃ v, e = .returned v) ∧ (∃ hs', HeadsAt B p T A c hs' w' ∧ Heap hs' ∧ (hs' ++ [HV.at_ hs 0]).Perm hs) ∧ Below B w w' ∧ Beside (mine p A) w w' := by
  have LEN := m_len p _ w hA.cell
  have SWM := m_swap p _ w hA.cell
  have SW := swap_any hA 0 n (by omega) (by omega)
  have e1 := at_swap (hs := hs) (i := 0) (j := n) (by omega) (by omega)
  have hp1 := swL_perm hs noHV 0 n (by omega) (by omega)
  have hl1 : (swL hs noHV 0 n).length = n + 1 := by rw [swL_len, hl]
  have DO : ∀ W, HeadsAt B p T A c (swL hs noHV 0 n) W → Below B w W → Beside (mine p A) w W → Calls Tryz.prog 115 #[IH p, .int .i64 0, .int .i64 (n : Int)] W (DownEnd B p T A c (n + 1) hs w (swL hs noHV 0 n) n) := fun W hW hb hbs =>
    down_any (B := B) (w0 := w) (hs0 := hs) (n := n + 1) (swL hs noHV 0 n) W n (by omega) (by omega) ⟨hW, hp1, hl1, fun x hx => hH.ne x (hp1.mem_iff.1 hx), hb, hbs⟩
      (Heaped.down0 (f := HV.at_ hs) (n := n) (fun k k1 k2 => hH.ord k k1 (by omega)) (fun k k1 k2 => by rw [e1]; unfold swp; rw [if_neg (by omega), if_neg (by omega)]) (Nat.le_refl _))
  have PO : ∀ hs2 W, Mends B p T A c (n + 1) hs w hs2 W → Heaped hvLe (HV.at_ hs2) n → (∀ k, n ≤ k → HV.at_ hs2 k = HV.at_ (swL hs noHV 0 n) k) → Calls Tryz.prog 154 #[.pointer (some ⟨p, 0, none⟩)] W fun e w' => (∃ v, e = .returned v) ∧ Hid ((∃ hs', HeadsAt B p T A c hs' w' ∧ Heap hs' ∧ (hs' ++ [HV.at_ hs 0]).Perm hs) ∧ Below B w w' ∧ Beside (mine p A) w w') := fun hs2 W hM hh hf => by
    refine (pop_any hM.at_ hM.len hn).mono ?_
    rintro e w' ⟨hv, hat, hb, hbs⟩
    refine ⟨hv, Lib.hid ⟨⟨hs2.take n, hat, ⟨?_, fun x hx => hM.ne x (List.mem_of_mem_take hx)⟩, ?_⟩, hM.below.trans hb, hM.beside.trans hbs fun x hx => .inl hx⟩⟩
    · have : (hs2.take n).length = n := by rw [List.length_take, hM.len]; omega
      rw [this]
      intro k k1 k2
      rw [at_take k2, at_take (by omega)]
      exact hh k k1 k2
    · have h0 : HV.at_ hs2 n = HV.at_ hs 0 := by
        rw [hf n (Nat.le_refl _), e1]
        unfold swp
        by_cases hz : n = 0
        · subst hz; simp
        · rw [if_neg hz, if_pos rfl]
      have h1 : hs2.take n ++ [HV.at_ hs 0] = hs2 := by
        have h3 : n < hs2.length := by rw [hM.len]; omega
        rw [← h0]
        unfold HV.at_
        rw [List.getD_eq_getElem?_getD, List.getElem?_eq_getElem h3]
        conv => rhs; rw [← List.take_append_drop n hs2]
        congr 1
        rw [List.drop_eq_getElem_cons h3, List.drop_eq_nil_of_le (by rw [hM.len]; omega)]
        rfl
      rw [h1]
      exact hM.perm
  have MP := fun W => m_pop p W
  rw [hl] at LEN SWM SW
  clear hA hH e1 hp1 hl1 hl
  have e2 : ((n + 1 : Nat) : Int) - 1 = (n : Int) := by omega
  go_enter Tryz.func105, Tryz.ntmps105
  go_wp2_with fail
  refine (len_any A (n + 1) c _).mono ?_
  rintro e w2 ⟨rfl, rfl⟩
  go_wp2_with fail
  refine SW.mono ?_
  rintro e w1 ⟨rfl, h1, hb1, hs1⟩
  go_wp2_with fail
  refine (DO w1 h1 hb1 hs1).mono ?_
  rintro e w3 ⟨⟨b, rfl⟩, hs2, hM, hh, hf⟩
  have PO1 := PO hs2 w3 hM hh hf
  have MP1 := MP w3
  clear hM hh hf PO
  go_wp2_with fail
  refine PO1.mono ?_
  rintro e w4 ⟨⟨v, rfl⟩, HF⟩
  go_wp2
  go_ret
  exact ⟨⟨_, rfl⟩, HF.out.1, HF.out.2.1, HF.out.2.2⟩

def hasEv (x : HV) : Bool := !x.S.isEmpty
theorem hasEv_iff {x : HV} : hasEv x = true ↔ x.S ≠ [] := by unfold hasEv; cases x.S <;> simp

set_option maxRecDepth 100000 in
set_option maxHeartbeats 4000000 in
theorem add_any {B p : Nat} {T : TypeId} {hs : List HV} {w : World} (h : HeapAt B p T hs w) (hB : B ≤ w.heap.size) (x : HV) (hx : Lies B w x) (hn : hs.length ≤ 1000000000) :
    Calls Tryz.prog 76 #[.pointer (some ⟨p, 0, none⟩), x.val] w fun e w' => e = .returned (.tuple #[]) ∧ (∃ hs', HeapAt B p T hs' w' ∧ hs'.Perm (hs ++ [x].filter hasEv)) ∧ Below B w w' := by
  by_cases hxn : x.S = []
  · have hf : [x].filter hasEv = [] := by simp [hasEv, hxn]
    rw [hf, List.append_nil]
    have HF := Lib.hid h
    have hv : x.val = .slice x.A 0 x.c := by unfold HV.val; rw [hxn]; rfl
    rw [hv]
    clear h hx hf
    go_enter Tryz.func76, Tryz.ntmps76
    go_wp2
    go_end0
    exact ⟨rfl, ⟨hs, HF.out, List.Perm.refl _⟩, Below.refl _ _⟩
  · have hf : [x].filter hasEv = [x] := by simp [hasEv_iff.2 hxn]
    rw [hf]
    have HP := hpush_any h hB x hx hxn hn
    have hl : 0 < x.S.length := List.length_pos_iff.2 hxn
    unfold HV.val at HP ⊢
    generalize x.S.length = m at *
    have hl2 : (0 : Int) < (m : Int) := by omega
    clear h hx hf hxn
    go_enter Tryz.func76, Tryz.ntmps76
    go_wp2_with fail
    refine HP.mono ?_
    rintro e w1 ⟨rfl, h1, hb1⟩
    have HF := Lib.hid (And.intro h1 hb1)
    clear h1 hb1
    go_wp2
    go_end0
    exact ⟨rfl, HF.out⟩
end Go.Proofs.YtmogoopkjkdkgaaGreat.Ord
namespace Go.Proofs.YtmogoopkjkdkgaaGreat.Ord
open Go Go.RowKit Go.Proofs.YtmogoopkjkdkgaaGreat.Words Go.Proofs.YtmogoopkjkdkgaaGreat.Enc Go.Proofs.YtmogoopkjkdkgaaGreat.Evt Go.Proofs.YtmogoopkjkdkgaaGreat.Seg
set_option linter.unusedVariables false
set_option linter.unusedSimpArgs false

/-- A row of lists, below block B. -/
structure Lists (B : Nat) (w : World) (Al : Option Addr) (L : List HV) : Prop where
  row : 0 < L.length → ∃ b o, b < B ∧ Al = some ⟨b, o, none⟩ ∧ ∀ k x, L[k]? = some x → w.cell? ⟨b, o + k, none⟩ = some x.val
  lie : ∀ x ∈ L, Lies B w x
theorem Lists.below {B : Nat} {w w' : World} {Al : Option Addr} {L : List HV} (h : Lists B w Al L) (hb : Below B w w') : Lists B w' Al L :=
  ⟨fun hn => by
    obtain ⟨b, o, h1, h2, h3⟩ := h.row hn
    exact ⟨b, o, h1, h2, fun k x hx => by rw [hb.cell h1]; exact h3 k x hx⟩, fun x hx => (h.lie x hx).below hb⟩

set_option maxRecDepth 100000 in
set_option maxHeartbeats 4000000 in
theorem over_any (Al : Option Addr) (cl : Nat) (L : List HV) (w : World) (h : Lists w.heap.size w Al L) (hn : L.length ≤ 1000000000) :
    Calls Tryz.prog 43 #[.slice Al L.length cl] w fun e w' => ∃ hs, e = .returned (.pointer (some ⟨w.heap.size, 0, none⟩)) ∧ HeapAt w.heap.size w.heap.size 115 hs w' ∧ hs.Perm (L.filter hasEv) ∧ Below w.heap.size w w' := by
  have H0 : HeapAt w.heap.size w.heap.size 115 [] (w.alloc (.cells #[.slice none 0 0] 115)) :=
    ⟨⟨none, 0, heap_alloc_new w _, World.ownsRow_nil _ _ _ 1, fun a ha => (by cases ha), Nat.le_refl _, fun x hx => (by cases hx)⟩, fun k h1 h2 => by simp at h2, fun x hx => by cases hx⟩
  have B0 : Below w.heap.size w (w.alloc (.cells #[.slice none 0 0] 115)) := (Below.refl _ _).alloc (Nat.le_refl _) _
  obtain ⟨u, hu⟩ : ∃ u, u = w.alloc (.cells #[.slice none 0 0] 115) := ⟨_, rfl⟩
  rw [← hu] at H0 B0
  obtain ⟨n, hn'⟩ : ∃ n, n = L.length := ⟨_, rfl⟩
  have HL := Lib.hid h
  have HH0 := Lib.hid (And.intro H0 B0)
  have HU := Lib.hid hu
  have HN := Lib.hid hn'
  rw [← hn'] at hn ⊢
  clear h H0 B0 hu hn'
  go_enter Tryz.func43, Tryz.ntmps43
  go_wp2_with fail
  rw [← HU.out]
  go_loopw [10] (fun iv W => ∃ k : Nat, iv = .int .i64 (k : Int) ∧ k ≤ n ∧ Hid (∃ hs, HeapAt w.heap.size w.heap.size 115 hs W ∧ hs.Perm ((L.take k).filter hasEv) ∧ Below w.heap.size w W)) (fun iv _ => n - (intOf iv).toNat)
  case atStart => exact ⟨0, rfl, Nat.zero_le _, Lib.hid ⟨[], HH0.out.1, by simp, HH0.out.2⟩⟩
  case round =>
    obtain ⟨k, rfl, hk, HR⟩ := hrel
    by_cases hlt : k < n
    · obtain ⟨hs, hA, hp, hb⟩ := HR.out
      have hkL : k < L.length := by rw [← HN.out]; exact hlt
      have hL := HL.out.below hb
      obtain ⟨lb, lo, hlb, rfl, hcell⟩ := hL.row (by omega)
      have hx := hcell k L[k] (List.getElem?_eq_getElem hkL)
      have hhs : hs.length ≤ 1000000000 := by
        rw [hp.length_eq]
        refine Nat.le_trans (List.length_filter_le _ _) ?_
        rw [List.length_take]; omega
      have AD := add_any hA hb.size L[k] (hL.lie _ (List.getElem_mem hkL)) hhs
      have NEXT : ∀ W, (∃ hs', HeapAt w.heap.size w.heap.size 115 hs' W ∧ hs'.Perm (hs ++ [L[k]].filter hasEv)) → Below w.heap.size wr W → Hid (∃ hs, HeapAt w.heap.size w.heap.size 115 hs W ∧ hs.Perm ((L.take (k + 1)).filter hasEv) ∧ Below w.heap.size w W) := fun W hW hbW => by
        obtain ⟨hs', h1, h2⟩ := hW
        refine Lib.hid ⟨hs', h1, h2.trans ?_, hb.trans hbW⟩
        rw [← List.take_append_getElem hkL, List.filter_append]
        exact hp.append_right _
      obtain ⟨xa, xn, xc, hxv⟩ : ∃ xa xn xc, L[k].val = .slice xa xn xc := ⟨_, _, _, rfl⟩
      rw [hxv] at hx AD
      have zk : (k : Int) < (n : Int) := by omega
      have zk0 : (0 : Int) ≤ (k : Int) := by omega
      have HAD := Lib.hid AD
      have HNX := Lib.hid NEXT
      clear hA hp hb hL hcell hhs AD NEXT hxv
      go_wp2_with fail
      refine HAD.out.mono ?_
      rintro e w1 ⟨rfl, h1, hb1⟩
      have HF := HNX.out w1 h1 hb1
      clear h1 hb1 HAD HNX
      go_wp2
      go_roundw
      case rel => exact ⟨k + 1, rfl, by omega, HF⟩
      case measure => simp [intOf]; omega
    · have hkn : k = n := by omega
      subst hkn
      go_wp2
      go_ret
      obtain ⟨hs, hA, hp, hb⟩ := HR.out
      rw [HN.out, List.take_length] at hp
      exact ⟨hs, rfl, hA, hp, hb⟩

theorem flat_len_take (hs : List HV) (k : Nat) (hk : k < hs.length) : (flat (hs.take (k + 1))).length = (flat (hs.take k)).length + (HV.at_ hs k).S.length := by
  have : HV.at_ hs k = hs[k] := by simp [HV.at_, List.getD_eq_getElem?_getD, List.getElem?_eq_getElem hk]
  rw [this, ← List.take_append_getElem hk]
  unfold flat
  rw [List.flatMap_append, List.length_append]
  simp
theorem flat_len_le (hs : List HV) (k : Nat) : (flat (hs.take k)).length ≤ (flat hs).length := by
  conv => rhs; rw [← List.take_append_drop k hs]
  unfold flat
  rw [List.flatMap_append, List.length_append]
  omega

set_option maxRecDepth 100000 in
set_option maxHeartbeats 4000000 in
theorem cleft_any {B p : Nat} {T : TypeId} {A : Option Addr} {c : Nat} {hs : List HV} {w : World} (h : HeadsAt B p T A c hs w) (hm : (flat hs).length ≤ 4000000000000000000) (hnn : hs.length ≤ 1000000000) :
    Calls Tryz.prog 77 #[.pointer (some ⟨p, 0, none⟩)] w fun e w' => e = .returned (.int .i64 ((flat hs).length : Int)) ∧ w' = w := by
  have hc := h.cell
  obtain ⟨n, hn'⟩ : ∃ n, n = hs.length := ⟨_, rfl⟩
  rw [← hn'] at hc hnn
  have HN := Lib.hid hn'
  have HH := Lib.hid h
  clear hn' h
  go_enter Tryz.func77, Tryz.ntmps77
  go_wp2_with fail
  go_loopw [3, 11] (fun sv iv W => ∃ k : Nat, iv = .int .i64 (k : Int) ∧ sv = .int .i64 (((flat (hs.take k)).length : Nat) : Int) ∧ k ≤ n ∧ w = W) (fun _ iv _ => n - (intOf iv).toNat)
  case atStart => exact ⟨0, rfl, by simp [flat], Nat.zero_le _, rfl⟩
  case round =>
    obtain ⟨k, rfl, rfl, hk, rfl⟩ := hrel
    by_cases hlt : k < n
    · have hkL : k < hs.length := by rw [← HN.out]; exact hlt
      obtain ⟨g, rfl, _, _, hcell⟩ := HH.out.get (by omega)
      have hx := hcell k hkL
      have hs1 := flat_len_take hs k hkL
      have hs2 := flat_len_le hs (k + 1)
      unfold HV.val at hx
      generalize (flat (hs.take k)).length = s at *
      generalize (HV.at_ hs k).S.length = m at *
      generalize (HV.at_ hs k).A = xa at *
      generalize (HV.at_ hs k).c = xc at *
      have zk : (k : Int) < (n : Int) := by omega
      have zk0 : (0 : Int) ≤ (k : Int) := by omega
      have zb : (s : Int) + (m : Int) ≤ 4000000000000000000 := by omega
      have HS := Lib.hid hs1
      clear hcell hs1 hs2
      go_wp2
      go_roundw
      case rel => exact ⟨k + 1, rfl, by rw [HS.out]; simp, by omega, trivial⟩
      case measure => simp [intOf]; omega
    · have hkn : k = n := by omega
      have e : hs.take k = hs := by rw [hkn, HN.out, List.take_length]
      rw [e]
      subst hkn
      clear e
      obtain ⟨s, hsl⟩ : ∃ s, (flat hs).length = s := ⟨_, rfl⟩
      rw [hsl]
      have HSL := Lib.hid hsl
      rw [hsl] at hm
      clear hsl
      go_wp2
      go_ret
      exact ⟨by rw [HSL.out]; rfl, rfl⟩
end Go.Proofs.YtmogoopkjkdkgaaGreat.Ord
