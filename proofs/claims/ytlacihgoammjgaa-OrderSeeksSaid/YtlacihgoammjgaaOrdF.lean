/- Order: container/heap: up, down. -/
import Derived.Test.YtlacihgoammjgaaOrdE
namespace Go.Proofs.Ytlacihgoammjgaa.Ord
open Go Go.RowKit Go.Proofs.Ytlacihgoammjgaa.Words Go.Proofs.Ytlacihgoammjgaa.Enc Go.Proofs.Ytlacihgoammjgaa.Evt Go.Proofs.Ytlacihgoammjgaa.Seg
set_option linter.unusedVariables false
set_option linter.unusedSimpArgs false

/-- A call through the heap's interface. -/
theorem less_at {B p : Nat} {T : TypeId} {A : Option Addr} {c : Nat} {hs : List HV} {w : World} (h : HeadsAt B p T A c hs w) (hne : ∀ x ∈ hs, x.S ≠ []) (i j : Nat) (hi : i < hs.length) (hj : j < hs.length) :
    Calls Try.prog 89 #[.slice A hs.length c, .int .i64 (i : Int), .int .i64 (j : Int)] w fun e w' => e = .returned (.bool (lessB (HV.at_ hs i).one (HV.at_ hs j).one)) ∧ HeadsAt B p T A c hs w' ∧ Below w.heap.size w w' := by
  refine (less_any h i j hi hj (hne _ (at_mem hi)) (hne _ (at_mem hj))).mono ?_
  rintro e w' ⟨rfl, hb⟩
  exact ⟨rfl, h.below hb, hb⟩

/-- What stands while a heap is mended. -/
structure Mends (B p : Nat) (T : TypeId) (A : Option Addr) (c n : Nat) (hs0 : List HV) (w0 : World) (hs : List HV) (w : World) : Prop where
  at_ : HeadsAt B p T A c hs w
  perm : hs.Perm hs0
  len : hs.length = n
  ne : ∀ x ∈ hs, x.S ≠ []
  below : Below B w0 w
  beside : Beside (mine p A) w0 w
theorem Mends.next {B p : Nat} {T : TypeId} {A : Option Addr} {c n : Nat} {hs0 hs : List HV} {w0 w w' : World} (h : Mends B p T A c n hs0 w0 hs w) (hat : HeadsAt B p T A c hs w') (hb : Below w.heap.size w w') : Mends B p T A c n hs0 w0 hs w' :=
  ⟨hat, h.perm, h.len, h.ne, h.below.trans (hb.mono (by have := h.at_.low; have := (Array.getElem?_eq_some_iff.1 h.at_.box).1; omega)), h.beside.below hb⟩
theorem Mends.swap {B p : Nat} {T : TypeId} {A : Option Addr} {c n : Nat} {hs0 hs : List HV} {w0 w w' : World} (h : Mends B p T A c n hs0 w0 hs w) {i j : Nat} (hi : i < n) (hj : j < n) (hat : HeadsAt B p T A c (swL hs noHV i j) w') (hb : Below B w w') (hbs : Beside (mine p A) w w') : Mends B p T A c n hs0 w0 (swL hs noHV i j) w' :=
  have hp := swL_perm hs noHV i j (by rw [h.len]; exact hi) (by rw [h.len]; exact hj)
  ⟨hat, hp.trans h.perm, by rw [swL_len, h.len], fun x hx => h.ne x (hp.mem_iff.1 hx), h.below.trans hb, h.beside.trans hbs fun x hx => .inl hx⟩
theorem at_swap {hs : List HV} {i j : Nat} (hi : i < hs.length) (hj : j < hs.length) : HV.at_ (swL hs noHV i j) = swp (HV.at_ hs) i j := funext fun k => swL_at hs noHV i j hi hj k

set_option maxRecDepth 100000 in
set_option maxHeartbeats 4000000 in
theorem up_any {B p : Nat} {T : TypeId} {A : Option Addr} {c n : Nat} {hs0 : List HV} {w0 : World} (hs1 : List HV) (w : World) (j0 : Nat) (hj0 : j0 < n) (hn : n ≤ 1000000001) (hM : Mends B p T A c n hs0 w0 hs1 w) (hU : UpInv hvLe (HV.at_ hs1) n j0) :
    Calls Try.prog 45 #[IH p, .int .i64 (j0 : Int)] w fun e w' => e = .returned (.tuple #[]) ∧ ∃ hs, Mends B p T A c n hs0 w0 hs w' ∧ Heap hs := by
  have STOP : ∀ hs W j, Mends B p T A c n hs0 w0 hs W → UpInv hvLe (HV.at_ hs) n j → (j = 0 ∨ hvLe (HV.at_ hs ((j - 1) / 2)) (HV.at_ hs j)) → ∃ hs, Mends B p T A c n hs0 w0 hs W ∧ Heap hs := fun hs W j hm hu hs' =>
    ⟨hs, hm, by rw [hm.len]; exact hu.stop hs', hm.ne⟩
  have HST := Lib.hid STOP
  have H0 := Lib.hid (And.intro hM hU)
  clear hM hU STOP
  go_enter Try.func45, Try.ntmps45
  go_wp2_with fail
  go_loopw [1] (fun jv W => ∃ (j : Nat) (hs : List HV), jv = .int .i64 (j : Int) ∧ j < n ∧ Hid (Mends B p T A c n hs0 w0 hs W ∧ UpInv hvLe (HV.at_ hs) n j)) (fun jv _ => (intOf jv).toNat)
  case atStart => exact ⟨j0, hs1, rfl, hj0, H0⟩
  case round =>
    obtain ⟨j, hs, rfl, hj, HM⟩ := hrel
    have hcell := HM.out.1.at_.cell
    rw [HM.out.1.len] at hcell
    have hml := m_less p _ wr hcell
    have hms := m_swap p _ wr hcell
    by_cases hz : j = 0
    · subst hz
      have HF := Lib.hid (HST.out hs wr 0 HM.out.1 HM.out.2 (.inl rfl))
      go_wp2
      go_end0
      exact ⟨rfl, HF.out⟩
    · obtain ⟨q, hq⟩ : ∃ q, q = (j - 1) / 2 := ⟨_, rfl⟩
      have hqj : q < j := by omega
      have hd : ((j : Int) - 1).tdiv 2 = (q : Int) := by rw [show (j : Int) - 1 = ((j - 1 : Nat) : Int) by omega, hq]; rfl
      have HQ := Lib.hid hq
      clear hq
      have hne : ((q : Int) == (j : Int)) = false := by rw [beq_eq_false_iff_ne]; omega
      have LL := less_at HM.out.1.at_ HM.out.1.ne j q (by rw [HM.out.1.len]; exact hj) (by rw [HM.out.1.len]; omega)
      rw [HM.out.1.len] at LL
      cases hl : lessB (HV.at_ hs j).one (HV.at_ hs q).one with
      | false =>
        rw [hl] at LL
        go_wp2_with (first
          | (go_at_call 89
             refine LL.mono ?_
             rintro e w1 ⟨rfl, h1, hb1⟩))
        go_end0
        exact ⟨rfl, HST.out hs w1 j (HM.out.1.next h1 hb1) HM.out.2 (.inr (by rw [← HQ.out]; exact lessB_no hl))⟩
      | true =>
        rw [hl] at LL
        have SW : ∀ W, HeadsAt B p T A c hs W → Calls Try.prog 90 #[.slice A n c, .int .i64 (q : Int), .int .i64 (j : Int)] W fun e w' => e = .returned (.tuple #[]) ∧ HeadsAt B p T A c (swL hs noHV q j) w' ∧ Below B W w' ∧ Beside (mine p A) W w' := fun W hW => by
          have := swap_any hW q j (by rw [HM.out.1.len]; omega) (by rw [HM.out.1.len]; exact hj)
          rwa [HM.out.1.len] at this
        go_wp2_with (first
          | (go_at_call 89
             refine LL.mono ?_
             rintro e w1 ⟨rfl, h1, hb1⟩
             have hc1 := h1.cell
             rw [HM.out.1.len] at hc1
             have hms1 := m_swap p _ w1 hc1)
          | (go_at_call 90
             refine (SW w1 h1).mono ?_
             rintro e w2 ⟨rfl, h2, hb2, hs2⟩))
        go_roundw
        case rel => exact ⟨q, _, rfl, by omega, Lib.hid ⟨(HM.out.1.next h1 hb1).swap (by omega) hj h2 hb2 hs2, by
          rw [at_swap (by rw [HM.out.1.len]; omega) (by rw [HM.out.1.len]; exact hj), HQ.out]
          exact HM.out.2.go hvLe_trans (by omega) hj (by rw [← HQ.out]; exact lessB_yes hl)⟩⟩
        case measure => simp [intOf]; omega
end Go.Proofs.Ytlacihgoammjgaa.Ord
