/- Order: Swap, Push, Pop of the heap of lists. -/
import Derived.Test.YtlacihgoammjgaaOrdB
import Derived.BigRegion
namespace Go.Proofs.Ytlacihgoammjgaa.Ord
open Go Go.RowKit Go.Proofs.Ytlacihgoammjgaa.Words Go.Proofs.Ytlacihgoammjgaa.Enc Go.Proofs.Ytlacihgoammjgaa.Evt Go.Proofs.Ytlacihgoammjgaa.Seg
set_option linter.unusedVariables false
set_option linter.unusedSimpArgs false

theorem HeadsAt.set {B p g : Nat} {T : TypeId} {c : Nat} {hs : List HV} {w : World} (h : HeadsAt B p T (some ⟨g, 0, none⟩) c hs w) (k : Nat) (hk : k < hs.length) (x : HV) (hx : Lies B w x) :
    HeadsAt B p T (some ⟨g, 0, none⟩) c (hs.set k x) (w.setCell ⟨g, k, none⟩ x.val) ∧ Below B w (w.setCell ⟨g, k, none⟩ x.val) ∧ (w.setCell ⟨g, k, none⟩ x.val).heap.size = w.heap.size := by
  obtain ⟨hb, ho, ha, hlo, hl⟩ := h
  have hgp : g ≠ p := ha _ rfl
  rcases ho.2 with ⟨hv, h0⟩ | ⟨g', cap, cur, hv, hbg, hh, h1, h2, h3, h4⟩
  · cases hv
  · have hbg' : B ≤ g := by injection hv with e1 _ _; injection e1 with e1; injection e1 with e1; omega
    obtain ⟨rfl, rfl⟩ : g' = g ∧ cap = c := by injection hv with e1 _ e3; injection e1 with e1; injection e1 with e1; exact ⟨e1.symm, e3.symm⟩
    have hB : Below B w (w.setCell ⟨g', k, none⟩ x.val) := (Below.refl B w).setCell hbg' _
    have hs : (w.setCell ⟨g', k, none⟩ x.val).heap.size = w.heap.size := by simp
    refine ⟨⟨?_, ⟨by simp, .inr ⟨g', cap, cur.setIfInBounds k x.val, by simp, hbg, heapSame hh, by simpa using h1, h2, by simpa using h3, ?_⟩⟩, ha, hlo, fun y hy => ?_⟩, hB, hs⟩
    · rw [heapOther hgp.symm]
      simpa using hb
    · rw [Array.toList_setIfInBounds, List.length_set, List.take_set, h4, List.map_set]
    · rcases List.mem_or_eq_of_mem_set hy with hy | rfl
      · exact (hl y hy).below hB
      · exact hx.below hB
theorem HeadsAt.swap {B p g : Nat} {T : TypeId} {c : Nat} {hs : List HV} {w : World} (h : HeadsAt B p T (some ⟨g, 0, none⟩) c hs w) (i j : Nat) (hi : i < hs.length) (hj : j < hs.length) :
    HeadsAt B p T (some ⟨g, 0, none⟩) c (swL hs noHV i j) ((w.setCell ⟨g, i, none⟩ (HV.at_ hs j).val).setCell ⟨g, j, none⟩ (HV.at_ hs i).val) ∧ Below B w ((w.setCell ⟨g, i, none⟩ (HV.at_ hs j).val).setCell ⟨g, j, none⟩ (HV.at_ hs i).val) ∧ ((w.setCell ⟨g, i, none⟩ (HV.at_ hs j).val).setCell ⟨g, j, none⟩ (HV.at_ hs i).val).heap.size = w.heap.size := by
  obtain ⟨h1, h2, h3⟩ := h.set i hi _ (h.lie _ (at_mem hj))
  obtain ⟨k1, k2, k3⟩ := h1.set j (by simpa using hj) (HV.at_ hs i) ((h.lie _ (at_mem hi)).below h2)
  exact ⟨k1, h2.trans k2, k3.trans h3⟩
theorem HeadsAt.drew {B p : Nat} {T : TypeId} {A : Option Addr} {c : Nat} {hs : List HV} {w : World} (h : HeadsAt B p T A c hs w) : HeadsAt B p T A c hs w.drew := h.below (Below.refl _ _).drew
theorem HeadsAt.frz {B p g : Nat} {T : TypeId} {c : Nat} {hs : List HV} {w : World} (h : HeadsAt B p T (some ⟨g, 0, none⟩) c hs w) (k : Nat) : w.frozen? ⟨g, k, none⟩ = false := by
  rcases h.own.2 with ⟨hv, h0⟩ | ⟨g', cap, cur, hv, hbg, hh, _⟩
  · cases hv
  · have : g' = g := by injection hv with e1 _ _; injection e1 with e1; injection e1 with e1; exact e1.symm
    subst this
    exact frozen_row0 hh

set_option maxRecDepth 100000 in
set_option maxHeartbeats 4000000 in
theorem swap_any {B p : Nat} {T : TypeId} {A : Option Addr} {c : Nat} {hs : List HV} {w : World} (h : HeadsAt B p T A c hs w) (i j : Nat) (hi : i < hs.length) (hj : j < hs.length) :
    Calls Try.prog 90 #[.slice A hs.length c, .int .i64 (i : Int), .int .i64 (j : Int)] w fun e w' => e = .returned (.tuple #[]) ∧ HeadsAt B p T A c (swL hs noHV i j) w' ∧ Below B w w' ∧ Beside (mine p A) w w' := by
  obtain ⟨g, rfl, hg, hgp, hc⟩ := h.get (by omega)
  obtain ⟨s1, s2, s3⟩ := h.swap i j hi hj
  have s1 := s1.drew
  have s2 := s2.drew
  have s3 : Beside (mine p (some ⟨g, 0, none⟩)) w ((w.setCell ⟨g, i, none⟩ (HV.at_ hs j).val).setCell ⟨g, j, none⟩ (HV.at_ hs i).val).drew := (((Beside.refl _ w).setCell (by simp [mine]) _).setCell (by simp [mine]) _).drew
  obtain ⟨V, hV⟩ : ∃ V, (w.setCell ⟨g, i, none⟩ (HV.at_ hs j).val).cell? ⟨g, j, none⟩ = some V := by
    obtain ⟨q1, _, _⟩ := h.set i hi _ (h.lie _ (at_mem hj))
    obtain ⟨g', e, _, _, q⟩ := q1.get (by simp; omega)
    cases e
    exact ⟨_, q j (by simpa using hj)⟩
  obtain ⟨V2, hV2⟩ : ∃ V, (w.setCell ⟨g, j, none⟩ (HV.at_ hs i).val).cell? ⟨g, i, none⟩ = some V := by
    obtain ⟨q1, _, _⟩ := h.set j hj _ (h.lie _ (at_mem hi))
    obtain ⟨g', e, _, _, q⟩ := q1.get (by simp; omega)
    cases e
    exact ⟨_, q i (by simpa using hi)⟩
  have ki := hc i hi
  have kj := hc j hj
  have fi := h.frz i
  have fj := h.frz j
  have HS := Lib.hid (And.intro s1 (And.intro s2 s3))
  clear s1 s2 s3 hc h
  obtain ⟨xa, xn, xc, hx⟩ : ∃ xa xn xc, (HV.at_ hs i).val = .slice xa xn xc := ⟨_, _, _, rfl⟩
  obtain ⟨ya, yn, yc, hy⟩ : ∃ ya yn yc, (HV.at_ hs j).val = .slice ya yn yc := ⟨_, _, _, rfl⟩
  rw [hx] at ki HS hV2
  rw [hy] at kj HS hV
  clear hx hy
  generalize swL hs noHV i j = hs' at *
  generalize hs.length = n at *
  have zi : (i : Int) < (n : Int) := by omega
  have zj : (j : Int) < (n : Int) := by omega
  have zi0 : (0 : Int) ≤ (i : Int) := by omega
  have zj0 : (0 : Int) ≤ (j : Int) := by omega
  go_enter Try.func90, Try.ntmps90
  go_wp2_with fail
  go_region
  all_goals go_wp2
  all_goals go_end0
  all_goals exact ⟨rfl, HS.out.1, HS.out.2.1, HS.out.2.2⟩
end Go.Proofs.Ytlacihgoammjgaa.Ord
