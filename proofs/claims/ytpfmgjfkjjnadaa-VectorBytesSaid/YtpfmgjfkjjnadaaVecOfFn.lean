/- Package vector: Of, of any bytes. -/
import Derived.Test.YtpfmgjfkjjnadaaVecOf
namespace Go.Proofs.Ytpfmgjfkjjnadaa.Vec
open Go Go.RowKit Go.Proofs.Ytpfmgjfkjjnadaa.Words Go.Proofs.Ytpfmgjfkjjnadaa.Enc Go.Proofs.Ytpfmgjfkjjnadaa.Made Go.Proofs.Ytpfmgjfkjjnadaa.Tape
set_option linter.unusedVariables false
set_option linter.unusedSimpArgs false

theorem of_bad {g : Nat ⊕ List Nat} {E : Nat} {w w' : World} {v : Value} {R : Option Addr} {rc : Nat} (h : g = .inl E) (hv : v = .tuple #[.slice R 0 rc, .int .i64 (E : Int)]) (hr : rc ≤ 9223372036854775807) (hb : Below w.heap.size w w') : OfGives g w (.returned v) w' := by
  subst h
  subst hv
  exact ⟨R, rc, rfl, hr, hb⟩
theorem of_ok {g : Nat ⊕ List Nat} {u : List Nat} {w w' : World} {v : Value} {R : Option Addr} {k rc : Nat} (h : g = .inr u) (hv : v = .tuple #[.slice R k rc, .int .i64 0]) (hs : SeesU w' R k u) (hk : k ≤ rc) (hr : rc ≤ 9223372036854775807) (hb : Below w.heap.size w w') : OfGives g w (.returned v) w' := by
  subst h
  subst hv
  exact ⟨R, k, rc, rfl, hs, hk, hr, hb⟩

set_option maxRecDepth 100000 in
set_option maxHeartbeats 2000000 in
theorem of_any : OfSaid := fun Q pn pc p w hs hc hc2 hpn => by
  have hln := hs.1
  obtain ⟨G, hG⟩ : ∃ G, G = decV p := ⟨_, rfl⟩
  rw [← hG]
  have HG := Lib.hid hG
  clear hG
  have hb0 : Below w.heap.size w (w.alloc (.cells #[.int .i64 0] 37)) := (Below.refl _ _).alloc (Nat.le_refl _) _
  have hm0 := heap_alloc_new w (.cells #[.int .i64 0] 37)
  have hz0 : (w.alloc (.cells #[.int .i64 0] 37)).heap.size = w.heap.size + 1 := by simp
  have hs0 := hs.below hb0
  go_enter_defers Try.func20, Try.ntmps20
  go_wp2_with fail
  generalize w.alloc (.cells #[.int .i64 0] 37) = W0 at hb0 hm0 hz0 hs0 ⊢
  refine (newTape_on Q pn pc _ W0 hs0 hc (by omega)).mono ?_
  rintro e w1 ⟨rfl, ht1, hb1⟩
  rw [hz0] at ht1 ⊢
  have bel1 := hb0.trans (hb1.mono (by omega))
  have m1 := (hb1.block w.heap.size (by omega)).trans hm0
  have s1 := hs0.below hb1
  have hlt1 := ht1.lt
  clear hb0 hm0 hs0 hb1 hz0 hs
  have rd := read_any Q pn p (w.heap.size + 1) p w1 ht1 s1 (by omega)
  have o1 : Out [w.heap.size + 1] Q pn := by obtain ⟨A', n', c', hb', -⟩ := ht1; exact sees_off hb' s1
  cases hg : readG p with
  | bad E =>
    rw [hg] at rd
    have RD := Lib.hid rd
    have hgd : G = .inl E := by rw [HG.out]; unfold decV; rw [hg]
    have GD := Lib.hid hgd
    clear rd hgd HG hg ht1 o1
    go_wp2_with fail
    refine RD.out.mono ?_
    rintro e w2 ⟨rfl, hbe⟩
    have k1 := (hbe.block w.heap.size (by omega) (by simp)).trans m1
    have bel2 := Below.beside bel1 hbe bel1.size (by simp)
    clear m1 bel1 s1 hbe RD
    unfold fault
    go_wp2
    refine leaves_cons (f := 28) (args := #[.pointer (some ⟨w.heap.size, 0, none⟩)]) (by simp) (by simp [go_sem]) ?_
    refine (caught_bad w.heap.size E [] w2 0 37 k1).mono ?_
    rintro e u' w9 ⟨rfl, rfl, hst, hbe9⟩
    have bel9 := Below.beside bel2 hbe9 bel2.size (by simp)
    have e0 : w9.cell? ⟨w.heap.size, 0, none⟩ = some (.int .i64 ((E : Nat) : Int)) := by rw [cell_of_row w9 w.heap.size _ _ _ _ hst]; rfl
    have BEL := Lib.hid bel9
    clear hst hbe9 bel9 bel2 k1
    simp [Leaves, settle, results, Try.results20, go_sem, e0]
    exact of_bad GD.out rfl (by decide) BEL.out
  | ok v r =>
    rw [hg] at rd
    have hG2 : G = if r ≠ [] then .inl 4 else if 0 < v.length ∧ at_ v (v.length - 1) = 0 then .inl 4 else .inr v := by rw [HG.out]; unfold decV; rw [hg]
    have HG2 := Lib.hid hG2
    have RD := Lib.hid rd
    clear rd hG2 HG hg ht1
    go_wp2_with fail
    refine RD.out.mono ?_
    rintro e w2 ⟨R, k, rc, rfl, sv, hk, hrc, ht2, hbe⟩
    have k1 := (hbe.block w.heap.size (by omega) (by simp)).trans m1
    have bel2 := Below.beside bel1 hbe bel1.size (by simp)
    have s2 := s1.beside hbe o1
    have hvk := sv.1
    clear m1 bel1 s1 hbe o1 RD
    by_cases hrest : r = []
    case neg =>
      have hgd : G = .inl 4 := by rw [HG2.out, if_pos hrest]
      have GD := Lib.hid hgd
      have hr0 : 0 < r.length := by cases r with | nil => exact absurd rfl hrest | cons a b => simp
      have DN := Lib.hid (done_bad (w.heap.size + 1) r w2 (ht2.at_ s2) hr0)
      clear hgd HG2 hrest hr0 ht2 s2 sv
      go_wp2_with fail
      refine DN.out.mono ?_
      rintro e w3 ⟨rfl, rfl⟩
      clear DN
      unfold fault
      go_wp2
      refine leaves_cons (f := 28) (args := #[.pointer (some ⟨w.heap.size, 0, none⟩)]) (by simp) (by simp [go_sem]) ?_
      refine (caught_bad w.heap.size 4 [] _ 0 37 k1).mono ?_
      rintro e u' w9 ⟨rfl, rfl, hst, hbe9⟩
      have bel9 := Below.beside bel2 hbe9 bel2.size (by simp)
      have e0 : w9.cell? ⟨w.heap.size, 0, none⟩ = some (.int .i64 ((4 : Nat) : Int)) := by rw [cell_of_row w9 w.heap.size _ _ _ _ hst]; rfl
      have BEL := Lib.hid bel9
      clear hst hbe9 bel9 bel2 k1
      simp [Leaves, settle, results, Try.results20, go_sem, e0]
      exact of_bad GD.out rfl (by decide) BEL.out
    case pos =>
      subst hrest
      have DN := Lib.hid (done_any (w.heap.size + 1) w2 (ht2.at_ s2))
      clear ht2 s2
      go_wp2_with fail
      refine DN.out.mono ?_
      rintro e w3 ⟨rfl, rfl⟩
      clear DN
      have y1 : w2.cell? ⟨w.heap.size, 0, none⟩ = some (.int .i64 0) := by rw [cell_of_row w2 w.heap.size _ _ _ _ k1]; rfl
      have y2 := frozen_row0 (i := 0) k1
      by_cases hk0 : k = 0
      · have GD : G = .inr v := by rw [HG2.out, if_neg (by simp), if_neg (by omega)]
        clear HG2 hvk
        subst hk0
        have e0 : (w2.setCell ⟨w.heap.size, 0, none⟩ (.int .i64 0)).cell? ⟨w.heap.size, 0, none⟩ = some (.int .i64 0) := by rw [cell_of_row _ w.heap.size _ _ _ _ ((heapSame (i := 0) (v := .int .i64 0) k1).trans rfl)]; rfl
        have FIN : Hid (OfGives G w (.returned (.tuple #[.slice R 0 rc, .int .i64 0])) (w2.setCell ⟨w.heap.size, 0, none⟩ (.int .i64 0))) := Lib.hid (of_ok GD rfl (sv.beside ((Beside.refl [w.heap.size] _).setCell (by simp) _) (seesU_cell k1 sv)) hk hrc (bel2.setCell (p := ⟨w.heap.size, 0, none⟩) (by simp) _))
        clear sv bel2 k1 GD
        go_wp2
        refine leaves_cons (f := 28) (args := #[.pointer (some ⟨w.heap.size, 0, none⟩)]) (by simp) (by simp [go_sem]) ?_
        refine (caught_idle _ _).mono ?_
        rintro e u' w'' ⟨rfl, rfl, rfl⟩
        simp [Leaves, settle, results, Try.results20, go_sem, e0]
        exact FIN.out
      · obtain ⟨g, o, hR, hcell⟩ := sv.get (j := k - 1) (by omega)
        have z2 : (0 : Int) < (k : Int) := by omega
        by_cases hz : at_ v (k - 1) = 0
        · have GD : G = .inl 4 := by rw [HG2.out, if_neg (by simp), if_pos ⟨by omega, by rw [hvk]; exact hz⟩]
          rw [hz] at hcell
          clear HG2 hvk hz
          have e0 : (w2.setCell ⟨w.heap.size, 0, none⟩ (.int .i64 4)).cell? ⟨w.heap.size, 0, none⟩ = some (.int .i64 4) := by rw [cell_of_row _ w.heap.size _ _ _ _ ((heapSame (i := 0) (v := .int .i64 4) k1).trans rfl)]; rfl
          have FIN : Hid (OfGives G w (.returned (.tuple #[.slice none 0 0, .int .i64 4])) (w2.setCell ⟨w.heap.size, 0, none⟩ (.int .i64 4))) := Lib.hid (of_bad GD rfl (by decide) (bel2.setCell (p := ⟨w.heap.size, 0, none⟩) (by simp) _))
          clear sv bel2 k1 GD
          subst hR
          go_wp2
          refine leaves_cons (f := 28) (args := #[.pointer (some ⟨w.heap.size, 0, none⟩)]) (by simp) (by simp [go_sem]) ?_
          refine (caught_idle _ _).mono ?_
          rintro e u' w'' ⟨rfl, rfl, rfl⟩
          simp [Leaves, settle, results, Try.results20, go_sem, e0]
          exact FIN.out
        · have GD : G = .inr v := by rw [HG2.out, if_neg (by simp), if_neg (by rw [hvk]; exact fun h => hz h.2)]
          generalize at_ v (k - 1) = z at hcell hz
          have z1 : ((z : Int) == 0) = false := by rw [beq_eq_false_iff_ne]; omega
          clear HG2 hvk hz
          subst hR
          have e0 : (w2.setCell ⟨w.heap.size, 0, none⟩ (.int .i64 0)).cell? ⟨w.heap.size, 0, none⟩ = some (.int .i64 0) := by rw [cell_of_row _ w.heap.size _ _ _ _ ((heapSame (i := 0) (v := .int .i64 0) k1).trans rfl)]; rfl
          have FIN : Hid (OfGives G w (.returned (.tuple #[.slice (some ⟨g, o, none⟩) k rc, .int .i64 0])) (w2.setCell ⟨w.heap.size, 0, none⟩ (.int .i64 0))) := Lib.hid (of_ok GD rfl (sv.beside ((Beside.refl [w.heap.size] _).setCell (by simp) _) (seesU_cell k1 sv)) hk hrc (bel2.setCell (p := ⟨w.heap.size, 0, none⟩) (by simp) _))
          clear sv bel2 k1 GD
          go_wp2
          refine leaves_cons (f := 28) (args := #[.pointer (some ⟨w.heap.size, 0, none⟩)]) (by simp) (by simp [go_sem]) ?_
          refine (caught_idle _ _).mono ?_
          rintro e u' w'' ⟨rfl, rfl, rfl⟩
          simp [Leaves, settle, results, Try.results20, go_sem, e0]
          exact FIN.out
end Go.Proofs.Ytpfmgjfkjjnadaa.Vec
