/- Package vector: Join's result is new memory. -/
import Derived.Test.YtlacihgoammjgaaVecFn
namespace Go.Proofs.Ytlacihgoammjgaa.Vec
open Go Go.RowKit Go.Proofs.Ytlacihgoammjgaa.Words
set_option linter.unusedVariables false
set_option linter.unusedSimpArgs false

/-- What Gives says, and that the row is new. -/
def GivesN (w : World) (most : Nat) (f : Nat → Nat) (e : Ending) (w' : World) : Prop :=
  ∃ R k rc l, e = .returned (.slice R k rc) ∧ (∀ a, R = some a → w.heap.size ≤ a.block) ∧ SeesU w' R k l ∧ k ≤ rc ∧ rc ≤ 9223372036854775807 ∧ k ≤ most ∧ Trimmed l ∧ (∀ i, at_ l i = f i) ∧ Below w.heap.size w w'
theorem new_of_own {W : World} {base b0 : Nat} {e : TypeId} {s : Nat} {R : Option Addr} {n c m : Nat} {l : List Value} (h : W.ownsRow base e s (.slice R n c) m l) (hb : b0 ≤ base) : ∀ a, R = some a → b0 ≤ a.block := by
  intro a ha
  rcases h.2 with ⟨hv, _⟩ | ⟨g, cap, cur, hv, hg, _⟩
  · rw [ha] at hv; cases hv
  · rw [ha] at hv
    injection hv with h1 h2 h3
    injection h1 with h1
    subst h1
    show b0 ≤ g
    omega

set_option maxRecDepth 100000 in
set_option maxHeartbeats 1000000 in
theorem combineNew_at (hF : ∀ (x y : Nat) (W : World), Calls Try.prog 57 #[.int .u64 (x : Int), .int .u64 (y : Int)] W fun e w' => e = .returned (.int .u64 (Nat.max x y : Int)) ∧ w' = W)
 (h00 : Nat.max 0 0 = 0)
    (A B : Option Addr) (n c m d : Nat) (a b : List Nat) (w : World) (ta : Took2 w A n c a) (tb : Took2 w B m d b) :
    Calls Try.prog 56 #[.slice A n c, .slice B m d, .func (.func 57) #[] #[]] w (GivesN w (Nat.max n m) fun i => Nat.max (at_ a i) (at_ b i)) := by
  obtain ⟨N, hN⟩ : ∃ N, N = Nat.max n m := ⟨_, rfl⟩
  rw [← hN]
  have hmax : max (n : Int) (m : Int) = (N : Int) := by rw [hN]; show max (n : Int) (m : Int) = ((max n m : Nat) : Int); omega
  have hN2 : N ≤ 900000 := by rw [hN]; exact Nat.max_le.2 ⟨ta.2.2.2.2, tb.2.2.2.2⟩
  have hnN : n ≤ N := by rw [hN]; exact Nat.le_max_left _ _
  have hmN : m ≤ N := by rw [hN]; exact Nat.le_max_right _ _
  have hmk := fun W => make_u W N (by omega)
  clear hN
  go_enter Try.func56, Try.ntmps56
  go_wp2_with fail
  have bel0 : Below w.heap.size w (w.alloc (.cells (uRow N) 30)) := (Below.refl _ _).alloc (Nat.le_refl _) _
  have own0 := uRow_own w N (by omega)
  generalize w.alloc (.cells (uRow N) 30) = w0 at bel0 own0 ⊢
  have SEE : Hid (∀ W, Below w.heap.size w W → SeesU W A n a ∧ SeesU W B m b) := Lib.hid fun W hW => ⟨ta.1.below hW, tb.1.below hW⟩
  have LEN := Lib.hid (And.intro ta.1.1 tb.1.1)
  clear ta tb hmax hmk
  go_loopw [17] (fun v wr => ∃ (j : Nat) (l : List Nat), v = .int .i64 (j : Int) ∧ j ≤ N ∧ Hid (l.length = N ∧ ∀ i, i < j → at_ l i = Nat.max (at_ a i) (at_ b i)) ∧
    wr.ownsRow w.heap.size 30 1 (.slice (some ⟨w.heap.size, 0, none⟩) N N) N (us l) ∧ Below w.heap.size w wr) (fun v _ => N - (intOf v).toNat)
  case atStart => exact ⟨0, List.replicate N 0, rfl, by omega, ⟨List.length_replicate, fun i hi => absurd hi (by omega)⟩, own0, bel0⟩
  case round =>
    obtain ⟨j, l, rfl, hj, HL, own, bel⟩ := hrel
    by_cases hlt : j < N
    · have hcell : wr.cell? ⟨w.heap.size, j, none⟩ = some (.int .u64 (at_ l j : Int)) := by
        rw [own.cellAt j (by omega), us_get (at_lt (by rw [HL.out.1]; exact hlt))]
      have hfr : wr.frozen? ⟨w.heap.size, j, none⟩ = false := own.frozenAt j
      have hst := own.stored j (.int .u64 (Nat.max (at_ a j) (at_ b j) : Int))
      have hset : (us l).set j (.int .u64 (Nat.max (at_ a j) (at_ b j) : Int)) = us (l.set j (Nat.max (at_ a j) (at_ b j))) := by simp [us, List.map_set]
      rw [hset] at hst
      have HL2 : Hid ((l.set j (Nat.max (at_ a j) (at_ b j))).length = N ∧ ∀ i, i < j + 1 → at_ (l.set j (Nat.max (at_ a j) (at_ b j))) i = Nat.max (at_ a i) (at_ b i)) := Lib.hid ⟨by rw [List.length_set]; exact HL.out.1, fun i hi => by
        rw [at_set _ _ _ _ (by rw [HL.out.1]; exact hlt)]
        split
        · rename_i h; rw [h]
        · exact HL.out.2 i (by omega)⟩
      have bel2 := bel.setCell (p := ⟨w.heap.size, j, none⟩) (Nat.le_refl _) (.int .u64 (Nat.max (at_ a j) (at_ b j) : Int))
      have FF := Lib.hid (hF (at_ a j) (at_ b j) wr)
      have HST := Lib.hid hst.1
      have G1 := Lib.hid (get_at A n c a j wr (SEE.out wr bel).1)
      have G2 := Lib.hid (get_at B m d b j wr (SEE.out wr bel).2)
      have h1 : (j : Int) < (N : Int) := by omega
      have BEL2 := Lib.hid bel2
      clear hset hst bel2 own bel HL
      generalize Nat.max (at_ a j) (at_ b j) = v at HL2 BEL2 FF HST
      generalize at_ l j = u at hcell
      generalize at_ a j = x at FF G1
      generalize at_ b j = y at FF G2
      go_wp2_with fail
      refine G1.out.mono ?_
      rintro e w4 ⟨rfl, hw4⟩
      subst hw4
      go_wp2_with fail
      refine G2.out.mono ?_
      rintro e w5 ⟨rfl, hw5⟩
      subst hw5
      go_wp2_with fail
      refine FF.out.mono ?_
      rintro e w6 ⟨rfl, hw6⟩
      subst hw6
      clear FF G1 G2
      go_wp2
      go_roundw
      case rel => exact ⟨j + 1, l.set j v, by simp, by omega, HL2, HST.out, BEL2.out⟩
      case measure => simp [intOf]; omega
    · obtain rfl : j = N := by omega
      have sl := SeesU.of_own own
      have TR := Lib.hid (trim_at (some ⟨w.heap.size, 0, none⟩) j j l wr sl (Nat.le_refl _) hN2 (by omega))
      have FIN : Hid (∀ (R : Option Addr) (rc : Nat) (W : World), W.ownsRow wr.heap.size 30 1 (.slice R (trimN l j) rc) (trimN l j) (us (l.take (trimN l j))) → Below wr.heap.size wr W → GivesN w j (fun i => Nat.max (at_ a i) (at_ b i)) (.returned (.slice R (trimN l j) rc)) W) := Lib.hid fun R rc W hown hbe => by
        have hle := trimN_le l j
        refine ⟨_, _, _, trimL l, rfl, new_of_own hown bel.size, ?_, (Own.cap hown).1, (Own.cap hown).2, hle, trimL_trimmed l, fun i => ?_, bel.trans (hbe.mono bel.size)⟩
        · unfold trimL
          rw [HL.out.1]
          exact SeesU.of_own hown
        · show at_ (trimL l) i = Nat.max (at_ a i) (at_ b i)
          rw [trimL_at]
          rcases Nat.lt_or_ge i j with h | h
          · exact HL.out.2 i h
          · rw [at_ge (by rw [HL.out.1]; exact h), at_ge (l := a) (by rw [LEN.out.1]; omega), at_ge (l := b) (by rw [LEN.out.2]; omega), h00]
      clear own bel sl HL
      go_wp2_with fail
      refine TR.out.mono ?_
      rintro e w4 ⟨R, rc, rfl, hown, hbe⟩
      have F2 := Lib.hid (FIN.out R rc w4 hown hbe)
      clear hown hbe TR FIN
      go_wp2
      go_ret
      exact F2.out

set_option maxRecDepth 100000 in
theorem join_new (A B : Option Addr) (n c m d : Nat) (a b : List Nat) (w : World) (ta : Took2 w A n c a) (tb : Took2 w B m d b) :
    Calls Try.prog 38 #[.slice A n c, .slice B m d] w (GivesN w (Nat.max n m) fun i => Nat.max (at_ a i) (at_ b i)) := by
  have C := Lib.hid (combineNew_at (fun x y W => pickJoin_any x y W) rfl A B n c m d a b w ta tb)
  clear ta tb
  go_enter Try.func38, Try.ntmps38
  go_wp2_with fail
  refine C.out.mono ?_
  rintro e w4 ⟨R, k, rc, l, rfl, h0, h1, h2, h3, h4, h5, h6, h7⟩
  have F := Lib.hid (show GivesN w _ _ (.returned (.slice R k rc)) w4 from ⟨R, k, rc, l, rfl, h0, h1, h2, h3, h4, h5, h6, h7⟩)
  clear h0 h1 h2 h3 h4 h5 h6 h7 C
  go_wp2
  go_ret
  exact F.out
end Go.Proofs.Ytlacihgoammjgaa.Vec
