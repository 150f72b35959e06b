/- The law VectorJoins, walked out of what is asked of package vector. -/
import Derived.Test.YtpfmgjfkjjnadaaVecSaid
namespace Go.Proofs.Ytpfmgjfkjjnadaa.Vec
open Go Go.RowKit Go.Proofs.Ytpfmgjfkjjnadaa.Words
set_option linter.unusedVariables false
set_option linter.unusedSimpArgs false

set_option maxRecDepth 100000 in
set_option maxHeartbeats 1000000 in
theorem joins_law (hj : JoinSaid) (hm : MeetSaid) (hg : GetSaid) (hs : SameSaid) (hl : LackSaid) (A B : Option Addr) (n c m d : Nat) (a b : List Nat) (w : World)
    (ha : SeesU w A n a) (hb : SeesU w B m b) (fa : Fits a) (fb : Fits b) (hc : n ≤ c) (hd : m ≤ d) (hc2 : c ≤ 9223372036854775807) (hd2 : d ≤ 9223372036854775807) :
    Calls Try.prog 3 #[.slice A n c, .slice B m d] w fun e w' => e = .returned (.bool true) ∧ Below w.heap.size w w' := by
  by_cases h1 : 64 < n
  case pos =>
    go_enter Try.func3, Try.ntmps3
    go_wp2_with fail
    refine (awake_any hj hs hl _).mono ?_
    rintro e w1 ⟨rfl, b1⟩
    go_wp2_with fail
    refine (awake_any hj hs hl _).mono ?_
    rintro e w2 ⟨rfl, b2⟩
    go_wp2
    go_ret
    exact ⟨rfl, b1.trans (b2.mono b1.size)⟩
  by_cases h2 : 64 < m
  case pos =>
    go_enter Try.func3, Try.ntmps3
    go_wp2_with fail
    refine (awake_any hj hs hl _).mono ?_
    rintro e w1 ⟨rfl, b1⟩
    go_wp2_with fail
    refine (awake_any hj hs hl _).mono ?_
    rintro e w2 ⟨rfl, b2⟩
    go_wp2
    go_ret
    exact ⟨rfl, b1.trans (b2.mono b1.size)⟩
  go_enter Try.func3, Try.ntmps3
  go_wp2_with fail
  refine (awake_any hj hs hl _).mono ?_
  rintro e w1 ⟨rfl, b1⟩
  have ta1 : Took2 w1 A n c a := ⟨ha.below b1, fa, hc, hc2, by omega⟩
  have tb1 : Took2 w1 B m d b := ⟨hb.below b1, fb, hd, hd2, by omega⟩
  clear ha hb
  go_wp2_with fail
  refine (hj _ _ _ _ _ _ _ _ _ ta1 tb1).mono ?_
  rintro e w2 ⟨R, k, rc, l, rfl, sl2, hk1, hk2, hk3, htr, hat, hb2⟩
  have b2 := b1.trans (hb2.mono b1.size)
  have ta2 := ta1.below hb2
  have tb2 := tb1.below hb2
  clear ta1 tb1 hb2 b1
  go_wp2_with fail
  refine (hm _ _ _ _ _ _ _ _ _ ta2 tb2).mono ?_
  rintro e w3 ⟨S, q, qc, r, rfl, sr3, hq1, hq2, hq3, hur, hau, hb3⟩
  have b3 := b2.trans (hb3.mono b2.size)
  have ta3 := ta2.below hb3
  have tb3 := tb2.below hb3
  have sl3 := sl2.below hb3
  clear ta2 tb2 sl2 hb3 b2
  have SEE : Hid (∀ W, Below w3.heap.size w3 W → SeesU W A n a ∧ SeesU W B m b ∧ SeesU W R k l ∧ SeesU W S q r) := Lib.hid fun W hW => ⟨ta3.1.below hW, tb3.1.below hW, sl3.below hW, sr3.below hW⟩
  have HAT := Lib.hid hat
  have HAU := Lib.hid hau
  have HTR := Lib.hid htr
  have HUR := Lib.hid hur
  clear ta3 tb3 sl3 sr3 hat hau htr hur hk3 hq3
  go_wp2_with fail
  go_loopw [7] (fun v wr => ∃ i : Nat, v = .int .i64 (i : Int) ∧ i ≤ 66 ∧ Below w3.heap.size w3 wr) (fun v _ => 66 - (intOf v).toNat)
  case atStart => exact ⟨0, rfl, by omega, Below.refl _ _⟩
  case round =>
    obtain ⟨i, rfl, hi, hrel⟩ := hrel
    by_cases hlt : i < 66
    · obtain ⟨xa, xb, xl, xr⟩ := SEE.out wr hrel
      have e1 := HAT.out i
      have e2 := HAU.out i
      have xrr : ∀ W, Below wr.heap.size wr W → SeesU W R k l := fun W hW => xl.below hW
      go_wp2_with fail
      refine (refGet_any A n c a i _ xa).mono ?_
      rintro e w4 ⟨rfl, hw4⟩
      subst hw4
      go_wp2_with fail
      refine (refGet_any B m d b i _ xb).mono ?_
      rintro e w5 ⟨rfl, hw5⟩
      subst hw5
      have GM := Lib.hid (hg S q qc i r w5 xr (by omega))
      have GJ := Lib.hid (fun W hW => hg R k rc i l W (xrr W hW) (by omega))
      rw [e2] at GM
      rw [e1] at GJ
      generalize at_ a i = x at GM GJ ⊢
      generalize at_ b i = y at GM GJ ⊢
      clear e1 e2 xa xb xl xr xrr
      by_cases hxy : y < x
      · have hmx : Nat.max x y = x := Nat.max_eq_left (by omega)
        have hmn : Nat.min x y = y := Nat.min_eq_right (by omega)
        rw [hmn] at GM
        rw [hmx] at GJ
        clear hmx hmn
        go_wp2_with fail
        refine GM.out.mono ?_
        rintro e w6 ⟨rfl, hb6⟩
        go_wp2_with fail
        refine (GJ.out w6 hb6).mono ?_
        rintro e w7 ⟨rfl, hb7⟩
        have b7 := (hrel.trans (hb6.mono hrel.size)).trans (hb7.mono (Nat.le_trans hrel.size hb6.size))
        go_wp2
        go_roundw
        case rel => exact ⟨i + 1, by simp, by omega, b7⟩
        case measure => simp [intOf]; omega
      · have hmx : Nat.max x y = y := Nat.max_eq_right (by omega)
        have hmn : Nat.min x y = x := Nat.min_eq_left (by omega)
        rw [hmn] at GM
        rw [hmx] at GJ
        clear hmx hmn
        go_wp2_with fail
        refine GM.out.mono ?_
        rintro e w6 ⟨rfl, hb6⟩
        go_wp2_with fail
        refine (GJ.out w6 hb6).mono ?_
        rintro e w7 ⟨rfl, hb7⟩
        have b7 := (hrel.trans (hb6.mono hrel.size)).trans (hb7.mono (Nat.le_trans hrel.size hb6.size))
        go_wp2
        go_roundw
        case rel => exact ⟨i + 1, by simp, by omega, b7⟩
        case measure => simp [intOf]; omega
    · obtain rfl : i = 66 := by omega
      obtain ⟨-, -, xl, xr⟩ := SEE.out wr hrel
      have b9 := b3.trans (hrel.mono b3.size)
      have HN : Hid (∀ (l : List Nat) (k : Nat), Trimmed l → l.length = k → 0 < k → at_ l (k - 1) ≠ 0) := Lib.hid fun l k h hk hp => by
        rcases h with h | h
        · subst h; simp at hk; omega
        · rw [← hk]; exact h
      by_cases hk0 : k = 0
      · subst hk0
        by_cases hq0 : q = 0
        · subst hq0
          go_wp2
          go_ret
          exact ⟨rfl, b9⟩
        · obtain ⟨g, o, rfl, hcell⟩ := xr.get (j := q - 1) (by omega)
          have hne := HN.out r q HUR.out xr.1 (by omega)
          generalize at_ r (q - 1) = z at hcell hne
          have z1 : ((z : Int) != 0) = true := by rw [bne_iff_ne]; omega
          have z2 : ((q : Int) == 0) = false := by rw [beq_eq_false_iff_ne]; omega
          clear hne
          go_wp2
          go_ret
          exact ⟨rfl, b9⟩
      · obtain ⟨g, o, rfl, hcell⟩ := xl.get (j := k - 1) (by omega)
        have hne := HN.out l k HTR.out xl.1 (by omega)
        generalize at_ l (k - 1) = z at hcell hne
        have z1 : ((z : Int) != 0) = true := by rw [bne_iff_ne]; omega
        have z2 : ((k : Int) == 0) = false := by rw [beq_eq_false_iff_ne]; omega
        clear hne
        by_cases hq0 : q = 0
        · subst hq0
          go_wp2
          go_ret
          exact ⟨rfl, b9⟩
        · obtain ⟨g', o', rfl, hcell'⟩ := xr.get (j := q - 1) (by omega)
          have hne' := HN.out r q HUR.out xr.1 (by omega)
          generalize at_ r (q - 1) = z' at hcell' hne'
          have z3 : ((z' : Int) != 0) = true := by rw [bne_iff_ne]; omega
          have z4 : ((q : Int) == 0) = false := by rw [beq_eq_false_iff_ne]; omega
          clear hne'
          go_wp2
          go_ret
          exact ⟨rfl, b9⟩
end Go.Proofs.Ytpfmgjfkjjnadaa.Vec
