/- The law VectorLacks, walked out of what is asked of package vector. -/
import Derived.Test.YtpfmgjfkjjnadaaVecSaid
namespace Go.Proofs.Ytpfmgjfkjjnadaa.Vec
open Go Go.RowKit Go.Proofs.Ytpfmgjfkjjnadaa.Words
set_option linter.unusedVariables false
set_option linter.unusedSimpArgs false

set_option maxRecDepth 100000 in
set_option maxHeartbeats 2000000 in
theorem lacks_law (hj : JoinSaid) (hs : SameSaid) (hl : LackSaid) (A B : Option Addr) (n c m d : Nat) (a b : List Nat) (w : World)
    (ha : SeesU w A n a) (hb : SeesU w B m b) (fa : Fits a) (fb : Fits b) (hc : n ≤ c) (hd : m ≤ d) (hc2 : c ≤ 9223372036854775807) (hd2 : d ≤ 9223372036854775807) :
    Calls Try.prog 5 #[.slice A n c, .slice B m d] w fun e w' => e = .returned (.bool true) ∧ Below w.heap.size w w' := by
  by_cases h1 : 64 < n
  case pos =>
    go_enter Try.func5, Try.ntmps5
    go_wp2_with fail
    refine (awake_any hj hs hl _).mono ?_
    rintro e w1 ⟨rfl, b1⟩
    go_wp2_with fail
    refine (awake_any hj hs hl _).mono ?_
    rintro e w2 ⟨rfl, b2⟩
    go_wp2
    go_ret
    exact ⟨rfl, b1.trans (b2.mono b1.size)⟩
  by_cases h2 : 64 < m
  case pos =>
    go_enter Try.func5, Try.ntmps5
    go_wp2_with fail
    refine (awake_any hj hs hl _).mono ?_
    rintro e w1 ⟨rfl, b1⟩
    go_wp2_with fail
    refine (awake_any hj hs hl _).mono ?_
    rintro e w2 ⟨rfl, b2⟩
    go_wp2
    go_ret
    exact ⟨rfl, b1.trans (b2.mono b1.size)⟩
  go_enter Try.func5, Try.ntmps5
  go_wp2_with fail
  refine (awake_any hj hs hl _).mono ?_
  rintro e w1 ⟨rfl, b1⟩
  have ta1 : Took2 w1 A n c a := ⟨ha.below b1, fa, hc, hc2, by omega⟩
  have tb1 : Took2 w1 B m d b := ⟨hb.below b1, fb, hd, hd2, by omega⟩
  clear ha hb
  go_wp2_with fail
  go_loopw [5, 6, 7] (fun s f v wr => ∃ i T : Nat, s = .int .u64 ((T % 18446744073709551616 : Nat) : Int) ∧ f = .bool (decide (18446744073709551616 ≤ T)) ∧ v = .int .i64 (i : Int) ∧ i ≤ n ∧ Hid (lackL a b i = T) ∧ w1 = wr) (fun _ _ v _ => n - (intOf v).toNat)
  case atStart => exact ⟨0, 0, rfl, rfl, rfl, by omega, rfl, rfl⟩
  case round =>
    obtain ⟨i, T, rfl, rfl, rfl, hi, HT, rfl⟩ := hrel
    by_cases hlt : i < n
    · obtain ⟨g, o, rfl, hcell⟩ := ta1.1.get hlt
      have hstep : lackL a b (i + 1) = T + (at_ a i - at_ b i) := by rw [← HT.out]; rfl
      have HS := Lib.hid hstep
      have hxa := fa i
      have hyb := fb i
      clear hstep
      go_wp2_with fail
      refine (refGet_any B m d b i _ tb1.1).mono ?_
      rintro e w5 ⟨rfl, hw5⟩
      subst hw5
      generalize at_ a i = x at hcell HS hxa
      generalize at_ b i = y at HS hyb ⊢
      by_cases hxy : y < x
      · obtain ⟨S, hS⟩ : ∃ S, S = T % 18446744073709551616 := ⟨_, rfl⟩
        rw [← hS]
        obtain ⟨D, hD⟩ : ∃ D, D = x - y := ⟨_, rfl⟩
        obtain ⟨V, hV⟩ : ∃ V, V = (S + D) % 18446744073709551616 := ⟨_, rfl⟩
        have w1' : IntKind.u64.wrap ((x : Int) - (y : Int)) = (D : Int) := by
          have h : IntKind.u64.wrap ((x : Int) - (y : Int)) = ((x : Int) - (y : Int)) % 18446744073709551616 := rfl
          rw [h]; omega
        have w2' : IntKind.u64.wrap ((S : Int) + (D : Int)) = (V : Int) := by
          have h : IntKind.u64.wrap ((S : Int) + (D : Int)) = ((S : Int) + (D : Int)) % 18446744073709551616 := rfl
          rw [h]; omega
        have hVT : V = (T + D) % 18446744073709551616 := by omega
        have hvd : V < D ↔ 18446744073709551616 ≤ S + D := by omega
        have hTD : lackL a b (i + 1) = T + D := by rw [HS.out, hD]
        have HTD := Lib.hid hTD
        have HVT := Lib.hid hVT
        by_cases hF : 18446744073709551616 ≤ T
        · rw [decide_eq_true hF]
          have HF := Lib.hid hF
          clear hVT hvd hTD hV hD hS hF HS
          go_wp2
          go_roundw
          case rel => exact ⟨i + 1, T + D, by rw [← HVT.out], by rw [decide_eq_true (by have := HF.out; omega)], by simp, by omega, HTD.out, by trivial⟩
          case measure => simp [intOf]; omega
        · rw [decide_eq_false hF]
          by_cases hG : V < D
          · have HG := Lib.hid (show 18446744073709551616 ≤ T + D by omega)
            clear hVT hvd hTD hV hD hS hF HS
            go_wp2
            go_roundw
            case rel => exact ⟨i + 1, T + D, by rw [← HVT.out], by rw [decide_eq_true HG.out], by simp, by omega, HTD.out, by trivial⟩
            case measure => simp [intOf]; omega
          · have HG := Lib.hid (show ¬ 18446744073709551616 ≤ T + D by omega)
            clear hVT hvd hTD hV hD hS hF HS
            go_wp2
            go_roundw
            case rel => exact ⟨i + 1, T + D, by rw [← HVT.out], by rw [decide_eq_false HG.out], by simp, by omega, HTD.out, by trivial⟩
            case measure => simp [intOf]; omega
      · have hTD : lackL a b (i + 1) = T := by rw [HS.out]; omega
        have HTD := Lib.hid hTD
        clear hTD HS
        go_wp2
        go_roundw
        case rel => exact ⟨i + 1, T, rfl, rfl, by simp, by omega, HTD.out, by trivial⟩
        case measure => simp [intOf]; omega
    · obtain rfl : i = n := by omega
      have LK := Lib.hid (hl _ _ _ _ _ _ _ _ _ ta1 tb1)
      rw [HT.out] at LK
      by_cases hF : 18446744073709551616 ≤ T
      · rw [decide_eq_true hF]
        rw [show Nat.min T 18446744073709551615 = 18446744073709551615 from Nat.min_eq_right (by omega)] at LK
        clear hF ta1 tb1
        go_wp2_with fail
        refine LK.out.mono ?_
        rintro e w7 ⟨rfl, hb7⟩
        have b7 := b1.trans (hb7.mono b1.size)
        go_wp2
        go_ret
        exact ⟨rfl, b7⟩
      · rw [decide_eq_false hF]
        rw [show Nat.min T 18446744073709551615 = T from Nat.min_eq_left (by omega)] at LK
        rw [Nat.mod_eq_of_lt (show T < 18446744073709551616 by omega)]
        clear hF ta1 tb1
        go_wp2_with fail
        refine LK.out.mono ?_
        rintro e w7 ⟨rfl, hb7⟩
        have b7 := b1.trans (hb7.mono b1.size)
        go_wp2
        go_ret
        exact ⟨rfl, b7⟩
end Go.Proofs.Ytpfmgjfkjjnadaa.Vec
