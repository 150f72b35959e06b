/- The law's own reference for a vector's bytes; the law's test for small vectors. -/
import Derived.Test.YtffhepdhkpldlaaDoorVecMath
import Derived.Test.YtffhepdhkpldlaaDoorBPlain
import Derived.Lib.Hide
namespace Go.Proofs.YtffhepdhkpldlaaDoor.Vec
open Go Go.RowKit Go.Proofs.YtffhepdhkpldlaaDoor.Words Go.Proofs.YtffhepdhkpldlaaDoor.Enc Go.Proofs.YtffhepdhkpldlaaDoor.Made
set_option linter.unusedVariables false
set_option linter.unusedSimpArgs false

theorem trimN_yes {v : List Nat} {k : Nat} (h : at_ v k = 0) : trimN v (k + 1) = trimN v k := if_pos h
theorem trimN_no {v : List Nat} {k : Nat} (h : at_ v k ≠ 0) : trimN v (k + 1) = k + 1 := if_neg h
theorem encs_take (v : List Nat) (i : Nat) (h : i < v.length) : encs (v.take (i + 1)) = encs (v.take i) ++ enc (at_ v i) := by
  rw [List.take_add_one, at_lt h, Option.toList_some, encs_snoc]

set_option maxRecDepth 100000 in
set_option maxHeartbeats 1000000 in
theorem refLayV_any (Q A : Option Addr) (pn pc n c : Nat) (p : List UInt8) (v : List Nat) (w : World) (hp : Sees w Q pn p) (hv : SeesU w A n v) (hs : Small v) (hpn : pn ≤ 100000) :
    Calls Tryd.prog 12 #[.slice Q pn pc, .slice A n c] w (New w.heap.size (pn + (layL v).length) (p ++ layL v) w) := by
  have hn : n ≤ 64 := by rw [← hv.1]; exact hs.1
  obtain ⟨K, hK⟩ : ∃ K, K = trimN v n := ⟨_, rfl⟩
  have hKn : K ≤ n := by rw [hK]; exact trimN_le v n
  have hlay : layL v = enc K ++ encs (v.take K) := by unfold layL trimL; rw [hv.1, ← hK]
  have HLAY := Lib.hid hlay
  have HK := Lib.hid hK.symm
  clear hlay hK
  go_enter Tryd.func12, Tryd.ntmps12
  go_wp2_with fail
  go_loopw [5] (fun x wr => ∃ j : Nat, x = .int .i64 (j : Int) ∧ j ≤ n ∧ Hid (trimN v j = K) ∧ w = wr) (fun x _ => (intOf x).toNat)
  case atStart => exact ⟨n, rfl, Nat.le_refl _, HK, rfl⟩
  case round =>
    obtain ⟨j, rfl, hj, HJ, rfl⟩ := hrel
    have rest : j = K → _ := fun h => h
    by_cases h0 : ∃ k, j = k + 1 ∧ at_ v k = 0
    · obtain ⟨k, rfl, hz⟩ := h0
      obtain ⟨g, o, rfl, hcell⟩ := hv.get (j := k) (by omega)
      rw [hz] at hcell
      have HJ' := Lib.hid (by rw [← trimN_yes hz]; exact HJ.out : trimN v k = K)
      clear hz HJ
      go_wp2
      go_roundw
      case rel => exact ⟨k, by simp, by omega, HJ', by trivial⟩
      case measure => simp [intOf]
    · have hjK : j = K := by
        cases j with
        | zero => exact HJ.out
        | succ k => rw [← HJ.out, trimN_no fun h => h0 ⟨k, rfl, h⟩]
      subst hjK
      by_cases hj0 : j = 0
      · subst hj0
        clear h0
        go_wp2_with fail
        refine (refLay_any Q pn pc p 0 w hp (by omega) (by omega) (by omega)).mono ?_
        rintro e w1 ⟨P1, c1, rfl, own1, b1⟩
        rw [show (0 : Int).toNat = 0 from rfl] at own1 ⊢
        obtain ⟨L1, hL1⟩ : ∃ L1, L1 = (enc 0).length := ⟨_, rfl⟩
        have hL1' : L1 ≤ 10 := by rw [hL1]; exact enc_ten (by omega)
        have OWN1 := Lib.hid own1
        have HL1 := Lib.hid hL1
        clear own1
        rw [← hL1]
        clear hL1
        go_wp2_with fail
        go_loopw [0, 6] (fun x y wr => ∃ (P' : Option Addr) (c' M i : Nat), x = .slice P' M c' ∧ y = .int .i64 (i : Int) ∧ i ≤ 0 ∧ M ≤ pn + 10 + 10 * i ∧ Hid (M = (p ++ (enc 0 ++ encs (v.take i))).length) ∧
          wr.ownsRow w.heap.size 5 1 (.slice P' M c') M (cs (p ++ (enc 0 ++ encs (v.take i)))) ∧ Below w.heap.size w wr) (fun _ y _ => 0 - (intOf y).toNat)
        case atStart => exact ⟨P1, c1, pn + L1, 0, rfl, rfl, by omega, by omega, by rw [HL1.out]; simp [encs, Hid, hp.1], by rw [HL1.out]; simpa [encs] using OWN1.out, b1⟩
        case round =>
          obtain ⟨P', c', M, i, rfl, rfl, hi, hM, HM, own, bb⟩ := hrel
          obtain rfl : i = 0 := by omega
          rw [← HLAY.out] at own HM
          go_wp2
          go_ret
          have hMM : M = pn + (layL v).length := by rw [HM.out, List.length_append, hp.1]
          subst hMM
          exact ⟨P', c', rfl, own, bb⟩
      · obtain ⟨g, o, rfl, hcell⟩ := hv.get (j := j - 1) (by omega)
        have hne : at_ v (j - 1) ≠ 0 := fun h => h0 ⟨j - 1, by omega, h⟩
        generalize at_ v (j - 1) = z at hcell hne
        have z1 : ((z : Int) == 0) = false := by rw [beq_eq_false_iff_ne]; omega
        clear hne h0
        go_wp2_with fail
        refine (refLay_any Q pn pc p (j : Int) w hp (by omega) (by omega) (by omega)).mono ?_
        rintro e w1 ⟨P1, c1, rfl, own1, b1⟩
        rw [Int.toNat_natCast] at own1 ⊢
        obtain ⟨L1, hL1⟩ : ∃ L1, L1 = (enc j).length := ⟨_, rfl⟩
        have hL1' : L1 ≤ 10 := by rw [hL1]; exact enc_ten (by omega)
        have OWN1 := Lib.hid own1
        have HL1 := Lib.hid hL1
        clear own1
        rw [← hL1]
        clear hL1
        go_wp2_with fail
        go_loopw [0, 6] (fun x y wr => ∃ (P' : Option Addr) (c' M i : Nat), x = .slice P' M c' ∧ y = .int .i64 (i : Int) ∧ i ≤ j ∧ M ≤ pn + 10 + 10 * i ∧ Hid (M = (p ++ (enc j ++ encs (v.take i))).length) ∧
          wr.ownsRow w.heap.size 5 1 (.slice P' M c') M (cs (p ++ (enc j ++ encs (v.take i)))) ∧ Below w.heap.size w wr) (fun _ y _ => j - (intOf y).toNat)
        case atStart => exact ⟨P1, c1, pn + L1, 0, rfl, rfl, by omega, by omega, by rw [HL1.out]; simp [encs, Hid, hp.1], by rw [HL1.out]; simpa [encs] using OWN1.out, b1⟩
        case round =>
          obtain ⟨P', c', M, i, rfl, rfl, hi, hM, HM, own, bb⟩ := hrel
          by_cases hlt : i < j
          · have hcell := (hv.below bb).cell (j := i) (by omega)
            have hx := hs.2 i
            have hst := encs_take v i (by have := hv.1; omega)
            have HST := Lib.hid hst
            clear hst
            generalize at_ v i = x at hcell hx HST
            have hbw := bb.size
            go_wp2_with fail
            refine (refLay_any P' M c' _ (x : Int) wr (Sees.of_own own) (by omega) (by omega) (by omega)).mono ?_
            rintro e w2 ⟨P2, c2, rfl, own2, b2⟩
            rw [Int.toNat_natCast] at own2 ⊢
            have hl2 : (enc x).length ≤ 10 := enc_ten (by omega)
            have own2 := Own.lower own2 hbw
            have e2 : p ++ (enc j ++ encs (v.take i)) ++ enc x = p ++ (enc j ++ encs (v.take (i + 1))) := by rw [HST.out]; simp only [List.append_assoc]
            rw [e2] at own2
            have HM2 := Lib.hid (show M + (enc x).length = (p ++ (enc j ++ encs (v.take (i + 1)))).length by rw [← e2, List.length_append, ← HM.out])
            have b22 := bb.trans (b2.mono hbw)
            clear e2 own b2
            generalize (enc x).length = X at own2 HM2 hl2 ⊢
            go_wp2
            go_roundw
            case rel => exact ⟨P2, c2, M + X, i + 1, rfl, by simp, by omega, by omega, HM2, own2, b22⟩
            case measure => simp [intOf]; omega
          · obtain rfl : i = j := by omega
            rw [← HLAY.out] at own HM
            go_wp2
            go_ret
            have hMM : M = pn + (layL v).length := by rw [HM.out, List.length_append, hp.1]
            subst hMM
            exact ⟨P', c', rfl, own, bb⟩
end Go.Proofs.YtffhepdhkpldlaaDoor.Vec
