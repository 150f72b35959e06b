/- (Vector).Lay of any row of at most 64 numbers. -/
import Derived.Test.YtffhepdhkpldlaaDoorVecRead
import Derived.Test.YtffhepdhkpldlaaDoorBCheck
namespace Go.Proofs.YtffhepdhkpldlaaDoor.Vec
open Go Go.RowKit Go.Proofs.YtffhepdhkpldlaaDoor.Words Go.Proofs.YtffhepdhkpldlaaDoor.Enc Go.Proofs.YtffhepdhkpldlaaDoor.Made Go.Proofs.YtffhepdhkpldlaaDoor.Tape
set_option linter.unusedVariables false
set_option linter.unusedSimpArgs false

set_option maxRecDepth 100000 in
set_option maxHeartbeats 2000000 in
theorem vlay_fits (A Q : Option Addr) (n c pn pc : Nat) (v : List Nat) (p : List UInt8) (w : World) (tv : Took2 w A n c v) (hn : n ≤ 64) (hp : Sees w Q pn p) (hpc : pn ≤ pc) (hpc2 : pc ≤ 9223372036854775807) (hpn : pn ≤ 100000) :
    Calls Tryd.prog 27 #[.slice A n c, .slice Q pn pc] w (GivesB w (p ++ layL v)) := by
  have hs : True ∧ ∀ i, at_ v i < 18446744073709551616 := ⟨trivial, tv.2.1⟩
  obtain ⟨K, hK⟩ : ∃ K, K = trimN v n := ⟨_, rfl⟩
  have hKn : K ≤ n := by rw [hK]; exact trimN_le v n
  have hlay : layL v = enc K ++ encs (v.take K) := by unfold layL trimL; rw [tv.1.1, ← hK]
  have HLAY := Lib.hid hlay
  have TR := trim_at A n c v w tv.1 tv.2.2.1 tv.2.2.2.2 tv.2.2.2.1
  unfold Trims at TR
  rw [← hK] at TR
  have LEN := Lib.hid tv.1.1
  have HT := Lib.hid TR
  clear hlay hK TR tv
  have hi := info8
  cases hc : Tryd.prog.info? 5 with
  | none => rw [hc] at hi; cases hi
  | some i =>
  rw [hc] at hi
  simp only [Option.map_some, Option.some.injEq, Prod.mk.injEq] at hi
  obtain ⟨hz, hsz, hby⟩ := hi
  have hi := hc
  clear hc
  go_enter Tryd.func27, Tryd.ntmps27
  go_wp2_with fail
  refine HT.out.mono ?_
  rintro e w0 ⟨R, rc, rfl, own0, b0⟩
  have sr := SeesU.of_own own0
  have hp0 := hp.below b0
  have hw : IntKind.u64.wrap (K : Int) = (K : Int) := by
    have h : IntKind.u64.wrap (K : Int) = (K : Int) % 18446744073709551616 := rfl
    rw [h]; omega
  have SV : Hid (∀ W, Below w0.heap.size w0 W → ∀ j, j < K → ∃ g o, R = some ⟨g, o, none⟩ ∧ W.cell? ⟨g, o + j, none⟩ = some (.int .u64 (at_ v j : Int))) := Lib.hid fun W hW j hj => by
    obtain ⟨g, o, h1, h2⟩ := (sr.below hW).get hj
    rw [at_take, if_pos hj] at h2
    exact ⟨g, o, h1, h2⟩
  clear own0 sr hp HT
  go_wp2_with fail
  refine (lay_any Q pn pc p (K : Int) w0 hp0 (by omega) (by omega) (by omega)).mono ?_
  rintro e w1 ⟨P1, c1, rfl, own1, b1⟩
  rw [Int.toNat_natCast] at own1 ⊢
  obtain ⟨L1, hL1⟩ : ∃ L1, L1 = (enc K).length := ⟨_, rfl⟩
  have hL1' : L1 ≤ 10 := by rw [hL1]; exact enc_ten (by omega)
  have OWN1 := Lib.hid own1
  have HL1 := Lib.hid hL1
  clear own1
  rw [← hL1]
  clear hL1
  have HPN := Lib.hid hp0.1
  clear hp0
  go_wp2_with fail
  go_loopw [1, 17] (fun x y wr => ∃ (P' : Option Addr) (c' M i : Nat), x = .slice P' M c' ∧ y = .int .i64 (i : Int) ∧ i ≤ K ∧ M ≤ pn + 10 + 10 * i ∧ Hid (M = (p ++ (enc K ++ encs (v.take i))).length) ∧
    wr.ownsRow w0.heap.size 5 1 (.slice P' M c') M (cs (p ++ (enc K ++ encs (v.take i)))) ∧ Below w0.heap.size w0 wr) (fun _ y _ => K - (intOf y).toNat)
  case atStart => exact ⟨P1, c1, pn + L1, 0, rfl, rfl, by omega, by omega, by rw [HL1.out]; simp [encs, Hid, HPN.out], by rw [HL1.out]; simpa [encs] using OWN1.out, b1⟩
  case round =>
    obtain ⟨P', c', M, i', rfl, rfl, hi', hM, HM, own, bb⟩ := hrel
    by_cases hlt : i' < K
    · obtain ⟨g, o, rfl, hcell⟩ := SV.out wr bb i' hlt
      have hx := hs.2 i'
      have hst := encs_take v i' (by rw [LEN.out]; omega)
      have HST := Lib.hid hst
      clear hst
      generalize at_ v i' = x at hcell hx HST
      have hbw := bb.size
      have h1 : (i' : Int) < (K : Int) := by omega
      have LX := Lib.hid (lay_any none 0 0 [] (x : Int) wr (Sees.nil _ _) (by decide) (by omega) (by omega))
      have OWN := Lib.hid own
      clear own
      go_wp2_with fail
      refine LX.out.mono ?_
      rintro e w2 ⟨P2, c2, rfl, own2, b2⟩
      rw [Int.toNat_natCast, Nat.zero_add] at own2 ⊢
      rw [List.nil_append] at own2
      have hl2 : (enc x).length ≤ 10 := enc_ten (by omega)
      have hs2 := Sees.of_own own2
      have ownp := Own.below OWN.out b2 (Nat.le_refl _)
      have b22 := bb.trans (b2.mono hbw)
      have hz2 : w0.heap.size ≤ w2.heap.size := b22.size
      clear own2 b2 LX OWN
      have e2 : p ++ (enc K ++ encs (v.take i')) ++ enc x = p ++ (enc K ++ encs (v.take (i' + 1))) := by rw [HST.out]; simp only [List.append_assoc]
      have HM2 := Lib.hid (show M + (enc x).length = (p ++ (enc K ++ encs (v.take (i' + 1)))).length by rw [← e2, List.length_append, ← HM.out])
      have HE2 := Lib.hid e2
      clear e2
      generalize hX : (enc x).length = X at hs2 HM2 hl2 ⊢
      clear hX
      go_wp2_with (first | (at_builtin; refine wpList_app rfl _ _ 27 rfl w0.heap.size 5 i (.int .u8 0) Tryd.underlying27 hi hz hsz hby rfl P' M c' (p ++ (enc K ++ encs (v.take i'))) rfl ownp P2 X c2 (enc x) rfl hs2 ?d1 ?d2 ?_))
      case d1 => omega
      case d2 => exact hz2
      intro P3 c3 w3 own3 b3
      rw [← HST.out] at own3
      have b33 := b22.trans b3
      clear ownp hs2 b22 b3
      go_wp2
      go_roundw
      case rel => exact ⟨P3, c3, M + X, i' + 1, rfl, by simp, by omega, by omega, HM2, own3, b33⟩
      case measure => simp [intOf]; omega
    · obtain rfl : i' = K := by omega
      rw [← HLAY.out] at own HM
      have FIN : Hid (GivesB w (p ++ layL v) (.returned (.slice P' M c')) wr) := Lib.hid (by
        have hMM := HM.out
        subst hMM
        exact ⟨P', c', rfl, Sees.of_own own, (Own.cap own).1, (Own.cap own).2, b0.trans (bb.mono b0.size)⟩)
      clear own HM bb
      go_wp2
      go_ret
      exact FIN.out
end Go.Proofs.YtffhepdhkpldlaaDoor.Vec
