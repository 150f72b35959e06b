/- Order: the law OrderSeeks. -/
import Derived.Test.YtlacihgoammjgaaOrdSd
namespace Go.Proofs.Ytlacihgoammjgaa.Ord
open Go Go.RowKit Go.Proofs.Ytlacihgoammjgaa.Words Go.Proofs.Ytlacihgoammjgaa.Enc Go.Proofs.Ytlacihgoammjgaa.Evt Go.Proofs.Ytlacihgoammjgaa.Seg
set_option linter.unusedVariables false
set_option linter.unusedSimpArgs false

theorem spot_new (w : World) (x y : Value) (T : TypeId) : (w.alloc (.cells #[x, y] T)).cell? ⟨w.heap.size, 0, none⟩ = some x ∧ (w.alloc (.cells #[x, y] T)).cell? ⟨w.heap.size, 1, none⟩ = some y := by
  refine ⟨?_, ?_⟩ <;> (rw [cell_of_row _ w.heap.size _ _ _ (0, 0) (heap_alloc_new w _)]; rfl)
set_option maxRecDepth 100000 in
set_option maxHeartbeats 16000000 in
theorem seeks_law (A : Option Addr) (n c : Nat) (l : List Nat) (ws tm tt : Nat) (sw tw : Int) (near : Bool) (w : World) (h : SeesH w A n l) (hws : ws < 256) (htm : tm < 18446744073709551616) (htt : tt < 18446744073709551616) (hsw : -9223372036854775808 ≤ sw ∧ sw ≤ 9223372036854775807) :
    Calls Try.prog 4 #[.slice A n c, .int .u8 (ws : Int), .agg #[.int .u64 (tm : Int), .int .i64 sw], .agg #[.int .u64 (tt : Int), .int .i64 tw], .bool near] w fun e w' => e = .returned (.bool true) ∧ Below w.heap.size w w' := by
  have AW := fun w => awake_yes w
  have hnot : ∀ (x : Bool) (w : World), (Op.unary .not (.bool x)).run Try.prog w = .ok (.bool (!x)) w := fun _ _ => rfl
  obtain ⟨w0, hw0⟩ : ∃ u, u = w.alloc (.cells #[.int .u64 (tm : Int), .int .i64 sw] 42) := ⟨_, rfl⟩
  obtain ⟨w1, hw1⟩ : ∃ u, u = w0.alloc (.cells #[.int .u64 (tt : Int), .int .i64 tw] 42) := ⟨_, rfl⟩
  have b0 : Below w.heap.size w w0 := by rw [hw0]; exact (Below.refl _ _).alloc (Nat.le_refl _) _
  have hsz : w0.heap.size = w.heap.size + 1 := by rw [hw0]; simp
  have b01 : Below w0.heap.size w0 w1 := by rw [hw1]; exact (Below.refl _ _).alloc (Nat.le_refl _) _
  have b1 : Below w.heap.size w w1 := b0.trans (b01.mono b0.size)
  obtain ⟨b7, hb7⟩ : ∃ b, b = w.heap.size := ⟨_, rfl⟩
  obtain ⟨b8, hb8⟩ : ∃ b, b = w.heap.size + 1 := ⟨_, rfl⟩
  have g7 : w1.heap[b7]? = some (.cells #[.int .u64 (tm : Int), .int .i64 sw] 42 (0, 0)) := (b01.block b7 (by omega)).trans (by rw [hw0, hb7]; exact heap_alloc_new w _)
  have g8 : w1.heap[b8]? = some (.cells #[.int .u64 (tt : Int), .int .i64 tw] 42 (0, 0)) := by rw [hw1, hb8, ← hsz]; exact heap_alloc_new w0 _
  have HW0 := Lib.hid hw0
  have HW1 := Lib.hid hw1
  have HB7 := Lib.hid hb7
  have HB8 := Lib.hid hb8
  have HB1 := Lib.hid b1
  have HG1 := Lib.hid (And.intro g7 g8)
  have HSS := Lib.hid (fun W (hW : Below w.heap.size w W) => h.below hW)
  have hn78 : ¬ b7 = b8 := by omega
  have hn87 : ¬ b8 = b7 := by omega
  clear hw0 hw1 hb7 hb8 b0 b01 b1 hsz g7 g8 h
  by_cases hbig : 60 < n
  · have zb : (60 : Int) < (n : Int) := by omega
    go_enter Try.func4, Try.ntmps4
    go_upto_region 1 with fail
    rw [← HW0.out, ← HW1.out, ← HB8.out, ← HB7.out]
    go_wp2_with fail
    refine (AW w1).mono ?_
    rintro e w2 ⟨rfl, hb2⟩
    go_wp2_with fail
    refine (AW w2).mono ?_
    rintro e w3 ⟨rfl, hb3⟩
    have HF := Lib.hid (HB1.out.trans ((hb2.trans (hb3.mono hb2.size)).mono HB1.out.size))
    clear hb2 hb3
    go_wp2
    go_ret
    exact ⟨rfl, HF.out⟩
  · have zb : (n : Int) ≤ 60 := by omega
    obtain ⟨wn, hwn⟩ : ∃ wn, wn = 1 + ws % 6 := ⟨_, rfl⟩
    have zw : (1 : Int) + (ws : Int) % 6 = (wn : Int) := by omega
    have zw1 : 1 ≤ wn := by omega
    have zw6 : wn ≤ 6 := by omega
    have hn60 : n ≤ 60 := by omega
    clear hwn hbig
    go_enter Try.func4, Try.ntmps4
    go_upto_region 1 with fail
    rw [← HW0.out, ← HW1.out, ← HB8.out, ← HB7.out]
    go_wp2_with fail
    refine (AW w1).mono ?_
    rintro e w2 ⟨rfl, hb2⟩
    have hg7 := (hb2.block b7 (Array.getElem?_eq_some_iff.1 HG1.out.1).1).trans HG1.out.1
    have hg8 := (hb2.block b8 (Array.getElem?_eq_some_iff.1 HG1.out.2).1).trans HG1.out.2
    have HG2 := Lib.hid (And.intro hg7 hg8)
    have HB2 := Lib.hid (HB1.out.trans (hb2.mono HB1.out.size))
    clear hb2 hg7 hg8 HG1 HB1
    cases near with
    | false =>
      have HG3 := Lib.hid HG2.out
      have HB3 := HB2
      obtain ⟨w3, rfl⟩ : ∃ w3 : World, w3 = w2 := ⟨_, rfl⟩
      clear HG2 HB2
      go_wp2_with fail
      refine (feeds_any A n c wn l w3 (HSS.out _ HB3.out) (by omega) (by omega) (by omega)).mono ?_
      rintro e w4 ⟨L, T, rfl, FE⟩
      have hGL := feeds_good FE (by omega) (by omega)
      have hfl := FE.few
      have hLn := FE.lenL
      have HRT := Lib.hid (feeds_right FE (by omega) (by omega))
      have HAN := Lib.hid (feeds_anti FE)
      have hg4 := (FE.below.block b7 (Array.getElem?_eq_some_iff.1 HG3.out.1).1).trans HG3.out.1
      have hg48 := (FE.below.block b8 (Array.getElem?_eq_some_iff.1 HG3.out.2).1).trans HG3.out.2
      have HB4 := Lib.hid (HB3.out.trans (FE.below.mono HB3.out.size))
      have HGL := Lib.hid hGL
      obtain ⟨ob, hob⟩ : ∃ b, b = w3.heap.size := ⟨_, rfl⟩
      rw [← hob] at HGL ⊢
      have WH := refWhole_any (some ⟨ob, 0, none⟩) wn L w4 HGL.out.lists (Nat.le_refl _) (by omega) (by omega)
      rw [hLn] at WH
      have HWH := Lib.hid WH
      have HG4 := Lib.hid (And.intro hg4 hg48)
      have HLN := Lib.hid hLn
      have HF0 := Lib.hid (show (flat L).length ≤ 60 by omega)
      clear WH hGL FE hg4 hg48 hLn hob hfl HG3 HB3
      clear T
      go_wp2_with fail
      refine HWH.out.mono ?_
      rintro e w5 ⟨AR, cR, R, rfl, hown, hperm, hrise, hb5⟩
      have hRl := hperm.length_eq
      have HRW := Lib.hid hown
      have HPR := Lib.hid (And.intro hperm (And.intro hrise hRl))
      have hg5 := (hb5.block b7 (Array.getElem?_eq_some_iff.1 HG4.out.1).1).trans HG4.out.1
      have hg58 := (hb5.block b8 (Array.getElem?_eq_some_iff.1 HG4.out.2).1).trans HG4.out.2
      have HG5 := Lib.hid (And.intro hg5 hg58)
      have HB45 := Lib.hid hb5
      have HB5 := Lib.hid (HB4.out.trans (hb5.mono HB4.out.size))
      have NW := onew_any (some ⟨ob, 0, none⟩) wn L w5 (HGL.out.later hb5 hb5.size) (by rw [HLN.out]; omega) (by have := HF0.out; omega)
      rw [HLN.out] at NW
      have HNW := Lib.hid NW
      obtain ⟨F, hF⟩ : ∃ F, F = (flat L).length := ⟨_, rfl⟩
      rw [← hF] at HRW HF0 ⊢
      have HFF := Lib.hid hF
      clear hown hperm hrise hRl hb5 hF HWH HB4 NW hg5 hg58 HG4
      go_wp2_with fail
      refine HNW.out.mono ?_
      rintro e w6 ⟨p, hs0, L1, rfl, hA0, hp0, hev, hL1, hevj, htx, hBp, hb6⟩
      have hfp : (flat hs0).Perm (flat L1) := (flat_perm hp0).trans (by rw [flat_filter])
      have hpe : (R.map EvS.e).Perm ((flat hs0).map EvS.e) := ((HPR.out.1.map EvS.e).trans (by rw [← hev])).trans (hfp.map EvS.e).symm
      have hris1 : ∀ x ∈ hs0, Rises x.S := fun x hx => by
        have hx1 := (List.mem_filter.1 (hp0.mem_iff.1 hx)).1
        obtain ⟨j, hj, hje⟩ := List.getElem_of_mem hx1
        have hjL : j < L.length := by rw [← hL1]; exact hj
        have h1 := hevj j hjL
        have h2 : HV.at_ L1 j = x := by simp [HV.at_, List.getD_eq_getElem?_getD, List.getElem?_eq_getElem hj, hje]
        have h3 : HV.at_ L j = L[j] := by simp [HV.at_, List.getD_eq_getElem?_getD, List.getElem?_eq_getElem hjL]
        rw [h2, h3] at h1
        have h4 := rises_bare (HGL.out.rise _ (List.getElem_mem hjL))
        rw [← h1] at h4
        unfold Rises at *
        rw [List.map_map, List.pairwise_map] at h4
        exact h4.imp fun h => h
      have hps : p < w6.heap.size := by obtain ⟨⟨A0, c0, hat0⟩, _⟩ := hA0; exact (Array.getElem?_eq_some_iff.1 hat0.box).1
      have hw5p : w5.heap.size ≤ p := hBp
      have HC0 := Lib.hid (show ∃ hs, Cur p w6 R 0 hs w6 from ⟨hs0, hA0, hris1, by rw [List.drop_zero]; exact hpe.symm, fun r hr => htx r (hfp.mem_iff.1 hr), Below.refl _ _⟩)
      have hg6 := (hb6.block b7 (Array.getElem?_eq_some_iff.1 HG5.out.1).1).trans HG5.out.1
      have hg68 := (hb6.block b8 (Array.getElem?_eq_some_iff.1 HG5.out.2).1).trans HG5.out.2
      have HB56 := Lib.hid hb6
      have HB6 := Lib.hid (HB5.out.trans (hb6.mono HB5.out.size))
      have c70 : w6.cell? ⟨b7, 0, none⟩ = some (.int .u64 (tm : Int)) := by rw [cell_of_row w6 _ 0 _ _ _ hg6]; rfl
      have c71 : w6.cell? ⟨b7, 1, none⟩ = some (.int .i64 sw) := by rw [cell_of_row w6 _ 1 _ _ _ hg6]; rfl
      have c80 : w6.cell? ⟨b8, 0, none⟩ = some (.int .u64 (tt : Int)) := by rw [cell_of_row w6 _ 0 _ _ _ hg68]; rfl
      have c81 : w6.cell? ⟨b8, 1, none⟩ = some (.int .i64 tw) := by rw [cell_of_row w6 _ 1 _ _ _ hg68]; rfl
      clear hfp hpe hris1 hp0 hev hevj htx hb6 HNW hL1 hA0 hg6 hg68 HG5
      go_wp2_with fail
      have hC0 : Hid ((∃ hs, Cur p w6 R 0 hs (w6.alloc (.cells #[.int .u64 (tm : Int), .int .i64 sw, .int .u64 (tt : Int), .int .i64 tw, .int .u64 (tm : Int), .int .i64 sw] 42))) ∧ (w6.alloc (.cells #[.int .u64 (tm : Int), .int .i64 sw, .int .u64 (tt : Int), .int .i64 tw, .int .u64 (tm : Int), .int .i64 sw] 42)).heap[w6.heap.size]? = some (.cells #[.int .u64 (tm : Int), .int .i64 sw, .int .u64 (tt : Int), .int .i64 tw, .int .u64 (tm : Int), .int .i64 sw] 42 (0, 0))) := by
        obtain ⟨hs, hc⟩ := HC0.out
        exact Lib.hid ⟨⟨hs, hc.below2 ((Below.refl _ _).alloc (Nat.le_refl _) _)⟩, heap_alloc_new w6 _⟩
      obtain ⟨wa, hwa⟩ : ∃ u, u = w6.alloc (.cells #[.int .u64 (tm : Int), .int .i64 sw, .int .u64 (tt : Int), .int .i64 tw, .int .u64 (tm : Int), .int .i64 sw] 42) := ⟨_, rfl⟩
      obtain ⟨sb, hsb⟩ : ∃ b, b = w6.heap.size := ⟨_, rfl⟩
      rw [← hwa, ← hsb] at hC0
      rw [← hwa, ← hsb]
      clear hwa hsb c70 c71 c80 c81 HC0
      go_loopw [14, 16, 17, 18, 19, 56, 57, 58, 59, 60, 61, 62, 63, 64, 65, 66, 67, 68, 69, 70, 71, 72, 73, 74, 75, 76, 77, 78, 79, 80, 81, 82, 83, 84, 85, 86, 87, 88, 89, 90, 91, 92, 93, 94, 95, 96, 97, 98, 99, 100, 101, 102, 103, 104, 105] (fun a14 a16 a17 a18 a19 a56 a57 a58 a59 a60 a61 a62 a63 a64 a65 a66 a67 a68 a69 a70 a71 a72 a73 a74 a75 a76 a77 a78 a79 a80 a81 a82 a83 a84 a85 a86 a87 a88 a89 a90 a91 a92 a93 a94 a95 a96 a97 a98 a99 a100 a101 a102 a103 a104 a105 wr => ∃ q i : Nat, a56 = .int .i64 (q : Int) ∧ a14 = .int .i64 (i : Int) ∧ q ≤ 3 ∧ i ≤ F ∧ Hid ((∃ hs, Cur p w6 R i hs wr) ∧ wr.heap[sb]? = some (.cells #[.int .u64 (tm : Int), .int .i64 sw, .int .u64 (tt : Int), .int .i64 tw, .int .u64 (tm : Int), .int .i64 sw] 42 (0, 0)))) (fun a14 a16 a17 a18 a19 a56 a57 a58 a59 a60 a61 a62 a63 a64 a65 a66 a67 a68 a69 a70 a71 a72 a73 a74 a75 a76 a77 a78 a79 a80 a81 a82 a83 a84 a85 a86 a87 a88 a89 a90 a91 a92 a93 a94 a95 a96 a97 a98 a99 a100 a101 a102 a103 a104 a105 _ => 3 - (intOf a56).toNat)
      case atStart => exact ⟨0, 0, rfl, rfl, by omega, Nat.zero_le _, hC0⟩
      case round =>
        obtain ⟨q, i0, rfl, rfl, hq, hi0, HR⟩ := hrel
        obtain ⟨wo, rfl⟩ : ∃ wo : World, wo = wr := ⟨_, rfl⟩
        by_cases hlq : q < 3
        · obtain ⟨xt, xw, s0, s1⟩ : ∃ (xt : Nat) (xw : Int), wo.cell? ⟨sb, q * 2, none⟩ = some (.int .u64 (xt : Int)) ∧ wo.cell? ⟨sb, q * 2 + 1, none⟩ = some (.int .i64 xw) := by
            have hc := HR.out.2
            match q, hlq with
            | 0, _ => exact ⟨tm, sw, by rw [cell_of_row _ sb _ _ _ _ hc]; rfl, by rw [cell_of_row _ sb _ _ _ _ hc]; rfl⟩
            | 1, _ => exact ⟨tt, tw, by rw [cell_of_row _ sb _ _ _ _ hc]; rfl, by rw [cell_of_row _ sb _ _ _ _ hc]; rfl⟩
            | 2, _ => exact ⟨tm, sw, by rw [cell_of_row _ sb _ _ _ _ hc]; rfl, by rw [cell_of_row _ sb _ _ _ _ hc]; rfl⟩
          have zq : (q : Int) < 3 := by omega
          have zq0 : (0 : Int) ≤ (q : Int) := by omega
          have HX := Lib.hid (And.intro (Below.refl wo.heap.size wo |>.alloc (Nat.le_refl _) (.cells #[.int .u64 (xt : Int), .int .i64 xw] 42)) (spot_new wo (.int .u64 (xt : Int)) (.int .i64 xw) 42))
          go_wp2_with fail
          obtain ⟨wb, hwb⟩ : ∃ u, u = wo.alloc (.cells #[.int .u64 (xt : Int), .int .i64 xw] 42) := ⟨_, rfl⟩
          obtain ⟨b16, hb16⟩ : ∃ b, b = wo.heap.size := ⟨_, rfl⟩
          rw [← hwb, ← hb16] at HX
          rw [← hwb, ← hb16]
          obtain ⟨hbx, k0, k1⟩ := HX.out
          have h16 : b16 < wb.heap.size := World.block_lt_of_cell? _ _ k0
          have HBB := Lib.hid (by rw [hb16] at hbx; exact hbx : Below wo.heap.size wo wb)
          have HRb := Lib.hid (show (∃ hs, Cur p w6 R i0 hs wb) ∧ wb.heap[sb]? = some (.cells #[.int .u64 (tm : Int), .int .i64 sw, .int .u64 (tt : Int), .int .i64 tw, .int .u64 (tm : Int), .int .i64 sw] 42 (0, 0)) from by
            obtain ⟨⟨hs, hc⟩, h2⟩ := HR.out
            exact ⟨⟨hs, hc.below2 HBB.out⟩, (HBB.out.block sb (Array.getElem?_eq_some_iff.1 h2).1).trans h2⟩)
          clear hwb hb16 hbx s0 s1 HX HR
          go_loopw [14, 17, 60, 61, 62, 63, 64, 65, 66, 67, 68, 69, 70, 71, 72, 73, 74, 75, 76, 77] (fun b14 b17 b60 b61 b62 b63 b64 b65 b66 b67 b68 b69 b70 b71 b72 b73 b74 b75 b76 b77 W => ∃ k : Nat, b14 = .int .i64 ((i0 + k : Nat) : Int) ∧ b17 = .int .i64 (k : Int) ∧ i0 + k ≤ F ∧ Hid (Below wb.heap.size wb W ∧ ∀ j, j < k → aftB xt xw (evAt R (i0 + j)) = false)) (fun b14 b17 b60 b61 b62 b63 b64 b65 b66 b67 b68 b69 b70 b71 b72 b73 b74 b75 b76 b77 _ => F - (intOf b14).toNat)
          case atStart => exact ⟨0, rfl, rfl, hi0, Lib.hid ⟨Below.refl _ _, fun j hj => absurd hj (by omega)⟩⟩
          case round =>
            obtain ⟨k, rfl, rfl, hk, HK⟩ := hrel
            obtain ⟨i, hie0⟩ : ∃ i, i = i0 + k := ⟨_, rfl⟩
            rw [← hie0] at hk ⊢
            have HIE := Lib.hid hie0
            clear hie0
            have j0 := (HK.out.1.cell (p := ⟨b16, 0, none⟩) h16).trans k0
            have j1 := (HK.out.1.cell (p := ⟨b16, 1, none⟩) h16).trans k1
            have HKR := Lib.hid (show (∃ hs, Cur p w6 R i0 hs wr) ∧ wr.heap[sb]? = some (.cells #[.int .u64 (tm : Int), .int .i64 sw, .int .u64 (tt : Int), .int .i64 tw, .int .u64 (tm : Int), .int .i64 sw] 42 (0, 0)) from by
              obtain ⟨⟨hs, hc⟩, h2⟩ := HRb.out
              exact ⟨⟨hs, hc.below2 HK.out.1⟩, (HK.out.1.block sb (Array.getElem?_eq_some_iff.1 h2).1).trans h2⟩)
            have hR60 : R.length ≤ 60 := by rw [HPR.out.2.2, ← HFF.out]; exact HF0.out
            have hRF : R.length = F := by rw [HPR.out.2.2, ← HFF.out]
            have HRF := Lib.hid (And.intro hR60 hRF)
            have SEEK : ∀ W, Below wr.heap.size wr W → (i = F ∨ aftB xt xw (evAt R i) = true) → Calls Try.prog 18 #[.pointer (some ⟨p, 0, none⟩), .agg #[.int .u64 (xt : Int), .int .i64 xw]] W fun e w' => e = .returned (.int .i64 (k : Int)) ∧ Hid ((∃ hs', Cur p w6 R i hs' w') ∧ w'.heap[sb]? = some (.cells #[.int .u64 (tm : Int), .int .i64 sw, .int .u64 (tt : Int), .int .i64 tw, .int .u64 (tm : Int), .int .i64 sw] 42 (0, 0))) := fun W hW hex => by
              obtain ⟨⟨hs, hc⟩, h2⟩ := HKR.out
              have hcnt := count_first HPR.out.2.1 xt xw (q := i0) (k := k) (by rw [HRF.out.2, ← HIE.out]; exact hk) HK.out.2 (by rw [HRF.out.2, ← HIE.out]; exact hex)
              refine ((hc.below2 hW).seek HPR.out.2.1 HRF.out.1 xt xw k hcnt).mono ?_
              rintro e w' ⟨rfl, h3, h4⟩
              rw [HIE.out]
              exact ⟨rfl, Lib.hid ⟨h3.out, h4.out sb _ _ ((hW.block sb (Array.getElem?_eq_some_iff.1 h2).1).trans h2)⟩⟩
            have HSK := Lib.hid SEEK
            have zk60 : (k : Int) ≤ 60 := by have := HIE.out; have := HF0.out; omega
            have zi60 : (i : Int) ≤ 60 := by have := HF0.out; omega
            have zi0 : (0 : Int) ≤ (i : Int) := by omega
            clear SEEK hR60 hRF
            by_cases hlt : i < F
            · have hiR : i < R.length := by rw [HRF.out.2]; exact hlt
              have hb6W : Below p w6 wr := by obtain ⟨⟨hs, hc⟩, _⟩ := HKR.out; exact hc.below
              have hb5W : Below w5.heap.size w5 wr := HB56.out.trans (hb6W.mono hw5p)
              have hraw : RawEv wr AR R := RawEv.of_own (own_below8 HRW.out hb5W (Nat.le_refl _))
              obtain ⟨gR, hAR, _⟩ := own_at8 HRW.out (by omega)
              subst hAR
              obtain ⟨_, _, hAe, hcR⟩ := hraw (by omega)
              cases hAe
              have hx := RawEv.cells_at (w := wr) (b := gR) (o := 0) (S := R) (k := i) hcR hiR
              simp only [Nat.zero_add] at hx
              obtain ⟨x, hxd⟩ : ∃ x, x = evAt R i := ⟨_, rfl⟩
              rw [← hxd] at hx
              have HXD := Lib.hid hxd
              have HC := Lib.hid (And.intro j0 (And.intro j1 hx))
              have keep : ∀ W, Below wr.heap.size wr W → (W.cell? ⟨b16, 0, none⟩ = some (.int .u64 (xt : Int)) ∧ W.cell? ⟨b16, 1, none⟩ = some (.int .i64 xw) ∧ (W.cell? ⟨gR, i * 8, none⟩ = some (.int .i64 x.e.writer) ∧ W.cell? ⟨gR, i * 8 + 1, none⟩ = some (.int .u64 (x.e.seq : Int)) ∧ W.cell? ⟨gR, i * 8 + 2, none⟩ = some (.int .u64 (x.e.time : Int)) ∧ W.cell? ⟨gR, i * 8 + 3, none⟩ = some (.int .u8 (x.e.kind : Int)) ∧ W.cell? ⟨gR, i * 8 + 4, none⟩ = some (.string x.e.key) ∧ W.cell? ⟨gR, i * 8 + 5, none⟩ = some (.slice x.A x.n x.c) ∧ W.cell? ⟨gR, i * 8 + 6, none⟩ = some (.float .f64 x.e.num) ∧ W.cell? ⟨gR, i * 8 + 7, none⟩ = some (.int .i64 x.e.node))) := fun W hb2 => by
                have old : ∀ {q : Addr} {v : Value}, wr.cell? q = some v → W.cell? q = some v := fun {q v} hq => by rw [hb2.cell (World.block_lt_of_cell? _ _ hq)]; exact hq
                obtain ⟨m1, m2, e0, e1, e2, e3, e4, e5, e6, e7⟩ := HC.out
                exact ⟨old m1, old m2, old e0, old e1, old e2, old e3, old e4, old e5, old e6, old e7⟩
              have HAT : ∀ (w0 : World), Below wr.heap.size wr w0 → Calls Try.prog 17 #[.agg #[.int .i64 x.e.writer, .int .u64 (x.e.seq : Int), .int .u64 (x.e.time : Int), .int .u8 (x.e.kind : Int), .string x.e.key, .slice x.A x.n x.c, .float .f64 x.e.num, .int .i64 x.e.node]] w0 fun e W => e = .returned (.agg #[.int .u64 (x.e.time : Int), .int .i64 x.e.writer]) ∧ Hid (Below wr.heap.size wr W) ∧ (W.cell? ⟨b16, 0, none⟩ = some (.int .u64 (xt : Int)) ∧ W.cell? ⟨b16, 1, none⟩ = some (.int .i64 xw) ∧ (W.cell? ⟨gR, i * 8, none⟩ = some (.int .i64 x.e.writer) ∧ W.cell? ⟨gR, i * 8 + 1, none⟩ = some (.int .u64 (x.e.seq : Int)) ∧ W.cell? ⟨gR, i * 8 + 2, none⟩ = some (.int .u64 (x.e.time : Int)) ∧ W.cell? ⟨gR, i * 8 + 3, none⟩ = some (.int .u8 (x.e.kind : Int)) ∧ W.cell? ⟨gR, i * 8 + 4, none⟩ = some (.string x.e.key) ∧ W.cell? ⟨gR, i * 8 + 5, none⟩ = some (.slice x.A x.n x.c) ∧ W.cell? ⟨gR, i * 8 + 6, none⟩ = some (.float .f64 x.e.num) ∧ W.cell? ⟨gR, i * 8 + 7, none⟩ = some (.int .i64 x.e.node))) := fun w0 hW => by
                refine (refAt_any x.e x.A x.n x.c w0).mono ?_
                rintro e w' ⟨rfl, hb⟩
                have hb2 := hW.trans (hb.mono hW.size)
                exact ⟨rfl, Lib.hid hb2, keep _ hb2⟩
              have HAH : ∀ (w0 : World), Below wr.heap.size wr w0 → Calls Try.prog 16 #[.agg #[.int .u64 (xt : Int), .int .i64 xw], .agg #[.int .u64 (x.e.time : Int), .int .i64 x.e.writer]] w0 fun e W => e = .returned (.bool (aftB xt xw x)) ∧ Hid (Below wr.heap.size wr W) ∧ (W.cell? ⟨b16, 0, none⟩ = some (.int .u64 (xt : Int)) ∧ W.cell? ⟨b16, 1, none⟩ = some (.int .i64 xw) ∧ (W.cell? ⟨gR, i * 8, none⟩ = some (.int .i64 x.e.writer) ∧ W.cell? ⟨gR, i * 8 + 1, none⟩ = some (.int .u64 (x.e.seq : Int)) ∧ W.cell? ⟨gR, i * 8 + 2, none⟩ = some (.int .u64 (x.e.time : Int)) ∧ W.cell? ⟨gR, i * 8 + 3, none⟩ = some (.int .u8 (x.e.kind : Int)) ∧ W.cell? ⟨gR, i * 8 + 4, none⟩ = some (.string x.e.key) ∧ W.cell? ⟨gR, i * 8 + 5, none⟩ = some (.slice x.A x.n x.c) ∧ W.cell? ⟨gR, i * 8 + 6, none⟩ = some (.float .f64 x.e.num) ∧ W.cell? ⟨gR, i * 8 + 7, none⟩ = some (.int .i64 x.e.node))) := fun w0 hW => by
                refine (ahead_any xt xw x.e.time x.e.writer w0).mono ?_
                rintro e w' ⟨rfl, hb⟩
                have hb2 := hW.trans (hb.mono hW.size)
                exact ⟨rfl, Lib.hid hb2, keep _ hb2⟩
              have zi : (i : Int) < (F : Int) := by omega
              obtain ⟨e0, e1, e2, e3, e4, e5, e6, e7⟩ := hx
              clear keep hraw hcR hxd
              obtain ⟨av, hav⟩ : ∃ av, aftB xt xw x = av := ⟨_, rfl⟩
              rw [hav] at HAH
              have HAV := Lib.hid hav
              clear hav
              go_wp2_with fail
              go_region_held3 (fun W => (W.cell? ⟨b16, 0, none⟩ = some (.int .u64 (xt : Int)) ∧ W.cell? ⟨b16, 1, none⟩ = some (.int .i64 xw) ∧ (W.cell? ⟨gR, i * 8, none⟩ = some (.int .i64 x.e.writer) ∧ W.cell? ⟨gR, i * 8 + 1, none⟩ = some (.int .u64 (x.e.seq : Int)) ∧ W.cell? ⟨gR, i * 8 + 2, none⟩ = some (.int .u64 (x.e.time : Int)) ∧ W.cell? ⟨gR, i * 8 + 3, none⟩ = some (.int .u8 (x.e.kind : Int)) ∧ W.cell? ⟨gR, i * 8 + 4, none⟩ = some (.string x.e.key) ∧ W.cell? ⟨gR, i * 8 + 5, none⟩ = some (.slice x.A x.n x.c) ∧ W.cell? ⟨gR, i * 8 + 6, none⟩ = some (.float .f64 x.e.num) ∧ W.cell? ⟨gR, i * 8 + 7, none⟩ = some (.int .i64 x.e.node)))) (first | exact ⟨j0, j1, e0, e1, e2, e3, e4, e5, e6, e7⟩ | go_keep | assumption)
                (first
                  | (go_at_call 17
                     refine (HAT _ ?h1).mono ?_
                     case h1 => first | exact Below.refl _ _ | exact (Below.refl _ _).drew | exact Hid.out (by assumption)
                     rintro e w' ⟨rfl, hb, q0, q1, q2, q3, q4, q5, q6, q7, q8, q9⟩)
                  | (go_at_call 16
                     refine (HAH _ ?h1).mono ?_
                     case h1 => first | exact Below.refl _ _ | exact (Below.refl _ _).drew | exact Hid.out (by assumption)
                     rintro e w' ⟨rfl, hb, q0, q1, q2, q3, q4, q5, q6, q7, q8, q9⟩))
              cases av with
              | false =>
                have HK2 := Lib.hid (show Below wb.heap.size wb w' ∧ ∀ j, j < k + 1 → aftB xt xw (evAt R (i0 + j)) = false from ⟨HK.out.1.trans (hb.out.mono HK.out.1.size), fun j hj => by
                  rcases Nat.lt_or_ge j k with h1 | h1
                  · exact HK.out.2 j h1
                  · obtain rfl : j = k := by omega
                    rw [← HIE.out, ← HXD.out]; exact HAV.out⟩)
                have hik : i + 1 = i0 + (k + 1) := by have := HIE.out; omega
                have HIK := Lib.hid hik
                clear hik HAT HAH HC hb q0 q1 q2 q3 q4 q5 q6 q7 q8 q9 e0 e1 e2 e3 e4 e5 e6 e7 j0 j1 HSK HKR HK HAV
                go_wp2
                go_roundw
                case rel => exact ⟨k + 1, by rw [← HIK.out]; simp, by simp, by have := HIK.out; omega, HK2⟩
                case measure => simp [intOf]; omega
              | true =>
                have HS := Lib.hid (HSK.out w' hb.out (.inr (by rw [← HXD.out]; exact HAV.out)))
                clear HAT HAH HC hb q2 q3 q4 q5 q6 q7 q8 q9 e0 e1 e2 e3 e4 e5 e6 e7 j0 j1 HSK HKR HK HAV
                go_wp2_with fail
                refine HS.out.mono ?_
                rintro e w7 ⟨rfl, H7⟩
                obtain ⟨⟨hs7, hc7⟩, hsb7⟩ := H7.out
                obtain ⟨r, hre, hrt, NX⟩ := hc7.next HPR.out.2.1 HRF.out.1 (fun a b ha hb => HAN.out a b (HPR.out.1.mem_iff.1 ha) (HPR.out.1.mem_iff.1 hb)) hiR
                have hri : Right r.e ∧ r.e.num < 18446744073709551616 := by
                  rw [hre]; exact HRT.out _ (HPR.out.1.mem_iff.1 (List.mem_of_getElem? (evAt_get hiR)))
                have HNX := Lib.hid NX
                have HRI := Lib.hid hri
                have HRE := Lib.hid (And.intro hre hrt)
                have HSB7 := Lib.hid hsb7
                clear hc7 hsb7 NX hri hre hrt HS H7 q0 q1
                go_wp2_with fail
                refine HNX.out.mono ?_
                rintro e w8 ⟨rfl, H8, HP8⟩
                have HSB8 := Lib.hid (HP8.out sb _ _ HSB7.out)
                have G3 := Lib.hid (show (w8.alloc (.cells zeroE 34)).heap[w8.heap.size]? = some (.cells zeroE 34 (0, 0)) from heap_alloc_new w8 _)
                unfold zeroE at G3
                have hsf := store_float Try.prog
                clear HNX HP8
                go_wp2_with (first
                  | (refine wpList_putRow rfl 34 (.tmp 18) (.tmp 90) rfl w8.heap.size 34 zeroE (r.e.row r.A r.n r.c) rfl rfl ?g1 (by kernel_rfl) rfl (by simp [Ev.row, Value.oneCell']) ?_))
                case g1 => exact G3.out
                intro W3 hW3 hbe3
                have hb3 : Below w8.heap.size w8 W3 := Below.beside ((Below.refl _ _).alloc (Nat.le_refl _) _) hbe3 (by simp) (by simp)
                obtain ⟨b18, hb18⟩ : ∃ b, b = w8.heap.size := ⟨_, rfl⟩
                rw [← hb18] at hW3 ⊢
                obtain ⟨hs8, hc8⟩ := H8.out
                have hc3 := hc8.below2 hb3
                have hb53 : Below w5.heap.size w5 W3 := HB56.out.trans (hc3.below.mono hw5p)
                have hraw : RawEv W3 (some ⟨gR, 0, none⟩) R := RawEv.of_own (own_below8 HRW.out hb53 (Nat.le_refl _))
                obtain ⟨_, _, hAe, hcR⟩ := hraw (by omega)
                cases hAe
                have hx := RawEv.cells_at (w := W3) (b := gR) (o := 0) (S := R) (k := i) hcR hiR
                simp only [Nat.zero_add] at hx
                have hxm := HPR.out.1.mem_iff.1 (List.mem_of_getElem? (evAt_get hiR))
                have hxt3 := ((HGL.out.text _ hxm).below (HB45.out.trans (hb53.mono HB45.out.size))).sees
                have he := HRE.out.1
                rw [← HXD.out] at hx hxt3 he
                rw [← he] at hx hxt3
                have hrt3 := (HRE.out.2.below hc3.below).sees
                obtain ⟨d0, d1, d2, d3, d4, d5, d6, d7⟩ := box8 hW3
                obtain ⟨e0, e1, e2, e3, e4, e5, e6, e7⟩ := hx
                have HC := Lib.hid (show ((W3.cell? ⟨b18, 0, none⟩ = some (.int .i64 r.e.writer) ∧ W3.cell? ⟨b18, 1, none⟩ = some (.int .u64 (r.e.seq : Int)) ∧ W3.cell? ⟨b18, 2, none⟩ = some (.int .u64 (r.e.time : Int)) ∧ W3.cell? ⟨b18, 3, none⟩ = some (.int .u8 (r.e.kind : Int)) ∧ W3.cell? ⟨b18, 4, none⟩ = some (.string r.e.key) ∧ W3.cell? ⟨b18, 5, none⟩ = some (.slice r.A r.n r.c) ∧ W3.cell? ⟨b18, 6, none⟩ = some (.float .f64 r.e.num) ∧ W3.cell? ⟨b18, 7, none⟩ = some (.int .i64 r.e.node)) ∧ (W3.cell? ⟨gR, i * 8, none⟩ = some (.int .i64 r.e.writer) ∧ W3.cell? ⟨gR, i * 8 + 1, none⟩ = some (.int .u64 (r.e.seq : Int)) ∧ W3.cell? ⟨gR, i * 8 + 2, none⟩ = some (.int .u64 (r.e.time : Int)) ∧ W3.cell? ⟨gR, i * 8 + 3, none⟩ = some (.int .u8 (r.e.kind : Int)) ∧ W3.cell? ⟨gR, i * 8 + 4, none⟩ = some (.string r.e.key) ∧ W3.cell? ⟨gR, i * 8 + 5, none⟩ = some (.slice x.A x.n x.c) ∧ W3.cell? ⟨gR, i * 8 + 6, none⟩ = some (.float .f64 r.e.num) ∧ W3.cell? ⟨gR, i * 8 + 7, none⟩ = some (.int .i64 r.e.node))) from ⟨⟨d0, d1, d2, d3, d4, d5, d6, d7⟩, e0, e1, e2, e3, e4, e5, e6, e7⟩)
                have SAME : ∀ w0, Below W3.heap.size W3 w0 → Calls Try.prog 12 #[.agg #[.int .i64 r.e.writer, .int .u64 (r.e.seq : Int), .int .u64 (r.e.time : Int), .int .u8 (r.e.kind : Int), .string r.e.key, .slice r.A r.n r.c, .float .f64 r.e.num, .int .i64 r.e.node], .agg #[.int .i64 r.e.writer, .int .u64 (r.e.seq : Int), .int .u64 (r.e.time : Int), .int .u8 (r.e.kind : Int), .string r.e.key, .slice x.A x.n x.c, .float .f64 r.e.num, .int .i64 r.e.node]] w0 fun e W => e = .returned (.bool true) ∧ Hid (Below W3.heap.size W3 W) ∧ ((W.cell? ⟨b18, 0, none⟩ = some (.int .i64 r.e.writer) ∧ W.cell? ⟨b18, 1, none⟩ = some (.int .u64 (r.e.seq : Int)) ∧ W.cell? ⟨b18, 2, none⟩ = some (.int .u64 (r.e.time : Int)) ∧ W.cell? ⟨b18, 3, none⟩ = some (.int .u8 (r.e.kind : Int)) ∧ W.cell? ⟨b18, 4, none⟩ = some (.string r.e.key) ∧ W.cell? ⟨b18, 5, none⟩ = some (.slice r.A r.n r.c) ∧ W.cell? ⟨b18, 6, none⟩ = some (.float .f64 r.e.num) ∧ W.cell? ⟨b18, 7, none⟩ = some (.int .i64 r.e.node)) ∧ (W.cell? ⟨gR, i * 8, none⟩ = some (.int .i64 r.e.writer) ∧ W.cell? ⟨gR, i * 8 + 1, none⟩ = some (.int .u64 (r.e.seq : Int)) ∧ W.cell? ⟨gR, i * 8 + 2, none⟩ = some (.int .u64 (r.e.time : Int)) ∧ W.cell? ⟨gR, i * 8 + 3, none⟩ = some (.int .u8 (r.e.kind : Int)) ∧ W.cell? ⟨gR, i * 8 + 4, none⟩ = some (.string r.e.key) ∧ W.cell? ⟨gR, i * 8 + 5, none⟩ = some (.slice x.A x.n x.c) ∧ W.cell? ⟨gR, i * 8 + 6, none⟩ = some (.float .f64 r.e.num) ∧ W.cell? ⟨gR, i * 8 + 7, none⟩ = some (.int .i64 r.e.node))) := fun w0 hW => by
                  refine (refSame_any r.e r.e r.A x.A r.n r.c x.n x.c w0 (hrt3.below hW) (hxt3.below hW) HRI.out.2 HRI.out.2 HRI.out.1 HRI.out.1).mono ?_
                  rintro e w' ⟨rfl, hb⟩
                  have hb2 := hW.trans (hb.mono hW.size)
                  have old : ∀ {q : Addr} {v : Value}, W3.cell? q = some v → w'.cell? q = some v := fun {q v} hq => by rw [hb2.cell (World.block_lt_of_cell? _ _ hq)]; exact hq
                  obtain ⟨⟨d0, d1, d2, d3, d4, d5, d6, d7⟩, e0, e1, e2, e3, e4, e5, e6, e7⟩ := HC.out
                  exact ⟨by simp, Lib.hid hb2, ⟨old d0, old d1, old d2, old d3, old d4, old d5, old d6, old d7⟩, old e0, old e1, old e2, old e3, old e4, old e5, old e6, old e7⟩
                have HSA := Lib.hid SAME
                have HNN := Lib.hid (fun W (hW : Below W3.heap.size W3 W) => (by
                  have h1 : Below w8.heap.size w8 W := hb3.trans (hW.mono hb3.size)
                  exact ⟨⟨hs8, hc3.below2 hW⟩, (h1.block sb (Array.getElem?_eq_some_iff.1 HSB8.out).1).trans HSB8.out⟩ : (∃ hs, Cur p w6 R (i + 1) hs W) ∧ W.heap[sb]? = some (.cells #[.int .u64 (tm : Int), .int .i64 sw, .int .u64 (tt : Int), .int .i64 tw, .int .u64 (tm : Int), .int .i64 sw] 42 (0, 0))))
                clear hW3 hbe3 hb3 hb18 hc8 hc3 hb53 hraw hcR hxm hxt3 he hrt3 SAME G3 HRE HRI H8 HSB8 HSB7
                go_upto_region 22 with fail
                go_region_held3 (fun W => ((W.cell? ⟨b18, 0, none⟩ = some (.int .i64 r.e.writer) ∧ W.cell? ⟨b18, 1, none⟩ = some (.int .u64 (r.e.seq : Int)) ∧ W.cell? ⟨b18, 2, none⟩ = some (.int .u64 (r.e.time : Int)) ∧ W.cell? ⟨b18, 3, none⟩ = some (.int .u8 (r.e.kind : Int)) ∧ W.cell? ⟨b18, 4, none⟩ = some (.string r.e.key) ∧ W.cell? ⟨b18, 5, none⟩ = some (.slice r.A r.n r.c) ∧ W.cell? ⟨b18, 6, none⟩ = some (.float .f64 r.e.num) ∧ W.cell? ⟨b18, 7, none⟩ = some (.int .i64 r.e.node)) ∧ (W.cell? ⟨gR, i * 8, none⟩ = some (.int .i64 r.e.writer) ∧ W.cell? ⟨gR, i * 8 + 1, none⟩ = some (.int .u64 (r.e.seq : Int)) ∧ W.cell? ⟨gR, i * 8 + 2, none⟩ = some (.int .u64 (r.e.time : Int)) ∧ W.cell? ⟨gR, i * 8 + 3, none⟩ = some (.int .u8 (r.e.kind : Int)) ∧ W.cell? ⟨gR, i * 8 + 4, none⟩ = some (.string r.e.key) ∧ W.cell? ⟨gR, i * 8 + 5, none⟩ = some (.slice x.A x.n x.c) ∧ W.cell? ⟨gR, i * 8 + 6, none⟩ = some (.float .f64 r.e.num) ∧ W.cell? ⟨gR, i * 8 + 7, none⟩ = some (.int .i64 r.e.node)))) (first | exact ⟨⟨d0, d1, d2, d3, d4, d5, d6, d7⟩, e0, e1, e2, e3, e4, e5, e6, e7⟩ | go_keep | assumption)
                  (first
                    | (go_at_call 12
                       refine (HSA.out _ ?h1).mono ?_
                       case h1 => first | exact Below.refl _ _ | exact (Below.refl _ _).drew | exact Hid.out (by assumption)
                       rintro e w9 ⟨rfl, hb9, ⟨q0, q1, q2, q3, q4, q5, q6, q7⟩, m0, m1, m2, m3, m4, m5, m6, m7⟩))
                have HN := Lib.hid (HNN.out w9 hb9.out)
                clear HNN hb9 q0 q1 q2 q3 q4 q5 q6 q7 m0 m1 m2 m3 m4 m5 m6 m7 d0 d1 d2 d3 d4 d5 d6 d7 e0 e1 e2 e3 e4 e5 e6 e7 HC HSA
                go_wp2
                go_roundw
                case rel => exact ⟨q + 1, i + 1, by simp, by simp, by omega, by omega, HN⟩
                case measure => simp [intOf]; omega
            · obtain rfl : i = F := by omega
              have zii : ¬ (i : Int) < (i : Int) := by omega
              have HS := Lib.hid (fun d => HSK.out (wr.drewN d) ⟨rfl, rfl, rfl, Nat.le_refl _, fun _ _ => rfl⟩ (.inl rfl))
              have jd0 : ∀ d, (wr.drewN d).cell? ⟨b16, 0, none⟩ = some (.int .u64 (xt : Int)) := fun _ => j0
              have jd1 : ∀ d, (wr.drewN d).cell? ⟨b16, 1, none⟩ = some (.int .i64 xw) := fun _ => j1
              go_wp2_with fail
              go_quiet (fail)
              go_wp2_with fail
              refine (HS.out _).mono ?_
              rintro e w7 ⟨rfl, H7⟩
              clear HS HSK jd0 jd1 j0 j1 HKR HK
              go_wp2
              go_roundw
              case rel => exact ⟨q + 1, i, by simp, rfl, by omega, Nat.le_refl _, H7⟩
              case measure => simp [intOf]; omega
        · obtain rfl : q = 3 := by omega
          have HF9 := Lib.hid (show Below w.heap.size w wo from by
            obtain ⟨⟨hs, hc⟩, _⟩ := HR.out
            exact HB6.out.trans (hc.below.mono (by have := HB5.out.size; omega)))
          clear HR
          go_wp2
          go_ret
          exact ⟨rfl, HF9.out⟩

    | true =>
      obtain ⟨t2, ht2⟩ : ∃ t2, t2 = tm % 60 := ⟨_, rfl⟩
      have zt2 : (tm : Int) % 60 = (t2 : Int) := by omega
      obtain ⟨u2, hu2⟩ : ∃ u2, u2 = tt % 60 := ⟨_, rfl⟩
      have zu2 : (tt : Int) % 60 = (u2 : Int) := by omega
      obtain ⟨s2, hs2⟩ : ∃ s2, sw.tmod 7 = s2 := ⟨_, rfl⟩
      have c70 : w2.cell? ⟨b7, 0, none⟩ = some (.int .u64 (tm : Int)) := by rw [cell_of_row w2 _ 0 _ _ _ HG2.out.1]; rfl
      have c71 : w2.cell? ⟨b7, 1, none⟩ = some (.int .i64 sw) := by rw [cell_of_row w2 _ 1 _ _ _ HG2.out.1]; rfl
      have c80 : w2.cell? ⟨b8, 0, none⟩ = some (.int .u64 (tt : Int)) := by rw [cell_of_row w2 _ 0 _ _ _ HG2.out.2]; rfl
      have f70 : w2.frozen? ⟨b7, 0, none⟩ = false := frozen_row0 HG2.out.1
      have f71 : w2.frozen? ⟨b7, 1, none⟩ = false := frozen_row0 HG2.out.1
      have f80 : w2.frozen? ⟨b8, 0, none⟩ = false := frozen_row0 HG2.out.2
      have HG3 := Lib.hid (show (((w2.setCell ⟨b7, 0, none⟩ (.int .u64 (t2 : Int))).setCell ⟨b7, 1, none⟩ (.int .i64 s2)).setCell ⟨b8, 0, none⟩ (.int .u64 (u2 : Int))).heap[b7]? = some (.cells #[.int .u64 (t2 : Int), .int .i64 s2] 42 (0, 0)) ∧ (((w2.setCell ⟨b7, 0, none⟩ (.int .u64 (t2 : Int))).setCell ⟨b7, 1, none⟩ (.int .i64 s2)).setCell ⟨b8, 0, none⟩ (.int .u64 (u2 : Int))).heap[b8]? = some (.cells #[.int .u64 (u2 : Int), .int .i64 tw] 42 (0, 0)) from
        ⟨(heapOther hn78).trans (by rw [heapSame (heapSame HG2.out.1)]; rfl), by rw [heapSame ((heapOther hn87).trans ((heapOther hn87).trans HG2.out.2))]; rfl⟩)
      have HB3 := Lib.hid (((HB2.out.setCell (p := ⟨b7, 0, none⟩) (by rw [HB7.out]; exact Nat.le_refl _) (.int .u64 (t2 : Int))).setCell (p := ⟨b7, 1, none⟩) (by rw [HB7.out]; exact Nat.le_refl _) (.int .i64 s2)).setCell (p := ⟨b8, 0, none⟩) (by rw [HB8.out]; exact Nat.le_succ _) (.int .u64 (u2 : Int)))
      clear HG2 HB2 ht2 hu2
      go_wp2_with fail
      generalize ((w2.setCell ⟨b7, 0, none⟩ (.int .u64 (t2 : Int))).setCell ⟨b7, 1, none⟩ (.int .i64 s2)).setCell ⟨b8, 0, none⟩ (.int .u64 (u2 : Int)) = w3 at HG3 HB3 ⊢
      refine (feeds_any A n c wn l w3 (HSS.out _ HB3.out) (by omega) (by omega) (by omega)).mono ?_
      rintro e w4 ⟨L, T, rfl, FE⟩
      have hGL := feeds_good FE (by omega) (by omega)
      have hfl := FE.few
      have hLn := FE.lenL
      have HRT := Lib.hid (feeds_right FE (by omega) (by omega))
      have HAN := Lib.hid (feeds_anti FE)
      have hg4 := (FE.below.block b7 (Array.getElem?_eq_some_iff.1 HG3.out.1).1).trans HG3.out.1
      have hg48 := (FE.below.block b8 (Array.getElem?_eq_some_iff.1 HG3.out.2).1).trans HG3.out.2
      have HB4 := Lib.hid (HB3.out.trans (FE.below.mono HB3.out.size))
      have HGL := Lib.hid hGL
      obtain ⟨ob, hob⟩ : ∃ b, b = w3.heap.size := ⟨_, rfl⟩
      rw [← hob] at HGL ⊢
      have WH := refWhole_any (some ⟨ob, 0, none⟩) wn L w4 HGL.out.lists (Nat.le_refl _) (by omega) (by omega)
      rw [hLn] at WH
      have HWH := Lib.hid WH
      have HG4 := Lib.hid (And.intro hg4 hg48)
      have HLN := Lib.hid hLn
      have HF0 := Lib.hid (show (flat L).length ≤ 60 by omega)
      clear WH hGL FE hg4 hg48 hLn hob hfl HG3 HB3
      clear T
      go_wp2_with fail
      refine HWH.out.mono ?_
      rintro e w5 ⟨AR, cR, R, rfl, hown, hperm, hrise, hb5⟩
      have hRl := hperm.length_eq
      have HRW := Lib.hid hown
      have HPR := Lib.hid (And.intro hperm (And.intro hrise hRl))
      have hg5 := (hb5.block b7 (Array.getElem?_eq_some_iff.1 HG4.out.1).1).trans HG4.out.1
      have hg58 := (hb5.block b8 (Array.getElem?_eq_some_iff.1 HG4.out.2).1).trans HG4.out.2
      have HG5 := Lib.hid (And.intro hg5 hg58)
      have HB45 := Lib.hid hb5
      have HB5 := Lib.hid (HB4.out.trans (hb5.mono HB4.out.size))
      have NW := onew_any (some ⟨ob, 0, none⟩) wn L w5 (HGL.out.later hb5 hb5.size) (by rw [HLN.out]; omega) (by have := HF0.out; omega)
      rw [HLN.out] at NW
      have HNW := Lib.hid NW
      obtain ⟨F, hF⟩ : ∃ F, F = (flat L).length := ⟨_, rfl⟩
      rw [← hF] at HRW HF0 ⊢
      have HFF := Lib.hid hF
      clear hown hperm hrise hRl hb5 hF HWH HB4 NW hg5 hg58 HG4
      go_wp2_with fail
      refine HNW.out.mono ?_
      rintro e w6 ⟨p, hs0, L1, rfl, hA0, hp0, hev, hL1, hevj, htx, hBp, hb6⟩
      have hfp : (flat hs0).Perm (flat L1) := (flat_perm hp0).trans (by rw [flat_filter])
      have hpe : (R.map EvS.e).Perm ((flat hs0).map EvS.e) := ((HPR.out.1.map EvS.e).trans (by rw [← hev])).trans (hfp.map EvS.e).symm
      have hris1 : ∀ x ∈ hs0, Rises x.S := fun x hx => by
        have hx1 := (List.mem_filter.1 (hp0.mem_iff.1 hx)).1
        obtain ⟨j, hj, hje⟩ := List.getElem_of_mem hx1
        have hjL : j < L.length := by rw [← hL1]; exact hj
        have h1 := hevj j hjL
        have h2 : HV.at_ L1 j = x := by simp [HV.at_, List.getD_eq_getElem?_getD, List.getElem?_eq_getElem hj, hje]
        have h3 : HV.at_ L j = L[j] := by simp [HV.at_, List.getD_eq_getElem?_getD, List.getElem?_eq_getElem hjL]
        rw [h2, h3] at h1
        have h4 := rises_bare (HGL.out.rise _ (List.getElem_mem hjL))
        rw [← h1] at h4
        unfold Rises at *
        rw [List.map_map, List.pairwise_map] at h4
        exact h4.imp fun h => h
      have hps : p < w6.heap.size := by obtain ⟨⟨A0, c0, hat0⟩, _⟩ := hA0; exact (Array.getElem?_eq_some_iff.1 hat0.box).1
      have hw5p : w5.heap.size ≤ p := hBp
      have HC0 := Lib.hid (show ∃ hs, Cur p w6 R 0 hs w6 from ⟨hs0, hA0, hris1, by rw [List.drop_zero]; exact hpe.symm, fun r hr => htx r (hfp.mem_iff.1 hr), Below.refl _ _⟩)
      have hg6 := (hb6.block b7 (Array.getElem?_eq_some_iff.1 HG5.out.1).1).trans HG5.out.1
      have hg68 := (hb6.block b8 (Array.getElem?_eq_some_iff.1 HG5.out.2).1).trans HG5.out.2
      have HB56 := Lib.hid hb6
      have HB6 := Lib.hid (HB5.out.trans (hb6.mono HB5.out.size))
      have c70 : w6.cell? ⟨b7, 0, none⟩ = some (.int .u64 (t2 : Int)) := by rw [cell_of_row w6 _ 0 _ _ _ hg6]; rfl
      have c71 : w6.cell? ⟨b7, 1, none⟩ = some (.int .i64 s2) := by rw [cell_of_row w6 _ 1 _ _ _ hg6]; rfl
      have c80 : w6.cell? ⟨b8, 0, none⟩ = some (.int .u64 (u2 : Int)) := by rw [cell_of_row w6 _ 0 _ _ _ hg68]; rfl
      have c81 : w6.cell? ⟨b8, 1, none⟩ = some (.int .i64 tw) := by rw [cell_of_row w6 _ 1 _ _ _ hg68]; rfl
      clear hfp hpe hris1 hp0 hev hevj htx hb6 HNW hL1 hA0 hg6 hg68 HG5
      go_wp2_with fail
      have hC0 : Hid ((∃ hs, Cur p w6 R 0 hs (w6.alloc (.cells #[.int .u64 (t2 : Int), .int .i64 s2, .int .u64 (u2 : Int), .int .i64 tw, .int .u64 (t2 : Int), .int .i64 s2] 42))) ∧ (w6.alloc (.cells #[.int .u64 (t2 : Int), .int .i64 s2, .int .u64 (u2 : Int), .int .i64 tw, .int .u64 (t2 : Int), .int .i64 s2] 42)).heap[w6.heap.size]? = some (.cells #[.int .u64 (t2 : Int), .int .i64 s2, .int .u64 (u2 : Int), .int .i64 tw, .int .u64 (t2 : Int), .int .i64 s2] 42 (0, 0))) := by
        obtain ⟨hs, hc⟩ := HC0.out
        exact Lib.hid ⟨⟨hs, hc.below2 ((Below.refl _ _).alloc (Nat.le_refl _) _)⟩, heap_alloc_new w6 _⟩
      obtain ⟨wa, hwa⟩ : ∃ u, u = w6.alloc (.cells #[.int .u64 (t2 : Int), .int .i64 s2, .int .u64 (u2 : Int), .int .i64 tw, .int .u64 (t2 : Int), .int .i64 s2] 42) := ⟨_, rfl⟩
      obtain ⟨sb, hsb⟩ : ∃ b, b = w6.heap.size := ⟨_, rfl⟩
      rw [← hwa, ← hsb] at hC0
      rw [← hwa, ← hsb]
      clear hwa hsb c70 c71 c80 c81 HC0
      go_loopw [14, 16, 17, 18, 19, 56, 57, 58, 59, 60, 61, 62, 63, 64, 65, 66, 67, 68, 69, 70, 71, 72, 73, 74, 75, 76, 77, 78, 79, 80, 81, 82, 83, 84, 85, 86, 87, 88, 89, 90, 91, 92, 93, 94, 95, 96, 97, 98, 99, 100, 101, 102, 103, 104, 105] (fun a14 a16 a17 a18 a19 a56 a57 a58 a59 a60 a61 a62 a63 a64 a65 a66 a67 a68 a69 a70 a71 a72 a73 a74 a75 a76 a77 a78 a79 a80 a81 a82 a83 a84 a85 a86 a87 a88 a89 a90 a91 a92 a93 a94 a95 a96 a97 a98 a99 a100 a101 a102 a103 a104 a105 wr => ∃ q i : Nat, a56 = .int .i64 (q : Int) ∧ a14 = .int .i64 (i : Int) ∧ q ≤ 3 ∧ i ≤ F ∧ Hid ((∃ hs, Cur p w6 R i hs wr) ∧ wr.heap[sb]? = some (.cells #[.int .u64 (t2 : Int), .int .i64 s2, .int .u64 (u2 : Int), .int .i64 tw, .int .u64 (t2 : Int), .int .i64 s2] 42 (0, 0)))) (fun a14 a16 a17 a18 a19 a56 a57 a58 a59 a60 a61 a62 a63 a64 a65 a66 a67 a68 a69 a70 a71 a72 a73 a74 a75 a76 a77 a78 a79 a80 a81 a82 a83 a84 a85 a86 a87 a88 a89 a90 a91 a92 a93 a94 a95 a96 a97 a98 a99 a100 a101 a102 a103 a104 a105 _ => 3 - (intOf a56).toNat)
      case atStart => exact ⟨0, 0, rfl, rfl, by omega, Nat.zero_le _, hC0⟩
      case round =>
        obtain ⟨q, i0, rfl, rfl, hq, hi0, HR⟩ := hrel
        obtain ⟨wo, rfl⟩ : ∃ wo : World, wo = wr := ⟨_, rfl⟩
        by_cases hlq : q < 3
        · obtain ⟨xt, xw, s0, s1⟩ : ∃ (xt : Nat) (xw : Int), wo.cell? ⟨sb, q * 2, none⟩ = some (.int .u64 (xt : Int)) ∧ wo.cell? ⟨sb, q * 2 + 1, none⟩ = some (.int .i64 xw) := by
            have hc := HR.out.2
            match q, hlq with
            | 0, _ => exact ⟨t2, s2, by rw [cell_of_row _ sb _ _ _ _ hc]; rfl, by rw [cell_of_row _ sb _ _ _ _ hc]; rfl⟩
            | 1, _ => exact ⟨u2, tw, by rw [cell_of_row _ sb _ _ _ _ hc]; rfl, by rw [cell_of_row _ sb _ _ _ _ hc]; rfl⟩
            | 2, _ => exact ⟨t2, s2, by rw [cell_of_row _ sb _ _ _ _ hc]; rfl, by rw [cell_of_row _ sb _ _ _ _ hc]; rfl⟩
          have zq : (q : Int) < 3 := by omega
          have zq0 : (0 : Int) ≤ (q : Int) := by omega
          have HX := Lib.hid (And.intro (Below.refl wo.heap.size wo |>.alloc (Nat.le_refl _) (.cells #[.int .u64 (xt : Int), .int .i64 xw] 42)) (spot_new wo (.int .u64 (xt : Int)) (.int .i64 xw) 42))
          go_wp2_with fail
          obtain ⟨wb, hwb⟩ : ∃ u, u = wo.alloc (.cells #[.int .u64 (xt : Int), .int .i64 xw] 42) := ⟨_, rfl⟩
          obtain ⟨b16, hb16⟩ : ∃ b, b = wo.heap.size := ⟨_, rfl⟩
          rw [← hwb, ← hb16] at HX
          rw [← hwb, ← hb16]
          obtain ⟨hbx, k0, k1⟩ := HX.out
          have h16 : b16 < wb.heap.size := World.block_lt_of_cell? _ _ k0
          have HBB := Lib.hid (by rw [hb16] at hbx; exact hbx : Below wo.heap.size wo wb)
          have HRb := Lib.hid (show (∃ hs, Cur p w6 R i0 hs wb) ∧ wb.heap[sb]? = some (.cells #[.int .u64 (t2 : Int), .int .i64 s2, .int .u64 (u2 : Int), .int .i64 tw, .int .u64 (t2 : Int), .int .i64 s2] 42 (0, 0)) from by
            obtain ⟨⟨hs, hc⟩, h2⟩ := HR.out
            exact ⟨⟨hs, hc.below2 HBB.out⟩, (HBB.out.block sb (Array.getElem?_eq_some_iff.1 h2).1).trans h2⟩)
          clear hwb hb16 hbx s0 s1 HX HR
          go_loopw [14, 17, 60, 61, 62, 63, 64, 65, 66, 67, 68, 69, 70, 71, 72, 73, 74, 75, 76, 77] (fun b14 b17 b60 b61 b62 b63 b64 b65 b66 b67 b68 b69 b70 b71 b72 b73 b74 b75 b76 b77 W => ∃ k : Nat, b14 = .int .i64 ((i0 + k : Nat) : Int) ∧ b17 = .int .i64 (k : Int) ∧ i0 + k ≤ F ∧ Hid (Below wb.heap.size wb W ∧ ∀ j, j < k → aftB xt xw (evAt R (i0 + j)) = false)) (fun b14 b17 b60 b61 b62 b63 b64 b65 b66 b67 b68 b69 b70 b71 b72 b73 b74 b75 b76 b77 _ => F - (intOf b14).toNat)
          case atStart => exact ⟨0, rfl, rfl, hi0, Lib.hid ⟨Below.refl _ _, fun j hj => absurd hj (by omega)⟩⟩
          case round =>
            obtain ⟨k, rfl, rfl, hk, HK⟩ := hrel
            obtain ⟨i, hie0⟩ : ∃ i, i = i0 + k := ⟨_, rfl⟩
            rw [← hie0] at hk ⊢
            have HIE := Lib.hid hie0
            clear hie0
            have j0 := (HK.out.1.cell (p := ⟨b16, 0, none⟩) h16).trans k0
            have j1 := (HK.out.1.cell (p := ⟨b16, 1, none⟩) h16).trans k1
            have HKR := Lib.hid (show (∃ hs, Cur p w6 R i0 hs wr) ∧ wr.heap[sb]? = some (.cells #[.int .u64 (t2 : Int), .int .i64 s2, .int .u64 (u2 : Int), .int .i64 tw, .int .u64 (t2 : Int), .int .i64 s2] 42 (0, 0)) from by
              obtain ⟨⟨hs, hc⟩, h2⟩ := HRb.out
              exact ⟨⟨hs, hc.below2 HK.out.1⟩, (HK.out.1.block sb (Array.getElem?_eq_some_iff.1 h2).1).trans h2⟩)
            have hR60 : R.length ≤ 60 := by rw [HPR.out.2.2, ← HFF.out]; exact HF0.out
            have hRF : R.length = F := by rw [HPR.out.2.2, ← HFF.out]
            have HRF := Lib.hid (And.intro hR60 hRF)
            have SEEK : ∀ W, Below wr.heap.size wr W → (i = F ∨ aftB xt xw (evAt R i) = true) → Calls Try.prog 18 #[.pointer (some ⟨p, 0, none⟩), .agg #[.int .u64 (xt : Int), .int .i64 xw]] W fun e w' => e = .returned (.int .i64 (k : Int)) ∧ Hid ((∃ hs', Cur p w6 R i hs' w') ∧ w'.heap[sb]? = some (.cells #[.int .u64 (t2 : Int), .int .i64 s2, .int .u64 (u2 : Int), .int .i64 tw, .int .u64 (t2 : Int), .int .i64 s2] 42 (0, 0))) := fun W hW hex => by
              obtain ⟨⟨hs, hc⟩, h2⟩ := HKR.out
              have hcnt := count_first HPR.out.2.1 xt xw (q := i0) (k := k) (by rw [HRF.out.2, ← HIE.out]; exact hk) HK.out.2 (by rw [HRF.out.2, ← HIE.out]; exact hex)
              refine ((hc.below2 hW).seek HPR.out.2.1 HRF.out.1 xt xw k hcnt).mono ?_
              rintro e w' ⟨rfl, h3, h4⟩
              rw [HIE.out]
              exact ⟨rfl, Lib.hid ⟨h3.out, h4.out sb _ _ ((hW.block sb (Array.getElem?_eq_some_iff.1 h2).1).trans h2)⟩⟩
            have HSK := Lib.hid SEEK
            have zk60 : (k : Int) ≤ 60 := by have := HIE.out; have := HF0.out; omega
            have zi60 : (i : Int) ≤ 60 := by have := HF0.out; omega
            have zi0 : (0 : Int) ≤ (i : Int) := by omega
            clear SEEK hR60 hRF
            by_cases hlt : i < F
            · have hiR : i < R.length := by rw [HRF.out.2]; exact hlt
              have hb6W : Below p w6 wr := by obtain ⟨⟨hs, hc⟩, _⟩ := HKR.out; exact hc.below
              have hb5W : Below w5.heap.size w5 wr := HB56.out.trans (hb6W.mono hw5p)
              have hraw : RawEv wr AR R := RawEv.of_own (own_below8 HRW.out hb5W (Nat.le_refl _))
              obtain ⟨gR, hAR, _⟩ := own_at8 HRW.out (by omega)
              subst hAR
              obtain ⟨_, _, hAe, hcR⟩ := hraw (by omega)
              cases hAe
              have hx := RawEv.cells_at (w := wr) (b := gR) (o := 0) (S := R) (k := i) hcR hiR
              simp only [Nat.zero_add] at hx
              obtain ⟨x, hxd⟩ : ∃ x, x = evAt R i := ⟨_, rfl⟩
              rw [← hxd] at hx
              have HXD := Lib.hid hxd
              have HC := Lib.hid (And.intro j0 (And.intro j1 hx))
              have keep : ∀ W, Below wr.heap.size wr W → (W.cell? ⟨b16, 0, none⟩ = some (.int .u64 (xt : Int)) ∧ W.cell? ⟨b16, 1, none⟩ = some (.int .i64 xw) ∧ (W.cell? ⟨gR, i * 8, none⟩ = some (.int .i64 x.e.writer) ∧ W.cell? ⟨gR, i * 8 + 1, none⟩ = some (.int .u64 (x.e.seq : Int)) ∧ W.cell? ⟨gR, i * 8 + 2, none⟩ = some (.int .u64 (x.e.time : Int)) ∧ W.cell? ⟨gR, i * 8 + 3, none⟩ = some (.int .u8 (x.e.kind : Int)) ∧ W.cell? ⟨gR, i * 8 + 4, none⟩ = some (.string x.e.key) ∧ W.cell? ⟨gR, i * 8 + 5, none⟩ = some (.slice x.A x.n x.c) ∧ W.cell? ⟨gR, i * 8 + 6, none⟩ = some (.float .f64 x.e.num) ∧ W.cell? ⟨gR, i * 8 + 7, none⟩ = some (.int .i64 x.e.node))) := fun W hb2 => by
                have old : ∀ {q : Addr} {v : Value}, wr.cell? q = some v → W.cell? q = some v := fun {q v} hq => by rw [hb2.cell (World.block_lt_of_cell? _ _ hq)]; exact hq
                obtain ⟨m1, m2, e0, e1, e2, e3, e4, e5, e6, e7⟩ := HC.out
                exact ⟨old m1, old m2, old e0, old e1, old e2, old e3, old e4, old e5, old e6, old e7⟩
              have HAT : ∀ (w0 : World), Below wr.heap.size wr w0 → Calls Try.prog 17 #[.agg #[.int .i64 x.e.writer, .int .u64 (x.e.seq : Int), .int .u64 (x.e.time : Int), .int .u8 (x.e.kind : Int), .string x.e.key, .slice x.A x.n x.c, .float .f64 x.e.num, .int .i64 x.e.node]] w0 fun e W => e = .returned (.agg #[.int .u64 (x.e.time : Int), .int .i64 x.e.writer]) ∧ Hid (Below wr.heap.size wr W) ∧ (W.cell? ⟨b16, 0, none⟩ = some (.int .u64 (xt : Int)) ∧ W.cell? ⟨b16, 1, none⟩ = some (.int .i64 xw) ∧ (W.cell? ⟨gR, i * 8, none⟩ = some (.int .i64 x.e.writer) ∧ W.cell? ⟨gR, i * 8 + 1, none⟩ = some (.int .u64 (x.e.seq : Int)) ∧ W.cell? ⟨gR, i * 8 + 2, none⟩ = some (.int .u64 (x.e.time : Int)) ∧ W.cell? ⟨gR, i * 8 + 3, none⟩ = some (.int .u8 (x.e.kind : Int)) ∧ W.cell? ⟨gR, i * 8 + 4, none⟩ = some (.string x.e.key) ∧ W.cell? ⟨gR, i * 8 + 5, none⟩ = some (.slice x.A x.n x.c) ∧ W.cell? ⟨gR, i * 8 + 6, none⟩ = some (.float .f64 x.e.num) ∧ W.cell? ⟨gR, i * 8 + 7, none⟩ = some (.int .i64 x.e.node))) := fun w0 hW => by
                refine (refAt_any x.e x.A x.n x.c w0).mono ?_
                rintro e w' ⟨rfl, hb⟩
                have hb2 := hW.trans (hb.mono hW.size)
                exact ⟨rfl, Lib.hid hb2, keep _ hb2⟩
              have HAH : ∀ (w0 : World), Below wr.heap.size wr w0 → Calls Try.prog 16 #[.agg #[.int .u64 (xt : Int), .int .i64 xw], .agg #[.int .u64 (x.e.time : Int), .int .i64 x.e.writer]] w0 fun e W => e = .returned (.bool (aftB xt xw x)) ∧ Hid (Below wr.heap.size wr W) ∧ (W.cell? ⟨b16, 0, none⟩ = some (.int .u64 (xt : Int)) ∧ W.cell? ⟨b16, 1, none⟩ = some (.int .i64 xw) ∧ (W.cell? ⟨gR, i * 8, none⟩ = some (.int .i64 x.e.writer) ∧ W.cell? ⟨gR, i * 8 + 1, none⟩ = some (.int .u64 (x.e.seq : Int)) ∧ W.cell? ⟨gR, i * 8 + 2, none⟩ = some (.int .u64 (x.e.time : Int)) ∧ W.cell? ⟨gR, i * 8 + 3, none⟩ = some (.int .u8 (x.e.kind : Int)) ∧ W.cell? ⟨gR, i * 8 + 4, none⟩ = some (.string x.e.key) ∧ W.cell? ⟨gR, i * 8 + 5, none⟩ = some (.slice x.A x.n x.c) ∧ W.cell? ⟨gR, i * 8 + 6, none⟩ = some (.float .f64 x.e.num) ∧ W.cell? ⟨gR, i * 8 + 7, none⟩ = some (.int .i64 x.e.node))) := fun w0 hW => by
                refine (ahead_any xt xw x.e.time x.e.writer w0).mono ?_
                rintro e w' ⟨rfl, hb⟩
                have hb2 := hW.trans (hb.mono hW.size)
                exact ⟨rfl, Lib.hid hb2, keep _ hb2⟩
              have zi : (i : Int) < (F : Int) := by omega
              obtain ⟨e0, e1, e2, e3, e4, e5, e6, e7⟩ := hx
              clear keep hraw hcR hxd
              obtain ⟨av, hav⟩ : ∃ av, aftB xt xw x = av := ⟨_, rfl⟩
              rw [hav] at HAH
              have HAV := Lib.hid hav
              clear hav
              go_wp2_with fail
              go_region_held3 (fun W => (W.cell? ⟨b16, 0, none⟩ = some (.int .u64 (xt : Int)) ∧ W.cell? ⟨b16, 1, none⟩ = some (.int .i64 xw) ∧ (W.cell? ⟨gR, i * 8, none⟩ = some (.int .i64 x.e.writer) ∧ W.cell? ⟨gR, i * 8 + 1, none⟩ = some (.int .u64 (x.e.seq : Int)) ∧ W.cell? ⟨gR, i * 8 + 2, none⟩ = some (.int .u64 (x.e.time : Int)) ∧ W.cell? ⟨gR, i * 8 + 3, none⟩ = some (.int .u8 (x.e.kind : Int)) ∧ W.cell? ⟨gR, i * 8 + 4, none⟩ = some (.string x.e.key) ∧ W.cell? ⟨gR, i * 8 + 5, none⟩ = some (.slice x.A x.n x.c) ∧ W.cell? ⟨gR, i * 8 + 6, none⟩ = some (.float .f64 x.e.num) ∧ W.cell? ⟨gR, i * 8 + 7, none⟩ = some (.int .i64 x.e.node)))) (first | exact ⟨j0, j1, e0, e1, e2, e3, e4, e5, e6, e7⟩ | go_keep | assumption)
                (first
                  | (go_at_call 17
                     refine (HAT _ ?h1).mono ?_
                     case h1 => first | exact Below.refl _ _ | exact (Below.refl _ _).drew | exact Hid.out (by assumption)
                     rintro e w' ⟨rfl, hb, q0, q1, q2, q3, q4, q5, q6, q7, q8, q9⟩)
                  | (go_at_call 16
                     refine (HAH _ ?h1).mono ?_
                     case h1 => first | exact Below.refl _ _ | exact (Below.refl _ _).drew | exact Hid.out (by assumption)
                     rintro e w' ⟨rfl, hb, q0, q1, q2, q3, q4, q5, q6, q7, q8, q9⟩))
              cases av with
              | false =>
                have HK2 := Lib.hid (show Below wb.heap.size wb w' ∧ ∀ j, j < k + 1 → aftB xt xw (evAt R (i0 + j)) = false from ⟨HK.out.1.trans (hb.out.mono HK.out.1.size), fun j hj => by
                  rcases Nat.lt_or_ge j k with h1 | h1
                  · exact HK.out.2 j h1
                  · obtain rfl : j = k := by omega
                    rw [← HIE.out, ← HXD.out]; exact HAV.out⟩)
                have hik : i + 1 = i0 + (k + 1) := by have := HIE.out; omega
                have HIK := Lib.hid hik
                clear hik HAT HAH HC hb q0 q1 q2 q3 q4 q5 q6 q7 q8 q9 e0 e1 e2 e3 e4 e5 e6 e7 j0 j1 HSK HKR HK HAV
                go_wp2
                go_roundw
                case rel => exact ⟨k + 1, by rw [← HIK.out]; simp, by simp, by have := HIK.out; omega, HK2⟩
                case measure => simp [intOf]; omega
              | true =>
                have HS := Lib.hid (HSK.out w' hb.out (.inr (by rw [← HXD.out]; exact HAV.out)))
                clear HAT HAH HC hb q2 q3 q4 q5 q6 q7 q8 q9 e0 e1 e2 e3 e4 e5 e6 e7 j0 j1 HSK HKR HK HAV
                go_wp2_with fail
                refine HS.out.mono ?_
                rintro e w7 ⟨rfl, H7⟩
                obtain ⟨⟨hs7, hc7⟩, hsb7⟩ := H7.out
                obtain ⟨r, hre, hrt, NX⟩ := hc7.next HPR.out.2.1 HRF.out.1 (fun a b ha hb => HAN.out a b (HPR.out.1.mem_iff.1 ha) (HPR.out.1.mem_iff.1 hb)) hiR
                have hri : Right r.e ∧ r.e.num < 18446744073709551616 := by
                  rw [hre]; exact HRT.out _ (HPR.out.1.mem_iff.1 (List.mem_of_getElem? (evAt_get hiR)))
                have HNX := Lib.hid NX
                have HRI := Lib.hid hri
                have HRE := Lib.hid (And.intro hre hrt)
                have HSB7 := Lib.hid hsb7
                clear hc7 hsb7 NX hri hre hrt HS H7 q0 q1
                go_wp2_with fail
                refine HNX.out.mono ?_
                rintro e w8 ⟨rfl, H8, HP8⟩
                have HSB8 := Lib.hid (HP8.out sb _ _ HSB7.out)
                have G3 := Lib.hid (show (w8.alloc (.cells zeroE 34)).heap[w8.heap.size]? = some (.cells zeroE 34 (0, 0)) from heap_alloc_new w8 _)
                unfold zeroE at G3
                have hsf := store_float Try.prog
                clear HNX HP8
                go_wp2_with (first
                  | (refine wpList_putRow rfl 34 (.tmp 18) (.tmp 90) rfl w8.heap.size 34 zeroE (r.e.row r.A r.n r.c) rfl rfl ?g1 (by kernel_rfl) rfl (by simp [Ev.row, Value.oneCell']) ?_))
                case g1 => exact G3.out
                intro W3 hW3 hbe3
                have hb3 : Below w8.heap.size w8 W3 := Below.beside ((Below.refl _ _).alloc (Nat.le_refl _) _) hbe3 (by simp) (by simp)
                obtain ⟨b18, hb18⟩ : ∃ b, b = w8.heap.size := ⟨_, rfl⟩
                rw [← hb18] at hW3 ⊢
                obtain ⟨hs8, hc8⟩ := H8.out
                have hc3 := hc8.below2 hb3
                have hb53 : Below w5.heap.size w5 W3 := HB56.out.trans (hc3.below.mono hw5p)
                have hraw : RawEv W3 (some ⟨gR, 0, none⟩) R := RawEv.of_own (own_below8 HRW.out hb53 (Nat.le_refl _))
                obtain ⟨_, _, hAe, hcR⟩ := hraw (by omega)
                cases hAe
                have hx := RawEv.cells_at (w := W3) (b := gR) (o := 0) (S := R) (k := i) hcR hiR
                simp only [Nat.zero_add] at hx
                have hxm := HPR.out.1.mem_iff.1 (List.mem_of_getElem? (evAt_get hiR))
                have hxt3 := ((HGL.out.text _ hxm).below (HB45.out.trans (hb53.mono HB45.out.size))).sees
                have he := HRE.out.1
                rw [← HXD.out] at hx hxt3 he
                rw [← he] at hx hxt3
                have hrt3 := (HRE.out.2.below hc3.below).sees
                obtain ⟨d0, d1, d2, d3, d4, d5, d6, d7⟩ := box8 hW3
                obtain ⟨e0, e1, e2, e3, e4, e5, e6, e7⟩ := hx
                have HC := Lib.hid (show ((W3.cell? ⟨b18, 0, none⟩ = some (.int .i64 r.e.writer) ∧ W3.cell? ⟨b18, 1, none⟩ = some (.int .u64 (r.e.seq : Int)) ∧ W3.cell? ⟨b18, 2, none⟩ = some (.int .u64 (r.e.time : Int)) ∧ W3.cell? ⟨b18, 3, none⟩ = some (.int .u8 (r.e.kind : Int)) ∧ W3.cell? ⟨b18, 4, none⟩ = some (.string r.e.key) ∧ W3.cell? ⟨b18, 5, none⟩ = some (.slice r.A r.n r.c) ∧ W3.cell? ⟨b18, 6, none⟩ = some (.float .f64 r.e.num) ∧ W3.cell? ⟨b18, 7, none⟩ = some (.int .i64 r.e.node)) ∧ (W3.cell? ⟨gR, i * 8, none⟩ = some (.int .i64 r.e.writer) ∧ W3.cell? ⟨gR, i * 8 + 1, none⟩ = some (.int .u64 (r.e.seq : Int)) ∧ W3.cell? ⟨gR, i * 8 + 2, none⟩ = some (.int .u64 (r.e.time : Int)) ∧ W3.cell? ⟨gR, i * 8 + 3, none⟩ = some (.int .u8 (r.e.kind : Int)) ∧ W3.cell? ⟨gR, i * 8 + 4, none⟩ = some (.string r.e.key) ∧ W3.cell? ⟨gR, i * 8 + 5, none⟩ = some (.slice x.A x.n x.c) ∧ W3.cell? ⟨gR, i * 8 + 6, none⟩ = some (.float .f64 r.e.num) ∧ W3.cell? ⟨gR, i * 8 + 7, none⟩ = some (.int .i64 r.e.node))) from ⟨⟨d0, d1, d2, d3, d4, d5, d6, d7⟩, e0, e1, e2, e3, e4, e5, e6, e7⟩)
                have SAME : ∀ w0, Below W3.heap.size W3 w0 → Calls Try.prog 12 #[.agg #[.int .i64 r.e.writer, .int .u64 (r.e.seq : Int), .int .u64 (r.e.time : Int), .int .u8 (r.e.kind : Int), .string r.e.key, .slice r.A r.n r.c, .float .f64 r.e.num, .int .i64 r.e.node], .agg #[.int .i64 r.e.writer, .int .u64 (r.e.seq : Int), .int .u64 (r.e.time : Int), .int .u8 (r.e.kind : Int), .string r.e.key, .slice x.A x.n x.c, .float .f64 r.e.num, .int .i64 r.e.node]] w0 fun e W => e = .returned (.bool true) ∧ Hid (Below W3.heap.size W3 W) ∧ ((W.cell? ⟨b18, 0, none⟩ = some (.int .i64 r.e.writer) ∧ W.cell? ⟨b18, 1, none⟩ = some (.int .u64 (r.e.seq : Int)) ∧ W.cell? ⟨b18, 2, none⟩ = some (.int .u64 (r.e.time : Int)) ∧ W.cell? ⟨b18, 3, none⟩ = some (.int .u8 (r.e.kind : Int)) ∧ W.cell? ⟨b18, 4, none⟩ = some (.string r.e.key) ∧ W.cell? ⟨b18, 5, none⟩ = some (.slice r.A r.n r.c) ∧ W.cell? ⟨b18, 6, none⟩ = some (.float .f64 r.e.num) ∧ W.cell? ⟨b18, 7, none⟩ = some (.int .i64 r.e.node)) ∧ (W.cell? ⟨gR, i * 8, none⟩ = some (.int .i64 r.e.writer) ∧ W.cell? ⟨gR, i * 8 + 1, none⟩ = some (.int .u64 (r.e.seq : Int)) ∧ W.cell? ⟨gR, i * 8 + 2, none⟩ = some (.int .u64 (r.e.time : Int)) ∧ W.cell? ⟨gR, i * 8 + 3, none⟩ = some (.int .u8 (r.e.kind : Int)) ∧ W.cell? ⟨gR, i * 8 + 4, none⟩ = some (.string r.e.key) ∧ W.cell? ⟨gR, i * 8 + 5, none⟩ = some (.slice x.A x.n x.c) ∧ W.cell? ⟨gR, i * 8 + 6, none⟩ = some (.float .f64 r.e.num) ∧ W.cell? ⟨gR, i * 8 + 7, none⟩ = some (.int .i64 r.e.node))) := fun w0 hW => by
                  refine (refSame_any r.e r.e r.A x.A r.n r.c x.n x.c w0 (hrt3.below hW) (hxt3.below hW) HRI.out.2 HRI.out.2 HRI.out.1 HRI.out.1).mono ?_
                  rintro e w' ⟨rfl, hb⟩
                  have hb2 := hW.trans (hb.mono hW.size)
                  have old : ∀ {q : Addr} {v : Value}, W3.cell? q = some v → w'.cell? q = some v := fun {q v} hq => by rw [hb2.cell (World.block_lt_of_cell? _ _ hq)]; exact hq
                  obtain ⟨⟨d0, d1, d2, d3, d4, d5, d6, d7⟩, e0, e1, e2, e3, e4, e5, e6, e7⟩ := HC.out
                  exact ⟨by simp, Lib.hid hb2, ⟨old d0, old d1, old d2, old d3, old d4, old d5, old d6, old d7⟩, old e0, old e1, old e2, old e3, old e4, old e5, old e6, old e7⟩
                have HSA := Lib.hid SAME
                have HNN := Lib.hid (fun W (hW : Below W3.heap.size W3 W) => (by
                  have h1 : Below w8.heap.size w8 W := hb3.trans (hW.mono hb3.size)
                  exact ⟨⟨hs8, hc3.below2 hW⟩, (h1.block sb (Array.getElem?_eq_some_iff.1 HSB8.out).1).trans HSB8.out⟩ : (∃ hs, Cur p w6 R (i + 1) hs W) ∧ W.heap[sb]? = some (.cells #[.int .u64 (t2 : Int), .int .i64 s2, .int .u64 (u2 : Int), .int .i64 tw, .int .u64 (t2 : Int), .int .i64 s2] 42 (0, 0))))
                clear hW3 hbe3 hb3 hb18 hc8 hc3 hb53 hraw hcR hxm hxt3 he hrt3 SAME G3 HRE HRI H8 HSB8 HSB7
                go_upto_region 22 with fail
                go_region_held3 (fun W => ((W.cell? ⟨b18, 0, none⟩ = some (.int .i64 r.e.writer) ∧ W.cell? ⟨b18, 1, none⟩ = some (.int .u64 (r.e.seq : Int)) ∧ W.cell? ⟨b18, 2, none⟩ = some (.int .u64 (r.e.time : Int)) ∧ W.cell? ⟨b18, 3, none⟩ = some (.int .u8 (r.e.kind : Int)) ∧ W.cell? ⟨b18, 4, none⟩ = some (.string r.e.key) ∧ W.cell? ⟨b18, 5, none⟩ = some (.slice r.A r.n r.c) ∧ W.cell? ⟨b18, 6, none⟩ = some (.float .f64 r.e.num) ∧ W.cell? ⟨b18, 7, none⟩ = some (.int .i64 r.e.node)) ∧ (W.cell? ⟨gR, i * 8, none⟩ = some (.int .i64 r.e.writer) ∧ W.cell? ⟨gR, i * 8 + 1, none⟩ = some (.int .u64 (r.e.seq : Int)) ∧ W.cell? ⟨gR, i * 8 + 2, none⟩ = some (.int .u64 (r.e.time : Int)) ∧ W.cell? ⟨gR, i * 8 + 3, none⟩ = some (.int .u8 (r.e.kind : Int)) ∧ W.cell? ⟨gR, i * 8 + 4, none⟩ = some (.string r.e.key) ∧ W.cell? ⟨gR, i * 8 + 5, none⟩ = some (.slice x.A x.n x.c) ∧ W.cell? ⟨gR, i * 8 + 6, none⟩ = some (.float .f64 r.e.num) ∧ W.cell? ⟨gR, i * 8 + 7, none⟩ = some (.int .i64 r.e.node)))) (first | exact ⟨⟨d0, d1, d2, d3, d4, d5, d6, d7⟩, e0, e1, e2, e3, e4, e5, e6, e7⟩ | go_keep | assumption)
                  (first
                    | (go_at_call 12
                       refine (HSA.out _ ?h1).mono ?_
                       case h1 => first | exact Below.refl _ _ | exact (Below.refl _ _).drew | exact Hid.out (by assumption)
                       rintro e w9 ⟨rfl, hb9, ⟨q0, q1, q2, q3, q4, q5, q6, q7⟩, m0, m1, m2, m3, m4, m5, m6, m7⟩))
                have HN := Lib.hid (HNN.out w9 hb9.out)
                clear HNN hb9 q0 q1 q2 q3 q4 q5 q6 q7 m0 m1 m2 m3 m4 m5 m6 m7 d0 d1 d2 d3 d4 d5 d6 d7 e0 e1 e2 e3 e4 e5 e6 e7 HC HSA
                go_wp2
                go_roundw
                case rel => exact ⟨q + 1, i + 1, by simp, by simp, by omega, by omega, HN⟩
                case measure => simp [intOf]; omega
            · obtain rfl : i = F := by omega
              have zii : ¬ (i : Int) < (i : Int) := by omega
              have HS := Lib.hid (fun d => HSK.out (wr.drewN d) ⟨rfl, rfl, rfl, Nat.le_refl _, fun _ _ => rfl⟩ (.inl rfl))
              have jd0 : ∀ d, (wr.drewN d).cell? ⟨b16, 0, none⟩ = some (.int .u64 (xt : Int)) := fun _ => j0
              have jd1 : ∀ d, (wr.drewN d).cell? ⟨b16, 1, none⟩ = some (.int .i64 xw) := fun _ => j1
              go_wp2_with fail
              go_quiet (fail)
              go_wp2_with fail
              refine (HS.out _).mono ?_
              rintro e w7 ⟨rfl, H7⟩
              clear HS HSK jd0 jd1 j0 j1 HKR HK
              go_wp2
              go_roundw
              case rel => exact ⟨q + 1, i, by simp, rfl, by omega, Nat.le_refl _, H7⟩
              case measure => simp [intOf]; omega
        · obtain rfl : q = 3 := by omega
          have HF9 := Lib.hid (show Below w.heap.size w wo from by
            obtain ⟨⟨hs, hc⟩, _⟩ := HR.out
            exact HB6.out.trans (hc.below.mono (by have := HB5.out.size; omega)))
          clear HR
          go_wp2
          go_ret
          exact ⟨rfl, HF9.out⟩

end Go.Proofs.Ytlacihgoammjgaa.Ord
