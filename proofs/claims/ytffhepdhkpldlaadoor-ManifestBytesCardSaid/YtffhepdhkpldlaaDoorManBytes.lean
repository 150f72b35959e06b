/- The law ManifestBytes. -/
import Derived.Test.YtffhepdhkpldlaaDoorManErrsM
import Derived.Test.YtffhepdhkpldlaaDoorVecLayV
namespace Go.Proofs.YtffhepdhkpldlaaDoor.Man
open Go Go.RowKit Go.Proofs.YtffhepdhkpldlaaDoor.Words Go.Proofs.YtffhepdhkpldlaaDoor.Enc Go.Proofs.YtffhepdhkpldlaaDoor.Made Go.Proofs.YtffhepdhkpldlaaDoor.Tape Go.Proofs.YtffhepdhkpldlaaDoor.Vec Go.Proofs.YtffhepdhkpldlaaDoor.Dsk
set_option linter.unusedVariables false
set_option linter.unusedSimpArgs false

theorem frame_fold (tm : Array Value) : ∀ (ds : List Nat) (u : Array Value), u.size = tm.size → (∀ t, t ∉ ds → tm.getD t undef = u.getD t undef) → tm = ds.foldl (fun u d => u.setIfInBounds d (tm.getD d undef)) u
  | [], u, hs, h => by
    apply Array.ext
    · exact hs.symm
    · intro i h1 h2
      have h3 : i < u.size := by omega
      have := h i (by simp)
      simpa [Array.getD, h1, h3] using this
  | d :: ds, u, hs, h => by
    refine frame_fold tm ds (u.setIfInBounds d (tm.getD d undef)) (by simp [hs]) fun t ht => ?_
    by_cases e : d = t
    · subst e
      by_cases hb : d < u.size
      · have hb' : d < tm.size := by omega
        simp [Array.getD, hb, hb']
      · have hb' : ¬ d < tm.size := by omega
        simp [Array.getD, hb, hb']
    · have := h t (by simp only [List.mem_cons, not_or]; exact ⟨fun x => e x.symm, ht⟩)
      rw [this]
      simp only [Array.getD_eq_getD_getElem?]
      rw [Array.getElem?_setIfInBounds_ne e]
theorem frame_region {n : Nat} {l : List Oper} {tm tm0 : Array Value} (hs : tm.size = n) (hs0 : tm0.size = n) (hold : ∀ t : Nat, (∀ i : Nat, (l.toArray[i]?).bind (·.dst) ≠ some t) → tm.getD t undef = tm0.getD t undef) :
    tm = (l.filterMap (·.dst)).foldl (fun u d => u.setIfInBounds d (tm.getD d undef)) tm0 := by
  refine frame_fold tm _ tm0 (by omega) fun t ht => hold t fun i e => ht ?_
  rw [List.getElem?_toArray] at e
  cases ho : l[i]? with
  | none => rw [ho] at e; cases e
  | some o =>
    rw [ho] at e
    exact List.mem_filterMap.2 ⟨o, List.mem_of_getElem? ho, e⟩

theorem manL_pos (m : Mn) : 0 < (manL m).length := by
  have := enc_pos m.node.toNat
  unfold manL
  simp only [List.length_append]
  omega
set_option maxRecDepth 100000 in
set_option maxHeartbeats 4000000 in
theorem bytes_main (a : Mn) (A P : Option Addr) (n c pn pc how at_' turn : Nat) (p : List UInt8) (w : World) (T : Chk.Tabs w) (ha : Arg w a A n c) (hp : Sees w P pn p) (hpc : pn ≤ pc) (hpc2 : pc ≤ 9223372036854775807) (hh : how < 256) (hat : at_' < 65536) (htu : turn < 256) (h1 : n ≤ 64) (h3 : a.fold.size ≤ 60) (h4 : pn ≤ 300) :
    Calls Tryd.prog 3 #[a.val A n c, .int .u8 (how : Int), .slice P pn pc, .int .u16 (at_' : Int), .int .u8 (turn : Int)] w fun e w' => e = .returned (.bool true) ∧ Below w.heap.size w w' := by
  have b0 := (Below.refl w.heap.size w).alloc (Nat.le_refl _) (.cells (a.row A n c) 26)
  have g0 : Box (w.alloc (.cells (a.row A n c) 26)) w.heap.size a A n c := heap_alloc_new w _
  have NEAR := Lib.hid (fun W (hW : Below w.heap.size w W) => near_any a how A n c W hh ha.n0 ha.n1 ha.sr ha.tm ((ha.took h1).below hW) h1 (by omega))
  have sA := Lib.hid ha.s
  have HP := Lib.hid hp
  clear ha hp
  obtain ⟨nd, sr, v, tm, fd⟩ := a
  simp only [] at h3
  unfold Mn.row at b0 g0
  unfold Mn.val Mn.row at NEAR
  simp only [] at b0 g0 NEAR
  unfold Mn.val Mn.row
  simp only []
  go_enter Tryd.func3, Tryd.ntmps3
  go_wp2_with fail
  generalize w.alloc (.cells #[.int .i64 nd, .int .u64 (sr : Int), .slice A n c, .int .u64 (tm : Int), .string fd] 26) = w1 at b0 g0 ⊢
  refine (awakeM w1 (T.below b0)).mono ?_
  rintro e w2 ⟨rfl, hb2⟩
  have k0 := g0.below hb2
  obtain ⟨p0, p1, p2, p3, p4⟩ := box5 k0
  have B2 := Lib.hid (b0.trans (hb2.mono b0.size))
  have HW2 := k0.lt
  clear hb2 g0 b0
  have f1 : fd.size ≤ 9223372036854775807 := by omega
  go_wp2_with fail
  refine (NEAR.out w2 B2.out).mono ?_
  rintro e w3 ⟨x, X, k, l, rfl, hrx, xn0, xn1, xsr, xtm, xf, tx3, hk, ot3, hb3⟩
  have k0 := k0.below hb3
  have B3 := Lib.hid (B2.out.trans (hb3.mono B2.out.size))
  have ox := ot3.out [w.heap.size] (out_u sA.out (fun z hz => by simp at hz; omega)) (fun z hz => by simp at hz; omega)
  clear p0 p1 p2 p3 p4 hb3 NEAR hrx ot3
  unfold Box Mn.row at k0
  simp only [] at k0
  go_wp2_with (first
    | (refine wpList_putRow rfl 26 (.tmp 5) (.tmp 42) rfl w.heap.size 26 #[.int .i64 nd, .int .u64 (sr : Int), .slice A n c, .int .u64 (tm : Int), .string fd] #[.int .i64 x.node, .int .u64 (x.serial : Int), .slice X k l, .int .u64 (x.time : Int), .string x.fold] rfl rfl k0 (by kernel_rfl) rfl (by simp [Value.oneCell']) ?_))
  intro w4 hW4 hbe4
  have kx : Box w4 w.heap.size x X k l := hW4
  have B4 := Lib.hid (Below.beside B3.out hbe4 B3.out.size (by simp))
  have tx := took_beside tx3 hbe4 ox
  obtain ⟨p0, p1, p2, p3, p4⟩ := box5 kx
  have RT := right_any x X k l w4 xn0 xn1 xsr xtm tx (by omega)
  unfold Mn.val Mn.row at RT
  have RT2 := Lib.hid RT
  have KX := Lib.hid kx
  clear hW4 hbe4 tx3 k0 ox RT kx
  go_wp2_with fail
  refine RT2.out.mono ?_
  rintro e w5 ⟨rfl, hb5⟩
  have kx5 := KX.out.below hb5
  have tx5 := tx.below hb5
  have B5 := Lib.hid (B4.out.trans (hb5.mono B4.out.size))
  obtain ⟨bo, hbo⟩ : ∃ bo, bo = rightB x := ⟨_, rfl⟩
  rw [← hbo]
  have HBO := Lib.hid hbo
  clear p0 p1 p2 p3 p4 hb5 KX RT2 tx hbo
  cases bo with
  | false =>
    go_wp2
    go_ret
    exact ⟨rfl, B5.out⟩
  | true =>
  have hR := (rightB_iff x).1 HBO.out.symm
  have HR := Lib.hid hR
  have hfl := foldB_len hR.fd
  have hml := manL_len hR
  have n0 := hR.n0; have n1 := hR.n1
  obtain ⟨p0, p1, p2, p3, p4⟩ := box5 kx5
  have ENC := encode_own x X k l w5 n0 n1 xsr xtm tx5 hk xf
  unfold Mn.val Mn.row at ENC
  have EN := Lib.hid ENC
  have KX := Lib.hid kx5
  have HML := Lib.hid hml
  clear ENC kx5 hR hml
  go_wp2_with fail
  refine EN.out.mono ?_
  rintro e w6 ⟨Ab, cb, rfl, ownb, hb6⟩
  have kx6 := KX.out.below hb6
  have tx6 := tx5.below hb6
  have B6 := Lib.hid (B5.out.trans (hb6.mono B5.out.size))
  have sb6 := Sees.of_own ownb
  have capb := Own.cap ownb
  obtain ⟨K, hK⟩ : ∃ K : Nat, x.node = (K : Int) := ⟨x.node.toNat, by omega⟩
  have hwu : IntKind.u64.wrap (K : Int) = (K : Int) := by
    have h : IntKind.u64.wrap (K : Int) = (K : Int) % 18446744073709551616 := rfl
    rw [h]; omega
  have SM := Lib.hid HR.out.fl
  have hmeq : enc K ++ enc x.serial ++ layL x.floor ++ enc x.time ++ enc x.fold.size ++ x.fold.data.toList = manL x := by
    unfold manL
    rw [hK, Int.toNat_natCast]
    simp only [List.append_assoc]
  have hlen9 : (enc K ++ enc x.serial ++ layL x.floor ++ enc x.time).length ≤ 900 := by
    have h1 := congrArg List.length hmeq
    have h2 := HML.out
    simp only [List.length_append] at h1 ⊢
    omega
  have HLEN := Lib.hid hlen9
  have HMEQ := Lib.hid hmeq
  clear p0 p1 p2 p3 p4 hb6 KX EN tx5 ownb hmeq hlen9
  go_upto_region 7 with fail
  have HC : Hid (∀ W, Below w6.drew.heap.size w6.drew W → (W.cell? ⟨w.heap.size, 0, none⟩ = some (.int .i64 (K : Int)) ∧ W.cell? ⟨w.heap.size, 1, none⟩ = some (.int .u64 (x.serial : Int)) ∧ W.cell? ⟨w.heap.size, 2, none⟩ = some (.slice X k l) ∧ W.cell? ⟨w.heap.size, 3, none⟩ = some (.int .u64 (x.time : Int)) ∧ W.cell? ⟨w.heap.size, 4, none⟩ = some (.string x.fold)) ∧ SeesU W X k x.floor) := Lib.hid fun W hW => by
    have hW' : Below w6.heap.size w6 W := (Below.refl _ _).drew.trans hW
    have := box5 (kx6.below hW')
    rw [hK] at this
    exact ⟨this, tx6.1.below hW'⟩
  have le1 := enc_ten (n := K) (by omega)
  have le2 := enc_ten (n := x.serial) (by omega)
  go_cut [12] from 48 (fun s12 wx => ∃ A7 c7, s12 = .slice A7 (enc K ++ enc x.serial).length c7 ∧ Hid (Sees wx A7 (enc K ++ enc x.serial).length (enc K ++ enc x.serial) ∧ Below w6.heap.size w6 wx))
  case first =>
    refine Facts.wp_region_preds (n := 143) (by kernel_rfl) (by kernel_rfl) rfl [Facts.Pred.is (Value.pointer (some ⟨w.heap.size, 0, none⟩)), Facts.Pred.is (Value.int .i64 (K : Int)), Facts.Pred.is (Value.int .u64 (K : Int)), Facts.Pred.shows (enc K).length (enc K), Facts.Pred.is (Value.pointer (some ⟨w.heap.size, 1, none⟩)), Facts.Pred.is (Value.int .u64 (x.serial : Int)), Facts.Pred.shows (enc K ++ enc x.serial).length (enc K ++ enc x.serial), Facts.Pred.shows (enc K ++ enc x.serial).length (enc K ++ enc x.serial)] ?_ ?_
    · refine ⟨?_, ?_, ?_, ?_, ?_, ?_, ?_, ?_, trivial⟩
      · refine Facts.step_is (Value.pointer (some ⟨w.heap.size, 0, none⟩)) fun a W hR hold hnew => ?_
        have f5 : a.tmps.getD 5 undef = Value.pointer (some ⟨w.heap.size, 0, none⟩) := hold 5 (by kernel_rfl)
        refine ⟨Facts.wanted_free rfl, ?_, fun _ => rfl⟩
        simp [go_sem, Act.eval, f5]
      · refine Facts.step_is (Value.int .i64 (K : Int)) fun a W hR hold hnew => ?_
        have f48 : a.tmps.getD 48 undef = Value.pointer (some ⟨w.heap.size, 0, none⟩) := hnew 0 48 (by kernel_rfl)
        obtain ⟨k0, k1, k2, k3, k4⟩ := (HC.out W hR).1
        refine ⟨Facts.wanted_free rfl, ?_, fun _ => rfl⟩
        simp [go_sem, Act.eval, f48, k0]
      · refine Facts.step_is (Value.int .u64 (K : Int)) fun a W hR hold hnew => ?_
        have f49 : a.tmps.getD 49 undef = Value.int .i64 (K : Int) := hnew 1 49 (by kernel_rfl)
        refine ⟨Facts.wanted_free rfl, ?_, fun _ => rfl⟩
        simp [go_sem, Act.eval, f49, hwu]
      · -- 3: Op.call { value (Operand.func 10), args := #[const (Value.sl
        refine Facts.step_call fun a W hR hold hnew => ?_
        have f50 : a.tmps.getD 50 undef = Value.int .u64 (K : Int) := hnew 2 50 (by kernel_rfl)
        refine ⟨Facts.wanted_free rfl, 10, #[.slice none 0 0, .int .u64 (K : Int)], by simp [go_sem, Act.eval, f50], ?_⟩
        refine (refLay_any none 0 0 [] (K : Int) W (Sees.nil _ _) (by omega) (by omega) (by omega)).mono ?_
        rintro e' w7 ⟨A9, c9, rfl, hown9, hb9⟩
        rw [Int.toNat_natCast, List.nil_append, Nat.zero_add] at *
        exact ⟨_, rfl, hb9, A9, c9, rfl, Sees.of_own hown9⟩
      · refine Facts.step_is (Value.pointer (some ⟨w.heap.size, 1, none⟩)) fun a W hR hold hnew => ?_
        have f5 : a.tmps.getD 5 undef = Value.pointer (some ⟨w.heap.size, 0, none⟩) := hold 5 (by kernel_rfl)
        refine ⟨Facts.wanted_free rfl, ?_, fun _ => rfl⟩
        simp [go_sem, Act.eval, f5]
      · refine Facts.step_is (Value.int .u64 (x.serial : Int)) fun a W hR hold hnew => ?_
        have f52 : a.tmps.getD 52 undef = Value.pointer (some ⟨w.heap.size, 1, none⟩) := hnew 4 52 (by kernel_rfl)
        obtain ⟨k0, k1, k2, k3, k4⟩ := (HC.out W hR).1
        refine ⟨Facts.wanted_free rfl, ?_, fun _ => rfl⟩
        simp [go_sem, Act.eval, f52, k1]
      · -- 6: Op.call { value (Operand.func 10), args := #[t51, t53], argT
        refine Facts.step_call fun a W hR hold hnew => ?_
        have h51 : ∃ A' c', a.tmps.getD 51 undef = .slice A' (enc K).length c' ∧ Sees W A' (enc K).length (enc K) := hnew 3 51 (by kernel_rfl)
        have f53 : a.tmps.getD 53 undef = Value.int .u64 (x.serial : Int) := hnew 5 53 (by kernel_rfl)
        obtain ⟨A8, c8, f51, hs8⟩ := h51
        refine ⟨Facts.wanted_free rfl, 10, #[.slice A8 (enc K).length c8, .int .u64 (x.serial : Int)], by simp [go_sem, Act.eval, f51, f53], ?_⟩
        refine (refLay_any A8 _ c8 (enc K) (x.serial : Int) W hs8 (by omega) (by omega) (by omega)).mono ?_
        rintro e' w7 ⟨A9, c9, rfl, hown9, hb9⟩
        rw [Int.toNat_natCast, ← List.length_append] at *
        exact ⟨_, rfl, hb9, A9, c9, rfl, Sees.of_own hown9⟩
      · -- 7: Op.assign t54
        refine Facts.step_new fun a W hR hold hnew => ?_
        have h54 : ∃ A' c', a.tmps.getD 54 undef = .slice A' (enc K ++ enc x.serial).length c' ∧ Sees W A' (enc K ++ enc x.serial).length (enc K ++ enc x.serial) := hnew 6 54 (by kernel_rfl)
        obtain ⟨A8, c8, f54, hs8⟩ := h54
        exact ⟨Facts.wanted_free rfl, .slice A8 _ c8, W, by simp [go_sem, Act.eval, f54], Below.refl _ _, A8, c8, rfl, hs8⟩
    · intro a w7 hR' hsize hdef hnew hold
      have h12 : ∃ A' c', a.tmps.getD 12 undef = .slice A' (enc K ++ enc x.serial).length c' ∧ Sees w7 A' (enc K ++ enc x.serial).length (enc K ++ enc x.serial) := hnew 7 12 (by kernel_rfl)
      obtain ⟨A7, c7, f12, hs7⟩ := h12
      obtain ⟨tm, df⟩ := a
      have hfr := frame_region hsize (by rfl) hold
      clear hnew hold
      simp only [List.filterMap_cons, List.filterMap_nil] at hfr
      simp only [List.foldl_cons, List.foldl_nil, List.setIfInBounds_toArray, List.set_cons_succ, List.set_cons_zero] at hfr
      simp only [] at f12 hdef
      rw [f12] at hfr
      clear f12 hsize
      generalize tm.getD 48 undef = y48 at hfr
      generalize tm.getD 49 undef = y49 at hfr
      generalize tm.getD 50 undef = y50 at hfr
      generalize tm.getD 51 undef = y51 at hfr
      generalize tm.getD 52 undef = y52 at hfr
      generalize tm.getD 53 undef = y53 at hfr
      generalize tm.getD 54 undef = y54 at hfr
      subst hfr
      subst hdef
      have HS7 := Lib.hid (And.intro hs7 ((Below.refl w6.heap.size w6).drew.trans hR'))
      clear hs7 hR' HC
      go_wp2_with fail
      go_meet
      case rel => exact ⟨A7, c7, rfl, HS7⟩
  case rest =>
    obtain ⟨wz, rfl⟩ : ∃ wz : World, wz = wc := ⟨_, rfl⟩
    obtain ⟨A7, c7, rfl, HS⟩ := hcut
    obtain ⟨hs7, hb7⟩ := HS.out
    have tz := tx6.below hb7
    have kz := kx6.below hb7
    obtain ⟨N7, hN7⟩ : ∃ N7, N7 = (enc K ++ enc x.serial).length := ⟨_, rfl⟩
    rw [← hN7] at hs7 ⊢
    have hn7 : N7 ≤ 900 := by rw [hN7, List.length_append]; omega
    have HN7 := Lib.hid hN7
    have hfo : x.fold.data.toList.length = x.fold.size := rfl
    have hfs : x.fold.size ≤ 48 := hfl
    clear hN7 HS
    go_upto_region 8 with fail
    have HC : Hid (∀ W, Below wz.drew.heap.size wz.drew W → (W.cell? ⟨w.heap.size, 0, none⟩ = some (.int .i64 (K : Int)) ∧ W.cell? ⟨w.heap.size, 1, none⟩ = some (.int .u64 (x.serial : Int)) ∧ W.cell? ⟨w.heap.size, 2, none⟩ = some (.slice X k l) ∧ W.cell? ⟨w.heap.size, 3, none⟩ = some (.int .u64 (x.time : Int)) ∧ W.cell? ⟨w.heap.size, 4, none⟩ = some (.string x.fold)) ∧ SeesU W X k x.floor ∧ Sees W A7 N7 (enc K ++ enc x.serial)) := Lib.hid fun W hW => by
      have hW' : Below wz.heap.size wz W := (Below.refl _ _).drew.trans hW
      have := box5 (kz.below hW')
      rw [hK] at this
      exact ⟨this, tz.1.below hW', hs7.below hW'⟩
    go_cut [12] from 55 (fun s12 wx => ∃ A8 c8, s12 = .slice A8 (manL x).length c8 ∧ Hid (Sees wx A8 (manL x).length (manL x) ∧ Below w6.heap.size w6 wx))
    case first =>
      refine Facts.wp_region_preds (n := 143) (by kernel_rfl) (by kernel_rfl) rfl [Facts.Pred.is (Value.slice A7 N7 c7), Facts.Pred.is (Value.pointer (some ⟨w.heap.size, 2, none⟩)), Facts.Pred.is (Value.slice X k l), Facts.Pred.shows (enc K ++ enc x.serial ++ layL x.floor).length (enc K ++ enc x.serial ++ layL x.floor), Facts.Pred.is (Value.pointer (some ⟨w.heap.size, 3, none⟩)), Facts.Pred.is (Value.int .u64 (x.time : Int)), Facts.Pred.shows (enc K ++ enc x.serial ++ layL x.floor ++ enc x.time).length (enc K ++ enc x.serial ++ layL x.floor ++ enc x.time), Facts.Pred.is (Value.pointer (some ⟨w.heap.size, 4, none⟩)), Facts.Pred.is (Value.string x.fold), Facts.Pred.shows x.fold.size x.fold.data.toList, Facts.Pred.shows (manL x).length (manL x), Facts.Pred.shows (manL x).length (manL x)] ?_ ?_
      · refine ⟨?_, ?_, ?_, ?_, ?_, ?_, ?_, ?_, ?_, ?_, ?_, ?_, trivial⟩
        · refine Facts.step_is (Value.slice A7 N7 c7) fun a W hR hold hnew => ?_
          have f12 : a.tmps.getD 12 undef = Value.slice A7 N7 c7 := hold 12 (by kernel_rfl)
          refine ⟨Facts.wanted_free rfl, ?_, fun _ => rfl⟩
          simp [go_sem, Act.eval, f12]
        · refine Facts.step_is (Value.pointer (some ⟨w.heap.size, 2, none⟩)) fun a W hR hold hnew => ?_
          have f5 : a.tmps.getD 5 undef = Value.pointer (some ⟨w.heap.size, 0, none⟩) := hold 5 (by kernel_rfl)
          refine ⟨Facts.wanted_free rfl, ?_, fun _ => rfl⟩
          simp [go_sem, Act.eval, f5]
        · refine Facts.step_is (Value.slice X k l) fun a W hR hold hnew => ?_
          have f56 : a.tmps.getD 56 undef = Value.pointer (some ⟨w.heap.size, 2, none⟩) := hnew 1 56 (by kernel_rfl)
          obtain ⟨k0, k1, k2, k3, k4⟩ := (HC.out W hR).1
          refine ⟨Facts.wanted_free rfl, ?_, fun _ => rfl⟩
          simp [go_sem, Act.eval, f56, k2]
        · -- 3: Op.call { value (Operand.func 12), args := #[t55, t57], argT
          refine Facts.step_call fun a W hR hold hnew => ?_
          have f55 : a.tmps.getD 55 undef = Value.slice A7 N7 c7 := hnew 0 55 (by kernel_rfl); have f57 : a.tmps.getD 57 undef = Value.slice X k l := hnew 2 57 (by kernel_rfl)
          refine ⟨Facts.wanted_free rfl, 12, #[.slice A7 N7 c7, .slice X k l], by simp [go_sem, Act.eval, f55, f57], ?_⟩
          refine (refLayV_any A7 X N7 c7 k l (enc K ++ enc x.serial) x.floor W (HC.out W hR).2.2 (HC.out W hR).2.1 SM.out (by omega)).mono ?_
          rintro e' w7 ⟨A9, c9, rfl, hown9, hb9⟩
          rw [HN7.out, ← List.length_append] at *
          exact ⟨_, rfl, hb9, A9, c9, rfl, Sees.of_own hown9⟩
        · refine Facts.step_is (Value.pointer (some ⟨w.heap.size, 3, none⟩)) fun a W hR hold hnew => ?_
          have f5 : a.tmps.getD 5 undef = Value.pointer (some ⟨w.heap.size, 0, none⟩) := hold 5 (by kernel_rfl)
          refine ⟨Facts.wanted_free rfl, ?_, fun _ => rfl⟩
          simp [go_sem, Act.eval, f5]
        · refine Facts.step_is (Value.int .u64 (x.time : Int)) fun a W hR hold hnew => ?_
          have f59 : a.tmps.getD 59 undef = Value.pointer (some ⟨w.heap.size, 3, none⟩) := hnew 4 59 (by kernel_rfl)
          obtain ⟨k0, k1, k2, k3, k4⟩ := (HC.out W hR).1
          refine ⟨Facts.wanted_free rfl, ?_, fun _ => rfl⟩
          simp [go_sem, Act.eval, f59, k3]
        · -- 6: Op.call { value (Operand.func 10), args := #[t58, t60], argT
          refine Facts.step_call fun a W hR hold hnew => ?_
          have h58 : ∃ A' c', a.tmps.getD 58 undef = .slice A' (enc K ++ enc x.serial ++ layL x.floor).length c' ∧ Sees W A' (enc K ++ enc x.serial ++ layL x.floor).length (enc K ++ enc x.serial ++ layL x.floor) := hnew 3 58 (by kernel_rfl)
          have f60 : a.tmps.getD 60 undef = Value.int .u64 (x.time : Int) := hnew 5 60 (by kernel_rfl)
          obtain ⟨A8, c8, f58, hs8⟩ := h58
          refine ⟨Facts.wanted_free rfl, 10, #[.slice A8 (enc K ++ enc x.serial ++ layL x.floor).length c8, .int .u64 (x.time : Int)], by simp [go_sem, Act.eval, f58, f60], ?_⟩
          refine (refLay_any A8 _ c8 (enc K ++ enc x.serial ++ layL x.floor) (x.time : Int) W hs8 (by have := HLEN.out; simp only [List.length_append] at *; omega) (by omega) (by omega)).mono ?_
          rintro e' w7 ⟨A9, c9, rfl, hown9, hb9⟩
          rw [Int.toNat_natCast, ← List.length_append] at *
          exact ⟨_, rfl, hb9, A9, c9, rfl, Sees.of_own hown9⟩
        · refine Facts.step_is (Value.pointer (some ⟨w.heap.size, 4, none⟩)) fun a W hR hold hnew => ?_
          have f5 : a.tmps.getD 5 undef = Value.pointer (some ⟨w.heap.size, 0, none⟩) := hold 5 (by kernel_rfl)
          refine ⟨Facts.wanted_free rfl, ?_, fun _ => rfl⟩
          simp [go_sem, Act.eval, f5]
        · refine Facts.step_is (Value.string x.fold) fun a W hR hold hnew => ?_
          have f62 : a.tmps.getD 62 undef = Value.pointer (some ⟨w.heap.size, 4, none⟩) := hnew 7 62 (by kernel_rfl)
          obtain ⟨k0, k1, k2, k3, k4⟩ := (HC.out W hR).1
          refine ⟨Facts.wanted_free rfl, ?_, fun _ => rfl⟩
          simp [go_sem, Act.eval, f62, k4]
        · -- 9: Op.convert 9 27 t63
          refine Facts.step_new fun a W hR hold hnew => ?_
          have f63 : a.tmps.getD 63 undef = Value.string x.fold := hnew 8 63 (by kernel_rfl)
          have r := run_bytes_of_string (P := Tryd.prog) W 9 27 5 x.fold Tryd.underlying9 Tryd.underlying27 Tryd.underlying5
          have cs8 := conv_sees W 5 x.fold (grownCap W x.fold.size 0 5)
          exact ⟨Facts.wanted_free rfl, .slice (some ⟨W.heap.size, 0, none⟩) x.fold.size (grownCap W x.fold.size 0 5), convW W 5 x.fold (grownCap W x.fold.size 0 5), by simp [go_sem, Act.eval, f63, r], cs8.2, _, _, rfl, cs8.1⟩
        · -- 10: Op.call { value (Operand.func 11), args := #[t61, t64], argT
          refine Facts.step_call fun a W hR hold hnew => ?_
          have h61 : ∃ A' c', a.tmps.getD 61 undef = .slice A' (enc K ++ enc x.serial ++ layL x.floor ++ enc x.time).length c' ∧ Sees W A' (enc K ++ enc x.serial ++ layL x.floor ++ enc x.time).length (enc K ++ enc x.serial ++ layL x.floor ++ enc x.time) := hnew 6 61 (by kernel_rfl)
          have h64 : ∃ A' c', a.tmps.getD 64 undef = .slice A' x.fold.size c' ∧ Sees W A' x.fold.size x.fold.data.toList := hnew 9 64 (by kernel_rfl)
          obtain ⟨A8, c8, f61, hs8⟩ := h61
          obtain ⟨A6, c6, f64, hs6⟩ := h64
          refine ⟨Facts.wanted_free rfl, 11, #[.slice A8 (enc K ++ enc x.serial ++ layL x.floor ++ enc x.time).length c8, .slice A6 x.fold.size c6], by simp [go_sem, Act.eval, f61, f64], ?_⟩
          refine (refText_any A8 _ c8 (enc K ++ enc x.serial ++ layL x.floor ++ enc x.time) A6 x.fold.size c6 x.fold.data.toList W hs8 hs6 (by have := HLEN.out; omega) (by omega)).mono ?_
          rintro e' w7 ⟨A9, c9, rfl, hown9, hb9⟩
          rw [show (enc K ++ enc x.serial ++ layL x.floor ++ enc x.time) ++ enc x.fold.size ++ x.fold.data.toList = manL x from HMEQ.out] at hown9
          have hLL := hown9.1
          rw [cs_length, Nat.mul_one] at hLL
          rw [← hLL] at hown9 ⊢
          exact ⟨_, rfl, hb9, A9, c9, rfl, Sees.of_own hown9⟩
        · -- 11: Op.assign t65
          refine Facts.step_new fun a W hR hold hnew => ?_
          have h65 : ∃ A' c', a.tmps.getD 65 undef = .slice A' (manL x).length c' ∧ Sees W A' (manL x).length (manL x) := hnew 10 65 (by kernel_rfl)
          obtain ⟨A8, c8, f65, hs8⟩ := h65
          exact ⟨Facts.wanted_free rfl, .slice A8 _ c8, W, by simp [go_sem, Act.eval, f65], Below.refl _ _, A8, c8, rfl, hs8⟩
      · intro a w7 hR' hsize hdef hnew hold
        have h12 : ∃ A' c', a.tmps.getD 12 undef = .slice A' (manL x).length c' ∧ Sees w7 A' (manL x).length (manL x) := hnew 11 12 (by kernel_rfl)
        obtain ⟨A8, c8, f12, hs8⟩ := h12
        obtain ⟨tm, df⟩ := a
        have hfr := frame_region hsize (by rfl) hold
        clear hnew hold
        simp only [List.filterMap_cons, List.filterMap_nil] at hfr
        simp only [List.foldl_cons, List.foldl_nil, List.setIfInBounds_toArray, List.set_cons_succ, List.set_cons_zero] at hfr
        simp only [] at f12 hdef
        rw [f12] at hfr
        clear f12 hsize
        generalize tm.getD 55 undef = y55 at hfr
        generalize tm.getD 56 undef = y56 at hfr
        generalize tm.getD 57 undef = y57 at hfr
        generalize tm.getD 58 undef = y58 at hfr
        generalize tm.getD 59 undef = y59 at hfr
        generalize tm.getD 60 undef = y60 at hfr
        generalize tm.getD 61 undef = y61 at hfr
        generalize tm.getD 62 undef = y62 at hfr
        generalize tm.getD 63 undef = y63 at hfr
        generalize tm.getD 64 undef = y64 at hfr
        generalize tm.getD 65 undef = y65 at hfr
        subst hfr
        subst hdef
        have HS8 := Lib.hid (And.intro hs8 (hb7.trans (((Below.refl wz.heap.size wz).drew.trans hR').mono hb7.size)))
        clear hs8 hR' HC
        go_wp2_with fail
        go_meet
        case rel => exact ⟨A8, c8, rfl, HS8⟩
    case rest =>
      obtain ⟨wy, rfl⟩ : ∃ wy : World, wy = wc := ⟨_, rfl⟩
      obtain ⟨A8, c8, rfl, HS8⟩ := hcut
      obtain ⟨hs8, hb8⟩ := HS8.out
      have ky := kx6.below hb8
      have ty := tx6.below hb8
      have sb8 := sb6.below hb8
      have By := Lib.hid (B6.out.trans (hb8.mono B6.out.size))
      have dec := decode_any Ab (manL x).length cb (manL x) wy sb8 (by omega) (by have := HML.out; omega)
      rw [decM_of HR.out] at dec
      have DEC := Lib.hid dec
      have SP8 := Lib.hid (fun W (hW : Below wy.heap.size wy W) => HP.out.below (By.out.trans (hW.mono By.out.size)))
      clear tz kz hs7 hb7 HS8 hb8 dec
      go_wp2_with fail
      refine DEC.out.mono ?_
      rintro e wa ⟨RA, rn, rc, rfl, own, hba⟩
      have al := (Below.refl wa.heap.size wa).alloc (Nat.le_refl _) (.cells #[.int .i64 x.node, .int .u64 (x.serial : Int), .slice RA rn rc, .int .u64 (x.time : Int), .string x.fold] 26)
      have bz := hba.trans (al.mono hba.size)
      have own9 := Own.below own al (Nat.le_refl _)
      have kb : Box (wa.alloc (.cells #[.int .i64 x.node, .int .u64 (x.serial : Int), .slice RA rn rc, .int .u64 (x.time : Int), .string x.fold] 26)) wa.heap.size { x with floor := trimL x.floor } RA rn rc := heap_alloc_new wa _
      have ka := ky.below bz
      have ta := ty.below bz
      have sb9 := sb8.below bz
      have hs9 := hs8.below bz
      have B9 := Lib.hid (By.out.trans (bz.mono By.out.size))
      have SP9 := Lib.hid (SP8.out _ bz)
      have hrn : rn ≤ 64 := by
        have h1 := (SeesU.of_own own).1
        have h2 := trimN_le x.floor x.floor.length
        have h3 := SM.out.1
        have h4 := trimL_len x.floor
        simp only [] at h1
        omega
      have SAME := Lib.hid (same_yes { x with floor := trimL x.floor } x RA X rn rc k l _ (SeesU.of_own own9) ta.1 (by omega) (by omega) (alike_trim x))
      unfold Mn.val Mn.row at SAME ⊢
      simp only [] at SAME ⊢
      rw [← hK]
      have r1 := sb9.string (P := Tryd.prog) cb (t := 27) (s := 9) (e := 5) Tryd.underlying27 Tryd.underlying5 Tryd.underlying9
      have r2 := hs9.string (P := Tryd.prog) c8 (t := 27) (s := 9) (e := 5) Tryd.underlying27 Tryd.underlying5 Tryd.underlying9
      obtain ⟨z0, z1, z2, z3, z4⟩ := box5 kb
      obtain ⟨p0, p1, p2, p3, p4⟩ := box5 ka
      simp only [] at z0 z1 z2 z3 z4
      have HK := Lib.hid hK
      clear DEC own own9 hba al bz SP8 ky ty sb8 hs8 hrn hK kx6 tx6
      go_wp2_with fail
      refine SAME.out.mono ?_
      rintro e u3 ⟨rfl, hbd⟩
      have bel3 := B9.out.trans (hbd.mono B9.out.size)
      have hpp3 := SP9.out.below hbd
      have sb3 := sb9.below hbd
      have hL := HML.out
      have hL0 := manL_pos x
      clear z0 z1 z2 z3 z4 p0 p1 p2 p3 p4 r1 r2 ka kb ta hs9 sb9 hbd SAME SP9 B9 By HMEQ HLEN HML HK SM HN7 B6 sb6 HP HR HBO sA B2 B3 B4 B5
      generalize manL x = b at hL hL0 sb3 capb ⊢
      obtain ⟨PN, hPN⟩ : ∃ PN, PN = b.length := ⟨_, rfl⟩
      rw [← hPN] at hL hL0 sb3 capb ⊢
      have HPN := Lib.hid hPN
      clear hPN
      obtain ⟨i, hi, hz', hsz, hby⟩ := info_parts info8
      go_wp2_with (first | (at_builtin; refine wpList_app rfl _ _ 27 rfl u3.heap.size 5 i (.int .u8 0) Tryd.underlying27 hi hz' hsz hby rfl none 0 0 [] rfl (Own.nil _ _ _) Ab PN cb b rfl sb3 ?d1 ?d2 ?_))
      case d1 => omega
      case d2 => exact Nat.le_refl _
      intro A6 c6 u4 hown hb4
      obtain ⟨hcap6, hcap7⟩ := Own.cap hown
      obtain ⟨g6, rfl, hg6⟩ := Own.at_ hown hL0
      clear hi hz' hsz hby
      obtain ⟨j, hj⟩ : ∃ j, j = at_' % PN := ⟨_, rfl⟩
      have hjl : j < PN := by rw [hj]; exact Nat.mod_lt _ hL0
      have hxj : (at_' : Int) % (PN : Int) = (j : Int) := by rw [hj]; omega
      clear hj
      have hjw : j < b.length := by rw [← HPN.out]; exact hjl
      obtain ⟨T8, hT⟩ : ∃ T8 : UInt8, T8.toNat = turn := ⟨UInt8.ofNat turn, by rw [UInt8.toNat_ofNat']; omega⟩
      have hcell : u4.cell? ⟨g6, j, none⟩ = some (.int .u8 (b[j].toNat : Int)) := by
        rw [hown.cellAt j (by omega), cs_get (List.getElem?_eq_getElem hjw)]
      have hfr : u4.frozen? ⟨g6, j, none⟩ = false := hown.frozenAt j
      have hstored := hown.stored j (.int .u8 ((b[j] ^^^ T8).toNat : Int))
      have hset : (cs b).set j (.int .u8 ((b[j] ^^^ T8).toNat : Int)) = cs (b.set j (b[j] ^^^ T8)) := by simp [cs, List.map_set]
      rw [hset] at hstored
      have hxor : bits .xor .u8 (b[j].toNat : Int) (turn : Int) = ((b[j] ^^^ T8).toNat : Int) := by
        rw [← hT, u8_xor_nat _ _ b[j].toNat_lt T8.toNat_lt, UInt8.toNat_xor]
      generalize b[j] ^^^ T8 = y2 at hstored hxor
      generalize b[j] = y1 at hcell hxor
      have HST := Lib.hid hstored.1
      clear hset hstored hjw hT
      go_wp2_with fail
      go_region
      have b35 : Below u3.heap.size u3 ((u4.setCell ⟨g6, j, none⟩ (.int .u8 (y2.toNat : Int))).drew) := (hb4.setCell hg6 _).drew
      have sc5 : Sees ((u4.setCell ⟨g6, j, none⟩ (.int .u8 (y2.toNat : Int))).drew) (some ⟨g6, 0, none⟩) PN (b.set j y2) := (Sees.of_own HST.out).drew
      have sp5 := hpp3.below b35
      have bel5 := bel3.trans (b35.mono bel3.size)
      generalize (u4.setCell ⟨g6, j, none⟩ (.int .u8 (y2.toNat : Int))).drew = u5 at sp5 sc5 bel5 ⊢
      clear hown hcell hfr hxor b35 hb4 HST sb3 hpp3 bel3 hxj hjl hg6
      go_wp2_with fail
      have hA := (Below.refl u5.heap.size u5).alloc (Nat.le_refl _) (.cells #[.slice P pn pc, .slice (some ⟨g6, 0, none⟩) PN c6] 27)
      have f6 := heap_alloc_new u5 (.cells #[.slice P pn pc, .slice (some ⟨g6, 0, none⟩) PN c6] 27)
      have sp6 := sp5.below hA
      have sc6 := sc5.below hA
      have bel6 := bel5.trans (hA.mono bel5.size)
      have hz6 : (u5.alloc (.cells #[.slice P pn pc, .slice (some ⟨g6, 0, none⟩) PN c6] 27)).heap.size = u5.heap.size + 1 := by simp
      generalize u5.alloc (.cells #[.slice P pn pc, .slice (some ⟨g6, 0, none⟩) PN c6] 27) = w6 at f6 sp6 sc6 bel6 hz6 ⊢
      have HQ : Hid (∀ W, Below w6.heap.size w6 W → Below w.heap.size w W ∧ ∀ j : Nat, j < 2 → ∃ A7 n7 c7 l7, W.cell? ⟨u5.heap.size, j, none⟩ = some (.slice A7 n7 c7) ∧ Sees W A7 n7 l7 ∧ n7 ≤ c7 ∧ n7 ≤ 100000) := Lib.hid fun W hW => by
        have hb : W.heap[u5.heap.size]? = some (.cells #[.slice P pn pc, .slice (some ⟨g6, 0, none⟩) PN c6] 27 (0, 0)) := (hW.block u5.heap.size (by omega)).trans f6
        refine ⟨bel6.trans (hW.mono bel6.size), fun j hj => ?_⟩
        match j, hj with
        | 0, _ => exact ⟨P, pn, pc, p, by rw [cell_of_row W u5.heap.size _ _ _ _ hb]; rfl, sp6.below hW, hpc, by omega⟩
        | 1, _ => exact ⟨some ⟨g6, 0, none⟩, PN, c6, _, by rw [cell_of_row W u5.heap.size _ _ _ _ hb]; rfl, sc6.below hW, hcap6, by omega⟩
        | j + 2, h => omega
      clear hA f6 sp6 sc6 bel6 hz6 sp5 sc5 bel5 hL hL0 hcap6 hcap7 h1 h3 h4 hpc hpc2 hh hat htu HPN
      go_loopw [109] (fun v wr => ∃ j : Nat, v = .int .i64 (j : Int) ∧ j ≤ 2 ∧ Below w6.heap.size w6 wr) (fun v _ => 2 - (intOf v).toNat)
      case atStart => exact ⟨0, rfl, by omega, Below.refl _ _⟩
      case round =>
        obtain ⟨j, rfl, hj, hrel⟩ := hrel
        obtain ⟨bel, hcells⟩ := HQ.out wr hrel
        by_cases hlt : j < 2
        · obtain ⟨A7, n7, c7, l7, hcell, hs7, hc7, hn7⟩ := hcells j hlt
          have hj1 : (j : Int) < 2 := by omega
          clear hcells
          go_wp2_with fail
          refine (decode_any A7 n7 c7 l7 wr hs7 hc7 hn7).mono ?_
          intro e' w8 hd
          unfold DecGives at hd
          cases hg : decM l7 with
          | inl E =>
            rw [hg] at hd
            obtain ⟨rfl, hb8⟩ := hd
            have hE := decM_errs hg
            have d1 : ((E : Int) == 0) = false := by rw [beq_eq_false_iff_ne]; omega
            have d2 : ((E : Int) != 0) = true := by rw [bne_iff_ne]; omega
            have b8 := hrel.trans (hb8.mono hrel.size)
            clear hb8 hs7 hc7 hn7 hcell hg hE bel
            unfold zeroM
            go_wp2_with fail
            go_quiet (fail)
            go_wp2
            go_roundw
            case rel =>
              have b9 := b8.alloc b8.size (.cells #[.int .i64 0, .int .u64 0, .slice none 0 0, .int .u64 0, .string ⟨#[]⟩] 26)
              exact ⟨j + 1, by simp, by omega, ⟨b9.os, b9.tape, b9.output, b9.size, b9.block⟩⟩
            case measure => simp [intOf]; omega
          | inr y =>
            rw [hg] at hd
            obtain ⟨RA, rn, rc, rfl, own, hb8⟩ := hd
            obtain ⟨rfl, hR, htr⟩ := decM_ok hg
            have b8 := hrel.trans (hb8.mono hrel.size)
            have hs7 := hs7.below hb8
            have capr := Own.cap own
            have hrn : rn ≤ 64 := by
              have h1 := (SeesU.of_own own).1
              have h3 := hR.fl.1
              omega
            have tv8 : Took2 w8 RA rn rc y.floor := ⟨SeesU.of_own own, small_fits hR.fl, capr.1, capr.2, by omega⟩
            have hfy := foldB_len hR.fd
            have EF := Lib.hid hR
            clear hg hR htr hb8 hc7 hn7 hcell bel own capr
            unfold Mn.val Mn.row
            go_wp2_with fail
            have hal := (Below.refl w8.heap.size w8).alloc (Nat.le_refl _) (.cells (y.row RA rn rc) 26)
            have f9 := heap_alloc_new w8 (.cells (y.row RA rn rc) 26)
            have tv9 := tv8.below hal
            have hq9 := hs7.below hal
            have b9 := b8.trans (hal.mono b8.size)
            have hz9 : (w8.alloc (.cells (y.row RA rn rc) 26)).heap.size = w8.heap.size + 1 := by simp
            clear hal tv8 hs7 b8
            unfold Mn.row at f9 tv9 hq9 b9 hz9
            generalize w8.alloc (.cells #[.int .i64 y.node, .int .u64 (y.serial : Int), .slice RA rn rc, .int .u64 (y.time : Int), .string y.fold] 26) = w9 at f9 tv9 hq9 b9 hz9 ⊢
            have HW6 : Hid (∀ W, Below w9.drew.heap.size w9.drew W → Below w6.heap.size w6 W) := Lib.hid fun W hW => b9.drew.trans (hW.mono b9.drew.size)
            have HC : Hid (∀ W, Below w9.drew.heap.size w9.drew W → Box W w8.heap.size y RA rn rc) := Lib.hid fun W hW => (hW.block w8.heap.size (by show _ < w9.heap.size; omega)).trans f9
            have HSE : Hid (∀ W, Below w9.drew.heap.size w9.drew W → Took2 W RA rn rc y.floor) := Lib.hid fun W hW => tv9.below ((Below.refl _ _).drew.trans hW)
            have HSQ : Hid (∀ W, Below w9.drew.heap.size w9.drew W → Sees W A7 n7 (manL y)) := Lib.hid fun W hW => hq9.drew.below hW
            clear f9 tv9 hq9 b9 hz9
            refine Facts.wp_region_preds (n := 143) (by kernel_rfl) (by kernel_rfl) rfl [Facts.Pred.is (Value.int .i64 0), Facts.Pred.is (Value.bool true), Facts.Pred.is (Value.bool true), Facts.Pred.is (y.val RA rn rc), Facts.Pred.shows (manL y).length (manL y), Facts.Pred.is (Value.string ⟨(manL y).toArray⟩), Facts.Pred.is (Value.slice A7 n7 c7), Facts.Pred.is (Value.string ⟨(manL y).toArray⟩), Facts.Pred.is (Value.bool false), Facts.Pred.is (Value.bool false), Facts.Pred.is (y.val RA rn rc), Facts.Pred.is (Value.bool true), Facts.Pred.is (Value.bool false), Facts.Pred.is (Value.bool false), Facts.Pred.is (Value.bool false), Facts.Pred.is (Value.bool false), Facts.Pred.is (Value.int .i64 0), Facts.Pred.is (Value.bool false), Facts.Pred.is (Value.bool false), Facts.Pred.any, Facts.Pred.any, Facts.Pred.any, Facts.Pred.is (Value.bool false), Facts.Pred.is (Value.bool false)] ?_ ?_
            · refine ⟨?_, ?_, ?_, ?_, ?_, ?_, ?_, ?_, ?_, ?_, ?_, ?_, ?_, ?_, ?_, ?_, ?_, ?_, ?_, ?_, ?_, ?_, ?_, ?_, trivial⟩
              · refine Facts.step_is (Value.int .i64 0) fun a W hR hold hnew => ?_
                have f19 : a.tmps.getD 19 undef = Value.int .i64 0 := hold 19 (by kernel_rfl)
                refine ⟨Facts.wanted_free rfl, ?_, fun _ => rfl⟩
                simp [go_sem, Act.eval, f19]
              · refine Facts.step_is (Value.bool true) fun a W hR hold hnew => ?_
                have f118 : a.tmps.getD 118 undef = Value.int .i64 0 := hnew 0 118 (by kernel_rfl)
                refine ⟨Facts.wanted_free rfl, ?_, fun _ => rfl⟩
                simp [go_sem, Act.eval, f118]
              · refine Facts.step_is (Value.bool true) fun a W hR hold hnew => ?_
                have f119 : a.tmps.getD 119 undef = Value.bool true := hnew 1 119 (by kernel_rfl)
                refine ⟨Facts.wanted_free rfl, ?_, fun _ => rfl⟩
                simp [go_sem, Act.eval, f119]
              · refine Facts.step_is (y.val RA rn rc) fun a W hR hold hnew => ?_
                have f18 : a.tmps.getD 18 undef = Value.pointer (some ⟨w8.heap.size, 0, none⟩) := hold 18 (by kernel_rfl)
                have g120 : a.tmps.getD 120 undef = .bool true := hnew 2 120 (by kernel_rfl)
                obtain ⟨k0, k1, k2, k3, k4⟩ := box5 (HC.out W hR)
                refine ⟨Facts.wanted_by rfl (by kernel_rfl) g120, ?_, fun _ => rfl⟩
                simp [go_sem, Act.eval, f18, k0, k1, k2, k3, k4, Mn.val, Mn.row]
              · -- 4: Op.call { value (Operand.func 9), args := #[t121], argTypes 
                refine Facts.step_call fun a W hR hold hnew => ?_
                have f121 : a.tmps.getD 121 undef = y.val RA rn rc := hnew 3 121 (by kernel_rfl); have g120 : a.tmps.getD 120 undef = .bool true := hnew 2 120 (by kernel_rfl)
                refine ⟨Facts.wanted_by rfl (by kernel_rfl) g120, 9, #[(y.val RA rn rc)], by simp [go_sem, Act.eval, f121], ?_⟩
                have hy := EF.out
                refine (encode_any y _ _ _ W hy.n0 hy.n1 (by have := hy.sr; omega) (by have := hy.tm; omega) (HSE.out W hR) hrn (by omega)).mono ?_
                rintro e' w7 ⟨A9, c9, rfl, hs9, -, -, hb9⟩
                exact ⟨_, rfl, hb9, A9, c9, rfl, hs9⟩
              · -- 5: Op.convert 27 9 t122
                refine Facts.step_is (Value.string ⟨(manL y).toArray⟩) fun a W hR hold hnew => ?_
                have h122 : ∃ A' c', a.tmps.getD 122 undef = .slice A' (manL y).length c' ∧ Sees W A' (manL y).length (manL y) := hnew 4 122 (by kernel_rfl)
                have g120 : a.tmps.getD 120 undef = .bool true := hnew 2 120 (by kernel_rfl)
                obtain ⟨A9, c9, f122, hs122⟩ := h122
                have r := hs122.string (P := Tryd.prog) c9 (t := 27) (s := 9) (e := 5) Tryd.underlying27 Tryd.underlying5 Tryd.underlying9
                refine ⟨Facts.wanted_by rfl (by kernel_rfl) g120, ?_, fun _ => rfl⟩
                simp [go_sem, Act.eval, f122, r]
              · refine Facts.step_is (Value.slice A7 n7 c7) fun a W hR hold hnew => ?_
                have f17 : a.tmps.getD 17 undef = Value.slice A7 n7 c7 := hold 17 (by kernel_rfl)
                have g120 : a.tmps.getD 120 undef = .bool true := hnew 2 120 (by kernel_rfl)
                refine ⟨Facts.wanted_by rfl (by kernel_rfl) g120, ?_, fun _ => rfl⟩
                simp [go_sem, Act.eval, f17]
              · refine Facts.step_is (Value.string ⟨(manL y).toArray⟩) fun a W hR hold hnew => ?_
                have f124 : a.tmps.getD 124 undef = Value.slice A7 n7 c7 := hnew 6 124 (by kernel_rfl)
                have g120 : a.tmps.getD 120 undef = .bool true := hnew 2 120 (by kernel_rfl)
                have r := (HSQ.out W hR).string (P := Tryd.prog) c7 (t := 27) (s := 9) (e := 5) Tryd.underlying27 Tryd.underlying5 Tryd.underlying9
                refine ⟨Facts.wanted_by rfl (by kernel_rfl) g120, ?_, fun _ => rfl⟩
                simp [go_sem, Act.eval, f124, r]
              · refine Facts.step_is (Value.bool false) fun a W hR hold hnew => ?_
                have f123 : a.tmps.getD 123 undef = Value.string ⟨(manL y).toArray⟩ := hnew 5 123 (by kernel_rfl)
                have f125 : a.tmps.getD 125 undef = Value.string ⟨(manL y).toArray⟩ := hnew 7 125 (by kernel_rfl)
                have g120 : a.tmps.getD 120 undef = .bool true := hnew 2 120 (by kernel_rfl)
                refine ⟨Facts.wanted_by rfl (by kernel_rfl) g120, ?_, fun _ => rfl⟩
                simp [go_sem, Act.eval, f123, f125]
              · refine Facts.step_is (Value.bool false) fun a W hR hold hnew => ?_
                have f126 : a.tmps.getD 126 undef = Value.bool false := hnew 8 126 (by kernel_rfl)
                have g120 : a.tmps.getD 120 undef = .bool true := hnew 2 120 (by kernel_rfl)
                refine ⟨Facts.wanted_by rfl (by kernel_rfl) g120, ?_, fun _ => rfl⟩
                simp [go_sem, Act.eval, f126]
              · refine Facts.step_is (y.val RA rn rc) fun a W hR hold hnew => ?_
                have f18 : a.tmps.getD 18 undef = Value.pointer (some ⟨w8.heap.size, 0, none⟩) := hold 18 (by kernel_rfl)
                have g127 : a.tmps.getD 127 undef = .bool false := hnew 9 127 (by kernel_rfl)
                obtain ⟨k0, k1, k2, k3, k4⟩ := box5 (HC.out W hR)
                refine ⟨Facts.wanted_by rfl (by kernel_rfl) g127, ?_, fun _ => rfl⟩
                simp [go_sem, Act.eval, f18, k0, k1, k2, k3, k4, Mn.val, Mn.row]
              · -- 11: Op.call { value (Operand.func 8), args := #[t128], argTypes 
                refine Facts.step_call fun a W hR hold hnew => ?_
                have f128 : a.tmps.getD 128 undef = y.val RA rn rc := hnew 10 128 (by kernel_rfl); have g127 : a.tmps.getD 127 undef = .bool false := hnew 9 127 (by kernel_rfl)
                refine ⟨Facts.wanted_by rfl (by kernel_rfl) g127, 8, #[(y.val RA rn rc)], by simp [go_sem, Act.eval, f128], ?_⟩
                have hy := EF.out
                refine (right_any y _ _ _ W (by have := hy.n0; omega) (by have := hy.n1; omega) (by have := hy.sr; omega) (by have := hy.tm; omega) (HSE.out W hR) (by omega)).mono ?_
                rintro e' w7 ⟨rfl, hb7⟩
                exact ⟨_, rfl, hb7, by rw [(rightB_iff y).2 hy]; exact rfl⟩
              · refine Facts.step_is (Value.bool false) fun a W hR hold hnew => ?_
                have f129 : a.tmps.getD 129 undef = Value.bool true := hnew 11 129 (by kernel_rfl)
                have g127 : a.tmps.getD 127 undef = .bool false := hnew 9 127 (by kernel_rfl)
                refine ⟨Facts.wanted_by rfl (by kernel_rfl) g127, ?_, fun _ => rfl⟩
                simp [go_sem, Act.eval, f129]
              · refine Facts.step_is (Value.bool false) fun a W hR hold hnew => ?_
                have f127 : a.tmps.getD 127 undef = Value.bool false := hnew 9 127 (by kernel_rfl)
                have f130 : a.tmps.getD 130 undef = Value.bool false := hnew 12 130 (by kernel_rfl)
                have g120 : a.tmps.getD 120 undef = .bool true := hnew 2 120 (by kernel_rfl)
                refine ⟨Facts.wanted_by rfl (by kernel_rfl) g120, ?_, fun _ => rfl⟩
                simp [go_sem, Act.eval, f127, f130]
              · refine Facts.step_is (Value.bool false) fun a W hR hold hnew => ?_
                have f120 : a.tmps.getD 120 undef = Value.bool true := hnew 2 120 (by kernel_rfl)
                have f131 : a.tmps.getD 131 undef = Value.bool false := hnew 13 131 (by kernel_rfl)
                refine ⟨Facts.wanted_free rfl, ?_, fun _ => rfl⟩
                simp [go_sem, Act.eval, f120, f131]
              · refine Facts.step_is (Value.bool false) fun a W hR hold hnew => ?_
                have f132 : a.tmps.getD 132 undef = Value.bool false := hnew 14 132 (by kernel_rfl)
                refine ⟨Facts.wanted_free rfl, ?_, fun _ => rfl⟩
                simp [go_sem, Act.eval, f132]
              · refine Facts.step_is (Value.int .i64 0) fun a W hR hold hnew => ?_
                have f19 : a.tmps.getD 19 undef = Value.int .i64 0 := hold 19 (by kernel_rfl)
                have g133 : a.tmps.getD 133 undef = .bool false := hnew 15 133 (by kernel_rfl)
                refine ⟨Facts.wanted_by rfl (by kernel_rfl) g133, ?_, fun _ => rfl⟩
                simp [go_sem, Act.eval, f19]
              · refine Facts.step_is (Value.bool false) fun a W hR hold hnew => ?_
                have f134 : a.tmps.getD 134 undef = Value.int .i64 0 := hnew 16 134 (by kernel_rfl)
                have g133 : a.tmps.getD 133 undef = .bool false := hnew 15 133 (by kernel_rfl)
                refine ⟨Facts.wanted_by rfl (by kernel_rfl) g133, ?_, fun _ => rfl⟩
                simp [go_sem, Act.eval, f134]
              · refine Facts.step_is (Value.bool false) fun a W hR hold hnew => ?_
                have f135 : a.tmps.getD 135 undef = Value.bool false := hnew 17 135 (by kernel_rfl)
                have g133 : a.tmps.getD 133 undef = .bool false := hnew 15 133 (by kernel_rfl)
                refine ⟨Facts.wanted_by rfl (by kernel_rfl) g133, ?_, fun _ => rfl⟩
                simp [go_sem, Act.eval, f135]
              · -- 19: Op.fieldAddr 26 t18 0
                refine Sht.step_skip (fun a W hnew => ?_) (fun _ => trivial)
                have g136 : a.tmps.getD 136 undef = .bool false := hnew 18 136 (by kernel_rfl)
                exact Sht.wanted_not rfl (by kernel_rfl) g136
              · -- 20: Op.load 3 t137
                refine Sht.step_skip (fun a W hnew => ?_) (fun _ => trivial)
                have g136 : a.tmps.getD 136 undef = .bool false := hnew 18 136 (by kernel_rfl)
                exact Sht.wanted_not rfl (by kernel_rfl) g136
              · -- 21: Op.binOp BinOp.neq 3 t138 (const (0:i64)) 3
                refine Sht.step_skip (fun a W hnew => ?_) (fun _ => trivial)
                have g136 : a.tmps.getD 136 undef = .bool false := hnew 18 136 (by kernel_rfl)
                exact Sht.wanted_not rfl (by kernel_rfl) g136
              · refine Facts.step_is (Value.bool false) fun a W hR hold hnew => ?_
                have f136 : a.tmps.getD 136 undef = Value.bool false := hnew 18 136 (by kernel_rfl)
                have g133 : a.tmps.getD 133 undef = .bool false := hnew 15 133 (by kernel_rfl)
                refine ⟨Facts.wanted_by rfl (by kernel_rfl) g133, ?_, fun _ => rfl⟩
                simp [go_sem, Act.eval, f136]
              · refine Facts.step_is (Value.bool false) fun a W hR hold hnew => ?_
                have f133 : a.tmps.getD 133 undef = Value.bool false := hnew 15 133 (by kernel_rfl)
                have f140 : a.tmps.getD 140 undef = Value.bool false := hnew 22 140 (by kernel_rfl)
                refine ⟨Facts.wanted_free rfl, ?_, fun _ => rfl⟩
                simp [go_sem, Act.eval, f133, f140]
            · intro a w10 hR' hsize hdef hnew hold
              have f141 : a.tmps.getD 141 undef = Value.bool false := hnew 23 141 (by kernel_rfl)
              have hb11 := HW6.out w10 hR'
              obtain ⟨tm, df⟩ := a
              have hfr := frame_region hsize (by rfl) hold
              clear hnew hold
              simp only [List.filterMap_cons, List.filterMap_nil] at hfr
              simp only [List.foldl_cons, List.foldl_nil, List.setIfInBounds_toArray, List.set_cons_succ, List.set_cons_zero] at hfr
              simp only [] at f141 hdef
              rw [f141] at hfr
              clear f141 hsize
              generalize tm.getD 118 undef = y118 at hfr
              generalize tm.getD 119 undef = y119 at hfr
              generalize tm.getD 120 undef = y120 at hfr
              generalize tm.getD 121 undef = y121 at hfr
              generalize tm.getD 122 undef = y122 at hfr
              generalize tm.getD 123 undef = y123 at hfr
              generalize tm.getD 124 undef = y124 at hfr
              generalize tm.getD 125 undef = y125 at hfr
              generalize tm.getD 126 undef = y126 at hfr
              generalize tm.getD 127 undef = y127 at hfr
              generalize tm.getD 128 undef = y128 at hfr
              generalize tm.getD 129 undef = y129 at hfr
              generalize tm.getD 130 undef = y130 at hfr
              generalize tm.getD 131 undef = y131 at hfr
              generalize tm.getD 132 undef = y132 at hfr
              generalize tm.getD 133 undef = y133 at hfr
              generalize tm.getD 134 undef = y134 at hfr
              generalize tm.getD 135 undef = y135 at hfr
              generalize tm.getD 136 undef = y136 at hfr
              generalize tm.getD 137 undef = y137 at hfr
              generalize tm.getD 138 undef = y138 at hfr
              generalize tm.getD 139 undef = y139 at hfr
              generalize tm.getD 140 undef = y140 at hfr
              subst hfr
              subst hdef
              clear HSE HSQ EF
              go_wp2
              go_roundw
              case rel => exact ⟨j + 1, by simp, by omega, hb11⟩
              case measure => simp [intOf]; omega
        · obtain rfl : j = 2 := by omega
          clear hcells
          go_wp2
          go_ret
          exact ⟨rfl, bel⟩

set_option maxRecDepth 100000 in
set_option maxHeartbeats 4000000 in
theorem bytes_short (a : Mn) (A P : Option Addr) (n c pn pc how at_' turn : Nat) (w : World) (T : Chk.Tabs w) (ha : Arg w a A n c) (hp : pn ≤ 9223372036854775807) (h : 64 < n ∨ 60 < a.fold.size ∨ 300 < pn) :
    Calls Tryd.prog 3 #[a.val A n c, .int .u8 (how : Int), .slice P pn pc, .int .u16 (at_' : Int), .int .u8 (turn : Int)] w fun e w' => e = .returned (.bool true) ∧ Below w.heap.size w w' := by
  obtain ⟨nd, sr, v, tm, fd⟩ := a
  have hn9 : n ≤ 9223372036854775807 := by have := ha.h; have := ha.k; omega
  have hf1 : fd.size ≤ 9223372036854775807 := ha.fd
  unfold Mn.val Mn.row
  simp only [] at h ⊢
  have b0 := (Below.refl w.heap.size w).alloc (Nat.le_refl _) (.cells #[.int .i64 nd, .int .u64 (sr : Int), .slice A n c, .int .u64 (tm : Int), .string fd] 26)
  have g0 : (w.alloc (.cells #[.int .i64 nd, .int .u64 (sr : Int), .slice A n c, .int .u64 (tm : Int), .string fd] 26)).heap[w.heap.size]? = some (.cells #[.int .i64 nd, .int .u64 (sr : Int), .slice A n c, .int .u64 (tm : Int), .string fd] 26 (0, 0)) := heap_alloc_new w _
  clear ha
  go_enter Tryd.func3, Tryd.ntmps3
  go_wp2_with fail
  generalize w.alloc (.cells #[.int .i64 nd, .int .u64 (sr : Int), .slice A n c, .int .u64 (tm : Int), .string fd] 26) = w1 at b0 g0 ⊢
  refine (awakeM w1 (T.below b0)).mono ?_
  rintro e w2 ⟨rfl, hb2⟩
  have b2 := b0.trans (hb2.mono b0.size)
  have k0 := (hb2.block w.heap.size (Array.getElem?_eq_some_iff.1 g0).1).trans g0
  obtain ⟨p0, p1, p2, p3, p4⟩ := box5 k0
  have AW := Lib.hid (awakeM w2 (T.below b2))
  have B2 := Lib.hid b2
  clear hb2 g0 k0 b0 b2
  by_cases h1 : 64 < n
  · go_wp2_with fail
    refine AW.out.mono ?_
    rintro e w3 ⟨rfl, hb3⟩
    have B3 := Lib.hid (B2.out.trans (hb3.mono B2.out.size))
    clear hb3
    go_wp2
    go_ret
    exact ⟨rfl, B3.out⟩
  by_cases h3 : 60 < fd.size
  · go_wp2_with fail
    refine AW.out.mono ?_
    rintro e w3 ⟨rfl, hb3⟩
    have B3 := Lib.hid (B2.out.trans (hb3.mono B2.out.size))
    clear hb3
    go_wp2
    go_ret
    exact ⟨rfl, B3.out⟩
  · have h4 : 300 < pn := by omega
    go_wp2_with fail
    refine AW.out.mono ?_
    rintro e w3 ⟨rfl, hb3⟩
    have B3 := Lib.hid (B2.out.trans (hb3.mono B2.out.size))
    clear hb3
    go_wp2
    go_ret
    exact ⟨rfl, B3.out⟩
end Go.Proofs.YtffhepdhkpldlaaDoor.Man
