/- Layer 16: package letter's Encode, at the law's own letter. Layer 16: the law's awake. -/
import Derived.Test.YthdflbpmabcjlaaDoorLTp29
namespace Go.Proofs.YthdflbpmabcjlaaDoor.Lt
open Go Go.RowKit Go.Proofs.YthdflbpmabcjlaaDoor.Words Go.Proofs.YthdflbpmabcjlaaDoor.Enc Go.Proofs.YthdflbpmabcjlaaDoor.Evt Go.Proofs.YthdflbpmabcjlaaDoor.Made Go.Proofs.YthdflbpmabcjlaaDoor.Seg Go.Proofs.YthdflbpmabcjlaaDoor.Chk
set_option linter.unusedVariables false
set_option linter.unusedSimpArgs false

theorem encs_take (xs : List Nat) (j : Nat) {x : Nat} (h : xs[j]? = some x) : Vec.encs (xs.take (j + 1)) = Vec.encs (xs.take j) ++ enc x := by
  unfold Vec.encs
  rw [List.take_add_one, h]
  simp
theorem encs_short (xs : List Nat) (hx : ∀ x ∈ xs, x < 18446744073709551616) (j : Nat) : (Vec.encs (xs.take j)).length ≤ 10 * j := by
  induction j with
  | zero => simp [Vec.encs]
  | succ j ih =>
    cases h : xs[j]? with
    | none =>
      have hl : xs.length ≤ j := by simpa using h
      rw [List.take_of_length_le (by omega)] at ih ⊢
      omega
    | some x =>
      rw [encs_take xs j h, List.length_append]
      have := enc_ten (n := x) (hx x (List.mem_of_getElem? h))
      omega
set_option maxRecDepth 100000 in
set_option maxHeartbeats 1000000 in
theorem layNums_any (A : Option Addr) (n c : Nat) (xs : List Nat) (w : World) (hs : Vec.SeesU w A n xs) (hn : n ≤ 100) (hx : ∀ x ∈ xs, x < 18446744073709551616) :
    Calls Tryd.prog 25 #[.slice A n c] w (GivesR w (Vec.encs xs)) := by
  have HS := Lib.hid hs
  have HX := Lib.hid hx
  obtain ⟨R, hR⟩ : ∃ R, R = Vec.encs xs := ⟨_, rfl⟩
  rw [← hR]
  have HR := Lib.hid hR
  clear hs hx hR
  go_enter Tryd.func25, Tryd.ntmps25
  go_wp2_with fail
  go_loopw [3, 8] (fun x y wr => ∃ (j c' : Nat) (A' : Option Addr) (l : List UInt8), x = .slice A' l.length c' ∧ y = .int .i64 (j : Int) ∧ j ≤ n ∧ Hid (l = Vec.encs (xs.take j) ∧ wr.ownsRow w.heap.size 5 1 (.slice A' l.length c') l.length (cs l) ∧ Below w.heap.size w wr)) (fun _ y _ => n - (intOf y).toNat)
  case atStart => exact ⟨0, 0, none, [], rfl, rfl, Nat.zero_le _, Lib.hid ⟨by simp [Vec.encs], Own.nil _ _ _, Below.refl _ _⟩⟩
  case round =>
    obtain ⟨j, c', A', l, rfl, rfl, hj, HI⟩ := hrel
    by_cases hlt : j < n
    · have hd : (j : Int) < (n : Int) := by omega
      have hd0 : (0 : Int) ≤ (j : Int) := by omega
      obtain ⟨x, hxj⟩ : ∃ x, xs[j]? = some x := ⟨_, List.getElem?_eq_getElem (by rw [HS.out.1]; exact hlt)⟩
      obtain ⟨b, o, rfl, hc⟩ := HS.out.2 (by omega)
      have hcell : wr.cell? ⟨b, o + j, none⟩ = some (.int .u64 (x : Int)) := by
        have h3 := hc j x hxj
        rw [HI.out.2.2.cell (World.block_lt_of_cell? _ _ h3)]
        exact h3
      have hx64 := HX.out x (List.mem_of_getElem? hxj)
      have hll : l.length ≤ 1000 := by rw [HI.out.1]; have := encs_short xs HX.out j; omega
      obtain ⟨l2, hl2⟩ : ∃ l2, l2 = l ++ enc x := ⟨_, rfl⟩
      have NX := Lib.hid (show l2 = Vec.encs (xs.take (j + 1)) by rw [hl2, HI.out.1, encs_take xs j hxj])
      have LY := Lib.hid (by
        have := (Made.lay_any A' _ c' l (x : Int) wr (Sees.of_own HI.out.2.1) (by omega) (by omega) (by omega)).mono fun _ _ h => gives_of h
        rw [Int.toNat_natCast, ← hl2] at this
        exact this : Calls Tryd.prog 41 #[.slice A' l.length c', .int .u64 (x : Int)] wr (GivesR wr l2))
      clear hxj hc hx64 hll hl2
      go_wp2_with fail
      refine LY.out.mono ?_
      rintro e w3 ⟨A3, c3, rfl, own3, hb3⟩
      have H3 := Lib.hid (And.intro NX.out (And.intro (Own.lower own3 HI.out.2.2.size) (HI.out.2.2.trans (hb3.mono HI.out.2.2.size))))
      clear own3 hb3 LY hcell
      go_wp2
      go_roundw
      case rel => exact ⟨j + 1, c3, A3, l2, rfl, by simp, by omega, H3⟩
      case measure => simp [intOf]; omega
    · obtain rfl : j = n := by omega
      have hd : ¬ (j : Int) < (j : Int) := by omega
      have hl : l = R := by rw [HI.out.1, HR.out, List.take_of_length_le (by rw [HS.out.1]; omega)]
      subst hl
      go_wp2
      go_ret
      exact ⟨A', c', rfl, HI.out.2.1, HI.out.2.2⟩
theorem seesU_row {w : World} {b : Nat} {xs : List Nat} {T : TypeId} (h : w.heap[b]? = some (.cells (Vec.us xs).toArray T (0, 0))) : Vec.SeesU w (some ⟨b, 0, none⟩) xs.length xs :=
  ⟨rfl, fun _ => ⟨b, 0, rfl, fun j u hu => by
    rw [cell_of_row w b _ _ _ _ h, Nat.zero_add]
    simp [Vec.us, hu]⟩⟩
set_option maxRecDepth 100000 in
set_option maxHeartbeats 1000000 in
theorem fields_wake (w : World) : Calls Tryd.prog 28 #[.agg #[.int .u8 7, .int .i64 1, .int .i64 2, .bool false, .int .u64 3, .slice none 0 0, .slice none 0 0, .slice none 0 0, .int .u64 0, .int .u64 0, .int .u32 0, .int .u64 0, .slice none 0 0, .int .i64 3]] w (GivesR w (enc 3)) := by
  have hw : IntKind.u64.wrap (3 : Int) = 3 := by rw [IntKind.wrap_u64]; rfl
  go_enter Tryd.func28, Tryd.ntmps28
  obtain ⟨u, hu⟩ : ∃ u, u = w.alloc (.cells #[.int .u8 7, .int .i64 1, .int .i64 2, .bool false, .int .u64 3, .slice none 0 0, .slice none 0 0, .slice none 0 0, .int .u64 0, .int .u64 0, .int .u32 0, .int .u64 0, .slice none 0 0, .int .i64 3] 37) := ⟨_, rfl⟩
  have bu : Below w.heap.size w u := by rw [hu]; exact (Below.refl _ _).alloc (Nat.le_refl _) _
  have gB : u.heap[w.heap.size]? = some (.cells #[.int .u8 7, .int .i64 1, .int .i64 2, .bool false, .int .u64 3, .slice none 0 0, .slice none 0 0, .slice none 0 0, .int .u64 0, .int .u64 0, .int .u32 0, .int .u64 0, .slice none 0 0, .int .i64 3] 37 (0, 0)) := by rw [hu]; exact heap_alloc_new w _
  obtain ⟨c0, c1, c2, c3, c4, c5, c6, c7, c8, c9, c10, c11, c12, c13⟩ := box14 gB
  have HU := Lib.hid hu
  have BU := Lib.hid bu
  clear hu bu gB c1 c2 c3 c4 c5 c6 c7 c8 c9 c10 c11 c12
  go_upto_region 1 with fail
  rw [← HU.out]
  go_wp2_with fail
  have hal := (Below.refl u.heap.size u).alloc (Nat.le_refl _) (.cells #[.int .u64 3] 22)
  have LN := Lib.hid (layNums_any (some ⟨u.heap.size, 0, none⟩) 1 1 [3] (u.alloc (.cells #[.int .u64 3] 22)) (seesU_row (xs := [3]) ((heap_alloc_new u _).trans rfl)) (by omega) (by simp))
  rw [show Vec.encs [3] = enc 3 by simp [Vec.encs]] at LN
  have BA := Lib.hid (BU.out.trans (hal.mono BU.out.size))
  clear hal
  refine LN.out.mono ?_
  rintro e w2 ⟨A2, k2, rfl, own2, hb2⟩
  have H2 := Lib.hid (And.intro (Own.lower own2 BA.out.size) (BA.out.trans (hb2.mono BA.out.size)))
  clear own2 hb2 LN
  go_wp2
  go_ret
  exact ⟨A2, k2, rfl, H2.out.1, H2.out.2⟩
def PRows (L : List (List UInt8)) : Facts.Pred := ⟨fun v w => ∃ A c, v = .slice A L.length c ∧ SeesAll w A L.length L, fun _ _ _ ⟨A, c, h, hs⟩ hb => ⟨A, c, h, hs.below hb⟩⟩
def PRowC (l : List UInt8) : Facts.Pred := ⟨fun v w => ∃ A c, v = .slice A l.length c ∧ l.length ≤ c ∧ Sees w A l.length l, fun _ _ _ ⟨A, c, h, hc, hs⟩ hb => ⟨A, c, h, hc, hs.below hb⟩⟩
theorem three_all (w : World) (e : TypeId) (A1 A2 A3 : Option Addr) (c1 c2 c3 : Nat) (l1 l2 l3 : List UInt8) (h1 : Sees w A1 l1.length l1) (h2 : Sees w A2 l2.length l2) (h3 : Sees w A3 l3.length l3) (hc1 : l1.length ≤ c1) (hc2 : l2.length ≤ c2) (hc3 : l3.length ≤ c3) :
    SeesAll (w.alloc (.cells #[.slice A1 l1.length c1, .slice A2 l2.length c2, .slice A3 l3.length c3] e)) (some ⟨w.heap.size, 0, none⟩) 3 [l1, l2, l3] := by
  have hb : Below w.heap.size w (w.alloc (.cells #[.slice A1 l1.length c1, .slice A2 l2.length c2, .slice A3 l3.length c3] e)) := (Below.refl _ _).alloc (Nat.le_refl _) _
  refine ⟨[.slice A1 l1.length c1, .slice A2 l2.length c2, .slice A3 l3.length c3], (((Each.nil _).snoc hc1 (h1.below hb)).snoc hc2 (h2.below hb)).snoc hc3 (h3.below hb), rfl, fun _ => ⟨w.heap.size, 0, rfl, fun j v hv => ?_⟩⟩
  rw [cell_of_row _ w.heap.size (0 + j) _ e (0, 0) (heap_alloc_new w _), Nat.zero_add]
  simpa using hv
theorem two_bytes (w : World) (e : TypeId) (x y : UInt8) (X Y : Int) (hX : X = (x.toNat : Int)) (hY : Y = (y.toNat : Int)) : Sees (w.alloc (.cells #[.int .u8 X, .int .u8 Y] e)) (some ⟨w.heap.size, 0, none⟩) 2 [x, y] := by
  subst hX hY
  refine ⟨rfl, fun _ => ⟨w.heap.size, 0, rfl, fun j u hu => ?_⟩⟩
  rw [cell_of_row _ w.heap.size (0 + j) _ e (0, 0) (heap_alloc_new w _), Nat.zero_add]
  match j, hu with
  | 0, hu => simp at hu; subst hu; rfl
  | 1, hu => simp at hu; subst hu; rfl
def wakeC : List UInt8 := ltL wakeL
def wakeN : List UInt8 := Vec.encs [1, 2, 0, 3]
theorem wake_flat : [[UInt8.ofNat 1, UInt8.ofNat 7], wakeN, enc 3].flatten = wakeC := by
  have h : wakeC = enc 1 ++ [UInt8.ofNat 7] ++ enc 1 ++ enc 2 ++ enc 0 ++ enc 3 ++ enc 3 := rfl
  rw [h, enc_one]
  simp [wakeN, Vec.encs, enc_one]
theorem wakeC_len : wakeC.length = 7 := by
  have h : wakeC = enc 1 ++ [UInt8.ofNat 7] ++ enc 1 ++ enc 2 ++ enc 0 ++ enc 3 ++ enc 3 := rfl
  have e0 : (enc 0).length = 1 := by unfold enc; rfl
  have e1 : (enc 1).length = 1 := by unfold enc; rfl
  have e2 : (enc 2).length = 1 := by unfold enc; rfl
  have e3 : (enc 3).length = 1 := by unfold enc; rfl
  rw [h]
  simp only [List.length_append, List.length_cons, List.length_nil, e0, e1, e2, e3]
set_option maxRecDepth 100000 in
set_option maxHeartbeats 4000000 in
theorem encode_wake (w : World) (TB : Tabs w) : Calls Tryd.prog 11 #[.agg #[.int .u8 7, .int .i64 1, .int .i64 2, .bool false, .int .u64 3, .slice none 0 0, .slice none 0 0, .slice none 0 0, .int .u64 0, .int .u64 0, .int .u32 0, .int .u64 0, .slice none 0 0, .int .i64 3]] w (GivesR w (wrap wakeC)) := by
  have hw1 : IntKind.u64.wrap (1 : Int) = 1 := by rw [IntKind.wrap_u64]; rfl
  have hw2 : IntKind.u64.wrap (2 : Int) = 2 := by rw [IntKind.wrap_u64]; rfl
  have HTB := Lib.hid TB
  obtain ⟨u, hu⟩ : ∃ u, u = w.alloc (.cells #[.int .u8 7, .int .i64 1, .int .i64 2, .bool false, .int .u64 3, .slice none 0 0, .slice none 0 0, .slice none 0 0, .int .u64 0, .int .u64 0, .int .u32 0, .int .u64 0, .slice none 0 0, .int .i64 3] 37) := ⟨_, rfl⟩
  have bu : Below w.heap.size w u := by rw [hu]; exact (Below.refl _ _).alloc (Nat.le_refl _) _
  have hus : u.heap.size = w.heap.size + 1 := by rw [hu]; simp
  have gB : u.heap[w.heap.size]? = some (.cells #[.int .u8 7, .int .i64 1, .int .i64 2, .bool false, .int .u64 3, .slice none 0 0, .slice none 0 0, .slice none 0 0, .int .u64 0, .int .u64 0, .int .u32 0, .int .u64 0, .slice none 0 0, .int .i64 3] 37 (0, 0)) := by rw [hu]; exact heap_alloc_new w _
  have CELLS := Lib.hid (fun (W : World) (hW : Below u.heap.size u W) => box14 ((hW.block w.heap.size (by omega)).trans gB))
  obtain ⟨c0, c1, c2, c3, c4, c5, c6, c7, c8, c9, c10, c11, c12, c13⟩ := box14 gB
  have HU := Lib.hid hu
  have BU := Lib.hid bu
  clear hu bu gB hus TB
  go_enter Tryd.func11, Tryd.ntmps11
  go_upto_region 1 with fail
  rw [← HU.out]
  go_wp2_with fail
  have hal := (Below.refl u.heap.size u).alloc (Nat.le_refl _) (.cells #[.int .u64 1, .int .u64 2, .int .u64 0, .int .u64 3] 22)
  have LN := Lib.hid (layNums_any (some ⟨u.heap.size, 0, none⟩) 4 4 [1, 2, 0, 3] (u.alloc (.cells #[.int .u64 1, .int .u64 2, .int .u64 0, .int .u64 3] 22)) (seesU_row (xs := [1, 2, 0, 3]) ((heap_alloc_new u _).trans rfl)) (by omega) (by simp))
  have BA := Lib.hid hal
  clear hal
  refine LN.out.mono ?_
  rintro e w2 ⟨A2, k2, rfl, own2, hb2⟩
  obtain ⟨nl, hnl⟩ : ∃ nl, nl = wakeN := ⟨_, rfl⟩
  have hnl2 : Vec.encs [1, 2, 0, 3] = nl := hnl.symm
  rw [hnl2] at own2 ⊢
  have S2 := Lib.hid (Sees.of_own own2)
  have hk2 := (Own.cap own2).1
  have B2 := Lib.hid (BA.out.trans (hb2.mono BA.out.size))
  have HNL := Lib.hid hnl
  clear own2 hb2 LN hnl2 hnl c0 c1 c2 c3 c4 c5 c6 c7 c8 c9 c10 c11 c12 c13
  go_wp2_with fail
  have HC := Lib.hid (fun (W : World) (hW : Below w2.drew.heap.size w2.drew W) => (⟨CELLS.out W (B2.out.trans (((Below.refl _ _).drew.trans hW).mono B2.out.size)), S2.out.below ((Below.refl _ _).drew.trans hW), HTB.out.below (BU.out.trans ((B2.out.trans (((Below.refl _ _).drew.trans hW).mono B2.out.size)).mono BU.out.size))⟩ : _ ∧ Sees W A2 nl.length nl ∧ Tabs W))
  obtain ⟨hl, hhl⟩ : ∃ hl : List UInt8, hl = [UInt8.ofNat 1, UInt8.ofNat 7] := ⟨_, rfl⟩
  have hhn : hl.length = 2 := by rw [hhl]; rfl
  obtain ⟨fl, hfl⟩ : ∃ fl, fl = enc 3 := ⟨_, rfl⟩
  have FW := Lib.hid (fun (W : World) => (by have := fields_wake W; rw [← hfl] at this; exact this : Calls Tryd.prog 28 #[.agg #[.int .u8 7, .int .i64 1, .int .i64 2, .bool false, .int .u64 3, .slice none 0 0, .slice none 0 0, .slice none 0 0, .int .u64 0, .int .u64 0, .int .u32 0, .int .u64 0, .slice none 0 0, .int .i64 3]] W (GivesR W fl)))
  have hflat : [hl, nl, fl].flatten = wakeC := by rw [hhl, HNL.out, hfl]; exact wake_flat
  have hcl := wakeC_len
  obtain ⟨wc, hwc⟩ : ∃ wc, wc = wakeC := ⟨_, rfl⟩
  rw [← hwc] at hflat hcl
  have htot : total [hl, nl, fl] ≤ 100 := by
    have h1 := congrArg List.length hflat
    simp only [List.length_flatten, List.map_cons, List.map_nil, List.sum_cons, List.sum_nil] at h1
    simp only [total]
    omega
  have CC := Lib.hid (fun (W : World) A c (hs : SeesAll W A 3 [hl, nl, fl]) => (by
    have := (concat_any A 3 c [hl, nl, fl] W hs (by omega) (by omega)).mono fun _ _ h => gives_of h
    rw [hflat] at this
    exact this : Calls Tryd.prog 27 #[.slice A 3 c] W (GivesR W wc)))
  obtain ⟨wl, hwl⟩ : ∃ wl, wl = wrap wc := ⟨_, rfl⟩
  have HWL := Lib.hid (show wl = wrap wakeC by rw [hwl, hwc])
  have WW := Lib.hid (fun (W : World) A c (T : Tabs W) (hs : Sees W A wc.length wc) (hc : wc.length ≤ c) => (by
    have := (wrap_new A _ c wc W T hs hc (by omega)).mono fun _ _ h => gives_of h
    rw [← hwl] at this
    exact this : Calls Tryd.prog 26 #[.slice A wc.length c] W (GivesR W wl)))
  have HHL := Lib.hid hhl
  have HHN := Lib.hid hhn
  clear hhl hfl hflat hcl hwc htot hwl hhn
  refine Facts.wp_region_preds (n := 27) (by kernel_rfl) (by kernel_rfl) rfl [Facts.Pred.is (.pointer (some ⟨w.heap.size, 0, none⟩)), Facts.Pred.is (.int .u8 7), PRowC (hl), PRowC (nl), Facts.Pred.is (.agg #[.int .u8 7, .int .i64 1, .int .i64 2, .bool false, .int .u64 3, .slice none 0 0, .slice none 0 0, .slice none 0 0, .int .u64 0, .int .u64 0, .int .u32 0, .int .u64 0, .slice none 0 0, .int .i64 3]), PRowC (fl), PRows [hl, nl, fl], PRowC (wc), POwnE (w2.heap.size) (wl), POwnE (w2.heap.size) (wl)] ?_ ?_
  · refine ⟨?_, ?_, ?_, ?_, ?_, ?_, ?_, ?_, ?_, ?_, trivial⟩
    · refine Facts.step_is (.pointer (some ⟨w.heap.size, 0, none⟩)) fun a W hR hold hnew => ?_
      have f1 : a.tmps.getD 1 undef = .pointer (some ⟨w.heap.size, 0, none⟩) := hold 1 (by kernel_rfl)
      refine ⟨Facts.wanted_free rfl, ?_, fun _ => rfl⟩; simp [go_sem, Act.eval, f1]
    · refine Facts.step_is (.int .u8 7) fun a W hR hold hnew => ?_
      have f18 : a.tmps.getD 18 undef = .pointer (some ⟨w.heap.size, 0, none⟩) := hnew 0 18 (by kernel_rfl)
      have q := (HC.out W hR).1.1
      refine ⟨Facts.wanted_free rfl, ?_, fun _ => rfl⟩; simp [go_sem, Act.eval, f18, q]
    · refine Facts.step_new fun a W hR hold hnew => ?_
      have f19 : a.tmps.getD 19 undef = .int .u8 7 := hnew 1 19 (by kernel_rfl)
      rw [Array.getD_eq_getD_getElem?] at f19
      exact ⟨Facts.wanted_free rfl, .slice (some ⟨W.heap.size, 0, none⟩) 2 2, W.alloc (.cells #[.int .u8 1, .int .u8 7] 5), by simp [go_sem, Act.eval, f19], (Below.refl _ _).alloc (Nat.le_refl _) _, _, _, by rw [HHN.out], by rw [HHN.out]; exact Nat.le_refl _, by rw [HHN.out, HHL.out]; exact two_bytes W _ _ _ _ _ rfl rfl⟩
    · refine Facts.step_some fun a W hR hold hnew => ?_
      have f4 : a.tmps.getD 4 undef = .slice A2 nl.length k2 := hold 4 (by kernel_rfl)
      have q := (HC.out W hR).2.1
      exact ⟨Facts.wanted_free rfl, .slice A2 nl.length k2, by simp [go_sem, Act.eval, f4], A2, k2, rfl, hk2, q⟩
    · refine Facts.step_is (.agg #[.int .u8 7, .int .i64 1, .int .i64 2, .bool false, .int .u64 3, .slice none 0 0, .slice none 0 0, .slice none 0 0, .int .u64 0, .int .u64 0, .int .u32 0, .int .u64 0, .slice none 0 0, .int .i64 3]) fun a W hR hold hnew => ?_
      have f1 : a.tmps.getD 1 undef = .pointer (some ⟨w.heap.size, 0, none⟩) := hold 1 (by kernel_rfl)
      obtain ⟨c0, c1, c2, c3, c4, c5, c6, c7, c8, c9, c10, c11, c12, c13⟩ := (HC.out W hR).1
      refine ⟨Facts.wanted_free rfl, ?_, fun _ => rfl⟩; simp [go_sem, Act.eval, f1, c0, c1, c2, c3, c4, c5, c6, c7, c8, c9, c10, c11, c12, c13]
    · refine Facts.step_call fun a W hR hold hnew => ?_
      have f22 : a.tmps.getD 22 undef = .agg #[.int .u8 7, .int .i64 1, .int .i64 2, .bool false, .int .u64 3, .slice none 0 0, .slice none 0 0, .slice none 0 0, .int .u64 0, .int .u64 0, .int .u32 0, .int .u64 0, .slice none 0 0, .int .i64 3] := hnew 4 22 (by kernel_rfl)
      refine ⟨Facts.wanted_free rfl, 28, #[.agg #[.int .u8 7, .int .i64 1, .int .i64 2, .bool false, .int .u64 3, .slice none 0 0, .slice none 0 0, .slice none 0 0, .int .u64 0, .int .u64 0, .int .u32 0, .int .u64 0, .slice none 0 0, .int .i64 3]], by simp [go_sem, Act.eval, f22], ?_⟩
      refine (FW.out W).mono ?_
      rintro e w8 ⟨A8, c8, rfl, own8, hb8⟩
      exact ⟨_, rfl, hb8, A8, c8, rfl, (Own.cap own8).1, Sees.of_own own8⟩
    · refine Facts.step_new fun a W hR hold hnew => ?_
      have h20 : ∃ A' c', a.tmps.getD 20 undef = .slice A' (hl).length c' ∧ (hl).length ≤ c' ∧ Sees W A' (hl).length (hl) := hnew 2 20 (by kernel_rfl)
      obtain ⟨A20, c20, f20, k20, s20⟩ := h20
      have h21 : ∃ A' c', a.tmps.getD 21 undef = .slice A' (nl).length c' ∧ (nl).length ≤ c' ∧ Sees W A' (nl).length (nl) := hnew 3 21 (by kernel_rfl)
      obtain ⟨A21, c21, f21, k21, s21⟩ := h21
      have h23 : ∃ A' c', a.tmps.getD 23 undef = .slice A' (fl).length c' ∧ (fl).length ≤ c' ∧ Sees W A' (fl).length (fl) := hnew 5 23 (by kernel_rfl)
      obtain ⟨A23, c23, f23, k23, s23⟩ := h23
      rw [Array.getD_eq_getD_getElem?] at f20 f21 f23
      exact ⟨Facts.wanted_free rfl, .slice (some ⟨W.heap.size, 0, none⟩) 3 3, W.alloc (.cells #[.slice A20 hl.length c20, .slice A21 nl.length c21, .slice A23 fl.length c23] 27), by simp [go_sem, Act.eval, f20, f21, f23], (Below.refl _ _).alloc (Nat.le_refl _) _, _, _, rfl, three_all W _ A20 A21 A23 c20 c21 c23 hl nl fl s20 s21 s23 k20 k21 k23⟩
    · refine Facts.step_call fun a W hR hold hnew => ?_
      have h24 : ∃ A' c', a.tmps.getD 24 undef = .slice A' 3 c' ∧ SeesAll W A' 3 [hl, nl, fl] := hnew 6 24 (by kernel_rfl)
      obtain ⟨A24, c24, f24, s24⟩ := h24
      refine ⟨Facts.wanted_free rfl, 27, #[.slice A24 3 c24], by simp [go_sem, Act.eval, f24], ?_⟩
      refine (CC.out W A24 c24 s24).mono ?_
      rintro e w8 ⟨A8, c8, rfl, own8, hb8⟩
      exact ⟨_, rfl, hb8, A8, c8, rfl, (Own.cap own8).1, Sees.of_own own8⟩
    · refine Facts.step_call fun a W hR hold hnew => ?_
      have h25 : ∃ A' c', a.tmps.getD 25 undef = .slice A' (wc).length c' ∧ (wc).length ≤ c' ∧ Sees W A' (wc).length (wc) := hnew 7 25 (by kernel_rfl)
      obtain ⟨A25, c25, f25, k25, s25⟩ := h25
      have q := (HC.out W hR).2.2
      refine ⟨Facts.wanted_free rfl, 26, #[.slice A25 wc.length c25], by simp [go_sem, Act.eval, f25], ?_⟩
      refine (WW.out W A25 c25 q s25 k25).mono ?_
      rintro e w8 ⟨A8, c8, rfl, own8, hb8⟩
      exact ⟨_, rfl, hb8, A8, c8, rfl, Own.lower own8 (by have h1 := hR.size; exact h1)⟩
    · refine Facts.step_some fun a W hR hold hnew => ?_
      have h26 : ∃ A' c', a.tmps.getD 26 undef = .slice A' (wl).length c' ∧ W.ownsRow (w2.heap.size) 5 1 (.slice A' (wl).length c') (wl).length (cs (wl)) := hnew 8 26 (by kernel_rfl)
      obtain ⟨A26, c26, f26, s26⟩ := h26
      exact ⟨Facts.wanted_free rfl, .slice A26 wl.length c26, by simp [go_sem, Act.eval, f26], A26, c26, rfl, s26⟩
  · intro a w3 hR' hsize hdef hnew hold
    have h2 : ∃ A' c', a.tmps.getD 2 undef = .slice A' (wl).length c' ∧ w3.ownsRow (w2.heap.size) 5 1 (.slice A' (wl).length c') (wl).length (cs (wl)) := hnew 9 2 (by kernel_rfl)
    obtain ⟨A2', c2', f2, s2'⟩ := h2
    have f1 : a.tmps.getD 1 undef = Value.pointer (some ⟨w.heap.size, 0, none⟩) := hold 1 (Facts.not_dst (by kernel_rfl))
    obtain ⟨tm, df⟩ := a
    simp only [] at hdef hsize f1 f2
    obtain ⟨xq, hxq, hlit⟩ := Facts.lits tm hsize Facts.idx27 Facts.idx27_eq
    rw [hxq] at f1 f2
    simp only [Facts.idx27, List.map_cons, List.map_nil, f1, f2] at hlit
    clear f1 f2 hsize hnew hold hxq
    subst hlit
    subst hdef
    try simp only []
    have hbf := hR'
    obtain ⟨hf, hbx⟩ : w3.ownsRow w.heap.size 5 1 (.slice A2' wl.length c2') wl.length (cs wl) ∧ Below w.heap.size w w3 := ⟨Own.lower s2' (by have h1 := BU.out.size; have h2 := B2.out.size; omega), BU.out.trans ((B2.out.trans (((Below.refl _ _).drew.trans hR').mono B2.out.size)).mono BU.out.size)⟩
    have FIN := Lib.hid (And.intro hf hbx)
    clear hR' s2' hbf hf hbx HC
    go_wp2
    go_ret
    have F := FIN.out.1
    have hwe := HWL.out
    refine ⟨A2', c2', (by rw [← hwe]; rfl), ?_, FIN.out.2⟩
    rw [← hwe]
    exact F
end Go.Proofs.YthdflbpmabcjlaaDoor.Lt
namespace Go.Proofs.YthdflbpmabcjlaaDoor.Lt
open Go Go.RowKit Go.Proofs.YthdflbpmabcjlaaDoor.Words Go.Proofs.YthdflbpmabcjlaaDoor.Enc Go.Proofs.YthdflbpmabcjlaaDoor.Evt Go.Proofs.YthdflbpmabcjlaaDoor.Made Go.Proofs.YthdflbpmabcjlaaDoor.Seg Go.Proofs.YthdflbpmabcjlaaDoor.Chk
set_option linter.unusedVariables false
set_option linter.unusedSimpArgs false

theorem open_self (l : List UInt8) (h : l.length ≤ 4194304) : openL (wrap l) 4194304 = (l, (wrap l).length, 0) := by
  have := open_wrap l [] 4194304 (by omega) (by omega)
  rwa [List.append_nil] at this
theorem decL_wake : decL (wrap wakeC) = .inr wakeL := by
  unfold decL
  rw [open_self wakeC (by rw [wakeC_len]; omega)]
  simp only []
  rw [if_neg (by simp), if_neg (by omega)]
  show endL (takeT (ltL wakeL)) = _
  rw [wake_take]
  rfl
theorem decL_turn (l : List UInt8) (i : Nat) (u : UInt8) (hi : i < (wrap l).length) (hu : (wrap l)[i] ≠ u) : (∃ E, E ≠ 0 ∧ decL ((wrap l).set i u) = .inl E) ∧ ((openL ((wrap l).set i u) 4194304).2.2 = 0 → ¬ (openL ((wrap l).set i u) 4194304).2.1 < ((wrap l).set i u).length → (openL ((wrap l).set i u) 4194304).1.length ≤ 100000) := by
  have h := open_turn l i u 4194304 hi hu
  unfold decL
  rw [List.length_set]
  by_cases h0 : (openL ((wrap l).set i u) 4194304).2.2 = 0
  · rcases h with h | ⟨h, -⟩
    · exact absurd h0 h
    · exact ⟨⟨4, by omega, by rw [if_neg (by simp [h0]), if_pos h]⟩, fun _ hn => absurd h hn⟩
  · exact ⟨⟨_, h0, by rw [if_pos h0]⟩, fun hh => absurd hh h0⟩
theorem decL_cut (l : List UInt8) (k : Nat) (h : l.length ≤ 4194304) (hk : k < (wrap l).length) : decL ((wrap l).take k) = .inl 5 ∧ (openL ((wrap l).take k) 4194304).2.2 ≠ 0 := by
  have h5 := open_cut l k 4194304 (by omega) (by omega) hk
  unfold decL
  rw [h5]
  exact ⟨by rw [if_pos (by omega)], by omega⟩
theorem decL_more (l : List UInt8) (b : UInt8) (h : l.length ≤ 4194304) : decL (wrap l ++ [b]) = .inl 4 ∧ (openL (wrap l ++ [b]) 4194304).2.1 < (wrap l ++ [b]).length := by
  have h5 := open_wrap l [b] 4194304 (by omega) (by omega)
  unfold decL
  rw [h5]
  have hl : (wrap l).length < (wrap l ++ [b]).length := by simp
  exact ⟨by simp only []; rw [if_neg (by simp), if_pos hl], hl⟩
theorem wrap_wake : (wrap wakeC).length = 12 := by
  rw [wrap_length, wakeC_len]
  have : (enc 7).length = 1 := by unfold enc; rfl
  omega
theorem xor_ne (b : UInt8) (t : UInt8) (ht : t ≠ 0) : b ≠ b ^^^ t := by
  intro e
  have h := congrArg (fun v => b ^^^ v) e
  simp only [← UInt8.xor_assoc, UInt8.xor_self, UInt8.zero_xor] at h
  exact ht h.symm
set_option maxRecDepth 100000 in
set_option maxHeartbeats 4000000 in
theorem awakeLt_yes (w : World) (TB : Tabs w) : Calls Tryd.prog 5 #[] w fun e w' => e = .returned (.bool true) ∧ Below w.heap.size w w' := by
  have EN := Lib.hid (encode_wake w TB)
  have HTB := Lib.hid TB
  clear TB
  go_enter Tryd.func5, Tryd.ntmps5
  go_wp2_with fail
  refine EN.out.mono ?_
  rintro e w1 ⟨A, c, rfl, own1, hb1⟩
  have hD := decL_wake
  have hlen := wrap_wake
  have h2 : 2 < (wrap wakeC).length := by rw [wrap_wake]; omega
  have hturn := fun u (hu : (wrap wakeC)[2] ≠ u) => decL_turn wakeC 2 u h2 hu
  have hsm : (openL (wrap wakeC) 4194304).2.2 = 0 → ¬ (openL (wrap wakeC) 4194304).2.1 < (wrap wakeC).length → (openL (wrap wakeC) 4194304).1.length ≤ 100000 := fun _ _ => by
    rw [open_self wakeC (by rw [wakeC_len]; omega)]
    show wakeC.length ≤ _
    rw [wakeC_len]; omega
  generalize hp : wrap wakeC = p at own1 hD hlen h2 hturn hsm ⊢
  clear hp EN
  obtain ⟨n, hn⟩ : ∃ n, n = p.length := ⟨_, rfl⟩
  rw [← hn] at own1 hlen ⊢
  have hc1 := Own.cap own1
  obtain ⟨g, rfl, hg⟩ := Own.at_ own1 (by omega)
  have OW1 := Lib.hid own1
  have HN := Lib.hid hn
  have TU := Lib.hid hturn
  have B1 := Lib.hid hb1
  have DC := decode_any (some ⟨g, 0, none⟩) n c p w1 (HTB.out.below hb1) (Sees.of_own own1) hc1.1 hc1.2 (by omega) hsm
  rw [hD] at DC
  have NB := Lib.hid DC
  have hn12 : (2 : Nat) < n := by omega
  have hn9 : n ≤ 900000000 := by omega
  clear DC hD hsm hturn hn own1 hb1 hlen
  go_wp2_with fail
  refine NB.out.mono ?_
  rintro e w2 ⟨v, S, rfl, -, hb2⟩
  have OW2 := Lib.hid (Own.below OW1.out hb2 (Nat.le_refl _))
  have B2 := Lib.hid (B1.out.trans (hb2.mono B1.out.size))
  clear hb2 NB OW1
  have hal := (Below.refl w2.heap.size w2).alloc (Nat.le_refl _) (.cells #[.int .u8 0, .int .i64 0, .int .i64 0, .bool false, .int .u64 0, .slice none 0 0, .slice none 0 0, .slice none 0 0, .int .u64 0, .int .u64 0, .int .u32 0, .int .u64 0, .slice none 0 0, .int .i64 0] 37)
  go_wp2_with (first
    | (refine wpList_putRow rfl 37 (.tmp 2) (.tmp 11) rfl w2.heap.size 37 #[.int .u8 0, .int .i64 0, .int .i64 0, .bool false, .int .u64 0, .slice none 0 0, .slice none 0 0, .slice none 0 0, .int .u64 0, .int .u64 0, .int .u32 0, .int .u64 0, .slice none 0 0, .int .i64 0] (ltV wakeL v) rfl rfl ?g7 (by kernel_rfl) rfl (by simp [ltV, Value.oneCell']) ?_))
  case g7 => exact heap_alloc_new w2 _
  intro w3 hb3 hbe3
  have hb23 : Below w2.heap.size w2 w3 := Below.beside hal hbe3 (by simp) (by simp)
  have OW3 := Lib.hid (Own.below OW2.out hb23 (Nat.le_refl _))
  have B3 := Lib.hid (B2.out.trans (hb23.mono B2.out.size))
  obtain ⟨c0, c1, c2, c3, c4, c5, c6, c7, c8, c9, c10, c11, c12, c13⟩ := lt_cells hb3
  have k2 : w3.cell? ⟨w2.heap.size, 2, none⟩ = some (.int .i64 2) := c2
  have k13 : w3.cell? ⟨w2.heap.size, 13, none⟩ = some (.int .i64 3) := c13
  have hpl : 2 < p.length := by rw [← HN.out]; exact hn12
  obtain ⟨b, hb⟩ : ∃ b, b = p[2] := ⟨_, rfl⟩
  have hcell : w3.cell? ⟨g, 2, none⟩ = some (.int .u8 (b.toNat : Int)) := by
    rw [hb, OW3.out.cellAt 2 (by omega), cs_get (List.getElem?_eq_getElem hpl)]
  have hfr : w3.frozen? ⟨g, 2, none⟩ = false := OW3.out.frozenAt 2
  obtain ⟨⟨E, hE, hdec⟩, hsm2⟩ := TU.out (b ^^^ 1) (by rw [← hb]; exact xor_ne b 1 (by decide))
  have hstored := OW3.out.stored 2 (.int .u8 ((b ^^^ 1).toNat : Int))
  have hset : (cs p).set 2 (.int .u8 ((b ^^^ 1).toNat : Int)) = cs (p.set 2 (b ^^^ 1)) := by simp [cs, List.map_set]
  rw [hset] at hstored
  have hxor : bits .xor .u8 (b.toNat : Int) 1 = ((b ^^^ 1).toNat : Int) := by
    have := u8_xor_nat _ _ b.toNat_lt (1 : UInt8).toNat_lt
    rw [UInt8.toNat_xor]
    exact this
  have hgw : w.heap.size ≤ g := by omega
  generalize b ^^^ 1 = u2 at hstored hxor hdec hsm2
  have OW4 := Lib.hid hstored.1
  have B4 := Lib.hid (B3.out.setCell (p := ⟨g, 2, none⟩) hgw (.int .u8 (u2.toNat : Int)))
  have HD2 := Lib.hid (And.intro hdec hsm2)
  have hE2 : ((E : Int) != 0) = true := by rw [bne_iff_ne]; omega
  have h2n : (2 : Int) < (n : Int) := by omega
  clear hal hb3 hbe3 hb23 c0 c1 c2 c3 c4 c5 c6 c7 c8 c9 c10 c11 c12 c13 hset hstored hdec hsm2 hb hpl hE OW2 OW3
  go_upto_region 6 with fail
  generalize w3.setCell ⟨g, 2, none⟩ (.int .u8 (u2.toNat : Int)) = w4 at OW4 B4 ⊢
  clear k2 k13 hcell hfr hxor
  have hpl2 : (p.set 2 u2).length = n := by rw [List.length_set, HN.out]
  have DC := decode_any (some ⟨g, 0, none⟩) n c (p.set 2 u2) w4 (HTB.out.below B4.out) (Sees.of_own OW4.out) hc1.1 hc1.2 hn9 HD2.out.2
  rw [HD2.out.1] at DC
  have NB := Lib.hid DC
  clear DC HD2 hpl2 TU
  go_wp2_with fail
  refine NB.out.mono ?_
  rintro e w5 ⟨rfl, hb5⟩
  have B5 := Lib.hid (B4.out.trans (hb5.mono B4.out.size))
  clear hb5 NB
  go_wp2
  go_ret
  refine ⟨rfl, ?_⟩
  first
    | exact B5.out.alloc B5.out.size _
    | exact B5.out
end Go.Proofs.YthdflbpmabcjlaaDoor.Lt
