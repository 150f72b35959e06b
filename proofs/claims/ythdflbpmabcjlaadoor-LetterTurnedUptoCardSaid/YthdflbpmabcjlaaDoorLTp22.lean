/- Layer 16: the law's lay, kind 3. -/
import Derived.Deep.Cut
import Derived.Test.YthdflbpmabcjlaaDoorLTp12
namespace Go.Proofs.YthdflbpmabcjlaaDoor.Lt
open Go Go.RowKit Go.Proofs.YthdflbpmabcjlaaDoor.Words Go.Proofs.YthdflbpmabcjlaaDoor.Enc Go.Proofs.YthdflbpmabcjlaaDoor.Evt Go.Proofs.YthdflbpmabcjlaaDoor.Made Go.Proofs.YthdflbpmabcjlaaDoor.Seg
set_option linter.unusedVariables false
set_option linter.unusedSimpArgs false

set_option maxRecDepth 100000 in
set_option maxHeartbeats 4000000 in
theorem lay_k3 (w : World) (x : Lt) (v : Adr) (S : List EvS) (h : LtAt w x v S) (ok : Ok x) (hk : x.kind = 3) :
    Calls Tryd.prog 7 #[.agg (ltV x v)] w (GivesR w (wrap (ltL x))) := by
  obtain ⟨i, hi, hz, hsz, hby⟩ := info_parts info8
  obtain ⟨B, hB⟩ : ∃ B, B = w.heap.size := ⟨_, rfl⟩
  obtain ⟨u, hu⟩ : ∃ u, u = w.alloc (.cells (ltV x v) 37) := ⟨_, rfl⟩
  have bu : Below w.heap.size w u := by rw [hu]; exact (Below.refl _ _).alloc (Nat.le_refl _) _
  have hus : u.heap.size = B + 1 := by rw [hu, hB]; simp
  have gB : u.heap[B]? = some (.cells (ltV x v) 37 (0, 0)) := by rw [hu, hB]; exact heap_alloc_new w _
  have CELLS0 := Lib.hid (fun (W : World) (hW : Below u.heap.size u W) => lt_cells ((hW.block B (by omega)).trans gB))
  have HAT := Lib.hid (fun (W : World) (hW : Below u.heap.size u W) => (h.below bu).below hW)
  have HHL := Lib.hid (ltHead_len ok)
  have hlen := ltL_len ok
  obtain ⟨L, hL⟩ : ∃ L, L = ltL x := ⟨_, rfl⟩
  rw [← hL] at hlen ⊢
  have HLL := Lib.hid (And.intro hL hlen)
  have HOK := Lib.hid ok
  have HK := Lib.hid hk
  obtain ⟨hd, hhd⟩ : ∃ hd, hd = ltHead x := ⟨_, rfl⟩
  have HHD := Lib.hid hhd
  obtain ⟨K, src, dst, mine, ser, H, rows, E, tm, sz, sm, ps, bts, wy⟩ := x
  obtain ⟨Ha, hn, hc, Ra, rn, rc, Ea, en, ec, Ba, bn, bc⟩ := v
  obtain ⟨l1, hl1⟩ : ∃ l, l = enc 1 := ⟨_, rfl⟩
  obtain ⟨l2, hl2⟩ : ∃ l, l = l1 ++ [b8 K] := ⟨_, rfl⟩
  obtain ⟨l3, hl3⟩ : ∃ l, l = l2 ++ enc src := ⟨_, rfl⟩
  obtain ⟨l4, hl4⟩ : ∃ l, l = l3 ++ enc dst := ⟨_, rfl⟩
  obtain ⟨mn, hmn⟩ : ∃ n : Nat, n = if mine then 1 else 0 := ⟨_, rfl⟩
  obtain ⟨l5, hl5⟩ : ∃ l, l = l4 ++ enc mn := ⟨_, rfl⟩
  have hK := ok.kind
  have hed := ok.ends
  have hser := ok.serial
  have htm := ok.time
  have hsz2 := ok.size
  simp only at hK hed hser htm hsz2
  have hl6 : hd = l5 ++ enc ser := by rw [hhd, hl5, hl4, hl3, hl2, hl1, hmn]; rfl
  have hlh := HHL.out
  rw [← hhd] at hlh
  have e6 := congrArg List.length hl6
  have e5 := congrArg List.length hl5
  have e4 := congrArg List.length hl4
  have e3 := congrArg List.length hl3
  have e2 := congrArg List.length hl2
  rw [List.length_append] at e2 e3 e4 e5 e6
  have L1 := Lib.hid (fun (W : World) => (by have := rlay none 0 [] 1 W (Sees.nil _ _) (by simp) (by omega); rw [List.nil_append, ← hl1] at this; exact this : Calls Tryd.prog 12 #[.slice none 0 0, .int .u64 1] W (GivesR W l1)))
  have L2 := Lib.hid (fun (W : World) A c (hs : Sees W A l2.length l2) => (by have := rlay A c l2 src W hs (by omega) (by omega); rw [← hl3] at this; exact this : Calls Tryd.prog 12 #[.slice A l2.length c, .int .u64 (src : Int)] W (GivesR W l3)))
  have L3 := Lib.hid (fun (W : World) A c (hs : Sees W A l3.length l3) => (by have := rlay A c l3 dst W hs (by omega) (by omega); rw [← hl4] at this; exact this : Calls Tryd.prog 12 #[.slice A l3.length c, .int .u64 (dst : Int)] W (GivesR W l4)))
  have L4 := Lib.hid (fun (W : World) A c (hs : Sees W A l4.length l4) => (by have := rlay A c l4 mn W hs (by omega) (by rw [hmn]; split <;> omega); rw [← hl5] at this; exact this : Calls Tryd.prog 12 #[.slice A l4.length c, .int .u64 (mn : Int)] W (GivesR W l5)))
  have L5 := Lib.hid (fun (W : World) A c (hs : Sees W A l5.length l5) => (by have := rlay A c l5 ser W hs (by omega) (by omega); rw [← hl6] at this; exact this : Calls Tryd.prog 12 #[.slice A l5.length c, .int .u64 (ser : Int)] W (GivesR W hd)))
  have CELLS := Lib.hid (fun (W : World) (hW : Below u.heap.size u W) => CELLS0.out W hW)
  simp only at CELLS
  have hws : IntKind.u64.wrap (src : Int) = (src : Int) := wrap_in src (by omega)
  have hwd : IntKind.u64.wrap (dst : Int) = (dst : Int) := wrap_in dst (by omega)
  have HL2 := Lib.hid hl2
  have HU := Lib.hid hu
  have HB := Lib.hid hB
  have HUS := Lib.hid hus
  have BU := Lib.hid bu
  have HMN := Lib.hid hmn
  have HE2 := Lib.hid (show l2.length = l1.length + 1 by rw [e2]; simp)
  have HLE := Lib.hid (show hd.length ≤ 60 ∧ l1.length ≤ 60 by omega)
  have hk8 : ((b8 K).toNat : Int) = (K : Int) := b8_int (by omega)
  have HK8 := Lib.hid hk8
  clear hl1 hl2 hl3 hl4 hl5 hl6 e2 e3 e4 e5 e6 hlh hu hB hus bu gB h ok hk hhd hL hlen hmn hk8 CELLS0
  unfold ltV at HU ⊢
  simp only at HU ⊢
  go_enter Tryd.func7, Tryd.ntmps7
  go_upto_region 1 with fail
  rw [← HU.out, ← HB.out]
  have HC := Lib.hid (fun (W : World) (hW : Below u.drew.heap.size u.drew W) => CELLS.out W ((Below.refl _ _).drew.trans hW))
  go_wp2_with fail
  refine Facts.wp_region_tail 4 (n := 134) (by kernel_rfl) (by kernel_rfl) (by kernel_rfl) rfl [POwnE (B + 1) (l1), Facts.Pred.is (.pointer (some ⟨B, 0, none⟩)), Facts.Pred.is (.int .u8 (K : Int)), PRowE ([b8 K])] ?_ ?_
  · refine ⟨?_, ?_, ?_, ?_, trivial⟩
    · refine Facts.step_call fun a W hR hold hnew => ?_
      refine ⟨Facts.wanted_free rfl, 12, #[.slice none 0 0, .int .u64 1], by simp [go_sem, Act.eval], ?_⟩
      refine (L1.out W).mono ?_
      rintro e w8 ⟨A8, c8, rfl, own8, hb8⟩
      exact ⟨_, rfl, hb8, A8, c8, rfl, Own.lower own8 (by have h1 := hR.size; have h2 := HUS.out; simp at h1; omega)⟩
    · refine Facts.step_is (.pointer (some ⟨B, 0, none⟩)) fun a W hR hold hnew => ?_
      have f1 : a.tmps.getD 1 undef = .pointer (some ⟨B, 0, none⟩) := hold 1 (by kernel_rfl)
      refine ⟨Facts.wanted_free rfl, ?_, fun _ => rfl⟩; simp [go_sem, Act.eval, f1]
    · refine Facts.step_is (.int .u8 (K : Int)) fun a W hR hold hnew => ?_
      have f8 : a.tmps.getD 8 undef = .pointer (some ⟨B, 0, none⟩) := hnew 1 8 (by kernel_rfl)
      have q := (HC.out W hR).1
      refine ⟨Facts.wanted_free rfl, ?_, fun _ => rfl⟩; simp [go_sem, Act.eval, f8, q]
    · refine Facts.step_new fun a W hR hold hnew => ?_
      have f9 : a.tmps.getD 9 undef = .int .u8 (K : Int) := hnew 2 9 (by kernel_rfl)
      rw [Array.getD_eq_getD_getElem?] at f9
      exact ⟨Facts.wanted_free rfl, .slice (some ⟨W.heap.size, 0, none⟩) 1 1, W.alloc (.cells #[.int .u8 (K : Int)] 5), by simp [go_sem, Act.eval, f9], (Below.refl _ _).alloc (Nat.le_refl _) _, _, _, rfl, Sees.fresh W _ _ _ HK8.out.symm⟩
  · intro a w1 hR' hsize hdef hnew hold
    have h7 : ∃ A' c', a.tmps.getD 7 undef = .slice A' (l1).length c' ∧ w1.ownsRow (B + 1) 5 1 (.slice A' (l1).length c') (l1).length (cs (l1)) := hnew 0 7 (by omega) (by kernel_rfl)
    obtain ⟨A7, c7, f7, s7⟩ := h7
    have h10 : ∃ A' c', a.tmps.getD 10 undef = .slice A' ([b8 K]).length c' ∧ Sees w1 A' ([b8 K]).length ([b8 K]) := hnew 3 10 (by omega) (by kernel_rfl)
    obtain ⟨A10, c10, f10, s10⟩ := h10
    have f1 : a.tmps.getD 1 undef = Value.pointer (some ⟨B, 0, none⟩) := hold 1 (fun i _ => Facts.not_dst (by kernel_rfl) i)
    have f2 : a.tmps.getD 2 undef = Value.slice none 0 0 := hold 2 (fun i _ => Facts.not_dst (by kernel_rfl) i)
    obtain ⟨tm, df⟩ := a
    simp only [] at hdef hsize f1 f2 f7 f10
    obtain ⟨xq, hxq, hlit⟩ := Facts.lits tm hsize Facts.idx134 Facts.idx134_eq
    rw [hxq] at f1 f2 f7 f10
    simp only [Facts.idx134, List.map_cons, List.map_nil, f1, f2, f7, f10] at hlit
    clear f1 f2 f7 f10 hsize hnew hold hxq
    subst hlit
    subst hdef
    try simp only []
    simp only [List.drop_succ_cons, List.drop_zero]
    have B1 := Lib.hid (((Below.refl _ _).drew.trans hR').mono (Nat.le_refl _) : Below u.heap.size u w1)
    have OW1 := Lib.hid s7
    have SE1 := Lib.hid s10
    clear hR' s7 s10
    go_wp2_with (first | (at_builtin; refine wpList_app rfl _ _ 27 rfl (B + 1) 5 i (.int .u8 0) Tryd.underlying27 hi hz hsz hby rfl A7 l1.length c7 l1 rfl OW1.out A10 1 c10 [b8 K] rfl ?s1 ?d1 ?d2 ?_))
    case s1 => exact SE1.out
    case d1 => have := HLE.out.2; simp; omega
    case d2 => have h1 := B1.out.size; have h2 := HUS.out; omega
    intro A6 c6 w6 own6 hb6
    rw [← HL2.out] at own6
    obtain ⟨N6, hN6⟩ : ∃ N6, N6 = l1.length + 1 := ⟨_, rfl⟩
    rw [← hN6] at own6 ⊢
    obtain rfl : N6 = l2.length := by rw [hN6, HE2.out]
    have S6 := Lib.hid (Sees.of_own own6)
    have B6 := Lib.hid (B1.out.trans (hb6.mono (by have h2 := HUS.out; omega)))
    clear own6 hb6 hN6 HC
    have c3 := (CELLS.out w6 B6.out).2.2.2.1
    go_upto_if 13 with fail
    go_cut [4] from 7 (fun s4 wx => s4 = .int .u64 (mn : Int) ∧ Hid (Sees wx A6 l2.length l2 ∧ Below u.heap.size u wx))
    case first =>
      cases mine <;> (go_wp2_with fail; go_meet; exact ⟨by rw [HMN.out]; rfl, Lib.hid (by first | exact ⟨S6.out, B6.out⟩ | exact ⟨S6.out.drew, B6.out.drew⟩)⟩)
    case rest =>
      obtain ⟨rfl, HX⟩ := hcut
      have HC := Lib.hid (fun (W : World) (hW : Below wc.drew.heap.size wc.drew W) => (⟨CELLS.out W (HX.out.2.trans (((Below.refl _ _).drew.trans hW).mono HX.out.2.size)), HX.out.1.below ((Below.refl _ _).drew.trans hW)⟩ : _ ∧ Sees W A6 l2.length l2))
      clear c3 S6 B6 B1 OW1 SE1
      go_wp2_with fail
      refine Facts.wp_region_preds (n := 134) (by kernel_rfl) (by kernel_rfl) rfl [Facts.Pred.is (.slice A6 l2.length c6), Facts.Pred.is (.pointer (some ⟨B, 1, none⟩)), Facts.Pred.is (.int .i64 (src : Int)), Facts.Pred.is (.int .u64 (src : Int)), PRowE (l3), Facts.Pred.is (.pointer (some ⟨B, 2, none⟩)), Facts.Pred.is (.int .i64 (dst : Int)), Facts.Pred.is (.int .u64 (dst : Int)), PRowE (l4), Facts.Pred.is (.int .u64 (mn : Int)), PRowE (l5), Facts.Pred.is (.pointer (some ⟨B, 4, none⟩)), Facts.Pred.is (.int .u64 (ser : Int)), PRowE (hd), PRowE (hd)] ?_ ?_
      · refine ⟨?_, ?_, ?_, ?_, ?_, ?_, ?_, ?_, ?_, ?_, ?_, ?_, ?_, ?_, ?_, trivial⟩
        · refine Facts.step_is (.slice A6 l2.length c6) fun a W hR hold hnew => ?_
          have f3 : a.tmps.getD 3 undef = .slice A6 l2.length c6 := hold 3 (by kernel_rfl)
          refine ⟨Facts.wanted_free rfl, ?_, fun _ => rfl⟩; simp [go_sem, Act.eval, f3]
        · refine Facts.step_is (.pointer (some ⟨B, 1, none⟩)) fun a W hR hold hnew => ?_
          have f1 : a.tmps.getD 1 undef = .pointer (some ⟨B, 0, none⟩) := hold 1 (by kernel_rfl)
          refine ⟨Facts.wanted_free rfl, ?_, fun _ => rfl⟩; simp [go_sem, Act.eval, f1]
        · refine Facts.step_is (.int .i64 (src : Int)) fun a W hR hold hnew => ?_
          have f15 : a.tmps.getD 15 undef = .pointer (some ⟨B, 1, none⟩) := hnew 1 15 (by kernel_rfl)
          have q := (HC.out W hR).1.2.1
          refine ⟨Facts.wanted_free rfl, ?_, fun _ => rfl⟩; simp [go_sem, Act.eval, f15, q]
        · refine Facts.step_is (.int .u64 (src : Int)) fun a W hR hold hnew => ?_
          have f16 : a.tmps.getD 16 undef = .int .i64 (src : Int) := hnew 2 16 (by kernel_rfl)
          refine ⟨Facts.wanted_free rfl, ?_, fun _ => rfl⟩; simp [go_sem, Act.eval, f16, hws]
        · refine Facts.step_call fun a W hR hold hnew => ?_
          have f14 : a.tmps.getD 14 undef = .slice A6 l2.length c6 := hnew 0 14 (by kernel_rfl)
          have f17 : a.tmps.getD 17 undef = .int .u64 (src : Int) := hnew 3 17 (by kernel_rfl)
          have q := (HC.out W hR).2
          refine ⟨Facts.wanted_free rfl, 12, #[.slice A6 l2.length c6, .int .u64 (src : Int)], by simp [go_sem, Act.eval, f14, f17], ?_⟩
          refine (L2.out W A6 c6 q).mono ?_
          rintro e w8 h8
          obtain ⟨A8, c8, rfl, own8, hb8⟩ := h8
          exact ⟨_, rfl, hb8, A8, c8, rfl, Sees.of_own own8⟩
        · refine Facts.step_is (.pointer (some ⟨B, 2, none⟩)) fun a W hR hold hnew => ?_
          have f1 : a.tmps.getD 1 undef = .pointer (some ⟨B, 0, none⟩) := hold 1 (by kernel_rfl)
          refine ⟨Facts.wanted_free rfl, ?_, fun _ => rfl⟩; simp [go_sem, Act.eval, f1]
        · refine Facts.step_is (.int .i64 (dst : Int)) fun a W hR hold hnew => ?_
          have f19 : a.tmps.getD 19 undef = .pointer (some ⟨B, 2, none⟩) := hnew 5 19 (by kernel_rfl)
          have q := (HC.out W hR).1.2.2.1
          refine ⟨Facts.wanted_free rfl, ?_, fun _ => rfl⟩; simp [go_sem, Act.eval, f19, q]
        · refine Facts.step_is (.int .u64 (dst : Int)) fun a W hR hold hnew => ?_
          have f20 : a.tmps.getD 20 undef = .int .i64 (dst : Int) := hnew 6 20 (by kernel_rfl)
          refine ⟨Facts.wanted_free rfl, ?_, fun _ => rfl⟩; simp [go_sem, Act.eval, f20, hwd]
        · refine Facts.step_call fun a W hR hold hnew => ?_
          have h18 : ∃ A' c', a.tmps.getD 18 undef = .slice A' (l3).length c' ∧ Sees W A' (l3).length (l3) := hnew 4 18 (by kernel_rfl)
          obtain ⟨A18, c18, f18, s18⟩ := h18
          have f21 : a.tmps.getD 21 undef = .int .u64 (dst : Int) := hnew 7 21 (by kernel_rfl)
          refine ⟨Facts.wanted_free rfl, 12, #[.slice A18 l3.length c18, .int .u64 (dst : Int)], by simp [go_sem, Act.eval, f18, f21], ?_⟩
          refine (L3.out W A18 c18 s18).mono ?_
          rintro e w8 h8
          obtain ⟨A8, c8, rfl, own8, hb8⟩ := h8
          exact ⟨_, rfl, hb8, A8, c8, rfl, Sees.of_own own8⟩
        · refine Facts.step_is (.int .u64 (mn : Int)) fun a W hR hold hnew => ?_
          have f4 : a.tmps.getD 4 undef = .int .u64 (mn : Int) := hold 4 (by kernel_rfl)
          refine ⟨Facts.wanted_free rfl, ?_, fun _ => rfl⟩; simp [go_sem, Act.eval, f4]
        · refine Facts.step_call fun a W hR hold hnew => ?_
          have h22 : ∃ A' c', a.tmps.getD 22 undef = .slice A' (l4).length c' ∧ Sees W A' (l4).length (l4) := hnew 8 22 (by kernel_rfl)
          obtain ⟨A22, c22, f22, s22⟩ := h22
          have f23 : a.tmps.getD 23 undef = .int .u64 (mn : Int) := hnew 9 23 (by kernel_rfl)
          refine ⟨Facts.wanted_free rfl, 12, #[.slice A22 l4.length c22, .int .u64 (mn : Int)], by simp [go_sem, Act.eval, f22, f23], ?_⟩
          refine (L4.out W A22 c22 s22).mono ?_
          rintro e w8 h8
          obtain ⟨A8, c8, rfl, own8, hb8⟩ := h8
          exact ⟨_, rfl, hb8, A8, c8, rfl, Sees.of_own own8⟩
        · refine Facts.step_is (.pointer (some ⟨B, 4, none⟩)) fun a W hR hold hnew => ?_
          have f1 : a.tmps.getD 1 undef = .pointer (some ⟨B, 0, none⟩) := hold 1 (by kernel_rfl)
          refine ⟨Facts.wanted_free rfl, ?_, fun _ => rfl⟩; simp [go_sem, Act.eval, f1]
        · refine Facts.step_is (.int .u64 (ser : Int)) fun a W hR hold hnew => ?_
          have f25 : a.tmps.getD 25 undef = .pointer (some ⟨B, 4, none⟩) := hnew 11 25 (by kernel_rfl)
          have q := (HC.out W hR).1.2.2.2.2.1
          refine ⟨Facts.wanted_free rfl, ?_, fun _ => rfl⟩; simp [go_sem, Act.eval, f25, q]
        · refine Facts.step_call fun a W hR hold hnew => ?_
          have h24 : ∃ A' c', a.tmps.getD 24 undef = .slice A' (l5).length c' ∧ Sees W A' (l5).length (l5) := hnew 10 24 (by kernel_rfl)
          obtain ⟨A24, c24, f24, s24⟩ := h24
          have f26 : a.tmps.getD 26 undef = .int .u64 (ser : Int) := hnew 12 26 (by kernel_rfl)
          refine ⟨Facts.wanted_free rfl, 12, #[.slice A24 l5.length c24, .int .u64 (ser : Int)], by simp [go_sem, Act.eval, f24, f26], ?_⟩
          refine (L5.out W A24 c24 s24).mono ?_
          rintro e w8 h8
          obtain ⟨A8, c8, rfl, own8, hb8⟩ := h8
          exact ⟨_, rfl, hb8, A8, c8, rfl, Sees.of_own own8⟩
        · refine Facts.step_some fun a W hR hold hnew => ?_
          have h27 : ∃ A' c', a.tmps.getD 27 undef = .slice A' (hd).length c' ∧ Sees W A' (hd).length (hd) := hnew 13 27 (by kernel_rfl)
          obtain ⟨A27, c27, f27, s27⟩ := h27
          exact ⟨Facts.wanted_free rfl, .slice A27 hd.length c27, by simp [go_sem, Act.eval, f27], A27, c27, rfl, s27⟩
      · intro a w9 hR' hsize hdef hnew hold
        have h3 : ∃ A' c', a.tmps.getD 3 undef = .slice A' (hd).length c' ∧ Sees w9 A' (hd).length (hd) := hnew 14 3 (by kernel_rfl)
        obtain ⟨A3, c3, f3, s3⟩ := h3
        have f1 : a.tmps.getD 1 undef = Value.pointer (some ⟨B, 0, none⟩) := hold 1 (Facts.not_dst (by kernel_rfl))
        have f2 : a.tmps.getD 2 undef = Value.slice none 0 0 := hold 2 (Facts.not_dst (by kernel_rfl))
        obtain ⟨tm, df⟩ := a
        simp only [] at hdef hsize f1 f2 f3
        obtain ⟨xq, hxq, hlit⟩ := Facts.lits tm hsize Facts.idx134 Facts.idx134_eq
        rw [hxq] at f1 f2 f3
        simp only [Facts.idx134, List.map_cons, List.map_nil, f1, f2, f3] at hlit
        clear f1 f2 f3 hsize hnew hold hxq
        subst hlit
        subst hdef
        try simp only []
        have B9 := Lib.hid (HX.out.2.trans (((Below.refl _ _).drew.trans hR').mono HX.out.2.size))
        have S9 := Lib.hid s3
        clear hR' s3 HC HX L1 L2 L3 L4 L5 hws hwd
        obtain ⟨k0, k1, k2, k3, k4, k5, k6, k7, k8, k9, k10, k11, k12, k13⟩ := CELLS.out w9 B9.out
        have AT9 := Lib.hid (HAT.out w9 B9.out)
        obtain rfl : K = 3 := HK.out
        obtain ⟨m1, hm1⟩ : ∃ m, m = hd ++ Vec.layL H := ⟨_, rfl⟩
        obtain ⟨m2, hm2⟩ : ∃ m, m = m1 ++ enc en := ⟨_, rfl⟩
        have hcn : en = E.length := AT9.out.en
        have hcb : en ≤ 1000 := by rw [hcn]; exact HOK.out.E.1
        have hR : L = m2 ++ txsL E := by rw [HLL.out.1, hm2, hm1, HHD.out, hcn]; unfold ltL ltRest; simp only [List.append_assoc]; rfl
        have hle := HLE.out
        have x0 := Vec.layL_len HOK.out.H
        simp only at x0
        have x1 := enc_ten (n := en) (by omega)
        have g1 := congrArg List.length hm1
        have g2 := congrArg List.length hm2
        rw [List.length_append] at g1 g2
        have hwn : IntKind.u64.wrap (en : Int) = (en : Int) := wrap_in en (by omega)
        have M1 := Lib.hid (fun (W : World) A c (hs : Sees W A hd.length hd) (hv : Vec.SeesU W Ha hn H) => (by have := rlayV A c hd Ha hn hc H W hs hv HOK.out.H (by omega); rw [← hm1] at this; exact this : Calls Tryd.prog 13 #[.slice A hd.length c, .slice Ha hn hc] W (GivesR W m1)))
        have M2 := Lib.hid (fun (W : World) A c (hs : Sees W A m1.length m1) => (by have := rlay A c m1 en W hs (by omega) (by omega); rw [← hm2] at this; exact this : Calls Tryd.prog 12 #[.slice A m1.length c, .int .u64 (en : Int)] W (GivesR W m2)))
        have HM2 := Lib.hid (show m2.length ≤ 800 by omega)
        have HR := Lib.hid hR
        have HCN := Lib.hid (And.intro hcn hcb)
        have HC := Lib.hid (fun (W : World) (hW : Below w9.drew.heap.size w9.drew W) => (⟨CELLS.out W (B9.out.trans (((Below.refl _ _).drew.trans hW).mono B9.out.size)), S9.out.below ((Below.refl _ _).drew.trans hW), AT9.out.below ((Below.refl _ _).drew.trans hW)⟩ : _ ∧ Sees W A3 hd.length hd ∧ LtAt W _ _ S))
        clear hR hm1 hm2 hle x0 x1 g1 g2 hcn hcb k0 k1 k2 k3 k4 k5 k6 k7 k8 k9 k10 k11 k12 k13
        obtain ⟨k0, -⟩ := CELLS.out w9 B9.out
        go_wp2_with fail
        refine Facts.wp_region_preds (n := 134) (by kernel_rfl) (by kernel_rfl) rfl [Facts.Pred.is (.slice A3 hd.length c3), Facts.Pred.is (.pointer (some ⟨B, 5, none⟩)), Facts.Pred.is (.slice Ha hn hc), PRowE (m1), Facts.Pred.is (.pointer (some ⟨B, 7, none⟩)), Facts.Pred.is (.slice Ea en ec), Facts.Pred.is (.int .i64 (en : Int)), Facts.Pred.is (.int .u64 (en : Int)), PRowE (m2), PRowE (m2)] ?_ ?_
        · refine ⟨?_, ?_, ?_, ?_, ?_, ?_, ?_, ?_, ?_, ?_, trivial⟩
          · refine Facts.step_is (.slice A3 hd.length c3) fun a W hR hold hnew => ?_
            have f3 : a.tmps.getD 3 undef = .slice A3 hd.length c3 := hold 3 (by kernel_rfl)
            refine ⟨Facts.wanted_free rfl, ?_, fun _ => rfl⟩; simp [go_sem, Act.eval, f3]
          · refine Facts.step_is (.pointer (some ⟨B, 5, none⟩)) fun a W hR hold hnew => ?_
            have f1 : a.tmps.getD 1 undef = .pointer (some ⟨B, 0, none⟩) := hold 1 (by kernel_rfl)
            refine ⟨Facts.wanted_free rfl, ?_, fun _ => rfl⟩; simp [go_sem, Act.eval, f1]
          · refine Facts.step_is (.slice Ha hn hc) fun a W hR hold hnew => ?_
            have f81 : a.tmps.getD 81 undef = .pointer (some ⟨B, 5, none⟩) := hnew 1 81 (by kernel_rfl)
            have q := (HC.out W hR).1.2.2.2.2.2.1
            refine ⟨Facts.wanted_free rfl, ?_, fun _ => rfl⟩; simp [go_sem, Act.eval, f81, q]
          · refine Facts.step_call fun a W hR hold hnew => ?_
            have f80 : a.tmps.getD 80 undef = .slice A3 hd.length c3 := hnew 0 80 (by kernel_rfl)
            have f82 : a.tmps.getD 82 undef = .slice Ha hn hc := hnew 2 82 (by kernel_rfl)
            have q := (HC.out W hR).2
            refine ⟨Facts.wanted_free rfl, 13, #[.slice A3 hd.length c3, .slice Ha hn hc], by simp [go_sem, Act.eval, f80, f82], ?_⟩
            refine (M1.out W A3 c3 q.1 q.2.H).mono ?_
            rintro e w8 h8
            obtain ⟨A8, c8, rfl, own8, hb8⟩ := h8
            exact ⟨_, rfl, hb8, A8, c8, rfl, Sees.of_own own8⟩
          · refine Facts.step_is (.pointer (some ⟨B, 7, none⟩)) fun a W hR hold hnew => ?_
            have f1 : a.tmps.getD 1 undef = .pointer (some ⟨B, 0, none⟩) := hold 1 (by kernel_rfl)
            refine ⟨Facts.wanted_free rfl, ?_, fun _ => rfl⟩; simp [go_sem, Act.eval, f1]
          · refine Facts.step_is (.slice Ea en ec) fun a W hR hold hnew => ?_
            have f84 : a.tmps.getD 84 undef = .pointer (some ⟨B, 7, none⟩) := hnew 4 84 (by kernel_rfl)
            have q := (HC.out W hR).1.2.2.2.2.2.2.2.1
            refine ⟨Facts.wanted_free rfl, ?_, fun _ => rfl⟩; simp [go_sem, Act.eval, f84, q]
          · refine Facts.step_is (.int .i64 (en : Int)) fun a W hR hold hnew => ?_
            have f85 : a.tmps.getD 85 undef = .slice Ea en ec := hnew 5 85 (by kernel_rfl)
            refine ⟨Facts.wanted_free rfl, ?_, fun _ => rfl⟩; simp [go_sem, Act.eval, f85]
          · refine Facts.step_is (.int .u64 (en : Int)) fun a W hR hold hnew => ?_
            have f86 : a.tmps.getD 86 undef = .int .i64 (en : Int) := hnew 6 86 (by kernel_rfl)
            refine ⟨Facts.wanted_free rfl, ?_, fun _ => rfl⟩; simp [go_sem, Act.eval, f86, hwn]
          · refine Facts.step_call fun a W hR hold hnew => ?_
            have h83 : ∃ A' c', a.tmps.getD 83 undef = .slice A' (m1).length c' ∧ Sees W A' (m1).length (m1) := hnew 3 83 (by kernel_rfl)
            obtain ⟨A83, c83, f83, s83⟩ := h83
            have f87 : a.tmps.getD 87 undef = .int .u64 (en : Int) := hnew 7 87 (by kernel_rfl)
            refine ⟨Facts.wanted_free rfl, 12, #[.slice A83 m1.length c83, .int .u64 (en : Int)], by simp [go_sem, Act.eval, f83, f87], ?_⟩
            refine (M2.out W A83 c83 s83).mono ?_
            rintro e w8 h8
            obtain ⟨A8, c8, rfl, own8, hb8⟩ := h8
            exact ⟨_, rfl, hb8, A8, c8, rfl, Sees.of_own own8⟩
          · refine Facts.step_some fun a W hR hold hnew => ?_
            have h88 : ∃ A' c', a.tmps.getD 88 undef = .slice A' (m2).length c' ∧ Sees W A' (m2).length (m2) := hnew 8 88 (by kernel_rfl)
            obtain ⟨A88, c88, f88, s88⟩ := h88
            exact ⟨Facts.wanted_free rfl, .slice A88 m2.length c88, by simp [go_sem, Act.eval, f88], A88, c88, rfl, s88⟩
        · intro a w11 hR' hsize hdef hnew hold
          have h3 : ∃ A' c', a.tmps.getD 3 undef = .slice A' (m2).length c' ∧ Sees w11 A' (m2).length (m2) := hnew 9 3 (by kernel_rfl)
          obtain ⟨A3, c3, f3, s3⟩ := h3
          have f1 : a.tmps.getD 1 undef = Value.pointer (some ⟨B, 0, none⟩) := hold 1 (Facts.not_dst (by kernel_rfl))
          have f2 : a.tmps.getD 2 undef = Value.slice none 0 0 := hold 2 (Facts.not_dst (by kernel_rfl))
          obtain ⟨tm, df⟩ := a
          simp only [] at hdef hsize f1 f2 f3
          obtain ⟨xq, hxq, hlit⟩ := Facts.lits tm hsize Facts.idx134 Facts.idx134_eq
          rw [hxq] at f1 f2 f3
          simp only [Facts.idx134, List.map_cons, List.map_nil, f1, f2, f3] at hlit
          clear f1 f2 f3 hsize hnew hold hxq
          subst hlit
          subst hdef
          try simp only []
          have B11 := Lib.hid (B9.out.trans (((Below.refl _ _).drew.trans hR').mono B9.out.size))
          have S11 := Lib.hid s3
          clear hR' s3 HC
          have hcz : (en : Int) ≤ 1000 := by have := HCN.out.2; omega
          go_wp2_with fail
          go_loopw [3, 6] (fun x y wr => ∃ (A : Option Addr) (c j : Nat) (l : List UInt8), x = .slice A l.length c ∧ y = .int .i64 (j : Int) ∧ j ≤ en ∧ Hid (l = m2 ++ txsL (E.take j)) ∧ Hid (Sees wr A l.length l) ∧ Hid (Below u.heap.size u wr)) (fun _ y _ => en - (intOf y).toNat)
          case atStart => exact ⟨_, _, 0, m2, rfl, rfl, Nat.zero_le _, Lib.hid (by simp [txsL]), S11, B11⟩
          case round =>
            obtain ⟨A, c, j, l, rfl, rfl, hj, HL, HS, HB4⟩ := hrel
            by_cases hlt : j < en
            · have hd1 : (j : Int) < (en : Int) := by omega
              have hd0 : (0 : Int) ≤ (j : Int) := by omega
              have AT := HAT.out wr HB4.out
              have hj1 : j < S.length := by have h1 := congrArg List.length AT.ev; rw [List.length_map] at h1; have := HCN.out.1; simp only at h1; omega
              obtain ⟨b, o, hEa, e0, e1, e2, e3, e4, e5, e6, e7⟩ := RawEv.at_ AT.E.raw (List.getElem?_eq_getElem hj1)
              simp only at hEa
              have htx := AT.E.text _ (List.getElem_mem hj1)
              have hEj : E[j]? = some (S[j]).e := by have h1 := AT.ev; simp only at h1; rw [h1, List.getElem?_map, List.getElem?_eq_getElem hj1]; rfl
              obtain ⟨hri, hqn, hln⟩ := HOK.out.E.2 _ (List.mem_of_getElem? hEj)
              have hst := txsL_take E j hEj
              have hlb : l.length ≤ 2020000 := by rw [HL.out, List.length_append]; have h1 := HM2.out; have h2 := txs_small HOK.out j; simp only at h2; omega
              generalize S[j] = r at *
              obtain ⟨l2, hl2⟩ : ∃ l2, l2 = l ++ enc (evL r.e).length ++ evL r.e := ⟨_, rfl⟩
              have HNX := Lib.hid (show l2 = m2 ++ txsL (E.take (j + 1)) by rw [hl2, HL.out, hst]; unfold txL; simp only [List.append_assoc])
              have EN := Lib.hid (fun (W : World) (hW : Below wr.heap.size wr W) => (refEncode_any r.e r.A r.n r.c W (htx.below hW) hqn hri).mono fun _ _ h => gives_of h)
              have TX := Lib.hid (fun (W : World) Q k (hW : Below wr.heap.size wr W) (hq : Sees W Q (evL r.e).length (evL r.e)) => (by have := rtext A c l Q _ k (evL r.e) W (HS.out.below hW) hq (by omega) (by omega); rw [← hl2] at this; exact this : Calls Tryd.prog 14 #[.slice A l.length c, .slice Q (evL r.e).length k] W (GivesR W l2)))
              rw [Nat.mul_comm 8 j] at e0 e1 e2 e3 e4 e5 e6 e7
              obtain ⟨k0, k1, k2, k3, k4, k5, k6, k7, -⟩ := CELLS.out wr HB4.out
              rw [hEa] at k7
              unfold Ev.val at EN
              clear htx hri hqn hln hst hlb hEj AT hl2 hEa hj1 k0 k1 k2 k3 k4 k5 k6
              go_wp2_with fail
              refine (EN.out _ (Below.refl _ _)).mono ?_
              rintro e w12 ⟨A12, c12, rfl, own12, hb12⟩
              have TZ := Lib.hid (TX.out w12 A12 c12 hb12 (Sees.of_own own12))
              have B12 := Lib.hid (HB4.out.trans (hb12.mono HB4.out.size))
              clear own12 hb12 EN TX e0 e1 e2 e3 e4 e5 e6 e7 k7
              go_wp2_with fail
              refine TZ.out.mono ?_
              rintro e w13 ⟨A13, c13, rfl, own13, hb13⟩
              have S13 := Lib.hid (Sees.of_own own13)
              have B13 := Lib.hid (B12.out.trans (hb13.mono B12.out.size))
              clear own13 hb13 TZ
              go_wp2
              go_roundw
              case rel => exact ⟨A13, c13, j + 1, l2, rfl, by simp, by omega, HNX, S13, B13⟩
              case measure => simp [intOf]; omega
            · obtain rfl : j = en := by omega
              have hd1 : ¬ (j : Int) < (j : Int) := by omega
              have hfin : l = L := by rw [HL.out, HR.out, List.take_of_length_le (by have := HCN.out.1; omega)]
              have SW := HS
              rw [hfin] at SW
              have HFL := Lib.hid (congrArg List.length hfin)
              have BX := Lib.hid (BU.out.trans (HB4.out.mono BU.out.size))
              obtain ⟨N9, hN9⟩ : ∃ N9, N9 = l.length := ⟨_, rfl⟩
              obtain ⟨k0, k1, k2, k3, k4, k5, k6, k7, -⟩ := CELLS.out wr HB4.out
              clear k0 k1 k2 k3 k4 k5
              subst hfin
              clear hN9
              go_wp2_with fail
              refine (rwrap _ _ l _ SW.out (by have := HLL.out.2; omega)).mono ?_
              intro e w8 hg
              obtain ⟨A8, c8, rfl, own8, hb8⟩ := hg
              have FIN := Lib.hid (And.intro own8 hb8)
              clear own8 hb8
              go_wp2
              go_ret
              exact ⟨A8, c8, rfl, Own.lower FIN.out.1 (BX.out.size), BX.out.trans (FIN.out.2.mono BX.out.size)⟩
end Go.Proofs.YthdflbpmabcjlaaDoor.Lt
