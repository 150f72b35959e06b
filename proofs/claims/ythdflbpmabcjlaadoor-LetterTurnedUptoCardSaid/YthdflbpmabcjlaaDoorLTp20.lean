/- Layer 16: the law's lay, kind 1. -/
import Derived.Deep.Cut
import Derived.Test.YthdflbpmabcjlaaDoorLTp12
namespace Go.Proofs.YthdflbpmabcjlaaDoor.Lt
open Go Go.RowKit Go.Proofs.YthdflbpmabcjlaaDoor.Words Go.Proofs.YthdflbpmabcjlaaDoor.Enc Go.Proofs.YthdflbpmabcjlaaDoor.Evt Go.Proofs.YthdflbpmabcjlaaDoor.Made Go.Proofs.YthdflbpmabcjlaaDoor.Seg
set_option linter.unusedVariables false
set_option linter.unusedSimpArgs false

set_option maxRecDepth 100000 in
set_option maxHeartbeats 4000000 in
theorem lay_k1 (w : World) (x : Lt) (v : Adr) (S : List EvS) (h : LtAt w x v S) (ok : Ok x) (hk : x.kind = 1) :
    Calls Tryd.prog 7 #[.agg (ltV x v)] w (GivesR w (wrap (ltL x))) := by
  obtain ⟨i, hi, hz, hsz, hby⟩ := info_parts info8
  obtain ⟨B, hB⟩ : ∃ B, B = w.heap.size := ⟨_, rfl⟩
  obtain ⟨u, hu⟩ : ∃ u, u = w.alloc (.cells (ltV x v) 37) := ⟨_, rfl⟩
  have bu : Below w.heap.size w u := by rw [hu]; exact (Below.refl _ _).alloc (Nat.le_refl _) _
  have hus : u.heap.size = B + 1 := by rw [hu, hB]; simp
  have gB : u.heap[B]? = some (.cells (ltV x v) 37 (0, 0)) := by rw [hu, hB]; exact heap_alloc_new w _
  have CELLS0 := Lib.hid (fun (W : World) (hW : Below u.heap.size u W) => lt_cells ((hW.block B (by omega)).trans gB))
  have HAT := Lib.hid (fun (W : World) (hW : Below u.heap.size u W) => (h.below bu).below hW)
  have HHL := Lib.hid (ltHead_len ok)
  have hlen := ltL_len ok
  obtain ⟨L, hL⟩ : ∃ L, L = ltL x := ⟨_, rfl⟩
  rw [← hL] at hlen ⊢
  have HLL := Lib.hid (And.intro hL hlen)
  have HOK := Lib.hid ok
  have HK := Lib.hid hk
  obtain ⟨hd, hhd⟩ : ∃ hd, hd = ltHead x := ⟨_, rfl⟩
  have HHD := Lib.hid hhd
  obtain ⟨K, src, dst, mine, ser, H, rows, E, tm, sz, sm, ps, bts, wy⟩ := x
  obtain ⟨Ha, hn, hc, Ra, rn, rc, Ea, en, ec, Ba, bn, bc⟩ := v
  obtain ⟨l1, hl1⟩ : ∃ l, l = enc 1 := ⟨_, rfl⟩
  obtain ⟨l2, hl2⟩ : ∃ l, l = l1 ++ [b8 K] := ⟨_, rfl⟩
  obtain ⟨l3, hl3⟩ : ∃ l, l = l2 ++ enc src := ⟨_, rfl⟩
  obtain ⟨l4, hl4⟩ : ∃ l, l = l3 ++ enc dst := ⟨_, rfl⟩
  obtain ⟨mn, hmn⟩ : ∃ n : Nat, n = if mine then 1 else 0 := ⟨_, rfl⟩
  obtain ⟨l5, hl5⟩ : ∃ l, l = l4 ++ enc mn := ⟨_, rfl⟩
  have hK := ok.kind
  have hed := ok.ends
  have hser := ok.serial
  have htm := ok.time
  have hsz2 := ok.size
  simp only at hK hed hser htm hsz2
  have hl6 : hd = l5 ++ enc ser := by rw [hhd, hl5, hl4, hl3, hl2, hl1, hmn]; rfl
  have hlh := HHL.out
  rw [← hhd] at hlh
  have e6 := congrArg List.length hl6
  have e5 := congrArg List.length hl5
  have e4 := congrArg List.length hl4
  have e3 := congrArg List.length hl3
  have e2 := congrArg List.length hl2
  rw [List.length_append] at e2 e3 e4 e5 e6
  have L1 := Lib.hid (fun (W : World) => (by have := rlay none 0 [] 1 W (Sees.nil _ _) (by simp) (by omega); rw [List.nil_append, ← hl1] at this; exact this : Calls Tryd.prog 12 #[.slice none 0 0, .int .u64 1] W (GivesR W l1)))
  have L2 := Lib.hid (fun (W : World) A c (hs : Sees W A l2.length l2) => (by have := rlay A c l2 src W hs (by omega) (by omega); rw [← hl3] at this; exact this : Calls Tryd.prog 12 #[.slice A l2.length c, .int .u64 (src : Int)] W (GivesR W l3)))
  have L3 := Lib.hid (fun (W : World) A c (hs : Sees W A l3.length l3) => (by have := rlay A c l3 dst W hs (by omega) (by omega); rw [← hl4] at this; exact this : Calls Tryd.prog 12 #[.slice A l3.length c, .int .u64 (dst : Int)] W (GivesR W l4)))
  have L4 := Lib.hid (fun (W : World) A c (hs : Sees W A l4.length l4) => (by have := rlay A c l4 mn W hs (by omega) (by rw [hmn]; split <;> omega); rw [← hl5] at this; exact this : Calls Tryd.prog 12 #[.slice A l4.length c, .int .u64 (mn : Int)] W (GivesR W l5)))
  have L5 := Lib.hid (fun (W : World) A c (hs : Sees W A l5.length l5) => (by have := rlay A c l5 ser W hs (by omega) (by omega); rw [← hl6] at this; exact this : Calls Tryd.prog 12 #[.slice A l5.length c, .int .u64 (ser : Int)] W (GivesR W hd)))
  have CELLS := Lib.hid (fun (W : World) (hW : Below u.heap.size u W) => CELLS0.out W hW)
  simp only at CELLS
  have hws : IntKind.u64.wrap (src : Int) = (src : Int) := wrap_in src (by omega)
  have hwd : IntKind.u64.wrap (dst : Int) = (dst : Int) := wrap_in dst (by omega)
  have HL2 := Lib.hid hl2
  have HU := Lib.hid hu
  have HB := Lib.hid hB
  have HUS := Lib.hid hus
  have BU := Lib.hid bu
  have HMN := Lib.hid hmn
  have HE2 := Lib.hid (show l2.length = l1.length + 1 by rw [e2]; simp)
  have HLE := Lib.hid (show hd.length ≤ 60 ∧ l1.length ≤ 60 by omega)
  have hk8 : ((b8 K).toNat : Int) = (K : Int) := b8_int (by omega)
  have HK8 := Lib.hid hk8
  clear hl1 hl2 hl3 hl4 hl5 hl6 e2 e3 e4 e5 e6 hlh hu hB hus bu gB h ok hk hhd hL hlen hmn hk8 CELLS0
  unfold ltV at HU ⊢
  simp only at HU ⊢
  go_enter Tryd.func7, Tryd.ntmps7
  go_upto_region 1 with fail
  rw [← HU.out, ← HB.out]
  have HC := Lib.hid (fun (W : World) (hW : Below u.drew.heap.size u.drew W) => CELLS.out W ((Below.refl _ _).drew.trans hW))
  go_wp2_with fail
  refine Facts.wp_region_tail 4 (n := 134) (by kernel_rfl) (by kernel_rfl) (by kernel_rfl) rfl [POwnE (B + 1) (l1), Facts.Pred.is (.pointer (some ⟨B, 0, none⟩)), Facts.Pred.is (.int .u8 (K : Int)), PRowE ([b8 K])] ?_ ?_
  · refine ⟨?_, ?_, ?_, ?_, trivial⟩
    · refine Facts.step_call fun a W hR hold hnew => ?_
      refine ⟨Facts.wanted_free rfl, 12, #[.slice none 0 0, .int .u64 1], by simp [go_sem, Act.eval], ?_⟩
      refine (L1.out W).mono ?_
      rintro e w8 ⟨A8, c8, rfl, own8, hb8⟩
      exact ⟨_, rfl, hb8, A8, c8, rfl, Own.lower own8 (by have h1 := hR.size; have h2 := HUS.out; simp at h1; omega)⟩
    · refine Facts.step_is (.pointer (some ⟨B, 0, none⟩)) fun a W hR hold hnew => ?_
      have f1 : a.tmps.getD 1 undef = .pointer (some ⟨B, 0, none⟩) := hold 1 (by kernel_rfl)
      refine ⟨Facts.wanted_free rfl, ?_, fun _ => rfl⟩; simp [go_sem, Act.eval, f1]
    · refine Facts.step_is (.int .u8 (K : Int)) fun a W hR hold hnew => ?_
      have f8 : a.tmps.getD 8 undef = .pointer (some ⟨B, 0, none⟩) := hnew 1 8 (by kernel_rfl)
      have q := (HC.out W hR).1
      refine ⟨Facts.wanted_free rfl, ?_, fun _ => rfl⟩; simp [go_sem, Act.eval, f8, q]
    · refine Facts.step_new fun a W hR hold hnew => ?_
      have f9 : a.tmps.getD 9 undef = .int .u8 (K : Int) := hnew 2 9 (by kernel_rfl)
      rw [Array.getD_eq_getD_getElem?] at f9
      exact ⟨Facts.wanted_free rfl, .slice (some ⟨W.heap.size, 0, none⟩) 1 1, W.alloc (.cells #[.int .u8 (K : Int)] 5), by simp [go_sem, Act.eval, f9], (Below.refl _ _).alloc (Nat.le_refl _) _, _, _, rfl, Sees.fresh W _ _ _ HK8.out.symm⟩
  · intro a w1 hR' hsize hdef hnew hold
    have h7 : ∃ A' c', a.tmps.getD 7 undef = .slice A' (l1).length c' ∧ w1.ownsRow (B + 1) 5 1 (.slice A' (l1).length c') (l1).length (cs (l1)) := hnew 0 7 (by omega) (by kernel_rfl)
    obtain ⟨A7, c7, f7, s7⟩ := h7
    have h10 : ∃ A' c', a.tmps.getD 10 undef = .slice A' ([b8 K]).length c' ∧ Sees w1 A' ([b8 K]).length ([b8 K]) := hnew 3 10 (by omega) (by kernel_rfl)
    obtain ⟨A10, c10, f10, s10⟩ := h10
    have f1 : a.tmps.getD 1 undef = Value.pointer (some ⟨B, 0, none⟩) := hold 1 (fun i _ => Facts.not_dst (by kernel_rfl) i)
    have f2 : a.tmps.getD 2 undef = Value.slice none 0 0 := hold 2 (fun i _ => Facts.not_dst (by kernel_rfl) i)
    obtain ⟨tm, df⟩ := a
    simp only [] at hdef hsize f1 f2 f7 f10
    obtain ⟨xq, hxq, hlit⟩ := Facts.lits tm hsize Facts.idx134 Facts.idx134_eq
    rw [hxq] at f1 f2 f7 f10
    simp only [Facts.idx134, List.map_cons, List.map_nil, f1, f2, f7, f10] at hlit
    clear f1 f2 f7 f10 hsize hnew hold hxq
    subst hlit
    subst hdef
    try simp only []
    simp only [List.drop_succ_cons, List.drop_zero]
    have B1 := Lib.hid (((Below.refl _ _).drew.trans hR').mono (Nat.le_refl _) : Below u.heap.size u w1)
    have OW1 := Lib.hid s7
    have SE1 := Lib.hid s10
    clear hR' s7 s10
    go_wp2_with (first | (at_builtin; refine wpList_app rfl _ _ 27 rfl (B + 1) 5 i (.int .u8 0) Tryd.underlying27 hi hz hsz hby rfl A7 l1.length c7 l1 rfl OW1.out A10 1 c10 [b8 K] rfl ?s1 ?d1 ?d2 ?_))
    case s1 => exact SE1.out
    case d1 => have := HLE.out.2; simp; omega
    case d2 => have h1 := B1.out.size; have h2 := HUS.out; omega
    intro A6 c6 w6 own6 hb6
    rw [← HL2.out] at own6
    obtain ⟨N6, hN6⟩ : ∃ N6, N6 = l1.length + 1 := ⟨_, rfl⟩
    rw [← hN6] at own6 ⊢
    obtain rfl : N6 = l2.length := by rw [hN6, HE2.out]
    have S6 := Lib.hid (Sees.of_own own6)
    have B6 := Lib.hid (B1.out.trans (hb6.mono (by have h2 := HUS.out; omega)))
    clear own6 hb6 hN6 HC
    have c3 := (CELLS.out w6 B6.out).2.2.2.1
    go_upto_if 13 with fail
    go_cut [4] from 7 (fun s4 wx => s4 = .int .u64 (mn : Int) ∧ Hid (Sees wx A6 l2.length l2 ∧ Below u.heap.size u wx))
    case first =>
      cases mine <;> (go_wp2_with fail; go_meet; exact ⟨by rw [HMN.out]; rfl, Lib.hid (by first | exact ⟨S6.out, B6.out⟩ | exact ⟨S6.out.drew, B6.out.drew⟩)⟩)
    case rest =>
      obtain ⟨rfl, HX⟩ := hcut
      have HC := Lib.hid (fun (W : World) (hW : Below wc.drew.heap.size wc.drew W) => (⟨CELLS.out W (HX.out.2.trans (((Below.refl _ _).drew.trans hW).mono HX.out.2.size)), HX.out.1.below ((Below.refl _ _).drew.trans hW)⟩ : _ ∧ Sees W A6 l2.length l2))
      clear c3 S6 B6 B1 OW1 SE1
      go_wp2_with fail
      refine Facts.wp_region_preds (n := 134) (by kernel_rfl) (by kernel_rfl) rfl [Facts.Pred.is (.slice A6 l2.length c6), Facts.Pred.is (.pointer (some ⟨B, 1, none⟩)), Facts.Pred.is (.int .i64 (src : Int)), Facts.Pred.is (.int .u64 (src : Int)), PRowE (l3), Facts.Pred.is (.pointer (some ⟨B, 2, none⟩)), Facts.Pred.is (.int .i64 (dst : Int)), Facts.Pred.is (.int .u64 (dst : Int)), PRowE (l4), Facts.Pred.is (.int .u64 (mn : Int)), PRowE (l5), Facts.Pred.is (.pointer (some ⟨B, 4, none⟩)), Facts.Pred.is (.int .u64 (ser : Int)), PRowE (hd), PRowE (hd)] ?_ ?_
      · refine ⟨?_, ?_, ?_, ?_, ?_, ?_, ?_, ?_, ?_, ?_, ?_, ?_, ?_, ?_, ?_, trivial⟩
        · refine Facts.step_is (.slice A6 l2.length c6) fun a W hR hold hnew => ?_
          have f3 : a.tmps.getD 3 undef = .slice A6 l2.length c6 := hold 3 (by kernel_rfl)
          refine ⟨Facts.wanted_free rfl, ?_, fun _ => rfl⟩; simp [go_sem, Act.eval, f3]
        · refine Facts.step_is (.pointer (some ⟨B, 1, none⟩)) fun a W hR hold hnew => ?_
          have f1 : a.tmps.getD 1 undef = .pointer (some ⟨B, 0, none⟩) := hold 1 (by kernel_rfl)
          refine ⟨Facts.wanted_free rfl, ?_, fun _ => rfl⟩; simp [go_sem, Act.eval, f1]
        · refine Facts.step_is (.int .i64 (src : Int)) fun a W hR hold hnew => ?_
          have f15 : a.tmps.getD 15 undef = .pointer (some ⟨B, 1, none⟩) := hnew 1 15 (by kernel_rfl)
          have q := (HC.out W hR).1.2.1
          refine ⟨Facts.wanted_free rfl, ?_, fun _ => rfl⟩; simp [go_sem, Act.eval, f15, q]
        · refine Facts.step_is (.int .u64 (src : Int)) fun a W hR hold hnew => ?_
          have f16 : a.tmps.getD 16 undef = .int .i64 (src : Int) := hnew 2 16 (by kernel_rfl)
          refine ⟨Facts.wanted_free rfl, ?_, fun _ => rfl⟩; simp [go_sem, Act.eval, f16, hws]
        · refine Facts.step_call fun a W hR hold hnew => ?_
          have f14 : a.tmps.getD 14 undef = .slice A6 l2.length c6 := hnew 0 14 (by kernel_rfl)
          have f17 : a.tmps.getD 17 undef = .int .u64 (src : Int) := hnew 3 17 (by kernel_rfl)
          have q := (HC.out W hR).2
          refine ⟨Facts.wanted_free rfl, 12, #[.slice A6 l2.length c6, .int .u64 (src : Int)], by simp [go_sem, Act.eval, f14, f17], ?_⟩
          refine (L2.out W A6 c6 q).mono ?_
          rintro e w8 h8
          obtain ⟨A8, c8, rfl, own8, hb8⟩ := h8
          exact ⟨_, rfl, hb8, A8, c8, rfl, Sees.of_own own8⟩
        · refine Facts.step_is (.pointer (some ⟨B, 2, none⟩)) fun a W hR hold hnew => ?_
          have f1 : a.tmps.getD 1 undef = .pointer (some ⟨B, 0, none⟩) := hold 1 (by kernel_rfl)
          refine ⟨Facts.wanted_free rfl, ?_, fun _ => rfl⟩; simp [go_sem, Act.eval, f1]
        · refine Facts.step_is (.int .i64 (dst : Int)) fun a W hR hold hnew => ?_
          have f19 : a.tmps.getD 19 undef = .pointer (some ⟨B, 2, none⟩) := hnew 5 19 (by kernel_rfl)
          have q := (HC.out W hR).1.2.2.1
          refine ⟨Facts.wanted_free rfl, ?_, fun _ => rfl⟩; simp [go_sem, Act.eval, f19, q]
        · refine Facts.step_is (.int .u64 (dst : Int)) fun a W hR hold hnew => ?_
          have f20 : a.tmps.getD 20 undef = .int .i64 (dst : Int) := hnew 6 20 (by kernel_rfl)
          refine ⟨Facts.wanted_free rfl, ?_, fun _ => rfl⟩; simp [go_sem, Act.eval, f20, hwd]
        · refine Facts.step_call fun a W hR hold hnew => ?_
          have h18 : ∃ A' c', a.tmps.getD 18 undef = .slice A' (l3).length c' ∧ Sees W A' (l3).length (l3) := hnew 4 18 (by kernel_rfl)
          obtain ⟨A18, c18, f18, s18⟩ := h18
          have f21 : a.tmps.getD 21 undef = .int .u64 (dst : Int) := hnew 7 21 (by kernel_rfl)
          refine ⟨Facts.wanted_free rfl, 12, #[.slice A18 l3.length c18, .int .u64 (dst : Int)], by simp [go_sem, Act.eval, f18, f21], ?_⟩
          refine (L3.out W A18 c18 s18).mono ?_
          rintro e w8 h8
          obtain ⟨A8, c8, rfl, own8, hb8⟩ := h8
          exact ⟨_, rfl, hb8, A8, c8, rfl, Sees.of_own own8⟩
        · refine Facts.step_is (.int .u64 (mn : Int)) fun a W hR hold hnew => ?_
          have f4 : a.tmps.getD 4 undef = .int .u64 (mn : Int) := hold 4 (by kernel_rfl)
          refine ⟨Facts.wanted_free rfl, ?_, fun _ => rfl⟩; simp [go_sem, Act.eval, f4]
        · refine Facts.step_call fun a W hR hold hnew => ?_
          have h22 : ∃ A' c', a.tmps.getD 22 undef = .slice A' (l4).length c' ∧ Sees W A' (l4).length (l4) := hnew 8 22 (by kernel_rfl)
          obtain ⟨A22, c22, f22, s22⟩ := h22
          have f23 : a.tmps.getD 23 undef = .int .u64 (mn : Int) := hnew 9 23 (by kernel_rfl)
          refine ⟨Facts.wanted_free rfl, 12, #[.slice A22 l4.length c22, .int .u64 (mn : Int)], by simp [go_sem, Act.eval, f22, f23], ?_⟩
          refine (L4.out W A22 c22 s22).mono ?_
          rintro e w8 h8
          obtain ⟨A8, c8, rfl, own8, hb8⟩ := h8
          exact ⟨_, rfl, hb8, A8, c8, rfl, Sees.of_own own8⟩
        · refine Facts.step_is (.pointer (some ⟨B, 4, none⟩)) fun a W hR hold hnew => ?_
          have f1 : a.tmps.getD 1 undef = .pointer (some ⟨B, 0, none⟩) := hold 1 (by kernel_rfl)
          refine ⟨Facts.wanted_free rfl, ?_, fun _ => rfl⟩; simp [go_sem, Act.eval, f1]
        · refine Facts.step_is (.int .u64 (ser : Int)) fun a W hR hold hnew => ?_
          have f25 : a.tmps.getD 25 undef = .pointer (some ⟨B, 4, none⟩) := hnew 11 25 (by kernel_rfl)
          have q := (HC.out W hR).1.2.2.2.2.1
          refine ⟨Facts.wanted_free rfl, ?_, fun _ => rfl⟩; simp [go_sem, Act.eval, f25, q]
        · refine Facts.step_call fun a W hR hold hnew => ?_
          have h24 : ∃ A' c', a.tmps.getD 24 undef = .slice A' (l5).length c' ∧ Sees W A' (l5).length (l5) := hnew 10 24 (by kernel_rfl)
          obtain ⟨A24, c24, f24, s24⟩ := h24
          have f26 : a.tmps.getD 26 undef = .int .u64 (ser : Int) := hnew 12 26 (by kernel_rfl)
          refine ⟨Facts.wanted_free rfl, 12, #[.slice A24 l5.length c24, .int .u64 (ser : Int)], by simp [go_sem, Act.eval, f24, f26], ?_⟩
          refine (L5.out W A24 c24 s24).mono ?_
          rintro e w8 h8
          obtain ⟨A8, c8, rfl, own8, hb8⟩ := h8
          exact ⟨_, rfl, hb8, A8, c8, rfl, Sees.of_own own8⟩
        · refine Facts.step_some fun a W hR hold hnew => ?_
          have h27 : ∃ A' c', a.tmps.getD 27 undef = .slice A' (hd).length c' ∧ Sees W A' (hd).length (hd) := hnew 13 27 (by kernel_rfl)
          obtain ⟨A27, c27, f27, s27⟩ := h27
          exact ⟨Facts.wanted_free rfl, .slice A27 hd.length c27, by simp [go_sem, Act.eval, f27], A27, c27, rfl, s27⟩
      · intro a w9 hR' hsize hdef hnew hold
        have h3 : ∃ A' c', a.tmps.getD 3 undef = .slice A' (hd).length c' ∧ Sees w9 A' (hd).length (hd) := hnew 14 3 (by kernel_rfl)
        obtain ⟨A3, c3, f3, s3⟩ := h3
        have f1 : a.tmps.getD 1 undef = Value.pointer (some ⟨B, 0, none⟩) := hold 1 (Facts.not_dst (by kernel_rfl))
        have f2 : a.tmps.getD 2 undef = Value.slice none 0 0 := hold 2 (Facts.not_dst (by kernel_rfl))
        obtain ⟨tm, df⟩ := a
        simp only [] at hdef hsize f1 f2 f3
        obtain ⟨xq, hxq, hlit⟩ := Facts.lits tm hsize Facts.idx134 Facts.idx134_eq
        rw [hxq] at f1 f2 f3
        simp only [Facts.idx134, List.map_cons, List.map_nil, f1, f2, f3] at hlit
        clear f1 f2 f3 hsize hnew hold hxq
        subst hlit
        subst hdef
        try simp only []
        have B9 := Lib.hid (HX.out.2.trans (((Below.refl _ _).drew.trans hR').mono HX.out.2.size))
        have S9 := Lib.hid s3
        clear hR' s3 HC HX L1 L2 L3 L4 L5 hws hwd
        obtain ⟨k0, k1, k2, k3, k4, k5, k6, k7, k8, k9, k10, k11, k12, k13⟩ := CELLS.out w9 B9.out
        have AT9 := Lib.hid (HAT.out w9 B9.out)
        obtain rfl : K = 1 := HK.out
        obtain ⟨m1, hm1⟩ : ∃ m, m = hd ++ Vec.layL H := ⟨_, rfl⟩
        obtain ⟨m2, hm2⟩ : ∃ m, m = m1 ++ enc rn := ⟨_, rfl⟩
        have hcn : rn = rows.length := AT9.out.rn
        have hcb : rn ≤ 64 := by rw [hcn]; exact HOK.out.rows.1
        have hR : L = m2 ++ rwsL rows := by rw [HLL.out.1, hm2, hm1, HHD.out, hcn]; unfold ltL ltRest; simp only [List.append_assoc]; rfl
        have hle := HLE.out
        have x0 := Vec.layL_len HOK.out.H
        simp only at x0
        have x1 := enc_ten (n := rn) (by omega)
        have g1 := congrArg List.length hm1
        have g2 := congrArg List.length hm2
        rw [List.length_append] at g1 g2
        have hwn : IntKind.u64.wrap (rn : Int) = (rn : Int) := wrap_in rn (by omega)
        have M1 := Lib.hid (fun (W : World) A c (hs : Sees W A hd.length hd) (hv : Vec.SeesU W Ha hn H) => (by have := rlayV A c hd Ha hn hc H W hs hv HOK.out.H (by omega); rw [← hm1] at this; exact this : Calls Tryd.prog 13 #[.slice A hd.length c, .slice Ha hn hc] W (GivesR W m1)))
        have M2 := Lib.hid (fun (W : World) A c (hs : Sees W A m1.length m1) => (by have := rlay A c m1 rn W hs (by omega) (by omega); rw [← hm2] at this; exact this : Calls Tryd.prog 12 #[.slice A m1.length c, .int .u64 (rn : Int)] W (GivesR W m2)))
        have HM2 := Lib.hid (show m2.length ≤ 800 by omega)
        have HR := Lib.hid hR
        have HCN := Lib.hid (And.intro hcn hcb)
        have HC := Lib.hid (fun (W : World) (hW : Below w9.drew.heap.size w9.drew W) => (⟨CELLS.out W (B9.out.trans (((Below.refl _ _).drew.trans hW).mono B9.out.size)), S9.out.below ((Below.refl _ _).drew.trans hW), AT9.out.below ((Below.refl _ _).drew.trans hW)⟩ : _ ∧ Sees W A3 hd.length hd ∧ LtAt W _ _ S))
        clear hR hm1 hm2 hle x0 x1 g1 g2 hcn hcb k0 k1 k2 k3 k4 k5 k6 k7 k8 k9 k10 k11 k12 k13
        obtain ⟨k0, -⟩ := CELLS.out w9 B9.out
        go_wp2_with fail
        refine Facts.wp_region_preds (n := 134) (by kernel_rfl) (by kernel_rfl) rfl [Facts.Pred.is (.slice A3 hd.length c3), Facts.Pred.is (.pointer (some ⟨B, 5, none⟩)), Facts.Pred.is (.slice Ha hn hc), PRowE (m1), Facts.Pred.is (.pointer (some ⟨B, 6, none⟩)), Facts.Pred.is (.slice Ra rn rc), Facts.Pred.is (.int .i64 (rn : Int)), Facts.Pred.is (.int .u64 (rn : Int)), PRowE (m2), PRowE (m2)] ?_ ?_
        · refine ⟨?_, ?_, ?_, ?_, ?_, ?_, ?_, ?_, ?_, ?_, trivial⟩
          · refine Facts.step_is (.slice A3 hd.length c3) fun a W hR hold hnew => ?_
            have f3 : a.tmps.getD 3 undef = .slice A3 hd.length c3 := hold 3 (by kernel_rfl)
            refine ⟨Facts.wanted_free rfl, ?_, fun _ => rfl⟩; simp [go_sem, Act.eval, f3]
          · refine Facts.step_is (.pointer (some ⟨B, 5, none⟩)) fun a W hR hold hnew => ?_
            have f1 : a.tmps.getD 1 undef = .pointer (some ⟨B, 0, none⟩) := hold 1 (by kernel_rfl)
            refine ⟨Facts.wanted_free rfl, ?_, fun _ => rfl⟩; simp [go_sem, Act.eval, f1]
          · refine Facts.step_is (.slice Ha hn hc) fun a W hR hold hnew => ?_
            have f40 : a.tmps.getD 40 undef = .pointer (some ⟨B, 5, none⟩) := hnew 1 40 (by kernel_rfl)
            have q := (HC.out W hR).1.2.2.2.2.2.1
            refine ⟨Facts.wanted_free rfl, ?_, fun _ => rfl⟩; simp [go_sem, Act.eval, f40, q]
          · refine Facts.step_call fun a W hR hold hnew => ?_
            have f39 : a.tmps.getD 39 undef = .slice A3 hd.length c3 := hnew 0 39 (by kernel_rfl)
            have f41 : a.tmps.getD 41 undef = .slice Ha hn hc := hnew 2 41 (by kernel_rfl)
            have q := (HC.out W hR).2
            refine ⟨Facts.wanted_free rfl, 13, #[.slice A3 hd.length c3, .slice Ha hn hc], by simp [go_sem, Act.eval, f39, f41], ?_⟩
            refine (M1.out W A3 c3 q.1 q.2.H).mono ?_
            rintro e w8 h8
            obtain ⟨A8, c8, rfl, own8, hb8⟩ := h8
            exact ⟨_, rfl, hb8, A8, c8, rfl, Sees.of_own own8⟩
          · refine Facts.step_is (.pointer (some ⟨B, 6, none⟩)) fun a W hR hold hnew => ?_
            have f1 : a.tmps.getD 1 undef = .pointer (some ⟨B, 0, none⟩) := hold 1 (by kernel_rfl)
            refine ⟨Facts.wanted_free rfl, ?_, fun _ => rfl⟩; simp [go_sem, Act.eval, f1]
          · refine Facts.step_is (.slice Ra rn rc) fun a W hR hold hnew => ?_
            have f43 : a.tmps.getD 43 undef = .pointer (some ⟨B, 6, none⟩) := hnew 4 43 (by kernel_rfl)
            have q := (HC.out W hR).1.2.2.2.2.2.2.1
            refine ⟨Facts.wanted_free rfl, ?_, fun _ => rfl⟩; simp [go_sem, Act.eval, f43, q]
          · refine Facts.step_is (.int .i64 (rn : Int)) fun a W hR hold hnew => ?_
            have f44 : a.tmps.getD 44 undef = .slice Ra rn rc := hnew 5 44 (by kernel_rfl)
            refine ⟨Facts.wanted_free rfl, ?_, fun _ => rfl⟩; simp [go_sem, Act.eval, f44]
          · refine Facts.step_is (.int .u64 (rn : Int)) fun a W hR hold hnew => ?_
            have f45 : a.tmps.getD 45 undef = .int .i64 (rn : Int) := hnew 6 45 (by kernel_rfl)
            refine ⟨Facts.wanted_free rfl, ?_, fun _ => rfl⟩; simp [go_sem, Act.eval, f45, hwn]
          · refine Facts.step_call fun a W hR hold hnew => ?_
            have h42 : ∃ A' c', a.tmps.getD 42 undef = .slice A' (m1).length c' ∧ Sees W A' (m1).length (m1) := hnew 3 42 (by kernel_rfl)
            obtain ⟨A42, c42, f42, s42⟩ := h42
            have f46 : a.tmps.getD 46 undef = .int .u64 (rn : Int) := hnew 7 46 (by kernel_rfl)
            refine ⟨Facts.wanted_free rfl, 12, #[.slice A42 m1.length c42, .int .u64 (rn : Int)], by simp [go_sem, Act.eval, f42, f46], ?_⟩
            refine (M2.out W A42 c42 s42).mono ?_
            rintro e w8 h8
            obtain ⟨A8, c8, rfl, own8, hb8⟩ := h8
            exact ⟨_, rfl, hb8, A8, c8, rfl, Sees.of_own own8⟩
          · refine Facts.step_some fun a W hR hold hnew => ?_
            have h47 : ∃ A' c', a.tmps.getD 47 undef = .slice A' (m2).length c' ∧ Sees W A' (m2).length (m2) := hnew 8 47 (by kernel_rfl)
            obtain ⟨A47, c47, f47, s47⟩ := h47
            exact ⟨Facts.wanted_free rfl, .slice A47 m2.length c47, by simp [go_sem, Act.eval, f47], A47, c47, rfl, s47⟩
        · intro a w11 hR' hsize hdef hnew hold
          have h3 : ∃ A' c', a.tmps.getD 3 undef = .slice A' (m2).length c' ∧ Sees w11 A' (m2).length (m2) := hnew 9 3 (by kernel_rfl)
          obtain ⟨A3, c3, f3, s3⟩ := h3
          have f1 : a.tmps.getD 1 undef = Value.pointer (some ⟨B, 0, none⟩) := hold 1 (Facts.not_dst (by kernel_rfl))
          have f2 : a.tmps.getD 2 undef = Value.slice none 0 0 := hold 2 (Facts.not_dst (by kernel_rfl))
          obtain ⟨tm, df⟩ := a
          simp only [] at hdef hsize f1 f2 f3
          obtain ⟨xq, hxq, hlit⟩ := Facts.lits tm hsize Facts.idx134 Facts.idx134_eq
          rw [hxq] at f1 f2 f3
          simp only [Facts.idx134, List.map_cons, List.map_nil, f1, f2, f3] at hlit
          clear f1 f2 f3 hsize hnew hold hxq
          subst hlit
          subst hdef
          try simp only []
          have B11 := Lib.hid (B9.out.trans (((Below.refl _ _).drew.trans hR').mono B9.out.size))
          have S11 := Lib.hid s3
          clear hR' s3 HC
          have hcz : (rn : Int) ≤ 1000 := by have := HCN.out.2; omega
          go_wp2_with fail
          go_loopw [3, 5] (fun x y wr => ∃ (A : Option Addr) (c j : Nat) (l : List UInt8), x = .slice A l.length c ∧ y = .int .i64 (j : Int) ∧ j ≤ rn ∧ Hid (l = m2 ++ rwsL (rows.take j)) ∧ Hid (Sees wr A l.length l) ∧ Hid (Below u.heap.size u wr)) (fun _ y _ => rn - (intOf y).toNat)
          case atStart => exact ⟨_, _, 0, m2, rfl, rfl, Nat.zero_le _, Lib.hid (by simp [rwsL]), S11, B11⟩
          case round =>
            obtain ⟨A, c, j, l, rfl, rfl, hj, HL, HS, HB4⟩ := hrel
            by_cases hlt : j < rn
            · have hij : (j : Int) < (rn : Int) := by omega
              have hd0 : (0 : Int) ≤ (j : Int) := by omega
              have AT := HAT.out wr HB4.out
              obtain ⟨r, hr⟩ : ∃ r, rows[j]? = some r := ⟨_, List.getElem?_eq_getElem (by have := HCN.out.1; omega)⟩
              obtain ⟨lb, lo, hRa, QA, qn, qc, r0, r1, r2, r3⟩ := AT.rows j r hr
              obtain ⟨hnd, hsm, hrt⟩ := HOK.out.rows.2 _ (List.mem_of_getElem? hr)
              have hst := rwsL_take rows j hr
              have hlb : l.length ≤ 50000 := by rw [HL.out, List.length_append]; have h1 := HM2.out; have h2 := rws_small HOK.out j; simp only at h2; omega
              simp only at hRa
              obtain ⟨nd, HR0, rt⟩ := r
              simp only at r0 r2 r3 hnd hsm hrt
              have x0 := Vec.layL_len hsm
              have x1 := enc_ten (n := nd) (by omega)
              have x2 := enc_ten (n := rt) (by omega)
              obtain ⟨n1, hn1⟩ : ∃ m, m = l ++ enc nd := ⟨_, rfl⟩
              obtain ⟨n2, hn2⟩ : ∃ m, m = n1 ++ Vec.layL HR0 := ⟨_, rfl⟩
              obtain ⟨n3, hn3⟩ : ∃ m, m = n2 ++ enc rt := ⟨_, rfl⟩
              have g1 := congrArg List.length hn1
              have g2 := congrArg List.length hn2
              rw [List.length_append] at g1 g2
              have HNX := Lib.hid (show n3 = m2 ++ rwsL (rows.take (j + 1)) by rw [hn3, hn2, hn1, HL.out, hst]; unfold rwL; simp only [List.append_assoc])
              have N1 := Lib.hid (fun (W : World) A c (hs : Sees W A l.length l) => (by have := rlay A c l nd W hs (by omega) (by omega); rw [← hn1] at this; exact this : Calls Tryd.prog 12 #[.slice A l.length c, .int .u64 (nd : Int)] W (GivesR W n1)))
              have N2 := Lib.hid (fun (W : World) A c (hs : Sees W A n1.length n1) (hv : Vec.SeesU W QA qn HR0) => (by have := rlayV A c n1 QA qn qc HR0 W hs hv hsm (by omega); rw [← hn2] at this; exact this : Calls Tryd.prog 13 #[.slice A n1.length c, .slice QA qn qc] W (GivesR W n2)))
              have N3 := Lib.hid (fun (W : World) A c (hs : Sees W A n2.length n2) => (by have := rlay A c n2 rt W hs (by omega) (by omega); rw [← hn3] at this; exact this : Calls Tryd.prog 12 #[.slice A n2.length c, .int .u64 (rt : Int)] W (GivesR W n3)))
              have hwnd : IntKind.u64.wrap (nd : Int) = (nd : Int) := wrap_in nd (by omega)
              have HCR := Lib.hid (fun (W : World) (hW : Below wr.drew.heap.size wr.drew W) => (by
                have hW2 := (Below.refl wr.heap.size wr).drew.trans hW
                have hW3 := HB4.out.trans (hW2.mono HB4.out.size)
                have k6 := (CELLS.out W hW3).2.2.2.2.2.2.1
                rw [hRa] at k6
                exact ⟨k6, by rw [hW2.cell (World.block_lt_of_cell? _ _ r0)]; exact r0, by rw [hW2.cell (World.block_lt_of_cell? _ _ r1)]; exact r1, by rw [hW2.cell (World.block_lt_of_cell? _ _ r2)]; exact r2, HS.out.below hW2, r3.below hW2⟩ : W.cell? ⟨B, 6, none⟩ = some (.slice (some ⟨lb, lo, none⟩) rn rc) ∧ W.cell? ⟨lb, lo + j * 3, none⟩ = some (.int .i64 (nd : Int)) ∧ W.cell? ⟨lb, lo + j * 3 + 1, none⟩ = some (.slice QA qn qc) ∧ W.cell? ⟨lb, lo + j * 3 + 2, none⟩ = some (.int .u64 (rt : Int)) ∧ Sees W A l.length l ∧ Vec.SeesU W QA qn HR0))
              have k6 := (CELLS.out wr HB4.out).2.2.2.2.2.2.1
              clear AT hr r0 r1 r2 r3 hnd hsm hrt hst hlb x0 x1 x2 hn1 hn2 hn3 g1 g2
              rw [hRa] at k6
              clear hRa
              go_wp2_with fail
              clear k6
              refine Facts.wp_region_preds (n := 134) (by kernel_rfl) (by kernel_rfl) rfl [Facts.Pred.is (.slice A l.length c), Facts.Pred.is (.pointer (some ⟨B, 6, none⟩)), Facts.Pred.is (.slice (some ⟨lb, lo, none⟩) rn rc), Facts.Pred.is (.int .i64 (j : Int)), Facts.Pred.is (.pointer (some ⟨lb, lo + j * 3, none⟩)), Facts.Pred.is (.pointer (some ⟨lb, lo + j * 3, none⟩)), Facts.Pred.is (.int .i64 (nd : Int)), Facts.Pred.is (.int .u64 (nd : Int)), PRowE (n1), Facts.Pred.is (.pointer (some ⟨B, 6, none⟩)), Facts.Pred.is (.slice (some ⟨lb, lo, none⟩) rn rc), Facts.Pred.is (.int .i64 (j : Int)), Facts.Pred.is (.pointer (some ⟨lb, lo + j * 3, none⟩)), Facts.Pred.is (.pointer (some ⟨lb, lo + j * 3 + 1, none⟩)), Facts.Pred.is (.slice QA qn qc), PRowE (n2), Facts.Pred.is (.pointer (some ⟨B, 6, none⟩)), Facts.Pred.is (.slice (some ⟨lb, lo, none⟩) rn rc), Facts.Pred.is (.int .i64 (j : Int)), Facts.Pred.is (.pointer (some ⟨lb, lo + j * 3, none⟩)), Facts.Pred.is (.pointer (some ⟨lb, lo + j * 3 + 2, none⟩)), Facts.Pred.is (.int .u64 (rt : Int)), PRowE (n3), PRowE (n3)] ?_ ?_
              · refine ⟨?_, ?_, ?_, ?_, ?_, ?_, ?_, ?_, ?_, ?_, ?_, ?_, ?_, ?_, ?_, ?_, ?_, ?_, ?_, ?_, ?_, ?_, ?_, ?_, trivial⟩
                · refine Facts.step_is (.slice A l.length c) fun a W hR hold hnew => ?_
                  have f3 : a.tmps.getD 3 undef = .slice A l.length c := hold 3 (by kernel_rfl)
                  refine ⟨Facts.wanted_free rfl, ?_, fun _ => rfl⟩; simp [go_sem, Act.eval, f3]
                · refine Facts.step_is (.pointer (some ⟨B, 6, none⟩)) fun a W hR hold hnew => ?_
                  have f1 : a.tmps.getD 1 undef = .pointer (some ⟨B, 0, none⟩) := hold 1 (by kernel_rfl)
                  refine ⟨Facts.wanted_free rfl, ?_, fun _ => rfl⟩; simp [go_sem, Act.eval, f1]
                · refine Facts.step_is (.slice (some ⟨lb, lo, none⟩) rn rc) fun a W hR hold hnew => ?_
                  have f56 : a.tmps.getD 56 undef = .pointer (some ⟨B, 6, none⟩) := hnew 1 56 (by kernel_rfl)
                  have q := (HCR.out W hR).1
                  refine ⟨Facts.wanted_free rfl, ?_, fun _ => rfl⟩; simp [go_sem, Act.eval, f56, q]
                · refine Facts.step_is (.int .i64 (j : Int)) fun a W hR hold hnew => ?_
                  have f5 : a.tmps.getD 5 undef = .int .i64 (j : Int) := hold 5 (by kernel_rfl)
                  refine ⟨Facts.wanted_free rfl, ?_, fun _ => rfl⟩; simp [go_sem, Act.eval, f5]
                · refine Facts.step_is (.pointer (some ⟨lb, lo + j * 3, none⟩)) fun a W hR hold hnew => ?_
                  have f57 : a.tmps.getD 57 undef = .slice (some ⟨lb, lo, none⟩) rn rc := hnew 2 57 (by kernel_rfl)
                  have f58 : a.tmps.getD 58 undef = .int .i64 (j : Int) := hnew 3 58 (by kernel_rfl)
                  refine ⟨Facts.wanted_free rfl, ?_, fun _ => rfl⟩; simp [go_sem, Act.eval, f57, f58, hij]
                · refine Facts.step_is (.pointer (some ⟨lb, lo + j * 3, none⟩)) fun a W hR hold hnew => ?_
                  have f59 : a.tmps.getD 59 undef = .pointer (some ⟨lb, lo + j * 3, none⟩) := hnew 4 59 (by kernel_rfl)
                  refine ⟨Facts.wanted_free rfl, ?_, fun _ => rfl⟩; simp [go_sem, Act.eval, f59]
                · refine Facts.step_is (.int .i64 (nd : Int)) fun a W hR hold hnew => ?_
                  have f60 : a.tmps.getD 60 undef = .pointer (some ⟨lb, lo + j * 3, none⟩) := hnew 5 60 (by kernel_rfl)
                  have q := (HCR.out W hR).2.1
                  refine ⟨Facts.wanted_free rfl, ?_, fun _ => rfl⟩; simp [go_sem, Act.eval, f60, q]
                · refine Facts.step_is (.int .u64 (nd : Int)) fun a W hR hold hnew => ?_
                  have f61 : a.tmps.getD 61 undef = .int .i64 (nd : Int) := hnew 6 61 (by kernel_rfl)
                  refine ⟨Facts.wanted_free rfl, ?_, fun _ => rfl⟩; simp [go_sem, Act.eval, f61, hwnd]
                · refine Facts.step_call fun a W hR hold hnew => ?_
                  have f55 : a.tmps.getD 55 undef = .slice A l.length c := hnew 0 55 (by kernel_rfl)
                  have f62 : a.tmps.getD 62 undef = .int .u64 (nd : Int) := hnew 7 62 (by kernel_rfl)
                  have q := (HCR.out W hR).2.2.2.2.1
                  refine ⟨Facts.wanted_free rfl, 12, #[.slice A l.length c, .int .u64 (nd : Int)], by simp [go_sem, Act.eval, f55, f62], ?_⟩
                  refine (N1.out W A c q).mono ?_
                  rintro e w8 h8
                  obtain ⟨A8, c8, rfl, own8, hb8⟩ := h8
                  exact ⟨_, rfl, hb8, A8, c8, rfl, Sees.of_own own8⟩
                · refine Facts.step_is (.pointer (some ⟨B, 6, none⟩)) fun a W hR hold hnew => ?_
                  have f1 : a.tmps.getD 1 undef = .pointer (some ⟨B, 0, none⟩) := hold 1 (by kernel_rfl)
                  refine ⟨Facts.wanted_free rfl, ?_, fun _ => rfl⟩; simp [go_sem, Act.eval, f1]
                · refine Facts.step_is (.slice (some ⟨lb, lo, none⟩) rn rc) fun a W hR hold hnew => ?_
                  have f64 : a.tmps.getD 64 undef = .pointer (some ⟨B, 6, none⟩) := hnew 9 64 (by kernel_rfl)
                  have q := (HCR.out W hR).1
                  refine ⟨Facts.wanted_free rfl, ?_, fun _ => rfl⟩; simp [go_sem, Act.eval, f64, q]
                · refine Facts.step_is (.int .i64 (j : Int)) fun a W hR hold hnew => ?_
                  have f5 : a.tmps.getD 5 undef = .int .i64 (j : Int) := hold 5 (by kernel_rfl)
                  refine ⟨Facts.wanted_free rfl, ?_, fun _ => rfl⟩; simp [go_sem, Act.eval, f5]
                · refine Facts.step_is (.pointer (some ⟨lb, lo + j * 3, none⟩)) fun a W hR hold hnew => ?_
                  have f65 : a.tmps.getD 65 undef = .slice (some ⟨lb, lo, none⟩) rn rc := hnew 10 65 (by kernel_rfl)
                  have f66 : a.tmps.getD 66 undef = .int .i64 (j : Int) := hnew 11 66 (by kernel_rfl)
                  refine ⟨Facts.wanted_free rfl, ?_, fun _ => rfl⟩; simp [go_sem, Act.eval, f65, f66, hij]
                · refine Facts.step_is (.pointer (some ⟨lb, lo + j * 3 + 1, none⟩)) fun a W hR hold hnew => ?_
                  have f67 : a.tmps.getD 67 undef = .pointer (some ⟨lb, lo + j * 3, none⟩) := hnew 12 67 (by kernel_rfl)
                  refine ⟨Facts.wanted_free rfl, ?_, fun _ => rfl⟩; simp [go_sem, Act.eval, f67]
                · refine Facts.step_is (.slice QA qn qc) fun a W hR hold hnew => ?_
                  have f68 : a.tmps.getD 68 undef = .pointer (some ⟨lb, lo + j * 3 + 1, none⟩) := hnew 13 68 (by kernel_rfl)
                  have q := (HCR.out W hR).2.2.1
                  refine ⟨Facts.wanted_free rfl, ?_, fun _ => rfl⟩; simp [go_sem, Act.eval, f68, q]
                · refine Facts.step_call fun a W hR hold hnew => ?_
                  have h63 : ∃ A' c', a.tmps.getD 63 undef = .slice A' (n1).length c' ∧ Sees W A' (n1).length (n1) := hnew 8 63 (by kernel_rfl)
                  obtain ⟨A63, c63, f63, s63⟩ := h63
                  have f69 : a.tmps.getD 69 undef = .slice QA qn qc := hnew 14 69 (by kernel_rfl)
                  have q := (HCR.out W hR).2.2.2.2.2
                  refine ⟨Facts.wanted_free rfl, 13, #[.slice A63 n1.length c63, .slice QA qn qc], by simp [go_sem, Act.eval, f63, f69], ?_⟩
                  refine (N2.out W A63 c63 s63 q).mono ?_
                  rintro e w8 h8
                  obtain ⟨A8, c8, rfl, own8, hb8⟩ := h8
                  exact ⟨_, rfl, hb8, A8, c8, rfl, Sees.of_own own8⟩
                · refine Facts.step_is (.pointer (some ⟨B, 6, none⟩)) fun a W hR hold hnew => ?_
                  have f1 : a.tmps.getD 1 undef = .pointer (some ⟨B, 0, none⟩) := hold 1 (by kernel_rfl)
                  refine ⟨Facts.wanted_free rfl, ?_, fun _ => rfl⟩; simp [go_sem, Act.eval, f1]
                · refine Facts.step_is (.slice (some ⟨lb, lo, none⟩) rn rc) fun a W hR hold hnew => ?_
                  have f71 : a.tmps.getD 71 undef = .pointer (some ⟨B, 6, none⟩) := hnew 16 71 (by kernel_rfl)
                  have q := (HCR.out W hR).1
                  refine ⟨Facts.wanted_free rfl, ?_, fun _ => rfl⟩; simp [go_sem, Act.eval, f71, q]
                · refine Facts.step_is (.int .i64 (j : Int)) fun a W hR hold hnew => ?_
                  have f5 : a.tmps.getD 5 undef = .int .i64 (j : Int) := hold 5 (by kernel_rfl)
                  refine ⟨Facts.wanted_free rfl, ?_, fun _ => rfl⟩; simp [go_sem, Act.eval, f5]
                · refine Facts.step_is (.pointer (some ⟨lb, lo + j * 3, none⟩)) fun a W hR hold hnew => ?_
                  have f72 : a.tmps.getD 72 undef = .slice (some ⟨lb, lo, none⟩) rn rc := hnew 17 72 (by kernel_rfl)
                  have f73 : a.tmps.getD 73 undef = .int .i64 (j : Int) := hnew 18 73 (by kernel_rfl)
                  refine ⟨Facts.wanted_free rfl, ?_, fun _ => rfl⟩; simp [go_sem, Act.eval, f72, f73, hij]
                · refine Facts.step_is (.pointer (some ⟨lb, lo + j * 3 + 2, none⟩)) fun a W hR hold hnew => ?_
                  have f74 : a.tmps.getD 74 undef = .pointer (some ⟨lb, lo + j * 3, none⟩) := hnew 19 74 (by kernel_rfl)
                  refine ⟨Facts.wanted_free rfl, ?_, fun _ => rfl⟩; simp [go_sem, Act.eval, f74]
                · refine Facts.step_is (.int .u64 (rt : Int)) fun a W hR hold hnew => ?_
                  have f75 : a.tmps.getD 75 undef = .pointer (some ⟨lb, lo + j * 3 + 2, none⟩) := hnew 20 75 (by kernel_rfl)
                  have q := (HCR.out W hR).2.2.2.1
                  refine ⟨Facts.wanted_free rfl, ?_, fun _ => rfl⟩; simp [go_sem, Act.eval, f75, q]
                · refine Facts.step_call fun a W hR hold hnew => ?_
                  have h70 : ∃ A' c', a.tmps.getD 70 undef = .slice A' (n2).length c' ∧ Sees W A' (n2).length (n2) := hnew 15 70 (by kernel_rfl)
                  obtain ⟨A70, c70, f70, s70⟩ := h70
                  have f76 : a.tmps.getD 76 undef = .int .u64 (rt : Int) := hnew 21 76 (by kernel_rfl)
                  refine ⟨Facts.wanted_free rfl, 12, #[.slice A70 n2.length c70, .int .u64 (rt : Int)], by simp [go_sem, Act.eval, f70, f76], ?_⟩
                  refine (N3.out W A70 c70 s70).mono ?_
                  rintro e w8 h8
                  obtain ⟨A8, c8, rfl, own8, hb8⟩ := h8
                  exact ⟨_, rfl, hb8, A8, c8, rfl, Sees.of_own own8⟩
                · refine Facts.step_some fun a W hR hold hnew => ?_
                  have h77 : ∃ A' c', a.tmps.getD 77 undef = .slice A' (n3).length c' ∧ Sees W A' (n3).length (n3) := hnew 22 77 (by kernel_rfl)
                  obtain ⟨A77, c77, f77, s77⟩ := h77
                  exact ⟨Facts.wanted_free rfl, .slice A77 n3.length c77, by simp [go_sem, Act.eval, f77], A77, c77, rfl, s77⟩
              · intro a w12 hR' hsize hdef hnew hold
                have h3 : ∃ A' c', a.tmps.getD 3 undef = .slice A' (n3).length c' ∧ Sees w12 A' (n3).length (n3) := hnew 23 3 (by kernel_rfl)
                obtain ⟨A3, c3, f3, s3⟩ := h3
                obtain ⟨tm9, df⟩ := a
                have hfr := Ord.frame_region hsize (by rfl) (fun t ht => hold t ht)
                clear hnew hold
                simp only [List.filterMap_cons, List.filterMap_nil] at hfr
                simp only [List.foldl_cons, List.foldl_nil, List.setIfInBounds_toArray, List.set_cons_succ, List.set_cons_zero] at hfr
                simp only [] at f3 hdef
                rw [f3] at hfr
                clear f3 hsize
                generalize tm9.getD 55 undef = y55 at hfr
                generalize tm9.getD 56 undef = y56 at hfr
                generalize tm9.getD 57 undef = y57 at hfr
                generalize tm9.getD 58 undef = y58 at hfr
                generalize tm9.getD 59 undef = y59 at hfr
                generalize tm9.getD 60 undef = y60 at hfr
                generalize tm9.getD 61 undef = y61 at hfr
                generalize tm9.getD 62 undef = y62 at hfr
                generalize tm9.getD 63 undef = y63 at hfr
                generalize tm9.getD 64 undef = y64 at hfr
                generalize tm9.getD 65 undef = y65 at hfr
                generalize tm9.getD 66 undef = y66 at hfr
                generalize tm9.getD 67 undef = y67 at hfr
                generalize tm9.getD 68 undef = y68 at hfr
                generalize tm9.getD 69 undef = y69 at hfr
                generalize tm9.getD 70 undef = y70 at hfr
                generalize tm9.getD 71 undef = y71 at hfr
                generalize tm9.getD 72 undef = y72 at hfr
                generalize tm9.getD 73 undef = y73 at hfr
                generalize tm9.getD 74 undef = y74 at hfr
                generalize tm9.getD 75 undef = y75 at hfr
                generalize tm9.getD 76 undef = y76 at hfr
                generalize tm9.getD 77 undef = y77 at hfr
                subst hfr
                subst hdef
                have S13 := Lib.hid s3
                have B13 := Lib.hid (HB4.out.trans (((Below.refl _ _).drew.trans hR').mono HB4.out.size))
                clear hR' s3 HCR N1 N2 N3
                go_wp2
                go_roundw
                case rel => exact ⟨_, _, j + 1, n3, rfl, by simp, by omega, HNX, S13, B13⟩
                case measure => simp [intOf]; omega
            · obtain rfl : j = rn := by omega
              have hd1 : ¬ (j : Int) < (j : Int) := by omega
              have hfin : l = L := by rw [HL.out, HR.out, List.take_of_length_le (by have := HCN.out.1; omega)]
              have SW := HS
              rw [hfin] at SW
              have HFL := Lib.hid (congrArg List.length hfin)
              have BX := Lib.hid (BU.out.trans (HB4.out.mono BU.out.size))
              obtain ⟨N9, hN9⟩ : ∃ N9, N9 = l.length := ⟨_, rfl⟩
              obtain ⟨k0, k1, k2, k3, k4, k5, k6, k7, -⟩ := CELLS.out wr HB4.out
              clear k0 k1 k2 k3 k4 k5
              subst hfin
              clear hN9
              go_wp2_with fail
              refine (rwrap _ _ l _ SW.out (by have := HLL.out.2; omega)).mono ?_
              intro e w8 hg
              obtain ⟨A8, c8, rfl, own8, hb8⟩ := hg
              have FIN := Lib.hid (And.intro own8 hb8)
              clear own8 hb8
              go_wp2
              go_ret
              exact ⟨A8, c8, rfl, Own.lower FIN.out.1 (BX.out.size), BX.out.trans (FIN.out.2.mono BX.out.size)⟩
end Go.Proofs.YthdflbpmabcjlaaDoor.Lt
