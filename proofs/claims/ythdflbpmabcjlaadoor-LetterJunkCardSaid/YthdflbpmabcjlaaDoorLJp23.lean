/- Layer 16: the law's lay, kind 7. Layer 16: the law's lay, of any letter. Layer 16: the law LetterJunk. -/
import Derived.Deep.Cut
import Derived.Test.YthdflbpmabcjlaaDoorLJp11
import Derived.Test.YthdflbpmabcjlaaDoorLJp16
import Derived.Test.YthdflbpmabcjlaaDoorLJp17
import Derived.Test.YthdflbpmabcjlaaDoorLJp18
import Derived.Test.YthdflbpmabcjlaaDoorLJp19
import Derived.Test.YthdflbpmabcjlaaDoorLJp20
import Derived.Test.YthdflbpmabcjlaaDoorLJp21
import Derived.Test.YthdflbpmabcjlaaDoorLJp22
namespace Go.Proofs.YthdflbpmabcjlaaDoor.Lt
open Go Go.RowKit Go.Proofs.YthdflbpmabcjlaaDoor.Words Go.Proofs.YthdflbpmabcjlaaDoor.Enc Go.Proofs.YthdflbpmabcjlaaDoor.Evt Go.Proofs.YthdflbpmabcjlaaDoor.Made Go.Proofs.YthdflbpmabcjlaaDoor.Seg
set_option linter.unusedVariables false
set_option linter.unusedSimpArgs false

set_option maxRecDepth 100000 in
set_option maxHeartbeats 4000000 in
theorem lay_k7 (w : World) (x : Lt) (v : Adr) (S : List EvS) (h : LtAt w x v S) (ok : Ok x) (hk : x.kind = 7) :
    Calls Tryd.prog 7 #[.agg (ltV x v)] w (GivesR w (wrap (ltL x))) := by
  obtain ⟨i, hi, hz, hsz, hby⟩ := info_parts info8
  obtain ⟨B, hB⟩ : ∃ B, B = w.heap.size := ⟨_, rfl⟩
  obtain ⟨u, hu⟩ : ∃ u, u = w.alloc (.cells (ltV x v) 37) := ⟨_, rfl⟩
  have bu : Below w.heap.size w u := by rw [hu]; exact (Below.refl _ _).alloc (Nat.le_refl _) _
  have hus : u.heap.size = B + 1 := by rw [hu, hB]; simp
  have gB : u.heap[B]? = some (.cells (ltV x v) 37 (0, 0)) := by rw [hu, hB]; exact heap_alloc_new w _
  have CELLS0 := Lib.hid (fun (W : World) (hW : Below u.heap.size u W) => lt_cells ((hW.block B (by omega)).trans gB))
  have HAT := Lib.hid (fun (W : World) (hW : Below u.heap.size u W) => (h.below bu).below hW)
  have HHL := Lib.hid (ltHead_len ok)
  have hlen := ltL_len ok
  obtain ⟨L, hL⟩ : ∃ L, L = ltL x := ⟨_, rfl⟩
  rw [← hL] at hlen ⊢
  have HLL := Lib.hid (And.intro hL hlen)
  have HOK := Lib.hid ok
  have HK := Lib.hid hk
  obtain ⟨hd, hhd⟩ : ∃ hd, hd = ltHead x := ⟨_, rfl⟩
  have HHD := Lib.hid hhd
  obtain ⟨K, src, dst, mine, ser, H, rows, E, tm, sz, sm, ps, bts, wy⟩ := x
  obtain ⟨Ha, hn, hc, Ra, rn, rc, Ea, en, ec, Ba, bn, bc⟩ := v
  obtain ⟨l1, hl1⟩ : ∃ l, l = enc 1 := ⟨_, rfl⟩
  obtain ⟨l2, hl2⟩ : ∃ l, l = l1 ++ [b8 K] := ⟨_, rfl⟩
  obtain ⟨l3, hl3⟩ : ∃ l, l = l2 ++ enc src := ⟨_, rfl⟩
  obtain ⟨l4, hl4⟩ : ∃ l, l = l3 ++ enc dst := ⟨_, rfl⟩
  obtain ⟨mn, hmn⟩ : ∃ n : Nat, n = if mine then 1 else 0 := ⟨_, rfl⟩
  obtain ⟨l5, hl5⟩ : ∃ l, l = l4 ++ enc mn := ⟨_, rfl⟩
  have hK := ok.kind
  have hed := ok.ends
  have hser := ok.serial
  have htm := ok.time
  have hsz2 := ok.size
  simp only at hK hed hser htm hsz2
  have hl6 : hd = l5 ++ enc ser := by rw [hhd, hl5, hl4, hl3, hl2, hl1, hmn]; rfl
  have hlh := HHL.out
  rw [← hhd] at hlh
  have e6 := congrArg List.length hl6
  have e5 := congrArg List.length hl5
  have e4 := congrArg List.length hl4
  have e3 := congrArg List.length hl3
  have e2 := congrArg List.length hl2
  rw [List.length_append] at e2 e3 e4 e5 e6
  have L1 := Lib.hid (fun (W : World) => (by have := rlay none 0 [] 1 W (Sees.nil _ _) (by simp) (by omega); rw [List.nil_append, ← hl1] at this; exact this : Calls Tryd.prog 12 #[.slice none 0 0, .int .u64 1] W (GivesR W l1)))
  have L2 := Lib.hid (fun (W : World) A c (hs : Sees W A l2.length l2) => (by have := rlay A c l2 src W hs (by omega) (by omega); rw [← hl3] at this; exact this : Calls Tryd.prog 12 #[.slice A l2.length c, .int .u64 (src : Int)] W (GivesR W l3)))
  have L3 := Lib.hid (fun (W : World) A c (hs : Sees W A l3.length l3) => (by have := rlay A c l3 dst W hs (by omega) (by omega); rw [← hl4] at this; exact this : Calls Tryd.prog 12 #[.slice A l3.length c, .int .u64 (dst : Int)] W (GivesR W l4)))
  have L4 := Lib.hid (fun (W : World) A c (hs : Sees W A l4.length l4) => (by have := rlay A c l4 mn W hs (by omega) (by rw [hmn]; split <;> omega); rw [← hl5] at this; exact this : Calls Tryd.prog 12 #[.slice A l4.length c, .int .u64 (mn : Int)] W (GivesR W l5)))
  have L5 := Lib.hid (fun (W : World) A c (hs : Sees W A l5.length l5) => (by have := rlay A c l5 ser W hs (by omega) (by omega); rw [← hl6] at this; exact this : Calls Tryd.prog 12 #[.slice A l5.length c, .int .u64 (ser : Int)] W (GivesR W hd)))
  have CELLS := Lib.hid (fun (W : World) (hW : Below u.heap.size u W) => CELLS0.out W hW)
  simp only at CELLS
  have hws : IntKind.u64.wrap (src : Int) = (src : Int) := wrap_in src (by omega)
  have hwd : IntKind.u64.wrap (dst : Int) = (dst : Int) := wrap_in dst (by omega)
  have HL2 := Lib.hid hl2
  have HU := Lib.hid hu
  have HB := Lib.hid hB
  have HUS := Lib.hid hus
  have BU := Lib.hid bu
  have HMN := Lib.hid hmn
  have HE2 := Lib.hid (show l2.length = l1.length + 1 by rw [e2]; simp)
  have HLE := Lib.hid (show hd.length ≤ 60 ∧ l1.length ≤ 60 by omega)
  have hk8 : ((b8 K).toNat : Int) = (K : Int) := b8_int (by omega)
  have HK8 := Lib.hid hk8
  clear hl1 hl2 hl3 hl4 hl5 hl6 e2 e3 e4 e5 e6 hlh hu hB hus bu gB h ok hk hhd hL hlen hmn hk8 CELLS0
  unfold ltV at HU ⊢
  simp only at HU ⊢
  go_enter Tryd.func7, Tryd.ntmps7
  go_upto_region 1 with fail
  rw [← HU.out, ← HB.out]
  have HC := Lib.hid (fun (W : World) (hW : Below u.drew.heap.size u.drew W) => CELLS.out W ((Below.refl _ _).drew.trans hW))
  go_wp2_with fail
  refine Facts.wp_region_tail 4 (n := 134) (by kernel_rfl) (by kernel_rfl) (by kernel_rfl) rfl [POwnE (B + 1) (l1), Facts.Pred.is (.pointer (some ⟨B, 0, none⟩)), Facts.Pred.is (.int .u8 (K : Int)), PRowE ([b8 K])] ?_ ?_
  · refine ⟨?_, ?_, ?_, ?_, trivial⟩
    · refine Facts.step_call fun a W hR hold hnew => ?_
      refine ⟨Facts.wanted_free rfl, 12, #[.slice none 0 0, .int .u64 1], by simp [go_sem, Act.eval], ?_⟩
      refine (L1.out W).mono ?_
      rintro e w8 ⟨A8, c8, rfl, own8, hb8⟩
      exact ⟨_, rfl, hb8, A8, c8, rfl, Own.lower own8 (by have h1 := hR.size; have h2 := HUS.out; simp at h1; omega)⟩
    · refine Facts.step_is (.pointer (some ⟨B, 0, none⟩)) fun a W hR hold hnew => ?_
      have f1 : a.tmps.getD 1 undef = .pointer (some ⟨B, 0, none⟩) := hold 1 (by kernel_rfl)
      refine ⟨Facts.wanted_free rfl, ?_, fun _ => rfl⟩; simp [go_sem, Act.eval, f1]
    · refine Facts.step_is (.int .u8 (K : Int)) fun a W hR hold hnew => ?_
      have f8 : a.tmps.getD 8 undef = .pointer (some ⟨B, 0, none⟩) := hnew 1 8 (by kernel_rfl)
      have q := (HC.out W hR).1
      refine ⟨Facts.wanted_free rfl, ?_, fun _ => rfl⟩; simp [go_sem, Act.eval, f8, q]
    · refine Facts.step_new fun a W hR hold hnew => ?_
      have f9 : a.tmps.getD 9 undef = .int .u8 (K : Int) := hnew 2 9 (by kernel_rfl)
      rw [Array.getD_eq_getD_getElem?] at f9
      exact ⟨Facts.wanted_free rfl, .slice (some ⟨W.heap.size, 0, none⟩) 1 1, W.alloc (.cells #[.int .u8 (K : Int)] 5), by simp [go_sem, Act.eval, f9], (Below.refl _ _).alloc (Nat.le_refl _) _, _, _, rfl, Sees.fresh W _ _ _ HK8.out.symm⟩
  · intro a w1 hR' hsize hdef hnew hold
    have h7 : ∃ A' c', a.tmps.getD 7 undef = .slice A' (l1).length c' ∧ w1.ownsRow (B + 1) 5 1 (.slice A' (l1).length c') (l1).length (cs (l1)) := hnew 0 7 (by omega) (by kernel_rfl)
    obtain ⟨A7, c7, f7, s7⟩ := h7
    have h10 : ∃ A' c', a.tmps.getD 10 undef = .slice A' ([b8 K]).length c' ∧ Sees w1 A' ([b8 K]).length ([b8 K]) := hnew 3 10 (by omega) (by kernel_rfl)
    obtain ⟨A10, c10, f10, s10⟩ := h10
    have f1 : a.tmps.getD 1 undef = Value.pointer (some ⟨B, 0, none⟩) := hold 1 (fun i _ => Facts.not_dst (by kernel_rfl) i)
    have f2 : a.tmps.getD 2 undef = Value.slice none 0 0 := hold 2 (fun i _ => Facts.not_dst (by kernel_rfl) i)
    obtain ⟨tm, df⟩ := a
    simp only [] at hdef hsize f1 f2 f7 f10
    obtain ⟨xq, hxq, hlit⟩ := Facts.lits tm hsize Facts.idx134 Facts.idx134_eq
    rw [hxq] at f1 f2 f7 f10
    simp only [Facts.idx134, List.map_cons, List.map_nil, f1, f2, f7, f10] at hlit
    clear f1 f2 f7 f10 hsize hnew hold hxq
    subst hlit
    subst hdef
    try simp only []
    simp only [List.drop_succ_cons, List.drop_zero]
    have B1 := Lib.hid (((Below.refl _ _).drew.trans hR').mono (Nat.le_refl _) : Below u.heap.size u w1)
    have OW1 := Lib.hid s7
    have SE1 := Lib.hid s10
    clear hR' s7 s10
    go_wp2_with (first | (at_builtin; refine wpList_app rfl _ _ 27 rfl (B + 1) 5 i (.int .u8 0) Tryd.underlying27 hi hz hsz hby rfl A7 l1.length c7 l1 rfl OW1.out A10 1 c10 [b8 K] rfl ?s1 ?d1 ?d2 ?_))
    case s1 => exact SE1.out
    case d1 => have := HLE.out.2; simp; omega
    case d2 => have h1 := B1.out.size; have h2 := HUS.out; omega
    intro A6 c6 w6 own6 hb6
    rw [← HL2.out] at own6
    obtain ⟨N6, hN6⟩ : ∃ N6, N6 = l1.length + 1 := ⟨_, rfl⟩
    rw [← hN6] at own6 ⊢
    obtain rfl : N6 = l2.length := by rw [hN6, HE2.out]
    have S6 := Lib.hid (Sees.of_own own6)
    have B6 := Lib.hid (B1.out.trans (hb6.mono (by have h2 := HUS.out; omega)))
    clear own6 hb6 hN6 HC
    have c3 := (CELLS.out w6 B6.out).2.2.2.1
    go_upto_if 13 with fail
    go_cut [4] from 7 (fun s4 wx => s4 = .int .u64 (mn : Int) ∧ Hid (Sees wx A6 l2.length l2 ∧ Below u.heap.size u wx))
    case first =>
      cases mine <;> (go_wp2_with fail; go_meet; exact ⟨by rw [HMN.out]; rfl, Lib.hid (by first | exact ⟨S6.out, B6.out⟩ | exact ⟨S6.out.drew, B6.out.drew⟩)⟩)
    case rest =>
      obtain ⟨rfl, HX⟩ := hcut
      have HC := Lib.hid (fun (W : World) (hW : Below wc.drew.heap.size wc.drew W) => (⟨CELLS.out W (HX.out.2.trans (((Below.refl _ _).drew.trans hW).mono HX.out.2.size)), HX.out.1.below ((Below.refl _ _).drew.trans hW)⟩ : _ ∧ Sees W A6 l2.length l2))
      clear c3 S6 B6 B1 OW1 SE1
      go_wp2_with fail
      refine Facts.wp_region_preds (n := 134) (by kernel_rfl) (by kernel_rfl) rfl [Facts.Pred.is (.slice A6 l2.length c6), Facts.Pred.is (.pointer (some ⟨B, 1, none⟩)), Facts.Pred.is (.int .i64 (src : Int)), Facts.Pred.is (.int .u64 (src : Int)), PRowE (l3), Facts.Pred.is (.pointer (some ⟨B, 2, none⟩)), Facts.Pred.is (.int .i64 (dst : Int)), Facts.Pred.is (.int .u64 (dst : Int)), PRowE (l4), Facts.Pred.is (.int .u64 (mn : Int)), PRowE (l5), Facts.Pred.is (.pointer (some ⟨B, 4, none⟩)), Facts.Pred.is (.int .u64 (ser : Int)), PRowE (hd), PRowE (hd)] ?_ ?_
      · refine ⟨?_, ?_, ?_, ?_, ?_, ?_, ?_, ?_, ?_, ?_, ?_, ?_, ?_, ?_, ?_, trivial⟩
        · refine Facts.step_is (.slice A6 l2.length c6) fun a W hR hold hnew => ?_
          have f3 : a.tmps.getD 3 undef = .slice A6 l2.length c6 := hold 3 (by kernel_rfl)
          refine ⟨Facts.wanted_free rfl, ?_, fun _ => rfl⟩; simp [go_sem, Act.eval, f3]
        · refine Facts.step_is (.pointer (some ⟨B, 1, none⟩)) fun a W hR hold hnew => ?_
          have f1 : a.tmps.getD 1 undef = .pointer (some ⟨B, 0, none⟩) := hold 1 (by kernel_rfl)
          refine ⟨Facts.wanted_free rfl, ?_, fun _ => rfl⟩; simp [go_sem, Act.eval, f1]
        · refine Facts.step_is (.int .i64 (src : Int)) fun a W hR hold hnew => ?_
          have f15 : a.tmps.getD 15 undef = .pointer (some ⟨B, 1, none⟩) := hnew 1 15 (by kernel_rfl)
          have q := (HC.out W hR).1.2.1
          refine ⟨Facts.wanted_free rfl, ?_, fun _ => rfl⟩; simp [go_sem, Act.eval, f15, q]
        · refine Facts.step_is (.int .u64 (src : Int)) fun a W hR hold hnew => ?_
          have f16 : a.tmps.getD 16 undef = .int .i64 (src : Int) := hnew 2 16 (by kernel_rfl)
          refine ⟨Facts.wanted_free rfl, ?_, fun _ => rfl⟩; simp [go_sem, Act.eval, f16, hws]
        · refine Facts.step_call fun a W hR hold hnew => ?_
          have f14 : a.tmps.getD 14 undef = .slice A6 l2.length c6 := hnew 0 14 (by kernel_rfl)
          have f17 : a.tmps.getD 17 undef = .int .u64 (src : Int) := hnew 3 17 (by kernel_rfl)
          have q := (HC.out W hR).2
          refine ⟨Facts.wanted_free rfl, 12, #[.slice A6 l2.length c6, .int .u64 (src : Int)], by simp [go_sem, Act.eval, f14, f17], ?_⟩
          refine (L2.out W A6 c6 q).mono ?_
          rintro e w8 h8
          obtain ⟨A8, c8, rfl, own8, hb8⟩ := h8
          exact ⟨_, rfl, hb8, A8, c8, rfl, Sees.of_own own8⟩
        · refine Facts.step_is (.pointer (some ⟨B, 2, none⟩)) fun a W hR hold hnew => ?_
          have f1 : a.tmps.getD 1 undef = .pointer (some ⟨B, 0, none⟩) := hold 1 (by kernel_rfl)
          refine ⟨Facts.wanted_free rfl, ?_, fun _ => rfl⟩; simp [go_sem, Act.eval, f1]
        · refine Facts.step_is (.int .i64 (dst : Int)) fun a W hR hold hnew => ?_
          have f19 : a.tmps.getD 19 undef = .pointer (some ⟨B, 2, none⟩) := hnew 5 19 (by kernel_rfl)
          have q := (HC.out W hR).1.2.2.1
          refine ⟨Facts.wanted_free rfl, ?_, fun _ => rfl⟩; simp [go_sem, Act.eval, f19, q]
        · refine Facts.step_is (.int .u64 (dst : Int)) fun a W hR hold hnew => ?_
          have f20 : a.tmps.getD 20 undef = .int .i64 (dst : Int) := hnew 6 20 (by kernel_rfl)
          refine ⟨Facts.wanted_free rfl, ?_, fun _ => rfl⟩; simp [go_sem, Act.eval, f20, hwd]
        · refine Facts.step_call fun a W hR hold hnew => ?_
          have h18 : ∃ A' c', a.tmps.getD 18 undef = .slice A' (l3).length c' ∧ Sees W A' (l3).length (l3) := hnew 4 18 (by kernel_rfl)
          obtain ⟨A18, c18, f18, s18⟩ := h18
          have f21 : a.tmps.getD 21 undef = .int .u64 (dst : Int) := hnew 7 21 (by kernel_rfl)
          refine ⟨Facts.wanted_free rfl, 12, #[.slice A18 l3.length c18, .int .u64 (dst : Int)], by simp [go_sem, Act.eval, f18, f21], ?_⟩
          refine (L3.out W A18 c18 s18).mono ?_
          rintro e w8 h8
          obtain ⟨A8, c8, rfl, own8, hb8⟩ := h8
          exact ⟨_, rfl, hb8, A8, c8, rfl, Sees.of_own own8⟩
        · refine Facts.step_is (.int .u64 (mn : Int)) fun a W hR hold hnew => ?_
          have f4 : a.tmps.getD 4 undef = .int .u64 (mn : Int) := hold 4 (by kernel_rfl)
          refine ⟨Facts.wanted_free rfl, ?_, fun _ => rfl⟩; simp [go_sem, Act.eval, f4]
        · refine Facts.step_call fun a W hR hold hnew => ?_
          have h22 : ∃ A' c', a.tmps.getD 22 undef = .slice A' (l4).length c' ∧ Sees W A' (l4).length (l4) := hnew 8 22 (by kernel_rfl)
          obtain ⟨A22, c22, f22, s22⟩ := h22
          have f23 : a.tmps.getD 23 undef = .int .u64 (mn : Int) := hnew 9 23 (by kernel_rfl)
          refine ⟨Facts.wanted_free rfl, 12, #[.slice A22 l4.length c22, .int .u64 (mn : Int)], by simp [go_sem, Act.eval, f22, f23], ?_⟩
          refine (L4.out W A22 c22 s22).mono ?_
          rintro e w8 h8
          obtain ⟨A8, c8, rfl, own8, hb8⟩ := h8
          exact ⟨_, rfl, hb8, A8, c8, rfl, Sees.of_own own8⟩
        · refine Facts.step_is (.pointer (some ⟨B, 4, none⟩)) fun a W hR hold hnew => ?_
          have f1 : a.tmps.getD 1 undef = .pointer (some ⟨B, 0, none⟩) := hold 1 (by kernel_rfl)
          refine ⟨Facts.wanted_free rfl, ?_, fun _ => rfl⟩; simp [go_sem, Act.eval, f1]
        · refine Facts.step_is (.int .u64 (ser : Int)) fun a W hR hold hnew => ?_
          have f25 : a.tmps.getD 25 undef = .pointer (some ⟨B, 4, none⟩) := hnew 11 25 (by kernel_rfl)
          have q := (HC.out W hR).1.2.2.2.2.1
          refine ⟨Facts.wanted_free rfl, ?_, fun _ => rfl⟩; simp [go_sem, Act.eval, f25, q]
        · refine Facts.step_call fun a W hR hold hnew => ?_
          have h24 : ∃ A' c', a.tmps.getD 24 undef = .slice A' (l5).length c' ∧ Sees W A' (l5).length (l5) := hnew 10 24 (by kernel_rfl)
          obtain ⟨A24, c24, f24, s24⟩ := h24
          have f26 : a.tmps.getD 26 undef = .int .u64 (ser : Int) := hnew 12 26 (by kernel_rfl)
          refine ⟨Facts.wanted_free rfl, 12, #[.slice A24 l5.length c24, .int .u64 (ser : Int)], by simp [go_sem, Act.eval, f24, f26], ?_⟩
          refine (L5.out W A24 c24 s24).mono ?_
          rintro e w8 h8
          obtain ⟨A8, c8, rfl, own8, hb8⟩ := h8
          exact ⟨_, rfl, hb8, A8, c8, rfl, Sees.of_own own8⟩
        · refine Facts.step_some fun a W hR hold hnew => ?_
          have h27 : ∃ A' c', a.tmps.getD 27 undef = .slice A' (hd).length c' ∧ Sees W A' (hd).length (hd) := hnew 13 27 (by kernel_rfl)
          obtain ⟨A27, c27, f27, s27⟩ := h27
          exact ⟨Facts.wanted_free rfl, .slice A27 hd.length c27, by simp [go_sem, Act.eval, f27], A27, c27, rfl, s27⟩
      · intro a w9 hR' hsize hdef hnew hold
        have h3 : ∃ A' c', a.tmps.getD 3 undef = .slice A' (hd).length c' ∧ Sees w9 A' (hd).length (hd) := hnew 14 3 (by kernel_rfl)
        obtain ⟨A3, c3, f3, s3⟩ := h3
        have f1 : a.tmps.getD 1 undef = Value.pointer (some ⟨B, 0, none⟩) := hold 1 (Facts.not_dst (by kernel_rfl))
        have f2 : a.tmps.getD 2 undef = Value.slice none 0 0 := hold 2 (Facts.not_dst (by kernel_rfl))
        obtain ⟨tm, df⟩ := a
        simp only [] at hdef hsize f1 f2 f3
        obtain ⟨xq, hxq, hlit⟩ := Facts.lits tm hsize Facts.idx134 Facts.idx134_eq
        rw [hxq] at f1 f2 f3
        simp only [Facts.idx134, List.map_cons, List.map_nil, f1, f2, f3] at hlit
        clear f1 f2 f3 hsize hnew hold hxq
        subst hlit
        subst hdef
        try simp only []
        have B9 := Lib.hid (HX.out.2.trans (((Below.refl _ _).drew.trans hR').mono HX.out.2.size))
        have S9 := Lib.hid s3
        clear hR' s3 HC HX L1 L2 L3 L4 L5 hws hwd
        obtain ⟨k0, k1, k2, k3, k4, k5, k6, k7, k8, k9, k10, k11, k12, k13⟩ := CELLS.out w9 B9.out
        have AT9 := Lib.hid (HAT.out w9 B9.out)
        obtain rfl : K = 7 := HK.out
        have hwy : IntKind.u64.wrap (wy : Int) = (wy : Int) := wrap_in wy (by omega)
        have hR : L = hd ++ enc wy := by rw [HLL.out.1, HHD.out]; rfl
        have LL := Lib.hid (by have := rlay A3 c3 hd wy w9 S9.out (by have := HLE.out; omega) (by omega); rw [← hR] at this; exact this : Calls Tryd.prog 12 #[.slice A3 hd.length c3, .int .u64 (wy : Int)] w9 (GivesR w9 L))
        clear hR
        go_wp2_with fail
        refine LL.out.mono ?_
        rintro e w10 ⟨A10, c10, rfl, own10, hb10⟩
        have SW := Lib.hid (Sees.of_own own10)
        have BX := Lib.hid (BU.out.trans ((B9.out.trans (hb10.mono B9.out.size)).mono BU.out.size))
        clear own10 hb10 LL
        go_wp2_with fail
        refine (rwrap _ _ L _ SW.out (by have := HLL.out.2; omega)).mono ?_
        intro e w8 hg
        obtain ⟨A8, c8, rfl, own8, hb8⟩ := hg
        have FIN := Lib.hid (And.intro own8 hb8)
        clear own8 hb8
        go_wp2
        go_ret
        exact ⟨A8, c8, rfl, Own.lower FIN.out.1 (BX.out.size), BX.out.trans (FIN.out.2.mono BX.out.size)⟩
end Go.Proofs.YthdflbpmabcjlaaDoor.Lt
namespace Go.Proofs.YthdflbpmabcjlaaDoor.Lt
open Go Go.RowKit Go.Proofs.YthdflbpmabcjlaaDoor.Words Go.Proofs.YthdflbpmabcjlaaDoor.Enc Go.Proofs.YthdflbpmabcjlaaDoor.Evt Go.Proofs.YthdflbpmabcjlaaDoor.Made Go.Proofs.YthdflbpmabcjlaaDoor.Seg
set_option linter.unusedVariables false

theorem lay_any (w : World) (x : Lt) (v : Adr) (S : List EvS) (h : LtAt w x v S) (ok : Ok x) :
    Calls Tryd.prog 7 #[.agg (ltV x v)] w (GivesR w (wrap (ltL x))) := by
  have hk : x.kind = 1 ∨ x.kind = 2 ∨ x.kind = 3 ∨ x.kind = 4 ∨ x.kind = 5 ∨ x.kind = 6 ∨ x.kind = 7 := by have := ok.kind; omega
  rcases hk with hk | hk | hk | hk | hk | hk | hk
  · exact lay_k1 w x v S h ok hk
  · exact lay_k2 w x v S h ok hk
  · exact lay_k3 w x v S h ok hk
  · exact lay_k4 w x v S h ok hk
  · exact lay_k5 w x v S h ok hk
  · exact lay_k6 w x v S h ok hk
  · exact lay_k7 w x v S h ok hk
end Go.Proofs.YthdflbpmabcjlaaDoor.Lt
namespace Go.Proofs.YthdflbpmabcjlaaDoor.Lt
open Go Go.RowKit Go.Proofs.YthdflbpmabcjlaaDoor.Words Go.Proofs.YthdflbpmabcjlaaDoor.Enc Go.Proofs.YthdflbpmabcjlaaDoor.Evt Go.Proofs.YthdflbpmabcjlaaDoor.Made Go.Proofs.YthdflbpmabcjlaaDoor.Tape Go.Proofs.YthdflbpmabcjlaaDoor.Seg Go.Proofs.YthdflbpmabcjlaaDoor.Chk
set_option linter.unusedVariables false
set_option linter.unusedSimpArgs false

theorem Tk.bind_bad {α β : Type} {g : Tk α} {f : α → List UInt8 → Tk β} {E : Nat} (h : g.bind f = .bad E) : g = .bad E ∨ ∃ a r, g = .ok a r ∧ f a r = .bad E := by
  cases g with
  | bad F => cases h; exact .inl rfl
  | no => cases h
  | ok a r => exact .inr ⟨a, r, rfl, h⟩
theorem gT_bad {α : Type} {g : Got α} {E : Nat} (h : gT g = .bad E) : g = .bad E := by
  cases g with
  | bad F => cases h; rfl
  | ok b r1 => cases h
theorem numT_ne {m : Nat} {l : List UInt8} {E : Nat} (h : gT (numG m l) = .bad E) : E ≠ 0 := by
  have := Vec.numG_errs (gT_bad h)
  omega
theorem textT_ne {m : Nat} {l : List UInt8} {E : Nat} (h : gT (textG m l) = .bad E) : E ≠ 0 := by
  have := textG_errs (gT_bad h)
  omega
theorem vecT_ne {l : List UInt8} {E : Nat} (h : vecT l = .bad E) : E ≠ 0 := by
  rcases Tk.bind_bad h with h | ⟨v, r, -, h⟩
  · have := Vec.readG_errs (gT_bad h); omega
  · split at h <;> cases h
theorem rowsN_ne : ∀ (k : Nat) (l : List UInt8) (E : Nat), rowsN k l = .bad E → E ≠ 0
  | 0, l, E, h => by cases h
  | k + 1, l, E, h => by
    rcases Tk.bind_bad h with h | ⟨_, _, -, h⟩
    · exact numT_ne h
    rcases Tk.bind_bad h with h | ⟨_, _, -, h⟩
    · exact vecT_ne h
    rcases Tk.bind_bad h with h | ⟨_, _, -, h⟩
    · exact numT_ne h
    rcases Tk.bind_bad h with h | ⟨_, _, -, h⟩
    · exact rowsN_ne k _ _ h
    · cases h
theorem evsN_ne : ∀ (k : Nat) (l : List UInt8) (E : Nat), evsN k l = .bad E → E ≠ 0
  | 0, l, E, h => by cases h
  | k + 1, l, E, h => by
    rcases Tk.bind_bad h with h | ⟨T, _, -, h⟩
    · exact textT_ne h
    cases hd : decG T with
    | inl F => rw [hd] at h; cases h
    | inr e =>
      rw [hd] at h
      rcases Tk.bind_bad h with h | ⟨_, _, -, h⟩
      · exact evsN_ne k _ _ h
      · cases h
theorem fieldsT_ne {x : Lt} {l : List UInt8} {E : Nat} (h : fieldsT x l = .bad E) : E ≠ 0 := by
  unfold fieldsT at h
  split at h
  · rcases Tk.bind_bad h with h | ⟨_, _, -, h⟩
    · exact vecT_ne h
    rcases Tk.bind_bad h with h | ⟨_, _, -, h⟩
    · rcases Tk.bind_bad h with h | ⟨_, _, -, h⟩
      · exact numT_ne h
      · exact rowsN_ne _ _ _ h
    · cases h
  · split at h
    · rcases Tk.bind_bad h with h | ⟨_, _, -, h⟩
      · exact vecT_ne h
      rcases Tk.bind_bad h with h | ⟨_, _, -, h⟩
      · rcases Tk.bind_bad h with h | ⟨_, _, -, h⟩
        · exact numT_ne h
        · exact evsN_ne _ _ _ h
      · cases h
    · split at h
      · rcases Tk.bind_bad h with h | ⟨_, _, -, h⟩
        · exact vecT_ne h
        rcases Tk.bind_bad h with h | ⟨_, _, -, h⟩
        · exact numT_ne h
        rcases Tk.bind_bad h with h | ⟨_, _, -, h⟩
        · exact numT_ne h
        rcases Tk.bind_bad h with h | ⟨_, _, -, h⟩
        · exact numT_ne h
        · cases h
      · split at h
        · rcases Tk.bind_bad h with h | ⟨_, _, -, h⟩
          · exact numT_ne h
          rcases Tk.bind_bad h with h | ⟨_, _, -, h⟩
          · exact numT_ne h
          rcases Tk.bind_bad h with h | ⟨_, _, -, h⟩
          · exact textT_ne h
          · cases h
        · rcases Tk.bind_bad h with h | ⟨_, _, -, h⟩
          · exact numT_ne h
          · cases h
theorem takeT_ne {l : List UInt8} {E : Nat} (h : takeT l = .bad E) : E ≠ 0 := by
  unfold takeT at h
  match l, h with
  | [], h => cases h; omega
  | [b], h =>
    simp only [] at h
    split at h
    · cases h
    · cases h; omega
  | b :: k :: l2, h =>
    simp only [] at h
    split at h
    · cases h
    split at h
    · cases h
    rcases Tk.bind_bad h with h | ⟨_, _, -, h⟩
    · rcases Tk.bind_bad h with h | ⟨_, _, -, h⟩
      · exact numT_ne h
      rcases Tk.bind_bad h with h | ⟨_, _, -, h⟩
      · exact numT_ne h
      rcases Tk.bind_bad h with h | ⟨_, _, -, h⟩
      · exact numT_ne h
      rcases Tk.bind_bad h with h | ⟨_, _, -, h⟩
      · exact numT_ne h
      · cases h
    · exact fieldsT_ne h
theorem decL_ne {l : List UInt8} {E : Nat} (h : decL l = .inl E) : E ≠ 0 := by
  unfold decL at h
  split at h
  · rename_i h0; cases h; exact h0
  · split at h
    · cases h; omega
    · unfold endL at h
      cases ht : takeT (openL l 4194304).1 with
      | bad F => rw [ht] at h; cases h; exact takeT_ne ht
      | no => rw [ht] at h; cases h; omega
      | ok x r =>
        rw [ht] at h
        simp only [] at h
        split at h
        · cases h; omega
        · cases h
theorem open_small {l : List UInt8} (h0 : (openL l 4194304).2.2 = 0) : (openL l 4194304).1.length ≤ l.length := by
  obtain ⟨h1, h2, h3⟩ := opened_ok h0
  rw [wrap_length] at h3
  omega
theorem decL_ok {l : List UInt8} {x : Lt} (hl : l.length ≤ 1000) (h : decL l = .inr x) : l = wrap (ltL x) ∧ Ok x := by
  unfold decL at h
  split at h
  · cases h
  · rename_i h0
    have h0 : (openL l 4194304).2.2 = 0 := by omega
    split at h
    · cases h
    · rename_i h1
      obtain ⟨q1, q2, q3⟩ := opened_ok h0
      have q4 := open_small h0
      unfold endL at h
      cases ht : takeT (openL l 4194304).1 with
      | bad F => rw [ht] at h; cases h
      | no => rw [ht] at h; cases h
      | ok y r =>
        rw [ht] at h
        simp only [] at h
        split at h
        · cases h
        · rename_i hr
          cases h
          have hr2 : r = [] := by simpa using hr
          subst hr2
          obtain ⟨e1, ok⟩ := takeT_ok (by omega) ht
          rw [List.append_nil] at e1
          refine ⟨?_, ok⟩
          rw [← e1, q1, List.take_of_length_le (by omega)]
set_option maxRecDepth 100000 in
set_option maxHeartbeats 4000000 in
theorem junk_law (P : Option Addr) (pn pc : Nat) (p : List UInt8) (wr : Bool) (w : World) (TB : Tabs w) (hp : Sees w P pn p) (hpc : pn ≤ pc) (hpm : pc ≤ 9223372036854775807) :
    Calls Tryd.prog 4 #[.slice P pn pc, .bool wr] w fun e w' => e = .returned (.bool true) ∧ Below w.heap.size w w' := by
  have HTB := Lib.hid TB
  have HP := Lib.hid hp
  clear TB hp
  by_cases h1 : 500 < pn
  case pos =>
    have hd1 : (500 : Int) < (pn : Int) := by omega
    have hd2 : decide ((500 : Int) < (pn : Int)) = true := decide_eq_true hd1
    go_enter Tryd.func4, Tryd.ntmps4
    go_wp2_with fail
    refine (awakeLt_yes _ HTB.out).mono ?_
    rintro e u1 ⟨rfl, hb⟩
    have B1 := Lib.hid hb
    clear hb
    go_wp2_with fail
    refine (awakeLt_yes _ (HTB.out.below B1.out)).mono ?_
    rintro e u2 ⟨rfl, hb2⟩
    have B2 := Lib.hid (B1.out.trans (hb2.mono B1.out.size))
    clear hb2
    go_wp2
    go_ret
    exact ⟨rfl, B2.out⟩
  have hd1 : ¬ (500 : Int) < (pn : Int) := by omega
  have hd2 : decide ((500 : Int) < (pn : Int)) = false := decide_eq_false hd1
  go_enter Tryd.func4, Tryd.ntmps4
  go_wp2_with fail
  refine (awakeLt_yes _ HTB.out).mono ?_
  rintro e w1 ⟨rfl, hb⟩
  have B1 := Lib.hid hb
  have S1 := Lib.hid (HP.out.below hb)
  clear hb
  go_upto_if 15 with fail
  go_cut [0] from 5 (fun s0 wx => ∃ (A : Option Addr) (n c : Nat) (q : List UInt8), s0 = .slice A n c ∧ n ≤ c ∧ c ≤ 9223372036854775807 ∧ n ≤ 600 ∧ Hid (Sees wx A n q ∧ Below w.heap.size w wx))
  case first =>
    cases wr with
    | false =>
      go_wp2_with fail
      go_meet
      exact ⟨P, pn, pc, p, rfl, hpc, hpm, by omega, Lib.hid ⟨S1.out, B1.out⟩⟩
    | true =>
      have RW := Lib.hid (refWrap_any P pn pc p w1 S1.out (by omega))
      have hl := S1.out.1
      have he := enc_ten (n := pn) (by omega)
      obtain ⟨m, hm⟩ : ∃ m, m = (enc pn).length + pn + 4 := ⟨_, rfl⟩
      rw [← hm] at RW
      have hm6 : m ≤ 600 := by omega
      clear hl he hm
      go_wp2_with fail
      refine RW.out.mono ?_
      rintro e w2 ⟨A2, c2, rfl, own2, hb2⟩
      have hc2 := Own.cap own2
      have FIN := Lib.hid (And.intro (Sees.of_own own2) (B1.out.trans (hb2.mono B1.out.size)))
      clear own2 hb2 RW
      go_wp2_with fail
      go_meet
      exact ⟨A2, m, c2, _, rfl, hc2.1, hc2.2, hm6, FIN⟩
  case rest =>
    obtain ⟨A, n, c, q, rfl, hnc, hcm, hn6, HX⟩ := hcut
    clear hpc hpm h1 hd1 hd2 S1 B1 HP
    have hqn : q.length = n := HX.out.1.1
    have DC := decode_any A n c q wc (HTB.out.below HX.out.2) HX.out.1 hnc hcm (by omega) (fun h0 _ => by have := open_small h0; omega)
    have HQN := Lib.hid hqn
    clear hqn
    cases gd : decL q with
    | inl E =>
      rw [gd] at DC
      have hE : ((E : Int) != 0) = true := by have := decL_ne gd; rw [bne_iff_ne]; omega
      have NB := Lib.hid DC
      clear DC gd
      go_wp2_with fail
      refine NB.out.mono ?_
      rintro e w3 ⟨rfl, hb3⟩
      have B3 := Lib.hid (HX.out.2.trans (hb3.mono HX.out.2.size))
      have gz := heap_alloc_new w3 (.cells #[.int .u8 0, .int .i64 0, .int .i64 0, .bool false, .int .u64 0, .slice none 0 0, .slice none 0 0, .slice none 0 0, .int .u64 0, .int .u64 0, .int .u32 0, .int .u64 0, .slice none 0 0, .int .i64 0] 37)
      obtain ⟨c0, c1, c2, c3, c4, c5, c6, c7, c8, c9, c10, c11, c12, c13⟩ := box14 gz
      clear hb3 NB gz c1 c2 c3 c5 c6 c7 c8 c9 c10 c11 c12 c13
      go_wp2
      go_ret
      exact ⟨rfl, B3.out.alloc B3.out.size _⟩
    | inr x =>
      rw [gd] at DC
      obtain ⟨hql, ok⟩ := decL_ok (by rw [HQN.out]; omega) gd
      have NB := Lib.hid DC
      have HQL := Lib.hid hql
      have HOK := Lib.hid ok
      clear DC gd hql ok
      go_wp2_with fail
      refine NB.out.mono ?_
      rintro e w3 ⟨v, S, rfl, hat, hb3⟩
      have hal := (Below.refl w3.heap.size w3).alloc (Nat.le_refl _) (.cells #[.int .u8 0, .int .i64 0, .int .i64 0, .bool false, .int .u64 0, .slice none 0 0, .slice none 0 0, .slice none 0 0, .int .u64 0, .int .u64 0, .int .u32 0, .int .u64 0, .slice none 0 0, .int .i64 0] 37)
      have B3 := Lib.hid (HX.out.2.trans (hb3.mono HX.out.2.size))
      have S3 := Lib.hid (HX.out.1.below hb3)
      have AT3 := Lib.hid hat
      clear hb3 NB hat
      go_wp2_with (first
        | (refine wpList_putRow rfl 37 (.tmp 5) (.tmp 21) rfl w3.heap.size 37 #[.int .u8 0, .int .i64 0, .int .i64 0, .bool false, .int .u64 0, .slice none 0 0, .slice none 0 0, .slice none 0 0, .int .u64 0, .int .u64 0, .int .u32 0, .int .u64 0, .slice none 0 0, .int .i64 0] (ltV x v) rfl rfl ?g7 (by kernel_rfl) rfl (by simp [ltV, Value.oneCell']) ?_))
      case g7 => exact heap_alloc_new w3 _
      intro w4 hb4 hbe4
      have hb34 : Below w3.heap.size w3 w4 := Below.beside hal hbe4 (by simp) (by simp)
      have B4 := Lib.hid (B3.out.trans (hb34.mono B3.out.size))
      have S4 := Lib.hid (S3.out.below hb34)
      have AT4 := Lib.hid (AT3.out.below hb34)
      have GB4 := Lib.hid hb4
      have hlt4 := (Array.getElem?_eq_some_iff.1 hb4).1
      clear hal hb4 hbe4 hb34 AT3 S3 B3
      go_wp2_with fail
      obtain ⟨bx, hbx⟩ : ∃ bx, bx = w3.heap.size := ⟨_, rfl⟩
      rw [← hbx] at GB4 hlt4 ⊢
      clear hbx
      obtain ⟨s, hs⟩ : ∃ s : ByteArray, s = ⟨q.toArray⟩ := ⟨_, rfl⟩
      have HS := Lib.hid hs
      have HC := Lib.hid (fun (W : World) (hW : Below w4.drew.heap.size w4.drew W) => (⟨lt_cells ((((Below.refl _ _).drew.trans hW).block bx hlt4).trans GB4.out), S4.out.below ((Below.refl _ _).drew.trans hW)⟩ : _ ∧ Sees W A n q))
      have LY := Lib.hid (fun (W : World) (hW : Below w4.drew.heap.size w4.drew W) => (by
        have := lay_any W x v S (AT4.out.below ((Below.refl _ _).drew.trans hW)) HOK.out
        rw [← HQL.out] at this
        exact this : Calls Tryd.prog 7 #[.agg (ltV x v)] W (GivesR W q)))
      clear hs hlt4
      refine Facts.wp_region_preds (n := 39) (by kernel_rfl) (by kernel_rfl) rfl [Facts.Pred.is (.agg (ltV x v)), PRowE (q), Facts.Pred.is (.string s), Facts.Pred.is (.slice A n c), Facts.Pred.is (.string s), Facts.Pred.is (.bool true), Facts.Pred.is (.bool true)] ?_ ?_
      · refine ⟨?_, ?_, ?_, ?_, ?_, ?_, ?_, trivial⟩
        · refine Facts.step_is (.agg (ltV x v)) fun a W hR hold hnew => ?_
          have f5 : a.tmps.getD 5 undef = .pointer (some ⟨bx, 0, none⟩) := hold 5 (by kernel_rfl)
          obtain ⟨c0, c1, c2, c3, c4, c5, c6, c7, c8, c9, c10, c11, c12, c13⟩ := (HC.out W hR).1
          refine ⟨Facts.wanted_free rfl, ?_, fun _ => rfl⟩; simp [go_sem, Act.eval, f5, c0, c1, c2, c3, c4, c5, c6, c7, c8, c9, c10, c11, c12, c13, ltV]
        · refine Facts.step_call fun a W hR hold hnew => ?_
          have f33 : a.tmps.getD 33 undef = .agg (ltV x v) := hnew 0 33 (by kernel_rfl)
          refine ⟨Facts.wanted_free rfl, 7, #[.agg (ltV x v)], by simp [go_sem, Act.eval, f33], ?_⟩
          refine (LY.out W hR).mono ?_
          rintro e w8 h8
          obtain ⟨A8, c8, rfl, own8, hb8⟩ := h8
          exact ⟨_, rfl, hb8, A8, c8, rfl, Sees.of_own own8⟩
        · refine Facts.step_is (.string s) fun a W hR hold hnew => ?_
          have h34 : ∃ A' c', a.tmps.getD 34 undef = .slice A' (q).length c' ∧ Sees W A' (q).length (q) := hnew 1 34 (by kernel_rfl)
          obtain ⟨A34, c34, f34, s34⟩ := h34
          have q1 : (convert 27 9 (.slice A34 q.length c34)).run Tryd.prog W = .ok (.string s) W := by rw [HS.out]; exact s34.string c34 Tryd.underlying27 Tryd.underlying5 Tryd.underlying9
          refine ⟨Facts.wanted_free rfl, ?_, fun _ => rfl⟩; simp [go_sem, Act.eval, f34, q1]
        · refine Facts.step_is (.slice A n c) fun a W hR hold hnew => ?_
          have f0 : a.tmps.getD 0 undef = .slice A n c := hold 0 (by kernel_rfl)
          refine ⟨Facts.wanted_free rfl, ?_, fun _ => rfl⟩; simp [go_sem, Act.eval, f0]
        · refine Facts.step_is (.string s) fun a W hR hold hnew => ?_
          have f36 : a.tmps.getD 36 undef = .slice A n c := hnew 3 36 (by kernel_rfl)
          have q1 : (convert 27 9 (.slice A n c)).run Tryd.prog W = .ok (.string s) W := by rw [HS.out]; exact (HC.out W hR).2.string c Tryd.underlying27 Tryd.underlying5 Tryd.underlying9
          refine ⟨Facts.wanted_free rfl, ?_, fun _ => rfl⟩; simp [go_sem, Act.eval, f36, q1]
        · refine Facts.step_is (.bool true) fun a W hR hold hnew => ?_
          have f35 : a.tmps.getD 35 undef = .string s := hnew 2 35 (by kernel_rfl)
          have f37 : a.tmps.getD 37 undef = .string s := hnew 4 37 (by kernel_rfl)
          refine ⟨Facts.wanted_free rfl, ?_, fun _ => rfl⟩; simp [go_sem, Act.eval, f35, f37]
        · refine Facts.step_is (.bool true) fun a W hR hold hnew => ?_
          have f38 : a.tmps.getD 38 undef = .bool true := hnew 5 38 (by kernel_rfl)
          refine ⟨Facts.wanted_free rfl, ?_, fun _ => rfl⟩; simp [go_sem, Act.eval, f38]
      · intro a w5 hR' hsize hdef hnew hold
        have f4 : a.tmps.getD 4 undef = .bool true := hnew 6 4 (by kernel_rfl)
        have f5 : a.tmps.getD 5 undef = Value.pointer (some ⟨bx, 0, none⟩) := hold 5 (Facts.not_dst (by kernel_rfl))
        obtain ⟨tm, df⟩ := a
        simp only [] at hdef hsize f5 f4
        obtain ⟨xq, hxq, hlit⟩ := Facts.lits tm hsize Facts.idx39 Facts.idx39_eq
        rw [hxq] at f5 f4
        simp only [Facts.idx39, List.map_cons, List.map_nil, f5, f4] at hlit
        clear f5 f4 hsize hnew hold hxq
        subst hlit
        subst hdef
        try simp only []
        have FIN := Lib.hid (B4.out.trans (((Below.refl _ _).drew.trans hR').mono B4.out.size))
        clear hR' HC LY
        go_wp2
        go_ret
        exact ⟨rfl, FIN.out⟩
end Go.Proofs.YthdflbpmabcjlaaDoor.Lt
