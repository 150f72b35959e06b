/- Layer 16: the law's lay, kind 6. Layer 16: the law's lay, of any letter. Layer 16: package letter's takeFields: how it stands. Layer 16: package letter's takeFields, kind 7. -/
import Derived.Deep.Cut
import Derived.Test.YthdflbpmabcjlaaDoorLTp12
import Derived.Test.YthdflbpmabcjlaaDoorLTp15
import Derived.Test.YthdflbpmabcjlaaDoorLTp16
import Derived.Test.YthdflbpmabcjlaaDoorLTp20
import Derived.Test.YthdflbpmabcjlaaDoorLTp21
import Derived.Test.YthdflbpmabcjlaaDoorLTp22
import Derived.Test.YthdflbpmabcjlaaDoorLTp23
import Derived.Test.YthdflbpmabcjlaaDoorLTp24
namespace Go.Proofs.YthdflbpmabcjlaaDoor.Lt
open Go Go.RowKit Go.Proofs.YthdflbpmabcjlaaDoor.Words Go.Proofs.YthdflbpmabcjlaaDoor.Enc Go.Proofs.YthdflbpmabcjlaaDoor.Evt Go.Proofs.YthdflbpmabcjlaaDoor.Made Go.Proofs.YthdflbpmabcjlaaDoor.Seg
set_option linter.unusedVariables false
set_option linter.unusedSimpArgs false

set_option maxRecDepth 100000 in
set_option maxHeartbeats 4000000 in
theorem lay_k6 (w : World) (x : Lt) (v : Adr) (S : List EvS) (h : LtAt w x v S) (ok : Ok x) (hk : x.kind = 6) :
    Calls Tryd.prog 7 #[.agg (ltV x v)] w (GivesR w (wrap (ltL x))) := by
  obtain ⟨i, hi, hz, hsz, hby⟩ := info_parts info8
  obtain ⟨B, hB⟩ : ∃ B, B = w.heap.size := ⟨_, rfl⟩
  obtain ⟨u, hu⟩ : ∃ u, u = w.alloc (.cells (ltV x v) 37) := ⟨_, rfl⟩
  have bu : Below w.heap.size w u := by rw [hu]; exact (Below.refl _ _).alloc (Nat.le_refl _) _
  have hus : u.heap.size = B + 1 := by rw [hu, hB]; simp
  have gB : u.heap[B]? = some (.cells (ltV x v) 37 (0, 0)) := by rw [hu, hB]; exact heap_alloc_new w _
  have CELLS0 := Lib.hid (fun (W : World) (hW : Below u.heap.size u W) => lt_cells ((hW.block B (by omega)).trans gB))
  have HAT := Lib.hid (fun (W : World) (hW : Below u.heap.size u W) => (h.below bu).below hW)
  have HHL := Lib.hid (ltHead_len ok)
  have hlen := ltL_len ok
  obtain ⟨L, hL⟩ : ∃ L, L = ltL x := ⟨_, rfl⟩
  rw [← hL] at hlen ⊢
  have HLL := Lib.hid (And.intro hL hlen)
  have HOK := Lib.hid ok
  have HK := Lib.hid hk
  obtain ⟨hd, hhd⟩ : ∃ hd, hd = ltHead x := ⟨_, rfl⟩
  have HHD := Lib.hid hhd
  obtain ⟨K, src, dst, mine, ser, H, rows, E, tm, sz, sm, ps, bts, wy⟩ := x
  obtain ⟨Ha, hn, hc, Ra, rn, rc, Ea, en, ec, Ba, bn, bc⟩ := v
  obtain ⟨l1, hl1⟩ : ∃ l, l = enc 1 := ⟨_, rfl⟩
  obtain ⟨l2, hl2⟩ : ∃ l, l = l1 ++ [b8 K] := ⟨_, rfl⟩
  obtain ⟨l3, hl3⟩ : ∃ l, l = l2 ++ enc src := ⟨_, rfl⟩
  obtain ⟨l4, hl4⟩ : ∃ l, l = l3 ++ enc dst := ⟨_, rfl⟩
  obtain ⟨mn, hmn⟩ : ∃ n : Nat, n = if mine then 1 else 0 := ⟨_, rfl⟩
  obtain ⟨l5, hl5⟩ : ∃ l, l = l4 ++ enc mn := ⟨_, rfl⟩
  have hK := ok.kind
  have hed := ok.ends
  have hser := ok.serial
  have htm := ok.time
  have hsz2 := ok.size
  simp only at hK hed hser htm hsz2
  have hl6 : hd = l5 ++ enc ser := by rw [hhd, hl5, hl4, hl3, hl2, hl1, hmn]; rfl
  have hlh := HHL.out
  rw [← hhd] at hlh
  have e6 := congrArg List.length hl6
  have e5 := congrArg List.length hl5
  have e4 := congrArg List.length hl4
  have e3 := congrArg List.length hl3
  have e2 := congrArg List.length hl2
  rw [List.length_append] at e2 e3 e4 e5 e6
  have L1 := Lib.hid (fun (W : World) => (by have := rlay none 0 [] 1 W (Sees.nil _ _) (by simp) (by omega); rw [List.nil_append, ← hl1] at this; exact this : Calls Tryd.prog 12 #[.slice none 0 0, .int .u64 1] W (GivesR W l1)))
  have L2 := Lib.hid (fun (W : World) A c (hs : Sees W A l2.length l2) => (by have := rlay A c l2 src W hs (by omega) (by omega); rw [← hl3] at this; exact this : Calls Tryd.prog 12 #[.slice A l2.length c, .int .u64 (src : Int)] W (GivesR W l3)))
  have L3 := Lib.hid (fun (W : World) A c (hs : Sees W A l3.length l3) => (by have := rlay A c l3 dst W hs (by omega) (by omega); rw [← hl4] at this; exact this : Calls Tryd.prog 12 #[.slice A l3.length c, .int .u64 (dst : Int)] W (GivesR W l4)))
  have L4 := Lib.hid (fun (W : World) A c (hs : Sees W A l4.length l4) => (by have := rlay A c l4 mn W hs (by omega) (by rw [hmn]; split <;> omega); rw [← hl5] at this; exact this : Calls Tryd.prog 12 #[.slice A l4.length c, .int .u64 (mn : Int)] W (GivesR W l5)))
  have L5 := Lib.hid (fun (W : World) A c (hs : Sees W A l5.length l5) => (by have := rlay A c l5 ser W hs (by omega) (by omega); rw [← hl6] at this; exact this : Calls Tryd.prog 12 #[.slice A l5.length c, .int .u64 (ser : Int)] W (GivesR W hd)))
  have CELLS := Lib.hid (fun (W : World) (hW : Below u.heap.size u W) => CELLS0.out W hW)
  simp only at CELLS
  have hws : IntKind.u64.wrap (src : Int) = (src : Int) := wrap_in src (by omega)
  have hwd : IntKind.u64.wrap (dst : Int) = (dst : Int) := wrap_in dst (by omega)
  have HL2 := Lib.hid hl2
  have HU := Lib.hid hu
  have HB := Lib.hid hB
  have HUS := Lib.hid hus
  have BU := Lib.hid bu
  have HMN := Lib.hid hmn
  have HE2 := Lib.hid (show l2.length = l1.length + 1 by rw [e2]; simp)
  have HLE := Lib.hid (show hd.length ≤ 60 ∧ l1.length ≤ 60 by omega)
  have hk8 : ((b8 K).toNat : Int) = (K : Int) := b8_int (by omega)
  have HK8 := Lib.hid hk8
  clear hl1 hl2 hl3 hl4 hl5 hl6 e2 e3 e4 e5 e6 hlh hu hB hus bu gB h ok hk hhd hL hlen hmn hk8 CELLS0
  unfold ltV at HU ⊢
  simp only at HU ⊢
  go_enter Tryd.func7, Tryd.ntmps7
  go_upto_region 1 with fail
  rw [← HU.out, ← HB.out]
  have HC := Lib.hid (fun (W : World) (hW : Below u.drew.heap.size u.drew W) => CELLS.out W ((Below.refl _ _).drew.trans hW))
  go_wp2_with fail
  refine Facts.wp_region_tail 4 (n := 134) (by kernel_rfl) (by kernel_rfl) (by kernel_rfl) rfl [POwnE (B + 1) (l1), Facts.Pred.is (.pointer (some ⟨B, 0, none⟩)), Facts.Pred.is (.int .u8 (K : Int)), PRowE ([b8 K])] ?_ ?_
  · refine ⟨?_, ?_, ?_, ?_, trivial⟩
    · refine Facts.step_call fun a W hR hold hnew => ?_
      refine ⟨Facts.wanted_free rfl, 12, #[.slice none 0 0, .int .u64 1], by simp [go_sem, Act.eval], ?_⟩
      refine (L1.out W).mono ?_
      rintro e w8 ⟨A8, c8, rfl, own8, hb8⟩
      exact ⟨_, rfl, hb8, A8, c8, rfl, Own.lower own8 (by have h1 := hR.size; have h2 := HUS.out; simp at h1; omega)⟩
    · refine Facts.step_is (.pointer (some ⟨B, 0, none⟩)) fun a W hR hold hnew => ?_
      have f1 : a.tmps.getD 1 undef = .pointer (some ⟨B, 0, none⟩) := hold 1 (by kernel_rfl)
      refine ⟨Facts.wanted_free rfl, ?_, fun _ => rfl⟩; simp [go_sem, Act.eval, f1]
    · refine Facts.step_is (.int .u8 (K : Int)) fun a W hR hold hnew => ?_
      have f8 : a.tmps.getD 8 undef = .pointer (some ⟨B, 0, none⟩) := hnew 1 8 (by kernel_rfl)
      have q := (HC.out W hR).1
      refine ⟨Facts.wanted_free rfl, ?_, fun _ => rfl⟩; simp [go_sem, Act.eval, f8, q]
    · refine Facts.step_new fun a W hR hold hnew => ?_
      have f9 : a.tmps.getD 9 undef = .int .u8 (K : Int) := hnew 2 9 (by kernel_rfl)
      rw [Array.getD_eq_getD_getElem?] at f9
      exact ⟨Facts.wanted_free rfl, .slice (some ⟨W.heap.size, 0, none⟩) 1 1, W.alloc (.cells #[.int .u8 (K : Int)] 5), by simp [go_sem, Act.eval, f9], (Below.refl _ _).alloc (Nat.le_refl _) _, _, _, rfl, Sees.fresh W _ _ _ HK8.out.symm⟩
  · intro a w1 hR' hsize hdef hnew hold
    have h7 : ∃ A' c', a.tmps.getD 7 undef = .slice A' (l1).length c' ∧ w1.ownsRow (B + 1) 5 1 (.slice A' (l1).length c') (l1).length (cs (l1)) := hnew 0 7 (by omega) (by kernel_rfl)
    obtain ⟨A7, c7, f7, s7⟩ := h7
    have h10 : ∃ A' c', a.tmps.getD 10 undef = .slice A' ([b8 K]).length c' ∧ Sees w1 A' ([b8 K]).length ([b8 K]) := hnew 3 10 (by omega) (by kernel_rfl)
    obtain ⟨A10, c10, f10, s10⟩ := h10
    have f1 : a.tmps.getD 1 undef = Value.pointer (some ⟨B, 0, none⟩) := hold 1 (fun i _ => Facts.not_dst (by kernel_rfl) i)
    have f2 : a.tmps.getD 2 undef = Value.slice none 0 0 := hold 2 (fun i _ => Facts.not_dst (by kernel_rfl) i)
    obtain ⟨tm, df⟩ := a
    simp only [] at hdef hsize f1 f2 f7 f10
    obtain ⟨xq, hxq, hlit⟩ := Facts.lits tm hsize Facts.idx134 Facts.idx134_eq
    rw [hxq] at f1 f2 f7 f10
    simp only [Facts.idx134, List.map_cons, List.map_nil, f1, f2, f7, f10] at hlit
    clear f1 f2 f7 f10 hsize hnew hold hxq
    subst hlit
    subst hdef
    try simp only []
    simp only [List.drop_succ_cons, List.drop_zero]
    have B1 := Lib.hid (((Below.refl _ _).drew.trans hR').mono (Nat.le_refl _) : Below u.heap.size u w1)
    have OW1 := Lib.hid s7
    have SE1 := Lib.hid s10
    clear hR' s7 s10
    go_wp2_with (first | (at_builtin; refine wpList_app rfl _ _ 27 rfl (B + 1) 5 i (.int .u8 0) Tryd.underlying27 hi hz hsz hby rfl A7 l1.length c7 l1 rfl OW1.out A10 1 c10 [b8 K] rfl ?s1 ?d1 ?d2 ?_))
    case s1 => exact SE1.out
    case d1 => have := HLE.out.2; simp; omega
    case d2 => have h1 := B1.out.size; have h2 := HUS.out; omega
    intro A6 c6 w6 own6 hb6
    rw [← HL2.out] at own6
    obtain ⟨N6, hN6⟩ : ∃ N6, N6 = l1.length + 1 := ⟨_, rfl⟩
    rw [← hN6] at own6 ⊢
    obtain rfl : N6 = l2.length := by rw [hN6, HE2.out]
    have S6 := Lib.hid (Sees.of_own own6)
    have B6 := Lib.hid (B1.out.trans (hb6.mono (by have h2 := HUS.out; omega)))
    clear own6 hb6 hN6 HC
    have c3 := (CELLS.out w6 B6.out).2.2.2.1
    go_upto_if 13 with fail
    go_cut [4] from 7 (fun s4 wx => s4 = .int .u64 (mn : Int) ∧ Hid (Sees wx A6 l2.length l2 ∧ Below u.heap.size u wx))
    case first =>
      cases mine <;> (go_wp2_with fail; go_meet; exact ⟨by rw [HMN.out]; rfl, Lib.hid (by first | exact ⟨S6.out, B6.out⟩ | exact ⟨S6.out.drew, B6.out.drew⟩)⟩)
    case rest =>
      obtain ⟨rfl, HX⟩ := hcut
      have HC := Lib.hid (fun (W : World) (hW : Below wc.drew.heap.size wc.drew W) => (⟨CELLS.out W (HX.out.2.trans (((Below.refl _ _).drew.trans hW).mono HX.out.2.size)), HX.out.1.below ((Below.refl _ _).drew.trans hW)⟩ : _ ∧ Sees W A6 l2.length l2))
      clear c3 S6 B6 B1 OW1 SE1
      go_wp2_with fail
      refine Facts.wp_region_preds (n := 134) (by kernel_rfl) (by kernel_rfl) rfl [Facts.Pred.is (.slice A6 l2.length c6), Facts.Pred.is (.pointer (some ⟨B, 1, none⟩)), Facts.Pred.is (.int .i64 (src : Int)), Facts.Pred.is (.int .u64 (src : Int)), PRowE (l3), Facts.Pred.is (.pointer (some ⟨B, 2, none⟩)), Facts.Pred.is (.int .i64 (dst : Int)), Facts.Pred.is (.int .u64 (dst : Int)), PRowE (l4), Facts.Pred.is (.int .u64 (mn : Int)), PRowE (l5), Facts.Pred.is (.pointer (some ⟨B, 4, none⟩)), Facts.Pred.is (.int .u64 (ser : Int)), PRowE (hd), PRowE (hd)] ?_ ?_
      · refine ⟨?_, ?_, ?_, ?_, ?_, ?_, ?_, ?_, ?_, ?_, ?_, ?_, ?_, ?_, ?_, trivial⟩
        · refine Facts.step_is (.slice A6 l2.length c6) fun a W hR hold hnew => ?_
          have f3 : a.tmps.getD 3 undef = .slice A6 l2.length c6 := hold 3 (by kernel_rfl)
          refine ⟨Facts.wanted_free rfl, ?_, fun _ => rfl⟩; simp [go_sem, Act.eval, f3]
        · refine Facts.step_is (.pointer (some ⟨B, 1, none⟩)) fun a W hR hold hnew => ?_
          have f1 : a.tmps.getD 1 undef = .pointer (some ⟨B, 0, none⟩) := hold 1 (by kernel_rfl)
          refine ⟨Facts.wanted_free rfl, ?_, fun _ => rfl⟩; simp [go_sem, Act.eval, f1]
        · refine Facts.step_is (.int .i64 (src : Int)) fun a W hR hold hnew => ?_
          have f15 : a.tmps.getD 15 undef = .pointer (some ⟨B, 1, none⟩) := hnew 1 15 (by kernel_rfl)
          have q := (HC.out W hR).1.2.1
          refine ⟨Facts.wanted_free rfl, ?_, fun _ => rfl⟩; simp [go_sem, Act.eval, f15, q]
        · refine Facts.step_is (.int .u64 (src : Int)) fun a W hR hold hnew => ?_
          have f16 : a.tmps.getD 16 undef = .int .i64 (src : Int) := hnew 2 16 (by kernel_rfl)
          refine ⟨Facts.wanted_free rfl, ?_, fun _ => rfl⟩; simp [go_sem, Act.eval, f16, hws]
        · refine Facts.step_call fun a W hR hold hnew => ?_
          have f14 : a.tmps.getD 14 undef = .slice A6 l2.length c6 := hnew 0 14 (by kernel_rfl)
          have f17 : a.tmps.getD 17 undef = .int .u64 (src : Int) := hnew 3 17 (by kernel_rfl)
          have q := (HC.out W hR).2
          refine ⟨Facts.wanted_free rfl, 12, #[.slice A6 l2.length c6, .int .u64 (src : Int)], by simp [go_sem, Act.eval, f14, f17], ?_⟩
          refine (L2.out W A6 c6 q).mono ?_
          rintro e w8 h8
          obtain ⟨A8, c8, rfl, own8, hb8⟩ := h8
          exact ⟨_, rfl, hb8, A8, c8, rfl, Sees.of_own own8⟩
        · refine Facts.step_is (.pointer (some ⟨B, 2, none⟩)) fun a W hR hold hnew => ?_
          have f1 : a.tmps.getD 1 undef = .pointer (some ⟨B, 0, none⟩) := hold 1 (by kernel_rfl)
          refine ⟨Facts.wanted_free rfl, ?_, fun _ => rfl⟩; simp [go_sem, Act.eval, f1]
        · refine Facts.step_is (.int .i64 (dst : Int)) fun a W hR hold hnew => ?_
          have f19 : a.tmps.getD 19 undef = .pointer (some ⟨B, 2, none⟩) := hnew 5 19 (by kernel_rfl)
          have q := (HC.out W hR).1.2.2.1
          refine ⟨Facts.wanted_free rfl, ?_, fun _ => rfl⟩; simp [go_sem, Act.eval, f19, q]
        · refine Facts.step_is (.int .u64 (dst : Int)) fun a W hR hold hnew => ?_
          have f20 : a.tmps.getD 20 undef = .int .i64 (dst : Int) := hnew 6 20 (by kernel_rfl)
          refine ⟨Facts.wanted_free rfl, ?_, fun _ => rfl⟩; simp [go_sem, Act.eval, f20, hwd]
        · refine Facts.step_call fun a W hR hold hnew => ?_
          have h18 : ∃ A' c', a.tmps.getD 18 undef = .slice A' (l3).length c' ∧ Sees W A' (l3).length (l3) := hnew 4 18 (by kernel_rfl)
          obtain ⟨A18, c18, f18, s18⟩ := h18
          have f21 : a.tmps.getD 21 undef = .int .u64 (dst : Int) := hnew 7 21 (by kernel_rfl)
          refine ⟨Facts.wanted_free rfl, 12, #[.slice A18 l3.length c18, .int .u64 (dst : Int)], by simp [go_sem, Act.eval, f18, f21], ?_⟩
          refine (L3.out W A18 c18 s18).mono ?_
          rintro e w8 h8
          obtain ⟨A8, c8, rfl, own8, hb8⟩ := h8
          exact ⟨_, rfl, hb8, A8, c8, rfl, Sees.of_own own8⟩
        · refine Facts.step_is (.int .u64 (mn : Int)) fun a W hR hold hnew => ?_
          have f4 : a.tmps.getD 4 undef = .int .u64 (mn : Int) := hold 4 (by kernel_rfl)
          refine ⟨Facts.wanted_free rfl, ?_, fun _ => rfl⟩; simp [go_sem, Act.eval, f4]
        · refine Facts.step_call fun a W hR hold hnew => ?_
          have h22 : ∃ A' c', a.tmps.getD 22 undef = .slice A' (l4).length c' ∧ Sees W A' (l4).length (l4) := hnew 8 22 (by kernel_rfl)
          obtain ⟨A22, c22, f22, s22⟩ := h22
          have f23 : a.tmps.getD 23 undef = .int .u64 (mn : Int) := hnew 9 23 (by kernel_rfl)
          refine ⟨Facts.wanted_free rfl, 12, #[.slice A22 l4.length c22, .int .u64 (mn : Int)], by simp [go_sem, Act.eval, f22, f23], ?_⟩
          refine (L4.out W A22 c22 s22).mono ?_
          rintro e w8 h8
          obtain ⟨A8, c8, rfl, own8, hb8⟩ := h8
          exact ⟨_, rfl, hb8, A8, c8, rfl, Sees.of_own own8⟩
        · refine Facts.step_is (.pointer (some ⟨B, 4, none⟩)) fun a W hR hold hnew => ?_
          have f1 : a.tmps.getD 1 undef = .pointer (some ⟨B, 0, none⟩) := hold 1 (by kernel_rfl)
          refine ⟨Facts.wanted_free rfl, ?_, fun _ => rfl⟩; simp [go_sem, Act.eval, f1]
        · refine Facts.step_is (.int .u64 (ser : Int)) fun a W hR hold hnew => ?_
          have f25 : a.tmps.getD 25 undef = .pointer (some ⟨B, 4, none⟩) := hnew 11 25 (by kernel_rfl)
          have q := (HC.out W hR).1.2.2.2.2.1
          refine ⟨Facts.wanted_free rfl, ?_, fun _ => rfl⟩; simp [go_sem, Act.eval, f25, q]
        · refine Facts.step_call fun a W hR hold hnew => ?_
          have h24 : ∃ A' c', a.tmps.getD 24 undef = .slice A' (l5).length c' ∧ Sees W A' (l5).length (l5) := hnew 10 24 (by kernel_rfl)
          obtain ⟨A24, c24, f24, s24⟩ := h24
          have f26 : a.tmps.getD 26 undef = .int .u64 (ser : Int) := hnew 12 26 (by kernel_rfl)
          refine ⟨Facts.wanted_free rfl, 12, #[.slice A24 l5.length c24, .int .u64 (ser : Int)], by simp [go_sem, Act.eval, f24, f26], ?_⟩
          refine (L5.out W A24 c24 s24).mono ?_
          rintro e w8 h8
          obtain ⟨A8, c8, rfl, own8, hb8⟩ := h8
          exact ⟨_, rfl, hb8, A8, c8, rfl, Sees.of_own own8⟩
        · refine Facts.step_some fun a W hR hold hnew => ?_
          have h27 : ∃ A' c', a.tmps.getD 27 undef = .slice A' (hd).length c' ∧ Sees W A' (hd).length (hd) := hnew 13 27 (by kernel_rfl)
          obtain ⟨A27, c27, f27, s27⟩ := h27
          exact ⟨Facts.wanted_free rfl, .slice A27 hd.length c27, by simp [go_sem, Act.eval, f27], A27, c27, rfl, s27⟩
      · intro a w9 hR' hsize hdef hnew hold
        have h3 : ∃ A' c', a.tmps.getD 3 undef = .slice A' (hd).length c' ∧ Sees w9 A' (hd).length (hd) := hnew 14 3 (by kernel_rfl)
        obtain ⟨A3, c3, f3, s3⟩ := h3
        have f1 : a.tmps.getD 1 undef = Value.pointer (some ⟨B, 0, none⟩) := hold 1 (Facts.not_dst (by kernel_rfl))
        have f2 : a.tmps.getD 2 undef = Value.slice none 0 0 := hold 2 (Facts.not_dst (by kernel_rfl))
        obtain ⟨tm, df⟩ := a
        simp only [] at hdef hsize f1 f2 f3
        obtain ⟨xq, hxq, hlit⟩ := Facts.lits tm hsize Facts.idx134 Facts.idx134_eq
        rw [hxq] at f1 f2 f3
        simp only [Facts.idx134, List.map_cons, List.map_nil, f1, f2, f3] at hlit
        clear f1 f2 f3 hsize hnew hold hxq
        subst hlit
        subst hdef
        try simp only []
        have B9 := Lib.hid (HX.out.2.trans (((Below.refl _ _).drew.trans hR').mono HX.out.2.size))
        have S9 := Lib.hid s3
        clear hR' s3 HC HX L1 L2 L3 L4 L5 hws hwd
        obtain ⟨k0, k1, k2, k3, k4, k5, k6, k7, k8, k9, k10, k11, k12, k13⟩ := CELLS.out w9 B9.out
        have AT9 := Lib.hid (HAT.out w9 B9.out)
        obtain rfl : K = 6 := HK.out
        obtain ⟨m1, hm1⟩ : ∃ m, m = hd ++ enc sz := ⟨_, rfl⟩
        obtain ⟨m2, hm2⟩ : ∃ m, m = m1 ++ enc ps := ⟨_, rfl⟩
        have hR : L = m2 ++ enc bts.length ++ bts := by rw [HLL.out.1, hm2, hm1, HHD.out]; unfold ltL ltRest; simp only [List.append_assoc]; rfl
        have hle := HLE.out
        have x1 := enc_ten (n := sz) (by omega)
        have x2 := enc_ten (n := ps) (by omega)
        have g1 := congrArg List.length hm1
        have g2 := congrArg List.length hm2
        rw [List.length_append] at g1 g2
        have hbt := HOK.out.bytes
        simp only at hbt
        have M1 := Lib.hid (fun (W : World) A c (hs : Sees W A hd.length hd) => (by have := rlay A c hd sz W hs (by omega) (by omega); rw [← hm1] at this; exact this : Calls Tryd.prog 12 #[.slice A hd.length c, .int .u64 (sz : Int)] W (GivesR W m1)))
        have M2 := Lib.hid (fun (W : World) A c (hs : Sees W A m1.length m1) => (by have := rlay A c m1 ps W hs (by omega) (by omega); rw [← hm2] at this; exact this : Calls Tryd.prog 12 #[.slice A m1.length c, .int .u64 (ps : Int)] W (GivesR W m2)))
        have M3 := Lib.hid (fun (W : World) A c (hs : Sees W A m2.length m2) (hq : Sees W Ba bn bts) => (by have := rtext A c m2 Ba bn bc bts W hs hq (by omega) (by omega); rw [← hR] at this; exact this : Calls Tryd.prog 14 #[.slice A m2.length c, .slice Ba bn bc] W (GivesR W L)))
        have HC := Lib.hid (fun (W : World) (hW : Below w9.drew.heap.size w9.drew W) => (⟨CELLS.out W (B9.out.trans (((Below.refl _ _).drew.trans hW).mono B9.out.size)), S9.out.below ((Below.refl _ _).drew.trans hW), AT9.out.below ((Below.refl _ _).drew.trans hW)⟩ : _ ∧ Sees W A3 hd.length hd ∧ LtAt W _ _ S))
        clear hR hm1 hm2 hle x1 x2 g1 g2 hbt k0 k1 k2 k3 k4 k5 k6 k7 k8 k9 k10 k11 k12 k13
        obtain ⟨k0, -⟩ := CELLS.out w9 B9.out
        go_wp2_with fail
        refine Facts.wp_region_preds (n := 134) (by kernel_rfl) (by kernel_rfl) rfl [Facts.Pred.is (.slice A3 hd.length c3), Facts.Pred.is (.pointer (some ⟨B, 9, none⟩)), Facts.Pred.is (.int .u64 (sz : Int)), PRowE (m1), Facts.Pred.is (.pointer (some ⟨B, 11, none⟩)), Facts.Pred.is (.int .u64 (ps : Int)), PRowE (m2), Facts.Pred.is (.pointer (some ⟨B, 12, none⟩)), Facts.Pred.is (.slice Ba bn bc), PRowE (L), PRowE (L)] ?_ ?_
        · refine ⟨?_, ?_, ?_, ?_, ?_, ?_, ?_, ?_, ?_, ?_, ?_, trivial⟩
          · refine Facts.step_is (.slice A3 hd.length c3) fun a W hR hold hnew => ?_
            have f3 : a.tmps.getD 3 undef = .slice A3 hd.length c3 := hold 3 (by kernel_rfl)
            refine ⟨Facts.wanted_free rfl, ?_, fun _ => rfl⟩; simp [go_sem, Act.eval, f3]
          · refine Facts.step_is (.pointer (some ⟨B, 9, none⟩)) fun a W hR hold hnew => ?_
            have f1 : a.tmps.getD 1 undef = .pointer (some ⟨B, 0, none⟩) := hold 1 (by kernel_rfl)
            refine ⟨Facts.wanted_free rfl, ?_, fun _ => rfl⟩; simp [go_sem, Act.eval, f1]
          · refine Facts.step_is (.int .u64 (sz : Int)) fun a W hR hold hnew => ?_
            have f123 : a.tmps.getD 123 undef = .pointer (some ⟨B, 9, none⟩) := hnew 1 123 (by kernel_rfl)
            have q := (HC.out W hR).1.2.2.2.2.2.2.2.2.2.1
            refine ⟨Facts.wanted_free rfl, ?_, fun _ => rfl⟩; simp [go_sem, Act.eval, f123, q]
          · refine Facts.step_call fun a W hR hold hnew => ?_
            have f122 : a.tmps.getD 122 undef = .slice A3 hd.length c3 := hnew 0 122 (by kernel_rfl)
            have f124 : a.tmps.getD 124 undef = .int .u64 (sz : Int) := hnew 2 124 (by kernel_rfl)
            have q := (HC.out W hR).2.1
            refine ⟨Facts.wanted_free rfl, 12, #[.slice A3 hd.length c3, .int .u64 (sz : Int)], by simp [go_sem, Act.eval, f122, f124], ?_⟩
            refine (M1.out W A3 c3 q).mono ?_
            rintro e w8 h8
            obtain ⟨A8, c8, rfl, own8, hb8⟩ := h8
            exact ⟨_, rfl, hb8, A8, c8, rfl, Sees.of_own own8⟩
          · refine Facts.step_is (.pointer (some ⟨B, 11, none⟩)) fun a W hR hold hnew => ?_
            have f1 : a.tmps.getD 1 undef = .pointer (some ⟨B, 0, none⟩) := hold 1 (by kernel_rfl)
            refine ⟨Facts.wanted_free rfl, ?_, fun _ => rfl⟩; simp [go_sem, Act.eval, f1]
          · refine Facts.step_is (.int .u64 (ps : Int)) fun a W hR hold hnew => ?_
            have f126 : a.tmps.getD 126 undef = .pointer (some ⟨B, 11, none⟩) := hnew 4 126 (by kernel_rfl)
            have q := (HC.out W hR).1.2.2.2.2.2.2.2.2.2.2.2.1
            refine ⟨Facts.wanted_free rfl, ?_, fun _ => rfl⟩; simp [go_sem, Act.eval, f126, q]
          · refine Facts.step_call fun a W hR hold hnew => ?_
            have h125 : ∃ A' c', a.tmps.getD 125 undef = .slice A' (m1).length c' ∧ Sees W A' (m1).length (m1) := hnew 3 125 (by kernel_rfl)
            obtain ⟨A125, c125, f125, s125⟩ := h125
            have f127 : a.tmps.getD 127 undef = .int .u64 (ps : Int) := hnew 5 127 (by kernel_rfl)
            refine ⟨Facts.wanted_free rfl, 12, #[.slice A125 m1.length c125, .int .u64 (ps : Int)], by simp [go_sem, Act.eval, f125, f127], ?_⟩
            refine (M2.out W A125 c125 s125).mono ?_
            rintro e w8 h8
            obtain ⟨A8, c8, rfl, own8, hb8⟩ := h8
            exact ⟨_, rfl, hb8, A8, c8, rfl, Sees.of_own own8⟩
          · refine Facts.step_is (.pointer (some ⟨B, 12, none⟩)) fun a W hR hold hnew => ?_
            have f1 : a.tmps.getD 1 undef = .pointer (some ⟨B, 0, none⟩) := hold 1 (by kernel_rfl)
            refine ⟨Facts.wanted_free rfl, ?_, fun _ => rfl⟩; simp [go_sem, Act.eval, f1]
          · refine Facts.step_is (.slice Ba bn bc) fun a W hR hold hnew => ?_
            have f129 : a.tmps.getD 129 undef = .pointer (some ⟨B, 12, none⟩) := hnew 7 129 (by kernel_rfl)
            have q := (HC.out W hR).1.2.2.2.2.2.2.2.2.2.2.2.2.1
            refine ⟨Facts.wanted_free rfl, ?_, fun _ => rfl⟩; simp [go_sem, Act.eval, f129, q]
          · refine Facts.step_call fun a W hR hold hnew => ?_
            have h128 : ∃ A' c', a.tmps.getD 128 undef = .slice A' (m2).length c' ∧ Sees W A' (m2).length (m2) := hnew 6 128 (by kernel_rfl)
            obtain ⟨A128, c128, f128, s128⟩ := h128
            have f130 : a.tmps.getD 130 undef = .slice Ba bn bc := hnew 8 130 (by kernel_rfl)
            have q := (HC.out W hR).2.2.bytes
            refine ⟨Facts.wanted_free rfl, 14, #[.slice A128 m2.length c128, .slice Ba bn bc], by simp [go_sem, Act.eval, f128, f130], ?_⟩
            refine (M3.out W A128 c128 s128 q).mono ?_
            rintro e w8 h8
            obtain ⟨A8, c8, rfl, own8, hb8⟩ := h8
            exact ⟨_, rfl, hb8, A8, c8, rfl, Sees.of_own own8⟩
          · refine Facts.step_some fun a W hR hold hnew => ?_
            have h131 : ∃ A' c', a.tmps.getD 131 undef = .slice A' (L).length c' ∧ Sees W A' (L).length (L) := hnew 9 131 (by kernel_rfl)
            obtain ⟨A131, c131, f131, s131⟩ := h131
            exact ⟨Facts.wanted_free rfl, .slice A131 L.length c131, by simp [go_sem, Act.eval, f131], A131, c131, rfl, s131⟩
        · intro a w11 hR' hsize hdef hnew hold
          have h3 : ∃ A' c', a.tmps.getD 3 undef = .slice A' (L).length c' ∧ Sees w11 A' (L).length (L) := hnew 10 3 (by kernel_rfl)
          obtain ⟨A3, c3, f3, s3⟩ := h3
          have f1 : a.tmps.getD 1 undef = Value.pointer (some ⟨B, 0, none⟩) := hold 1 (Facts.not_dst (by kernel_rfl))
          have f2 : a.tmps.getD 2 undef = Value.slice none 0 0 := hold 2 (Facts.not_dst (by kernel_rfl))
          obtain ⟨tm, df⟩ := a
          simp only [] at hdef hsize f1 f2 f3
          obtain ⟨xq, hxq, hlit⟩ := Facts.lits tm hsize Facts.idx134 Facts.idx134_eq
          rw [hxq] at f1 f2 f3
          simp only [Facts.idx134, List.map_cons, List.map_nil, f1, f2, f3] at hlit
          clear f1 f2 f3 hsize hnew hold hxq
          subst hlit
          subst hdef
          try simp only []
          have B11 := Lib.hid (B9.out.trans (((Below.refl _ _).drew.trans hR').mono B9.out.size))
          have S11 := Lib.hid s3
          clear hR' s3 HC
          have SW := Lib.hid S11.out
          have BX := Lib.hid (BU.out.trans (B11.out.mono BU.out.size))
          go_wp2_with fail
          refine (rwrap _ _ L _ SW.out (by have := HLL.out.2; omega)).mono ?_
          intro e w8 hg
          obtain ⟨A8, c8, rfl, own8, hb8⟩ := hg
          have FIN := Lib.hid (And.intro own8 hb8)
          clear own8 hb8
          go_wp2
          go_ret
          exact ⟨A8, c8, rfl, Own.lower FIN.out.1 (BX.out.size), BX.out.trans (FIN.out.2.mono BX.out.size)⟩
end Go.Proofs.YthdflbpmabcjlaaDoor.Lt
namespace Go.Proofs.YthdflbpmabcjlaaDoor.Lt
open Go Go.RowKit Go.Proofs.YthdflbpmabcjlaaDoor.Words Go.Proofs.YthdflbpmabcjlaaDoor.Enc Go.Proofs.YthdflbpmabcjlaaDoor.Evt Go.Proofs.YthdflbpmabcjlaaDoor.Made Go.Proofs.YthdflbpmabcjlaaDoor.Seg
set_option linter.unusedVariables false

theorem lay_any (w : World) (x : Lt) (v : Adr) (S : List EvS) (h : LtAt w x v S) (ok : Ok x) :
    Calls Tryd.prog 7 #[.agg (ltV x v)] w (GivesR w (wrap (ltL x))) := by
  have hk : x.kind = 1 ∨ x.kind = 2 ∨ x.kind = 3 ∨ x.kind = 4 ∨ x.kind = 5 ∨ x.kind = 6 ∨ x.kind = 7 := by have := ok.kind; omega
  rcases hk with hk | hk | hk | hk | hk | hk | hk
  · exact lay_k1 w x v S h ok hk
  · exact lay_k2 w x v S h ok hk
  · exact lay_k3 w x v S h ok hk
  · exact lay_k4 w x v S h ok hk
  · exact lay_k5 w x v S h ok hk
  · exact lay_k6 w x v S h ok hk
  · exact lay_k7 w x v S h ok hk
end Go.Proofs.YthdflbpmabcjlaaDoor.Lt
namespace Go.Proofs.YthdflbpmabcjlaaDoor.Lt
open Go Go.RowKit Go.Proofs.YthdflbpmabcjlaaDoor.Words Go.Proofs.YthdflbpmabcjlaaDoor.Enc Go.Proofs.YthdflbpmabcjlaaDoor.Evt Go.Proofs.YthdflbpmabcjlaaDoor.Made Go.Proofs.YthdflbpmabcjlaaDoor.Tape Go.Proofs.YthdflbpmabcjlaaDoor.Seg
set_option linter.unusedVariables false
set_option linter.unusedSimpArgs false

/-- A letter of which the kind's fields are not read yet. -/
def x0 (k s d : Nat) (m : Bool) (q : Nat) : Lt := { zeroL with kind := k, src := s, dst := d, mine := m, serial := q }
/-- A row of a letter, its numbers from block B on. -/
def RwB (B : Nat) (w : World) (b o : Nat) (r : Rw) : Prop := ∃ A n c, w.cell? ⟨b, o, none⟩ = some (.int .i64 (r.node : Int)) ∧ w.cell? ⟨b, o + 1, none⟩ = some (.slice A n c) ∧ w.cell? ⟨b, o + 2, none⟩ = some (.int .u64 (r.time : Int)) ∧ Vec.SeesU w A n r.H ∧ Fresh B A n
/-- A letter lies in blocks from B on. -/
structure LtB (B : Nat) (w : World) (x : Lt) (v : Adr) (S : List EvS) : Prop where
  H : Vec.SeesU w v.Ha v.hn x.H
  hf : Fresh B v.Ha v.hn
  rn : v.rn = x.rows.length
  rows : ∀ (j : Nat) (r : Rw), x.rows[j]? = some r → ∃ b o, v.Ra = some ⟨b, o, none⟩ ∧ B ≤ b ∧ RwB B w b (o + j * 3) r
  en : v.en = x.E.length
  ev : x.E = S.map EvS.e
  raw : RawEv w v.Ea S
  ef : Fresh B v.Ea v.en
  text : ∀ r ∈ S, Sees w r.A r.n r.e.text ∧ Fresh B r.A r.n
  bytes : Sees w v.Ba v.bn x.bytes
  bf : Fresh B v.Ba v.bn
theorem LtB.at_ {B : Nat} {w : World} {x : Lt} {v : Adr} {S : List EvS} (h : LtB B w x v S) : LtAt w x v S :=
  ⟨h.H, h.rn, fun j r hj => by obtain ⟨b, o, h1, _, A, n, c, q1, q2, q3, q4, _⟩ := h.rows j r hj; exact ⟨b, o, h1, A, n, c, q1, q2, q3, q4⟩, h.en, h.ev, ⟨h.raw, fun r hr => (h.text r hr).1⟩, h.bytes⟩
theorem LtB.beside {B : Nat} {w w' : World} {x : Lt} {v : Adr} {S : List EvS} (h : LtB B w x v S) {T : List Nat} (hb : Beside T w w') (hT : ∀ y ∈ T, y < B) : LtB B w' x v S :=
  ⟨h.H.beside hb (h.hf.out hT), h.hf, h.rn, fun j r hj => by
    obtain ⟨b, o, h1, h2, A, n, c, q1, q2, q3, q4, q5⟩ := h.rows j r hj
    have hbT : b ∉ T := fun hm => by have := hT b hm; omega
    exact ⟨b, o, h1, h2, A, n, c, hb.cell q1 hbT, hb.cell q2 hbT, hb.cell q3 hbT, q4.beside hb (q5.out hT), q5⟩, h.en, h.ev, fun h0 => by
    obtain ⟨b, o, h1, h2⟩ := h.raw h0
    have hl : 0 < v.en := by have h3 := h.en; have h4 := congrArg List.length h.ev; rw [List.length_map] at h4; omega
    have := h.ef hl _ h1
    exact ⟨b, o, h1, fun j u hu => hb.cell (h2 j u hu) (fun hm => by have h5 := hT _ hm; simp at this h5; omega)⟩, h.ef, fun r hr => ⟨(h.text r hr).1.beside hb ((h.text r hr).2.out hT), (h.text r hr).2⟩, h.bytes.beside hb (h.bf.out hT), h.bf⟩
theorem LtB.below {B : Nat} {w w' : World} {x : Lt} {v : Adr} {S : List EvS} (h : LtB B w x v S) (hb : Below w.heap.size w w') : LtB B w' x v S := h.beside (Beside.of_below hb []) (fun y hy => by cases hy)
theorem LtB.lower {B B' : Nat} {w : World} {x : Lt} {v : Adr} {S : List EvS} (h : LtB B w x v S) (hB : B' ≤ B) : LtB B' w x v S :=
  have low : ∀ {A : Option Addr} {n : Nat}, Fresh B A n → Fresh B' A n := fun h hn a ha => Nat.le_trans hB (h hn a ha)
  ⟨h.H, low h.hf, h.rn, fun j r hj => by obtain ⟨b, o, h1, h2, A, n, c, q1, q2, q3, q4, q5⟩ := h.rows j r hj; exact ⟨b, o, h1, by omega, A, n, c, q1, q2, q3, q4, low q5⟩, h.en, h.ev, h.raw, low h.ef, fun r hr => ⟨(h.text r hr).1, low (h.text r hr).2⟩, h.bytes, low h.bf⟩
/-- What takeFields answers. -/
def FldGives (PA : Option Addr) (PN : Nat) (L : List UInt8) (t xb : Nat) (g : Tk Lt) (w : World) (e : Ending) (w' : World) : Prop :=
  match g with
  | .bad E => e = fault E ∧ Beside [t, xb] w w'
  | .no => ∃ x v, e = .returned (.bool false) ∧ w'.heap[xb]? = some (.cells (ltV x v) 37 (0, 0)) ∧ Beside [t, xb] w w'
  | .ok x r => ∃ v S, e = .returned (.bool true) ∧ w'.heap[xb]? = some (.cells (ltV x v) 37 (0, 0)) ∧ LtB w.heap.size w' x v S ∧ TapeOn PA PN L w' t r ∧ Beside [t, xb] w w'
/-- Between the readers. -/
structure FSt (PA : Option Addr) (PN : Nat) (L : List UInt8) (t xb : Nat) (w W : World) (C : Array Value) (r : List UInt8) : Prop where
  box : W.heap[xb]? = some (.cells C 37 (0, 0))
  tape : TapeOn PA PN L W t r
  see : Sees W PA PN L
  bes : Beside [t, xb] w W
  ne : xb ≠ t
  out : Out [xb] PA PN
  old : xb < w.heap.size ∧ t < w.heap.size
theorem FSt.read {PA : Option Addr} {PN : Nat} {L : List UInt8} {t xb : Nat} {w W W' : World} {C : Array Value} {r r' : List UInt8} (h : FSt PA PN L t xb w W C r) (hb : Beside [t] W W') (ht : TapeOn PA PN L W' t r') : FSt PA PN L t xb w W' C r' :=
  ⟨(hb.block xb (Array.getElem?_eq_some_iff.1 h.box).1 (by simp; exact h.ne)).trans h.box, ht, h.see.beside hb (by obtain ⟨A', n', c', hb', -⟩ := h.tape; exact sees_off hb' h.see), h.bes.trans hb (by simp), h.ne, h.out, h.old⟩
theorem FSt.set {PA : Option Addr} {PN : Nat} {L : List UInt8} {t xb : Nat} {w W : World} {C : Array Value} {r : List UInt8} (h : FSt PA PN L t xb w W C r) (i : Nat) (v : Value) : FSt PA PN L t xb w (W.setCell ⟨xb, i, none⟩ v) (C.setIfInBounds i v) r :=
  ⟨heapSame h.box, h.tape.keep (heapOther fun e => h.ne e.symm), h.see.beside ((Beside.refl [xb] W).setCell (by simp) v) h.out, h.bes.setCell (by simp) v, h.ne, h.out, h.old⟩
theorem FSt.bad {PA : Option Addr} {PN : Nat} {L : List UInt8} {t xb : Nat} {w W W' : World} {C : Array Value} {r : List UInt8} (h : FSt PA PN L t xb w W C r) (hb : Beside [t] W W') : Beside [t, xb] w W' := h.bes.trans hb (by simp)
theorem FSt.froz {PA : Option Addr} {PN : Nat} {L : List UInt8} {t xb : Nat} {w W : World} {C : Array Value} {r : List UInt8} (h : FSt PA PN L t xb w W C r) (i : Nat) : W.frozen? ⟨xb, i, none⟩ = false := frozen_row0 h.box
theorem FSt.cell {PA : Option Addr} {PN : Nat} {L : List UInt8} {t xb : Nat} {w W : World} {C : Array Value} {r : List UInt8} (h : FSt PA PN L t xb w W C r) (i : Nat) : W.cell? ⟨xb, i, none⟩ = C[i]? := by rw [cell_of_row W xb _ _ _ _ h.box]
theorem rows_of {B b n : Nat} {rs : List Rw} {w : World} (h : RwsAt b n rs w) (hB : B ≤ b) : ∀ (j : Nat) (r : Rw), rs[j]? = some r → ∃ b' o, (some ⟨b, 0, none⟩ : Option Addr) = some ⟨b', o, none⟩ ∧ B ≤ b' ∧ RwB B w b' (o + j * 3) r := fun j r hj => by
  obtain ⟨⟨cur, h1, h2, h3⟩⟩ := h
  obtain ⟨A, n, c, q1, q2, q3, q4⟩ := h3 j r hj
  refine ⟨b, 0, rfl, hB, A, n, c, ?_, ?_, ?_, Vec.SeesU.of_own q4, Fresh.of_own q4 (by omega)⟩
  · rw [Nat.zero_add, cell_of_row w b _ _ _ _ h1]; exact q1
  · rw [Nat.zero_add, cell_of_row w b _ _ _ _ h1]; exact q2
  · rw [Nat.zero_add, cell_of_row w b _ _ _ _ h1]; exact q3
theorem raw_nil (w : World) : RawEv w none [] := fun h => absurd h (by simp)
theorem seesU_nil (w : World) : Vec.SeesU w none 0 [] := ⟨rfl, fun h => absurd h (by omega)⟩
end Go.Proofs.YthdflbpmabcjlaaDoor.Lt
namespace Go.Proofs.YthdflbpmabcjlaaDoor.Lt
open Go Go.RowKit Go.Proofs.YthdflbpmabcjlaaDoor.Words Go.Proofs.YthdflbpmabcjlaaDoor.Enc Go.Proofs.YthdflbpmabcjlaaDoor.Evt Go.Proofs.YthdflbpmabcjlaaDoor.Made Go.Proofs.YthdflbpmabcjlaaDoor.Tape Go.Proofs.YthdflbpmabcjlaaDoor.Seg
set_option linter.unusedVariables false
set_option linter.unusedSimpArgs false

set_option maxRecDepth 100000 in
set_option maxHeartbeats 4000000 in
theorem fields_k7 (PA : Option Addr) (PN : Nat) (L : List UInt8) (t xb : Nat) (l : List UInt8) (s d : Nat) (m : Bool) (q : Nat) (w : World) (ht : TapeOn PA PN L w t l) (hP : Sees w PA PN L) (hll : l.length ≤ 100000) (hb : w.heap[xb]? = some (.cells (ltV (x0 7 s d m q) Adr.zero) 37 (0, 0))) (hne : xb ≠ t) (hox : Out [xb] PA PN) :
    Calls Tryd.prog 39 #[.pointer (some ⟨t, 0, none⟩), .pointer (some ⟨xb, 0, none⟩)] w (FldGives PA PN L t xb (fieldsT (x0 7 s d m q) l) w) := by
  have st0 : FSt PA PN L t xb w w _ l := ⟨hb, ht, hP, Beside.refl _ _, hne, hox, (Array.getElem?_eq_some_iff.1 hb).1, ht.lt⟩
  have k0 : w.cell? ⟨xb, 0, none⟩ = some (.int .u8 7) := st0.cell 0
  obtain ⟨G, hG⟩ : ∃ G, G = fieldsT (x0 7 s d m q) l := ⟨_, rfl⟩
  rw [← hG]
  have HG := Lib.hid (show G = (gT (numG 65536 l)).bind fun y l1 => .ok { x0 7 s d m q with why := y } l1 by rw [hG]; rfl)
  clear hG
  cases g1 : numG 65536 l with
  | bad E =>
    obtain rfl : G = .bad E := by rw [HG.out, g1]; rfl
    have NB := Lib.hid (num_bad t 65536 E l w (ht.at_ hP) (by omega) g1)
    have ST := Lib.hid st0
    clear g1 HG st0 ht hP hb hne hox
    go_enter Tryd.func39, Tryd.ntmps39
    clear hll
    go_wp2_with fail
    refine NB.out.mono ?_
    rintro e wb ⟨rfl, hbb⟩
    have HB := Lib.hid (ST.out.bad hbb)
    clear hbb NB
    unfold fault
    go_wp2
    exact ⟨rfl, rfl, HB.out⟩
  | ok y l1 =>
    obtain rfl : G = .ok { x0 7 s d m q with why := y } l1 := by rw [HG.out, g1]; rfl
    have hy : y ≤ 65536 := (Vec.numG_enc g1).2
    have NB := Lib.hid (num_ok t 65536 y l l1 w ht hP (by omega) g1)
    have ST := Lib.hid st0
    have hw : IntKind.i64.wrap (y : Int) = (y : Int) := IntWalk.i64_in _ (by omega)
    clear g1 HG st0 ht hP hb hne hox
    go_enter Tryd.func39, Tryd.ntmps39
    go_wp2_with fail
    refine NB.out.mono ?_
    rintro e w1 ⟨rfl, ht1, hb1⟩
    have ST1 := Lib.hid (ST.out.read hb1 ht1)
    have c5 : w1.cell? ⟨xb, 13, none⟩ = some (.int .i64 0) := (ST1.out.cell 13).trans rfl
    have f5 := ST1.out.froz 13
    have ST2 := Lib.hid (ST1.out.set 13 (.int .i64 (y : Int)))
    clear ht1 hb1 NB ST k0
    go_wp2
    go_ret
    exact ⟨Adr.zero, [], rfl, ST2.out.box, ⟨seesU_nil _, Fresh.none _, rfl, fun j r hj => (by simp [x0, zeroL] at hj), rfl, rfl, raw_nil _, Fresh.none _, (fun r hr => by cases hr), Sees.nil _ _, Fresh.none _⟩, ST2.out.tape, ST2.out.bes⟩
end Go.Proofs.YthdflbpmabcjlaaDoor.Lt
