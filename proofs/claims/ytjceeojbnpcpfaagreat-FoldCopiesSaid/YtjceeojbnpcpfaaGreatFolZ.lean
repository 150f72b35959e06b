/- Package fold: layCell. -/
import Derived.Test.YtjceeojbnpcpfaaGreatFolX
import Derived.BigRegion
namespace Go.Proofs.YtjceeojbnpcpfaaGreat.Fol
open Go Go.RowKit Go.Proofs.YtjceeojbnpcpfaaGreat.Words Go.Proofs.YtjceeojbnpcpfaaGreat.Enc Go.Proofs.YtjceeojbnpcpfaaGreat.Q Go.Proofs.YtjceeojbnpcpfaaGreat.Evt Go.Proofs.YtjceeojbnpcpfaaGreat.Made
set_option linter.unusedVariables false
set_option linter.unusedSimpArgs false

theorem plt (A : Option Addr) (c : Nat) (l : List UInt8) (Q : Option Addr) (k : Nat) (q : List UInt8) (w : World) (hs : Sees w A l.length l) (hq : Sees w Q q.length q) (hn : l.length ≤ 900000000) (hm : q.length ≤ 900000000) :
    Calls Tryz.prog 52 #[.slice A l.length c, .slice Q q.length k] w (GivesR w (l ++ enc q.length ++ q)) := (layText_any A _ c l Q _ k q w hs hq hn hm).mono fun _ _ h => gives_of h
theorem plf (A : Option Addr) (c : Nat) (l : List UInt8) (x : Int) (w : World) (hs : Sees w A l.length l) (hn : l.length ≤ 1000000000) (hx0 : 0 ≤ x) (hx : x < 18446744073709551616) :
    Calls Tryz.prog 53 #[.slice A l.length c, .int .u64 x] w (GivesR w (l ++ fix x.toNat)) := (layFixed_any A _ c l x w hs hn hx0 hx).mono fun _ _ h => gives_of h
theorem pll (A : Option Addr) (c : Nat) (l : List UInt8) (x : Int) (w : World) (hs : Sees w A l.length l) (hn : l.length ≤ 1000000000) (hx0 : 0 ≤ x) (hx : x < 18446744073709551616) :
    Calls Tryz.prog 51 #[.slice A l.length c, .int .u64 x] w (GivesR w (l ++ enc x.toNat)) := (lay_any A _ c l x w hs hn hx0 hx).mono fun _ _ h => gives_of h

set_option maxRecDepth 100000 in
set_option maxHeartbeats 2000000 in
theorem layCell_any (key : ByteArray) (ky : List UInt8) (K : Nat) (A : Option Addr) (c N : Nat) (tx : List UInt8) (w : World) (hkey : key = ⟨ky.toArray⟩) (hs : Sees w A tx.length tx) (hk : ky.length ≤ 100000) (hn : tx.length ≤ 100000000) (hK : K < 256) (hN : N < 18446744073709551616) :
    Calls Tryz.prog 65 #[.string key, .agg #[.int .u8 (K : Int), .slice A tx.length c, .float .f64 N]] w (GivesR w (celL (ky, ⟨K, tx, N⟩))) := by
  obtain ⟨i, hi, hz, hsz, hby⟩ := info_parts info8
  have hsf := store_float Tryz.prog
  obtain ⟨B, hB⟩ : ∃ B, B = w.heap.size := ⟨_, rfl⟩
  obtain ⟨u, hu⟩ : ∃ u, u = w.alloc (.cells #[.int .u8 (K : Int), .slice A tx.length c, .float .f64 N] 50) := ⟨_, rfl⟩
  have bu : Below w.heap.size w u := by rw [hu]; exact (Below.refl _ _).alloc (Nat.le_refl _) _
  have hus : u.heap.size = B + 1 := by rw [hu, hB]; simp
  have gB : u.heap[B]? = some (.cells #[.int .u8 (K : Int), .slice A tx.length c, .float .f64 N] 50 (0, 0)) := by rw [hu, hB]; exact heap_alloc_new w _
  have CELLS := Lib.hid (fun (W : World) (hW : Below u.heap.size u W) => (by
    have g := (hW.block B (by omega)).trans gB
    exact ⟨by rw [cell_of_row W B _ _ _ _ g]; rfl, by rw [cell_of_row W B _ _ _ _ g]; rfl, by rw [cell_of_row W B _ _ _ _ g]; rfl⟩ : W.cell? ⟨B, 0, none⟩ = some (.int .u8 (K : Int)) ∧ W.cell? ⟨B, 1, none⟩ = some (.slice A tx.length c) ∧ W.cell? ⟨B, 2, none⟩ = some (.float .f64 N)))
  have hkd : key.data.toList = ky := by rw [hkey]
  have hks : key.size = ky.length := by rw [hkey]; show ky.toArray.size = ky.length; simp
  have hek := enc_ten (n := ky.length) (by omega)
  obtain ⟨la, hla⟩ : ∃ la, la = enc ky.length ++ ky := ⟨_, rfl⟩
  have hleA : la.length ≤ 100100 := by have := congrArg List.length hla; rw [List.length_append] at this; omega
  obtain ⟨lb2, hlb2⟩ : ∃ lb2, lb2 = la ++ [b8 K] := ⟨_, rfl⟩
  have hleB : lb2.length ≤ 100101 := by rw [hlb2]; simp; omega
  obtain ⟨lz, hlz⟩ : ∃ lz, lz = celL (ky, ⟨K, tx, N⟩) := ⟨_, rfl⟩
  have hlz2 : lz = lb2 ++ (if K = 1 then enc tx.length ++ tx else fix (qb N)) := by rw [hlz, hlb2, hla]; unfold celL; simp only [List.append_assoc]
  rw [← hlz]
  have TX := Lib.hid (fun (W : World) Q k (hq : Sees W Q ky.length ky) => (by have := plt none 0 [] Q k ky W (Sees.nil _ _) hq (by simp) (by omega); rw [List.nil_append, ← hla] at this; exact this : Calls Tryz.prog 52 #[.slice none 0 0, .slice Q ky.length k] W (GivesR W la)))
  have HC := Lib.hid (fun (W : World) (hW : Below u.drew.heap.size u.drew W) => (⟨(CELLS.out W ((Below.refl _ _).drew.trans hW)).1, (Below.refl _ _).drew.trans hW⟩ : W.cell? ⟨B, 0, none⟩ = some (.int .u8 (K : Int)) ∧ Below u.heap.size u W))
  have HS := Lib.hid (hs.below bu)
  have HU := Lib.hid hu
  have HB := Lib.hid hB
  have HUS := Lib.hid hus
  have BU := Lib.hid bu
  have HKD := Lib.hid hkd
  have HKS := Lib.hid hks
  have HLZ2 := Lib.hid hlz2
  have HLB2 := Lib.hid hlb2
  have HLE := Lib.hid (And.intro hleA (And.intro hleB hn))
  clear hu hB bu gB hkd hks hek hla hlb2 hlz hlz2 hs hkey hleA hleB hn hus
  go_enter Tryz.func65, Tryz.ntmps65
  go_upto_region 1 with fail
  rw [← HU.out, ← HB.out]
  refine Facts.wp_region_tail 6 (n := 25) (by kernel_rfl) (by kernel_rfl) (by kernel_rfl) rfl [Facts.Pred.is (.string key), PRowE (ky), POwnE (B + 1) (la), Facts.Pred.is (.pointer (some ⟨B, 0, none⟩)), Facts.Pred.is (.int .u8 (K : Int)), PRowE ([b8 K])] ?_ ?_
  · refine ⟨?_, ?_, ?_, ?_, ?_, ?_, trivial⟩
    · refine Facts.step_is (.string key) fun a W hR hold hnew => ?_
      have f0 : a.tmps.getD 0 undef = .string key := hold 0 (by kernel_rfl)
      refine ⟨Facts.wanted_free rfl, ?_, fun _ => rfl⟩
      simp [go_sem, Act.eval, f0]
    · refine Facts.step_new fun a W hR hold hnew => ?_
      have f6 : a.tmps.getD 6 undef = .string key := hnew 0 6 (by kernel_rfl)
      have hs := sees_key HKD.out (sees_bytes W 5 key)
      have hrun := run_conv key W
      rw [HKS.out] at hrun
      exact ⟨Facts.wanted_free rfl, .slice (some ⟨W.heap.size, 0, none⟩) ky.length (grownCap W ky.length 0 5), Lib.bytesWorld W 5 key, by simp [go_sem, Act.eval, f6, hrun], below_bytes W 5 key, _, _, rfl, hs⟩
    · refine Facts.step_call fun a W hR hold hnew => ?_
      have h7 : ∃ A' c', a.tmps.getD 7 undef = .slice A' (ky).length c' ∧ Sees W A' (ky).length (ky) := hnew 1 7 (by kernel_rfl)
      obtain ⟨A7, c7, f7, s7⟩ := h7
      have q := (HC.out W hR).2
      refine ⟨Facts.wanted_free rfl, 52, #[.slice none 0 0, .slice A7 ky.length c7], by simp [go_sem, Act.eval, f7], ?_⟩
      refine (TX.out W A7 c7 s7).mono ?_
      rintro e w8 ⟨A8, c8, rfl, own8, hb8⟩
      exact ⟨_, rfl, hb8, A8, c8, rfl, Own.lower own8 (by have h1 := q.size; have h2 := HUS.out; omega)⟩
    · refine Facts.step_is (.pointer (some ⟨B, 0, none⟩)) fun a W hR hold hnew => ?_
      have f3 : a.tmps.getD 3 undef = .pointer (some ⟨B, 0, none⟩) := hold 3 (by kernel_rfl)
      refine ⟨Facts.wanted_free rfl, ?_, fun _ => rfl⟩
      simp [go_sem, Act.eval, f3]
    · refine Facts.step_is (.int .u8 (K : Int)) fun a W hR hold hnew => ?_
      have f9 : a.tmps.getD 9 undef = .pointer (some ⟨B, 0, none⟩) := hnew 3 9 (by kernel_rfl)
      have q := (HC.out W hR).1
      refine ⟨Facts.wanted_free rfl, ?_, fun _ => rfl⟩
      simp [go_sem, Act.eval, f9, q]
    · refine Facts.step_new fun a W hR hold hnew => ?_
      have f10 : a.tmps.getD 10 undef = .int .u8 (K : Int) := hnew 4 10 (by kernel_rfl)
      rw [Array.getD_eq_getD_getElem?] at f10
      exact ⟨Facts.wanted_free rfl, .slice (some ⟨W.heap.size, 0, none⟩) 1 1, W.alloc (.cells #[.int .u8 (K : Int)] 5), by simp [go_sem, Act.eval, f10], (Below.refl _ _).alloc (Nat.le_refl _) _, _, _, rfl, Sees.fresh W _ _ _ (b8_toNat hK).symm⟩
  · intro a w5 hR' hsize hdef hnew hold
    have h8 : ∃ A' c', a.tmps.getD 8 undef = .slice A' (la).length c' ∧ w5.ownsRow (B + 1) 5 1 (.slice A' (la).length c') (la).length (cs (la)) := hnew 2 8 (by omega) (by kernel_rfl)
    obtain ⟨A8, c8, f8, s8⟩ := h8
    have h11 : ∃ A' c', a.tmps.getD 11 undef = .slice A' ([b8 K]).length c' ∧ Sees w5 A' ([b8 K]).length ([b8 K]) := hnew 5 11 (by omega) (by kernel_rfl)
    obtain ⟨A11, c11, f11, s11⟩ := h11
    have f3 : a.tmps.getD 3 undef = Value.pointer (some ⟨B, 0, none⟩) := hold 3 (fun i _ => Facts.not_dst (by kernel_rfl) i)
    have f4 : a.tmps.getD 4 undef = Value.slice none 0 0 := hold 4 (fun i _ => Facts.not_dst (by kernel_rfl) i)
    obtain ⟨tm, df⟩ := a
    simp only [] at hdef hsize f3 f4 f8 f11
    have hlit : tm = #[tm.getD 0 undef, tm.getD 1 undef, tm.getD 2 undef, tm.getD 3 undef, tm.getD 4 undef, tm.getD 5 undef, tm.getD 6 undef, tm.getD 7 undef, tm.getD 8 undef, tm.getD 9 undef, tm.getD 10 undef, tm.getD 11 undef, tm.getD 12 undef, tm.getD 13 undef, tm.getD 14 undef, tm.getD 15 undef, tm.getD 16 undef, tm.getD 17 undef, tm.getD 18 undef, tm.getD 19 undef, tm.getD 20 undef, tm.getD 21 undef, tm.getD 22 undef, tm.getD 23 undef, tm.getD 24 undef] := (Facts.array_lit tm hsize).trans rfl
    rw [f3, f4, f8, f11] at hlit
    clear f3 f4 f8 f11 hsize hnew hold
    generalize tm.getD 0 undef = x0 at hlit
    generalize tm.getD 1 undef = x1 at hlit
    generalize tm.getD 2 undef = x2 at hlit
    generalize tm.getD 5 undef = x5 at hlit
    generalize tm.getD 6 undef = x6 at hlit
    generalize tm.getD 7 undef = x7 at hlit
    generalize tm.getD 9 undef = x9 at hlit
    generalize tm.getD 10 undef = x10 at hlit
    generalize tm.getD 12 undef = x12 at hlit
    generalize tm.getD 13 undef = x13 at hlit
    generalize tm.getD 14 undef = x14 at hlit
    generalize tm.getD 15 undef = x15 at hlit
    generalize tm.getD 16 undef = x16 at hlit
    generalize tm.getD 17 undef = x17 at hlit
    generalize tm.getD 18 undef = x18 at hlit
    generalize tm.getD 19 undef = x19 at hlit
    generalize tm.getD 20 undef = x20 at hlit
    generalize tm.getD 21 undef = x21 at hlit
    generalize tm.getD 22 undef = x22 at hlit
    generalize tm.getD 23 undef = x23 at hlit
    generalize tm.getD 24 undef = x24 at hlit
    subst hlit
    subst hdef
    try simp only []
    simp only [List.drop_succ_cons, List.drop_zero]
    have B5 := Lib.hid (HC.out w5 hR').2
    have OW5 := Lib.hid s8
    have SE5 := Lib.hid s11
    clear hR' s8 s11 HC
    go_wp2_with (first | (at_builtin; refine wpList_app rfl _ _ 35 rfl (B + 1) 5 i (.int .u8 0) Tryz.underlying35 hi hz hsz hby rfl A8 la.length c8 la rfl OW5.out A11 1 c11 [b8 K] rfl ?s1 ?d1 ?d2 ?_))
    case s1 => exact SE5.out
    case d1 => have := HLE.out.1; omega
    case d2 => have h1 := B5.out.size; have h2 := HUS.out; omega
    intro A6 c6 w6 own6 hb6
    rw [← HLB2.out] at own6
    obtain ⟨N6, hN6⟩ : ∃ N6, N6 = la.length + 1 := ⟨_, rfl⟩
    rw [← hN6] at own6 ⊢
    obtain rfl : N6 = lb2.length := by rw [hN6, HLB2.out]; simp
    have B6 := Lib.hid (B5.out.trans (hb6.mono (by have h2 := HUS.out; omega)))
    have OW6 := Lib.hid own6
    obtain ⟨k1, k2, k3⟩ := CELLS.out w6 B6.out
    clear own6 hb6 hN6
    by_cases hk1 : K = 1
    · have hkb : ((K : Int) == 1) = true := by rw [beq_iff_eq]; omega
      have hz1 := HLZ2.out
      rw [if_pos hk1] at hz1
      have TZ := Lib.hid (by
        have := plt A6 c6 lb2 A c tx w6 (Sees.of_own OW6.out) (HS.out.below B6.out) (by have := HLE.out.2.1; omega) (by have := HLE.out.2.2; omega)
        rw [List.append_assoc, ← hz1] at this
        exact this : Calls Tryz.prog 52 #[.slice A6 lb2.length c6, .slice A tx.length c] w6 (GivesR w6 lz))
      clear hk1 hz1
      go_wp2_with fail
      refine TZ.out.mono ?_
      rintro e w7 ⟨A7, c7, rfl, own7, hb7⟩
      have OW7 := Lib.hid (Own.lower (base' := w.heap.size) own7 (by have h1 := B6.out.size; have h2 := HUS.out; have h3 := HB.out; omega))
      have B7 := Lib.hid (BU.out.trans ((B6.out.trans (hb7.mono B6.out.size)).mono BU.out.size))
      clear own7 hb7 TZ
      go_wp2
      go_ret
      exact ⟨A7, c7, rfl, OW7.out, B7.out⟩
    · have hkb : ((K : Int) == 1) = false := by rw [beq_eq_false_iff_ne]; omega
      have hz1 := HLZ2.out
      rw [if_neg hk1] at hz1
      have hnm := qb_lt N hN
      have TZ := Lib.hid (by
        have := plf A6 c6 lb2 (qb N : Int) w6 (Sees.of_own OW6.out) (by have := HLE.out.2.1; omega) (by omega) (by omega)
        rw [Int.toNat_natCast, ← hz1] at this
        exact this : Calls Tryz.prog 53 #[.slice A6 lb2.length c6, .int .u64 (qb N : Int)] w6 (GivesR w6 lz))
      clear hk1 hz1 hnm
      go_wp2_with fail
      refine (bits_any N _).mono ?_
      rintro e w7 ⟨rfl, rfl⟩
      go_wp2_with fail
      refine TZ.out.mono ?_
      rintro e w7 ⟨A7, c7, rfl, own7, hb7⟩
      have OW7 := Lib.hid (Own.lower (base' := w.heap.size) own7 (by have h1 := B6.out.size; have h2 := HUS.out; have h3 := HB.out; omega))
      have B7 := Lib.hid (BU.out.trans ((B6.out.trans (hb7.mono B6.out.size)).mono BU.out.size))
      clear own7 hb7 TZ
      go_wp2
      go_ret
      exact ⟨A7, c7, rfl, OW7.out, B7.out⟩
end Go.Proofs.YtjceeojbnpcpfaaGreat.Fol
