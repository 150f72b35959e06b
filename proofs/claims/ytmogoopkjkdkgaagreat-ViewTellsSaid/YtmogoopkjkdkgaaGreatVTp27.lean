/- Layer 15: a fold's bytes are few. Package fold: layCell. Package vector: Within, Same, Apart, Lack. The law VectorReads, walked out of what is asked of package vector. Package vector: Lay, Bytes, Of. -/
import Derived.BigRegion
import Derived.Laws.Externs
import Derived.Test.YtmogoopkjkdkgaaGreatVTp03
import Derived.Test.YtmogoopkjkdkgaaGreatVTp11
import Derived.Test.YtmogoopkjkdkgaaGreatVTp26
namespace Go.Proofs.YtmogoopkjkdkgaaGreat.Vw
open Go Go.RowKit Go.Proofs.YtmogoopkjkdkgaaGreat.Words Go.Proofs.YtmogoopkjkdkgaaGreat.Enc Go.Proofs.YtmogoopkjkdkgaaGreat.Q Go.Proofs.YtmogoopkjkdkgaaGreat.Evt Go.Proofs.YtmogoopkjkdkgaaGreat.Fol
set_option linter.unusedVariables false
set_option linter.unusedSimpArgs false

theorem fix_lenW (n : Nat) : (fix n).length = 8 := by simp [fix]
theorem celL_ok {p : Key × Cel} (h1 : p.1.length ≤ 64) (h2 : p.2.text.length ≤ 1048576) : (celL p).length ≤ 1048700 := by
  unfold celL
  have a := enc_ten (n := p.1.length) (by omega)
  have b := enc_ten (n := p.2.text.length) (by omega)
  simp only [List.length_append, List.length_cons, List.length_nil]
  split
  · rw [List.length_append]; omega
  · rw [fix_lenW]; omega
theorem celsL_ok : ∀ (L : List (Key × Cel)), (∀ p ∈ L, p.1.length ≤ 64 ∧ p.2.text.length ≤ 1048576) → (celsL L).length ≤ 1048700 * L.length
  | [], _ => by simp [celsL]
  | p :: r, h1 => by
    have ih := celsL_ok r (fun q hq => h1 q (List.mem_cons_of_mem _ hq))
    have := celL_ok (h1 p List.mem_cons_self).1 (h1 p List.mem_cons_self).2
    unfold celsL at ih ⊢
    rw [List.flatMap_cons, List.length_append, List.length_cons]
    omega
theorem encs_leW : ∀ (v : List Nat), (∀ x ∈ v, x < 18446744073709551616) → (Vec.encs v).length ≤ 10 * v.length
  | [], _ => by simp [Vec.encs]
  | x :: r, h => by
    have ih := encs_leW r (fun y hy => h y (List.mem_cons_of_mem _ hy))
    have := enc_ten (n := x) (h x List.mem_cons_self)
    unfold Vec.encs at ih ⊢
    rw [List.flatMap_cons, List.length_append, List.length_cons]
    omega
theorem foldL_ok {F : Fo} (ok : Ok F) (hL : F.L.length ≤ 60) : (foldL F).length ≤ 100000000 := by
  have h1 := celsL_ok F.L (fun p hp => ⟨(ok.cel p hp).1, (ok.cel p hp).2.1⟩)
  have a := enc_ten (n := F.time) (by have := ok.time; omega)
  have b := enc_ten (n := F.wr) (by have := ok.wr; omega)
  have c := enc_ten (n := F.L.length) (by omega)
  have d : (Vec.layL F.H).length ≤ 650 := by
    unfold Vec.layL
    have e1 := enc_ten (n := Vec.trimN F.H F.H.length) (by have := Vec.trimN_le F.H F.H.length; rw [ok.h] at this ⊢; omega)
    have e2 := encs_leW (Vec.trimL F.H) (fun x hx => by
      have := ok.hs x (List.mem_of_mem_take hx)
      omega)
    have e3 : (Vec.trimL F.H).length ≤ 64 := by rw [Vec.trimL_len]; have := Vec.trimN_le F.H F.H.length; rw [ok.h] at this ⊢; exact this
    rw [List.length_append]
    omega
  unfold foldL headF
  simp only [List.length_append, fix_lenW]
  omega
end Go.Proofs.YtmogoopkjkdkgaaGreat.Vw
namespace Go.Proofs.YtmogoopkjkdkgaaGreat.Fol
open Go Go.RowKit Go.Proofs.YtmogoopkjkdkgaaGreat.Words Go.Proofs.YtmogoopkjkdkgaaGreat.Enc Go.Proofs.YtmogoopkjkdkgaaGreat.Q Go.Proofs.YtmogoopkjkdkgaaGreat.Evt Go.Proofs.YtmogoopkjkdkgaaGreat.Made
set_option linter.unusedVariables false
set_option linter.unusedSimpArgs false

theorem plt (A : Option Addr) (c : Nat) (l : List UInt8) (Q : Option Addr) (k : Nat) (q : List UInt8) (w : World) (hs : Sees w A l.length l) (hq : Sees w Q q.length q) (hn : l.length ≤ 900000000) (hm : q.length ≤ 900000000) :
    Calls Tryz.prog 72 #[.slice A l.length c, .slice Q q.length k] w (GivesR w (l ++ enc q.length ++ q)) := (layText_any A _ c l Q _ k q w hs hq hn hm).mono fun _ _ h => gives_of h
theorem plf (A : Option Addr) (c : Nat) (l : List UInt8) (x : Int) (w : World) (hs : Sees w A l.length l) (hn : l.length ≤ 1000000000) (hx0 : 0 ≤ x) (hx : x < 18446744073709551616) :
    Calls Tryz.prog 33 #[.slice A l.length c, .int .u64 x] w (GivesR w (l ++ fix x.toNat)) := (layFixed_any A _ c l x w hs hn hx0 hx).mono fun _ _ h => gives_of h
theorem pll (A : Option Addr) (c : Nat) (l : List UInt8) (x : Int) (w : World) (hs : Sees w A l.length l) (hn : l.length ≤ 1000000000) (hx0 : 0 ≤ x) (hx : x < 18446744073709551616) :
    Calls Tryz.prog 32 #[.slice A l.length c, .int .u64 x] w (GivesR w (l ++ enc x.toNat)) := (lay_any A _ c l x w hs hn hx0 hx).mono fun _ _ h => gives_of h

set_option maxRecDepth 100000 in
set_option maxHeartbeats 2000000 in
theorem layCell_any (key : ByteArray) (ky : List UInt8) (K : Nat) (A : Option Addr) (c N : Nat) (tx : List UInt8) (w : World) (hkey : key = ⟨ky.toArray⟩) (hs : Sees w A tx.length tx) (hk : ky.length ≤ 100000) (hn : tx.length ≤ 100000000) (hK : K < 256) (hN : N < 18446744073709551616) :
    Calls Tryz.prog 36 #[.string key, .agg #[.int .u8 (K : Int), .slice A tx.length c, .float .f64 N]] w (GivesR w (celL (ky, ⟨K, tx, N⟩))) := by
  obtain ⟨i, hi, hz, hsz, hby⟩ := info_parts info8
  have hsf := store_float Tryz.prog
  obtain ⟨B, hB⟩ : ∃ B, B = w.heap.size := ⟨_, rfl⟩
  obtain ⟨u, hu⟩ : ∃ u, u = w.alloc (.cells #[.int .u8 (K : Int), .slice A tx.length c, .float .f64 N] 69) := ⟨_, rfl⟩
  have bu : Below w.heap.size w u := by rw [hu]; exact (Below.refl _ _).alloc (Nat.le_refl _) _
  have hus : u.heap.size = B + 1 := by rw [hu, hB]; simp
  have gB : u.heap[B]? = some (.cells #[.int .u8 (K : Int), .slice A tx.length c, .float .f64 N] 69 (0, 0)) := by rw [hu, hB]; exact heap_alloc_new w _
  have CELLS := Lib.hid (fun (W : World) (hW : Below u.heap.size u W) => (by
    have g := (hW.block B (by omega)).trans gB
    exact ⟨by rw [cell_of_row W B _ _ _ _ g]; rfl, by rw [cell_of_row W B _ _ _ _ g]; rfl, by rw [cell_of_row W B _ _ _ _ g]; rfl⟩ : W.cell? ⟨B, 0, none⟩ = some (.int .u8 (K : Int)) ∧ W.cell? ⟨B, 1, none⟩ = some (.slice A tx.length c) ∧ W.cell? ⟨B, 2, none⟩ = some (.float .f64 N)))
  have hkd : key.data.toList = ky := by rw [hkey]
  have hks : key.size = ky.length := by rw [hkey]; show ky.toArray.size = ky.length; simp
  have hek := enc_ten (n := ky.length) (by omega)
  obtain ⟨la, hla⟩ : ∃ la, la = enc ky.length ++ ky := ⟨_, rfl⟩
  have hleA : la.length ≤ 100100 := by have := congrArg List.length hla; rw [List.length_append] at this; omega
  obtain ⟨lb2, hlb2⟩ : ∃ lb2, lb2 = la ++ [b8 K] := ⟨_, rfl⟩
  have hleB : lb2.length ≤ 100101 := by rw [hlb2]; simp; omega
  obtain ⟨lz, hlz⟩ : ∃ lz, lz = celL (ky, ⟨K, tx, N⟩) := ⟨_, rfl⟩
  have hlz2 : lz = lb2 ++ (if K = 1 then enc tx.length ++ tx else fix (qb N)) := by rw [hlz, hlb2, hla]; unfold celL; simp only [List.append_assoc]
  rw [← hlz]
  have TX := Lib.hid (fun (W : World) Q k (hq : Sees W Q ky.length ky) => (by have := plt none 0 [] Q k ky W (Sees.nil _ _) hq (by simp) (by omega); rw [List.nil_append, ← hla] at this; exact this : Calls Tryz.prog 72 #[.slice none 0 0, .slice Q ky.length k] W (GivesR W la)))
  have HC := Lib.hid (fun (W : World) (hW : Below u.drew.heap.size u.drew W) => (⟨(CELLS.out W ((Below.refl _ _).drew.trans hW)).1, (Below.refl _ _).drew.trans hW⟩ : W.cell? ⟨B, 0, none⟩ = some (.int .u8 (K : Int)) ∧ Below u.heap.size u W))
  have HS := Lib.hid (hs.below bu)
  have HU := Lib.hid hu
  have HB := Lib.hid hB
  have HUS := Lib.hid hus
  have BU := Lib.hid bu
  have HKD := Lib.hid hkd
  have HKS := Lib.hid hks
  have HLZ2 := Lib.hid hlz2
  have HLB2 := Lib.hid hlb2
  have HLE := Lib.hid (And.intro hleA (And.intro hleB hn))
  clear hu hB bu gB hkd hks hek hla hlb2 hlz hlz2 hs hkey hleA hleB hn hus
  go_enter Tryz.func36, Tryz.ntmps36
  go_upto_region 1 with fail
  rw [← HU.out, ← HB.out]
  refine Facts.wp_region_tail 6 (n := 25) (by kernel_rfl) (by kernel_rfl) (by kernel_rfl) rfl [Facts.Pred.is (.string key), PRowE (ky), POwnE (B + 1) (la), Facts.Pred.is (.pointer (some ⟨B, 0, none⟩)), Facts.Pred.is (.int .u8 (K : Int)), PRowE ([b8 K])] ?_ ?_
  · refine ⟨?_, ?_, ?_, ?_, ?_, ?_, trivial⟩
    · refine Facts.step_is (.string key) fun a W hR hold hnew => ?_
      have f0 : a.tmps.getD 0 undef = .string key := hold 0 (by kernel_rfl)
      refine ⟨Facts.wanted_free rfl, ?_, fun _ => rfl⟩; simp [go_sem, Act.eval, f0]
    · refine Facts.step_new fun a W hR hold hnew => ?_
      have f6 : a.tmps.getD 6 undef = .string key := hnew 0 6 (by kernel_rfl)
      have hs := sees_key HKD.out (sees_bytes W 5 key)
      have hrun := run_conv key W
      rw [HKS.out] at hrun
      exact ⟨Facts.wanted_free rfl, .slice (some ⟨W.heap.size, 0, none⟩) ky.length (grownCap W ky.length 0 5), Lib.bytesWorld W 5 key, by simp [go_sem, Act.eval, f6, hrun], below_bytes W 5 key, _, _, rfl, hs⟩
    · refine Facts.step_call fun a W hR hold hnew => ?_
      have h7 : ∃ A' c', a.tmps.getD 7 undef = .slice A' (ky).length c' ∧ Sees W A' (ky).length (ky) := hnew 1 7 (by kernel_rfl)
      obtain ⟨A7, c7, f7, s7⟩ := h7
      have q := (HC.out W hR).2
      refine ⟨Facts.wanted_free rfl, 72, #[.slice none 0 0, .slice A7 ky.length c7], by simp [go_sem, Act.eval, f7], ?_⟩
      refine (TX.out W A7 c7 s7).mono ?_
      rintro e w8 ⟨A8, c8, rfl, own8, hb8⟩
      exact ⟨_, rfl, hb8, A8, c8, rfl, Own.lower own8 (by have h1 := q.size; have h2 := HUS.out; omega)⟩
    · refine Facts.step_is (.pointer (some ⟨B, 0, none⟩)) fun a W hR hold hnew => ?_
      have f3 : a.tmps.getD 3 undef = .pointer (some ⟨B, 0, none⟩) := hold 3 (by kernel_rfl)
      refine ⟨Facts.wanted_free rfl, ?_, fun _ => rfl⟩; simp [go_sem, Act.eval, f3]
    · refine Facts.step_is (.int .u8 (K : Int)) fun a W hR hold hnew => ?_
      have f9 : a.tmps.getD 9 undef = .pointer (some ⟨B, 0, none⟩) := hnew 3 9 (by kernel_rfl)
      have q := (HC.out W hR).1
      refine ⟨Facts.wanted_free rfl, ?_, fun _ => rfl⟩; simp [go_sem, Act.eval, f9, q]
    · refine Facts.step_new fun a W hR hold hnew => ?_
      have f10 : a.tmps.getD 10 undef = .int .u8 (K : Int) := hnew 4 10 (by kernel_rfl)
      rw [Array.getD_eq_getD_getElem?] at f10
      exact ⟨Facts.wanted_free rfl, .slice (some ⟨W.heap.size, 0, none⟩) 1 1, W.alloc (.cells #[.int .u8 (K : Int)] 5), by simp [go_sem, Act.eval, f10], (Below.refl _ _).alloc (Nat.le_refl _) _, _, _, rfl, Sees.fresh W _ _ _ (b8_toNat hK).symm⟩
  · intro a w5 hR' hsize hdef hnew hold
    have h8 : ∃ A' c', a.tmps.getD 8 undef = .slice A' (la).length c' ∧ w5.ownsRow (B + 1) 5 1 (.slice A' (la).length c') (la).length (cs (la)) := hnew 2 8 (by omega) (by kernel_rfl)
    obtain ⟨A8, c8, f8, s8⟩ := h8
    have h11 : ∃ A' c', a.tmps.getD 11 undef = .slice A' ([b8 K]).length c' ∧ Sees w5 A' ([b8 K]).length ([b8 K]) := hnew 5 11 (by omega) (by kernel_rfl)
    obtain ⟨A11, c11, f11, s11⟩ := h11
    have f3 : a.tmps.getD 3 undef = Value.pointer (some ⟨B, 0, none⟩) := hold 3 (fun i _ => Facts.not_dst (by kernel_rfl) i)
    have f4 : a.tmps.getD 4 undef = Value.slice none 0 0 := hold 4 (fun i _ => Facts.not_dst (by kernel_rfl) i)
    obtain ⟨tm, df⟩ := a
    simp only [] at hdef hsize f3 f4 f8 f11
    obtain ⟨xq, hxq, hlit⟩ := Facts.lits tm hsize Facts.idx25 Facts.idx25_eq
    rw [hxq] at f3 f4 f8 f11
    simp only [Facts.idx25, List.map_cons, List.map_nil, f3, f4, f8, f11] at hlit
    clear f3 f4 f8 f11 hsize hnew hold hxq
    subst hlit
    subst hdef
    try simp only []
    simp only [List.drop_succ_cons, List.drop_zero]
    have B5 := Lib.hid (HC.out w5 hR').2
    have OW5 := Lib.hid s8
    have SE5 := Lib.hid s11
    clear hR' s8 s11 HC
    go_wp2_with (first | (at_builtin; refine wpList_app rfl _ _ 29 rfl (B + 1) 5 i (.int .u8 0) Tryz.underlying29 hi hz hsz hby rfl A8 la.length c8 la rfl OW5.out A11 1 c11 [b8 K] rfl ?s1 ?d1 ?d2 ?_))
    case s1 => exact SE5.out
    case d1 => have := HLE.out.1; omega
    case d2 => have h1 := B5.out.size; have h2 := HUS.out; omega
    intro A6 c6 w6 own6 hb6
    rw [← HLB2.out] at own6
    obtain ⟨N6, hN6⟩ : ∃ N6, N6 = la.length + 1 := ⟨_, rfl⟩
    rw [← hN6] at own6 ⊢
    obtain rfl : N6 = lb2.length := by rw [hN6, HLB2.out]; simp
    have B6 := Lib.hid (B5.out.trans (hb6.mono (by have h2 := HUS.out; omega)))
    have OW6 := Lib.hid own6
    obtain ⟨k1, k2, k3⟩ := CELLS.out w6 B6.out
    clear own6 hb6 hN6
    by_cases hk1 : K = 1
    · have hkb : ((K : Int) == 1) = true := by rw [beq_iff_eq]; omega
      have hz1 := HLZ2.out
      rw [if_pos hk1] at hz1
      have TZ := Lib.hid (by
        have := plt A6 c6 lb2 A c tx w6 (Sees.of_own OW6.out) (HS.out.below B6.out) (by have := HLE.out.2.1; omega) (by have := HLE.out.2.2; omega)
        rw [List.append_assoc, ← hz1] at this
        exact this : Calls Tryz.prog 72 #[.slice A6 lb2.length c6, .slice A tx.length c] w6 (GivesR w6 lz))
      clear hk1 hz1
      go_wp2_with fail
      refine TZ.out.mono ?_
      rintro e w7 ⟨A7, c7, rfl, own7, hb7⟩
      have OW7 := Lib.hid (Own.lower (base' := w.heap.size) own7 (by have h1 := B6.out.size; have h2 := HUS.out; have h3 := HB.out; omega))
      have B7 := Lib.hid (BU.out.trans ((B6.out.trans (hb7.mono B6.out.size)).mono BU.out.size))
      clear own7 hb7 TZ
      go_wp2
      go_ret
      exact ⟨A7, c7, rfl, OW7.out, B7.out⟩
    · have hkb : ((K : Int) == 1) = false := by rw [beq_eq_false_iff_ne]; omega
      have hz1 := HLZ2.out
      rw [if_neg hk1] at hz1
      have hnm := qb_lt N hN
      have TZ := Lib.hid (by
        have := plf A6 c6 lb2 (qb N : Int) w6 (Sees.of_own OW6.out) (by have := HLE.out.2.1; omega) (by omega) (by omega)
        rw [Int.toNat_natCast, ← hz1] at this
        exact this : Calls Tryz.prog 33 #[.slice A6 lb2.length c6, .int .u64 (qb N : Int)] w6 (GivesR w6 lz))
      clear hk1 hz1 hnm
      go_wp2_with fail
      refine (bits_any N _).mono ?_
      rintro e w7 ⟨rfl, rfl⟩
      go_wp2_with fail
      refine TZ.out.mono ?_
      rintro e w7 ⟨A7, c7, rfl, own7, hb7⟩
      have OW7 := Lib.hid (Own.lower (base' := w.heap.size) own7 (by have h1 := B6.out.size; have h2 := HUS.out; have h3 := HB.out; omega))
      have B7 := Lib.hid (BU.out.trans ((B6.out.trans (hb7.mono B6.out.size)).mono BU.out.size))
      clear own7 hb7 TZ
      go_wp2
      go_ret
      exact ⟨A7, c7, rfl, OW7.out, B7.out⟩
end Go.Proofs.YtmogoopkjkdkgaaGreat.Fol
namespace Go.Proofs.YtmogoopkjkdkgaaGreat.Vec
open Go Go.RowKit Go.Proofs.YtmogoopkjkdkgaaGreat.Words Go.Proofs.YtmogoopkjkdkgaaGreat.Enc Go.Proofs.YtmogoopkjkdkgaaGreat.Made Go.Proofs.YtmogoopkjkdkgaaGreat.Tape
set_option linter.unusedVariables false
set_option linter.unusedSimpArgs false

theorem below_drewN (w : World) (k : Nat) : Below w.heap.size w (w.drewN k) := by
  have := Below.refl w.heap.size w
  exact ⟨this.os, this.tape, this.output, this.size, this.block⟩
end Go.Proofs.YtmogoopkjkdkgaaGreat.Vec
namespace Go.Proofs.YtmogoopkjkdkgaaGreat.Vec
open Go Go.RowKit Go.Proofs.YtmogoopkjkdkgaaGreat.Words Go.Proofs.YtmogoopkjkdkgaaGreat.Enc Go.Proofs.YtmogoopkjkdkgaaGreat.Made Go.Proofs.YtmogoopkjkdkgaaGreat.Tape
set_option linter.unusedVariables false
set_option linter.unusedSimpArgs false

theorem SeesU.beside {S : List Nat} {w w' : World} {A : Option Addr} {n : Nat} {l : List Nat} (h : SeesU w A n l) (hb : Beside S w w') (hS : Out S A n) : SeesU w' A n l := by
  refine ⟨h.1, fun hn => ?_⟩
  obtain ⟨b, o, hA, hc⟩ := h.2 hn
  exact ⟨b, o, hA, fun j u hu => hb.cell (hc j u hu) (show b ∉ S from hS hn _ hA)⟩
theorem Took2.beside {S : List Nat} {w w' : World} {A : Option Addr} {n c : Nat} {a : List Nat} (h : Took2 w A n c a) (hb : Beside S w w') (hS : Out S A n) : Took2 w' A n c a := ⟨h.1.beside hb hS, h.2⟩
end Go.Proofs.YtmogoopkjkdkgaaGreat.Vec
namespace Go.Proofs.YtmogoopkjkdkgaaGreat.Vec
open Go Go.RowKit Go.Proofs.YtmogoopkjkdkgaaGreat.Words Go.Proofs.YtmogoopkjkdkgaaGreat.Enc Go.Proofs.YtmogoopkjkdkgaaGreat.Made Go.Proofs.YtmogoopkjkdkgaaGreat.Tape
set_option linter.unusedVariables false
set_option linter.unusedSimpArgs false

set_option maxRecDepth 100000 in
set_option maxHeartbeats 2000000 in
theorem vlay_any : LaySaid := fun A Q n c pn pc v p w tv hs hp hpc hpc2 hpn => by
  have hn : n ≤ 64 := by rw [← tv.1.1]; exact hs.1
  obtain ⟨K, hK⟩ : ∃ K, K = trimN v n := ⟨_, rfl⟩
  have hKn : K ≤ n := by rw [hK]; exact trimN_le v n
  have hlay : layL v = enc K ++ encs (v.take K) := by unfold layL trimL; rw [tv.1.1, ← hK]
  have HLAY := Lib.hid hlay
  have TR := trim_at A n c v w tv.1 tv.2.2.1 tv.2.2.2.2 tv.2.2.2.1
  unfold Trims at TR
  rw [← hK] at TR
  have LEN := Lib.hid tv.1.1
  have HT := Lib.hid TR
  clear hlay hK TR tv
  have hi := info8
  cases hc : Tryz.prog.info? 5 with
  | none => rw [hc] at hi; cases hi
  | some i =>
  rw [hc] at hi
  simp only [Option.map_some, Option.some.injEq, Prod.mk.injEq] at hi
  obtain ⟨hz, hsz, hby⟩ := hi
  have hi := hc
  clear hc
  go_enter Tryz.func66, Tryz.ntmps66
  go_wp2_with fail
  refine HT.out.mono ?_
  rintro e w0 ⟨R, rc, rfl, own0, b0⟩
  have sr := SeesU.of_own own0
  have hp0 := hp.below b0
  have hw : IntKind.u64.wrap (K : Int) = (K : Int) := by
    have h : IntKind.u64.wrap (K : Int) = (K : Int) % 18446744073709551616 := rfl
    rw [h]; omega
  have SV : Hid (∀ W, Below w0.heap.size w0 W → ∀ j, j < K → ∃ g o, R = some ⟨g, o, none⟩ ∧ W.cell? ⟨g, o + j, none⟩ = some (.int .u64 (at_ v j : Int))) := Lib.hid fun W hW j hj => by
    obtain ⟨g, o, h1, h2⟩ := (sr.below hW).get hj
    rw [at_take, if_pos hj] at h2
    exact ⟨g, o, h1, h2⟩
  clear own0 sr hp HT
  go_wp2_with fail
  refine (lay_any Q pn pc p (K : Int) w0 hp0 (by omega) (by omega) (by omega)).mono ?_
  rintro e w1 ⟨P1, c1, rfl, own1, b1⟩
  rw [Int.toNat_natCast] at own1 ⊢
  obtain ⟨L1, hL1⟩ : ∃ L1, L1 = (enc K).length := ⟨_, rfl⟩
  have hL1' : L1 ≤ 10 := by rw [hL1]; exact enc_ten (by omega)
  have OWN1 := Lib.hid own1
  have HL1 := Lib.hid hL1
  clear own1
  rw [← hL1]
  clear hL1
  have HPN := Lib.hid hp0.1
  clear hp0
  go_wp2_with fail
  go_loopw [1, 17] (fun x y wr => ∃ (P' : Option Addr) (c' M i : Nat), x = .slice P' M c' ∧ y = .int .i64 (i : Int) ∧ i ≤ K ∧ M ≤ pn + 10 + 10 * i ∧ Hid (M = (p ++ (enc K ++ encs (v.take i))).length) ∧
    wr.ownsRow w0.heap.size 5 1 (.slice P' M c') M (cs (p ++ (enc K ++ encs (v.take i)))) ∧ Below w0.heap.size w0 wr) (fun _ y _ => K - (intOf y).toNat)
  case atStart => exact ⟨P1, c1, pn + L1, 0, rfl, rfl, by omega, by omega, by rw [HL1.out]; simp [encs, Hid, HPN.out], by rw [HL1.out]; simpa [encs] using OWN1.out, b1⟩
  case round =>
    obtain ⟨P', c', M, i', rfl, rfl, hi', hM, HM, own, bb⟩ := hrel
    by_cases hlt : i' < K
    · obtain ⟨g, o, rfl, hcell⟩ := SV.out wr bb i' hlt
      have hx := hs.2 i'
      have hst := encs_take v i' (by rw [LEN.out]; omega)
      have HST := Lib.hid hst
      clear hst
      generalize at_ v i' = x at hcell hx HST
      have hbw := bb.size
      have h1 : (i' : Int) < (K : Int) := by omega
      have LX := Lib.hid (lay_any none 0 0 [] (x : Int) wr (Sees.nil _ _) (by decide) (by omega) (by omega))
      have OWN := Lib.hid own
      clear own
      go_wp2_with fail
      refine LX.out.mono ?_
      rintro e w2 ⟨P2, c2, rfl, own2, b2⟩
      rw [Int.toNat_natCast, Nat.zero_add] at own2 ⊢
      rw [List.nil_append] at own2
      have hl2 : (enc x).length ≤ 10 := enc_ten (by omega)
      have hs2 := Sees.of_own own2
      have ownp := Own.below OWN.out b2 (Nat.le_refl _)
      have b22 := bb.trans (b2.mono hbw)
      have hz2 : w0.heap.size ≤ w2.heap.size := b22.size
      clear own2 b2 LX OWN
      have e2 : p ++ (enc K ++ encs (v.take i')) ++ enc x = p ++ (enc K ++ encs (v.take (i' + 1))) := by rw [HST.out]; simp only [List.append_assoc]
      have HM2 := Lib.hid (show M + (enc x).length = (p ++ (enc K ++ encs (v.take (i' + 1)))).length by rw [← e2, List.length_append, ← HM.out])
      have HE2 := Lib.hid e2
      clear e2
      generalize hX : (enc x).length = X at hs2 HM2 hl2 ⊢
      clear hX
      go_wp2_with (first | (at_builtin; refine wpList_app rfl _ _ 29 rfl w0.heap.size 5 i (.int .u8 0) Tryz.underlying29 hi hz hsz hby rfl P' M c' (p ++ (enc K ++ encs (v.take i'))) rfl ownp P2 X c2 (enc x) rfl hs2 ?d1 ?d2 ?_))
      case d1 => omega
      case d2 => exact hz2
      intro P3 c3 w3 own3 b3
      rw [← HST.out] at own3
      have b33 := b22.trans b3
      clear ownp hs2 b22 b3
      go_wp2
      go_roundw
      case rel => exact ⟨P3, c3, M + X, i' + 1, rfl, by simp, by omega, by omega, HM2, own3, b33⟩
      case measure => simp [intOf]; omega
    · obtain rfl : i' = K := by omega
      rw [← HLAY.out] at own HM
      have FIN : Hid (GivesB w (p ++ layL v) (.returned (.slice P' M c')) wr) := Lib.hid (by
        have hMM := HM.out
        subst hMM
        exact ⟨P', c', rfl, Sees.of_own own, (Own.cap own).1, (Own.cap own).2, b0.trans (bb.mono b0.size)⟩)
      clear own HM bb
      go_wp2
      go_ret
      exact FIN.out

set_option maxRecDepth 100000 in
theorem vbytes_any : BytesSaid := fun A n c v w tv hs => by
  have LX := vlay_any A none n c 0 0 v [] w tv hs (Sees.nil _ _) (by decide) (by decide) (by decide)
  rw [List.nil_append] at LX
  have HX := Lib.hid LX
  clear LX tv hs
  go_enter Tryz.func31, Tryz.ntmps31
  go_wp2_with fail
  refine HX.out.mono ?_
  rintro e w1 ⟨R, rc, rfl, h1, h2, h3, h4⟩
  have F := Lib.hid (show GivesB w _ (.returned (.slice R (layL v).length rc)) w1 from ⟨R, rc, rfl, h1, h2, h3, h4⟩)
  clear h1 h2 h3 h4 HX
  go_wp2
  go_ret
  exact F.out
end Go.Proofs.YtmogoopkjkdkgaaGreat.Vec
