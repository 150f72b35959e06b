/- Texts of the law ReplicaNil, put together. -/
import Derived.BigRegion
import Derived.Lib.SlBytesConst
import Derived.Deep.Cut
import Derived.Test.YtinjbdgjcadodaaGreatDoorRNp01
import Derived.Test.YtinjbdgjcadodaaGreatDoorRNp03
import Derived.Test.YtinjbdgjcadodaaGreatDoorRNp04
import Derived.Test.YtinjbdgjcadodaaGreatDoorRNp11
set_option linter.unusedVariables false
set_option maxRecDepth 100000
namespace Go.Proofs.YtinjbdgjcadodaaGreatDoor.Sht
open Go Go.RowKit Words Enc Go.Proofs.YtinjbdgjcadodaaGreatDoor.Made
def titleL (k : UInt8) (a b : Nat) : List UInt8 := [97, 110, 97, 49] ++ ([k] ++ (enc a ++ enc b))
def headL (k : UInt8) (a b : Nat) : List UInt8 := wrap (titleL k a b)
theorem titleL_len {k : UInt8} {a b : Nat} (ha : a < 18446744073709551616) (hb : b < 18446744073709551616) : (titleL k a b).length = 5 + (enc a).length + (enc b).length ∧ (titleL k a b).length ≤ 25 := by
 have h1 := enc_ten ha
 have h2 := enc_ten hb
 simp only [titleL, List.length_append, List.length_cons, List.length_nil]
 omega
theorem headL_len {k : UInt8} {a b : Nat} (ha : a < 18446744073709551616) (hb : b < 18446744073709551616) : (headL k a b).length = 1 + (titleL k a b).length + 4 := by
 have h := (titleL_len (k := k) ha hb).2
 unfold headL
 rw [wrap_length, enc_small (by omega)]
 rfl
def titleV (k : UInt8) (a b : Nat) : Value := .agg #[.int .u8 (k.toNat : Int), .int .u64 (a : Int), .int .u64 (b : Int)]
theorem four_all (w : World) (e : TypeId) (A1 A2 A3 A4 : Option Addr) (n1 c1 n2 c2 n3 c3 n4 c4 : Nat) (l1 l2 l3 l4 : List UInt8) (h1 : Sees w A1 n1 l1) (h2 : Sees w A2 n2 l2) (h3 : Sees w A3 n3 l3) (h4 : Sees w A4 n4 l4) (hc1 : n1 ≤ c1) (hc2 : n2 ≤ c2) (hc3 : n3 ≤ c3) (hc4 : n4 ≤ c4) :
  SeesAll (w.alloc (.cells #[.slice A1 n1 c1, .slice A2 n2 c2, .slice A3 n3 c3, .slice A4 n4 c4] e)) (some ⟨w.heap.size, 0, none⟩) 4 [l1, l2, l3, l4] := by
 have hb : Below w.heap.size w (w.alloc (.cells #[.slice A1 n1 c1, .slice A2 n2 c2, .slice A3 n3 c3, .slice A4 n4 c4] e)) := (Below.refl _ _).alloc (Nat.le_refl _) _
 have k1 := h1.below hb
 have k2 := h2.below hb
 have k3 := h3.below hb
 have k4 := h4.below hb
 have e1 := h1.1
 have e2 := h2.1
 have e3 := h3.1
 have e4 := h4.1
 subst e1
 subst e2
 subst e3
 subst e4
 refine ⟨[.slice A1 l1.length c1, .slice A2 l2.length c2, .slice A3 l3.length c3, .slice A4 l4.length c4], ((((Each.nil _).snoc hc1 k1).snoc hc2 k2).snoc hc3 k3).snoc hc4 k4, rfl, fun _ => ⟨w.heap.size, 0, rfl, fun j v hv => ?_⟩⟩
 rw [cell_of_row _ w.heap.size (0 + j) _ e (0, 0) (heap_alloc_new w _), Nat.zero_add]
 simpa using hv
theorem head_any (k : UInt8) (a b : Nat) (w : World) (T : Chk.Tabs w) (ha : a < 18446744073709551616) (hb : b < 18446744073709551616) :
  Calls Tryz.prog 284 #[titleV k a b] w (New w.heap.size (headL k a b).length (headL k a b) w) := by
 unfold titleV
 go_enter Tryz.func284, Tryz.ntmps284
 go_wp2
 have hcap : ∀ (W : World) (A : Option Addr) (n c : Nat) (l : List UInt8), W.ownsRow w.heap.size 5 1 (.slice A n c) n (cs l) → n ≤ c ∧ c ≤ 9223372036854775807 := fun W A n c l h => Own.cap h
 have hb0 : Below w.heap.size w (w.alloc (.cells #[.int .u8 (k.toNat : Int), .int .u64 (a : Int), .int .u64 (b : Int)] 244)) := (Below.refl _ _).alloc (Nat.le_refl _) _
 have g0 : (w.alloc (.cells #[.int .u8 (k.toNat : Int), .int .u64 (a : Int), .int .u64 (b : Int)] 244)).heap[w.heap.size]? = some (.cells #[.int .u8 (k.toNat : Int), .int .u64 (a : Int), .int .u64 (b : Int)] 244 (0, 0)) := heap_alloc_new w _
 have T0 := T.below hb0
 generalize w.alloc (.cells #[.int .u8 (k.toNat : Int), .int .u64 (a : Int), .int .u64 (b : Int)] 244) = W0 at hb0 g0 T0 ⊢
 have hlt : w.heap.size < W0.heap.size := (Array.getElem?_eq_some_iff.1 g0).1
 have TD : Chk.Tabs W0.drew := T0.below (Below.refl _ _).drew
 have cell : ∀ W : World, Keeps.R 4 W0.heap.size W0.drew W → W.cell? ⟨w.heap.size, 0, none⟩ = some (.int .u8 (k.toNat : Int)) ∧ W.cell? ⟨w.heap.size, 1, none⟩ = some (.int .u64 (a : Int)) ∧ W.cell? ⟨w.heap.size, 2, none⟩ = some (.int .u64 (b : Int)) := fun W hR => by
  have g1 : W.heap[w.heap.size]? = _ := (hR.1.block w.heap.size hlt).trans g0
  refine ⟨?_, ?_, ?_⟩ <;> (rw [cell_of_row W w.heap.size _ _ _ _ g1]; rfl)
 have CELL := Lib.hid cell
 clear cell
 have hlen := titleL_len (k := k) ha hb
 have hea := enc_ten ha
 have heb := enc_ten hb
 have hB0 : W0.heap.size ≤ W0.drew.heap.size := Nat.le_refl _
 have hh4 : 4 < (headL k a b).length := by rw [headL_len ha hb]; omega
 refine Keeps.wp_region_keeps (n := 17) (by kernel_rfl) (by kernel_rfl) rfl W0.heap.size [Keeps.Pred.laid (m := 4) W0.heap.size #[.int .u8 97, .int .u8 110, .int .u8 97, .int .u8 49] 5, Keeps.Pred.row 4 [97, 110, 97, 49], Keeps.Pred.is (.pointer (some ⟨w.heap.size, 0, none⟩)), Keeps.Pred.is (.int .u8 (k.toNat : Int)), Keeps.Pred.row 1 [k], Keeps.Pred.is (.pointer (some ⟨w.heap.size, 1, none⟩)), Keeps.Pred.is (.int .u64 (a : Int)),
  Keeps.Pred.row (enc a).length (enc a), Keeps.Pred.is (.pointer (some ⟨w.heap.size, 2, none⟩)), Keeps.Pred.is (.int .u64 (b : Int)), Keeps.Pred.row (enc b).length (enc b), Keeps.Pred.rows 4 [[97, 110, 97, 49], [k], enc a, enc b], Keeps.Pred.row (titleL k a b).length (titleL k a b), Keeps.Pred.own W0.heap.size 5 (headL k a b).length (headL k a b) hh4, Keeps.Pred.own W0.heap.size 5 (headL k a b).length (headL k a b) hh4] ?_ ?_
 ·refine ⟨?_, ?_, ?_, ?_, ?_, ?_, ?_, ?_, ?_, ?_, ?_, ?_, ?_, ?_, ?_, trivial⟩
  ·-- 0: the mark
   refine Keeps.step_new fun a W hR hold hnew => ?_
   have hl := Keeps.laid_new (m := 4) (B := W0.heap.size) W #[.int .u8 97, .int .u8 110, .int .u8 97, .int .u8 49] 5 hR.1.size
   exact ⟨Facts.wanted_free rfl, .slice (some ⟨W.heap.size, 0, none⟩) 4 4, W.alloc (.cells #[.int .u8 97, .int .u8 110, .int .u8 97, .int .u8 49] 5), by simp [go_sem, Act.eval], hl.1, hl.2⟩
  ·-- 1: it is marked
   refine Keeps.step_new fun a W hR hold hnew => ?_
   have h3 : ∃ g fr, a.tmps.getD 3 undef = .slice (some ⟨g, 0, none⟩) 4 4 ∧ W0.heap.size ≤ g ∧ W.heap[g]? = some (.cells #[.int .u8 97, .int .u8 110, .int .u8 97, .int .u8 49] 5 fr) := hnew 0 3 (by kernel_rfl)
   obtain ⟨g, fr, f3, hgB, hg⟩ := h3
   obtain ⟨W', hrun, hR'⟩ := Keeps.run_mark (P := Tryz.prog) 4 4 Tryz.underlying28 Tryz.underlying5 hg hgB (m := 4) (Nat.le_refl _)
   refine ⟨Facts.wanted_free rfl, .slice (some ⟨g, 0, none⟩) 4 4, W', by simp [go_sem, Act.eval, f3, hrun], hR', _, 4, rfl, Nat.le_refl _, by omega, rfl, fun _ => ⟨g, 0, rfl, fun j u hj => hR'.2.cell ?_⟩⟩
   rw [cell_of_row W g (0 + j) _ _ _ hg]
   match j, hj with
   | 0, hj => simp at hj; subst hj; rfl
   | 1, hj => simp at hj; subst hj; rfl
   | 2, hj => simp at hj; subst hj; rfl
   | 3, hj => simp at hj; subst hj; rfl
  ·-- 2
   refine Keeps.step_is (.pointer (some ⟨w.heap.size, 0, none⟩)) fun a W hR hold hnew => ?_
   have f1 : a.tmps.getD 1 undef = .pointer (some ⟨w.heap.size, 0, none⟩) := hold 1 (by kernel_rfl)
   refine ⟨Facts.wanted_free rfl, ?_, fun _ => rfl⟩; simp [go_sem, Act.eval, f1]
  ·-- 3
   refine Keeps.step_is (.int .u8 (k.toNat : Int)) fun a W hR hold hnew => ?_
   have f5 : a.tmps.getD 5 undef = .pointer (some ⟨w.heap.size, 0, none⟩) := hnew 2 5 (by kernel_rfl)
   have hc := (CELL.out W hR).1
   refine ⟨Facts.wanted_free rfl, ?_, fun _ => rfl⟩; simp [go_sem, Act.eval, f5, hc]
  ·-- 4
   refine Keeps.step_new fun a W hR hold hnew => ?_
   have f6 : a.tmps.getD 6 undef = .int .u8 (k.toNat : Int) := hnew 3 6 (by kernel_rfl)
   refine ⟨Facts.wanted_free rfl, .slice (some ⟨W.heap.size, 0, none⟩) 1 1, W.alloc (.cells #[.int .u8 (k.toNat : Int)] 5), by rw [Array.getD_eq_getD_getElem?] at f6; simp [go_sem, Act.eval, f6], Keeps.R.of_below hR.1.size ((Below.refl _ _).alloc (Nat.le_refl _) _), ?_⟩
   exact ⟨_, 1, rfl, Nat.le_refl _, by omega, sees_new W _ _ 1 [k] rfl (fun j u hj => by match j, hj with | 0, hj => simp at hj; subst hj; rfl)⟩
  ·-- 5
   refine Keeps.step_is (.pointer (some ⟨w.heap.size, 1, none⟩)) fun a W hR hold hnew => ?_
   have f1 : a.tmps.getD 1 undef = .pointer (some ⟨w.heap.size, 0, none⟩) := hold 1 (by kernel_rfl)
   refine ⟨Facts.wanted_free rfl, ?_, fun _ => rfl⟩; simp [go_sem, Act.eval, f1]
  ·-- 6
   refine Keeps.step_is (.int .u64 (a : Int)) fun a' W hR hold hnew => ?_
   have f8 : a'.tmps.getD 8 undef = .pointer (some ⟨w.heap.size, 1, none⟩) := hnew 5 8 (by kernel_rfl)
   have hc := (CELL.out W hR).2.1
   refine ⟨Facts.wanted_free rfl, ?_, fun _ => rfl⟩; simp [go_sem, Act.eval, f8, hc]
  ·-- 7
   refine Keeps.step_call hB0 fun a' W hR hold hnew => ?_
   have f9 : a'.tmps.getD 9 undef = .int .u64 (a : Int) := hnew 6 9 (by kernel_rfl)
   refine ⟨Facts.wanted_free rfl, 143, #[.slice none 0 0, .int .u64 (a : Int)], by simp [go_sem, Act.eval, f9], ?_⟩
   refine (lay_any none 0 0 [] (a : Int) W (Sees.nil _ _) (by omega) (by omega) (by omega)).mono ?_
   rw [Nat.zero_add, List.nil_append, Int.toNat_natCast]
   rintro e w7 ⟨A7, c7, rfl, hown7, hb7⟩
   exact ⟨_, rfl, hb7, A7, c7, rfl, (Own.cap hown7).1, (Own.cap hown7).2, Sees.of_own hown7⟩
  ·-- 8
   refine Keeps.step_is (.pointer (some ⟨w.heap.size, 2, none⟩)) fun a W hR hold hnew => ?_
   have f1 : a.tmps.getD 1 undef = .pointer (some ⟨w.heap.size, 0, none⟩) := hold 1 (by kernel_rfl)
   refine ⟨Facts.wanted_free rfl, ?_, fun _ => rfl⟩; simp [go_sem, Act.eval, f1]
  ·-- 9
   refine Keeps.step_is (.int .u64 (b : Int)) fun a' W hR hold hnew => ?_
   have f11 : a'.tmps.getD 11 undef = .pointer (some ⟨w.heap.size, 2, none⟩) := hnew 8 11 (by kernel_rfl)
   have hc := (CELL.out W hR).2.2
   refine ⟨Facts.wanted_free rfl, ?_, fun _ => rfl⟩; simp [go_sem, Act.eval, f11, hc]
  ·-- 10
   refine Keeps.step_call hB0 fun a' W hR hold hnew => ?_
   have f12 : a'.tmps.getD 12 undef = .int .u64 (b : Int) := hnew 9 12 (by kernel_rfl)
   refine ⟨Facts.wanted_free rfl, 143, #[.slice none 0 0, .int .u64 (b : Int)], by simp [go_sem, Act.eval, f12], ?_⟩
   refine (lay_any none 0 0 [] (b : Int) W (Sees.nil _ _) (by omega) (by omega) (by omega)).mono ?_
   rw [Nat.zero_add, List.nil_append, Int.toNat_natCast]
   rintro e w7 ⟨A7, c7, rfl, hown7, hb7⟩
   exact ⟨_, rfl, hb7, A7, c7, rfl, (Own.cap hown7).1, (Own.cap hown7).2, Sees.of_own hown7⟩
  ·-- 11: the four
   refine Keeps.step_new fun a' W hR hold hnew => ?_
   have h4 : ∃ A c, a'.tmps.getD 4 undef = .slice A 4 c ∧ 4 ≤ c ∧ c ≤ 9223372036854775807 ∧ Sees W A 4 [97, 110, 97, 49] := hnew 1 4 (by kernel_rfl)
   have h7 : ∃ A c, a'.tmps.getD 7 undef = .slice A 1 c ∧ 1 ≤ c ∧ c ≤ 9223372036854775807 ∧ Sees W A 1 [k] := hnew 4 7 (by kernel_rfl)
   have h10 : ∃ A c, a'.tmps.getD 10 undef = .slice A (enc a).length c ∧ (enc a).length ≤ c ∧ c ≤ 9223372036854775807 ∧ Sees W A (enc a).length (enc a) := hnew 7 10 (by kernel_rfl)
   have h13 : ∃ A c, a'.tmps.getD 13 undef = .slice A (enc b).length c ∧ (enc b).length ≤ c ∧ c ≤ 9223372036854775807 ∧ Sees W A (enc b).length (enc b) := hnew 10 13 (by kernel_rfl)
   obtain ⟨A4, c4, f4, r4, _, s4⟩ := h4
   obtain ⟨A7, c7, f7, r7, _, s7⟩ := h7
   obtain ⟨A10, c10, f10, r10, _, s10⟩ := h10
   obtain ⟨A13, c13, f13, r13, _, s13⟩ := h13
   refine ⟨Facts.wanted_free rfl, .slice (some ⟨W.heap.size, 0, none⟩) 4 4, W.alloc (.cells #[.slice A4 4 c4, .slice A7 1 c7, .slice A10 (enc a).length c10, .slice A13 (enc b).length c13] 28), by rw [Array.getD_eq_getD_getElem?] at f4 f7 f10 f13; simp [go_sem, Act.eval, f4, f7, f10, f13], Keeps.R.of_below hR.1.size ((Below.refl _ _).alloc (Nat.le_refl _) _), ?_⟩
   exact ⟨_, 4, rfl, four_all W _ _ _ _ _ _ _ _ _ _ _ _ _ _ _ _ _ s4 s7 s10 s13 r4 r7 r10 r13⟩
  ·-- 12: Concat
   refine Keeps.step_call hB0 fun a' W hR hold hnew => ?_
   have h14 : ∃ A c, a'.tmps.getD 14 undef = .slice A 4 c ∧ SeesAll W A 4 [[97, 110, 97, 49], [k], enc a, enc b] := hnew 11 14 (by kernel_rfl)
   obtain ⟨A14, c14, f14, s14⟩ := h14
   refine ⟨Facts.wanted_free rfl, 90, #[.slice A14 4 c14], by simp [go_sem, Act.eval, f14], ?_⟩
   have htot : total [[97, 110, 97, 49], [k], enc a, enc b] = (titleL k a b).length := by rw [← total_flatten]; simp [titleL]
   have hfl : [[97, 110, 97, 49], [k], enc a, enc b].flatten = titleL k a b := by simp [titleL]
   refine (concat_any A14 4 c14 _ W s14 (by omega) (by omega)).mono ?_
   rw [htot, hfl]
   rintro e w7 ⟨A7, c7, rfl, hown7, hb7⟩
   exact ⟨_, rfl, hb7, A7, c7, rfl, (Own.cap hown7).1, (Own.cap hown7).2, Sees.of_own hown7⟩
  ·-- 13: Wrap
   refine Keeps.step_call hB0 fun a' W hR hold hnew => ?_
   have h15 : ∃ A c, a'.tmps.getD 15 undef = .slice A (titleL k a b).length c ∧ (titleL k a b).length ≤ c ∧ c ≤ 9223372036854775807 ∧ Sees W A (titleL k a b).length (titleL k a b) := hnew 12 15 (by kernel_rfl)
   obtain ⟨A15, c15, f15, r15, _, s15⟩ := h15
   refine ⟨Facts.wanted_free rfl, 89, #[.slice A15 (titleL k a b).length c15], by simp [go_sem, Act.eval, f15], ?_⟩
   refine (Chk.wrap_new A15 _ c15 _ W (TD.below hR.1) s15 r15 (by omega)).mono ?_
   rw [← wrap_length]
   rintro e w7 ⟨A7, c7, rfl, hown7, hb7⟩
   exact ⟨_, rfl, hb7, A7, c7, rfl, Own.lower hown7 hR.1.size⟩
  ·-- 14
   refine Keeps.step_some fun a' W hR hold hnew => ?_
   have h16 : ∃ A c, a'.tmps.getD 16 undef = .slice A (headL k a b).length c ∧ W.ownsRow W0.heap.size 5 1 (.slice A (headL k a b).length c) (headL k a b).length (cs (headL k a b)) := hnew 13 16 (by kernel_rfl)
   obtain ⟨A16, c16, f16, r16⟩ := h16
   exact ⟨Facts.wanted_free rfl, .slice A16 _ c16, by simp [go_sem, Act.eval, f16], A16, c16, rfl, r16⟩
 ·intro a' W hR hsize hdef hnew hold
  have h2 : ∃ A c, a'.tmps.getD 2 undef = .slice A (headL k a b).length c ∧ W.ownsRow W0.heap.size 5 1 (.slice A (headL k a b).length c) (headL k a b).length (cs (headL k a b)) := hnew 14 2 (by kernel_rfl)
  obtain ⟨A2, c2, f2, r1⟩ := h2
  have hbb : Below w.heap.size w W := hb0.drew.trans (hR.1.mono hb0.drew.size)
  go_wp2
  try simp only [Exit.inBlock, Exit.then]
  refine bodyPost_ret (results_tmp rfl _ _ _) hdef ?_
  rw [f2]
  exact ⟨A2, c2, rfl, Own.lower r1 hb0.size, hbb⟩
end Go.Proofs.YtinjbdgjcadodaaGreatDoor.Sht
namespace Go.Proofs.YtinjbdgjcadodaaGreatDoor.Sht
open Go Go.RowKit Words Enc Go.Proofs.YtinjbdgjcadodaaGreatDoor.Made Go.Proofs.YtinjbdgjcadodaaGreatDoor.Tape
end Go.Proofs.YtinjbdgjcadodaaGreatDoor.Sht
namespace Go.Proofs.YtinjbdgjcadodaaGreatDoor.Sht
open Go Go.RowKit Words Enc Go.Proofs.YtinjbdgjcadodaaGreatDoor.Made Dsk
def wraps (L : List (List UInt8)) : List UInt8 := (L.map wrap).flatten
def wholeL (k : UInt8) (a b : Nat) (L : List (List UInt8)) : List UInt8 := headL k a b ++ wraps L
theorem wraps_snoc (L : List (List UInt8)) (l : List UInt8) : wraps (L ++ [l]) = wraps L ++ wrap l := by simp [wraps]
theorem wraps_take (L : List (List UInt8)) (j : Nat) (h : j < L.length) : wraps (L.take (j + 1)) = wraps (L.take j) ++ wrap (L.getD j []) := by
 rw [← wraps_snoc, List.take_add_one, List.getElem?_eq_getElem h, List.getD_eq_getElem?_getD, List.getElem?_eq_getElem h]
 rfl
theorem wraps_append (L M : List (List UInt8)) : wraps (L ++ M) = wraps L ++ wraps M := by simp [wraps]
theorem wraps_le (L : List (List UInt8)) (j : Nat) : (wraps (L.take j)).length ≤ (wraps L).length := by
 conv => rhs; rw [← List.take_append_drop j L, wraps_append, List.length_append]
 omega
theorem wrap_mem_le {L : List (List UInt8)} {j : Nat} (h : j < L.length) : (L.getD j []).length ≤ (wraps L).length := by
 have h1 := wraps_take L j h
 have h2 := wraps_le L (j + 1)
 rw [h1, List.length_append, wrap_length] at h2
 omega
theorem whole_any (k : UInt8) (a b : Nat) (A : Option Addr) (n c : Nat) (L : List (List UInt8)) (w : World) (T : Chk.Tabs w) (ha : a < 18446744073709551616) (hb : b < 18446744073709551616) (hs : SeesAll w A n L) (hw : (wraps L).length ≤ 500000000) :
  Calls Tryz.prog 236 #[titleV k a b, .slice A n c] w (New w.heap.size (wholeL k a b L).length (wholeL k a b L) w) := by
 obtain ⟨i, hi, hz, hsz, hby⟩ := info_parts info8
 have hl := hs.len
 have hhl := headL_len (k := k) ha hb
 have htl := (titleL_len (k := k) ha hb).2
 have hn : n ≤ 500000000 := by
  have : ∀ M : List (List UInt8), M.length ≤ (wraps M).length := by
   intro M
   induction M with
   | nil => simp
   | cons x r ih =>
     simp only [wraps, List.map_cons, List.flatten_cons, List.length_append, List.length_cons] at ih ⊢
     have := wrap_length x
     omega
  have := this L
  omega
 have hb1 : Below w.heap.size w (w.alloc (.cells #[.int .u8 (k.toNat : Int), .int .u64 (a : Int), .int .u64 (b : Int)] 244)) := (Below.refl _ _).alloc (Nat.le_refl _) _
 have T1 := T.below hb1
 have hhead := head_any k a b _ T1 ha hb
 have HHL := Lib.hid hhl
 clear hhl
 unfold titleV at hhead ⊢
 go_enter Tryz.func236, Tryz.ntmps236
 go_wp2_with fail
 refine hhead.mono ?_
 rintro e w1 ⟨A1, c1, rfl, hown, hb2⟩
 have b2 := hb1.trans (hb2.mono hb1.size)
 have hown := Own.lower hown hb1.size
 clear hhead hb2
 go_wp2_with fail
 go_loopw [5, 12] (fun v x wr => ∃ (A' : Option Addr) (m c' j : Nat), v = .slice A' m c' ∧ x = .int .i64 (j : Int) ∧ j ≤ n ∧ m = (headL k a b ++ wraps (L.take j)).length ∧ wr.ownsRow w.heap.size 5 1 (.slice A' m c') m (cs (headL k a b ++ wraps (L.take j))) ∧ Below w.heap.size w wr) (fun _ x _ => n - (intOf x).toNat)
 case atStart => exact ⟨A1, _, c1, 0, rfl, rfl, by omega, by simp [wraps], by simpa [wraps] using hown, b2⟩
 case round =>
  obtain ⟨A', m, c', j, rfl, rfl, hj, hm, hownj, hbj⟩ := hrel
  have HM := Lib.hid hm
  have hwj := hbj.size
  have hmle : m ≤ 500000100 := by
   have := wraps_le L j
   have := HHL.out
   rw [hm, List.length_append]
   omega
  clear hm
  by_cases hlt : j < n
  ·have hjl : j < L.length := by omega
   obtain ⟨g, o, Ae, ce, rfl, hcell, hce, hse⟩ := (hs.below hbj).get hlt
   have hel := wrap_mem_le hjl
   have hstep := wraps_take L j hjl
   generalize L.getD j [] = x at hcell hce hse hel hstep
   obtain ⟨xl, hxl⟩ : ∃ xl, xl = x.length := ⟨_, rfl⟩
   rw [← hxl] at hcell hce hse hel
   have HX := Lib.hid hxl
   have HS := Lib.hid hstep
   clear hxl hstep
   have he := enc_ten (n := xl) (by omega)
   go_wp2_with fail
   refine (Chk.wrap_new Ae xl ce x wr (T.below hbj) hse hce (by omega)).mono ?_
   rintro e w2 ⟨A2, c2, rfl, hown2, hb2⟩
   have hs2 := Sees.of_own hown2
   have hownj2 := Own.below hownj hb2 (Nat.le_refl _)
   have bj2 := hbj.trans (hb2.mono hwj)
   have hw2 := bj2.size
   clear hown2
   go_wp2_with (first | (at_builtin; refine wpList_app rfl _ _ 28 rfl w.heap.size 5 i (.int .u8 0) Tryz.underlying28 hi hz hsz hby rfl A' m c' _ rfl hownj2 A2 _ c2 _ rfl hs2 ?d1 ?d2 ?_))
   case d1 => omega
   case d2 => exact hw2
   intro A3 c3 w3 hown3 hb3
   rw [← HS.out] at hown3
   go_wp2
   go_roundw
   case rel =>
    refine ⟨A3, _, c3, j + 1, rfl, rfl, by omega, ?_, hown3, bj2.trans hb3⟩
    have h1 := HM.out
    have h2 := HS.out
    have h3 := HX.out
    rw [h2, h1]
    simp only [List.length_append, wrap_length, ← h3]
    omega
   case measure => simp [intOf]; omega
  ·have hjn : j = n := by omega
   subst hjn
   have ht : L.take j = L := List.take_of_length_le (by omega)
   rw [ht] at hownj HM
   have HW := Lib.hid hownj
   clear hownj
   go_wp2
   go_ret
   have h1 := HM.out
   subst h1
   exact ⟨A', c', rfl, HW.out, hbj⟩
theorem tooLong_any (A : Option Addr) (n c : Nat) (w : World) :
  Calls Tryz.prog 233 #[.slice A n c] w fun e w' => e = .returned (.bool (decide (2097152 < (n : Int)))) ∧ w = w' := by
 go_enter Tryz.func233, Tryz.ntmps233
 go_wp2
 go_ret
 exact ⟨rfl, rfl⟩
def createR (h : Hd) (s q : List UInt8) (files : List File) : Int × List File × Hd :=
 if appE h s q files = 0 then (thereE h.act s (appF h s q files), thereF h.act s syncG (appF h s q files), h.act.act) else (appE h s q files, appF h s q files, h.act)
theorem create_any (d : Nat) (S : List Nat) (files : List File) (h : Hd) (s : List UInt8) (A : Option Addr) (n c : Nat) (q : List UInt8) (w : World) (hd : Disk w d S files h) (hf : h.fits) (ha : h.acts < 999999999999) (hs : okName s = true)
  (ht : sumA files ≤ 1000000000000) (ht2 : sumA (appF h s q files) ≤ 1000000000000) (hfs : files.length < 1000000000000) (hn : n ≤ 1000000000000) (hnc : n ≤ c) (hcc : c ≤ 9223372036854775807) (hq : Sees w A n q) (hout : Out S A n) :
  Calls Tryz.prog 235 #[.pointer (some ⟨d, 0, none⟩), .string ⟨s.toArray⟩, .slice A n c] w fun e w' => e = .returned (.int .i64 (createR h s q files).1) ∧ Dsk.Next S w d (createR h s q files).2.1 (createR h s q files).2.2 w' := by
 have hs2 := okName_len hs
 by_cases h0 : appE h s q files = 0
 ·have hr : createR h s q files = (thereE h.act s (appF h s q files), thereF h.act s syncG (appF h s q files), h.act.act) := by unfold createR; rw [if_pos h0]
  rw [hr]
  have H0 := Lib.hid h0
  clear hr h0
  go_enter Tryz.func235, Tryz.ntmps235
  go_wp2_with fail
  refine (appendC d S files h s A n c q w hd hf (by omega) hs ht hfs hn hnc hcc hq hout).mono ?_
  rintro e w1 ⟨rfl, S1, hd1, hb1, hs1⟩
  rw [H0.out]
  go_wp2_with fail
  refine (syncC d S1 _ h.act s w1 hd1 (Hd.fits_act hf (by omega)) hs2 ht2).mono ?_
  rintro e w2 ⟨rfl, hn2⟩
  go_wp2
  go_ret
  exact ⟨rfl, Dsk.Next.step hb1 hs1 hn2⟩
 ·have hr : createR h s q files = (appE h s q files, appF h s q files, h.act) := by unfold createR; rw [if_neg h0]
  rw [hr]
  obtain ⟨E, hE⟩ : ∃ E, E = appE h s q files := ⟨_, rfl⟩
  rw [← hE] at h0 ⊢
  have hE0 : (E != 0) = true := by simpa using h0
  have HE := Lib.hid hE
  clear hr h0 hE
  go_enter Tryz.func235, Tryz.ntmps235
  go_wp2_with fail
  refine (appendC d S files h s A n c q w hd hf (by omega) hs ht hfs hn hnc hcc hq hout).mono ?_
  rintro e w1 ⟨rfl, hn1⟩
  rw [← HE.out]
  go_wp2
  go_ret
  exact ⟨rfl, hn1⟩
def beginR (h : Hd) (s q : List UInt8) (files : List File) : Int × List File × Hd := if readE h s files = 0 then (10, files, h) else createR h s q files
theorem begin_any (d : Nat) (S : List Nat) (files : List File) (h : Hd) (s : List UInt8) (k : UInt8) (a b : Nat) (w : World) (T : Chk.Tabs w) (ha : a < 18446744073709551616) (hb : b < 18446744073709551616) (hd : Disk w d S files h) (hf : h.fits) (hac : h.acts < 999999999999) (hs : okName s = true)
  (ht : sumA files ≤ 1000000000000) (ht2 : sumA (appF h s (headL k a b) files) ≤ 1000000000000) (hfs : files.length < 1000000000000) :
  Calls Tryz.prog 249 #[.pointer (some ⟨d, 0, none⟩), .string ⟨s.toArray⟩, titleV k a b] w fun e w' => e = .returned (.int .i64 (beginR h s (headL k a b) files).1) ∧ Dsk.Next S w d (beginR h s (headL k a b) files).2.1 (beginR h s (headL k a b) files).2.2 w' := by
 have hs2 := okName_len hs
 have hhl := headL_len (k := k) ha hb
 have htl := (titleL_len (k := k) ha hb).2
 have hlen : (headL k a b).length ≤ 30 := by omega
 clear hhl htl
 have hb0 : Below w.heap.size w (w.alloc (.cells #[.int .u8 (k.toNat : Int), .int .u64 (a : Int), .int .u64 (b : Int)] 244)) := (Below.refl _ _).alloc (Nat.le_refl _) _
 have g0 : (w.alloc (.cells #[.int .u8 (k.toNat : Int), .int .u64 (a : Int), .int .u64 (b : Int)] 244)).heap[w.heap.size]? = some (.cells #[.int .u8 (k.toNat : Int), .int .u64 (a : Int), .int .u64 (b : Int)] 244 (0, 0)) := heap_alloc_new w _
 have hlt : w.heap.size < (w.alloc (.cells #[.int .u8 (k.toNat : Int), .int .u64 (a : Int), .int .u64 (b : Int)] 244)).heap.size := by simp
 have hread := readC d S files h s _ (hd.below hb0) hs2 ht
 have hhead := fun W T => head_any k a b W T ha hb
 unfold titleV at hhead ⊢
 by_cases h0 : readE h s files = 0
 ·have hr : beginR h s (headL k a b) files = (10, files, h) := by unfold beginR; rw [if_pos h0]
  rw [hr]
  rw [h0] at hread
  clear hr h0 g0 hlt
  go_enter Tryz.func249, Tryz.ntmps249
  go_wp2_with fail
  refine hread.mono ?_
  rintro e w1 ⟨A1, c1, rfl, hown, hb1⟩
  go_wp2
  go_ret
  exact ⟨rfl, (Dsk.Next.refl ((hd.below hb0).below hb1)).below (hb0.trans (hb1.mono hb0.size))⟩
 ·have hr : beginR h s (headL k a b) files = createR h s (headL k a b) files := by unfold beginR; rw [if_neg h0]
  rw [hr]
  obtain ⟨E, hE⟩ : ∃ E, E = readE h s files := ⟨_, rfl⟩
  rw [← hE] at hread h0
  have hE0 : (E == 0) = false := by simpa using h0
  clear hr h0 hE
  go_enter Tryz.func249, Tryz.ntmps249
  go_wp2_with fail
  refine hread.mono ?_
  rintro e w1 ⟨A1, c1, rfl, hown, hb1⟩
  have b1 := hb0.trans (hb1.mono hb0.size)
  have g1 := (hb1.block w.heap.size hlt).trans g0
  have d0 : w1.cell? ⟨w.heap.size, 0, none⟩ = some (.int .u8 (k.toNat : Int)) := by rw [cell_of_row w1 w.heap.size _ _ _ _ g1]; rfl
  have d1 : w1.cell? ⟨w.heap.size, 1, none⟩ = some (.int .u64 (a : Int)) := by rw [cell_of_row w1 w.heap.size _ _ _ _ g1]; rfl
  have d2 : w1.cell? ⟨w.heap.size, 2, none⟩ = some (.int .u64 (b : Int)) := by rw [cell_of_row w1 w.heap.size _ _ _ _ g1]; rfl
  have hd1 := (hd.below hb0).below hb1
  clear g0 hlt hread g1 hown
  go_wp2_with fail
  refine (hhead w1 (T.below b1)).mono ?_
  rintro e w2 ⟨A2, c2, rfl, hown2, hb2⟩
  have hcap := Own.cap hown2
  have hsee := Sees.of_own hown2
  have b2 := b1.trans (hb2.mono b1.size)
  go_wp2_with fail
  refine (create_any d S files h s A2 (headL k a b).length c2 (headL k a b) w2 (hd1.below hb2) hf hac hs ht ht2 hfs (by omega) hcap.1 hcap.2 hsee (Out.of_own hown2 fun x hx => hd1.lt x hx)).mono ?_
  rintro e w3 ⟨rfl, hn3⟩
  go_wp2
  go_ret
  exact ⟨rfl, hn3.below b2⟩
theorem add_any (d : Nat) (S : List Nat) (files : List File) (h : Hd) (s : List UInt8) (A : Option Addr) (n c : Nat) (l : List UInt8) (w : World) (T : Chk.Tabs w) (hd : Disk w d S files h) (hf : h.fits) (hac : h.acts < 1000000000000) (hs : okName s = true)
  (ht : sumA files ≤ 1000000000000) (hfs : files.length < 1000000000000) (hn : n ≤ 2097152) (hnc : n ≤ c) (hsee : Sees w A n l) :
  Calls Tryz.prog 253 #[.pointer (some ⟨d, 0, none⟩), .string ⟨s.toArray⟩, .slice A n c] w fun e w' => e = .returned (.int .i64 (appE h s (wrap l) files)) ∧ Dsk.Next S w d (appF h s (wrap l) files) h.act w' := by
 have h1 : decide (2097152 < (n : Int)) = false := by simp; omega
 have he := enc_ten (n := n) (by omega)
 go_enter Tryz.func253, Tryz.ntmps253
 go_wp2_with fail
 refine (tooLong_any A n c w).mono ?_
 rintro e w1 ⟨rfl, rfl⟩
 rw [h1]
 go_wp2_with fail
 refine (Chk.wrap_new A n c l w T hsee hnc (by omega)).mono ?_
 rintro e w1 ⟨A1, c1, rfl, hown1, hb1⟩
 have hcap := Own.cap hown1
 have hs1 := Sees.of_own hown1
 go_wp2_with fail
 refine (appendC d S files h s A1 _ c1 _ w1 (hd.below hb1) hf hac hs ht hfs (by omega) hcap.1 hcap.2 hs1 (Out.of_own hown1 fun x hx => hd.lt x hx)).mono ?_
 rintro e w2 ⟨rfl, hn2⟩
 go_wp2
 go_ret
 exact ⟨rfl, hn2.below hb1⟩
def most : Int := 2097152
def zeroSheet : Value := .agg #[.int .u8 0, .int .u64 0, .int .u64 0, .slice none 0 0, .int .i64 0, .int .i64 0]
def SheetAt (w : World) (g : Nat) (x0 x1 x2 x3 x4 x5 : Value) : Prop := w.heap[g]? = some (.cells #[x0, x1, x2, x3, x4, x5] 249 (0, 0))
theorem SheetAt.cells {w : World} {g : Nat} {x0 x1 x2 x3 x4 x5 : Value} (h : SheetAt w g x0 x1 x2 x3 x4 x5) :
  (w.cell? ⟨g, 0, none⟩ = some x0 ∧ w.cell? ⟨g, 1, none⟩ = some x1 ∧ w.cell? ⟨g, 2, none⟩ = some x2 ∧ w.cell? ⟨g, 3, none⟩ = some x3 ∧ w.cell? ⟨g, 4, none⟩ = some x4 ∧ w.cell? ⟨g, 5, none⟩ = some x5) ∧ ∀ i, w.frozen? ⟨g, i, none⟩ = false := by
 unfold SheetAt at h
 refine ⟨⟨?_, ?_, ?_, ?_, ?_, ?_⟩, fun i => frozen_row0 h⟩ <;> (rw [cell_of_row w g _ _ _ _ h]; rfl)
theorem sheetAt_new (w : World) (x0 x1 x2 x3 x4 x5 : Value) : SheetAt (w.alloc (.cells #[x0, x1, x2, x3, x4, x5] 249)) w.heap.size x0 x1 x2 x3 x4 x5 := heap_alloc_new w _
theorem SheetAt.lt {w : World} {g : Nat} {x0 x1 x2 x3 x4 x5 : Value} (h : SheetAt w g x0 x1 x2 x3 x4 x5) : g < w.heap.size := (Array.getElem?_eq_some_iff.1 h).1
theorem SheetAt.below {w w' : World} {g : Nat} {x0 x1 x2 x3 x4 x5 : Value} (h : SheetAt w g x0 x1 x2 x3 x4 x5) (hb : Below w.heap.size w w') : SheetAt w' g x0 x1 x2 x3 x4 x5 := (hb.block g h.lt).trans h
theorem beside_six (w : World) (g : Nat) (x0 x1 x2 x3 x4 x5 : Value) : Beside [g] w ((((((w.setCell ⟨g, 0, none⟩ x0).setCell ⟨g, 1, none⟩ x1).setCell ⟨g, 2, none⟩ x2).setCell ⟨g, 3, none⟩ x3).setCell ⟨g, 4, none⟩ x4).setCell ⟨g, 5, none⟩ x5) :=
 ((((((Beside.refl [g] w).setCell (by simp) _).setCell (by simp) _).setCell (by simp) _).setCell (by simp) _).setCell (by simp) _).setCell (by simp) _
theorem read_none (d : Nat) (S : List Nat) (files : List File) (h : Hd) (s : List UInt8) (w : World) (hd : Disk w d S files h) (hs2 : s.length ≤ 100000) (ht : sumA files ≤ 500000000) (hoff : h.off = false) (hl : lookA s files = none) :
  Calls Tryz.prog 175 #[.pointer (some ⟨d, 0, none⟩), .string ⟨s.toArray⟩] w fun e w' => e = .returned (.tuple #[zeroSheet, .int .i64 2]) ∧ Below w.heap.size w w' := by
 have he : readE h s files = 2 := by simp [readE, hoff, hl]
 have hb0 : Below w.heap.size w (w.alloc (.cells #[.int .u8 0, .int .u64 0, .int .u64 0, .slice none 0 0, .int .i64 0, .int .i64 0] 249)) := (Below.refl _ _).alloc (Nat.le_refl _) _
 have g0 := sheetAt_new w (.int .u8 0) (.int .u64 0) (.int .u64 0) (.slice none 0 0) (.int .i64 0) (.int .i64 0)
 have hread := readC d S files h s _ (hd.below hb0) hs2 (by omega)
 rw [he] at hread
 clear he hl hoff
 go_enter Tryz.func175, Tryz.ntmps175
 go_wp2_with fail
 refine hread.mono ?_
 rintro e w1 ⟨A1, c1, rfl, hown1, hb1⟩
 have b1 := hb0.trans (hb1.mono hb0.size)
 have g1 := g0.below hb1
 obtain ⟨⟨e0, e1, e2, e3, e4, e5⟩, fz⟩ := g1.cells
 have f0 := fz 0
 have f1 := fz 1
 have f2 := fz 2
 have f3 := fz 3
 have f4 := fz 4
 have f5 := fz 5
 have HB1 := Lib.hid b1
 clear hread hown1 g0 hb1 hb0 g1 fz b1
 go_wp2
 refine bodyPost_ret (v := .tuple #[zeroSheet, .int .i64 2]) (by simp [results, Tryz.results175, go_sem, e0, e1, e2, e3, e4, e5, zeroSheet]) rfl ?_
 have hbes := beside_six w1 w.heap.size (.int .u8 0) (.int .u64 0) (.int .u64 0) (.slice none 0 0) (.int .i64 0) (.int .i64 0)
 exact ⟨rfl, Below.beside HB1.out hbes HB1.out.size (fun x hx => by simp at hx; omega)⟩
theorem index_none (A : Option Addr) (n c : Nat) (L : List (List UInt8)) (w : World) (hs : SeesAll w A n L) (hn : n ≤ 1000000000) (hL : ∀ l ∈ L, l.length ≤ 2097152) :
  Calls Tryz.prog 281 #[.slice A n c, .func (.func 233) #[] #[]] w fun e w' => e = .returned (.int .i64 (-1)) ∧ w = w' := by
 have hl := hs.len
 go_enter Tryz.func281, Tryz.ntmps281
 go_wp2_with fail
 go_loopw [8] (fun x wr => ∃ j : Nat, x = .int .i64 (j : Int) ∧ j ≤ n ∧ wr = w) (fun x _ => n - (intOf x).toNat)
 case atStart => exact ⟨0, rfl, by omega, rfl⟩
 case round =>
  obtain ⟨j, rfl, hj, rfl⟩ := hrel
  by_cases hlt : j < n
  ·obtain ⟨g, o, Ae, ce, rfl, hcell, hce, hse⟩ := hs.get hlt
   have hle : (L.getD j []).length ≤ 2097152 := by
    rw [List.getD_eq_getElem?_getD, List.getElem?_eq_getElem (by omega)]
    exact hL _ (List.getElem_mem _)
   generalize (L.getD j []).length = m at hcell hle
   have hlong : decide (2097152 < (m : Int)) = false := by simp; omega
   clear hse hce
   go_wp2_with fail
   refine (tooLong_any Ae m ce _).mono ?_
   rintro e w1 ⟨rfl, rfl⟩
   rw [hlong]
   go_wp2
   go_roundw
   case rel => exact ⟨j + 1, rfl, by omega, by first | rfl | trivial⟩
   case measure => simp [intOf]; omega
  ·have hjn : j = n := by omega
   subst hjn
   go_wp2
   go_ret
   exact ⟨rfl, rfl⟩
theorem contains_any (A : Option Addr) (n c : Nat) (w : World) (i : Int) (h : Calls Tryz.prog 281 #[.slice A n c, .func (.func 233) #[] #[]] w fun e w' => e = .returned (.int .i64 i) ∧ w = w') :
  Calls Tryz.prog 232 #[.slice A n c, .func (.func 233) #[] #[]] w fun e w' => e = .returned (.bool (decide (0 ≤ i))) ∧ w = w' := by
 go_enter Tryz.func232, Tryz.ntmps232
 go_wp2_with fail
 refine h.mono ?_
 rintro e w1 ⟨rfl, rfl⟩
 go_wp2
 go_ret
 exact ⟨rfl, rfl⟩
def swapR (h : Hd) (s t q : List UInt8) (files : List File) : Int × List File × Hd :=
 if thereE h t files = 7 then (7, removeF h t files, h.act)
 else if (createR h.act t q (removeF h t files)).1 ≠ 0 then createR h.act t q (removeF h t files)
 else (thereE (createR h.act t q (removeF h t files)).2.2 t (createR h.act t q (removeF h t files)).2.1,
  moveF (createR h.act t q (removeF h t files)).2.2 t s (createR h.act t q (removeF h t files)).2.1, (createR h.act t q (removeF h t files)).2.2.act)
def suff : List UInt8 := [46, 110, 101, 119]
theorem thereE_is (h : Hd) (t : List UInt8) (files : List File) : thereE h t files = 7 ∨ thereE h t files = 0 ∨ thereE h t files = 2 := by
 unfold thereE
 split
 ·split
  ·exact .inr (.inl rfl)
  ·exact .inr (.inr rfl)
 ·exact .inl rfl
theorem acts_act (h : Hd) : h.act.acts ≤ h.acts + 1 := by
 unfold Hd.act
 split
 ·omega
 ·simp
theorem create_fits {h : Hd} {t q : List UInt8} {files : List File} (hf : h.fits) (ha : h.acts < 999999999990) : (createR h t q files).2.2.fits ∧ (createR h t q files).2.2.acts < 999999999999 := by
 have h1 := acts_act h
 have h2 := acts_act h.act
 unfold createR
 split
 ·exact ⟨Hd.fits_act (Hd.fits_act hf (by omega)) (by omega), by simp only []; omega⟩
 ·exact ⟨Hd.fits_act hf (by omega), by simp only []; omega⟩
set_option maxHeartbeats 1000000 in
theorem swap_any (d : Nat) (S : List Nat) (files : List File) (h : Hd) (s : List UInt8) (k : UInt8) (a b : Nat) (A : Option Addr) (n c : Nat) (L : List (List UInt8)) (w : World) (T : ∀ W, Beside S w W → Chk.Tabs W) (ha : a < 18446744073709551616) (hb : b < 18446744073709551616) (hd : Disk w d S files h) (hf : h.fits) (hac : h.acts < 999999999980)
  (hs1 : okName s = true) (hs2 : okName (s ++ suff) = true) (ht : sumA files ≤ 1000000000) (hfs : files.length < 1000000000)
  (hsee : SeesAll w A n L) (hn : n ≤ 1000000000) (hL : ∀ l ∈ L, l.length ≤ 2097152) (hw : (wraps L).length ≤ 500000000) (hout : ∀ W, Beside S w W → SeesAll W A n L)
  (ht1 : sumA (removeF h (s ++ suff) files) ≤ 1000000000) (hfs1 : (removeF h (s ++ suff) files).length < 1000000000)
  (ht2 : sumA (appF h.act (s ++ suff) (wholeL k a b L) (removeF h (s ++ suff) files)) ≤ 1000000000000)
  (ht3 : sumA (createR h.act (s ++ suff) (wholeL k a b L) (removeF h (s ++ suff) files)).2.1 ≤ 1000000000000) (hfs3 : (createR h.act (s ++ suff) (wholeL k a b L) (removeF h (s ++ suff) files)).2.1.length < 1000000000000) :
  Calls Tryz.prog 170 #[.pointer (some ⟨d, 0, none⟩), .string ⟨s.toArray⟩, titleV k a b, .slice A n c] w fun e w' => e = .returned (.int .i64 (swapR h s (s ++ suff) (wholeL k a b L) files).1) ∧ Dsk.Next S w d (swapR h s (s ++ suff) (wholeL k a b L) files).2.1 (swapR h s (s ++ suff) (wholeL k a b L) files).2.2 w' := by
 have hsl : s.length ≤ 100000 := okName_len hs1
 have htl := okName_len hs2
 have hadd := fun W : World => run_string_add_lists (P := Tryz.prog) W s suff (by omega) (by simp [suff])
 obtain ⟨t, hteq⟩ : ∃ t, t = s ++ suff := ⟨_, rfl⟩
 rw [← hteq] at hs2 ht1 hfs1 ht2 ht3 hfs3 htl hadd ⊢
 have hb0 : Below w.heap.size w (w.alloc (.cells #[.int .u8 (k.toNat : Int), .int .u64 (a : Int), .int .u64 (b : Int)] 244)) := (Below.refl _ _).alloc (Nat.le_refl _) _
 have g0 : (w.alloc (.cells #[.int .u8 (k.toNat : Int), .int .u64 (a : Int), .int .u64 (b : Int)] 244)).heap[w.heap.size]? = some (.cells #[.int .u8 (k.toNat : Int), .int .u64 (a : Int), .int .u64 (b : Int)] 244 (0, 0)) := heap_alloc_new w _
 have hrem := removeC d S files h t _ (hd.below hb0) hf htl (by omega)
 have hSlt := hd.lt
 have hwl : (wholeL k a b L).length ≤ 500000100 := by
  have h1 := headL_len (k := k) ha hb
  have h2 := (titleL_len (k := k) ha hb).2
  unfold wholeL
  rw [List.length_append]
  omega
 have HWL := Lib.hid hwl
 have HT := Lib.hid hteq
 have hcat : (⟨s.toArray⟩ : ByteArray) ++ ⟨#[46, 110, 101, 119]⟩ = ⟨t.toArray⟩ := by rw [hteq]; exact ByteArray.mk_append_mk ..
 unfold titleV
 obtain ⟨E1, hE1⟩ : ∃ E1, E1 = thereE h t files := ⟨_, rfl⟩
 rw [← hE1] at hrem
 have hcase := thereE_is h t files
 rw [← hE1] at hcase
 have HE1 := Lib.hid hE1
 clear hteq hwl hE1
 rcases hcase with h7 | h02
 ·subst h7
  have hr : swapR h s t (wholeL k a b L) files = (7, removeF h t files, h.act) := by unfold swapR; rw [if_pos HE1.out.symm]
  rw [hr]
  clear hr
  go_enter Tryz.func170, Tryz.ntmps170
  go_wp2_with fail
  refine hrem.mono ?_
  rintro e w1 ⟨rfl, hn1⟩
  go_wp2
  go_ret
  exact ⟨rfl, hn1.below hb0⟩
 ·obtain ⟨files1, hfl1⟩ : ∃ x, x = removeF h t files := ⟨_, rfl⟩
  rw [← hfl1] at ht1 hfs1 ht2 ht3 hfs3 hrem
  obtain ⟨R, hR⟩ : ∃ R, R = createR h.act t (wholeL k a b L) files1 := ⟨_, rfl⟩
  have hcf := create_fits (h := h.act) (t := t) (q := wholeL k a b L) (files := files1) (Hd.fits_act hf (by omega)) (by have := acts_act h; omega)
  rw [← hR] at ht3 hfs3 hcf
  have hr : swapR h s t (wholeL k a b L) files = if R.1 ≠ 0 then R else (thereE R.2.2 t R.2.1, moveF R.2.2 t s R.2.1, R.2.2.act) := by
   unfold swapR
   rw [if_neg (by rw [← HE1.out]; omega), ← hfl1, ← hR]
  rw [hr]
  have HR := Lib.hid hR
  have HF1 := Lib.hid hfl1
  have hfit1 := Hd.fits_act hf (by omega : h.acts < 1000000000000)
  have hac1 : h.act.acts < 999999999999 := by have := acts_act h; omega
  have hneg : decide ((0 : Int) ≤ -1) = false := by decide
  clear hr hR hfl1 hadd
  by_cases hz : R.1 = 0
  ·rw [if_neg (by omega)]
   have HZ := Lib.hid hz
   clear hz
   rcases h02 with h02 | h02 <;> subst h02
   all_goals (
    go_enter Tryz.func170, Tryz.ntmps170
    go_wp2_with fail
    refine hrem.mono ?_
    rintro e w1 ⟨rfl, S1, hd1, hb1, hs1'⟩
    have hbw1 : Beside S w w1 := (Beside.of_below hb0 S).trans hb1 fun x hx => .inl hx
    have hsee1 := hout w1 hbw1
    have g1 := (hb1.block w.heap.size (Array.getElem?_eq_some_iff.1 g0).1 (fun hm => by have := hSlt _ hm; omega)).trans g0
    have hcont := contains_any A n c w1 (-1) (index_none A n c L w1 hsee1 hn hL)
    rw [hneg] at hcont
    have T1 := T w1 hbw1
    go_wp2_with fail
    refine hcont.mono ?_
    rintro e w2 ⟨rfl, rfl⟩
    go_wp2_with fail
    refine (named_any s w1 hs1).mono ?_
    rintro e w2 ⟨rfl, hb2⟩
    have g2 := (hb2.block w.heap.size (Array.getElem?_eq_some_iff.1 g1).1).trans g1
    have hsee2 := hsee1.below hb2
    have hd2 := hd1.below hb2
    have T2 := T1.below hb2
    have d0 : w2.cell? ⟨w.heap.size, 0, none⟩ = some (.int .u8 (k.toNat : Int)) := by rw [cell_of_row w2 w.heap.size _ _ _ _ g2]; rfl
    have d1 : w2.cell? ⟨w.heap.size, 1, none⟩ = some (.int .u64 (a : Int)) := by rw [cell_of_row w2 w.heap.size _ _ _ _ g2]; rfl
    have d2 : w2.cell? ⟨w.heap.size, 2, none⟩ = some (.int .u64 (b : Int)) := by rw [cell_of_row w2 w.heap.size _ _ _ _ g2]; rfl
    clear hcont g1 g0
    go_wp2_with fail
    refine (whole_any k a b A n c L w2 T2 ha hb hsee2 hw).mono ?_
    rintro e w3 ⟨A3, c3, rfl, hown3, hb3⟩
    have hcap := Own.cap hown3
    have hs3 := Sees.of_own hown3
    have hd3 := hd2.below hb3
    have hcr := create_any d S1 files1 h.act t A3 (wholeL k a b L).length c3 (wholeL k a b L) w3 hd3 hfit1 hac1 hs2 (by omega) ht2 (by omega) (by have := HWL.out; omega) hcap.1 hcap.2 hs3 (Out.of_own hown3 fun x hx => hd2.lt x hx)
    rw [← HR.out] at hcr
    go_wp2_with fail
    refine hcr.mono ?_
    rintro e w4 ⟨rfl, S4, hd4, hb4, hs4⟩
    have hb14 : Beside S w w4 := (hbw1.below (hb2.trans (hb3.mono hb2.size))).trans hb4 fun x hx => by
     rcases hs1' x hx with h1 | h1
     ·exact .inl h1
     ·exact .inr (by have := hb0.size; omega)
    have hs14 : ∀ x ∈ S4, x ∈ S ∨ w.heap.size ≤ x := fun x hx => by
     rcases hs4 x hx with h1 | h1
     ·rcases hs1' x h1 with h2 | h2
      ·exact .inl h2
      ·exact .inr (by have := hb0.size; omega)
     ·exact .inr (by have := hbw1.size; have := hb2.size; have := hb3.size; omega)
    rw [HZ.out]
    go_wp2_with fail
    refine (moveC d S4 R.2.1 R.2.2 t s w4 hd4 hcf.1 htl hs1 ht3 hfs3).mono ?_
    rintro e w5 ⟨rfl, hn5⟩
    go_wp2
    go_ret
    exact ⟨rfl, Dsk.Next.step hb14 hs14 hn5⟩)
  ·rw [if_pos hz]
   obtain ⟨E, hE⟩ : ∃ E, E = R.1 := ⟨_, rfl⟩
   have hz' : (E != 0) = true := by rw [hE]; simpa using hz
   have HEE := Lib.hid hE
   rw [← hE]
   clear hz hE
   rcases h02 with h02 | h02 <;> subst h02
   all_goals (
    go_enter Tryz.func170, Tryz.ntmps170
    go_wp2_with fail
    refine hrem.mono ?_
    rintro e w1 ⟨rfl, S1, hd1, hb1, hs1'⟩
    have hbw1 : Beside S w w1 := (Beside.of_below hb0 S).trans hb1 fun x hx => .inl hx
    have hsee1 := hout w1 hbw1
    have g1 := (hb1.block w.heap.size (Array.getElem?_eq_some_iff.1 g0).1 (fun hm => by have := hSlt _ hm; omega)).trans g0
    have hcont := contains_any A n c w1 (-1) (index_none A n c L w1 hsee1 hn hL)
    rw [hneg] at hcont
    have T1 := T w1 hbw1
    go_wp2_with fail
    refine hcont.mono ?_
    rintro e w2 ⟨rfl, rfl⟩
    go_wp2_with fail
    refine (named_any s w1 hs1).mono ?_
    rintro e w2 ⟨rfl, hb2⟩
    have g2 := (hb2.block w.heap.size (Array.getElem?_eq_some_iff.1 g1).1).trans g1
    have hsee2 := hsee1.below hb2
    have hd2 := hd1.below hb2
    have T2 := T1.below hb2
    have d0 : w2.cell? ⟨w.heap.size, 0, none⟩ = some (.int .u8 (k.toNat : Int)) := by rw [cell_of_row w2 w.heap.size _ _ _ _ g2]; rfl
    have d1 : w2.cell? ⟨w.heap.size, 1, none⟩ = some (.int .u64 (a : Int)) := by rw [cell_of_row w2 w.heap.size _ _ _ _ g2]; rfl
    have d2 : w2.cell? ⟨w.heap.size, 2, none⟩ = some (.int .u64 (b : Int)) := by rw [cell_of_row w2 w.heap.size _ _ _ _ g2]; rfl
    clear hcont g1 g0
    go_wp2_with fail
    refine (whole_any k a b A n c L w2 T2 ha hb hsee2 hw).mono ?_
    rintro e w3 ⟨A3, c3, rfl, hown3, hb3⟩
    have hcap := Own.cap hown3
    have hs3 := Sees.of_own hown3
    have hd3 := hd2.below hb3
    have hcr := create_any d S1 files1 h.act t A3 (wholeL k a b L).length c3 (wholeL k a b L) w3 hd3 hfit1 hac1 hs2 (by omega) ht2 (by omega) (by have := HWL.out; omega) hcap.1 hcap.2 hs3 (Out.of_own hown3 fun x hx => hd2.lt x hx)
    rw [← HR.out] at hcr
    go_wp2_with fail
    refine hcr.mono ?_
    rintro e w4 ⟨rfl, S4, hd4, hb4, hs4⟩
    have hb14 : Beside S w w4 := (hbw1.below (hb2.trans (hb3.mono hb2.size))).trans hb4 fun x hx => by
     rcases hs1' x hx with h1 | h1
     ·exact .inl h1
     ·exact .inr (by have := hb0.size; omega)
    have hs14 : ∀ x ∈ S4, x ∈ S ∨ w.heap.size ≤ x := fun x hx => by
     rcases hs4 x hx with h1 | h1
     ·rcases hs1' x h1 with h2 | h2
      ·exact .inl h2
      ·exact .inr (by have := hb0.size; omega)
     ·exact .inr (by have := hbw1.size; have := hb2.size; have := hb3.size; omega)
    rw [← HEE.out]
    go_wp2
    go_ret
    exact ⟨rfl, S4, hd4, hb14, hs14⟩)
end Go.Proofs.YtinjbdgjcadodaaGreatDoor.Sht
