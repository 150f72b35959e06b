/- sheet.Head, whole: their contracts. -/
import Derived.Test.YtkphklmgbdljiaaGreatDoorBCheck
import Derived.Test.YtkphklmgbdljiaaGreatDoorBGround
import Derived.Test.YtkphklmgbdljiaaGreatDoorBPlain
import Derived.BigRegion
import Derived.Lib.SlBytesConst
import Derived.Test.YtkphklmgbdljiaaGreatDoorBDiskB
import Derived.Deep.Cut
namespace Go.Proofs.YtkphklmgbdljiaaGreatDoor.Sht
open Go Go.RowKit Go.Proofs.YtkphklmgbdljiaaGreatDoor.Words Go.Proofs.YtkphklmgbdljiaaGreatDoor.Enc Go.Proofs.YtkphklmgbdljiaaGreatDoor.Made
set_option linter.unusedVariables false

/-- What a title's record holds. -/
def titleL (k : UInt8) (a b : Nat) : List UInt8 := [97, 110, 97, 49] ++ ([k] ++ (enc a ++ enc b))
def headL (k : UInt8) (a b : Nat) : List UInt8 := wrap (titleL k a b)
theorem titleL_len {k : UInt8} {a b : Nat} (ha : a < 18446744073709551616) (hb : b < 18446744073709551616) : (titleL k a b).length = 5 + (enc a).length + (enc b).length ∧ (titleL k a b).length ≤ 25 := by
  have h1 := enc_ten ha
  have h2 := enc_ten hb
  simp only [titleL, List.length_append, List.length_cons, List.length_nil]
  omega
theorem headL_len {k : UInt8} {a b : Nat} (ha : a < 18446744073709551616) (hb : b < 18446744073709551616) : (headL k a b).length = 1 + (titleL k a b).length + 4 := by
  have h := (titleL_len (k := k) ha hb).2
  unfold headL
  rw [wrap_length, enc_small (by omega)]
  rfl
/-- A title, as a struct. -/
def titleV (k : UInt8) (a b : Nat) : Value := .agg #[.int .u8 (k.toNat : Int), .int .u64 (a : Int), .int .u64 (b : Int)]

theorem four_all (w : World) (e : TypeId) (A1 A2 A3 A4 : Option Addr) (n1 c1 n2 c2 n3 c3 n4 c4 : Nat) (l1 l2 l3 l4 : List UInt8) (h1 : Sees w A1 n1 l1) (h2 : Sees w A2 n2 l2) (h3 : Sees w A3 n3 l3) (h4 : Sees w A4 n4 l4) (hc1 : n1 ≤ c1) (hc2 : n2 ≤ c2) (hc3 : n3 ≤ c3) (hc4 : n4 ≤ c4) :
    SeesAll (w.alloc (.cells #[.slice A1 n1 c1, .slice A2 n2 c2, .slice A3 n3 c3, .slice A4 n4 c4] e)) (some ⟨w.heap.size, 0, none⟩) 4 [l1, l2, l3, l4] := by
  have hb : Below w.heap.size w (w.alloc (.cells #[.slice A1 n1 c1, .slice A2 n2 c2, .slice A3 n3 c3, .slice A4 n4 c4] e)) := (Below.refl _ _).alloc (Nat.le_refl _) _
  have k1 := h1.below hb
  have k2 := h2.below hb
  have k3 := h3.below hb
  have k4 := h4.below hb
  have e1 := h1.1
  have e2 := h2.1
  have e3 := h3.1
  have e4 := h4.1
  subst e1
  subst e2
  subst e3
  subst e4
  refine ⟨[.slice A1 l1.length c1, .slice A2 l2.length c2, .slice A3 l3.length c3, .slice A4 l4.length c4], ((((Each.nil _).snoc hc1 k1).snoc hc2 k2).snoc hc3 k3).snoc hc4 k4, rfl, fun _ => ⟨w.heap.size, 0, rfl, fun j v hv => ?_⟩⟩
  rw [cell_of_row _ w.heap.size (0 + j) _ e (0, 0) (heap_alloc_new w _), Nat.zero_add]
  simpa using hv

set_option maxRecDepth 100000 in
theorem head_any (k : UInt8) (a b : Nat) (w : World) (T : Chk.Tabs w) (ha : a < 18446744073709551616) (hb : b < 18446744073709551616) :
    Calls Tryz.prog 101 #[titleV k a b] w (New w.heap.size (headL k a b).length (headL k a b) w) := by
  unfold titleV
  go_enter Tryz.func101, Tryz.ntmps101
  go_wp2
  have hcap : ∀ (W : World) (A : Option Addr) (n c : Nat) (l : List UInt8), W.ownsRow w.heap.size 5 1 (.slice A n c) n (cs l) → n ≤ c ∧ c ≤ 9223372036854775807 := fun W A n c l h => Own.cap h
  have hb0 : Below w.heap.size w (w.alloc (.cells #[.int .u8 (k.toNat : Int), .int .u64 (a : Int), .int .u64 (b : Int)] 102)) := (Below.refl _ _).alloc (Nat.le_refl _) _
  have g0 : (w.alloc (.cells #[.int .u8 (k.toNat : Int), .int .u64 (a : Int), .int .u64 (b : Int)] 102)).heap[w.heap.size]? = some (.cells #[.int .u8 (k.toNat : Int), .int .u64 (a : Int), .int .u64 (b : Int)] 102 (0, 0)) := heap_alloc_new w _
  have T0 := T.below hb0
  generalize w.alloc (.cells #[.int .u8 (k.toNat : Int), .int .u64 (a : Int), .int .u64 (b : Int)] 102) = W0 at hb0 g0 T0 ⊢
  have hlt : w.heap.size < W0.heap.size := (Array.getElem?_eq_some_iff.1 g0).1
  have TD : Chk.Tabs W0.drew := T0.below (Below.refl _ _).drew
  have cell : ∀ W : World, Keeps.R 4 W0.heap.size W0.drew W → W.cell? ⟨w.heap.size, 0, none⟩ = some (.int .u8 (k.toNat : Int)) ∧ W.cell? ⟨w.heap.size, 1, none⟩ = some (.int .u64 (a : Int)) ∧ W.cell? ⟨w.heap.size, 2, none⟩ = some (.int .u64 (b : Int)) := fun W hR => by
    have g1 : W.heap[w.heap.size]? = _ := (hR.1.block w.heap.size hlt).trans g0
    refine ⟨?_, ?_, ?_⟩ <;> (rw [cell_of_row W w.heap.size _ _ _ _ g1]; rfl)
  have CELL := Lib.hid cell
  clear cell
  have hlen := titleL_len (k := k) ha hb
  have hea := enc_ten ha
  have heb := enc_ten hb
  have hB0 : W0.heap.size ≤ W0.drew.heap.size := Nat.le_refl _
  have hh4 : 4 < (headL k a b).length := by rw [headL_len ha hb]; omega
  refine Keeps.wp_region_keeps (n := 17) (by kernel_rfl) (by kernel_rfl) rfl W0.heap.size [Keeps.Pred.laid (m := 4) W0.heap.size #[.int .u8 97, .int .u8 110, .int .u8 97, .int .u8 49] 5, Keeps.Pred.row 4 [97, 110, 97, 49], Keeps.Pred.is (.pointer (some ⟨w.heap.size, 0, none⟩)), Keeps.Pred.is (.int .u8 (k.toNat : Int)), Keeps.Pred.row 1 [k], Keeps.Pred.is (.pointer (some ⟨w.heap.size, 1, none⟩)), Keeps.Pred.is (.int .u64 (a : Int)),
    Keeps.Pred.row (enc a).length (enc a), Keeps.Pred.is (.pointer (some ⟨w.heap.size, 2, none⟩)), Keeps.Pred.is (.int .u64 (b : Int)), Keeps.Pred.row (enc b).length (enc b), Keeps.Pred.rows 4 [[97, 110, 97, 49], [k], enc a, enc b], Keeps.Pred.row (titleL k a b).length (titleL k a b), Keeps.Pred.own W0.heap.size 5 (headL k a b).length (headL k a b) hh4, Keeps.Pred.own W0.heap.size 5 (headL k a b).length (headL k a b) hh4] ?_ ?_
  · refine ⟨?_, ?_, ?_, ?_, ?_, ?_, ?_, ?_, ?_, ?_, ?_, ?_, ?_, ?_, ?_, trivial⟩
    · -- 0: the mark
      refine Keeps.step_new fun a W hR hold hnew => ?_
      have hl := Keeps.laid_new (m := 4) (B := W0.heap.size) W #[.int .u8 97, .int .u8 110, .int .u8 97, .int .u8 49] 5 hR.1.size
      exact ⟨Facts.wanted_free rfl, .slice (some ⟨W.heap.size, 0, none⟩) 4 4, W.alloc (.cells #[.int .u8 97, .int .u8 110, .int .u8 97, .int .u8 49] 5), by simp [go_sem, Act.eval], hl.1, hl.2⟩
    · -- 1: it is marked
      refine Keeps.step_new fun a W hR hold hnew => ?_
      have h3 : ∃ g fr, a.tmps.getD 3 undef = .slice (some ⟨g, 0, none⟩) 4 4 ∧ W0.heap.size ≤ g ∧ W.heap[g]? = some (.cells #[.int .u8 97, .int .u8 110, .int .u8 97, .int .u8 49] 5 fr) := hnew 0 3 (by kernel_rfl)
      obtain ⟨g, fr, f3, hgB, hg⟩ := h3
      obtain ⟨W', hrun, hR'⟩ := Keeps.run_mark (P := Tryz.prog) 4 4 Tryz.underlying34 Tryz.underlying5 hg hgB (m := 4) (Nat.le_refl _)
      refine ⟨Facts.wanted_free rfl, .slice (some ⟨g, 0, none⟩) 4 4, W', by simp [go_sem, Act.eval, f3, hrun], hR', _, 4, rfl, Nat.le_refl _, by omega, rfl, fun _ => ⟨g, 0, rfl, fun j u hj => hR'.2.cell ?_⟩⟩
      rw [cell_of_row W g (0 + j) _ _ _ hg]
      match j, hj with
      | 0, hj => simp at hj; subst hj; rfl
      | 1, hj => simp at hj; subst hj; rfl
      | 2, hj => simp at hj; subst hj; rfl
      | 3, hj => simp at hj; subst hj; rfl
    · -- 2
      refine Keeps.step_is (.pointer (some ⟨w.heap.size, 0, none⟩)) fun a W hR hold hnew => ?_
      have f1 : a.tmps.getD 1 undef = .pointer (some ⟨w.heap.size, 0, none⟩) := hold 1 (by kernel_rfl)
      refine ⟨Facts.wanted_free rfl, ?_, fun _ => rfl⟩
      simp [go_sem, Act.eval, f1]
    · -- 3
      refine Keeps.step_is (.int .u8 (k.toNat : Int)) fun a W hR hold hnew => ?_
      have f5 : a.tmps.getD 5 undef = .pointer (some ⟨w.heap.size, 0, none⟩) := hnew 2 5 (by kernel_rfl)
      have hc := (CELL.out W hR).1
      refine ⟨Facts.wanted_free rfl, ?_, fun _ => rfl⟩
      simp [go_sem, Act.eval, f5, hc]
    · -- 4
      refine Keeps.step_new fun a W hR hold hnew => ?_
      have f6 : a.tmps.getD 6 undef = .int .u8 (k.toNat : Int) := hnew 3 6 (by kernel_rfl)
      refine ⟨Facts.wanted_free rfl, .slice (some ⟨W.heap.size, 0, none⟩) 1 1, W.alloc (.cells #[.int .u8 (k.toNat : Int)] 5), by rw [Array.getD_eq_getD_getElem?] at f6; simp [go_sem, Act.eval, f6], Keeps.R.of_below hR.1.size ((Below.refl _ _).alloc (Nat.le_refl _) _), ?_⟩
      exact ⟨_, 1, rfl, Nat.le_refl _, by omega, sees_new W _ _ 1 [k] rfl (fun j u hj => by match j, hj with | 0, hj => simp at hj; subst hj; rfl)⟩
    · -- 5
      refine Keeps.step_is (.pointer (some ⟨w.heap.size, 1, none⟩)) fun a W hR hold hnew => ?_
      have f1 : a.tmps.getD 1 undef = .pointer (some ⟨w.heap.size, 0, none⟩) := hold 1 (by kernel_rfl)
      refine ⟨Facts.wanted_free rfl, ?_, fun _ => rfl⟩
      simp [go_sem, Act.eval, f1]
    · -- 6
      refine Keeps.step_is (.int .u64 (a : Int)) fun a' W hR hold hnew => ?_
      have f8 : a'.tmps.getD 8 undef = .pointer (some ⟨w.heap.size, 1, none⟩) := hnew 5 8 (by kernel_rfl)
      have hc := (CELL.out W hR).2.1
      refine ⟨Facts.wanted_free rfl, ?_, fun _ => rfl⟩
      simp [go_sem, Act.eval, f8, hc]
    · -- 7
      refine Keeps.step_call hB0 fun a' W hR hold hnew => ?_
      have f9 : a'.tmps.getD 9 undef = .int .u64 (a : Int) := hnew 6 9 (by kernel_rfl)
      refine ⟨Facts.wanted_free rfl, 108, #[.slice none 0 0, .int .u64 (a : Int)], by simp [go_sem, Act.eval, f9], ?_⟩
      refine (lay_any none 0 0 [] (a : Int) W (Sees.nil _ _) (by omega) (by omega) (by omega)).mono ?_
      rw [Nat.zero_add, List.nil_append, Int.toNat_natCast]
      rintro e w7 ⟨A7, c7, rfl, hown7, hb7⟩
      exact ⟨_, rfl, hb7, A7, c7, rfl, (Own.cap hown7).1, (Own.cap hown7).2, Sees.of_own hown7⟩
    · -- 8
      refine Keeps.step_is (.pointer (some ⟨w.heap.size, 2, none⟩)) fun a W hR hold hnew => ?_
      have f1 : a.tmps.getD 1 undef = .pointer (some ⟨w.heap.size, 0, none⟩) := hold 1 (by kernel_rfl)
      refine ⟨Facts.wanted_free rfl, ?_, fun _ => rfl⟩
      simp [go_sem, Act.eval, f1]
    · -- 9
      refine Keeps.step_is (.int .u64 (b : Int)) fun a' W hR hold hnew => ?_
      have f11 : a'.tmps.getD 11 undef = .pointer (some ⟨w.heap.size, 2, none⟩) := hnew 8 11 (by kernel_rfl)
      have hc := (CELL.out W hR).2.2
      refine ⟨Facts.wanted_free rfl, ?_, fun _ => rfl⟩
      simp [go_sem, Act.eval, f11, hc]
    · -- 10
      refine Keeps.step_call hB0 fun a' W hR hold hnew => ?_
      have f12 : a'.tmps.getD 12 undef = .int .u64 (b : Int) := hnew 9 12 (by kernel_rfl)
      refine ⟨Facts.wanted_free rfl, 108, #[.slice none 0 0, .int .u64 (b : Int)], by simp [go_sem, Act.eval, f12], ?_⟩
      refine (lay_any none 0 0 [] (b : Int) W (Sees.nil _ _) (by omega) (by omega) (by omega)).mono ?_
      rw [Nat.zero_add, List.nil_append, Int.toNat_natCast]
      rintro e w7 ⟨A7, c7, rfl, hown7, hb7⟩
      exact ⟨_, rfl, hb7, A7, c7, rfl, (Own.cap hown7).1, (Own.cap hown7).2, Sees.of_own hown7⟩
    · -- 11: the four
      refine Keeps.step_new fun a' W hR hold hnew => ?_
      have h4 : ∃ A c, a'.tmps.getD 4 undef = .slice A 4 c ∧ 4 ≤ c ∧ c ≤ 9223372036854775807 ∧ Sees W A 4 [97, 110, 97, 49] := hnew 1 4 (by kernel_rfl)
      have h7 : ∃ A c, a'.tmps.getD 7 undef = .slice A 1 c ∧ 1 ≤ c ∧ c ≤ 9223372036854775807 ∧ Sees W A 1 [k] := hnew 4 7 (by kernel_rfl)
      have h10 : ∃ A c, a'.tmps.getD 10 undef = .slice A (enc a).length c ∧ (enc a).length ≤ c ∧ c ≤ 9223372036854775807 ∧ Sees W A (enc a).length (enc a) := hnew 7 10 (by kernel_rfl)
      have h13 : ∃ A c, a'.tmps.getD 13 undef = .slice A (enc b).length c ∧ (enc b).length ≤ c ∧ c ≤ 9223372036854775807 ∧ Sees W A (enc b).length (enc b) := hnew 10 13 (by kernel_rfl)
      obtain ⟨A4, c4, f4, r4, _, s4⟩ := h4
      obtain ⟨A7, c7, f7, r7, _, s7⟩ := h7
      obtain ⟨A10, c10, f10, r10, _, s10⟩ := h10
      obtain ⟨A13, c13, f13, r13, _, s13⟩ := h13
      refine ⟨Facts.wanted_free rfl, .slice (some ⟨W.heap.size, 0, none⟩) 4 4, W.alloc (.cells #[.slice A4 4 c4, .slice A7 1 c7, .slice A10 (enc a).length c10, .slice A13 (enc b).length c13] 34), by rw [Array.getD_eq_getD_getElem?] at f4 f7 f10 f13; simp [go_sem, Act.eval, f4, f7, f10, f13], Keeps.R.of_below hR.1.size ((Below.refl _ _).alloc (Nat.le_refl _) _), ?_⟩
      exact ⟨_, 4, rfl, four_all W _ _ _ _ _ _ _ _ _ _ _ _ _ _ _ _ _ s4 s7 s10 s13 r4 r7 r10 r13⟩
    · -- 12: Concat
      refine Keeps.step_call hB0 fun a' W hR hold hnew => ?_
      have h14 : ∃ A c, a'.tmps.getD 14 undef = .slice A 4 c ∧ SeesAll W A 4 [[97, 110, 97, 49], [k], enc a, enc b] := hnew 11 14 (by kernel_rfl)
      obtain ⟨A14, c14, f14, s14⟩ := h14
      refine ⟨Facts.wanted_free rfl, 144, #[.slice A14 4 c14], by simp [go_sem, Act.eval, f14], ?_⟩
      have htot : total [[97, 110, 97, 49], [k], enc a, enc b] = (titleL k a b).length := by rw [← total_flatten]; simp [titleL]
      have hfl : [[97, 110, 97, 49], [k], enc a, enc b].flatten = titleL k a b := by simp [titleL]
      refine (concat_any A14 4 c14 _ W s14 (by omega) (by omega)).mono ?_
      rw [htot, hfl]
      rintro e w7 ⟨A7, c7, rfl, hown7, hb7⟩
      exact ⟨_, rfl, hb7, A7, c7, rfl, (Own.cap hown7).1, (Own.cap hown7).2, Sees.of_own hown7⟩
    · -- 13: Wrap
      refine Keeps.step_call hB0 fun a' W hR hold hnew => ?_
      have h15 : ∃ A c, a'.tmps.getD 15 undef = .slice A (titleL k a b).length c ∧ (titleL k a b).length ≤ c ∧ c ≤ 9223372036854775807 ∧ Sees W A (titleL k a b).length (titleL k a b) := hnew 12 15 (by kernel_rfl)
      obtain ⟨A15, c15, f15, r15, _, s15⟩ := h15
      refine ⟨Facts.wanted_free rfl, 114, #[.slice A15 (titleL k a b).length c15], by simp [go_sem, Act.eval, f15], ?_⟩
      refine (Chk.wrap_new A15 _ c15 _ W (TD.below hR.1) s15 r15 (by omega)).mono ?_
      rw [← wrap_length]
      rintro e w7 ⟨A7, c7, rfl, hown7, hb7⟩
      exact ⟨_, rfl, hb7, A7, c7, rfl, Own.lower hown7 hR.1.size⟩
    · -- 14
      refine Keeps.step_some fun a' W hR hold hnew => ?_
      have h16 : ∃ A c, a'.tmps.getD 16 undef = .slice A (headL k a b).length c ∧ W.ownsRow W0.heap.size 5 1 (.slice A (headL k a b).length c) (headL k a b).length (cs (headL k a b)) := hnew 13 16 (by kernel_rfl)
      obtain ⟨A16, c16, f16, r16⟩ := h16
      exact ⟨Facts.wanted_free rfl, .slice A16 _ c16, by simp [go_sem, Act.eval, f16], A16, c16, rfl, r16⟩
  · intro a' W hR hsize hdef hnew hold
    have h2 : ∃ A c, a'.tmps.getD 2 undef = .slice A (headL k a b).length c ∧ W.ownsRow W0.heap.size 5 1 (.slice A (headL k a b).length c) (headL k a b).length (cs (headL k a b)) := hnew 14 2 (by kernel_rfl)
    obtain ⟨A2, c2, f2, r1⟩ := h2
    have hbb : Below w.heap.size w W := hb0.drew.trans (hR.1.mono hb0.drew.size)
    go_wp2
    try simp only [Exit.inBlock, Exit.then]
    refine bodyPost_ret (results_tmp rfl _ _ _) hdef ?_
    rw [f2]
    exact ⟨A2, c2, rfl, Own.lower r1 hb0.size, hbb⟩
end Go.Proofs.YtkphklmgbdljiaaGreatDoor.Sht

/- sheet.titleOf, of a title's bytes: its contract. -/
namespace Go.Proofs.YtkphklmgbdljiaaGreatDoor.Sht
open Go Go.RowKit Go.Proofs.YtkphklmgbdljiaaGreatDoor.Words Go.Proofs.YtkphklmgbdljiaaGreatDoor.Enc Go.Proofs.YtkphklmgbdljiaaGreatDoor.Made Go.Proofs.YtkphklmgbdljiaaGreatDoor.Tape
set_option linter.unusedVariables false

theorem title_drop (k : UInt8) (a b j : Nat) (h : j < 4) : ∃ u : UInt8, [97, 110, 97, 49][j]? = some u ∧ (titleL k a b).drop j = u :: (titleL k a b).drop (j + 1) := by
  match j, h with
  | 0, _ => exact ⟨97, rfl, rfl⟩
  | 1, _ => exact ⟨110, rfl, rfl⟩
  | 2, _ => exact ⟨97, rfl, rfl⟩
  | 3, _ => exact ⟨49, rfl, rfl⟩

set_option maxRecDepth 100000 in
set_option maxHeartbeats 1000000 in
theorem titleOf_any (A : Option Addr) (n c : Nat) (k : UInt8) (a b : Nat) (w : World) (ha : a < 18446744073709551616) (hb : b < 18446744073709551616) (hs : Sees w A n (titleL k a b)) (hc : n ≤ c) :
    Calls Tryz.prog 176 #[.slice A n c] w fun e w' => e = .returned (.tuple #[titleV k a b, .int .i64 0]) ∧ Below w.heap.size w w' := by
  have hlen := titleL_len (k := k) ha hb
  have hn : n ≤ 100 := by have := hs.1; omega
  clear hlen
  go_enter_defers Tryz.func176, Tryz.ntmps176
  go_wp2_with fail
  have hb0 : Below w.heap.size w ((w.alloc (.cells #[.int .u8 0, .int .u64 0, .int .u64 0] 102)).alloc (.cells #[.int .i64 0] 27)) := ((Below.refl _ _).alloc (Nat.le_refl _) _).alloc (by simp) _
  refine (newTape_any A n c (titleL k a b) _ (hs.below hb0) hc (by omega)).mono ?_
  rintro e w1 ⟨t, rfl, ht, htp, hb1⟩
  have g0 : w1.heap[w.heap.size]? = some (.cells #[.int .u8 0, .int .u64 0, .int .u64 0] 102 (0, 0)) := by
    rw [hb1.block w.heap.size (by simp; omega), Below.heap_alloc _ _ _ (by simp)]
    exact heap_alloc_new w _
  have g1 : w1.heap[w.heap.size + 1]? = some (.cells #[.int .i64 0] 27 (0, 0)) := by
    rw [hb1.block (w.heap.size + 1) (by simp)]
    have := heap_alloc_new (w.alloc (.cells #[.int .u8 0, .int .u64 0, .int .u64 0] 102)) (.cells #[.int .i64 0] 27)
    simpa using this
  have b1 := hb0.trans (hb1.mono hb0.size)
  have hsz1 := hb1.size
  simp only [World.size_alloc] at hsz1 ht
  have hconv := Lib.run_convert_bytes_const (P := Tryz.prog) w1 34 5 #[.int .u8 97, .int .u8 110, .int .u8 97, .int .u8 49] 4 4 Tryz.underlying34 Tryz.underlying5
  have htlt : t < w1.heap.size := by
    obtain ⟨_, _, _, h, _⟩ := htp
    exact (Array.getElem?_eq_some_iff.1 h).1
  clear hb1 hb0 hs
  go_wp2_with fail
  have hbm : Below w1.heap.size w1 (w1.alloc (.cells #[.int .u8 97, .int .u8 110, .int .u8 97, .int .u8 49] 5 (4, 5))) := (Below.refl _ _).alloc (Nat.le_refl _) _
  have gm : (w1.alloc (.cells #[.int .u8 97, .int .u8 110, .int .u8 97, .int .u8 49] 5 (4, 5))).heap[w1.heap.size]? = some (.cells #[.int .u8 97, .int .u8 110, .int .u8 97, .int .u8 49] 5 (4, 5)) := heap_alloc_new w1 _
  have htp2 := htp.below hbm
  have g02 := (hbm.block w.heap.size (by omega)).trans g0
  have g12 := (hbm.block (w.heap.size + 1) (by omega)).trans g1
  have b2 := b1.trans (hbm.mono b1.size)
  have hgt : w1.heap.size ≠ t := by omega
  generalize w1.alloc (.cells #[.int .u8 97, .int .u8 110, .int .u8 97, .int .u8 49] 5 (4, 5)) = W2 at gm htp2 g02 g12 b2 ⊢
  generalize w1.heap.size = g at gm hgt ⊢
  clear hconv hbm htp g0 g1 b1 hsz1 htlt
  go_loopw [13] (fun x wr => ∃ j : Nat, x = .int .i64 (j : Int) ∧ j ≤ 4 ∧ TapeAt wr t ((titleL k a b).drop j) ∧ Beside [t] W2 wr) (fun x _ => 4 - (intOf x).toNat)
  case atStart => exact ⟨0, rfl, by omega, by simpa using htp2, Beside.refl _ _⟩
  case round =>
    obtain ⟨j, rfl, hj, htj, hbj⟩ := hrel
    by_cases hlt : j < 4
    · obtain ⟨u, hu, hdrop⟩ := title_drop k a b j hlt
      rw [hdrop] at htj
      have hg := (hbj.block g (Array.getElem?_eq_some_iff.1 gm).1 (by simpa using hgt)).trans gm
      have hcell : wr.cell? ⟨g, j, none⟩ = some (.int .u8 (u.toNat : Int)) := by
        rw [cell_of_row wr g j _ _ _ hg]
        match j, hlt, hu with
        | 0, _, hu => simp at hu; subst hu; rfl
        | 1, _, hu => simp at hu; subst hu; rfl
        | 2, _, hu => simp at hu; subst hu; rfl
        | 3, _, hu => simp at hu; subst hu; rfl
      clear hdrop hu hg
      go_wp2_with fail
      refine (byte_any t u _ wr htj).mono ?_
      rintro e w3 ⟨rfl, ht3, hb3⟩
      go_wp2
      go_roundw
      case rel => exact ⟨j + 1, rfl, by omega, ht3, hbj.trans hb3 fun x hx => .inl hx⟩
      case measure => simp [intOf]; omega
    · obtain rfl : j = 4 := by omega
      rw [show (titleL k a b).drop 4 = k :: (enc a ++ enc b) from rfl] at htj
      go_wp2_with fail
      refine (byte_any t k _ wr htj).mono ?_
      rintro e w3 ⟨rfl, ht3, hb3⟩
      go_wp2_with fail
      refine (num_any t a _ w3 ht3 ha (by have := enc_ten hb; omega)).mono ?_
      rintro e w4 ⟨rfl, ht4, hb4⟩
      rw [← List.append_nil (enc b)] at ht4
      go_wp2_with fail
      refine (num_any t b [] w4 ht4 hb (by simp)).mono ?_
      rintro e w5 ⟨rfl, ht5, hb5⟩
      have hbs : Beside [t] W2 w5 := ((hbj.trans hb3 fun x hx => .inl hx).trans hb4 fun x hx => .inl hx).trans hb5 fun x hx => .inl hx
      have k0 := (hbs.block w.heap.size (Array.getElem?_eq_some_iff.1 g02).1 (by simp; omega)).trans g02
      have k1 := (hbs.block (w.heap.size + 1) (Array.getElem?_eq_some_iff.1 g12).1 (by simp; omega)).trans g12
      have b5 : Below w.heap.size w w5 := Below.beside b2 hbs b2.size fun x hx => by simp at hx; omega
      clear hbj hb3 hb4 hb5 htj ht3 ht4 hbs g02 g12 b2 gm
      have hlt5 : w.heap.size + 1 < w5.heap.size := (Array.getElem?_eq_some_iff.1 k1).1
      go_wp2_with fail
      refine (done_any t _ (ht5.below ((Below.refl _ _).alloc (Nat.le_refl _) _))).mono ?_
      rintro e w6 ⟨rfl, rfl⟩
      have hb6 : Below w5.heap.size w5 (w5.alloc (.cells #[.int .u8 (k.toNat : Int), .int .u64 (a : Int), .int .u64 (b : Int)] 102)) := (Below.refl _ _).alloc (Nat.le_refl _) _
      have q0 := (hb6.block w.heap.size (by omega)).trans k0
      have q1 := (hb6.block (w.heap.size + 1) (by omega)).trans k1
      have q2 : (w5.alloc (.cells #[.int .u8 (k.toNat : Int), .int .u64 (a : Int), .int .u64 (b : Int)] 102)).heap[w5.heap.size]? = some (.cells #[.int .u8 (k.toNat : Int), .int .u64 (a : Int), .int .u64 (b : Int)] 102 (0, 0)) := heap_alloc_new w5 _
      have b6 := b5.trans (hb6.mono b5.size)
      generalize w5.alloc (.cells #[.int .u8 (k.toNat : Int), .int .u64 (a : Int), .int .u64 (b : Int)] 102) = W6 at q0 q1 q2 b6 ⊢
      generalize w5.heap.size = r at q2 hlt5 ⊢
      clear k0 k1 hb6 b5 ht5
      obtain ⟨m, hm⟩ : ∃ m, m = w.heap.size := ⟨_, rfl⟩
      have hb6' : m ≤ W6.heap.size := by have := b6.size; omega
      have HB6 := Lib.hid b6
      have c00 : W6.cell? ⟨w.heap.size, 0, none⟩ = some (.int .u8 0) := by rw [cell_of_row W6 w.heap.size _ _ _ _ q0]; rfl
      have c01 : W6.cell? ⟨w.heap.size, 1, none⟩ = some (.int .u64 0) := by rw [cell_of_row W6 w.heap.size _ _ _ _ q0]; rfl
      have c02 : W6.cell? ⟨w.heap.size, 2, none⟩ = some (.int .u64 0) := by rw [cell_of_row W6 w.heap.size _ _ _ _ q0]; rfl
      have c10 : W6.cell? ⟨w.heap.size + 1, 0, none⟩ = some (.int .i64 0) := by rw [cell_of_row W6 (w.heap.size + 1) _ _ _ _ q1]; rfl
      have c20 : W6.cell? ⟨r, 0, none⟩ = some (.int .u8 (k.toNat : Int)) := by rw [cell_of_row W6 r _ _ _ _ q2]; rfl
      have c21 : W6.cell? ⟨r, 1, none⟩ = some (.int .u64 (a : Int)) := by rw [cell_of_row W6 r _ _ _ _ q2]; rfl
      have c22 : W6.cell? ⟨r, 2, none⟩ = some (.int .u64 (b : Int)) := by rw [cell_of_row W6 r _ _ _ _ q2]; rfl
      have f00 : W6.frozen? ⟨w.heap.size, 0, none⟩ = false := frozen_row0 q0
      have f01 : W6.frozen? ⟨w.heap.size, 1, none⟩ = false := frozen_row0 q0
      have f02 : W6.frozen? ⟨w.heap.size, 2, none⟩ = false := frozen_row0 q0
      have f10 : W6.frozen? ⟨w.heap.size + 1, 0, none⟩ = false := frozen_row0 q1
      clear q0 q1 q2 b6
      go_wp2
      refine leaves_cons (f := 145) (args := #[.pointer (some ⟨w.heap.size + 1, 0, none⟩)]) (by simp) (by simp [go_sem]) ?_
      refine (caught_idle _ _).mono ?_
      rintro e u' w'' ⟨rfl, rfl, rfl⟩
      have hbel : Below w.heap.size w ((((W6.setCell ⟨w.heap.size, 0, none⟩ (.int .u8 (k.toNat : Int))).setCell ⟨w.heap.size, 1, none⟩ (.int .u64 (a : Int))).setCell ⟨w.heap.size, 2, none⟩ (.int .u64 (b : Int))).setCell ⟨w.heap.size + 1, 0, none⟩ (.int .i64 0)) :=
        Below.beside HB6.out (((((Beside.refl [w.heap.size, w.heap.size + 1] W6).setCell (by simp) _).setCell (by simp) _).setCell (by simp) _).setCell (by simp) _) HB6.out.size (fun x hx => by simp at hx; omega)
      have HBEL := Lib.hid hbel
      clear hbel HB6 hm hb6'
      simp [Leaves, settle, results, Tryz.results176, go_sem, c00, c01, c02, c10, titleV]
      exact HBEL.out
end Go.Proofs.YtkphklmgbdljiaaGreatDoor.Sht

/- sheet.whole, tooLong, create, Begin, Add: their contracts. -/
namespace Go.Proofs.YtkphklmgbdljiaaGreatDoor.Sht
open Go Go.RowKit Go.Proofs.YtkphklmgbdljiaaGreatDoor.Words Go.Proofs.YtkphklmgbdljiaaGreatDoor.Enc Go.Proofs.YtkphklmgbdljiaaGreatDoor.Made Go.Proofs.YtkphklmgbdljiaaGreatDoor.Dsk
set_option linter.unusedVariables false

/-- The records of texts, one behind the other. -/
def wraps (L : List (List UInt8)) : List UInt8 := (L.map wrap).flatten
theorem wraps_append (L M : List (List UInt8)) : wraps (L ++ M) = wraps L ++ wraps M := by simp [wraps]
/-- tooLong. -/
theorem tooLong_any (A : Option Addr) (n c : Nat) (w : World) :
    Calls Tryz.prog 112 #[.slice A n c] w fun e w' => e = .returned (.bool (decide (2097152 < (n : Int)))) ∧ w = w' := by
  go_enter Tryz.func112, Tryz.ntmps112
  go_wp2
  go_ret
  exact ⟨rfl, rfl⟩

/-- What create comes to: the error, the files, the struct. -/
def createR (h : Hd) (s q : List UInt8) (files : List File) : Int × List File × Hd :=
  if appE h s q files = 0 then (thereE h.act s (appF h s q files), thereF h.act s syncG (appF h s q files), h.act.act) else (appE h s q files, appF h s q files, h.act)

set_option maxRecDepth 100000 in
theorem create_any (d : Nat) (S : List Nat) (files : List File) (h : Hd) (s : List UInt8) (A : Option Addr) (n c : Nat) (q : List UInt8) (w : World) (hd : Disk w d S files h) (hf : h.fits) (ha : h.acts < 999999999999) (hs : okName s = true)
    (ht : sumA files ≤ 1000000000000) (ht2 : sumA (appF h s q files) ≤ 1000000000000) (hfs : files.length < 1000000000000) (hn : n ≤ 1000000000000) (hnc : n ≤ c) (hcc : c ≤ 9223372036854775807) (hq : Sees w A n q) (hout : Out S A n) :
    Calls Tryz.prog 105 #[.pointer (some ⟨d, 0, none⟩), .string ⟨s.toArray⟩, .slice A n c] w fun e w' => e = .returned (.int .i64 (createR h s q files).1) ∧ Dsk.Next S w d (createR h s q files).2.1 (createR h s q files).2.2 w' := by
  have hs2 := okName_len hs
  by_cases h0 : appE h s q files = 0
  · have hr : createR h s q files = (thereE h.act s (appF h s q files), thereF h.act s syncG (appF h s q files), h.act.act) := by unfold createR; rw [if_pos h0]
    rw [hr]
    have H0 := Lib.hid h0
    clear hr h0
    go_enter Tryz.func105, Tryz.ntmps105
    go_wp2_with fail
    refine (appendC d S files h s A n c q w hd hf (by omega) hs ht hfs hn hnc hcc hq hout).mono ?_
    rintro e w1 ⟨rfl, S1, hd1, hb1, hs1⟩
    rw [H0.out]
    go_wp2_with fail
    refine (syncC d S1 _ h.act s w1 hd1 (Hd.fits_act hf (by omega)) hs2 ht2).mono ?_
    rintro e w2 ⟨rfl, hn2⟩
    go_wp2
    go_ret
    exact ⟨rfl, Dsk.Next.step hb1 hs1 hn2⟩
  · have hr : createR h s q files = (appE h s q files, appF h s q files, h.act) := by unfold createR; rw [if_neg h0]
    rw [hr]
    obtain ⟨E, hE⟩ : ∃ E, E = appE h s q files := ⟨_, rfl⟩
    rw [← hE] at h0 ⊢
    have hE0 : (E != 0) = true := by simpa using h0
    have HE := Lib.hid hE
    clear hr h0 hE
    go_enter Tryz.func105, Tryz.ntmps105
    go_wp2_with fail
    refine (appendC d S files h s A n c q w hd hf (by omega) hs ht hfs hn hnc hcc hq hout).mono ?_
    rintro e w1 ⟨rfl, hn1⟩
    rw [← HE.out]
    go_wp2
    go_ret
    exact ⟨rfl, hn1⟩

/-- What Begin comes to. -/
def beginR (h : Hd) (s q : List UInt8) (files : List File) : Int × List File × Hd := if readE h s files = 0 then (10, files, h) else createR h s q files

set_option maxRecDepth 100000 in
theorem begin_any (d : Nat) (S : List Nat) (files : List File) (h : Hd) (s : List UInt8) (k : UInt8) (a b : Nat) (w : World) (T : Chk.Tabs w) (ha : a < 18446744073709551616) (hb : b < 18446744073709551616) (hd : Disk w d S files h) (hf : h.fits) (hac : h.acts < 999999999999) (hs : okName s = true)
    (ht : sumA files ≤ 1000000000000) (ht2 : sumA (appF h s (headL k a b) files) ≤ 1000000000000) (hfs : files.length < 1000000000000) :
    Calls Tryz.prog 67 #[.pointer (some ⟨d, 0, none⟩), .string ⟨s.toArray⟩, titleV k a b] w fun e w' => e = .returned (.int .i64 (beginR h s (headL k a b) files).1) ∧ Dsk.Next S w d (beginR h s (headL k a b) files).2.1 (beginR h s (headL k a b) files).2.2 w' := by
  have hs2 := okName_len hs
  have hhl := headL_len (k := k) ha hb
  have htl := (titleL_len (k := k) ha hb).2
  have hlen : (headL k a b).length ≤ 30 := by omega
  clear hhl htl
  have hb0 : Below w.heap.size w (w.alloc (.cells #[.int .u8 (k.toNat : Int), .int .u64 (a : Int), .int .u64 (b : Int)] 102)) := (Below.refl _ _).alloc (Nat.le_refl _) _
  have g0 : (w.alloc (.cells #[.int .u8 (k.toNat : Int), .int .u64 (a : Int), .int .u64 (b : Int)] 102)).heap[w.heap.size]? = some (.cells #[.int .u8 (k.toNat : Int), .int .u64 (a : Int), .int .u64 (b : Int)] 102 (0, 0)) := heap_alloc_new w _
  have hlt : w.heap.size < (w.alloc (.cells #[.int .u8 (k.toNat : Int), .int .u64 (a : Int), .int .u64 (b : Int)] 102)).heap.size := by simp
  have hread := readC d S files h s _ (hd.below hb0) hs2 ht
  have hhead := fun W T => head_any k a b W T ha hb
  unfold titleV at hhead ⊢
  by_cases h0 : readE h s files = 0
  · have hr : beginR h s (headL k a b) files = (10, files, h) := by unfold beginR; rw [if_pos h0]
    rw [hr]
    rw [h0] at hread
    clear hr h0 g0 hlt
    go_enter Tryz.func67, Tryz.ntmps67
    go_wp2_with fail
    refine hread.mono ?_
    rintro e w1 ⟨A1, c1, rfl, hown, hb1⟩
    go_wp2
    go_ret
    exact ⟨rfl, (Dsk.Next.refl ((hd.below hb0).below hb1)).below (hb0.trans (hb1.mono hb0.size))⟩
  · have hr : beginR h s (headL k a b) files = createR h s (headL k a b) files := by unfold beginR; rw [if_neg h0]
    rw [hr]
    obtain ⟨E, hE⟩ : ∃ E, E = readE h s files := ⟨_, rfl⟩
    rw [← hE] at hread h0
    have hE0 : (E == 0) = false := by simpa using h0
    clear hr h0 hE
    go_enter Tryz.func67, Tryz.ntmps67
    go_wp2_with fail
    refine hread.mono ?_
    rintro e w1 ⟨A1, c1, rfl, hown, hb1⟩
    have b1 := hb0.trans (hb1.mono hb0.size)
    have g1 := (hb1.block w.heap.size hlt).trans g0
    have d0 : w1.cell? ⟨w.heap.size, 0, none⟩ = some (.int .u8 (k.toNat : Int)) := by rw [cell_of_row w1 w.heap.size _ _ _ _ g1]; rfl
    have d1 : w1.cell? ⟨w.heap.size, 1, none⟩ = some (.int .u64 (a : Int)) := by rw [cell_of_row w1 w.heap.size _ _ _ _ g1]; rfl
    have d2 : w1.cell? ⟨w.heap.size, 2, none⟩ = some (.int .u64 (b : Int)) := by rw [cell_of_row w1 w.heap.size _ _ _ _ g1]; rfl
    have hd1 := (hd.below hb0).below hb1
    clear g0 hlt hread g1 hown
    go_wp2_with fail
    refine (hhead w1 (T.below b1)).mono ?_
    rintro e w2 ⟨A2, c2, rfl, hown2, hb2⟩
    have hcap := Own.cap hown2
    have hsee := Sees.of_own hown2
    have b2 := b1.trans (hb2.mono b1.size)
    go_wp2_with fail
    refine (create_any d S files h s A2 (headL k a b).length c2 (headL k a b) w2 (hd1.below hb2) hf hac hs ht ht2 hfs (by omega) hcap.1 hcap.2 hsee (Out.of_own hown2 fun x hx => hd1.lt x hx)).mono ?_
    rintro e w3 ⟨rfl, hn3⟩
    go_wp2
    go_ret
    exact ⟨rfl, hn3.below b2⟩

set_option maxRecDepth 100000 in
theorem add_any (d : Nat) (S : List Nat) (files : List File) (h : Hd) (s : List UInt8) (A : Option Addr) (n c : Nat) (l : List UInt8) (w : World) (T : Chk.Tabs w) (hd : Disk w d S files h) (hf : h.fits) (hac : h.acts < 1000000000000) (hs : okName s = true)
    (ht : sumA files ≤ 1000000000000) (hfs : files.length < 1000000000000) (hn : n ≤ 2097152) (hnc : n ≤ c) (hsee : Sees w A n l) :
    Calls Tryz.prog 71 #[.pointer (some ⟨d, 0, none⟩), .string ⟨s.toArray⟩, .slice A n c] w fun e w' => e = .returned (.int .i64 (appE h s (wrap l) files)) ∧ Dsk.Next S w d (appF h s (wrap l) files) h.act w' := by
  have h1 : decide (2097152 < (n : Int)) = false := by simp; omega
  have he := enc_ten (n := n) (by omega)
  go_enter Tryz.func71, Tryz.ntmps71
  go_wp2_with fail
  refine (tooLong_any A n c w).mono ?_
  rintro e w1 ⟨rfl, rfl⟩
  rw [h1]
  go_wp2_with fail
  refine (Chk.wrap_new A n c l w T hsee hnc (by omega)).mono ?_
  rintro e w1 ⟨A1, c1, rfl, hown1, hb1⟩
  have hcap := Own.cap hown1
  have hs1 := Sees.of_own hown1
  go_wp2_with fail
  refine (appendC d S files h s A1 _ c1 _ w1 (hd.below hb1) hf hac hs ht hfs (by omega) hcap.1 hcap.2 hs1 (Out.of_own hown1 fun x hx => hd.lt x hx)).mono ?_
  rintro e w2 ⟨rfl, hn2⟩
  go_wp2
  go_ret
  exact ⟨rfl, hn2.below hb1⟩
end Go.Proofs.YtkphklmgbdljiaaGreatDoor.Sht

/- sheet.Scan, of bytes that begin with a title: its contract. sheet.Read, Mend: their contracts. sheet.Swap: its contract. Records one behind the other, whole and torn: plain lists. -/
namespace Go.Proofs.YtkphklmgbdljiaaGreatDoor.Sht
open Go Go.RowKit Go.Proofs.YtkphklmgbdljiaaGreatDoor.Words Go.Proofs.YtkphklmgbdljiaaGreatDoor.Enc Go.Proofs.YtkphklmgbdljiaaGreatDoor.Made Go.Proofs.YtkphklmgbdljiaaGreatDoor.Dsk
set_option linter.unusedVariables false

/-- A sheet, as a struct. -/
def sheetV (k : UInt8) (a b : Nat) (Al : Option Addr) (nl cl : Nat) (good E : Nat) : Value := .agg #[.int .u8 (k.toNat : Int), .int .u64 (a : Int), .int .u64 (b : Int), .slice Al nl cl, .int .i64 (good : Int), .int .i64 (E : Int)]
/-- What Scan, Read, Mend tell: the sheet; its texts and their list are new. -/
def TellsSheet (k : UInt8) (a b : Nat) (L : List (List UInt8)) (good E : Nat) (w : World) (e : Ending) (w' : World) : Prop :=
  ∃ Al nl cl vs, e = .returned (.tuple #[sheetV k a b Al nl cl good E, .int .i64 0]) ∧ w'.ownsRow w.heap.size 34 1 (.slice Al nl cl) nl vs ∧ Chk.EachOwn w.heap.size w' vs L ∧ Below w.heap.size w w'
def most : Int := 2097152
def goodN (k : UInt8) (a b : Nat) (q : List UInt8) : Nat := (headL k a b).length + (allL q most).2.1

theorem eachOwn_of {base : Nat} {w w' : World} {vs : List Value} {L : List (List UInt8)} (h : Chk.EachOwn base w vs L) {B : Nat} (hb : Below B w w') (hB : w.heap.size ≤ B) : Chk.EachOwn base w' vs L := h.of fun v n l ho => Own.below ho hb hB
theorem own_beside {w w' : World} {base : Nat} {S : List Nat} {e : TypeId} {v : Value} {n : Nat} {xs : List Value} (h : w.ownsRow base e 1 v n xs) (hb : Beside S w w') (hS : ∀ x ∈ S, x < base) : w'.ownsRow base e 1 v n xs := by
  refine ⟨h.1, ?_⟩
  rcases h.2 with hn | ⟨g, cap, cur, hv, hg, hh, r⟩
  · exact .inl hn
  · exact .inr ⟨g, cap, cur, hv, hg, (hb.block g (Array.getElem?_eq_some_iff.1 hh).1 (fun hm => by have := hS g hm; omega)).trans hh, r⟩
theorem allL_le (l : List UInt8) (m : Int) : (allL l m).2.1 ≤ l.length := by
  have h : ∀ f l, (allF m f l).2.1 ≤ l.length := by
    intro f
    induction f with
    | zero => intro l; simp [allF]
    | succ f ih =>
      intro l
      rw [allF]
      split
      · simp
      · split
        · simp
        · have h1 := openL_len l m
          have h2 := ih (l.drop (openL l m).2.1)
          rw [List.length_drop] at h2
          simp only []
          omega
  exact h _ l

set_option maxRecDepth 100000 in
set_option maxHeartbeats 1000000 in
theorem scan_any (A : Option Addr) (n c : Nat) (k : UInt8) (a b : Nat) (q : List UInt8) (w : World) (T : Chk.Tabs w) (ha : a < 18446744073709551616) (hb : b < 18446744073709551616) (hs : Sees w A n (headL k a b ++ q)) (hc : n ≤ c) (hcm : c ≤ 9223372036854775807) (hn : n ≤ 500000000) :
    Calls Tryz.prog 143 #[.slice A n c] w (TellsSheet k a b (allL q most).1 (goodN k a b q) (allL q most).2.2 w) := by
  have hhl := headL_len (k := k) ha hb
  have htl := (titleL_len (k := k) ha hb).2
  have hno := hs.1
  rw [List.length_append] at hno
  have hop : openL (headL k a b ++ q) 2097152 = (titleL k a b, (headL k a b).length, 0) := open_wrap (titleL k a b) q 2097152 (by omega) (by omega)
  have hle := allL_le q most
  have hb0 : Below w.heap.size w (w.alloc (.cells #[.int .u8 0, .int .u64 0, .int .u64 0, .slice none 0 0, .int .i64 0, .int .i64 0] 142)) := (Below.refl _ _).alloc (Nat.le_refl _) _
  have g0 : (w.alloc (.cells #[.int .u8 0, .int .u64 0, .int .u64 0, .slice none 0 0, .int .i64 0, .int .i64 0] 142)).heap[w.heap.size]? = some (.cells #[.int .u8 0, .int .u64 0, .int .u64 0, .slice none 0 0, .int .i64 0, .int .i64 0] 142 (0, 0)) := heap_alloc_new w _
  obtain ⟨H, hH⟩ : ∃ H, H = (headL k a b).length := ⟨_, rfl⟩
  rw [← hH] at hop hno
  have hgood : goodN k a b q = H + (allL q most).2.1 := by unfold goodN; rw [hH]
  have HHL := Lib.hid hhl
  have HGOOD := Lib.hid hgood
  have hH50 : H ≤ 50 := by omega
  clear hhl hgood hH
  go_enter Tryz.func143, Tryz.ntmps143
  go_wp2_with fail
  refine (Chk.openR_any A n c _ 2097152 _ (T.below hb0) (hs.below hb0) hc hcm (by omega) (by omega) (by omega)).mono ?_
  rw [hop]
  rintro e w1 ⟨A1, n1, c1, A2, n2, c2, rfl, hown1, hrest, hcc2, hcm2, hb1⟩
  simp only [] at hown1 hrest ⊢
  have hs1 := hown1.sees
  have hcap1 := hown1.cap
  have b1 := hb0.trans (hb1.mono hb0.size)
  have hs2 := hrest _ (hs.below b1)
  have hdrop : (headL k a b ++ q).drop H = q := by
    have : H = (headL k a b).length := by have h1 := HHL.out; have h2 := HGOOD.out; unfold goodN at h2; omega
    rw [this]
    exact List.drop_left
  rw [hdrop] at hs2
  have hn2 : n2 = n - H := by have := hs2.1; omega
  have HN2 := Lib.hid hn2
  have g1 := (hb1.block w.heap.size (by simp)).trans g0
  clear hrest hown1 hn2 hdrop g0
  go_wp2_with fail
  refine (titleOf_any A1 n1 c1 k a b w1 ha hb hs1 hcap1.1).mono ?_
  unfold titleV
  rintro e w2 ⟨rfl, hb2⟩
  have b2 := b1.trans (hb2.mono b1.size)
  have g2 := (hb2.block w.heap.size (Array.getElem?_eq_some_iff.1 g1).1).trans g1
  have hs22 := hs2.below hb2
  have hsz2 := b2.size
  clear hs2 g1 hs1
  go_wp2_with fail
  have hb3 : Below w2.heap.size w2 (w2.alloc (.cells #[.int .u8 (k.toNat : Int), .int .u64 (a : Int), .int .u64 (b : Int)] 102)) := (Below.refl _ _).alloc (Nat.le_refl _) _
  have q3 : (w2.alloc (.cells #[.int .u8 (k.toNat : Int), .int .u64 (a : Int), .int .u64 (b : Int)] 102)).heap[w2.heap.size]? = some (.cells #[.int .u8 (k.toNat : Int), .int .u64 (a : Int), .int .u64 (b : Int)] 102 (0, 0)) := heap_alloc_new w2 _
  have g3 := (hb3.block w.heap.size (Array.getElem?_eq_some_iff.1 g2).1).trans g2
  have hs3 := hs22.below hb3
  have b3 := b2.trans (hb3.mono b2.size)
  have hlt3 : w.heap.size < w2.heap.size := (Array.getElem?_eq_some_iff.1 g2).1
  clear g2 hs22 hb3 b2
  generalize w2.alloc (.cells #[.int .u8 (k.toNat : Int), .int .u64 (a : Int), .int .u64 (b : Int)] 102) = W3 at q3 g3 hs3 b3 ⊢
  generalize w2.heap.size = r at q3 hlt3 ⊢
  refine (Chk.allR_any A2 n2 c2 q 2097152 W3 (T.below b3) hs3 hcc2 hcm2 (by have := HN2.out; omega) (by omega) (by omega)).mono ?_
  rintro e w4 ⟨Al, nl, cl, vs, rfl, hown4, heach4, hb4⟩
  have b4 := b3.trans (hb4.mono b3.size)
  have g4 := (hb4.block w.heap.size (Array.getElem?_eq_some_iff.1 g3).1).trans g3
  have q4 := (hb4.block r (Array.getElem?_eq_some_iff.1 q3).1).trans q3
  have hm0 : w.heap.size < W3.heap.size := (Array.getElem?_eq_some_iff.1 g3).1
  obtain ⟨G, hG⟩ : ∃ G, G = (allL q 2097152).2.1 := ⟨_, rfl⟩
  obtain ⟨E, hE⟩ : ∃ E, E = (allL q 2097152).2.2 := ⟨_, rfl⟩
  rw [← hG, ← hE]
  have hle' : G ≤ q.length := by rw [hG]; exact hle
  have hGE : Hid (G = (allL q 2097152).2.1 ∧ E = (allL q 2097152).2.2) := ⟨hG, hE⟩
  have HE4 := Lib.hid heach4
  have HO4 := Lib.hid hown4
  have hsub : IntKind.i64.wrap ((n : Int) - (n2 : Int)) = (H : Int) := by have := HN2.out; rw [IntWalk.i64_in _ (by omega)]; omega
  have hsum : IntKind.i64.wrap ((H : Int) + (G : Int)) = (H : Int) + (G : Int) := IntWalk.i64_in _ (by omega)
  have c0 : w4.cell? ⟨w.heap.size, 0, none⟩ = some (.int .u8 0) := by rw [cell_of_row w4 w.heap.size _ _ _ _ g4]; rfl
  have c1' : w4.cell? ⟨w.heap.size, 1, none⟩ = some (.int .u64 0) := by rw [cell_of_row w4 w.heap.size _ _ _ _ g4]; rfl
  have c2' : w4.cell? ⟨w.heap.size, 2, none⟩ = some (.int .u64 0) := by rw [cell_of_row w4 w.heap.size _ _ _ _ g4]; rfl
  have c3' : w4.cell? ⟨w.heap.size, 3, none⟩ = some (.slice none 0 0) := by rw [cell_of_row w4 w.heap.size _ _ _ _ g4]; rfl
  have c4' : w4.cell? ⟨w.heap.size, 4, none⟩ = some (.int .i64 0) := by rw [cell_of_row w4 w.heap.size _ _ _ _ g4]; rfl
  have c5' : w4.cell? ⟨w.heap.size, 5, none⟩ = some (.int .i64 0) := by rw [cell_of_row w4 w.heap.size _ _ _ _ g4]; rfl
  have f0 : w4.frozen? ⟨w.heap.size, 0, none⟩ = false := frozen_row0 g4
  have f1 : w4.frozen? ⟨w.heap.size, 1, none⟩ = false := frozen_row0 g4
  have f2 : w4.frozen? ⟨w.heap.size, 2, none⟩ = false := frozen_row0 g4
  have f3 : w4.frozen? ⟨w.heap.size, 3, none⟩ = false := frozen_row0 g4
  have f4 : w4.frozen? ⟨w.heap.size, 4, none⟩ = false := frozen_row0 g4
  have f5 : w4.frozen? ⟨w.heap.size, 5, none⟩ = false := frozen_row0 g4
  have t0 : w4.cell? ⟨r, 0, none⟩ = some (.int .u8 (k.toNat : Int)) := by rw [cell_of_row w4 r _ _ _ _ q4]; rfl
  have t1 : w4.cell? ⟨r, 1, none⟩ = some (.int .u64 (a : Int)) := by rw [cell_of_row w4 r _ _ _ _ q4]; rfl
  have t2 : w4.cell? ⟨r, 2, none⟩ = some (.int .u64 (b : Int)) := by rw [cell_of_row w4 r _ _ _ _ q4]; rfl
  have B4 := Lib.hid b4
  have HB3 := Lib.hid b3.size
  clear g4 q4 heach4 hown4 hG hE hle hle' b4 b3 hb4 g3 q3 hs3 hs hb0 hb1 hb2 b1 hsz2 hcap1
  go_wp2
  refine bodyPost_ret (v := .tuple #[.agg #[.int .u8 (k.toNat : Int), .int .u64 (a : Int), .int .u64 (b : Int), .slice Al nl cl, .int .i64 ((H : Int) + (G : Int)), .int .i64 (E : Int)], .int .i64 0]) (by simp [results, Tryz.results143, go_sem, c0, c1', c2', c3', c4', c5']) rfl ?_
  have hbes : Beside [w.heap.size] w4 ((((((w4.setCell ⟨w.heap.size, 0, none⟩ (.int .u8 (k.toNat : Int))).setCell ⟨w.heap.size, 1, none⟩ (.int .u64 (a : Int))).setCell ⟨w.heap.size, 2, none⟩ (.int .u64 (b : Int))).setCell ⟨w.heap.size, 3, none⟩ (.slice Al nl cl)).setCell ⟨w.heap.size, 4, none⟩ (.int .i64 ((H : Int) + (G : Int)))).setCell ⟨w.heap.size, 5, none⟩ (.int .i64 (E : Int))) :=
    ((((((Beside.refl [w.heap.size] w4).setCell (by simp) _).setCell (by simp) _).setCell (by simp) _).setCell (by simp) _).setCell (by simp) _).setCell (by simp) _
  have hSm : ∀ x ∈ [w.heap.size], x < W3.heap.size := fun x hx => by simp at hx; omega
  have hg1 := hGE.out
  have hg2 := HGOOD.out
  have hb4 := B4.out
  refine ⟨Al, nl, cl, vs, ?_, Own.lower (own_beside HO4.out hbes hSm) HB3.out, ?_, Below.beside hb4 hbes hb4.size (fun x hx => by simp at hx; omega)⟩
  · rw [hg2]
    unfold sheetV most
    rw [← hg1.1, ← hg1.2]
    simp
  · have he := HE4.out.of fun v n l ho => own_beside ho hbes hSm
    exact ⟨he.1, fun j l hl => by
      obtain ⟨A', c', h1, h2⟩ := he.2 j l hl
      exact ⟨A', c', h1, h2.lower HB3.out⟩⟩
end Go.Proofs.YtkphklmgbdljiaaGreatDoor.Sht
namespace Go.Proofs.YtkphklmgbdljiaaGreatDoor.Sht
open Go Go.RowKit Go.Proofs.YtkphklmgbdljiaaGreatDoor.Words Go.Proofs.YtkphklmgbdljiaaGreatDoor.Enc Go.Proofs.YtkphklmgbdljiaaGreatDoor.Made Go.Proofs.YtkphklmgbdljiaaGreatDoor.Dsk
set_option linter.unusedVariables false

/-- A sheet's variable holds these six. -/
def SheetAt (w : World) (g : Nat) (x0 x1 x2 x3 x4 x5 : Value) : Prop := w.heap[g]? = some (.cells #[x0, x1, x2, x3, x4, x5] 142 (0, 0))
theorem SheetAt.cells {w : World} {g : Nat} {x0 x1 x2 x3 x4 x5 : Value} (h : SheetAt w g x0 x1 x2 x3 x4 x5) :
    (w.cell? ⟨g, 0, none⟩ = some x0 ∧ w.cell? ⟨g, 1, none⟩ = some x1 ∧ w.cell? ⟨g, 2, none⟩ = some x2 ∧ w.cell? ⟨g, 3, none⟩ = some x3 ∧ w.cell? ⟨g, 4, none⟩ = some x4 ∧ w.cell? ⟨g, 5, none⟩ = some x5) ∧ ∀ i, w.frozen? ⟨g, i, none⟩ = false := by
  unfold SheetAt at h
  refine ⟨⟨?_, ?_, ?_, ?_, ?_, ?_⟩, fun i => frozen_row0 h⟩ <;> (rw [cell_of_row w g _ _ _ _ h]; rfl)
theorem sheetAt_new (w : World) (x0 x1 x2 x3 x4 x5 : Value) : SheetAt (w.alloc (.cells #[x0, x1, x2, x3, x4, x5] 142)) w.heap.size x0 x1 x2 x3 x4 x5 := heap_alloc_new w _
theorem SheetAt.lt {w : World} {g : Nat} {x0 x1 x2 x3 x4 x5 : Value} (h : SheetAt w g x0 x1 x2 x3 x4 x5) : g < w.heap.size := (Array.getElem?_eq_some_iff.1 h).1
theorem SheetAt.below {w w' : World} {g : Nat} {x0 x1 x2 x3 x4 x5 : Value} (h : SheetAt w g x0 x1 x2 x3 x4 x5) (hb : Below w.heap.size w w') : SheetAt w' g x0 x1 x2 x3 x4 x5 := (hb.block g h.lt).trans h
theorem SheetAt.beside {w w' : World} {g : Nat} {x0 x1 x2 x3 x4 x5 : Value} {S : List Nat} (h : SheetAt w g x0 x1 x2 x3 x4 x5) (hb : Beside S w w') (hS : g ∉ S) : SheetAt w' g x0 x1 x2 x3 x4 x5 := (hb.block g h.lt hS).trans h
/-- Six stores into one variable. -/
theorem beside_six (w : World) (g : Nat) (x0 x1 x2 x3 x4 x5 : Value) : Beside [g] w ((((((w.setCell ⟨g, 0, none⟩ x0).setCell ⟨g, 1, none⟩ x1).setCell ⟨g, 2, none⟩ x2).setCell ⟨g, 3, none⟩ x3).setCell ⟨g, 4, none⟩ x4).setCell ⟨g, 5, none⟩ x5) :=
  ((((((Beside.refl [g] w).setCell (by simp) _).setCell (by simp) _).setCell (by simp) _).setCell (by simp) _).setCell (by simp) _).setCell (by simp) _
theorem each_lower {base base' : Nat} {w : World} {vs : List Value} {L : List (List UInt8)} (h : Chk.EachOwn base w vs L) (hb : base' ≤ base) : Chk.EachOwn base' w vs L :=
  ⟨h.1, fun j l hl => by
    obtain ⟨A', c', h1, h2⟩ := h.2 j l hl
    exact ⟨A', c', h1, h2.lower hb⟩⟩
theorem each_beside {base : Nat} {w w' : World} {vs : List Value} {L : List (List UInt8)} {S : List Nat} (h : Chk.EachOwn base w vs L) (hb : Beside S w w') (hS : ∀ x ∈ S, x < base) : Chk.EachOwn base w' vs L := h.of fun v n l ho => own_beside ho hb hS

/-- A store into a block of another kind leaves a row alone. -/
theorem own_other {w : World} {base r i : Nat} {e e2 : TypeId} {v u : Value} {n : Nat} {xs : List Value} {cur2 : Array Value} {fr : Nat × Nat} (h : w.ownsRow base e 1 v n xs) (hr : w.heap[r]? = some (.cells cur2 e2 fr)) (he : e ≠ e2) : (w.setCell ⟨r, i, none⟩ u).ownsRow base e 1 v n xs := by
  refine ⟨h.1, ?_⟩
  rcases h.2 with hn | ⟨g, cap, cur, hv, hg, hh, r'⟩
  · exact .inl hn
  · refine .inr ⟨g, cap, cur, hv, hg, (heapOther ?_).trans hh, r'⟩
    intro e'
    rw [e', hr] at hh
    injection hh with hh
    injection hh with _ h2
    exact he h2.symm
theorem read_bytes {h : Hd} {s : List UInt8} {files : List File} {f : File} (hoff : h.off = false) (hl : lookA s files = some f) : readP h s files = f.p ∧ readE h s files = 0 := by
  simp [readP, readE, hoff, hl]
theorem lookA_mem {s : List UInt8} {files : List File} {f : File} (hl : lookA s files = some f) : f.p.length ≤ sumA files := by
  induction files with
  | nil => simp [lookA] at hl
  | cons x r ih =>
    simp only [lookA, List.find?_cons] at hl ih
    simp only [sumA]
    split at hl
    · injection hl with hl
      subst hl
      omega
    · have := ih hl
      omega

set_option maxRecDepth 100000 in
set_option maxHeartbeats 1000000 in
theorem read_ok (d : Nat) (S : List Nat) (files : List File) (h : Hd) (s : List UInt8) (f : File) (k : UInt8) (a b : Nat) (q : List UInt8) (w : World) (T : Chk.Tabs w) (ha : a < 18446744073709551616) (hb : b < 18446744073709551616) (hd : Disk w d S files h) (hs2 : s.length ≤ 100000) (ht : sumA files ≤ 500000000)
    (hoff : h.off = false) (hl : lookA s files = some f) (hf : f.p = headL k a b ++ q) :
    Calls Tryz.prog 99 #[.pointer (some ⟨d, 0, none⟩), .string ⟨s.toArray⟩] w (TellsSheet k a b (allL q most).1 (goodN k a b q) (allL q most).2.2 w) := by
  obtain ⟨hp, he⟩ := read_bytes hoff hl
  have hlen := lookA_mem hl
  rw [hf] at hp hlen
  have hlen5 : (headL k a b ++ q).length ≤ 500000000 := by omega
  have hb0 : Below w.heap.size w (w.alloc (.cells #[.int .u8 0, .int .u64 0, .int .u64 0, .slice none 0 0, .int .i64 0, .int .i64 0] 142)) := (Below.refl _ _).alloc (Nat.le_refl _) _
  have g0 := sheetAt_new w (.int .u8 0) (.int .u64 0) (.int .u64 0) (.slice none 0 0) (.int .i64 0) (.int .i64 0)
  have hread := readC d S files h s _ (hd.below hb0) hs2 (by omega)
  rw [hp, he] at hread
  clear hp he hf hl hoff
  go_enter Tryz.func99, Tryz.ntmps99
  go_wp2_with fail
  refine hread.mono ?_
  rintro e w1 ⟨A1, c1, rfl, hown1, hb1⟩
  have hcap := Own.cap hown1
  have hs1 := Sees.of_own hown1
  have b1 := hb0.trans (hb1.mono hb0.size)
  have g1 := g0.below hb1
  obtain ⟨n, hn⟩ : ∃ n, n = (headL k a b ++ q).length := ⟨_, rfl⟩
  rw [← hn] at hcap hs1 hlen5 ⊢
  clear hread hown1 g0 hb1 hb0 hn hlen
  go_wp2_with fail
  refine (scan_any A1 n c1 k a b q w1 (T.below b1) ha hb hs1 hcap.1 hcap.2 hlen5).mono ?_
  rintro e w2 ⟨Al, nl, cl, vs, rfl, hown2, heach2, hb2⟩
  have b2 := b1.trans (hb2.mono b1.size)
  have g2 := g1.below hb2
  have hlt := g1.lt
  obtain ⟨⟨e0, e1, e2, e3, e4, e5⟩, fz⟩ := g2.cells
  have f0 := fz 0
  have f1 := fz 1
  have f2 := fz 2
  have f3 := fz 3
  have f4 := fz 4
  have f5 := fz 5
  unfold sheetV
  obtain ⟨G, hG⟩ : ∃ G, G = goodN k a b q := ⟨_, rfl⟩
  obtain ⟨E, hE⟩ : ∃ E, E = (allL q most).2.2 := ⟨_, rfl⟩
  rw [← hG, ← hE]
  have HGE : Hid (G = goodN k a b q ∧ E = (allL q most).2.2) := ⟨hG, hE⟩
  have HO := Lib.hid hown2
  have HE := Lib.hid heach2
  have HB1 := Lib.hid b1.size
  have HB2 := Lib.hid b2
  clear hG hE g1 g2 fz hown2 heach2 hb2 b1 b2 hs1 hcap
  go_wp2
  refine bodyPost_ret (v := .tuple #[sheetV k a b Al nl cl G E, .int .i64 0]) (by simp [results, Tryz.results99, go_sem, e0, e1, e2, e3, e4, e5, sheetV]) rfl ?_
  have hbes := beside_six w2 w.heap.size (.int .u8 (k.toNat : Int)) (.int .u64 (a : Int)) (.int .u64 (b : Int)) (.slice Al nl cl) (.int .i64 (G : Int)) (.int .i64 (E : Int))
  have hSm : ∀ x ∈ [w.heap.size], x < w1.heap.size := fun x hx => by simp at hx; omega
  obtain ⟨hG, hE⟩ := HGE.out
  subst hG
  subst hE
  exact ⟨Al, nl, cl, vs, rfl, Own.lower (own_beside HO.out hbes hSm) HB1.out, each_lower (each_beside HE.out hbes hSm) HB1.out, Below.beside HB2.out hbes HB2.out.size (fun x hx => by simp at hx; omega)⟩

/-- What Mend leaves. -/
def mendF (s : List UInt8) (k : UInt8) (a b : Nat) (q : List UInt8) (files : List File) : List File := if (allL q most).2.2 = 0 then files else upd s (cutG (goodN k a b q : Int)) files
def mendH (q : List UInt8) (h : Hd) : Hd := if (allL q most).2.2 = 0 then h else h.act
def Mended (S : List Nat) (d : Nat) (s : List UInt8) (k : UInt8) (a b : Nat) (q : List UInt8) (files : List File) (h : Hd) (w : World) (e : Ending) (w' : World) : Prop :=
  ∃ Al nl cl vs, e = .returned (.tuple #[sheetV k a b Al nl cl (goodN k a b q) 0, .int .i64 0]) ∧ w'.ownsRow w.heap.size 34 1 (.slice Al nl cl) nl vs ∧ Chk.EachOwn w.heap.size w' vs (allL q most).1 ∧ Dsk.Next S w d (mendF s k a b q files) (mendH q h) w'

theorem goodN_le {k : UInt8} {a b : Nat} {q : List UInt8} : goodN k a b q ≤ (headL k a b ++ q).length := by
  have := allL_le q most
  unfold goodN
  rw [List.length_append]
  omega

set_option maxRecDepth 100000 in
set_option maxHeartbeats 1000000 in
theorem mend_any (d : Nat) (S : List Nat) (files : List File) (h : Hd) (s : List UInt8) (f : File) (k : UInt8) (a b : Nat) (q : List UInt8) (w : World) (T : Chk.Tabs w) (ha : a < 18446744073709551616) (hb : b < 18446744073709551616) (hd : Disk w d S files h) (hs2 : s.length ≤ 100000) (ht : sumA files ≤ 500000000)
    (hfit : h.fits) (hmay : h.may = true) (hl : lookA s files = some f) (hf : f.p = headL k a b ++ q) :
    Calls Tryz.prog 100 #[.pointer (some ⟨d, 0, none⟩), .string ⟨s.toArray⟩] w (Mended S d s k a b q files h w) := by
  have hoff : h.off = false := by
    cases ho : h.off with
    | false => rfl
    | true => simp [Hd.may, ho] at hmay
  have hb0 : Below w.heap.size w (w.alloc (.cells #[.int .u8 0, .int .u64 0, .int .u64 0, .slice none 0 0, .int .i64 0, .int .i64 0] 142)) := (Below.refl _ _).alloc (Nat.le_refl _) _
  have g0 := sheetAt_new w (.int .u8 0) (.int .u64 0) (.int .u64 0) (.slice none 0 0) (.int .i64 0) (.int .i64 0)
  have hread := read_ok d S files h s f k a b q _ (T.below hb0) ha hb (hd.below hb0) hs2 ht hoff hl hf
  have hgl := goodN_le (k := k) (a := a) (b := b) (q := q)
  have hcut : cutE h s (goodN k a b q : Int) files = 0 ∧ thereF h s (cutG (goodN k a b q : Int)) files = upd s (cutG (goodN k a b q : Int)) files := by
    refine ⟨?_, by simp [thereF, hmay]⟩
    simp only [cutE, hmay, if_true, hl]
    rw [if_neg (by rw [hf]; omega)]
  have HCUT := Lib.hid hcut
  have hlen : (headL k a b ++ q).length ≤ 500000000 := by have := lookA_mem hl; rw [hf] at this; omega
  obtain ⟨G, hG⟩ : ∃ G, G = goodN k a b q := ⟨_, rfl⟩
  have hG5 : G ≤ 500000000 := by omega
  obtain ⟨E, hE⟩ : ∃ E, E = (allL q most).2.2 := ⟨_, rfl⟩
  have HGE : Hid (G = goodN k a b q ∧ E = (allL q most).2.2) := ⟨hG, hE⟩
  rw [← hG, ← hE] at hread
  have HR := Lib.hid hread
  clear hl hf hcut hgl hlen hG hE hread hoff
  go_enter Tryz.func100, Tryz.ntmps100
  go_wp2_with fail
  refine HR.out.mono ?_
  rintro e w2 ⟨Al, nl, cl, vs, rfl, hown2, heach2, hb2⟩
  have b2 := hb0.trans (hb2.mono hb0.size)
  have g2 := g0.below hb2
  have hd2 := (hd.below hb0).below hb2
  have hsz : w.heap.size < w2.heap.size := g2.lt
  have hbv : Below w2.heap.size w2 (w2.alloc (.cells #[.int .u8 (k.toNat : Int), .int .u64 (a : Int), .int .u64 (b : Int), .slice Al nl cl, .int .i64 (G : Int), .int .i64 (E : Int)] 142)) := (Below.refl _ _).alloc (Nat.le_refl _) _
  have v3 := sheetAt_new w2 (.int .u8 (k.toNat : Int)) (.int .u64 (a : Int)) (.int .u64 (b : Int)) (.slice Al nl cl) (.int .i64 (G : Int)) (.int .i64 (E : Int))
  have g3 := g2.below hbv
  have b3 := b2.trans (hbv.mono b2.size)
  have hd3 := hd2.below hbv
  have hown3 := Own.below hown2 hbv (Nat.le_refl _)
  have heach3 := eachOwn_of heach2 hbv (Nat.le_refl _)
  unfold sheetV
  have hl3 : w2.heap.size < (w2.alloc (.cells #[.int .u8 (k.toNat : Int), .int .u64 (a : Int), .int .u64 (b : Int), .slice Al nl cl, .int .i64 (G : Int), .int .i64 (E : Int)] 142)).heap.size := v3.lt
  go_upto_region 2 with fail
  generalize w2.alloc (.cells #[.int .u8 (k.toNat : Int), .int .u64 (a : Int), .int .u64 (b : Int), .slice Al nl cl, .int .i64 (G : Int), .int .i64 (E : Int)] 142) = W3 at v3 g3 b3 hd3 hown3 heach3 hl3 ⊢
  have hbase : w.heap.size ≤ w2.heap.size := b2.size
  have hbase2 : (w.alloc (.cells #[.int .u8 0, .int .u64 0, .int .u64 0, .slice none 0 0, .int .i64 0, .int .i64 0] 142)).heap.size = w.heap.size + 1 := by simp
  rw [hbase2] at hown3 heach3
  generalize w2.heap.size = r at v3 hsz hl3 hbase ⊢
  obtain ⟨⟨e0, e1, e2, e3, e4, e5⟩, fz⟩ := g3.cells
  have f0 := fz 0
  have f1 := fz 1
  have f2 := fz 2
  have f3 := fz 3
  have f4 := fz 4
  have f5 := fz 5
  obtain ⟨⟨y0, y1, y2, y3, y4, y5⟩, zz⟩ := v3.cells
  have z5 := zz 5
  have HSZ := Lib.hid hsz
  have HV3 := Lib.hid v3
  have HG3 := Lib.hid g3
  have HB3 := Lib.hid b3
  have HO := Lib.hid hown3
  have HE := Lib.hid heach3
  have HL3 := Lib.hid hl3
  have HBASE := Lib.hid hbase
  clear hb2 g0 HR hown2 heach2 hown3 heach3 fz zz b2 g2 hd2 hbv v3 g3 b3 hsz hb0 hl3 hbase hbase2
  by_cases h0 : E = 0
  · subst h0
    simp only [Int.natCast_zero] at y5
    clear z5
    go_wp2
    refine bodyPost_ret (v := .tuple #[sheetV k a b Al nl cl G 0, .int .i64 0]) (by simp [results, Tryz.results100, go_sem, e0, e1, e2, e3, e4, e5, sheetV]) rfl ?_
    have hbes := beside_six W3 w.heap.size (.int .u8 (k.toNat : Int)) (.int .u64 (a : Int)) (.int .u64 (b : Int)) (.slice Al nl cl) (.int .i64 (G : Int)) (.int .i64 0)
    have hSm : ∀ x ∈ [w.heap.size], x < w.heap.size + 1 := fun x hx => by simp at hx; omega
    obtain ⟨hG, hE⟩ := HGE.out
    have hfin : Below w.heap.size w _ := Below.beside HB3.out hbes HB3.out.size (fun x hx => by simp at hx; omega)
    refine ⟨Al, nl, cl, vs, by rw [hG], Own.lower (own_beside HO.out hbes hSm) (by omega), each_lower (each_beside HE.out hbes hSm) (by omega), ?_⟩
    have e1 : mendF s k a b q files = files := by unfold mendF; rw [if_pos hE.symm]
    have e2 : mendH q h = h := by unfold mendH; rw [if_pos hE.symm]
    rw [e1, e2]
    exact (Dsk.Next.refl hd).after hfin
  · have hE0 : ((E : Int) == 0) = false := by rw [beq_eq_false_iff_ne]; omega
    have hS : ∀ x ∈ S, x < w.heap.size := hd.lt
    have HS := Lib.hid hS
    have hE1 := Lib.hid h0
    have hcutE : cutE h s (G : Int) files = 0 := by rw [HGE.out.1]; exact HCUT.out.1
    have hcutF : thereF h s (cutG (G : Int)) files = mendF s k a b q files := by rw [HGE.out.1, HCUT.out.2]; unfold mendF; rw [if_neg (by rw [← HGE.out.2]; exact h0)]
    have HCE := Lib.hid hcutE
    have HCF := Lib.hid hcutF
    clear hcutE hcutF hS h0 z5
    go_wp2_with fail
    refine (cutC d S files h s (G : Int) W3 hd3 hfit hs2 (by omega)).mono ?_
    rintro e w5 ⟨rfl, S5, hd5, hb5, hs5⟩
    rw [HCE.out]
    rw [HCF.out] at hd5
    have v5 := HV3.out.beside hb5 (fun hm => by have := HS.out _ hm; have := HSZ.out; omega)
    have g5 := HG3.out.beside hb5 (fun hm => by have := HS.out _ hm; omega)
    have hown5 := own_beside HO.out hb5 (fun x hx => by have := HS.out x hx; omega)
    have heach5 := each_beside HE.out hb5 (fun x hx => by have := HS.out x hx; omega)
    clear e0 e1 e2 e3 e4 e5 f0 f1 f2 f3 f4 f5 y0 y1 y2 y3 y4 y5
    obtain ⟨⟨e0, e1, e2, e3, e4, e5⟩, fz⟩ := g5.cells
    have f0 := fz 0
    have f1 := fz 1
    have f2 := fz 2
    have f3 := fz 3
    have f4 := fz 4
    have f5 := fz 5
    obtain ⟨⟨y0, y1, y2, y3, y4, y5⟩, zz⟩ := v5.cells
    have z5 := zz 5
    have hrw : w.heap.size ≠ r := by have := HSZ.out; omega
    have HO5 := Lib.hid hown5
    have HE5 := Lib.hid heach5
    have HB5 := Lib.hid hb5
    clear fz zz v5 g5 hown5 heach5 hb5
    have HV5 := Lib.hid (show SheetAt w5 r _ _ _ _ _ _ from HV3.out.beside HB5.out (fun hm => by have := HS.out _ hm; have := HSZ.out; omega))
    have HD5 := Lib.hid (show Disk w5 d S5 _ _ from hd5)
    have HSS := Lib.hid hs5
    clear hd5 hs5
    go_wp2
    refine bodyPost_ret (v := .tuple #[sheetV k a b Al nl cl G 0, .int .i64 0]) (by simp [results, Tryz.results100, go_sem, e0, e1, e2, e3, e4, e5, sheetV]) rfl ?_
    have hbes0 : Beside [r] w5 (w5.setCell ⟨r, 5, none⟩ (.int .i64 0)) := (Beside.refl [r] w5).setCell (by simp) _
    have hbes := beside_six (w5.setCell ⟨r, 5, none⟩ (.int .i64 0)) w.heap.size (.int .u8 (k.toNat : Int)) (.int .u64 (a : Int)) (.int .u64 (b : Int)) (.slice Al nl cl) (.int .i64 (G : Int)) (.int .i64 0)
    have hSm : ∀ x ∈ [w.heap.size], x < w.heap.size + 1 := fun x hx => by simp at hx; omega
    obtain ⟨hG, hE⟩ := HGE.out
    have ho5 := own_other (i := 5) (u := .int .i64 0) HO5.out HV5.out (by decide)
    have he5 := HE5.out.of fun v n l ho => own_other (i := 5) (u := .int .i64 0) ho HV5.out (by decide)
    refine ⟨Al, nl, cl, vs, by rw [hG], Own.lower (own_beside ho5 hbes hSm) (by omega), each_lower (each_beside he5 hbes hSm) (by omega), ?_⟩
    have e2 : mendH q h = h.act := by unfold mendH; rw [if_neg (by rw [← hE]; exact hE1.out)]
    rw [e2]
    have hall : Beside [r, w.heap.size] w5 _ := (hbes0.wider fun x hx => .inl (by simp at hx; simp [hx])).trans hbes fun x hx => .inl (by simp at hx; simp [hx])
    have hnS : ∀ x ∈ [r, w.heap.size], x ∉ S5 := fun x hx hm => by
      have hw3 := HB3.out.size
      have hl := HL3.out
      have hsz' := HSZ.out
      rcases HSS.out x hm with h1 | h1
      · have := HS.out x h1
        simp at hx
        omega
      · simp at hx
        omega
    refine ⟨S5, HD5.out.beside hall hnS, ((Beside.of_below HB3.out S).trans HB5.out fun x hx => .inl hx).trans hall fun x hx => ?_, fun x hx => ?_⟩
    · simp at hx
      have hsz' := HSZ.out
      rcases hx with rfl | rfl <;> exact .inr (by omega)
    · rcases HSS.out x hx with h1 | h1
      · exact .inl h1
      · have := HB3.out.size
        exact .inr (by omega)
end Go.Proofs.YtkphklmgbdljiaaGreatDoor.Sht
namespace Go.Proofs.YtkphklmgbdljiaaGreatDoor.Sht
open Go Go.RowKit Go.Proofs.YtkphklmgbdljiaaGreatDoor.Words Go.Proofs.YtkphklmgbdljiaaGreatDoor.Enc Go.Proofs.YtkphklmgbdljiaaGreatDoor.Made Go.Proofs.YtkphklmgbdljiaaGreatDoor.Dsk
set_option linter.unusedVariables false

end Go.Proofs.YtkphklmgbdljiaaGreatDoor.Sht
namespace Go.Proofs.YtkphklmgbdljiaaGreatDoor.Sht
open Go Go.RowKit Go.Proofs.YtkphklmgbdljiaaGreatDoor.Words Go.Proofs.YtkphklmgbdljiaaGreatDoor.Enc Go.Proofs.YtkphklmgbdljiaaGreatDoor.Made Go.Proofs.YtkphklmgbdljiaaGreatDoor.Dsk
set_option linter.unusedVariables false

theorem allF_fuel (m : Int) : ∀ (f g : Nat) (l : List UInt8), l.length < f → l.length < g → allF m f l = allF m g l := by
  intro f
  induction f with
  | zero => intro g l h; omega
  | succ f ih =>
    intro g l hf hg
    obtain ⟨g', rfl⟩ : ∃ g', g = g' + 1 := ⟨g - 1, by omega⟩
    rw [allF, allF]
    by_cases h0 : l = []
    · rw [if_pos h0, if_pos h0]
    · rw [if_neg h0, if_neg h0]
      by_cases hE : (openL l m).2.2 ≠ 0
      · rw [if_pos hE, if_pos hE]
      · rw [if_neg hE, if_neg hE]
        have h2 := opened_ok_len (v := l) (most := m) (Classical.not_not.1 hE)
        have hpos : 0 < l.length := List.length_pos_iff.2 h0
        have hd : (l.drop (openL l m).2.1).length < l.length := by rw [List.length_drop]; omega
        rw [ih g' (l.drop (openL l m).2.1) (by omega) (by omega)]
theorem allL_nil (m : Int) : allL [] m = ([], 0, 0) := by simp [allL, allF]
/-- A record ahead. -/
theorem allL_wrap (x q : List UInt8) (m : Int) (hx : (x.length : Int) ≤ m) (hx2 : x.length < 18446744073709551616) : allL (wrap x ++ q) m = (x :: (allL q m).1, (wrap x).length + (allL q m).2.1, (allL q m).2.2) := by
  have hop := open_wrap x q m hx2 hx
  have hne : wrap x ++ q ≠ [] := by
    intro e
    have := congrArg List.length e
    rw [List.length_append, wrap_length] at this
    simp at this
  unfold allL
  rw [allF, if_neg hne, hop]
  simp only [ne_eq, not_true_eq_false, if_false, List.drop_left]
  have hl : (wrap x ++ q).length = (wrap x).length + q.length := List.length_append ..
  have hw := wrap_length x
  rw [allF_fuel m (wrap x ++ q).length (q.length + 1) q (by omega) (by omega)]
theorem allL_wraps (m : Int) : ∀ (L : List (List UInt8)) (q : List UInt8), (∀ l ∈ L, (l.length : Int) ≤ m ∧ l.length < 18446744073709551616) → allL (wraps L ++ q) m = (L ++ (allL q m).1, (wraps L).length + (allL q m).2.1, (allL q m).2.2)
  | [], q, _ => by simp [wraps]
  | x :: r, q, h => by
    have e : wraps (x :: r) ++ q = wrap x ++ (wraps r ++ q) := by simp [wraps]
    rw [e, allL_wrap x _ m (h x (by simp)).1 (h x (by simp)).2, allL_wraps m r q fun l hl => h l (by simp [hl])]
    have : (wraps (x :: r)).length = (wrap x).length + (wraps r).length := by simp [wraps]
    rw [this]
    simp [Nat.add_assoc]
theorem enc_two {n : Nat} (h : n < 16384) : (enc n).length ≤ 2 := enc_le 1 n (by omega)
end Go.Proofs.YtkphklmgbdljiaaGreatDoor.Sht
