/- sheet.Head, whole: their contracts. -/
import Derived.Test.YtokfajlmephdeaaDoorCheckFn
import Derived.Test.YtokfajlmephdeaaDoorDLay
import Derived.Test.YtokfajlmephdeaaDoorActs
import Derived.Test.YtokfajlmephdeaaDoorKeeps
import Derived.BigRegion
namespace Go.Proofs.YtokfajlmephdeaaDoor.Sht
open Go Go.RowKit Go.Proofs.YtokfajlmephdeaaDoor.Words Go.Proofs.YtokfajlmephdeaaDoor.Enc Go.Proofs.YtokfajlmephdeaaDoor.Made
set_option linter.unusedVariables false

/-- What a title's record holds. -/
def titleL (k : UInt8) (a b : Nat) : List UInt8 := [97, 110, 97, 49] ++ ([k] ++ (enc a ++ enc b))
def headL (k : UInt8) (a b : Nat) : List UInt8 := wrap (titleL k a b)
theorem titleL_len {k : UInt8} {a b : Nat} (ha : a < 18446744073709551616) (hb : b < 18446744073709551616) : (titleL k a b).length = 5 + (enc a).length + (enc b).length ∧ (titleL k a b).length ≤ 25 := by
  have h1 := enc_ten ha
  have h2 := enc_ten hb
  simp only [titleL, List.length_append, List.length_cons, List.length_nil]
  omega
theorem headL_len {k : UInt8} {a b : Nat} (ha : a < 18446744073709551616) (hb : b < 18446744073709551616) : (headL k a b).length = 1 + (titleL k a b).length + 4 := by
  have h := (titleL_len (k := k) ha hb).2
  unfold headL
  rw [wrap_length, enc_small (by omega)]
  rfl
/-- A title, as a struct. -/
def titleV (k : UInt8) (a b : Nat) : Value := .agg #[.int .u8 (k.toNat : Int), .int .u64 (a : Int), .int .u64 (b : Int)]

theorem four_all (w : World) (e : TypeId) (A1 A2 A3 A4 : Option Addr) (n1 c1 n2 c2 n3 c3 n4 c4 : Nat) (l1 l2 l3 l4 : List UInt8) (h1 : Sees w A1 n1 l1) (h2 : Sees w A2 n2 l2) (h3 : Sees w A3 n3 l3) (h4 : Sees w A4 n4 l4) (hc1 : n1 ≤ c1) (hc2 : n2 ≤ c2) (hc3 : n3 ≤ c3) (hc4 : n4 ≤ c4) :
    SeesAll (w.alloc (.cells #[.slice A1 n1 c1, .slice A2 n2 c2, .slice A3 n3 c3, .slice A4 n4 c4] e)) (some ⟨w.heap.size, 0, none⟩) 4 [l1, l2, l3, l4] := by
  have hb : Below w.heap.size w (w.alloc (.cells #[.slice A1 n1 c1, .slice A2 n2 c2, .slice A3 n3 c3, .slice A4 n4 c4] e)) := (Below.refl _ _).alloc (Nat.le_refl _) _
  have k1 := h1.below hb
  have k2 := h2.below hb
  have k3 := h3.below hb
  have k4 := h4.below hb
  have e1 := h1.1
  have e2 := h2.1
  have e3 := h3.1
  have e4 := h4.1
  subst e1
  subst e2
  subst e3
  subst e4
  refine ⟨[.slice A1 l1.length c1, .slice A2 l2.length c2, .slice A3 l3.length c3, .slice A4 l4.length c4], ((((Each.nil _).snoc hc1 k1).snoc hc2 k2).snoc hc3 k3).snoc hc4 k4, rfl, fun _ => ⟨w.heap.size, 0, rfl, fun j v hv => ?_⟩⟩
  rw [cell_of_row _ w.heap.size (0 + j) _ e (0, 0) (heap_alloc_new w _), Nat.zero_add]
  simpa using hv

set_option maxRecDepth 100000 in
theorem head_any (k : UInt8) (a b : Nat) (w : World) (T : Chk.Tabs w) (ha : a < 18446744073709551616) (hb : b < 18446744073709551616) :
    Calls Tryd.prog 27 #[titleV k a b] w (New w.heap.size (headL k a b).length (headL k a b) w) := by
  unfold titleV
  go_enter Tryd.func27, Tryd.ntmps27
  go_wp2
  have hcap : ∀ (W : World) (A : Option Addr) (n c : Nat) (l : List UInt8), W.ownsRow w.heap.size 5 1 (.slice A n c) n (cs l) → n ≤ c ∧ c ≤ 9223372036854775807 := fun W A n c l h => Own.cap h
  have hb0 : Below w.heap.size w (w.alloc (.cells #[.int .u8 (k.toNat : Int), .int .u64 (a : Int), .int .u64 (b : Int)] 24)) := (Below.refl _ _).alloc (Nat.le_refl _) _
  have g0 : (w.alloc (.cells #[.int .u8 (k.toNat : Int), .int .u64 (a : Int), .int .u64 (b : Int)] 24)).heap[w.heap.size]? = some (.cells #[.int .u8 (k.toNat : Int), .int .u64 (a : Int), .int .u64 (b : Int)] 24 (0, 0)) := heap_alloc_new w _
  have T0 := T.below hb0
  generalize w.alloc (.cells #[.int .u8 (k.toNat : Int), .int .u64 (a : Int), .int .u64 (b : Int)] 24) = W0 at hb0 g0 T0 ⊢
  have hlt : w.heap.size < W0.heap.size := (Array.getElem?_eq_some_iff.1 g0).1
  have TD : Chk.Tabs W0.drew := T0.below (Below.refl _ _).drew
  have cell : ∀ W : World, Keeps.R 4 W0.heap.size W0.drew W → W.cell? ⟨w.heap.size, 0, none⟩ = some (.int .u8 (k.toNat : Int)) ∧ W.cell? ⟨w.heap.size, 1, none⟩ = some (.int .u64 (a : Int)) ∧ W.cell? ⟨w.heap.size, 2, none⟩ = some (.int .u64 (b : Int)) := fun W hR => by
    have g1 : W.heap[w.heap.size]? = _ := (hR.1.block w.heap.size hlt).trans g0
    refine ⟨?_, ?_, ?_⟩ <;> (rw [cell_of_row W w.heap.size _ _ _ _ g1]; rfl)
  have CELL := Lib.hid cell
  clear cell
  have hlen := titleL_len (k := k) ha hb
  have hea := enc_ten ha
  have heb := enc_ten hb
  have hB0 : W0.heap.size ≤ W0.drew.heap.size := Nat.le_refl _
  have hh4 : 4 < (headL k a b).length := by rw [headL_len ha hb]; omega
  refine Keeps.wp_region_keeps (n := 17) (by kernel_rfl) (by kernel_rfl) rfl W0.heap.size [Keeps.Pred.laid (m := 4) W0.heap.size #[.int .u8 97, .int .u8 110, .int .u8 97, .int .u8 49] 5, Keeps.Pred.row 4 [97, 110, 97, 49], Keeps.Pred.is (.pointer (some ⟨w.heap.size, 0, none⟩)), Keeps.Pred.is (.int .u8 (k.toNat : Int)), Keeps.Pred.row 1 [k], Keeps.Pred.is (.pointer (some ⟨w.heap.size, 1, none⟩)), Keeps.Pred.is (.int .u64 (a : Int)),
    Keeps.Pred.row (enc a).length (enc a), Keeps.Pred.is (.pointer (some ⟨w.heap.size, 2, none⟩)), Keeps.Pred.is (.int .u64 (b : Int)), Keeps.Pred.row (enc b).length (enc b), Keeps.Pred.rows 4 [[97, 110, 97, 49], [k], enc a, enc b], Keeps.Pred.row (titleL k a b).length (titleL k a b), Keeps.Pred.own W0.heap.size 5 (headL k a b).length (headL k a b) hh4, Keeps.Pred.own W0.heap.size 5 (headL k a b).length (headL k a b) hh4] ?_ ?_
  · refine ⟨?_, ?_, ?_, ?_, ?_, ?_, ?_, ?_, ?_, ?_, ?_, ?_, ?_, ?_, ?_, trivial⟩
    · -- 0: the mark
      refine Keeps.step_new fun a W hR hold hnew => ?_
      have hl := Keeps.laid_new (m := 4) (B := W0.heap.size) W #[.int .u8 97, .int .u8 110, .int .u8 97, .int .u8 49] 5 hR.1.size
      exact ⟨Facts.wanted_free rfl, .slice (some ⟨W.heap.size, 0, none⟩) 4 4, W.alloc (.cells #[.int .u8 97, .int .u8 110, .int .u8 97, .int .u8 49] 5), by simp [go_sem, Act.eval], hl.1, hl.2⟩
    · -- 1: it is marked
      refine Keeps.step_new fun a W hR hold hnew => ?_
      have h3 : ∃ g fr, a.tmps.getD 3 undef = .slice (some ⟨g, 0, none⟩) 4 4 ∧ W0.heap.size ≤ g ∧ W.heap[g]? = some (.cells #[.int .u8 97, .int .u8 110, .int .u8 97, .int .u8 49] 5 fr) := hnew 0 3 (by kernel_rfl)
      obtain ⟨g, fr, f3, hgB, hg⟩ := h3
      obtain ⟨W', hrun, hR'⟩ := Keeps.run_mark (P := Tryd.prog) 4 4 Tryd.underlying37 Tryd.underlying5 hg hgB (m := 4) (Nat.le_refl _)
      refine ⟨Facts.wanted_free rfl, .slice (some ⟨g, 0, none⟩) 4 4, W', by simp [go_sem, Act.eval, f3, hrun], hR', _, 4, rfl, Nat.le_refl _, by omega, rfl, fun _ => ⟨g, 0, rfl, fun j u hj => hR'.2.cell ?_⟩⟩
      rw [cell_of_row W g (0 + j) _ _ _ hg]
      match j, hj with
      | 0, hj => simp at hj; subst hj; rfl
      | 1, hj => simp at hj; subst hj; rfl
      | 2, hj => simp at hj; subst hj; rfl
      | 3, hj => simp at hj; subst hj; rfl
    · -- 2
      refine Keeps.step_is (.pointer (some ⟨w.heap.size, 0, none⟩)) fun a W hR hold hnew => ?_
      have f1 : a.tmps.getD 1 undef = .pointer (some ⟨w.heap.size, 0, none⟩) := hold 1 (by kernel_rfl)
      refine ⟨Facts.wanted_free rfl, ?_, fun _ => rfl⟩
      simp [go_sem, Act.eval, f1]
    · -- 3
      refine Keeps.step_is (.int .u8 (k.toNat : Int)) fun a W hR hold hnew => ?_
      have f5 : a.tmps.getD 5 undef = .pointer (some ⟨w.heap.size, 0, none⟩) := hnew 2 5 (by kernel_rfl)
      have hc := (CELL.out W hR).1
      refine ⟨Facts.wanted_free rfl, ?_, fun _ => rfl⟩
      simp [go_sem, Act.eval, f5, hc]
    · -- 4
      refine Keeps.step_new fun a W hR hold hnew => ?_
      have f6 : a.tmps.getD 6 undef = .int .u8 (k.toNat : Int) := hnew 3 6 (by kernel_rfl)
      refine ⟨Facts.wanted_free rfl, .slice (some ⟨W.heap.size, 0, none⟩) 1 1, W.alloc (.cells #[.int .u8 (k.toNat : Int)] 5), by rw [Array.getD_eq_getD_getElem?] at f6; simp [go_sem, Act.eval, f6], Keeps.R.of_below hR.1.size ((Below.refl _ _).alloc (Nat.le_refl _) _), ?_⟩
      exact ⟨_, 1, rfl, Nat.le_refl _, by omega, sees_new W _ _ 1 [k] rfl (fun j u hj => by match j, hj with | 0, hj => simp at hj; subst hj; rfl)⟩
    · -- 5
      refine Keeps.step_is (.pointer (some ⟨w.heap.size, 1, none⟩)) fun a W hR hold hnew => ?_
      have f1 : a.tmps.getD 1 undef = .pointer (some ⟨w.heap.size, 0, none⟩) := hold 1 (by kernel_rfl)
      refine ⟨Facts.wanted_free rfl, ?_, fun _ => rfl⟩
      simp [go_sem, Act.eval, f1]
    · -- 6
      refine Keeps.step_is (.int .u64 (a : Int)) fun a' W hR hold hnew => ?_
      have f8 : a'.tmps.getD 8 undef = .pointer (some ⟨w.heap.size, 1, none⟩) := hnew 5 8 (by kernel_rfl)
      have hc := (CELL.out W hR).2.1
      refine ⟨Facts.wanted_free rfl, ?_, fun _ => rfl⟩
      simp [go_sem, Act.eval, f8, hc]
    · -- 7
      refine Keeps.step_call hB0 fun a' W hR hold hnew => ?_
      have f9 : a'.tmps.getD 9 undef = .int .u64 (a : Int) := hnew 6 9 (by kernel_rfl)
      refine ⟨Facts.wanted_free rfl, 52, #[.slice none 0 0, .int .u64 (a : Int)], by simp [go_sem, Act.eval, f9], ?_⟩
      refine (lay_any none 0 0 [] (a : Int) W (Sees.nil _ _) (by omega) (by omega) (by omega)).mono ?_
      rw [Nat.zero_add, List.nil_append, Int.toNat_natCast]
      rintro e w7 ⟨A7, c7, rfl, hown7, hb7⟩
      exact ⟨_, rfl, hb7, A7, c7, rfl, (Own.cap hown7).1, (Own.cap hown7).2, Sees.of_own hown7⟩
    · -- 8
      refine Keeps.step_is (.pointer (some ⟨w.heap.size, 2, none⟩)) fun a W hR hold hnew => ?_
      have f1 : a.tmps.getD 1 undef = .pointer (some ⟨w.heap.size, 0, none⟩) := hold 1 (by kernel_rfl)
      refine ⟨Facts.wanted_free rfl, ?_, fun _ => rfl⟩
      simp [go_sem, Act.eval, f1]
    · -- 9
      refine Keeps.step_is (.int .u64 (b : Int)) fun a' W hR hold hnew => ?_
      have f11 : a'.tmps.getD 11 undef = .pointer (some ⟨w.heap.size, 2, none⟩) := hnew 8 11 (by kernel_rfl)
      have hc := (CELL.out W hR).2.2
      refine ⟨Facts.wanted_free rfl, ?_, fun _ => rfl⟩
      simp [go_sem, Act.eval, f11, hc]
    · -- 10
      refine Keeps.step_call hB0 fun a' W hR hold hnew => ?_
      have f12 : a'.tmps.getD 12 undef = .int .u64 (b : Int) := hnew 9 12 (by kernel_rfl)
      refine ⟨Facts.wanted_free rfl, 52, #[.slice none 0 0, .int .u64 (b : Int)], by simp [go_sem, Act.eval, f12], ?_⟩
      refine (lay_any none 0 0 [] (b : Int) W (Sees.nil _ _) (by omega) (by omega) (by omega)).mono ?_
      rw [Nat.zero_add, List.nil_append, Int.toNat_natCast]
      rintro e w7 ⟨A7, c7, rfl, hown7, hb7⟩
      exact ⟨_, rfl, hb7, A7, c7, rfl, (Own.cap hown7).1, (Own.cap hown7).2, Sees.of_own hown7⟩
    · -- 11: the four
      refine Keeps.step_new fun a' W hR hold hnew => ?_
      have h4 : ∃ A c, a'.tmps.getD 4 undef = .slice A 4 c ∧ 4 ≤ c ∧ c ≤ 9223372036854775807 ∧ Sees W A 4 [97, 110, 97, 49] := hnew 1 4 (by kernel_rfl)
      have h7 : ∃ A c, a'.tmps.getD 7 undef = .slice A 1 c ∧ 1 ≤ c ∧ c ≤ 9223372036854775807 ∧ Sees W A 1 [k] := hnew 4 7 (by kernel_rfl)
      have h10 : ∃ A c, a'.tmps.getD 10 undef = .slice A (enc a).length c ∧ (enc a).length ≤ c ∧ c ≤ 9223372036854775807 ∧ Sees W A (enc a).length (enc a) := hnew 7 10 (by kernel_rfl)
      have h13 : ∃ A c, a'.tmps.getD 13 undef = .slice A (enc b).length c ∧ (enc b).length ≤ c ∧ c ≤ 9223372036854775807 ∧ Sees W A (enc b).length (enc b) := hnew 10 13 (by kernel_rfl)
      obtain ⟨A4, c4, f4, r4, _, s4⟩ := h4
      obtain ⟨A7, c7, f7, r7, _, s7⟩ := h7
      obtain ⟨A10, c10, f10, r10, _, s10⟩ := h10
      obtain ⟨A13, c13, f13, r13, _, s13⟩ := h13
      refine ⟨Facts.wanted_free rfl, .slice (some ⟨W.heap.size, 0, none⟩) 4 4, W.alloc (.cells #[.slice A4 4 c4, .slice A7 1 c7, .slice A10 (enc a).length c10, .slice A13 (enc b).length c13] 37), by rw [Array.getD_eq_getD_getElem?] at f4 f7 f10 f13; simp [go_sem, Act.eval, f4, f7, f10, f13], Keeps.R.of_below hR.1.size ((Below.refl _ _).alloc (Nat.le_refl _) _), ?_⟩
      exact ⟨_, 4, rfl, four_all W _ _ _ _ _ _ _ _ _ _ _ _ _ _ _ _ _ s4 s7 s10 s13 r4 r7 r10 r13⟩
    · -- 12: Concat
      refine Keeps.step_call hB0 fun a' W hR hold hnew => ?_
      have h14 : ∃ A c, a'.tmps.getD 14 undef = .slice A 4 c ∧ SeesAll W A 4 [[97, 110, 97, 49], [k], enc a, enc b] := hnew 11 14 (by kernel_rfl)
      obtain ⟨A14, c14, f14, s14⟩ := h14
      refine ⟨Facts.wanted_free rfl, 51, #[.slice A14 4 c14], by simp [go_sem, Act.eval, f14], ?_⟩
      have htot : total [[97, 110, 97, 49], [k], enc a, enc b] = (titleL k a b).length := by rw [← total_flatten]; simp [titleL]
      have hfl : [[97, 110, 97, 49], [k], enc a, enc b].flatten = titleL k a b := by simp [titleL]
      refine (concat_any A14 4 c14 _ W s14 (by omega) (by omega)).mono ?_
      rw [htot, hfl]
      rintro e w7 ⟨A7, c7, rfl, hown7, hb7⟩
      exact ⟨_, rfl, hb7, A7, c7, rfl, (Own.cap hown7).1, (Own.cap hown7).2, Sees.of_own hown7⟩
    · -- 13: Wrap
      refine Keeps.step_call hB0 fun a' W hR hold hnew => ?_
      have h15 : ∃ A c, a'.tmps.getD 15 undef = .slice A (titleL k a b).length c ∧ (titleL k a b).length ≤ c ∧ c ≤ 9223372036854775807 ∧ Sees W A (titleL k a b).length (titleL k a b) := hnew 12 15 (by kernel_rfl)
      obtain ⟨A15, c15, f15, r15, _, s15⟩ := h15
      refine ⟨Facts.wanted_free rfl, 29, #[.slice A15 (titleL k a b).length c15], by simp [go_sem, Act.eval, f15], ?_⟩
      refine (Chk.wrap_new A15 _ c15 _ W (TD.below hR.1) s15 r15 (by omega)).mono ?_
      rw [← wrap_length]
      rintro e w7 ⟨A7, c7, rfl, hown7, hb7⟩
      exact ⟨_, rfl, hb7, A7, c7, rfl, Own.lower hown7 hR.1.size⟩
    · -- 14
      refine Keeps.step_some fun a' W hR hold hnew => ?_
      have h16 : ∃ A c, a'.tmps.getD 16 undef = .slice A (headL k a b).length c ∧ W.ownsRow W0.heap.size 5 1 (.slice A (headL k a b).length c) (headL k a b).length (cs (headL k a b)) := hnew 13 16 (by kernel_rfl)
      obtain ⟨A16, c16, f16, r16⟩ := h16
      exact ⟨Facts.wanted_free rfl, .slice A16 _ c16, by simp [go_sem, Act.eval, f16], A16, c16, rfl, r16⟩
  · intro a' W hR hsize hdef hnew hold
    have h2 : ∃ A c, a'.tmps.getD 2 undef = .slice A (headL k a b).length c ∧ W.ownsRow W0.heap.size 5 1 (.slice A (headL k a b).length c) (headL k a b).length (cs (headL k a b)) := hnew 14 2 (by kernel_rfl)
    obtain ⟨A2, c2, f2, r1⟩ := h2
    have hbb : Below w.heap.size w W := hb0.drew.trans (hR.1.mono hb0.drew.size)
    go_wp2
    try simp only [Exit.inBlock, Exit.then]
    refine bodyPost_ret (results_tmp rfl _ _ _) hdef ?_
    rw [f2]
    exact ⟨A2, c2, rfl, Own.lower r1 hb0.size, hbb⟩
end Go.Proofs.YtokfajlmephdeaaDoor.Sht
