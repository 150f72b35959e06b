/- Package matrix: Raise. -/
import Derived.Test.YtlacihgoammjgaaMtxA
import Derived.Deep.RegionHeld3
import Derived.Deep.QuietTactic
import Derived.Deep.Cut
import Derived.StillTail
import Derived.StillTailTactics
namespace Go.Proofs.Ytlacihgoammjgaa.Mtx
open Go Go.RowKit Go.Proofs.Ytlacihgoammjgaa.Words Go.Proofs.Ytlacihgoammjgaa.Vec
set_option linter.unusedVariables false
set_option linter.unusedSimpArgs false

theorem World.cell_new3 (w : World) (x y z : Value) (T : TypeId) : (w.alloc (.cells #[x, y, z] T)).cell? ⟨w.heap.size, 0, none⟩ = some x ∧ (w.alloc (.cells #[x, y, z] T)).cell? ⟨w.heap.size, 1, none⟩ = some y ∧ (w.alloc (.cells #[x, y, z] T)).cell? ⟨w.heap.size, 2, none⟩ = some z := by
  refine ⟨?_, ?_, ?_⟩ <;> (rw [cell_of_row _ w.heap.size _ _ _ (0, 0) (heap_alloc_new w _)]; rfl)
theorem World.cell_new2 (w : World) (x y : Value) (T : TypeId) : (w.alloc (.cells #[x, y] T)).cell? ⟨w.heap.size, 0, none⟩ = some x ∧ (w.alloc (.cells #[x, y] T)).cell? ⟨w.heap.size, 1, none⟩ = some y := by
  refine ⟨?_, ?_⟩ <;> (rw [cell_of_row _ w.heap.size _ _ _ (0, 0) (heap_alloc_new w _)]; rfl)
/-- What Raise does with the row k of R. -/
structure Raised (mb k : Nat) (R : Nat → Hav) (H : List Nat) (t : Nat) (w w' : World) (R' : Nat → Hav) : Prop where
  mat : MatAt mb R' w'
  beside : Beside [mb] w w'
  other : ∀ i, i ≠ k → R' i = R i
  time : (R' k).t = Nat.max (R k).t t
  have_ : ∀ i, at_ (R' k).H i = Nat.max (at_ (R k).H i) (at_ H i)

set_option maxRecDepth 100000 in
set_option maxHeartbeats 4000000 in
theorem raiseM_any (mb k : Nat) (R : Nat → Hav) (A : Option Addr) (n c t : Nat) (H : List Nat) (w : World) (hM : MatAt mb R w) (hk : k < 64) (hT : Took2 w A n c H) (hn : n ≤ 64) (ht : t < 18446744073709551616) (hA0 : A = none → c = 0) :
    Calls Try.prog 22 #[.pointer (some ⟨mb, 0, none⟩), .agg #[.int .i64 (k : Int), .slice A n c, .int .u64 (t : Int)]] w fun e w' => (∃ b, e = .returned (.bool b) ∧ ((R k).t < t → b = true)) ∧ ∃ R', Raised mb k R H t w w' R' := by
  have C0 := World.cell_new3 w (.int .i64 (k : Int)) (.slice A n c) (.int .u64 (t : Int)) 53
  have B0 := Lib.hid (show Below w.heap.size w (w.alloc (.cells #[.int .i64 (k : Int), .slice A n c, .int .u64 (t : Int)] 53)) from (Below.refl _ _).alloc (Nat.le_refl _) _)
  have M0 := hM.below B0.out
  have HT := Lib.hid (hT.below B0.out)
  have hne : ¬ w.heap.size = mb := by have := hM.lt; omega
  obtain ⟨c1, c2⟩ := M0.cells hk
  have HM := Lib.hid M0
  obtain ⟨b, hb⟩ : ∃ b, b = w.heap.size := ⟨_, rfl⟩
  obtain ⟨w0, hw0⟩ : ∃ u, u = w.alloc (.cells #[.int .i64 (k : Int), .slice A n c, .int .u64 (t : Int)] 53) := ⟨_, rfl⟩
  have hbs : b < w0.heap.size := by rw [hw0, hb]; simp
  have hms : mb < w0.heap.size := by rw [hw0]; simp; have := hM.lt; omega
  rw [← hb] at C0 hne
  rw [← hw0] at C0 B0 c1 c2 HT HM
  obtain ⟨k0, k1, k2⟩ := C0
  clear hM hT M0
  have hk64 : (k : Int) < 64 := by omega
  have HW := Lib.hid hw0
  have HB := Lib.hid hb
  clear hw0
  go_enter Try.func22, Try.ntmps22
  go_upto_region 1 with fail
  rw [← HB.out, ← HW.out]
  clear hb
  go_wp2_with fail
  refine (nodeM_any k hk w0).mono ?_
  rintro e w1 ⟨rfl, rfl⟩
  go_upto_region 3 with fail
  go_region
  obtain ⟨w2, hw2⟩ : ∃ u, u = w1.alloc (Obj.cells #[Value.slice (R k).A (R k).n (R k).c, Value.int IntKind.u64 ((R k).t : Int)] 81) := ⟨_, rfl⟩
  have C5 := World.cell_new2 w1 (Value.slice (R k).A (R k).n (R k).c) (Value.int IntKind.u64 ((R k).t : Int)) 81
  have B1 := Lib.hid (show Below w1.heap.size w1 w2.drew by rw [hw2]; exact ((Below.refl _ _).alloc (Nat.le_refl _) _).drew)
  obtain ⟨d, hd⟩ : ∃ d, d = w1.heap.size := ⟨_, rfl⟩
  rw [← hw2, ← hd] at C5 ⊢
  have hds : d < w2.heap.size := by rw [hw2, hd]; simp
  have HD := Lib.hid hd
  clear hd
  obtain ⟨e0, e1⟩ := C5
  have k0' := k0
  rw [← B1.out.cell (p := ⟨b, 0, none⟩) hbs] at k0'
  have k1' := k1
  rw [← B1.out.cell (p := ⟨b, 1, none⟩) hbs] at k1'
  have k2' := k2
  rw [← B1.out.cell (p := ⟨b, 2, none⟩) hbs] at k2'
  clear k0 k1 k2 c1 c2 hw2
  have HM2 := Lib.hid (HM.out.below B1.out)
  have HT2 := Lib.hid (HT.out.below B1.out)
  have e0' : w2.drew.cell? ⟨d, 0, none⟩ = some (.slice (R k).A (R k).n (R k).c) := e0
  have e1' : w2.drew.cell? ⟨d, 1, none⟩ = some (.int .u64 ((R k).t : Int)) := e1
  obtain ⟨w3, hw3⟩ : ∃ u, u = w2.drew := ⟨_, rfl⟩
  rw [← hw3] at k0' k1' k2' e0' e1' HM2 HT2 B1 ⊢
  have hd3 : d < w3.heap.size := by rw [hw3]; exact hds
  have hb3 : b < w3.heap.size := Nat.lt_of_lt_of_le hbs B1.out.size
  have HJ := Lib.hid (join_new (R k).A A (R k).n (R k).c n c (R k).H H w3.drew ((HM2.out.took k hk).below (Below.refl _ _).drew) (HT2.out.below (Below.refl _ _).drew))
  have hdm : ¬ d = mb := by have := HD.out; omega
  clear e0 e1 hw3 hds
  have hnc : (n : Int) ≤ (c : Int) := by have := HT2.out.2.2.1; omega
  have hmin : min (n : Int) 64 = (n : Int) := by omega
  obtain ⟨X, hX⟩ : ∃ X, X = Nat.max (R k).t t := ⟨_, rfl⟩
  have hmax : max ((R k).t : Int) (t : Int) = (X : Int) := by rw [hX]; show _ = ((max (R k).t t : Nat) : Int); omega
  have HX := Lib.hid hX
  have hX64 : X < 18446744073709551616 := by rw [hX]; exact Nat.max_lt.2 ⟨HM2.out.few k hk, ht⟩
  have HC0 := Lib.hid (show A = none → n = 0 ∧ c = 0 from fun h => by
    refine ⟨?_, hA0 h⟩
    rcases Nat.eq_zero_or_pos n with h0 | h0
    · exact h0
    · obtain ⟨_, _, h1, _⟩ := HT2.out.1.2 h0
      rw [h] at h1
      cases h1)
  clear hX
  go_upto_region 4 with fail
  rcases A with _ | ad
  · obtain ⟨rfl, rfl⟩ := HC0.out rfl
    have hmin0 : min (0 : Int) 64 = 0 := by decide
    go_still_tail 9, (by kernel_rfl)
    change wpList _ _ _ _ _ w3.drew
    go_wp2_with fail
    refine HJ.out.mono ?_
    rintro e w4 ⟨R1, n1, c1, l1, rfl, hnew, hs1, hn1, hc1, hm1, _, hat, hb4⟩
    have T4 := Lib.hid (show Took2 w4 R1 n1 c1 l1 from ⟨hs1, fits_max hat (HM2.out.took k hk).2.1 HT2.out.2.1, hn1, hc1, Nat.le_trans hm1 (Nat.max_le.2 ⟨(HM2.out.took k hk).2.2.2.2, HT2.out.2.2.2.2⟩)⟩)
    have B4 := Lib.hid (show Below w3.heap.size w3 w4 from ((Below.refl _ _).drew).trans hb4)
    have M4 := Lib.hid (HM2.out.below B4.out)
    have HN := Lib.hid (show ∀ a, R1 = some a → mb < a.block from fun a h => by have := hnew a h; have : w3.heap.size ≤ a.block := this; have := HM2.out.lt; omega)
    have HAT := Lib.hid hat
    rw [← B4.out.cell (p := ⟨b, 0, none⟩) hb3] at k0'
    rw [← B4.out.cell (p := ⟨b, 1, none⟩) hb3] at k1'
    rw [← B4.out.cell (p := ⟨b, 2, none⟩) hb3] at k2'
    rw [← B4.out.cell (p := ⟨d, 0, none⟩) hd3] at e0'
    rw [← B4.out.cell (p := ⟨d, 1, none⟩) hd3] at e1'
    obtain ⟨z1, z2⟩ := M4.out.cells hk
    have f1 : w4.frozen? ⟨mb, k * 2, none⟩ = false := by obtain ⟨cur, h1, _⟩ := M4.out.row; exact frozen_row0 h1
    have f2 : w4.frozen? ⟨mb, k * 2 + 1, none⟩ = false := by obtain ⟨cur, h1, _⟩ := M4.out.row; exact frozen_row0 h1
    clear hnew hs1 hn1 hc1 hm1 hat hb4 HJ
    go_upto_region 5 with fail
    go_still_tail 13, (by kernel_rfl)
    change wpList _ _ _ _ _ w4.drew
    go_upto_region 6 with fail
    have HM5 := Lib.hid (M4.out.set k hk ⟨R1, n1, c1, l1, X⟩ T4.out HN.out hX64)
    have BE5 := Lib.hid (show Beside [mb] w4 ((w4.setCell ⟨mb, k * 2, none⟩ (.slice R1 n1 c1)).setCell ⟨mb, k * 2 + 1, none⟩ (.int .u64 (X : Int))) from ((Beside.refl _ w4).setCell (by simp) _).setCell (by simp) _)
    obtain ⟨w5, hw5⟩ : ∃ u, u = (w4.setCell ⟨mb, k * 2, none⟩ (.slice R1 n1 c1)).setCell ⟨mb, k * 2 + 1, none⟩ (.int .u64 (X : Int)) := ⟨_, rfl⟩
    change Code.wp _ _ _ _ ((w4.setCell ⟨mb, k * 2, none⟩ (.slice R1 n1 c1)).setCell ⟨mb, k * 2 + 1, none⟩ (.int .u64 (X : Int))).drew
    rw [← hw5] at HM5 BE5 ⊢
    have g0 := BE5.out.cell (a := ⟨b, 2, none⟩) k2' (by simpa using hne)
    have g1 := BE5.out.cell (a := ⟨d, 0, none⟩) e0' (by simpa using hdm)
    have g2 := BE5.out.cell (a := ⟨d, 1, none⟩) e1' (by simpa using hdm)
    clear hw5 k0' k1' k2' e0' e1' z1 z2 f1 f2
    have g0' : w5.drew.cell? ⟨b, 2, none⟩ = some (.int .u64 (t : Int)) := g0
    have g1' : w5.drew.cell? ⟨d, 0, none⟩ = some (.slice (R k).A (R k).n (R k).c) := g1
    have g2' : w5.drew.cell? ⟨d, 1, none⟩ = some (.int .u64 ((R k).t : Int)) := g2
    have TO := Lib.hid (Took2.beside (M4.out.took k hk) BE5.out (fun a h => by have := HM2.out.apart k hk a h; simp; omega))
    have TN := Lib.hid (Took2.beside T4.out BE5.out (fun a h => by have := HN.out a h; simp; omega))
    have FIN : Hid (∀ (v : Bool) (W : World), Below w5.heap.size w5 W → ((R k).t < t → v = true) → (∃ b, Ending.returned (Value.bool v) = .returned (.bool b) ∧ ((R k).t < t → b = true)) ∧ ∃ R', Raised mb k R H t w W R') := Lib.hid fun v W hW hv =>
      ⟨⟨v, rfl, hv⟩, _, ⟨HM5.out.below hW, ((((Beside.of_below B0.out _).trans (.of_below B1.out [mb]) (fun x hx => .inl hx)).trans (.of_below B4.out [mb]) (fun x hx => .inl hx)).trans BE5.out (fun x hx => .inl hx)).below hW, fun i hi => by simp [upd, hi], by simp [upd, HX.out], fun i => by simp only [upd, if_pos rfl]; exact HAT.out i⟩⟩
    clear g0 g1 g2
    have SA := Lib.hid (same_any R1 (R k).A n1 c1 (R k).n (R k).c l1 (R k).H w5.drew (TN.out.below (Below.refl _ _).drew) (TO.out.below (Below.refl _ _).drew))
    clear HM2 HT2 M4 T4 HN HAT HM HT B0 B1 B4 HM5 BE5 HX TO TN
    by_cases hlt : (R k).t < t
    · go_wp2
      go_ret
      exact FIN.out true _ (Below.refl _ _).drew (fun _ => rfl)
    · go_wp2_with fail
      refine SA.out.mono ?_
      rintro e w6 ⟨rfl, hb6⟩
      have H6 := Lib.hid (show Below w5.heap.size w5 w6 from ((Below.refl _ _).drew).trans hb6)
      clear hb6 SA
      generalize (withinL l1 (R k).H && withinL (R k).H l1) = v
      have hnot : ∀ (x : Bool) (w : World), (Op.unary .not (.bool x)).run Try.prog w = .ok (.bool (!x)) w := fun _ _ => rfl
      go_wp2
      go_ret
      exact FIN.out _ _ H6.out (fun h => absurd h hlt)
  · go_still_tail 9, (by kernel_rfl)
    change wpList _ _ _ _ _ w3.drew
    go_wp2_with fail
    refine HJ.out.mono ?_
    rintro e w4 ⟨R1, n1, c1, l1, rfl, hnew, hs1, hn1, hc1, hm1, _, hat, hb4⟩
    have T4 := Lib.hid (show Took2 w4 R1 n1 c1 l1 from ⟨hs1, fits_max hat (HM2.out.took k hk).2.1 HT2.out.2.1, hn1, hc1, Nat.le_trans hm1 (Nat.max_le.2 ⟨(HM2.out.took k hk).2.2.2.2, HT2.out.2.2.2.2⟩)⟩)
    have B4 := Lib.hid (show Below w3.heap.size w3 w4 from ((Below.refl _ _).drew).trans hb4)
    have M4 := Lib.hid (HM2.out.below B4.out)
    have HN := Lib.hid (show ∀ a, R1 = some a → mb < a.block from fun a h => by have := hnew a h; have : w3.heap.size ≤ a.block := this; have := HM2.out.lt; omega)
    have HAT := Lib.hid hat
    rw [← B4.out.cell (p := ⟨b, 0, none⟩) hb3] at k0'
    rw [← B4.out.cell (p := ⟨b, 1, none⟩) hb3] at k1'
    rw [← B4.out.cell (p := ⟨b, 2, none⟩) hb3] at k2'
    rw [← B4.out.cell (p := ⟨d, 0, none⟩) hd3] at e0'
    rw [← B4.out.cell (p := ⟨d, 1, none⟩) hd3] at e1'
    obtain ⟨z1, z2⟩ := M4.out.cells hk
    have f1 : w4.frozen? ⟨mb, k * 2, none⟩ = false := by obtain ⟨cur, h1, _⟩ := M4.out.row; exact frozen_row0 h1
    have f2 : w4.frozen? ⟨mb, k * 2 + 1, none⟩ = false := by obtain ⟨cur, h1, _⟩ := M4.out.row; exact frozen_row0 h1
    clear hnew hs1 hn1 hc1 hm1 hat hb4 HJ
    go_upto_region 5 with fail
    go_still_tail 13, (by kernel_rfl)
    change wpList _ _ _ _ _ w4.drew
    go_upto_region 6 with fail
    have HM5 := Lib.hid (M4.out.set k hk ⟨R1, n1, c1, l1, X⟩ T4.out HN.out hX64)
    have BE5 := Lib.hid (show Beside [mb] w4 ((w4.setCell ⟨mb, k * 2, none⟩ (.slice R1 n1 c1)).setCell ⟨mb, k * 2 + 1, none⟩ (.int .u64 (X : Int))) from ((Beside.refl _ w4).setCell (by simp) _).setCell (by simp) _)
    obtain ⟨w5, hw5⟩ : ∃ u, u = (w4.setCell ⟨mb, k * 2, none⟩ (.slice R1 n1 c1)).setCell ⟨mb, k * 2 + 1, none⟩ (.int .u64 (X : Int)) := ⟨_, rfl⟩
    change Code.wp _ _ _ _ ((w4.setCell ⟨mb, k * 2, none⟩ (.slice R1 n1 c1)).setCell ⟨mb, k * 2 + 1, none⟩ (.int .u64 (X : Int))).drew
    rw [← hw5] at HM5 BE5 ⊢
    have g0 := BE5.out.cell (a := ⟨b, 2, none⟩) k2' (by simpa using hne)
    have g1 := BE5.out.cell (a := ⟨d, 0, none⟩) e0' (by simpa using hdm)
    have g2 := BE5.out.cell (a := ⟨d, 1, none⟩) e1' (by simpa using hdm)
    clear hw5 k0' k1' k2' e0' e1' z1 z2 f1 f2
    have g0' : w5.drew.cell? ⟨b, 2, none⟩ = some (.int .u64 (t : Int)) := g0
    have g1' : w5.drew.cell? ⟨d, 0, none⟩ = some (.slice (R k).A (R k).n (R k).c) := g1
    have g2' : w5.drew.cell? ⟨d, 1, none⟩ = some (.int .u64 ((R k).t : Int)) := g2
    have TO := Lib.hid (Took2.beside (M4.out.took k hk) BE5.out (fun a h => by have := HM2.out.apart k hk a h; simp; omega))
    have TN := Lib.hid (Took2.beside T4.out BE5.out (fun a h => by have := HN.out a h; simp; omega))
    have FIN : Hid (∀ (v : Bool) (W : World), Below w5.heap.size w5 W → ((R k).t < t → v = true) → (∃ b, Ending.returned (Value.bool v) = .returned (.bool b) ∧ ((R k).t < t → b = true)) ∧ ∃ R', Raised mb k R H t w W R') := Lib.hid fun v W hW hv =>
      ⟨⟨v, rfl, hv⟩, _, ⟨HM5.out.below hW, ((((Beside.of_below B0.out _).trans (.of_below B1.out [mb]) (fun x hx => .inl hx)).trans (.of_below B4.out [mb]) (fun x hx => .inl hx)).trans BE5.out (fun x hx => .inl hx)).below hW, fun i hi => by simp [upd, hi], by simp [upd, HX.out], fun i => by simp only [upd, if_pos rfl]; exact HAT.out i⟩⟩
    clear g0 g1 g2
    have SA := Lib.hid (same_any R1 (R k).A n1 c1 (R k).n (R k).c l1 (R k).H w5.drew (TN.out.below (Below.refl _ _).drew) (TO.out.below (Below.refl _ _).drew))
    clear HM2 HT2 M4 T4 HN HAT HM HT B0 B1 B4 HM5 BE5 HX TO TN
    by_cases hlt : (R k).t < t
    · go_wp2
      go_ret
      exact FIN.out true _ (Below.refl _ _).drew (fun _ => rfl)
    · go_wp2_with fail
      refine SA.out.mono ?_
      rintro e w6 ⟨rfl, hb6⟩
      have H6 := Lib.hid (show Below w5.heap.size w5 w6 from ((Below.refl _ _).drew).trans hb6)
      clear hb6 SA
      generalize (withinL l1 (R k).H && withinL (R k).H l1) = v
      have hnot : ∀ (x : Bool) (w : World), (Op.unary .not (.bool x)).run Try.prog w = .ok (.bool (!x)) w := fun _ _ => rfl
      go_wp2
      go_ret
      exact FIN.out _ _ H6.out (fun h => absurd h hlt)
end Go.Proofs.Ytlacihgoammjgaa.Mtx
