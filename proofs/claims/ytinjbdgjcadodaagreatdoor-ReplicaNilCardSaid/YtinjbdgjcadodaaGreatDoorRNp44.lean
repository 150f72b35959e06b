/- Texts of the law ReplicaNil, put together. -/
import Derived.Test.YtinjbdgjcadodaaGreatDoorRNp20
set_option linter.unusedVariables false
set_option linter.unusedSimpArgs false
set_option maxRecDepth 100000
namespace Go.Proofs.YtinjbdgjcadodaaGreatDoor.Mtx
open Go Go.RowKit Words Vec
def limit (L : Nat → Hav) (H : List Nat) (t : Nat) : Nat → Nat
 | 0 => t
 | j + 1 => if at_ H j < (L j).n then Nat.min (limit L H t j) (at_ (L j).H (at_ H j) - 1) else limit L H t j
def rowBound (K : Nat) (L : Nat → Hav) (x : Hav) (n : Nat) : Nat := if (listOf K L n).n < at_ x.H n then 0 else limit L x.H x.t K
theorem limit_le (L : Nat → Hav) (H : List Nat) (t : Nat) : ∀ j, limit L H t j ≤ t
 | 0 => Nat.le_refl _
 | j + 1 => by
   have := limit_le L H t j
   unfold limit
   split
   ·exact Nat.le_trans (Nat.min_le_left _ _) this
   ·exact this
set_option maxHeartbeats 4000000 in
theorem boundR_any (x : Hav) (n ob K : Nat) (L : Nat → Hav) (w : World) (hL : ListsAt ob K L w) (hT : Took2 w x.A x.n x.c x.H) (ht : x.t < 18446744073709551616) (hn : n ≤ 900000) :
  Calls Tryz.prog 157 #[x.row, .int .i64 (n : Int), knownV ob K] w fun e w' => e = .returned (.int .u64 (rowBound K L x n : Int)) ∧ Below w.heap.size w w' := by
 have C3 := World.cell_new2 w (.slice x.A x.n x.c) (.int .u64 (x.t : Int)) 102
 obtain ⟨w0, hw0⟩ : ∃ u, u = w.alloc (.cells #[.slice x.A x.n x.c, .int .u64 (x.t : Int)] 102) := ⟨_, rfl⟩
 have C5 := World.cell_new2 w0 (.slice none 0 0) (.slice (some ⟨ob, 0, none⟩) K K) 170
 have B0 : Below w.heap.size w w0 := by rw [hw0]; exact (Below.refl _ _).alloc (Nat.le_refl _) _
 have hsz : w0.heap.size = w.heap.size + 1 := by rw [hw0]; simp
 obtain ⟨w1, hw1⟩ : ∃ u, u = w0.alloc (.cells #[.slice none 0 0, .slice (some ⟨ob, 0, none⟩) K K] 170) := ⟨_, rfl⟩
 have B1 : Below w0.heap.size w0 w1 := by rw [hw1]; exact (Below.refl _ _).alloc (Nat.le_refl _) _
 have hsz1 : w1.heap.size = w.heap.size + 2 := by rw [hw1, World.size_alloc, hsz]
 rw [← hw0] at C3
 rw [← hw1, hsz] at C5
 obtain ⟨b3, hb3⟩ : ∃ b, b = w.heap.size := ⟨_, rfl⟩
 obtain ⟨b5, hb5⟩ : ∃ b, b = w.heap.size + 1 := ⟨_, rfl⟩
 rw [← hb3] at C3
 rw [← hb5] at C5
 have k3 : w1.cell? ⟨b3, 0, none⟩ = some (.slice x.A x.n x.c) := by rw [B1.cell (p := ⟨b3, 0, none⟩) (by show b3 < _; omega)]; exact C3.1
 have k4 : w1.cell? ⟨b3, 1, none⟩ = some (.int .u64 (x.t : Int)) := by rw [B1.cell (p := ⟨b3, 1, none⟩) (by show b3 < _; omega)]; exact C3.2
 obtain ⟨k5, k6⟩ := C5
 have h3 : b3 < w1.heap.size := by omega
 have h5 : b5 < w1.heap.size := by omega
 have HB := Lib.hid (B0.trans (B1.mono B0.size))
 have HL := Lib.hid (hL.below HB.out)
 have HT := Lib.hid (hT.below HB.out)
 have HW0 := Lib.hid hw0
 have HW1 := Lib.hid hw1
 have HE3 := Lib.hid hb3
 have HE5 := Lib.hid hb5
 -- the calls, at every world from here on
 obtain ⟨S, hS⟩ : ∃ S : World → Prop, S = fun W => W.cell? ⟨b3, 0, none⟩ = some (.slice x.A x.n x.c) ∧ W.cell? ⟨b3, 1, none⟩ = some (.int .u64 (x.t : Int)) ∧ W.cell? ⟨b5, 0, none⟩ = some (.slice none 0 0) ∧ W.cell? ⟨b5, 1, none⟩ = some (.slice (some ⟨ob, 0, none⟩) K K) := ⟨_, rfl⟩
 have KEEP : ∀ W, Below w1.heap.size w1 W → S W := fun W hW => by
  rw [hS]
  exact ⟨(hW.cell h3).trans k3, (hW.cell h3).trans k4, (hW.cell h5).trans k5, (hW.cell h5).trans k6⟩
 have WI : ∀ W, Below w1.heap.size w1 W → Calls Tryz.prog 131 #[.slice none 0 0, .slice x.A x.n x.c] W fun e w' => e = .returned (.bool true) ∧ Hid (Below w1.heap.size w1 w') ∧ S w' := fun W hW => by
  refine (within_any none x.A 0 0 x.n x.c [] x.H W ⟨SeesU.nil _ _, fun i => by simp [at_], Nat.le_refl _, by omega, by omega⟩ (HT.out.below hW)).mono ?_
  rintro e w' ⟨rfl, hb⟩
  have h2 := hW.trans (hb.mono hW.size)
  exact ⟨rfl, Lib.hid h2, KEEP _ h2⟩
 have UN : ∀ (j : Nat), j ≤ 900000 → ∀ W, Below w1.heap.size w1 W → Calls Tryz.prog 219 #[.agg #[.slice x.A x.n x.c, .int .u64 (x.t : Int)], .int .i64 (j : Int), .agg #[.slice none 0 0, .slice (some ⟨ob, 0, none⟩) K K]] W fun e w' => e = .returned (.int .u64 (at_ x.H j : Int)) ∧ Hid (Below w1.heap.size w1 w') ∧ S w' := fun j hj W hW => by
  refine (unfolded_any x j ob K W (HT.out.below hW).1 hj HT.out.2.1).mono ?_
  rintro e w' ⟨rfl, hb⟩
  have h2 := hW.trans (hb.mono hW.size)
  exact ⟨rfl, Lib.hid h2, KEEP _ h2⟩
 have LI : ∀ W, Below w1.heap.size w1 W → Calls Tryz.prog 220 #[.agg #[.slice none 0 0, .slice (some ⟨ob, 0, none⟩) K K], .int .i64 (n : Int)] W fun e w' => e = .returned (.slice (listOf K L n).A (listOf K L n).n (listOf K L n).c) ∧ Hid (Below w1.heap.size w1 w') ∧ S w' := fun W hW => by
  refine (listM_any n ob K L W (HL.out.below hW)).mono ?_
  rintro e w' ⟨rfl, hb⟩
  have h2 := hW.trans (hb.mono hW.size)
  exact ⟨rfl, Lib.hid h2, KEEP _ h2⟩
 rw [hS] at WI UN LI
 have HWI := Lib.hid WI
 have HUN := Lib.hid UN
 have HUN0 := Lib.hid (UN n hn)
 have HLI := Lib.hid LI
 have hfn : (listOf K L n).n ≤ 1000 := by
  unfold listOf
  split
  ·rename_i h; exact hL.few.2 n h
  ·simp [noHav]
 have hwr : IntKind.u64.wrap ((listOf K L n).n : Int) = ((listOf K L n).n : Int) := by rw [IntKind.wrap_u64]; omega
 have HK := Lib.hid hL.few.1
 have hLfew := hL.few.2
 have TOW : ∀ W, Below w1.heap.size w1 W → Below w.heap.size w W := fun W h => HB.out.trans (h.mono HB.out.size)
 clear C3 B0 B1 hsz hsz1 hw0 hw1 hb3 hb5 WI UN LI KEEP hS hL hT hfn
 clear S
 unfold Hav.row knownV rowBound
 by_cases hgt : (listOf K L n).n < at_ x.H n
 ·rw [if_pos hgt]
  generalize listOf K L n = y at *
  generalize at_ x.H n = u at *
  go_enter Tryz.func157, Tryz.ntmps157
  go_upto_region 1 with fail
  rw [← HW0.out, ← HW1.out, ← HE5.out, ← HE3.out]
  go_region_held3 (fun w' => w'.cell? ⟨b3, 0, none⟩ = some (.slice x.A x.n x.c) ∧ w'.cell? ⟨b3, 1, none⟩ = some (.int .u64 (x.t : Int)) ∧ w'.cell? ⟨b5, 0, none⟩ = some (.slice none 0 0) ∧ w'.cell? ⟨b5, 1, none⟩ = some (.slice (some ⟨ob, 0, none⟩) K K)) (first | exact ⟨k3, k4, k5, k6⟩ | go_keep | assumption)
   (first
    | (go_at_call 131
       refine (HWI.out _ ?h1).mono ?_
       case h1 => first | exact Below.refl _ _ | exact (Below.refl _ _).drew | exact Hid.out (by assumption)
       rintro e w' ⟨rfl, hb, q3, q4, q5, q6⟩)
    | (go_at_call 219
       refine (HUN0.out _ ?h1).mono ?_
       case h1 => first | exact Below.refl _ _ | exact (Below.refl _ _).drew | exact Hid.out (by assumption)
       rintro e w' ⟨rfl, hb, q3, q4, q5, q6⟩)
    | (go_at_call 220
       refine (HLI.out _ ?h1).mono ?_
       case h1 => first | exact Below.refl _ _ | exact (Below.refl _ _).drew | exact Hid.out (by assumption)
       rintro e w' ⟨rfl, hb, q3, q4, q5, q6⟩))
  all_goals go_wp2
  all_goals go_ret
  all_goals exact ⟨rfl, TOW _ (Hid.out (by assumption))⟩
 ·rw [if_neg hgt]
  obtain ⟨y, hy⟩ : ∃ y, listOf K L n = y := ⟨_, rfl⟩
  obtain ⟨u, hu⟩ : ∃ u, at_ x.H n = u := ⟨_, rfl⟩
  rw [hy] at hgt HLI hwr
  rw [hu] at hgt HUN0
  clear hy hu
  go_enter Tryz.func157, Tryz.ntmps157
  go_upto_region 1 with fail
  rw [← HW0.out, ← HW1.out, ← HE5.out, ← HE3.out]
  go_region_held3 (fun w' => w'.cell? ⟨b3, 0, none⟩ = some (.slice x.A x.n x.c) ∧ w'.cell? ⟨b3, 1, none⟩ = some (.int .u64 (x.t : Int)) ∧ w'.cell? ⟨b5, 0, none⟩ = some (.slice none 0 0) ∧ w'.cell? ⟨b5, 1, none⟩ = some (.slice (some ⟨ob, 0, none⟩) K K)) (first | exact ⟨k3, k4, k5, k6⟩ | go_keep | assumption)
   (first
    | (go_at_call 131
       refine (HWI.out _ ?h1).mono ?_
       case h1 => first | exact Below.refl _ _ | exact (Below.refl _ _).drew | exact Hid.out (by assumption)
       rintro e w' ⟨rfl, hb, q3, q4, q5, q6⟩)
    | (go_at_call 219
       refine (HUN0.out _ ?h1).mono ?_
       case h1 => first | exact Below.refl _ _ | exact (Below.refl _ _).drew | exact Hid.out (by assumption)
       rintro e w' ⟨rfl, hb, q3, q4, q5, q6⟩)
    | (go_at_call 220
       refine (HLI.out _ ?h1).mono ?_
       case h1 => first | exact Below.refl _ _ | exact (Below.refl _ _).drew | exact Hid.out (by assumption)
       rintro e w' ⟨rfl, hb, q3, q4, q5, q6⟩))
  go_wp2_with fail
  have h64x : x.t < 18446744073709551616 := ht
  go_loopw [7, 8, 9, 10, 34, 35, 36, 37, 38, 39, 40, 41, 42, 43, 44, 45, 46, 47, 48, 49, 50, 51, 52, 53, 54, 55, 56] (fun a7 a8 a9 a10 a34 a35 a36 a37 a38 a39 a40 a41 a42 a43 a44 a45 a46 a47 a48 a49 a50 a51 a52 a53 a54 a55 a56 wr => ∃ (j X : Nat), a34 = .int .i64 (j : Int) ∧ a7 = .int .u64 (X : Int) ∧ j ≤ K ∧ Hid (X = limit L x.H x.t j) ∧ X < 18446744073709551616 ∧ Hid (Below w1.heap.size w1 wr)) (fun a7 a8 a9 a10 a34 a35 a36 a37 a38 a39 a40 a41 a42 a43 a44 a45 a46 a47 a48 a49 a50 a51 a52 a53 a54 a55 a56 _ => K - (intOf a34).toNat)
  case atStart => exact ⟨0, x.t, rfl, rfl, by omega, Lib.hid rfl, ht, by assumption⟩
  case round =>
   obtain ⟨j, X, rfl, rfl, hj, HX, hX, HBR⟩ := hrel
   have r3 := (HBR.out.cell h3).trans k3
   have r4 := (HBR.out.cell h3).trans k4
   have r5 := (HBR.out.cell h5).trans k5
   have r6 := (HBR.out.cell h5).trans k6
   have hK1000 := HK.out
   by_cases h1 : j < K
   ·have hc := (HL.out.below HBR.out).cell j h1
    unfold Hav.val at hc
    have HUJ := Lib.hid (HUN.out j (by omega) wr HBR.out)
    have h1i : (j : Int) < (K : Int) := by omega
    have HFJ := Lib.hid (HT.out.2.1 j)
    have HNJ := Lib.hid (hLfew j h1)
    have hwj : IntKind.u64.wrap ((L j).n : Int) = ((L j).n : Int) := by have := HNJ.out; rw [IntKind.wrap_u64]; omega
    by_cases h2 : at_ x.H j < (L j).n
    ·have HTI := Lib.hid (HL.out.time j h1 (at_ x.H j) h2)
     have HLIM := Lib.hid (show limit L x.H x.t (j + 1) = Nat.min (limit L x.H x.t j) (at_ (L j).H (at_ x.H j) - 1) by rw [limit, if_pos h2])
     obtain ⟨u, hu⟩ : ∃ u, at_ x.H j = u := ⟨_, rfl⟩
     rw [hu] at HUJ HTI HLIM h2 HFJ
     obtain ⟨y, hy⟩ : ∃ y, L j = y := ⟨_, rfl⟩
     rw [hy] at hc h2 hwj HTI HLIM
     obtain ⟨b, o, hA, hcell, h1t, h64t⟩ := HTI.out
     rw [hA] at hc
     obtain ⟨T, hT1⟩ : ∃ T, at_ y.H u = T + 1 := ⟨at_ y.H u - 1, by omega⟩
     rw [hT1] at hcell h64t HLIM
     have HCE := Lib.hid (fun W (hW : Below w1.heap.size w1 W) => (hW.cell (World.block_lt_of_cell? _ _ hcell)).trans hcell)
     have hw1t : IntKind.u64.wrap (((T + 1 : Nat) : Int) - 1) = (T : Int) := by rw [IntKind.wrap_u64]; omega
     obtain ⟨Z, hZ⟩ : ∃ Z, Z = Nat.min X T := ⟨_, rfl⟩
     have hmin : min (X : Int) (T : Int) = (Z : Int) := by rw [hZ]; show _ = ((min X T : Nat) : Int); omega
     have HZ := Lib.hid (show Z = limit L x.H x.t (j + 1) by rw [HLIM.out, hZ, ← HX.out]; rfl)
     have hZ64 : Z < 18446744073709551616 := by rw [hZ]; exact Nat.lt_of_le_of_lt (Nat.min_le_left _ _) hX
     have h2i : (u : Int) < (y.n : Int) := by omega
     clear hu hy HTI HLIM hT1 hZ hcell hA
     go_wp2_with fail
     refine HUJ.out.mono ?_
     rintro e w2 ⟨rfl, hb2, p3, p4, p5, p6⟩
     have hce := HCE.out w2 hb2.out
     clear HUJ HCE
     go_wp2
     go_roundw
     case rel => exact ⟨j + 1, Z, by simp, rfl, by omega, HZ, hZ64, hb2⟩
     case measure => simp [intOf]; omega
    ·have HLIM := Lib.hid (show X = limit L x.H x.t (j + 1) by rw [limit, if_neg h2]; exact HX.out)
     obtain ⟨u, hu⟩ : ∃ u, at_ x.H j = u := ⟨_, rfl⟩
     rw [hu] at HUJ h2 HFJ
     obtain ⟨y, hy⟩ : ∃ y, L j = y := ⟨_, rfl⟩
     rw [hy] at hc h2 hwj
     clear hu hy
     go_wp2_with fail
     refine HUJ.out.mono ?_
     rintro e w2 ⟨rfl, hb2, p3, p4, p5, p6⟩
     clear HUJ
     go_wp2
     go_roundw
     case rel => exact ⟨j + 1, X, by simp, rfl, by omega, HLIM, hX, hb2⟩
     case measure => simp [intOf]; omega
   ·obtain rfl : j = K := by omega
    have HE := Lib.hid (show X = limit L x.H x.t j from HX.out)
    clear HX
    go_wp2
    go_ret
    exact ⟨by rw [← HE.out]; rfl, TOW _ HBR.out⟩
def endT : Nat := 9223372036854775807
def boundUpto (K : Nat) (L R : Nat → Hav) (who : List Nat) : Nat → Nat
 | 0 => endT
 | j + 1 => Nat.min (boundUpto K L R who j) (rowBound K L (R (who.getD j 0)) (who.getD j 0))
set_option maxHeartbeats 4000000 in
theorem bound_any (mb g c ob K : Nat) (R L : Nat → Hav) (who : List Nat) (w : World) (hM : MatAt mb R w) (hL : ListsAt ob K L w) (hG : ∀ i, i < who.length → w.cell? ⟨g, i, none⟩ = some (.int .i64 (who.getD i 0 : Int)) ∧ who.getD i 0 < 64) (hl0 : 0 < who.length) (hl : who.length ≤ 1000) :
  Calls Tryz.prog 97 #[.pointer (some ⟨mb, 0, none⟩), .slice (some ⟨g, 0, none⟩) who.length c, knownV ob K] w fun e w' => e = .returned (.int .u64 (boundUpto K L R who who.length : Int)) ∧ Below w.heap.size w w' := by
 have C5 := World.cell_new2 w (.slice none 0 0) (.slice (some ⟨ob, 0, none⟩) K K) 170
 obtain ⟨w1, hw1⟩ : ∃ u, u = w.alloc (.cells #[.slice none 0 0, .slice (some ⟨ob, 0, none⟩) K K] 170) := ⟨_, rfl⟩
 have B1 : Below w.heap.size w w1 := by rw [hw1]; exact (Below.refl _ _).alloc (Nat.le_refl _) _
 have hsz1 : w1.heap.size = w.heap.size + 1 := by rw [hw1, World.size_alloc]
 obtain ⟨b5, hb5⟩ : ∃ b, b = w.heap.size := ⟨_, rfl⟩
 rw [← hw1, ← hb5] at C5
 obtain ⟨k5, k6⟩ := C5
 have h5 : b5 < w1.heap.size := by omega
 have HB := Lib.hid B1
 have HM := Lib.hid (hM.below B1)
 have HL := Lib.hid (hL.below B1)
 have HG := Lib.hid (fun i (hi : i < who.length) => (show w1.cell? ⟨g, i, none⟩ = some (.int .i64 (who.getD i 0 : Int)) by rw [B1.cell (p := ⟨g, i, none⟩) (World.block_lt_of_cell? _ _ (hG i hi).1)]; exact (hG i hi).1))
 have HG2 := Lib.hid (fun i (hi : i < who.length) => (hG i hi).2)
 have HW1 := Lib.hid hw1
 have HE5 := Lib.hid hb5
 have TOW : ∀ W, Below w1.heap.size w1 W → Below w.heap.size w W := fun W h => HB.out.trans (h.mono HB.out.size)
 have KEEP : ∀ W, Below w1.heap.size w1 W → W.cell? ⟨b5, 0, none⟩ = some (.slice none 0 0) ∧ W.cell? ⟨b5, 1, none⟩ = some (.slice (some ⟨ob, 0, none⟩) K K) := fun W hW => ⟨(hW.cell h5).trans k5, (hW.cell h5).trans k6⟩
 have RO : ∀ k : Nat, k < 64 → ∀ W, Below w1.heap.size w1 W → Calls Tryz.prog 47 #[.pointer (some ⟨mb, 0, none⟩), .int .i64 (k : Int)] W fun e w' => e = .returned (.agg #[.slice (R k).A (R k).n (R k).c, .int .u64 ((R k).t : Int)]) ∧ Hid (Below w1.heap.size w1 w') ∧ w'.cell? ⟨b5, 0, none⟩ = some (.slice none 0 0) ∧ w'.cell? ⟨b5, 1, none⟩ = some (.slice (some ⟨ob, 0, none⟩) K K) := fun k hk W hW => by
  refine (rowM_any mb k R W (HM.out.below hW) hk).mono ?_
  rintro e w' ⟨rfl, hb⟩
  have h2 := hW.trans (hb.mono hW.size)
  exact ⟨rfl, Lib.hid h2, KEEP _ h2⟩
 have BO : ∀ k : Nat, k < 64 → ∀ W, Below w1.heap.size w1 W → Calls Tryz.prog 157 #[.agg #[.slice (R k).A (R k).n (R k).c, .int .u64 ((R k).t : Int)], .int .i64 (k : Int), .agg #[.slice none 0 0, .slice (some ⟨ob, 0, none⟩) K K]] W fun e w' => e = .returned (.int .u64 (rowBound K L (R k) k : Int)) ∧ Hid (Below w1.heap.size w1 w') ∧ w'.cell? ⟨b5, 0, none⟩ = some (.slice none 0 0) ∧ w'.cell? ⟨b5, 1, none⟩ = some (.slice (some ⟨ob, 0, none⟩) K K) := fun k hk W hW => by
  refine (boundR_any (R k) k ob K L W (HL.out.below hW) ((HM.out.took k hk).below hW) (HM.out.few k hk) (by omega)).mono ?_
  rintro e w' ⟨rfl, hb⟩
  have h2 := hW.trans (hb.mono hW.size)
  exact ⟨rfl, Lib.hid h2, KEEP _ h2⟩
 have HRO := Lib.hid RO
 have HBO := Lib.hid BO
 have HBX := Lib.hid (fun (k : Nat) (hk : k < 64) => (show rowBound K L (R k) k < 18446744073709551616 from by
  unfold rowBound
  split
  ·omega
  ·exact Nat.lt_of_le_of_lt (limit_le _ _ _ _) (HM.out.few k hk)))
 clear B1 hsz1 hw1 hb5 KEEP RO BO hM hL hG
 obtain ⟨N, hN⟩ : ∃ N, who.length = N := ⟨_, rfl⟩
 rw [hN] at HG HG2 hl0 hl ⊢
 clear hN
 have hN0 : ¬ N = 0 := by omega
 have hN1 : ((N : Int) == 0) = false := by rw [beq_eq_false_iff_ne]; omega
 unfold knownV
 go_enter Tryz.func97, Tryz.ntmps97
 go_upto_region 1 with fail
 rw [← HW1.out, ← HE5.out]
 go_wp2_with fail
 go_loopw [7, 9, 15, 16, 17, 18, 19, 20, 21, 22, 23, 24, 25, 26, 27] (fun a7 a9 a15 a16 a17 a18 a19 a20 a21 a22 a23 a24 a25 a26 a27 wr => ∃ (j X : Nat), a15 = .int .i64 (j : Int) ∧ a7 = .int .u64 (X : Int) ∧ j ≤ N ∧ Hid (X = boundUpto K L R who j) ∧ X < 18446744073709551616 ∧ Hid (Below w1.heap.size w1 wr)) (fun a7 a9 a15 a16 a17 a18 a19 a20 a21 a22 a23 a24 a25 a26 a27 _ => N - (intOf a15).toNat)
 case atStart => exact ⟨0, 9223372036854775807, rfl, rfl, by omega, Lib.hid rfl, by omega, Lib.hid (Below.refl _ _)⟩
 case round =>
  obtain ⟨j, X, rfl, rfl, hj, HX, hX, HBR⟩ := hrel
  have r5 := (HBR.out.cell h5).trans k5
  have r6 := (HBR.out.cell h5).trans k6
  by_cases h1 : j < N
  ·have hcg := HG.out j h1
   have hc := (HBR.out.cell (World.block_lt_of_cell? _ _ hcg)).trans hcg
   have hk := HG2.out j h1
   have HNX := Lib.hid (show boundUpto K L R who (j + 1) = Nat.min (boundUpto K L R who j) (rowBound K L (R (who.getD j 0)) (who.getD j 0)) from rfl)
   clear hcg
   obtain ⟨m, hm⟩ : ∃ m, who.getD j 0 = m := ⟨_, rfl⟩
   rw [hm] at hc hk HNX
   clear hm
   have hy := HBX.out m hk
   have HR1 := Lib.hid (HRO.out m hk)
   have HB1 := Lib.hid (HBO.out m hk)
   obtain ⟨y, hye⟩ : ∃ y, rowBound K L (R m) m = y := ⟨_, rfl⟩
   rw [hye] at hy HB1 HNX
   obtain ⟨Z, hZ⟩ : ∃ Z, Z = Nat.min X y := ⟨_, rfl⟩
   have hmin : min (X : Int) (y : Int) = (Z : Int) := by rw [hZ]; show _ = ((min X y : Nat) : Int); omega
   have HZ := Lib.hid (show Z = boundUpto K L R who (j + 1) by rw [HNX.out, hZ, ← HX.out])
   have hZ64 : Z < 18446744073709551616 := by rw [hZ]; exact Nat.lt_of_le_of_lt (Nat.min_le_left _ _) hX
   have h1i : (j : Int) < (N : Int) := by omega
   clear hye HNX hZ hy
   go_upto_region 7 with fail
   go_region_held3 (fun w' => w'.cell? ⟨b5, 0, none⟩ = some (.slice none 0 0) ∧ w'.cell? ⟨b5, 1, none⟩ = some (.slice (some ⟨ob, 0, none⟩) K K)) (first | exact ⟨r5, r6⟩ | go_keep | assumption)
    (first
     | (go_at_call 47
        refine (HR1.out _ ?h1).mono ?_
        case h1 => first | exact Hid.out (by assumption) | exact (Hid.out (by assumption : Hid (Below w1.heap.size w1 _))).drew
        rintro e w' ⟨rfl, hb, q5, q6⟩)
     | (go_at_call 157
        refine (HB1.out _ ?h1).mono ?_
        case h1 => first | exact Hid.out (by assumption) | exact (Hid.out (by assumption : Hid (Below w1.heap.size w1 _))).drew
        rintro e w' ⟨rfl, hb, q5, q6⟩))
   all_goals go_wp2
   all_goals go_roundw
   case rel => exact ⟨j + 1, Z, by simp, rfl, by omega, HZ, hZ64, by assumption⟩
   case measure => simp [intOf]; omega
  ·obtain rfl : j = N := by omega
   have HE := Lib.hid (show X = boundUpto K L R who j from HX.out)
   clear HX
   go_wp2
   go_ret
   exact ⟨by rw [← HE.out]; rfl, TOW _ HBR.out⟩
end Go.Proofs.YtinjbdgjcadodaaGreatDoor.Mtx
