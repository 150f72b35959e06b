/- Package matrix: Bound. -/
import Derived.Test.YtlacihgoammjgaaMtxD
namespace Go.Proofs.Ytlacihgoammjgaa.Mtx
open Go Go.RowKit Go.Proofs.Ytlacihgoammjgaa.Words Go.Proofs.Ytlacihgoammjgaa.Vec
set_option linter.unusedVariables false
set_option linter.unusedSimpArgs false

def endT : Nat := 9223372036854775807
/-- The bound of the first j members. -/
def boundUpto (K : Nat) (L R : Nat → Hav) (who : List Nat) : Nat → Nat
  | 0 => endT
  | j + 1 => Nat.min (boundUpto K L R who j) (rowBound K L (R (who.getD j 0)) (who.getD j 0))

set_option maxRecDepth 100000 in
set_option maxHeartbeats 4000000 in
theorem bound_any (mb g c ob K : Nat) (R L : Nat → Hav) (who : List Nat) (w : World) (hM : MatAt mb R w) (hL : ListsAt ob K L w) (hG : ∀ i, i < who.length → w.cell? ⟨g, i, none⟩ = some (.int .i64 (who.getD i 0 : Int)) ∧ who.getD i 0 < 64) (hl0 : 0 < who.length) (hl : who.length ≤ 1000) :
    Calls Try.prog 23 #[.pointer (some ⟨mb, 0, none⟩), .slice (some ⟨g, 0, none⟩) who.length c, knownV ob K] w fun e w' => e = .returned (.int .u64 (boundUpto K L R who who.length : Int)) ∧ Below w.heap.size w w' := by
  have C5 := World.cell_new2 w (.slice none 0 0) (.slice (some ⟨ob, 0, none⟩) K K) 60
  obtain ⟨w1, hw1⟩ : ∃ u, u = w.alloc (.cells #[.slice none 0 0, .slice (some ⟨ob, 0, none⟩) K K] 60) := ⟨_, rfl⟩
  have B1 : Below w.heap.size w w1 := by rw [hw1]; exact (Below.refl _ _).alloc (Nat.le_refl _) _
  have hsz1 : w1.heap.size = w.heap.size + 1 := by rw [hw1, World.size_alloc]
  obtain ⟨b5, hb5⟩ : ∃ b, b = w.heap.size := ⟨_, rfl⟩
  rw [← hw1, ← hb5] at C5
  obtain ⟨k5, k6⟩ := C5
  have h5 : b5 < w1.heap.size := by omega
  have HB := Lib.hid B1
  have HM := Lib.hid (hM.below B1)
  have HL := Lib.hid (hL.below B1)
  have HG := Lib.hid (fun i (hi : i < who.length) => (show w1.cell? ⟨g, i, none⟩ = some (.int .i64 (who.getD i 0 : Int)) by rw [B1.cell (p := ⟨g, i, none⟩) (World.block_lt_of_cell? _ _ (hG i hi).1)]; exact (hG i hi).1))
  have HG2 := Lib.hid (fun i (hi : i < who.length) => (hG i hi).2)
  have HW1 := Lib.hid hw1
  have HE5 := Lib.hid hb5
  have TOW : ∀ W, Below w1.heap.size w1 W → Below w.heap.size w W := fun W h => HB.out.trans (h.mono HB.out.size)
  have KEEP : ∀ W, Below w1.heap.size w1 W → W.cell? ⟨b5, 0, none⟩ = some (.slice none 0 0) ∧ W.cell? ⟨b5, 1, none⟩ = some (.slice (some ⟨ob, 0, none⟩) K K) := fun W hW => ⟨(hW.cell h5).trans k5, (hW.cell h5).trans k6⟩
  have RO : ∀ k : Nat, k < 64 → ∀ W, Below w1.heap.size w1 W → Calls Try.prog 40 #[.pointer (some ⟨mb, 0, none⟩), .int .i64 (k : Int)] W fun e w' => e = .returned (.agg #[.slice (R k).A (R k).n (R k).c, .int .u64 ((R k).t : Int)]) ∧ Hid (Below w1.heap.size w1 w') ∧ w'.cell? ⟨b5, 0, none⟩ = some (.slice none 0 0) ∧ w'.cell? ⟨b5, 1, none⟩ = some (.slice (some ⟨ob, 0, none⟩) K K) := fun k hk W hW => by
    refine (rowM_any mb k R W (HM.out.below hW) hk).mono ?_
    rintro e w' ⟨rfl, hb⟩
    have h2 := hW.trans (hb.mono hW.size)
    exact ⟨rfl, Lib.hid h2, KEEP _ h2⟩
  have BO : ∀ k : Nat, k < 64 → ∀ W, Below w1.heap.size w1 W → Calls Try.prog 41 #[.agg #[.slice (R k).A (R k).n (R k).c, .int .u64 ((R k).t : Int)], .int .i64 (k : Int), .agg #[.slice none 0 0, .slice (some ⟨ob, 0, none⟩) K K]] W fun e w' => e = .returned (.int .u64 (rowBound K L (R k) k : Int)) ∧ Hid (Below w1.heap.size w1 w') ∧ w'.cell? ⟨b5, 0, none⟩ = some (.slice none 0 0) ∧ w'.cell? ⟨b5, 1, none⟩ = some (.slice (some ⟨ob, 0, none⟩) K K) := fun k hk W hW => by
    refine (boundR_any (R k) k ob K L W (HL.out.below hW) ((HM.out.took k hk).below hW) (HM.out.few k hk) (by omega)).mono ?_
    rintro e w' ⟨rfl, hb⟩
    have h2 := hW.trans (hb.mono hW.size)
    exact ⟨rfl, Lib.hid h2, KEEP _ h2⟩
  have HRO := Lib.hid RO
  have HBO := Lib.hid BO
  have HBX := Lib.hid (fun (k : Nat) (hk : k < 64) => (show rowBound K L (R k) k < 18446744073709551616 from by
    unfold rowBound
    split
    · omega
    · exact Nat.lt_of_le_of_lt (limit_le _ _ _ _) (HM.out.few k hk)))
  clear B1 hsz1 hw1 hb5 KEEP RO BO hM hL hG
  obtain ⟨N, hN⟩ : ∃ N, who.length = N := ⟨_, rfl⟩
  rw [hN] at HG HG2 hl0 hl ⊢
  clear hN
  have hN0 : ¬ N = 0 := by omega
  have hN1 : ((N : Int) == 0) = false := by rw [beq_eq_false_iff_ne]; omega
  unfold knownV
  go_enter Try.func23, Try.ntmps23
  go_upto_region 1 with fail
  rw [← HW1.out, ← HE5.out]
  go_wp2_with fail
  go_loopw [7, 9, 15, 16, 17, 18, 19, 20, 21, 22, 23, 24, 25, 26, 27] (fun a7 a9 a15 a16 a17 a18 a19 a20 a21 a22 a23 a24 a25 a26 a27 wr => ∃ (j X : Nat), a15 = .int .i64 (j : Int) ∧ a7 = .int .u64 (X : Int) ∧ j ≤ N ∧ Hid (X = boundUpto K L R who j) ∧ X < 18446744073709551616 ∧ Hid (Below w1.heap.size w1 wr)) (fun a7 a9 a15 a16 a17 a18 a19 a20 a21 a22 a23 a24 a25 a26 a27 _ => N - (intOf a15).toNat)
  case atStart => exact ⟨0, 9223372036854775807, rfl, rfl, by omega, Lib.hid rfl, by omega, Lib.hid (Below.refl _ _)⟩
  case round =>
    obtain ⟨j, X, rfl, rfl, hj, HX, hX, HBR⟩ := hrel
    have r5 := (HBR.out.cell h5).trans k5
    have r6 := (HBR.out.cell h5).trans k6
    by_cases h1 : j < N
    · have hcg := HG.out j h1
      have hc := (HBR.out.cell (World.block_lt_of_cell? _ _ hcg)).trans hcg
      have hk := HG2.out j h1
      have HNX := Lib.hid (show boundUpto K L R who (j + 1) = Nat.min (boundUpto K L R who j) (rowBound K L (R (who.getD j 0)) (who.getD j 0)) from rfl)
      clear hcg
      obtain ⟨m, hm⟩ : ∃ m, who.getD j 0 = m := ⟨_, rfl⟩
      rw [hm] at hc hk HNX
      clear hm
      have hy := HBX.out m hk
      have HR1 := Lib.hid (HRO.out m hk)
      have HB1 := Lib.hid (HBO.out m hk)
      obtain ⟨y, hye⟩ : ∃ y, rowBound K L (R m) m = y := ⟨_, rfl⟩
      rw [hye] at hy HB1 HNX
      obtain ⟨Z, hZ⟩ : ∃ Z, Z = Nat.min X y := ⟨_, rfl⟩
      have hmin : min (X : Int) (y : Int) = (Z : Int) := by rw [hZ]; show _ = ((min X y : Nat) : Int); omega
      have HZ := Lib.hid (show Z = boundUpto K L R who (j + 1) by rw [HNX.out, hZ, ← HX.out])
      have hZ64 : Z < 18446744073709551616 := by rw [hZ]; exact Nat.lt_of_le_of_lt (Nat.min_le_left _ _) hX
      have h1i : (j : Int) < (N : Int) := by omega
      clear hye HNX hZ hy
      go_upto_region 7 with fail
      go_region_held3 (fun w' => w'.cell? ⟨b5, 0, none⟩ = some (.slice none 0 0) ∧ w'.cell? ⟨b5, 1, none⟩ = some (.slice (some ⟨ob, 0, none⟩) K K)) (first | exact ⟨r5, r6⟩ | go_keep | assumption)
        (first
          | (go_at_call 40
             refine (HR1.out _ ?h1).mono ?_
             case h1 => first | exact Hid.out (by assumption) | exact (Hid.out (by assumption : Hid (Below w1.heap.size w1 _))).drew
             rintro e w' ⟨rfl, hb, q5, q6⟩)
          | (go_at_call 41
             refine (HB1.out _ ?h1).mono ?_
             case h1 => first | exact Hid.out (by assumption) | exact (Hid.out (by assumption : Hid (Below w1.heap.size w1 _))).drew
             rintro e w' ⟨rfl, hb, q5, q6⟩))
      all_goals go_wp2
      all_goals go_roundw
      case rel => exact ⟨j + 1, Z, by simp, rfl, by omega, HZ, hZ64, by assumption⟩
      case measure => simp [intOf]; omega
    · obtain rfl : j = N := by omega
      have HE := Lib.hid (show X = boundUpto K L R who j from HX.out)
      clear HX
      go_wp2
      go_ret
      exact ⟨by rw [← HE.out]; rfl, TOW _ HBR.out⟩
end Go.Proofs.Ytlacihgoammjgaa.Mtx
