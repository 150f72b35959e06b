/- segment.Begin and Name: their contracts. -/
import Derived.Test.YtdelppndoepkbaaDoorSegHex
import Derived.Test.YtdelppndoepkbaaDoorShelf
namespace Go.Proofs.YtdelppndoepkbaaDoor.Seg
open Go Go.RowKit Go.Proofs.YtdelppndoepkbaaDoor.Words Go.Proofs.YtdelppndoepkbaaDoor.Enc Go.Proofs.YtdelppndoepkbaaDoor.Made
set_option linter.unusedVariables false

theorem ba_append (a b : List UInt8) : (⟨a.toArray⟩ : ByteArray) ++ ⟨b.toArray⟩ = ⟨(a ++ b).toArray⟩ := by
  apply ByteArray.ext
  simp

theorem below_grown (w : World) (k : Nat) (os : Array Obj) : Below w.heap.size w (Go.Sort.grow (w.drewN k) os) :=
  ⟨rfl, rfl, rfl, by simp [Go.Sort.grow], fun i hi => by
    show (w.heap ++ os)[i]? = _
    rw [Array.getElem?_append_left hi]⟩
theorem nDigits_le : ∀ (k u : Nat), u < 10 ^ (k + 1) → Lib.nDigits u ≤ k + 1
  | 0, u, h => by rw [Lib.nDigits_small (by simpa using h)]; exact Nat.le_refl _
  | k + 1, u, h => by
    by_cases h10 : u < 10
    · rw [Lib.nDigits_small h10]; omega
    · rw [Lib.nDigits_big h10]
      have := nDigits_le k (u / 10) (by rw [Nat.pow_succ] at h; omega)
      omega
theorem itoa_len (x : Int) (h0 : -9223372036854775808 ≤ x) (h1 : x ≤ 9223372036854775807) : (Lib.itoa x).length ≤ 20 := by
  unfold Lib.itoa
  split
  · have := nDigits_le 18 x.natAbs (by omega)
    rw [List.length_cons, Lib.decDigits_length]; omega
  · have := nDigits_le 18 x.toNat (by omega)
    rw [Lib.decDigits_length]; omega
theorem zeros_cut (k m : Nat) (hm : m ≤ k) : (⟨(List.replicate k 48).toArray⟩ : ByteArray).extract 0 m = ⟨(List.replicate m 48).toArray⟩ := by
  apply ByteArray.ext
  simp [hm]

set_option maxRecDepth 100000 in
theorem begin_any (x : Int) (h0 : -9223372036854775808 ≤ x) (h1 : x ≤ 9223372036854775807) (w : World) (T : STabs w) :
    Calls Tryd.prog 7 #[.int .i64 x] w fun e w' => e = .returned (.string ⟨(beginL x).toArray⟩) ∧ Below w.heap.size w w' := by
  go_enter Tryd.func7, Tryd.ntmps7
  go_wp2_with fail
  refine (Tryd.strconv_Itoa x h0 h1 w T.pows).mono ?_
  rintro e w1 ⟨rfl, k, os, rfl⟩
  have hb := below_grown w k os
  have hl := itoa_len x h0 h1
  have hl1 : ¬ 9223372036854775807 < 5 + (Lib.itoa x).length := by omega
  have hl2 : ¬ 9223372036854775807 < 5 + (Lib.itoa x).length + 1 := by omega
  go_wp2
  go_ret
  refine ⟨?_, hb⟩
  rw [show (⟨#[102, 101, 101, 100, 45]⟩ : ByteArray) = ⟨[102, 101, 101, 100, 45].toArray⟩ from rfl, show (⟨#[45]⟩ : ByteArray) = ⟨[45].toArray⟩ from rfl, ba_append, ba_append, List.append_assoc]
  rfl

set_option maxRecDepth 100000 in
set_option maxHeartbeats 1000000 in
theorem repeat_zero (m : Nat) (hm : m ≤ 15) (w : World) :
    Calls Tryd.prog 10 #[.string ⟨#[48]⟩, .int .i64 (m : Int)] w fun e w' => e = .returned (.string ⟨(List.replicate m 48).toArray⟩) ∧ w' = w := by
  rcases (show m = 0 ∨ m = 1 ∨ 2 ≤ m by omega) with rfl | rfl | h2
  · go_enter Tryd.func10, Tryd.ntmps10
    go_wp2
    go_ret
    exact ⟨rfl, rfl⟩
  · go_enter Tryd.func10, Tryd.ntmps10
    go_wp2
    go_ret
    exact ⟨rfl, rfl⟩
  · go_enter Tryd.func10, Tryd.ntmps10
    go_wp2_with fail
    refine (Tryd.bits_Mul 1 m (by omega) (by omega) w).mono ?_
    rintro e w1 ⟨rfl, rfl⟩
    rw [Nat.one_mul, Nat.div_eq_of_lt (by omega), Nat.mod_eq_of_lt (by omega)]
    go_wp2_with fail
    refine (Tryd.strings_HasPrefix _ _ _).mono ?_
    rintro e w2 ⟨rfl, rfl⟩
    generalize hB : Lib.hasPrefix _ _ = B
    obtain rfl : B = false := by rw [← hB]; decide +kernel
    clear hB
    go_wp2_with fail
    refine (Tryd.strings_HasPrefix _ _ _).mono ?_
    rintro e w2 ⟨rfl, rfl⟩
    generalize hB : Lib.hasPrefix _ _ = B
    obtain rfl : B = false := by rw [← hB]; decide +kernel
    clear hB
    go_wp2_with fail
    refine (Tryd.strings_HasPrefix _ _ _).mono ?_
    rintro e w2 ⟨rfl, rfl⟩
    generalize hB : Lib.hasPrefix _ _ = B
    obtain rfl : B = true := by rw [← hB]; decide +kernel
    clear hB
    go_wp2
    go_ret
    refine ⟨?_, rfl⟩
    rw [← zeros_cut 64 m (by omega)]
    rfl

set_option maxRecDepth 100000 in
set_option maxHeartbeats 1000000 in
theorem name_any (x : Int) (u : Nat) (h0 : -9223372036854775808 ≤ x) (h1 : x ≤ 9223372036854775807) (hu : u < 18446744073709551616) (w : World) (T : STabs w) :
    Calls Tryd.prog 5 #[.int .i64 x, .int .u64 (u : Int)] w fun e w' => e = .returned (.string ⟨(nameL x u).toArray⟩) ∧ Below w.heap.size w w' := by
  have hl := itoa_len x h0 h1
  have hbl : (beginL x).length ≤ 26 := by simp only [beginL, List.length_append, List.length_cons, List.length_nil]; omega
  go_enter Tryd.func5, Tryd.ntmps5
  go_wp2_with fail
  refine (formatUint_16 u hu w T).mono ?_
  rintro e w1 ⟨m, hm1, hm2, hm3, rfl, hb1⟩
  obtain ⟨H, hH⟩ : ∃ H, H = hexP m u := ⟨_, rfl⟩
  have hHl : H.length = m := by rw [hH, hexP_length]
  rw [← hH]
  obtain ⟨B, hB⟩ : ∃ B, B = beginL x := ⟨_, rfl⟩
  have hbeg := begin_any x h0 h1 w1 (T.below hb1)
  rw [← hB] at hbeg hbl
  have HH := Lib.hid (And.intro hm3 (And.intro hH hB))
  clear hm3 hH hB
  go_wp2_with fail
  refine hbeg.mono ?_
  rintro e w2 ⟨rfl, hb2⟩
  clear hbeg
  have hsub : ((16 : Int) - (m : Int)) = ((16 - m : Nat) : Int) := by omega
  go_wp2_with fail
  obtain ⟨Z, hZ⟩ : ∃ Z : List UInt8, Z = List.replicate (16 - m) 48 := ⟨_, rfl⟩
  have hZl : Z.length = 16 - m := by rw [hZ, List.length_replicate]
  have hrep := repeat_zero (16 - m) (by omega) w2
  rw [← hZ] at hrep
  have HZ := Lib.hid hZ
  clear hZ
  refine hrep.mono ?_
  rintro e w3 ⟨rfl, rfl⟩
  clear hrep
  have hl1 : ¬ 9223372036854775807 < B.length + (16 - m) := by omega
  have hl2 : ¬ 9223372036854775807 < B.length + (16 - m) + m := by omega
  have HB := Lib.hid (hb1.trans (hb2.mono hb1.size))
  clear hb1 hb2 hsub
  go_wp2
  go_ret
  refine ⟨?_, HB.out⟩
  obtain ⟨g1, g2, g3⟩ := HH.out
  rw [ba_append, ba_append, g3, g2, HZ.out, List.append_assoc, ← hexP_pad m (16 - m) u g1, show 16 - m + m = 16 by omega]
  rfl

def exName : List UInt8 := [102, 101, 101, 100, 45, 51, 45, 48, 48, 48, 48, 48, 48, 48, 48, 48, 48, 48, 48, 48, 48, 102, 102]
theorem exName_is : nameL 3 255 = exName := by
  unfold nameL beginL
  rw [show (3 : Int) = ((3 : Nat) : Int) from rfl, itoa_dig3 (by omega)]
  decide +kernel
theorem awake_any (w : World) (T : STabs w) : Calls Tryd.prog 4 #[] w fun e w' => e = .returned (.bool true) ∧ Below w.heap.size w w' := by
  have hn := name_any 3 255 (by omega) (by omega) (by omega) w T
  rw [exName_is] at hn
  unfold exName at hn
  go_enter Tryd.func4, Tryd.ntmps4
  go_wp2_with fail
  refine hn.mono ?_
  rintro e w1 ⟨rfl, hb⟩
  go_wp2
  go_ret
  exact ⟨rfl, hb⟩
end Go.Proofs.YtdelppndoepkbaaDoor.Seg
