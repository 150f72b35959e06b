/- strconv's ftoa64 at 0.5. -/
import Derived.Test.YtiecjhdhhaldpaaGreatDoorQBits
import Derived.Deep.RegionLaw
namespace Go.Proofs.YtiecjhdhhaldpaaGreatDoor.Q
open Go Go.RowKit Go.Proofs.YtiecjhdhhaldpaaGreatDoor.Words
set_option linter.unusedVariables false

theorem nDigits_half : Lib.nDigits 5000000000000000 = 16 := by decide +kernel
theorem bitLen_half : Lib.bitLen 4503599627370496 = 53 := by decide +kernel

abbrev zeros : Array Value := #[.int .u8 0, .int .u8 0, .int .u8 0, .int .u8 0, .int .u8 0, .int .u8 0, .int .u8 0, .int .u8 0, .int .u8 0, .int .u8 0, .int .u8 0, .int .u8 0, .int .u8 0, .int .u8 0, .int .u8 0, .int .u8 0, .int .u8 0, .int .u8 0, .int .u8 0, .int .u8 0, .int .u8 0, .int .u8 0, .int .u8 0, .int .u8 0, .int .u8 0, .int .u8 0, .int .u8 0, .int .u8 0, .int .u8 0, .int .u8 0, .int .u8 0, .int .u8 0]
theorem zeros_at (j : Nat) (h : j < 16) : zeros[j]? = some (.int .u8 0) := by
  rw [show zeros = Array.replicate 32 (.int .u8 0) from rfl, Array.getElem?_replicate, if_pos (by omega)]

theorem holds_new (w W : World) (e : TypeId) (hb : Below (w.heap.size + 1) (w.alloc (.cells zeros e)) W) : Go.Sort.Holds encB W w.heap.size 0 (Array.replicate 16 (0 : UInt8)) := by
  intro j hj
  have hj' : j < 16 := hj
  have hd : (Array.replicate 16 (0 : UInt8))[j]! = 0 := by
    rw [getElem!_pos _ j hj]; simp
  rw [Nat.zero_add, hd]
  have h1 : (w.alloc (.cells zeros e)).heap[w.heap.size]? = some (.cells zeros e (0, 0)) := heap_alloc_new w _
  refine ⟨?_, ?_⟩
  · rw [hb.cell (show w.heap.size < w.heap.size + 1 by omega), cell_of_row _ w.heap.size j zeros e (0, 0) h1]
    exact zeros_at j hj'
  · rw [hb.frozen (show w.heap.size < w.heap.size + 1 by omega)]
    exact frozen_of_row _ _ _ _ _ h1

set_option maxRecDepth 100000 in
set_option maxHeartbeats 1000000 in
theorem ftoa_half (base : Nat) (A : Option Addr) (c : Nat) (w : World) (T : Tabs w) (hown0 : w.ownsRow base 5 1 (.slice A 0 c) 0 (cs [])) (hbw : base ≤ w.heap.size) :
    Calls Tryz.prog 34 #[.slice A 0 c, .float .f64 4602678819172646912, .int .u8 101, .int .i64 (-1)] w fun e w' =>
      ∃ A' c', e = .returned (.slice A' 5 c') ∧ w'.ownsRow base 5 1 (.slice A' 5 c') 5 (cs [53, 101, 45, 48, 49]) ∧ Below base w w' := by
  have hbt : ∀ W, (callFunc 38 #[.float .f64 4602678819172646912]).run Tryz.prog W = .ok (.value (.int .u64 4602678819172646912)) W := bits_s 4602678819172646912
  have hb1 : bits .and .i64 1022 2047 = 1022 := by decide +kernel
  have hb2 : bits .and .u64 4602678819172646912 4503599627370495 = 0 := by decide +kernel
  have hb3 : bits .or .u64 0 4503599627370496 = 4503599627370496 := by decide +kernel
  go_enter Tryz.func34, Tryz.ntmps34
  go_wp2_with fail
  go_region
  go_wp2_with fail
  refine (Tryz.bits_Len64 4503599627370496 _ (by omega) (by omega)).mono ?_
  rintro e w1 ⟨rfl, hw1⟩
  have hl : ((Lib.bitLen (Int.toNat 4503599627370496) : Nat) : Int) = 53 := by rw [show Int.toNat 4503599627370496 = 4503599627370496 from rfl, bitLen_half]; rfl
  rw [hl]
  subst hw1
  go_wp2_with fail
  refine (short_half _ ((T.of_below ((Below.refl _ _).alloc (Nat.le_refl _) _)).of_below (Below.refl _ _).drew)).mono ?_
  rintro e w2 ⟨rfl, hb2⟩
  have hs2 : (w.alloc (.cells zeros 57)).drew.heap.size = w.heap.size + 1 := by simp
  have hb2' : Below (w.heap.size + 1) (w.alloc (.cells zeros 57)) w2 := by
    rw [hs2] at hb2
    exact ⟨hb2.os, hb2.tape, hb2.output, by have := hb2.size; exact this, hb2.block⟩
  have hH := holds_new w w2 57 hb2'
  have hbw2 : Below w.heap.size w w2 := ((Below.refl w.heap.size w).alloc (Nat.le_refl _) _).trans (hb2'.mono (by omega))
  have T2 := T.of_below hbw2
  have hown2 := Own.below hown0 hbw2 (Nat.le_refl _)
  have hsz2 := hbw2.size
  clear hb2 hb2' hs2
  go_wp2_with fail
  have TD := (T2.of_below (Below.refl _ _).drew).pows
  have nd : (Lib.nDigits 5000000000000000 : Int) = 16 := by rw [nDigits_half]; rfl
  have hbd : Below w.heap.size w w2.drew := hbw2.drew
  have HD : Go.Sort.Holds encB w2.drew w.heap.size 0 (Array.replicate 16 (0 : UInt8)) := fun j hj => ⟨(hH j hj).1, (hH j hj).2⟩
  have hszd : w.heap.size ≤ w2.drew.heap.size := hsz2
  go_region_law (first
    | (go_simp; go_at_call 45; refine (Tryz.internal_strconv_numDigits 5000000000000000 (by omega) (by omega) _ TD).mono ?_; rintro e w3 ⟨rfl, hw3⟩; rw [nd]; subst hw3)
    | (go_simp; go_at_call 44; refine (set_half w.heap.size w.heap.size _ HD (Nat.le_refl _) hszd).mono ?_; rintro e w4 ⟨rfl, hc4, hb4⟩))
  have hb4' : Below w.heap.size w w4 := hbd.trans hb4
  have hown4 := Own.below hown0 hb4' (Nat.le_refl _)
  clear hH HD hown2 TD
  go_wp2_with fail
  refine (fmt_half base w.heap.size A c _ hown4 hc4 (Nat.le_trans hbw hb4'.size)).mono ?_
  rintro e w5 ⟨A5, c5, rfl, hown5, hb5⟩
  have hb5' : Below base w w5 := (hb4'.mono hbw).trans hb5
  go_wp2
  go_ret
  exact ⟨A5, c5, rfl, hown5, hb5'⟩
end Go.Proofs.YtiecjhdhhaldpaaGreatDoor.Q
