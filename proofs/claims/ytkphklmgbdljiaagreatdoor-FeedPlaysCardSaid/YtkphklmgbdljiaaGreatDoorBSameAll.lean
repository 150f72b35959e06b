/- The law's comparison of two lists of events that are the same. -/
import Derived.Test.YtkphklmgbdljiaaGreatDoorBSegMake
import Derived.Test.YtkphklmgbdljiaaGreatDoorBEvent
import Derived.Deep.RegionWith
import Derived.Test.YtkphklmgbdljiaaGreatDoorBSegOpen
import Derived.Deep.SlicePairs
import Derived.ChangeArms
namespace Go.Proofs.YtkphklmgbdljiaaGreatDoor.Seg
open Go Go.RowKit Go.Proofs.YtkphklmgbdljiaaGreatDoor.Words Go.Proofs.YtkphklmgbdljiaaGreatDoor.Enc Go.Proofs.YtkphklmgbdljiaaGreatDoor.Evt Go.Proofs.YtkphklmgbdljiaaGreatDoor.Made
set_option linter.unusedVariables false
set_option linter.unusedSimpArgs false

set_option maxRecDepth 100000 in
set_option maxHeartbeats 2000000 in
theorem sameAll_any (B1 B2 : List Nat) (A1 A2 : Option Addr) (n c1 c2 : Nat) (R : List Ev) (w : World) (h1 : SeesEv B1 w A1 n R) (h2 : SeesEv B2 w A2 n R) (hr : ∀ e ∈ R, Right e ∧ e.num < 18446744073709551616) (hn : n ≤ 1000000) :
    Calls Tryz.prog 34 #[.slice A1 n c1, .slice A2 n c2] w fun e w' => e = .returned (.bool true) ∧ Below w.heap.size w w' := by
  go_enter Tryz.func34, Tryz.ntmps34
  go_wp2_with fail
  go_loopw [5] (fun i W => ∃ j : Nat, i = .int .i64 (j : Int) ∧ j ≤ n ∧ Hid (Below w.heap.size w W)) (fun i _ => n - (intOf i).toNat)
  case atStart => exact ⟨0, rfl, Nat.zero_le _, Lib.hid (Below.refl _ _)⟩
  case round =>
    obtain ⟨j, rfl, hj, HB⟩ := hrel
    by_cases hlt : j < n
    · obtain ⟨b1, o1, r1, rfl, hR1, ht1, k0, k1, k2, k3, k4, k5, k6, k7⟩ := (h1.below HB.out).get hlt
      obtain ⟨b2, o2, r2, rfl, hR2, ht2, m0, m1, m2, m3, m4, m5, m6, m7⟩ := (h2.below HB.out).get hlt
      have he : r2.e = r1.e := by rw [hR1] at hR2; exact (Option.some.inj hR2).symm
      have hre := hr _ (List.mem_of_getElem? hR1)
      have hs2 := ht2.1
      rw [he] at hs2 m0 m1 m2 m3 m4 m6 m7
      have SAME : ∀ W, Below wr.heap.size wr W → Calls Tryz.prog 35 #[r1.e.val r1.A r1.n r1.c, r1.e.val r2.A r2.n r2.c] W fun e w' => e = .returned (.bool true) ∧ Hid (Below w.heap.size w w') := fun W hW => by
        refine (refSame_any r1.e r1.e r1.A r2.A r1.n r1.c r2.n r2.c W (ht1.1.below hW) (hs2.below hW) hre.2 hre.2 hre.1 hre.1).mono ?_
        rintro e w' ⟨rfl, hb⟩
        exact ⟨by simp, Lib.hid ((HB.out.trans (hW.mono HB.out.size)).trans (hb.mono (Nat.le_trans HB.out.size hW.size)))⟩
      have hjn : (j : Int) < (n : Int) := by omega
      have hj0 : (0 : Int) ≤ (j : Int) := by omega
      rw [Nat.mul_comm 8 j] at k0 k1 k2 k3 k4 k5 k6 k7 m0 m1 m2 m3 m4 m5 m6 m7
      clear hR1 hR2 ht1 ht2 hs2 hre he hr h1 h2
      go_wp2_with fail
      go_region_with (first
        | (go_at_call 35
           refine (SAME _ ?h1).mono ?_
           case h1 => first | exact Below.refl _ _ | exact (Below.refl _ _).drew | exact (Below.refl _ _).drew.drew
           rintro e w7 ⟨rfl, HB7⟩))
      all_goals go_wp2
      all_goals go_roundw
      all_goals first | exact ⟨j + 1, rfl, by omega, HB7⟩ | (simp [intOf]; omega)
    · have hjn : j = n := by omega
      subst hjn
      go_wp2
      go_ret
      exact ⟨rfl, HB.out⟩
end Go.Proofs.YtkphklmgbdljiaaGreatDoor.Seg
