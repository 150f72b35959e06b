/- strconv's setDigits at 0.5. -/
import Derived.Test.YtiecjhdhhaldpaaGreatDoorQShort
import Derived.Lib.OwnBridge
namespace Go.Proofs.YtiecjhdhhaldpaaGreatDoor.Q
open Go Go.RowKit Go.Proofs.YtiecjhdhhaldpaaGreatDoor.Words
set_option linter.unusedVariables false

abbrev encB : UInt8 → Value := fun b => Value.int .u8 (b.toNat : Int)

theorem dg_half : ∀ t : Fin 16, Lib.dg 5000000000000000 (16 - 1 - t.val) = if t.val = 0 then 53 else 48 := by decide +kernel

set_option maxRecDepth 100000 in
theorem set_half (b base : Nat) (w : World) (hH : Go.Sort.Holds encB w b 0 (Array.replicate 16 (0 : UInt8))) (hb : base ≤ b) (hbw : base ≤ w.heap.size) :
    Calls Tryz.prog 44 #[.slice (some ⟨b, 0, none⟩) 32 32, .int .u64 5000000000000000, .int .i64 (-16), .int .i64 16] w fun e w' => e = .returned (.tuple #[.int .i64 0, .int .i64 1]) ∧ w'.cell? ⟨b, 0, none⟩ = some (.int .u8 53) ∧ Below base w w' := by
  go_enter Tryz.func44, Tryz.ntmps44
  go_wp2_with fail
  have h16 : (Array.replicate 16 (0 : UInt8)).size = 16 := rfl
  refine (Tryz.internal_strconv_formatBase10 b 0 32 5000000000000000 (Array.replicate 16 0) _ hH (by rw [h16]; omega) (by omega) (by rw [h16]; omega)).mono ?_
  rintro e w1 ⟨rfl, n, v', dk, hw1, hinv⟩
  have hsz : dk.size = 16 := hinv.size
  have hcell : ∀ t : Nat, t < 16 → w1.cell? ⟨b, t, none⟩ = some (.int .u8 (if t = 0 then 53 else 48)) := by
    intro t ht
    have h1 := Go.Sort.cell?_putRow encB w b 0 (Array.replicate 16 0) dk hH (by rw [hsz]; rfl) t (by omega)
    have h2 := hinv.done t (by omega) (by rw [h16]; exact ht)
    rw [Nat.zero_add] at h1
    have h3 : w1.cell? ⟨b, t, none⟩ = (Go.Sort.putRow encB w b 0 dk).cell? ⟨b, t, none⟩ := by rw [hw1]; rfl
    rw [h3, h1, h2, h16, dg_half ⟨t, ht⟩]
    by_cases h0 : t = 0 <;> simp [h0, encB]
  have hbel : Below base w w1 := by
    have h := Lib.below_putRow (enc := encB) (q := 0) (d := dk) (Below.refl base w) hb
    rw [hw1]; exact ⟨h.os, h.tape, h.output, h.size, h.block⟩
  have h0 := hcell 0 (by omega)
  simp only [if_true] at h0
  clear hw1 hinv hH
  go_wp2_with fail
  go_loopw [3] (fun p wr => ∃ k : Nat, p = .int .i64 ((k : Int) + 1) ∧ k < 16 ∧ wr = w1) (fun p _ => (intOf p).toNat)
  case atStart => exact ⟨15, rfl, by omega, rfl⟩
  case round =>
    obtain ⟨k, rfl, hk, rfl⟩ := hrel
    by_cases hk0 : k = 0
    · subst hk0
      go_wp2
      go_ret2
      exact ⟨rfl, h0, hbel⟩
    · have hc := hcell k hk
      rw [if_neg hk0] at hc
      go_wp2
      go_roundw
      case rel => exact ⟨k - 1, by go_num, by omega, trivial⟩
      case measure => simp [intOf]
end Go.Proofs.YtiecjhdhhaldpaaGreatDoor.Q
