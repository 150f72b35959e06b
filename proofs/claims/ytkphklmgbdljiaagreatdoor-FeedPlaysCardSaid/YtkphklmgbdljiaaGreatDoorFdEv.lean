/- The law's events. -/
import Derived.Test.YtkphklmgbdljiaaGreatDoorBSegOpen
namespace Go.Proofs.YtkphklmgbdljiaaGreatDoor.Fd
open Go Go.RowKit Go.Proofs.YtkphklmgbdljiaaGreatDoor.Words Go.Proofs.YtkphklmgbdljiaaGreatDoor.Enc Go.Proofs.YtkphklmgbdljiaaGreatDoor.Evt Go.Proofs.YtkphklmgbdljiaaGreatDoor.Made Go.Proofs.YtkphklmgbdljiaaGreatDoor.Dsk Go.Proofs.YtkphklmgbdljiaaGreatDoor.Sht Go.Proofs.YtkphklmgbdljiaaGreatDoor.Seg
set_option linter.unusedVariables false
set_option linter.unusedSimpArgs false

/-- The law's event. -/
def evE (A seq time : Nat) : Ev := ⟨3, seq, time, 1 + A % 4, ⟨#[UInt8.ofNat (97 + A % 5)]⟩, if A % 4 = 0 then List.replicate (A % 20) 0 else [], 0, 0⟩
theorem evE_right {A seq time : Nat} (h1 : 1 ≤ seq) (h2 : seq < 9223372036854775808) (h3 : 1 ≤ time) (h4 : time < 9223372036854775808) : Right (evE A seq time) := by
  refine ⟨?_, ?_, h1, h2, h3, h4, ?_, ?_, ?_, ?_, ?_⟩ <;> simp only [evE]
  · omega
  · omega
  · omega
  · omega
  · omega
  · intro _; exact ⟨by simp [ByteArray.size], by simp [ByteArray.size]⟩
  · intro h; split <;> simp <;> omega
theorem evE_fit {A seq time : Nat} (h2 : seq < 9223372036854775808) (h4 : time < 9223372036854775808) : (evE A seq time).Fit := by
  refine ⟨?_, ?_, ?_, ?_, ?_, ?_, ?_, ?_⟩ <;> simp only [evE] <;> omega
theorem evE_text {A seq time : Nat} : (evE A seq time).text.length ≤ 19 := by
  simp only [evE]; split <;> simp <;> omega
theorem evE_plain {A seq time : Nat} : plainE (evE A seq time) = evE A seq time := by
  refine plain_same ?_ ?_ rfl rfl
  · simp only [evE]; omega
  · simp only [evE]; intro h; rw [if_neg (by omega)]
theorem evE_key {A seq time : Nat} : (evE A seq time).key.size = 1 := by simp [evE, ByteArray.size]
theorem key_run9 (W : World) (T : Nat) (b : Nat) (hb : b = W.heap.size) : (convert 34 9 (.slice (some ⟨b, 0, none⟩) 1 1)).run Tryz.prog (W.alloc (.cells #[.int .u8 (97 + (T : Int) % 5)] 5)) = .ok (.string ⟨#[UInt8.ofNat (97 + T % 5)]⟩) (W.alloc (.cells #[.int .u8 (97 + (T : Int) % 5)] 5)) := by
  subst hb
  have h : Sees (W.alloc (.cells #[.int .u8 (97 + (T : Int) % 5)] 5)) (some ⟨W.heap.size, 0, none⟩) 1 [UInt8.ofNat (97 + T % 5)] := by
    refine sees_new W _ _ 1 _ rfl fun j u hu => ?_
    match j, hu with
    | 0, hu =>
      rw [List.getElem?_cons_zero] at hu
      injection hu with hu
      subst hu
      have h2 : (UInt8.ofNat (97 + T % 5)).toNat = 97 + T % 5 := by rw [UInt8.toNat_ofNat']; omega
      show some (Value.int IntKind.u8 (97 + (T : Int) % 5)) = some (Value.int IntKind.u8 ((UInt8.ofNat (97 + T % 5)).toNat : Int))
      rw [h2]
      congr 2
  exact h.string 1 Tryz.underlying34 Tryz.underlying5 Tryz.underlying9

set_option maxRecDepth 100000 in
set_option maxHeartbeats 1000000 in
theorem event9 (K A : Nat) (seq time : Nat) (w : World) (hT : A < 256) :
    Calls Tryz.prog 9 #[.agg #[.int .u8 (K : Int), .int .u8 (A : Int)], .int .u64 (seq : Int), .int .u64 (time : Int)] w (EventNew (evE A seq time) w) := by
  have hsf := store_float Tryz.prog
  have hstr := key_run9 ((w.alloc (.cells #[.int .u8 (K : Int), .int .u8 (A : Int)] 33)).alloc (.cells #[.int .i64 0, .int .u64 0, .int .u64 0, .int .u8 0, .string ⟨#[]⟩, .slice none 0 0, .float .f64 0, .int .i64 0] 37)) A (w.heap.size + 1 + 1) (by simp)
  have hmk := fun W => make_any W (A % 20) (by omega)
  simp only [show ((A % 20 : Nat) : Int) = (A : Int) % 20 by omega] at hmk
  unfold EventNew evE
  obtain ⟨KB, hKB⟩ : ∃ KB : ByteArray, KB = ⟨#[UInt8.ofNat (97 + A % 5)]⟩ := ⟨_, rfl⟩
  rw [← hKB] at hstr
  rw [← hKB]
  clear hKB
  by_cases hk : A % 4 = 0
  · have hE : (⟨3, seq, time, 1 + A % 4, KB, if A % 4 = 0 then List.replicate (A % 20) 0 else [], 0, 0⟩ : Ev) = ⟨3, seq, time, 1, KB, List.replicate (A % 20) 0, 0, 0⟩ := by rw [hk]; rfl
    rw [hE]
    have hk2 : (A : Int) % 4 = 0 := by omega
    go_enter Tryz.func9, Tryz.ntmps9
    go_wp2_with fail
    refine bodyPost_ret (v := Ev.val ⟨3, seq, time, 1, KB, List.replicate (A % 20) 0, 0, 0⟩ (some ⟨w.heap.size + 1 + 1 + 1 + 1, 0, none⟩) (A % 20) (A % 20)) (by simp [results, Tryz.results9, go_sem, Ev.val]) rfl ⟨_, _, _, rfl, ?_, Nat.le_refl _, by omega, ?_, ?_⟩
    · exact zRow8_at _ _ _ (by simp)
    · intro _ a ha
      cases ha
      simp
      omega
    · exact (((((Below.refl _ _).alloc (Nat.le_refl _) _).alloc (by simp) _).alloc (by simp <;> omega) _).alloc (by simp <;> omega) _).alloc (by simp <;> omega) _
  · have hE : (⟨3, seq, time, 1 + A % 4, KB, if A % 4 = 0 then List.replicate (A % 20) 0 else [], 0, 0⟩ : Ev) = ⟨3, seq, time, 1 + A % 4, KB, [], 0, 0⟩ := by rw [if_neg hk]
    rw [hE]
    have hk2 : ((A : Int) % 4 == 0) = false := by rw [beq_eq_false_iff_ne]; omega
    have hk3 : ¬ (A : Int) % 4 = 0 := by omega
    go_enter Tryz.func9, Tryz.ntmps9
    go_wp2_with fail
    refine bodyPost_ret (v := Ev.val ⟨3, seq, time, 1 + A % 4, KB, [], 0, 0⟩ none 0 0) (by simp [results, Tryz.results9, go_sem, Ev.val]) rfl ⟨_, _, _, rfl, ?_, Nat.le_refl _, by omega, Fresh.none _, ?_⟩
    · exact Sees.nil _ _
    · exact ((((Below.refl _ _).alloc (Nat.le_refl _) _).alloc (by simp) _).alloc (by simp <;> omega) _).alloc (by simp <;> omega) _
end Go.Proofs.YtkphklmgbdljiaaGreatDoor.Fd
