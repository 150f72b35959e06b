/- digits.TakeText: its contract; a number has one form alone. digits.TakeText: its contract, walked. -/
import Derived.Test.YtpfmgjfkjjnadaaTake
import Derived.Test.YtpfmgjfkjjnadaaFacts
import Derived.Test.YtpfmgjfkjjnadaaShelf
namespace Go.Proofs.Ytpfmgjfkjjnadaa.Take
open Go Go.RowKit Go.Proofs.Ytpfmgjfkjjnadaa.Words Go.Proofs.Ytpfmgjfkjjnadaa.Enc
set_option linter.unusedVariables false

/-! numbers -/
theorem tk_err : ∀ (l : List UInt8) (i m : Nat), (tk i m l).2.2 ≠ 0 → (tk i m l).1 = 0 ∧ (tk i m l).2.1 = 0
  | [], i, m, h => ⟨rfl, rfl⟩
  | b :: r, i, m, h => by
    unfold tk at h ⊢
    split
    · exact ⟨rfl, rfl⟩
    · rename_i h1
      rw [if_neg h1] at h
      split
      · rename_i h2
        rw [if_pos h2] at h
        exact absurd rfl h
      · rename_i h2
        rw [if_neg h2] at h
        exact tk_err r _ _ h
theorem tk_canon : ∀ (l : List UInt8) (i m N K : Nat), i ≤ 9 → tk i m l = (N, K, 0) → ∃ y, N = m + y * 2 ^ (7 * i) ∧ i + (enc y).length = K ∧ l.take (enc y).length = enc y ∧ (0 < i → 0 < y)
  | [], i, m, N, K, hi, h => by simp [tk] at h
  | b :: r, i, m, N, K, hi, h => by
    have hb := b.toNat_lt
    by_cases h1 : (0 < i ∧ b = 0) ∨ (i = 9 ∧ 1 < b.toNat)
    · unfold tk at h
      rw [if_pos h1] at h
      simp at h
    by_cases h2 : b.toNat < 128
    · unfold tk at h
      rw [if_neg h1, if_pos h2] at h
      injection h with h3 h4
      injection h4 with h4 _
      refine ⟨b.toNat, h3.symm, ?_, ?_, ?_⟩
      · rw [enc_small h2]; exact h4
      · rw [enc_small h2]; simp [b8]
      · intro h0
        rcases Nat.eq_zero_or_pos b.toNat with hz | hz
        · exact absurd (.inl ⟨h0, UInt8.toNat_inj.1 hz⟩) h1
        · exact hz
    · have hi9 : i ≠ 9 := fun e => h1 (.inr ⟨e, by omega⟩)
      rw [tk_next hi9 h2] at h
      obtain ⟨y, e1, e2, e3, e4⟩ := tk_canon r (i + 1) _ N K (by omega) h
      have hy := e4 (by omega)
      have hm : (b.toNat % 128 + 128 * y) % 128 = b.toNat % 128 := by omega
      have hd : (b.toNat % 128 + 128 * y) / 128 = y := by omega
      refine ⟨b.toNat % 128 + 128 * y, ?_, ?_, ?_, fun _ => by omega⟩
      · rw [e1, Nat.add_mul, Nat.add_assoc, show 7 * (i + 1) = 7 * i + 7 by omega, Nat.pow_add]
        congr 2
        rw [Nat.mul_comm (2 ^ (7 * i)) (2 ^ 7), ← Nat.mul_assoc, Nat.mul_comm y]
      · rw [enc_great (by omega), hd]
        simp only [List.length_cons]
        omega
      · rw [enc_great (by omega), hd, hm]
        simp only [List.length_cons, List.take_succ_cons, e3]
        congr 1
        apply UInt8.toNat_inj.1
        rw [b8_toNat]
        omega
theorem tk_one {l : List UInt8} {N K : Nat} (h : tk 0 0 l = (N, K, 0)) : l.take K = enc N ∧ (enc N).length = K := by
  obtain ⟨y, e1, e2, e3, _⟩ := tk_canon l 0 0 N K (by omega) h
  simp at e1 e2
  subst e1
  exact ⟨by rw [← e2]; exact e3, e2⟩

/-! TakeText -/
/-- What TakeText tells: the text, how many bytes, the error. -/
def texted (l : List UInt8) (most : Int) (t : Nat × Nat × Nat) : List UInt8 × Nat × Nat :=
  if t.2.2 ≠ 0 then ([], 0, t.2.2)
  else if most < 0 ∨ most < (t.1 : Int) then ([], 0, 6)
  else if l.length - t.2.1 < t.1 then ([], 0, 5)
  else ((l.drop t.2.1).take t.1, t.2.1 + t.1, 0)
/-- A text of its own, what follows in what was given, the error. -/
def Gives3 (PA : Option Addr) (PN : Nat) (l : List UInt8) (r : List UInt8 × Nat × Nat) (w : World) (e : Ending) (w' : World) : Prop :=
  ∃ A n c A2 n2 c2, e = .returned (.tuple #[.slice A n c, .slice A2 n2 c2, .int .i64 (r.2.2 : Int)]) ∧ w'.ownsRow w.heap.size 5 1 (.slice A n c) n (cs r.1) ∧ (∀ W, Sees W PA PN l → Sees W A2 n2 (l.drop r.2.1)) ∧ n2 ≤ c2 ∧ c2 ≤ 9223372036854775807 ∧ Below w.heap.size w w'

end Go.Proofs.Ytpfmgjfkjjnadaa.Take
namespace Go.Proofs.Ytpfmgjfkjjnadaa.Take
open Go Go.RowKit Go.Proofs.Ytpfmgjfkjjnadaa.Words Go.Proofs.Ytpfmgjfkjjnadaa.Enc
set_option linter.unusedVariables false

/-- The value is a slice that the call owns. -/
def ownPred (base n : Nat) (l : List UInt8) : Facts.Pred := ⟨fun v w => ∃ A c, v = .slice A n c ∧ w.ownsRow base 5 1 (.slice A n c) n (cs l), fun _ _ _ ⟨A, c, h, hs⟩ hb => ⟨A, c, h, Own.below hs hb (Nat.le_refl _)⟩⟩
/-- The value is a slice that shows m wherever PA shows l, with its room. -/
def partPred (PA : Option Addr) (PN : Nat) (l : List UInt8) (n : Nat) (m : List UInt8) : Facts.Pred := ⟨fun v w => ∃ A c, v = .slice A n c ∧ (∀ W, Sees W PA PN l → Sees W A n m) ∧ n ≤ c ∧ c ≤ 9223372036854775807, fun _ _ _ h _ => h⟩

theorem gives3_err {PA : Option Addr} {PN : Nat} {l : List UInt8} {w w' : World} {A2 : Option Addr} {n c2 E : Nat} (h2 : ∀ W, Sees W PA PN l → Sees W A2 n l) (hc : n ≤ c2) (hc2 : c2 ≤ 9223372036854775807) (hb : Below w.heap.size w w') {F : Int} (hF : F = (E : Int)) :
    Gives3 PA PN l ([], 0, E) w (.returned (.tuple #[.slice none 0 0, .slice A2 n c2, .int .i64 F])) w' := by
  subst hF
  exact ⟨none, 0, 0, A2, n, c2, rfl, Own.nil _ _ _, h2, hc, hc2, hb⟩

end Go.Proofs.Ytpfmgjfkjjnadaa.Take
