/- digits.Size: how many bytes a number has: its contract, out of that of math/bits.Len64. -/
import Derived.Test.YtlacihgoammjgaaRows
import Derived.Test.YtlacihgoammjgaaBGround
import Derived.Test.YtlacihgoammjgaaShelf
import Derived.Handy
import Derived.Lib.Hide
import Derived.Lib.BitFns
import Derived.Test.YtlacihgoammjgaaBPlain
import Derived.WalkLawsBesides
namespace Go.Proofs.Ytlacihgoammjgaa.Len
open Go Go.RowKit Go.Proofs.Ytlacihgoammjgaa.Enc

theorem bitLen_small : ∀ m : Fin 128, 1 ≤ m.val → (Lib.bitLen m.val + 6) / 7 = 1 := by decide +kernel
theorem bitLen_enc : ∀ m : Nat, 1 ≤ m → m < 2 ^ 64 → (Lib.bitLen m + 6) / 7 = (enc m).length := by
  intro m
  induction m using Nat.strongRecOn with
  | _ m ih =>
    intro h1 h2
    by_cases hm : m < 128
    · rw [enc_small hm]; exact bitLen_small ⟨m, hm⟩ h1
    · have h : Lib.bitLen m = 7 + Lib.bitLen (m / 128) := Lib.bitLen_shift 7 m (by omega) h2
      have h' := ih (m / 128) (by omega) (by omega) (by omega)
      rw [enc_great hm, h]
      simp only [List.length_cons]
      rw [← h']
      omega
theorem or_one (n : Nat) : n ||| 1 = n / 2 * 2 + 1 := by
  apply Nat.eq_of_testBit_eq
  intro i
  rw [Nat.testBit_or]
  cases i with
  | zero => simp [Nat.testBit_zero]
  | succ i => simp [Nat.testBit_succ, show (n / 2 * 2 + 1) / 2 = n / 2 by omega]
theorem size_enc (n : Nat) (h : n < 2 ^ 64) : (Lib.bitLen (n ||| 1) + 6) / 7 = (enc n).length := by
  by_cases h0 : n = 0
  · subst h0
    rw [enc_small (by omega)]
    decide +kernel
  · rw [← bitLen_enc n (by omega) h]
    by_cases h1 : n = 1
    · subst h1; rfl
    · rw [or_one, Lib.bitLen_half _ (by omega) (by omega), Lib.bitLen_half n (by omega) h, show (n / 2 * 2 + 1) / 2 = n / 2 by omega]

end Go.Proofs.Ytlacihgoammjgaa.Len

/- digits.Lay: its contract. -/
namespace Go.Proofs.Ytlacihgoammjgaa.Made
open Go Go.RowKit Go.Proofs.Ytlacihgoammjgaa.Words Go.Proofs.Ytlacihgoammjgaa.Enc
set_option linter.unusedVariables false
end Go.Proofs.Ytlacihgoammjgaa.Made

/- digits.LayFixed: its contract. -/
namespace Go.Proofs.Ytlacihgoammjgaa.Made
open Go Go.RowKit Go.Proofs.Ytlacihgoammjgaa.Words Go.Proofs.Ytlacihgoammjgaa.Enc
set_option linter.unusedVariables false
end Go.Proofs.Ytlacihgoammjgaa.Made

/- bytes.Clone: its contract, in words of bytes that are seen. -/
namespace Go.Proofs.Ytlacihgoammjgaa.Dsk
open Go Go.RowKit Go.Proofs.Ytlacihgoammjgaa.Words
set_option linter.unusedVariables false
theorem clone_bytes (A : Option Addr) (n c : Nat) (l : List UInt8) (w : World) (hs : Sees w A n l) (hn : n ≤ 100000000000000) :
    Calls Try.prog 43 #[.slice A n c] w fun e w' => ∃ A' c', e = .returned (.slice A' n c') ∧ w'.ownsRow w.heap.size 5 1 (.slice A' n c') n (cs l) ∧ Below w.heap.size w w' := by
  cases A with
  | none =>
    refine (Try.bytes_Clone_nil n c w).mono ?_
    rintro e w' ⟨rfl, rfl⟩
    have h0 : n = 0 := by
      rcases Nat.eq_zero_or_pos n with h | h
      · exact h
      · obtain ⟨b, o, e, _⟩ := hs.2 h
        cases e
    subst h0
    have hl0 : l = [] := List.eq_nil_of_length_eq_zero hs.1
    subst hl0
    exact ⟨none, 0, rfl, Own.nil _ _ _, Below.refl _ _⟩
  | some a =>
    have hl := hs.1
    refine (Try.bytes_Clone_at a n c (l.map fun b => (b.toNat : Int)) w (by simpa using hl) (by omega) fun i hi => ?_).mono ?_
    · obtain ⟨b, o, e, hc⟩ := hs.2 (by omega)
      injection e with e
      subst e
      have hil : i < l.length := by omega
      rw [add_plain, hc i l[i] (List.getElem?_eq_getElem hil)]
      simp [hil]
    · rintro e w' ⟨v', rfl, hown, _, hb⟩
      rw [List.map_map] at hown
      obtain ⟨A', c', rfl, _⟩ := Own.shape hown
      exact ⟨A', c', rfl, hown, hb⟩
end Go.Proofs.Ytlacihgoammjgaa.Dsk

/- digits.TakeText: its contract; a number has one form alone. digits.TakeText: its contract, walked. -/
namespace Go.Proofs.Ytlacihgoammjgaa.Take
open Go Go.RowKit Go.Proofs.Ytlacihgoammjgaa.Words Go.Proofs.Ytlacihgoammjgaa.Enc
set_option linter.unusedVariables false

/-! numbers -/
theorem tk_err : ∀ (l : List UInt8) (i m : Nat), (tk i m l).2.2 ≠ 0 → (tk i m l).1 = 0 ∧ (tk i m l).2.1 = 0
  | [], i, m, h => ⟨rfl, rfl⟩
  | b :: r, i, m, h => by
    unfold tk at h ⊢
    split
    · exact ⟨rfl, rfl⟩
    · rename_i h1
      rw [if_neg h1] at h
      split
      · rename_i h2
        rw [if_pos h2] at h
        exact absurd rfl h
      · rename_i h2
        rw [if_neg h2] at h
        exact tk_err r _ _ h
theorem tk_canon : ∀ (l : List UInt8) (i m N K : Nat), i ≤ 9 → tk i m l = (N, K, 0) → ∃ y, N = m + y * 2 ^ (7 * i) ∧ i + (enc y).length = K ∧ l.take (enc y).length = enc y ∧ (0 < i → 0 < y)
  | [], i, m, N, K, hi, h => by simp [tk] at h
  | b :: r, i, m, N, K, hi, h => by
    have hb := b.toNat_lt
    by_cases h1 : (0 < i ∧ b = 0) ∨ (i = 9 ∧ 1 < b.toNat)
    · unfold tk at h
      rw [if_pos h1] at h
      simp at h
    by_cases h2 : b.toNat < 128
    · unfold tk at h
      rw [if_neg h1, if_pos h2] at h
      injection h with h3 h4
      injection h4 with h4 _
      refine ⟨b.toNat, h3.symm, ?_, ?_, ?_⟩
      · rw [enc_small h2]; exact h4
      · rw [enc_small h2]; simp [b8]
      · intro h0
        rcases Nat.eq_zero_or_pos b.toNat with hz | hz
        · exact absurd (.inl ⟨h0, UInt8.toNat_inj.1 hz⟩) h1
        · exact hz
    · have hi9 : i ≠ 9 := fun e => h1 (.inr ⟨e, by omega⟩)
      rw [tk_next hi9 h2] at h
      obtain ⟨y, e1, e2, e3, e4⟩ := tk_canon r (i + 1) _ N K (by omega) h
      have hy := e4 (by omega)
      have hm : (b.toNat % 128 + 128 * y) % 128 = b.toNat % 128 := by omega
      have hd : (b.toNat % 128 + 128 * y) / 128 = y := by omega
      refine ⟨b.toNat % 128 + 128 * y, ?_, ?_, ?_, fun _ => by omega⟩
      · rw [e1, Nat.add_mul, Nat.add_assoc, show 7 * (i + 1) = 7 * i + 7 by omega, Nat.pow_add]
        congr 2
        rw [Nat.mul_comm (2 ^ (7 * i)) (2 ^ 7), ← Nat.mul_assoc, Nat.mul_comm y]
      · rw [enc_great (by omega), hd]
        simp only [List.length_cons]
        omega
      · rw [enc_great (by omega), hd, hm]
        simp only [List.length_cons, List.take_succ_cons, e3]
        congr 1
        apply UInt8.toNat_inj.1
        rw [b8_toNat]
        omega
theorem tk_one {l : List UInt8} {N K : Nat} (h : tk 0 0 l = (N, K, 0)) : l.take K = enc N ∧ (enc N).length = K := by
  obtain ⟨y, e1, e2, e3, _⟩ := tk_canon l 0 0 N K (by omega) h
  simp at e1 e2
  subst e1
  exact ⟨by rw [← e2]; exact e3, e2⟩

/-! TakeText -/
/-- What TakeText tells: the text, how many bytes, the error. -/
def texted (l : List UInt8) (most : Int) (t : Nat × Nat × Nat) : List UInt8 × Nat × Nat :=
  if t.2.2 ≠ 0 then ([], 0, t.2.2)
  else if most < 0 ∨ most < (t.1 : Int) then ([], 0, 6)
  else if l.length - t.2.1 < t.1 then ([], 0, 5)
  else ((l.drop t.2.1).take t.1, t.2.1 + t.1, 0)
/-- A text of its own, what follows in what was given, the error. -/
def Gives3 (PA : Option Addr) (PN : Nat) (l : List UInt8) (r : List UInt8 × Nat × Nat) (w : World) (e : Ending) (w' : World) : Prop :=
  ∃ A n c A2 n2 c2, e = .returned (.tuple #[.slice A n c, .slice A2 n2 c2, .int .i64 (r.2.2 : Int)]) ∧ OwnC w' w.heap.size 5 A n c (cs r.1) ∧ (∀ W, Sees W PA PN l → Sees W A2 n2 (l.drop r.2.1)) ∧ n2 ≤ c2 ∧ c2 ≤ 9223372036854775807 ∧ Below w.heap.size w w'

/-- bytes.Clone. -/
theorem clone_any (A : Option Addr) (n c : Nat) (l : List UInt8) (w : World) (hs : Sees w A n l) (hn : n ≤ 1000000000) :
    Calls Try.prog 43 #[.slice A n c] w fun e w' => ∃ A' c', e = .returned (.slice A' n c') ∧ w'.ownsRow w.heap.size 5 1 (.slice A' n c') n (cs l) ∧ Below w.heap.size w w' := by
  cases A with
  | none =>
    refine (Try.bytes_Clone_nil n c w).mono ?_
    rintro e w' ⟨rfl, rfl⟩
    have h0 : n = 0 := by
      rcases Nat.eq_zero_or_pos n with h | h
      · exact h
      · obtain ⟨b, o, e, _⟩ := hs.2 h
        cases e
    subst h0
    have hl0 : l = [] := List.eq_nil_of_length_eq_zero hs.1
    subst hl0
    exact ⟨none, 0, rfl, Own.nil _ _ _, Below.refl _ _⟩
  | some a =>
    have hl := hs.1
    refine (Try.bytes_Clone_at a n c (l.map fun b => (b.toNat : Int)) w (by simpa using hl) (by omega) fun i hi => ?_).mono ?_
    · obtain ⟨b, o, e, hc⟩ := hs.2 (by omega)
      injection e with e
      subst e
      have hil : i < l.length := by omega
      rw [add_plain, hc i l[i] (List.getElem?_eq_getElem hil)]
      simp [hil]
    · rintro e w' ⟨v', rfl, hown, _, hb⟩
      rw [List.map_map] at hown
      obtain ⟨A', c', rfl, _⟩ := Own.shape hown
      exact ⟨A', c', rfl, hown, hb⟩
end Go.Proofs.Ytlacihgoammjgaa.Take
namespace Go.Proofs.Ytlacihgoammjgaa.Take
open Go Go.RowKit Go.Proofs.Ytlacihgoammjgaa.Words Go.Proofs.Ytlacihgoammjgaa.Enc
set_option linter.unusedVariables false

/-- The value is a slice that the call owns. -/
def ownPred (base n : Nat) (l : List UInt8) : Facts.Pred := ⟨fun v w => ∃ A c, v = .slice A n c ∧ w.ownsRow base 5 1 (.slice A n c) n (cs l), fun _ _ _ ⟨A, c, h, hs⟩ hb => ⟨A, c, h, Own.below hs hb (Nat.le_refl _)⟩⟩
def ownCPred (base n : Nat) (l : List UInt8) : Facts.Pred := ⟨fun v w => ∃ A c, v = .slice A n c ∧ OwnC w base 5 A n c (cs l), fun _ _ _ ⟨A, c, h, hs⟩ hb => ⟨A, c, h, hs.below hb (Nat.le_refl _)⟩⟩
/-- The value is a slice that shows m wherever PA shows l, with its room. -/
def partPred (PA : Option Addr) (PN : Nat) (l : List UInt8) (n : Nat) (m : List UInt8) : Facts.Pred := ⟨fun v w => ∃ A c, v = .slice A n c ∧ (∀ W, Sees W PA PN l → Sees W A n m) ∧ n ≤ c ∧ c ≤ 9223372036854775807, fun _ _ _ h _ => h⟩

theorem gives3_err {PA : Option Addr} {PN : Nat} {l : List UInt8} {w w' : World} {A2 : Option Addr} {n c2 E : Nat} (h2 : ∀ W, Sees W PA PN l → Sees W A2 n l) (hc : n ≤ c2) (hc2 : c2 ≤ 9223372036854775807) (hb : Below w.heap.size w w') {F : Int} (hF : F = (E : Int)) :
    Gives3 PA PN l ([], 0, E) w (.returned (.tuple #[.slice none 0 0, .slice A2 n c2, .int .i64 F])) w' := by
  subst hF
  exact ⟨none, 0, 0, A2, n, c2, rfl, OwnC.nil _ _ _, h2, hc, hc2, hb⟩

end Go.Proofs.Ytlacihgoammjgaa.Take

/- check.Sum, sealOf, Wrap and Size: what is asked of them. -/
namespace Go.Proofs.Ytlacihgoammjgaa.Chk
open Go Go.RowKit Go.Proofs.Ytlacihgoammjgaa.Words Go.Proofs.Ytlacihgoammjgaa.Enc Go.Proofs.Ytlacihgoammjgaa.Made
set_option linter.unusedVariables false

theorem below_drewN (w : World) (d : Nat) : Below w.heap.size w (w.drewN d) := ⟨rfl, rfl, rfl, Nat.le_refl _, fun _ _ => rfl⟩
theorem pair_all (w : World) (e : TypeId) (A1 : Option Addr) (n1 c1 : Nat) (l1 : List UInt8) (A2 : Option Addr) (n2 c2 : Nat) (l2 : List UInt8) (h1 : Sees w A1 n1 l1) (h2 : Sees w A2 n2 l2) (hc1 : n1 ≤ c1) (hc2 : n2 ≤ c2) :
    SeesAll (w.alloc (.cells #[.slice A1 n1 c1, .slice A2 n2 c2] e)) (some ⟨w.heap.size, 0, none⟩) 2 [l1, l2] := by
  have hb : Below w.heap.size w (w.alloc (.cells #[.slice A1 n1 c1, .slice A2 n2 c2] e)) := (Below.refl _ _).alloc (Nat.le_refl _) _
  have k1 := h1.below hb
  have k2 := h2.below hb
  have e1 := h1.1
  have e2 := h2.1
  subst e1
  subst e2
  refine ⟨[.slice A1 l1.length c1, .slice A2 l2.length c2], ((Each.nil _).snoc hc1 k1).snoc hc2 k2, rfl, fun _ => ⟨w.heap.size, 0, rfl, fun j v hv => ?_⟩⟩
  rw [cell_of_row _ w.heap.size (0 + j) _ e (0, 0) (heap_alloc_new w _), Nat.zero_add]
  simpa using hv

end Go.Proofs.Ytlacihgoammjgaa.Chk

/- check.Open: what is asked of it. check.All: what is asked of it. -/
namespace Go.Proofs.Ytlacihgoammjgaa.Chk
open Go Go.RowKit Go.Proofs.Ytlacihgoammjgaa.Words Go.Proofs.Ytlacihgoammjgaa.Enc Go.Proofs.Ytlacihgoammjgaa.Made
set_option linter.unusedVariables false

/-- Open in the order of the program: the text, then the seal. -/
theorem open_text (l : List UInt8) (most : Int) (T : List UInt8) (k E : Nat) (h : Take.texted l most (tk 0 0 l) = (T, k, E)) :
    (E ≠ 0 → k = 0 ∧ openL l most = ([], 0, E)) ∧
    (E = 0 → k ≤ l.length ∧ openL l most = if l.length - k < 4 then ([], 0, 5) else if (l.drop k).take 4 = four (Crc.sum (l.take k)) then (T, k + 4, 0) else ([], 0, 4)) := by
  have hc := fun N K => @Take.tk_one l N K
  have hle := tk_len l 0 0
  rw [Nat.zero_add] at hle
  unfold openL
  generalize tk 0 0 l = t at h hc hle ⊢
  obtain ⟨N, K, F⟩ := t
  unfold Take.texted at h
  unfold opened
  simp only [] at h hc hle ⊢
  by_cases h0 : F = 0
  · subst h0
    rw [if_neg (by simp)] at h ⊢
    by_cases h6 : most < 0 ∨ most < (N : Int)
    · rw [if_pos h6] at h ⊢
      injection h with h1 h2
      injection h2 with h2 h3
      subst h1; subst h2; subst h3
      exact ⟨fun _ => ⟨rfl, rfl⟩, fun h => by cases h⟩
    · rw [if_neg h6] at h ⊢
      by_cases h5 : l.length - K < N
      · rw [if_pos h5] at h ⊢
        injection h with h1 h2
        injection h2 with h2 h3
        subst h1; subst h2; subst h3
        exact ⟨fun _ => ⟨rfl, rfl⟩, fun h => by cases h⟩
      · rw [if_neg h5] at h ⊢
        injection h with h1 h2
        injection h2 with h2 h3
        subst h1; subst h2; subst h3
        refine ⟨fun h => absurd rfl h, fun _ => ⟨by omega, ?_⟩⟩
        by_cases h4 : l.length - (K + N) < 4
        · rw [if_pos h4, if_pos h4]
        · rw [if_neg h4, if_neg h4]
          obtain ⟨hK, hE⟩ := hc N K rfl
          have hlen : ((l.drop K).take N).length = N := by simp; omega
          have hpre : enc N ++ (l.drop K).take N = l.take (K + N) := by rw [← hK, List.take_add]
          have hw : wrap ((l.drop K).take N) = l.take (K + N) ++ four (Crc.sum (l.take (K + N))) := by unfold wrap; rw [hlen, hpre]
          have htk : l.take (K + N + 4) = l.take (K + N) ++ (l.drop (K + N)).take 4 := by rw [List.take_add]
          rw [hw, htk]
          by_cases hq : (l.drop (K + N)).take 4 = four (Crc.sum (l.take (K + N)))
          · rw [if_pos hq, if_neg (by rw [hq]; simp)]
          · rw [if_neg hq, if_pos (by intro e; exact hq (List.append_cancel_left e).symm)]
  · rw [if_pos h0] at h ⊢
    injection h with h1 h2
    injection h2 with h2 h3
    subst h1; subst h2; subst h3
    exact ⟨fun _ => ⟨rfl, rfl⟩, fun h => absurd h h0⟩

/-- The contents in memory of their own, what follows in what was given, the error. -/
def OpenedR (PA : Option Addr) (PN : Nat) (l : List UInt8) (r : List UInt8 × Nat × Nat) (w : World) (e : Ending) (w' : World) : Prop :=
  ∃ A n c A2 n2 c2, e = .returned (.tuple #[.slice A n c, .slice A2 n2 c2, .int .i64 (r.2.2 : Int)]) ∧ OwnC w' w.heap.size 5 A n c (cs r.1) ∧ (∀ W, Sees W PA PN l → Sees W A2 n2 (l.drop r.2.1)) ∧ n2 ≤ c2 ∧ c2 ≤ 9223372036854775807 ∧ Below w.heap.size w w'

theorem opened_err {PA : Option Addr} {PN : Nat} {l : List UInt8} {r : List UInt8 × Nat × Nat} {E : Nat} (h : r = ([], 0, E)) {w w' : World} {A2 : Option Addr} {n c2 : Nat} (h2 : ∀ W, Sees W PA PN l → Sees W A2 n l) (hc : n ≤ c2) (hc2 : c2 ≤ 9223372036854775807) (hb : Below w.heap.size w w') {F : Int} (hF : F = (E : Int)) :
    OpenedR PA PN l r w (.returned (.tuple #[.slice none 0 0, .slice A2 n c2, .int .i64 F])) w' := by
  subst hF
  subst h
  exact ⟨none, 0, 0, A2, n, c2, rfl, OwnC.nil _ _ _, h2, hc, hc2, hb⟩

end Go.Proofs.Ytlacihgoammjgaa.Chk
namespace Go.Proofs.Ytlacihgoammjgaa.Chk
open Go Go.RowKit Go.Proofs.Ytlacihgoammjgaa.Words Go.Proofs.Ytlacihgoammjgaa.Enc Go.Proofs.Ytlacihgoammjgaa.Made
set_option linter.unusedVariables false

/-- The slice values vs, each in memory of its own above base, hold the lists L. -/
def EachOwn (base : Nat) (w : World) (vs : List Value) (L : List (List UInt8)) : Prop :=
  vs.length = L.length ∧ ∀ (j : Nat) (l : List UInt8), L[j]? = some l → ∃ (A : Option Addr) (c : Nat), vs[j]? = some (Value.slice A l.length c) ∧ OwnC w base 5 A l.length c (cs l)
theorem EachOwn.nil (base : Nat) (w : World) : EachOwn base w [] [] := ⟨rfl, fun j l h => by simp at h⟩
theorem EachOwn.each {base : Nat} {w : World} {vs : List Value} {L : List (List UInt8)} (h : EachOwn base w vs L) : Each w vs L :=
  ⟨h.1, fun j l hl => by
    obtain ⟨A, c, hv, ho⟩ := h.2 j l hl
    exact ⟨A, c, hv, ho.cap.1, ho.sees⟩⟩
theorem EachOwn.of {base : Nat} {w w' : World} {vs : List Value} {L : List (List UInt8)} (h : EachOwn base w vs L)
    (hf : ∀ (v : Value) (n : Nat) (l : List UInt8), w.ownsRow base 5 1 v n (cs l) → w'.ownsRow base 5 1 v n (cs l)) : EachOwn base w' vs L :=
  ⟨h.1, fun j l hl => by
    obtain ⟨A, c, hv, ho⟩ := h.2 j l hl
    exact ⟨A, c, hv, ho.map fun v h => hf v _ _ h⟩⟩
theorem EachOwn.snoc {base : Nat} {w : World} {vs : List Value} {L : List (List UInt8)} (h : EachOwn base w vs L) {A : Option Addr} {c : Nat} {l : List UInt8} (hs : OwnC w base 5 A l.length c (cs l)) : EachOwn base w (vs ++ [.slice A l.length c]) (L ++ [l]) := by
  refine ⟨by simp [h.1], fun j m hm => ?_⟩
  rcases Nat.lt_trichotomy j L.length with hj | hj | hj
  · rw [List.getElem?_append_left hj] at hm
    obtain ⟨A', c', hv, r⟩ := h.2 j m hm
    exact ⟨A', c', by rw [List.getElem?_append_left (by rw [h.1]; exact hj)]; exact hv, r⟩
  · subst hj
    rw [List.getElem?_append_right (Nat.le_refl _)] at hm
    simp at hm
    subst hm
    exact ⟨A, c, by rw [List.getElem?_append_right (by rw [h.1]; exact Nat.le_refl _)]; simp [h.1], hs⟩
  · rw [List.getElem?_eq_none (by simp; omega)] at hm
    cases hm
/-- A row of bytes is no row of slices: what is appended to the one leaves the other alone. -/
theorem own_apart {w w' : World} {base base' : Nat} {v : Value} {k : Nat} {vs : List Value} (hrow : w.ownsRow base' 31 1 v k vs) (hg : w.grownBy w' v.ownBlock) {u : Value} {n : Nat} {l : List UInt8}
    (h : w.ownsRow base 5 1 u n (cs l)) : w'.ownsRow base 5 1 u n (cs l) := by
  refine ⟨h.1, ?_⟩
  rcases h.2 with hn | ⟨g, cap, cur, hv, hgb, hh, r⟩
  · exact .inl hn
  · refine .inr ⟨g, cap, cur, hv, hgb, ?_, r⟩
    rw [hg.block g (Array.getElem?_eq_some_iff.1 hh).1 ?_]
    · exact hh
    · intro e
      rcases hrow.2 with ⟨hv0, _⟩ | ⟨g2, cap2, cur2, hv2, _, hh2, _⟩
      · subst hv0; cases e
      · subst hv2
        injection e with e
        subst e
        rw [hh] at hh2
        injection hh2 with e2
        injection e2 with _ e3
        exact absurd e3 (by decide)

def lenIs : Value → Nat
  | .slice _ m _ => m
  | _ => 0

/-- All's texts, each in memory of its own, and the list of them. -/
def AllOwn (r : List (List UInt8) × Nat × Nat) (w : World) (e : Ending) (w' : World) : Prop :=
  ∃ A n c vs, e = .returned (.tuple #[.slice A n c, .int .i64 (r.2.1 : Int), .int .i64 (r.2.2 : Int)]) ∧ w'.ownsRow w.heap.size 31 1 (.slice A n c) n vs ∧ EachOwn w.heap.size w' vs r.1 ∧ Below w.heap.size w w'

end Go.Proofs.Ytlacihgoammjgaa.Chk

/- check.Size: what is asked of it. -/
namespace Go.Proofs.Ytlacihgoammjgaa.Chk
open Go Go.RowKit Go.Proofs.Ytlacihgoammjgaa.Words Go.Proofs.Ytlacihgoammjgaa.Enc Go.Proofs.Ytlacihgoammjgaa.Made
set_option linter.unusedVariables false

end Go.Proofs.Ytlacihgoammjgaa.Chk

/- digits.Tape, wherever it gives up: what it reads of any bytes, as plain data; its calls, both ways; Caught behind a tape that has given up. -/
namespace Go.Proofs.Ytlacihgoammjgaa.Tape
open Go Go.RowKit Go.Proofs.Ytlacihgoammjgaa.Words Go.Proofs.Ytlacihgoammjgaa.Enc
set_option linter.unusedVariables false

/-- What a reader gets: an error's number, or a value and the rest. -/
inductive Got (α : Type) where
  | bad (E : Nat)
  | ok (v : α) (rest : List UInt8)
def Got.bind {α β : Type} : Got α → (α → List UInt8 → Got β) → Got β
  | .bad E, _ => .bad E
  | .ok v r, f => f v r
/-- A number of at most most. -/
def numG (most : Nat) (l : List UInt8) : Got Nat :=
  if (tk 0 0 l).2.2 ≠ 0 then .bad (tk 0 0 l).2.2 else if most < (tk 0 0 l).1 then .bad 6 else .ok (tk 0 0 l).1 (l.drop (tk 0 0 l).2.1)
/-- A text of at most most bytes. -/
def textG (most : Nat) (l : List UInt8) : Got (List UInt8) :=
  if (Take.texted l most (tk 0 0 l)).2.2 ≠ 0 then .bad (Take.texted l most (tk 0 0 l)).2.2 else .ok (Take.texted l most (tk 0 0 l)).1 (l.drop (Take.texted l most (tk 0 0 l)).2.1)
def byteG : List UInt8 → Got UInt8
  | [] => .bad 5
  | b :: r => .ok b r
def unfix (q : List UInt8) : Nat := q.foldl (fun n b => n * 256 + b.toNat) 0
def fixedG (l : List UInt8) : Got Nat := if l.length < 8 then .bad 5 else .ok (unfix (l.take 8)) (l.drop 8)

theorem numG_ok {most N : Nat} {l rest : List UInt8} (h : numG most l = .ok N rest) : (tk 0 0 l).2.2 = 0 ∧ (tk 0 0 l).1 = N ∧ ¬ most < (tk 0 0 l).1 ∧ rest = l.drop (tk 0 0 l).2.1 := by
  unfold numG at h
  split at h
  · cases h
  · rename_i h0
    split at h
    · cases h
    · rename_i h1
      injection h with h2 h3
      exact ⟨by omega, h2, h1, h3.symm⟩
theorem numG_bad {most E : Nat} {l : List UInt8} (h : numG most l = .bad E) : ((tk 0 0 l).2.2 ≠ 0 ∧ (tk 0 0 l).2.2 = E) ∨ ((tk 0 0 l).2.2 = 0 ∧ most < (tk 0 0 l).1 ∧ E = 6) := by
  unfold numG at h
  split at h
  · rename_i h0
    injection h with h1
    exact .inl ⟨h0, h1⟩
  · rename_i h0
    split at h
    · rename_i h1
      injection h with h2
      exact .inr ⟨by omega, h1, h2.symm⟩
    · cases h

theorem textG_ok {most : Nat} {T l rest : List UInt8} (h : textG most l = .ok T rest) : (Take.texted l most (tk 0 0 l)).2.2 = 0 ∧ (Take.texted l most (tk 0 0 l)).1 = T ∧ rest = l.drop (Take.texted l most (tk 0 0 l)).2.1 := by
  unfold textG at h
  split at h
  · cases h
  · rename_i h0
    injection h with h2 h3
    exact ⟨by omega, h2, h3.symm⟩
theorem textG_bad {most E : Nat} {l : List UInt8} (h : textG most l = .bad E) : (Take.texted l most (tk 0 0 l)).2.2 ≠ 0 ∧ (Take.texted l most (tk 0 0 l)).2.2 = E := by
  unfold textG at h
  split at h
  · rename_i h0
    injection h with h1
    exact ⟨h0, h1⟩
  · cases h

theorem unfix_snoc (q : List UInt8) (b : UInt8) : unfix (q ++ [b]) = unfix q * 256 + b.toNat := by
  unfold unfix
  rw [List.foldl_append]
  rfl
theorem unfix_lt (q : List UInt8) : ∀ k, q.length = k → unfix q < 256 ^ k := by
  intro k
  induction k generalizing q with
  | zero => intro h; have := List.eq_nil_of_length_eq_zero h; subst this; simp [unfix]
  | succ k ih =>
    intro h
    rcases List.eq_nil_or_concat q with rfl | ⟨r, b, rfl⟩
    · simp at h
    · rw [List.concat_eq_append] at *
      rw [unfix_snoc]
      have := ih r (by simpa using h)
      have hb := b.toNat_lt
      rw [Nat.pow_succ]
      omega
theorem or_byte (m b : Nat) (hm : m < 72057594037927936) (hb : b < 256) : bits .or .u64 ((m * 256 : Nat) : Int) (b : Int) = ((m * 256 + b : Nat) : Int) := by
  have := u64_or_nat (m * 256) b (by omega) (by omega)
  rw [this]
  congr 1
  have e := Nat.two_pow_add_eq_or_of_lt (i := 8) (b := b) (by omega) m
  rw [show 2 ^ 8 * m = m * 256 by omega] at e
  exact e.symm

/-- The error has been stored. -/
def Stored (p E : Nat) (T : TypeId) (w W : World) : Prop := W.heap[p]? = some (.cells #[.int .i64 (E : Int)] T (0, 0)) ∧ Beside [p] w W
theorem caught_tmps (x V : Value) : #[x] ++ (Array.replicate 16 undef).setIfInBounds 4 V = #[x, undef, undef, undef, undef, V, undef, undef, undef, undef, undef, undef, undef, undef, undef, undef, undef] := rfl
end Go.Proofs.Ytlacihgoammjgaa.Tape
