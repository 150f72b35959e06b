/- digits.Size: how many bytes a number has: its contract, out of that of math/bits.Len64. -/
import Derived.Test.YtmogoopkjkdkgaaGreatRows
import Derived.Handy
import Derived.Lib.Hide
import Derived.Lib.BitFns
import Derived.WalkLawsBesides
import Derived.Test.YtmogoopkjkdkgaaGreatVTp01
import Derived.Test.YtmogoopkjkdkgaaGreatVTp02
namespace Go.Proofs.YtmogoopkjkdkgaaGreat.Len
open Go Go.RowKit Go.Proofs.YtmogoopkjkdkgaaGreat.Enc

theorem bitLen_small : ∀ m : Fin 128, 1 ≤ m.val → (Lib.bitLen m.val + 6) / 7 = 1 := by decide +kernel
theorem bitLen_enc : ∀ m : Nat, 1 ≤ m → m < 2 ^ 64 → (Lib.bitLen m + 6) / 7 = (enc m).length := by
  intro m
  induction m using Nat.strongRecOn with
  | _ m ih =>
    intro h1 h2
    by_cases hm : m < 128
    · rw [enc_small hm]; exact bitLen_small ⟨m, hm⟩ h1
    · have h : Lib.bitLen m = 7 + Lib.bitLen (m / 128) := Lib.bitLen_shift 7 m (by omega) h2
      have h' := ih (m / 128) (by omega) (by omega) (by omega)
      rw [enc_great hm, h]
      simp only [List.length_cons]
      rw [← h']
      omega
theorem or_one (n : Nat) : n ||| 1 = n / 2 * 2 + 1 := by
  apply Nat.eq_of_testBit_eq
  intro i
  rw [Nat.testBit_or]
  cases i with
  | zero => simp [Nat.testBit_zero]
  | succ i => simp [Nat.testBit_succ, show (n / 2 * 2 + 1) / 2 = n / 2 by omega]
theorem size_enc (n : Nat) (h : n < 2 ^ 64) : (Lib.bitLen (n ||| 1) + 6) / 7 = (enc n).length := by
  by_cases h0 : n = 0
  · subst h0
    rw [enc_small (by omega)]
    decide +kernel
  · rw [← bitLen_enc n (by omega) h]
    by_cases h1 : n = 1
    · subst h1; rfl
    · rw [or_one, Lib.bitLen_half _ (by omega) (by omega), Lib.bitLen_half n (by omega) h, show (n / 2 * 2 + 1) / 2 = n / 2 by omega]

set_option maxRecDepth 10000 in
theorem size_any (x : Int) (w : World) (h0 : 0 ≤ x) (h1 : x < 18446744073709551616) :
    Calls Tryz.prog 69 #[.int .u64 x] w fun e w' => e = .returned (.int .i64 ((enc x.toNat).length : Int)) ∧ w' = w := by
  obtain ⟨n, rfl⟩ := Int.eq_ofNat_of_zero_le h0
  rw [Int.toNat_natCast]
  have hor : bits .or .u64 (n : Int) 1 = ((n ||| 1 : Nat) : Int) := u64_or_nat n 1 (by omega) (by omega)
  have hs := size_enc n (by omega)
  have HS := Lib.hid hs
  clear hs
  have hlt : ((n ||| 1 : Nat) : Int) ≤ 18446744073709551615 := by rw [or_one]; omega
  go_enter Tryz.func69, Tryz.ntmps69
  go_wp2_with fail
  refine (Tryz.bits_Len64 _ _ (by omega) hlt).mono ?_
  rintro e w' ⟨rfl, rfl⟩
  rw [Int.toNat_natCast]
  have hb : Lib.bitLen (n ||| 1) ≤ 64 := Lib.bitLen_le _ 64 (Nat.le_refl _) (by omega)
  generalize Lib.bitLen (n ||| 1) = b at HS hb ⊢
  go_wp2
  go_ret
  have h := HS.out
  rw [← h]
  exact ⟨by simp; omega, rfl⟩
end Go.Proofs.YtmogoopkjkdkgaaGreat.Len

/- digits.Lay: its contract. -/
namespace Go.Proofs.YtmogoopkjkdkgaaGreat.Made
open Go Go.RowKit Go.Proofs.YtmogoopkjkdkgaaGreat.Words Go.Proofs.YtmogoopkjkdkgaaGreat.Enc
set_option linter.unusedVariables false
/-- digits.Lay. -/
theorem lay_any (A : Option Addr) (n c : Nat) (l : List UInt8) (x : Int) (w : World) (hs : Sees w A n l) (hn : n ≤ 1000000000) (hx0 : 0 ≤ x) (hx : x < 18446744073709551616) :
    Calls Tryz.prog 32 #[.slice A n c, .int .u64 x] w (New w.heap.size (n + (enc x.toNat).length) (l ++ enc x.toNat) w) := by
  have he := enc_ten (n := x.toNat) (by omega)
  go_enter Tryz.func32, Tryz.ntmps32
  go_wp2_with fail
  refine (Len.size_any x _ hx0 hx).mono ?_
  rintro e w' ⟨rfl, rfl⟩
  go_wp2_with fail
  refine (roomy_any A n c l _ _ hs hn (by omega) (by omega)).mono ?_
  rintro e w1 ⟨A1, c1, rfl, hown, hb⟩
  go_wp2_with fail
  have hsz := hb.size
  refine (layOn_any w'.heap.size A1 n c1 l x w1 hown hsz hn hx0 hx).mono ?_
  rintro e w2 ⟨A2, c2, rfl, hown2, hb2⟩
  go_wp2
  go_ret
  exact ⟨A2, c2, rfl, hown2, hb.trans hb2⟩

/-- digits.LayText. -/
theorem layText_any (A : Option Addr) (n c : Nat) (l : List UInt8) (S : Option Addr) (m k : Nat) (q : List UInt8) (w : World) (hs : Sees w A n l) (hq : Sees w S m q) (hn : n ≤ 900000000) (hm : m ≤ 900000000) :
    Calls Tryz.prog 72 #[.slice A n c, .slice S m k] w (New w.heap.size (n + (enc m).length + m) (l ++ enc m ++ q) w) := by
  obtain ⟨i, hi, hz, hsz, hby⟩ := info_parts info8
  have he := enc_ten (n := m) (by omega)
  go_enter Tryz.func72, Tryz.ntmps72
  go_wp2_with fail
  refine (Len.size_any _ _ (by omega) (by omega)).mono ?_
  rintro e w' ⟨rfl, rfl⟩
  rw [Int.toNat_natCast]
  go_wp2_with fail
  refine (roomy_any A n c l _ _ hs (by omega) (by omega) (by omega)).mono ?_
  rintro e w1 ⟨A1, c1, rfl, hown, hb⟩
  have hsz := hb.size
  go_wp2_with fail
  refine (layOn_any w'.heap.size A1 n c1 l _ w1 hown hsz (by omega) (by omega) (by omega)).mono ?_
  rw [Int.toNat_natCast]
  rintro e w2 ⟨A2, c2, rfl, hown2, hb2⟩
  have b2 := hb.trans hb2
  have hq2 := hq.below b2
  have hsz2 := b2.size
  go_wp2_with (first | (at_builtin; refine wpList_app rfl _ _ 29 rfl w'.heap.size 5 i (.int .u8 0) Tryz.underlying29 hi hz (by assumption) hby rfl A2 (n + (enc m).length) c2 (l ++ enc m) rfl hown2 S m k q rfl hq2 ?d1 ?d2 ?_))
  case d1 => omega
  case d2 => exact hsz2
  intro A3 c3 w3 hown3 hb3
  go_wp2
  go_ret
  rw [List.append_assoc]
  exact ⟨A3, c3, rfl, hown3, b2.trans hb3⟩
end Go.Proofs.YtmogoopkjkdkgaaGreat.Made

/- digits.LayFixed: its contract. -/
namespace Go.Proofs.YtmogoopkjkdkgaaGreat.Made
open Go Go.RowKit Go.Proofs.YtmogoopkjkdkgaaGreat.Words Go.Proofs.YtmogoopkjkdkgaaGreat.Enc
set_option linter.unusedVariables false
set_option maxRecDepth 100000 in
/-- digits.LayFixed. -/
theorem layFixed_any (A : Option Addr) (n c : Nat) (l : List UInt8) (x : Int) (w : World) (hs : Sees w A n l) (hn : n ≤ 1000000000) (hx0 : 0 ≤ x) (hx : x < 18446744073709551616) :
    Calls Tryz.prog 33 #[.slice A n c, .int .u64 x] w (New w.heap.size (n + 8) (l ++ fix x.toNat) w) := by
  obtain ⟨i, hi, hz, hsz, hby⟩ := info_parts info8
  go_enter Tryz.func33, Tryz.ntmps33
  go_wp2_with fail
  refine (roomy_any A n c l _ _ hs hn (by omega) (by omega)).mono ?_
  rintro e w1 ⟨A1, c1, rfl, hown, hb1⟩
  have hbase := hb1.size
  go_wp2_with fail
  go_loopw [0, 8] (fun p v wr => ∃ (A' : Option Addr) (c' k : Nat), p = .slice A' (n + k) c' ∧ v = .int .i64 (k : Int) ∧ k ≤ 8 ∧
      wr.ownsRow w.heap.size 5 1 (.slice A' (n + k) c') (n + k) (cs (l ++ (fix x.toNat).take k)) ∧ Below w.heap.size w wr) (fun _ v _ => 8 - (intOf v).toNat)
  case atStart => exact ⟨A1, c1, 0, rfl, rfl, by omega, by simpa using hown, hb1⟩
  case round =>
    obtain ⟨A', c', k, rfl, rfl, hk, hown', hb⟩ := hrel
    have hwb := hb.size
    by_cases hlt : k < 8
    · go_wp2_with (first | (at_builtin; refine wpList_app rfl _ _ 29 rfl w.heap.size 5 i (.int .u8 0) Tryz.underlying29 hi hz hsz hby rfl A' (n + k) c' _ rfl (hown'.alloc _) _ 1 1 [b8 (x.toNat / 256 ^ (7 - k) % 256)] rfl (Sees.fresh wr _ _ _ ?e1) ?e2 ?e3 ?_))
      case e1 => exact fix_byte x k hx0
      case e2 => omega
      case e3 => exact Nat.le_trans hwb (by simp)
      intro A2 c2 w2 hown2 hb2
      go_wp2
      go_roundw
      case rel => exact ⟨A2, c2, k + 1, rfl, by go_num, by omega, by rw [fix_take _ _ hlt]; exact hown2, (hb.alloc hwb _).trans hb2⟩
      case measure => simp [intOf]; omega
    · have hk8 : k = 8 := by omega
      subst hk8
      go_wp2
      go_ret
      exact ⟨A', c', rfl, by rw [List.take_of_length_le (by simp [fix_length])] at hown'; exact hown', hb⟩
end Go.Proofs.YtmogoopkjkdkgaaGreat.Made

/- bytes.Clone: its contract, in words of bytes that are seen. -/
namespace Go.Proofs.YtmogoopkjkdkgaaGreat.Dsk
open Go Go.RowKit Go.Proofs.YtmogoopkjkdkgaaGreat.Words
set_option linter.unusedVariables false
theorem clone_bytes (A : Option Addr) (n c : Nat) (l : List UInt8) (w : World) (hs : Sees w A n l) (hn : n ≤ 100000000000000) :
    Calls Tryz.prog 63 #[.slice A n c] w fun e w' => ∃ A' c', e = .returned (.slice A' n c') ∧ w'.ownsRow w.heap.size 5 1 (.slice A' n c') n (cs l) ∧ Below w.heap.size w w' := by
  cases A with
  | none =>
    refine (Tryz.bytes_Clone_nil n c w).mono ?_
    rintro e w' ⟨rfl, rfl⟩
    have h0 : n = 0 := by
      rcases Nat.eq_zero_or_pos n with h | h
      · exact h
      · obtain ⟨b, o, e, _⟩ := hs.2 h
        cases e
    subst h0
    have hl0 : l = [] := List.eq_nil_of_length_eq_zero hs.1
    subst hl0
    exact ⟨none, 0, rfl, Own.nil _ _ _, Below.refl _ _⟩
  | some a =>
    have hl := hs.1
    refine (Tryz.bytes_Clone_at a n c (l.map fun b => (b.toNat : Int)) w (by simpa using hl) (by omega) fun i hi => ?_).mono ?_
    · obtain ⟨b, o, e, hc⟩ := hs.2 (by omega)
      injection e with e
      subst e
      have hil : i < l.length := by omega
      rw [add_plain, hc i l[i] (List.getElem?_eq_getElem hil)]
      simp [hil]
    · rintro e w' ⟨v', rfl, hown, _, hb⟩
      rw [List.map_map] at hown
      obtain ⟨A', c', rfl, _⟩ := Own.shape hown
      exact ⟨A', c', rfl, hown, hb⟩
end Go.Proofs.YtmogoopkjkdkgaaGreat.Dsk

/- digits.TakeText: its contract; a number has one form alone. digits.TakeText: its contract, walked. -/
namespace Go.Proofs.YtmogoopkjkdkgaaGreat.Take
open Go Go.RowKit Go.Proofs.YtmogoopkjkdkgaaGreat.Words Go.Proofs.YtmogoopkjkdkgaaGreat.Enc
set_option linter.unusedVariables false

/-! numbers -/
/-! TakeText -/
/-- bytes.Clone. -/
theorem clone_any (A : Option Addr) (n c : Nat) (l : List UInt8) (w : World) (hs : Sees w A n l) (hn : n ≤ 1000000000) :
    Calls Tryz.prog 63 #[.slice A n c] w fun e w' => ∃ A' c', e = .returned (.slice A' n c') ∧ w'.ownsRow w.heap.size 5 1 (.slice A' n c') n (cs l) ∧ Below w.heap.size w w' := by
  cases A with
  | none =>
    refine (Tryz.bytes_Clone_nil n c w).mono ?_
    rintro e w' ⟨rfl, rfl⟩
    have h0 : n = 0 := by
      rcases Nat.eq_zero_or_pos n with h | h
      · exact h
      · obtain ⟨b, o, e, _⟩ := hs.2 h
        cases e
    subst h0
    have hl0 : l = [] := List.eq_nil_of_length_eq_zero hs.1
    subst hl0
    exact ⟨none, 0, rfl, Own.nil _ _ _, Below.refl _ _⟩
  | some a =>
    have hl := hs.1
    refine (Tryz.bytes_Clone_at a n c (l.map fun b => (b.toNat : Int)) w (by simpa using hl) (by omega) fun i hi => ?_).mono ?_
    · obtain ⟨b, o, e, hc⟩ := hs.2 (by omega)
      injection e with e
      subst e
      have hil : i < l.length := by omega
      rw [add_plain, hc i l[i] (List.getElem?_eq_getElem hil)]
      simp [hil]
    · rintro e w' ⟨v', rfl, hown, _, hb⟩
      rw [List.map_map] at hown
      obtain ⟨A', c', rfl, _⟩ := Own.shape hown
      exact ⟨A', c', rfl, hown, hb⟩
end Go.Proofs.YtmogoopkjkdkgaaGreat.Take
namespace Go.Proofs.YtmogoopkjkdkgaaGreat.Take
open Go Go.RowKit Go.Proofs.YtmogoopkjkdkgaaGreat.Words Go.Proofs.YtmogoopkjkdkgaaGreat.Enc
set_option linter.unusedVariables false

/-- The value is a slice that the call owns. -/
def ownPred (base n : Nat) (l : List UInt8) : Facts.Pred := ⟨fun v w => ∃ A c, v = .slice A n c ∧ w.ownsRow base 5 1 (.slice A n c) n (cs l), fun _ _ _ ⟨A, c, h, hs⟩ hb => ⟨A, c, h, Own.below hs hb (Nat.le_refl _)⟩⟩
end Go.Proofs.YtmogoopkjkdkgaaGreat.Take

/- check.Sum, sealOf, Wrap and Size: what is asked of them. -/
namespace Go.Proofs.YtmogoopkjkdkgaaGreat.Chk
open Go Go.RowKit Go.Proofs.YtmogoopkjkdkgaaGreat.Words Go.Proofs.YtmogoopkjkdkgaaGreat.Enc Go.Proofs.YtmogoopkjkdkgaaGreat.Made
set_option linter.unusedVariables false

theorem below_drewN (w : World) (d : Nat) : Below w.heap.size w (w.drewN d) := ⟨rfl, rfl, rfl, Nat.le_refl _, fun _ _ => rfl⟩
end Go.Proofs.YtmogoopkjkdkgaaGreat.Chk

/- check.Open: what is asked of it. check.All: what is asked of it. -/
namespace Go.Proofs.YtmogoopkjkdkgaaGreat.Chk
open Go Go.RowKit Go.Proofs.YtmogoopkjkdkgaaGreat.Words Go.Proofs.YtmogoopkjkdkgaaGreat.Enc Go.Proofs.YtmogoopkjkdkgaaGreat.Made
set_option linter.unusedVariables false

end Go.Proofs.YtmogoopkjkdkgaaGreat.Chk
namespace Go.Proofs.YtmogoopkjkdkgaaGreat.Chk
open Go Go.RowKit Go.Proofs.YtmogoopkjkdkgaaGreat.Words Go.Proofs.YtmogoopkjkdkgaaGreat.Enc Go.Proofs.YtmogoopkjkdkgaaGreat.Made
set_option linter.unusedVariables false

/-- The slice values vs, each in memory of its own above base, hold the lists L. -/
def EachOwn (base : Nat) (w : World) (vs : List Value) (L : List (List UInt8)) : Prop :=
  vs.length = L.length ∧ ∀ (j : Nat) (l : List UInt8), L[j]? = some l → ∃ (A : Option Addr) (c : Nat), vs[j]? = some (Value.slice A l.length c) ∧ OwnC w base 5 A l.length c (cs l)
theorem EachOwn.nil (base : Nat) (w : World) : EachOwn base w [] [] := ⟨rfl, fun j l h => by simp at h⟩
theorem EachOwn.each {base : Nat} {w : World} {vs : List Value} {L : List (List UInt8)} (h : EachOwn base w vs L) : Each w vs L :=
  ⟨h.1, fun j l hl => by
    obtain ⟨A, c, hv, ho⟩ := h.2 j l hl
    exact ⟨A, c, hv, ho.cap.1, ho.sees⟩⟩
theorem EachOwn.of {base : Nat} {w w' : World} {vs : List Value} {L : List (List UInt8)} (h : EachOwn base w vs L)
    (hf : ∀ (v : Value) (n : Nat) (l : List UInt8), w.ownsRow base 5 1 v n (cs l) → w'.ownsRow base 5 1 v n (cs l)) : EachOwn base w' vs L :=
  ⟨h.1, fun j l hl => by
    obtain ⟨A, c, hv, ho⟩ := h.2 j l hl
    exact ⟨A, c, hv, ho.map fun v h => hf v _ _ h⟩⟩
theorem EachOwn.snoc {base : Nat} {w : World} {vs : List Value} {L : List (List UInt8)} (h : EachOwn base w vs L) {A : Option Addr} {c : Nat} {l : List UInt8} (hs : OwnC w base 5 A l.length c (cs l)) : EachOwn base w (vs ++ [.slice A l.length c]) (L ++ [l]) := by
  refine ⟨by simp [h.1], fun j m hm => ?_⟩
  rcases Nat.lt_trichotomy j L.length with hj | hj | hj
  · rw [List.getElem?_append_left hj] at hm
    obtain ⟨A', c', hv, r⟩ := h.2 j m hm
    exact ⟨A', c', by rw [List.getElem?_append_left (by rw [h.1]; exact hj)]; exact hv, r⟩
  · subst hj
    rw [List.getElem?_append_right (Nat.le_refl _)] at hm
    simp at hm
    subst hm
    exact ⟨A, c, by rw [List.getElem?_append_right (by rw [h.1]; exact Nat.le_refl _)]; simp [h.1], hs⟩
  · rw [List.getElem?_eq_none (by simp; omega)] at hm
    cases hm
end Go.Proofs.YtmogoopkjkdkgaaGreat.Chk

/- check.Size: what is asked of it. -/
namespace Go.Proofs.YtmogoopkjkdkgaaGreat.Chk
open Go Go.RowKit Go.Proofs.YtmogoopkjkdkgaaGreat.Words Go.Proofs.YtmogoopkjkdkgaaGreat.Enc Go.Proofs.YtmogoopkjkdkgaaGreat.Made
set_option linter.unusedVariables false

end Go.Proofs.YtmogoopkjkdkgaaGreat.Chk

/- digits.Tape, wherever it gives up: what it reads of any bytes, as plain data; its calls, both ways; Caught behind a tape that has given up. -/
namespace Go.Proofs.YtmogoopkjkdkgaaGreat.Tape
open Go Go.RowKit Go.Proofs.YtmogoopkjkdkgaaGreat.Words Go.Proofs.YtmogoopkjkdkgaaGreat.Enc
set_option linter.unusedVariables false

/-- What a reader gets: an error's number, or a value and the rest. -/
inductive Got (α : Type) where
  | bad (E : Nat)
  | ok (v : α) (rest : List UInt8)
def Got.bind {α β : Type} : Got α → (α → List UInt8 → Got β) → Got β
  | .bad E, _ => .bad E
  | .ok v r, f => f v r
end Go.Proofs.YtmogoopkjkdkgaaGreat.Tape
