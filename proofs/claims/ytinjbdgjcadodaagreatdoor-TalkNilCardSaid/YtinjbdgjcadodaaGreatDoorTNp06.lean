/- digits.Size: how many bytes a number has: its contract, out of that of math/bits.Len64. -/
import Derived.Test.YtinjbdgjcadodaaGreatDoorRows
import Derived.Handy
import Derived.Lib.Hide
import Derived.Lib.BitFns
import Derived.WalkLawsBesides
import Derived.Test.YtinjbdgjcadodaaGreatDoorTNp01
import Derived.Test.YtinjbdgjcadodaaGreatDoorTNp02
import Derived.Test.YtinjbdgjcadodaaGreatDoorTNp05
namespace Go.Proofs.YtinjbdgjcadodaaGreatDoor.Len
open Go Go.RowKit Go.Proofs.YtinjbdgjcadodaaGreatDoor.Enc

theorem bitLen_small : ∀ m : Fin 128, 1 ≤ m.val → (Lib.bitLen m.val + 6) / 7 = 1 := by decide +kernel
theorem bitLen_enc : ∀ m : Nat, 1 ≤ m → m < 2 ^ 64 → (Lib.bitLen m + 6) / 7 = (enc m).length := by
  intro m
  induction m using Nat.strongRecOn with
  | _ m ih =>
    intro h1 h2
    by_cases hm : m < 128
    · rw [enc_small hm]; exact bitLen_small ⟨m, hm⟩ h1
    · have h : Lib.bitLen m = 7 + Lib.bitLen (m / 128) := Lib.bitLen_shift 7 m (by omega) h2
      have h' := ih (m / 128) (by omega) (by omega) (by omega)
      rw [enc_great hm, h]
      simp only [List.length_cons]
      rw [← h']
      omega
theorem or_one (n : Nat) : n ||| 1 = n / 2 * 2 + 1 := by
  apply Nat.eq_of_testBit_eq
  intro i
  rw [Nat.testBit_or]
  cases i with
  | zero => simp [Nat.testBit_zero]
  | succ i => simp [Nat.testBit_succ, show (n / 2 * 2 + 1) / 2 = n / 2 by omega]
theorem size_enc (n : Nat) (h : n < 2 ^ 64) : (Lib.bitLen (n ||| 1) + 6) / 7 = (enc n).length := by
  by_cases h0 : n = 0
  · subst h0
    rw [enc_small (by omega)]
    decide +kernel
  · rw [← bitLen_enc n (by omega) h]
    by_cases h1 : n = 1
    · subst h1; rfl
    · rw [or_one, Lib.bitLen_half _ (by omega) (by omega), Lib.bitLen_half n (by omega) h, show (n / 2 * 2 + 1) / 2 = n / 2 by omega]

set_option maxRecDepth 10000 in
theorem size_any (x : Int) (w : World) (h0 : 0 ≤ x) (h1 : x < 18446744073709551616) :
    Calls Tryz.prog 210 #[.int .u64 x] w fun e w' => e = .returned (.int .i64 ((enc x.toNat).length : Int)) ∧ w' = w := by
  obtain ⟨n, rfl⟩ := Int.eq_ofNat_of_zero_le h0
  rw [Int.toNat_natCast]
  have hor : bits .or .u64 (n : Int) 1 = ((n ||| 1 : Nat) : Int) := u64_or_nat n 1 (by omega) (by omega)
  have hs := size_enc n (by omega)
  have HS := Lib.hid hs
  clear hs
  have hlt : ((n ||| 1 : Nat) : Int) ≤ 18446744073709551615 := by rw [or_one]; omega
  go_enter Tryz.func210, Tryz.ntmps210
  go_wp2_with fail
  refine (Tryz.bits_Len64 _ _ (by omega) hlt).mono ?_
  rintro e w' ⟨rfl, rfl⟩
  rw [Int.toNat_natCast]
  have hb : Lib.bitLen (n ||| 1) ≤ 64 := Lib.bitLen_le _ 64 (Nat.le_refl _) (by omega)
  generalize Lib.bitLen (n ||| 1) = b at HS hb ⊢
  go_wp2
  go_ret
  have h := HS.out
  rw [← h]
  exact ⟨by simp; omega, rfl⟩
end Go.Proofs.YtinjbdgjcadodaaGreatDoor.Len

/- digits.Lay: its contract. -/
namespace Go.Proofs.YtinjbdgjcadodaaGreatDoor.Made
open Go Go.RowKit Go.Proofs.YtinjbdgjcadodaaGreatDoor.Words Go.Proofs.YtinjbdgjcadodaaGreatDoor.Enc
set_option linter.unusedVariables false
/-- digits.Lay. -/
theorem lay_any (A : Option Addr) (n c : Nat) (l : List UInt8) (x : Int) (w : World) (hs : Sees w A n l) (hn : n ≤ 1000000000) (hx0 : 0 ≤ x) (hx : x < 18446744073709551616) :
    Calls Tryz.prog 143 #[.slice A n c, .int .u64 x] w (New w.heap.size (n + (enc x.toNat).length) (l ++ enc x.toNat) w) := by
  have he := enc_ten (n := x.toNat) (by omega)
  go_enter Tryz.func143, Tryz.ntmps143
  go_wp2_with fail
  refine (Len.size_any x _ hx0 hx).mono ?_
  rintro e w' ⟨rfl, rfl⟩
  go_wp2_with fail
  refine (roomy_any A n c l _ _ hs hn (by omega) (by omega)).mono ?_
  rintro e w1 ⟨A1, c1, rfl, hown, hb⟩
  go_wp2_with fail
  have hsz := hb.size
  refine (layOn_any w'.heap.size A1 n c1 l x w1 hown hsz hn hx0 hx).mono ?_
  rintro e w2 ⟨A2, c2, rfl, hown2, hb2⟩
  go_wp2
  go_ret
  exact ⟨A2, c2, rfl, hown2, hb.trans hb2⟩

/-- digits.LayText. -/
theorem layText_any (A : Option Addr) (n c : Nat) (l : List UInt8) (S : Option Addr) (m k : Nat) (q : List UInt8) (w : World) (hs : Sees w A n l) (hq : Sees w S m q) (hn : n ≤ 900000000) (hm : m ≤ 900000000) :
    Calls Tryz.prog 144 #[.slice A n c, .slice S m k] w (New w.heap.size (n + (enc m).length + m) (l ++ enc m ++ q) w) := by
  obtain ⟨i, hi, hz, hsz, hby⟩ := info_parts info8
  have he := enc_ten (n := m) (by omega)
  go_enter Tryz.func144, Tryz.ntmps144
  go_wp2_with fail
  refine (Len.size_any _ _ (by omega) (by omega)).mono ?_
  rintro e w' ⟨rfl, rfl⟩
  rw [Int.toNat_natCast]
  go_wp2_with fail
  refine (roomy_any A n c l _ _ hs (by omega) (by omega) (by omega)).mono ?_
  rintro e w1 ⟨A1, c1, rfl, hown, hb⟩
  have hsz := hb.size
  go_wp2_with fail
  refine (layOn_any w'.heap.size A1 n c1 l _ w1 hown hsz (by omega) (by omega) (by omega)).mono ?_
  rw [Int.toNat_natCast]
  rintro e w2 ⟨A2, c2, rfl, hown2, hb2⟩
  have b2 := hb.trans hb2
  have hq2 := hq.below b2
  have hsz2 := b2.size
  go_wp2_with (first | (at_builtin; refine wpList_app rfl _ _ 28 rfl w'.heap.size 5 i (.int .u8 0) Tryz.underlying28 hi hz (by assumption) hby rfl A2 (n + (enc m).length) c2 (l ++ enc m) rfl hown2 S m k q rfl hq2 ?d1 ?d2 ?_))
  case d1 => omega
  case d2 => exact hsz2
  intro A3 c3 w3 hown3 hb3
  go_wp2
  go_ret
  rw [List.append_assoc]
  exact ⟨A3, c3, rfl, hown3, b2.trans hb3⟩
end Go.Proofs.YtinjbdgjcadodaaGreatDoor.Made

/- digits.LayFixed: its contract. -/
namespace Go.Proofs.YtinjbdgjcadodaaGreatDoor.Made
open Go Go.RowKit Go.Proofs.YtinjbdgjcadodaaGreatDoor.Words Go.Proofs.YtinjbdgjcadodaaGreatDoor.Enc
set_option linter.unusedVariables false
set_option maxRecDepth 100000 in
/-- digits.LayFixed. -/
theorem layFixed_any (A : Option Addr) (n c : Nat) (l : List UInt8) (x : Int) (w : World) (hs : Sees w A n l) (hn : n ≤ 1000000000) (hx0 : 0 ≤ x) (hx : x < 18446744073709551616) :
    Calls Tryz.prog 231 #[.slice A n c, .int .u64 x] w (New w.heap.size (n + 8) (l ++ fix x.toNat) w) := by
  obtain ⟨i, hi, hz, hsz, hby⟩ := info_parts info8
  go_enter Tryz.func231, Tryz.ntmps231
  go_wp2_with fail
  refine (roomy_any A n c l _ _ hs hn (by omega) (by omega)).mono ?_
  rintro e w1 ⟨A1, c1, rfl, hown, hb1⟩
  have hbase := hb1.size
  go_wp2_with fail
  go_loopw [0, 8] (fun p v wr => ∃ (A' : Option Addr) (c' k : Nat), p = .slice A' (n + k) c' ∧ v = .int .i64 (k : Int) ∧ k ≤ 8 ∧
      wr.ownsRow w.heap.size 5 1 (.slice A' (n + k) c') (n + k) (cs (l ++ (fix x.toNat).take k)) ∧ Below w.heap.size w wr) (fun _ v _ => 8 - (intOf v).toNat)
  case atStart => exact ⟨A1, c1, 0, rfl, rfl, by omega, by simpa using hown, hb1⟩
  case round =>
    obtain ⟨A', c', k, rfl, rfl, hk, hown', hb⟩ := hrel
    have hwb := hb.size
    by_cases hlt : k < 8
    · go_wp2_with (first | (at_builtin; refine wpList_app rfl _ _ 28 rfl w.heap.size 5 i (.int .u8 0) Tryz.underlying28 hi hz hsz hby rfl A' (n + k) c' _ rfl (hown'.alloc _) _ 1 1 [b8 (x.toNat / 256 ^ (7 - k) % 256)] rfl (Sees.fresh wr _ _ _ ?e1) ?e2 ?e3 ?_))
      case e1 => exact fix_byte x k hx0
      case e2 => omega
      case e3 => exact Nat.le_trans hwb (by simp)
      intro A2 c2 w2 hown2 hb2
      go_wp2
      go_roundw
      case rel => exact ⟨A2, c2, k + 1, rfl, by go_num, by omega, by rw [fix_take _ _ hlt]; exact hown2, (hb.alloc hwb _).trans hb2⟩
      case measure => simp [intOf]; omega
    · have hk8 : k = 8 := by omega
      subst hk8
      go_wp2
      go_ret
      exact ⟨A', c', rfl, by rw [List.take_of_length_le (by simp [fix_length])] at hown'; exact hown', hb⟩
end Go.Proofs.YtinjbdgjcadodaaGreatDoor.Made

/- bytes.Clone: its contract, in words of bytes that are seen. -/
namespace Go.Proofs.YtinjbdgjcadodaaGreatDoor.Dsk
open Go Go.RowKit Go.Proofs.YtinjbdgjcadodaaGreatDoor.Words
set_option linter.unusedVariables false
theorem clone_bytes (A : Option Addr) (n c : Nat) (l : List UInt8) (w : World) (hs : Sees w A n l) (hn : n ≤ 100000000000000) :
    Calls Tryz.prog 74 #[.slice A n c] w fun e w' => ∃ A' c', e = .returned (.slice A' n c') ∧ w'.ownsRow w.heap.size 5 1 (.slice A' n c') n (cs l) ∧ Below w.heap.size w w' := by
  cases A with
  | none =>
    refine (Tryz.bytes_Clone_nil n c w).mono ?_
    rintro e w' ⟨rfl, rfl⟩
    have h0 : n = 0 := by
      rcases Nat.eq_zero_or_pos n with h | h
      · exact h
      · obtain ⟨b, o, e, _⟩ := hs.2 h
        cases e
    subst h0
    have hl0 : l = [] := List.eq_nil_of_length_eq_zero hs.1
    subst hl0
    exact ⟨none, 0, rfl, Own.nil _ _ _, Below.refl _ _⟩
  | some a =>
    have hl := hs.1
    refine (Tryz.bytes_Clone_at a n c (l.map fun b => (b.toNat : Int)) w (by simpa using hl) (by omega) fun i hi => ?_).mono ?_
    · obtain ⟨b, o, e, hc⟩ := hs.2 (by omega)
      injection e with e
      subst e
      have hil : i < l.length := by omega
      rw [add_plain, hc i l[i] (List.getElem?_eq_getElem hil)]
      simp [hil]
    · rintro e w' ⟨v', rfl, hown, _, hb⟩
      rw [List.map_map] at hown
      obtain ⟨A', c', rfl, _⟩ := Own.shape hown
      exact ⟨A', c', rfl, hown, hb⟩
end Go.Proofs.YtinjbdgjcadodaaGreatDoor.Dsk

/- digits.TakeText: its contract; a number has one form alone. digits.TakeText: its contract, walked. -/
namespace Go.Proofs.YtinjbdgjcadodaaGreatDoor.Take
open Go Go.RowKit Go.Proofs.YtinjbdgjcadodaaGreatDoor.Words Go.Proofs.YtinjbdgjcadodaaGreatDoor.Enc
set_option linter.unusedVariables false

/-! numbers -/
theorem tk_err : ∀ (l : List UInt8) (i m : Nat), (tk i m l).2.2 ≠ 0 → (tk i m l).1 = 0 ∧ (tk i m l).2.1 = 0
  | [], i, m, h => ⟨rfl, rfl⟩
  | b :: r, i, m, h => by
    unfold tk at h ⊢
    split
    · exact ⟨rfl, rfl⟩
    · rename_i h1
      rw [if_neg h1] at h
      split
      · rename_i h2
        rw [if_pos h2] at h
        exact absurd rfl h
      · rename_i h2
        rw [if_neg h2] at h
        exact tk_err r _ _ h
theorem tk_canon : ∀ (l : List UInt8) (i m N K : Nat), i ≤ 9 → tk i m l = (N, K, 0) → ∃ y, N = m + y * 2 ^ (7 * i) ∧ i + (enc y).length = K ∧ l.take (enc y).length = enc y ∧ (0 < i → 0 < y)
  | [], i, m, N, K, hi, h => by simp [tk] at h
  | b :: r, i, m, N, K, hi, h => by
    have hb := b.toNat_lt
    by_cases h1 : (0 < i ∧ b = 0) ∨ (i = 9 ∧ 1 < b.toNat)
    · unfold tk at h
      rw [if_pos h1] at h
      simp at h
    by_cases h2 : b.toNat < 128
    · unfold tk at h
      rw [if_neg h1, if_pos h2] at h
      injection h with h3 h4
      injection h4 with h4 _
      refine ⟨b.toNat, h3.symm, ?_, ?_, ?_⟩
      · rw [enc_small h2]; exact h4
      · rw [enc_small h2]; simp [b8]
      · intro h0
        rcases Nat.eq_zero_or_pos b.toNat with hz | hz
        · exact absurd (.inl ⟨h0, UInt8.toNat_inj.1 hz⟩) h1
        · exact hz
    · have hi9 : i ≠ 9 := fun e => h1 (.inr ⟨e, by omega⟩)
      rw [tk_next hi9 h2] at h
      obtain ⟨y, e1, e2, e3, e4⟩ := tk_canon r (i + 1) _ N K (by omega) h
      have hy := e4 (by omega)
      have hm : (b.toNat % 128 + 128 * y) % 128 = b.toNat % 128 := by omega
      have hd : (b.toNat % 128 + 128 * y) / 128 = y := by omega
      refine ⟨b.toNat % 128 + 128 * y, ?_, ?_, ?_, fun _ => by omega⟩
      · rw [e1, Nat.add_mul, Nat.add_assoc, show 7 * (i + 1) = 7 * i + 7 by omega, Nat.pow_add]
        congr 2
        rw [Nat.mul_comm (2 ^ (7 * i)) (2 ^ 7), ← Nat.mul_assoc, Nat.mul_comm y]
      · rw [enc_great (by omega), hd]
        simp only [List.length_cons]
        omega
      · rw [enc_great (by omega), hd, hm]
        simp only [List.length_cons, List.take_succ_cons, e3]
        congr 1
        apply UInt8.toNat_inj.1
        rw [b8_toNat]
        omega
theorem tk_one {l : List UInt8} {N K : Nat} (h : tk 0 0 l = (N, K, 0)) : l.take K = enc N ∧ (enc N).length = K := by
  obtain ⟨y, e1, e2, e3, _⟩ := tk_canon l 0 0 N K (by omega) h
  simp at e1 e2
  subst e1
  exact ⟨by rw [← e2]; exact e3, e2⟩

/-! TakeText -/
/-- What TakeText tells: the text, how many bytes, the error. -/
def texted (l : List UInt8) (most : Int) (t : Nat × Nat × Nat) : List UInt8 × Nat × Nat :=
  if t.2.2 ≠ 0 then ([], 0, t.2.2)
  else if most < 0 ∨ most < (t.1 : Int) then ([], 0, 6)
  else if l.length - t.2.1 < t.1 then ([], 0, 5)
  else ((l.drop t.2.1).take t.1, t.2.1 + t.1, 0)
/-- A text of its own, what follows in what was given, the error. -/
def Gives3 (PA : Option Addr) (PN : Nat) (l : List UInt8) (r : List UInt8 × Nat × Nat) (w : World) (e : Ending) (w' : World) : Prop :=
  ∃ A n c A2 n2 c2, e = .returned (.tuple #[.slice A n c, .slice A2 n2 c2, .int .i64 (r.2.2 : Int)]) ∧ OwnC w' w.heap.size 5 A n c (cs r.1) ∧ (∀ W, Sees W PA PN l → Sees W A2 n2 (l.drop r.2.1)) ∧ n2 ≤ c2 ∧ c2 ≤ 9223372036854775807 ∧ Below w.heap.size w w'

/-- bytes.Clone. -/
theorem clone_any (A : Option Addr) (n c : Nat) (l : List UInt8) (w : World) (hs : Sees w A n l) (hn : n ≤ 1000000000) :
    Calls Tryz.prog 74 #[.slice A n c] w fun e w' => ∃ A' c', e = .returned (.slice A' n c') ∧ w'.ownsRow w.heap.size 5 1 (.slice A' n c') n (cs l) ∧ Below w.heap.size w w' := by
  cases A with
  | none =>
    refine (Tryz.bytes_Clone_nil n c w).mono ?_
    rintro e w' ⟨rfl, rfl⟩
    have h0 : n = 0 := by
      rcases Nat.eq_zero_or_pos n with h | h
      · exact h
      · obtain ⟨b, o, e, _⟩ := hs.2 h
        cases e
    subst h0
    have hl0 : l = [] := List.eq_nil_of_length_eq_zero hs.1
    subst hl0
    exact ⟨none, 0, rfl, Own.nil _ _ _, Below.refl _ _⟩
  | some a =>
    have hl := hs.1
    refine (Tryz.bytes_Clone_at a n c (l.map fun b => (b.toNat : Int)) w (by simpa using hl) (by omega) fun i hi => ?_).mono ?_
    · obtain ⟨b, o, e, hc⟩ := hs.2 (by omega)
      injection e with e
      subst e
      have hil : i < l.length := by omega
      rw [add_plain, hc i l[i] (List.getElem?_eq_getElem hil)]
      simp [hil]
    · rintro e w' ⟨v', rfl, hown, _, hb⟩
      rw [List.map_map] at hown
      obtain ⟨A', c', rfl, _⟩ := Own.shape hown
      exact ⟨A', c', rfl, hown, hb⟩
end Go.Proofs.YtinjbdgjcadodaaGreatDoor.Take
namespace Go.Proofs.YtinjbdgjcadodaaGreatDoor.Take
open Go Go.RowKit Go.Proofs.YtinjbdgjcadodaaGreatDoor.Words Go.Proofs.YtinjbdgjcadodaaGreatDoor.Enc
set_option linter.unusedVariables false

/-- The value is a slice that the call owns. -/
def ownPred (base n : Nat) (l : List UInt8) : Facts.Pred := ⟨fun v w => ∃ A c, v = .slice A n c ∧ w.ownsRow base 5 1 (.slice A n c) n (cs l), fun _ _ _ ⟨A, c, h, hs⟩ hb => ⟨A, c, h, Own.below hs hb (Nat.le_refl _)⟩⟩
def ownCPred (base n : Nat) (l : List UInt8) : Facts.Pred := ⟨fun v w => ∃ A c, v = .slice A n c ∧ OwnC w base 5 A n c (cs l), fun _ _ _ ⟨A, c, h, hs⟩ hb => ⟨A, c, h, hs.below hb (Nat.le_refl _)⟩⟩
/-- The value is a slice that shows m wherever PA shows l, with its room. -/
def partPred (PA : Option Addr) (PN : Nat) (l : List UInt8) (n : Nat) (m : List UInt8) : Facts.Pred := ⟨fun v w => ∃ A c, v = .slice A n c ∧ (∀ W, Sees W PA PN l → Sees W A n m) ∧ n ≤ c ∧ c ≤ 9223372036854775807, fun _ _ _ h _ => h⟩

theorem gives3_err {PA : Option Addr} {PN : Nat} {l : List UInt8} {w w' : World} {A2 : Option Addr} {n c2 E : Nat} (h2 : ∀ W, Sees W PA PN l → Sees W A2 n l) (hc : n ≤ c2) (hc2 : c2 ≤ 9223372036854775807) (hb : Below w.heap.size w w') {F : Int} (hF : F = (E : Int)) :
    Gives3 PA PN l ([], 0, E) w (.returned (.tuple #[.slice none 0 0, .slice A2 n c2, .int .i64 F])) w' := by
  subst hF
  exact ⟨none, 0, 0, A2, n, c2, rfl, OwnC.nil _ _ _, h2, hc, hc2, hb⟩

set_option maxRecDepth 100000 in
theorem takeText_any (A : Option Addr) (n c : Nat) (l : List UInt8) (most : Int) (w : World) (hs : Sees w A n l) (hc : n ≤ c) (hn : n ≤ 1000000000) (hm1 : -9223372036854775808 ≤ most) (hm2 : most ≤ 9223372036854775807) :
    Calls Tryz.prog 150 #[.slice A n c, .int .i64 most] w (Gives3 A n l (texted l most (tk 0 0 l)) w) := by
  have hl := hs.1
  have htl := tk_len l 0 0
  have hte := tk_err l 0 0
  rw [Nat.zero_add, hl] at htl
  go_enter Tryz.func150, Tryz.ntmps150
  go_wp2_with fail
  refine (take_any A n c l w hs hc hn).mono ?_
  rintro e w1 ⟨A', c', rfl, hv, d, rfl, hpart, hc1, hc2⟩
  have hb : Below w.heap.size w (w.drewN d) := ⟨rfl, rfl, rfl, Nat.le_refl _, fun _ _ => rfl⟩
  obtain ⟨t, ht⟩ : ∃ t, t = tk 0 0 l := ⟨_, rfl⟩
  rw [← ht] at hv hpart hc1 htl hte ⊢
  have HO : Hid (texted l most (tk 0 0 l) = texted l most t) := by rw [ht]; exact rfl
  clear ht
  obtain ⟨N, K, E⟩ := t
  simp only [] at hv hpart hc1 htl hte ⊢
  by_cases hE : E = 0
  · subst hE
    by_cases h6 : most < 0 ∨ most < (N : Int)
    · have HP : Hid (texted l most (tk 0 0 l) = ([], 0, 6)) := by rw [HO.out]; unfold Hid texted; simp [h6]
      by_cases h0 : most < 0
      · clear h6
        go_wp2_with fail
        refine (clip_any A n c _ hc hn).mono ?_
        rintro e w2 ⟨rfl, rfl⟩
        go_wp2
        go_ret3
        rw [HP.out]
        exact gives3_err (fun W h => h) (Nat.le_refl _) (by omega) hb rfl
      · have h6' : most < (N : Int) := by omega
        have h0' : decide (most < 0) = false := by simp; omega
        have hp : 0 ≤ most := by omega
        clear h6 h0
        go_wp2_with fail
        refine (clip_any A n c _ hc hn).mono ?_
        rintro e w2 ⟨rfl, rfl⟩
        go_wp2
        go_ret3
        rw [HP.out]
        exact gives3_err (fun W h => h) (Nat.le_refl _) (by omega) hb rfl
    · have hp : 0 ≤ most := by omega
      have h0' : decide (most < 0) = false := by simp; omega
      have h6' : decide (most < (N : Int)) = false := by simp; omega
      by_cases h5 : n - K < N
      · have HP : Hid (texted l most (tk 0 0 l) = ([], 0, 5)) := by rw [HO.out]; unfold Hid texted; simp [h6, hl, h5]
        have h5' : ((n - K : Nat) : Int) < (N : Int) := by omega
        clear h6
        go_wp2_with fail
        refine (clip_any A n c _ hc hn).mono ?_
        rintro e w2 ⟨rfl, rfl⟩
        go_wp2
        go_ret3
        rw [HP.out]
        exact gives3_err (fun W h => h) (Nat.le_refl _) (by omega) hb rfl
      · have h5' : decide (((n - K : Nat) : Int) < (N : Int)) = false := by simp; omega
        have HP : Hid (texted l most (tk 0 0 l) = ((l.drop K).take N, K + N, 0)) := by rw [HO.out]; unfold Hid texted; simp [h6, hl, h5]
        have hN : N ≤ n - K := by omega
        clear h6 h5
        go_wp2_with fail
        have hNc : N ≤ c' := by omega
        refine Facts.wp_region_preds (n := 48) (by kernel_rfl) (by kernel_rfl) rfl [Facts.Pred.is (Value.slice A' (n - K) c'), Facts.Pred.is (Value.int .u64 (N : Int)), Facts.Pred.shows N ((l.drop K).take N), ownPred w.heap.size N ((l.drop K).take N), ownCPred w.heap.size N ((l.drop K).take N), Facts.Pred.is (Value.slice A' (n - K) c'), Facts.Pred.is (Value.int .u64 (N : Int)), partPred A n l (n - K - N) ((l.drop K).drop N), ownCPred w.heap.size N ((l.drop K).take N), partPred A n l (n - K - N) ((l.drop K).drop N), Facts.Pred.is (Value.int .i64 0)] ?_ ?_
        · refine ⟨?_, ?_, ?_, ?_, ?_, ?_, ?_, ?_, ?_, ?_, ?_, trivial⟩
          · refine Facts.step_is (Value.slice A' (n - K) c') fun a W hR hold hnew => ?_
            have f8 : a.tmps.getD 8 undef = Value.slice A' (n - K) c' := hold 8 (by kernel_rfl)
            refine ⟨Facts.wanted_free rfl, ?_, fun _ => rfl⟩; simp [go_sem, Act.eval, f8]
          · refine Facts.step_is (Value.int .u64 (N : Int)) fun a W hR hold hnew => ?_
            have f7 : a.tmps.getD 7 undef = Value.int .u64 (N : Int) := hold 7 (by kernel_rfl)
            refine ⟨Facts.wanted_free rfl, ?_, fun _ => rfl⟩; simp [go_sem, Act.eval, f7]
          · -- 2: Op.slice 22 t40 none (some t41) none
            refine Facts.step_some fun a W hR hold hnew => ?_
            have f40 : a.tmps.getD 40 undef = Value.slice A' (n - K) c' := hnew 0 40 (by kernel_rfl); have f41 : a.tmps.getD 41 undef = Value.int .u64 (N : Int) := hnew 1 41 (by kernel_rfl)
            refine ⟨Facts.wanted_free rfl, .slice A' N c', by simp [go_sem, Act.eval, f40, f41, hNc], _, _, rfl, (hv.drew.below hR).take hN⟩
          · -- 3: bytes.Clone
            refine Facts.step_call fun a W hR hold hnew => ?_
            have h42 : ∃ A5 c5, a.tmps.getD 42 undef = .slice A5 N c5 ∧ Sees W A5 N ((l.drop K).take N) := hnew 2 42 (by kernel_rfl)
            obtain ⟨A5, c5, f42, hs5⟩ := h42
            refine ⟨Facts.wanted_free rfl, 74, #[.slice A5 N c5], by simp [go_sem, Act.eval, f42], ?_⟩
            refine (clone_any A5 N c5 _ W hs5 (by omega)).mono ?_
            rintro e w7 ⟨A6, c6, rfl, hs6, hb6⟩
            exact ⟨_, rfl, hb6, A6, c6, rfl, Own.lower hs6 hR.size⟩
          · -- 4: slices.Clip
            refine Facts.step_call fun a W hR hold hnew => ?_
            have h43 : ∃ A5 c5, a.tmps.getD 43 undef = .slice A5 N c5 ∧ W.ownsRow w.heap.size 5 1 (.slice A5 N c5) N (cs ((l.drop K).take N)) := hnew 3 43 (by kernel_rfl)
            obtain ⟨A5, c5, f43, hs5⟩ := h43
            refine ⟨Facts.wanted_free rfl, 73, #[.slice A5 N c5], by simp [go_sem, Act.eval, f43], ?_⟩
            refine (clip_any A5 N c5 W (Own.cap hs5).1 (by omega)).mono ?_
            rintro e w7 ⟨rfl, rfl⟩
            exact ⟨_, rfl, Below.refl _ _, A5, N, rfl, OwnC.clip hs5⟩
          · refine Facts.step_is (Value.slice A' (n - K) c') fun a W hR hold hnew => ?_
            have f8 : a.tmps.getD 8 undef = Value.slice A' (n - K) c' := hold 8 (by kernel_rfl)
            refine ⟨Facts.wanted_free rfl, ?_, fun _ => rfl⟩; simp [go_sem, Act.eval, f8]
          · refine Facts.step_is (Value.int .u64 (N : Int)) fun a W hR hold hnew => ?_
            have f7 : a.tmps.getD 7 undef = Value.int .u64 (N : Int) := hold 7 (by kernel_rfl)
            refine ⟨Facts.wanted_free rfl, ?_, fun _ => rfl⟩; simp [go_sem, Act.eval, f7]
          · -- 7: Op.slice 22 t45 (some t46) none none
            refine Facts.step_some fun a W hR hold hnew => ?_
            have f45 : a.tmps.getD 45 undef = Value.slice A' (n - K) c' := hnew 5 45 (by kernel_rfl); have f46 : a.tmps.getD 46 undef = Value.int .u64 (N : Int) := hnew 6 46 (by kernel_rfl)
            refine ⟨Facts.wanted_free rfl, .slice (if c' = N then A' else Option.map (fun x => x.add N) A') (n - K - N) (c' - N), by simp [go_sem, Act.eval, f45, f46, hN], _, _, rfl, fun W h => (hpart W h).cut hN (by intro b o h e; subst e; rw [if_neg (by omega)]; simp [add_plain]), by omega, by omega⟩
          · -- 8: Op.assign t44
            refine Facts.step_some fun a W hR hold hnew => ?_
            have h44 : ∃ A5 c5, a.tmps.getD 44 undef = .slice A5 N c5 ∧ OwnC W w.heap.size 5 A5 N c5 (cs ((l.drop K).take N)) := hnew 4 44 (by kernel_rfl)
            obtain ⟨A5, c5, f44, hs5⟩ := h44
            exact ⟨Facts.wanted_free rfl, .slice A5 N c5, by simp [go_sem, Act.eval, f44], A5, c5, rfl, hs5⟩
          · -- 9: Op.assign t47
            refine Facts.step_some fun a W hR hold hnew => ?_
            have h47 : ∃ A5 c5, a.tmps.getD 47 undef = .slice A5 (n - K - N) c5 ∧ (∀ W, Sees W A n l → Sees W A5 (n - K - N) ((l.drop K).drop N)) ∧ n - K - N ≤ c5 ∧ c5 ≤ 9223372036854775807 := hnew 7 47 (by kernel_rfl)
            obtain ⟨A5, c5, f47, hs5⟩ := h47
            exact ⟨Facts.wanted_free rfl, .slice A5 (n - K - N) c5, by simp [go_sem, Act.eval, f47], A5, c5, rfl, hs5⟩
          · refine Facts.step_is (Value.int .i64 0) fun a W hR hold hnew => ?_
            refine ⟨Facts.wanted_free rfl, ?_, fun _ => rfl⟩; simp [go_sem, Act.eval]
        · intro a w' hR' _ hdef hnew _
          have f6 : a.tmps.getD 6 undef = .int .i64 0 := hnew 10 6 (by kernel_rfl)
          have h4 : ∃ A5 c5, a.tmps.getD 4 undef = .slice A5 N c5 ∧ OwnC w' w.heap.size 5 A5 N c5 (cs ((l.drop K).take N)) := hnew 8 4 (by kernel_rfl)
          have h5 : ∃ A5 c5, a.tmps.getD 5 undef = .slice A5 (n - K - N) c5 ∧ (∀ W, Sees W A n l → Sees W A5 (n - K - N) ((l.drop K).drop N)) ∧ n - K - N ≤ c5 ∧ c5 ≤ 9223372036854775807 := hnew 9 5 (by kernel_rfl)
          obtain ⟨A5, c5, f4, hs5⟩ := h4
          obtain ⟨A6, c6, f5, hs6, hc6, hc7⟩ := h5
          go_wp2
          try simp only [Exit.inBlock, Exit.then]
          refine bodyPost_ret (results_tmp3 rfl _ _ _) hdef ?_
          rw [f4, f5, f6, HP.out]
          refine ⟨A5, N, c5, A6, n - K - N, c6, rfl, hs5, ?_, hc6, hc7, hb.drew.trans (hR'.mono hb.drew.size)⟩
          rw [List.drop_drop] at hs6
          exact hs6
  · have hE' : ((E : Int) == 0) = false := by simp; omega
    have HP : Hid (texted l most (tk 0 0 l) = ([], 0, E)) := by rw [HO.out]; unfold Hid texted; simp [hE]
    have hE2 : ((E : Int) != 0) = true := by simp; omega
    have hK := (hte hE).2
    subst hK
    clear hE
    go_wp2
    go_ret3
    rw [HP.out]
    exact gives3_err hpart hc1 hc2 hb rfl
end Go.Proofs.YtinjbdgjcadodaaGreatDoor.Take

/- check.Sum, sealOf, Wrap and Size: what is asked of them. -/
namespace Go.Proofs.YtinjbdgjcadodaaGreatDoor.Chk
open Go Go.RowKit Go.Proofs.YtinjbdgjcadodaaGreatDoor.Words Go.Proofs.YtinjbdgjcadodaaGreatDoor.Enc Go.Proofs.YtinjbdgjcadodaaGreatDoor.Made
set_option linter.unusedVariables false

theorem below_drewN (w : World) (d : Nat) : Below w.heap.size w (w.drewN d) := ⟨rfl, rfl, rfl, Nat.le_refl _, fun _ _ => rfl⟩
set_option maxRecDepth 100000 in
/-- check.sealOf. -/
theorem seal_any (A : Option Addr) (n c : Nat) (l : List UInt8) (w : World) (T : Tabs w) (hs : Sees w A n l) (hn : n ≤ 1000000000) :
    Calls Tryz.prog 145 #[.slice A n c] w fun e w' => ∃ g, e = .returned (.slice (some ⟨g, 0, none⟩) 4 4) ∧ Sees w' (some ⟨g, 0, none⟩) 4 (four (Crc.sum l)) ∧ Below w.heap.size w w' := by
  go_enter Tryz.func145, Tryz.ntmps145
  go_wp2_with fail
  refine (sum_any A n c l w T hs hn).mono ?_
  rintro e w1 ⟨rfl, d, rfl⟩
  obtain ⟨s, hse⟩ : ∃ s, s = Crc.sum l := ⟨_, rfl⟩
  rw [← hse]
  have HS := Lib.hid hse
  clear hse
  have h1 := s.isLt
  go_wp2
  go_ret
  rw [← HS.out]
  exact ⟨w.heap.size, rfl, sees_four (w.drewN d) _ s _ _ _ _ (by rw [b8_toNat]; omega) (by rw [b8_toNat]; omega) (by rw [b8_toNat]; omega) (by rw [b8_toNat]; omega), (below_drewN w d).alloc (Nat.le_refl _) _⟩

theorem pair_all (w : World) (e : TypeId) (A1 : Option Addr) (n1 c1 : Nat) (l1 : List UInt8) (A2 : Option Addr) (n2 c2 : Nat) (l2 : List UInt8) (h1 : Sees w A1 n1 l1) (h2 : Sees w A2 n2 l2) (hc1 : n1 ≤ c1) (hc2 : n2 ≤ c2) :
    SeesAll (w.alloc (.cells #[.slice A1 n1 c1, .slice A2 n2 c2] e)) (some ⟨w.heap.size, 0, none⟩) 2 [l1, l2] := by
  have hb : Below w.heap.size w (w.alloc (.cells #[.slice A1 n1 c1, .slice A2 n2 c2] e)) := (Below.refl _ _).alloc (Nat.le_refl _) _
  have k1 := h1.below hb
  have k2 := h2.below hb
  have e1 := h1.1
  have e2 := h2.1
  subst e1
  subst e2
  refine ⟨[.slice A1 l1.length c1, .slice A2 l2.length c2], ((Each.nil _).snoc hc1 k1).snoc hc2 k2, rfl, fun _ => ⟨w.heap.size, 0, rfl, fun j v hv => ?_⟩⟩
  rw [cell_of_row _ w.heap.size (0 + j) _ e (0, 0) (heap_alloc_new w _), Nat.zero_add]
  simpa using hv

set_option maxRecDepth 100000 in
theorem wrap_new (A : Option Addr) (n c : Nat) (l : List UInt8) (w : World) (T : Tabs w) (hs : Sees w A n l) (hc : n ≤ c) (hn : n ≤ 600000000) :
    Calls Tryz.prog 89 #[.slice A n c] w (New w.heap.size ((enc n).length + n + 4) (wrap l) w) := by
  have hl := hs.1
  have he := enc_ten (n := n) (by omega)
  go_enter Tryz.func89, Tryz.ntmps89
  go_wp2_with fail
  refine (layText_any none 0 0 [] A n c l w (Sees.nil _ _) hs (by omega) (by omega)).mono ?_
  rintro e w1 ⟨A1, c1, rfl, hown, hb⟩
  rw [Nat.zero_add, List.nil_append] at *
  have hcap := Own.cap hown
  have hs1 := Sees.of_own hown
  go_wp2_with fail
  refine (seal_any A1 ((enc n).length + n) c1 (enc n ++ l) w1 (T.below hb) hs1 (by omega)).mono ?_
  rintro e w2 ⟨g, rfl, hsg, hb2⟩
  have hs2 := hs1.below hb2
  have b2 := hb.trans (hb2.mono hb.size)
  have hall := pair_all w2 28 A1 ((enc n).length + n) c1 (enc n ++ l) (some ⟨g, 0, none⟩) 4 4 (four (Crc.sum (enc n ++ l))) hs2 hsg hcap.1 (Nat.le_refl _)
  have htot : total [enc n ++ l, four (Crc.sum (enc n ++ l))] = (enc n).length + n + 4 := by simp [total, four_length, hl]
  have hfl : [enc n ++ l, four (Crc.sum (enc n ++ l))].flatten = wrap l := by unfold wrap; rw [hl]; simp
  go_wp2_with fail
  refine (concat_any _ 2 2 _ _ hall (by omega) (by omega)).mono ?_
  rw [htot, hfl]
  rintro e w3 ⟨A3, c3, rfl, hown3, hb3⟩
  have b3 := (b2.alloc b2.size (.cells #[.slice A1 ((enc n).length + n) c1, .slice (some ⟨g, 0, none⟩) 4 4] 28)).trans (hb3.mono (Nat.le_trans b2.size (by simp)))
  have h3 : w3.ownsRow w.heap.size 5 1 (.slice A3 ((enc n).length + n + 4) c3) ((enc n).length + n + 4) (cs (wrap l)) := Own.lower hown3 (Nat.le_trans b2.size (by simp))
  clear hall htot hfl hown hown3
  go_wp2
  go_ret
  exact ⟨A3, c3, rfl, h3, b3⟩

end Go.Proofs.YtinjbdgjcadodaaGreatDoor.Chk

/- check.Open: what is asked of it. check.All: what is asked of it. -/
namespace Go.Proofs.YtinjbdgjcadodaaGreatDoor.Chk
open Go Go.RowKit Go.Proofs.YtinjbdgjcadodaaGreatDoor.Words Go.Proofs.YtinjbdgjcadodaaGreatDoor.Enc Go.Proofs.YtinjbdgjcadodaaGreatDoor.Made
set_option linter.unusedVariables false

end Go.Proofs.YtinjbdgjcadodaaGreatDoor.Chk
namespace Go.Proofs.YtinjbdgjcadodaaGreatDoor.Chk
open Go Go.RowKit Go.Proofs.YtinjbdgjcadodaaGreatDoor.Words Go.Proofs.YtinjbdgjcadodaaGreatDoor.Enc Go.Proofs.YtinjbdgjcadodaaGreatDoor.Made
set_option linter.unusedVariables false

/-- The slice values vs, each in memory of its own above base, hold the lists L. -/
def EachOwn (base : Nat) (w : World) (vs : List Value) (L : List (List UInt8)) : Prop :=
  vs.length = L.length ∧ ∀ (j : Nat) (l : List UInt8), L[j]? = some l → ∃ (A : Option Addr) (c : Nat), vs[j]? = some (Value.slice A l.length c) ∧ OwnC w base 5 A l.length c (cs l)
theorem EachOwn.nil (base : Nat) (w : World) : EachOwn base w [] [] := ⟨rfl, fun j l h => by simp at h⟩
theorem EachOwn.of {base : Nat} {w w' : World} {vs : List Value} {L : List (List UInt8)} (h : EachOwn base w vs L)
    (hf : ∀ (v : Value) (n : Nat) (l : List UInt8), w.ownsRow base 5 1 v n (cs l) → w'.ownsRow base 5 1 v n (cs l)) : EachOwn base w' vs L :=
  ⟨h.1, fun j l hl => by
    obtain ⟨A, c, hv, ho⟩ := h.2 j l hl
    exact ⟨A, c, hv, ho.map fun v h => hf v _ _ h⟩⟩
theorem EachOwn.snoc {base : Nat} {w : World} {vs : List Value} {L : List (List UInt8)} (h : EachOwn base w vs L) {A : Option Addr} {c : Nat} {l : List UInt8} (hs : OwnC w base 5 A l.length c (cs l)) : EachOwn base w (vs ++ [.slice A l.length c]) (L ++ [l]) := by
  refine ⟨by simp [h.1], fun j m hm => ?_⟩
  rcases Nat.lt_trichotomy j L.length with hj | hj | hj
  · rw [List.getElem?_append_left hj] at hm
    obtain ⟨A', c', hv, r⟩ := h.2 j m hm
    exact ⟨A', c', by rw [List.getElem?_append_left (by rw [h.1]; exact hj)]; exact hv, r⟩
  · subst hj
    rw [List.getElem?_append_right (Nat.le_refl _)] at hm
    simp at hm
    subst hm
    exact ⟨A, c, by rw [List.getElem?_append_right (by rw [h.1]; exact Nat.le_refl _)]; simp [h.1], hs⟩
  · rw [List.getElem?_eq_none (by simp; omega)] at hm
    cases hm
end Go.Proofs.YtinjbdgjcadodaaGreatDoor.Chk

/- check.Size: what is asked of it. -/
namespace Go.Proofs.YtinjbdgjcadodaaGreatDoor.Chk
open Go Go.RowKit Go.Proofs.YtinjbdgjcadodaaGreatDoor.Words Go.Proofs.YtinjbdgjcadodaaGreatDoor.Enc Go.Proofs.YtinjbdgjcadodaaGreatDoor.Made
set_option linter.unusedVariables false

set_option maxRecDepth 100000 in
theorem sizeOk : SizeSaid := by
  intro m w h1 h2
  have hmx : max m 0 = (m.toNat : Int) := by omega
  obtain ⟨k, hk⟩ : ∃ k, k = m.toNat := ⟨_, rfl⟩
  rw [← hk] at hmx ⊢
  have hk2 : k ≤ 1000000000 := by omega
  have HK := Lib.hid hk
  clear hk
  have he := enc_ten (n := k) (by omega)
  go_enter Tryz.func255, Tryz.ntmps255
  go_wp2_with fail
  refine (Len.size_any _ _ (by omega) (by omega)).mono ?_
  rintro e w' ⟨rfl, rfl⟩
  rw [Int.toNat_natCast]
  go_wp2
  go_ret
  exact ⟨by congr 2, Below.refl _ _⟩
end Go.Proofs.YtinjbdgjcadodaaGreatDoor.Chk

/- digits.Tape, wherever it gives up: what it reads of any bytes, as plain data; its calls, both ways; Caught behind a tape that has given up. -/
namespace Go.Proofs.YtinjbdgjcadodaaGreatDoor.Tape
open Go Go.RowKit Go.Proofs.YtinjbdgjcadodaaGreatDoor.Words Go.Proofs.YtinjbdgjcadodaaGreatDoor.Enc
set_option linter.unusedVariables false

/-- What a reader gets: an error's number, or a value and the rest. -/
inductive Got (α : Type) where
  | bad (E : Nat)
  | ok (v : α) (rest : List UInt8)
def Got.bind {α β : Type} : Got α → (α → List UInt8 → Got β) → Got β
  | .bad E, _ => .bad E
  | .ok v r, f => f v r
/-- A tape that has still to read l of the bytes L at PA: wherever these are seen, l is seen where it is. -/
def TapeOn (PA : Option Addr) (PN : Nat) (L : List UInt8) (w : World) (t : Nat) (l : List UInt8) : Prop :=
  ∃ A n c, w.heap[t]? = some (.cells #[.slice A n c] 225 (0, 0)) ∧ (∀ W, Sees W PA PN L → Sees W A n l) ∧ n ≤ c ∧ c ≤ 9223372036854775807
theorem TapeOn.at_ {PA : Option Addr} {PN : Nat} {L : List UInt8} {w : World} {t : Nat} {l : List UInt8} (h : TapeOn PA PN L w t l) (hs : Sees w PA PN L) : TapeAt w t l := by
  obtain ⟨A, n, c, h1, h2, h3⟩ := h
  exact ⟨A, n, c, h1, h2 w hs, h3⟩
theorem TapeOn.keep {PA : Option Addr} {PN : Nat} {L : List UInt8} {w w' : World} {t : Nat} {l : List UInt8} (h : TapeOn PA PN L w t l) (hk : w'.heap[t]? = w.heap[t]?) : TapeOn PA PN L w' t l := by
  obtain ⟨A, n, c, h1, h2, h3⟩ := h
  exact ⟨A, n, c, hk.trans h1, h2, h3⟩
theorem TapeOn.lt {PA : Option Addr} {PN : Nat} {L : List UInt8} {w : World} {t : Nat} {l : List UInt8} (h : TapeOn PA PN L w t l) : t < w.heap.size := by
  obtain ⟨A, n, c, h1, h2, h3⟩ := h
  exact (Array.getElem?_eq_some_iff.1 h1).1
theorem tape_on {PA : Option Addr} {PN : Nat} {L : List UInt8} {w : World} {t : Nat} {A B : Option Addr} {n c m k : Nat} {l : List UInt8} (h : w.heap[t]? = some (.cells #[.slice A n c] 225 (0, 0))) (hs : ∀ W, Sees W PA PN L → Sees W B m l) (hk : m ≤ k) (hk2 : k ≤ 9223372036854775807) :
    TapeOn PA PN L (w.setCell ⟨t, 0, none⟩ (.slice B m k)) t l :=
  ⟨B, m, k, (heapSame h).trans rfl, hs, hk, hk2⟩
set_option maxRecDepth 100000 in
theorem newTape_on (A : Option Addr) (n c : Nat) (l : List UInt8) (w : World) (hs : Sees w A n l) (hc : n ≤ c) (hn : n ≤ 1000000000) :
    Calls Tryz.prog 94 #[.slice A n c] w fun e w' => e = .returned (.pointer (some ⟨w.heap.size, 0, none⟩)) ∧ TapeOn A n l w' w.heap.size l ∧ Below w.heap.size w w' := by
  go_enter Tryz.func94, Tryz.ntmps94
  go_wp2_with fail
  refine (Take.clip_any A n c w hc hn).mono ?_
  rintro e w1 ⟨rfl, rfl⟩
  go_wp2
  go_ret
  have hb : Below w1.heap.size w1 (w1.alloc (.cells #[.slice A n n] 225)) := (Below.refl _ _).alloc (Nat.le_refl _) _
  exact ⟨rfl, ⟨A, n, n, heap_alloc_new w1 _, fun W h => h, Nat.le_refl _, by omega⟩, hb⟩

/-- The tape's panic. -/
def fault (E : Nat) : Ending := .panicked [{ v := .iface 222 (.agg #[.int .i64 (E : Int)]), recovered := false }]

theorem move_bad (t : Option Addr) (S : Value) (E : Nat) (hE : E ≠ 0) (w : World) :
    Calls Tryz.prog 214 #[.pointer t, S, .int .i64 (E : Int)] w fun e w' => e = fault E ∧ w = w' := by
  have h1 : ((E : Int) != 0) = true := by rw [bne_iff_ne]; omega
  have h2 : ((E : Int) == 0) = false := by rw [beq_eq_false_iff_ne]; omega
  unfold fault
  go_enter Tryz.func214, Tryz.ntmps214
  go_wp2
  exact ⟨rfl, rfl, rfl⟩

/-- A number of at most most. -/
def numG (most : Nat) (l : List UInt8) : Got Nat :=
  if (tk 0 0 l).2.2 ≠ 0 then .bad (tk 0 0 l).2.2 else if most < (tk 0 0 l).1 then .bad 6 else .ok (tk 0 0 l).1 (l.drop (tk 0 0 l).2.1)
/-- A text of at most most bytes. -/
def textG (most : Nat) (l : List UInt8) : Got (List UInt8) :=
  if (Take.texted l most (tk 0 0 l)).2.2 ≠ 0 then .bad (Take.texted l most (tk 0 0 l)).2.2 else .ok (Take.texted l most (tk 0 0 l)).1 (l.drop (Take.texted l most (tk 0 0 l)).2.1)
def byteG : List UInt8 → Got UInt8
  | [] => .bad 5
  | b :: r => .ok b r
def unfix (q : List UInt8) : Nat := q.foldl (fun n b => n * 256 + b.toNat) 0
def fixedG (l : List UInt8) : Got Nat := if l.length < 8 then .bad 5 else .ok (unfix (l.take 8)) (l.drop 8)

theorem numG_ok {most N : Nat} {l rest : List UInt8} (h : numG most l = .ok N rest) : (tk 0 0 l).2.2 = 0 ∧ (tk 0 0 l).1 = N ∧ ¬ most < (tk 0 0 l).1 ∧ rest = l.drop (tk 0 0 l).2.1 := by
  unfold numG at h
  split at h
  · cases h
  · rename_i h0
    split at h
    · cases h
    · rename_i h1
      injection h with h2 h3
      exact ⟨by omega, h2, h1, h3.symm⟩
theorem numG_bad {most E : Nat} {l : List UInt8} (h : numG most l = .bad E) : ((tk 0 0 l).2.2 ≠ 0 ∧ (tk 0 0 l).2.2 = E) ∨ ((tk 0 0 l).2.2 = 0 ∧ most < (tk 0 0 l).1 ∧ E = 6) := by
  unfold numG at h
  split at h
  · rename_i h0
    injection h with h1
    exact .inl ⟨h0, h1⟩
  · rename_i h0
    split at h
    · rename_i h1
      injection h with h2
      exact .inr ⟨by omega, h1, h2.symm⟩
    · cases h

set_option maxRecDepth 100000 in
/-- A number that is there. -/
theorem num_ok {PA : Option Addr} {PN : Nat} {L : List UInt8} (t most N : Nat) (l rest : List UInt8) (w : World) (h : TapeOn PA PN L w t l) (hP : Sees w PA PN L) (hl : l.length ≤ 1000000000) (hg : numG most l = .ok N rest) :
    Calls Tryz.prog 154 #[.pointer (some ⟨t, 0, none⟩), .int .u64 (most : Int)] w fun e w' => e = .returned (.int .u64 (N : Int)) ∧ TapeOn PA PN L w' t rest ∧ Beside [t] w w' := by
  obtain ⟨A, n, c, hb, hF, hc, hcm⟩ := h
  have hs := hF w hP
  have hn := hs.1
  have HB := Lib.hid hb
  obtain ⟨g0, g1, g2, rfl⟩ := numG_ok hg
  have hE : ((((tk 0 0 l).2.2 : Nat) : Int) == 0) = true := by rw [g0]; rfl
  have hgt : decide (most < N) = false := by simp; omega
  clear hg g2
  go_enter Tryz.func154, Tryz.ntmps154
  go_wp2_with fail
  refine (left_any t A n c w hb).mono ?_
  rintro e w1 ⟨rfl, rfl⟩
  go_wp2_with fail
  refine (Take.take_any A n c _ w hs hc (by omega)).mono ?_
  rintro e w1 ⟨A', c', rfl, hs', k, rfl, hp, hc', hcm'⟩
  rw [g0, g1]
  have HS := Lib.hid (fun W h => hp W (hF W h))
  have HCC := Lib.hid hc'
  have HCM := Lib.hid hcm'
  have GG := Lib.hid (And.intro g0 g1)
  clear hs' hp hc' hs hn hE g0 g1 hF hP
  go_wp2_with fail
  refine (move_any t A n c A' _ c' (w.drewN k) HB.out).mono ?_
  rintro e w2 ⟨rfl, rfl⟩
  go_wp2
  go_ret
  have hm := tape_on (w := w.drewN k) HB.out HS.out HCC.out HCM.out
  exact ⟨rfl, hm, ((Beside.refl [t] w).drewN k).setCell (by simp) _⟩
set_option maxRecDepth 100000 in
/-- No number: the tape gives up. -/
theorem num_bad (t most E : Nat) (l : List UInt8) (w : World) (h : TapeAt w t l) (hl : l.length ≤ 1000000000) (hg : numG most l = .bad E) :
    Calls Tryz.prog 154 #[.pointer (some ⟨t, 0, none⟩), .int .u64 (most : Int)] w fun e w' => e = fault E ∧ Beside [t] w w' := by
  obtain ⟨A, n, c, hb, hs, hc, hcm⟩ := h
  have hn := hs.1
  rcases numG_bad hg with ⟨g0, g1⟩ | ⟨g0, g1, rfl⟩
  · have hE : ((E : Int) == 0) = false := by rw [beq_eq_false_iff_ne]; omega
    have hE0 : E ≠ 0 := by omega
    have HE0 := Lib.hid hE0
    clear hg g0 hE0
    go_enter Tryz.func154, Tryz.ntmps154
    go_wp2_with fail
    refine (left_any t A n c w hb).mono ?_
    rintro e w1 ⟨rfl, rfl⟩
    go_wp2_with fail
    refine (Take.take_any A n c _ w hs hc (by omega)).mono ?_
    rintro e w1 ⟨A', c', rfl, hs', k, rfl, hp, hc', hcm'⟩
    rw [g1]
    clear hs' hp hc' hcm' hs hn hb g1
    go_wp2_with fail
    refine (move_bad _ _ E HE0.out _).mono ?_
    rintro e w2 ⟨rfl, rfl⟩
    unfold fault
    go_wp2
    exact ⟨rfl, rfl, (Beside.refl [t] w).drewN k⟩
  · have hE : ((((tk 0 0 l).2.2 : Nat) : Int) == 0) = true := by rw [g0]; rfl
    obtain ⟨N, hN⟩ : ∃ N, (tk 0 0 l).1 = N := ⟨_, rfl⟩
    rw [hN] at g1
    have hgt : decide (most < N) = true := by simp; omega
    clear hg hE g1
    go_enter Tryz.func154, Tryz.ntmps154
    go_wp2_with fail
    refine (left_any t A n c w hb).mono ?_
    rintro e w1 ⟨rfl, rfl⟩
    go_wp2_with fail
    refine (Take.take_any A n c _ w hs hc (by omega)).mono ?_
    rintro e w1 ⟨A', c', rfl, hs', k, rfl, hp, hc', hcm'⟩
    rw [g0, hN]
    clear hs' hp hc' hcm' hs hn hb g0 hN
    go_wp2_with fail
    refine (move_bad _ _ 6 (by decide) _).mono ?_
    rintro e w2 ⟨rfl, rfl⟩
    unfold fault
    go_wp2
    exact ⟨rfl, rfl, (Beside.refl [t] w).drewN k⟩

theorem textG_ok {most : Nat} {T l rest : List UInt8} (h : textG most l = .ok T rest) : (Take.texted l most (tk 0 0 l)).2.2 = 0 ∧ (Take.texted l most (tk 0 0 l)).1 = T ∧ rest = l.drop (Take.texted l most (tk 0 0 l)).2.1 := by
  unfold textG at h
  split at h
  · cases h
  · rename_i h0
    injection h with h2 h3
    exact ⟨by omega, h2, h3.symm⟩
theorem textG_bad {most E : Nat} {l : List UInt8} (h : textG most l = .bad E) : (Take.texted l most (tk 0 0 l)).2.2 ≠ 0 ∧ (Take.texted l most (tk 0 0 l)).2.2 = E := by
  unfold textG at h
  split at h
  · rename_i h0
    injection h with h1
    exact ⟨h0, h1⟩
  · cases h

set_option maxRecDepth 100000 in
/-- A text that is there: a copy. -/
theorem text_ok {PA : Option Addr} {PN : Nat} {L : List UInt8} (t most : Nat) (T l rest : List UInt8) (w : World) (h : TapeOn PA PN L w t l) (hP : Sees w PA PN L) (hl : l.length ≤ 1000000000) (hm : most ≤ 1000000000) (hg : textG most l = .ok T rest) :
    Calls Tryz.prog 218 #[.pointer (some ⟨t, 0, none⟩), .int .i64 (most : Int)] w fun e w' => ∃ B m k, e = .returned (.slice B m k) ∧ OwnC w' w.heap.size 5 B m k (cs T) ∧ TapeOn PA PN L w' t rest ∧ Beside [t] w w' := by
  obtain ⟨A, n, c, hb, hF, hc, hcm⟩ := h
  have hs := hF w hP
  have hn := hs.1
  have HB := Lib.hid hb
  obtain ⟨g0, g1, rfl⟩ := textG_ok hg
  clear hg
  go_enter Tryz.func218, Tryz.ntmps218
  go_wp2_with fail
  refine (left_any t A n c w hb).mono ?_
  rintro e w1 ⟨rfl, rfl⟩
  go_wp2_with fail
  refine (Take.takeText_any A n c _ _ w hs hc (by omega) (by omega) (by omega)).mono ?_
  rintro e w1 ⟨B, m, k, A2, n2, c2, rfl, hown, hsee, hc2, hcm2, hbel⟩
  rw [g0]
  rw [g1] at hown
  have hlt := (Array.getElem?_eq_some_iff.1 hb).1
  have hb1 := (hbel.block t hlt).trans hb
  have HO := Lib.hid hown
  have HBEL := Lib.hid hbel
  have HS := Lib.hid (And.intro (fun W h => hsee W (hF W h)) (And.intro hc2 hcm2))
  have HLT := Lib.hid hlt
  clear hown hbel hsee hc2 hcm2 hs hn g0 g1 hb hlt hF hP
  go_wp2_with fail
  refine (move_any t A n c A2 n2 c2 w1 hb1).mono ?_
  rintro e w2 ⟨rfl, rfl⟩
  have HB1 := Lib.hid hb1
  clear hb1
  go_wp2
  go_ret
  have hm := tape_on (w := w1) HB1.out HS.out.1 HS.out.2.1 HS.out.2.2
  have hm2 : Beside [t] w1 (w1.setCell ⟨t, 0, none⟩ (.slice A2 n2 c2)) := (Beside.refl _ _).setCell (by simp) _
  exact ⟨B, m, k, rfl, OwnC.beside HO.out hm2 (fun x hx => by simp at hx; have := HLT.out; omega), hm, ((Beside.of_below HBEL.out [t])).trans hm2 fun x hx => .inl hx⟩
set_option maxRecDepth 100000 in
theorem text_bad (t most E : Nat) (l : List UInt8) (w : World) (h : TapeAt w t l) (hl : l.length ≤ 1000000000) (hm : most ≤ 1000000000) (hg : textG most l = .bad E) :
    Calls Tryz.prog 218 #[.pointer (some ⟨t, 0, none⟩), .int .i64 (most : Int)] w fun e w' => e = fault E ∧ Beside [t] w w' := by
  obtain ⟨A, n, c, hb, hs, hc, hcm⟩ := h
  have hn := hs.1
  obtain ⟨g0, g1⟩ := textG_bad hg
  have hE0 : E ≠ 0 := by omega
  have HE0 := Lib.hid hE0
  clear hg g0 hE0
  go_enter Tryz.func218, Tryz.ntmps218
  go_wp2_with fail
  refine (left_any t A n c w hb).mono ?_
  rintro e w1 ⟨rfl, rfl⟩
  go_wp2_with fail
  refine (Take.takeText_any A n c _ _ w hs hc (by omega) (by omega) (by omega)).mono ?_
  rintro e w1 ⟨B, m, k, A2, n2, c2, rfl, hown, hsee, hc2, hcm2, hbel⟩
  rw [g1]
  clear hown hsee hc2 hcm2 hs hn hb g1
  have HBEL := Lib.hid hbel
  clear hbel
  go_wp2_with fail
  refine (move_bad _ _ E HE0.out _).mono ?_
  rintro e w2 ⟨rfl, rfl⟩
  unfold fault
  go_wp2
  exact ⟨rfl, rfl, Beside.of_below HBEL.out [t]⟩

set_option maxRecDepth 100000 in
/-- The next bytes, where they lie. -/
theorem next_ok {PA : Option Addr} {PN : Nat} {L : List UInt8} (t k : Nat) (l : List UInt8) (w : World) (h : TapeOn PA PN L w t l) (hP : Sees w PA PN L) (hk0 : 0 < k) (hk : k ≤ l.length) (hl : l.length ≤ 1000000000) :
    Calls Tryz.prog 213 #[.pointer (some ⟨t, 0, none⟩), .int .i64 (k : Int)] w fun e w' => ∃ B c, e = .returned (.slice B k c) ∧ Sees w' B k (l.take k) ∧ k ≤ c ∧ c ≤ 9223372036854775807 ∧ TapeOn PA PN L w' t (l.drop k) ∧ Beside [t] w w' := by
  obtain ⟨A, n, c, hb, hF, hc, hcm⟩ := h
  have hs := hF w hP
  have hn := hs.1
  have hoff := sees_off hb hs
  obtain ⟨g, o, rfl, hcell⟩ := hs.2 (by omega)
  have hcut : ∀ A', (∀ b o', k < n → (some ⟨g, o, none⟩ : Option Addr) = some ⟨b, o', none⟩ → A' = some ⟨b, o' + k, none⟩) → ∀ W, Sees W PA PN L → Sees W A' (n - k) (l.drop k) := fun A' hA W hW => (hF W hW).cut (by omega) hA
  have htake := hs.take (k := k) (by omega)
  have hot : Out [t] (some ⟨g, o, none⟩) k := fun _ => hoff (by omega)
  have HT := Lib.hid (And.intro htake hot)
  have HC := Lib.hid hcut
  have HB := Lib.hid hb
  have d1 : decide (n < k) = false := by simp; omega
  have kc : k ≤ c := by omega
  have kn : k ≤ n := by omega
  have HN := Lib.hid hn
  clear hs hcell hoff hcut htake hot hn hF hP
  go_enter Tryz.func213, Tryz.ntmps213
  go_wp2_with fail
  refine (left_any t _ n c w hb).mono ?_
  rintro e w1 ⟨rfl, rfl⟩
  go_wp2_with fail
  all_goals refine (move_any t _ n c _ _ _ _ hb).mono ?_
  all_goals rintro e w1 ⟨rfl, rfl⟩
  all_goals go_wp2
  all_goals go_ret
  all_goals refine ⟨_, _, rfl, HT.out.1.beside ((Beside.refl [t] _).setCell (p := ⟨t, 0, none⟩) (by simp) _) HT.out.2, by omega, by omega, tape_on HB.out (HC.out _ ?_) (by omega) (by omega), (Beside.refl _ _).setCell (by simp) _⟩
  all_goals intro b o' h e
  all_goals first | omega | (injection e with e; injection e with e1 e2; subst e1; subst e2; rfl)
set_option maxRecDepth 100000 in
theorem next_bad (t k : Nat) (l : List UInt8) (w : World) (h : TapeAt w t l) (hk : l.length < k) (hk2 : k ≤ 100) :
    Calls Tryz.prog 213 #[.pointer (some ⟨t, 0, none⟩), .int .i64 (k : Int)] w fun e w' => e = fault 5 ∧ w = w' := by
  obtain ⟨A, n, c, hb, hs, hc, hcm⟩ := h
  have hn := hs.1
  have d1 : decide (n < k) = true := by simp; omega
  clear hs hn hk
  unfold fault
  go_enter Tryz.func213, Tryz.ntmps213
  go_wp2_with fail
  refine (left_any t _ n c w hb).mono ?_
  rintro e w1 ⟨rfl, rfl⟩
  go_wp2
  exact ⟨rfl, rfl, rfl⟩

set_option maxRecDepth 100000 in
theorem byte_bad (t : Nat) (w : World) (h : TapeAt w t []) :
    Calls Tryz.prog 152 #[.pointer (some ⟨t, 0, none⟩)] w fun e w' => e = fault 5 ∧ w = w' := by
  go_enter Tryz.func152, Tryz.ntmps152
  go_wp2_with fail
  refine (next_bad t 1 [] w h (by simp) (by omega)).mono ?_
  rintro e w1 ⟨rfl, rfl⟩
  unfold fault
  go_wp2
  exact ⟨rfl, rfl, rfl⟩
set_option maxRecDepth 100000 in
theorem fixed_bad (t : Nat) (l : List UInt8) (w : World) (h : TapeAt w t l) (hl : l.length < 8) :
    Calls Tryz.prog 290 #[.pointer (some ⟨t, 0, none⟩)] w fun e w' => e = fault 5 ∧ w = w' := by
  go_enter Tryz.func290, Tryz.ntmps290
  go_wp2_with fail
  refine (next_bad t 8 l w h hl (by omega)).mono ?_
  rintro e w1 ⟨rfl, rfl⟩
  unfold fault
  go_wp2
  exact ⟨rfl, rfl, rfl⟩

theorem unfix_snoc (q : List UInt8) (b : UInt8) : unfix (q ++ [b]) = unfix q * 256 + b.toNat := by
  unfold unfix
  rw [List.foldl_append]
  rfl
theorem unfix_lt (q : List UInt8) : ∀ k, q.length = k → unfix q < 256 ^ k := by
  intro k
  induction k generalizing q with
  | zero => intro h; have := List.eq_nil_of_length_eq_zero h; subst this; simp [unfix]
  | succ k ih =>
    intro h
    rcases List.eq_nil_or_concat q with rfl | ⟨r, b, rfl⟩
    · simp at h
    · rw [List.concat_eq_append] at *
      rw [unfix_snoc]
      have := ih r (by simpa using h)
      have hb := b.toNat_lt
      rw [Nat.pow_succ]
      omega
theorem or_byte (m b : Nat) (hm : m < 72057594037927936) (hb : b < 256) : bits .or .u64 ((m * 256 : Nat) : Int) (b : Int) = ((m * 256 + b : Nat) : Int) := by
  have := u64_or_nat (m * 256) b (by omega) (by omega)
  rw [this]
  congr 1
  have e := Nat.two_pow_add_eq_or_of_lt (i := 8) (b := b) (by omega) m
  rw [show 2 ^ 8 * m = m * 256 by omega] at e
  exact e.symm

set_option maxRecDepth 100000 in
theorem byte_ok {PA : Option Addr} {PN : Nat} {L : List UInt8} (t : Nat) (b : UInt8) (l : List UInt8) (w : World) (h : TapeOn PA PN L w t (b :: l)) (hP : Sees w PA PN L) (hl : l.length ≤ 900000000) :
    Calls Tryz.prog 152 #[.pointer (some ⟨t, 0, none⟩)] w fun e w' => e = .returned (.int .u8 (b.toNat : Int)) ∧ TapeOn PA PN L w' t l ∧ Beside [t] w w' := by
  go_enter Tryz.func152, Tryz.ntmps152
  go_wp2_with fail
  refine (next_ok t 1 (b :: l) w h hP (by omega) (by simp) (by simp; omega)).mono ?_
  rintro e w1 ⟨B, c, rfl, hs, hc, hcm, ht, hbe⟩
  have FIN := Lib.hid (And.intro ht hbe)
  obtain ⟨g, o, rfl, hcell⟩ := hs.2 (by omega)
  have c0 := hcell 0 b rfl
  rw [Nat.add_zero] at c0
  clear ht hbe hs hcell h hP hl
  go_wp2
  go_ret
  exact ⟨rfl, FIN.out⟩
set_option maxRecDepth 100000 in
theorem fixed_ok {PA : Option Addr} {PN : Nat} {L : List UInt8} (t : Nat) (l : List UInt8) (w : World) (h : TapeOn PA PN L w t l) (hP : Sees w PA PN L) (hl8 : 8 ≤ l.length) (hl : l.length ≤ 1000000000) :
    Calls Tryz.prog 290 #[.pointer (some ⟨t, 0, none⟩)] w fun e w' => e = .returned (.int .u64 (unfix (l.take 8) : Int)) ∧ TapeOn PA PN L w' t (l.drop 8) ∧ Beside [t] w w' := by
  go_enter Tryz.func290, Tryz.ntmps290
  go_wp2_with fail
  refine (next_ok t 8 l w h hP (by omega) hl8 hl).mono ?_
  rintro e w1 ⟨B, c, rfl, hs, hc, hcm, ht, hbe⟩
  have FIN := Lib.hid (And.intro ht hbe)
  clear ht hbe
  obtain ⟨q, hq⟩ : ∃ q, l.take 8 = q := ⟨_, rfl⟩
  rw [hq] at hs
  have HQ := Lib.hid hq
  have hql : q.length = 8 := hs.1
  obtain ⟨g, o, rfl, hcell⟩ := hs.2 (by omega)
  have HC := Lib.hid hcell
  clear hq hs hcell h hl hl8 hP
  go_wp2_with fail
  go_loop [3, 9] (fun v i => ∃ j : Nat, j ≤ 8 ∧ v = .int .u64 (unfix (q.take j) : Int) ∧ i = .int .i64 (j : Int)) (fun _ i => 8 - (intOf i).toNat)
  case atStart => exact ⟨0, by omega, rfl, rfl⟩
  case round =>
    obtain ⟨j, hj, rfl, rfl⟩ := hrel
    by_cases hlt : j < 8
    · have hjl : j < q.length := by omega
      have hc1 := HC.out j q[j] (List.getElem?_eq_getElem hjl)
      have hsn : unfix (q.take (j + 1)) = unfix (q.take j) * 256 + q[j].toNat := by
        rw [List.take_succ_eq_append_getElem hjl, unfix_snoc]
      have hm := unfix_lt (q.take j) j (by simp; omega)
      have hm7 : unfix (q.take j) < 72057594037927936 := Nat.lt_of_lt_of_le hm (by
        have := Nat.pow_le_pow_right (n := 256) (by omega) (show j ≤ 7 by omega)
        omega)
      have hb8 := q[j].toNat_lt
      have HS := Lib.hid hsn
      have HM := Lib.hid (And.intro hm7 hb8)
      clear hsn hm hm7 hb8
      generalize unfix (q.take j) = m at HM HS ⊢
      generalize q[j].toNat = b at HM HS hc1 ⊢
      go_wp2
      go_round
      case rel =>
        obtain ⟨hm7, hb8⟩ := HM.out
        refine ⟨j + 1, by omega, ?_, by go_num⟩
        rw [HS.out, wrap_in b (by omega), show (m : Int) * 256 = ((m * 256 : Nat) : Int) by simp, wrap_in (m * 256) (by omega), or_byte m b hm7 hb8]
      case measure => simp [intOf]; omega
    · obtain rfl : j = 8 := by omega
      go_wp2
      go_ret
      refine ⟨?_, FIN.out⟩
      rw [HQ.out, List.take_of_length_le (by omega)]
      rfl

set_option maxRecDepth 100000 in
/-- Something is left. -/
theorem done_bad (t : Nat) (l : List UInt8) (w : World) (h : TapeAt w t l) (hl : 0 < l.length) :
    Calls Tryz.prog 96 #[.pointer (some ⟨t, 0, none⟩)] w fun e w' => e = fault 4 ∧ w = w' := by
  obtain ⟨A, n, c, hb, hs, hc, hcm⟩ := h
  have hn := hs.1
  have hn' : (0 : Int) < (n : Int) := by omega
  unfold fault
  go_enter Tryz.func96, Tryz.ntmps96
  go_wp2_with fail
  refine (left_any t A n c w hb).mono ?_
  rintro e w1 ⟨rfl, rfl⟩
  go_wp2
  exact ⟨rfl, rfl, rfl⟩

/-- The error has been stored. -/
def Stored (p E : Nat) (T : TypeId) (w W : World) : Prop := W.heap[p]? = some (.cells #[.int .i64 (E : Int)] T (0, 0)) ∧ Beside [p] w W
theorem caught_tmps (x V : Value) : #[x] ++ (Array.replicate 16 undef).setIfInBounds 4 V = #[x, undef, undef, undef, undef, V, undef, undef, undef, undef, undef, undef, undef, undef, undef, undef, undef] := rfl
/-- Caught, behind a tape that has given up: the error is stored, and the panic is over. -/
theorem caught_bad (p E : Nat) (older : List PanicEntry) (w : World) (old : Int) (T : TypeId) (h : w.heap[p]? = some (.cells #[.int .i64 old] T (0, 0))) :
    CallsD Tryz.prog 92 #[.pointer (some ⟨p, 0, none⟩)] (.panicking ({ v := .iface 222 (.agg #[.int .i64 (E : Int)]), recovered := false } :: older)) w fun e u' w' => e = .returned (.tuple #[]) ∧
      u' = .panicking ({ v := .iface 222 (.agg #[.int .i64 (E : Int)]), recovered := true } :: older) ∧ Stored p E T w w' := by
  refine callsD_of_wpS Tryz.func92 rfl fun c₀ cs hu => ?_
  apply wpS_seq
  apply wpS_region
  simp [wpOpsS, go_sem, recoverD, hu, Tryz.ntmps92, Exit.thenS]
  have hp := (Array.getElem?_eq_some_iff.1 h).1
  have hc := cell_of_row w p 0 _ _ _ h
  have hc0 : w.cell? ⟨p, 0, none⟩ = some (.int .i64 old) := by rw [hc]; rfl
  have hf0 : w.frozen? ⟨p, 0, none⟩ = false := frozen_row0 h
  refine wpS_of_wp (wp_mono (Q := fun e a W => (e = .normal ∨ e = .ret) ∧ a.defers = [] ∧ Stored p E T w W) ?_ ?_)
  · rw [caught_tmps]
    have hnil : ∀ W : World, (binOp .eql 20 (Value.iface 222 (.agg #[.int .i64 (E : Int)])) .nilIface).run Tryz.prog W = .ok (.bool false) W := fun W => by kernel_rfl
    have hta : ∀ W : World, (Instr.typeAssert (Value.iface 222 (.agg #[.int .i64 (E : Int)])) 20 222 true).run Tryz.prog W = .ok (.tuple #[.agg #[.int .i64 (E : Int)], .bool true]) W := fun W => by kernel_rfl
    have HH := Lib.hid h
    clear h hc
    go_wp2
    refine ⟨?_, ((Beside.refl [p] w).setCell (by simp) _).alloc _⟩
    rw [Below.heap_alloc _ _ _ (by simpa using hp)]
    exact (heapSame HH.out).trans rfl
  · rintro e a W ⟨he, hd, h1⟩
    cases c₀
    rcases he with rfl | rfl <;> simp_all [bodyPostS, results, Tryz.results92]
end Go.Proofs.YtinjbdgjcadodaaGreatDoor.Tape
