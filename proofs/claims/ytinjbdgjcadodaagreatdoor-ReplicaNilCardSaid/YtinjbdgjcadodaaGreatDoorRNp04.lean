/- Texts of the law ReplicaNil, put together. -/
import Derived.Test.YtinjbdgjcadodaaGreatDoorRows
import Derived.Handy
import Derived.Lib.Hide
import Derived.Lib.BitFns
import Derived.WalkLawsBesides
import Derived.Test.YtinjbdgjcadodaaGreatDoorRNp01
import Derived.Test.YtinjbdgjcadodaaGreatDoorRNp02
import Derived.Test.YtinjbdgjcadodaaGreatDoorRNp03
set_option linter.unusedVariables false
set_option maxRecDepth 100000
namespace Go.Proofs.YtinjbdgjcadodaaGreatDoor.Len
open Go Go.RowKit Enc
theorem bitLen_small : ∀ m : Fin 128, 1 ≤ m.val → (Lib.bitLen m.val + 6) / 7 = 1 := by decide +kernel
theorem bitLen_enc : ∀ m : Nat, 1 ≤ m → m < 2 ^ 64 → (Lib.bitLen m + 6) / 7 = (enc m).length := by
 intro m
 induction m using Nat.strongRecOn with
 | _ m ih =>
   intro h1 h2
   by_cases hm : m < 128
   ·rw [enc_small hm]; exact bitLen_small ⟨m, hm⟩ h1
   ·have h : Lib.bitLen m = 7 + Lib.bitLen (m / 128) := Lib.bitLen_shift 7 m (by omega) h2
    have h' := ih (m / 128) (by omega) (by omega) (by omega)
    rw [enc_great hm, h]
    simp only [List.length_cons]
    rw [← h']
    omega
theorem or_one (n : Nat) : n ||| 1 = n / 2 * 2 + 1 := by
 apply Nat.eq_of_testBit_eq
 intro i
 rw [Nat.testBit_or]
 cases i with
 | zero => simp [Nat.testBit_zero]
 | succ i => simp [Nat.testBit_succ, show (n / 2 * 2 + 1) / 2 = n / 2 by omega]
theorem size_enc (n : Nat) (h : n < 2 ^ 64) : (Lib.bitLen (n ||| 1) + 6) / 7 = (enc n).length := by
 by_cases h0 : n = 0
 ·subst h0
  rw [enc_small (by omega)]
  decide +kernel
 ·rw [← bitLen_enc n (by omega) h]
  by_cases h1 : n = 1
  ·subst h1; rfl
  ·rw [or_one, Lib.bitLen_half _ (by omega) (by omega), Lib.bitLen_half n (by omega) h, show (n / 2 * 2 + 1) / 2 = n / 2 by omega]
set_option maxRecDepth 10000 in
theorem size_any (x : Int) (w : World) (h0 : 0 ≤ x) (h1 : x < 18446744073709551616) :
  Calls Tryz.prog 210 #[.int .u64 x] w fun e w' => e = .returned (.int .i64 ((enc x.toNat).length : Int)) ∧ w' = w := by
 obtain ⟨n, rfl⟩ := Int.eq_ofNat_of_zero_le h0
 rw [Int.toNat_natCast]
 have hor : bits .or .u64 (n : Int) 1 = ((n ||| 1 : Nat) : Int) := u64_or_nat n 1 (by omega) (by omega)
 have hs := size_enc n (by omega)
 have HS := Lib.hid hs
 clear hs
 have hlt : ((n ||| 1 : Nat) : Int) ≤ 18446744073709551615 := by rw [or_one]; omega
 go_enter Tryz.func210, Tryz.ntmps210
 go_wp2_with fail
 refine (Tryz.bits_Len64 _ _ (by omega) hlt).mono ?_
 rintro e w' ⟨rfl, rfl⟩
 rw [Int.toNat_natCast]
 have hb : Lib.bitLen (n ||| 1) ≤ 64 := Lib.bitLen_le _ 64 (Nat.le_refl _) (by omega)
 generalize Lib.bitLen (n ||| 1) = b at HS hb ⊢
 go_wp2
 go_ret
 have h := HS.out
 rw [← h]
 exact ⟨by simp; omega, rfl⟩
end Go.Proofs.YtinjbdgjcadodaaGreatDoor.Len
namespace Go.Proofs.YtinjbdgjcadodaaGreatDoor.Made
open Go Go.RowKit Words Enc
theorem lay_any (A : Option Addr) (n c : Nat) (l : List UInt8) (x : Int) (w : World) (hs : Sees w A n l) (hn : n ≤ 1000000000) (hx0 : 0 ≤ x) (hx : x < 18446744073709551616) :
  Calls Tryz.prog 143 #[.slice A n c, .int .u64 x] w (New w.heap.size (n + (enc x.toNat).length) (l ++ enc x.toNat) w) := by
 have he := enc_ten (n := x.toNat) (by omega)
 go_enter Tryz.func143, Tryz.ntmps143
 go_wp2_with fail
 refine (Len.size_any x _ hx0 hx).mono ?_
 rintro e w' ⟨rfl, rfl⟩
 go_wp2_with fail
 refine (roomy_any A n c l _ _ hs hn (by omega) (by omega)).mono ?_
 rintro e w1 ⟨A1, c1, rfl, hown, hb⟩
 go_wp2_with fail
 have hsz := hb.size
 refine (layOn_any w'.heap.size A1 n c1 l x w1 hown hsz hn hx0 hx).mono ?_
 rintro e w2 ⟨A2, c2, rfl, hown2, hb2⟩
 go_wp2
 go_ret
 exact ⟨A2, c2, rfl, hown2, hb.trans hb2⟩
theorem layText_any (A : Option Addr) (n c : Nat) (l : List UInt8) (S : Option Addr) (m k : Nat) (q : List UInt8) (w : World) (hs : Sees w A n l) (hq : Sees w S m q) (hn : n ≤ 900000000) (hm : m ≤ 900000000) :
  Calls Tryz.prog 144 #[.slice A n c, .slice S m k] w (New w.heap.size (n + (enc m).length + m) (l ++ enc m ++ q) w) := by
 obtain ⟨i, hi, hz, hsz, hby⟩ := info_parts info8
 have he := enc_ten (n := m) (by omega)
 go_enter Tryz.func144, Tryz.ntmps144
 go_wp2_with fail
 refine (Len.size_any _ _ (by omega) (by omega)).mono ?_
 rintro e w' ⟨rfl, rfl⟩
 rw [Int.toNat_natCast]
 go_wp2_with fail
 refine (roomy_any A n c l _ _ hs (by omega) (by omega) (by omega)).mono ?_
 rintro e w1 ⟨A1, c1, rfl, hown, hb⟩
 have hsz := hb.size
 go_wp2_with fail
 refine (layOn_any w'.heap.size A1 n c1 l _ w1 hown hsz (by omega) (by omega) (by omega)).mono ?_
 rw [Int.toNat_natCast]
 rintro e w2 ⟨A2, c2, rfl, hown2, hb2⟩
 have b2 := hb.trans hb2
 have hq2 := hq.below b2
 have hsz2 := b2.size
 go_wp2_with (first | (at_builtin; refine wpList_app rfl _ _ 28 rfl w'.heap.size 5 i (.int .u8 0) Tryz.underlying28 hi hz (by assumption) hby rfl A2 (n + (enc m).length) c2 (l ++ enc m) rfl hown2 S m k q rfl hq2 ?d1 ?d2 ?_))
 case d1 => omega
 case d2 => exact hsz2
 intro A3 c3 w3 hown3 hb3
 go_wp2
 go_ret
 rw [List.append_assoc]
 exact ⟨A3, c3, rfl, hown3, b2.trans hb3⟩
theorem layFixed_any (A : Option Addr) (n c : Nat) (l : List UInt8) (x : Int) (w : World) (hs : Sees w A n l) (hn : n ≤ 1000000000) (hx0 : 0 ≤ x) (hx : x < 18446744073709551616) :
  Calls Tryz.prog 231 #[.slice A n c, .int .u64 x] w (New w.heap.size (n + 8) (l ++ fix x.toNat) w) := by
 obtain ⟨i, hi, hz, hsz, hby⟩ := info_parts info8
 go_enter Tryz.func231, Tryz.ntmps231
 go_wp2_with fail
 refine (roomy_any A n c l _ _ hs hn (by omega) (by omega)).mono ?_
 rintro e w1 ⟨A1, c1, rfl, hown, hb1⟩
 have hbase := hb1.size
 go_wp2_with fail
 go_loopw [0, 8] (fun p v wr => ∃ (A' : Option Addr) (c' k : Nat), p = .slice A' (n + k) c' ∧ v = .int .i64 (k : Int) ∧ k ≤ 8 ∧
   wr.ownsRow w.heap.size 5 1 (.slice A' (n + k) c') (n + k) (cs (l ++ (fix x.toNat).take k)) ∧ Below w.heap.size w wr) (fun _ v _ => 8 - (intOf v).toNat)
 case atStart => exact ⟨A1, c1, 0, rfl, rfl, by omega, by simpa using hown, hb1⟩
 case round =>
  obtain ⟨A', c', k, rfl, rfl, hk, hown', hb⟩ := hrel
  have hwb := hb.size
  by_cases hlt : k < 8
  ·go_wp2_with (first | (at_builtin; refine wpList_app rfl _ _ 28 rfl w.heap.size 5 i (.int .u8 0) Tryz.underlying28 hi hz hsz hby rfl A' (n + k) c' _ rfl (hown'.alloc _) _ 1 1 [b8 (x.toNat / 256 ^ (7 - k) % 256)] rfl (Sees.fresh wr _ _ _ ?e1) ?e2 ?e3 ?_))
   case e1 => exact fix_byte x k hx0
   case e2 => omega
   case e3 => exact Nat.le_trans hwb (by simp)
   intro A2 c2 w2 hown2 hb2
   go_wp2
   go_roundw
   case rel => exact ⟨A2, c2, k + 1, rfl, by go_num, by omega, by rw [fix_take _ _ hlt]; exact hown2, (hb.alloc hwb _).trans hb2⟩
   case measure => simp [intOf]; omega
  ·have hk8 : k = 8 := by omega
   subst hk8
   go_wp2
   go_ret
   exact ⟨A', c', rfl, by rw [List.take_of_length_le (by simp [fix_length])] at hown'; exact hown', hb⟩
end Go.Proofs.YtinjbdgjcadodaaGreatDoor.Made
namespace Go.Proofs.YtinjbdgjcadodaaGreatDoor.Dsk
open Go Go.RowKit Words
theorem clone_bytes (A : Option Addr) (n c : Nat) (l : List UInt8) (w : World) (hs : Sees w A n l) (hn : n ≤ 100000000000000) :
  Calls Tryz.prog 74 #[.slice A n c] w fun e w' => ∃ A' c', e = .returned (.slice A' n c') ∧ w'.ownsRow w.heap.size 5 1 (.slice A' n c') n (cs l) ∧ Below w.heap.size w w' := by
 cases A with
 | none =>
   refine (Tryz.bytes_Clone_nil n c w).mono ?_
   rintro e w' ⟨rfl, rfl⟩
   have h0 : n = 0 := by
    rcases Nat.eq_zero_or_pos n with h | h
    ·exact h
    ·obtain ⟨b, o, e, _⟩ := hs.2 h
     cases e
   subst h0
   have hl0 : l = [] := List.eq_nil_of_length_eq_zero hs.1
   subst hl0
   exact ⟨none, 0, rfl, Own.nil _ _ _, Below.refl _ _⟩
 | some a =>
   have hl := hs.1
   refine (Tryz.bytes_Clone_at a n c (l.map fun b => (b.toNat : Int)) w (by simpa using hl) (by omega) fun i hi => ?_).mono ?_
   ·obtain ⟨b, o, e, hc⟩ := hs.2 (by omega)
    injection e with e
    subst e
    have hil : i < l.length := by omega
    rw [add_plain, hc i l[i] (List.getElem?_eq_getElem hil)]
    simp [hil]
   ·rintro e w' ⟨v', rfl, hown, _, hb⟩
    rw [List.map_map] at hown
    obtain ⟨A', c', rfl, _⟩ := Own.shape hown
    exact ⟨A', c', rfl, hown, hb⟩
end Go.Proofs.YtinjbdgjcadodaaGreatDoor.Dsk
namespace Go.Proofs.YtinjbdgjcadodaaGreatDoor.Take
open Go Go.RowKit Words Enc
theorem clone_any (A : Option Addr) (n c : Nat) (l : List UInt8) (w : World) (hs : Sees w A n l) (hn : n ≤ 1000000000) :
  Calls Tryz.prog 74 #[.slice A n c] w fun e w' => ∃ A' c', e = .returned (.slice A' n c') ∧ w'.ownsRow w.heap.size 5 1 (.slice A' n c') n (cs l) ∧ Below w.heap.size w w' := by
 cases A with
 | none =>
   refine (Tryz.bytes_Clone_nil n c w).mono ?_
   rintro e w' ⟨rfl, rfl⟩
   have h0 : n = 0 := by
    rcases Nat.eq_zero_or_pos n with h | h
    ·exact h
    ·obtain ⟨b, o, e, _⟩ := hs.2 h
     cases e
   subst h0
   have hl0 : l = [] := List.eq_nil_of_length_eq_zero hs.1
   subst hl0
   exact ⟨none, 0, rfl, Own.nil _ _ _, Below.refl _ _⟩
 | some a =>
   have hl := hs.1
   refine (Tryz.bytes_Clone_at a n c (l.map fun b => (b.toNat : Int)) w (by simpa using hl) (by omega) fun i hi => ?_).mono ?_
   ·obtain ⟨b, o, e, hc⟩ := hs.2 (by omega)
    injection e with e
    subst e
    have hil : i < l.length := by omega
    rw [add_plain, hc i l[i] (List.getElem?_eq_getElem hil)]
    simp [hil]
   ·rintro e w' ⟨v', rfl, hown, _, hb⟩
    rw [List.map_map] at hown
    obtain ⟨A', c', rfl, _⟩ := Own.shape hown
    exact ⟨A', c', rfl, hown, hb⟩
end Go.Proofs.YtinjbdgjcadodaaGreatDoor.Take
namespace Go.Proofs.YtinjbdgjcadodaaGreatDoor.Chk
open Go Go.RowKit Words Enc Go.Proofs.YtinjbdgjcadodaaGreatDoor.Made
theorem below_drewN (w : World) (d : Nat) : Below w.heap.size w (w.drewN d) := ⟨rfl, rfl, rfl, Nat.le_refl _, fun _ _ => rfl⟩
theorem seal_any (A : Option Addr) (n c : Nat) (l : List UInt8) (w : World) (T : Tabs w) (hs : Sees w A n l) (hn : n ≤ 1000000000) :
  Calls Tryz.prog 145 #[.slice A n c] w fun e w' => ∃ g, e = .returned (.slice (some ⟨g, 0, none⟩) 4 4) ∧ Sees w' (some ⟨g, 0, none⟩) 4 (four (Crc.sum l)) ∧ Below w.heap.size w w' := by
 go_enter Tryz.func145, Tryz.ntmps145
 go_wp2_with fail
 refine (sum_any A n c l w T hs hn).mono ?_
 rintro e w1 ⟨rfl, d, rfl⟩
 obtain ⟨s, hse⟩ : ∃ s, s = Crc.sum l := ⟨_, rfl⟩
 rw [← hse]
 have HS := Lib.hid hse
 clear hse
 have h1 := s.isLt
 go_wp2
 go_ret
 rw [← HS.out]
 exact ⟨w.heap.size, rfl, sees_four (w.drewN d) _ s _ _ _ _ (by rw [b8_toNat]; omega) (by rw [b8_toNat]; omega) (by rw [b8_toNat]; omega) (by rw [b8_toNat]; omega), (below_drewN w d).alloc (Nat.le_refl _) _⟩
theorem pair_all (w : World) (e : TypeId) (A1 : Option Addr) (n1 c1 : Nat) (l1 : List UInt8) (A2 : Option Addr) (n2 c2 : Nat) (l2 : List UInt8) (h1 : Sees w A1 n1 l1) (h2 : Sees w A2 n2 l2) (hc1 : n1 ≤ c1) (hc2 : n2 ≤ c2) :
  SeesAll (w.alloc (.cells #[.slice A1 n1 c1, .slice A2 n2 c2] e)) (some ⟨w.heap.size, 0, none⟩) 2 [l1, l2] := by
 have hb : Below w.heap.size w (w.alloc (.cells #[.slice A1 n1 c1, .slice A2 n2 c2] e)) := (Below.refl _ _).alloc (Nat.le_refl _) _
 have k1 := h1.below hb
 have k2 := h2.below hb
 have e1 := h1.1
 have e2 := h2.1
 subst e1
 subst e2
 refine ⟨[.slice A1 l1.length c1, .slice A2 l2.length c2], ((Each.nil _).snoc hc1 k1).snoc hc2 k2, rfl, fun _ => ⟨w.heap.size, 0, rfl, fun j v hv => ?_⟩⟩
 rw [cell_of_row _ w.heap.size (0 + j) _ e (0, 0) (heap_alloc_new w _), Nat.zero_add]
 simpa using hv
theorem wrap_new (A : Option Addr) (n c : Nat) (l : List UInt8) (w : World) (T : Tabs w) (hs : Sees w A n l) (hc : n ≤ c) (hn : n ≤ 600000000) :
  Calls Tryz.prog 89 #[.slice A n c] w (New w.heap.size ((enc n).length + n + 4) (wrap l) w) := by
 have hl := hs.1
 have he := enc_ten (n := n) (by omega)
 go_enter Tryz.func89, Tryz.ntmps89
 go_wp2_with fail
 refine (layText_any none 0 0 [] A n c l w (Sees.nil _ _) hs (by omega) (by omega)).mono ?_
 rintro e w1 ⟨A1, c1, rfl, hown, hb⟩
 rw [Nat.zero_add, List.nil_append] at *
 have hcap := Own.cap hown
 have hs1 := Sees.of_own hown
 go_wp2_with fail
 refine (seal_any A1 ((enc n).length + n) c1 (enc n ++ l) w1 (T.below hb) hs1 (by omega)).mono ?_
 rintro e w2 ⟨g, rfl, hsg, hb2⟩
 have hs2 := hs1.below hb2
 have b2 := hb.trans (hb2.mono hb.size)
 have hall := pair_all w2 28 A1 ((enc n).length + n) c1 (enc n ++ l) (some ⟨g, 0, none⟩) 4 4 (four (Crc.sum (enc n ++ l))) hs2 hsg hcap.1 (Nat.le_refl _)
 have htot : total [enc n ++ l, four (Crc.sum (enc n ++ l))] = (enc n).length + n + 4 := by simp [total, four_length, hl]
 have hfl : [enc n ++ l, four (Crc.sum (enc n ++ l))].flatten = wrap l := by unfold wrap; rw [hl]; simp
 go_wp2_with fail
 refine (concat_any _ 2 2 _ _ hall (by omega) (by omega)).mono ?_
 rw [htot, hfl]
 rintro e w3 ⟨A3, c3, rfl, hown3, hb3⟩
 have b3 := (b2.alloc b2.size (.cells #[.slice A1 ((enc n).length + n) c1, .slice (some ⟨g, 0, none⟩) 4 4] 28)).trans (hb3.mono (Nat.le_trans b2.size (by simp)))
 have h3 : w3.ownsRow w.heap.size 5 1 (.slice A3 ((enc n).length + n + 4) c3) ((enc n).length + n + 4) (cs (wrap l)) := Own.lower hown3 (Nat.le_trans b2.size (by simp))
 clear hall htot hfl hown hown3
 go_wp2
 go_ret
 exact ⟨A3, c3, rfl, h3, b3⟩
theorem sizeOk : SizeSaid := by
 intro m w h1 h2
 have hmx : max m 0 = (m.toNat : Int) := by omega
 obtain ⟨k, hk⟩ : ∃ k, k = m.toNat := ⟨_, rfl⟩
 rw [← hk] at hmx ⊢
 have hk2 : k ≤ 1000000000 := by omega
 have HK := Lib.hid hk
 clear hk
 have he := enc_ten (n := k) (by omega)
 go_enter Tryz.func255, Tryz.ntmps255
 go_wp2_with fail
 refine (Len.size_any _ _ (by omega) (by omega)).mono ?_
 rintro e w' ⟨rfl, rfl⟩
 rw [Int.toNat_natCast]
 go_wp2
 go_ret
 exact ⟨by congr 2, Below.refl _ _⟩
end Go.Proofs.YtinjbdgjcadodaaGreatDoor.Chk
namespace Go.Proofs.YtinjbdgjcadodaaGreatDoor.Tape
open Go Go.RowKit Words Enc
inductive Got (α : Type) where
 | bad (E : Nat)
 | ok (v : α) (rest : List UInt8)
def TapeOn (PA : Option Addr) (PN : Nat) (L : List UInt8) (w : World) (t : Nat) (l : List UInt8) : Prop :=
 ∃ A n c, w.heap[t]? = some (.cells #[.slice A n c] 225 (0, 0)) ∧ (∀ W, Sees W PA PN L → Sees W A n l) ∧ n ≤ c ∧ c ≤ 9223372036854775807
theorem TapeOn.at_ {PA : Option Addr} {PN : Nat} {L : List UInt8} {w : World} {t : Nat} {l : List UInt8} (h : TapeOn PA PN L w t l) (hs : Sees w PA PN L) : TapeAt w t l := by
 obtain ⟨A, n, c, h1, h2, h3⟩ := h
 exact ⟨A, n, c, h1, h2 w hs, h3⟩
def numG (most : Nat) (l : List UInt8) : Got Nat :=
 if (tk 0 0 l).2.2 ≠ 0 then .bad (tk 0 0 l).2.2 else if most < (tk 0 0 l).1 then .bad 6 else .ok (tk 0 0 l).1 (l.drop (tk 0 0 l).2.1)
def byteG : List UInt8 → Got UInt8
 | [] => .bad 5
 | b :: r => .ok b r
theorem numG_ok {most N : Nat} {l rest : List UInt8} (h : numG most l = .ok N rest) : (tk 0 0 l).2.2 = 0 ∧ (tk 0 0 l).1 = N ∧ ¬ most < (tk 0 0 l).1 ∧ rest = l.drop (tk 0 0 l).2.1 := by
 unfold numG at h
 split at h
 ·cases h
 ·rename_i h0
  split at h
  ·cases h
  ·rename_i h1
   injection h with h2 h3
   exact ⟨by omega, h2, h1, h3.symm⟩
theorem numG_bad {most E : Nat} {l : List UInt8} (h : numG most l = .bad E) : ((tk 0 0 l).2.2 ≠ 0 ∧ (tk 0 0 l).2.2 = E) ∨ ((tk 0 0 l).2.2 = 0 ∧ most < (tk 0 0 l).1 ∧ E = 6) := by
 unfold numG at h
 split at h
 ·rename_i h0
  injection h with h1
  exact .inl ⟨h0, h1⟩
 ·rename_i h0
  split at h
  ·rename_i h1
   injection h with h2
   exact .inr ⟨by omega, h1, h2.symm⟩
  ·cases h
end Go.Proofs.YtinjbdgjcadodaaGreatDoor.Tape
