/- The functions of package digits that make new bytes, and the document's own (package anabranchref01) beside them: each by a contract of its own. -/
import Derived.Test.YtiecjhdhhaldpaaRows
import Derived.Test.YtiecjhdhhaldpaaWords
import Derived.Test.YtiecjhdhhaldpaaEnc
import Derived.Test.YtiecjhdhhaldpaaLen
import Derived.Handy
namespace Go.Proofs.Ytiecjhdhhaldpaa.Made
open Go Go.RowKit Go.Proofs.Ytiecjhdhhaldpaa.Words Go.Proofs.Ytiecjhdhhaldpaa.Enc

set_option linter.unusedVariables false
theorem info8 : (Try.prog.info? 5).map (fun i => (i.zero, i.size, i.bytes)) = some (some (.int .u8 0), 1, 1) := by kernel_rfl

/-- n bytes, l, have been made above block base; what was below it is as it was. -/
def New (base : Nat) (n : Nat) (l : List UInt8) (w : World) (e : Ending) (w' : World) : Prop :=
  ∃ A c, e = .returned (.slice A n c) ∧ w'.ownsRow base 5 1 (.slice A n c) n (cs l) ∧ Below base w w'

/-- digits.roomy: a copy. -/
theorem roomy_any (A : Option Addr) (n c : Nat) (l : List UInt8) (k : Int) (w : World) (hs : Sees w A n l) (hn : n ≤ 1000000) (hk0 : 0 ≤ k) (hk : k ≤ 1000000) :
    Calls Try.prog 13 #[.slice A n c, .int .i64 k] w (New w.heap.size n l w) := by
  obtain ⟨i, hi, hz, hsz, hby⟩ := info_parts info8
  go_enter Try.func13, Try.ntmps13
  go_wp2_with (first | (at_make; refine wpList_make_own _ rfl _ _ 22 rfl w.heap.size 5 i (.int .u8 0) 1 Try.underlying22 hi hz hsz .i64 .i64 _ (n + k.toNat) rfl rfl ?c1 ?c2 ?c3 ?c4 ?_))
  case c1 => omega
  case c2 => rw [hby]; omega
  case c3 => unfold maxLen; omega
  case c4 => simp
  intro w1 hown hg
  have hb := (Below.refl w.heap.size w).grown hg (Nat.le_refl _) (fun k hk => by cases hk)
  have hs1 := hs.below hb
  have hsz1 := hb.size
  go_wp2_with (first | (at_builtin; refine wpList_app rfl _ _ 22 rfl w.heap.size 5 i (.int .u8 0) Try.underlying22 hi hz hsz hby rfl _ 0 _ [] rfl hown A n c l rfl hs1 ?d1 ?d2 ?_))
  case d1 => omega
  case d2 => exact hsz1
  intro A' c' w2 hown2 hb2
  go_wp2
  go_ret
  exact ⟨A', c', rfl, hown2, hb.trans hb2⟩
theorem layOn_any (base : Nat) (A : Option Addr) (n c : Nat) (l : List UInt8) (x : Int) (w : World) (hown : w.ownsRow base 5 1 (.slice A n c) n (cs l)) (hbase : base ≤ w.heap.size)
    (hn : n ≤ 1000000) (hx0 : 0 ≤ x) (hx : x < 18446744073709551616) :
    Calls Try.prog 12 #[.slice A n c, .int .u64 x] w (New base (n + (enc x.toNat).length) (l ++ enc x.toNat) w) := by
  obtain ⟨i, hi, hz, hsz, hby⟩ := info_parts info8
  go_enter Try.func12, Try.ntmps12
  go_wp2_with fail
  go_loopw [0, 1] (fun p v wr => ∃ (A' : Option Addr) (k c' : Nat) (q : List UInt8) (y : Int), p = .slice A' k c' ∧ v = .int .u64 y ∧ 0 ≤ y ∧ y < 18446744073709551616 ∧
      wr.ownsRow base 5 1 (.slice A' k c') k (cs q) ∧ Hid (q ++ enc y.toNat = l ++ enc x.toNat) ∧ Below base w wr) (fun _ v _ => (intOf v).toNat)
  case atStart => exact ⟨A, n, c, l, x, rfl, rfl, hx0, hx, hown, rfl, Below.refl _ _⟩
  case round =>
    obtain ⟨A', k, c', q, y, rfl, rfl, hy0, hy1, hown', hq, hb⟩ := hrel
    have hk : k ≤ 1000010 := by
      have h1 := congrArg List.length hq.out
      have h2 := hown'.1
      have h3 := hown.1
      have h4 := enc_ten (n := x.toNat) (by omega)
      rw [cs_length] at h2 h3
      simp only [List.length_append] at h1
      omega
    by_cases hlt : 128 ≤ y
    · have hwb := hb.size
      go_wp2_with (first | (at_builtin; refine wpList_app rfl _ _ 22 rfl base 5 i (.int .u8 0) Try.underlying22 hi hz hsz hby rfl A' k c' q rfl (hown'.alloc _) _ 1 1 [b8 (128 + y.toNat % 128)] rfl (Sees.fresh wr _ _ _ ?e1) ?e2 ?e3 ?_))
      case e1 => exact byte_or y hy0
      case e2 => omega
      case e3 => exact Nat.le_trans (Nat.le_trans hbase hwb) (by simp)
      intro A2 c2 w2 hown2 hb2
      go_wp2
      go_roundw
      case rel => exact ⟨A2, k + 1, c2, q ++ [b8 (128 + y.toNat % 128)], y / 128, rfl, rfl, by omega, by omega, hown2, by
        have h := hq.out
        rw [enc_great (by omega)] at h
        rw [show (y / 128).toNat = y.toNat / 128 by omega, ← h]
        simp [Hid], (hb.alloc (Nat.le_trans hbase hwb) _).trans hb2⟩
      case measure => simp [intOf]; omega
    · have hwb := hb.size
      go_wp2_with (first | (at_builtin; refine wpList_app rfl _ _ 22 rfl base 5 i (.int .u8 0) Try.underlying22 hi hz hsz hby rfl A' k c' q rfl (hown'.alloc _) _ 1 1 [b8 y.toNat] rfl (Sees.fresh wr _ _ _ ?f1) ?f2 ?f3 ?_))
      case f1 => have := byte_low y hy0 (by omega); omega
      case f2 => omega
      case f3 => exact Nat.le_trans (Nat.le_trans hbase hwb) (by simp)
      intro A2 c2 w2 hown2 hb2
      go_wp2
      go_ret
      have h := hq.out
      rw [enc_small (by omega)] at h
      have hl : n + (enc x.toNat).length = k + 1 := by
        have h1 := congrArg List.length h
        have h2 := hown'.1
        have h3 := hown.1
        rw [cs_length] at h2 h3
        simp only [List.length_append, List.length_cons, List.length_nil] at h1
        omega
      rw [hl, ← h]
      exact ⟨A2, c2, rfl, hown2, (hb.alloc (Nat.le_trans hbase hwb) _).trans hb2⟩
/-- digits.Lay. -/
theorem lay_any (A : Option Addr) (n c : Nat) (l : List UInt8) (x : Int) (w : World) (hs : Sees w A n l) (hn : n ≤ 1000000) (hx0 : 0 ≤ x) (hx : x < 18446744073709551616) :
    Calls Try.prog 6 #[.slice A n c, .int .u64 x] w (New w.heap.size (n + (enc x.toNat).length) (l ++ enc x.toNat) w) := by
  have he := enc_ten (n := x.toNat) (by omega)
  go_enter Try.func6, Try.ntmps6
  go_wp2_with fail
  refine (Len.size_any x _ hx0 hx).mono ?_
  rintro e w' ⟨rfl, rfl⟩
  go_wp2_with fail
  refine (roomy_any A n c l _ _ hs hn (by omega) (by omega)).mono ?_
  rintro e w1 ⟨A1, c1, rfl, hown, hb⟩
  go_wp2_with fail
  have hsz := hb.size
  refine (layOn_any w'.heap.size A1 n c1 l x w1 hown hsz hn hx0 hx).mono ?_
  rintro e w2 ⟨A2, c2, rfl, hown2, hb2⟩
  go_wp2
  go_ret
  exact ⟨A2, c2, rfl, hown2, hb.trans hb2⟩

/-- digits.LayFixed. -/
theorem layFixed_any (A : Option Addr) (n c : Nat) (l : List UInt8) (x : Int) (w : World) (hs : Sees w A n l) (hn : n ≤ 1000000) (hx0 : 0 ≤ x) (hx : x < 18446744073709551616) :
    Calls Try.prog 10 #[.slice A n c, .int .u64 x] w (New w.heap.size (n + 8) (l ++ fix x.toNat) w) := by
  obtain ⟨i, hi, hz, hsz, hby⟩ := info_parts info8
  go_enter Try.func10, Try.ntmps10
  go_wp2_with fail
  refine (roomy_any A n c l _ _ hs hn (by omega) (by omega)).mono ?_
  rintro e w1 ⟨A1, c1, rfl, hown, hb1⟩
  have hbase := hb1.size
  go_wp2_with fail
  go_loopw [0, 8] (fun p v wr => ∃ (A' : Option Addr) (c' k : Nat), p = .slice A' (n + k) c' ∧ v = .int .i64 (k : Int) ∧ k ≤ 8 ∧
      wr.ownsRow w.heap.size 5 1 (.slice A' (n + k) c') (n + k) (cs (l ++ (fix x.toNat).take k)) ∧ Below w.heap.size w wr) (fun _ v _ => 8 - (intOf v).toNat)
  case atStart => exact ⟨A1, c1, 0, rfl, rfl, by omega, by simpa using hown, hb1⟩
  case round =>
    obtain ⟨A', c', k, rfl, rfl, hk, hown', hb⟩ := hrel
    have hwb := hb.size
    by_cases hlt : k < 8
    · go_wp2_with (first | (at_builtin; refine wpList_app rfl _ _ 22 rfl w.heap.size 5 i (.int .u8 0) Try.underlying22 hi hz hsz hby rfl A' (n + k) c' _ rfl (hown'.alloc _) _ 1 1 [b8 (x.toNat / 256 ^ (7 - k) % 256)] rfl (Sees.fresh wr _ _ _ ?e1) ?e2 ?e3 ?_))
      case e1 => exact fix_byte x k hx0
      case e2 => omega
      case e3 => exact Nat.le_trans hwb (by simp)
      intro A2 c2 w2 hown2 hb2
      go_wp2
      go_roundw
      case rel => exact ⟨A2, c2, k + 1, rfl, by go_num, by omega, by rw [fix_take _ _ hlt]; exact hown2, (hb.alloc hwb _).trans hb2⟩
      case measure => simp [intOf]; omega
    · have hk8 : k = 8 := by omega
      subst hk8
      go_wp2
      go_ret
      exact ⟨A', c', rfl, by rw [List.take_of_length_le (by simp [fix_length])] at hown'; exact hown', hb⟩
/-- anabranchref01.Fixed. -/
theorem refFixed_any (A : Option Addr) (n c : Nat) (l : List UInt8) (x : Int) (w : World) (hs : Sees w A n l) (hn : n ≤ 1000000) (hx0 : 0 ≤ x) (hx : x < 18446744073709551616) :
    Calls Try.prog 11 #[.slice A n c, .int .u64 x] w (New w.heap.size (n + 8) (l ++ fix x.toNat) w) := by
  obtain ⟨i, hi, hz, hsz, hby⟩ := info_parts info8
  go_enter Try.func11, Try.ntmps11
  go_wp2_with (first | (at_builtin; refine wpList_app rfl _ _ 22 rfl w.heap.size 5 i (.int .u8 0) Try.underlying22 hi hz hsz hby rfl none 0 0 [] rfl (Own.nil _ _ _) A n c l rfl hs ?d1 ?d2 ?_))
  case d1 => omega
  case d2 => exact Nat.le_refl _
  intro A1 c1 w1 hown hb1
  have hbase := hb1.size
  go_wp2_with fail
  go_loopw [5, 6] (fun p v wr => ∃ (A' : Option Addr) (c' k : Nat), p = .slice A' (n + k) c' ∧ v = .int .i64 (k : Int) ∧ k ≤ 8 ∧
      wr.ownsRow w.heap.size 5 1 (.slice A' (n + k) c') (n + k) (cs (l ++ (fix x.toNat).take k)) ∧ Below w.heap.size w wr) (fun _ v _ => 8 - (intOf v).toNat)
  case atStart => exact ⟨A1, c1, 0, by simp, rfl, by omega, by simpa using hown, hb1⟩
  case round =>
    obtain ⟨A', c', k, rfl, rfl, hk, hown', hb⟩ := hrel
    have hwb := hb.size
    by_cases hlt : k < 8
    · go_wp2_with (first | (at_builtin; refine wpList_app rfl _ _ 22 rfl w.heap.size 5 i (.int .u8 0) Try.underlying22 hi hz hsz hby rfl A' (n + k) c' _ rfl (hown'.alloc _) _ 1 1 [b8 (x.toNat / 256 ^ (7 - k) % 256)] rfl (Sees.fresh wr _ _ _ ?e1) ?e2 ?e3 ?_))
      case e1 => rw [← fix_byte x k hx0, show 8 * (7 - k) = 56 - 8 * k by omega]
      case e2 => omega
      case e3 => exact Nat.le_trans hwb (by simp)
      intro A2 c2 w2 hown2 hb2
      go_wp2
      go_roundw
      case rel => exact ⟨A2, c2, k + 1, rfl, by go_num, by omega, by rw [fix_take _ _ hlt]; exact hown2, (hb.alloc hwb _).trans hb2⟩
      case measure => simp [intOf]; omega
    · have hk8 : k = 8 := by omega
      subst hk8
      go_wp2
      go_ret
      exact ⟨A', c', rfl, by rw [List.take_of_length_le (by simp [fix_length])] at hown'; exact hown', hb⟩

/-- anabranchref01.Lay. -/
theorem refLay_any (A : Option Addr) (n c : Nat) (l : List UInt8) (x : Int) (w : World) (hs : Sees w A n l) (hn : n ≤ 1000000) (hx0 : 0 ≤ x) (hx : x < 18446744073709551616) :
    Calls Try.prog 8 #[.slice A n c, .int .u64 x] w (New w.heap.size (n + (enc x.toNat).length) (l ++ enc x.toNat) w) := by
  obtain ⟨i, hi, hz, hsz, hby⟩ := info_parts info8
  go_enter Try.func8, Try.ntmps8
  go_wp2_with (first | (at_builtin; refine wpList_app rfl _ _ 22 rfl w.heap.size 5 i (.int .u8 0) Try.underlying22 hi hz hsz hby rfl none 0 0 [] rfl (Own.nil _ _ _) A n c l rfl hs ?d1 ?d2 ?_))
  case d1 => omega
  case d2 => exact Nat.le_refl _
  intro A1 c1 w1 hown hb1
  have hbase := hb1.size
  have hll := hs.1
  go_wp2_with fail
  go_loopw [5, 1] (fun p v wr => ∃ (A' : Option Addr) (k c' : Nat) (q : List UInt8) (y : Int), p = .slice A' k c' ∧ v = .int .u64 y ∧ 0 ≤ y ∧ y < 18446744073709551616 ∧
      wr.ownsRow w.heap.size 5 1 (.slice A' k c') k (cs q) ∧ Hid (q ++ enc y.toNat = l ++ enc x.toNat) ∧ Below w.heap.size w wr) (fun _ v _ => (intOf v).toNat)
  case atStart => exact ⟨A1, n, c1, l, x, by simp, rfl, hx0, hx, by simpa using hown, rfl, hb1⟩
  case round =>
    obtain ⟨A', k, c', q, y, rfl, rfl, hy0, hy1, hown', hq, hb⟩ := hrel
    have hk : k ≤ 1000010 := by
      have h1 := congrArg List.length hq.out
      have h2 := hown'.1
      have h4 := enc_ten (n := x.toNat) (by omega)
      rw [cs_length] at h2
      simp only [List.length_append] at h1
      omega
    have hwb := hb.size
    by_cases hlt : 127 < y
    · go_wp2_with (first | (at_builtin; refine wpList_app rfl _ _ 22 rfl w.heap.size 5 i (.int .u8 0) Try.underlying22 hi hz hsz hby rfl A' k c' q rfl (hown'.alloc _) _ 1 1 [b8 (128 + y.toNat % 128)] rfl (Sees.fresh wr _ _ _ ?e1) ?e2 ?e3 ?_))
      case e1 => rw [b8_toNat]; omega
      case e2 => omega
      case e3 => exact Nat.le_trans hwb (by simp)
      intro A2 c2 w2 hown2 hb2
      go_wp2
      go_roundw
      case rel => exact ⟨A2, k + 1, c2, q ++ [b8 (128 + y.toNat % 128)], y / 128, rfl, rfl, by omega, by omega, hown2, by
        have h := hq.out
        rw [enc_great (by omega)] at h
        rw [show (y / 128).toNat = y.toNat / 128 by omega, ← h]
        simp [Hid], (hb.alloc hwb _).trans hb2⟩
      case measure => simp [intOf]; omega
    · go_wp2_with (first | (at_builtin; refine wpList_app rfl _ _ 22 rfl w.heap.size 5 i (.int .u8 0) Try.underlying22 hi hz hsz hby rfl A' k c' q rfl (hown'.alloc _) _ 1 1 [b8 y.toNat] rfl (Sees.fresh wr _ _ _ ?f1) ?f2 ?f3 ?_))
      case f1 => have := byte_low y hy0 (by omega); omega
      case f2 => omega
      case f3 => exact Nat.le_trans hwb (by simp)
      intro A2 c2 w2 hown2 hb2
      go_wp2
      go_ret
      have h := hq.out
      rw [enc_small (by omega)] at h
      have hl : n + (enc x.toNat).length = k + 1 := by
        have h1 := congrArg List.length h
        have h2 := hown'.1
        rw [cs_length] at h2
        simp only [List.length_append, List.length_cons, List.length_nil] at h1
        omega
      rw [hl, ← h]
      exact ⟨A2, c2, rfl, hown2, (hb.alloc hwb _).trans hb2⟩
end Go.Proofs.Ytiecjhdhhaldpaa.Made
