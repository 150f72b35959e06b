/- anabranchref01.Text and Wrap: their contracts. -/
import Derived.Test.YtokfajlmephdeaaDoorRefLay
import Derived.Test.YtokfajlmephdeaaDoorRefSum
import Derived.Test.YtokfajlmephdeaaDoorRecMath
import Derived.Lib.Hide
namespace Go.Proofs.YtokfajlmephdeaaDoor.Made
open Go Go.RowKit Go.Proofs.YtokfajlmephdeaaDoor.Words Go.Proofs.YtokfajlmephdeaaDoor.Enc
set_option linter.unusedVariables false

theorem refText_any (A : Option Addr) (n c : Nat) (l : List UInt8) (S : Option Addr) (m k : Nat) (q : List UInt8) (w : World) (hs : Sees w A n l) (hq : Sees w S m q) (hn : n ≤ 1000000000) (hm : m ≤ 1000000000) :
    Calls Tryd.prog 55 #[.slice A n c, .slice S m k] w (New w.heap.size (n + (enc m).length + m) (l ++ enc m ++ q) w) := by
  obtain ⟨i, hi, hz, hsz, hby⟩ := info_parts info8
  have he := enc_ten (n := m) (by omega)
  go_enter Tryd.func55, Tryd.ntmps55
  go_wp2_with fail
  refine (refLay_any A n c l _ w hs hn (by omega) (by omega)).mono ?_
  rintro e w1 ⟨A1, c1, rfl, hown, hb⟩
  rw [Int.toNat_natCast] at hown ⊢
  have HQ := hq.below hb
  have hsz1 := hb.size
  go_wp2_with (first | (at_builtin; refine wpList_app rfl _ _ 37 rfl w.heap.size 5 i (.int .u8 0) Tryd.underlying37 hi hz hsz hby rfl A1 (n + (enc m).length) c1 (l ++ enc m) rfl hown S m k q rfl HQ ?d1 ?d2 ?_))
  case d1 => omega
  case d2 => exact hsz1
  intro A2 c2 w2 hown2 hb2
  go_wp2
  go_ret
  rw [List.append_assoc]
  exact ⟨A2, c2, rfl, hown2, hb.trans hb2⟩

theorem refWrap_any (A : Option Addr) (n c : Nat) (l : List UInt8) (w : World) (hs : Sees w A n l) (hn : n ≤ 900000000) :
    Calls Tryd.prog 32 #[.slice A n c] w (New w.heap.size ((enc n).length + n + 4) (wrap l) w) := by
  obtain ⟨i, hi, hz, hsz, hby⟩ := info_parts info8
  have he := enc_ten (n := n) (by omega)
  have hl := hs.1
  go_enter Tryd.func32, Tryd.ntmps32
  go_wp2_with fail
  refine (refText_any none 0 0 [] A n c l w (Sees.nil _ _) hs (by omega) (by omega)).mono ?_
  rintro e w1 ⟨A1, c1, rfl, hown, hb⟩
  rw [Nat.zero_add, List.nil_append] at *
  have hsz1 := hb.size
  go_wp2_with fail
  refine (RefSum.refSum_any A1 ((enc n).length + n) c1 (enc n ++ l) w1 (Sees.of_own hown) (by omega)).mono ?_
  rintro e w2 ⟨rfl, rfl⟩
  generalize hs : Crc.sum (enc n ++ l) = s
  have HS := Lib.hid hs
  clear hs
  have hlt := s.isLt
  go_wp2_with (first | (at_builtin; refine wpList_app rfl _ _ 37 rfl w.heap.size 5 i (.int .u8 0) Tryd.underlying37 hi hz hsz hby rfl A1 ((enc n).length + n) c1 (enc n ++ l) rfl (hown.alloc _) _ 4 4 (four s) rfl (sees_four w2 _ s _ _ _ _ ?e0 ?e1 ?e2 ?e3) ?d1 ?d2 ?_))
  case e0 => rw [b8_toNat]; omega
  case e1 => rw [b8_toNat]; omega
  case e2 => rw [b8_toNat]; omega
  case e3 => rw [b8_toNat]; omega
  case d1 => omega
  case d2 => exact Nat.le_trans hsz1 (by simp)
  intro A2 c2 w3 hown2 hb2
  go_wp2
  go_ret
  refine ⟨A2, c2, rfl, ?_, (hb.alloc hsz1 _).trans hb2⟩
  rw [show wrap l = enc n ++ (l ++ four s) by unfold wrap; rw [hl, HS.out, List.append_assoc]]
  exact hown2
end Go.Proofs.YtokfajlmephdeaaDoor.Made
