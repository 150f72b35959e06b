/- check.Sum, sealOf, Wrap and Size: what is asked of them. -/
import Derived.Test.YtokfajlmephdeaaDoorCheckDefs
import Derived.Test.YtokfajlmephdeaaDoorCheckSum
import Derived.Test.YtokfajlmephdeaaDoorSlices
import Derived.Test.YtokfajlmephdeaaDoorRoomy
import Derived.Test.YtokfajlmephdeaaDoorLayOn
import Derived.Test.YtokfajlmephdeaaDoorLen
namespace Go.Proofs.YtokfajlmephdeaaDoor.Chk
open Go Go.RowKit Go.Proofs.YtokfajlmephdeaaDoor.Words Go.Proofs.YtokfajlmephdeaaDoor.Enc Go.Proofs.YtokfajlmephdeaaDoor.Made
set_option linter.unusedVariables false

theorem below_drewN (w : World) (d : Nat) : Below w.heap.size w (w.drewN d) := ⟨rfl, rfl, rfl, Nat.le_refl _, fun _ _ => rfl⟩
theorem sumOk : SumSaid := fun A n c l w T hs hc hn => (sum_any A n c l w T hs (by omega)).mono fun e w' ⟨h, d, hd⟩ => ⟨h, by rw [hd]; exact below_drewN w d⟩

/-- digits.LayText. -/
theorem layText_any (A : Option Addr) (n c : Nat) (l : List UInt8) (S : Option Addr) (m k : Nat) (q : List UInt8) (w : World) (hs : Sees w A n l) (hq : Sees w S m q) (hn : n ≤ 900000000) (hm : m ≤ 900000000) :
    Calls Tryd.prog 53 #[.slice A n c, .slice S m k] w (New w.heap.size (n + (enc m).length + m) (l ++ enc m ++ q) w) := by
  obtain ⟨i, hi, hz, hsz, hby⟩ := info_parts info8
  have he := enc_ten (n := m) (by omega)
  go_enter Tryd.func53, Tryd.ntmps53
  go_wp2_with fail
  refine (Len.size_any _ _ (by omega) (by omega)).mono ?_
  rintro e w' ⟨rfl, rfl⟩
  rw [Int.toNat_natCast]
  go_wp2_with fail
  refine (roomy_any A n c l _ _ hs (by omega) (by omega) (by omega)).mono ?_
  rintro e w1 ⟨A1, c1, rfl, hown, hb⟩
  have hsz := hb.size
  go_wp2_with fail
  refine (layOn_any w'.heap.size A1 n c1 l _ w1 hown hsz (by omega) (by omega) (by omega)).mono ?_
  rw [Int.toNat_natCast]
  rintro e w2 ⟨A2, c2, rfl, hown2, hb2⟩
  have b2 := hb.trans hb2
  have hq2 := hq.below b2
  have hsz2 := b2.size
  go_wp2_with (first | (at_builtin; refine wpList_app rfl _ _ 37 rfl w'.heap.size 5 i (.int .u8 0) Tryd.underlying37 hi hz (by assumption) hby rfl A2 (n + (enc m).length) c2 (l ++ enc m) rfl hown2 S m k q rfl hq2 ?d1 ?d2 ?_))
  case d1 => omega
  case d2 => exact hsz2
  intro A3 c3 w3 hown3 hb3
  go_wp2
  go_ret
  rw [List.append_assoc]
  exact ⟨A3, c3, rfl, hown3, b2.trans hb3⟩

set_option maxRecDepth 100000 in
/-- check.sealOf. -/
theorem seal_any (A : Option Addr) (n c : Nat) (l : List UInt8) (w : World) (T : Tabs w) (hs : Sees w A n l) (hn : n ≤ 1000000000) :
    Calls Tryd.prog 54 #[.slice A n c] w fun e w' => ∃ g, e = .returned (.slice (some ⟨g, 0, none⟩) 4 4) ∧ Sees w' (some ⟨g, 0, none⟩) 4 (four (Crc.sum l)) ∧ Below w.heap.size w w' := by
  go_enter Tryd.func54, Tryd.ntmps54
  go_wp2_with fail
  refine (sum_any A n c l w T hs hn).mono ?_
  rintro e w1 ⟨rfl, d, rfl⟩
  obtain ⟨s, hse⟩ : ∃ s, s = Crc.sum l := ⟨_, rfl⟩
  rw [← hse]
  have HS := Lib.hid hse
  clear hse
  have h1 := s.isLt
  go_wp2
  go_ret
  rw [← HS.out]
  exact ⟨w.heap.size, rfl, sees_four (w.drewN d) _ s _ _ _ _ (by rw [b8_toNat]; omega) (by rw [b8_toNat]; omega) (by rw [b8_toNat]; omega) (by rw [b8_toNat]; omega), (below_drewN w d).alloc (Nat.le_refl _) _⟩

theorem pair_all (w : World) (e : TypeId) (A1 : Option Addr) (n1 c1 : Nat) (l1 : List UInt8) (A2 : Option Addr) (n2 c2 : Nat) (l2 : List UInt8) (h1 : Sees w A1 n1 l1) (h2 : Sees w A2 n2 l2) (hc1 : n1 ≤ c1) (hc2 : n2 ≤ c2) :
    SeesAll (w.alloc (.cells #[.slice A1 n1 c1, .slice A2 n2 c2] e)) (some ⟨w.heap.size, 0, none⟩) 2 [l1, l2] := by
  have hb : Below w.heap.size w (w.alloc (.cells #[.slice A1 n1 c1, .slice A2 n2 c2] e)) := (Below.refl _ _).alloc (Nat.le_refl _) _
  have k1 := h1.below hb
  have k2 := h2.below hb
  have e1 := h1.1
  have e2 := h2.1
  subst e1
  subst e2
  refine ⟨[.slice A1 l1.length c1, .slice A2 l2.length c2], ((Each.nil _).snoc hc1 k1).snoc hc2 k2, rfl, fun _ => ⟨w.heap.size, 0, rfl, fun j v hv => ?_⟩⟩
  rw [cell_of_row _ w.heap.size (0 + j) _ e (0, 0) (heap_alloc_new w _), Nat.zero_add]
  simpa using hv

set_option maxRecDepth 100000 in
theorem wrap_new (A : Option Addr) (n c : Nat) (l : List UInt8) (w : World) (T : Tabs w) (hs : Sees w A n l) (hc : n ≤ c) (hn : n ≤ 600000000) :
    Calls Tryd.prog 29 #[.slice A n c] w (New w.heap.size ((enc n).length + n + 4) (wrap l) w) := by
  have hl := hs.1
  have he := enc_ten (n := n) (by omega)
  go_enter Tryd.func29, Tryd.ntmps29
  go_wp2_with fail
  refine (layText_any none 0 0 [] A n c l w (Sees.nil _ _) hs (by omega) (by omega)).mono ?_
  rintro e w1 ⟨A1, c1, rfl, hown, hb⟩
  rw [Nat.zero_add, List.nil_append] at *
  have hcap := Own.cap hown
  have hs1 := Sees.of_own hown
  go_wp2_with fail
  refine (seal_any A1 ((enc n).length + n) c1 (enc n ++ l) w1 (T.below hb) hs1 (by omega)).mono ?_
  rintro e w2 ⟨g, rfl, hsg, hb2⟩
  have hs2 := hs1.below hb2
  have b2 := hb.trans (hb2.mono hb.size)
  have hall := pair_all w2 37 A1 ((enc n).length + n) c1 (enc n ++ l) (some ⟨g, 0, none⟩) 4 4 (four (Crc.sum (enc n ++ l))) hs2 hsg hcap.1 (Nat.le_refl _)
  have htot : total [enc n ++ l, four (Crc.sum (enc n ++ l))] = (enc n).length + n + 4 := by simp [total, four_length, hl]
  have hfl : [enc n ++ l, four (Crc.sum (enc n ++ l))].flatten = wrap l := by unfold wrap; rw [hl]; simp
  go_wp2_with fail
  refine (concat_any _ 2 2 _ _ hall (by omega) (by omega)).mono ?_
  rw [htot, hfl]
  rintro e w3 ⟨A3, c3, rfl, hown3, hb3⟩
  have b3 := (b2.alloc b2.size (.cells #[.slice A1 ((enc n).length + n) c1, .slice (some ⟨g, 0, none⟩) 4 4] 37)).trans (hb3.mono (Nat.le_trans b2.size (by simp)))
  have h3 : w3.ownsRow w.heap.size 5 1 (.slice A3 ((enc n).length + n + 4) c3) ((enc n).length + n + 4) (cs (wrap l)) := Own.lower hown3 (Nat.le_trans b2.size (by simp))
  clear hall htot hfl hown hown3
  go_wp2
  go_ret
  exact ⟨A3, c3, rfl, h3, b3⟩

theorem wrapOk : WrapSaid := fun A n c l w T hs hc hn => (wrap_new A n c l w T hs hc hn).mono fun e w' h => gives_of_new h
end Go.Proofs.YtokfajlmephdeaaDoor.Chk
