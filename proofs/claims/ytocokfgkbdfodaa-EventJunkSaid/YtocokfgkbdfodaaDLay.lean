/- digits.Lay: its contract. -/
import Derived.Test.YtocokfgkbdfodaaRows
import Derived.Test.YtocokfgkbdfodaaWords
import Derived.Test.YtocokfgkbdfodaaEnc
import Derived.Handy
import Derived.Test.YtocokfgkbdfodaaRoomy
import Derived.Test.YtocokfgkbdfodaaLayOn
import Derived.Test.YtocokfgkbdfodaaLen
namespace Go.Proofs.Ytocokfgkbdfodaa.Made
open Go Go.RowKit Go.Proofs.Ytocokfgkbdfodaa.Words Go.Proofs.Ytocokfgkbdfodaa.Enc
set_option linter.unusedVariables false
/-- digits.Lay. -/
theorem lay_any (A : Option Addr) (n c : Nat) (l : List UInt8) (x : Int) (w : World) (hs : Sees w A n l) (hn : n ≤ 1000000000) (hx0 : 0 ≤ x) (hx : x < 18446744073709551616) :
    Calls Try.prog 24 #[.slice A n c, .int .u64 x] w (New w.heap.size (n + (enc x.toNat).length) (l ++ enc x.toNat) w) := by
  have he := enc_ten (n := x.toNat) (by omega)
  go_enter Try.func24, Try.ntmps24
  go_wp2_with fail
  refine (Len.size_any x _ hx0 hx).mono ?_
  rintro e w' ⟨rfl, rfl⟩
  go_wp2_with fail
  refine (roomy_any A n c l _ _ hs hn (by omega) (by omega)).mono ?_
  rintro e w1 ⟨A1, c1, rfl, hown, hb⟩
  go_wp2_with fail
  have hsz := hb.size
  refine (layOn_any w'.heap.size A1 n c1 l x w1 hown hsz hn hx0 hx).mono ?_
  rintro e w2 ⟨A2, c2, rfl, hown2, hb2⟩
  go_wp2
  go_ret
  exact ⟨A2, c2, rfl, hown2, hb.trans hb2⟩

/-- digits.LayText. -/
theorem layText_any (A : Option Addr) (n c : Nat) (l : List UInt8) (S : Option Addr) (m k : Nat) (q : List UInt8) (w : World) (hs : Sees w A n l) (hq : Sees w S m q) (hn : n ≤ 900000000) (hm : m ≤ 900000000) :
    Calls Try.prog 25 #[.slice A n c, .slice S m k] w (New w.heap.size (n + (enc m).length + m) (l ++ enc m ++ q) w) := by
  obtain ⟨i, hi, hz, hsz, hby⟩ := info_parts info8
  have he := enc_ten (n := m) (by omega)
  go_enter Try.func25, Try.ntmps25
  go_wp2_with fail
  refine (Len.size_any _ _ (by omega) (by omega)).mono ?_
  rintro e w' ⟨rfl, rfl⟩
  rw [Int.toNat_natCast]
  go_wp2_with fail
  refine (roomy_any A n c l _ _ hs (by omega) (by omega) (by omega)).mono ?_
  rintro e w1 ⟨A1, c1, rfl, hown, hb⟩
  have hsz := hb.size
  go_wp2_with fail
  refine (layOn_any w'.heap.size A1 n c1 l _ w1 hown hsz (by omega) (by omega) (by omega)).mono ?_
  rw [Int.toNat_natCast]
  rintro e w2 ⟨A2, c2, rfl, hown2, hb2⟩
  have b2 := hb.trans hb2
  have hq2 := hq.below b2
  have hsz2 := b2.size
  go_wp2_with (first | (at_builtin; refine wpList_app rfl _ _ 23 rfl w'.heap.size 5 i (.int .u8 0) Try.underlying23 hi hz (by assumption) hby rfl A2 (n + (enc m).length) c2 (l ++ enc m) rfl hown2 S m k q rfl hq2 ?d1 ?d2 ?_))
  case d1 => omega
  case d2 => exact hsz2
  intro A3 c3 w3 hown3 hb3
  go_wp2
  go_ret
  rw [List.append_assoc]
  exact ⟨A3, c3, rfl, hown3, b2.trans hb3⟩
end Go.Proofs.Ytocokfgkbdfodaa.Made
