/- The law CheckTurns, walked out of what is asked of package check. -/
import Derived.Test.YtpfnokplgfkgjaaDoorCheckSaid
namespace Go.Proofs.YtpfnokplgfkgjaaDoor.Chk
open Go Go.RowKit Go.Proofs.YtpfnokplgfkgjaaDoor.Words Go.Proofs.YtpfnokplgfkgjaaDoor.Enc Go.Proofs.YtpfnokplgfkgjaaDoor.Made
set_option linter.unusedVariables false

theorem turns_long (hsum : SumSaid) (A : Option Addr) (n c : Nat) (x y z : Int) (w : World) (T : Tabs w) (hm : n ≤ maxLen) (hlen : 300 < n ∨ y = 0) :
    Calls Tryd.prog 5 #[.slice A n c, .int .u16 x, .int .u8 y, .int .u16 z] w fun e w' => e = .returned (.bool true) ∧ Below w.heap.size w w' := by
  unfold maxLen at hm
  by_cases h1 : 300 < n
  · have hlen' : (300 : Int) < (n : Int) := by omega
    go_enter Tryd.func5, Tryd.ntmps5
    go_wp2_with fail
    refine (awake_any hsum _ T).mono ?_
    rintro e w1 ⟨rfl, hb1⟩
    go_wp2_with fail
    refine (awake_any hsum _ (T.below hb1)).mono ?_
    rintro e w2 ⟨rfl, hb2⟩
    go_wp2
    go_ret
    exact ⟨rfl, hb1.trans (hb2.mono hb1.size)⟩
  · have hlen' : decide ((300 : Int) < (n : Int)) = false := by simp; omega
    obtain rfl : y = 0 := by omega
    go_enter Tryd.func5, Tryd.ntmps5
    go_wp2_with fail
    refine (awake_any hsum _ T).mono ?_
    rintro e w1 ⟨rfl, hb1⟩
    go_wp2_with fail
    refine (awake_any hsum _ (T.below hb1)).mono ?_
    rintro e w2 ⟨rfl, hb2⟩
    go_wp2
    go_ret
    exact ⟨rfl, hb1.trans (hb2.mono hb1.size)⟩

set_option maxRecDepth 100000 in
theorem turns_short (hsum : SumSaid) (hopen : OpenSaid) (A : Option Addr) (n c : Nat) (l : List UInt8) (x z : Nat) (t : UInt8) (w : World) (TB : Tabs w) (hs : Sees w A n l) (hlen : n ≤ 300) (hx : x < 65536) (hz : z < 65536) (ht : t.toNat ≠ 0) :
    Calls Tryd.prog 5 #[.slice A n c, .int .u16 (x : Int), .int .u8 (t.toNat : Int), .int .u16 (z : Int)] w fun e w' => e = .returned (.bool true) ∧ Below w.heap.size w w' := by
  obtain ⟨i, hi, hz', hsz, hby⟩ := info_parts info8
  have hd1 : decide ((300 : Int) < (n : Int)) = false := by simp; omega
  obtain ⟨T, hT⟩ : ∃ T, T = t.toNat := ⟨_, rfl⟩
  have htl := t.toNat_lt
  rw [← hT] at ht htl ⊢
  have HT := Lib.hid hT
  clear hT
  have hd2 : ((T : Int) == 0) = false := by simp; omega
  have hl := hs.1
  have he := enc_ten (n := n) (by omega)
  go_enter Tryd.func5, Tryd.ntmps5
  go_wp2_with fail
  refine (awake_any hsum _ TB).mono ?_
  rintro e w1 ⟨rfl, b1⟩
  go_wp2_with fail
  refine (refWrap_any A n c l w1 (hs.below b1) (by omega)).mono ?_
  intro e w2 hnw
  obtain ⟨PA, PC, rfl, hPC, hPC2, hs2, hb2⟩ := gives_of_new hnw
  have b2 := b1.trans (hb2.mono b1.size)
  obtain ⟨PN, hPN⟩ : ∃ PN, PN = (enc n).length + n + 4 := ⟨_, rfl⟩
  rw [← hPN] at hs2 hPC ⊢
  have hPN2 : PN ≤ 500 := by omega
  have hPN3 : 0 < PN := by omega
  have hwl : (wrap l).length = PN := by rw [wrap_length, hl]; omega
  have HPN := Lib.hid hwl
  clear hPN he hnw
  obtain ⟨k, hk⟩ : ∃ k, k = z % PN := ⟨_, rfl⟩
  have hkl : k < PN := by rw [hk]; exact Nat.mod_lt _ hPN3
  have hzk : (z : Int) % (PN : Int) = (k : Int) := by rw [hk]; omega
  clear hk hwl
  obtain ⟨g, o, rfl, _⟩ := hs2.2 hPN3
  have o1 := open_cut l k 1048576 (by omega) (by omega) (by rw [HPN.out]; exact hkl)
  have O1 := Lib.hid o1
  clear o1
  go_wp2_with fail
  refine (hopen (some ⟨g, o, none⟩) k PC ((wrap l).take k) 1048576 w2 (TB.below b2) (hs2.take (by omega)) (by omega) hPC2 (by omega) (by omega) (by omega)).mono ?_
  rintro e w3 ⟨A3, n3, c3, A4, n4, c4, rfl, _, _, _, _, hb3⟩
  rw [O1.out]
  have b3 := b2.trans (hb3.mono b2.size)
  have hs3 := hs2.below hb3
  clear hzk
  go_wp2_with (first | (at_builtin; refine wpList_app rfl _ _ 22 rfl w.heap.size 5 i (.int .u8 0) Tryd.underlying22 hi hz' hsz hby rfl none 0 0 [] rfl (Own.nil _ _ _) (some ⟨g, o, none⟩) PN PC (wrap l) rfl hs3 ?d1 ?d2 ?_))
  case d1 => omega
  case d2 => exact b3.size
  intro A5 c5 w4 hown hb4
  have b4 := b3.trans hb4
  obtain ⟨hcap5, hcap6⟩ := Own.cap hown
  obtain ⟨g5, rfl, hg5⟩ := Own.at_ hown hPN3
  obtain ⟨j, hj⟩ : ∃ j, j = x % PN := ⟨_, rfl⟩
  have hjl : j < PN := by rw [hj]; exact Nat.mod_lt _ hPN3
  have hxj : (x : Int) % (PN : Int) = (j : Int) := by rw [hj]; omega
  clear hj
  have hjw : j < (wrap l).length := by rw [HPN.out]; exact hjl
  have hcell : w4.cell? ⟨g5, j, none⟩ = some (.int .u8 ((wrap l)[j].toNat : Int)) := by
    rw [hown.cellAt j (by omega), cs_get (List.getElem?_eq_getElem hjw)]
  have hfr : w4.frozen? ⟨g5, j, none⟩ = false := hown.frozenAt j
  have hturn := open_turn l j ((wrap l)[j] ^^^ t) 1048576 hjw (by
    intro e
    have h := congrArg (fun v => (wrap l)[j] ^^^ v) e
    simp only [← UInt8.xor_assoc, UInt8.xor_self, UInt8.zero_xor] at h
    apply ht
    rw [HT.out, ← h]
    rfl)
  have TURN := Lib.hid hturn
  have hstored := hown.stored j (.int .u8 (((wrap l)[j] ^^^ t).toNat : Int))
  have hset : (cs (wrap l)).set j (.int .u8 (((wrap l)[j] ^^^ t).toNat : Int)) = cs ((wrap l).set j ((wrap l)[j] ^^^ t)) := by simp [cs, List.map_set]
  rw [hset] at hstored
  have hxor : bits .xor .u8 ((wrap l)[j].toNat : Int) (T : Int) = (((wrap l)[j] ^^^ t).toNat : Int) := by
    rw [HT.out, u8_xor_nat _ _ (wrap l)[j].toNat_lt t.toNat_lt, UInt8.toNat_xor]
  have hpos : 0 < (wrap l).length := by omega
  generalize (wrap l)[j] ^^^ t = u2 at TURN hstored hxor hturn
  generalize (wrap l)[j] = u1 at hcell hxor
  have HST := Lib.hid hstored.1
  clear hset hturn hstored hjw hpos
  have hsl : ((wrap l).set j u2).length = PN := by rw [List.length_set, HPN.out]
  have HSL := Lib.hid hsl
  clear hsl
  go_wp2_with fail
  go_region
  have b5 : Below w.heap.size w ((w4.setCell ⟨g5, j, none⟩ (.int .u8 (u2.toNat : Int))).drew) := (b4.setCell hg5 _).drew
  have hs5 : Sees ((w4.setCell ⟨g5, j, none⟩ (.int .u8 (u2.toNat : Int))).drew) (some ⟨g5, 0, none⟩) PN ((wrap l).set j u2) := (Sees.of_own HST.out).drew
  generalize (w4.setCell ⟨g5, j, none⟩ (.int .u8 (u2.toNat : Int))).drew = w5 at b5 hs5 ⊢
  clear hown hcell hfr hxor
  generalize (wrap l).set j u2 = v at TURN HSL hs5
  go_wp2_with fail
  refine (hopen (some ⟨g5, 0, none⟩) PN c5 v 1048576 w5 (TB.below b5) hs5 (by assumption) (by assumption) (by omega) (by omega) (by omega)).mono ?_
  rintro e w6 ⟨A6, n6, c6, A7, n7, c7, rfl, hv6, hv7, _, _, hb6⟩
  have b6 := b5.trans (hb6.mono b5.size)
  generalize openL v 1048576 = r at TURN hv6 hv7 ⊢
  obtain ⟨r1, kk, E⟩ := r
  simp only [] at hv6 hv7 ⊢
  have hl0 := hs.below b6
  by_cases hE : E = 0
  · subst hE
    obtain ⟨h1, h2⟩ : kk < (wrap l).length ∧ r1 ≠ l := by
      rcases TURN.out with h | h
      · exact absurd rfl h
      · exact h
    have hn7 : (0 : Int) < (n7 : Int) := by
      have := hv7.1
      rw [List.length_drop, HSL.out] at this
      rw [HPN.out] at h1
      omega
    obtain ⟨s1, hs1⟩ : ∃ s : ByteArray, s = ⟨r1.toArray⟩ := ⟨_, rfl⟩
    obtain ⟨s2, hs2'⟩ : ∃ s : ByteArray, s = ⟨l.toArray⟩ := ⟨_, rfl⟩
    have q1 : (convert 22 9 (.slice A6 n6 c6)).run Tryd.prog w6 = .ok (.string s1) w6 := by rw [hs1]; exact hv6.string c6 Tryd.underlying22 Tryd.underlying5 Tryd.underlying9
    have q2 : (convert 22 9 (.slice A n c)).run Tryd.prog w6 = .ok (.string s2) w6 := by rw [hs2']; exact hl0.string c Tryd.underlying22 Tryd.underlying5 Tryd.underlying9
    have hne : (s1.toList == s2.toList) = false := by rw [hs1, hs2', bytes_toList, bytes_toList]; simpa using h2
    clear h1 h2 hs1 hs2' hv6 hv7 hl0 hs5 hd1 hd2
    go_wp2
    go_ret
    exact ⟨rfl, b6⟩
  · have hE1 : ((E : Int) == 0) = false := by simp; omega
    have hE2 : ((E : Int) != 0) = true := by simp; omega
    clear hE hv6 hv7 hl0 hs5 hd1 hd2
    go_wp2
    go_ret
    exact ⟨rfl, b6⟩
end Go.Proofs.YtpfnokplgfkgjaaDoor.Chk
