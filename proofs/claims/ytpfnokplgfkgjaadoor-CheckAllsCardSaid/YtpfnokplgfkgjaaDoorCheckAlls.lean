/- The law CheckAlls, walked out of what is asked of package check. -/
import Derived.Test.YtpfnokplgfkgjaaDoorCheckSaid
import Derived.Test.YtpfnokplgfkgjaaDoorRefAll
namespace Go.Proofs.YtpfnokplgfkgjaaDoor.Chk
open Go Go.RowKit Go.Proofs.YtpfnokplgfkgjaaDoor.Words Go.Proofs.YtpfnokplgfkgjaaDoor.Enc Go.Proofs.YtpfnokplgfkgjaaDoor.Made
set_option linter.unusedVariables false

theorem alls_long (hsum : SumSaid) (A : Option Addr) (n c : Nat) (B : Option Addr) (m d : Nat) (most : Int) (w : World) (T : Tabs w) (hm : n ≤ maxLen) (hm2 : m ≤ maxLen) (hlen : 10 < n ∨ 200 < m) :
    Calls Tryd.prog 6 #[.slice A n c, .slice B m d, .int .i64 most] w fun e w' => e = .returned (.bool true) ∧ Below w.heap.size w w' := by
  unfold maxLen at hm hm2
  rcases (show 10 < n ∨ (n ≤ 10 ∧ 200 < m) by omega) with h1 | ⟨h1, h2⟩
  · have hlen' : (10 : Int) < (n : Int) := by omega
    go_enter Tryd.func6, Tryd.ntmps6
    go_wp2_with fail
    refine (awake_any hsum _ T).mono ?_
    rintro e w1 ⟨rfl, hb1⟩
    go_wp2_with fail
    refine (awake_any hsum _ (T.below hb1)).mono ?_
    rintro e w2 ⟨rfl, hb2⟩
    go_wp2
    go_ret
    exact ⟨rfl, hb1.trans (hb2.mono hb1.size)⟩
  · have hlen0 : decide ((10 : Int) < (n : Int)) = false := by simp; omega
    have hlen' : (200 : Int) < (m : Int) := by omega
    go_enter Tryd.func6, Tryd.ntmps6
    go_wp2_with fail
    refine (awake_any hsum _ T).mono ?_
    rintro e w1 ⟨rfl, hb1⟩
    go_wp2_with fail
    refine (awake_any hsum _ (T.below hb1)).mono ?_
    rintro e w2 ⟨rfl, hb2⟩
    go_wp2
    go_ret
    exact ⟨rfl, hb1.trans (hb2.mono hb1.size)⟩

set_option maxRecDepth 100000 in
theorem alls_short (hsum : SumSaid) (hall : AllSaid) (A : Option Addr) (n c : Nat) (L : List (List UInt8)) (B : Option Addr) (m d : Nat) (p : List UInt8) (most : Int) (w : World) (T : Tabs w) (hs : SeesAll w A n L) (hp : Sees w B m p)
    (hL : ∀ l ∈ L, l.length ≤ 9223372036854775807) (hm1 : -9223372036854775808 ≤ most) (hm2 : most ≤ 9223372036854775807) (hlen : n ≤ 10) (hlen2 : m ≤ 200) :
    Calls Tryd.prog 6 #[.slice A n c, .slice B m d, .int .i64 most] w fun e w' => e = .returned (.bool true) ∧ Below w.heap.size w w' := by
  obtain ⟨i, hi, hz, hsz, hby⟩ := info_parts info8
  have hd1 : decide ((10 : Int) < (n : Int)) = false := by simp; omega
  have hd2 : decide ((200 : Int) < (m : Int)) = false := by simp; omega
  have HL := Lib.hid hL
  clear hL
  go_enter Tryd.func6, Tryd.ntmps6
  go_wp2_with fail
  refine (awake_any hsum _ T).mono ?_
  rintro e w1 ⟨rfl, b1⟩
  go_wp2_with fail
  go_loopw [7, 8] (fun v a wr => ∃ (A7 : Option Addr) (k c7 j : Nat) (q : List UInt8), v = .slice A7 k c7 ∧ a = .int .i64 (j : Int) ∧ j ≤ n ∧ k ≤ j * 200 ∧
      wr.ownsRow w.heap.size 5 1 (.slice A7 k c7) k (cs q) ∧ Below w.heap.size w wr) (fun _ a _ => n - (intOf a).toNat)
  case atStart => exact ⟨none, 0, 0, 0, [], rfl, rfl, by omega, by omega, Own.nil _ _ _, b1⟩
  case round =>
    obtain ⟨A7, k, c7, j, q, rfl, rfl, hj, hk, hown, hb⟩ := hrel
    have hwb := hb.size
    by_cases hlt : j < n
    · obtain ⟨b, o, Ae, ce, rfl, hcell, hce, hse⟩ := (hs.below hb).get hlt
      have hle : (L.getD j []).length ≤ 9223372036854775807 := by
        have hln := hs.len
        apply HL.out
        rw [List.getD_eq_getElem?_getD, List.getElem?_eq_getElem (by omega)]
        exact List.getElem_mem _
      generalize L.getD j [] = l at hcell hce hse hle
      by_cases hl : 100 < l.length
      · have hl' : (100 : Int) < (l.length : Int) := by omega
        go_wp2
        go_ret
        exact ⟨rfl, hb⟩
      · have hl' : decide ((100 : Int) < (l.length : Int)) = false := by simp; omega
        obtain ⟨ln, hln⟩ : ∃ ln, ln = l.length := ⟨_, rfl⟩
        rw [← hln] at hcell hce hse hl hl'
        have HLN := Lib.hid hln
        clear hle hln
        have he := enc_ten (n := ln) (by omega)
        go_wp2_with fail
        refine (refWrap_any Ae ln ce l wr hse (by omega)).mono ?_
        intro e w2 hnw
        obtain ⟨A8, c8, rfl, hc8, _, hs8, hb8⟩ := gives_of_new hnw
        have b2 := hb.trans (hb8.mono hwb)
        have hown2 := Own.below hown hb8 (Nat.le_refl _)
        clear hnw hown hcell
        go_wp2_with (first | (at_builtin; refine wpList_app rfl _ _ 22 rfl w.heap.size 5 i (.int .u8 0) Tryd.underlying22 hi hz hsz hby rfl A7 k c7 q rfl hown2 A8 ((enc ln).length + ln + 4) c8 (wrap l) rfl hs8 ?d1 ?d2 ?_))
        case d1 => omega
        case d2 => exact b2.size
        intro A9 c9 w3 hown3 hb3
        go_wp2
        go_roundw
        case rel => exact ⟨A9, k + ((enc ln).length + ln + 4), c9, j + 1, q ++ wrap l, rfl, by go_num, by omega, by omega, hown3, b2.trans hb3⟩
        case measure => simp [intOf]; omega
    · have hj' : j = n := by omega
      subst hj'
      have hp1 := hp.below hb
      go_wp2_with (first | (at_builtin; refine wpList_app rfl _ _ 22 rfl w.heap.size 5 i (.int .u8 0) Tryd.underlying22 hi hz hsz hby rfl A7 k c7 q rfl hown B m d p rfl hp1 ?d3 ?d4 ?_))
      case d3 => omega
      case d4 => exact hwb
      intro A9 c9 w3 hown3 hb3
      have b3 := hb.trans hb3
      have hcap := Own.cap hown3
      have hs3 := Sees.of_own hown3
      go_wp2_with fail
      refine (hall A9 (k + m) c9 (q ++ p) most w3 (T.below b3) hs3 hcap.1 hcap.2 (by omega) hm1 hm2).mono ?_
      rintro e w4 ⟨Ag, ng, cg, rfl, hg, hb4⟩
      have b4 := b3.trans (hb4.mono b3.size)
      have hs4 := hs3.below hb4
      go_wp2_with fail
      refine (refAll_any A9 (k + m) c9 (q ++ p) most w4 hs4 hcap.1 hcap.2 (by omega) hm1 hm2).mono ?_
      rintro e w5 ⟨Ah, nh, ch, rfl, hh, hb5⟩
      have b5 := b4.trans (hb5.mono b4.size)
      have hg5 := hg.below hb5
      have hRl := allL_len (q ++ p) most
      rw [hs3.1] at hRl
      generalize allL (q ++ p) most = r at hg5 hh hRl ⊢
      obtain ⟨R, rk, E⟩ := r
      simp only [] at hg5 hh hRl ⊢
      obtain rfl : ng = nh := by rw [← hg5.len, ← hh.len]
      have hng : ng ≤ 9223372036854775807 := by have := hh.len; omega
      clear hRl hs hp hs3 hs4 hg hown3 hown hcap hp1
      go_wp2_with fail
      go_loopw [15] (fun a wr => ∃ j d' : Nat, j ≤ ng ∧ a = .int .i64 (j : Int) ∧ wr = w5.drewN d') (fun a _ => ng - (intOf a).toNat)
      case atStart => exact ⟨0, 0, by omega, rfl, rfl⟩
      case round =>
        obtain ⟨j, d', hj2, rfl, rfl⟩ := hrel
        by_cases hlt2 : j < ng
        · obtain ⟨bg, og, Ag', cg', rfl, hcg, _, hsg⟩ := hg5.get hlt2
          obtain ⟨bh, oh, Ah', ch', rfl, hch, _, hsh⟩ := hh.get hlt2
          generalize R.getD j [] = l at hcg hsg hch hsh
          obtain ⟨s1, hs1⟩ : ∃ s : ByteArray, s = ⟨l.toArray⟩ := ⟨_, rfl⟩
          have r1 : ∀ x, (convert 22 9 (.slice Ag' l.length cg')).run Tryd.prog (w5.drewN x) = .ok (.string s1) (w5.drewN x) := fun x => by rw [hs1]; exact (hsg.drewN x).string cg' Tryd.underlying22 Tryd.underlying5 Tryd.underlying9
          have r2 : ∀ x, (convert 22 9 (.slice Ah' l.length ch')).run Tryd.prog (w5.drewN x) = .ok (.string s1) (w5.drewN x) := fun x => by rw [hs1]; exact (hsh.drewN x).string ch' Tryd.underlying22 Tryd.underlying5 Tryd.underlying9
          have hj0 : (0 : Int) ≤ (j : Int) := by omega
          have hj1 : (j : Int) < (ng : Int) := by omega
          clear hs1 hsg hsh hg5 hh
          go_wp2_with fail
          go_quiet (fail)
          go_wp2
          go_roundw
          case rel => exact ⟨j + 1, d' + nq, by omega, by go_num, rfl⟩
          case measure => simp [intOf]; omega
        · have hj3 : j = ng := by omega
          subst hj3
          go_wp2
          go_ret
          exact ⟨rfl, ⟨b5.os, b5.tape, b5.output, b5.size, b5.block⟩⟩
end Go.Proofs.YtpfnokplgfkgjaaDoor.Chk
