/- check.Sum: its contract, where the tables lie in the world. -/
import Derived.Test.YtokfajlmephdeaaDoorTabs
import Derived.Lib.Hide
import Derived.Deep.QuietTactic
import Derived.BigQuiet
namespace Go.Proofs.YtokfajlmephdeaaDoor.Chk
open Go Go.RowKit Go.Proofs.YtokfajlmephdeaaDoor.Words
set_option linter.unusedVariables false

theorem u8_xor_low (u : UInt8) (r : Nat) : bits .xor .u8 (u.toNat : Int) ((r : Int) % 256) = ((u.toNat ^^^ (r % 256) : Nat) : Int) := by
  rw [show ((r : Int) % 256) = ((r % 256 : Nat) : Int) by omega]
  exact u8_xor_nat _ _ u.toNat_lt (by omega)
theorem u8_and_15 (x : Nat) (h : x < 256) : bits .and .u8 (x : Int) 15 = ((x % 16 : Nat) : Int) := by
  rw [show (15 : Int) = ((15 : Nat) : Int) by rfl, u8_and_nat x 15 h (by omega)]
  congr 1
  exact Nat.and_two_pow_sub_one_eq_mod x 4

set_option maxRecDepth 100000 in
theorem sum_any (A : Option Addr) (n c : Nat) (l : List UInt8) (w : World) (T : Tabs w) (hs : Sees w A n l) (hn : n ≤ 1000000000) :
    Calls Tryd.prog 75 #[.slice A n c] w fun e w' => e = .returned (.int .u32 ((Crc.sum l).toNat : Int)) ∧ ∃ d, w' = w.drewN d := by
  have hl := hs.1
  go_enter Tryd.func75, Tryd.ntmps75
  go_wp2_with fail
  go_loopw [3, 8] (fun s i W => ∃ k : Nat, k ≤ n ∧ i = .int .i64 (k : Int) ∧ s = .int .u32 ((Crc.run (l.take k)).reverse.toNat : Int) ∧ ∃ d, W = w.drewN d) (fun _ i _ => n - (intOf i).toNat)
  case atStart =>
    have h0 : ((4294967295 : Int)) = (((Crc.run (l.take 0)).reverse.toNat : Nat) : Int) := by rw [List.take_zero]; decide +kernel
    exact ⟨0, by omega, rfl, by rw [← h0], 0, rfl⟩
  case round =>
    obtain ⟨k, hk, rfl, rfl, d, rfl⟩ := hrel
    by_cases hlt : k < n
    · obtain ⟨b, o, rfl, hcell⟩ := hs.2 (by omega)
      have hkl : k < l.length := by omega
      have hc1 : w.cell? ⟨b, o + k, none⟩ = _ := hcell k l[k] (List.getElem?_eq_getElem hkl)
      have ht : l.take (k + 1) = l.take k ++ [l[k]] := by rw [List.take_add_one, List.getElem?_eq_getElem hkl]; rfl
      have HT := Lib.hid ht
      clear ht hcell
      generalize l[k] = u at HT hc1
      generalize hr : (Crc.run (l.take k)).reverse = r
      have hstep : (Crc.run (l.take (k + 1))).reverse = (Crc.byte r.reverse u).reverse := by
        rw [HT.out, Crc.run_snoc, ← hr, BitVec.reverse_reverse_eq]
      rw [Crc.byte_tab] at hstep
      have e1 := u8_xor_low u r.toNat
      have hx : u.toNat ^^^ (r.toNat % 256) < 256 := Nat.xor_lt_two_pow (n := 8) u.toNat_lt (by omega)
      generalize u.toNat ^^^ (r.toNat % 256) = x at hstep e1 hx
      have e2 := u8_and_15 x hx
      have hi : x % 16 < 16 := by omega
      have hj : x / 16 < 16 := by omega
      have e3 : (x : Int) / 16 = ((x / 16 : Nat) : Int) := by omega
      generalize x % 16 = i at hstep e2 hi
      generalize x / 16 = j at hstep e3 hj
      have c1 : w.cell? ⟨0, i, none⟩ = _ := T.lowAt i hi
      have c2 : w.cell? ⟨1, j, none⟩ = _ := T.highAt j hj
      have h1 := Crc.lowAt_lt i hi
      have h2 := Crc.highAt_lt j hj
      generalize Crc.lowAt i = lo at hstep c1 h1
      generalize Crc.highAt j = hg at hstep c2 h2
      have e4 : bits .xor .u32 ((r.toNat : Int) / 256) (lo : Int) = (((r >>> 8) ^^^ BitVec.ofNat 32 lo).toNat : Int) := by
        have h3 : (r >>> 8).toNat = r.toNat / 256 := by rw [BitVec.toNat_ushiftRight, Nat.shiftRight_eq_div_pow]
        have h4 := r.isLt
        have h5 : ((r.toNat : Int) / (256 : Int)) = (((r >>> 8).toNat : Nat) : Int) := by rw [h3]; omega
        rw [h5, u32_xor_nat _ _ (by omega) (by omega), BitVec.toNat_xor, BitVec.toNat_ofNat, Nat.mod_eq_of_lt (a := lo) (by omega)]
      generalize (r >>> 8) ^^^ BitVec.ofNat 32 lo = t at hstep e4
      have e5 : bits .xor .u32 (t.toNat : Int) (hg : Int) = ((t ^^^ BitVec.ofNat 32 hg).toNat : Int) := by
        have h4 := t.isLt
        rw [u32_xor_nat _ _ (by omega) (by omega), BitVec.toNat_xor, BitVec.toNat_ofNat, Nat.mod_eq_of_lt (a := hg) (by omega)]
      generalize t ^^^ BitVec.ofNat 32 hg = q at e5 hstep
      have HS := Lib.hid hstep
      have hi' : (i : Int) < 16 := by omega
      have hj' : (j : Int) < 16 := by omega
      clear hstep HT hr
      go_wp2
      go_quiet (fail)
      go_wp2
      go_roundw
      case rel => exact ⟨k + 1, by omega, by go_num, by rw [HS.out], _, rfl⟩
      case measure => simp [intOf]; omega
    · have hk' : k = n := by omega
      subst hk'
      have ht : l.take k = l := by rw [← hl]; exact List.take_length
      rw [ht]
      clear ht
      have hsum : (~~~ (Crc.run l).reverse) = Crc.sum l := by
        unfold Crc.sum
        apply BitVec.eq_of_getLsbD_eq
        intro i hi
        rw [BitVec.getLsbD_not, BitVec.getLsbD_reverse, BitVec.getLsbD_reverse, BitVec.getMsbD_not]
      have hnot := Crc.not_u32 (Crc.run l).reverse
      rw [hsum] at hnot
      generalize (Crc.run l).reverse = r at hnot ⊢
      go_wp2
      go_ret
      exact ⟨rfl, _, rfl⟩
end Go.Proofs.YtokfajlmephdeaaDoor.Chk
