/- strconv.ParseUint in base 16, strconv.Atoi of any text, strings.Cut at '-': their contracts. -/
import Derived.Test.YtdelppndoepkbaaDoorSegName
import Derived.Lib.AtoiErrMem
import Derived.Lib.ConvBytes
namespace Go.Proofs.YtdelppndoepkbaaDoor.Seg
open Go Go.RowKit Go.Proofs.YtdelppndoepkbaaDoor.Words Go.Proofs.YtdelppndoepkbaaDoor.Enc Go.Proofs.YtdelppndoepkbaaDoor.Made
set_option linter.unusedVariables false

theorem lower_any (c : Nat) (hc : c < 256) (w : World) : Calls Tryd.prog 45 #[.int .u8 (c : Int)] w fun e w' => e = .returned (.int .u8 ((c ||| 32 : Nat) : Int)) ∧ w' = w := by
  refine (Tryd.internal_strconv_lower (c : Int) w).mono ?_
  rintro e w1 ⟨rfl, rfl⟩
  rw [show (32 : Int) = ((32 : Nat) : Int) from rfl, u8_or_nat c 32 hc (by omega)]
  exact ⟨rfl, rfl⟩

/-- What a text read in base 16 comes to. -/
def Parsed (l : List UInt8) (v : Nat) (bad : Prop) : Prop := v < 18446744073709551616 ∧ (bad → ∀ f, f < 18446744073709551616 → l ≠ hexP 16 f) ∧ (¬ bad → ∀ f, f < 18446744073709551616 → l = hexP 16 f → v = f)
theorem parsed_bad {l : List UInt8} {v : Nat} (hv : v < 18446744073709551616) (h : ∀ f, f < 18446744073709551616 → l ≠ hexP 16 f) : Parsed l v True := ⟨hv, fun _ => h, fun h' => absurd trivial h'⟩
def PuGives (l : List UInt8) (w : World) (e : Ending) (w' : World) : Prop :=
  ((∃ v : Nat, e = .returned (.tuple #[.int .u64 (v : Int), .nilIface]) ∧ Parsed l v False) ∨ (∃ (v : Nat) (E : Int), (E = 1 ∨ E = 2) ∧ e = .returned (.tuple #[.int .u64 (v : Int), .iface 66 (.int .i64 E)]) ∧ Parsed l v True)) ∧ Below w.heap.size w w'

theorem hex_char {l : List UInt8} {f k : Nat} {c : UInt8} (h : l = hexP 16 f) (hk : l[k]? = some c) : k < 16 ∧ ((f / 16 ^ (15 - k) % 16 < 10 ∧ c.toNat = 48 + f / 16 ^ (15 - k) % 16) ∨ (10 ≤ f / 16 ^ (15 - k) % 16 ∧ c.toNat = 87 + f / 16 ^ (15 - k) % 16)) := by
  subst h
  have h16 : k < 16 := by
    have := (List.getElem?_eq_some_iff.1 hk).1
    rwa [hexP_length] at this
  rw [hexP_get h16] at hk
  injection hk with hk
  subst hk
  exact ⟨h16, hexD_cases ⟨f / 16 ^ (16 - 1 - k) % 16, Nat.mod_lt _ (by decide)⟩⟩
theorem or_32 : ∀ d : Fin 16, 10 ≤ d.val → (87 + d.val) ||| 32 = 87 + d.val := by decide +kernel
theorem or_lt {c : Nat} (h : c < 256) : c ||| 32 < 256 := Nat.or_lt_two_pow (n := 8) (by omega) (by omega)
theorem hex_step {f k : Nat} (hk : k < 16) : f / 16 ^ (16 - (k + 1)) = f / 16 ^ (16 - k) * 16 + f / 16 ^ (15 - k) % 16 := by
  rw [show 16 - (k + 1) = 15 - k by omega, show 16 - k = (15 - k) + 1 by omega, Nat.pow_succ, ← Nat.div_div_eq_div_mul]
  omega
theorem hex_cut {f k : Nat} (hf : f < 18446744073709551616) (hk : k < 16) : f / 16 ^ (16 - k) < 1152921504606846976 := by
  rw [show 16 - k = (15 - k) + 1 by omega, Nat.pow_succ, Nat.mul_comm, ← Nat.div_div_eq_div_mul]
  exact Nat.lt_of_le_of_lt (Nat.div_le_self _ _) (by omega)

set_option maxRecDepth 100000 in
set_option maxHeartbeats 4000000 in
theorem parse_16 (t : ByteArray) (ht : t.size ≤ 1000000) (w : World) :
    Calls Tryd.prog 28 #[.string t, .int .i64 16, .int .i64 64] w (PuGives t.data.toList w) := by
  by_cases h0 : t.size = 0
  · have ht0 : t = ByteArray.empty := by
      apply ByteArray.ext
      apply Array.eq_empty_of_size_eq_zero
      exact h0
    subst ht0
    go_enter Tryd.func28, Tryd.ntmps28
    go_wp2
    go_ret2
    refine ⟨.inr ⟨0, 2, .inr rfl, rfl, parsed_bad (by omega) fun f hf h => ?_⟩, Below.refl _ _⟩
    have := congrArg List.length h
    rw [hexP_length] at this
    cases this
  · have hemp : t.toList.isEmpty = false := by
      rw [← decide_eq_emptyBytes]
      exact decide_eq_false (fun h => h0 (by rw [h]; rfl))
    have hcv := Lib.run_convert_string_bytes (P := Tryd.prog) w 9 47 5 t (u := .string) Tryd.underlying9 Tryd.underlying47 Tryd.underlying5
    have hB : ∀ j, j < t.size → (Lib.bytesWorld w 5 t).cell? ⟨w.heap.size, j, none⟩ = some (.int .u8 (t.data.toList.getD j 0).toNat) := fun j hj => Lib.bytesWorld_cell w 5 t j hj
    have hbel := Lib.bytesWorld_below w 5 t
    obtain ⟨W1, hW1⟩ : ∃ W1, W1 = Lib.bytesWorld w 5 t := ⟨_, rfl⟩
    rw [← hW1] at hcv hB hbel
    clear hW1
    obtain ⟨bs, hL⟩ : ∃ bs, bs = t.data.toList := ⟨_, rfl⟩
    have hLn : bs.length = t.size := by rw [hL, Array.length_toList]; rfl
    rw [← hL] at hB ⊢
    clear hL
    have hmv : IntKind.u64.wrap (IntKind.u64.wrap 18446744073709551616 - 1) = 18446744073709551615 := by decide +kernel
    have HBEL := Lib.hid hbel
    clear hbel
    go_enter Tryd.func28, Tryd.ntmps28
    go_wp2_with fail
    go_loopw [12, 13, 101] (fun vu vn vi wr => ∃ (k : Nat) (a : Int), vu = .bool false ∧ vn = .int .u64 a ∧ vi = .int .i64 (k : Int) ∧ k ≤ t.size ∧ wr = W1 ∧ 0 ≤ a ∧ a < 18446744073709551616 ∧ Hid (∀ f, f < 18446744073709551616 → bs = hexP 16 f → a = ((f / 16 ^ (16 - k) : Nat) : Int))) (fun _ _ vi _ => t.size - (intOf vi).toNat)
    case atStart => exact ⟨0, 0, rfl, rfl, rfl, by omega, rfl, by omega, by omega, fun f hf _ => by rw [Nat.div_eq_of_lt (by omega)]; rfl⟩
    case round =>
      obtain ⟨k, a, rfl, rfl, rfl, hk, rfl, a0, a1, HH⟩ := hrel
      by_cases hkn : k < t.size
      · have hc := hB k hkn
        have hget : bs[k]? = some (bs.getD k 0) := by
          rw [List.getD, List.getElem?_eq_getElem (by omega)]
          rfl
        generalize bs.getD k 0 = cb at hc hget
        have HG := Lib.hid hget
        obtain ⟨c, hcb⟩ : ∃ c, c = cb.toNat := ⟨_, rfl⟩
        have hc256 : c < 256 := by rw [hcb]; exact cb.toNat_lt
        rw [← hcb] at hc
        have HC := Lib.hid hcb
        clear hB hget hcb
        by_cases hdig : 48 ≤ c ∧ c ≤ 57
        · obtain ⟨hd0, hd1⟩ := hdig
          by_cases hcut : 1152921504606846976 ≤ a
          · have FAIL : Hid (∀ f, f < 18446744073709551616 → bs ≠ hexP 16 f) := Lib.hid (fun f hf h => by
              have h1 := HH.out f hf h
              have h2 := hex_char h HG.out
              have h3 := hex_cut hf h2.1
              omega)
            go_wp2
            go_ret2
            exact ⟨.inr ⟨18446744073709551615, 1, .inl rfl, rfl, parsed_bad (by omega) FAIL.out⟩, HBEL.out⟩
          · have icut : a < 1152921504606846976 := by omega
            have hd16 : c - 48 < 16 := by omega
            have h16 : ¬ (16 : Int) ≤ (c : Int) - 48 := by omega
            have iov : a * 16 + ((c : Int) - 48) < 18446744073709551616 := by omega
            have iov2 : 0 ≤ a * 16 + ((c : Int) - 48) := by omega
            have HN : Hid (∀ f, f < 18446744073709551616 → bs = hexP 16 f → a * 16 + ((c : Int) - 48) = ((f / 16 ^ (16 - (k + 1)) : Nat) : Int)) := Lib.hid (fun f hf h => by
              have h1 := HH.out f hf h
              have h2 := hex_char h HG.out
              rw [← HC.out] at h2
              rw [hex_step h2.1, h1]
              omega)
            clear hcut
            go_wp2
            go_roundw
            case rel => exact ⟨k + 1, a * 16 + ((c : Int) - 48), rfl, rfl, by simp, by omega, trivial, iov2, iov, HN⟩
            case measure => simp [intOf]; omega
        · have SYN : (∀ d : Nat, d < 16 → (10 ≤ d → c ≠ 87 + d) → (d < 10 → c ≠ 48 + d) → True) := fun _ _ _ _ => trivial
          clear SYN
          have hc48 : ¬ (48 ≤ c ∧ c ≤ 57) := hdig
          clear hdig
          obtain ⟨L, hL⟩ : ∃ L, L = c ||| 32 := ⟨_, rfl⟩
          have hL256 : L < 256 := by rw [hL]; exact or_lt hc256
          have hlow := fun W => lower_any c hc256 W
          rw [← hL] at hlow
          have HL := Lib.hid hL
          clear hL
          have FAIL : (¬ (97 ≤ L ∧ L ≤ 102)) → Hid (∀ f, f < 18446744073709551616 → bs ≠ hexP 16 f) := fun hno => Lib.hid (fun f hf h => by
            have h2 := hex_char h HG.out
            rw [← HC.out] at h2
            rcases h2.2 with ⟨h3, h4⟩ | ⟨h3, h4⟩
            · omega
            · have h5 : (87 + f / 16 ^ (15 - k) % 16) ||| 32 = 87 + f / 16 ^ (15 - k) % 16 := or_32 ⟨f / 16 ^ (15 - k) % 16, Nat.mod_lt _ (by decide)⟩ h3
              have h6 := HL.out
              rw [h4, h5] at h6
              omega)
          by_cases h95 : c = 95
          · have F := FAIL (by have := HL.out; rw [h95] at this; rw [this]; decide)
            have hL127 : L = 127 := by have := HL.out; rw [h95] at this; rw [this]; decide
            subst h95
            subst hL127
            clear FAIL HL hc48 HC
            go_wp2_with (first | (go_at_call 45; refine (hlow _).mono ?_; rintro e w2 ⟨rfl, rfl⟩))
            go_ret2
            exact ⟨.inr ⟨0, 2, .inr rfl, rfl, parsed_bad (by omega) F.out⟩, HBEL.out⟩
          · have hne : ((c : Int) == 95) = false := by rw [beq_eq_false_iff_ne]; omega
            by_cases hmid : 57 < c ∧ (97 ≤ L ∧ L ≤ 122)
            · obtain ⟨hd0, hd1, hd2⟩ := hmid
              have hc1 : 48 ≤ c := by omega
              have hc2 : ¬ c ≤ 57 := by omega
              by_cases hbig : 103 ≤ L
              · have F := FAIL (by omega)
                have h16 : (16 : Int) ≤ (L : Int) - 97 + 10 := by omega
                clear FAIL hc48 h95 hd0
                go_wp2_with (first | (go_at_call 45; refine (hlow _).mono ?_; rintro e w2 ⟨rfl, rfl⟩))
                go_ret2
                exact ⟨.inr ⟨0, 2, .inr rfl, rfl, parsed_bad (by omega) F.out⟩, HBEL.out⟩
              · have h16 : ¬ (16 : Int) ≤ (L : Int) - 97 + 10 := by omega
                have hval : Hid (∀ f, f < 18446744073709551616 → bs = hexP 16 f → k < 16 ∧ L = 87 + f / 16 ^ (15 - k) % 16) := Lib.hid (fun f hf h => by
                  have h2 := hex_char h HG.out
                  rw [← HC.out] at h2
                  refine ⟨h2.1, ?_⟩
                  rcases h2.2 with ⟨h3, h4⟩ | ⟨h3, h4⟩
                  · omega
                  · have h5 : (87 + f / 16 ^ (15 - k) % 16) ||| 32 = 87 + f / 16 ^ (15 - k) % 16 := or_32 ⟨f / 16 ^ (15 - k) % 16, Nat.mod_lt _ (by decide)⟩ h3
                    have h6 := HL.out
                    rw [h4, h5] at h6
                    exact h6)
                by_cases hcut : 1152921504606846976 ≤ a
                · have F : Hid (∀ f, f < 18446744073709551616 → bs ≠ hexP 16 f) := Lib.hid (fun f hf h => by
                    have h1 := HH.out f hf h
                    have h2 := hval.out f hf h
                    have h3 := hex_cut hf h2.1
                    omega)
                  clear FAIL hc48 h95 hd0
                  go_wp2_with (first | (go_at_call 45; refine (hlow _).mono ?_; rintro e w2 ⟨rfl, rfl⟩))
                  go_ret2
                  exact ⟨.inr ⟨18446744073709551615, 1, .inl rfl, rfl, parsed_bad (by omega) F.out⟩, HBEL.out⟩
                · have icut : a < 1152921504606846976 := by omega
                  have iov : a * 16 + ((L : Int) - 97 + 10) < 18446744073709551616 := by omega
                  have iov2 : 0 ≤ a * 16 + ((L : Int) - 97 + 10) := by omega
                  have HN : Hid (∀ f, f < 18446744073709551616 → bs = hexP 16 f → a * 16 + ((L : Int) - 97 + 10) = ((f / 16 ^ (16 - (k + 1)) : Nat) : Int)) := Lib.hid (fun f hf h => by
                    have h1 := HH.out f hf h
                    have h2 := hval.out f hf h
                    rw [hex_step h2.1, h1]
                    omega)
                  clear FAIL hc48 h95 hd0 hcut hbig
                  go_wp2_with (first | (go_at_call 45; refine (hlow _).mono ?_; rintro e w2 ⟨rfl, rfl⟩))
                  go_roundw
                  case rel => exact ⟨k + 1, a * 16 + ((L : Int) - 97 + 10), rfl, rfl, by simp, by omega, trivial, iov2, iov, HN⟩
                  case measure => simp [intOf]; omega
            · by_cases hlo : c < 48
              · have F := FAIL (by
                  have h1 := HL.out
                  have h2 : c ||| 32 < 64 := Nat.or_lt_two_pow (n := 6) (by omega) (by omega)
                  omega)
                have hc1 : ¬ 48 ≤ c := by omega
                have hl97 : ¬ 97 ≤ L := by
                  have h1 := HL.out
                  have h2 : c ||| 32 < 64 := Nat.or_lt_two_pow (n := 6) (by omega) (by omega)
                  omega
                clear FAIL hc48 h95 hmid hlo
                go_wp2_with (first | (go_at_call 45; refine (hlow _).mono ?_; rintro e w2 ⟨rfl, rfl⟩))
                go_ret2
                exact ⟨.inr ⟨0, 2, .inr rfl, rfl, parsed_bad (by omega) F.out⟩, HBEL.out⟩
              · have F := FAIL (by omega)
                have hc1 : 48 ≤ c := by omega
                have hc2 : ¬ c ≤ 57 := by omega
                by_cases hl97 : 97 ≤ L
                · have hl122 : ¬ L ≤ 122 := by omega
                  clear FAIL hc48 h95 hmid hlo
                  go_wp2_with (first | (go_at_call 45; refine (hlow _).mono ?_; rintro e w2 ⟨rfl, rfl⟩))
                  go_ret2
                  exact ⟨.inr ⟨0, 2, .inr rfl, rfl, parsed_bad (by omega) F.out⟩, HBEL.out⟩
                · clear FAIL hc48 h95 hmid hlo
                  go_wp2_with (first | (go_at_call 45; refine (hlow _).mono ?_; rintro e w2 ⟨rfl, rfl⟩))
                  go_ret2
                  exact ⟨.inr ⟨0, 2, .inr rfl, rfl, parsed_bad (by omega) F.out⟩, HBEL.out⟩
      · have hke : k = t.size := by omega
        subst hke
        clear hkn
        obtain ⟨v, hv⟩ : ∃ v : Nat, a = (v : Int) := ⟨a.toNat, by omega⟩
        have HV : Hid (v < 18446744073709551616 ∧ ∀ f, f < 18446744073709551616 → bs = hexP 16 f → v = f) := Lib.hid ⟨by omega, fun f hf h => by
          have h1 := HH.out f hf h
          have h2 : t.size = 16 := by rw [← hLn, h, hexP_length]
          rw [h2, Nat.sub_self, Nat.pow_zero, Nat.div_one] at h1
          omega⟩
        subst hv
        go_wp2
        go_ret2
        exact ⟨.inl ⟨v, rfl, HV.out.1, fun h => h.elim, fun _ => HV.out.2⟩, HBEL.out⟩
end Go.Proofs.YtdelppndoepkbaaDoor.Seg
