/- The law DiskFalls, out of package disk's contracts. -/
import Derived.Test.YtpdadcljlgflgaaDiskC
import Derived.Lib.SlBytesConst
namespace Go.Proofs.Ytpdadcljlgflgaa.Dsk
open Go Go.RowKit Go.Proofs.Ytpdadcljlgflgaa.Words
set_option linter.unusedVariables false

theorem hd_fits {h : Hd} (h1 : -9223372036854775808 ≤ h.room) (h2 : h.room ≤ 9223372036854775807) (h3 : h.acts ≤ 1000000000000) (h4 : -9223372036854775808 ≤ h.left) (h5 : h.left ≤ 9223372036854775807) (h6 : -9223372036854775808 ≤ h.torn) (h7 : h.torn ≤ 9223372036854775807) : h.fits := ⟨⟨h1, h2⟩, h3, ⟨h4, h5⟩, ⟨h6, h7⟩⟩

theorem ok_a : okName [97] = true := by decide +kernel
theorem ok_f : okName [102] = true := by decide +kernel

set_option maxRecDepth 100000 in
theorem awake_disk (w : World) : Calls Try.prog 4 #[] w fun e w' => e = .returned (.bool true) ∧ Below w.heap.size w w' := by
  have hconv := fun (W : World) (C : Array Value) (n c : Nat) => Lib.run_convert_bytes_const (P := Try.prog) W 22 5 C n c Try.underlying22 Try.underlying5
  go_enter Try.func4, Try.ntmps4
  go_wp2_with fail
  refine (newC 10 w).mono ?_
  rintro e w1 ⟨d, S, rfl, hd1, hS1, hb1⟩
  go_wp2_with fail
  refine (appendC d S [] ⟨10, 0, -1, 0, false⟩ [97] (some ⟨w1.heap.size, 0, none⟩) 3 3 [120, 121, 122] _ (hd1.below ((Below.refl _ _).alloc (Nat.le_refl _) _)) (hd_fits (by simp) (by simp) (by simp) (by simp) (by simp) (by simp) (by simp)) (by simp) ok_a (by simp [sumA]) (by simp) (by omega) (by omega) (by omega) ?c1 ?c2).mono ?_
  case c1 => exact sees_marked w1 _ _ _ 3 [120, 121, 122] rfl (fun j u hj => by match j, hj with | 0, hj => simp at hj; subst hj; rfl | 1, hj => simp at hj; subst hj; rfl | 2, hj => simp at hj; subst hj; rfl)
  case c2 => intro _ a ha hm; cases ha; have := hd1.lt _ hm; simp at this
  rintro e w2 ⟨rfl, S2, hd2, hb2, hs2⟩
  rw [show appE ⟨10, 0, -1, 0, false⟩ [97] [120, 121, 122] [] = 0 by decide +kernel]
  rw [show appF ⟨10, 0, -1, 0, false⟩ [97] [120, 121, 122] [] = [⟨[97], [120, 121, 122], 0⟩] by rfl] at hd2
  go_wp2_with fail
  refine (crashC d S2 [⟨[97], [120, 121, 122], 0⟩] _ 2 w2 hd2 (by simp [sumA]) (by omega) (by omega)).mono ?_
  rintro e w3 ⟨rfl, S3, hd3, hb3, hs3⟩
  rw [show List.map (crashG 2) [⟨[97], [120, 121, 122], 0⟩] = [⟨[97], [120, 121], 2⟩] by rfl] at hd3
  go_wp2_with fail
  refine (readC d S3 _ _ [97] w3 hd3 (by simp) (by simp [sumA])).mono ?_
  rintro e w4 ⟨A4, c4, rfl, hown4, hb4⟩
  rw [show readP { Hd.act ⟨10, 0, -1, 0, false⟩ with off := false, left := -1 } [97] [⟨[97], [120, 121], 2⟩] = [120, 121] by rfl] at hown4 ⊢
  rw [show readE { Hd.act ⟨10, 0, -1, 0, false⟩ with off := false, left := -1 } [97] [⟨[97], [120, 121], 2⟩] = 0 by rfl]
  have hs4 : Sees w4 A4 2 [120, 121] := Sees.of_own hown4
  have hst := hs4.string (P := Try.prog) c4 (s := 9) Try.underlying22 Try.underlying5 Try.underlying9
  have hlow : Below w.heap.size w w4 := by
    have h1 : Below w.heap.size w w2 := Below.beside (S := S) hb1 (((Beside.refl S w1).alloc _).trans hb2 fun x hx => .inl hx) (by exact hb1.size) hS1
    have h2 : ∀ k ∈ S2, w.heap.size ≤ k := fun k hk => by
      rcases hs2 k hk with h | h
      · exact hS1 k h
      · have := hb1.size; simp at h; omega
    have h3 : Below w.heap.size w w3 := Below.beside h1 hb3 h1.size h2
    exact h3.trans (hb4.mono h3.size)
  clear hown4 hs4
  go_wp2
  go_returns
  exact ⟨rfl, hlow⟩

theorem falls_long (A : Option Addr) (n c : Nat) (B : Option Addr) (m d : Nat) (keep again : Int) (w : World) (hm : n ≤ maxLen) (hm2 : m ≤ maxLen) (hlen : 200 < n ∨ 200 < m) :
    Calls Try.prog 3 #[.slice A n c, .slice B m d, .int .i64 keep, .int .i64 again] w fun e w' => e = .returned (.bool true) ∧ Below w.heap.size w w' := by
  unfold maxLen at hm hm2
  rcases (show 200 < n ∨ (n ≤ 200 ∧ 200 < m) by omega) with h1 | ⟨h1, h2⟩
  · have hlen' : (200 : Int) < (n : Int) := by omega
    go_enter Try.func3, Try.ntmps3
    go_wp2_with fail
    refine (awake_disk _).mono ?_
    rintro e w1 ⟨rfl, hb1⟩
    go_wp2_with fail
    refine (awake_disk _).mono ?_
    rintro e w2 ⟨rfl, hb2⟩
    go_wp2
    go_returns
    exact ⟨rfl, hb1.trans (hb2.mono hb1.size)⟩
  · have hlen0 : decide ((200 : Int) < (n : Int)) = false := by simp; omega
    have hlen' : (200 : Int) < (m : Int) := by omega
    go_enter Try.func3, Try.ntmps3
    go_wp2_with fail
    refine (awake_disk _).mono ?_
    rintro e w1 ⟨rfl, hb1⟩
    go_wp2_with fail
    refine (awake_disk _).mono ?_
    rintro e w2 ⟨rfl, hb2⟩
    go_wp2
    go_returns
    exact ⟨rfl, hb1.trans (hb2.mono hb1.size)⟩

theorem step_low {w0 w w' : World} {S S' : List Nat} (b : Below w0.heap.size w0 w) (hS : ∀ k ∈ S, w0.heap.size ≤ k) (hb : Beside S w w') (hs : ∀ k ∈ S', k ∈ S ∨ w.heap.size ≤ k) : Below w0.heap.size w0 w' ∧ ∀ k ∈ S', w0.heap.size ≤ k :=
  ⟨Below.beside b hb b.size hS, fun k hk => by
    rcases hs k hk with h | h
    · exact hS k h
    · have := b.size; omega⟩
theorem _root_.Go.RowKit.Below.drewN {B : Nat} {a w : World} (h : Below B a w) (k : Nat) : Below B a (w.drewN k) := ⟨h.os, h.tape, h.output, h.size, h.block⟩
theorem str_add {p q r : List UInt8} (h : r = p ++ q) (h1 : p.length ≤ 1000000) (h2 : q.length ≤ 1000000) (W : World) : (Op.stringOp .add ⟨p.toArray⟩ ⟨q.toArray⟩).run Try.prog W = .ok (.string ⟨r.toArray⟩) W := by
  rw [run_string_add_lists W p q (by omega) (by omega), h]
theorem crash_one (keep : Int) (s p q : List UInt8) : crashG keep ⟨s, p ++ q, p.length⟩ = ⟨s, p ++ q.take (min keep.toNat q.length), p.length + min keep.toNat q.length⟩ := by
  have h1 : (p ++ q).length - p.length = q.length := by simp
  simp only [crashG, h1]
  rw [List.take_append, List.take_of_length_le (by omega), Nat.add_sub_cancel_left]
theorem crash_whole (keep : Int) (s p : List UInt8) : crashG keep ⟨s, p, p.length⟩ = ⟨s, p, p.length⟩ := by
  simp [crashG]

set_option maxRecDepth 100000 in
set_option maxHeartbeats 1000000 in
theorem falls_short (A : Option Addr) (n c : Nat) (p : List UInt8) (B : Option Addr) (m d : Nat) (q : List UInt8) (keep again : Int) (w : World) (hp : Sees w A n p) (hq : Sees w B m q) (hnc : n ≤ c) (hcm : c ≤ maxLen) (hmd : m ≤ d) (hdm : d ≤ maxLen)
    (hn : n ≤ 200) (hm : m ≤ 200) (hk1 : -9223372036854775808 ≤ keep) (hk2 : keep ≤ 9223372036854775807) (ha1 : -9223372036854775808 ≤ again) (ha2 : again ≤ 9223372036854775807) :
    Calls Try.prog 3 #[.slice A n c, .slice B m d, .int .i64 keep, .int .i64 again] w fun e w' => e = .returned (.bool true) ∧ Below w.heap.size w w' := by
  unfold maxLen at hcm hdm
  have hd1 : decide ((200 : Int) < (n : Int)) = false := by simp; omega
  have hd2 : decide ((200 : Int) < (m : Int)) = false := by simp; omega
  have hlp := hp.1
  have hlq := hq.1
  obtain ⟨k, hk⟩ : ∃ k, k = min keep.toNat q.length := ⟨_, rfl⟩
  have HLP := Lib.hid hlp
  have HLQ := Lib.hid hlq
  have HK := Lib.hid hk
  have hkm : k ≤ m := by omega
  have hclamp : (if (if keep < (m : Int) then keep else (m : Int)) < 0 then (0 : Int) else (if keep < (m : Int) then keep else (m : Int))) = (k : Int) := by
    split <;> split <;> omega
  have HC := Lib.hid hclamp
  clear hlp hlq hk hclamp
  go_enter Try.func3, Try.ntmps3
  go_wp2_with fail
  refine (awake_disk _).mono ?_
  rintro e w1 ⟨rfl, b1⟩
  go_wp2_with fail
  refine (newC 1000 w1).mono ?_
  rintro e w2 ⟨dd, S2, rfl, hdk2, hS2', b2⟩
  have b2 := b1.trans (b2.mono b1.size)
  have hS2 : ∀ k ∈ S2, w.heap.size ≤ k := fun k hk => Nat.le_trans b1.size (hS2' k hk)
  clear b1 hS2'
  go_wp2_with fail
  refine (appendC dd S2 [] _ [102] A n c p w2 hdk2 (hd_fits (by simp) (by simp) (by simp) (by simp) (by simp) (by simp) (by simp)) (by simp) ok_f (by simp [sumA]) (by simp) (by omega) hnc (by omega) (hp.below b2) (Out.of_lt hp (Nat.le_refl _) hS2)).mono ?_
  rintro e w3 ⟨rfl, S3, hdk3, hb3, hs3⟩
  have e1 : appF ⟨1000, 0, -1, 0, false⟩ [102] p [] = [⟨[102], p, 0⟩] := by
    have := HLP.out
    simp [appF, sumA, put]
    omega
  rw [e1] at hdk3
  obtain ⟨b3, hS3⟩ := step_low b2 hS2 hb3 hs3
  clear hdk2 hb3 hs3 hS2 e1 b2
  go_wp2_with fail
  refine (syncC dd S3 [⟨[102], p, 0⟩] _ [102] w3 hdk3 (hd_fits (by simp [Hd.act]) (by simp [Hd.act]) (by simp [Hd.act]) (by simp [Hd.act]) (by simp [Hd.act]) (by simp [Hd.act]) (by simp [Hd.act])) (by simp) (by simp [sumA]; have := HLP.out; omega)).mono ?_
  rintro e w4 ⟨rfl, S4, hdk4, hb4, hs4⟩
  rw [show thereF (Hd.act ⟨1000, 0, -1, 0, false⟩) [102] syncG [⟨[102], p, 0⟩] = [⟨[102], p, p.length⟩] by rfl] at hdk4
  obtain ⟨b4, hS4⟩ := step_low b3 hS3 hb4 hs4
  clear hdk3 hb4 hs4 hS3 b3
  go_wp2_with fail
  refine (appendC dd S4 [⟨[102], p, p.length⟩] _ [102] B m d q w4 hdk4 (hd_fits (by simp [Hd.act]) (by simp [Hd.act]) (by simp [Hd.act]) (by simp [Hd.act]) (by simp [Hd.act]) (by simp [Hd.act]) (by simp [Hd.act])) (by simp [Hd.act]) ok_f (by simp [sumA]; have := HLP.out; omega) (by simp) (by omega) hmd (by omega) (hq.below b4) (Out.of_lt hq (Nat.le_refl _) hS4)).mono ?_
  rintro e w5 ⟨rfl, S5, hdk5, hb5, hs5⟩
  have e2 : appF (Hd.act (Hd.act ⟨1000, 0, -1, 0, false⟩)) [102] q [⟨[102], p, p.length⟩] = [⟨[102], p ++ q, p.length⟩] := by
    have h1 := HLP.out
    have h2 := HLQ.out
    simp [appF, sumA, put, Hd.act]
    omega
  rw [e2] at hdk5
  obtain ⟨b5, hS5⟩ := step_low b4 hS4 hb5 hs5
  clear hdk4 hb5 hs5 hS4 b4 e2
  go_wp2_with fail
  refine (crashC dd S5 [⟨[102], p ++ q, p.length⟩] _ keep w5 hdk5 (by simp [sumA]; have h1 := HLP.out; have h2 := HLQ.out; omega) hk1 hk2).mono ?_
  rintro e w6 ⟨rfl, S6, hdk6, hb6, hs6⟩
  rw [List.map_cons, List.map_nil, crash_one, ← HK.out] at hdk6
  obtain ⟨b6, hS6⟩ := step_low b5 hS5 hb6 hs6
  clear hdk5 hb6 hs6 hS5 b5
  obtain ⟨r, hr⟩ : ∃ r, r = p ++ q.take k := ⟨_, rfl⟩
  have hrl : r.length = p.length + k := by rw [hr]; simp; have := HLQ.out; omega
  have hrs : r.length ≤ 400 := by have h1 := HLP.out; omega
  rw [← hrl, ← hr] at hdk6
  have HR := Lib.hid hr
  clear hr hrl
  have hcase : (keep < (m : Int) ∧ keep < 0 ∧ k = 0) ∨ (keep < (m : Int) ∧ 0 ≤ keep ∧ keep = (k : Int)) ∨ ((m : Int) ≤ keep ∧ m = k) := by
    have h1 := HK.out
    have h2 := HLQ.out
    omega
  have hstr : ∀ (W : World), Below w.heap.size w W → (convert 22 9 (.slice A n c)).run Try.prog W = .ok (.string ⟨p.toArray⟩) W := fun W hW => (hp.below hW).string c Try.underlying22 Try.underlying5 Try.underlying9
  have hstq : ∀ (W : World) (c' : Nat), Below w.heap.size w W → (convert 22 9 (.slice B k c')).run Try.prog W = .ok (.string ⟨(q.take k).toArray⟩) W := fun W c' hW => ((hq.below hW).take hkm).string c' Try.underlying22 Try.underlying5 Try.underlying9
  have HSTR := Lib.hid hstr
  have HSTQ := Lib.hid hstq
  clear hstr hstq hp hq
  rcases hcase with ⟨h1, h2, h3⟩ | ⟨h1, h2, h3⟩ | ⟨h1, h3⟩
  · subst h3
    go_wp2_with fail
    refine (readC dd S6 _ _ [102] w6 hdk6 (by simp) (by simp [sumA]; omega)).mono ?_
    rintro e w7 ⟨A7, c7, rfl, hown7, hb7⟩
    rw [show ∀ h : Hd, readP { h with off := false, left := -1 } [102] [⟨[102], r, r.length⟩] = r from fun _ => rfl] at hown7 ⊢
    have hs7 := Sees.of_own hown7
    have hdk7 := hdk6.below hb7
    have o7 : Out S6 A7 r.length := Out.of_own hown7 fun x hx => hdk6.lt x hx
    have b7 := b6.trans (hb7.mono b6.size)
    clear hdk6 hown7 hb7 b6
    go_wp2_with fail
    refine (safeC dd S6 _ _ [102] w7 hdk7 (by simp)).mono ?_
    rintro e w8 ⟨rfl, rfl⟩
    rw [show safeN [102] [⟨[102], r, r.length⟩] = r.length from rfl]
    go_wp2_with fail
    refine (crashC dd S6 _ _ again w7 hdk7 (by simp [sumA]; omega) ha1 ha2).mono ?_
    rintro e w8 ⟨rfl, S8, hdk8, hb8, hs8⟩
    rw [List.map_cons, List.map_nil, crash_whole] at hdk8
    have hs8' := hs7.beside hb8 o7
    obtain ⟨b8, hS8⟩ := step_low b7 hS6 hb8 hs8
    clear hdk7 hb8 hs8 hS6 b7 hs7 o7
    go_wp2_with fail
    refine (readC dd S8 _ _ [102] w8 hdk8 (by simp) (by simp [sumA]; omega)).mono ?_
    rintro e w9 ⟨A9, c9, rfl, hown9, hb9⟩
    rw [show ∀ h : Hd, readP { h with off := false, left := -1 } [102] [⟨[102], r, r.length⟩] = r from fun _ => rfl] at hown9 ⊢
    have hs9 := Sees.of_own hown9
    have hs9' := hs8'.below hb9
    have b9 := b8.trans (hb9.mono b8.size)
    clear hdk8 hown9 hb9 b8 hS8 hs8'
    have x7 := fun k => (hs9'.drewN k).string (P := Try.prog) c7 (s := 9) Try.underlying22 Try.underlying5 Try.underlying9
    have x9 := fun k => (hs9.drewN k).string (P := Try.prog) c9 (s := 9) Try.underlying22 Try.underlying5 Try.underlying9
    have xp := fun k => HSTR.out (w9.drewN k) (b9.drewN k)
    have xq := fun k => HSTQ.out (w9.drewN k) d (b9.drewN k)
    have hadd := str_add HR.out (by have := HLP.out; omega) (by have := HLQ.out; rw [List.length_take]; omega)
    generalize (⟨r.toArray⟩ : ByteArray) = sr at x7 x9 hadd
    generalize (⟨p.toArray⟩ : ByteArray) = sp at xp hadd
    generalize (⟨(List.take 0 q).toArray⟩ : ByteArray) = sq at xq hadd
    clear hs9 hs9' hrs
    have hkd : 0 ≤ d := by omega
    go_wp2
    go_quiet (fail)
    go_wp2
    go_returns
    exact ⟨rfl, b9.drewN _⟩
  · subst h3
    go_wp2_with fail
    refine (readC dd S6 _ _ [102] w6 hdk6 (by simp) (by simp [sumA]; omega)).mono ?_
    rintro e w7 ⟨A7, c7, rfl, hown7, hb7⟩
    rw [show ∀ h : Hd, readP { h with off := false, left := -1 } [102] [⟨[102], r, r.length⟩] = r from fun _ => rfl] at hown7 ⊢
    have hs7 := Sees.of_own hown7
    have hdk7 := hdk6.below hb7
    have o7 : Out S6 A7 r.length := Out.of_own hown7 fun x hx => hdk6.lt x hx
    have b7 := b6.trans (hb7.mono b6.size)
    clear hdk6 hown7 hb7 b6
    go_wp2_with fail
    refine (safeC dd S6 _ _ [102] w7 hdk7 (by simp)).mono ?_
    rintro e w8 ⟨rfl, rfl⟩
    rw [show safeN [102] [⟨[102], r, r.length⟩] = r.length from rfl]
    go_wp2_with fail
    refine (crashC dd S6 _ _ again w7 hdk7 (by simp [sumA]; omega) ha1 ha2).mono ?_
    rintro e w8 ⟨rfl, S8, hdk8, hb8, hs8⟩
    rw [List.map_cons, List.map_nil, crash_whole] at hdk8
    have hs8' := hs7.beside hb8 o7
    obtain ⟨b8, hS8⟩ := step_low b7 hS6 hb8 hs8
    clear hdk7 hb8 hs8 hS6 b7 hs7 o7
    go_wp2_with fail
    refine (readC dd S8 _ _ [102] w8 hdk8 (by simp) (by simp [sumA]; omega)).mono ?_
    rintro e w9 ⟨A9, c9, rfl, hown9, hb9⟩
    rw [show ∀ h : Hd, readP { h with off := false, left := -1 } [102] [⟨[102], r, r.length⟩] = r from fun _ => rfl] at hown9 ⊢
    have hs9 := Sees.of_own hown9
    have hs9' := hs8'.below hb9
    have b9 := b8.trans (hb9.mono b8.size)
    clear hdk8 hown9 hb9 b8 hS8 hs8'
    have x7 := fun k => (hs9'.drewN k).string (P := Try.prog) c7 (s := 9) Try.underlying22 Try.underlying5 Try.underlying9
    have x9 := fun k => (hs9.drewN k).string (P := Try.prog) c9 (s := 9) Try.underlying22 Try.underlying5 Try.underlying9
    have xp := fun k => HSTR.out (w9.drewN k) (b9.drewN k)
    have xq := fun k => HSTQ.out (w9.drewN k) d (b9.drewN k)
    have hadd := str_add HR.out (by have := HLP.out; omega) (by have := HLQ.out; rw [List.length_take]; omega)
    generalize (⟨r.toArray⟩ : ByteArray) = sr at x7 x9 hadd
    generalize (⟨p.toArray⟩ : ByteArray) = sp at xp hadd
    generalize (⟨(List.take k q).toArray⟩ : ByteArray) = sq at xq hadd
    clear hs9 hs9' hrs
    have hkd : k ≤ d := by omega
    go_wp2
    go_quiet (fail)
    go_wp2
    go_returns
    exact ⟨rfl, b9.drewN _⟩
  · subst h3
    have h1' : decide (keep < (m : Int)) = false := by simp; omega
    go_wp2_with fail
    refine (readC dd S6 _ _ [102] w6 hdk6 (by simp) (by simp [sumA]; omega)).mono ?_
    rintro e w7 ⟨A7, c7, rfl, hown7, hb7⟩
    rw [show ∀ h : Hd, readP { h with off := false, left := -1 } [102] [⟨[102], r, r.length⟩] = r from fun _ => rfl] at hown7 ⊢
    have hs7 := Sees.of_own hown7
    have hdk7 := hdk6.below hb7
    have o7 : Out S6 A7 r.length := Out.of_own hown7 fun x hx => hdk6.lt x hx
    have b7 := b6.trans (hb7.mono b6.size)
    clear hdk6 hown7 hb7 b6
    go_wp2_with fail
    refine (safeC dd S6 _ _ [102] w7 hdk7 (by simp)).mono ?_
    rintro e w8 ⟨rfl, rfl⟩
    rw [show safeN [102] [⟨[102], r, r.length⟩] = r.length from rfl]
    go_wp2_with fail
    refine (crashC dd S6 _ _ again w7 hdk7 (by simp [sumA]; omega) ha1 ha2).mono ?_
    rintro e w8 ⟨rfl, S8, hdk8, hb8, hs8⟩
    rw [List.map_cons, List.map_nil, crash_whole] at hdk8
    have hs8' := hs7.beside hb8 o7
    obtain ⟨b8, hS8⟩ := step_low b7 hS6 hb8 hs8
    clear hdk7 hb8 hs8 hS6 b7 hs7 o7
    go_wp2_with fail
    refine (readC dd S8 _ _ [102] w8 hdk8 (by simp) (by simp [sumA]; omega)).mono ?_
    rintro e w9 ⟨A9, c9, rfl, hown9, hb9⟩
    rw [show ∀ h : Hd, readP { h with off := false, left := -1 } [102] [⟨[102], r, r.length⟩] = r from fun _ => rfl] at hown9 ⊢
    have hs9 := Sees.of_own hown9
    have hs9' := hs8'.below hb9
    have b9 := b8.trans (hb9.mono b8.size)
    clear hdk8 hown9 hb9 b8 hS8 hs8'
    have x7 := fun k => (hs9'.drewN k).string (P := Try.prog) c7 (s := 9) Try.underlying22 Try.underlying5 Try.underlying9
    have x9 := fun k => (hs9.drewN k).string (P := Try.prog) c9 (s := 9) Try.underlying22 Try.underlying5 Try.underlying9
    have xp := fun k => HSTR.out (w9.drewN k) (b9.drewN k)
    have xq := fun k => HSTQ.out (w9.drewN k) d (b9.drewN k)
    have hadd := str_add HR.out (by have := HLP.out; omega) (by have := HLQ.out; rw [List.length_take]; omega)
    generalize (⟨r.toArray⟩ : ByteArray) = sr at x7 x9 hadd
    generalize (⟨p.toArray⟩ : ByteArray) = sp at xp hadd
    generalize (⟨(List.take m q).toArray⟩ : ByteArray) = sq at xq hadd
    clear hs9 hs9' hrs
    go_wp2
    go_quiet (fail)
    go_wp2
    go_returns
    exact ⟨rfl, b9.drewN _⟩
end Go.Proofs.Ytpdadcljlgflgaa.Dsk
