/- The laws' own functions: right, near, of any manifest. -/
import Derived.Test.YtffhepdhkpldlaaDoorManSame
import Derived.Deep.RegionHeld3
namespace Go.Proofs.YtffhepdhkpldlaaDoor.Man
open Go Go.RowKit Go.Proofs.YtffhepdhkpldlaaDoor.Words Go.Proofs.YtffhepdhkpldlaaDoor.Enc Go.Proofs.YtffhepdhkpldlaaDoor.Made Go.Proofs.YtffhepdhkpldlaaDoor.Tape Go.Proofs.YtffhepdhkpldlaaDoor.Vec Go.Proofs.YtffhepdhkpldlaaDoor.Dsk
set_option linter.unusedVariables false
set_option linter.unusedSimpArgs false

def lowB (v : List Nat) : Bool := v.all fun x => decide (x ≤ 9223372036854775807)
def rightB (m : Mn) : Bool := decide (0 ≤ m.node) && (decide (m.node < 64) && (decide (m.serial ≤ 9223372036854775807) && (decide (m.time ≤ 9223372036854775807) && (decide (m.floor.length ≤ 64) && (foldB m.fold && lowB m.floor)))))
theorem lowB_iff (v : List Nat) : lowB v = true ↔ ∀ i, at_ v i ≤ 9223372036854775807 := by
  simp only [lowB, List.all_eq_true, decide_eq_true_eq]
  constructor
  · intro h i
    by_cases hi : i < v.length
    · exact h _ (List.mem_of_getElem? (at_lt hi))
    · rw [at_ge (by omega)]; exact Nat.zero_le _
  · intro h x hx
    obtain ⟨i, hi, rfl⟩ := List.mem_iff_getElem.1 hx
    have h1 := h i
    have h2 := at_lt hi
    rw [List.getElem?_eq_getElem hi] at h2
    injection h2 with h2
    omega
theorem rightB_iff (m : Mn) : rightB m = true ↔ Right m := by
  simp only [rightB, Bool.and_eq_true, decide_eq_true_eq, lowB_iff]
  constructor
  · rintro ⟨h1, h2, h3, h4, h5, h6, h7⟩
    exact ⟨h1, h2, h3, ⟨h5, h7⟩, h4, h6⟩
  · rintro ⟨h1, h2, h3, h4, h5, h6⟩
    exact ⟨h1, h2, h3, h5, h4.1, h6, h4.2⟩
theorem right_low {m : Mn} {i : Nat} (h : ¬ at_ m.floor i ≤ 9223372036854775807) : rightB m = false := by
  cases hr : rightB m with
  | false => rfl
  | true => exact absurd (((rightB_iff m).1 hr).fl.2 i) h

set_option maxRecDepth 100000 in
set_option maxHeartbeats 2000000 in
theorem right_any (m : Mn) (A : Option Addr) (n c : Nat) (w : World) (hn0 : -9223372036854775808 ≤ m.node) (hn1 : m.node ≤ 9223372036854775807) (hsr : m.serial < 18446744073709551616) (htm : m.time < 18446744073709551616) (tv : Took2 w A n c m.floor) (hf : m.fold.size ≤ 9223372036854775807) :
    Calls Tryd.prog 8 #[m.val A n c] w fun e w' => e = .returned (.bool (rightB m)) ∧ Below w.heap.size w w' := by
  obtain ⟨nd, sr, v, tm, fd⟩ := m
  obtain ⟨R, hR⟩ : ∃ R, R = rightB ⟨nd, sr, v, tm, fd⟩ := ⟨_, rfl⟩
  rw [← hR]
  have HR := Lib.hid hR
  clear hR
  simp only [] at hn0 hn1 hsr htm tv hf
  unfold Mn.val Mn.row
  simp only []
  have al := (Below.refl w.heap.size w).alloc (Nat.le_refl _) (.cells #[.int .i64 nd, .int .u64 (sr : Int), .slice A n c, .int .u64 (tm : Int), .string fd] 26)
  have gm := heap_alloc_new w (.cells #[.int .i64 nd, .int .u64 (sr : Int), .slice A n c, .int .u64 (tm : Int), .string fd] 26)
  have sv := tv.1.below al
  have hvn := tv.1.1
  have hn9 : n ≤ 900000 := tv.2.2.2.2
  have hfit := tv.2.1
  clear tv
  go_enter Tryd.func8, Tryd.ntmps8
  go_wp2_with fail
  generalize w.alloc (.cells #[.int .i64 nd, .int .u64 (sr : Int), .slice A n c, .int .u64 (tm : Int), .string fd] 26) = w1 at al gm sv ⊢
  obtain ⟨m0, m1, m2, m3, m4⟩ := box5 gm
  have AL := Lib.hid al
  have SV := Lib.hid sv
  have FIT := Lib.hid hfit
  have HVN := Lib.hid hvn
  clear al gm sv hfit hvn
  go_loop [3] (fun x => ∃ j : Nat, x = .int .i64 (j : Int) ∧ j ≤ n ∧ Hid (∀ i, i < j → at_ v i ≤ 9223372036854775807)) (fun x => n - (intOf x).toNat)
  case atStart => exact ⟨0, rfl, by omega, Lib.hid fun i hi => absurd hi (by omega)⟩
  case round =>
    obtain ⟨j, rfl, hj, HJ⟩ := hrel
    by_cases hlt : j < n
    · obtain ⟨g, o, rfl, hcell⟩ := SV.out.get hlt
      have hx64 := FIT.out j
      have d1 : decide ((j : Int) < (n : Int)) = true := decide_eq_true (by omega)
      have h0 : (0 : Int) ≤ (j : Int) := by omega
      have h1 : (j : Int) < (n : Int) := by omega
      by_cases hx : at_ v j ≤ 9223372036854775807
      · have HJ2 : Hid (∀ i, i < j + 1 → at_ v i ≤ 9223372036854775807) := Lib.hid fun i hi => by
          rcases Nat.lt_or_ge i j with h | h
          · exact HJ.out i h
          · obtain rfl : i = j := by omega
            exact hx
        have hx' : ¬ 9223372036854775807 < at_ v j := by omega
        clear hx
        generalize at_ v j = x at hcell hx64 hx'
        go_wp2
        go_round
        case rel => exact ⟨j + 1, by simp, by omega, HJ2⟩
        case measure => simp [intOf]; omega
      · have hx' : 9223372036854775807 < at_ v j := by omega
        have HF : Hid (R = false) := Lib.hid (by rw [HR.out]; exact right_low (i := j) hx)
        clear hx
        generalize at_ v j = x at hcell hx64 hx'
        go_wp2
        go_ret
        exact ⟨by rw [HF.out]; rfl, AL.out⟩
    · obtain rfl : j = n := by omega
      have hlow : Hid (lowB v = true) := Lib.hid ((lowB_iff v).2 fun i => by
        by_cases hi : i < j
        · exact HJ.out i hi
        · rw [at_ge (by rw [HVN.out]; omega)]; exact Nat.zero_le _)
      clear HJ
      by_cases a1 : 0 ≤ nd
      case neg =>
        have HF : Hid (R = false) := Lib.hid (by rw [HR.out]; simp [rightB, a1])
        have q1 : decide ((0 : Int) ≤ nd) = false := decide_eq_false a1
        have q1' : nd < 0 := by omega
        clear a1
        go_wp2
        go_ret
        exact ⟨by rw [HF.out]; rfl, AL.out⟩
      by_cases a2 : nd < 64
      case neg =>
        have HF : Hid (R = false) := Lib.hid (by rw [HR.out]; simp [rightB, a2])
        have q2 : 64 ≤ nd := by omega
        go_wp2
        go_ret
        exact ⟨by rw [HF.out]; rfl, AL.out⟩
      by_cases a3 : sr ≤ 9223372036854775807
      case neg =>
        have HF : Hid (R = false) := Lib.hid (by rw [HR.out]; simp [rightB, a3])
        have q3 : 9223372036854775807 < sr := by omega
        clear a3
        go_wp2
        go_ret
        exact ⟨by rw [HF.out]; rfl, AL.out⟩
      by_cases a4 : tm ≤ 9223372036854775807
      case neg =>
        have HF : Hid (R = false) := Lib.hid (by rw [HR.out]; simp [rightB, a4])
        have q4 : 9223372036854775807 < tm := by omega
        clear a4
        go_wp2
        go_ret
        exact ⟨by rw [HF.out]; rfl, AL.out⟩
      by_cases a5 : j ≤ 64
      case neg =>
        have HF : Hid (R = false) := Lib.hid (by rw [HR.out]; simp [rightB, HVN.out, a5])
        have q5 : 64 < j := by omega
        go_wp2
        go_ret
        exact ⟨by rw [HF.out]; rfl, AL.out⟩
      have HF : Hid (R = foldB fd) := Lib.hid (by rw [HR.out]; simp [rightB, a1, a2, a3, a4, HVN.out, a5, hlow.out])
      have hemp := empty_iff fd
      by_cases a6 : fd.size = 0
      · have hf0 : Hid (foldB fd = true) := Lib.hid (by simp [foldB, a6])
        rw [decide_eq_true a6] at hemp
        have hnil : fd.toList = [] := by simpa using hemp
        clear a6
        go_wp2
        go_ret
        exact ⟨by rw [HF.out, hf0.out]; rfl, AL.out⟩
      · have hf0 : Hid (foldB fd = okName fd.data.toList) := Lib.hid (by simp [foldB, a6])
        rw [decide_eq_false a6] at hemp
        have hnil : ¬ fd.toList = [] := fun e => by rw [e] at hemp; cases hemp
        have NM := Lib.hid (named_full fd w1 hf)
        clear a6
        go_wp2_with fail
        refine NM.out.mono ?_
        rintro e w2 ⟨rfl, hb2⟩
        have B2 := Lib.hid (AL.out.trans (hb2.mono AL.out.size))
        clear hb2
        have FIN : Hid (R = okName fd.data.toList) := Lib.hid (by rw [HF.out, hf0.out])
        generalize okName fd.data.toList = b at FIN ⊢
        cases b
        · go_wp2
          go_ret
          exact ⟨by rw [FIN.out]; rfl, B2.out⟩
        · go_wp2
          go_ret
          exact ⟨by rw [FIN.out]; rfl, B2.out⟩
end Go.Proofs.YtffhepdhkpldlaaDoor.Man
