/- Package manifest: mayBeFold, endsWithZero, titleOf; package disk: Named of any string. -/
import Derived.Test.YtffhepdhkpldlaaDoorManMath
import Derived.Test.YtffhepdhkpldlaaDoorManLay
import Derived.Test.YtffhepdhkpldlaaDoorBSheetLaw
import Derived.Laws.RangeAny
namespace Go.Proofs.YtffhepdhkpldlaaDoor.Man
open Go Go.RowKit Go.Proofs.YtffhepdhkpldlaaDoor.Words Go.Proofs.YtffhepdhkpldlaaDoor.Enc Go.Proofs.YtffhepdhkpldlaaDoor.Made Go.Proofs.YtffhepdhkpldlaaDoor.Tape Go.Proofs.YtffhepdhkpldlaaDoor.Vec Go.Proofs.YtffhepdhkpldlaaDoor.Dsk
set_option linter.unusedVariables false
set_option linter.unusedSimpArgs false

theorem mayStand_no (r : Nat) (w : World) (h : okB r = false) :
    Calls Tryd.prog 41 #[.int .i32 (r : Int)] w fun e w' => e = .returned (.bool false) ∧ w = w' := by
  have h' : ¬ (97 ≤ r ∧ r ≤ 122 ∨ 48 ≤ r ∧ r ≤ 57 ∨ r = 46 ∨ r = 45) := by simpa [okB] using h
  clear h
  have n46 : ((r : Int) == 46) = false := by rw [beq_eq_false_iff_ne]; omega
  have n45 : ((r : Int) == 45) = false := by rw [beq_eq_false_iff_ne]; omega
  by_cases h1 : 97 ≤ r
  · have a1 : decide ((97 : Int) ≤ (r : Int)) = true := by simp; omega
    have a2 : decide ((r : Int) ≤ 122) = false := by simp; omega
    have a3 : decide ((48 : Int) ≤ (r : Int)) = true := by simp; omega
    have a4 : decide ((r : Int) ≤ 57) = false := by simp; omega
    go_enter Tryd.func41, Tryd.ntmps41
    go_wp2
    go_ret
    exact ⟨rfl, rfl⟩
  · have a1 : decide ((97 : Int) ≤ (r : Int)) = false := by simp; omega
    by_cases h2 : 48 ≤ r
    · have a3 : decide ((48 : Int) ≤ (r : Int)) = true := by simp; omega
      have a4 : decide ((r : Int) ≤ 57) = false := by simp; omega
      go_enter Tryd.func41, Tryd.ntmps41
      go_wp2
      go_ret
      exact ⟨rfl, rfl⟩
    · have a3 : decide ((48 : Int) ≤ (r : Int)) = false := by simp; omega
      go_enter Tryd.func41, Tryd.ntmps41
      go_wp2
      go_ret
      exact ⟨rfl, rfl⟩

theorem okName_iff (s : ByteArray) : okName s.data.toList = true ↔ 1 ≤ s.size ∧ s.size ≤ 48 ∧ ∀ i (h : i < s.size), okB (s[i]'h).toNat = true := by
  simp only [okName, Bool.and_eq_true, decide_eq_true_eq, List.all_eq_true, size_list]
  constructor
  · rintro ⟨⟨h1, h2⟩, h3⟩
    refine ⟨h1, h2, fun i h => h3 _ ?_⟩
    show (s.data[i]'h) ∈ s.data.toList
    simp
  · rintro ⟨h1, h2, h3⟩
    refine ⟨⟨h1, h2⟩, fun u hu => ?_⟩
    obtain ⟨i, hi, rfl⟩ := List.mem_iff_getElem.1 hu
    exact h3 i hi
theorem okName_no {s : ByteArray} {pos : Nat} (hp : pos < s.size) (h : okB (s[pos]'hp).toNat = false) : okName s.data.toList = false := by
  cases ho : okName s.data.toList with
  | false => rfl
  | true => rw [((okName_iff s).1 ho).2.2 pos hp] at h; cases h

set_option maxRecDepth 100000 in
set_option maxHeartbeats 2000000 in
theorem named_full (s : ByteArray) (w : World) (hs : s.size ≤ 9223372036854775807) :
    Calls Tryd.prog 20 #[.string s] w fun e w' => e = .returned (.bool (okName s.data.toList)) ∧ Below w.heap.size w w' := by
  by_cases h0 : s.size = 0
  · have a1 : ((s.size : Int) == 0) = true := by rw [beq_iff_eq]; omega
    have hno : okName s.data.toList = false := by
      cases ho : okName s.data.toList with
      | false => rfl
      | true => have := ((okName_iff s).1 ho).1; omega
    rw [hno]
    go_enter Tryd.func20, Tryd.ntmps20
    go_wp2
    go_ret
    exact ⟨rfl, Below.refl _ _⟩
  have a1 : ((s.size : Int) == 0) = false := by rw [beq_eq_false_iff_ne]; omega
  by_cases h2 : 48 < s.size
  · have a2 : decide ((48 : Int) < (s.size : Int)) = true := by simp; omega
    have hno : okName s.data.toList = false := by
      cases ho : okName s.data.toList with
      | false => rfl
      | true => have := ((okName_iff s).1 ho).2.1; omega
    rw [hno]
    go_enter Tryd.func20, Tryd.ntmps20
    go_wp2
    go_ret
    exact ⟨rfl, Below.refl _ _⟩
  have a2 : decide ((48 : Int) < (s.size : Int)) = false := by simp; omega
  obtain ⟨b, hb⟩ : ∃ b, b = okName s.data.toList := ⟨_, rfl⟩
  rw [← hb]
  have HB := Lib.hid hb
  clear hb
  go_enter Tryd.func20, Tryd.ntmps20
  go_wp2
  go_loopw [] (fun w' => ∃ pos : Nat, w' = w.iter s pos ∧ pos ≤ s.size ∧ Hid (∀ i (h : i < s.size), i < pos → okB (s[i]'h).toNat = true)) (fun w' => s.size - w'.iterPos w.heap.size)
  case atStart => exact ⟨0, rfl, Nat.zero_le _, Lib.hid fun i h hi => absurd hi (Nat.not_lt_zero _)⟩
  case round =>
    obtain ⟨pos, rfl, hps, IH⟩ := hrel
    by_cases hp : pos < s.size
    · by_cases ha : (s[pos]'hp).toNat < 128
      · have hnx : ∀ ty, (Instr.next (.pointer (some ⟨w.heap.size, 0, none⟩)) true ty).run Tryd.prog (w.iter s pos) = _ := fun ty => run_next_ascii w s pos ty hp ha
        cases hok : okB (s[pos]'hp).toNat with
        | true =>
          have IH' : Hid (∀ i (h : i < s.size), i < pos + 1 → okB (s[i]'h).toNat = true) := Lib.hid fun i h hi => by
            rcases Nat.lt_or_ge i pos with h1 | h1
            · exact IH.out i h h1
            · obtain rfl : i = pos := by omega
              exact hok
          generalize (s[pos]'hp).toNat = r at hok hnx
          clear ha
          go_wp2_with fail
          refine (mayStand_any r _ hok).mono ?_
          rintro e w1 ⟨rfl, rfl⟩
          go_wp2
          go_roundw
          case rel => exact ⟨pos + 1, rfl, by omega, IH'⟩
          case measure => simp; omega
        | false =>
          have hbf : Hid (b = false) := Lib.hid (HB.out.trans (okName_no hp hok))
          generalize (s[pos]'hp).toNat = r at hok hnx
          clear ha
          go_wp2_with fail
          refine (mayStand_no r _ hok).mono ?_
          rintro e w1 ⟨rfl, rfl⟩
          go_wp2
          go_ret
          exact ⟨by rw [hbf.out]; rfl, below_iter w s _⟩
      · obtain ⟨hd, hd1⟩ := decode_high s pos hp (by omega)
        have hnx : ∀ ty, (Instr.next (.pointer (some ⟨w.heap.size, 0, none⟩)) true ty).run Tryd.prog (w.iter s pos) = _ := fun ty => run_next_any w s pos ty hp
        have hno : okB (s[pos]'hp).toNat = false := by simp only [okB, decide_eq_false_iff_not]; omega
        have hbf : Hid (b = false) := Lib.hid (HB.out.trans (okName_no hp hno))
        have hok : okB (Utf8.decode s pos).1 = false := by simp only [okB, decide_eq_false_iff_not]; omega
        clear ha hno hd hd1
        generalize Utf8.decode s pos = R at hok hnx
        go_wp2_with fail
        refine (mayStand_no R.1 _ hok).mono ?_
        rintro e w1 ⟨rfl, rfl⟩
        go_wp2
        go_ret
        exact ⟨by rw [hbf.out]; rfl, below_iter w s _⟩
    · have hnx : ∀ ty, (Instr.next (.pointer (some ⟨w.heap.size, 0, none⟩)) true ty).run Tryd.prog (w.iter s pos) = _ := fun ty => run_next_end w s pos ty hp
      have hbt : Hid (b = true) := Lib.hid (HB.out.trans ((okName_iff s).2 ⟨by omega, by omega, fun i h => IH.out i h (by omega)⟩))
      go_wp2
      go_ret
      exact ⟨by rw [hbt.out]; rfl, below_iter w s pos⟩

theorem empty_iff (k : ByteArray) : k.toList.isEmpty = decide (k.size = 0) := by
  rw [ByteArray.toList_eq, ← size_list]
  cases h : k.data.toList with
  | nil => rfl
  | cons a l => simp

set_option maxRecDepth 100000 in
theorem fold_may (s : ByteArray) (w : World) (hs : s.size ≤ 9223372036854775807) :
    Calls Tryd.prog 36 #[.string s] w fun e w' => e = .returned (.bool (foldB s)) ∧ Below w.heap.size w w' := by
  have hemp := empty_iff s
  by_cases h : s.size = 0
  · have hf : foldB s = true := by simp [foldB, h]
    rw [decide_eq_true h] at hemp
    have hnil : s.toList = [] := by simpa using hemp
    rw [hf]
    clear hf
    go_enter Tryd.func36, Tryd.ntmps36
    go_wp2
    go_ret
    exact ⟨rfl, Below.refl _ _⟩
  · have hf : foldB s = okName s.data.toList := by simp [foldB, h]
    rw [decide_eq_false h] at hemp
    have hnil : ¬ s.toList = [] := fun e => by rw [e] at hemp; cases hemp
    have HN := named_full s w hs
    rw [hf]
    clear hf
    generalize okName s.data.toList = b at HN ⊢
    have HN2 := Lib.hid HN
    clear HN
    cases b
    all_goals
      go_enter Tryd.func36, Tryd.ntmps36
      go_wp2_with fail
      refine HN2.out.mono ?_
      rintro e w1 ⟨rfl, b1⟩
      have B1 := Lib.hid b1
      clear b1
      go_wp2
      go_ret
      exact ⟨rfl, B1.out⟩

def endB (v : List Nat) : Bool := decide (0 < v.length ∧ at_ v (v.length - 1) = 0)
set_option maxRecDepth 100000 in
theorem ends_any (A : Option Addr) (n c : Nat) (v : List Nat) (w : World) (tv : Took2 w A n c v) :
    Calls Tryd.prog 33 #[.slice A n c] w fun e w' => e = .returned (.bool (endB v)) ∧ w' = w := by
  have hlen := tv.1.1
  by_cases h0 : n = 0
  · have hf : endB v = false := by simp only [endB, decide_eq_false_iff_not]; omega
    rw [hf]
    clear hlen tv hf
    subst h0
    go_enter Tryd.func33, Tryd.ntmps33
    go_wp2
    go_ret
    exact ⟨rfl, rfl⟩
  · obtain ⟨g, o, rfl, hcell⟩ := tv.1.get (j := n - 1) (by omega)
    have hf : endB v = decide (at_ v (n - 1) = 0) := by
      unfold endB
      rw [hlen]
      by_cases h : at_ v (n - 1) = 0
      · rw [decide_eq_true h, decide_eq_true (p := 0 < n ∧ at_ v (n - 1) = 0) ⟨by omega, h⟩]
      · rw [decide_eq_false h, decide_eq_false (p := 0 < n ∧ at_ v (n - 1) = 0) (fun e => h e.2)]
    have hx := tv.2.1 (n - 1)
    rw [hf]
    clear hf hlen
    obtain ⟨k, rfl⟩ : ∃ k, n = k + 1 := ⟨n - 1, by omega⟩
    have hc := tv.2.2.1; have hc2 := tv.2.2.2.1; have hn9 := tv.2.2.2.2
    clear tv
    rw [Nat.add_sub_cancel] at hcell hx ⊢
    generalize at_ v k = x at hcell hx ⊢
    have hp : (0 : Int) < ((k + 1 : Nat) : Int) := by omega
    have hz : ((x : Int) == 0) = decide (x = 0) := by
      by_cases h : x = 0
      · subst h; rfl
      · rw [decide_eq_false h, beq_eq_false_iff_ne]; omega
    have hw : ((k + 1 : Nat) : Int) - 1 = (k : Int) := by omega
    have hww : IntKind.i64.wrap (k : Int) = (k : Int) := IntWalk.i64_in _ (by omega)
    go_enter Tryd.func33, Tryd.ntmps33
    go_wp2
    go_ret
    first
      | exact ⟨rfl, rfl⟩
      | (refine ⟨?_, rfl⟩; simp [hz])

set_option maxRecDepth 100000 in
theorem title_man (m : Mn) (A : Option Addr) (n c : Nat) (w : World) (h0 : 0 ≤ m.node) (h1 : m.node < 64) :
    Calls Tryd.prog 38 #[m.val A n c] w fun e w' => e = .returned (Sht.titleV 109 m.node.toNat m.serial) ∧ Below w.heap.size w w' := by
  obtain ⟨nd, sr, v, tm, fd⟩ := m
  simp only [] at h0 h1
  obtain ⟨k, rfl⟩ : ∃ k : Nat, nd = (k : Int) := ⟨nd.toNat, by omega⟩
  unfold Mn.val Mn.row Sht.titleV
  simp only [Int.toNat_natCast]
  go_enter Tryd.func38, Tryd.ntmps38
  go_wp2
  go_returns
  exact ⟨rfl, ((Below.refl _ _).alloc (Nat.le_refl _) _).alloc (by simp) _⟩
end Go.Proofs.YtffhepdhkpldlaaDoor.Man
