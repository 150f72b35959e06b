/- disk.Named at a name that may be. -/
import Derived.Test.YtdelppndoepkbaaDoorRows
import Derived.Test.YtdelppndoepkbaaDoorWords
import Derived.Handy
import Derived.Lib.Hide
import Derived.Laws.RangeString
import Derived.Laws.RangeAny
import Derived.LoopTactic
namespace Go.Proofs.YtdelppndoepkbaaDoor.Dsk
open Go Go.RowKit Go.Proofs.YtdelppndoepkbaaDoor.Words
set_option linter.unusedVariables false

/-- May the byte be in the name of a file? -/
def okB (r : Nat) : Bool := decide (97 ≤ r ∧ r ≤ 122 ∨ 48 ≤ r ∧ r ≤ 57 ∨ r = 46 ∨ r = 45)
def okName (s : List UInt8) : Bool := decide (1 ≤ s.length) && decide (s.length ≤ 48) && s.all fun u => okB u.toNat

theorem mayStand_any (r : Nat) (w : World) (h : okB r = true) :
    Calls Tryd.prog 16 #[.int .i32 (r : Int)] w fun e w' => e = .returned (.bool true) ∧ w = w' := by
  have h' : 97 ≤ r ∧ r ≤ 122 ∨ 48 ≤ r ∧ r ≤ 57 ∨ r = 46 ∨ r = 45 := by simpa [okB] using h
  clear h
  rcases h' with ⟨h1, h2⟩ | ⟨h1, h2⟩ | rfl | rfl
  · have a1 : (97 : Int) ≤ (r : Int) := by omega
    have a2 : (r : Int) ≤ 122 := by omega
    go_enter Tryd.func16, Tryd.ntmps16
    go_wp2
    go_ret
    exact ⟨rfl, rfl⟩
  · have a1 : (48 : Int) ≤ (r : Int) := by omega
    have a2 : (r : Int) ≤ 57 := by omega
    have a3 : decide ((97 : Int) ≤ (r : Int)) = false := by simp; omega
    go_enter Tryd.func16, Tryd.ntmps16
    go_wp2
    go_ret
    exact ⟨rfl, rfl⟩
  · go_enter Tryd.func16, Tryd.ntmps16
    go_wp2
    go_ret
    exact ⟨rfl, rfl⟩
  · go_enter Tryd.func16, Tryd.ntmps16
    go_wp2
    go_ret
    exact ⟨rfl, rfl⟩

theorem below_iter (w : World) (s : ByteArray) (pos : Nat) : Below w.heap.size w (w.iter s pos) := (Below.refl _ _).alloc (Nat.le_refl _) _

theorem namedS (s : ByteArray) (w : World) (h1 : 1 ≤ s.size) (h2 : s.size ≤ 48) (hok : ∀ i (h : i < s.size), okB (s[i]'h).toNat = true) :
    Calls Tryd.prog 8 #[.string s] w fun e w' => e = .returned (.bool true) ∧ Below w.heap.size w w' := by
  have a1 : ((s.size : Int) == 0) = false := by rw [beq_eq_false_iff_ne]; omega
  have a2 : decide ((48 : Int) < (s.size : Int)) = false := by simp; omega
  have HOK := Lib.hid hok
  clear hok
  go_enter Tryd.func8, Tryd.ntmps8
  go_wp2
  go_loopw [] (fun w' => ∃ pos : Nat, w' = w.iter s pos) (fun w' => s.size - w'.iterPos w.heap.size)
  case atStart => exact ⟨0, rfl⟩
  case round =>
    obtain ⟨pos, rfl⟩ := hrel
    by_cases hp : pos < s.size
    · have hb := HOK.out pos hp
      have ha : (s[pos]'hp).toNat < 128 := by
        have : 97 ≤ (s[pos]'hp).toNat ∧ (s[pos]'hp).toNat ≤ 122 ∨ 48 ≤ (s[pos]'hp).toNat ∧ (s[pos]'hp).toNat ≤ 57 ∨ (s[pos]'hp).toNat = 46 ∨ (s[pos]'hp).toNat = 45 := by simpa [okB] using hb
        omega
      have hnx : ∀ ty, (Instr.next (.pointer (some ⟨w.heap.size, 0, none⟩)) true ty).run Tryd.prog (w.iter s pos) = _ := fun ty => run_next_ascii w s pos ty hp ha
      generalize (s[pos]'hp).toNat = r at hb hnx
      clear ha
      go_wp2_with fail
      refine (mayStand_any r _ hb).mono ?_
      rintro e w1 ⟨rfl, rfl⟩
      go_wp2
      go_roundw
      case rel => exact ⟨pos + 1, rfl⟩
      case measure => simp; omega
    · have hnx : ∀ ty, (Instr.next (.pointer (some ⟨w.heap.size, 0, none⟩)) true ty).run Tryd.prog (w.iter s pos) = _ := fun ty => run_next_end w s pos ty hp
      go_wp2
      go_ret
      exact ⟨rfl, below_iter w s pos⟩

theorem named_any (s : List UInt8) (w : World) (h : okName s = true) :
    Calls Tryd.prog 8 #[.string ⟨s.toArray⟩] w fun e w' => e = .returned (.bool true) ∧ Below w.heap.size w w' := by
  simp only [okName, Bool.and_eq_true, decide_eq_true_eq, List.all_eq_true] at h
  have hsz : (⟨s.toArray⟩ : ByteArray).size = s.length := by simp [ByteArray.size]
  refine namedS _ w (by omega) (by omega) fun i hi => h.2 _ ?_
  show (s.toArray[i]'_) ∈ s
  simp
theorem okName_len {s : List UInt8} (h : okName s = true) : s.length ≤ 100000 := by
  simp only [okName, Bool.and_eq_true, decide_eq_true_eq] at h
  omega
end Go.Proofs.YtdelppndoepkbaaDoor.Dsk
