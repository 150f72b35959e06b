/- What is asked of package check, function by function; the laws of layer 3 are walked out of this. -/
import Derived.Test.YtpoipgdhljegfaaDoorRefText
import Derived.Test.YtpoipgdhljegfaaDoorRefOpen
import Derived.Test.YtpoipgdhljegfaaDoorFacts
import Derived.Test.YtpoipgdhljegfaaDoorTabs
import Derived.Lib.SlBytesConst
namespace Go.Proofs.YtpoipgdhljegfaaDoor.Chk
open Go Go.RowKit Go.Proofs.YtpoipgdhljegfaaDoor.Words Go.Proofs.YtpoipgdhljegfaaDoor.Enc Go.Proofs.YtpoipgdhljegfaaDoor.Made
set_option linter.unusedVariables false

/-- n bytes, l, come back; what was there is as it was. -/
def Gives (n : Nat) (l : List UInt8) (w : World) (e : Ending) (w' : World) : Prop :=
  ∃ A c, e = .returned (.slice A n c) ∧ n ≤ c ∧ c ≤ 9223372036854775807 ∧ Sees w' A n l ∧ Below w.heap.size w w'
theorem gives_of_new {n : Nat} {l : List UInt8} {w : World} {e : Ending} {w' : World} (h : New w.heap.size n l w e w') : Gives n l w e w' := by
  obtain ⟨A, c, rfl, hown, hb⟩ := h
  have h := Own.cap hown
  exact ⟨A, c, rfl, h.1, h.2, Sees.of_own hown, hb⟩

def SumSaid : Prop := ∀ (A : Option Addr) (n c : Nat) (l : List UInt8) (w : World), Tabs w → Sees w A n l → n ≤ c → n ≤ 700000 →
  Calls Tryd.prog 9 #[.slice A n c] w fun e w' => e = .returned (.int .u32 ((Crc.sum l).toNat : Int)) ∧ Below w.heap.size w w'
def WrapSaid : Prop := ∀ (A : Option Addr) (n c : Nat) (l : List UInt8) (w : World), Tabs w → Sees w A n l → n ≤ c → n ≤ 600000 → Calls Tryd.prog 11 #[.slice A n c] w (Gives ((enc n).length + n + 4) (wrap l) w)
def SizeSaid : Prop := ∀ (m : Int) (w : World), -1000000 ≤ m → m ≤ 1000000 → Calls Tryd.prog 14 #[.int .i64 m] w fun e w' => e = .returned (.int .i64 (((enc m.toNat).length + m.toNat + 4 : Nat) : Int)) ∧ Below w.heap.size w w'

/-- What Open tells: the contents, what follows, the error. -/
def OpenedC (l : List UInt8) (r : List UInt8 × Nat × Nat) (w : World) (e : Ending) (w' : World) : Prop :=
  ∃ A n c A2 n2 c2, e = .returned (.tuple #[.slice A n c, .slice A2 n2 c2, .int .i64 (r.2.2 : Int)]) ∧ Sees w' A n r.1 ∧ Sees w' A2 n2 (l.drop r.2.1) ∧ n2 ≤ c2 ∧ c2 ≤ 9223372036854775807 ∧ Below w.heap.size w w'
def OpenSaid : Prop := ∀ (A : Option Addr) (n c : Nat) (l : List UInt8) (most : Int) (w : World), Tabs w → Sees w A n l → n ≤ c → c ≤ 9223372036854775807 → n ≤ 600000 → -9223372036854775808 ≤ most → most ≤ 9223372036854775807 → Calls Tryd.prog 12 #[.slice A n c, .int .i64 most] w (OpenedC l (openL l most) w)

theorem sees_nine (w : World) (e : TypeId) (fr : Nat × Nat) : Sees (w.alloc (.cells #[.int .u8 49, .int .u8 50, .int .u8 51, .int .u8 52, .int .u8 53, .int .u8 54, .int .u8 55, .int .u8 56, .int .u8 57] e fr)) (some ⟨w.heap.size, 0, none⟩) 9 [49, 50, 51, 52, 53, 54, 55, 56, 57] := by
  refine sees_marked w e _ fr 9 _ rfl fun j u hu => ?_
  match j, hu with
  | 0, hu => simp at hu; subst hu; rfl
  | 1, hu => simp at hu; subst hu; rfl
  | 2, hu => simp at hu; subst hu; rfl
  | 3, hu => simp at hu; subst hu; rfl
  | 4, hu => simp at hu; subst hu; rfl
  | 5, hu => simp at hu; subst hu; rfl
  | 6, hu => simp at hu; subst hu; rfl
  | 7, hu => simp at hu; subst hu; rfl
  | 8, hu => simp at hu; subst hu; rfl
theorem sum_ex : (Crc.sum [49, 50, 51, 52, 53, 54, 55, 56, 57]).toNat = 3808858755 := by decide +kernel

theorem awake_any (hsum : SumSaid) (w : World) (T : Tabs w) : Calls Tryd.prog 8 #[] w fun e w' => e = .returned (.bool true) ∧ Below w.heap.size w w' := by
  have h := fun (W : World) (A : Option Addr) (c : Nat) (hT : Tabs W) (hs : Sees W A 9 [49, 50, 51, 52, 53, 54, 55, 56, 57]) (hc : 9 ≤ c) => hsum A 9 c _ W hT hs hc (by omega)
  rw [sum_ex] at h
  have H := Lib.hid h
  clear h
  have hconv := fun (W : World) (C : Array Value) (n c : Nat) => Lib.run_convert_bytes_const (P := Tryd.prog) W 22 5 C n c Tryd.underlying22 Tryd.underlying5
  go_enter Tryd.func8, Tryd.ntmps8
  go_wp2_with fail
  refine (H.out _ _ 9 (T.below ((Below.refl _ _).alloc (Nat.le_refl _) _)) (sees_nine w _ _) (by omega)).mono ?_
  rintro e w1 ⟨rfl, hb1⟩
  go_wp2
  go_ret
  exact ⟨rfl, ((Below.refl _ _).alloc (Nat.le_refl _) _).trans (hb1.mono (by simp))⟩

/-- CheckSums. -/
theorem sums_law (hsum : SumSaid) (A : Option Addr) (n c : Nat) (l : List UInt8) (w : World) (T : Tabs w) (hs : Sees w A n l) (hc : n ≤ c) (hm : c ≤ maxLen) :
    Calls Tryd.prog 3 #[.slice A n c] w fun e w' => e = .returned (.bool true) ∧ Below w.heap.size w w' := by
  unfold maxLen at hm
  by_cases hlen : 500 < n
  · have hlen' : (500 : Int) < (n : Int) := by omega
    go_enter Tryd.func3, Tryd.ntmps3
    go_wp2_with fail
    refine (awake_any hsum _ T).mono ?_
    rintro e w1 ⟨rfl, hb1⟩
    go_wp2_with fail
    refine (awake_any hsum _ (T.below hb1)).mono ?_
    rintro e w2 ⟨rfl, hb2⟩
    go_wp2
    go_ret
    exact ⟨rfl, hb1.trans (hb2.mono hb1.size)⟩
  · have hlen' : decide ((500 : Int) < (n : Int)) = false := by simp; omega
    go_enter Tryd.func3, Tryd.ntmps3
    go_wp2_with fail
    refine (awake_any hsum _ T).mono ?_
    rintro e w1 ⟨rfl, hb1⟩
    go_wp2_with fail
    refine (hsum A n c l w1 (T.below hb1) (hs.below hb1) hc (by omega)).mono ?_
    rintro e w2 ⟨rfl, hb2⟩
    go_wp2_with fail
    have b2 := hb1.trans (hb2.mono hb1.size)
    refine (RefSum.refSum_any A n c l w2 (hs.below b2) (by omega)).mono ?_
    rintro e w3 ⟨rfl, rfl⟩
    go_wp2
    go_ret
    exact ⟨rfl, b2⟩
end Go.Proofs.YtpoipgdhljegfaaDoor.Chk
