/- What is asked of package check, function by function. -/
import Derived.Test.YtokfajlmephdeaaDoorRecMath
import Derived.Test.YtokfajlmephdeaaDoorFacts
import Derived.Test.YtokfajlmephdeaaDoorTabs
import Derived.Lib.SlBytesConst
namespace Go.Proofs.YtokfajlmephdeaaDoor.Chk
open Go Go.RowKit Go.Proofs.YtokfajlmephdeaaDoor.Words Go.Proofs.YtokfajlmephdeaaDoor.Enc Go.Proofs.YtokfajlmephdeaaDoor.Made
set_option linter.unusedVariables false

/-- n bytes, l, come back; what was there is as it was. -/
def Gives (n : Nat) (l : List UInt8) (w : World) (e : Ending) (w' : World) : Prop :=
  ∃ A c, e = .returned (.slice A n c) ∧ n ≤ c ∧ c ≤ 9223372036854775807 ∧ Sees w' A n l ∧ Below w.heap.size w w'
theorem gives_of_new {n : Nat} {l : List UInt8} {w : World} {e : Ending} {w' : World} (h : New w.heap.size n l w e w') : Gives n l w e w' := by
  obtain ⟨A, c, rfl, hown, hb⟩ := h
  have h := Own.cap hown
  exact ⟨A, c, rfl, h.1, h.2, Sees.of_own hown, hb⟩

def SumSaid : Prop := ∀ (A : Option Addr) (n c : Nat) (l : List UInt8) (w : World), Tabs w → Sees w A n l → n ≤ c → n ≤ 700000000 →
  Calls Tryd.prog 75 #[.slice A n c] w fun e w' => e = .returned (.int .u32 ((Crc.sum l).toNat : Int)) ∧ Below w.heap.size w w'
def WrapSaid : Prop := ∀ (A : Option Addr) (n c : Nat) (l : List UInt8) (w : World), Tabs w → Sees w A n l → n ≤ c → n ≤ 600000000 → Calls Tryd.prog 29 #[.slice A n c] w (Gives ((enc n).length + n + 4) (wrap l) w)

/-- What Open tells: the contents, what follows, the error. -/
def OpenedC (l : List UInt8) (r : List UInt8 × Nat × Nat) (w : World) (e : Ending) (w' : World) : Prop :=
  ∃ A n c A2 n2 c2, e = .returned (.tuple #[.slice A n c, .slice A2 n2 c2, .int .i64 (r.2.2 : Int)]) ∧ Sees w' A n r.1 ∧ Sees w' A2 n2 (l.drop r.2.1) ∧ n2 ≤ c2 ∧ c2 ≤ 9223372036854775807 ∧ Below w.heap.size w w'
def OpenSaid : Prop := ∀ (A : Option Addr) (n c : Nat) (l : List UInt8) (most : Int) (w : World), Tabs w → Sees w A n l → n ≤ c → c ≤ 9223372036854775807 → n ≤ 600000000 → -9223372036854775808 ≤ most → most ≤ 9223372036854775807 → Calls Tryd.prog 47 #[.slice A n c, .int .i64 most] w (OpenedC l (openL l most) w)

def AllSaid : Prop := ∀ (A : Option Addr) (n c : Nat) (p : List UInt8) (most : Int) (w : World), Tabs w → Sees w A n p → n ≤ c → c ≤ 9223372036854775807 → n ≤ 600000000 → -9223372036854775808 ≤ most → most ≤ 9223372036854775807 → Calls Tryd.prog 49 #[.slice A n c, .int .i64 most] w (AllSeen (allL p most) w)
end Go.Proofs.YtokfajlmephdeaaDoor.Chk
