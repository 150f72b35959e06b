/- The laws' own functions: SameV and same, of what is alike. -/
import Derived.Test.YtffhepdhkpldlaaDoorManL
import Derived.Test.YtffhepdhkpldlaaDoorVecWith
namespace Go.Proofs.YtffhepdhkpldlaaDoor.Vec
open Go Go.RowKit Go.Proofs.YtffhepdhkpldlaaDoor.Words
set_option linter.unusedVariables false
set_option linter.unusedSimpArgs false
set_option maxRecDepth 100000 in
/-- Two vectors with the same numbers are one. -/
theorem sameV_yes (A B : Option Addr) (n c m d : Nat) (a b : List Nat) (w : World) (ha : SeesU w A n a) (hb : SeesU w B m b) (hn : n ≤ 900000) (hm : m ≤ 900000) (hab : ∀ i, at_ a i = at_ b i) :
    Calls Tryd.prog 37 #[.slice A n c, .slice B m d] w fun e w' => e = .returned (.bool true) ∧ w' = w := by
  have HAB := Lib.hid hab
  clear hab
  have GA := Lib.hid (fun i => refGet_any A n c a i w ha)
  have GB := Lib.hid (fun i => refGet_any B m d b i w hb)
  clear ha hb
  go_enter Tryd.func37, Tryd.ntmps37
  go_wp2_with fail
  go_loop [5] (fun v => ∃ j : Nat, v = .int .i64 (j : Int) ∧ j ≤ 900000) (fun v => n + m - (intOf v).toNat)
  case atStart => exact ⟨0, rfl, by omega⟩
  case round =>
    obtain ⟨j, rfl, hj⟩ := hrel
    have hab := HAB.out j
    have GA1 := Lib.hid (GA.out j)
    have GB1 := Lib.hid (GB.out j)
    rw [← hab] at GB1
    clear hab
    generalize at_ a j = x at GA1 GB1
    by_cases h1 : j < n
    · have d1 : decide ((j : Int) < (n : Int)) = true := decide_eq_true (by omega)
      have d2 : decide ((j : Int) < (n : Int) ∨ (j : Int) < (m : Int)) = true := decide_eq_true (by omega)
      go_wp2_with fail
      refine GA1.out.mono ?_
      rintro e w1 ⟨rfl, hw1⟩
      subst hw1
      go_wp2_with fail
      refine GB1.out.mono ?_
      rintro e w1 ⟨rfl, hw1⟩
      subst hw1
      go_wp2
      go_round
      case rel => exact ⟨j + 1, rfl, by omega⟩
      case measure => simp [intOf]; omega
    · by_cases h2 : j < m
      · go_wp2_with fail
        refine GA1.out.mono ?_
        rintro e w1 ⟨rfl, hw1⟩
        subst hw1
        go_wp2_with fail
        refine GB1.out.mono ?_
        rintro e w1 ⟨rfl, hw1⟩
        subst hw1
        go_wp2
        go_round
        case rel => exact ⟨j + 1, rfl, by omega⟩
        case measure => simp [intOf]; omega
      · go_wp2
        go_ret
        exact ⟨rfl, rfl⟩
end Go.Proofs.YtffhepdhkpldlaaDoor.Vec

namespace Go.Proofs.YtffhepdhkpldlaaDoor.Man
open Go Go.RowKit Go.Proofs.YtffhepdhkpldlaaDoor.Words Go.Proofs.YtffhepdhkpldlaaDoor.Enc Go.Proofs.YtffhepdhkpldlaaDoor.Made Go.Proofs.YtffhepdhkpldlaaDoor.Tape Go.Proofs.YtffhepdhkpldlaaDoor.Vec Go.Proofs.YtffhepdhkpldlaaDoor.Dsk
set_option linter.unusedVariables false
set_option linter.unusedSimpArgs false
open Go.Proofs.YtffhepdhkpldlaaDoor.Sht (Since)

/-- Two manifests that differ in their floors' rows alone. -/
structure Alike (a b : Mn) : Prop where
  n : a.node = b.node
  s : a.serial = b.serial
  t : a.time = b.time
  f : a.fold = b.fold
  v : ∀ i, at_ a.floor i = at_ b.floor i
set_option maxRecDepth 100000 in
set_option maxHeartbeats 1000000 in
theorem same_yes (a b : Mn) (A B : Option Addr) (n c m d : Nat) (w : World) (ha : SeesU w A n a.floor) (hb : SeesU w B m b.floor) (hn : n ≤ 900000) (hm : m ≤ 900000) (h : Alike a b) :
    Calls Tryd.prog 14 #[a.val A n c, b.val B m d] w fun e w' => e = .returned (.bool true) ∧ Below w.heap.size w w' := by
  obtain ⟨nd, sr, v, tm, fd⟩ := a
  obtain ⟨nd2, sr2, v2, tm2, fd2⟩ := b
  obtain ⟨h1, h2, h3, h4, h5⟩ := h
  simp only [] at h1 h2 h3 h4 h5 ha hb
  subst h1 h2 h3 h4
  unfold Mn.val Mn.row
  simp only []
  have b2 := ((Below.refl w.heap.size w).alloc (Nat.le_refl _) (.cells #[.int .i64 nd, .int .u64 (sr : Int), .slice A n c, .int .u64 (tm : Int), .string fd] 26)).alloc (by simp) (.cells #[.int .i64 nd, .int .u64 (sr : Int), .slice B m d, .int .u64 (tm : Int), .string fd] 26)
  have SV := Lib.hid (sameV_yes A B n c m d v v2 _ (ha.below b2) (hb.below b2) hn hm h5)
  have B2 := Lib.hid b2
  clear ha hb h5 b2
  have hs0 : (sr : Int) = (sr : Int) := rfl
  go_enter Tryd.func14, Tryd.ntmps14
  go_wp2_with fail
  refine SV.out.mono ?_
  rintro e w1 ⟨rfl, hw⟩
  subst hw
  go_wp2
  go_ret
  exact ⟨rfl, B2.out⟩
end Go.Proofs.YtffhepdhkpldlaaDoor.Man
