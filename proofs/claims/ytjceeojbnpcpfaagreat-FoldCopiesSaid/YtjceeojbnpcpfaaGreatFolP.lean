/- The document's SameV, of vectors that are alike. -/
import Derived.Test.YtjceeojbnpcpfaaGreatFolO
import Derived.Test.YtjceeojbnpcpfaaGreatVecAll
namespace Go.Proofs.YtjceeojbnpcpfaaGreat.Fol
open Go Go.RowKit Go.Proofs.YtjceeojbnpcpfaaGreat.Words
set_option linter.unusedVariables false
set_option linter.unusedSimpArgs false
set_option maxRecDepth 100000 in
/-- Two vectors with the same numbers are one. -/
theorem sameV_yes (A B : Option Addr) (n c m d : Nat) (a b : List Nat) (w : World) (ha : Vec.SeesU w A n a) (hb : Vec.SeesU w B m b) (hn : n ≤ 900000) (hm : m ≤ 900000) (hab : ∀ i, Vec.at_ a i = Vec.at_ b i) :
    Calls Tryz.prog 33 #[.slice A n c, .slice B m d] w fun e w' => e = .returned (.bool true) ∧ w' = w := by
  have HAB := Lib.hid hab
  clear hab
  have GA := Lib.hid (fun i => Vec.refGet_any A n c a i w ha)
  have GB := Lib.hid (fun i => Vec.refGet_any B m d b i w hb)
  clear ha hb
  go_enter Tryz.func33, Tryz.ntmps33
  go_wp2_with fail
  go_loop [5] (fun v => ∃ j : Nat, v = .int .i64 (j : Int) ∧ j ≤ 900000) (fun v => n + m - (intOf v).toNat)
  case atStart => exact ⟨0, rfl, by omega⟩
  case round =>
    obtain ⟨j, rfl, hj⟩ := hrel
    have hab := HAB.out j
    have GA1 := Lib.hid (GA.out j)
    have GB1 := Lib.hid (GB.out j)
    rw [← hab] at GB1
    clear hab
    generalize Vec.at_ a j = x at GA1 GB1
    by_cases h1 : j < n
    · have d1 : decide ((j : Int) < (n : Int)) = true := decide_eq_true (by omega)
      have d2 : decide ((j : Int) < (n : Int) ∨ (j : Int) < (m : Int)) = true := decide_eq_true (by omega)
      go_wp2_with fail
      refine GA1.out.mono ?_
      rintro e w1 ⟨rfl, hw1⟩
      subst hw1
      go_wp2_with fail
      refine GB1.out.mono ?_
      rintro e w1 ⟨rfl, hw1⟩
      subst hw1
      go_wp2
      go_round
      case rel => exact ⟨j + 1, rfl, by omega⟩
      case measure => simp [intOf]; omega
    · by_cases h2 : j < m
      · go_wp2_with fail
        refine GA1.out.mono ?_
        rintro e w1 ⟨rfl, hw1⟩
        subst hw1
        go_wp2_with fail
        refine GB1.out.mono ?_
        rintro e w1 ⟨rfl, hw1⟩
        subst hw1
        go_wp2
        go_round
        case rel => exact ⟨j + 1, rfl, by omega⟩
        case measure => simp [intOf]; omega
      · go_wp2
        go_ret
        exact ⟨rfl, rfl⟩
end Go.Proofs.YtjceeojbnpcpfaaGreat.Fol
