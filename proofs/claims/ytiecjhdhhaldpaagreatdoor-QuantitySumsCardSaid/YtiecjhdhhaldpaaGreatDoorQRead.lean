/- strconv.ParseFloat's parts at "0.5". -/
import Derived.Test.YtiecjhdhhaldpaaGreatDoorQText
import Derived.WalkMore
namespace Go.Proofs.YtiecjhdhhaldpaaGreatDoor.Q
open Go Go.RowKit Go.Proofs.YtiecjhdhhaldpaaGreatDoor.Words
set_option linter.unusedVariables false

theorem results_tmp7 {fn : Func} {t u v x y z s : Tmp} (h : fn.results = #[.tmp t, .tmp u, .tmp v, .tmp x, .tmp y, .tmp z, .tmp s]) (tmps : Array Value) (P : Program) (w : World) :
    (results fn tmps).run P w = .ok (.tuple #[tmps.getD t undef, tmps.getD u undef, tmps.getD v undef, tmps.getD x undef, tmps.getD y undef, tmps.getD z undef, tmps.getD s undef]) w := by
  simp [results, h]

abbrev halfName : ByteArray := ⟨#[48, 46, 53]⟩

set_option maxRecDepth 100000 in
theorem special_half (w : World) : Calls Tryz.prog 89 #[.string halfName] w fun e w' => e = .returned (.tuple #[.float .f64 0, .int .i64 0, .bool false]) ∧ w' = w := by
  go_enter Tryz.func89, Tryz.ntmps89
  go_wp2
  go_ret3
  exact ⟨rfl, rfl⟩

set_option maxRecDepth 100000 in
theorem lower_any (b : Int) (w : World) (c : Int) (h : bits .or .u8 b 32 = c) : Calls Tryz.prog 59 #[.int .u8 b] w fun e w' => e = .returned (.int .u8 c) ∧ w' = w := by
  go_enter Tryz.func59, Tryz.ntmps59
  go_wp2
  go_ret
  exact ⟨rfl, rfl⟩

set_option maxRecDepth 100000 in
set_option maxHeartbeats 2000000 in
theorem read_half (w : World) : Calls Tryz.prog 90 #[.string halfName] w fun e w' => e = .returned (.tuple #[.int .u64 5, .int .i64 (-1), .bool false, .bool false, .bool false, .int .i64 3, .bool true]) ∧ w' = w := by
  have e1 : (halfName[1]'(by decide)).toNat = 46 := rfl
  have e2 : (halfName[2]'(by decide)).toNat = 53 := rfl
  go_enter Tryz.func90, Tryz.ntmps90
  go_wp2_with fail
  go_step3
  go_wp2_with fail
  refine (lower_any 46 _ 46 (by decide +kernel)).mono ?_
  rintro e w ⟨rfl, rfl⟩
  go_wp2_with fail
  go_step3
  go_wp2_with fail
  go_loopw [2, 5, 7, 9, 13, 14, 15, 16, 17] (fun m tr i un sd sg nd nm dp wr => wr = w ∧ tr = .bool false ∧ un = .bool false ∧
      ((i = .int .i64 0 ∧ m = .int .u64 0 ∧ sd = .bool false ∧ sg = .bool false ∧ nd = .int .i64 0 ∧ nm = .int .i64 0 ∧ dp = .int .i64 0) ∨
       (i = .int .i64 1 ∧ m = .int .u64 0 ∧ sd = .bool false ∧ sg = .bool true ∧ nd = .int .i64 0 ∧ nm = .int .i64 0 ∧ dp = .int .i64 (-1)) ∨
       (i = .int .i64 2 ∧ m = .int .u64 0 ∧ sd = .bool true ∧ sg = .bool true ∧ nd = .int .i64 0 ∧ nm = .int .i64 0 ∧ dp = .int .i64 0) ∨
       (i = .int .i64 3 ∧ m = .int .u64 5 ∧ sd = .bool true ∧ sg = .bool true ∧ nd = .int .i64 1 ∧ nm = .int .i64 1 ∧ dp = .int .i64 0))) (fun m tr i un sd sg nd nm dp _ => (4 - intOf i).toNat)
  case atStart => exact ⟨rfl, rfl, rfl, .inl ⟨rfl, rfl, rfl, rfl, rfl, rfl, rfl⟩⟩
  case round =>
    obtain ⟨rfl, rfl, rfl, h⟩ := hrel
    rcases h with ⟨rfl, rfl, rfl, rfl, rfl, rfl, rfl⟩ | ⟨rfl, rfl, rfl, rfl, rfl, rfl, rfl⟩ | ⟨rfl, rfl, rfl, rfl, rfl, rfl, rfl⟩ | ⟨rfl, rfl, rfl, rfl, rfl, rfl, rfl⟩
    · go_wp2
      go_roundw
      case rel => simp
      case measure => simp [intOf]
    · go_wp2
      go_roundw
      case rel => simp
      case measure => simp [intOf]
    · go_wp2
      go_roundw
      case rel => simp
      case measure => simp [intOf]
    · go_wp2
      rw [Exit.noGoto_ret]
      change bodyPost Tryz.prog Tryz.f90 _ _ _ _
      refine bodyPost_ret (results_tmp7 rfl _ _ _) rfl ?_
      exact ⟨rfl, rfl⟩
end Go.Proofs.YtiecjhdhhaldpaaGreatDoor.Q
