/- strconv's fmtEFG at 0.5. -/
import Derived.Test.YtiecjhdhhaldpaaGreatDoorQSet
namespace Go.Proofs.YtiecjhdhhaldpaaGreatDoor.Q
open Go Go.RowKit Go.Proofs.YtiecjhdhhaldpaaGreatDoor.Words
set_option linter.unusedVariables false

theorem info8 : (Tryz.prog.info? 5).map (fun i => (i.zero, i.size, i.bytes)) = some (some (.int .u8 0), 1, 1) := by kernel_rfl

set_option maxRecDepth 100000 in
set_option maxHeartbeats 1000000 in
theorem fmt_half (base b : Nat) (A : Option Addr) (c : Nat) (w : World) (hown0 : w.ownsRow base 5 1 (.slice A 0 c) 0 (cs [])) (hc : w.cell? ⟨b, 0, none⟩ = some (.int .u8 53)) (hbw : base ≤ w.heap.size) :
    Calls Tryz.prog 41 #[.slice A 0 c, .bool false, .slice (some ⟨b, 0, none⟩) 32 32, .int .i64 0, .int .i64 1, .int .i64 0, .int .u8 101, .bool true] w fun e w' =>
      ∃ A' c', e = .returned (.slice A' 5 c') ∧ w'.ownsRow base 5 1 (.slice A' 5 c') 5 (cs [53, 101, 45, 48, 49]) ∧ Below base w w' := by
  obtain ⟨i, hi, hz, hsz, hby⟩ := info_parts info8
  go_enter Tryz.func41, Tryz.ntmps41
  go_wp2_with (first | (at_builtin; refine wpList_app rfl _ _ 47 rfl base 5 i (.int .u8 0) Tryz.underlying47 hi hz hsz hby rfl A 0 c [] rfl (hown0.alloc _) _ 1 1 [53] rfl (Sees.fresh w _ _ _ rfl) (by omega) (Nat.le_trans hbw (by simp)) ?_))
  intro A1 c1 w1 hown1 hb1
  have hb1' : Below base w w1 := ((Below.refl base w).alloc hbw _).trans hb1
  have hw1 := Nat.le_trans hbw hb1'.size
  go_wp2_with (first | (at_builtin; refine wpList_app rfl _ _ 47 rfl base 5 i (.int .u8 0) Tryz.underlying47 hi hz hsz hby rfl A1 1 c1 [53] rfl (hown1.alloc _) _ 1 1 [101] rfl (Sees.fresh w1 _ _ _ rfl) (by omega) (Nat.le_trans hw1 (by simp)) ?_))
  intro A2 c2 w2 hown2 hb2
  have hb2' : Below base w w2 := (hb1'.alloc hw1 _).trans hb2
  have hw2 := Nat.le_trans hbw hb2'.size
  go_wp2_with (first | (at_builtin; refine wpList_app rfl _ _ 47 rfl base 5 i (.int .u8 0) Tryz.underlying47 hi hz hsz hby rfl A2 2 c2 [53, 101] rfl (hown2.alloc _) _ 1 1 [45] rfl (Sees.fresh w2 _ _ _ rfl) (by omega) (Nat.le_trans hw2 (by simp)) ?_))
  intro A3 c3 w3 hown3 hb3
  have hb3' : Below base w w3 := (hb2'.alloc hw2 _).trans hb3
  have hw3 := Nat.le_trans hbw hb3'.size
  go_wp2_with (first | (at_builtin; refine wpList_app rfl _ _ 47 rfl base 5 i (.int .u8 0) Tryz.underlying47 hi hz hsz hby rfl A3 3 c3 [53, 101, 45] rfl (hown3.alloc _) _ 2 2 [48, 49] rfl (sees_new w3 _ _ 2 [48, 49] rfl (by intro j u hj; match j, hj with | 0, hj => cases hj; rfl | 1, hj => cases hj; rfl)) (by omega) (Nat.le_trans hw3 (by simp)) ?_))
  intro A4 c4 w4 hown4 hb4
  have hb4' : Below base w w4 := (hb3'.alloc hw3 _).trans hb4
  go_wp2
  go_ret
  exact ⟨A4, c4, rfl, hown4, hb4'⟩
end Go.Proofs.YtiecjhdhhaldpaaGreatDoor.Q
