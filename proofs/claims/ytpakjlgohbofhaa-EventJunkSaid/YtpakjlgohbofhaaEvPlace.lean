/- Places: At, Compare, the document's Ahead. -/
import Derived.Test.YtpakjlgohbofhaaBEvent
import Derived.Test.YtpakjlgohbofhaaBGround
namespace Go.Proofs.Ytpakjlgohbofhaa.Evt
open Go Go.RowKit Go.Proofs.Ytpakjlgohbofhaa.Words Go.Proofs.Ytpakjlgohbofhaa.Enc Go.Proofs.Ytpakjlgohbofhaa.Q
set_option linter.unusedVariables false

def spotV (t : Nat) (wr : Int) : Value := .agg #[.int .u64 (t : Int), .int .i64 wr]

set_option maxRecDepth 100000 in
theorem at_any (e : Ev) (A : Option Addr) (n c : Nat) (w : World) :
    Calls Try.prog 15 #[e.val A n c] w fun e' w' => e' = .returned (spotV e.time e.writer) ∧ Below w.heap.size w w' := by
  unfold Ev.val spotV
  go_enter Try.func15, Try.ntmps15
  go_wp2
  exact bodyPost_ret (v := .agg #[.int .u64 (e.time : Int), .int .i64 e.writer]) (by simp [results, Try.results15, go_sem]) rfl ⟨rfl, ((Below.refl _ _).alloc (Nat.le_refl _) _).alloc (by simp) _⟩
set_option maxRecDepth 100000 in
theorem refAt_any (e : Ev) (A : Option Addr) (n c : Nat) (w : World) :
    Calls Try.prog 16 #[e.val A n c] w fun e' w' => e' = .returned (spotV e.time e.writer) ∧ Below w.heap.size w w' := by
  unfold Ev.val spotV
  go_enter Try.func16, Try.ntmps16
  go_wp2
  exact bodyPost_ret (v := .agg #[.int .u64 (e.time : Int), .int .i64 e.writer]) (by simp [results, Try.results16, go_sem]) rfl ⟨rfl, ((Below.refl _ _).alloc (Nat.le_refl _) _).alloc (by simp) _⟩

/-- How two numbers stand. -/
def cmpI (a b : Int) : Int := if a < b then -1 else if b < a then 1 else 0
/-- How two places stand. -/
def cmpS (t1 : Nat) (w1 : Int) (t2 : Nat) (w2 : Int) : Int := if cmpI t1 t2 = 0 then cmpI w1 w2 else cmpI t1 t2

/-- Two numbers in a row of their own. -/
def pairPred (x y : Int) : Facts.Pred := ⟨fun v w => ∃ g, v = .slice (some ⟨g, 0, none⟩) 2 2 ∧ w.cell? ⟨g, 0, none⟩ = some (.int .i64 x) ∧ w.cell? ⟨g, 1, none⟩ = some (.int .i64 y),
  fun _ w w' ⟨g, h, h0, h1⟩ hb => ⟨g, h, by rw [hb.cell (World.block_lt_of_cell? _ _ h0)]; exact h0, by rw [hb.cell (World.block_lt_of_cell? _ _ h1)]; exact h1⟩⟩

theorem cmpS_lt {t1 : Nat} {w1 : Int} {t2 : Nat} {w2 : Int} : cmpS t1 w1 t2 w2 < 0 ↔ t1 < t2 ∨ t1 = t2 ∧ w1 < w2 := by
  unfold cmpS cmpI
  repeat' split
  all_goals omega
theorem cmpS_gt {t1 : Nat} {w1 : Int} {t2 : Nat} {w2 : Int} : 0 < cmpS t1 w1 t2 w2 ↔ t2 < t1 ∨ t2 = t1 ∧ w2 < w1 := by
  unfold cmpS cmpI
  repeat' split
  all_goals omega
end Go.Proofs.Ytpakjlgohbofhaa.Evt
