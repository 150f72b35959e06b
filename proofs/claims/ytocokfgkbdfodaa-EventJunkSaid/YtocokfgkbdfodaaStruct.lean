/- Structs in memory: a whole row is read, or written. No program. -/
import Derived.Test.YtocokfgkbdfodaaBeside
import Derived.Laws.Tables
import Derived.Laws.Rows
namespace Go.Proofs.Ytocokfgkbdfodaa.Words
open Go Go.RowKit
set_option linter.unusedVariables false

theorem heap_setRow {w : World} {g : Nat} {old cs : Array Value} {t : TypeId} {fr : Nat × Nat} (hg : w.heap[g]? = some (.cells old t fr)) : (w.setRow g cs).heap[g]? = some (.cells cs t fr) := setRow_heap w g old cs t fr hg
theorem setRow_beside (w : World) (g : Nat) (cs : Array Value) : Beside [g] w (w.setRow g cs) := by
  refine ⟨rfl, rfl, rfl, ?_, fun k _ hn => ?_⟩
  · simp [World.setRow]
  · have : g ≠ k := fun e => hn (by simp [e])
    simp [World.setRow, Array.getElem?_modify, this]
section
variable {P : Program} {w : World} {ops : Array Oper} {rest : List Oper} {op : Oper} {a : Act} {Q : Exit → Act → World → Prop}
/-- A whole row is written. -/
theorem wpList_putRow (hgd : op.guard = none) (ty : TypeId) (x y : Operand) (ho : op.op = .store ty x y) (b : Nat) (e : TypeId) (cur vs : Array Value)
    (hx : a.eval x = .pointer (some ⟨b, 0, none⟩)) (hy : a.eval y = .agg vs) (hb : w.heap[b]? = some (.cells cur e (0, 0))) (hi : (P.info? ty).map (·.size) = some vs.size) (hs : cur.size = vs.size) (h1 : vs.all (·.oneCell') = true)
    (h : ∀ w', w'.heap[b]? = some (.cells vs e (0, 0)) → Beside [b] w w' → wpList P ops Q rest (a.put op.dst undef) w') : wpList P ops Q (op :: rest) a w := by
  refine wpList_plain hgd fun K hK => ?_
  unfold Oper.wp execOp
  simp only [ho, hx, hy, Instr.storeAt, Instr.sureAddr, Sem.run_bind, Sem.run_pure, Result.andThen_ok, run_storeVar_row w b e ty cur vs hb hi hs h1]
  exact hK _ _ (h _ (heap_setRow hb) (setRow_beside w b vs))
/-- A whole row is read. -/
theorem wpList_getRow (hgd : op.guard = none) (ty : TypeId) (x : Operand) (ho : op.op = .load ty x) (b : Nat) (e : TypeId) (cs : Array Value) (fr : Nat × Nat) (d : TypeDesc)
    (hx : a.eval x = .pointer (some ⟨b, 0, none⟩)) (hb : w.heap[b]? = some (.cells cs e fr)) (hu : P.underlying ty = some d) (hd : (match d with | .struct _ | .array _ _ => true | _ => false) = true) (hi : (P.info? ty).map (·.size) = some cs.size)
    (h : wpList P ops Q rest (a.put op.dst (.agg cs)) w) : wpList P ops Q (op :: rest) a w := by
  refine wpList_plain hgd fun K hK => ?_
  unfold Oper.wp execOp
  simp only [ho, hx, Instr.loadAt, Instr.sureAddr, Sem.run_bind, Sem.run_pure, Result.andThen_ok, run_loadVar_row w b e ty cs fr d hb hu hd hi]
  exact hK _ _ h
end
end Go.Proofs.Ytocokfgkbdfodaa.Words
