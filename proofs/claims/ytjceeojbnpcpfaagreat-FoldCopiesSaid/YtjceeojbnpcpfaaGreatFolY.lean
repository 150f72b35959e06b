/- A text's bytes, by a conversion. -/
import Derived.Test.YtjceeojbnpcpfaaGreatFolP
import Derived.Lib.ConvBytes
namespace Go.Proofs.YtjceeojbnpcpfaaGreat.Fol
open Go Go.RowKit Go.Proofs.YtjceeojbnpcpfaaGreat.Words Go.Proofs.YtjceeojbnpcpfaaGreat.Enc Go.Proofs.YtjceeojbnpcpfaaGreat.Q Go.Proofs.YtjceeojbnpcpfaaGreat.Evt Go.Maps Go.Sort Go.Shelf
set_option linter.unusedVariables false
set_option linter.unusedSimpArgs false

theorem below_bytes (w : World) (e : TypeId) (s : ByteArray) : Below w.heap.size w (Lib.bytesWorld w e s) :=
  ⟨rfl, rfl, rfl, by rw [Lib.bytesWorld_size]; omega, fun j hj => Lib.bytesWorld_at_old w e s j hj⟩
theorem sees_bytes (w : World) (e : TypeId) (s : ByteArray) : Sees (Lib.bytesWorld w e s) (some ⟨w.heap.size, 0, none⟩) s.size s.data.toList := by
  refine ⟨by simp, fun _ => ⟨_, _, rfl, fun j v hv => ?_⟩⟩
  have hj : j < s.size := by have := (List.getElem?_eq_some_iff.1 hv).1; simpa using this
  rw [Nat.zero_add, Lib.bytesWorld_cell w e s j hj]
  simp [List.getD, hv]
section
variable {w : World} {ops : Array Oper} {rest : List Oper} {op : Oper} {a : Act} {Q : Exit → Act → World → Prop}
end
end Go.Proofs.YtjceeojbnpcpfaaGreat.Fol
