/-
  Credentials compared in a walk.
-/
import Derived.Test.YtkggagnaiiemlaaDoorCrLawP
namespace Go.Proofs.YtkggagnaiiemlaaDoor.Sh
open Go Go.RowKit
theorem eq_cred (c : Crd) (W : World) : (binOp .eql 27 (.agg c.cells.toArray) (.agg c.cells.toArray)).run Tryd.prog W = .ok (.bool true) W := by
  obtain ⟨d, q, nm, kd, wh, ao, an, bo, bn⟩ := c
  unfold Crd.cells
  simp only
  rw [run_eql_struct]
  go_simp
theorem guard_cred (c : Crd) (i j : Operand) (W : World) : (eqGuard .eql 27 i j (.agg c.cells.toArray) (.agg c.cells.toArray)).run Tryd.prog W = .ok () W := by
  obtain ⟨d, q, nm, kd, wh, ao, an, bo, bn⟩ := c
  unfold Crd.cells
  simp only
  go_simp
end Go.Proofs.YtkggagnaiiemlaaDoor.Sh
