/- The depth of an element of a list whose depths stand in a slice. -/
import Derived.Test.YtphfiohjkjipiaaTypD
import Derived.Test.YtphfiohjkjipiaaTypF
import Derived.Deep.OwnRows
set_option linter.unusedVariables false
namespace Go.Proofs.Ytphfiohjkjipiaa
open Go.RowKit

theorem tyDpt_bd {ds : List Int} (h : ∀ v ∈ ds, 0 ≤ v ∧ v ≤ 65535) (p : Int) : 0 ≤ ds.getD p.toNat 0 ∧ ds.getD p.toNat 0 ≤ 65535 := by
  rw [List.getD_eq_getElem?_getD]
  cases hx : ds[p.toNat]? with
  | none => exact ⟨Int.le_refl _, by decide⟩
  | some v => exact h v (List.mem_of_getElem? hx)

/-- a new row of zeros -/
theorem made_cell (w : World) (n : Nat) (t : TypeId) {j : Nat} (hj : j < n) : (w.alloc (.cells (madeCells #[.int .i64 0] n) t)).cell? ⟨w.heap.size, j, none⟩ = some (.int .i64 0) := by
  rw [cell_of_row (w.alloc (.cells (madeCells #[.int .i64 0] n) t)) w.heap.size j _ t (0, 0) (heap_alloc_new w _), ← Array.getElem?_toList, toList_madeCells_one]
  simp [hj]
end Go.Proofs.Ytphfiohjkjipiaa
