/- What is checked of a type on its own: within, parts, areWithin, checkFields. -/
import Derived.Test.YtphfiohjkjipiaaTypE
set_option linter.unusedVariables false
namespace Go.Proofs.Ytphfiohjkjipiaa
open Go.RowKit

/-- a number written out as a slice of one -/
theorem Rd_int1 (w : World) (x : Int) (t : TypeId) : Rd (w.alloc (.cells #[.int .i64 x] t)) (w.heap.size + 1) (some ⟨w.heap.size, 0, none⟩) 1 (i64s [x]) :=
  ⟨rfl, fun _ => ⟨w.heap.size, 0, rfl, by omega, fun j u hu => by
    rw [cell_of_row (w.alloc (.cells #[.int .i64 x] t)) w.heap.size (0 + j) _ t (0, 0) (heap_alloc_new w _)]
    simpa using hu⟩⟩

/-- what 'parts' returns -/
def PartsR (w : World) (x : TyW) (e : Ending) (w' : World) : Prop := ∃ A n c, e = .returned (.slice A n c) ∧ n ≤ c ∧ c ≤ maxLen ∧ (tyParts x.t).length = n ∧ Rd w' w'.heap.size A n (i64s (tyParts x.t)) ∧ Below w.heap.size w w'

end Go.Proofs.Ytphfiohjkjipiaa
