/- Part 17 of the contracts and their mathematics. -/
import Derived.Test.YtfgacmgjpikgaaaGreatDoorQ2
set_option linter.unusedVariables false
set_option linter.unusedSimpArgs false
namespace Go.Proofs.YtfgacmgjpikgaaaGreatDoor
open Go.RowKit
section
variable {α : Type}
theorem sumN_one {f : α → Nat} {l : List α} {p : α} (h : p ∈ l) : f p ≤ sumN f l := by
 induction l with
 | nil => cases h
 | cons x l ih =>
  rw [sumN_cons]
  rcases List.mem_cons.1 h with rfl | h
  ·
   omega
  ·
   have := ih h
   omega
end
end Go.Proofs.YtfgacmgjpikgaaaGreatDoor
