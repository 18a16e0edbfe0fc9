/- checkFields: a type on its own. -/
import Derived.Test.YtagnikaghhobjaaTypP
set_option linter.unusedVariables false
namespace Go.Proofs.Ytagnikaghhobjaa
open Go.RowKit

theorem ret_n {a b : Int} (h : a = b) : Ending.returned (.int .i64 b) = .returned (.int .i64 a) := by rw [h]


theorem tyOwn_in {k : Int} {m : Bool} {r el : Int} {fs : List Int} {er rg : Int} (h0 : 0 ≤ k) (h1 : k ≤ 4) : tyOwn ⟨k, m, r, el, fs⟩ er rg = if (k ≠ 3 ∧ (m = true ∨ r ≠ 0 ∨ el ≠ 0)) ∨ (k ≠ 4 ∧ 0 < fs.length) then 2 else if (k = 3 ∧ tyIn r rg = false) ∨ tyAllIn (tyParts ⟨k, m, r, el, fs⟩) er = false then 3 else if k = 4 ∧ (fs.length = 0 ∨ 65535 < fs.length) then 15 else 0 :=
  if_neg (show ¬ (k < 0 ∨ 4 < k) by omega)

end Go.Proofs.Ytagnikaghhobjaa
