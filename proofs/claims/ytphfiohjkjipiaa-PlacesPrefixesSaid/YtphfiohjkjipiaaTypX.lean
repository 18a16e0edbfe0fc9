/- Depth and Copyable of a valid list. -/
import Derived.Test.YtphfiohjkjipiaaTypI2
import Derived.Test.YtphfiohjkjipiaaTypB2
set_option linter.unusedVariables false
namespace Go.Proofs.Ytphfiohjkjipiaa
open Go.RowKit

theorem tyDep_bd {l : List Ty} {r : Int} (h : TyOk l r) (p : Int) : 0 ≤ tyDep l p ∧ tyDep l p ≤ 65535 := by
  rcases Nat.lt_or_ge p.toNat l.length with hl | hl
  · have hex : ∃ t, l[p.toNat]? = some t := ⟨_, List.getElem?_eq_getElem hl⟩
    obtain ⟨t, ht⟩ := hex
    have := h.dep_pos ht
    have e : tyDep l ((p.toNat : Nat) : Int) = tyDep l p := by unfold tyDep; rw [Int.toNat_natCast]
    rw [e] at this
    omega
  · have e : tyDep l p = 0 := by
      unfold tyDep
      rw [List.getD_eq_getElem?_getD, List.getElem?_eq_none (by unfold tyDeps; rw [tyTab_len]; exact hl)]
      rfl
    omega
theorem none_or (D : Int → Prop) (ps : List Int) : (fun r => D r ∨ ∃ p ∈ ps, False) = fun r => D r ∨ False := by
  funext r; simp

/-! ### Copyable -/
end Go.Proofs.Ytphfiohjkjipiaa
