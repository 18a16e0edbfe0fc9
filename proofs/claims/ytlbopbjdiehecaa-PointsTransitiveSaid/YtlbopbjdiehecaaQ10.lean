/- Part 11 of the contracts and their mathematics. -/
import Derived.Test.YtlbopbjdiehecaaQ3
set_option linter.unusedVariables false
set_option linter.unusedSimpArgs false
namespace Go.Proofs.Ytlbopbjdiehecaa
open Go.RowKit
theorem edI_up (l:List BkV) (j:Nat):edI l (j+1)=edI l j++(nextI l (j:Int)).map fun q=>((j:Int),q):=by
 unfold edI
 rw [List.range_succ,List.flatMap_append]
 simp
theorem edI_len (l:List BkV) (j:Nat):(edI l j).length≤j*ptCount l:=by
 induction j with
 | zero=>simp [edI]
 | succ j ih=>
  rw [edI_up,List.length_append,List.length_map,Nat.add_mul,Nat.one_mul]
  exact Nat.add_le_add ih (nxI_len _ _ _)
end Go.Proofs.Ytlbopbjdiehecaa
