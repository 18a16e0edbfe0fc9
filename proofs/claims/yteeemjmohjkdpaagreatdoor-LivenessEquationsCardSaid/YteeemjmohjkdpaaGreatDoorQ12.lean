/- Part 13 of the contracts and their mathematics. -/
import Derived.Test.YteeemjmohjkdpaaGreatDoorQ9
set_option linter.unusedVariables false
set_option linter.unusedSimpArgs false
namespace Go.Proofs.YteeemjmohjkdpaaGreatDoor
open Go.RowKit
section
variable {w w':World} {lo lo':Nat} {A A':Option Addr} {c c':Nat} {LL:List (List Int)} {S:List SlV} {L:List Int} {s:SlV}
end
theorem lvLL_len (l:List BkV) (n j:Nat):(lvLL l n j).length=j:=by unfold lvLL;rw [List.length_map,List.length_range]
end Go.Proofs.YteeemjmohjkdpaaGreatDoor
