/- Part 34 of the contracts and their mathematics. -/
import Derived.Test.YteeemjmohjkdpaaGreatDoorQ11
import Derived.Test.YteeemjmohjkdpaaGreatDoorQ21
set_option linter.unusedVariables false
set_option linter.unusedSimpArgs false
namespace Go.Proofs.YteeemjmohjkdpaaGreatDoor
open Go.RowKit
section
variable {w:World} {B:Nat} {x:BdW} (hx:OneBd w B x)
include hx
end
section
variable {w:World} {x:BdW} (hx:OneBd w w.heap.size x)
include hx
theorem sm12defs (h:Sm12 x) {p:Int} (hp:IntR p) (w':World) (y:Below w.heap.size w w'):Calls Tryz.prog 12 #[aggBd x,.int .i64 p] w' fun e w2=>e=.returned (vDef (defI x.v.blocks p))∧Below w'.heap.size w' w2:=
 RDefines_any x p w' (hx.up y) (Nat.le_trans h.cnt (by decide)) hp
end
end Go.Proofs.YteeemjmohjkdpaaGreatDoor
