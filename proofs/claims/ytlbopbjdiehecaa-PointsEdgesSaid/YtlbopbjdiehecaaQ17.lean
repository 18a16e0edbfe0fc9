/- Part 18 of the contracts and their mathematics. -/
import Derived.Test.YtlbopbjdiehecaaQ6
import Derived.Test.YtlbopbjdiehecaaQ8
set_option linter.unusedVariables false
set_option linter.unusedSimpArgs false
namespace Go.Proofs.Ytlbopbjdiehecaa
open Go.RowKit
section
variable {W w:World} {x:BdW} {l:List BkV} (h:Ctx11 W x l) (y:Below W.heap.size W w)
include h y
theorem Ctx11.rlocate {p:Int} (hp:IntR p) {r:Option (Nat×Nat)} (hr:ptLocI l p=r):Calls Try.prog 14 #[aggBd x,.int .i64 p] w fun e w'=>e=.returned (vLoc r)∧Below w.heap.size w w':=by
 obtain ⟨hx,rfl,hN,hT⟩:=h
 exact hr ▸ RLocate_any x p w (hx.up y) (by omega) hp
end
end Go.Proofs.Ytlbopbjdiehecaa
