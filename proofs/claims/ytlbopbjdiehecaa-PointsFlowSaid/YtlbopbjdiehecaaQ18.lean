/- Part 19 of the contracts and their mathematics. -/
import Derived.Test.YtlbopbjdiehecaaQ6
import Derived.Test.YtlbopbjdiehecaaQ9
set_option linter.unusedVariables false
set_option linter.unusedSimpArgs false
namespace Go.Proofs.Ytlbopbjdiehecaa
open Go.RowKit
section
variable {W w:World} {x:BdW} {l:List BkV} (h:Ctx11 W x l) (y:Below W.heap.size W w)
include h y
theorem Ctx11.rnext {p:Int} (hp:IntR p):Calls Try.prog 19 #[aggBd x,.int .i64 p] w (IntsOut9 w (nextI l p)):=by
 obtain ⟨hx,rfl,hN,hT⟩:=h
 exact RNext_any x p w (hx.up y) (Nat.le_trans hN (by decide)) hp
end
end Go.Proofs.Ytlbopbjdiehecaa
