/- Part 17 of the contracts and their mathematics. -/
import Derived.Test.YtlbopbjdiehecaaQ6
set_option linter.unusedVariables false
set_option linter.unusedSimpArgs false
namespace Go.Proofs.Ytlbopbjdiehecaa
open Go.RowKit
section
variable {W w:World} {x:BdW} {l:List BkV} (h:Ctx11 W x l) (y:Below W.heap.size W w)
include h y
theorem Ctx11.reach {p q:Int} (hp:IntR p) (hq:IntR q) {v:Bool} (hv:rchI l p q=v):Calls Try.prog 23 #[aggBd x,.int .i64 p,.int .i64 q] w fun e w'=>e=.returned (.bool v)∧Below w.heap.size w w':=by
 obtain ⟨hx,rfl,hN,hT⟩:=h
 exact hv ▸ PReaches_any x p q w (hx.up y) (Nat.le_trans hN (by decide)) hp hq
end
end Go.Proofs.Ytlbopbjdiehecaa
