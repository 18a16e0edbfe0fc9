/- Part 14 of the contracts and their mathematics. -/
import Derived.Test.YtlbopbjdiehecaaQ6
set_option linter.unusedVariables false
set_option linter.unusedSimpArgs false
namespace Go.Proofs.Ytlbopbjdiehecaa
open Go.RowKit
section
variable {W w:World} {x:BdW} {l:List BkV} (h:Ctx11 W x l) (y:Below W.heap.size W w)
include h y
theorem Ctx11.rcount {m:Nat} (hm:ptCount l=m):Calls Try.prog 16 #[aggBd x] w fun e w'=>e=.returned (.int .i64 (m:Int))∧Below w.heap.size w w':=by
 obtain ⟨hx,rfl,hN,hT⟩:=h
 exact RCount_is (hx.up y) hm (by omega)
end
end Go.Proofs.Ytlbopbjdiehecaa
