/- Part 16 of the contracts and their mathematics. -/
import Derived.Test.YtlbopbjdiehecaaQ6
set_option linter.unusedVariables false
set_option linter.unusedSimpArgs false
namespace Go.Proofs.Ytlbopbjdiehecaa
open Go.RowKit
section
variable {W w:World} {x:BdW} {l:List BkV} (h:Ctx11 W x l) (y:Below W.heap.size W w)
include h y
theorem Ctx11.next {p:Int} (hp:IntR p):Calls Try.prog 18 #[aggBd x,.int .i64 p] w (IntsOut9 w (nextI l p)):=by
 obtain ⟨hx,rfl,hN,hT⟩:=h
 exact PNext_any x p w (hx.up y) (Nat.le_trans hN (by decide)) (fun b hb=>Nat.le_trans (hT b hb) (by decide)) hp
theorem Ctx11.edges:Calls Try.prog 21 #[aggBd x] w (PrsOut9 w (edgesI l)):=by
 obtain ⟨hx,rfl,hN,hT⟩:=h
 exact PEdges_any x w (hx.up y) (Nat.le_trans hN (by decide)) (fun b hb=>Nat.le_trans (hT b hb) (by decide))
end
end Go.Proofs.Ytlbopbjdiehecaa
