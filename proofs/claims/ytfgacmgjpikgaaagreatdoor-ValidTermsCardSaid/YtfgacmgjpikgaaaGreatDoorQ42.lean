/- Part 43 of the contracts and their mathematics. -/
import Derived.Test.YtfgacmgjpikgaaaGreatDoorQ3
set_option linter.unusedVariables false
set_option linter.unusedSimpArgs false
set_option maxRecDepth 100000
namespace Go.Proofs.YtfgacmgjpikgaaaGreatDoor
open Go.ChangeShapes Go.WideShapes Go.ChangeAt Go.RowKit
def FitTm (x:TmW):Prop:=x.targets.n≤2 ^ 47∧x.pl.n≤2 ^ 47
theorem openTerm {H:Type} {enc:TypeId×Value→H} {W:World} {base:Nat} {v:Value} {d:DataW H} {p:List MemPlace} (hv:Value.okWide Tryz.prog W .any base 50 v) (h:DataW.Trod enc Tryz.prog W 0 (fun _=>true) true 50 v d p):∃ x,v=aggTm x∧OneTm W W.heap.size x∧(Fit Tryz.prog 50 d→FitTm x):=by
 obtain ⟨cs,rfl,hsz⟩:=okWide_struct Tryz.underlying50 hv
 obtain ⟨fuel,hf⟩:=h
 obtain ⟨l⟩:=cs
 have hC:Tryz.prog.cellsOf 50=6:=by kernel_rfl
 obtain ⟨x,e,hx⟩:=trodTm (cs:=l) (hsz.trans hC) (by simpa [Value.cells] using hf)
 exact ⟨x,by rw [e];rfl,hx⟩
end Go.Proofs.YtfgacmgjpikgaaaGreatDoor
