/- Part 25 of the contracts and their mathematics. -/
import Derived.Test.YtfgacmgjpikgaaaGreatDoorQ19
set_option linter.unusedVariables false
set_option linter.unusedSimpArgs false
namespace Go.Proofs.YtfgacmgjpikgaaaGreatDoor
open Go.RowKit
def Plan (_is:List (Nat×Option Tmp×Bool)) (P:Program) (md:Region.Mode) (ops:Array Oper) (Q:Exit→Act→World→Prop) (S:World→Prop) (fuel:Nat) (listed:Array Bool) (a:Act) (w:World):Prop:=wpAnyH P md ops Q S fuel listed a w
section
variable {P:Program} {md:Region.Mode} {ops:Array Oper} {Q:Exit→Act→World→Prop} {S:World→Prop}
theorem plan (is:List (Nat×Option Tmp×Bool)) {fuel:Nat} {listed:Array Bool} {a:Act} {w:World} (h:Plan is P md ops Q S fuel listed a w):wpAnyH P md ops Q S fuel listed a w:=h
theorem plan0 {fuel:Nat} {listed:Array Bool} {a:Act} {w:World} (h:wpAnyH P md ops Q S fuel listed a w):Plan [] P md ops Q S fuel listed a w:=h
end
section
variable {P:Program} {md:Region.Mode} {ops:Array Oper} {Q:Exit→Act→World→Prop} {S:World→Prop}
theorem pY {i:Nat} {d:Option Tmp} {is:List (Nat×Option Tmp×Bool)} {oi:Oper} {v:Value} {fuel:Nat} {listed:Array Bool} {a:Act} {w:World} (hS:S w) (hi:ops[i]?=some oi) (hd:oi.dst=d)
  (hy:∀ w,S w→(execOp a.eval oi).run P w=.ok (.value v) w) (h:Plan is P md ops Q S fuel (listed.setIfInBounds i true) (a.put d v) w)
  (hs:Region.noSelect ops=true:=by kernel_rfl) (hf:Region.free md ops listed i=true:=by kernel_rfl) (hr:(Region.ready md ops listed).contains i=true:=by kernel_rfl)
  (hQ:∀ c a w,Q (.panic c) (a.put d v) w→Q (.panic c) a w:=by exact fun _ _ _ h=>h) (hw:Region.wanted oi (yielded ops a.tmps)=true:=by rfl):Plan ((i,d,true) :: is) P md ops Q S (fuel+1) listed a w:=takeY hi hd hs hf hr hQ hw hy hS h
theorem pN {i:Nat} {d:Option Tmp} {is:List (Nat×Option Tmp×Bool)} {oi:Oper} {fuel:Nat} {listed:Array Bool} {a:Act} {w:World} (hS:S w) (hi:ops[i]?=some oi) (hd:oi.dst=d)
  (h:Plan is P md ops Q S fuel (listed.setIfInBounds i true) (a.put d undef) w)
  (hs:Region.noSelect ops=true:=by kernel_rfl) (hf:Region.free md ops listed i=true:=by kernel_rfl) (hr:(Region.ready md ops listed).contains i=true:=by kernel_rfl)
  (hQ:∀ c a w,Q (.panic c) (a.put d undef) w→Q (.panic c) a w:=by exact fun _ _ _ h=>h) (hw:Region.wanted oi (yielded ops a.tmps)=false:=by rfl):Plan ((i,d,false) :: is) P md ops Q S (fuel+1) listed a w:=takeN hi hd hs hf hr hQ hw hS h
end
end Go.Proofs.YtfgacmgjpikgaaaGreatDoor
