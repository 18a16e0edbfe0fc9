/- Part 21 of the contracts and their mathematics. -/
import Derived.Test.YtlbopbjdiehecaaQ6
set_option linter.unusedVariables false
set_option linter.unusedSimpArgs false
namespace Go.Proofs.Ytlbopbjdiehecaa
open Go.RowKit
section
variable {W w:World} {x:BdW} {l:List BkV} (h:Ctx11 W x l) (y:Below W.heap.size W w)
include h y
end
theorem edge_rch {l:List BkV} {e:Pr} (h:e∈edgesI l):rchI l e.1 e.2=true∧(0≤e.1∧e.1 < (ptCount l:Int))∧0≤e.2∧e.2 < (ptCount l:Int):=by
 unfold edgesI edI at h
 obtain ⟨k,hk,he⟩:=List.mem_flatMap.1 h
 obtain ⟨q,hq,rfl⟩:=List.mem_map.1 he
 have h1:=nextI_mem.1 hq
 have h2:=List.mem_range.1 hk
 refine ⟨rchI_iff.2 ⟨h1.1.1,h1.1.2,.base (nxN_mem.2 ?_)⟩,⟨by omega,by omega⟩,h1.1⟩
 rw [Int.toNat_of_nonneg h1.1.1]
 exact hq
theorem rch_trans {l:List BkV} {p q r:Int} (h:rchI l p q=true) (k:rchI l q r=true):rchI l p r=true:=by
 obtain ⟨h1,h2,h3⟩:=rchI_iff.1 h
 obtain ⟨k1,k2,k3⟩:=rchI_iff.1 k
 refine rchI_iff.2 ⟨k1,k2,h3.trans ?_⟩
 have e:((q.toNat:Nat):Int)=q:=Int.toNat_of_nonneg h1
 show RchL (nxF l) (nxN l ((q.toNat:Nat):Int)) r.toNat
 rw [e]
 exact k3
end Go.Proofs.Ytlbopbjdiehecaa
namespace Go.Proofs.Ytlbopbjdiehecaa
open Go.ChangeShapes Go.WideShapes Go.ChangeAt Go.RowKit
theorem openTri8 {H:Type} {enc:TypeId×Value→H} {P:Program} {W:World} {base:Nat} {t e:TypeId} {v:Value} {d:DataW H} {p:List MemPlace} (ht:P.underlying t=some (.array 3 e)) (he:P.underlying e=some (.int .u8)) (hc:P.cellsOf e=1) (hC:P.cellsOf t=3)
  (hv:Value.okWide P W .any base t v) (h:DataW.Trod enc P W 0 (fun _=>true) true t v d p) :
  ∃ a b c:Int,v=.agg #[.int .u8 a,.int .u8 b,.int .u8 c]∧(0≤a∧a≤255)∧(0≤b∧b≤255)∧0≤c∧c≤255:=by
 simp only [Value.okWide,ht] at hv
 obtain ⟨cs,rfl,hs,_⟩:=hv
 obtain ⟨fuel,hf⟩:=h
 obtain ⟨xs,m,_,_,hlen,hxl,hat⟩:=DataW.trod_array ht hf
 rw [hC] at hs
 obtain ⟨l⟩:=cs
 match l,hs with
 | [u0,u1,u2],_=>
  have g0:=hat 0 (by omega)
  have g1:=hat 1 (by omega)
  have g2:=hat 2 (by omega)
  rw [hc] at g0 g1 g2
  have t0:DataW.trod enc P W 0 (fun _=>true) true m e [u0]=some (xs[0]'(by omega)):=by
   have:=g0.trans (List.getElem?_eq_getElem (by omega))
   simpa [Value.cells] using this
  have t1:DataW.trod enc P W 0 (fun _=>true) true m e [u1]=some (xs[1]'(by omega)):=by
   have:=g1.trans (List.getElem?_eq_getElem (by omega))
   simpa [Value.cells] using this
  have t2:DataW.trod enc P W 0 (fun _=>true) true m e [u2]=some (xs[2]'(by omega)):=by
   have:=g2.trans (List.getElem?_eq_getElem (by omega))
   simpa [Value.cells] using this
  obtain ⟨k0,q0,_,w0⟩:=DataW.trod_int he t0
  obtain ⟨k1,q1,_,w1⟩:=DataW.trod_int he t1
  obtain ⟨k2,q2,_,w2⟩:=DataW.trod_int he t2
  injection q0 with q0
  injection q1 with q1
  injection q2 with q2
  subst q0 q1 q2
  exact ⟨k0,k1,k2,rfl,by simpa [Lit.wf,IntKind.min,IntKind.max,IntKind.signed,IntKind.bits] using w0,by simpa [Lit.wf,IntKind.min,IntKind.max,IntKind.signed,IntKind.bits] using w1,by simpa [Lit.wf,IntKind.min,IntKind.max,IntKind.signed,IntKind.bits] using w2⟩
end Go.Proofs.Ytlbopbjdiehecaa
