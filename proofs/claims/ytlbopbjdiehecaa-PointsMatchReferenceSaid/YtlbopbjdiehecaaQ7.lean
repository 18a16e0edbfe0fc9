/- Part 8 of the contracts and their mathematics. -/
import Derived.Test.YtlbopbjdiehecaaQ6
set_option linter.unusedVariables false
set_option linter.unusedSimpArgs false
set_option maxRecDepth 100000
set_option maxHeartbeats 4000000
namespace Go.Proofs.Ytlbopbjdiehecaa
open Go.RowKit
theorem RIndex_any (x:BdW) (i k:Int) (w:World) (hx:OneBd w w.heap.size x) (hN:ptCount x.v.blocks≤2 ^ 62) :
    Calls Try.prog 12 #[aggBd x,.int .i64 i,.int .i64 k] w fun e w'=>e=.returned (vIdx (ptIdx x.v.blocks i k))∧Below w.heap.size w w':=by
  obtain ⟨BL,hBL⟩:∃ l,x.v.blocks=l:=⟨_,rfl⟩
  have hbl:=bk_len hx
  have hbm:=hx.blocks.nm
  unfold maxLen at hbm
  have HFI:=hide fun (w':World) (m:Nat) (hm:ptFirst BL i.toNat=m) (y:Below w.heap.size w w')=>RFirst_is (k:=i) (hx.up y) (hBL ▸ hm) hN
  rw [hBL] at hN hbl ⊢
  have HBV:=hide hBL
  have HN:=hide hN
  obtain ⟨r,hr⟩:∃ r,ptIdx BL i k=r:=⟨_,rfl⟩
  rw [hr]
  have HR:=hide hr
  obtain ⟨nm,⟨rA,rn,rc,rL⟩,⟨oA,on,oc,oL⟩,⟨tA,tm,tc,tL⟩,⟨lA,ln,lc,lL⟩,ar,⟨bA,bn,bc,bL⟩⟩:=x
  have HBL:=hide hbl
  have hbm:bn≤2 ^ 63 - 1:=hbm
  have HB:=hide (below1 w (.cells #[.string nm,.slice rA rn rc,.slice oA on oc,.slice tA tm tc,.slice lA ln lc,.int .i64 ar,.slice bA bn bc] 32))
  have HX:=hide (hx.up HB.out)
  obtain ⟨x0,x1,x2,x3,x4,x5,x6⟩:=cells7 (Below.refl (w.alloc (.cells #[.string nm,.slice rA rn rc,.slice oA on oc,.slice tA tm tc,.slice lA ln lc,.int .i64 ar,.slice bA bn bc] 32)).heap.size (w.alloc (.cells #[.string nm,.slice rA rn rc,.slice oA on oc,.slice tA tm tc,.slice lA ln lc,.int .i64 ar,.slice bA bn bc] 32)))
  clear hBL hbl hN hx hr
  by_cases hi:i < 0
  · obtain rfl:r=none:=by rw [←HR.out];exact ptIdx_no fun b _=>by omega
    go_enter Try.func12,Try.ntmps12
    go_wp2
    go_ret2
    exact ⟨rfl,HB.out⟩
  by_cases hlt:(bn:Int)≤i
  · obtain rfl : r = none := by
      rw [←HR.out]
      refine ptIdx_no fun b hb=>?_
      have h1:=(List.getElem?_eq_some_iff.1 hb).1
      have h2:BL.length=bn:=HBL.out
      omega
    go_enter Try.func12,Try.ntmps12
    go_wp2
    go_ret2
    exact ⟨rfl,HB.out⟩
  by_cases hk:k < 0
  · obtain rfl:r=none:=by rw [←HR.out];exact ptIdx_no fun b _=>by omega
    go_enter Try.func12,Try.ntmps12
    go_wp2
    go_ret2
    exact ⟨rfl,HB.out⟩
  obtain ⟨j,rfl⟩:∃ j:Nat,i=(j:Int):=⟨i.toNat,by omega⟩
  have hj:j < bn:=by omega
  obtain ⟨p,b,o,_,hpv,hps,hpm,hA,hb,_,hc⟩:=bk_at HX.out hj
  have hA:bA=some ⟨b,o,none⟩:=hA
  subst hA
  have hpv:BL[j]?=some p.v:=HBV.out ▸ hpv
  have c0:(w.alloc (.cells #[.string nm,.slice rA rn rc,.slice oA on oc,.slice tA tm tc,.slice lA ln lc,.int .i64 ar,.slice (some ⟨b,o,none⟩) bn bc] 32)).cell? ⟨b,o+j*7,none⟩=some (.slice p.stmts.A p.stmts.n p.stmts.c):=hc 0 _ rfl
  have hlt':(j:Int) < (bn:Int):=by omega
  have hj0:(0:Int)≤(j:Int):=by omega
  have HPV:=hide hpv
  have HPS:=hide hps
  obtain ⟨q,hq⟩:∃ q,p.stmts.n=q:=⟨_,rfl⟩
  rw [hq] at c0
  have HQ:=hide (hps.trans hq)
  clear hpv hps hpm hc hq hi hlt
  by_cases hkq:(q:Int) < k
  · obtain rfl : r = none := by
      rw [←HR.out]
      exact ptIdx_no fun b hb=>by
        have e:some p.v=some b:=HPV.out.symm.trans (by simpa using hb)
        injection e with e
        subst e
        rw [HQ.out]
        omega
    go_enter Try.func12,Try.ntmps12
    go_wp2
    go_ret2
    exact ⟨rfl,HB.out⟩
  · obtain ⟨m,hm⟩:∃ m,ptFirst BL (j:Int).toNat=m:=⟨_,rfl⟩
    obtain rfl:r=some ((m:Int)+k):=by
      rw [←HR.out,ptIdx_yes (b:=p.v) (by simpa using HPV.out) ⟨by omega,by omega,by rw [HQ.out];omega⟩,hm]
    have hm62:m+q < 2 ^ 62:=by
      have h1:=pt_lt HPV.out (k:=q) (by rw [HQ.out];exact Nat.le_refl _)
      rw [Int.toNat_natCast] at hm
      rw [hm] at h1
      have:=HN.out
      omega
    have HM:=hide hm
    have s1:IntKind.i64.wrap ((m:Int)+k)=(m:Int)+k:=wrapI9 _ (by omega) (by omega)
    clear hm
    go_enter Try.func12,Try.ntmps12
    go_wp2_with fail
    refine (HFI.out _ m HM.out HB.out).mono ?_
    rintro e w1 ⟨rfl,hb1⟩
    have HB2:=hide (HB.out.trans (hb1.mono HB.out.size))
    clear hb1
    go_wp2
    go_ret2
    exact ⟨rfl,HB2.out⟩
section
variable {W w:World} {x:BdW} {l:List BkV} (h:Ctx11 W x l) (y:Below W.heap.size W w)
include h y
theorem Ctx11.rindex (i k:Int) {r:Option Int} (hr:ptIdx l i k=r):Calls Try.prog 12 #[aggBd x,.int .i64 i,.int .i64 k] w fun e w'=>e=.returned (vIdx r)∧Below w.heap.size w w':=by
 obtain ⟨hx,rfl,hN,hT⟩:=h
 exact hr ▸ RIndex_any x i k w (hx.up y) (by omega)
end
theorem vIdx_form (r:Option Int):∃ (a:Int) (b:Bool),vIdx r=.tuple #[.int .i64 a,.bool b]:=by
 cases r with
 | none=>exact ⟨0,false,rfl⟩
 | some z=>exact ⟨z,true,rfl⟩
theorem vLoc_form (r:Option (Nat×Nat)):∃ (a c:Int) (b:Bool),vLoc r=.tuple #[.int .i64 a,.int .i64 c,.bool b]:=by
 cases r with
 | none=>exact ⟨0,0,false,rfl⟩
 | some z=>exact ⟨z.1,z.2,true,rfl⟩
end Go.Proofs.Ytlbopbjdiehecaa
namespace Go.Proofs.Ytlbopbjdiehecaa
open Go.ChangeShapes Go.WideShapes Go.ChangeAt Go.RowKit
theorem rng_i64 {x:Int} (h:(Lit.int .i64 x).wf=true):IntR x:=by simpa [IntR,Lit.wf,IntKind.min,IntKind.max,IntKind.signed,IntKind.bits] using h
theorem two_ints {H:Type} {enc:TypeId×Value→H} {P:Program} {W:World} {t e:TypeId} {fuel:Nat} {cs:List Value} {z:DataW H×List MemPlace} (ht:P.underlying t=some (.array 2 e)) (he:P.underlying e=some (.int .i64)) (hc:P.cellsOf e=1) (hl:cs.length=2)
  (hf:DataW.trod enc P W 0 (fun _=>true) true fuel t cs=some z):∃ p:Pr,cs=pV p∧IntP p:=by
 obtain ⟨xs,m,_,_,hlen,hxl,hat⟩:=DataW.trod_array ht hf
 match cs,hl with
 | [u0,u1],_=>
  have g0:=hat 0 (by omega)
  have g1:=hat 1 (by omega)
  rw [hc] at g0 g1
  have t0:DataW.trod enc P W 0 (fun _=>true) true m e [u0]=some (xs[0]'(by omega)):=by
   have:=g0.trans (List.getElem?_eq_getElem (by omega))
   simpa [Value.cells] using this
  have t1:DataW.trod enc P W 0 (fun _=>true) true m e [u1]=some (xs[1]'(by omega)):=by
   have:=g1.trans (List.getElem?_eq_getElem (by omega))
   simpa [Value.cells] using this
  obtain ⟨k0,q0,_,w0⟩:=DataW.trod_int he t0
  obtain ⟨k1,q1,_,w1⟩:=DataW.trod_int he t1
  injection q0 with q0
  injection q1 with q1
  subst q0 q1
  exact ⟨(k0,k1),rfl,rng_i64 w0,rng_i64 w1⟩
theorem openPairI {H:Type} {enc:TypeId×Value→H} {P:Program} {W:World} {base:Nat} {t e:TypeId} {v:Value} {d:DataW H} {p:List MemPlace} (ht:P.underlying t=some (.array 2 e)) (he:P.underlying e=some (.int .i64)) (hc:P.cellsOf e=1) (hC:P.cellsOf t=2)
  (hv:Value.okWide P W .any base t v) (h:DataW.Trod enc P W 0 (fun _=>true) true t v d p) :
  ∃ a b:Int,v=.agg #[.int .i64 a,.int .i64 b]∧IntR a∧IntR b:=by
 simp only [Value.okWide,ht] at hv
 obtain ⟨cs,rfl,hs,_⟩:=hv
 obtain ⟨fuel,hf⟩:=h
 rw [hC] at hs
 obtain ⟨l⟩:=cs
 obtain ⟨q,e1,h1,h2⟩:=two_ints (cs:=l) ht he hc hs (by simpa [Value.cells] using hf)
 subst e1
 exact ⟨q.1,q.2,rfl,h1,h2⟩
end Go.Proofs.Ytlbopbjdiehecaa
