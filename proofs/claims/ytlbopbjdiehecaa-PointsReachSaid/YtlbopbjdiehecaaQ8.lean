/- Part 9 of the contracts and their mathematics. -/
import Derived.Test.YtlbopbjdiehecaaQ1
set_option linter.unusedVariables false
set_option linter.unusedSimpArgs false
set_option maxRecDepth 100000
set_option maxHeartbeats 4000000
namespace Go.Proofs.Ytlbopbjdiehecaa
open Go.RowKit
theorem RLocate_any (x:BdW) (pt:Int) (w:World) (hx:OneBd w w.heap.size x) (hN:ptCount x.v.blocks≤2 ^ 62) (hI:IntR pt) :
  Calls Try.prog 14 #[aggBd x,.int .i64 pt] w fun e w'=>e=.returned (vLoc (ptLocI x.v.blocks pt))∧Below w.heap.size w w':=by
 obtain ⟨BL,hBL⟩:∃ l,x.v.blocks=l:=⟨_,rfl⟩
 have hbl:=bk_len hx
 have hbm:=hx.blocks.nm
 unfold maxLen at hbm
 have HFI:=hide fun (w':World) (m j:Nat) (hm:ptFirst BL j=m) (y:Below w.heap.size w w')=>RFirst_is (k:=(j:Int)) (m:=m) (hx.up y) (by rw [Int.toNat_natCast,hBL];exact hm) hN
 rw [hBL] at hN hbl ⊢
 have HBV:=hide hBL
 have HN:=hide hN
 obtain ⟨r,hr⟩:∃ r,ptLocI BL pt=r:=⟨_,rfl⟩
 rw [hr]
 have HR:=hide hr
 obtain ⟨hI1,hI2⟩:=hI
 obtain ⟨nm,⟨rA,rn,rc,rL⟩,⟨oA,on,oc,oL⟩,⟨tA,tm,tc,tL⟩,⟨lA,ln,lc,lL⟩,ar,⟨bA,bn,bc,bL⟩⟩:=x
 have HBL:=hide hbl
 have hbm:bn≤2 ^ 63 - 1:=hbm
 have HB:=hide (below1 w (.cells #[.string nm,.slice rA rn rc,.slice oA on oc,.slice tA tm tc,.slice lA ln lc,.int .i64 ar,.slice bA bn bc] 32))
 have HX:=hide (hx.up HB.out)
 have HC:=hide fun (w':World) (y:Below (w.alloc (.cells #[.string nm,.slice rA rn rc,.slice oA on oc,.slice tA tm tc,.slice lA ln lc,.int .i64 ar,.slice bA bn bc] 32)).heap.size (w.alloc (.cells #[.string nm,.slice rA rn rc,.slice oA on oc,.slice tA tm tc,.slice lA ln lc,.int .i64 ar,.slice bA bn bc] 32)) w')=>cells7 y
 clear hBL hbl hN hx hr
 go_enter Try.func14,Try.ntmps14
 go_wp2
 go_loopw [7] (fun i wr=>∃ j:Nat,i=.int .i64 (j:Int)∧j≤bn∧Hid (∀ i' k',r=some (i',k')→j≤i')∧Hid (Below (w.alloc (.cells #[.string nm,.slice rA rn rc,.slice oA on oc,.slice tA tm tc,.slice lA ln lc,.int .i64 ar,.slice bA bn bc] 32)).heap.size (w.alloc (.cells #[.string nm,.slice rA rn rc,.slice oA on oc,.slice tA tm tc,.slice lA ln lc,.int .i64 ar,.slice bA bn bc] 32)) wr)) (fun i _=>bn - (intOf i).toNat)
 case atStart=>exact ⟨0,rfl,Nat.zero_le _,hide (fun _ _ _=>Nat.zero_le _),hide (Below.refl _ _)⟩
 case round=>
  obtain ⟨j,rfl,hj,HM,HW⟩:=hrel
  obtain ⟨x0,x1,x2,x3,x4,x5,x6⟩:=HC.out _ HW.out
  by_cases hlt:j < bn
  ·
   have hlt':(j:Int) < (bn:Int):=by omega
   obtain ⟨p,b,o,_,hpv,hps,hpm,hA,hb,_,hc⟩:=bk_at (HX.out.up HW.out) hlt
   have hb3:=hb
   have hA:bA=some ⟨b,o,none⟩:=hA
   subst hA
   have hpv:BL[j]?=some p.v:=HBV.out ▸ hpv
   have HCC:=hide fun (w':World) (y:Below wr.heap.size wr w')=>(show w'.cell? ⟨b,o+j*7,none⟩=some (.slice p.stmts.A p.stmts.n p.stmts.c) from (y.cell (p:=⟨b,o+j*7,none⟩) hb3).trans (hc 0 _ rfl))
   obtain ⟨m,hm⟩:∃ m,ptFirst BL j=m:=⟨_,rfl⟩
   obtain ⟨q,hq⟩:∃ q,p.v.stmts.length=q:=⟨_,rfl⟩
   have hm62:m+q < 2 ^ 62:=by
    have h1:=pt_lt hpv (k:=q) (by rw [hq];exact Nat.le_refl _)
    rw [hm] at h1
    have:=HN.out
    omega
   have hqn:p.stmts.n=q:=hps.symm.trans hq
   have HPV:=hide hpv
   have HM0:=hide hm
   have HQ:=hide hq
   have HQN:=hide hqn
   clear hpv hps hpm hc hm hq hb hb3 hqn
   by_cases h0:pt < 0
   ·
    go_wp2_with fail
    refine (HFI.out _ m j HM0.out (HB.out.trans (HW.out.mono HB.out.size))).mono ?_
    rintro e w1 ⟨rfl,hb1⟩
    have HW1:=hide (HW.out.trans (hb1.mono HW.out.size))
    clear hb1
    go_wp2
    go_roundw
    case rel=>exact ⟨j+1,by go_num,by omega,hide (fun i' k' e=>absurd (ptLocI_some (HR.out.trans e)).1 (by omega)),HW1⟩
    case measure=>simp [intOf];omega
   have s1:IntKind.i64.wrap (pt - (m:Int))=pt - (m:Int):=wrapI9 _ (by omega) (by omega)
   have h00:0≤pt:=by omega
   by_cases h1:pt - (m:Int) < 0
   ·
    go_wp2_with fail
    refine (HFI.out _ m j HM0.out (HB.out.trans (HW.out.mono HB.out.size))).mono ?_
    rintro e w1 ⟨rfl,hb1⟩
    have HW1:=hide (HW.out.trans (hb1.mono HW.out.size))
    clear hb1
    go_wp2
    go_roundw
    case rel=>
     refine ⟨j+1,by go_num,by omega,hide (fun i' k' e=>?_),HW1⟩
     have h2:=HM.out i' k' e
     obtain ⟨_,b',hb',hk',e'⟩:=ptLocI_some (HR.out.trans e)
     rcases Nat.lt_or_ge j i' with h | h
     ·
      exact h
     ·
      obtain rfl:j=i':=by omega
      rw [HM0.out] at e'
      omega
    case measure=>simp [intOf];omega
   obtain ⟨d,hd⟩:∃ d:Nat,pt=(m:Int)+d:=⟨(pt - m).toNat,by omega⟩
   have HD:=hide hd
   by_cases h2:d≤q
   ·
    have h2':pt - (m:Int)≤(q:Int):=by omega
    have h1':0≤pt - (m:Int):=by omega
    obtain rfl:r=some (j,d):=by rw [←HR.out];exact ptLocI_at HPV.out (by rw [HQ.out];exact h2) (by rw [HM0.out];exact HD.out)
    clear hd h1
    go_wp2_with fail
    refine (HFI.out _ m j HM0.out (HB.out.trans (HW.out.mono HB.out.size))).mono ?_
    rintro e w1 ⟨rfl,hb1⟩
    have HW1:=hide (HW.out.trans (hb1.mono HW.out.size))
    have c0:=HCC.out w1 hb1
    rw [HQN.out] at c0
    obtain ⟨y0,y1,y2,y3,y4,y5,y6⟩:=HC.out _ HW1.out
    clear hb1
    go_wp2
    go_ret3
    exact ⟨by
     have e:pt - (m:Int)=(d:Int):=by have:=HD.out;omega
     rw [e];rfl,HB.out.trans (HW1.out.mono HB.out.size)⟩
   ·
    have h2':¬pt - (m:Int)≤(q:Int):=by omega
    have h1':0≤pt - (m:Int):=by omega
    clear hd h1
    go_wp2_with fail
    refine (HFI.out _ m j HM0.out (HB.out.trans (HW.out.mono HB.out.size))).mono ?_
    rintro e w1 ⟨rfl,hb1⟩
    have HW1:=hide (HW.out.trans (hb1.mono HW.out.size))
    have c0:=HCC.out w1 hb1
    rw [HQN.out] at c0
    obtain ⟨y0,y1,y2,y3,y4,y5,y6⟩:=HC.out _ HW1.out
    clear hb1
    go_wp2
    go_roundw
    case rel=>
     refine ⟨j+1,by go_num,by omega,hide (fun i' k' e=>?_),HW1⟩
     have h2:=HM.out i' k' e
     obtain ⟨_,b',hb',hk',e'⟩:=ptLocI_some (HR.out.trans e)
     rcases Nat.lt_or_ge j i' with h | h
     ·
      exact h
     ·
      obtain rfl:j=i':=by omega
      have e2:some p.v=some b':=HPV.out.symm.trans hb'
      injection e2 with e2
      subst e2
      rw [HM0.out] at e'
      rw [HQ.out] at hk'
      omega
    case measure=>simp [intOf];omega
  ·
   have hlt':¬(j:Int) < (bn:Int):=by omega
   obtain rfl:r=none:=by
    cases hr:r with
    | none=>rfl
    | some z=>
     obtain ⟨i',k'⟩:=z
     have h1:=HM.out i' k' hr
     have h2:=ptLocI_lt (HR.out.trans hr)
     have h3:BL.length=bn:=HBL.out
     omega
   go_wp2
   go_ret3
   exact ⟨rfl,HB.out.trans (HW.out.mono HB.out.size)⟩
end Go.Proofs.Ytlbopbjdiehecaa
