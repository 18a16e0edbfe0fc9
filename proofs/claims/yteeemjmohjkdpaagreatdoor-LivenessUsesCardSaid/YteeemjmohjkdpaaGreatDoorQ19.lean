/- Part 20 of the contracts and their mathematics. -/
import Derived.Test.YteeemjmohjkdpaaGreatDoorQ16
set_option linter.unusedVariables false
set_option linter.unusedSimpArgs false
set_option maxRecDepth 100000
set_option maxHeartbeats 8000000
namespace Go.Proofs.YteeemjmohjkdpaaGreatDoor
open Go.RowKit
theorem ValBz6 {P:Prop} (h:P:=by
 have HC:=hide (RtypeOf_is HX.out HR.out.pl htv)
 clear htv
 go_enter Tryz.func141,Tryz.ntmps141
 go_wp2_with fail
 refine HC.out.mono ?_
 rintro e1 w1 ⟨rfl,hb1⟩
 have HW1:=hide hb1
 clear hb1
 obtain ⟨b1_0,b1_1,b1_2,b1_3,b1_4,b1_5,b1_6,r1_0,r1_1,r1_2,r1_3,r1_4,r1_5,r1_6⟩:=tw77 HW1.out
 go_wp2
 go_ret
 exact ⟨rfl,HB.out.trans (HW1.out.mono HB.out.size)⟩):P:=h
theorem ValBz2 {P:Prop} (h:P:=by
 obtain ⟨b2_0,b2_1,b2_2,b2_3,b2_4,b2_5,b2_6,r2_0,r2_1,r2_2,r2_3,r2_4,r2_5,r2_6⟩:=tw77 HW2.out
 go_wp2
 go_ret
 exact ⟨rfl,HB.out.trans (HW2.out.mono HB.out.size)⟩):P:=h
theorem ValBz0 {P:Prop} (h:P:=by
 clear hb6
 unfold maxLen at hrcm
 have hRlen:RL.length=rm:=by have h1:=HROW.out.1;rw [Nat.mul_one,List.length_map] at h1;exact h1
 obtain ⟨b6_0,b6_1,b6_2,b6_3,b6_4,b6_5,b6_6,r6_0,r6_1,r6_2,r6_3,r6_4,r6_5,r6_6⟩:=tw77 HW6.out
 go_wp2
 go_loopw [11] (fun i wr=>∃ j:Nat,i=.int .i64 (j:Int)∧j≤rm∧Hid (regErr (out oL ((rn:Nat):Int)) rg (RL.drop j)=v)∧Hid (Below w6.heap.size w6 wr)) (fun i _=>rm - (intOf i).toNat)
 case atStart=>exact ⟨0,rfl,Nat.zero_le _,hide HV.out,hide (Below.refl _ _)⟩
 case round=>
  obtain ⟨j,rfl,hj,HE,HW⟩:=hrel
  have HWa:=hide (HW6.out.trans (HW.out.mono HW6.out.size))
  by_cases hlt:j < rm
  ·
   have hlt':(j:Int) < (rm:Int):=by omega
   obtain ⟨a,ha⟩:∃ a,RL[j]?=some a:=⟨_,List.getElem?_eq_getElem (by omega)⟩
   have hrd:=((Rd.of_own HROW.out).below HW.out).2 (by omega)
   obtain ⟨b2,o2,hA2,hb2,hcc⟩:=hrd
   subst hA2
   have ca:wr.cell? ⟨b2,o2+j,none⟩=some (.int .i64 a):=hcc j _ (by rw [List.getElem?_map,ha];rfl)
   have hbw:b2 < wr.heap.size:=Nat.lt_of_lt_of_le hb2 HW.out.size
   obtain ⟨c,hcv⟩:∃ c,out oL ((rn:Nat):Int) a rg=c:=⟨_,rfl⟩
   clear hcc hb2
   have HS:=hide (regErr_at (O:=out oL ((rn:Nat):Int)) (r:=rg) ha)
   clear ha
   have HCV:=hide hcv
   have hcl:=hide fun (w':World) (y:Below wr.heap.size wr w')=>(show w'.cell? ⟨w.heap.size,1,none⟩=some (.slice rA rn rc)∧w'.cell? ⟨w.heap.size,2,none⟩=some (.slice oA on oc)∧w'.cell? ⟨w.heap.size+1,2,none⟩=some (.int .i64 rg)∧w'.cell? ⟨b2,o2+j,none⟩=some (.int .i64 a) from by
    obtain ⟨hcp,hcr⟩:=hcs.out _ (HWa.out.trans (y.mono HWa.out.size))
    exact ⟨hcp 1 _ rfl,hcp 2 _ rfl,hcr 2 _ rfl,(y.cell (p:=⟨b2,o2+j,none⟩) hbw).trans ca⟩)
   clear hbw
   have HO:=hide fun (w':World) (y:Below wr.heap.size wr w')=>ROutlives_is (c:=oc) hcv w' ((HX.out.up (HWa.out.trans (y.mono HWa.out.size))).one.prs) HOL.out
   clear hcv
   cases c
   ·
    have HN:=hide (show v=22 from by rw [←HE.out,HS.out,HCV.out];rfl)
    go_wp2
    have HY:=hide ((Below.refl wr.heap.size wr).drew)
    refine wp_region_held_drew (S:=(fun w'=>w'.cell? ⟨w.heap.size,1,none⟩=some (.slice rA rn rc)∧w'.cell? ⟨w.heap.size,2,none⟩=some (.slice oA on oc)∧w'.cell? ⟨w.heap.size+1,2,none⟩=some (.int .i64 rg)∧w'.cell? ⟨b2,o2+j,none⟩=some (.int .i64 a))) (by kernel_rfl) (hcl.out _ HY.out) (fun hHeld=>?_)
    refine planS [0,1,2,3,4,5,6,7,8,9,10] ?_
    repeat' (first | refine pT hHeld rfl ?_ | refine pS hHeld rfl ?_)
    refine planE ?_
    refine wpAnyH_ready (rs:=[11]) (by kernel_rfl) (by simp) ?_
    refine AllReadyH.cons rfl (fun KZ hK=>?_) AllReadyH.nil
    go_simp
    refine (HO.out _ HY.out).mono ?_
    rintro e7 w7 ⟨rfl,hb7⟩
    have HY7:=hide (HY.out.trans (hb7.mono HY.out.size))
    clear hb7
    refine hK.out _ _ (hcl.out _ HY7.out) (fun hHeld=>?_)
    clear hK KZ
    try simp only [Act.put,List.setIfInBounds_toArray,List.set_cons_zero,List.set_cons_succ]
    refine planS [12] ?_
    repeat' (first | refine pT hHeld rfl ?_ | refine pS hHeld rfl ?_)
    refine planE ?_
    refine wpAnyH_done (by kernel_rfl) ?_ _
    go_wp2
    go_ret
    exact ⟨congrArg (fun v=>Ending.returned (.int .i64 v)) HN.out.symm,HB.out.trans ((HWa.out.trans (HY7.out.mono HWa.out.size)).mono HB.out.size)⟩
   ·
    have HN:=hide (show regErr (out oL ((rn:Nat):Int)) rg (RL.drop (j+1))=v from by rw [←HE.out,HS.out,HCV.out];rfl)
    go_wp2
    have HY:=hide ((Below.refl wr.heap.size wr).drew)
    refine wp_region_held_drew (S:=(fun w'=>w'.cell? ⟨w.heap.size,1,none⟩=some (.slice rA rn rc)∧w'.cell? ⟨w.heap.size,2,none⟩=some (.slice oA on oc)∧w'.cell? ⟨w.heap.size+1,2,none⟩=some (.int .i64 rg)∧w'.cell? ⟨b2,o2+j,none⟩=some (.int .i64 a))) (by kernel_rfl) (hcl.out _ HY.out) (fun hHeld=>?_)
    refine planS [0,1,2,3,4,5,6,7,8,9,10] ?_
    repeat' (first | refine pT hHeld rfl ?_ | refine pS hHeld rfl ?_)
    refine planE ?_
    refine wpAnyH_ready (rs:=[11]) (by kernel_rfl) (by simp) ?_
    refine AllReadyH.cons rfl (fun KZ hK=>?_) AllReadyH.nil
    go_simp
    refine (HO.out _ HY.out).mono ?_
    rintro e7 w7 ⟨rfl,hb7⟩
    have HY7:=hide (HY.out.trans (hb7.mono HY.out.size))
    clear hb7
    refine hK.out _ _ (hcl.out _ HY7.out) (fun hHeld=>?_)
    clear hK KZ
    try simp only [Act.put,List.setIfInBounds_toArray,List.set_cons_zero,List.set_cons_succ]
    refine planS [12] ?_
    repeat' (first | refine pT hHeld rfl ?_ | refine pS hHeld rfl ?_)
    refine planE ?_
    refine wpAnyH_done (by kernel_rfl) ?_ _
    have HZ:=hide (HW.out.trans (HY7.out.mono HW.out.size))
    go_wp2
    go_roundw
    case rel=>exact ⟨j+1,by go_num,by omega,hide HN.out,hide HZ.out⟩
    case measure=>simp [intOf];omega
  ·
   obtain rfl:rm=j:=by omega
   obtain rfl:v=0:=by rw [←HE.out];exact regErr_end (by omega)
   go_wp2
   go_ret
   exact ⟨rfl,HB.out.trans (HWa.out.mono HB.out.size)⟩):P:=h
theorem ValBz1 {P:Prop} (h:P:=by
 have HB:=hide (two_below w [.string nm,.slice rA rn rc,.slice oA on oc,.slice (some ⟨g,q,none⟩) tm tc,.slice lA ln lc,.int .i64 ar,.slice bA bn bc] 28 [.int .i64 rk,.int .i64 op,.int .i64 rg,.bool mu,.int .i64 l,.slice pA pn pc,.slice gA gn gc] 71)
 have HX:=hide (H0.out.up HB.out)
 have HR:=hide (hr.up HB.out)
 have hty:=hide fun (w':World) (y:Below _ _ w')=>ty5 (HX.out.up y).one.typs ht
 clear h hr ht htt hgB hrn hno hil hok htu hte hmm hRL he hv
 exact ValBz6):P:=h
theorem ValBz3 {P:Prop} (h:P:=by
 have HC:=hide (RtypeOf_is HX.out HR.out.pl htv)
 clear htv
 go_enter Tryz.func141,Tryz.ntmps141
 go_wp2_with fail
 refine HC.out.mono ?_
 rintro e1 w1 ⟨rfl,hb1⟩
 have HW1:=hide hb1
 clear hb1
 obtain ⟨b1_0,b1_1,b1_2,b1_3,b1_4,b1_5,b1_6,r1_0,r1_1,r1_2,r1_3,r1_4,r1_5,r1_6⟩:=tw77 HW1.out
 obtain ⟨y0,y1,y2,y3,y4⟩:=hty.out _ HW1.out
 have HW2:=hide (HW1.out.trans (((Below.refl w1.heap.size w1).alloc (Nat.le_refl _) (.cells #[.int .i64 tk,.bool false,.int .i64 trg,.int .i64 tel,.slice fA fn fc] 65)).mono HW1.out.size))
 exact ValBz2):P:=h
theorem ValBz4 {P:Prop} (h:P:=by
 have HC:=hide (RtypeOf_is HX.out HR.out.pl htv)
 clear htv
 go_enter Tryz.func141,Tryz.ntmps141
 go_wp2_with fail
 refine HC.out.mono ?_
 rintro e1 w1 ⟨rfl,hb1⟩
 have HW1:=hide hb1
 clear hb1
 obtain ⟨b1_0,b1_1,b1_2,b1_3,b1_4,b1_5,b1_6,r1_0,r1_1,r1_2,r1_3,r1_4,r1_5,r1_6⟩:=tw77 HW1.out
 obtain ⟨y0,y1,y2,y3,y4⟩:=hty.out _ HW1.out
 have HW2:=hide (HW1.out.trans (((Below.refl w1.heap.size w1).alloc (Nat.le_refl _) (.cells #[.int .i64 tk,.bool true,.int .i64 trg,.int .i64 tel,.slice fA fn fc] 65)).mono HW1.out.size))
 exact ValBz2):P:=h
theorem ValBz5 {P:Prop} (h:P:=by
 have HC:=hide (RtypeOf_is HX.out HR.out.pl htv)
 clear htv
 go_enter Tryz.func141,Tryz.ntmps141
 go_wp2_with fail
 refine HC.out.mono ?_
 rintro e1 w1 ⟨rfl,hb1⟩
 have HW1:=hide hb1
 clear hb1
 obtain ⟨b1_0,b1_1,b1_2,b1_3,b1_4,b1_5,b1_6,r1_0,r1_1,r1_2,r1_3,r1_4,r1_5,r1_6⟩:=tw77 HW1.out
 obtain ⟨y0,y1,y2,y3,y4⟩:=hty.out _ HW1.out
 have HW2:=hide (HW1.out.trans (((Below.refl w1.heap.size w1).alloc (Nat.le_refl _) (.cells #[.int .i64 tk,.bool tmu,.int .i64 trg,.int .i64 tel,.slice fA fn fc] 65)).mono HW1.out.size))
 exact ValBz2):P:=h
theorem Rborrow_is {x:BdW} {r:RvW} {i:Nat} {ty:TyW} {v:Int} {w:World} (h:VB w x) (hr:OneRv w w.heap.size r) (ht:x.types.L[i]?=some ty) (hv:boErr (wE x) r.v (i:Int)=v) :
 Calls Tryz.prog 141 #[aggBd x,aggRv r,.int .i64 (i:Int)] w fun e w'=>e=.returned (.int .i64 v)∧Below w.heap.size w w':=by
 have htt:(tys x.types.L)[i]?=some ty.t:=by
  show (x.types.L.map TyW.t)[i]?=_
  rw [List.getElem?_map,ht]
  rfl
 have hrn:=h.one.regions.len
 have hrm:=h.one.regions.nm
 unfold maxLen at hrm
 have hno:=h.no65
 have htm:x.types.n≤65535:=h.nt65
 have hil:i < x.types.n:=by have h1:=(List.getElem?_eq_some_iff.1 ht).1;have h2:=h.one.types.len;omega
 have hok:=tyChk_iff.1 h.ok.ty
 obtain ⟨nm,⟨rA,rn,rc,rL⟩,⟨oA,on,oc,oL⟩,⟨tA,tm,tc,tL⟩,⟨lA,ln,lc,lL⟩,ar,⟨bA,bn,bc,bL⟩⟩:=x
 obtain ⟨rk,op,rg,mu,⟨l,pA,pn,pc,ps⟩,⟨gA,gn,gc,gL⟩⟩:=r
 have hrn:rL.length=rn:=hrn
 have hrm:rn≤2 ^ 63 - 1:=hrm
 have hil:i < tm:=hil
 have htm:tm≤65535:=htm
 have htt:(tys tL)[i]?=some ty.t:=htt
 obtain ⟨tu,htu⟩:∃ u,(tyV (wE ⟨nm,⟨rA,rn,rc,rL⟩,⟨oA,on,oc,oL⟩,⟨tA,tm,tc,tL⟩,⟨lA,ln,lc,lL⟩,ar,⟨bA,bn,bc,bL⟩⟩) (PlW.v ⟨l,pA,pn,pc,ps⟩)).1=u:=⟨_,rfl⟩
 obtain ⟨te,hte⟩:∃ u,(tyV (wE ⟨nm,⟨rA,rn,rc,rL⟩,⟨oA,on,oc,oL⟩,⟨tA,tm,tc,tL⟩,⟨lA,ln,lc,lL⟩,ar,⟨bA,bn,bc,bL⟩⟩) (PlW.v ⟨l,pA,pn,pc,ps⟩)).2=u:=⟨_,rfl⟩
 obtain ⟨mm,hmm⟩:∃ u,muV (wE ⟨nm,⟨rA,rn,rc,rL⟩,⟨oA,on,oc,oL⟩,⟨tA,tm,tc,tL⟩,⟨lA,ln,lc,lL⟩,ar,⟨bA,bn,bc,bL⟩⟩) (PlW.v ⟨l,pA,pn,pc,ps⟩)=u:=⟨_,rfl⟩
 obtain ⟨RL,hRL⟩:∃ z,regP (tys tL) (lcs lL) l ps=z:=⟨_,rfl⟩
 have htv:tyV (wE ⟨nm,⟨rA,rn,rc,rL⟩,⟨oA,on,oc,oL⟩,⟨tA,tm,tc,tL⟩,⟨lA,ln,lc,lL⟩,ar,⟨bA,bn,bc,bL⟩⟩) (PlW.v ⟨l,pA,pn,pc,ps⟩)=(tu,te):=Prod.ext htu hte
 have hv9:(if te≠0 then te else if rg < 0∨((rL.length:Nat):Int)≤rg then 3 else if ty.t.kind≠3∨ty.t.region≠rg∨ty.t.mut_≠mu∨ty.t.elem≠tu∨(mu=true∧mm=false) then 22 else regErr (out oL ((rL.length:Nat):Int)) rg RL)=v:=by
  rw [←hv,← htu,← hte,← hmm,regErr_all,← hRL]
  show _=(if (tyV (wE ⟨nm,⟨rA,rn,rc,rL⟩,⟨oA,on,oc,oL⟩,⟨tA,tm,tc,tL⟩,⟨lA,ln,lc,lL⟩,ar,⟨bA,bn,bc,bL⟩⟩) (PlW.v ⟨l,pA,pn,pc,ps⟩)).2≠0 then (tyV (wE ⟨nm,⟨rA,rn,rc,rL⟩,⟨oA,on,oc,oL⟩,⟨tA,tm,tc,tL⟩,⟨lA,ln,lc,lL⟩,ar,⟨bA,bn,bc,bL⟩⟩) (PlW.v ⟨l,pA,pn,pc,ps⟩)).2 else if rg < 0∨((rL.length:Nat):Int)≤rg then 3 else if (tyGet (tys tL) (i:Int)).kind≠3∨(tyGet (tys tL) (i:Int)).region≠rg∨(tyGet (tys tL) (i:Int)).mut_≠mu∨(tyGet (tys tL) (i:Int)).elem≠(tyV (wE ⟨nm,⟨rA,rn,rc,rL⟩,⟨oA,on,oc,oL⟩,⟨tA,tm,tc,tL⟩,⟨lA,ln,lc,lL⟩,ar,⟨bA,bn,bc,bL⟩⟩) (PlW.v ⟨l,pA,pn,pc,ps⟩)).1∨(mu=true∧muV (wE ⟨nm,⟨rA,rn,rc,rL⟩,⟨oA,on,oc,oL⟩,⟨tA,tm,tc,tL⟩,⟨lA,ln,lc,lL⟩,ar,⟨bA,bn,bc,bL⟩⟩) (PlW.v ⟨l,pA,pn,pc,ps⟩)=false) then 22 else if (regP (tys tL) (lcs lL) l ps).all (fun a=>out oL ((rL.length:Nat):Int) a rg) then 0 else 22)
  rw [tyGet_at htt]
 clear hv
 have hv:=hv9
 rw [hrn] at hv
 clear hv9
 obtain ⟨g,q,hg,hgB,_,_⟩:=h.one.typs.at_ ht
 have hg:tA=some ⟨g,q,none⟩:=hg
 subst hg
 obtain ⟨⟨tk,tmu,trg,tel,fs⟩,fA,fn,fc⟩:=ty
 have hv:(if te≠0 then te else if rg < 0∨(rn:Int)≤rg then 3 else if tk≠3∨trg≠rg∨tmu≠mu∨tel≠tu∨(mu=true∧mm=false) then 22 else regErr (out oL ((rn:Nat):Int)) rg RL)=v:=hv
 have H0:=hide h
 have HRL:=hide hRL
 have HOL:=hide hno
 by_cases he:te=0
 case neg=>
  have t0:(te != 0)=true:=by simp [he]
  rw [if_pos he] at hv
  obtain rfl:te=v:=hv
  have HB:=hide (two_below w [.string nm,.slice rA rn rc,.slice oA on oc,.slice (some ⟨g,q,none⟩) tm tc,.slice lA ln lc,.int .i64 ar,.slice bA bn bc] 28 [.int .i64 rk,.int .i64 op,.int .i64 rg,.bool mu,.int .i64 l,.slice pA pn pc,.slice gA gn gc] 71)
  have HX:=hide (H0.out.up HB.out)
  have HR:=hide (hr.up HB.out)
  have hty:=hide fun (w':World) (y:Below _ _ w')=>ty5 (HX.out.up y).one.typs ht
  clear h hr ht htt hgB hrn hno hil hok htu hte hmm hRL he
  exact ValBz6
 have t0:(te != 0)=false:=by simp [he]
 rw [if_neg (by omega)] at hv
 have hilI:(i:Int) < (tm:Int):=by omega
 have hi0:(0:Int)≤(i:Int):=by omega
 by_cases h1:rg < 0
 case pos=>
  obtain rfl:v=3:=by rw [←hv,if_pos (.inl h1)]
  exact ValBz1
 have h1n:0≤rg:=by omega
 by_cases h2:(rn:Int)≤rg
 case pos=>
  obtain rfl:v=3:=by rw [←hv,if_pos (.inr h2)]
  exact ValBz1
 have h2n:rg < (rn:Int):=by omega
 rw [if_neg (by omega)] at hv
 clear h1 h2
 by_cases h3:tk=3
 case neg=>
  have t3:(tk != 3)=true:=by simp [h3]
  obtain rfl:v=22:=by rw [←hv,if_pos (.inl h3)]
  have HB:=hide (two_below w [.string nm,.slice rA rn rc,.slice oA on oc,.slice (some ⟨g,q,none⟩) tm tc,.slice lA ln lc,.int .i64 ar,.slice bA bn bc] 28 [.int .i64 rk,.int .i64 op,.int .i64 rg,.bool mu,.int .i64 l,.slice pA pn pc,.slice gA gn gc] 71)
  have HX:=hide (H0.out.up HB.out)
  have HR:=hide (hr.up HB.out)
  have hty:=hide fun (w':World) (y:Below _ _ w')=>ty5 (HX.out.up y).one.typs ht
  clear h hr ht htt hgB hrn hno hil hok htu hte hmm hRL he hv h3
  exact ValBz5
 have t3:(tk != 3)=false:=by simp [h3]
 by_cases h4:trg=rg
 case neg=>
  have t4:(trg != rg)=true:=by simp [h4]
  obtain rfl:v=22:=by rw [←hv,if_pos (.inr (.inl h4))]
  have HB:=hide (two_below w [.string nm,.slice rA rn rc,.slice oA on oc,.slice (some ⟨g,q,none⟩) tm tc,.slice lA ln lc,.int .i64 ar,.slice bA bn bc] 28 [.int .i64 rk,.int .i64 op,.int .i64 rg,.bool mu,.int .i64 l,.slice pA pn pc,.slice gA gn gc] 71)
  have HX:=hide (H0.out.up HB.out)
  have HR:=hide (hr.up HB.out)
  have hty:=hide fun (w':World) (y:Below _ _ w')=>ty5 (HX.out.up y).one.typs ht
  clear h hr ht htt hgB hrn hno hil hok htu hte hmm hRL he hv h3 h4
  exact ValBz5
 have t4:(trg != rg)=false:=by simp [h4]
 by_cases h5:tmu=mu
 case neg=>
  obtain rfl:v=22:=by rw [←hv,if_pos (.inr (.inr (.inl h5)))]
  have hbb:(tmu=true∧mu=false)∨(tmu=false∧mu=true):=by cases tmu <;> cases mu <;> simp_all
  clear hv h5
  rcases hbb with ⟨rfl,rfl⟩ | ⟨rfl,rfl⟩
  ·
   have HB:=hide (two_below w [.string nm,.slice rA rn rc,.slice oA on oc,.slice (some ⟨g,q,none⟩) tm tc,.slice lA ln lc,.int .i64 ar,.slice bA bn bc] 28 [.int .i64 rk,.int .i64 op,.int .i64 rg,.bool false,.int .i64 l,.slice pA pn pc,.slice gA gn gc] 71)
   have HX:=hide (H0.out.up HB.out)
   have HR:=hide (hr.up HB.out)
   have hty:=hide fun (w':World) (y:Below _ _ w')=>ty5 (HX.out.up y).one.typs ht
   clear h hr ht htt hgB hrn hno hil hok htu hte hmm hRL he h3 h4
   exact ValBz4
  ·
   have HB:=hide (two_below w [.string nm,.slice rA rn rc,.slice oA on oc,.slice (some ⟨g,q,none⟩) tm tc,.slice lA ln lc,.int .i64 ar,.slice bA bn bc] 28 [.int .i64 rk,.int .i64 op,.int .i64 rg,.bool true,.int .i64 l,.slice pA pn pc,.slice gA gn gc] 71)
   have HX:=hide (H0.out.up HB.out)
   have HR:=hide (hr.up HB.out)
   have hty:=hide fun (w':World) (y:Below _ _ w')=>ty5 (HX.out.up y).one.typs ht
   clear h hr ht htt hgB hrn hno hil hok htu hte hmm hRL he h3 h4
   exact ValBz3
 obtain rfl:tmu=mu:=h5
 by_cases h6:tel=tu
 case neg=>
  have t6:(tel != tu)=true:=by simp [h6]
  obtain rfl:v=22:=by rw [←hv,if_pos (.inr (.inr (.inr (.inl h6))))]
  cases tmu
  ·
   have HB:=hide (two_below w [.string nm,.slice rA rn rc,.slice oA on oc,.slice (some ⟨g,q,none⟩) tm tc,.slice lA ln lc,.int .i64 ar,.slice bA bn bc] 28 [.int .i64 rk,.int .i64 op,.int .i64 rg,.bool false,.int .i64 l,.slice pA pn pc,.slice gA gn gc] 71)
   have HX:=hide (H0.out.up HB.out)
   have HR:=hide (hr.up HB.out)
   have hty:=hide fun (w':World) (y:Below _ _ w')=>ty5 (HX.out.up y).one.typs ht
   clear h hr ht htt hgB hrn hno hil hok htu hte hmm hRL he hv h3 h4 h6
   exact ValBz3
  ·
   have HB:=hide (two_below w [.string nm,.slice rA rn rc,.slice oA on oc,.slice (some ⟨g,q,none⟩) tm tc,.slice lA ln lc,.int .i64 ar,.slice bA bn bc] 28 [.int .i64 rk,.int .i64 op,.int .i64 rg,.bool true,.int .i64 l,.slice pA pn pc,.slice gA gn gc] 71)
   have HX:=hide (H0.out.up HB.out)
   have HR:=hide (hr.up HB.out)
   have hty:=hide fun (w':World) (y:Below _ _ w')=>ty5 (HX.out.up y).one.typs ht
   clear h hr ht htt hgB hrn hno hil hok htu hte hmm hRL he hv h3 h4 h6
   exact ValBz4
 have t6:(tel != tu)=false:=by simp [h6]
 cases tmu
 case false=>
  have HB:=hide (two_below w [.string nm,.slice rA rn rc,.slice oA on oc,.slice (some ⟨g,q,none⟩) tm tc,.slice lA ln lc,.int .i64 ar,.slice bA bn bc] 28 [.int .i64 rk,.int .i64 op,.int .i64 rg,.bool false,.int .i64 l,.slice pA pn pc,.slice gA gn gc] 71)
  have HX:=hide (H0.out.up HB.out)
  have HR:=hide (hr.up HB.out)
  have hcs:=hide fun (w':World) (y:Below (two w [.string nm,.slice rA rn rc,.slice oA on oc,.slice (some ⟨g,q,none⟩) tm tc,.slice lA ln lc,.int .i64 ar,.slice bA bn bc] 28 [.int .i64 rk,.int .i64 op,.int .i64 rg,.bool false,.int .i64 l,.slice pA pn pc,.slice gA gn gc] 71).heap.size (two w [.string nm,.slice rA rn rc,.slice oA on oc,.slice (some ⟨g,q,none⟩) tm tc,.slice lA ln lc,.int .i64 ar,.slice bA bn bc] 28 [.int .i64 rk,.int .i64 op,.int .i64 rg,.bool false,.int .i64 l,.slice pA pn pc,.slice gA gn gc] 71) w')=>two_cells (w:=w) (cs:=[.string nm,.slice rA rn rc,.slice oA on oc,.slice (some ⟨g,q,none⟩) tm tc,.slice lA ln lc,.int .i64 ar,.slice bA bn bc]) (T:=28) (ds:=[.int .i64 rk,.int .i64 op,.int .i64 rg,.bool false,.int .i64 l,.slice pA pn pc,.slice gA gn gc]) (U:=71) y
  have hty:=hide fun (w':World) (y:Below _ _ w')=>ty5 (HX.out.up y).one.typs ht
  have HC:=hide (RtypeOf_is HX.out HR.out.pl htv)
  have HRG:=hide fun (w':World) (y:Below (two w [.string nm,.slice rA rn rc,.slice oA on oc,.slice (some ⟨g,q,none⟩) tm tc,.slice lA ln lc,.int .i64 ar,.slice bA bn bc] 28 [.int .i64 rk,.int .i64 op,.int .i64 rg,.bool false,.int .i64 l,.slice pA pn pc,.slice gA gn gc] 71).heap.size (two w [.string nm,.slice rA rn rc,.slice oA on oc,.slice (some ⟨g,q,none⟩) tm tc,.slice lA ln lc,.int .i64 ar,.slice bA bn bc] 28 [.int .i64 rk,.int .i64 op,.int .i64 rg,.bool false,.int .i64 l,.slice pA pn pc,.slice gA gn gc] 71) w')=>(show Calls Tryz.prog 179 #[.slice (some ⟨g,q,none⟩) tm tc,.slice lA ln lc,.agg #[.int .i64 l,.slice pA pn pc]] w' (IntsOut w' RL) from HRL.out ▸ RRegionsP_any (ct:=tc) (cl:=lc) ((HX.out.up y).pl8 (HR.out.pl.up y)))
  rw [if_neg (by rintro (e | e | e | e | ⟨e,_⟩);exact e h3;exact e h4;exact e rfl;exact e h6;cases e)] at hv
  clear h hr ht htt hgB hrn hno hil hok htu hte hmm hRL htv he h3 h4 h6
  have HV:=hide hv
  clear hv
  go_enter Tryz.func141,Tryz.ntmps141
  go_wp2_with fail
  refine HC.out.mono ?_
  rintro e1 w1 ⟨rfl,hb1⟩
  have HW1:=hide hb1
  clear hb1
  obtain ⟨b1_0,b1_1,b1_2,b1_3,b1_4,b1_5,b1_6,r1_0,r1_1,r1_2,r1_3,r1_4,r1_5,r1_6⟩:=tw77 HW1.out
  obtain ⟨y0,y1,y2,y3,y4⟩:=hty.out _ HW1.out
  have HW2:=hide (HW1.out.trans (((Below.refl w1.heap.size w1).alloc (Nat.le_refl _) (.cells #[.int .i64 tk,.bool false,.int .i64 trg,.int .i64 tel,.slice fA fn fc] 65)).mono HW1.out.size))
  obtain ⟨b2_0,b2_1,b2_2,b2_3,b2_4,b2_5,b2_6,r2_0,r2_1,r2_2,r2_3,r2_4,r2_5,r2_6⟩:=tw77 HW2.out
  go_wp2_with fail
  refine (HRG.out _ HW2.out).mono ?_
  rintro e6 w6 ⟨RA,rm,rcap,rfl,hrm40,hrmc,hrcm,hrow,hb6⟩
  have HROW:=hide hrow
  clear hrow
  have HW6:=hide (HW2.out.trans (hb6.mono HW2.out.size))
  exact ValBz0
 case true=>
  have HB:=hide (two_below w [.string nm,.slice rA rn rc,.slice oA on oc,.slice (some ⟨g,q,none⟩) tm tc,.slice lA ln lc,.int .i64 ar,.slice bA bn bc] 28 [.int .i64 rk,.int .i64 op,.int .i64 rg,.bool true,.int .i64 l,.slice pA pn pc,.slice gA gn gc] 71)
  have HX:=hide (H0.out.up HB.out)
  have HR:=hide (hr.up HB.out)
  have hcs:=hide fun (w':World) (y:Below (two w [.string nm,.slice rA rn rc,.slice oA on oc,.slice (some ⟨g,q,none⟩) tm tc,.slice lA ln lc,.int .i64 ar,.slice bA bn bc] 28 [.int .i64 rk,.int .i64 op,.int .i64 rg,.bool true,.int .i64 l,.slice pA pn pc,.slice gA gn gc] 71).heap.size (two w [.string nm,.slice rA rn rc,.slice oA on oc,.slice (some ⟨g,q,none⟩) tm tc,.slice lA ln lc,.int .i64 ar,.slice bA bn bc] 28 [.int .i64 rk,.int .i64 op,.int .i64 rg,.bool true,.int .i64 l,.slice pA pn pc,.slice gA gn gc] 71) w')=>two_cells (w:=w) (cs:=[.string nm,.slice rA rn rc,.slice oA on oc,.slice (some ⟨g,q,none⟩) tm tc,.slice lA ln lc,.int .i64 ar,.slice bA bn bc]) (T:=28) (ds:=[.int .i64 rk,.int .i64 op,.int .i64 rg,.bool true,.int .i64 l,.slice pA pn pc,.slice gA gn gc]) (U:=71) y
  have hty:=hide fun (w':World) (y:Below _ _ w')=>ty5 (HX.out.up y).one.typs ht
  have HC:=hide (RtypeOf_is HX.out HR.out.pl htv)
  have HRG:=hide fun (w':World) (y:Below (two w [.string nm,.slice rA rn rc,.slice oA on oc,.slice (some ⟨g,q,none⟩) tm tc,.slice lA ln lc,.int .i64 ar,.slice bA bn bc] 28 [.int .i64 rk,.int .i64 op,.int .i64 rg,.bool true,.int .i64 l,.slice pA pn pc,.slice gA gn gc] 71).heap.size (two w [.string nm,.slice rA rn rc,.slice oA on oc,.slice (some ⟨g,q,none⟩) tm tc,.slice lA ln lc,.int .i64 ar,.slice bA bn bc] 28 [.int .i64 rk,.int .i64 op,.int .i64 rg,.bool true,.int .i64 l,.slice pA pn pc,.slice gA gn gc] 71) w')=>(show Calls Tryz.prog 179 #[.slice (some ⟨g,q,none⟩) tm tc,.slice lA ln lc,.agg #[.int .i64 l,.slice pA pn pc]] w' (IntsOut w' RL) from HRL.out ▸ RRegionsP_any (ct:=tc) (cl:=lc) ((HX.out.up y).pl8 (HR.out.pl.up y)))
  have HMU:=hide fun (w':World) (y:Below (two w [.string nm,.slice rA rn rc,.slice oA on oc,.slice (some ⟨g,q,none⟩) tm tc,.slice lA ln lc,.int .i64 ar,.slice bA bn bc] 28 [.int .i64 rk,.int .i64 op,.int .i64 rg,.bool true,.int .i64 l,.slice pA pn pc,.slice gA gn gc] 71).heap.size (two w [.string nm,.slice rA rn rc,.slice oA on oc,.slice (some ⟨g,q,none⟩) tm tc,.slice lA ln lc,.int .i64 ar,.slice bA bn bc] 28 [.int .i64 rk,.int .i64 op,.int .i64 rg,.bool true,.int .i64 l,.slice pA pn pc,.slice gA gn gc] 71) w')=>Rmutable_is (HX.out.up y) (HR.out.pl.up y) hmm
  cases mm
  case false=>
   obtain rfl:v=22:=by rw [←hv,if_pos (.inr (.inr (.inr (.inr ⟨rfl,rfl⟩))))]
   clear h hr ht htt hgB hrn hno hil hok htu hte hmm hRL htv he hv h3 h4 h6
   go_enter Tryz.func141,Tryz.ntmps141
   go_wp2_with fail
   refine HC.out.mono ?_
   rintro e1 w1 ⟨rfl,hb1⟩
   have HW1:=hide hb1
   clear hb1
   obtain ⟨b1_0,b1_1,b1_2,b1_3,b1_4,b1_5,b1_6,r1_0,r1_1,r1_2,r1_3,r1_4,r1_5,r1_6⟩:=tw77 HW1.out
   obtain ⟨y0,y1,y2,y3,y4⟩:=hty.out _ HW1.out
   have HW2:=hide (HW1.out.trans (((Below.refl w1.heap.size w1).alloc (Nat.le_refl _) (.cells #[.int .i64 tk,.bool true,.int .i64 trg,.int .i64 tel,.slice fA fn fc] 65)).mono HW1.out.size))
   obtain ⟨b2_0,b2_1,b2_2,b2_3,b2_4,b2_5,b2_6,r2_0,r2_1,r2_2,r2_3,r2_4,r2_5,r2_6⟩:=tw77 HW2.out
   go_wp2_with fail
   refine (HMU.out _ HW2.out).mono ?_
   rintro e5 w5 ⟨rfl,hb5⟩
   have HW5:=hide (HW2.out.trans (hb5.mono HW2.out.size))
   clear hb5
   go_wp2
   go_ret
   exact ⟨rfl,HB.out.trans (HW5.out.mono HB.out.size)⟩
  case true=>
   rw [if_neg (by rintro (e | e | e | e | ⟨_,e⟩);exact e h3;exact e h4;exact e rfl;exact e h6;cases e)] at hv
   clear h hr ht htt hgB hrn hno hil hok htu hte hmm hRL htv he h3 h4 h6
   have HV:=hide hv
   clear hv
   go_enter Tryz.func141,Tryz.ntmps141
   go_wp2_with fail
   refine HC.out.mono ?_
   rintro e1 w1 ⟨rfl,hb1⟩
   have HW1:=hide hb1
   clear hb1
   obtain ⟨b1_0,b1_1,b1_2,b1_3,b1_4,b1_5,b1_6,r1_0,r1_1,r1_2,r1_3,r1_4,r1_5,r1_6⟩:=tw77 HW1.out
   obtain ⟨y0,y1,y2,y3,y4⟩:=hty.out _ HW1.out
   have HW2:=hide (HW1.out.trans (((Below.refl w1.heap.size w1).alloc (Nat.le_refl _) (.cells #[.int .i64 tk,.bool true,.int .i64 trg,.int .i64 tel,.slice fA fn fc] 65)).mono HW1.out.size))
   obtain ⟨b2_0,b2_1,b2_2,b2_3,b2_4,b2_5,b2_6,r2_0,r2_1,r2_2,r2_3,r2_4,r2_5,r2_6⟩:=tw77 HW2.out
   go_wp2_with fail
   refine (HMU.out _ HW2.out).mono ?_
   rintro e5 w5 ⟨rfl,hb5⟩
   have HW5:=hide (HW2.out.trans (hb5.mono HW2.out.size))
   clear hb5
   obtain ⟨b5_0,b5_1,b5_2,b5_3,b5_4,b5_5,b5_6,r5_0,r5_1,r5_2,r5_3,r5_4,r5_5,r5_6⟩:=tw77 HW5.out
   go_wp2_with fail
   refine (HRG.out _ HW5.out).mono ?_
   rintro e6 w6 ⟨RA,rm,rcap,rfl,hrm40,hrmc,hrcm,hrow,hb6⟩
   have HROW:=hide hrow
   clear hrow
   have HW6:=hide (HW5.out.trans (hb6.mono HW5.out.size))
   exact ValBz0
theorem Rblank_is {x:RvW} {v:Bool} (h:noR x.v=v) (w:World) (hx:OneRv w w.heap.size x) :
 Calls Tryz.prog 101 #[aggRv x] w fun e w'=>e=.returned (.bool v)∧Below w.heap.size w w':=h ▸ Rblank_any x w hx
theorem Rshape_is {x:RvW} {v:Int} (h:shErr x.v=v) (w:World) (hx:OneRv w w.heap.size x) :
 Calls Tryz.prog 140 #[aggRv x] w fun e w'=>e=.returned (.int .i64 v)∧Below w.heap.size w w':=h ▸ Rshape_any x w hx
theorem ValSz4 {P:Prop} (h:P:=by
 rintro e2 w2 ⟨rfl,hb2⟩
 have HW2:=hide (HW1.out.trans (hb2.mono HW1.out.size))
 clear hb2
 obtain ⟨b2_0,b2_1,b2_2,b2_3,b2_4,b2_5,b2_6,r2_0,r2_1,r2_2,r2_3,r2_4,r2_5,r2_6,r2_7,r2_8,r2_9,r2_10⟩:=tw711 HW2.out
 go_wp2
 go_ret
 exact ⟨rfl,HB.out.trans (HW2.out.mono HB.out.size)⟩):P:=h
def RAsg:Prop:=∀ (x:BdW) (r:RvW) (i:Nat) (ty:TyW) (v:Int) (w:World),VB w x→OneRv w w.heap.size r→x.types.L[i]?=some ty→asErr (wE x) r.v (i:Int)=v →
 Calls Tryz.prog 99 #[aggBd x,aggRv r,.int .i64 (i:Int)] w fun e w'=>e=.returned (.int .i64 v)∧Below w.heap.size w w'
theorem ValSz2 {P:Prop} (h:P:=by
 go_enter Tryz.func61,Tryz.ntmps61
 go_wp2_with fail
 refine (Rnone_is (x:=⟨l,pA,pn,pc,ps⟩) hz _ HR.out.pl).mono ?_
 rintro e1 w1 ⟨rfl,hb1⟩
 have HW1:=hide hb1
 clear hb1
 obtain ⟨b1_0,b1_1,b1_2,b1_3,b1_4,b1_5,b1_6,r1_0,r1_1,r1_2,r1_3,r1_4,r1_5,r1_6,r1_7,r1_8,r1_9,r1_10⟩:=tw711 HW1.out
 go_wp2_with fail
 refine (Rblank_is (x:=⟨rk,op,rg,mu,⟨rl,qA,qn,qc,qs⟩,⟨gA,gn,gc,gL⟩⟩) HRB.out _ (HR.out.rv.up HW1.out)).mono ?_
 exact ValSz4):P:=h
theorem ValSz3 {P:Prop} (h:P:=by
 rintro e1 w1 ⟨rfl,hb1⟩
 have HW1:=hide hb1
 clear hb1
 obtain ⟨b1_0,b1_1,b1_2,b1_3,b1_4,b1_5,b1_6,r1_0,r1_1,r1_2,r1_3,r1_4,r1_5,r1_6,r1_7,r1_8,r1_9,r1_10⟩:=tw711 HW1.out
 go_wp2
 go_ret
 exact ⟨rfl,HB.out.trans (HW1.out.mono HB.out.size)⟩):P:=h
theorem ValSz0 {P:Prop} (h:P:=by
 have HB:=hide (two_below w [.string nm,.slice rA rn rc,.slice oA on oc,.slice tA tm tc,.slice lA ln lc,.int .i64 ar,.slice bA bn bc] 28 [.int .i64 (1),.int .i64 l,.slice pA pn pc,.int .i64 rk,.int .i64 op,.int .i64 rg,.bool mu,.int .i64 rl,.slice qA qn qc,.slice gA gn gc,.int .i64 lo] 73)
 have HR:=hide (HS.out.up HB.out)
 exact ValSz2):P:=h
theorem ValSz1 {P:Prop} (h:P:=by
 have HB:=hide (two_below w [.string nm,.slice rA rn rc,.slice oA on oc,.slice tA tm tc,.slice lA ln lc,.int .i64 ar,.slice bA bn bc] 28 [.int .i64 (2),.int .i64 l,.slice pA pn pc,.int .i64 rk,.int .i64 op,.int .i64 rg,.bool mu,.int .i64 rl,.slice qA qn qc,.slice gA gn gc,.int .i64 lo] 73)
 have HR:=hide (HS.out.up HB.out)
 exact ValSz2):P:=h
theorem ValSz5 {P:Prop} (h:P:=by
 go_enter Tryz.func61,Tryz.ntmps61
 go_wp2_with fail
 refine (Rnone_is (x:=⟨l,pA,pn,pc,ps⟩) hz _ HR.out.pl).mono ?_
 exact ValSz3):P:=h
theorem RStmt_of (hA:RAsg) {x:BdW} {s:StW} {v:Int} {w:World} (h:VB w x) (hs:OneSt w w.heap.size s) (hv:stErr (wE x) s.v=v) :
 Calls Tryz.prog 61 #[aggBd x,aggSt s] w fun e w'=>e=.returned (.int .i64 v)∧Below w.heap.size w w':=by
 have hll:=h.one.locals.len
 have hlm:=h.one.locals.nm
 unfold maxLen at hlm
 obtain ⟨nm,⟨rA,rn,rc,rL⟩,⟨oA,on,oc,oL⟩,⟨tA,tm,tc,tL⟩,⟨lA,ln,lc,lL⟩,ar,⟨bA,bn,bc,bL⟩⟩:=x
 obtain ⟨k,⟨l,pA,pn,pc,ps⟩,⟨rk,op,rg,mu,⟨rl,qA,qn,qc,qs⟩,⟨gA,gn,gc,gL⟩⟩,lo⟩:=s
 have hll:lL.length=ln:=hll
 have hlm:ln≤2 ^ 63 - 1:=hlm
 have hE:(wE ⟨nm,⟨rA,rn,rc,rL⟩,⟨oA,on,oc,oL⟩,⟨tA,tm,tc,tL⟩,⟨lA,ln,lc,lL⟩,ar,⟨bA,bn,bc,bL⟩⟩).lc.length=ln:=by rw [←hll];exact List.length_map _
 have H0:=hide h
 have HS:=hide hs
 have HA:=hide hA
 by_cases h0:k=0
 case pos=>
  subst h0
  by_cases hlo:lo=0
  case neg=>
   have tl:(lo != 0)=true:=by simp [hlo]
   obtain rfl:v=2:=by
    rw [←hv]
    simp [stErr,StW.v,hlo]
   clear h hs hll hE hA hlo hv
   have HB:=hide (two_below w [.string nm,.slice rA rn rc,.slice oA on oc,.slice tA tm tc,.slice lA ln lc,.int .i64 ar,.slice bA bn bc] 28 [.int .i64 (0),.int .i64 l,.slice pA pn pc,.int .i64 rk,.int .i64 op,.int .i64 rg,.bool mu,.int .i64 rl,.slice qA qn qc,.slice gA gn gc,.int .i64 lo] 73)
   go_enter Tryz.func61,Tryz.ntmps61
   go_wp2
   go_ret
   exact ⟨rfl,HB.out⟩
  have tl:(lo != 0)=false:=by simp [hlo]
  obtain ⟨tu,htu⟩:∃ u,(tyV (wE ⟨nm,⟨rA,rn,rc,rL⟩,⟨oA,on,oc,oL⟩,⟨tA,tm,tc,tL⟩,⟨lA,ln,lc,lL⟩,ar,⟨bA,bn,bc,bL⟩⟩) (PlW.v ⟨l,pA,pn,pc,ps⟩)).1=u:=⟨_,rfl⟩
  obtain ⟨te,hte⟩:∃ u,(tyV (wE ⟨nm,⟨rA,rn,rc,rL⟩,⟨oA,on,oc,oL⟩,⟨tA,tm,tc,tL⟩,⟨lA,ln,lc,lL⟩,ar,⟨bA,bn,bc,bL⟩⟩) (PlW.v ⟨l,pA,pn,pc,ps⟩)).2=u:=⟨_,rfl⟩
  obtain ⟨mm,hmm⟩:∃ u,muV (wE ⟨nm,⟨rA,rn,rc,rL⟩,⟨oA,on,oc,oL⟩,⟨tA,tm,tc,tL⟩,⟨lA,ln,lc,lL⟩,ar,⟨bA,bn,bc,bL⟩⟩) (PlW.v ⟨l,pA,pn,pc,ps⟩)=u:=⟨_,rfl⟩
  have htv:tyV (wE ⟨nm,⟨rA,rn,rc,rL⟩,⟨oA,on,oc,oL⟩,⟨tA,tm,tc,tL⟩,⟨lA,ln,lc,lL⟩,ar,⟨bA,bn,bc,bL⟩⟩) (PlW.v ⟨l,pA,pn,pc,ps⟩)=(tu,te):=Prod.ext htu hte
  have hv9:(if te≠0 then te else if mm=false then 22 else asErr (wE ⟨nm,⟨rA,rn,rc,rL⟩,⟨oA,on,oc,oL⟩,⟨tA,tm,tc,tL⟩,⟨lA,ln,lc,lL⟩,ar,⟨bA,bn,bc,bL⟩⟩) (RvW.v ⟨rk,op,rg,mu,⟨rl,qA,qn,qc,qs⟩,⟨gA,gn,gc,gL⟩⟩) tu)=v:=by rw [←hv,← htu,← hte,← hmm,stErr_asg (s:=StW.v ⟨0,⟨l,pA,pn,pc,ps⟩,⟨rk,op,rg,mu,⟨rl,qA,qn,qc,qs⟩,⟨gA,gn,gc,gL⟩⟩,lo⟩) rfl hlo];rfl
  clear hv
  have hv:=hv9
  clear hv9
  by_cases he:te=0
  case neg=>
   have t0:(te != 0)=true:=by simp [he]
   rw [if_pos he] at hv
   obtain rfl:te=v:=hv
   clear h hs hll hE hA hlo htu hte hmm he
   have HB:=hide (two_below w [.string nm,.slice rA rn rc,.slice oA on oc,.slice tA tm tc,.slice lA ln lc,.int .i64 ar,.slice bA bn bc] 28 [.int .i64 (0),.int .i64 l,.slice pA pn pc,.int .i64 rk,.int .i64 op,.int .i64 rg,.bool mu,.int .i64 rl,.slice qA qn qc,.slice gA gn gc,.int .i64 lo] 73)
   have HX:=hide (H0.out.up HB.out)
   have HR:=hide (HS.out.up HB.out)
   have HC:=hide (RtypeOf_is HX.out HR.out.pl htv)
   clear htv
   go_enter Tryz.func61,Tryz.ntmps61
   go_wp2_with fail
   refine (HC.out).mono ?_
   exact ValSz3
  have t0:(te != 0)=false:=by simp [he]
  rw [if_neg (by omega)] at hv
  obtain ⟨i,ty,hi,hty⟩:=h.ty (p:=PlW.v ⟨l,pA,pn,pc,ps⟩) (hte.trans he)
  obtain rfl:tu=(i:Int):=htu.symm.trans hi
  have HB:=hide (two_below w [.string nm,.slice rA rn rc,.slice oA on oc,.slice tA tm tc,.slice lA ln lc,.int .i64 ar,.slice bA bn bc] 28 [.int .i64 (0),.int .i64 l,.slice pA pn pc,.int .i64 rk,.int .i64 op,.int .i64 rg,.bool mu,.int .i64 rl,.slice qA qn qc,.slice gA gn gc,.int .i64 lo] 73)
  have HX:=hide (H0.out.up HB.out)
  have HR:=hide (HS.out.up HB.out)
  have HC:=hide (RtypeOf_is HX.out HR.out.pl htv)
  have HM:=hide fun (w':World) (y:Below (two w [.string nm,.slice rA rn rc,.slice oA on oc,.slice tA tm tc,.slice lA ln lc,.int .i64 ar,.slice bA bn bc] 28 [.int .i64 (0),.int .i64 l,.slice pA pn pc,.int .i64 rk,.int .i64 op,.int .i64 rg,.bool mu,.int .i64 rl,.slice qA qn qc,.slice gA gn gc,.int .i64 lo] 73).heap.size (two w [.string nm,.slice rA rn rc,.slice oA on oc,.slice tA tm tc,.slice lA ln lc,.int .i64 ar,.slice bA bn bc] 28 [.int .i64 (0),.int .i64 l,.slice pA pn pc,.int .i64 rk,.int .i64 op,.int .i64 rg,.bool mu,.int .i64 rl,.slice qA qn qc,.slice gA gn gc,.int .i64 lo] 73) w')=>Rmutable_is (HX.out.up y) (HR.out.pl.up y) hmm
  cases mm
  case false=>
   obtain rfl:v=22:=by rw [←hv];rfl
   clear h hs hll hE hA hlo htu hte hmm htv he hv hi hty
   go_enter Tryz.func61,Tryz.ntmps61
   go_wp2_with fail
   refine (HC.out).mono ?_
   rintro e1 w1 ⟨rfl,hb1⟩
   have HW1:=hide hb1
   clear hb1
   obtain ⟨b1_0,b1_1,b1_2,b1_3,b1_4,b1_5,b1_6,r1_0,r1_1,r1_2,r1_3,r1_4,r1_5,r1_6,r1_7,r1_8,r1_9,r1_10⟩:=tw711 HW1.out
   go_wp2_with fail
   refine (HM.out _ HW1.out).mono ?_
   exact ValSz4
  case true=>
   clear h hs hll hE hA hlo htu hte hmm htv he hi
   have hv2:asErr (wE ⟨nm,⟨rA,rn,rc,rL⟩,⟨oA,on,oc,oL⟩,⟨tA,tm,tc,tL⟩,⟨lA,ln,lc,lL⟩,ar,⟨bA,bn,bc,bL⟩⟩) (RvW.v ⟨rk,op,rg,mu,⟨rl,qA,qn,qc,qs⟩,⟨gA,gn,gc,gL⟩⟩) (i:Int)=v:=hv
   clear hv
   have HQ:=hide fun (w':World) (y:Below (two w [.string nm,.slice rA rn rc,.slice oA on oc,.slice tA tm tc,.slice lA ln lc,.int .i64 ar,.slice bA bn bc] 28 [.int .i64 (0),.int .i64 l,.slice pA pn pc,.int .i64 rk,.int .i64 op,.int .i64 rg,.bool mu,.int .i64 rl,.slice qA qn qc,.slice gA gn gc,.int .i64 lo] 73).heap.size (two w [.string nm,.slice rA rn rc,.slice oA on oc,.slice tA tm tc,.slice lA ln lc,.int .i64 ar,.slice bA bn bc] 28 [.int .i64 (0),.int .i64 l,.slice pA pn pc,.int .i64 rk,.int .i64 op,.int .i64 rg,.bool mu,.int .i64 rl,.slice qA qn qc,.slice gA gn gc,.int .i64 lo] 73) w')=>HA.out _ _ _ _ _ _ (HX.out.up y) (HR.out.rv.up y) hty hv2
   clear hty hv2
   go_enter Tryz.func61,Tryz.ntmps61
   go_wp2_with fail
   refine (HC.out).mono ?_
   rintro e1 w1 ⟨rfl,hb1⟩
   have HW1:=hide hb1
   clear hb1
   obtain ⟨b1_0,b1_1,b1_2,b1_3,b1_4,b1_5,b1_6,r1_0,r1_1,r1_2,r1_3,r1_4,r1_5,r1_6,r1_7,r1_8,r1_9,r1_10⟩:=tw711 HW1.out
   go_wp2_with fail
   refine (HM.out _ HW1.out).mono ?_
   rintro e2 w2 ⟨rfl,hb2⟩
   have HW2:=hide (HW1.out.trans (hb2.mono HW1.out.size))
   clear hb2
   obtain ⟨b2_0,b2_1,b2_2,b2_3,b2_4,b2_5,b2_6,r2_0,r2_1,r2_2,r2_3,r2_4,r2_5,r2_6,r2_7,r2_8,r2_9,r2_10⟩:=tw711 HW2.out
   go_wp2_with fail
   refine (HQ.out _ HW2.out).mono ?_
   rintro e3 w3 ⟨rfl,hb3⟩
   have HW3:=hide (HW2.out.trans (hb3.mono HW2.out.size))
   clear hb3
   obtain ⟨b3_0,b3_1,b3_2,b3_3,b3_4,b3_5,b3_6,r3_0,r3_1,r3_2,r3_3,r3_4,r3_5,r3_6,r3_7,r3_8,r3_9,r3_10⟩:=tw711 HW3.out
   go_wp2
   go_ret
   exact ⟨rfl,HB.out.trans (HW3.out.mono HB.out.size)⟩
 have t0:(k == 0)=false:=by simp [h0]
 by_cases h1:k=1
 case pos=>
  subst h1
  by_cases hz:noP (PlW.v ⟨l,pA,pn,pc,ps⟩)=true
  case neg=>
   have hz:noP (PlW.v ⟨l,pA,pn,pc,ps⟩)=false:=by simpa using hz
   obtain rfl:v=2:=by
    rw [←hv]
    simp [stErr,StW.v,hz]
   clear h hs hll hE hA hv
   have HB:=hide (two_below w [.string nm,.slice rA rn rc,.slice oA on oc,.slice tA tm tc,.slice lA ln lc,.int .i64 ar,.slice bA bn bc] 28 [.int .i64 (1),.int .i64 l,.slice pA pn pc,.int .i64 rk,.int .i64 op,.int .i64 rg,.bool mu,.int .i64 rl,.slice qA qn qc,.slice gA gn gc,.int .i64 lo] 73)
   have HR:=hide (HS.out.up HB.out)
   exact ValSz5
  obtain ⟨nr,hr⟩:∃ u,noR (RvW.v ⟨rk,op,rg,mu,⟨rl,qA,qn,qc,qs⟩,⟨gA,gn,gc,gL⟩⟩)=u:=⟨_,rfl⟩
  have hrb:=hr
  have HRB:=hide hrb
  clear hrb
  cases nr
  case false=>
   obtain rfl:v=2:=by
    rw [←hv]
    simp [stErr,StW.v,hz,hr]
   clear h hs hll hE hA hr hv
   exact ValSz0
  case true=>
   have hv9:(if lo < 0∨(ln:Int)≤lo then (3:Int) else 0)=v:=by rw [←hv,← hE];show _=(if noP (PlW.v ⟨l,pA,pn,pc,ps⟩)=false∨noR (RvW.v ⟨rk,op,rg,mu,⟨rl,qA,qn,qc,qs⟩,⟨gA,gn,gc,gL⟩⟩)=false then (2:Int) else if lo < 0∨((wE ⟨nm,⟨rA,rn,rc,rL⟩,⟨oA,on,oc,oL⟩,⟨tA,tm,tc,tL⟩,⟨lA,ln,lc,lL⟩,ar,⟨bA,bn,bc,bL⟩⟩).lc.length:Int)≤lo then 3 else 0);exact (if_neg (by rw [hz,hr];simp)).symm
   clear hv
   by_cases q1:lo < 0
   case pos=>
    obtain rfl:v=3:=by rw [←hv9,if_pos (.inl q1)]
    clear h hs hll hE hA hr hv9
    exact ValSz0
   have q1n:0≤lo:=by omega
   by_cases q2:(ln:Int)≤lo
   case pos=>
    obtain rfl:v=3:=by rw [←hv9,if_pos (.inr q2)]
    clear h hs hll hE hA hr hv9
    exact ValSz0
   have q2n:lo < (ln:Int):=by omega
   obtain rfl:v=0:=by rw [←hv9,if_neg (by omega)]
   clear h hs hll hE hA hr hv9 q1 q2
   exact ValSz0
 have t1:(k == 1)=false:=by simp [h1]
 by_cases h2:k=2
 case pos=>
  subst h2
  by_cases hz:noP (PlW.v ⟨l,pA,pn,pc,ps⟩)=true
  case neg=>
   have hz:noP (PlW.v ⟨l,pA,pn,pc,ps⟩)=false:=by simpa using hz
   obtain rfl:v=2:=by
    rw [←hv]
    simp [stErr,StW.v,hz]
   clear h hs hll hE hA hv
   have HB:=hide (two_below w [.string nm,.slice rA rn rc,.slice oA on oc,.slice tA tm tc,.slice lA ln lc,.int .i64 ar,.slice bA bn bc] 28 [.int .i64 (2),.int .i64 l,.slice pA pn pc,.int .i64 rk,.int .i64 op,.int .i64 rg,.bool mu,.int .i64 rl,.slice qA qn qc,.slice gA gn gc,.int .i64 lo] 73)
   have HR:=hide (HS.out.up HB.out)
   exact ValSz5
  obtain ⟨nr,hr⟩:∃ u,noR (RvW.v ⟨rk,op,rg,mu,⟨rl,qA,qn,qc,qs⟩,⟨gA,gn,gc,gL⟩⟩)=u:=⟨_,rfl⟩
  have hrb:=hr
  have HRB:=hide hrb
  clear hrb
  cases nr
  case false=>
   obtain rfl:v=2:=by
    rw [←hv]
    simp [stErr,StW.v,hz,hr]
   clear h hs hll hE hA hr hv
   exact ValSz1
  case true=>
   by_cases q1:lo=0
   case neg=>
    have tl:(lo != 0)=true:=by simp [q1]
    obtain rfl:v=2:=by
     rw [←hv]
     simp [stErr,StW.v,hz,hr,q1]
    clear h hs hll hE hA hr q1 hv
    exact ValSz1
   have tl:(lo != 0)=false:=by simp [q1]
   obtain rfl:v=0:=by
    rw [←hv]
    simp [stErr,StW.v,hz,hr,q1]
   clear h hs hll hE hA hr q1 hv
   exact ValSz1
 have t2:(k == 2)=false:=by simp [h2]
 obtain rfl:v=14:=by
  rw [←hv]
  simp [stErr,StW.v,h0,h1,h2]
 clear h hs hll hE hA h0 h1 h2 hv
 have HB:=hide (two_below w [.string nm,.slice rA rn rc,.slice oA on oc,.slice tA tm tc,.slice lA ln lc,.int .i64 ar,.slice bA bn bc] 28 [.int .i64 k,.int .i64 l,.slice pA pn pc,.int .i64 rk,.int .i64 op,.int .i64 rg,.bool mu,.int .i64 rl,.slice qA qn qc,.slice gA gn gc,.int .i64 lo] 73)
 go_enter Tryz.func61,Tryz.ntmps61
 go_wp2
 go_ret
 exact ⟨rfl,HB.out⟩
end Go.Proofs.YteeemjmohjkdpaaGreatDoor
