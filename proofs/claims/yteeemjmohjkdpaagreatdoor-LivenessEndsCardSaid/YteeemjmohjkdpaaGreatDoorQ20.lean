/- Part 21 of the contracts and their mathematics. -/
import Derived.Test.YteeemjmohjkdpaaGreatDoorQ19
set_option linter.unusedVariables false
set_option linter.unusedSimpArgs false
set_option maxRecDepth 100000
set_option maxHeartbeats 16000000
namespace Go.Proofs.YteeemjmohjkdpaaGreatDoor
open Go.RowKit
theorem asErr_rng {E:Env} {r:RvV} {t:Int} (hs:shErr r=0) (h1:¬r.kind=1) (hr:(r.kind=2∧(r.op < 0∨1 < r.op))∨(r.kind=3∧(r.op < 0∨5 < r.op))):asErr E r t=14:=by
 unfold asErr
 rw [if_neg (show ¬shErr r≠0 by omega),if_neg h1,if_pos hr]
theorem asErr_op2 {E:Env} {r:RvV} {t:Int} (hk:r.kind=2∨r.kind=3) (hs:shErr r=0) (hr:¬((r.kind=2∧(r.op < 0∨1 < r.op))∨(r.kind=3∧(r.op < 0∨5 < r.op)))) :
 asErr E r t=if opsErr E r.args≠0 then opsErr E r.args else if r.args.all (fun o=>fitK E o (opFrom r))∧(tyGet E.T t).kind=opTo r then 0 else 22:=by
 unfold asErr
 rw [if_neg (show ¬shErr r≠0 by omega),if_neg (show ¬r.kind=1 by omega),if_neg hr,if_neg (show ¬r.kind=4 by omega),if_neg (show ¬r.kind=0 by omega)]
theorem asErr_use2 {E:Env} {r:RvV} {t:Int} (hk:r.kind=0) (hs:shErr r=0) :
 asErr E r t=if opsErr E r.args≠0 then opsErr E r.args else if r.args.all (fun o=>fitT E o t) then 0 else 22:=by
 unfold asErr
 rw [if_neg (show ¬shErr r≠0 by omega),if_neg (show ¬r.kind=1 by omega),if_neg (show ¬((r.kind=2∧(r.op < 0∨1 < r.op))∨(r.kind=3∧(r.op < 0∨5 < r.op))) by omega),if_neg (show ¬r.kind=4 by omega),if_pos hk]
theorem ValAz3 {P:Prop} (h:P:=by
 obtain ⟨u,y,rfl,_,hu⟩:=hok.elem htt (p:=f) (by rw [tyParts_tup h4];exact List.mem_of_getElem? hq)
 obtain ⟨z,hz,_⟩:=tys_back hu
 exact ⟨u,z,rfl,hz⟩):P:=h
theorem ValAz4 {P:Prop} (h:P:=by
 show (x.types.L.map TyW.t)[i]?=_
 rw [List.getElem?_map,ht]
 rfl):P:=h
theorem Rasg_sh {x:BdW} {r:RvW} {i:Nat} {ty:TyW} {v:Int} {w:World} (h:VB w x) (hr:OneRv w w.heap.size r) (ht:x.types.L[i]?=some ty) (hs0:shErr r.v≠0) (hv:asErr (wE x) r.v (i:Int)=v) :
 Calls Tryz.prog 99 #[aggBd x,aggRv r,.int .i64 (i:Int)] w fun e w'=>e=.returned (.int .i64 v)∧Below w.heap.size w w':=by
 have htt:(tys x.types.L)[i]?=some ty.t:=by
  exact ValAz4
 have hil:i < x.types.n:=by have h1:=(List.getElem?_eq_some_iff.1 ht).1;have h2:=h.one.types.len;omega
 have hok:=tyChk_iff.1 h.ok.ty
 have hto:OneT w w.heap.size ty:=h.one.types.all ty (List.mem_of_getElem? ht)
 have htm:x.types.n≤65535:=h.nt65
 obtain ⟨E,hE⟩:∃ u,wE x=u:=⟨_,rfl⟩
 have hET:tyGet E.T (i:Int)=ty.t:=by rw [←hE];exact tyGet_at htt
 rw [hE] at hv
 have HEE:=hide hE
 have hgn0:r.args.L.length=r.args.n:=hr.args.len
 have hgm0:=hr.args.nm
 unfold maxLen at hgm0
 have H0:=hide h
 have HRV:=hide hr
 have hEl:∀ (q:Nat) (f:Int),ty.t.kind=4→ty.t.fields[q]?=some f→∃ (u:Nat) (y:TyW),f=(u:Int)∧x.types.L[u]?=some y:=fun q f h4 hq=>by
  exact ValAz3
 obtain ⟨g,q,hg,_⟩:=h.one.typs.at_ ht
 obtain ⟨nm,⟨rA,rn,rc,rL⟩,⟨oA,on,oc,oL⟩,⟨tA,tm,tc,tL⟩,⟨lA,ln,lc,lL⟩,ar,⟨bA,bn,bc,bL⟩⟩:=x
 obtain ⟨k,op,rg,mu,⟨l,pA,pn,pc,ps⟩,⟨gA,gn,gc,gL⟩⟩:=r
 have hg:tA=some ⟨g,q,none⟩:=hg
 subst hg
 obtain ⟨⟨tk,tmu,trg,tel,fs⟩,fA,fn,fc⟩:=ty
 have hfn:fs.length=fn:=by have:=hto.rd.1;rw [List.length_map] at this;exact this
 have hfm:fn≤maxLen:=Nat.le_trans hto.ok.nc hto.ok.cm
 unfold maxLen at hfm
 have hil:i < tm:=hil
 have hgn:gL.length=gn:=hgn0
 clear hgn0
 have hgm:gn≤2 ^ 63 - 1:=hgm0
 clear hgm0
 have htm:tm≤65535:=htm
 have hilI:(i:Int) < (tm:Int):=by omega
 have hi0:(0:Int)≤(i:Int):=by omega
 clear h hr htt hil hok hto hE htm
 have HTY:=hide ht
 clear ht
 obtain ⟨sh,hsh⟩:∃ u,shErr (RvW.v ⟨k,op,rg,mu,⟨l,pA,pn,pc,ps⟩,⟨gA,gn,gc,gL⟩⟩)=u:=⟨_,rfl⟩
 have hs0:sh≠0:=by rw [←hsh];exact hs0
 have t0:(sh != 0)=true:=by simp [hs0]
 obtain rfl:sh=v:=by rw [←hv];unfold asErr;rw [hsh,if_pos hs0]
 obtain ⟨WW,hWW,hB9,_,hcx9⟩:=boxes77 w (.string nm) (.slice rA rn rc) (.slice oA on oc) (.slice (some ⟨g,q,none⟩) tm tc) (.slice lA ln lc) (.int .i64 ar) (.slice bA bn bc) (.int .i64 k) (.int .i64 op) (.int .i64 rg) (.bool mu) (.int .i64 l) (.slice pA pn pc) (.slice gA gn gc) 28 71
 have HWW:=hide hWW
 clear hWW
 have HB:=hide hB9
 clear hB9
 have hcx:=hide hcx9
 clear hcx9
 have HX:=hide (H0.out.up HB.out)
 have HR:=hide (HRV.out.up HB.out)
 have hty:=hide fun (w':World) (y:Below WW.heap.size WW w')=>(show w'.cell? ⟨g,q+i*5,none⟩=some (.int .i64 tk)∧w'.cell? ⟨g,q+i*5+4,none⟩=some (.slice fA fn fc) from by
  obtain ⟨b',q',hg',_,_,c0,c1,c2,c3,c4⟩:=(HX.out.up y).one.typs.at_ HTY.out
  injection hg' with hg'
  injection hg' with hga hgb
  subst hga hgb
  exact ⟨c0,c4⟩)
 clear hgn hfn hET hEl hs0 hv
 have HSH:=hide hsh
 clear hsh
 go_enter Tryz.func99,Tryz.ntmps99
 go_wp2_with fail
 rw [←HWW.out]
 refine (Rshape_is HSH.out _ HR.out).mono ?_
 rintro e1 w1 ⟨rfl,hb1⟩
 have HW1:=hide hb1
 clear hb1
 obtain ⟨b0,b1,b2,b3,b4,b5,b6,r0,r1,r2,r3,r4,r5,r6⟩:=hcx.out _ HW1.out
 obtain ⟨y0,y4⟩:=hty.out _ HW1.out
 go_wp2
 go_ret
 exact ⟨rfl,HB.out.trans (HW1.out.mono HB.out.size)⟩
theorem Rasg_1 {x:BdW} {r:RvW} {i:Nat} {ty:TyW} {v:Int} {w:World} (h:VB w x) (hr:OneRv w w.heap.size r) (ht:x.types.L[i]?=some ty) (hk:r.kind=1) (hsh:shErr r.v=0) (hv:asErr (wE x) r.v (i:Int)=v) :
 Calls Tryz.prog 99 #[aggBd x,aggRv r,.int .i64 (i:Int)] w fun e w'=>e=.returned (.int .i64 v)∧Below w.heap.size w w':=by
 have htt:(tys x.types.L)[i]?=some ty.t:=by
  exact ValAz4
 have hil:i < x.types.n:=by have h1:=(List.getElem?_eq_some_iff.1 ht).1;have h2:=h.one.types.len;omega
 have hok:=tyChk_iff.1 h.ok.ty
 have hto:OneT w w.heap.size ty:=h.one.types.all ty (List.mem_of_getElem? ht)
 have htm:x.types.n≤65535:=h.nt65
 obtain ⟨E,hE⟩:∃ u,wE x=u:=⟨_,rfl⟩
 have hET:tyGet E.T (i:Int)=ty.t:=by rw [←hE];exact tyGet_at htt
 rw [hE] at hv
 have HEE:=hide hE
 have hgn0:r.args.L.length=r.args.n:=hr.args.len
 have hgm0:=hr.args.nm
 unfold maxLen at hgm0
 have H0:=hide h
 have HRV:=hide hr
 have hEl:∀ (q:Nat) (f:Int),ty.t.kind=4→ty.t.fields[q]?=some f→∃ (u:Nat) (y:TyW),f=(u:Int)∧x.types.L[u]?=some y:=fun q f h4 hq=>by
  exact ValAz3
 obtain ⟨g,q,hg,_⟩:=h.one.typs.at_ ht
 obtain ⟨nm,⟨rA,rn,rc,rL⟩,⟨oA,on,oc,oL⟩,⟨tA,tm,tc,tL⟩,⟨lA,ln,lc,lL⟩,ar,⟨bA,bn,bc,bL⟩⟩:=x
 obtain ⟨k,op,rg,mu,⟨l,pA,pn,pc,ps⟩,⟨gA,gn,gc,gL⟩⟩:=r
 have hg:tA=some ⟨g,q,none⟩:=hg
 subst hg
 obtain ⟨⟨tk,tmu,trg,tel,fs⟩,fA,fn,fc⟩:=ty
 have hfn:fs.length=fn:=by have:=hto.rd.1;rw [List.length_map] at this;exact this
 have hfm:fn≤maxLen:=Nat.le_trans hto.ok.nc hto.ok.cm
 unfold maxLen at hfm
 have hil:i < tm:=hil
 have hgn:gL.length=gn:=hgn0
 clear hgn0
 have hgm:gn≤2 ^ 63 - 1:=hgm0
 clear hgm0
 have htm:tm≤65535:=htm
 have hilI:(i:Int) < (tm:Int):=by omega
 have hi0:(0:Int)≤(i:Int):=by omega
 have HTY:=hide ht
 have hk:k=1:=hk
 subst hk
 clear h hr ht htt hil hok hto hE htm
 have hva:boErr E (RvW.v ⟨1,op,rg,mu,⟨l,pA,pn,pc,ps⟩,⟨gA,gn,gc,gL⟩⟩) (i:Int)=v:=by rw [←hv];exact (asErr_bor (r:=RvW.v ⟨1,op,rg,mu,⟨l,pA,pn,pc,ps⟩,⟨gA,gn,gc,gL⟩⟩) rfl hsh).symm
 obtain ⟨WW,hWW,hB9,_,hcx9⟩:=boxes77 w (.string nm) (.slice rA rn rc) (.slice oA on oc) (.slice (some ⟨g,q,none⟩) tm tc) (.slice lA ln lc) (.int .i64 ar) (.slice bA bn bc) (.int .i64 (1)) (.int .i64 op) (.int .i64 rg) (.bool mu) (.int .i64 l) (.slice pA pn pc) (.slice gA gn gc) 28 71
 have HWW:=hide hWW
 clear hWW
 have HB:=hide hB9
 clear hB9
 have hcx:=hide hcx9
 clear hcx9
 have HX:=hide (H0.out.up HB.out)
 have HR:=hide (HRV.out.up HB.out)
 have hty:=hide fun (w':World) (y:Below WW.heap.size WW w')=>(show w'.cell? ⟨g,q+i*5,none⟩=some (.int .i64 tk)∧w'.cell? ⟨g,q+i*5+4,none⟩=some (.slice fA fn fc) from by
  obtain ⟨b',q',hg',_,_,c0,c1,c2,c3,c4⟩:=(HX.out.up y).one.typs.at_ HTY.out
  injection hg' with hg'
  injection hg' with hga hgb
  subst hga hgb
  exact ⟨c0,c4⟩)
 clear hgn hfn hET hEl hv
 have HSH:=hide hsh
 clear hsh
 have HVA:=hide fun (w':World) (y:Below WW.heap.size WW w')=>Rborrow_is (v:=v) (HX.out.up y) (HR.out.up y) HTY.out (by rw [HEE.out];exact hva)
 clear hva
 go_enter Tryz.func99,Tryz.ntmps99
 go_wp2_with fail
 rw [←HWW.out]
 refine (Rshape_is HSH.out _ HR.out).mono ?_
 rintro e1 w1 ⟨rfl,hb1⟩
 have HW1:=hide hb1
 clear hb1
 obtain ⟨b0,b1,b2,b3,b4,b5,b6,r0,r1,r2,r3,r4,r5,r6⟩:=hcx.out _ HW1.out
 obtain ⟨y0,y4⟩:=hty.out _ HW1.out
 go_wp2_with fail
 refine (HVA.out _ HW1.out).mono ?_
 rintro e2 w2 ⟨rfl,hb2⟩
 have HW2:=hide (HW1.out.trans (hb2.mono HW1.out.size))
 clear hb2
 go_wp2
 go_ret
 exact ⟨rfl,HB.out.trans (HW2.out.mono HB.out.size)⟩
theorem ValAz0 {P:Prop} (h:P:=by
 clear h0
 go_wp2
 refine wp_region_held_drew (S:=(fun w'=>Below wr.heap.size wr w')) (by kernel_rfl) HYr.out (fun hHeld=>?_)
 refine planS [0,1,2,3,4,5] ?_
 repeat' (first | refine pT hHeld rfl ?_ | refine pS hHeld rfl ?_)
 refine planE ?_
 refine wpAnyH_ready (rs:=[6]) (by kernel_rfl) (by simp) ?_
 refine AllReadyH.cons rfl (fun KZ hK=>?_) AllReadyH.nil
 go_simp
 refine (HO.out _ HYr.out).mono ?_
 rintro e7 w7 ⟨rfl,hb7⟩
 have HY7:=hide (HYr.out.trans (hb7.mono HYr.out.size))
 clear hb7
 refine hK.out _ _ HY7.out (fun hHeld=>?_)
 clear hK KZ
 try simp only [Act.put,List.setIfInBounds_toArray,List.set_cons_zero,List.set_cons_succ]
 refine planS [7] ?_
 repeat' (first | refine pT hHeld rfl ?_ | refine pS hHeld rfl ?_)
 refine planE ?_
 refine wpAnyH_done (by kernel_rfl) ?_ _
 have HZ:=hide (HW.out.trans (HY7.out.mono HW.out.size))
 go_wp2
 go_ret
 exact ⟨congrArg (fun v=>Ending.returned (.int .i64 v)) HN.out.symm,HB.out.trans (HZ.out.mono HB.out.size)⟩):P:=h
theorem ValAz1 {P:Prop} (h:P:=by
 clear hv0
 go_wp2
 refine wp_region_held_drew (S:=(fun w'=>Below wr.heap.size wr w')) (by kernel_rfl) HYr.out (fun hHeld=>?_)
 refine planS [0,1,2,3,4,5] ?_
 repeat' (first | refine pT hHeld rfl ?_ | refine pS hHeld rfl ?_)
 refine planE ?_
 refine wpAnyH_ready (rs:=[6]) (by kernel_rfl) (by simp) ?_
 refine AllReadyH.cons rfl (fun KZ hK=>?_) AllReadyH.nil
 go_simp
 refine (HFU.out _ HYr.out).mono ?_
 rintro e8 w8 ⟨rfl,hb8⟩
 have HY8:=hide (HYr.out.trans (hb8.mono HYr.out.size))
 clear hb8
 refine hK.out _ _ HY8.out (fun hHeld=>?_)
 clear hK KZ
 try simp only [Act.put,List.setIfInBounds_toArray,List.set_cons_zero,List.set_cons_succ]
 refine planS [7] ?_
 repeat' (first | refine pT hHeld rfl ?_ | refine pS hHeld rfl ?_)
 refine planE ?_
 refine wpAnyH_done (by kernel_rfl) ?_ _
 have HZ:=hide (HW.out.trans (HY8.out.mono HW.out.size))
 go_wp2
 go_ret
 exact ⟨rfl,HB.out.trans (HZ.out.mono HB.out.size)⟩):P:=h
theorem Rasg_0 {x:BdW} {r:RvW} {i:Nat} {ty:TyW} {v:Int} {w:World} (h:VB w x) (hr:OneRv w w.heap.size r) (ht:x.types.L[i]?=some ty) (hk:r.kind=0) (hsh:shErr r.v=0) (hv:asErr (wE x) r.v (i:Int)=v) :
 Calls Tryz.prog 99 #[aggBd x,aggRv r,.int .i64 (i:Int)] w fun e w'=>e=.returned (.int .i64 v)∧Below w.heap.size w w':=by
 have htt:(tys x.types.L)[i]?=some ty.t:=by
  exact ValAz4
 have hil:i < x.types.n:=by have h1:=(List.getElem?_eq_some_iff.1 ht).1;have h2:=h.one.types.len;omega
 have hok:=tyChk_iff.1 h.ok.ty
 have hto:OneT w w.heap.size ty:=h.one.types.all ty (List.mem_of_getElem? ht)
 have htm:x.types.n≤65535:=h.nt65
 obtain ⟨E,hE⟩:∃ u,wE x=u:=⟨_,rfl⟩
 have hET:tyGet E.T (i:Int)=ty.t:=by rw [←hE];exact tyGet_at htt
 rw [hE] at hv
 have HEE:=hide hE
 have hgn0:r.args.L.length=r.args.n:=hr.args.len
 have hgm0:=hr.args.nm
 unfold maxLen at hgm0
 have H0:=hide h
 have HRV:=hide hr
 have hEl:∀ (q:Nat) (f:Int),ty.t.kind=4→ty.t.fields[q]?=some f→∃ (u:Nat) (y:TyW),f=(u:Int)∧x.types.L[u]?=some y:=fun q f h4 hq=>by
  exact ValAz3
 obtain ⟨g,q,hg,_⟩:=h.one.typs.at_ ht
 obtain ⟨nm,⟨rA,rn,rc,rL⟩,⟨oA,on,oc,oL⟩,⟨tA,tm,tc,tL⟩,⟨lA,ln,lc,lL⟩,ar,⟨bA,bn,bc,bL⟩⟩:=x
 obtain ⟨k,op,rg,mu,⟨l,pA,pn,pc,ps⟩,⟨gA,gn,gc,gL⟩⟩:=r
 have hg:tA=some ⟨g,q,none⟩:=hg
 subst hg
 obtain ⟨⟨tk,tmu,trg,tel,fs⟩,fA,fn,fc⟩:=ty
 have hfn:fs.length=fn:=by have:=hto.rd.1;rw [List.length_map] at this;exact this
 have hfm:fn≤maxLen:=Nat.le_trans hto.ok.nc hto.ok.cm
 unfold maxLen at hfm
 have hil:i < tm:=hil
 have hgn:gL.length=gn:=hgn0
 clear hgn0
 have hgm:gn≤2 ^ 63 - 1:=hgm0
 clear hgm0
 have htm:tm≤65535:=htm
 have hilI:(i:Int) < (tm:Int):=by omega
 have hi0:(0:Int)≤(i:Int):=by omega
 have HTY:=hide ht
 have hk:k=0:=hk
 subst hk
 clear h hr ht htt hil hok hto hE htm
 have hg1:gn=1:=by have e:=(shErr_zero hsh).2.1 (.inl rfl);have e2:(RvW.v ⟨0,op,rg,mu,⟨l,pA,pn,pc,ps⟩,⟨gA,gn,gc,gL⟩⟩).args.length=gL.length:=List.length_map _;omega
 subst hg1
 obtain ⟨p0,hp0⟩:∃ q,gL=[q]:=List.length_eq_one_iff.1 hgn
 obtain ⟨er,her⟩:∃ u,opsErr E (gL.map OpW.v)=u:=⟨_,rfl⟩
 obtain ⟨c,hcv⟩:∃ u,fitT E (OpW.v p0) (i:Int)=u:=⟨_,rfl⟩
 have hv9:(if er≠0 then er else if c=true then 0 else 22)=v:=by
  rw [←hv,asErr_use2 (r:=RvW.v ⟨0,op,rg,mu,⟨l,pA,pn,pc,ps⟩,⟨gA,1,gc,gL⟩⟩) rfl hsh,← her,← hcv]
  show _=(if opsErr E (gL.map OpW.v)≠0 then opsErr E (gL.map OpW.v) else if (gL.map OpW.v).all (fun o=>fitT E o (i:Int)) then 0 else 22)
  rw [hp0]
  simp
 have HV:=hide hv9
 have HEr:=hide her
 have HLen:=hide hgn
 have HGet:=hide (show gL[0]?=some p0 by rw [hp0];rfl)
 have HSH:=hide hsh
 have HZero:=hide fun (e0:er=0)=>(opsErr_zero.1 (her.trans e0)) p0.v (by rw [hp0];simp)
 obtain ⟨WW,hWW,hB9,_,hcx9⟩:=boxes77 w (.string nm) (.slice rA rn rc) (.slice oA on oc) (.slice (some ⟨g,q,none⟩) tm tc) (.slice lA ln lc) (.int .i64 ar) (.slice bA bn bc) (.int .i64 (0)) (.int .i64 op) (.int .i64 rg) (.bool mu) (.int .i64 l) (.slice pA pn pc) (.slice gA 1 gc) 28 71
 have HWW:=hide hWW
 clear hWW
 have HB:=hide hB9
 clear hB9
 have hcx:=hide hcx9
 clear hcx9
 have HX:=hide (H0.out.up HB.out)
 have HR:=hide (HRV.out.up HB.out)
 have hty:=hide fun (w':World) (y:Below WW.heap.size WW w')=>(show w'.cell? ⟨g,q+i*5,none⟩=some (.int .i64 tk)∧w'.cell? ⟨g,q+i*5+4,none⟩=some (.slice fA fn fc) from by
  obtain ⟨b',q',hg',_,_,c0,c1,c2,c3,c4⟩:=(HX.out.up y).one.typs.at_ HTY.out
  injection hg' with hg'
  injection hg' with hga hgb
  subst hga hgb
  exact ⟨c0,c4⟩)
 clear hgn hfn hET hEl hsh hv hv9 her hp0
 have HFT:=hide fun (w':World) (y:Below WW.heap.size WW w') (ho:OneOp w' w'.heap.size p0) (e0:er=0)=>Rfits_is (v:=c) (HX.out.up y) ho (by rw [HEE.out];exact HZero.out e0) HTY.out (by rw [HEE.out];exact hcv)
 clear hcv
 go_enter Tryz.func99,Tryz.ntmps99
 go_wp2_with fail
 rw [←HWW.out]
 refine (Rshape_is HSH.out _ HR.out).mono ?_
 rintro e1 w1 ⟨rfl,hb1⟩
 have HW1:=hide hb1
 clear hb1
 obtain ⟨b0,b1,b2,b3,b4,b5,b6,r0,r1,r2,r3,r4,r5,r6⟩:=hcx.out _ HW1.out
 obtain ⟨y0,y4⟩:=hty.out _ HW1.out
 go_wp2
 have HD9:=hide HW1.out.drew
 refine wp_region_held_drew (S:=(fun w'=>Below WW.heap.size WW w')) (by kernel_rfl) HD9.out (fun hHeld=>?_)
 refine planS [0,1,2,3,4,5,6,7,8,9,10,11,12,13,14,15,16,17,18,19] ?_
 repeat' (first | refine pT hHeld rfl ?_ | refine pS hHeld rfl ?_)
 refine planE ?_
 refine wpAnyH_done (by kernel_rfl) ?_ _
 clear b0 b1 b2 b3 b4 b5 b6 r0 r1 r2 r3 r4 r5 r6 y0 y4
 obtain ⟨b0,b1,b2,b3,b4,b5,b6,r0,r1,r2,r3,r4,r5,r6⟩:=hcx.out _ HD9.out
 obtain ⟨y0,y4⟩:=hty.out _ HD9.out
 go_wp2
 clear b0 b1 b2 b3 b4 b5 b6 r0 r1 r2 r3 r4 r5 r6 y0 y4
 go_loopw [9] (fun i wr=>∃ j:Nat,i=.int .i64 (j:Int)∧j≤1∧Hid (opsErr E ((gL.map OpW.v).drop j)=er)∧Hid (Below WW.heap.size WW wr)) (fun i _=>1 - (intOf i).toNat)
 case atStart=>exact ⟨0,rfl,Nat.zero_le _,hide HEr.out,hide HD9.out⟩
 case round=>
  obtain ⟨j,rfl,hj,HE,HW⟩:=hrel
  obtain ⟨b0,b1,b2,b3,b4,b5,b6,r0,r1,r2,r3,r4,r5,r6⟩:=hcx.out _ HW.out
  by_cases hlt:j < 1
  ·
   have hlt':(j:Int) < (1:Int):=by omega
   obtain ⟨p,hp⟩:∃ p,gL[j]?=some p:=⟨_,List.getElem?_eq_getElem (by have:gL.length=1:=HLen.out;omega)⟩
   have hpv:(gL.map OpW.v)[j]?=some p.v:=by rw [List.getElem?_map,hp];rfl
   obtain ⟨b,o,hA,hb,hone,hc⟩:=((HR.out.up HW.out).args).at_ hp
   have hA:gA=some ⟨b,o,none⟩:=hA
   subst hA
   obtain ⟨kq,⟨lq,zA,zn,zc,zs⟩,nq⟩:=p
   have hel:=hide fun (w':World) (y:Below wr.heap.size wr w')=>(show w'.cell? ⟨b,o+j*4,none⟩=some (.int .i64 kq)∧w'.cell? ⟨b,o+j*4+1,none⟩=some (.int .i64 lq)∧w'.cell? ⟨b,o+j*4+2,none⟩=some (.slice zA zn zc)∧w'.cell? ⟨b,o+j*4+3,none⟩=some (.int .i64 nq) from ⟨(y.cell (p:=⟨b,o+j*4,none⟩) hb).trans (hc 0 _ rfl),(y.cell (p:=⟨b,o+j*4+1,none⟩) hb).trans (hc 1 _ rfl),(y.cell (p:=⟨b,o+j*4+2,none⟩) hb).trans (hc 2 _ rfl),(y.cell (p:=⟨b,o+j*4+3,none⟩) hb).trans (hc 3 _ rfl)⟩)
   obtain ⟨oe,hoe⟩:∃ z,opErr E (OpW.v ⟨kq,⟨lq,zA,zn,zc,zs⟩,nq⟩)=z:=⟨_,rfl⟩
   clear hp hc
   have HSo:=hide (opsErr_at (E:=E) hpv)
   clear hpv
   have HOE:=hide hoe
   have HO:=hide fun (w':World) (y:Below wr.heap.size wr w')=>ROperand_is (v:=oe) (HX.out.up (HW.out.trans (y.mono HW.out.size))) (hone.up y) (by rw [HEE.out];exact hoe)
   clear hone hoe
   have HYr:=hide (Below.refl wr.heap.size wr).drew
   by_cases h0:oe=0
   case neg=>
    have t7:(oe != 0)=true:=by simp [h0]
    have HN:=hide (show v=oe from by rw [←HV.out,if_pos (by rw [←HE.out,HSo.out,HOE.out,if_pos h0];exact h0),← HE.out,HSo.out,HOE.out,if_pos h0])
    exact ValAz0
   have t7:(oe != 0)=false:=by simp [h0]
   subst h0
   have HN:=hide (show opsErr E ((gL.map OpW.v).drop (j+1))=er from by rw [←HE.out,HSo.out,if_neg (by rw [HOE.out];simp)])
   go_wp2
   refine wp_region_held_drew (S:=(fun w'=>Below wr.heap.size wr w')) (by kernel_rfl) HYr.out (fun hHeld=>?_)
   refine planS [0,1,2,3,4,5] ?_
   repeat' (first | refine pT hHeld rfl ?_ | refine pS hHeld rfl ?_)
   refine planE ?_
   refine wpAnyH_ready (rs:=[6]) (by kernel_rfl) (by simp) ?_
   refine AllReadyH.cons rfl (fun KZ hK=>?_) AllReadyH.nil
   go_simp
   refine (HO.out _ HYr.out).mono ?_
   rintro e7 w7 ⟨rfl,hb7⟩
   have HY7:=hide (HYr.out.trans (hb7.mono HYr.out.size))
   clear hb7
   refine hK.out _ _ HY7.out (fun hHeld=>?_)
   clear hK KZ
   try simp only [Act.put,List.setIfInBounds_toArray,List.set_cons_zero,List.set_cons_succ]
   refine planS [7] ?_
   repeat' (first | refine pT hHeld rfl ?_ | refine pS hHeld rfl ?_)
   refine planE ?_
   refine wpAnyH_done (by kernel_rfl) ?_ _
   go_wp2
   have HD17:=hide (HW.out.trans (HY7.out.mono HW.out.size)).drew
   refine wp_region_held_drew (S:=(fun w'=>Below WW.heap.size WW w')) (by kernel_rfl) HD17.out (fun hHeld=>?_)
   refine planS [0,1,2,3,4,5,6,7,8,9,10,11,12,13,14,15,16,17,18] ?_
   repeat' (first | refine pT hHeld rfl ?_ | refine pS hHeld rfl ?_)
   refine planE ?_
   refine wpAnyH_ready (rs:=[19]) (by kernel_rfl) (by simp) ?_
   refine AllReadyH.cons rfl (fun KZ hK=>?_) AllReadyH.nil
   go_simp
   refine hK.out _ _ hHeld (fun hHeld=>?_)
   clear hK KZ
   try simp only [Act.put,List.setIfInBounds_toArray,List.set_cons_zero,List.set_cons_succ]
   refine planS [20,21] ?_
   repeat' (first | refine pT hHeld rfl ?_ | refine pS hHeld rfl ?_)
   refine planE ?_
   refine wpAnyH_done (by kernel_rfl) ?_ _
   go_wp2
   go_roundw
   case rel=>exact ⟨j+1,by go_num,by omega,hide HN.out,hide HD17.out⟩
   case measure=>simp [intOf];omega
  ·
   obtain rfl:j=1:=by omega
   have e0:er=0:=by rw [←HE.out];exact opsErr_end (by rw [List.length_map];have:gL.length=1:=HLen.out;omega)
   have HC0:=hide e0
   have hv0:v=if c=true then 0 else 22:=by have h1:=HV.out;rw [if_neg (by rw [e0];simp)] at h1;exact h1.symm
   clear e0 hlt
   obtain ⟨b,o,hA,hb,hone,hc⟩:=((HR.out.up HW.out).args).at_ HGet.out
   have hA:gA=some ⟨b,o,none⟩:=hA
   subst hA
   obtain ⟨kq,⟨lq,zA,zn,zc,zs⟩,nq⟩:=p0
   have hel:=hide fun (w':World) (y:Below wr.heap.size wr w')=>(show w'.cell? ⟨b,o,none⟩=some (.int .i64 kq)∧w'.cell? ⟨b,o+1,none⟩=some (.int .i64 lq)∧w'.cell? ⟨b,o+2,none⟩=some (.slice zA zn zc)∧w'.cell? ⟨b,o+3,none⟩=some (.int .i64 nq) from by have h0:=(y.cell (p:=⟨b,o+0*4+0,none⟩) hb).trans (hc 0 _ rfl);have h1:=(y.cell (p:=⟨b,o+0*4+1,none⟩) hb).trans (hc 1 _ rfl);have h2:=(y.cell (p:=⟨b,o+0*4+2,none⟩) hb).trans (hc 2 _ rfl);have h3:=(y.cell (p:=⟨b,o+0*4+3,none⟩) hb).trans (hc 3 _ rfl);simp only [Nat.zero_mul,Nat.add_zero] at h0 h1 h2 h3;exact ⟨h0,h1,h2,h3⟩)
   clear hc
   have HFU:=hide fun (w':World) (y:Below wr.heap.size wr w')=>HFT.out w' (HW.out.trans (y.mono HW.out.size)) (hone.up y) HC0.out
   clear hone
   have HYr:=hide (Below.refl wr.heap.size wr).drew
   cases c
   ·
    obtain rfl:v=22:=by rw [hv0];rfl
    exact ValAz1
   ·
    obtain rfl:v=0:=by rw [hv0];rfl
    exact ValAz1
theorem ValAz2 {P:Prop} (h:P:=by
 go_enter Tryz.func99,Tryz.ntmps99
 go_wp2_with fail
 rw [←HWW.out]
 refine (Rshape_is HSH.out _ HR.out).mono ?_
 rintro e1 w1 ⟨rfl,hb1⟩
 have HW1:=hide hb1
 clear hb1
 obtain ⟨b0,b1,b2,b3,b4,b5,b6,r0,r1,r2,r3,r4,r5,r6⟩:=hcx.out _ HW1.out
 obtain ⟨y0,y4⟩:=hty.out _ HW1.out
 go_wp2
 have HD9:=hide HW1.out.drew
 refine wp_region_held_drew (S:=(fun w'=>Below WW.heap.size WW w')) (by kernel_rfl) HD9.out (fun hHeld=>?_)
 refine planS [0,1,2,3,4,5,6,7,8,9,10,11,12,13,14,15,16,17,18,19] ?_
 repeat' (first | refine pT hHeld rfl ?_ | refine pS hHeld rfl ?_)
 refine planE ?_
 refine wpAnyH_done (by kernel_rfl) ?_ _
 go_wp2
 go_ret
 exact ⟨rfl,HB.out.trans (HD9.out.mono HB.out.size)⟩):P:=h
theorem Rasg_4 {x:BdW} {r:RvW} {i:Nat} {ty:TyW} {v:Int} {w:World} (h:VB w x) (hr:OneRv w w.heap.size r) (ht:x.types.L[i]?=some ty) (hk:r.kind=4) (hsh:shErr r.v=0) (hv:asErr (wE x) r.v (i:Int)=v) :
 Calls Tryz.prog 99 #[aggBd x,aggRv r,.int .i64 (i:Int)] w fun e w'=>e=.returned (.int .i64 v)∧Below w.heap.size w w':=by
 have htt:(tys x.types.L)[i]?=some ty.t:=by
  exact ValAz4
 have hil:i < x.types.n:=by have h1:=(List.getElem?_eq_some_iff.1 ht).1;have h2:=h.one.types.len;omega
 have hok:=tyChk_iff.1 h.ok.ty
 have hto:OneT w w.heap.size ty:=h.one.types.all ty (List.mem_of_getElem? ht)
 have htm:x.types.n≤65535:=h.nt65
 obtain ⟨E,hE⟩:∃ u,wE x=u:=⟨_,rfl⟩
 have hET:tyGet E.T (i:Int)=ty.t:=by rw [←hE];exact tyGet_at htt
 rw [hE] at hv
 have HEE:=hide hE
 have hgn0:r.args.L.length=r.args.n:=hr.args.len
 have hgm0:=hr.args.nm
 unfold maxLen at hgm0
 have H0:=hide h
 have HRV:=hide hr
 have hEl:∀ (q:Nat) (f:Int),ty.t.kind=4→ty.t.fields[q]?=some f→∃ (u:Nat) (y:TyW),f=(u:Int)∧x.types.L[u]?=some y:=fun q f h4 hq=>by
  exact ValAz3
 obtain ⟨g,q,hg,_⟩:=h.one.typs.at_ ht
 obtain ⟨nm,⟨rA,rn,rc,rL⟩,⟨oA,on,oc,oL⟩,⟨tA,tm,tc,tL⟩,⟨lA,ln,lc,lL⟩,ar,⟨bA,bn,bc,bL⟩⟩:=x
 obtain ⟨k,op,rg,mu,⟨l,pA,pn,pc,ps⟩,⟨gA,gn,gc,gL⟩⟩:=r
 have hg:tA=some ⟨g,q,none⟩:=hg
 subst hg
 obtain ⟨⟨tk,tmu,trg,tel,fs⟩,fA,fn,fc⟩:=ty
 have hfn:fs.length=fn:=by have:=hto.rd.1;rw [List.length_map] at this;exact this
 have hfm:fn≤maxLen:=Nat.le_trans hto.ok.nc hto.ok.cm
 unfold maxLen at hfm
 have hil:i < tm:=hil
 have hgn:gL.length=gn:=hgn0
 clear hgn0
 have hgm:gn≤2 ^ 63 - 1:=hgm0
 clear hgm0
 have htm:tm≤65535:=htm
 have hilI:(i:Int) < (tm:Int):=by omega
 have hi0:(0:Int)≤(i:Int):=by omega
 have HTY:=hide ht
 have hk:k=4:=hk
 subst hk
 clear h hr ht htt hil hok hto hE htm
 have hva:tuV E (RvW.v ⟨4,op,rg,mu,⟨l,pA,pn,pc,ps⟩,⟨gA,gn,gc,gL⟩⟩) (i:Int)=v:=by rw [←hv];exact (asErr_tup (r:=RvW.v ⟨4,op,rg,mu,⟨l,pA,pn,pc,ps⟩,⟨gA,gn,gc,gL⟩⟩) rfl hsh).symm
 clear hv
 have hv9:(if tk≠4∨fn≠gn then (22:Int) else tupErr E (gL.map OpW.v) fs)=v:=by
  rw [←hva,← hgn,← hfn,← List.length_map (f:=OpW.v)]
  show _=(if (tyGet E.T (i:Int)).kind≠4∨(tyGet E.T (i:Int)).fields.length≠(gL.map OpW.v).length then (22:Int) else tupErr E (gL.map OpW.v) (tyGet E.T (i:Int)).fields)
  rw [hET]
 clear hva
 have HSH:=hide hsh
 have hv:=hv9
 clear hv9
 by_cases h4:tk=4
 case neg=>
  have t4:(tk != 4)=true:=by simp [h4]
  obtain rfl:v=22:=by rw [←hv,if_pos (.inl h4)]
  obtain ⟨WW,hWW,hB9,_,hcx9⟩:=boxes77 w (.string nm) (.slice rA rn rc) (.slice oA on oc) (.slice (some ⟨g,q,none⟩) tm tc) (.slice lA ln lc) (.int .i64 ar) (.slice bA bn bc) (.int .i64 (4)) (.int .i64 op) (.int .i64 rg) (.bool mu) (.int .i64 l) (.slice pA pn pc) (.slice gA gn gc) 28 71
  have HWW:=hide hWW
  clear hWW
  have HB:=hide hB9
  clear hB9
  have hcx:=hide hcx9
  clear hcx9
  have HX:=hide (H0.out.up HB.out)
  have HR:=hide (HRV.out.up HB.out)
  have hty:=hide fun (w':World) (y:Below WW.heap.size WW w')=>(show w'.cell? ⟨g,q+i*5,none⟩=some (.int .i64 tk)∧w'.cell? ⟨g,q+i*5+4,none⟩=some (.slice fA fn fc) from by
   obtain ⟨b',q',hg',_,_,c0,c1,c2,c3,c4⟩:=(HX.out.up y).one.typs.at_ HTY.out
   injection hg' with hg'
   injection hg' with hga hgb
   subst hga hgb
   exact ⟨c0,c4⟩)
  clear hgn hfn hET hEl hsh hv h4
  exact ValAz2
 have t4:(tk != 4)=false:=by simp [h4]
 by_cases hl:fn=gn
 case neg=>
  have tl:((fn:Int) != (gn:Int))=true:=by rw [bne_iff_ne];omega
  obtain rfl:v=22:=by rw [←hv,if_pos (.inr hl)]
  obtain ⟨WW,hWW,hB9,_,hcx9⟩:=boxes77 w (.string nm) (.slice rA rn rc) (.slice oA on oc) (.slice (some ⟨g,q,none⟩) tm tc) (.slice lA ln lc) (.int .i64 ar) (.slice bA bn bc) (.int .i64 (4)) (.int .i64 op) (.int .i64 rg) (.bool mu) (.int .i64 l) (.slice pA pn pc) (.slice gA gn gc) 28 71
  have HWW:=hide hWW
  clear hWW
  have HB:=hide hB9
  clear hB9
  have hcx:=hide hcx9
  clear hcx9
  have HX:=hide (H0.out.up HB.out)
  have HR:=hide (HRV.out.up HB.out)
  have hty:=hide fun (w':World) (y:Below WW.heap.size WW w')=>(show w'.cell? ⟨g,q+i*5,none⟩=some (.int .i64 tk)∧w'.cell? ⟨g,q+i*5+4,none⟩=some (.slice fA fn fc) from by
   obtain ⟨b',q',hg',_,_,c0,c1,c2,c3,c4⟩:=(HX.out.up y).one.typs.at_ HTY.out
   injection hg' with hg'
   injection hg' with hga hgb
   subst hga hgb
   exact ⟨c0,c4⟩)
  clear hgn hfn hET hEl hsh hv h4 hl
  exact ValAz2
 rw [if_neg (by omega)] at hv
 obtain rfl:gn=fn:=hl.symm
 have tl:((gn:Int) != (gn:Int))=false:=by simp
 have HEL:=hide fun q f=>hEl q f h4
 have HV:=hide hv
 have HLen:=hide hgn
 have HFn:=hide hfn
 obtain ⟨WW,hWW,hB9,_,hcx9⟩:=boxes77 w (.string nm) (.slice rA rn rc) (.slice oA on oc) (.slice (some ⟨g,q,none⟩) tm tc) (.slice lA ln lc) (.int .i64 ar) (.slice bA bn bc) (.int .i64 (4)) (.int .i64 op) (.int .i64 rg) (.bool mu) (.int .i64 l) (.slice pA pn pc) (.slice gA gn gc) 28 71
 have HWW:=hide hWW
 clear hWW
 have HB:=hide hB9
 clear hB9
 have hcx:=hide hcx9
 clear hcx9
 have HX:=hide (H0.out.up HB.out)
 have HR:=hide (HRV.out.up HB.out)
 have hty:=hide fun (w':World) (y:Below WW.heap.size WW w')=>(show w'.cell? ⟨g,q+i*5,none⟩=some (.int .i64 tk)∧w'.cell? ⟨g,q+i*5+4,none⟩=some (.slice fA gn fc) from by
  obtain ⟨b',q',hg',_,_,c0,c1,c2,c3,c4⟩:=(HX.out.up y).one.typs.at_ HTY.out
  injection hg' with hg'
  injection hg' with hga hgb
  subst hga hgb
  exact ⟨c0,c4⟩)
 clear hgn hfn hET hEl hsh hv h4
 have hto9:=hide fun (w':World) (y:Below WW.heap.size WW w')=>(show Rd w' w'.heap.size fA gn (i64s fs) from ((HX.out.up y).one.types.all _ (List.mem_of_getElem? HTY.out)).rd)
 go_enter Tryz.func99,Tryz.ntmps99
 go_wp2_with fail
 rw [←HWW.out]
 refine (Rshape_is HSH.out _ HR.out).mono ?_
 rintro e1 w1 ⟨rfl,hb1⟩
 have HW1:=hide hb1
 clear hb1
 obtain ⟨b0,b1,b2,b3,b4,b5,b6,r0,r1,r2,r3,r4,r5,r6⟩:=hcx.out _ HW1.out
 obtain ⟨y0,y4⟩:=hty.out _ HW1.out
 go_wp2
 have HD9:=hide HW1.out.drew
 refine wp_region_held_drew (S:=(fun w'=>Below WW.heap.size WW w')) (by kernel_rfl) HD9.out (fun hHeld=>?_)
 refine planS [0,1,2,3,4,5,6,7,8,9,10,11,12,13,14,15,16,17,18,19] ?_
 repeat' (first | refine pT hHeld rfl ?_ | refine pS hHeld rfl ?_)
 refine planE ?_
 refine wpAnyH_done (by kernel_rfl) ?_ _
 clear b0 b1 b2 b3 b4 b5 b6 r0 r1 r2 r3 r4 r5 r6 y0 y4
 obtain ⟨b0,b1,b2,b3,b4,b5,b6,r0,r1,r2,r3,r4,r5,r6⟩:=hcx.out _ HD9.out
 obtain ⟨y0,y4⟩:=hty.out _ HD9.out
 go_wp2
 clear b0 b1 b2 b3 b4 b5 b6 r0 r1 r2 r3 r4 r5 r6 y0 y4
 go_loopw [9] (fun i wr=>∃ j:Nat,i=.int .i64 (j:Int)∧j≤gn∧Hid (tupErr E ((gL.map OpW.v).drop j) (fs.drop j)=v)∧Hid (Below WW.heap.size WW wr)) (fun i _=>gn - (intOf i).toNat)
 case atStart=>exact ⟨0,rfl,Nat.zero_le _,hide HV.out,hide HD9.out⟩
 case round=>
  obtain ⟨j,rfl,hj,HE,HW⟩:=hrel
  obtain ⟨b0,b1,b2,b3,b4,b5,b6,r0,r1,r2,r3,r4,r5,r6⟩:=hcx.out _ HW.out
  by_cases hlt:j < gn
  ·
   have hlt':(j:Int) < (gn:Int):=by omega
   obtain ⟨p,hp⟩:∃ p,gL[j]?=some p:=⟨_,List.getElem?_eq_getElem (by have:gL.length=gn:=HLen.out;omega)⟩
   obtain ⟨ff,hf⟩:∃ f,fs[j]?=some f:=⟨_,List.getElem?_eq_getElem (by have:fs.length=gn:=HFn.out;omega)⟩
   obtain ⟨u,yt,rfl,hu⟩:=HEL.out j ff hf
   have hpv:(gL.map OpW.v)[j]?=some p.v:=by rw [List.getElem?_map,hp];rfl
   obtain ⟨b,o,hA,hb,hone,hc⟩:=((HR.out.up HW.out).args).at_ hp
   have hA:gA=some ⟨b,o,none⟩:=hA
   subst hA
   obtain ⟨kq,⟨lq,zA,zn,zc,zs⟩,nq⟩:=p
   have hel:=hide fun (w':World) (y:Below wr.heap.size wr w')=>(show w'.cell? ⟨b,o+j*4,none⟩=some (.int .i64 kq)∧w'.cell? ⟨b,o+j*4+1,none⟩=some (.int .i64 lq)∧w'.cell? ⟨b,o+j*4+2,none⟩=some (.slice zA zn zc)∧w'.cell? ⟨b,o+j*4+3,none⟩=some (.int .i64 nq) from ⟨(y.cell (p:=⟨b,o+j*4,none⟩) hb).trans (hc 0 _ rfl),(y.cell (p:=⟨b,o+j*4+1,none⟩) hb).trans (hc 1 _ rfl),(y.cell (p:=⟨b,o+j*4+2,none⟩) hb).trans (hc 2 _ rfl),(y.cell (p:=⟨b,o+j*4+3,none⟩) hb).trans (hc 3 _ rfl)⟩)
   obtain ⟨fb,fo,hFA,hfB,hfc⟩:=(hto9.out _ HW.out).2 (by omega)
   have hFA:fA=some ⟨fb,fo,none⟩:=hFA
   subst hFA
   have hef:=hide fun (w':World) (y:Below wr.heap.size wr w')=>(show w'.cell? ⟨fb,fo+j,none⟩=some (.int .i64 (u:Int)) from (y.cell (p:=⟨fb,fo+j,none⟩) hfB).trans (hfc j _ (by rw [List.getElem?_map,hf];rfl)))
   obtain ⟨oe,hoe⟩:∃ z,opErr E (OpW.v ⟨kq,⟨lq,zA,zn,zc,zs⟩,nq⟩)=z:=⟨_,rfl⟩
   have HSo:=hide (tupErr_at (E:=E) hpv hf)
   have HOE:=hide hoe
   have HO:=hide fun (w':World) (y:Below wr.heap.size wr w')=>ROperand_is (v:=oe) (HX.out.up (HW.out.trans (y.mono HW.out.size))) (hone.up y) (by rw [HEE.out];exact hoe)
   obtain ⟨c,hcv⟩:∃ c,fitT E (OpW.v ⟨kq,⟨lq,zA,zn,zc,zs⟩,nq⟩) (u:Int)=c:=⟨_,rfl⟩
   have HCV:=hide hcv
   have HFT:=hide fun (w':World) (y:Below wr.heap.size wr w') (h0:oe=0)=>Rfits_is (v:=c) (HX.out.up (HW.out.trans (y.mono HW.out.size))) (hone.up y) (by rw [HEE.out];exact hoe.trans h0) hu (by rw [HEE.out];exact hcv)
   have hju:(j:Int) < (gn:Int):=by omega
   clear hp hpv hone hc hoe hf hu hfc hfB hcv
   have HYr:=hide (Below.refl wr.heap.size wr).drew
   by_cases h0:oe=0
   case neg=>
    have t7:(oe != 0)=true:=by simp [h0]
    have HN:=hide (show v=oe from by rw [←HE.out,HSo.out,HOE.out,if_pos h0])
    exact ValAz0
   have t7:(oe != 0)=false:=by simp [h0]
   subst h0
   cases c
   ·
    have HN:=hide (show v=22 from by rw [←HE.out,HSo.out,if_neg (by rw [HOE.out];simp),HCV.out];rfl)
    go_wp2
    refine wp_region_held_drew (S:=(fun w'=>Below wr.heap.size wr w')) (by kernel_rfl) HYr.out (fun hHeld=>?_)
    refine planS [0,1,2,3,4,5] ?_
    repeat' (first | refine pT hHeld rfl ?_ | refine pS hHeld rfl ?_)
    refine planE ?_
    refine wpAnyH_ready (rs:=[6]) (by kernel_rfl) (by simp) ?_
    refine AllReadyH.cons rfl (fun KZ hK=>?_) AllReadyH.nil
    go_simp
    refine (HO.out _ HYr.out).mono ?_
    rintro e7 w7 ⟨rfl,hb7⟩
    have HY7:=hide (HYr.out.trans (hb7.mono HYr.out.size))
    clear hb7
    refine hK.out _ _ HY7.out (fun hHeld=>?_)
    clear hK KZ
    try simp only [Act.put,List.setIfInBounds_toArray,List.set_cons_zero,List.set_cons_succ]
    refine planS [7] ?_
    repeat' (first | refine pT hHeld rfl ?_ | refine pS hHeld rfl ?_)
    refine planE ?_
    refine wpAnyH_done (by kernel_rfl) ?_ _
    go_wp2
    have HD17:=hide HY7.out.drew
    refine wp_region_held_drew (S:=(fun w'=>Below wr.heap.size wr w')) (by kernel_rfl) HD17.out (fun hHeld=>?_)
    refine planS [0,1,2,3,4,5,6,7,8,9,10,11,12,13,14,15,16,17,18] ?_
    repeat' (first | refine pT hHeld rfl ?_ | refine pS hHeld rfl ?_)
    refine planE ?_
    refine wpAnyH_ready (rs:=[19]) (by kernel_rfl) (by simp) ?_
    refine AllReadyH.cons rfl (fun KZ hK=>?_) AllReadyH.nil
    go_simp
    refine (HFT.out _ HD17.out (by trivial)).mono ?_
    rintro e8 w8 ⟨rfl,hb8⟩
    have HY8:=hide (HD17.out.trans (hb8.mono HD17.out.size))
    clear hb8
    refine hK.out _ _ HY8.out (fun hHeld=>?_)
    clear hK KZ
    try simp only [Act.put,List.setIfInBounds_toArray,List.set_cons_zero,List.set_cons_succ]
    refine planS [20,21] ?_
    repeat' (first | refine pT hHeld rfl ?_ | refine pS hHeld rfl ?_)
    refine planE ?_
    refine wpAnyH_done (by kernel_rfl) ?_ _
    have HZ:=hide (HW.out.trans (HY8.out.mono HW.out.size))
    go_wp2
    go_ret
    exact ⟨congrArg (fun v=>Ending.returned (.int .i64 v)) HN.out.symm,HB.out.trans (HZ.out.mono HB.out.size)⟩
   ·
    have HN:=hide (show tupErr E ((gL.map OpW.v).drop (j+1)) (fs.drop (j+1))=v from by rw [←HE.out,HSo.out,if_neg (by rw [HOE.out];simp),HCV.out];rfl)
    go_wp2
    refine wp_region_held_drew (S:=(fun w'=>Below wr.heap.size wr w')) (by kernel_rfl) HYr.out (fun hHeld=>?_)
    refine planS [0,1,2,3,4,5] ?_
    repeat' (first | refine pT hHeld rfl ?_ | refine pS hHeld rfl ?_)
    refine planE ?_
    refine wpAnyH_ready (rs:=[6]) (by kernel_rfl) (by simp) ?_
    refine AllReadyH.cons rfl (fun KZ hK=>?_) AllReadyH.nil
    go_simp
    refine (HO.out _ HYr.out).mono ?_
    rintro e7 w7 ⟨rfl,hb7⟩
    have HY7:=hide (HYr.out.trans (hb7.mono HYr.out.size))
    clear hb7
    refine hK.out _ _ HY7.out (fun hHeld=>?_)
    clear hK KZ
    try simp only [Act.put,List.setIfInBounds_toArray,List.set_cons_zero,List.set_cons_succ]
    refine planS [7] ?_
    repeat' (first | refine pT hHeld rfl ?_ | refine pS hHeld rfl ?_)
    refine planE ?_
    refine wpAnyH_done (by kernel_rfl) ?_ _
    go_wp2
    have HD17:=hide HY7.out.drew
    refine wp_region_held_drew (S:=(fun w'=>Below wr.heap.size wr w')) (by kernel_rfl) HD17.out (fun hHeld=>?_)
    refine planS [0,1,2,3,4,5,6,7,8,9,10,11,12,13,14,15,16,17,18] ?_
    repeat' (first | refine pT hHeld rfl ?_ | refine pS hHeld rfl ?_)
    refine planE ?_
    refine wpAnyH_ready (rs:=[19]) (by kernel_rfl) (by simp) ?_
    refine AllReadyH.cons rfl (fun KZ hK=>?_) AllReadyH.nil
    go_simp
    refine (HFT.out _ HD17.out (by trivial)).mono ?_
    rintro e8 w8 ⟨rfl,hb8⟩
    have HY8:=hide (HD17.out.trans (hb8.mono HD17.out.size))
    clear hb8
    refine hK.out _ _ HY8.out (fun hHeld=>?_)
    clear hK KZ
    try simp only [Act.put,List.setIfInBounds_toArray,List.set_cons_zero,List.set_cons_succ]
    refine planS [20,21] ?_
    repeat' (first | refine pT hHeld rfl ?_ | refine pS hHeld rfl ?_)
    refine planE ?_
    refine wpAnyH_done (by kernel_rfl) ?_ _
    have HZ:=hide (HW.out.trans (HY8.out.mono HW.out.size))
    go_wp2
    go_roundw
    case rel=>exact ⟨j+1,by go_num,by omega,hide HN.out,hide HZ.out⟩
    case measure=>simp [intOf];omega
  ·
   obtain rfl:gn=j:=by omega
   obtain rfl:v=0:=by rw [←HE.out];exact tupErr_end (by rw [List.length_map];have:gL.length=gn:=HLen.out;omega)
   go_wp2
   clear b0 b1 b2 b3 b4 b5 b6 r0 r1 r2 r3 r4 r5 r6
   go_loopw [13] (fun i ws=>i=.int .i64 0∧Hid (Below WW.heap.size WW ws)) (fun i _=>0)
   case atStart=>exact ⟨rfl,hide HW.out⟩
   case round=>
    obtain ⟨rfl,HWs⟩:=hrel
    obtain ⟨b0,b1,b2,b3,b4,b5,b6,r0,r1,r2,r3,r4,r5,r6⟩:=hcx.out _ HWs.out
    by_cases hfz:gn=0
    ·
     have hfz2:¬(0:Int) < (gn:Int):=by omega
     clear hfz
     go_wp2
     go_ret
     exact ⟨rfl,HB.out.trans (HWs.out.mono HB.out.size)⟩
    ·
     have hfz2:(0:Int) < (gn:Int):=by omega
     clear hfz
     go_wp2
     go_ret
     exact ⟨rfl,HB.out.trans (HWs.out.mono HB.out.size)⟩
end Go.Proofs.YteeemjmohjkdpaaGreatDoor
