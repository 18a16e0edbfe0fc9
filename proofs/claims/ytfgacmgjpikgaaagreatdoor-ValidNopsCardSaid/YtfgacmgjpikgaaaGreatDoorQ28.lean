/- Part 29 of the contracts and their mathematics. -/
import Derived.Test.YtfgacmgjpikgaaaGreatDoorQ27
set_option linter.unusedVariables false
set_option linter.unusedSimpArgs false
set_option maxRecDepth 100000
set_option maxHeartbeats 4000000
namespace Go.Proofs.YtfgacmgjpikgaaaGreatDoor
open Go.RowKit
theorem tup_step {E:Env} {o:OpV} {u r:Int}:(if opErr E o≠0 then opErr E o else if fitT E o u=false then 22 else r)=if vaV E o u≠0 then vaV E o u else r:=by
 unfold vaV
 by_cases h:opErr E o=0
 ·
  cases hf:fitT E o u <;> simp [h]
 ·
  simp [h]
noncomputable def tuV (E:Env) (r:RvV) (t:Int):Int:=if (tyGet E.T t).kind≠4∨(tyGet E.T t).fields.length≠r.args.length then 22 else tupErr E r.args (tyGet E.T t).fields
theorem VcHz0 {P:Prop} (h:P:=by
 go_enter Tryz.func88,Tryz.ntmps88
 go_wp2_with fail
 refine HT.out.mono ?_
 rintro e1 w1 ⟨he1,hb1⟩
 obtain rfl:e1=.returned (.agg #[.int .i64 tk,.bool tmu,.int .i64 trg,.int .i64 tel,.slice fA fn fc]):=he1
 have HW1:=hide (Wy.new HK.out hb1)
 clear hb1
 have hbt:=(Below.refl w1.heap.size w1).alloc (Nat.le_refl _) (.cells #[.int .i64 tk,.bool tmu,.int .i64 trg,.int .i64 tel,.slice fA fn fc] 62)
 have HW2:=hide (HW1.out.up hbt)
 clear hbt
 obtain ⟨_,_,_,_,_,_,y6⟩:=wy7 H0.out HW2.out
 go_wp2
 go_ret
 exact ⟨rfl,(Turn.of_below HB.out).trans HW2.out.turn,HW2.out.ck⟩):P:=h
theorem VcHz1 {P:Prop} (h:P:=by
 obtain ⟨g0,g1,g2,g3,g4,g5⟩:=hcs.out _ HX0.out
 exact ⟨(hb4.turn.cell (p:=⟨wr.heap.size,0,none⟩) HL0.out HNS1.out).trans g0,(hb4.turn.cell (p:=⟨wr.heap.size,1,none⟩) HL0.out HNS1.out).trans g1,(hb4.turn.cell (p:=⟨wr.heap.size,2,none⟩) HL0.out HNS1.out).trans g2,(hb4.turn.cell (p:=⟨wr.heap.size,3,none⟩) HL0.out HNS1.out).trans g3,(hb4.turn.cell (p:=⟨w1.heap.size,4,none⟩) HL1.out HNS2.out).trans g4,(hb4.turn.cell (p:=⟨fb,fo+j,none⟩) HL2.out HNS3.out).trans g5⟩):P:=h
theorem ctup_is {K:CkW} {x:RvW} {i:Nat} {ty:TyW} {v:Int} {w:World} (h:Ck K w) (hx:OneRv w K.B x) (ht:K.x.types.L[i]?=some ty) (hv:tuV K.E x.v (i:Int)=v) :
 Calls Tryz.prog 88 #[K.ptr,aggRv x,.int .i64 (i:Int)] w fun e w'=>e=.returned (.int .i64 v)∧Wy K w w':=by
 have htt:(tys K.x.types.L)[i]?=some ty.t:=by
  show (K.x.types.L.map TyW.t)[i]?=_
  rw [List.getElem?_map,ht]
  rfl
 have hto:OneT w K.B ty:=h.one.types.all ty (List.mem_of_getElem? ht)
 obtain ⟨rk,op,rg,mu,⟨l,pA,pn,pc,ps⟩,⟨gA,gn,gc,gL⟩⟩:=x
 obtain ⟨⟨tk,tmu,trg,tel,fs⟩,fA,fn,fc⟩:=ty
 have HB:=hide (below1 w (.cells (cRv ⟨rk,op,rg,mu,⟨l,pA,pn,pc,ps⟩,⟨gA,gn,gc,gL⟩⟩).toArray 44))
 have HK:=hide (h.up HB.out)
 have H0:=hide h
 have HX:=hide (hx.below (HB.out.mono h.bs))
 have HTO:=hide (hto.below (HB.out.mono h.bs))
 have hgn:gL.length=gn:=hx.args.len
 have hgm:gn≤maxLen:=hx.args.nm
 unfold maxLen at hgm
 have hfn:fs.length=fn:=by have:=hto.rd.1;rw [List.length_map] at this;exact this
 have hfm:fn≤maxLen:=Nat.le_trans hto.ok.nc hto.ok.cm
 unfold maxLen at hfm
 clear hx hto
 have hv9:(if tk≠4∨fn≠gn then (22:Int) else tupErr K.E (gL.map OpW.v) fs)=v:=by
  rw [←hv,← hgn,← hfn,← List.length_map (f:=OpW.v)]
  show _=(if (tyGet (tys K.x.types.L) (i:Int)).kind≠4∨(tyGet (tys K.x.types.L) (i:Int)).fields.length≠(gL.map OpW.v).length then (22:Int) else tupErr K.E (gL.map OpW.v) (tyGet (tys K.x.types.L) (i:Int)).fields)
  rw [tyGet_at htt]
 clear hv
 have hv:=hv9
 clear hv9
 have hEl:∀ (q:Nat) (f:Int),tk=4→fs[q]?=some f→∃ (u:Nat) (y:TyW),f=(u:Int)∧K.x.types.L[u]?=some y:=fun q f h4 hq=>by
  obtain ⟨u,y,rfl,_,hu⟩:=(tyChk_iff.1 h.ok.ty).elem htt (p:=f) (by rw [tyParts_tup h4];exact List.mem_of_getElem? hq)
  obtain ⟨z,hz,_⟩:=tys_back hu
  exact ⟨u,z,rfl,hz⟩
 clear h htt
 have HEL:=hide hEl
 clear hEl
 have HT:=hide (ctypeAt_is HK.out ht)
 clear ht
 by_cases h4:tk=4
 case neg=>
  have t4:(tk != 4)=true:=by simp [h4]
  obtain rfl:v=22:=by rw [←hv,if_pos (.inl h4)]
  clear hv hgn hfn h4
  exact VcHz0
 have t4:(tk != 4)=false:=by simp [h4]
 by_cases hl:fn=gn
 case neg=>
  have tl:((fn:Int) != (gn:Int))=true:=by rw [bne_iff_ne];omega
  obtain rfl:v=22:=by rw [←hv,if_pos (.inr hl)]
  clear hv hgn hfn h4 hl
  exact VcHz0
 rw [if_neg (by omega)] at hv
 obtain rfl:fn=gn:=hl
 have tl:((fn:Int) != (fn:Int))=false:=by simp
 have HV:=hide hv
 clear hv
 have HLen:=hide hgn
 clear hgn
 have HFn:=hide hfn
 clear hfn
 have H4:=hide h4
 clear h4
 go_enter Tryz.func88,Tryz.ntmps88
 go_wp2_with fail
 refine HT.out.mono ?_
 rintro e1 w1 ⟨he1,hb1⟩
 obtain rfl:e1=.returned (.agg #[.int .i64 tk,.bool tmu,.int .i64 trg,.int .i64 tel,.slice fA fn fc]):=he1
 have HW1:=hide (Wy.new HK.out hb1)
 clear hb1
 have hbt:=(Below.refl w1.heap.size w1).alloc (Nat.le_refl _) (.cells #[.int .i64 tk,.bool tmu,.int .i64 trg,.int .i64 tel,.slice fA fn fc] 62)
 have HW2:=hide (HW1.out.up hbt)
 clear hbt
 obtain ⟨_,_,_,_,_,_,y6⟩:=wy7 H0.out HW2.out
 go_wp2
 go_loopw [29] (fun i wr=>∃ j:Nat,i=.int .i64 (j:Int)∧j≤fn∧Hid (tupErr K.E ((gL.map OpW.v).drop j) (fs.drop j)=v)∧Hid (Wy K (w1.alloc (.cells #[.int .i64 tk,.bool tmu,.int .i64 trg,.int .i64 tel,.slice fA fn fc] 62)) wr)) (fun i _=>fn - (intOf i).toNat)
 case atStart=>exact ⟨0,rfl,Nat.zero_le _,hide HV.out,hide (Wy.refl HW2.out.ck)⟩
 case round=>
  obtain ⟨j,rfl,hj,HE,HW⟩:=hrel
  have HWa:=hide (HW2.out.trans HW.out)
  by_cases hlt:j < fn
  ·
   have hlt':(j:Int) < (fn:Int):=by omega
   obtain ⟨p,hp⟩:∃ p,gL[j]?=some p:=⟨_,List.getElem?_eq_getElem (by have:gL.length=fn:=HLen.out;omega)⟩
   obtain ⟨f,hf⟩:∃ f,fs[j]?=some f:=⟨_,List.getElem?_eq_getElem (by have:fs.length=fn:=HFn.out;omega)⟩
   have hpv:(gL.map OpW.v)[j]?=some p.v:=by rw [List.getElem?_map,hp];rfl
   obtain ⟨u,yt,rfl,hu⟩:=HEL.out j f H4.out hf
   have hax:Ops wr K.B ⟨gA,fn,gc,gL⟩:=Ops.below (HWa.out.low HK.out) HX.out.args
   obtain ⟨b,o,hA,_,hone,hc⟩:=hax.at_ hp
   have hA:gA=some ⟨b,o,none⟩:=hA
   subst hA
   have hfx:Rd wr K.B fA fn (i64s fs):=(HTO.out.below (HWa.out.low HK.out)).rd
   obtain ⟨fb,fo,hFA,hfB,hfc⟩:=hfx.2 (by omega)
   have hFA:fA=some ⟨fb,fo,none⟩:=hFA
   subst hFA
   have cf:wr.cell? ⟨fb,fo+j,none⟩=some (.int .i64 (u:Int)):=hfc j _ (by rw [List.getElem?_map,hf];rfl)
   obtain ⟨kq,⟨lq,qA,qn,qc,qs⟩,nq⟩:=p
   have c0:wr.cell? ⟨b,o+j*4,none⟩=some (.int .i64 kq):=hc 0 _ rfl
   have c1:wr.cell? ⟨b,o+j*4+1,none⟩=some (.int .i64 lq):=hc 1 _ rfl
   have c2:wr.cell? ⟨b,o+j*4+2,none⟩=some (.slice qA qn qc):=hc 2 _ rfl
   have c3:wr.cell? ⟨b,o+j*4+3,none⟩=some (.int .i64 nq):=hc 3 _ rfl
   have HS:=hide (tupErr_at (E:=K.E) hpv hf)
   have hWB:=(Below.refl wr.heap.size wr).alloc (Nat.le_refl _) (.cells (cOp ⟨kq,⟨lq,qA,qn,qc,qs⟩,nq⟩).toArray 38)
   have HW3:=hide (HW.out.up hWB)
   have HO2:=hide (hone.below (hWB.mono HW.out.ck.bs))
   obtain ⟨c,hcv⟩:∃ c,vaV K.E (OpW.v ⟨kq,⟨lq,qA,qn,qc,qs⟩,nq⟩) (u:Int)=c:=⟨_,rfl⟩
   have HCV:=hide hcv
   have hfbl:fb < wr.heap.size:=by
    apply Decidable.byContradiction
    intro hge
    have h2:wr.heap[fb]?=none:=Array.getElem?_eq_none (by omega)
    simp [World.cell?,h2] at cf
   have hcs:=hide fun (w':World) (hb:Below (wr.alloc (.cells (cOp ⟨kq,⟨lq,qA,qn,qc,qs⟩,nq⟩).toArray 38)).heap.size (wr.alloc (.cells (cOp ⟨kq,⟨lq,qA,qn,qc,qs⟩,nq⟩).toArray 38)) w')=>(show w'.cell? ⟨wr.heap.size,0,none⟩=some (.int .i64 kq)∧w'.cell? ⟨wr.heap.size,1,none⟩=some (.int .i64 lq)∧w'.cell? ⟨wr.heap.size,2,none⟩=some (.slice qA qn qc)∧w'.cell? ⟨wr.heap.size,3,none⟩=some (.int .i64 nq)∧w'.cell? ⟨w1.heap.size,4,none⟩=some (.slice (some ⟨fb,fo,none⟩) fn fc)∧w'.cell? ⟨fb,fo+j,none⟩=some (.int .i64 (u:Int)) from by
    have hcx:=one_cells (w:=wr) (cs:=cOp ⟨kq,⟨lq,qA,qn,qc,qs⟩,nq⟩) (T:=38) hb
    have hct:=Wy.box (cs:=[.int .i64 tk,.bool tmu,.int .i64 trg,.int .i64 tel,.slice (some ⟨fb,fo,none⟩) fn fc]) (T:=62) HW1.out.ck (HW3.out.up hb)
    exact ⟨hcx 0 _ rfl,hcx 1 _ rfl,hcx 2 _ rfl,hcx 3 _ rfl,hct 4 _ rfl,((hWB.trans (hb.mono hWB.size)).cell (p:=⟨fb,fo+j,none⟩) hfbl).trans cf⟩)
   have HC:=hide fun (w':World) (hb:Below (wr.alloc (.cells (cOp ⟨kq,⟨lq,qA,qn,qc,qs⟩,nq⟩).toArray 38)).heap.size (wr.alloc (.cells (cOp ⟨kq,⟨lq,qA,qn,qc,qs⟩,nq⟩).toArray 38)) w')=>cval_is (HW3.out.ck.up hb) (HO2.out.below (hb.mono HW3.out.ck.bs)) hu hcv
   have HNS1:=hide (show ¬K.S wr.heap.size from fun q=>Nat.lt_irrefl _ (HW.out.ck.sLt _ q))
   have HNS2:=hide (show ¬K.S w1.heap.size from fun q=>Nat.lt_irrefl _ (HW1.out.ck.sLt _ q))
   have HNS3:=hide (show ¬K.S fb from fun q=>by have:=HW1.out.ck.sB _ q;omega)
   have HL1:=hide (show w1.heap.size < (wr.alloc (.cells (cOp ⟨kq,⟨lq,qA,qn,qc,qs⟩,nq⟩).toArray 38)).heap.size from by have h1:=HW.out.turn.size;have h2:=hWB.size;simp at h1;omega)
   have HL0:=hide (show wr.heap.size < (wr.alloc (.cells (cOp ⟨kq,⟨lq,qA,qn,qc,qs⟩,nq⟩).toArray 38)).heap.size from by simp)
   clear hp hpv hax hone hc hcv hfx hfc hf hu
   have HL2:=hide (show fb < (wr.alloc (.cells (cOp ⟨kq,⟨lq,qA,qn,qc,qs⟩,nq⟩).toArray 38)).heap.size from Nat.lt_of_lt_of_le hfbl hWB.size)
   clear hWB
   have HT9:=hide (tup_step (E:=K.E) (o:=OpW.v ⟨kq,⟨lq,qA,qn,qc,qs⟩,nq⟩) (u:=(u:Int)) (r:=tupErr K.E ((gL.map OpW.v).drop (j+1)) (fs.drop (j+1))))
   by_cases h0:c=0
   ·
    subst h0
    have HN:=hide (show tupErr K.E ((gL.map OpW.v).drop (j+1)) (fs.drop (j+1))=v from by have h1:=HT9.out;rw [HCV.out] at h1;rw [←HE.out,HS.out,h1,if_neg (by simp)])
    go_wp2
    have HX0:=hide ((Below.refl (wr.alloc (.cells (cOp ⟨kq,⟨lq,qA,qn,qc,qs⟩,nq⟩).toArray 38)).heap.size (wr.alloc (.cells (cOp ⟨kq,⟨lq,qA,qn,qc,qs⟩,nq⟩).toArray 38))).drew)
    refine wp_region_held_drew (S:=(fun w'=>w'.cell? ⟨wr.heap.size,0,none⟩=some (.int .i64 kq)∧w'.cell? ⟨wr.heap.size,1,none⟩=some (.int .i64 lq)∧w'.cell? ⟨wr.heap.size,2,none⟩=some (.slice qA qn qc)∧w'.cell? ⟨wr.heap.size,3,none⟩=some (.int .i64 nq)∧w'.cell? ⟨w1.heap.size,4,none⟩=some (.slice (some ⟨fb,fo,none⟩) fn fc)∧w'.cell? ⟨fb,fo+j,none⟩=some (.int .i64 (u:Int)))) (by kernel_rfl) (hcs.out _ HX0.out) (fun hHeld=>?_)
    refine planS [0,1,2,3,4,5,6] ?_
    repeat' (first | refine pT hHeld rfl ?_ | refine pS hHeld rfl ?_)
    refine planE ?_
    refine wpAnyH_ready (rs:=[7]) (by kernel_rfl) (by simp) ?_
    refine AllReadyH.cons rfl (fun KZ hK=>?_) AllReadyH.nil
    go_simp
    refine (HC.out _ HX0.out).mono ?_
    rintro e4 w4 ⟨rfl,hb4⟩
    have HW4:=hide ((HW3.out.up HX0.out).trans hb4)
    refine hK.out _ _ ?_ (fun hHeld=>?_)
    ·
     exact VcHz1
    clear hK KZ
    try simp only [Act.put,List.setIfInBounds_toArray,List.set_cons_zero,List.set_cons_succ]
    refine planS [8] ?_
    repeat' (first | refine pT hHeld rfl ?_ | refine pS hHeld rfl ?_)
    refine planE ?_
    refine wpAnyH_done (by kernel_rfl) ?_ _
    go_wp2
    go_roundw
    case rel=>exact ⟨j+1,by go_num,by omega,hide HN.out,hide HW4.out⟩
    case measure=>simp [intOf];omega
   ·
    have t0:(c != 0)=true:=by simp [h0]
    have HN:=hide (show v=c from by have h1:=HT9.out;rw [HCV.out] at h1;rw [←HE.out,HS.out,h1,if_pos h0])
    clear h0
    go_wp2
    have HX0:=hide ((Below.refl (wr.alloc (.cells (cOp ⟨kq,⟨lq,qA,qn,qc,qs⟩,nq⟩).toArray 38)).heap.size (wr.alloc (.cells (cOp ⟨kq,⟨lq,qA,qn,qc,qs⟩,nq⟩).toArray 38))).drew)
    refine wp_region_held_drew (S:=(fun w'=>w'.cell? ⟨wr.heap.size,0,none⟩=some (.int .i64 kq)∧w'.cell? ⟨wr.heap.size,1,none⟩=some (.int .i64 lq)∧w'.cell? ⟨wr.heap.size,2,none⟩=some (.slice qA qn qc)∧w'.cell? ⟨wr.heap.size,3,none⟩=some (.int .i64 nq)∧w'.cell? ⟨w1.heap.size,4,none⟩=some (.slice (some ⟨fb,fo,none⟩) fn fc)∧w'.cell? ⟨fb,fo+j,none⟩=some (.int .i64 (u:Int)))) (by kernel_rfl) (hcs.out _ HX0.out) (fun hHeld=>?_)
    refine planS [0,1,2,3,4,5,6] ?_
    repeat' (first | refine pT hHeld rfl ?_ | refine pS hHeld rfl ?_)
    refine planE ?_
    refine wpAnyH_ready (rs:=[7]) (by kernel_rfl) (by simp) ?_
    refine AllReadyH.cons rfl (fun KZ hK=>?_) AllReadyH.nil
    go_simp
    refine (HC.out _ HX0.out).mono ?_
    rintro e4 w4 ⟨rfl,hb4⟩
    have HW4:=hide ((HW3.out.up HX0.out).trans hb4)
    refine hK.out _ _ ?_ (fun hHeld=>?_)
    ·
     exact VcHz1
    clear hK KZ
    try simp only [Act.put,List.setIfInBounds_toArray,List.set_cons_zero,List.set_cons_succ]
    refine planS [8] ?_
    repeat' (first | refine pT hHeld rfl ?_ | refine pS hHeld rfl ?_)
    refine planE ?_
    refine wpAnyH_done (by kernel_rfl) ?_ _
    go_wp2
    go_ret
    exact ⟨congrArg (fun v=>Ending.returned (.int .i64 v)) HN.out.symm,(Turn.of_below HB.out).trans (HW2.out.trans HW4.out).turn,HW4.out.ck⟩
  ·
   obtain rfl:fn=j:=by omega
   obtain rfl:v=0:=by rw [←HE.out];exact tupErr_end (by rw [List.length_map];have:gL.length=fn:=HLen.out;omega)
   go_wp2
   go_ret
   exact ⟨rfl,(Turn.of_below HB.out).trans HWa.out.turn,HWa.out.ck⟩
end Go.Proofs.YtfgacmgjpikgaaaGreatDoor
