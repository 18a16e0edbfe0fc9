/- Part 30 of the contracts and their mathematics. -/
import Derived.Test.YtfgacmgjpikgaaaGreatDoorQ26
set_option linter.unusedVariables false
set_option linter.unusedSimpArgs false
set_option maxRecDepth 100000
set_option maxHeartbeats 8000000
namespace Go.Proofs.YtfgacmgjpikgaaaGreatDoor
open Go.RowKit
theorem regP_rng {T:List Ty} {rg:Int} (h:TyOk T rg) (h0:0 < rg) {lc:List Int} {l:Int} {ps:List Pr} {x:Int} (hx:x∈regP T lc l ps):0≤x∧x < rg:=by
 unfold regP at hx
 obtain ⟨t,ht,rfl⟩:=List.mem_map.1 hx
 unfold refP at ht
 split at ht
 ·
  obtain ⟨j,hj,e⟩:=List.mem_iff_getElem.1 (refTo_mem ht)
  have hj':T[j]?=some t:=by rw [List.getElem?_eq_getElem hj,e]
  have hown:=h.own hj'
  by_cases h3:t.kind=3
  ·
   exact hown.2.2.2.1 h3
  ·
   rw [(hown.2.1 h3).2.1]
   omega
 ·
  cases ht
def regErr (O:Int→Int→Bool) (r:Int):List Int→Int
 | []=>0
 | a :: l=>if O a r=false then 22 else regErr O r l
theorem regErr_all {O:Int→Int→Bool} {r:Int}:∀ (l:List Int),regErr O r l=if l.all (fun a=>O a r) then 0 else 22
 | []=>rfl
 | a :: l=>by
  show (if O a r=false then (22:Int) else regErr O r l)=_
  rw [regErr_all l,List.all_cons]
  cases O a r <;> simp
theorem regErr_at {O:Int→Int→Bool} {r a:Int} {l:List Int} {k:Nat} (h:l[k]?=some a):regErr O r (l.drop k)=if O a r=false then 22 else regErr O r (l.drop (k+1)):=by rw [drop_at10 h];rfl
theorem regErr_end {O:Int→Int→Bool} {r:Int} {l:List Int} {k:Nat} (h:l.length≤k):regErr O r (l.drop k)=0:=by rw [drop_end10 h];rfl
theorem new_ref {w:World} {B:Nat} {mu:Bool} {rg el:Int} (h1:IntR rg) (h2:IntR el):OneT w B ⟨⟨3,mu,rg,el,[]⟩,none,0,0⟩:=
 ⟨⟨Nat.le_refl _,Nat.zero_le _,rfl,(by show IntR 3;unfold IntR;omega),h1,h2,fun y hy=>by cases hy⟩,rfl,fun h=>absurd h (Nat.lt_irrefl 0)⟩
theorem VcIz0 {P:Prop} (h:P:=by
 refine planS [0,1,2,3,4,5,6,7,8,9,10,11,14] ?_
 repeat' (first | refine pT hHeld rfl ?_ | refine pS hHeld rfl ?_)
 refine planE ?_
 refine wpAnyH_ready (rs:=[12]) (by kernel_rfl) (by simp) ?_
 refine AllReadyH.cons rfl (fun KZ hK=>?_) AllReadyH.nil
 go_simp
 refine (HRG.out _ HX5.out).mono ?_
 rintro e6 w6 ⟨rA,rm,rc,rfl,hrm40,hrmc,hrcm,hrow,hb6⟩
 have HROW:=hide hrow
 clear hrow
 have HB6:=hide hb6
 have HW6:=hide (HX5.out.up hb6)
 clear hb6
 unfold maxLen at hrcm
 refine hK.out _ _ (hcs.out _ HW6.out) (fun hHeld=>?_)
 clear hK KZ
 try simp only [Act.put,List.setIfInBounds_toArray,List.set_cons_zero,List.set_cons_succ]
 refine planS [13] ?_
 repeat' (first | refine pT hHeld rfl ?_ | refine pS hHeld rfl ?_)
 refine planE ?_
 refine wpAnyH_done (by kernel_rfl) ?_ _
 have hRlen:RL.length=rm:=by have h1:=HROW.out.1;rw [Nat.mul_one,List.length_map] at h1;exact h1
 go_wp2
 go_loopw [68] (fun i wr=>∃ j:Nat,i=.int .i64 (j:Int)∧j≤rm∧Hid (regErr (out K.x.outl.L ((K.x.regions.L.length:Nat):Int)) rg (RL.drop j)=v)∧Hid (Wy K w6 wr)) (fun i _=>rm - (intOf i).toNat)
 case atStart=>exact ⟨0,rfl,Nat.zero_le _,hide HV.out,hide (Wy.refl HW6.out.ck)⟩
 case round=>
  obtain ⟨j,rfl,hj,HE,HW⟩:=hrel
  have HWa:=hide (HW6.out.trans HW.out)
  by_cases hlt:j < rm
  ·
   have hlt':(j:Int) < (rm:Int):=by omega
   obtain ⟨a,ha⟩:∃ a,RL[j]?=some a:=⟨_,List.getElem?_eq_getElem (by omega)⟩
   obtain ⟨gg,cap,hgv,hgb,hgl⟩:=HROW.out.form (by omega)
   have hgA:rA=some ⟨gg,0,none⟩:=by injection hgv
   clear hgv
   subst hgA
   have hrd:=(Rd.of_own HROW.out).2 (by omega)
   obtain ⟨b2,o2,hA2,_,hcc⟩:=hrd
   obtain ⟨rfl,rfl⟩:gg=b2∧0=o2:=by injection hA2 with e;injection e with e1 e2;exact ⟨e1,e2⟩
   have hnS:¬K.S gg:=fun q=>by have h1:=HX5.out.ck.sLt _ q;omega
   have ca:wr.cell? ⟨gg,j,none⟩=some (.int .i64 a):=(HW.out.turn.cell (p:=⟨gg,j,none⟩) hgl hnS).trans (by have h1:=hcc j _ (by rw [List.getElem?_map,ha];rfl);rwa [Nat.zero_add] at h1)
   have haR:=HRN.out a (List.mem_of_getElem? ha)
   obtain ⟨c,hcv⟩:∃ c,out K.x.outl.L ((K.x.regions.L.length:Nat):Int) a rg=c:=⟨_,rfl⟩
   have HS:=hide (regErr_at (O:=out K.x.outl.L ((K.x.regions.L.length:Nat):Int)) (r:=rg) ha)
   have HO:=hide (cout_is HWa.out.ck (s:=a) (t:=rg) (by have h1:=haR.1;have h2:=haR.2;unfold IntR;omega) HRR.out ⟨⟨haR.1,haR.2⟩,HRI.out.1,HRI.out.2⟩ hcv)
   have HCV:=hide hcv
   obtain ⟨s0,s1,s2,s3,s4,s5,s6⟩:=hcs.out _ HWa.out
   clear ha hcc haR hcv hA2 hgb hgl hnS
   cases c
   ·
    have HN:=hide (show v=22 from by rw [←HE.out,HS.out,HCV.out];rfl)
    go_wp2_with fail
    refine HO.out.mono ?_
    rintro e7 w7 ⟨rfl,hb7⟩
    have HW7:=hide (HWa.out.trans hb7)
    clear hb7
    go_wp2
    go_ret
    exact ⟨congrArg (fun v=>Ending.returned (.int .i64 v)) HN.out.symm,(Turn.of_below HB.out).trans HW7.out.turn,HW7.out.ck⟩
   ·
    have HN:=hide (show regErr (out K.x.outl.L ((K.x.regions.L.length:Nat):Int)) rg (RL.drop (j+1))=v from by rw [←HE.out,HS.out,HCV.out];rfl)
    go_wp2_with fail
    refine HO.out.mono ?_
    rintro e7 w7 ⟨rfl,hb7⟩
    have HW7:=hide (HW.out.trans hb7)
    clear hb7
    go_wp2
    go_roundw
    case rel=>exact ⟨j+1,by go_num,by omega,hide HN.out,hide HW7.out⟩
    case measure=>simp [intOf];omega
  ·
   obtain rfl:rm=j:=by omega
   obtain rfl:v=0:=by rw [←HE.out];exact regErr_end (by omega)
   go_wp2
   go_ret
   exact ⟨rfl,(Turn.of_below HB.out).trans HWa.out.turn,HWa.out.ck⟩):P:=h
theorem cbor_is {K:CkW} {x:RvW} {i:Nat} {ty:TyW} {v:Int} {w:World} (h:Ck K w) (hx:OneRv w K.B x) (ht:K.x.types.L[i]?=some ty) (hv:boErr K.E x.v (i:Int)=v) :
 Calls Tryz.prog 87 #[K.ptr,aggRv x,.int .i64 (i:Int)] w fun e w'=>e=.returned (.int .i64 v)∧Wy K w w':=by
 have htt:(tys K.x.types.L)[i]?=some ty.t:=by
  show (K.x.types.L.map TyW.t)[i]?=_
  rw [List.getElem?_map,ht]
  rfl
 have hto:OneT w K.B ty:=h.one.types.all ty (List.mem_of_getElem? ht)
 have hok:=tyChk_iff.1 h.ok.ty
 have hrn:=h.one.regions.len
 have hrm:=h.one.regions.nm
 unfold maxLen at hrm
 obtain ⟨rk,op,rg,mu,⟨l,pA,pn,pc,ps⟩,⟨gA,gn,gc,gL⟩⟩:=x
 obtain ⟨tu,htu⟩:∃ u,(tyV K.E (PlW.v ⟨l,pA,pn,pc,ps⟩)).1=u:=⟨_,rfl⟩
 obtain ⟨te,hte⟩:∃ u,(tyV K.E (PlW.v ⟨l,pA,pn,pc,ps⟩)).2=u:=⟨_,rfl⟩
 obtain ⟨mm,hmm⟩:∃ u,muV K.E (PlW.v ⟨l,pA,pn,pc,ps⟩)=u:=⟨_,rfl⟩
 obtain ⟨RL,hRL⟩:∃ z,regP (tys K.x.types.L) (lcs K.x.locals.L) l ps=z:=⟨_,rfl⟩
 have hRng:0 < K.x.regions.n→∀ a∈RL,0≤a∧a < (K.x.regions.n:Int):=fun h0 a ha=>by
  have h1:=regP_rng hok (rg:=_) (by show 0 < (((K.x.v).regions.length:Nat):Int);show 0 < ((K.x.regions.L.length:Nat):Int);omega) (lc:=lcs K.x.locals.L) (l:=l) (ps:=ps) (x:=a) (hRL ▸ ha)
  have h2:a < ((K.x.regions.L.length:Nat):Int):=h1.2
  exact ⟨h1.1,by omega⟩
 have hv9:(if te≠0 then te else if rg < 0∨(K.x.regions.n:Int)≤rg then 3 else if ty.t.kind≠3∨ty.t.region≠rg∨ty.t.mut_≠mu∨ty.t.elem≠tu∨(mu=true∧mm=false) then 22 else regErr (out K.x.outl.L ((K.x.regions.L.length:Nat):Int)) rg RL)=v:=by
  rw [←hv,← htu,← hte,← hmm,regErr_all,← hRL,← hrn]
  show _=(if (tyV K.E (PlW.v ⟨l,pA,pn,pc,ps⟩)).2≠0 then (tyV K.E (PlW.v ⟨l,pA,pn,pc,ps⟩)).2 else if rg < 0∨((K.x.regions.L.length:Nat):Int)≤rg then 3 else if (tyGet (tys K.x.types.L) (i:Int)).kind≠3∨(tyGet (tys K.x.types.L) (i:Int)).region≠rg∨(tyGet (tys K.x.types.L) (i:Int)).mut_≠mu∨(tyGet (tys K.x.types.L) (i:Int)).elem≠(tyV K.E (PlW.v ⟨l,pA,pn,pc,ps⟩)).1∨(mu=true∧muV K.E (PlW.v ⟨l,pA,pn,pc,ps⟩)=false) then 22 else if (regP (tys K.x.types.L) (lcs K.x.locals.L) l ps).all (fun a=>out K.x.outl.L ((K.x.regions.L.length:Nat):Int) a rg) then 0 else 22)
  rw [tyGet_at htt]
 clear hv
 have hv:=hv9
 clear hv9
 have hfs:ty.t.kind=3→ty.t.fields=[]:=fun h3=>(hok.own htt).2.2.1 (by omega)
 have hrgR:IntR rg:=hx.region
 have htv:tyV K.E (PlW.v ⟨l,pA,pn,pc,ps⟩)=(tu,te):=Prod.ext htu hte
 obtain ⟨⟨tk,tmu,trg,tel,fs⟩,fA,fn,fc⟩:=ty
 have hv:(if te≠0 then te else if rg < 0∨(K.x.regions.n:Int)≤rg then 3 else if tk≠3∨trg≠rg∨tmu≠mu∨tel≠tu∨(mu=true∧mm=false) then 22 else regErr (out K.x.outl.L ((K.x.regions.L.length:Nat):Int)) rg RL)=v:=hv
 have hfs:tk=3→fs=[]:=hfs
 have H0:=hide h
 have HRL:=hide hRL
 by_cases he:te=0
 case neg=>
  have t0:(te != 0)=true:=by simp [he]
  rw [if_pos he] at hv
  obtain rfl:te=v:=hv
  clear h ht htt hto hok htu hte hmm hRng hfs hrgR he hRL
  have HB:=hide (below1 w (.cells (cRv ⟨rk,op,rg,mu,⟨l,pA,pn,pc,ps⟩,⟨gA,gn,gc,gL⟩⟩).toArray 44))
  have HK:=hide (H0.out.up HB.out)
  have HX:=hide (hx.below (HB.out.mono H0.out.bs))
  clear hx
  have hcs:=hide fun (w':World) (hb:Wy K (w.alloc (.cells (cRv ⟨rk,op,rg,mu,⟨l,pA,pn,pc,ps⟩,⟨gA,gn,gc,gL⟩⟩).toArray 44)) w')=>(show w'.cell? ⟨w.heap.size,2,none⟩=some (.int .i64 rg)∧w'.cell? ⟨w.heap.size,3,none⟩=some (.bool mu)∧w'.cell? ⟨w.heap.size,4,none⟩=some (.int .i64 l)∧w'.cell? ⟨w.heap.size,5,none⟩=some (.slice pA pn pc)∧w'.cell? ⟨K.g,1,none⟩=some (.slice K.x.regions.A K.x.regions.n K.x.regions.c)∧w'.cell? ⟨K.g,3,none⟩=some (.slice K.x.types.A K.x.types.n K.x.types.c)∧w'.cell? ⟨K.g,4,none⟩=some (.slice K.x.locals.A K.x.locals.n K.x.locals.c) from by
   have hcx:=Wy.box (cs:=cRv ⟨rk,op,rg,mu,⟨l,pA,pn,pc,ps⟩,⟨gA,gn,gc,gL⟩⟩) (T:=44) H0.out hb
   exact ⟨hcx 2 _ rfl,hcx 3 _ rfl,hcx 4 _ rfl,hcx 5 _ rfl,hb.ck.cells 1 _ rfl,hb.ck.cells 3 _ rfl,hb.ck.cells 4 _ rfl⟩)
  have HC:=hide (ctypeOf_is HK.out HX.out.pl htv)
  clear htv
  go_enter Tryz.func87,Tryz.ntmps87
  go_wp2_with fail
  refine HC.out.mono ?_
  rintro e1 w1 ⟨rfl,hb1⟩
  have HW1:=hide (Wy.new HK.out hb1)
  clear hb1
  go_wp2
  go_ret
  exact ⟨rfl,(Turn.of_below HB.out).trans HW1.out.turn,HW1.out.ck⟩
 have t0:(te != 0)=false:=by simp [he]
 rw [if_neg (by omega)] at hv
 by_cases hr:rg < 0∨(K.x.regions.n:Int)≤rg
 case pos=>
  rw [if_pos hr] at hv
  obtain rfl:v=3:=hv.symm
  have HB:=hide (below1 w (.cells (cRv ⟨rk,op,rg,mu,⟨l,pA,pn,pc,ps⟩,⟨gA,gn,gc,gL⟩⟩).toArray 44))
  have HK:=hide (H0.out.up HB.out)
  have HX:=hide (hx.below (HB.out.mono H0.out.bs))
  have hcs:=hide fun (w':World) (hb:Wy K (w.alloc (.cells (cRv ⟨rk,op,rg,mu,⟨l,pA,pn,pc,ps⟩,⟨gA,gn,gc,gL⟩⟩).toArray 44)) w')=>(show w'.cell? ⟨w.heap.size,2,none⟩=some (.int .i64 rg)∧w'.cell? ⟨w.heap.size,3,none⟩=some (.bool mu)∧w'.cell? ⟨w.heap.size,4,none⟩=some (.int .i64 l)∧w'.cell? ⟨w.heap.size,5,none⟩=some (.slice pA pn pc)∧w'.cell? ⟨K.g,1,none⟩=some (.slice K.x.regions.A K.x.regions.n K.x.regions.c)∧w'.cell? ⟨K.g,3,none⟩=some (.slice K.x.types.A K.x.types.n K.x.types.c)∧w'.cell? ⟨K.g,4,none⟩=some (.slice K.x.locals.A K.x.locals.n K.x.locals.c) from by
   have hcx:=Wy.box (cs:=cRv ⟨rk,op,rg,mu,⟨l,pA,pn,pc,ps⟩,⟨gA,gn,gc,gL⟩⟩) (T:=44) H0.out hb
   exact ⟨hcx 2 _ rfl,hcx 3 _ rfl,hcx 4 _ rfl,hcx 5 _ rfl,hb.ck.cells 1 _ rfl,hb.ck.cells 3 _ rfl,hb.ck.cells 4 _ rfl⟩)
  have HC:=hide (ctypeOf_is HK.out HX.out.pl htv)
  have HIN:=hide (show tyIn rg (K.x.regions.n:Int)=false from tyIn_not.2 (by omega))
  clear h hx ht htt hto hok htu hte hmm hRng hfs hrgR htv he hRL hr
  go_enter Tryz.func87,Tryz.ntmps87
  go_wp2_with fail
  refine HC.out.mono ?_
  rintro e1 w1 ⟨rfl,hb1⟩
  have HW1:=hide (Wy.new HK.out hb1)
  clear hb1
  obtain ⟨s0,s1,s2,s3,s4,s5,s6⟩:=hcs.out _ HW1.out
  go_wp2
  have HX1:=hide (HW1.out.drew)
  refine wp_region_held_drew (S:=(fun w'=>w'.cell? ⟨w.heap.size,2,none⟩=some (.int .i64 rg)∧w'.cell? ⟨w.heap.size,3,none⟩=some (.bool mu)∧w'.cell? ⟨w.heap.size,4,none⟩=some (.int .i64 l)∧w'.cell? ⟨w.heap.size,5,none⟩=some (.slice pA pn pc)∧w'.cell? ⟨K.g,1,none⟩=some (.slice K.x.regions.A K.x.regions.n K.x.regions.c)∧w'.cell? ⟨K.g,3,none⟩=some (.slice K.x.types.A K.x.types.n K.x.types.c)∧w'.cell? ⟨K.g,4,none⟩=some (.slice K.x.locals.A K.x.locals.n K.x.locals.c))) (by kernel_rfl) (hcs.out _ HX1.out) (fun hHeld=>?_)
  refine planS [0,1,2,3,4,5,6,7] ?_
  repeat' (first | refine pT hHeld rfl ?_ | refine pS hHeld rfl ?_)
  refine planE ?_
  refine wpAnyH_ready (rs:=[8]) (by kernel_rfl) (by simp) ?_
  refine AllReadyH.cons rfl (fun KZ hK=>?_) AllReadyH.nil
  go_simp
  refine (vwithin_is HIN.out _).mono ?_
  rintro e2 w2 ⟨rfl,rfl⟩
  refine hK.out _ _ (hcs.out _ HX1.out) (fun hHeld=>?_)
  clear hK KZ
  try simp only [Act.put,List.setIfInBounds_toArray,List.set_cons_zero,List.set_cons_succ]
  refine planS [9,10] ?_
  repeat' (first | refine pT hHeld rfl ?_ | refine pS hHeld rfl ?_)
  refine planE ?_
  refine wpAnyH_done (by kernel_rfl) ?_ _
  go_wp2
  go_ret
  exact ⟨rfl,(Turn.of_below HB.out).trans HX1.out.turn,HX1.out.ck⟩
 rw [if_neg hr] at hv
 have hri:0≤rg∧rg < (K.x.regions.n:Int):=by omega
 have HRI:=hide hri
 have HIN:=hide (show tyIn rg (K.x.regions.n:Int)=true from tyIn_iff.2 hri)
 have HRN:=hide (hRng (by omega))
 have HRR:=hide hrgR
 obtain ⟨iu,tyu,htui,_⟩:=h.vb.ty (p:=PlW.v ⟨l,pA,pn,pc,ps⟩) (hte.trans he)
 have htuR:IntR tu:=by
  have h1:tu=(iu:Int):=htu.symm.trans htui
  have h2:=h.few
  have h3:=h.one.types.len
  have h4:iu < K.x.types.L.length:=(List.getElem?_eq_some_iff.1 (by assumption)).1
  unfold IntR
  omega
 obtain ⟨q,hq⟩:∃ q,eqTy ⟨tk,tmu,trg,tel,fs⟩ ⟨3,mu,rg,tu,[]⟩=q:=⟨_,rfl⟩
 have hqi:q=true↔(tk=3∧tmu=mu∧trg=rg∧tel=tu):=by
  rw [←hq]
  unfold eqTy
  rw [decide_eq_true_iff]
  constructor
  ·
   intro e;injection e with e1 e2 e3 e4 e5;exact ⟨e1,e2,e3,e4⟩
  ·
   rintro ⟨rfl,rfl,rfl,rfl⟩;rw [hfs rfl]
 cases q
 case false=>
  have hc:tk≠3∨trg≠rg∨tmu≠mu∨tel≠tu∨(mu=true∧mm=false):=by
   by_cases h1:tk=3
   ·
    by_cases h2:tmu=mu
    ·
     by_cases h3:trg=rg
     ·
      by_cases h4:tel=tu
      ·
       exact absurd (hqi.2 ⟨h1,h2,h3,h4⟩) (by simp)
      ·
       exact .inr (.inr (.inr (.inl h4)))
     ·
      exact .inr (.inl h3)
    ·
     exact .inr (.inr (.inl h2))
   ·
    exact .inl h1
  rw [if_pos hc] at hv
  obtain rfl:v=22:=hv.symm
  clear h htt hok htu hte hmm hRng hfs hrgR he hRL hr hri htui hqi hc
  have HB:=hide (below1 w (.cells (cRv ⟨rk,op,rg,mu,⟨l,pA,pn,pc,ps⟩,⟨gA,gn,gc,gL⟩⟩).toArray 44))
  have HK:=hide (H0.out.up HB.out)
  have HX:=hide (hx.below (HB.out.mono H0.out.bs))
  clear hx
  have hcs:=hide fun (w':World) (hb:Wy K (w.alloc (.cells (cRv ⟨rk,op,rg,mu,⟨l,pA,pn,pc,ps⟩,⟨gA,gn,gc,gL⟩⟩).toArray 44)) w')=>(show w'.cell? ⟨w.heap.size,2,none⟩=some (.int .i64 rg)∧w'.cell? ⟨w.heap.size,3,none⟩=some (.bool mu)∧w'.cell? ⟨w.heap.size,4,none⟩=some (.int .i64 l)∧w'.cell? ⟨w.heap.size,5,none⟩=some (.slice pA pn pc)∧w'.cell? ⟨K.g,1,none⟩=some (.slice K.x.regions.A K.x.regions.n K.x.regions.c)∧w'.cell? ⟨K.g,3,none⟩=some (.slice K.x.types.A K.x.types.n K.x.types.c)∧w'.cell? ⟨K.g,4,none⟩=some (.slice K.x.locals.A K.x.locals.n K.x.locals.c) from by
   have hcx:=Wy.box (cs:=cRv ⟨rk,op,rg,mu,⟨l,pA,pn,pc,ps⟩,⟨gA,gn,gc,gL⟩⟩) (T:=44) H0.out hb
   exact ⟨hcx 2 _ rfl,hcx 3 _ rfl,hcx 4 _ rfl,hcx 5 _ rfl,hb.ck.cells 1 _ rfl,hb.ck.cells 3 _ rfl,hb.ck.cells 4 _ rfl⟩)
  have HC:=hide (ctypeOf_is HK.out HX.out.pl htv)
  clear htv
  have HTA:=hide fun (w':World) (q:Ck K w')=>ctypeAt_is q ht
  clear ht
  have HEQ:=hide fun (w':World) (q:Wy K (w.alloc (.cells (cRv ⟨rk,op,rg,mu,⟨l,pA,pn,pc,ps⟩,⟨gA,gn,gc,gL⟩⟩).toArray 44)) w')=>EqT_is (x:=⟨⟨tk,tmu,trg,tel,fs⟩,fA,fn,fc⟩) (y:=⟨⟨3,mu,rg,tu,[]⟩,none,0,0⟩) hq w' ((hto.below (HB.out.mono H0.out.bs)).below (q.low HK.out) |>.more q.ck.bs) (new_ref HRR.out htuR)
  clear hto htuR hq
  go_enter Tryz.func87,Tryz.ntmps87
  go_wp2_with fail
  refine HC.out.mono ?_
  rintro e1 w1 ⟨rfl,hb1⟩
  have HW1:=hide (Wy.new HK.out hb1)
  clear hb1
  obtain ⟨s0,s1,s2,s3,s4,s5,s6⟩:=hcs.out _ HW1.out
  go_wp2
  have HX1:=hide (HW1.out.drew)
  refine wp_region_held_drew (S:=(fun w'=>w'.cell? ⟨w.heap.size,2,none⟩=some (.int .i64 rg)∧w'.cell? ⟨w.heap.size,3,none⟩=some (.bool mu)∧w'.cell? ⟨w.heap.size,4,none⟩=some (.int .i64 l)∧w'.cell? ⟨w.heap.size,5,none⟩=some (.slice pA pn pc)∧w'.cell? ⟨K.g,1,none⟩=some (.slice K.x.regions.A K.x.regions.n K.x.regions.c)∧w'.cell? ⟨K.g,3,none⟩=some (.slice K.x.types.A K.x.types.n K.x.types.c)∧w'.cell? ⟨K.g,4,none⟩=some (.slice K.x.locals.A K.x.locals.n K.x.locals.c))) (by kernel_rfl) (hcs.out _ HX1.out) (fun hHeld=>?_)
  refine planS [0,1,2,3,4,5,6,7] ?_
  repeat' (first | refine pT hHeld rfl ?_ | refine pS hHeld rfl ?_)
  refine planE ?_
  refine wpAnyH_ready (rs:=[8]) (by kernel_rfl) (by simp) ?_
  refine AllReadyH.cons rfl (fun KZ hK=>?_) AllReadyH.nil
  go_simp
  refine (vwithin_is HIN.out _).mono ?_
  rintro e2 w2 ⟨rfl,rfl⟩
  refine hK.out _ _ (hcs.out _ HX1.out) (fun hHeld=>?_)
  clear hK KZ
  try simp only [Act.put,List.setIfInBounds_toArray,List.set_cons_zero,List.set_cons_succ]
  refine planS [9,10] ?_
  repeat' (first | refine pT hHeld rfl ?_ | refine pS hHeld rfl ?_)
  refine planE ?_
  refine wpAnyH_done (by kernel_rfl) ?_ _
  obtain ⟨s0,s1,s2,s3,s4,s5,s6⟩:=hcs.out _ HX1.out
  go_wp2
  have HX2:=hide (HX1.out.drew)
  refine wp_region_held_drew (S:=(fun w'=>w'.cell? ⟨w.heap.size,2,none⟩=some (.int .i64 rg)∧w'.cell? ⟨w.heap.size,3,none⟩=some (.bool mu)∧w'.cell? ⟨w.heap.size,4,none⟩=some (.int .i64 l)∧w'.cell? ⟨w.heap.size,5,none⟩=some (.slice pA pn pc)∧w'.cell? ⟨K.g,1,none⟩=some (.slice K.x.regions.A K.x.regions.n K.x.regions.c)∧w'.cell? ⟨K.g,3,none⟩=some (.slice K.x.types.A K.x.types.n K.x.types.c)∧w'.cell? ⟨K.g,4,none⟩=some (.slice K.x.locals.A K.x.locals.n K.x.locals.c))) (by kernel_rfl) (hcs.out _ HX2.out) (fun hHeld=>?_)
  refine planS [0,1,3,4,5,6,7,8] ?_
  repeat' (first | refine pT hHeld rfl ?_ | refine pS hHeld rfl ?_)
  refine planE ?_
  refine wpAnyH_ready (rs:=[2]) (by kernel_rfl) (by simp) ?_
  refine AllReadyH.cons rfl (fun KZ hK=>?_) AllReadyH.nil
  go_simp
  refine (HTA.out _ HX2.out.ck).mono ?_
  rintro e3 w3 ⟨he3,hb3⟩
  obtain rfl:e3=.returned (.agg #[.int .i64 tk,.bool tmu,.int .i64 trg,.int .i64 tel,.slice fA fn fc]):=he3
  have HW3:=hide (HX2.out.up hb3)
  clear hb3
  refine hK.out _ _ (hcs.out _ HW3.out) (fun hHeld=>?_)
  clear hK KZ
  try simp only [Act.put,List.setIfInBounds_toArray,List.set_cons_zero,List.set_cons_succ]
  refine wpAnyH_ready (rs:=[9]) (by kernel_rfl) (by simp) ?_
  refine AllReadyH.cons rfl (fun KZ hK=>?_) AllReadyH.nil
  go_simp
  refine (HEQ.out _ HW3.out).mono ?_
  rintro e4 w4 ⟨rfl,hb4⟩
  have HW4:=hide (HW3.out.up hb4)
  clear hb4
  refine hK.out _ _ (hcs.out _ HW4.out) (fun hHeld=>?_)
  clear hK KZ
  try simp only [Act.put,List.setIfInBounds_toArray,List.set_cons_zero,List.set_cons_succ]
  refine planS [10,11] ?_
  repeat' (first | refine pT hHeld rfl ?_ | refine pS hHeld rfl ?_)
  refine planE ?_
  refine wpAnyH_done (by kernel_rfl) ?_ _
  go_wp2
  go_ret
  exact ⟨rfl,(Turn.of_below HB.out).trans HW4.out.turn,HW4.out.ck⟩
 have hq4:=hqi.1 rfl
 have HRG:=hide fun (w':World) (q:Ck K w') (hp:OnePl w' w'.heap.size ⟨l,pA,pn,pc,ps⟩)=>RegionsP_any (ct:=K.x.types.c) (cl:=K.x.locals.c) (q.vb.pl8 hp)
 cases mu
 case false=>
  have HB:=hide (below1 w (.cells (cRv ⟨rk,op,rg,false,⟨l,pA,pn,pc,ps⟩,⟨gA,gn,gc,gL⟩⟩).toArray 44))
  have HK:=hide (H0.out.up HB.out)
  have HX:=hide (hx.below (HB.out.mono H0.out.bs))
  have hcs:=hide fun (w':World) (hb:Wy K (w.alloc (.cells (cRv ⟨rk,op,rg,false,⟨l,pA,pn,pc,ps⟩,⟨gA,gn,gc,gL⟩⟩).toArray 44)) w')=>(show w'.cell? ⟨w.heap.size,2,none⟩=some (.int .i64 rg)∧w'.cell? ⟨w.heap.size,3,none⟩=some (.bool false)∧w'.cell? ⟨w.heap.size,4,none⟩=some (.int .i64 l)∧w'.cell? ⟨w.heap.size,5,none⟩=some (.slice pA pn pc)∧w'.cell? ⟨K.g,1,none⟩=some (.slice K.x.regions.A K.x.regions.n K.x.regions.c)∧w'.cell? ⟨K.g,3,none⟩=some (.slice K.x.types.A K.x.types.n K.x.types.c)∧w'.cell? ⟨K.g,4,none⟩=some (.slice K.x.locals.A K.x.locals.n K.x.locals.c) from by
   have hcx:=Wy.box (cs:=cRv ⟨rk,op,rg,false,⟨l,pA,pn,pc,ps⟩,⟨gA,gn,gc,gL⟩⟩) (T:=44) H0.out hb
   exact ⟨hcx 2 _ rfl,hcx 3 _ rfl,hcx 4 _ rfl,hcx 5 _ rfl,hb.ck.cells 1 _ rfl,hb.ck.cells 3 _ rfl,hb.ck.cells 4 _ rfl⟩)
  have HC:=hide (ctypeOf_is HK.out HX.out.pl htv)
  have HTA:=hide fun (w':World) (q:Ck K w')=>ctypeAt_is q ht
  have HEQ:=hide fun (w':World) (q:Wy K (w.alloc (.cells (cRv ⟨rk,op,rg,false,⟨l,pA,pn,pc,ps⟩,⟨gA,gn,gc,gL⟩⟩).toArray 44)) w')=>EqT_is (x:=⟨⟨tk,tmu,trg,tel,fs⟩,fA,fn,fc⟩) (y:=⟨⟨3,false,rg,tu,[]⟩,none,0,0⟩) hq w' ((hto.below (HB.out.mono H0.out.bs)).below (q.low HK.out) |>.more q.ck.bs) (new_ref HRR.out htuR)
  have HRG2:=hide fun (w':World) (q:Wy K (w.alloc (.cells (cRv ⟨rk,op,rg,false,⟨l,pA,pn,pc,ps⟩,⟨gA,gn,gc,gL⟩⟩).toArray 44)) w')=>(show Calls Tryz.prog 107 #[.slice K.x.types.A K.x.types.n K.x.types.c,.slice K.x.locals.A K.x.locals.n K.x.locals.c,.agg #[.int .i64 l,.slice pA pn pc]] w' (IntsOut w' RL) from HRL.out ▸ HRG.out w' q.ck ((HX.out.pl.below (q.low HK.out)).more q.ck.bs))
  have HRG:=HRG2
  rw [if_neg (by rintro (e | e | e | e | ⟨e,_⟩);exact e hq4.1;exact e hq4.2.2.1;exact e hq4.2.1;exact e hq4.2.2.2;cases e)] at hv
  clear h hx ht htt hto hok htu hte hmm hRng hfs hrgR htv he hRL hr hri htui htuR hq hqi hq4
  have HV:=hide hv
  clear hv
  go_enter Tryz.func87,Tryz.ntmps87
  go_wp2_with fail
  refine HC.out.mono ?_
  rintro e1 w1 ⟨rfl,hb1⟩
  have HW1:=hide (Wy.new HK.out hb1)
  clear hb1
  obtain ⟨s0,s1,s2,s3,s4,s5,s6⟩:=hcs.out _ HW1.out
  go_wp2
  have HX1:=hide (HW1.out.drew)
  refine wp_region_held_drew (S:=(fun w'=>w'.cell? ⟨w.heap.size,2,none⟩=some (.int .i64 rg)∧w'.cell? ⟨w.heap.size,3,none⟩=some (.bool false)∧w'.cell? ⟨w.heap.size,4,none⟩=some (.int .i64 l)∧w'.cell? ⟨w.heap.size,5,none⟩=some (.slice pA pn pc)∧w'.cell? ⟨K.g,1,none⟩=some (.slice K.x.regions.A K.x.regions.n K.x.regions.c)∧w'.cell? ⟨K.g,3,none⟩=some (.slice K.x.types.A K.x.types.n K.x.types.c)∧w'.cell? ⟨K.g,4,none⟩=some (.slice K.x.locals.A K.x.locals.n K.x.locals.c))) (by kernel_rfl) (hcs.out _ HX1.out) (fun hHeld=>?_)
  refine planS [0,1,2,3,4,5,6,7] ?_
  repeat' (first | refine pT hHeld rfl ?_ | refine pS hHeld rfl ?_)
  refine planE ?_
  refine wpAnyH_ready (rs:=[8]) (by kernel_rfl) (by simp) ?_
  refine AllReadyH.cons rfl (fun KZ hK=>?_) AllReadyH.nil
  go_simp
  refine (vwithin_is HIN.out _).mono ?_
  rintro e2 w2 ⟨rfl,rfl⟩
  refine hK.out _ _ (hcs.out _ HX1.out) (fun hHeld=>?_)
  clear hK KZ
  try simp only [Act.put,List.setIfInBounds_toArray,List.set_cons_zero,List.set_cons_succ]
  refine planS [9,10] ?_
  repeat' (first | refine pT hHeld rfl ?_ | refine pS hHeld rfl ?_)
  refine planE ?_
  refine wpAnyH_done (by kernel_rfl) ?_ _
  obtain ⟨s0,s1,s2,s3,s4,s5,s6⟩:=hcs.out _ HX1.out
  go_wp2
  have HX2:=hide (HX1.out.drew)
  refine wp_region_held_drew (S:=(fun w'=>w'.cell? ⟨w.heap.size,2,none⟩=some (.int .i64 rg)∧w'.cell? ⟨w.heap.size,3,none⟩=some (.bool false)∧w'.cell? ⟨w.heap.size,4,none⟩=some (.int .i64 l)∧w'.cell? ⟨w.heap.size,5,none⟩=some (.slice pA pn pc)∧w'.cell? ⟨K.g,1,none⟩=some (.slice K.x.regions.A K.x.regions.n K.x.regions.c)∧w'.cell? ⟨K.g,3,none⟩=some (.slice K.x.types.A K.x.types.n K.x.types.c)∧w'.cell? ⟨K.g,4,none⟩=some (.slice K.x.locals.A K.x.locals.n K.x.locals.c))) (by kernel_rfl) (hcs.out _ HX2.out) (fun hHeld=>?_)
  refine planS [0,1,3,4,5,6,7,8] ?_
  repeat' (first | refine pT hHeld rfl ?_ | refine pS hHeld rfl ?_)
  refine planE ?_
  refine wpAnyH_ready (rs:=[2]) (by kernel_rfl) (by simp) ?_
  refine AllReadyH.cons rfl (fun KZ hK=>?_) AllReadyH.nil
  go_simp
  refine (HTA.out _ HX2.out.ck).mono ?_
  rintro e3 w3 ⟨he3,hb3⟩
  obtain rfl:e3=.returned (.agg #[.int .i64 tk,.bool tmu,.int .i64 trg,.int .i64 tel,.slice fA fn fc]):=he3
  have HW3:=hide (HX2.out.up hb3)
  clear hb3
  refine hK.out _ _ (hcs.out _ HW3.out) (fun hHeld=>?_)
  clear hK KZ
  try simp only [Act.put,List.setIfInBounds_toArray,List.set_cons_zero,List.set_cons_succ]
  refine wpAnyH_ready (rs:=[9]) (by kernel_rfl) (by simp) ?_
  refine AllReadyH.cons rfl (fun KZ hK=>?_) AllReadyH.nil
  go_simp
  refine (HEQ.out _ HW3.out).mono ?_
  rintro e4 w4 ⟨rfl,hb4⟩
  have HW4:=hide (HW3.out.up hb4)
  clear hb4
  refine hK.out _ _ (hcs.out _ HW4.out) (fun hHeld=>?_)
  clear hK KZ
  try simp only [Act.put,List.setIfInBounds_toArray,List.set_cons_zero,List.set_cons_succ]
  refine planS [10,11] ?_
  repeat' (first | refine pT hHeld rfl ?_ | refine pS hHeld rfl ?_)
  refine planE ?_
  refine wpAnyH_done (by kernel_rfl) ?_ _
  obtain ⟨s0,s1,s2,s3,s4,s5,s6⟩:=hcs.out _ HW4.out
  go_wp2
  have HX5:=hide (HW4.out.drew)
  refine wp_region_held_drew (S:=(fun w'=>w'.cell? ⟨w.heap.size,2,none⟩=some (.int .i64 rg)∧w'.cell? ⟨w.heap.size,3,none⟩=some (.bool false)∧w'.cell? ⟨w.heap.size,4,none⟩=some (.int .i64 l)∧w'.cell? ⟨w.heap.size,5,none⟩=some (.slice pA pn pc)∧w'.cell? ⟨K.g,1,none⟩=some (.slice K.x.regions.A K.x.regions.n K.x.regions.c)∧w'.cell? ⟨K.g,3,none⟩=some (.slice K.x.types.A K.x.types.n K.x.types.c)∧w'.cell? ⟨K.g,4,none⟩=some (.slice K.x.locals.A K.x.locals.n K.x.locals.c))) (by kernel_rfl) (hcs.out _ HX5.out) (fun hHeld=>?_)
  exact VcIz0
 case true=>
  have HB:=hide (below1 w (.cells (cRv ⟨rk,op,rg,true,⟨l,pA,pn,pc,ps⟩,⟨gA,gn,gc,gL⟩⟩).toArray 44))
  have HK:=hide (H0.out.up HB.out)
  have HX:=hide (hx.below (HB.out.mono H0.out.bs))
  have hcs:=hide fun (w':World) (hb:Wy K (w.alloc (.cells (cRv ⟨rk,op,rg,true,⟨l,pA,pn,pc,ps⟩,⟨gA,gn,gc,gL⟩⟩).toArray 44)) w')=>(show w'.cell? ⟨w.heap.size,2,none⟩=some (.int .i64 rg)∧w'.cell? ⟨w.heap.size,3,none⟩=some (.bool true)∧w'.cell? ⟨w.heap.size,4,none⟩=some (.int .i64 l)∧w'.cell? ⟨w.heap.size,5,none⟩=some (.slice pA pn pc)∧w'.cell? ⟨K.g,1,none⟩=some (.slice K.x.regions.A K.x.regions.n K.x.regions.c)∧w'.cell? ⟨K.g,3,none⟩=some (.slice K.x.types.A K.x.types.n K.x.types.c)∧w'.cell? ⟨K.g,4,none⟩=some (.slice K.x.locals.A K.x.locals.n K.x.locals.c) from by
   have hcx:=Wy.box (cs:=cRv ⟨rk,op,rg,true,⟨l,pA,pn,pc,ps⟩,⟨gA,gn,gc,gL⟩⟩) (T:=44) H0.out hb
   exact ⟨hcx 2 _ rfl,hcx 3 _ rfl,hcx 4 _ rfl,hcx 5 _ rfl,hb.ck.cells 1 _ rfl,hb.ck.cells 3 _ rfl,hb.ck.cells 4 _ rfl⟩)
  have HC:=hide (ctypeOf_is HK.out HX.out.pl htv)
  have HTA:=hide fun (w':World) (q:Ck K w')=>ctypeAt_is q ht
  have HEQ:=hide fun (w':World) (q:Wy K (w.alloc (.cells (cRv ⟨rk,op,rg,true,⟨l,pA,pn,pc,ps⟩,⟨gA,gn,gc,gL⟩⟩).toArray 44)) w')=>EqT_is (x:=⟨⟨tk,tmu,trg,tel,fs⟩,fA,fn,fc⟩) (y:=⟨⟨3,true,rg,tu,[]⟩,none,0,0⟩) hq w' ((hto.below (HB.out.mono H0.out.bs)).below (q.low HK.out) |>.more q.ck.bs) (new_ref HRR.out htuR)
  have HRG2:=hide fun (w':World) (q:Wy K (w.alloc (.cells (cRv ⟨rk,op,rg,true,⟨l,pA,pn,pc,ps⟩,⟨gA,gn,gc,gL⟩⟩).toArray 44)) w')=>(show Calls Tryz.prog 107 #[.slice K.x.types.A K.x.types.n K.x.types.c,.slice K.x.locals.A K.x.locals.n K.x.locals.c,.agg #[.int .i64 l,.slice pA pn pc]] w' (IntsOut w' RL) from HRL.out ▸ HRG.out w' q.ck ((HX.out.pl.below (q.low HK.out)).more q.ck.bs))
  have HRG:=HRG2
  have HMU:=hide fun (w':World) (q:Wy K (w.alloc (.cells (cRv ⟨rk,op,rg,true,⟨l,pA,pn,pc,ps⟩,⟨gA,gn,gc,gL⟩⟩).toArray 44)) w')=>cmut_is q.ck (HX.out.pl.below (q.low HK.out)) hmm
  cases mm
  case false=>
   rw [if_pos (.inr (.inr (.inr (.inr ⟨rfl,rfl⟩))))] at hv
   obtain rfl:v=22:=hv.symm
   clear h hx ht htt hto hok htu hte hmm hRng hfs hrgR htv he hRL hr hri htui htuR hq hqi hq4
   go_enter Tryz.func87,Tryz.ntmps87
   go_wp2_with fail
   refine HC.out.mono ?_
   rintro e1 w1 ⟨rfl,hb1⟩
   have HW1:=hide (Wy.new HK.out hb1)
   clear hb1
   obtain ⟨s0,s1,s2,s3,s4,s5,s6⟩:=hcs.out _ HW1.out
   go_wp2
   have HX1:=hide (HW1.out.drew)
   refine wp_region_held_drew (S:=(fun w'=>w'.cell? ⟨w.heap.size,2,none⟩=some (.int .i64 rg)∧w'.cell? ⟨w.heap.size,3,none⟩=some (.bool true)∧w'.cell? ⟨w.heap.size,4,none⟩=some (.int .i64 l)∧w'.cell? ⟨w.heap.size,5,none⟩=some (.slice pA pn pc)∧w'.cell? ⟨K.g,1,none⟩=some (.slice K.x.regions.A K.x.regions.n K.x.regions.c)∧w'.cell? ⟨K.g,3,none⟩=some (.slice K.x.types.A K.x.types.n K.x.types.c)∧w'.cell? ⟨K.g,4,none⟩=some (.slice K.x.locals.A K.x.locals.n K.x.locals.c))) (by kernel_rfl) (hcs.out _ HX1.out) (fun hHeld=>?_)
   refine planS [0,1,2,3,4,5,6,7] ?_
   repeat' (first | refine pT hHeld rfl ?_ | refine pS hHeld rfl ?_)
   refine planE ?_
   refine wpAnyH_ready (rs:=[8]) (by kernel_rfl) (by simp) ?_
   refine AllReadyH.cons rfl (fun KZ hK=>?_) AllReadyH.nil
   go_simp
   refine (vwithin_is HIN.out _).mono ?_
   rintro e2 w2 ⟨rfl,rfl⟩
   refine hK.out _ _ (hcs.out _ HX1.out) (fun hHeld=>?_)
   clear hK KZ
   try simp only [Act.put,List.setIfInBounds_toArray,List.set_cons_zero,List.set_cons_succ]
   refine planS [9,10] ?_
   repeat' (first | refine pT hHeld rfl ?_ | refine pS hHeld rfl ?_)
   refine planE ?_
   refine wpAnyH_done (by kernel_rfl) ?_ _
   obtain ⟨s0,s1,s2,s3,s4,s5,s6⟩:=hcs.out _ HX1.out
   go_wp2
   have HX2:=hide (HX1.out.drew)
   refine wp_region_held_drew (S:=(fun w'=>w'.cell? ⟨w.heap.size,2,none⟩=some (.int .i64 rg)∧w'.cell? ⟨w.heap.size,3,none⟩=some (.bool true)∧w'.cell? ⟨w.heap.size,4,none⟩=some (.int .i64 l)∧w'.cell? ⟨w.heap.size,5,none⟩=some (.slice pA pn pc)∧w'.cell? ⟨K.g,1,none⟩=some (.slice K.x.regions.A K.x.regions.n K.x.regions.c)∧w'.cell? ⟨K.g,3,none⟩=some (.slice K.x.types.A K.x.types.n K.x.types.c)∧w'.cell? ⟨K.g,4,none⟩=some (.slice K.x.locals.A K.x.locals.n K.x.locals.c))) (by kernel_rfl) (hcs.out _ HX2.out) (fun hHeld=>?_)
   refine planS [0,1,3,4,5,6,7,8] ?_
   repeat' (first | refine pT hHeld rfl ?_ | refine pS hHeld rfl ?_)
   refine planE ?_
   refine wpAnyH_ready (rs:=[2]) (by kernel_rfl) (by simp) ?_
   refine AllReadyH.cons rfl (fun KZ hK=>?_) AllReadyH.nil
   go_simp
   refine (HTA.out _ HX2.out.ck).mono ?_
   rintro e3 w3 ⟨he3,hb3⟩
   obtain rfl:e3=.returned (.agg #[.int .i64 tk,.bool tmu,.int .i64 trg,.int .i64 tel,.slice fA fn fc]):=he3
   have HW3:=hide (HX2.out.up hb3)
   clear hb3
   refine hK.out _ _ (hcs.out _ HW3.out) (fun hHeld=>?_)
   clear hK KZ
   try simp only [Act.put,List.setIfInBounds_toArray,List.set_cons_zero,List.set_cons_succ]
   refine wpAnyH_ready (rs:=[9]) (by kernel_rfl) (by simp) ?_
   refine AllReadyH.cons rfl (fun KZ hK=>?_) AllReadyH.nil
   go_simp
   refine (HEQ.out _ HW3.out).mono ?_
   rintro e4 w4 ⟨rfl,hb4⟩
   have HW4:=hide (HW3.out.up hb4)
   clear hb4
   refine hK.out _ _ (hcs.out _ HW4.out) (fun hHeld=>?_)
   clear hK KZ
   try simp only [Act.put,List.setIfInBounds_toArray,List.set_cons_zero,List.set_cons_succ]
   refine planS [10,11] ?_
   repeat' (first | refine pT hHeld rfl ?_ | refine pS hHeld rfl ?_)
   refine planE ?_
   refine wpAnyH_done (by kernel_rfl) ?_ _
   obtain ⟨s0,s1,s2,s3,s4,s5,s6⟩:=hcs.out _ HW4.out
   go_wp2_with fail
   refine (HMU.out _ HW4.out).mono ?_
   rintro e5 w5 ⟨rfl,hb5⟩
   clear s0 s1 s2 s3 s4 s5 s6
   have HW5:=hide (HW4.out.up hb5)
   clear hb5
   go_wp2
   go_ret
   exact ⟨rfl,(Turn.of_below HB.out).trans HW5.out.turn,HW5.out.ck⟩
  case true=>
   rw [if_neg (by rintro (e | e | e | e | ⟨_,e⟩);exact e hq4.1;exact e hq4.2.2.1;exact e hq4.2.1;exact e hq4.2.2.2;cases e)] at hv
   clear h hx ht htt hto hok htu hte hmm hRng hfs hrgR htv he hRL hr hri htui htuR hq hqi hq4
   have HV:=hide hv
   clear hv
   go_enter Tryz.func87,Tryz.ntmps87
   go_wp2_with fail
   refine HC.out.mono ?_
   rintro e1 w1 ⟨rfl,hb1⟩
   have HW1:=hide (Wy.new HK.out hb1)
   clear hb1
   obtain ⟨s0,s1,s2,s3,s4,s5,s6⟩:=hcs.out _ HW1.out
   go_wp2
   have HX1:=hide (HW1.out.drew)
   refine wp_region_held_drew (S:=(fun w'=>w'.cell? ⟨w.heap.size,2,none⟩=some (.int .i64 rg)∧w'.cell? ⟨w.heap.size,3,none⟩=some (.bool true)∧w'.cell? ⟨w.heap.size,4,none⟩=some (.int .i64 l)∧w'.cell? ⟨w.heap.size,5,none⟩=some (.slice pA pn pc)∧w'.cell? ⟨K.g,1,none⟩=some (.slice K.x.regions.A K.x.regions.n K.x.regions.c)∧w'.cell? ⟨K.g,3,none⟩=some (.slice K.x.types.A K.x.types.n K.x.types.c)∧w'.cell? ⟨K.g,4,none⟩=some (.slice K.x.locals.A K.x.locals.n K.x.locals.c))) (by kernel_rfl) (hcs.out _ HX1.out) (fun hHeld=>?_)
   refine planS [0,1,2,3,4,5,6,7] ?_
   repeat' (first | refine pT hHeld rfl ?_ | refine pS hHeld rfl ?_)
   refine planE ?_
   refine wpAnyH_ready (rs:=[8]) (by kernel_rfl) (by simp) ?_
   refine AllReadyH.cons rfl (fun KZ hK=>?_) AllReadyH.nil
   go_simp
   refine (vwithin_is HIN.out _).mono ?_
   rintro e2 w2 ⟨rfl,rfl⟩
   refine hK.out _ _ (hcs.out _ HX1.out) (fun hHeld=>?_)
   clear hK KZ
   try simp only [Act.put,List.setIfInBounds_toArray,List.set_cons_zero,List.set_cons_succ]
   refine planS [9,10] ?_
   repeat' (first | refine pT hHeld rfl ?_ | refine pS hHeld rfl ?_)
   refine planE ?_
   refine wpAnyH_done (by kernel_rfl) ?_ _
   obtain ⟨s0,s1,s2,s3,s4,s5,s6⟩:=hcs.out _ HX1.out
   go_wp2
   have HX2:=hide (HX1.out.drew)
   refine wp_region_held_drew (S:=(fun w'=>w'.cell? ⟨w.heap.size,2,none⟩=some (.int .i64 rg)∧w'.cell? ⟨w.heap.size,3,none⟩=some (.bool true)∧w'.cell? ⟨w.heap.size,4,none⟩=some (.int .i64 l)∧w'.cell? ⟨w.heap.size,5,none⟩=some (.slice pA pn pc)∧w'.cell? ⟨K.g,1,none⟩=some (.slice K.x.regions.A K.x.regions.n K.x.regions.c)∧w'.cell? ⟨K.g,3,none⟩=some (.slice K.x.types.A K.x.types.n K.x.types.c)∧w'.cell? ⟨K.g,4,none⟩=some (.slice K.x.locals.A K.x.locals.n K.x.locals.c))) (by kernel_rfl) (hcs.out _ HX2.out) (fun hHeld=>?_)
   refine planS [0,1,3,4,5,6,7,8] ?_
   repeat' (first | refine pT hHeld rfl ?_ | refine pS hHeld rfl ?_)
   refine planE ?_
   refine wpAnyH_ready (rs:=[2]) (by kernel_rfl) (by simp) ?_
   refine AllReadyH.cons rfl (fun KZ hK=>?_) AllReadyH.nil
   go_simp
   refine (HTA.out _ HX2.out.ck).mono ?_
   rintro e3 w3 ⟨he3,hb3⟩
   obtain rfl:e3=.returned (.agg #[.int .i64 tk,.bool tmu,.int .i64 trg,.int .i64 tel,.slice fA fn fc]):=he3
   have HW3:=hide (HX2.out.up hb3)
   clear hb3
   refine hK.out _ _ (hcs.out _ HW3.out) (fun hHeld=>?_)
   clear hK KZ
   try simp only [Act.put,List.setIfInBounds_toArray,List.set_cons_zero,List.set_cons_succ]
   refine wpAnyH_ready (rs:=[9]) (by kernel_rfl) (by simp) ?_
   refine AllReadyH.cons rfl (fun KZ hK=>?_) AllReadyH.nil
   go_simp
   refine (HEQ.out _ HW3.out).mono ?_
   rintro e4 w4 ⟨rfl,hb4⟩
   have HW4:=hide (HW3.out.up hb4)
   clear hb4
   refine hK.out _ _ (hcs.out _ HW4.out) (fun hHeld=>?_)
   clear hK KZ
   try simp only [Act.put,List.setIfInBounds_toArray,List.set_cons_zero,List.set_cons_succ]
   refine planS [10,11] ?_
   repeat' (first | refine pT hHeld rfl ?_ | refine pS hHeld rfl ?_)
   refine planE ?_
   refine wpAnyH_done (by kernel_rfl) ?_ _
   obtain ⟨s0,s1,s2,s3,s4,s5,s6⟩:=hcs.out _ HW4.out
   go_wp2_with fail
   refine (HMU.out _ HW4.out).mono ?_
   rintro e5 w5 ⟨rfl,hb5⟩
   clear s0 s1 s2 s3 s4 s5 s6
   have HW5:=hide (HW4.out.up hb5)
   clear hb5
   obtain ⟨s0,s1,s2,s3,s4,s5,s6⟩:=hcs.out _ HW5.out
   go_wp2
   have HX5:=hide (HW5.out.drew)
   refine wp_region_held_drew (S:=(fun w'=>w'.cell? ⟨w.heap.size,2,none⟩=some (.int .i64 rg)∧w'.cell? ⟨w.heap.size,3,none⟩=some (.bool true)∧w'.cell? ⟨w.heap.size,4,none⟩=some (.int .i64 l)∧w'.cell? ⟨w.heap.size,5,none⟩=some (.slice pA pn pc)∧w'.cell? ⟨K.g,1,none⟩=some (.slice K.x.regions.A K.x.regions.n K.x.regions.c)∧w'.cell? ⟨K.g,3,none⟩=some (.slice K.x.types.A K.x.types.n K.x.types.c)∧w'.cell? ⟨K.g,4,none⟩=some (.slice K.x.locals.A K.x.locals.n K.x.locals.c))) (by kernel_rfl) (hcs.out _ HX5.out) (fun hHeld=>?_)
   exact VcIz0
end Go.Proofs.YtfgacmgjpikgaaaGreatDoor
