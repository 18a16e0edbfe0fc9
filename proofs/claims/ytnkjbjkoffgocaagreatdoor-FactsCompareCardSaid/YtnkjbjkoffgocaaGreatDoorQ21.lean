import Derived.Test.YtnkjbjkoffgocaaGreatDoorQ20
import Derived.Scope
set_option linter.unusedVariables false
set_option linter.unusedSimpArgs false
set_option maxRecDepth 100000
set_option maxHeartbeats 8000000
namespace Go.Proofs.YtnkjbjkoffgocaaGreatDoor
open Tryz Go.RowKit
theorem VZ {T:List Ty} {rg:Int} (h:TyOk T rg) (i:0 < rg) {lc:List Int} {l:Int} {ps:List Pr} {x:Int} (d:x∈DA T lc l ps):0<=x/\x < rg:=by
 unfold DA at d;obtain ⟨t,b,rfl⟩:=Bw.1 d;unfold TS at b
 split at b
 ·obtain ⟨j,g,e⟩:=List.mem_iff_getElem.1 (CA b);have c:T[j]?=some t:=by rw [Ad g,e]
  have a:=h.own c;by_cases f:t.kind=3
  ·exact a.2.2.2.1 f
  ·rw [(a.2.1 f).2.1];omega
 ·cases b
def pJ (O:Int->Int->Bool) (r:Int):List Int->Int
 | []=>0
 | a :: l=>if O a r=false then 22 else pJ O r l
theorem lX {O:Int->Int->Bool} {r:Int}:∀ (l:List Int),pJ O r l=if l.all (fun a=>O a r) then 0 else 22
 | []=>rfl
 | a :: l=>by
  show (if O a r=false then (22:Int) else pJ O r l)=_;rw [lX l,G3];cases O a r <;> simp
theorem VD {O:Int->Int->Bool} {r a:Int} {l:List Int} {k:Nat} (h:l[k]?=some a):pJ O r (l.drop k)=if O a r=false then 22 else pJ O r (l.drop (k+1)):=by rw [xK h];rfl
theorem OU {O:Int->Int->Bool} {r:Int} {l:List Int} {k:Nat} (h:l.length<=k):pJ O r (l.drop k)=0:=by rw [yF h];rfl
theorem EV {w:World} {B:Nat} {b:Bool} {rg a:Int} (c:uH rg) (d:uH a):wF w B ⟨⟨3,b,rg,a,[]⟩,none,0,0⟩:=
 ⟨⟨Ae _,Am _,rfl,(by show uH 3;unfold uH;omega),c,d,fun y e=>by cases e⟩,rfl,fun h=>absurd h (Cg 0)⟩
theorem uE9 {P:Prop} (h:P:=by
 refine uJ [0,1,2,3,4,5,6,7,8,9,10,11,14] ?_
 repeat' (first | refine pT hHeld rfl ?_ | refine pS hHeld rfl ?_)
 refine uK ?_;refine wpAnyH_ready (rs:=[12]) fL nF ?_;refine AllReadyH.cons rfl (fun KZ hK=>?_) AllReadyH.nil;go_simp;refine (HRG.o _ HX5.o).mono ?_;rintro e6 w6 ⟨rA,rm,rc,rfl,hrm40,hrmc,hrcm,hrow,hb6⟩;have HROW:=uA hrow;clear hrow;have HW6:=uA (HX5.o.up hb6);clear hb6;unfold maxLen at hrcm;refine hK.out _ _ (hcs.o _ HW6.o) (fun hHeld=>?_);clear hK KZ;try simp only [Ac]
 refine uJ [13] ?_
 repeat' (first | refine pT hHeld rfl ?_ | refine pS hHeld rfl ?_)
 refine uK ?_;refine wpAnyH_done fL ?_ _;have hRlen:RL.length=rm:=by have h1:=HROW.o.1;rw [Ey,Ao] at h1;exact h1
 go_wp2;go_loopw [68] (fun i wr=>∃ j:Nat,i=.int .i64 (j:Int)/\j<=rm/\Hdd (pJ (out K.x.outl.L ((K.x.regions.L.length:Nat):Int)) rg (RL.drop j)=v)/\Hdd (Wy K w6 wr)) (fun i _=>rm - (intOf i).toNat)
 case atStart=>exact ⟨0,rfl,Am _,uA HV.o,uA (Wy.refl HW6.o.ck)⟩
 case round=>
  obtain ⟨j,rfl,hj,HE,HW⟩:=hrel;have HWa:=uA (HW6.o.trans HW.o);by_cases hlt:j < rm
  ·have hlt':(j:Int) < (rm:Int):=bB;obtain ⟨a,ha⟩:∃ a,RL[j]?=some a:=⟨_,Ad bB⟩;obtain ⟨gg,cap,hgv,hgb,hgl⟩:=HROW.o.form bB;have hgA:rA=some ⟨gg,0,none⟩:=(by injection hgv);clear hgv;subst hgA;have hrd:=(Rd.of_own HROW.o).2 bB;obtain ⟨b2,o2,hA2,_,hcc⟩:=hrd;obtain ⟨rfl,rfl⟩:gg=b2/\0=o2:=by injection hA2 with e;injection e with e1 e2;exact ⟨e1,e2⟩
   have hnS:¬K.S gg:=fun q=>by have h1:=HX5.o.ck.sLt _ q;omega
   have ca:wr.cell? ⟨gg,j,none⟩=some (.int .i64 a):=(HW.o.turn.cell (p:=⟨gg,j,none⟩) hgl hnS).trans (by have h1:=hcc j _ (by rw [Ar,ha];rfl);rwa [Ea] at h1);have haR:=HRN.o a (Aj ha);obtain ⟨c,hcv⟩:∃ c,out K.x.outl.L ((K.x.regions.L.length:Nat):Int) a rg=c:=⟨_,rfl⟩;have HS:=uA (VD (O:=out K.x.outl.L ((K.x.regions.L.length:Nat):Int)) (r:=rg) ha);have HO:=uA (uDy HWa.o.ck (s:=a) (t:=rg) (by have h1:=haR.1;have h2:=haR.2;unfold uH;omega) HRR.o ⟨⟨haR.1,haR.2⟩,HRI.o.1,HRI.o.2⟩ hcv);have HCV:=uA hcv;obtain ⟨s0,s1,s2,s3,s4,s5,s6⟩:=hcs.o _ HWa.o;clear ha hcc haR hcv hA2 hgb hgl hnS;cases c
   ·have HN:=uA (show v=22 by rw [<-HE.o,HS.o,HCV.o];rfl);go_wp2_with fail
    refine HO.o.mono ?_;rintro e7 w7 ⟨rfl,hb7⟩;have HW7:=uA (HWa.o.trans hb7);clear hb7;go_wp2;go_ret;exact ⟨congrArg (fun v=>Ending.returned (.int .i64 v)) HN.o.symm,(Turn.of_below HB.o).trans HW7.o.turn,HW7.o.ck⟩
   ·have HN:=uA (show pJ (out K.x.outl.L ((K.x.regions.L.length:Nat):Int)) rg (RL.drop (j+1))=v by rw [<-HE.o,HS.o,HCV.o];rfl);go_wp2_with fail
    refine HO.o.mono ?_;rintro e7 w7 ⟨rfl,hb7⟩;have HW7:=uA (HW.o.trans hb7);clear hb7;go_wp2;go_roundw
    case rel=>exact ⟨j+1,by go_num,bB,uA HN.o,uA HW7.o⟩
    case measure=>simp [intOf];omega
  ·obtain rfl:rm=j:=by omega
   obtain rfl:v=0:=by rw [<-HE.o];exact OU bB
   go_wp2;go_ret;exact ⟨rfl,(Turn.of_below HB.o).trans HWa.o.turn,HWa.o.ck⟩):P:=h
theorem uDg {K:CkW} {x:RvW} {i:Nat} {ty:TyW} {v:Int} {w:World} (h:Ck K w) (hx:zR w K.B x) (ht:K.x.types.L[i]?=some ty) (V:IQ K.E x.v (i:Int)=v) :
 Calls prog 238 #[K.ptr,eH x,.int .i64 (i:Int)] w fun e b=>e=.returned (.int .i64 v)/\Wy K w b:=by
 have a4:(tys K.x.types.L)[i]?=some ty.t:=by
  show (K.x.types.L.map TyW.t)[i]?=_;rw [Ar,ht];rfl
 have X:wF w K.B ty:=h.one.types.all ty (Aj ht);have a5:=yM.1 h.ok.ty;have aj:=h.one.regions.len;have ak:=h.one.regions.nm;unfold maxLen at ak;obtain ⟨Y,Z,rg,E,⟨l,g,k,m,B⟩,⟨gA,gn,gc,gL⟩⟩:=x;obtain ⟨tu,a0⟩:∃ u,(tyV K.E (PlW.v ⟨l,g,k,m,B⟩)).1=u:=⟨_,rfl⟩;obtain ⟨te,a1⟩:∃ u,(tyV K.E (PlW.v ⟨l,g,k,m,B⟩)).2=u:=⟨_,rfl⟩;obtain ⟨mm,a6⟩:∃ u,muV K.E (PlW.v ⟨l,g,k,m,B⟩)=u:=⟨_,rfl⟩;obtain ⟨RL,a2⟩:∃ z,DA (tys K.x.types.L) (lcs K.x.locals.L) l B=z:=⟨_,rfl⟩;have I:0 < K.x.regions.n->∀ a∈RL,0<=a/\a < (K.x.regions.n:Int):=fun h0 a ha=>by
  have h1:=VZ a5 (rg:=_) (by show 0 < (((K.x.v).regions.length:Nat):Int);show 0 < ((K.x.regions.L.length:Nat):Int);omega) (lc:=lcs K.x.locals.L) (l:=l) (ps:=B) (x:=a) (a2 ▸ ha);have h2:a < ((K.x.regions.L.length:Nat):Int):=h1.2;exact ⟨h1.1,bB⟩
 have ag:(if te≠0 then te else if rg < 0\/(K.x.regions.n:Int)<=rg then 3 else if ty.t.kind≠3\/ty.t.region≠rg\/ty.t.mut_≠E\/ty.t.elem≠tu\/(E=true/\mm=false) then 22 else pJ (out K.x.outl.L ((K.x.regions.L.length:Nat):Int)) rg RL)=v:=by
  rw [<-V,<- a0,<- a1,<- a6,lX,<- a2,<- aj];show _=(if (tyV K.E (PlW.v ⟨l,g,k,m,B⟩)).2≠0 then (tyV K.E (PlW.v ⟨l,g,k,m,B⟩)).2 else if rg < 0\/((K.x.regions.L.length:Nat):Int)<=rg then 3 else if (uR (tys K.x.types.L) (i:Int)).kind≠3\/(uR (tys K.x.types.L) (i:Int)).region≠rg\/(uR (tys K.x.types.L) (i:Int)).mut_≠E\/(uR (tys K.x.types.L) (i:Int)).elem≠(tyV K.E (PlW.v ⟨l,g,k,m,B⟩)).1\/(E=true/\muV K.E (PlW.v ⟨l,g,k,m,B⟩)=false) then 22 else if (DA (tys K.x.types.L) (lcs K.x.locals.L) l B).all (fun a=>out K.x.outl.L ((K.x.regions.L.length:Nat):Int) a rg) then 0 else 22);rw [mH a4]
 clear V;have V:=ag;clear ag;have a3:ty.t.kind=3->ty.t.fields=[]:=fun h3=>(a5.own a4).2.2.1 bB
 have J:uH rg:=hx.region;have L:tyV K.E (PlW.v ⟨l,g,k,m,B⟩)=(tu,te):=Fp a0 a1;obtain ⟨⟨tk,F,G,H,fs⟩,fA,fn,fc⟩:=ty;have V:(if te≠0 then te else if rg < 0\/(K.x.regions.n:Int)<=rg then 3 else if tk≠3\/G≠rg\/F≠E\/H≠tu\/(E=true/\mm=false) then 22 else pJ (out K.x.outl.L ((K.x.regions.L.length:Nat):Int)) rg RL)=v:=V;have a3:tk=3->fs=[]:=a3;have H0:=uA h;have ah:=uA a2;by_cases he:te=0
 case neg=>
  have t0:(te != 0)=true:=by simp [he]
  rw [if_pos he] at V;obtain rfl:te=v:=V;clear h ht a4 X a5 a0 a1 a6 I a3 J he a2;have HB:=uA (uB w (.cells (cRv ⟨Y,Z,rg,E,⟨l,g,k,m,B⟩,⟨gA,gn,gc,gL⟩⟩).toArray 67));have W:=uA (H0.o.up HB.o);have HX:=uA (hx.below (HB.o.mono H0.o.bs));clear hx;have HC:=uA (wK W.o HX.o.pl L);clear L;go_enter func238,ntmps238
  go_wp2_with fail
  refine HC.o.mono ?_;rintro e1 w1 ⟨rfl,n⟩;have o:=uA (Wy.new W.o n);clear n;go_wp2;go_ret;exact ⟨rfl,(Turn.of_below HB.o).trans o.o.turn,o.o.ck⟩
 have t0:(te != 0)=false:=by simp [he]
 rw [if_neg bB] at V;by_cases hr:rg < 0\/(K.x.regions.n:Int)<=rg
 case pos=>
  rw [if_pos hr] at V;obtain rfl:v=3:=V.symm;have HB:=uA (uB w (.cells (cRv ⟨Y,Z,rg,E,⟨l,g,k,m,B⟩,⟨gA,gn,gc,gL⟩⟩).toArray 67));have W:=uA (H0.o.up HB.o);have HX:=uA (hx.below (HB.o.mono H0.o.bs));have hcs:=uA fun (b:World) (hb:Wy K (w.alloc (.cells (cRv ⟨Y,Z,rg,E,⟨l,g,k,m,B⟩,⟨gA,gn,gc,gL⟩⟩).toArray 67)) b)=>(show b.cell? ⟨w.heap.size,2,none⟩=some (.int .i64 rg)/\b.cell? ⟨w.heap.size,3,none⟩=some (.bool E)/\b.cell? ⟨w.heap.size,4,none⟩=some (.int .i64 l)/\b.cell? ⟨w.heap.size,5,none⟩=some (.slice g k m)/\b.cell? ⟨K.g,1,none⟩=some (.slice K.x.regions.A K.x.regions.n K.x.regions.c)/\b.cell? ⟨K.g,3,none⟩=some (.slice K.x.types.A K.x.types.n K.x.types.c)/\b.cell? ⟨K.g,4,none⟩=some (.slice K.x.locals.A K.x.locals.n K.x.locals.c) from by
   have hcx:=Wy.box (cs:=cRv ⟨Y,Z,rg,E,⟨l,g,k,m,B⟩,⟨gA,gn,gc,gL⟩⟩) (T:=67) H0.o hb;exact ⟨hcx 2 _ rfl,hcx 3 _ rfl,hcx 4 _ rfl,hcx 5 _ rfl,hb.ck.cells 1 _ rfl,hb.ck.cells 3 _ rfl,hb.ck.cells 4 _ rfl⟩)
  have HC:=uA (wK W.o HX.o.pl L);have a9:Hdd (vD rg (K.x.regions.n:Int)=false):=wP.2 bB;clear h hx ht a4 X a5 a0 a1 a6 I a3 J L he a2 hr;go_enter func238,ntmps238
  go_wp2_with fail
  refine HC.o.mono ?_;rintro e1 w1 ⟨rfl,n⟩;have o:=uA (Wy.new W.o n);clear n;obtain ⟨s0,s1,s2,s3,s4,s5,s6⟩:=hcs.o _ o.o;go_wp2;have f:=uA (o.o.drew);refine wp_region_held_drew (S:=(fun b=>b.cell? ⟨w.heap.size,2,none⟩=some (.int .i64 rg)/\b.cell? ⟨w.heap.size,3,none⟩=some (.bool E)/\b.cell? ⟨w.heap.size,4,none⟩=some (.int .i64 l)/\b.cell? ⟨w.heap.size,5,none⟩=some (.slice g k m)/\b.cell? ⟨K.g,1,none⟩=some (.slice K.x.regions.A K.x.regions.n K.x.regions.c)/\b.cell? ⟨K.g,3,none⟩=some (.slice K.x.types.A K.x.types.n K.x.types.c)/\b.cell? ⟨K.g,4,none⟩=some (.slice K.x.locals.A K.x.locals.n K.x.locals.c))) fL (hcs.o _ f.o) (fun hHeld=>?_);refine uJ [0,1,2,3,4,5,6,7] ?_
  repeat' (first | refine pT hHeld rfl ?_ | refine pS hHeld rfl ?_)
  refine uK ?_;refine wpAnyH_ready (rs:=[8]) fL nF ?_;refine AllReadyH.cons rfl (fun KZ hK=>?_) AllReadyH.nil;go_simp;refine (xE a9.o _).mono ?_;rintro e2 w2 ⟨rfl,rfl⟩;refine hK.out _ _ (hcs.o _ f.o) (fun hHeld=>?_);clear hK KZ;try simp only [Ac]
  refine uJ [9,10] ?_
  repeat' (first | refine pT hHeld rfl ?_ | refine pS hHeld rfl ?_)
  refine uK ?_;refine wpAnyH_done fL ?_ _;go_wp2;go_ret;exact ⟨rfl,(Turn.of_below HB.o).trans f.o.turn,f.o.ck⟩
 rw [if_neg hr] at V;have aa:0<=rg/\rg < (K.x.regions.n:Int):=by omega
 have HRI:=uA aa;have a9:Hdd (vD rg (K.x.regions.n:Int)=true):=uW.2 aa;have HRN:=uA (I bB);have HRR:=uA J;obtain ⟨iu,al,a7,_⟩:=h.vb.ty (p:=PlW.v ⟨l,g,k,m,B⟩) (a1.trans he);have M:uH tu:=by
  have h1:tu=(iu:Int):=a0.symm.trans a7;have h2:=h.few;have h3:=h.one.types.len;have h4:iu < K.x.types.L.length:=(Ah.1 (by assumption)).1;unfold uH;omega
 obtain ⟨q,hq⟩:∃ q,EB ⟨tk,F,G,H,fs⟩ ⟨3,E,rg,tu,[]⟩=q:=⟨_,rfl⟩;have ab:q=true↔(tk=3/\F=E/\G=rg/\H=tu):=by
  rw [<-hq];unfold EB;rw [decide_eq_true_iff];constructor
  ·intro e;injection e with e1 e2 e3 e4 e5;exact ⟨e1,e2,e3,e4⟩
  ·rintro ⟨rfl,rfl,rfl,rfl⟩;rw [a3 rfl]
 cases q
 case false=>
  have hc:tk≠3\/G≠rg\/F≠E\/H≠tu\/(E=true/\mm=false):=by
   by_cases h1:tk=3
   ·by_cases h2:F=E
    ·by_cases h3:G=rg
     ·by_cases h4:H=tu
      ·exact absurd (ab.2 ⟨h1,h2,h3,h4⟩) nF
      ·exact .inr (.inr (.inr (.inl h4)))
     ·exact .inr (.inl h3)
    ·exact .inr (.inr (.inl h2))
   ·exact .inl h1
  rw [if_pos hc] at V;obtain rfl:v=22:=V.symm;clear h a4 a5 a0 a1 a6 I a3 J he a2 hr aa a7 ab hc;have HB:=uA (uB w (.cells (cRv ⟨Y,Z,rg,E,⟨l,g,k,m,B⟩,⟨gA,gn,gc,gL⟩⟩).toArray 67));have W:=uA (H0.o.up HB.o);have HX:=uA (hx.below (HB.o.mono H0.o.bs));clear hx;have hcs:=uA fun (b:World) (hb:Wy K (w.alloc (.cells (cRv ⟨Y,Z,rg,E,⟨l,g,k,m,B⟩,⟨gA,gn,gc,gL⟩⟩).toArray 67)) b)=>(show b.cell? ⟨w.heap.size,2,none⟩=some (.int .i64 rg)/\b.cell? ⟨w.heap.size,3,none⟩=some (.bool E)/\b.cell? ⟨w.heap.size,4,none⟩=some (.int .i64 l)/\b.cell? ⟨w.heap.size,5,none⟩=some (.slice g k m)/\b.cell? ⟨K.g,1,none⟩=some (.slice K.x.regions.A K.x.regions.n K.x.regions.c)/\b.cell? ⟨K.g,3,none⟩=some (.slice K.x.types.A K.x.types.n K.x.types.c)/\b.cell? ⟨K.g,4,none⟩=some (.slice K.x.locals.A K.x.locals.n K.x.locals.c) from by
   have hcx:=Wy.box (cs:=cRv ⟨Y,Z,rg,E,⟨l,g,k,m,B⟩,⟨gA,gn,gc,gL⟩⟩) (T:=67) H0.o hb;exact ⟨hcx 2 _ rfl,hcx 3 _ rfl,hcx 4 _ rfl,hcx 5 _ rfl,hb.ck.cells 1 _ rfl,hb.ck.cells 3 _ rfl,hb.ck.cells 4 _ rfl⟩)
  have HC:=uA (wK W.o HX.o.pl L);clear L;have ac:=uA fun (b:World) (q:Ck K b)=>wZ q ht
  clear ht;have ad:=uA fun (b:World) (q:Wy K (w.alloc (.cells (cRv ⟨Y,Z,rg,E,⟨l,g,k,m,B⟩,⟨gA,gn,gc,gL⟩⟩).toArray 67)) b)=>PC (x:=⟨⟨tk,F,G,H,fs⟩,fA,fn,fc⟩) (y:=⟨⟨3,E,rg,tu,[]⟩,none,0,0⟩) hq b ((X.below (HB.o.mono H0.o.bs)).below (q.low W.o) |>.more q.ck.bs) (EV HRR.o M)
  clear X M hq;go_enter func238,ntmps238
  go_wp2_with fail
  refine HC.o.mono ?_;rintro e1 w1 ⟨rfl,n⟩;have o:=uA (Wy.new W.o n);clear n;obtain ⟨s0,s1,s2,s3,s4,s5,s6⟩:=hcs.o _ o.o;go_wp2;have f:=uA (o.o.drew);refine wp_region_held_drew (S:=(fun b=>b.cell? ⟨w.heap.size,2,none⟩=some (.int .i64 rg)/\b.cell? ⟨w.heap.size,3,none⟩=some (.bool E)/\b.cell? ⟨w.heap.size,4,none⟩=some (.int .i64 l)/\b.cell? ⟨w.heap.size,5,none⟩=some (.slice g k m)/\b.cell? ⟨K.g,1,none⟩=some (.slice K.x.regions.A K.x.regions.n K.x.regions.c)/\b.cell? ⟨K.g,3,none⟩=some (.slice K.x.types.A K.x.types.n K.x.types.c)/\b.cell? ⟨K.g,4,none⟩=some (.slice K.x.locals.A K.x.locals.n K.x.locals.c))) fL (hcs.o _ f.o) (fun hHeld=>?_);refine uJ [0,1,2,3,4,5,6,7] ?_
  repeat' (first | refine pT hHeld rfl ?_ | refine pS hHeld rfl ?_)
  refine uK ?_;refine wpAnyH_ready (rs:=[8]) fL nF ?_;refine AllReadyH.cons rfl (fun KZ hK=>?_) AllReadyH.nil;go_simp;refine (xE a9.o _).mono ?_;rintro e2 w2 ⟨rfl,rfl⟩;refine hK.out _ _ (hcs.o _ f.o) (fun hHeld=>?_);clear hK KZ;try simp only [Ac]
  refine uJ [9,10] ?_
  repeat' (first | refine pT hHeld rfl ?_ | refine pS hHeld rfl ?_)
  refine uK ?_;refine wpAnyH_done fL ?_ _;obtain ⟨s0,s1,s2,s3,s4,s5,s6⟩:=hcs.o _ f.o;go_wp2;have C:=uA (f.o.drew);refine wp_region_held_drew (S:=(fun b=>b.cell? ⟨w.heap.size,2,none⟩=some (.int .i64 rg)/\b.cell? ⟨w.heap.size,3,none⟩=some (.bool E)/\b.cell? ⟨w.heap.size,4,none⟩=some (.int .i64 l)/\b.cell? ⟨w.heap.size,5,none⟩=some (.slice g k m)/\b.cell? ⟨K.g,1,none⟩=some (.slice K.x.regions.A K.x.regions.n K.x.regions.c)/\b.cell? ⟨K.g,3,none⟩=some (.slice K.x.types.A K.x.types.n K.x.types.c)/\b.cell? ⟨K.g,4,none⟩=some (.slice K.x.locals.A K.x.locals.n K.x.locals.c))) fL (hcs.o _ C.o) (fun hHeld=>?_);refine uJ [0,1,3,4,5,6,7,8] ?_
  repeat' (first | refine pT hHeld rfl ?_ | refine pS hHeld rfl ?_)
  refine uK ?_;refine wpAnyH_ready (rs:=[2]) fL nF ?_;refine AllReadyH.cons rfl (fun KZ hK=>?_) AllReadyH.nil;go_simp;refine (ac.o _ C.o.ck).mono ?_;rintro e3 w3 ⟨a8,N⟩;obtain rfl:e3=.returned (.agg #[.int .i64 tk,.bool F,.int .i64 G,.int .i64 H,.slice fA fn fc]):=a8;have D:=uA (C.o.up N);clear N;refine hK.out _ _ (hcs.o _ D.o) (fun hHeld=>?_);clear hK KZ;try simp only [Ac]
  refine wpAnyH_ready (rs:=[9]) fL nF ?_;refine AllReadyH.cons rfl (fun KZ hK=>?_) AllReadyH.nil;go_simp;refine (ad.o _ D.o).mono ?_;rintro e4 w4 ⟨rfl,R⟩;have A:=uA (D.o.up R);clear R;refine hK.out _ _ (hcs.o _ A.o) (fun hHeld=>?_);clear hK KZ;try simp only [Ac]
  refine uJ [10,11] ?_
  repeat' (first | refine pT hHeld rfl ?_ | refine pS hHeld rfl ?_)
  refine uK ?_;refine wpAnyH_done fL ?_ _;go_wp2;go_ret;exact ⟨rfl,(Turn.of_below HB.o).trans A.o.turn,A.o.ck⟩
 have U:=ab.1 rfl;have HRG:=uA fun (b:World) (q:Ck K b) (hp:uL b b.heap.size ⟨l,g,k,m,B⟩)=>FD (ct:=K.x.types.c) (cl:=K.x.locals.c) (q.vb.pl8 hp)
 cases E
 case false=>
  have HB:=uA (uB w (.cells (cRv ⟨Y,Z,rg,false,⟨l,g,k,m,B⟩,⟨gA,gn,gc,gL⟩⟩).toArray 67));have W:=uA (H0.o.up HB.o);have HX:=uA (hx.below (HB.o.mono H0.o.bs));have hcs:=uA fun (b:World) (hb:Wy K (w.alloc (.cells (cRv ⟨Y,Z,rg,false,⟨l,g,k,m,B⟩,⟨gA,gn,gc,gL⟩⟩).toArray 67)) b)=>(show b.cell? ⟨w.heap.size,2,none⟩=some (.int .i64 rg)/\b.cell? ⟨w.heap.size,3,none⟩=some (.bool false)/\b.cell? ⟨w.heap.size,4,none⟩=some (.int .i64 l)/\b.cell? ⟨w.heap.size,5,none⟩=some (.slice g k m)/\b.cell? ⟨K.g,1,none⟩=some (.slice K.x.regions.A K.x.regions.n K.x.regions.c)/\b.cell? ⟨K.g,3,none⟩=some (.slice K.x.types.A K.x.types.n K.x.types.c)/\b.cell? ⟨K.g,4,none⟩=some (.slice K.x.locals.A K.x.locals.n K.x.locals.c) from by
   have hcx:=Wy.box (cs:=cRv ⟨Y,Z,rg,false,⟨l,g,k,m,B⟩,⟨gA,gn,gc,gL⟩⟩) (T:=67) H0.o hb;exact ⟨hcx 2 _ rfl,hcx 3 _ rfl,hcx 4 _ rfl,hcx 5 _ rfl,hb.ck.cells 1 _ rfl,hb.ck.cells 3 _ rfl,hb.ck.cells 4 _ rfl⟩)
  have HC:=uA (wK W.o HX.o.pl L);have ac:=uA fun (b:World) (q:Ck K b)=>wZ q ht
  have ad:=uA fun (b:World) (q:Wy K (w.alloc (.cells (cRv ⟨Y,Z,rg,false,⟨l,g,k,m,B⟩,⟨gA,gn,gc,gL⟩⟩).toArray 67)) b)=>PC (x:=⟨⟨tk,F,G,H,fs⟩,fA,fn,fc⟩) (y:=⟨⟨3,false,rg,tu,[]⟩,none,0,0⟩) hq b ((X.below (HB.o.mono H0.o.bs)).below (q.low W.o) |>.more q.ck.bs) (EV HRR.o M)
  have ae:=uA fun (b:World) (q:Wy K (w.alloc (.cells (cRv ⟨Y,Z,rg,false,⟨l,g,k,m,B⟩,⟨gA,gn,gc,gL⟩⟩).toArray 67)) b)=>(show Calls prog 255 #[.slice K.x.types.A K.x.types.n K.x.types.c,.slice K.x.locals.A K.x.locals.n K.x.locals.c,.agg #[.int .i64 l,.slice g k m]] b (FG b RL) from ah.o ▸ HRG.o b q.ck ((HX.o.pl.below (q.low W.o)).more q.ck.bs))
  have HRG:=ae;rw [if_neg (by rintro (e | e | e | e | ⟨e,_⟩);exact e U.1;exact e U.2.2.1;exact e U.2.1;exact e U.2.2.2;cases e)] at V;clear h hx ht a4 X a5 a0 a1 a6 I a3 J L he a2 hr aa a7 M hq ab U;have HV:=uA V;clear V;go_enter func238,ntmps238
  go_wp2_with fail
  refine HC.o.mono ?_;rintro e1 w1 ⟨rfl,n⟩;have o:=uA (Wy.new W.o n);clear n;obtain ⟨s0,s1,s2,s3,s4,s5,s6⟩:=hcs.o _ o.o;go_wp2;have f:=uA (o.o.drew);refine wp_region_held_drew (S:=(fun b=>b.cell? ⟨w.heap.size,2,none⟩=some (.int .i64 rg)/\b.cell? ⟨w.heap.size,3,none⟩=some (.bool false)/\b.cell? ⟨w.heap.size,4,none⟩=some (.int .i64 l)/\b.cell? ⟨w.heap.size,5,none⟩=some (.slice g k m)/\b.cell? ⟨K.g,1,none⟩=some (.slice K.x.regions.A K.x.regions.n K.x.regions.c)/\b.cell? ⟨K.g,3,none⟩=some (.slice K.x.types.A K.x.types.n K.x.types.c)/\b.cell? ⟨K.g,4,none⟩=some (.slice K.x.locals.A K.x.locals.n K.x.locals.c))) fL (hcs.o _ f.o) (fun hHeld=>?_);refine uJ [0,1,2,3,4,5,6,7] ?_
  repeat' (first | refine pT hHeld rfl ?_ | refine pS hHeld rfl ?_)
  refine uK ?_;refine wpAnyH_ready (rs:=[8]) fL nF ?_;refine AllReadyH.cons rfl (fun KZ hK=>?_) AllReadyH.nil;go_simp;refine (xE a9.o _).mono ?_;rintro e2 w2 ⟨rfl,rfl⟩;refine hK.out _ _ (hcs.o _ f.o) (fun hHeld=>?_);clear hK KZ;try simp only [Ac]
  refine uJ [9,10] ?_
  repeat' (first | refine pT hHeld rfl ?_ | refine pS hHeld rfl ?_)
  refine uK ?_;refine wpAnyH_done fL ?_ _;obtain ⟨s0,s1,s2,s3,s4,s5,s6⟩:=hcs.o _ f.o;go_wp2;have C:=uA (f.o.drew);refine wp_region_held_drew (S:=(fun b=>b.cell? ⟨w.heap.size,2,none⟩=some (.int .i64 rg)/\b.cell? ⟨w.heap.size,3,none⟩=some (.bool false)/\b.cell? ⟨w.heap.size,4,none⟩=some (.int .i64 l)/\b.cell? ⟨w.heap.size,5,none⟩=some (.slice g k m)/\b.cell? ⟨K.g,1,none⟩=some (.slice K.x.regions.A K.x.regions.n K.x.regions.c)/\b.cell? ⟨K.g,3,none⟩=some (.slice K.x.types.A K.x.types.n K.x.types.c)/\b.cell? ⟨K.g,4,none⟩=some (.slice K.x.locals.A K.x.locals.n K.x.locals.c))) fL (hcs.o _ C.o) (fun hHeld=>?_);refine uJ [0,1,3,4,5,6,7,8] ?_
  repeat' (first | refine pT hHeld rfl ?_ | refine pS hHeld rfl ?_)
  refine uK ?_;refine wpAnyH_ready (rs:=[2]) fL nF ?_;refine AllReadyH.cons rfl (fun KZ hK=>?_) AllReadyH.nil;go_simp;refine (ac.o _ C.o.ck).mono ?_;rintro e3 w3 ⟨a8,N⟩;obtain rfl:e3=.returned (.agg #[.int .i64 tk,.bool F,.int .i64 G,.int .i64 H,.slice fA fn fc]):=a8;have D:=uA (C.o.up N);clear N;refine hK.out _ _ (hcs.o _ D.o) (fun hHeld=>?_);clear hK KZ;try simp only [Ac]
  refine wpAnyH_ready (rs:=[9]) fL nF ?_;refine AllReadyH.cons rfl (fun KZ hK=>?_) AllReadyH.nil;go_simp;refine (ad.o _ D.o).mono ?_;rintro e4 w4 ⟨rfl,R⟩;have A:=uA (D.o.up R);clear R;refine hK.out _ _ (hcs.o _ A.o) (fun hHeld=>?_);clear hK KZ;try simp only [Ac]
  refine uJ [10,11] ?_
  repeat' (first | refine pT hHeld rfl ?_ | refine pS hHeld rfl ?_)
  refine uK ?_;refine wpAnyH_done fL ?_ _;obtain ⟨s0,s1,s2,s3,s4,s5,s6⟩:=hcs.o _ A.o;go_wp2;have HX5:=uA (A.o.drew);refine wp_region_held_drew (S:=(fun b=>b.cell? ⟨w.heap.size,2,none⟩=some (.int .i64 rg)/\b.cell? ⟨w.heap.size,3,none⟩=some (.bool false)/\b.cell? ⟨w.heap.size,4,none⟩=some (.int .i64 l)/\b.cell? ⟨w.heap.size,5,none⟩=some (.slice g k m)/\b.cell? ⟨K.g,1,none⟩=some (.slice K.x.regions.A K.x.regions.n K.x.regions.c)/\b.cell? ⟨K.g,3,none⟩=some (.slice K.x.types.A K.x.types.n K.x.types.c)/\b.cell? ⟨K.g,4,none⟩=some (.slice K.x.locals.A K.x.locals.n K.x.locals.c))) fL (hcs.o _ HX5.o) (fun hHeld=>?_);exact uE9
 case true=>
  have HB:=uA (uB w (.cells (cRv ⟨Y,Z,rg,true,⟨l,g,k,m,B⟩,⟨gA,gn,gc,gL⟩⟩).toArray 67));have W:=uA (H0.o.up HB.o);have HX:=uA (hx.below (HB.o.mono H0.o.bs));have hcs:=uA fun (b:World) (hb:Wy K (w.alloc (.cells (cRv ⟨Y,Z,rg,true,⟨l,g,k,m,B⟩,⟨gA,gn,gc,gL⟩⟩).toArray 67)) b)=>(show b.cell? ⟨w.heap.size,2,none⟩=some (.int .i64 rg)/\b.cell? ⟨w.heap.size,3,none⟩=some (.bool true)/\b.cell? ⟨w.heap.size,4,none⟩=some (.int .i64 l)/\b.cell? ⟨w.heap.size,5,none⟩=some (.slice g k m)/\b.cell? ⟨K.g,1,none⟩=some (.slice K.x.regions.A K.x.regions.n K.x.regions.c)/\b.cell? ⟨K.g,3,none⟩=some (.slice K.x.types.A K.x.types.n K.x.types.c)/\b.cell? ⟨K.g,4,none⟩=some (.slice K.x.locals.A K.x.locals.n K.x.locals.c) from by
   have hcx:=Wy.box (cs:=cRv ⟨Y,Z,rg,true,⟨l,g,k,m,B⟩,⟨gA,gn,gc,gL⟩⟩) (T:=67) H0.o hb;exact ⟨hcx 2 _ rfl,hcx 3 _ rfl,hcx 4 _ rfl,hcx 5 _ rfl,hb.ck.cells 1 _ rfl,hb.ck.cells 3 _ rfl,hb.ck.cells 4 _ rfl⟩)
  have HC:=uA (wK W.o HX.o.pl L);have ac:=uA fun (b:World) (q:Ck K b)=>wZ q ht
  have ad:=uA fun (b:World) (q:Wy K (w.alloc (.cells (cRv ⟨Y,Z,rg,true,⟨l,g,k,m,B⟩,⟨gA,gn,gc,gL⟩⟩).toArray 67)) b)=>PC (x:=⟨⟨tk,F,G,H,fs⟩,fA,fn,fc⟩) (y:=⟨⟨3,true,rg,tu,[]⟩,none,0,0⟩) hq b ((X.below (HB.o.mono H0.o.bs)).below (q.low W.o) |>.more q.ck.bs) (EV HRR.o M)
  have ae:=uA fun (b:World) (q:Wy K (w.alloc (.cells (cRv ⟨Y,Z,rg,true,⟨l,g,k,m,B⟩,⟨gA,gn,gc,gL⟩⟩).toArray 67)) b)=>(show Calls prog 255 #[.slice K.x.types.A K.x.types.n K.x.types.c,.slice K.x.locals.A K.x.locals.n K.x.locals.c,.agg #[.int .i64 l,.slice g k m]] b (FG b RL) from ah.o ▸ HRG.o b q.ck ((HX.o.pl.below (q.low W.o)).more q.ck.bs))
  have HRG:=ae;have ai:=uA fun (b:World) (q:Wy K (w.alloc (.cells (cRv ⟨Y,Z,rg,true,⟨l,g,k,m,B⟩,⟨gA,gn,gc,gL⟩⟩).toArray 67)) b)=>RI q.ck (HX.o.pl.below (q.low W.o)) a6
  cases mm
  case false=>
   rw [if_pos (.inr (.inr (.inr (.inr ⟨rfl,rfl⟩))))] at V;obtain rfl:v=22:=V.symm;clear h hx ht a4 X a5 a0 a1 a6 I a3 J L he a2 hr aa a7 M hq ab U;go_enter func238,ntmps238
   go_wp2_with fail
   refine HC.o.mono ?_;rintro e1 w1 ⟨rfl,n⟩;have o:=uA (Wy.new W.o n);clear n;obtain ⟨s0,s1,s2,s3,s4,s5,s6⟩:=hcs.o _ o.o;go_wp2;have f:=uA (o.o.drew);refine wp_region_held_drew (S:=(fun b=>b.cell? ⟨w.heap.size,2,none⟩=some (.int .i64 rg)/\b.cell? ⟨w.heap.size,3,none⟩=some (.bool true)/\b.cell? ⟨w.heap.size,4,none⟩=some (.int .i64 l)/\b.cell? ⟨w.heap.size,5,none⟩=some (.slice g k m)/\b.cell? ⟨K.g,1,none⟩=some (.slice K.x.regions.A K.x.regions.n K.x.regions.c)/\b.cell? ⟨K.g,3,none⟩=some (.slice K.x.types.A K.x.types.n K.x.types.c)/\b.cell? ⟨K.g,4,none⟩=some (.slice K.x.locals.A K.x.locals.n K.x.locals.c))) fL (hcs.o _ f.o) (fun hHeld=>?_);refine uJ [0,1,2,3,4,5,6,7] ?_
   repeat' (first | refine pT hHeld rfl ?_ | refine pS hHeld rfl ?_)
   refine uK ?_;refine wpAnyH_ready (rs:=[8]) fL nF ?_;refine AllReadyH.cons rfl (fun KZ hK=>?_) AllReadyH.nil;go_simp;refine (xE a9.o _).mono ?_;rintro e2 w2 ⟨rfl,rfl⟩;refine hK.out _ _ (hcs.o _ f.o) (fun hHeld=>?_);clear hK KZ;try simp only [Ac]
   refine uJ [9,10] ?_
   repeat' (first | refine pT hHeld rfl ?_ | refine pS hHeld rfl ?_)
   refine uK ?_;refine wpAnyH_done fL ?_ _;obtain ⟨s0,s1,s2,s3,s4,s5,s6⟩:=hcs.o _ f.o;go_wp2;have C:=uA (f.o.drew);refine wp_region_held_drew (S:=(fun b=>b.cell? ⟨w.heap.size,2,none⟩=some (.int .i64 rg)/\b.cell? ⟨w.heap.size,3,none⟩=some (.bool true)/\b.cell? ⟨w.heap.size,4,none⟩=some (.int .i64 l)/\b.cell? ⟨w.heap.size,5,none⟩=some (.slice g k m)/\b.cell? ⟨K.g,1,none⟩=some (.slice K.x.regions.A K.x.regions.n K.x.regions.c)/\b.cell? ⟨K.g,3,none⟩=some (.slice K.x.types.A K.x.types.n K.x.types.c)/\b.cell? ⟨K.g,4,none⟩=some (.slice K.x.locals.A K.x.locals.n K.x.locals.c))) fL (hcs.o _ C.o) (fun hHeld=>?_);refine uJ [0,1,3,4,5,6,7,8] ?_
   repeat' (first | refine pT hHeld rfl ?_ | refine pS hHeld rfl ?_)
   refine uK ?_;refine wpAnyH_ready (rs:=[2]) fL nF ?_;refine AllReadyH.cons rfl (fun KZ hK=>?_) AllReadyH.nil;go_simp;refine (ac.o _ C.o.ck).mono ?_;rintro e3 w3 ⟨a8,N⟩;obtain rfl:e3=.returned (.agg #[.int .i64 tk,.bool F,.int .i64 G,.int .i64 H,.slice fA fn fc]):=a8;have D:=uA (C.o.up N);clear N;refine hK.out _ _ (hcs.o _ D.o) (fun hHeld=>?_);clear hK KZ;try simp only [Ac]
   refine wpAnyH_ready (rs:=[9]) fL nF ?_;refine AllReadyH.cons rfl (fun KZ hK=>?_) AllReadyH.nil;go_simp;refine (ad.o _ D.o).mono ?_;rintro e4 w4 ⟨rfl,R⟩;have A:=uA (D.o.up R);clear R;refine hK.out _ _ (hcs.o _ A.o) (fun hHeld=>?_);clear hK KZ;try simp only [Ac]
   refine uJ [10,11] ?_
   repeat' (first | refine pT hHeld rfl ?_ | refine pS hHeld rfl ?_)
   refine uK ?_;refine wpAnyH_done fL ?_ _;obtain ⟨s0,s1,s2,s3,s4,s5,s6⟩:=hcs.o _ A.o;go_wp2_with fail
   refine (ai.o _ A.o).mono ?_;rintro e5 w5 ⟨rfl,af⟩;clear s0 s1 s2 s3 s4 s5 s6;have HW5:=uA (A.o.up af);clear af;go_wp2;go_ret;exact ⟨rfl,(Turn.of_below HB.o).trans HW5.o.turn,HW5.o.ck⟩
  case true=>
   rw [if_neg (by rintro (e | e | e | e | ⟨_,e⟩);exact e U.1;exact e U.2.2.1;exact e U.2.1;exact e U.2.2.2;cases e)] at V;clear h hx ht a4 X a5 a0 a1 a6 I a3 J L he a2 hr aa a7 M hq ab U;have HV:=uA V;clear V;go_enter func238,ntmps238
   go_wp2_with fail
   refine HC.o.mono ?_;rintro e1 w1 ⟨rfl,n⟩;have o:=uA (Wy.new W.o n);clear n;obtain ⟨s0,s1,s2,s3,s4,s5,s6⟩:=hcs.o _ o.o;go_wp2;have f:=uA (o.o.drew);refine wp_region_held_drew (S:=(fun b=>b.cell? ⟨w.heap.size,2,none⟩=some (.int .i64 rg)/\b.cell? ⟨w.heap.size,3,none⟩=some (.bool true)/\b.cell? ⟨w.heap.size,4,none⟩=some (.int .i64 l)/\b.cell? ⟨w.heap.size,5,none⟩=some (.slice g k m)/\b.cell? ⟨K.g,1,none⟩=some (.slice K.x.regions.A K.x.regions.n K.x.regions.c)/\b.cell? ⟨K.g,3,none⟩=some (.slice K.x.types.A K.x.types.n K.x.types.c)/\b.cell? ⟨K.g,4,none⟩=some (.slice K.x.locals.A K.x.locals.n K.x.locals.c))) fL (hcs.o _ f.o) (fun hHeld=>?_);refine uJ [0,1,2,3,4,5,6,7] ?_
   repeat' (first | refine pT hHeld rfl ?_ | refine pS hHeld rfl ?_)
   refine uK ?_;refine wpAnyH_ready (rs:=[8]) fL nF ?_;refine AllReadyH.cons rfl (fun KZ hK=>?_) AllReadyH.nil;go_simp;refine (xE a9.o _).mono ?_;rintro e2 w2 ⟨rfl,rfl⟩;refine hK.out _ _ (hcs.o _ f.o) (fun hHeld=>?_);clear hK KZ;try simp only [Ac]
   refine uJ [9,10] ?_
   repeat' (first | refine pT hHeld rfl ?_ | refine pS hHeld rfl ?_)
   refine uK ?_;refine wpAnyH_done fL ?_ _;obtain ⟨s0,s1,s2,s3,s4,s5,s6⟩:=hcs.o _ f.o;go_wp2;have C:=uA (f.o.drew);refine wp_region_held_drew (S:=(fun b=>b.cell? ⟨w.heap.size,2,none⟩=some (.int .i64 rg)/\b.cell? ⟨w.heap.size,3,none⟩=some (.bool true)/\b.cell? ⟨w.heap.size,4,none⟩=some (.int .i64 l)/\b.cell? ⟨w.heap.size,5,none⟩=some (.slice g k m)/\b.cell? ⟨K.g,1,none⟩=some (.slice K.x.regions.A K.x.regions.n K.x.regions.c)/\b.cell? ⟨K.g,3,none⟩=some (.slice K.x.types.A K.x.types.n K.x.types.c)/\b.cell? ⟨K.g,4,none⟩=some (.slice K.x.locals.A K.x.locals.n K.x.locals.c))) fL (hcs.o _ C.o) (fun hHeld=>?_);refine uJ [0,1,3,4,5,6,7,8] ?_
   repeat' (first | refine pT hHeld rfl ?_ | refine pS hHeld rfl ?_)
   refine uK ?_;refine wpAnyH_ready (rs:=[2]) fL nF ?_;refine AllReadyH.cons rfl (fun KZ hK=>?_) AllReadyH.nil;go_simp;refine (ac.o _ C.o.ck).mono ?_;rintro e3 w3 ⟨a8,N⟩;obtain rfl:e3=.returned (.agg #[.int .i64 tk,.bool F,.int .i64 G,.int .i64 H,.slice fA fn fc]):=a8;have D:=uA (C.o.up N);clear N;refine hK.out _ _ (hcs.o _ D.o) (fun hHeld=>?_);clear hK KZ;try simp only [Ac]
   refine wpAnyH_ready (rs:=[9]) fL nF ?_;refine AllReadyH.cons rfl (fun KZ hK=>?_) AllReadyH.nil;go_simp;refine (ad.o _ D.o).mono ?_;rintro e4 w4 ⟨rfl,R⟩;have A:=uA (D.o.up R);clear R;refine hK.out _ _ (hcs.o _ A.o) (fun hHeld=>?_);clear hK KZ;try simp only [Ac]
   refine uJ [10,11] ?_
   repeat' (first | refine pT hHeld rfl ?_ | refine pS hHeld rfl ?_)
   refine uK ?_;refine wpAnyH_done fL ?_ _;obtain ⟨s0,s1,s2,s3,s4,s5,s6⟩:=hcs.o _ A.o;go_wp2_with fail
   refine (ai.o _ A.o).mono ?_;rintro e5 w5 ⟨rfl,af⟩;clear s0 s1 s2 s3 s4 s5 s6;have HW5:=uA (A.o.up af);clear af;obtain ⟨s0,s1,s2,s3,s4,s5,s6⟩:=hcs.o _ HW5.o;go_wp2;have HX5:=uA (HW5.o.drew);refine wp_region_held_drew (S:=(fun b=>b.cell? ⟨w.heap.size,2,none⟩=some (.int .i64 rg)/\b.cell? ⟨w.heap.size,3,none⟩=some (.bool true)/\b.cell? ⟨w.heap.size,4,none⟩=some (.int .i64 l)/\b.cell? ⟨w.heap.size,5,none⟩=some (.slice g k m)/\b.cell? ⟨K.g,1,none⟩=some (.slice K.x.regions.A K.x.regions.n K.x.regions.c)/\b.cell? ⟨K.g,3,none⟩=some (.slice K.x.types.A K.x.types.n K.x.types.c)/\b.cell? ⟨K.g,4,none⟩=some (.slice K.x.locals.A K.x.locals.n K.x.locals.c))) fL (hcs.o _ HX5.o) (fun hHeld=>?_);exact uE9
def opR:List (Int×Int×Int×Int):=[(2,0,2,2),(2,1,1,1),(3,0,2,2),(3,1,2,2),(3,2,2,2),(3,3,2,1),(3,4,2,1),(3,5,1,1)]
theorem uGz (w:World):(Instr.index 341 (.agg yR.toArray) (.int .i64 ((0:Nat):Int))).run prog w=.ok (.agg #[.int .i64 2,.int .i64 0,.int .i64 2,.int .i64 2]) w:=by kernel_rfl
theorem uG3 (w:World):(Instr.index 341 (.agg yR.toArray) (.int .i64 ((1:Nat):Int))).run prog w=.ok (.agg #[.int .i64 2,.int .i64 1,.int .i64 1,.int .i64 1]) w:=by kernel_rfl
theorem uGi (w:World):(Instr.index 341 (.agg yR.toArray) (.int .i64 ((2:Nat):Int))).run prog w=.ok (.agg #[.int .i64 3,.int .i64 0,.int .i64 2,.int .i64 2]) w:=by kernel_rfl
theorem uF6 (w:World):(Instr.index 341 (.agg yR.toArray) (.int .i64 ((3:Nat):Int))).run prog w=.ok (.agg #[.int .i64 3,.int .i64 1,.int .i64 2,.int .i64 2]) w:=by kernel_rfl
theorem uGr (w:World):(Instr.index 341 (.agg yR.toArray) (.int .i64 ((4:Nat):Int))).run prog w=.ok (.agg #[.int .i64 3,.int .i64 2,.int .i64 2,.int .i64 2]) w:=by kernel_rfl
theorem uF1 (w:World):(Instr.index 341 (.agg yR.toArray) (.int .i64 ((5:Nat):Int))).run prog w=.ok (.agg #[.int .i64 3,.int .i64 3,.int .i64 2,.int .i64 1]) w:=by kernel_rfl
theorem uGv (w:World):(Instr.index 341 (.agg yR.toArray) (.int .i64 ((6:Nat):Int))).run prog w=.ok (.agg #[.int .i64 3,.int .i64 4,.int .i64 2,.int .i64 1]) w:=by kernel_rfl
theorem uF5 (w:World):(Instr.index 341 (.agg yR.toArray) (.int .i64 ((7:Nat):Int))).run prog w=.ok (.agg #[.int .i64 3,.int .i64 5,.int .i64 1,.int .i64 1]) w:=by kernel_rfl
theorem WQ {j:Nat} {r:Int×Int×Int×Int} (h:opR[j]?=some r) (w:World):(Instr.index 341 (.agg yR.toArray) (.int .i64 (j:Int))).run prog w=.ok (.agg #[.int .i64 r.1,.int .i64 r.2.1,.int .i64 r.2.2.1,.int .i64 r.2.2.2]) w:=by
 match j,h with
 | 0,h=>obtain rfl:((2:Int),(0:Int),(2:Int),(2:Int))=r:=B8 h;exact uGz w
 | 1,h=>obtain rfl:((2:Int),(1:Int),(1:Int),(1:Int))=r:=B8 h;exact uG3 w
 | 2,h=>obtain rfl:((3:Int),(0:Int),(2:Int),(2:Int))=r:=B8 h;exact uGi w
 | 3,h=>obtain rfl:((3:Int),(1:Int),(2:Int),(2:Int))=r:=B8 h;exact uF6 w
 | 4,h=>obtain rfl:((3:Int),(2:Int),(2:Int),(2:Int))=r:=B8 h;exact uGr w
 | 5,h=>obtain rfl:((3:Int),(3:Int),(2:Int),(1:Int))=r:=B8 h;exact uF1 w
 | 6,h=>obtain rfl:((3:Int),(4:Int),(2:Int),(1:Int))=r:=B8 h;exact uGv w
 | 7,h=>obtain rfl:((3:Int),(5:Int),(1:Int),(1:Int))=r:=B8 h;exact uF5 w
 | n+8,h=>cases h
theorem mV.range {w:World} (h:mV w):w.rangeAt 0 0 yR:=fun j v a=>by rw [Ea];exact h j v a
def wW (k op er:Int) (al:Int->Bool) (kt:Int):List (Int×Int×Int×Int)->Int->Int
 | [],f=>f
 | r :: l,f=>if r.1=k/\r.2.1=op then (if er≠0 then er else if al r.2.2.1=true/\kt=r.2.2.2 then 0 else wW k op er al kt l 22) else wW k op er al kt l f
theorem VR {k op er kt f:Int} {al:Int->Bool} {j:Nat} {a b c d:Int} (h:opR[j]?=some (a,b,c,d)) :
 wW k op er al kt (opR.drop j) f=if a=k/\b=op then (if er≠0 then er else if al c=true/\kt=d then 0 else wW k op er al kt (opR.drop (j+1)) 22) else wW k op er al kt (opR.drop (j+1)) f:=by
 rw [xK h];rfl
def AG (E:Env) (r:RvV) (kt:Int):Int:=wW r.kind r.op (vG E r.args) (fun k=>r.args.all fun o=>decide (kdV E o=k)) kt opR 14
theorem uEs {P:Prop} (h:P:=by
 clear h1;go_wp2;go_roundw
 case rel=>exact ⟨j+1,ff,rfl,by go_num,bB,uA HN.o,uA HWq.o⟩
 case measure=>simp [intOf];omega):P:=h
theorem QZ {K:CkW} {x:RvW} {kt v:Int} {w:World} (h:Ck K w) (hx:zR w K.B x) (hv:AG K.E x.v kt=v) :
 Calls prog 240 #[K.ptr,eH x,.int .i64 kt] w fun e g=>e=.returned (.int .i64 v)/\Wy K w g:=by
 obtain ⟨G,F,rg,mu,⟨l,pA,pn,pc,ps⟩,⟨gA,s,gc,m⟩⟩:=x;have HB:=uA (uB w (.cells #[.int .i64 G,.int .i64 F,.int .i64 rg,.bool mu,.int .i64 l,.slice pA pn pc,.slice gA s gc] 67));have H0:=uA h;have HK:=uA (h.up HB.o);have HX:=uA (hx.args.below (HB.o.mono h.bs));have HR:=uA HK.o.tab.range;have ad:m.length=s:=hx.args.len;have ao:s<=maxLen:=hx.args.nm;unfold maxLen at ao;obtain ⟨L,a3⟩:∃ e,vG K.E (m.map OpW.v)=e:=⟨_,rfl⟩;have ae:(wW G F L (fun k=>(m.map OpW.v).all fun o=>decide (kdV K.E o=k)) kt opR 14)=v:=by rw [<-hv,<- a3];rfl
 clear h hx hv;have HV:=uA ae;clear ae;have I:=uA ad;clear ad;have af:=uA a3;clear a3;have a4:=uA fun (g:World) (hb:Wy K (w.alloc (.cells #[.int .i64 G,.int .i64 F,.int .i64 rg,.bool mu,.int .i64 l,.slice pA pn pc,.slice gA s gc] 67)) g)=>(show g.cell? ⟨w.heap.size,0,none⟩=some (.int .i64 G)/\g.cell? ⟨w.heap.size,1,none⟩=some (.int .i64 F)/\g.cell? ⟨w.heap.size,6,none⟩=some (.slice gA s gc) from by
  have hcx:=Wy.box (cs:=[.int .i64 G,.int .i64 F,.int .i64 rg,.bool mu,.int .i64 l,.slice pA pn pc,.slice gA s gc]) (T:=67) H0.o hb;exact ⟨hcx 0 _ rfl,hcx 1 _ rfl,hcx 6 _ rfl⟩)
 go_enter func240,ntmps240
 go_wp2;refine wp_scope_straight ?_;go_wp2;apply wp_label;go_wp2_with (refine wpList_load_mid rfl 341 _ rfl 0 0 rfl yR _ HR.o underlying341 rfl fL ?_)
 go_loopw [7,15] (fun f i wr=>∃ j:Nat,∃ ff:Int,f=.int .i64 ff/\i=.int .i64 (j:Int)/\j<=8/\Hdd ((wW G F L (fun k=>(m.map OpW.v).all fun o=>decide (kdV K.E o=k)) kt (opR.drop j) ff)=v)/\Hdd (Wy K (w.alloc (.cells #[.int .i64 G,.int .i64 F,.int .i64 rg,.bool mu,.int .i64 l,.slice pA pn pc,.slice gA s gc] 67)) wr)) (fun _ i _=>8 - (intOf i).toNat)
 case atStart=>exact ⟨0,14,rfl,rfl,bB,uA HV.o,uA (Wy.refl HK.o)⟩
 case round=>
  obtain ⟨j,ff,rfl,rfl,hj,HE,HW⟩:=hrel;generalize wr=wq at *;by_cases au:j < 8
  ·have ar:(j:Int) < 8:=bB;obtain ⟨⟨a,b,c,d⟩,hr⟩:∃ r,opR[j]?=some r:=⟨_,Ad (by show j < 8;omega)⟩;have ap:=WQ hr;have HS:=uA (fun al=>VR (k:=G) (op:=F) (er:=L) (al:=al) (kt:=kt) (f:=ff) hr);have ag:=(Below.refl wq.heap.size wq).alloc (Ae _) (.cells #[.int .i64 a,.int .i64 b,.int .i64 c,.int .i64 d] 340);have HWq:=uA (HW.o.up ag);have ah:=uA fun (g:World) (q:Wy K (wq.alloc (.cells #[.int .i64 a,.int .i64 b,.int .i64 c,.int .i64 d] 340)) g)=>(show (g.cell? ⟨wq.heap.size,2,none⟩=some (.int .i64 c)/\g.cell? ⟨wq.heap.size,3,none⟩=some (.int .i64 d)) from ⟨Wy.box (cs:=[.int .i64 a,.int .i64 b,.int .i64 c,.int .i64 d]) (T:=340) HW.o.ck q 2 _ rfl,Wy.box (cs:=[.int .i64 a,.int .i64 b,.int .i64 c,.int .i64 d]) (T:=340) HW.o.ck q 3 _ rfl⟩)
   obtain ⟨y0,y1,y6⟩:=a4.o _ HW.o;obtain ⟨z0,z1,z6⟩:=a4.o _ HWq.o;simp only [] at ap;clear hr ag;by_cases h1:a=G
   case neg=>
    have t1:(a != G)=true:=(by simp [h1]);have HN:=uA (show (wW G F L (fun k=>(m.map OpW.v).all fun o=>decide (kdV K.E o=k)) kt (opR.drop (j+1)) ff)=v by rw [<-HE.o,HS.o,if_neg (by rintro ⟨e,_⟩;exact h1 e)]);exact uEs
   have t1:(a != G)=false:=(by simp [h1]);by_cases h2:b=F
   case neg=>
    have t2:(b != F)=true:=(by simp [h2]);have HN:=uA (show (wW G F L (fun k=>(m.map OpW.v).all fun o=>decide (kdV K.E o=k)) kt (opR.drop (j+1)) ff)=v by rw [<-HE.o,HS.o,if_neg (by rintro ⟨_,e⟩;exact h2 e)]);exact uEs
   have t2:(b != F)=false:=(by simp [h2]);have HM:=uA (fun al=>(HS.o al).trans (if_pos ⟨h1,h2⟩));clear h1 h2;go_wp2;go_loopw [7,33] (fun f i wr=>∃ q:Nat,∃ fg:Int,f=.int .i64 fg/\i=.int .i64 (q:Int)/\q<=s/\Hdd (vG K.E ((m.map OpW.v).drop q)=L)/\Hdd (Wy K (wq.alloc (.cells #[.int .i64 a,.int .i64 b,.int .i64 c,.int .i64 d] 340)) wr)) (fun _ i _=>s - (intOf i).toNat)
   case atStart=>exact ⟨0,ff,rfl,rfl,Am _,uA af.o,uA (Wy.refl HWq.o.ck)⟩
   case round=>
    obtain ⟨q,fg,rfl,rfl,hq,HQ,a5⟩:=hrel;generalize wr=ws at *;have a6:=uA (HWq.o.trans a5.o);by_cases aq:q < s
    ·have ai:(q:Int) < (s:Int):=bB;obtain ⟨p,hp⟩:∃ p,m[q]?=some p:=⟨_,Ad (by have:m.length=s:=I.o;omega)⟩;have J:(m.map OpW.v)[q]?=some p.v:=by rw [Ar,hp];rfl
     have M:Ops ws K.B ⟨gA,s,gc,m⟩:=Ops.below (a6.o.low HK.o) HX.o;obtain ⟨N,O,hA,_,D,R⟩:=M.at_ hp;have hA:gA=some ⟨N,O,none⟩:=hA;subst hA;obtain ⟨t,⟨u,y,A,B,qs⟩,nq⟩:=p;have c0:ws.cell? ⟨N,O+q*4,none⟩=some (.int .i64 t):=R 0 _ rfl;have c1:ws.cell? ⟨N,O+q*4+1,none⟩=some (.int .i64 u):=R 1 _ rfl;have c2:ws.cell? ⟨N,O+q*4+2,none⟩=some (.slice y A B):=R 2 _ rfl;have c3:ws.cell? ⟨N,O+q*4+3,none⟩=some (.int .i64 nq):=R 3 _ rfl;have H:=(Below.refl ws.heap.size ws).alloc (Ae _) (.cells #[.int .i64 t,.int .i64 u,.slice y A B,.int .i64 nq] 183);have a7:=uA (a5.o.up H);have a8:=uA (D.below (H.mono a6.o.ck.bs));have aj:=uA (BC (E:=K.E) J);obtain ⟨oe,a9⟩:∃ z,vP K.E (OpW.v ⟨t,⟨u,y,A,B,qs⟩,nq⟩)=z:=⟨_,rfl⟩;clear hp J M D R H;have HC:=uA (CY a7.o.ck a8.o a9);have ak:=uA a9;clear a9;by_cases h0:oe=0
     ·have HN:=uA (show vG K.E ((m.map OpW.v).drop (q+1))=L by rw [<-HQ.o,aj.o,if_neg (by rw [ak.o,h0];simp)]);have t3:(oe != 0)=false:=(by simp [h0]);clear h0;go_wp2_with fail
      refine HC.o.mono ?_;rintro e1 w1 ⟨rfl,U⟩;have a1:=uA (a7.o.trans U);clear U;go_wp2;go_roundw
      case rel=>exact ⟨q+1,oe,rfl,by go_num,bB,uA HN.o,uA a1.o⟩
      case measure=>simp [intOf];omega
     ·have t3:(oe != 0)=true:=(by simp [h0]);have HN:=uA (show L=oe by rw [<-HQ.o,aj.o,ak.o,if_pos h0]);have V:=uA (show v=oe by rw [<-HE.o,HM.o,HN.o,if_pos h0]);clear h0;go_wp2_with fail
      refine HC.o.mono ?_;rintro e1 w1 ⟨rfl,U⟩;have a1:=uA (HWq.o.trans (a7.o.trans U));clear U;go_wp2;rw [Do];go_ret;exact ⟨congrArg (fun v=>Ending.returned (.int .i64 v)) V.o.symm,(Turn.of_below HB.o).trans a1.o.turn,a1.o.ck⟩
    ·obtain rfl:s=q:=by omega
     have W:L=0:=by rw [<-HQ.o];exact sU (by rw [Ao];have:m.length=s:=I.o;omega)
     have HZ:=uA (oZ.1 (af.o.trans W));have aa:=uA (fun al=>(HM.o al).trans (if_neg (by rw [W];simp)));obtain ⟨y0,y1,y6⟩:=a4.o _ a6.o;clear W;go_wp2;go_loopw [46] (fun i wr=>∃ q:Nat,i=.int .i64 (q:Int)/\q<=s/\Hdd ((((m.map OpW.v).drop q).all fun o=>decide (kdV K.E o=c))=((m.map OpW.v).all fun o=>decide (kdV K.E o=c)))/\Hdd (Wy K (wq.alloc (.cells #[.int .i64 a,.int .i64 b,.int .i64 c,.int .i64 d] 340)) wr)) (fun i _=>s - (intOf i).toNat)
     case atStart=>exact ⟨0,rfl,Am _,uA rfl,uA a5.o⟩
     case round=>
      obtain ⟨q,rfl,av,HA,HW5⟩:=hrel;generalize wr=n at *;have X:=uA (HWq.o.trans HW5.o);by_cases aq:q < s
      ·have ai:(q:Int) < (s:Int):=bB;obtain ⟨p,hp⟩:∃ p,m[q]?=some p:=⟨_,Ad (by have:m.length=s:=I.o;omega)⟩;have J:(m.map OpW.v)[q]?=some p.v:=by rw [Ar,hp];rfl
       have M:Ops n K.B ⟨gA,s,gc,m⟩:=Ops.below (X.o.low HK.o) HX.o;obtain ⟨N,O,hA,_,D,R⟩:=M.at_ hp;have hA:gA=some ⟨N,O,none⟩:=hA;subst hA;obtain ⟨t,⟨u,y,A,B,qs⟩,nq⟩:=p;have c0:n.cell? ⟨N,O+q*4,none⟩=some (.int .i64 t):=R 0 _ rfl;have c1:n.cell? ⟨N,O+q*4+1,none⟩=some (.int .i64 u):=R 1 _ rfl;have c2:n.cell? ⟨N,O+q*4+2,none⟩=some (.slice y A B):=R 2 _ rfl;have c3:n.cell? ⟨N,O+q*4+3,none⟩=some (.int .i64 nq):=R 3 _ rfl;have H:=(Below.refl n.heap.size n).alloc (Ae _) (.cells #[.int .i64 t,.int .i64 u,.slice y A B,.int .i64 nq] 183);have Y:=uA (HW5.o.up H);have a8:=uA (D.below (H.mono X.o.ck.bs));have hz:=qZ (HZ.o _ (Aj J));have am:=uA (show (((m.map OpW.v).drop q).all fun o=>decide (kdV K.E o=c))=(decide (kdV K.E (OpW.v ⟨t,⟨u,y,A,B,qs⟩,nq⟩)=c) && (((m.map OpW.v).drop (q+1)).all fun o=>decide (kdV K.E o=c))) by rw [xK J,G3]);obtain ⟨kv,ab⟩:∃ z,kdV K.E (OpW.v ⟨t,⟨u,y,A,B,qs⟩,nq⟩)=z:=⟨_,rfl⟩;clear hp J M D R H;have an:=uA ab;have HC:=uA fun (g:World) (q:Ab (n.alloc (.cells #[.int .i64 t,.int .i64 u,.slice y A B,.int .i64 nq] 183)) g)=>bZ (Y.o.ck.up q) (a8.o.below (q.mono Y.o.ck.bs)) (hz.imp id fun q=>q.2) ab
       clear hz ab;have a2:=uA fun (g:World) (q:Ab (n.alloc (.cells #[.int .i64 t,.int .i64 u,.slice y A B,.int .i64 nq] 183)) g)=>(show g.cell? ⟨n.heap.size,0,none⟩=some (.int .i64 t)/\g.cell? ⟨n.heap.size,1,none⟩=some (.int .i64 u)/\g.cell? ⟨n.heap.size,2,none⟩=some (.slice y A B)/\g.cell? ⟨n.heap.size,3,none⟩=some (.int .i64 nq)/\g.cell? ⟨wq.heap.size,2,none⟩=some (.int .i64 c) from by
        have hcx:=wR (w:=n) (cs:=[.int .i64 t,.int .i64 u,.slice y A B,.int .i64 nq]) (T:=183) q;exact ⟨hcx 0 _ rfl,hcx 1 _ rfl,hcx 2 _ rfl,hcx 3 _ rfl,(ah.o _ (Y.o.up q)).1⟩)
       by_cases h3:kv=c
       ·have t4:(kv != c)=false:=(by simp [h3]);have HN:=uA (show (((m.map OpW.v).drop (q+1)).all fun o=>decide (kdV K.E o=c))=((m.map OpW.v).all fun o=>decide (kdV K.E o=c)) by rw [<-HA.o,am.o,an.o];simp [h3]);clear h3;go_wp2;have C:=uA ((Below.refl (n.alloc (.cells #[.int .i64 t,.int .i64 u,.slice y A B,.int .i64 nq] 183)).heap.size (n.alloc (.cells #[.int .i64 t,.int .i64 u,.slice y A B,.int .i64 nq] 183))).drew);refine wp_region_held_drew (S:=(fun g=>g.cell? ⟨n.heap.size,0,none⟩=some (.int .i64 t)/\g.cell? ⟨n.heap.size,1,none⟩=some (.int .i64 u)/\g.cell? ⟨n.heap.size,2,none⟩=some (.slice y A B)/\g.cell? ⟨n.heap.size,3,none⟩=some (.int .i64 nq)/\g.cell? ⟨wq.heap.size,2,none⟩=some (.int .i64 c))) fL (a2.o _ C.o) (fun hHeld=>?_);refine uJ [0,1,3,4] ?_
        repeat' (first | refine pT hHeld rfl ?_ | refine pS hHeld rfl ?_)
        refine uK ?_;refine wpAnyH_ready (rs:=[2]) fL nF ?_;refine AllReadyH.cons rfl (fun KZ hK=>?_) AllReadyH.nil;go_simp;refine (HC.o _ C.o).mono ?_;rintro e4 w4 ⟨rfl,Z⟩;have a0:=uA (Aa C.o Z);clear Z;refine hK.out _ _ (a2.o _ a0.o) (fun hHeld=>?_);clear hK KZ;try simp only [Ac]
        refine uJ [5] ?_
        repeat' (first | refine pT hHeld rfl ?_ | refine pS hHeld rfl ?_)
        refine uK ?_;refine wpAnyH_done fL ?_ _;have ac:=uA (Y.o.up a0.o);go_wp2;go_roundw
        case rel=>exact ⟨q+1,by go_num,bB,uA HN.o,uA ac.o⟩
        case measure=>simp [intOf];omega
       ·have t4:(kv != c)=true:=(by simp [h3]);have HF:=uA (show ((m.map OpW.v).all fun o=>decide (kdV K.E o=c))=false by rw [<-HA.o,am.o,an.o];simp [h3]);have HN:=uA (show (wW G F L (fun k=>(m.map OpW.v).all fun o=>decide (kdV K.E o=k)) kt (opR.drop (j+1)) 22)=v by rw [<-HE.o,aa.o,if_neg (by rintro ⟨e,_⟩;have e2:((m.map OpW.v).all fun o=>decide (kdV K.E o=c))=true:=e;rw [HF.o] at e2;cases e2)]);clear h3;go_wp2;have C:=uA ((Below.refl (n.alloc (.cells #[.int .i64 t,.int .i64 u,.slice y A B,.int .i64 nq] 183)).heap.size (n.alloc (.cells #[.int .i64 t,.int .i64 u,.slice y A B,.int .i64 nq] 183))).drew);refine wp_region_held_drew (S:=(fun g=>g.cell? ⟨n.heap.size,0,none⟩=some (.int .i64 t)/\g.cell? ⟨n.heap.size,1,none⟩=some (.int .i64 u)/\g.cell? ⟨n.heap.size,2,none⟩=some (.slice y A B)/\g.cell? ⟨n.heap.size,3,none⟩=some (.int .i64 nq)/\g.cell? ⟨wq.heap.size,2,none⟩=some (.int .i64 c))) fL (a2.o _ C.o) (fun hHeld=>?_);refine uJ [0,1,3,4] ?_
        repeat' (first | refine pT hHeld rfl ?_ | refine pS hHeld rfl ?_)
        refine uK ?_;refine wpAnyH_ready (rs:=[2]) fL nF ?_;refine AllReadyH.cons rfl (fun KZ hK=>?_) AllReadyH.nil;go_simp;refine (HC.o _ C.o).mono ?_;rintro e4 w4 ⟨rfl,Z⟩;have a0:=uA (Aa C.o Z);clear Z;refine hK.out _ _ (a2.o _ a0.o) (fun hHeld=>?_);clear hK KZ;try simp only [Ac]
        refine uJ [5] ?_
        repeat' (first | refine pT hHeld rfl ?_ | refine pS hHeld rfl ?_)
        refine uK ?_;refine wpAnyH_done fL ?_ _;have ac:=uA (HWq.o.trans (Y.o.up a0.o));go_wp2;go_roundw
        case rel=>exact ⟨j+1,22,rfl,by go_num,bB,uA HN.o,uA ac.o⟩
        case measure=>simp [intOf];omega
      ·obtain rfl:s=q:=by omega
       have HT:=uA (show ((m.map OpW.v).all fun o=>decide (kdV K.E o=c))=true by rw [<-HA.o,Cs (by rw [Ao];have:m.length=s:=I.o;omega)];rfl);obtain ⟨q2,q3⟩:=ah.o _ HW5.o;by_cases h5:kt=d
       ·have t5:(kt == d)=true:=(by simp [h5]);have V:=uA (show v=0 by rw [<-HE.o,aa.o,if_pos ⟨HT.o,h5⟩]);clear h5;go_wp2;rw [Do];go_ret;exact ⟨congrArg (fun v=>Ending.returned (.int .i64 v)) V.o.symm,(Turn.of_below HB.o).trans X.o.turn,X.o.ck⟩
       ·have t5:(kt == d)=false:=(by simp [h5]);have HN:=uA (show (wW G F L (fun k=>(m.map OpW.v).all fun o=>decide (kdV K.E o=k)) kt (opR.drop (j+1)) 22)=v by rw [<-HE.o,aa.o,if_neg (by rintro ⟨_,e⟩;exact h5 e)]);clear h5;go_wp2;go_roundw
        case rel=>exact ⟨j+1,22,rfl,by go_num,bB,uA HN.o,uA X.o⟩
        case measure=>simp [intOf];omega
  ·obtain rfl:j=8:=by omega
   have V:=uA (show v=ff by rw [<-HE.o];rfl);go_wp2;rw [Do];go_ret;exact ⟨congrArg (fun v=>Ending.returned (.int .i64 v)) V.o.symm,(Turn.of_below HB.o).trans HW.o.turn,HW.o.ck⟩
end Go.Proofs.YtnkjbjkoffgocaaGreatDoor
