import Derived.Test.YtnkjbjkoffgocaaGreatDoorQ22
set_option linter.unusedVariables false
set_option linter.unusedSimpArgs false
set_option maxRecDepth 100000
set_option maxHeartbeats 8000000
namespace Go.Proofs.YtnkjbjkoffgocaaGreatDoor
open Tryz Go.RowKit
noncomputable def teV (E:Env) (t:TmV):Int:=if t.kind=1 then (match t.args with | [o]=>coV E o | _=>0) else if t.kind=3 then clV E t else if t.kind=4 then drV E t.pl else 0
theorem uAz {E:Env} {t:TmV} {o:OpV} (c:t.kind=1) (d:t.args=[o]):teV E t=coV E o:=by unfold teV;rw [if_pos c,d]
theorem GC {E:Env} {t:TmV} (c:t.kind=3):teV E t=clV E t:=by unfold teV;rw [if_neg bB,if_pos c]
theorem MB {E:Env} {t:TmV} (c:t.kind=4):teV E t=drV E t.pl:=by unfold teV;rw [if_neg bB,if_neg bB,if_pos c]
theorem CJ {t:TmV} (h:fG t=0):(0<=t.kind/\t.kind<=5)/\(t.kind=1->t.args.length=1)/\(t.kind≠1->t.kind≠3->t.args.length=0):=by
 unfold fG at h
 split at h
 ·cases h
 split at h
 ·cases h
 rename_i g e;refine ⟨bB,fun c=>?_,fun c d=>?_⟩
 ·apply Df;intro f;exact e (.inr (.inr (.inr (.inl ⟨c,f⟩))))
 ·apply Df;intro f;exact e (.inr (.inr (.inr (.inr ⟨c,d,bB⟩))))
theorem uAe {E:Env} {t:TmV}:aK E t=if fG t≠0 then fG t else if yU E t.targets≠0 then yU E t.targets
 else if t.kind=3/\vE t.name=false then 12
 else if 65535 < t.args.length then 15
 else if vG E t.args≠0 then vG E t.args
 else if t.kind=1/\t.args.all (fun o=>UZ E o 1)=false then 22
 else if t.kind≠3/\t.kind≠4 then 0
 else if (tyV E t.pl).2≠0 then (tyV E t.pl).2
 else if (t.kind=3/\muV E t.pl=false)\/(t.kind=4/\aT t.pl.ps 0=true) then 22
 else 0:=by
 unfold aK fG;by_cases c:t.kind < 0\/5 < t.kind
 ·rw [if_pos c,if_pos c,if_pos eW]
 ·rw [if_neg c,if_neg c];by_cases d:t.targets.length≠zD t.kind\/(t.kind≠3/\t.name≠.empty)\/(t.kind≠3/\t.kind≠4/\noP t.pl=false)\/(t.kind=1/\t.args.length≠1)\/(t.kind≠1/\t.kind≠3/\0 < t.args.length)
  ·rw [if_pos d,if_pos d,if_pos eW]
  ·rw [if_neg d,if_neg d,if_neg (show ¬(0:Int)≠0 by simp)]
theorem WA {E:Env} {t:TmV}:aK E t=if fG t≠0 then fG t else if yU E t.targets≠0 then yU E t.targets else teV E t:=by
 rw [uAe];by_cases i:fG t=0
 ·rw [if_neg (show ¬fG t≠0 by omega),if_neg (show ¬fG t≠0 by omega)];by_cases k:yU E t.targets=0
  ·rw [if_neg (show ¬yU E t.targets≠0 by omega),if_neg (show ¬yU E t.targets≠0 by omega)];obtain ⟨s,n,p⟩:=CJ i;by_cases e:t.kind=1
   ·obtain ⟨o,m⟩:=Fh.1 (n e);rw [uAz e m,m];unfold coV vG vG;by_cases d:vP E o=0
    ·have q:=EM d 1;by_cases j:kdV E o=1 <;> simp [e,d,q,j]
    ·simp [e,d]
   ·by_cases c:t.kind=3
    ·rw [GC c];unfold clV wrV;cases vE t.name
     ·simp [c]
     ·by_cases g:65535 < t.args.length
      ·simp [c,g]
      ·by_cases d:vG E t.args=0
       ·by_cases f:(tyV E t.pl).2=0
        ·cases hm:muV E t.pl <;> simp [c,g,d,f,hm]
        ·simp [c,g,d,f]
       ·simp [c,g,d]
    ·have r:=Fa.1 (p e c);rw [r];by_cases h:t.kind=4
     ·rw [MB h];unfold drV vG;by_cases f:(tyV E t.pl).2=0
      ·cases j:aT t.pl.ps 0 <;> simp [h,f,j]
      ·simp [h,f]
     ·unfold teV vG;simp [e,c,h]
  ·rw [if_pos k,if_pos k]
 ·rw [if_pos i,if_pos i]
theorem RM {P:Prop} (h:P:=by
 have hlt':(j:Int) < (tn:Int):=by omega
 obtain ⟨tt,ht⟩:∃ p,tL[j]?=some p:=⟨_,Ad (by have:tL.length=tn:=HTL.o;omega)⟩;have hax:uHk wr K.B ⟨tA,tn,tc,tL⟩:=SlH.below HX.o.targets (HW.o.low HK.o) fun _ h=>h
 obtain ⟨b,o,hA,_,hir,hc⟩:=hax.at_ ht;have hA:tA=some ⟨b,o,none⟩:=hA;subst hA;clear hax hir;have ct:wr.cell? ⟨b,o+j,none⟩=some (.int .i64 tt):=by have h1:=hc 0 _ rfl;rwa [Ey] at h1
 clear hc;have HS:=uA (uBl (E:=K.E) ht);clear ht;have g6:=HW.o.ck.cells 6 (.slice K.x.blocks.A K.x.blocks.n K.x.blocks.c) rfl;by_cases hin:0<=tt/\tt < (K.x.blocks.n:Int)
 ·have HIN:Hdd (vD tt (K.x.blocks.n:Int)=true):=uW.2 hin;have HN:=uA (show yU K.E (tL.drop (j+1))=tg by rw [<-HE.o,HS.o,if_neg (by rw [HNB.o];omega)]);clear hin;go_wp2_with fail
  refine (xE HIN.o _).mono ?_;rintro e2 w2 ⟨rfl,rfl⟩;go_wp2;go_roundw
  case rel=>exact ⟨j+1,by go_num,bB,uA HN.o,uA HW.o⟩
  case measure=>simp [intOf];omega
 ·have HIN:Hdd (vD tt (K.x.blocks.n:Int)=false):=wP.2 hin;have HN:=uA (show tg=3 by rw [<-HE.o,HS.o,if_pos (by rw [HNB.o];omega)]);clear hin;have HVc:=uA (show v=3 by rw [<-HV.o,HN.o];rfl);go_wp2_with fail
  refine (xE HIN.o _).mono ?_;rintro e2 w2 ⟨rfl,rfl⟩;go_wp2;go_ret;exact ⟨congrArg (fun v=>Ending.returned (.int .i64 v)) HVc.o.symm,(Turn.of_below HB.o).trans HW.o.turn,HW.o.ck⟩):P:=h
theorem YO {P:Prop} (h:P:=by
 obtain ⟨j,rfl,hj,HE,HW⟩:=hrel;clear c1_0 c1_1 c1_2 c1_3 c1_4 c1_5 g1_6;by_cases hlt:j < tn
 ·exact RM
 ·obtain rfl:tn=j:=by omega
  have hg0:tg=0:=by rw [<-HE.o];exact dE (by have:tL.length=tn:=HTL.o;omega)
  have hv2:=HV.o;rw [hg0,if_neg nF] at hv2;clear hg0;obtain ⟨c3_0,c3_1,c3_2,c3_3,c3_4,c3_5⟩:=wy6 H0.o HW.o;have g3_6:=HW.o.ck.cells 6 (.slice K.x.blocks.A K.x.blocks.n K.x.blocks.c) rfl;obtain rfl:v=0:=hv2.symm;go_wp2;go_ret;exact ⟨rfl,(Turn.of_below HB.o).trans HW.o.turn,HW.o.ck⟩):P:=h
theorem QX {P:Prop} (h:P:=by
 go_ret;exact ⟨rfl,(Turn.of_below HB.o).trans HW3.o.turn,HW3.o.ck⟩):P:=h
theorem ZJ {K:CkW} {x:TmW} {v:Int} {w:World} (h:Ck K w) (hx:mY w K.B x) (F:aK K.E x.v=v) :
 Calls prog 155 #[K.ptr,fZ x] w fun e N=>e=.returned (.int .i64 v)/\Wy K w N:=by
 obtain ⟨k,⟨tA,tn,tc,tL⟩,⟨d,r,f,G⟩,⟨l,g,m,n,H⟩,s⟩:=x;have H0:=uA h;have J:K.x.blocks.L.length=K.x.blocks.n:=h.one.blocks.len;have a1:K.x.blocks.n<=maxLen:=h.one.blocks.nm;unfold maxLen at a1;have L:tL.length=tn:=hx.targets.len;have a2:tn<=maxLen:=hx.targets.nm;unfold maxLen at a2;have W:G.length=r:=hx.args.len;rw [WA] at F;obtain ⟨Z,C⟩:∃ u,fG (TmW.v ⟨k,⟨tA,tn,tc,tL⟩,⟨d,r,f,G⟩,⟨l,g,m,n,H⟩,s⟩)=u:=⟨_,rfl⟩;obtain ⟨tg,I⟩:∃ u,yU K.E tL=u:=⟨_,rfl⟩;have a0:(if Z≠0 then Z else if tg≠0 then tg else teV K.E (TmW.v ⟨k,⟨tA,tn,tc,tL⟩,⟨d,r,f,G⟩,⟨l,g,m,n,H⟩,s⟩))=v:=by rw [<-F,<- C,<- I];rfl
 clear F;have F:=a0;clear a0;by_cases U:Z=0
 case neg=>
  have t0:(Z != 0)=true:=by simp [U]
  rw [if_pos U] at F;obtain rfl:Z=v:=F;clear h I U J L W;have HB:=uA (uB w (.cells #[.int .i64 k,.slice tA tn tc,.slice d r f,.int .i64 l,.slice g m n,.string s] 63));have HK:=uA (H0.o.up HB.o);have HX:=uA (hx.below (HB.o.mono H0.o.bs));clear hx;have Q:=uA fun (N:World) (y:Wy K (w.alloc (.cells #[.int .i64 k,.slice tA tn tc,.slice d r f,.int .i64 l,.slice g m n,.string s] 63)) N)=>Wy.box (cs:=[.int .i64 k,.slice tA tn tc,.slice d r f,.int .i64 l,.slice g m n,.string s]) (T:=63) H0.o y
  have R:=uA (eM (x:=⟨k,⟨tA,tn,tc,tL⟩,⟨d,r,f,G⟩,⟨l,g,m,n,H⟩,s⟩) C _ (HX.o.more HK.o.bs));clear C;go_enter func155,ntmps155
  go_wp2_with fail
  refine R.o.mono ?_;rintro X Y ⟨rfl,z⟩;have c:=uA (Wy.new HK.o z);clear z;go_wp2;go_ret;exact ⟨rfl,(Turn.of_below HB.o).trans c.o.turn,c.o.ck⟩
 subst U;rw [if_neg nF] at F;have D:=CJ C;have a3:k=0\/k=1\/k=2\/k=3\/k=4\/k=5:=by have h1:=D.1;have e:(TmW.v ⟨k,⟨tA,tn,tc,tL⟩,⟨d,r,f,G⟩,⟨l,g,m,n,H⟩,s⟩).kind=k:=rfl;rw [e] at h1;omega
 have O:k=1->r=1:=fun e=>by have h1:=D.2.1 e;rw [<-W];have e2:(TmW.v ⟨k,⟨tA,tn,tc,tL⟩,⟨d,r,f,G⟩,⟨l,g,m,n,H⟩,s⟩).args.length=G.length:=Ao _;omega
 have HTL:=uA L;have S:=uA I;have HNB:=uA (show ((K.E.nb:Nat):Int)=(K.x.blocks.n:Int) by rw [<-J];rfl);rcases a3 with rfl | rfl | rfl | rfl | rfl | rfl
 case inl=>
  have HB:=uA (uB w (.cells #[.int .i64 (0),.slice tA tn tc,.slice d r f,.int .i64 l,.slice g m n,.string s] 63));have HK:=uA (H0.o.up HB.o);have HX:=uA (hx.below (HB.o.mono H0.o.bs));have Q:=uA fun (N:World) (y:Wy K (w.alloc (.cells #[.int .i64 (0),.slice tA tn tc,.slice d r f,.int .i64 l,.slice g m n,.string s] 63)) N)=>Wy.box (cs:=[.int .i64 (0),.slice tA tn tc,.slice d r f,.int .i64 l,.slice g m n,.string s]) (T:=63) H0.o y
  have R:=uA (eM (x:=⟨0,⟨tA,tn,tc,tL⟩,⟨d,r,f,G⟩,⟨l,g,m,n,H⟩,s⟩) C _ (HX.o.more HK.o.bs));have A:(0:Int)=teV K.E (TmW.v ⟨0,⟨tA,tn,tc,tL⟩,⟨d,r,f,G⟩,⟨l,g,m,n,H⟩,s⟩):=rfl;rw [<-A] at F;clear h hx C I D A J L O;have HV:=uA F;clear F;go_enter func155,ntmps155
  go_wp2_with fail
  refine R.o.mono ?_;rintro X Y ⟨rfl,z⟩;have c:=uA (Wy.new HK.o z);clear z;obtain ⟨c1_0,c1_1,c1_2,c1_3,c1_4,c1_5⟩:=wy6 H0.o c.o;have g1_6:=c.o.ck.cells 6 (.slice K.x.blocks.A K.x.blocks.n K.x.blocks.c) rfl;go_wp2;go_loopw [16] (fun i wr=>∃ j:Nat,i=.int .i64 (j:Int)/\j<=tn/\Hdd (yU K.E (tL.drop j)=tg)/\Hdd (Wy K (w.alloc (.cells #[.int .i64 (0),.slice tA tn tc,.slice d r f,.int .i64 l,.slice g m n,.string s] 63)) wr)) (fun i _=>tn - (intOf i).toNat)
  case atStart=>exact ⟨0,rfl,Am _,uA S.o,uA c.o⟩
  case round=>
   exact YO
 case inr.inl=>
  have HB:=uA (uB w (.cells #[.int .i64 (1),.slice tA tn tc,.slice d r f,.int .i64 l,.slice g m n,.string s] 63));have HK:=uA (H0.o.up HB.o);have HX:=uA (hx.below (HB.o.mono H0.o.bs));have Q:=uA fun (N:World) (y:Wy K (w.alloc (.cells #[.int .i64 (1),.slice tA tn tc,.slice d r f,.int .i64 l,.slice g m n,.string s] 63)) N)=>Wy.box (cs:=[.int .i64 (1),.slice tA tn tc,.slice d r f,.int .i64 l,.slice g m n,.string s]) (T:=63) H0.o y
  have R:=uA (eM (x:=⟨1,⟨tA,tn,tc,tL⟩,⟨d,r,f,G⟩,⟨l,g,m,n,H⟩,s⟩) C _ (HX.o.more HK.o.bs));obtain rfl:r=1:=O rfl;obtain ⟨q,hq⟩:∃ q,G=[q]:=Fh.1 W;subst hq;have A:coV K.E q.v=teV K.E (TmW.v ⟨1,⟨tA,tn,tc,tL⟩,⟨d,1,f,[q]⟩,⟨l,g,m,n,H⟩,s⟩):=(uAz (t:=TmW.v ⟨1,⟨tA,tn,tc,tL⟩,⟨d,1,f,[q]⟩,⟨l,g,m,n,H⟩,s⟩) rfl rfl).symm;rw [<-A] at F;clear h hx C I D A J L O;have HV:=uA F;clear F;go_enter func155,ntmps155
  go_wp2_with fail
  refine R.o.mono ?_;rintro X Y ⟨rfl,z⟩;have c:=uA (Wy.new HK.o z);clear z;obtain ⟨c1_0,c1_1,c1_2,c1_3,c1_4,c1_5⟩:=wy6 H0.o c.o;have g1_6:=c.o.ck.cells 6 (.slice K.x.blocks.A K.x.blocks.n K.x.blocks.c) rfl;go_wp2;go_loopw [16] (fun i wr=>∃ j:Nat,i=.int .i64 (j:Int)/\j<=tn/\Hdd (yU K.E (tL.drop j)=tg)/\Hdd (Wy K (w.alloc (.cells #[.int .i64 (1),.slice tA tn tc,.slice d 1 f,.int .i64 l,.slice g m n,.string s] 63)) wr)) (fun i _=>tn - (intOf i).toNat)
  case atStart=>exact ⟨0,rfl,Am _,uA S.o,uA c.o⟩
  case round=>
   obtain ⟨j,rfl,hj,HE,HW⟩:=hrel;clear c1_0 c1_1 c1_2 c1_3 c1_4 c1_5 g1_6;by_cases hlt:j < tn
   ·exact RM
   ·obtain rfl:tn=j:=by omega
    have hg0:tg=0:=by rw [<-HE.o];exact dE (by have:tL.length=tn:=HTL.o;omega)
    have hv2:=HV.o;rw [hg0,if_neg nF] at hv2;clear hg0;obtain ⟨c3_0,c3_1,c3_2,c3_3,c3_4,c3_5⟩:=wy6 H0.o HW.o;have g3_6:=HW.o.ck.cells 6 (.slice K.x.blocks.A K.x.blocks.n K.x.blocks.c) rfl;have hax:Ops wr K.B ⟨d,1,f,[q]⟩:=Ops.below (HW.o.low HK.o) HX.o.args;obtain ⟨b,o,hA,_,V,hc⟩:=hax.at_ (i:=0) (x:=q) rfl;have hA:d=some ⟨b,o,none⟩:=hA;subst hA;obtain ⟨kq,⟨lq,zA,zn,zc,zs⟩,nq⟩:=q;clear hax;have d0:wr.cell? ⟨b,o,none⟩=some (.int .i64 kq):=hc 0 _ rfl;have d1:wr.cell? ⟨b,o+1,none⟩=some (.int .i64 lq):=hc 1 _ rfl;have d2:wr.cell? ⟨b,o+2,none⟩=some (.slice zA zn zc):=hc 2 _ rfl;have d3:wr.cell? ⟨b,o+3,none⟩=some (.int .i64 nq):=hc 3 _ rfl;clear hc;have HO:=uA (uAf HW.o.ck V hv2);clear V hv2;go_wp2_with fail
    refine HO.o.mono ?_;rintro e3 w3 ⟨rfl,M⟩;have HW3:=uA (HW.o.trans M);clear M;go_wp2;exact QX
 case inr.inr.inl=>
  have HB:=uA (uB w (.cells #[.int .i64 (2),.slice tA tn tc,.slice d r f,.int .i64 l,.slice g m n,.string s] 63));have HK:=uA (H0.o.up HB.o);have HX:=uA (hx.below (HB.o.mono H0.o.bs));have Q:=uA fun (N:World) (y:Wy K (w.alloc (.cells #[.int .i64 (2),.slice tA tn tc,.slice d r f,.int .i64 l,.slice g m n,.string s] 63)) N)=>Wy.box (cs:=[.int .i64 (2),.slice tA tn tc,.slice d r f,.int .i64 l,.slice g m n,.string s]) (T:=63) H0.o y
  have R:=uA (eM (x:=⟨2,⟨tA,tn,tc,tL⟩,⟨d,r,f,G⟩,⟨l,g,m,n,H⟩,s⟩) C _ (HX.o.more HK.o.bs));have A:(0:Int)=teV K.E (TmW.v ⟨2,⟨tA,tn,tc,tL⟩,⟨d,r,f,G⟩,⟨l,g,m,n,H⟩,s⟩):=rfl;rw [<-A] at F;clear h hx C I D A J L O;have HV:=uA F;clear F;go_enter func155,ntmps155
  go_wp2_with fail
  refine R.o.mono ?_;rintro X Y ⟨rfl,z⟩;have c:=uA (Wy.new HK.o z);clear z;obtain ⟨c1_0,c1_1,c1_2,c1_3,c1_4,c1_5⟩:=wy6 H0.o c.o;have g1_6:=c.o.ck.cells 6 (.slice K.x.blocks.A K.x.blocks.n K.x.blocks.c) rfl;go_wp2;go_loopw [16] (fun i wr=>∃ j:Nat,i=.int .i64 (j:Int)/\j<=tn/\Hdd (yU K.E (tL.drop j)=tg)/\Hdd (Wy K (w.alloc (.cells #[.int .i64 (2),.slice tA tn tc,.slice d r f,.int .i64 l,.slice g m n,.string s] 63)) wr)) (fun i _=>tn - (intOf i).toNat)
  case atStart=>exact ⟨0,rfl,Am _,uA S.o,uA c.o⟩
  case round=>
   exact YO
 case inr.inr.inr.inl=>
  have HB:=uA (uB w (.cells #[.int .i64 (3),.slice tA tn tc,.slice d r f,.int .i64 l,.slice g m n,.string s] 63));have HK:=uA (H0.o.up HB.o);have HX:=uA (hx.below (HB.o.mono H0.o.bs));have Q:=uA fun (N:World) (y:Wy K (w.alloc (.cells #[.int .i64 (3),.slice tA tn tc,.slice d r f,.int .i64 l,.slice g m n,.string s] 63)) N)=>Wy.box (cs:=[.int .i64 (3),.slice tA tn tc,.slice d r f,.int .i64 l,.slice g m n,.string s]) (T:=63) H0.o y
  have R:=uA (eM (x:=⟨3,⟨tA,tn,tc,tL⟩,⟨d,r,f,G⟩,⟨l,g,m,n,H⟩,s⟩) C _ (HX.o.more HK.o.bs));have A:clV K.E (TmW.v ⟨3,⟨tA,tn,tc,tL⟩,⟨d,r,f,G⟩,⟨l,g,m,n,H⟩,s⟩)=teV K.E (TmW.v ⟨3,⟨tA,tn,tc,tL⟩,⟨d,r,f,G⟩,⟨l,g,m,n,H⟩,s⟩):=(GC (t:=TmW.v ⟨3,⟨tA,tn,tc,tL⟩,⟨d,r,f,G⟩,⟨l,g,m,n,H⟩,s⟩) rfl).symm;rw [<-A] at F;clear h hx C I D A J L O;have HV:=uA F;clear F;go_enter func155,ntmps155
  go_wp2_with fail
  refine R.o.mono ?_;rintro X Y ⟨rfl,z⟩;have c:=uA (Wy.new HK.o z);clear z;obtain ⟨c1_0,c1_1,c1_2,c1_3,c1_4,c1_5⟩:=wy6 H0.o c.o;have g1_6:=c.o.ck.cells 6 (.slice K.x.blocks.A K.x.blocks.n K.x.blocks.c) rfl;go_wp2;go_loopw [16] (fun i wr=>∃ j:Nat,i=.int .i64 (j:Int)/\j<=tn/\Hdd (yU K.E (tL.drop j)=tg)/\Hdd (Wy K (w.alloc (.cells #[.int .i64 (3),.slice tA tn tc,.slice d r f,.int .i64 l,.slice g m n,.string s] 63)) wr)) (fun i _=>tn - (intOf i).toNat)
  case atStart=>exact ⟨0,rfl,Am _,uA S.o,uA c.o⟩
  case round=>
   obtain ⟨j,rfl,hj,HE,HW⟩:=hrel;clear c1_0 c1_1 c1_2 c1_3 c1_4 c1_5 g1_6;by_cases hlt:j < tn
   ·exact RM
   ·obtain rfl:tn=j:=by omega
    have hg0:tg=0:=by rw [<-HE.o];exact dE (by have:tL.length=tn:=HTL.o;omega)
    have hv2:=HV.o;rw [hg0,if_neg nF] at hv2;clear hg0;obtain ⟨c3_0,c3_1,c3_2,c3_3,c3_4,c3_5⟩:=wy6 H0.o HW.o;have g3_6:=HW.o.ck.cells 6 (.slice K.x.blocks.A K.x.blocks.n K.x.blocks.c) rfl;have HO:=uA (uAw HW.o.ck (HX.o.below (HW.o.low HK.o)) hv2);clear hv2;go_wp2_with fail
    refine HO.o.mono ?_;rintro e3 w3 ⟨rfl,M⟩;have HW3:=uA (HW.o.trans M);clear M;go_wp2;exact QX
 case inr.inr.inr.inr.inl=>
  have HB:=uA (uB w (.cells #[.int .i64 (4),.slice tA tn tc,.slice d r f,.int .i64 l,.slice g m n,.string s] 63));have HK:=uA (H0.o.up HB.o);have HX:=uA (hx.below (HB.o.mono H0.o.bs));have Q:=uA fun (N:World) (y:Wy K (w.alloc (.cells #[.int .i64 (4),.slice tA tn tc,.slice d r f,.int .i64 l,.slice g m n,.string s] 63)) N)=>Wy.box (cs:=[.int .i64 (4),.slice tA tn tc,.slice d r f,.int .i64 l,.slice g m n,.string s]) (T:=63) H0.o y
  have R:=uA (eM (x:=⟨4,⟨tA,tn,tc,tL⟩,⟨d,r,f,G⟩,⟨l,g,m,n,H⟩,s⟩) C _ (HX.o.more HK.o.bs));have A:drV K.E (PlW.v ⟨l,g,m,n,H⟩)=teV K.E (TmW.v ⟨4,⟨tA,tn,tc,tL⟩,⟨d,r,f,G⟩,⟨l,g,m,n,H⟩,s⟩):=(MB (t:=TmW.v ⟨4,⟨tA,tn,tc,tL⟩,⟨d,r,f,G⟩,⟨l,g,m,n,H⟩,s⟩) rfl).symm;rw [<-A] at F;clear h hx C I D A J L O;have HV:=uA F;clear F;go_enter func155,ntmps155
  go_wp2_with fail
  refine R.o.mono ?_;rintro X Y ⟨rfl,z⟩;have c:=uA (Wy.new HK.o z);clear z;obtain ⟨c1_0,c1_1,c1_2,c1_3,c1_4,c1_5⟩:=wy6 H0.o c.o;have g1_6:=c.o.ck.cells 6 (.slice K.x.blocks.A K.x.blocks.n K.x.blocks.c) rfl;go_wp2;go_loopw [16] (fun i wr=>∃ j:Nat,i=.int .i64 (j:Int)/\j<=tn/\Hdd (yU K.E (tL.drop j)=tg)/\Hdd (Wy K (w.alloc (.cells #[.int .i64 (4),.slice tA tn tc,.slice d r f,.int .i64 l,.slice g m n,.string s] 63)) wr)) (fun i _=>tn - (intOf i).toNat)
  case atStart=>exact ⟨0,rfl,Am _,uA S.o,uA c.o⟩
  case round=>
   obtain ⟨j,rfl,hj,HE,HW⟩:=hrel;clear c1_0 c1_1 c1_2 c1_3 c1_4 c1_5 g1_6;by_cases hlt:j < tn
   ·exact RM
   ·obtain rfl:tn=j:=by omega
    have hg0:tg=0:=by rw [<-HE.o];exact dE (by have:tL.length=tn:=HTL.o;omega)
    have hv2:=HV.o;rw [hg0,if_neg nF] at hv2;clear hg0;obtain ⟨c3_0,c3_1,c3_2,c3_3,c3_4,c3_5⟩:=wy6 H0.o HW.o;have g3_6:=HW.o.ck.cells 6 (.slice K.x.blocks.A K.x.blocks.n K.x.blocks.c) rfl;have HO:=uA (uA4 HW.o.ck (HX.o.pl.below (HW.o.low HK.o)) hv2);clear hv2;go_wp2_with fail
    refine HO.o.mono ?_;rintro e3 w3 ⟨rfl,M⟩;have HW3:=uA (HW.o.up M);clear M;go_wp2;exact QX
 case inr.inr.inr.inr.inr=>
  have HB:=uA (uB w (.cells #[.int .i64 (5),.slice tA tn tc,.slice d r f,.int .i64 l,.slice g m n,.string s] 63));have HK:=uA (H0.o.up HB.o);have HX:=uA (hx.below (HB.o.mono H0.o.bs));have Q:=uA fun (N:World) (y:Wy K (w.alloc (.cells #[.int .i64 (5),.slice tA tn tc,.slice d r f,.int .i64 l,.slice g m n,.string s] 63)) N)=>Wy.box (cs:=[.int .i64 (5),.slice tA tn tc,.slice d r f,.int .i64 l,.slice g m n,.string s]) (T:=63) H0.o y
  have R:=uA (eM (x:=⟨5,⟨tA,tn,tc,tL⟩,⟨d,r,f,G⟩,⟨l,g,m,n,H⟩,s⟩) C _ (HX.o.more HK.o.bs));have A:(0:Int)=teV K.E (TmW.v ⟨5,⟨tA,tn,tc,tL⟩,⟨d,r,f,G⟩,⟨l,g,m,n,H⟩,s⟩):=rfl;rw [<-A] at F;clear h hx C I D A J L O;have HV:=uA F;clear F;go_enter func155,ntmps155
  go_wp2_with fail
  refine R.o.mono ?_;rintro X Y ⟨rfl,z⟩;have c:=uA (Wy.new HK.o z);clear z;obtain ⟨c1_0,c1_1,c1_2,c1_3,c1_4,c1_5⟩:=wy6 H0.o c.o;have g1_6:=c.o.ck.cells 6 (.slice K.x.blocks.A K.x.blocks.n K.x.blocks.c) rfl;go_wp2;go_loopw [16] (fun i wr=>∃ j:Nat,i=.int .i64 (j:Int)/\j<=tn/\Hdd (yU K.E (tL.drop j)=tg)/\Hdd (Wy K (w.alloc (.cells #[.int .i64 (5),.slice tA tn tc,.slice d r f,.int .i64 l,.slice g m n,.string s] 63)) wr)) (fun i _=>tn - (intOf i).toNat)
  case atStart=>exact ⟨0,rfl,Am _,uA S.o,uA c.o⟩
  case round=>
   exact YO
theorem uCg {K:CkW} {x:BkW} {v:Int} {w:World} (h:Ck K w) (hx:aP w K.B x) (hv:pW K.E x.v=v) :
 Calls prog 112 #[K.ptr,uFi x] w fun e w'=>e=.returned (.int .i64 v)/\Wy K w w':=by
 obtain ⟨⟨F,d,L,s⟩,⟨k,⟨M,N,O,tL⟩,⟨Q,R,S,gL⟩,⟨l,U,V,W,ps⟩,X⟩⟩:=x;have H0:=uA h;have HB:=uA (uB w (.cells #[.slice F d L,.int .i64 k,.slice M N O,.slice Q R S,.int .i64 l,.slice U V W,.string X] 65));have Z:=uA (H0.o.up HB.o);have HX:=uA (hx.below (HB.o.mono H0.o.bs));have m:=uA fun (w':World) (y:Wy K (w.alloc (.cells #[.slice F d L,.int .i64 k,.slice M N O,.slice Q R S,.int .i64 l,.slice U V W,.string X] 65)) w')=>Wy.box (cs:=[.slice F d L,.int .i64 k,.slice M N O,.slice Q R S,.int .i64 l,.slice U V W,.string X]) (T:=65) H0.o y
 have t:s.length=d:=hx.stmts.len;have a3:d<=maxLen:=hx.stmts.nm;unfold maxLen at a3;obtain ⟨Y,z⟩:∃ u,nG K.E (s.map StW.v)=u:=⟨_,rfl⟩;clear h hx;have q:(if 65535 < d then (15:Int) else if Y≠0 then Y else aK K.E (TmW.v ⟨k,⟨M,N,O,tL⟩,⟨Q,R,S,gL⟩,⟨l,U,V,W,ps⟩,X⟩))=v:=by
  rw [<-hv,<- z,<- t,<- Ao (f:=StW.v)];rfl
 clear hv;by_cases hb:65535 < d
 ·have tb:(65535:Int) < (d:Int):=by omega
  rw [if_pos hb] at q;obtain rfl:v=15:=q.symm;clear z t hb q;go_enter func112,ntmps112
  go_wp2;go_ret;exact ⟨rfl,Turn.of_below HB.o,Z.o⟩
 have tb:(d:Int)<=65535:=by omega
 rw [if_neg hb] at q;clear hb;have HV:=uA q;clear q;have a4:=uA z;clear z;have A:=uA t;clear t;go_enter func112,ntmps112
 go_wp2;go_loopw [15] (fun i wr=>∃ j:Nat,i=.int .i64 (j:Int)/\j<=d/\Hdd (nG K.E ((s.map StW.v).drop j)=Y)/\Hdd (Wy K (w.alloc (.cells #[.slice F d L,.int .i64 k,.slice M N O,.slice Q R S,.int .i64 l,.slice U V W,.string X] 65)) wr)) (fun i _=>d - (intOf i).toNat)
 case atStart=>exact ⟨0,rfl,Am _,uA a4.o,uA (Wy.refl Z.o)⟩
 case round=>
  obtain ⟨j,rfl,hj,HE,n⟩:=hrel;by_cases a8:j < d
  ·have a7:(j:Int) < (d:Int):=bB;obtain ⟨p,hp⟩:∃ p,s[j]?=some p:=⟨_,Ad (by have:s.length=d:=A.o;omega)⟩;have a0:(s.map StW.v)[j]?=some p.v:=by rw [Ar,hp];rfl
   have a1:SlH wr K.B 11 cSt (aN wr K.B) ⟨F,d,L,s⟩:=SlH.below HX.o.stmts (n.o.low Z.o) fun _ h=>h.below (n.o.low Z.o)
   obtain ⟨b,o,hA,_,C,r⟩:=a1.at_ hp;have hA:F=some ⟨b,o,none⟩:=hA;subst hA;obtain ⟨kq,⟨ql,qA,qn,qc,qs⟩,⟨rk,op,rg,mu,⟨rl,rA,rn,rc,rs⟩,⟨aA,an,ac,aL⟩⟩,lo⟩:=p;have c0:wr.cell? ⟨b,o+j*11,none⟩=some (.int .i64 kq):=r 0 _ rfl;have c1:wr.cell? ⟨b,o+j*11+1,none⟩=some (.int .i64 ql):=r 1 _ rfl;have c2:wr.cell? ⟨b,o+j*11+2,none⟩=some (.slice qA qn qc):=r 2 _ rfl;have c3:wr.cell? ⟨b,o+j*11+3,none⟩=some (.int .i64 rk):=r 3 _ rfl;have c4:wr.cell? ⟨b,o+j*11+4,none⟩=some (.int .i64 op):=r 4 _ rfl;have c5:wr.cell? ⟨b,o+j*11+5,none⟩=some (.int .i64 rg):=r 5 _ rfl;have c6:wr.cell? ⟨b,o+j*11+6,none⟩=some (.bool mu):=r 6 _ rfl;have c7:wr.cell? ⟨b,o+j*11+7,none⟩=some (.int .i64 rl):=r 7 _ rfl;have c8:wr.cell? ⟨b,o+j*11+8,none⟩=some (.slice rA rn rc):=r 8 _ rfl;have c9:wr.cell? ⟨b,o+j*11+9,none⟩=some (.slice aA an ac):=r 9 _ rfl;have a9:wr.cell? ⟨b,o+j*11+10,none⟩=some (.int .i64 lo):=r 10 _ rfl;have G:=(Below.refl wr.heap.size wr).alloc (Ae _) (.cells #[.int .i64 kq,.int .i64 ql,.slice qA qn qc,.int .i64 rk,.int .i64 op,.int .i64 rg,.bool mu,.int .i64 rl,.slice rA rn rc,.slice aA an ac,.int .i64 lo] 69);have H:=uA (n.o.up G);have a5:=uA (C.below (G.mono n.o.ck.bs));have HS:=uA (UI (E:=K.E) a0);obtain ⟨c,I⟩:∃ c,yC K.E (StW.v ⟨kq,⟨ql,qA,qn,qc,qs⟩,⟨rk,op,rg,mu,⟨rl,rA,rn,rc,rs⟩,⟨aA,an,ac,aL⟩⟩,lo⟩)=c:=⟨_,rfl⟩;clear hp a0 a1 C r G;have HC:=uA (uGy H.o.ck a5.o I);have a2:=uA I;clear I;by_cases h0:c=0
   ·subst h0;have HN:=uA (show nG K.E ((s.map StW.v).drop (j+1))=Y by rw [<-HE.o,HS.o,if_neg (by rw [a2.o];simp)]);go_wp2_with fail
    refine HC.o.mono ?_;rintro e1 w1 ⟨rfl,g⟩;have HW3:=uA (H.o.trans g);clear g;go_wp2;go_roundw
    case rel=>exact ⟨j+1,by go_num,bB,uA HN.o,uA HW3.o⟩
    case measure=>simp [intOf];omega
   ·have t0:(c != 0)=true:=(by simp [h0]);have HN:=uA (show Y=c by rw [<-HE.o,HS.o,a2.o,if_pos h0]);have a6:=uA (show v=c by rw [<-HV.o,HN.o,if_pos h0]);clear h0;go_wp2_with fail
    refine HC.o.mono ?_;rintro e1 w1 ⟨rfl,g⟩;have HW3:=uA (H.o.trans g);clear g;go_wp2;go_ret;exact ⟨congrArg (fun v=>Ending.returned (.int .i64 v)) a6.o.symm,(Turn.of_below HB.o).trans HW3.o.turn,HW3.o.ck⟩
  ·obtain rfl:d=j:=by omega
   have D:Y=0:=by rw [<-HE.o];exact OH (by rw [Ao];have:s.length=d:=A.o;omega)
   have J:=HV.o;rw [D,if_neg nF] at J;clear D;have d0:=m.o _ n.o 0 (.slice F d L) rfl;have d1:=m.o _ n.o 1 (.int .i64 k) rfl;have d2:=m.o _ n.o 2 (.slice M N O) rfl;have d3:=m.o _ n.o 3 (.slice Q R S) rfl;have d4:=m.o _ n.o 4 (.int .i64 l) rfl;have d5:=m.o _ n.o 5 (.slice U V W) rfl;have d6:=m.o _ n.o 6 (.string X) rfl;have HC:=uA (ZJ n.o.ck (HX.o.term.below (n.o.low Z.o)) J);clear J;go_wp2_with fail
   refine HC.o.mono ?_;rintro e1 w1 ⟨rfl,g⟩;have HW3:=uA (n.o.trans g);clear g;go_wp2;exact QX
section
variable {w:World} {B:Nat} {x:BdW} (hx:uS w B x)
include hx
theorem uCf (h:szB x<=3000):DQ x.v.blocks:=fun n c=>by
 obtain ⟨b,g,rfl⟩:=Bw.1 c;have k:uDd b<=3000:=by
  have:=GM (f:=uDd) g;unfold szB at h;omega
 unfold uDd at k;have i:=hx.blocks.all b g;refine ⟨fun p d=>?_,?_⟩
 ·obtain ⟨s,j,rfl⟩:=Bw.1 d;have q:=GM (f:=uGk) j;have m:uGk s=s.pl.n+s.rv.pl.n+(s.rv.args.n+oS (fun o=>o.pl.n) s.rv.args.L):=rfl;have e:s.v.rv.args.length=s.rv.args.n:=(Ao _).trans (i.stmts.all s j).rv.args.len;omega
 ·have m:XW b.term.args=b.term.args.n+oS (fun o=>o.pl.n) b.term.args.L:=rfl;have e:b.v.term.args.length=b.term.args.n:=(Ao _).trans i.term.args.len;omega
end
structure uI0 (x:BdW):Prop where
 cnt:uF x.v.blocks<=60
 nl:x.locals.n<=20
 nr:x.regions.n<=10
 nt:x.types.n<=1000
 sz:szB x<=3000
 nb:x.blocks.n<=200
structure GN (x:BdW):Prop where
 sm:uI0 x
 err:BP x.v=0
theorem uF0 {x:BdW} (h:GN x):uCq (tys x.types.L) (lcs x.locals.L):=by
 have c:=(GU h.err).1.lc;have e:x.v.locals.map LcV.ty=lcs x.locals.L:=by
  show (x.locals.L.map LcW.v).map LcV.ty=_;rw [Fw];rfl
 rw [e] at c;exact c
section
variable {w:World} {x:BdW} (hx:uS w w.heap.size x)
include hx
theorem NV (h:GN x):TyOk (tys x.types.L) (x.regions.n:Int):=by
 have c:=(GU h.err).1.ty;have e:x.v.regions.length=x.regions.n:=hx.regions.len;rw [e] at c;exact yM.1 c
end
theorem XG (a b c d:Int) (w:World):(Op.equalIn 10000 54 (.agg #[.int .i64 a,.int .i64 b]) (.agg #[.int .i64 c,.int .i64 d])).run prog w=.ok (decide (a=c/\b=d)) w:=by
 have u5:=underlying3;have g:=Tryz.isAgg3;have h:=Tryz.sizeOf3;rw [show (10000:Nat)=9999+1 from rfl,Op.equalIn];simp only [Fd,run_underlying underlying54,Ew];simp only [Ez,Std.Legacy.Range.size,Nat.sub_zero,F0,Nat.div_one,List.range'_succ,List.range'_zero,List.forIn_cons,List.forIn_nil];go_simp;by_cases e:a=c <;> by_cases f:b=d <;> simp [e,f]
theorem OG (a b:Int) (w:World):(Op.equalIn 10000 54 (.agg #[.int .i64 a,.int .i64 b]) (.agg #[.int .i64 a,.int .i64 b])).run prog w=.ok true w:=by
 rw [XG,decide_eq_true ⟨rfl,rfl⟩]
theorem RT {a b c d:Int} (h:¬(a=c/\b=d)) (w:World):(Op.equalIn 10000 54 (.agg #[.int .i64 a,.int .i64 b]) (.agg #[.int .i64 c,.int .i64 d])).run prog w=.ok false w:=by
 rw [XG,decide_eq_false h]
theorem YG (A B:Option Addr) (n m c d:Nat) (xs ys:List Pr) (w:World) (k l:Nat) (hx:uM w k 2 pV A n xs) (D:uM w l 2 pV B m ys) (V:n<=maxLen) (W:m<=maxLen) :
 Calls prog 54 #[.slice A n c,.slice B m d] w fun e y=>e=.returned (.bool (aU xs ys))/\Ab w y:=by
 have X:=uA hx;have Y:=uA D;have r:=uA hx.1;have s:=uA D.1;unfold maxLen at V W;clear hx D;by_cases E:n=m
 ·subst E;go_enter func54,ntmps54
  go_wp2;go_loopw [13] (fun i wr=>∃ j:Nat,i=.int .i64 (j:Int)/\j<=n/\Hdd (dF xs ys j)/\Ab w wr/\(∀ p,wr.cell? p=w.cell? p)) (fun i _=>n - (intOf i).toNat)
  case atStart=>exact ⟨0,rfl,Am _,fun j h=>absurd h bB,Below.refl _ _,fun _=>rfl⟩
  case round=>
   obtain ⟨j,rfl,hj,L,M,N⟩:=hrel;have F:=uA M;have O:=uA N;clear M N;by_cases Z:j < n
   ·obtain ⟨p,G⟩:∃ a,xs[j]?=some a:=⟨_,Ad (by have:=r.o;omega)⟩;obtain ⟨q,H⟩:∃ a,ys[j]?=some a:=⟨_,Ad (by have:=s.o;omega)⟩;obtain ⟨g,o,rfl,_,t⟩:=X.o.at_ G;obtain ⟨g',o',rfl,_,u⟩:=Y.o.at_ H;have I:=t 0 _ rfl;have P:=t 1 _ rfl;have J:=u 0 _ rfl;have Q:=u 1 _ rfl;simp only [Dl] at I J;clear t u;rw [<-O.o] at I P J Q;have R:(j:Int) < (n:Int):=bB;have S:=uA G;have T:=uA H;clear G H;obtain ⟨a,b⟩:=p;obtain ⟨a',b'⟩:=q;simp only [] at I P J Q;by_cases f:a=a'/\b=b'
    ·obtain ⟨rfl,rfl⟩:=f;have K:=uA (eZ L.o S.o T.o);have z:=fun y=>OG a b y
     go_wp2;go_quiet (fail)
     go_wp2;go_roundw
     case rel=>exact ⟨j+1,by go_num,bB,K.o,tyN F.o _,O.o⟩
     case measure=>simp [intOf];omega
    ·have C:=uA (EA S.o T.o (fun e=>f (by injection e with U e2;exact ⟨U,e2⟩)));have z:=fun y=>RT f y
     clear f;go_wp2;go_quiet (fail)
     go_wp2;go_ret;exact ⟨congrArg (fun v=>Ending.returned (.bool v)) C.o.symm,tyN F.o _⟩
   ·obtain rfl:j=n:=by omega
    have C:=uA (rV L.o r.o s.o);go_wp2;go_ret;exact ⟨congrArg (fun v=>Ending.returned (.bool v)) C.o.symm,F.o⟩
 ·have U:((n:Int) != (m:Int))=true:=by simp;omega
  have C:=uA (show aU xs ys=false by
   cases h:aU xs ys
   ·rfl
   ·rw [cX] at h;subst h;have h1:=r.o;have h2:=s.o;omega)
  go_enter func54,ntmps54
  go_wp2;go_ret;exact ⟨congrArg (fun v=>Ending.returned (.bool v)) C.o.symm,Below.refl _ _⟩
theorem QM (x:Int) (w:World):Calls prog 186 #[.int .i64 x] w fun e c=>e=.returned (.bool false)/\c=w:=by
 have d:(x != x)=false:=by simp
 go_enter func186,ntmps186
 go_wp2;go_ret;exact ⟨rfl,rfl⟩
def aJ (x y:Int):Int:=if x < y then -1 else if y < x then 1 else 0
theorem DW (x y:Int) (w:World):Calls prog 141 #[.int .i64 x,.int .i64 y] w fun e g=>e=.returned (.int .i64 (aJ x y))/\g=w:=by
 go_enter func141,ntmps141
 go_wp2_with fail
 refine (QM x _).mono ?_;rintro e i ⟨rfl,rfl⟩;go_wp2_with fail
 refine (QM y _).mono ?_;rintro e j ⟨rfl,rfl⟩;by_cases f:x < y
 ·have c:aJ x y=-1:=if_pos f;go_wp2;go_ret;exact ⟨by rw [c];rfl,rfl⟩
 ·by_cases d:y < x
  ·have c:aJ x y=1:=(if_neg f).trans (if_pos d);have h:x > y:=d;go_wp2;go_ret;exact ⟨by rw [c];rfl,rfl⟩
  ·have c:aJ x y=0:=(if_neg f).trans (if_neg d);have h:¬x > y:=d;go_wp2;go_ret;exact ⟨by rw [c];rfl,rfl⟩
theorem uHt (x y:Int) (w:World):Calls prog 141 #[.int .i64 x,.int .i64 y] w fun e c=>e=.returned (.int .i64 (aJ x y))/\Ab w c:=(DW x y w).mono fun _ _ ⟨d,f⟩=>⟨d,f ▸ Below.refl _ _⟩
def bN (l:List BkV) (i:Nat):List Nat:=match l[i]? with
 | none=>[]
 | some b=>(tgF l.length b.term.targets).map Int.toNat
theorem OO {l:List BkV} {i y:Nat} {b:BkV} (h:l[i]?=some b):y∈bN l i↔(y:Int)∈b.term.targets/\y < l.length:=by
 unfold bN tgF;rw [h];show y∈(b.term.targets.filter fun z=>inR z (l.length:Int)).map Int.toNat↔_;rw [Bw];constructor
 ·rintro ⟨t,e,rfl⟩;obtain ⟨c,d⟩:=Cx.1 e;obtain ⟨f,g⟩:=of_decide_eq_true d;rw [Dv f];exact ⟨c,bB⟩
 ·rintro ⟨c,d⟩;exact ⟨(y:Int),Cx.2 ⟨c,decide_eq_true ⟨bB,bB⟩⟩,nF⟩
theorem uE1 {l:List BkV} {i y:Nat} (h:y∈bN l i):y < l.length:=by
 cases hb:l[i]? with
 | none=>unfold bN at h;rw [hb] at h;cases h
 | some b=>exact ((OO hb).1 h).2
theorem aG {l:List BkV} {p:Int} {y:Nat}:y∈nxN l p↔(y:Int)∈mG l p:=by
 rw [OM];unfold wL;rw [Bw];exact ⟨fun h=>⟨y,h,rfl⟩,fun ⟨z,h,e⟩=>by
  have:z=y:=by omega
  exact this ▸ h⟩
theorem oI {l:List BkV} {p:Nat} {r:Nat×Nat} (h:wA l p=some r):vB l (p:Int)=some r:=by
 unfold vB;rw [if_neg bB,A3];exact h
theorem CX {l:List BkV} {p i k y:Nat} {b:BkV} (h:wA l p=some (i,k)) (c:l[i]?=some b) (d:k < b.stmts.length):y∈nxN l (p:Int)↔y=p+1:=by
 rw [aG,CC (oI h) c d,An];omega
theorem lM {l:List BkV} {p i k y:Nat} {b:BkV} (h:wA l p=some (i,k)) (c:l[i]?=some b) (f:¬k < b.stmts.length):y∈nxN l (p:Int)↔∃ j∈bN l i,y=uD l j:=by
 rw [aG,CH (oI h) c f];unfold jmI;rw [Bw];constructor
 ·rintro ⟨t,g,e⟩;obtain ⟨m,d,n⟩:=aD.1 g;refine ⟨t.toNat,(OO c).2 ⟨?_,bB⟩,bB⟩;rw [Dv d];exact m
 ·rintro ⟨j,o,rfl⟩;obtain ⟨d,n⟩:=(OO c).1 o;exact ⟨(j:Int),aD.2 ⟨d,bB,bB⟩,by rw [A3]⟩
section
variable {l:List BkV} {a b x:Nat} {seen:List Bool} {work:List Nat} {done:List Int}
end
end Go.Proofs.YtnkjbjkoffgocaaGreatDoor
