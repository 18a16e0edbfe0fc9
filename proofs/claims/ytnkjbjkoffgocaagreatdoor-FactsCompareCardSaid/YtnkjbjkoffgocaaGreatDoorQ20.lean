import Derived.Test.YtnkjbjkoffgocaaGreatDoorQ19
set_option linter.unusedVariables false
set_option linter.unusedSimpArgs false
set_option maxRecDepth 100000
set_option maxHeartbeats 4000000
namespace Go.Proofs.YtnkjbjkoffgocaaGreatDoor
open Tryz Go.RowKit
theorem qZ {E:Env} {o:OpV} (h:vP E o=0):(o.kind=2\/o.kind=3\/o.kind=4)\/((o.kind=0\/o.kind=1)/\(tyV E o.pl).2=0):=by
 unfold vP at h
 split at h
 ·cases h
 rename_i b
 split at h
 ·cases h
 split at h
 ·cases h
 split at h
 ·left;omega
 rename_i c
 split at h
 ·rename_i a;exact absurd h a
 rename_i a;right;exact ⟨bB,Ge.1 a⟩
theorem EM {E:Env} {o:OpV} (h:vP E o=0) (a:Int):UZ E o a=decide (kdV E o=a):=by
 rcases qZ h with (e | e | e) | ⟨e | e,_⟩ <;> unfold UZ kdV uB9 <;> simp [e,eq_comm]
theorem uB1 {E:Env} {o:OpV} (h:o.kind=2\/o.kind=3\/o.kind=4) (t:Int):sP E o t=decide (kdV E o=(uR E.T t).kind):=by
 rcases h with e | e | e <;> unfold sP kdV uB9 <;> simp [e,eq_comm]
theorem QV {P:Prop} (h:P:=by
 clear hb2;go_wp2;go_ret;exact ⟨rfl,(Turn.of_below HB.o).trans HW2.o.turn,HW2.o.ck⟩):P:=h
theorem BM {P:Prop} (h:P:=by
 clear hq hkd;go_enter func253,ntmps253
 go_wp2_with fail
 refine HC.o.mono ?_;rintro e1 w1 ⟨rfl,hb1⟩;have HW1:=uA (Wy.new HK.o hb1);clear hb1;go_wp2_with fail
 refine (HT.o w1 HW1.o.ck).mono ?_;rintro e2 w2 ⟨he2,hb2⟩;obtain rfl:e2=.returned (.agg #[.int .i64 kx,.bool mu,.int .i64 rg,.int .i64 el,.slice fA fn fc]):=he2;have HW2:=uA (HW1.o.up hb2);exact QV):P:=h
theorem uFa {P:Prop} (h:P:=by
 have HK:=uA (h.up HB.o);have H0:=uA h;have HO:=uA (ho.below (HB.o.mono h.bs));have HC:=uA (wK HK.o HO.o.pl hu);have HS:=uA fun (w':World) (q:Ck K w')=>uDl q (s:=(j:Int)) (t:=(i:Int)) (by unfold uH;omega) (by unfold uH;omega) ⟨⟨bB,by show (j:Int) < _;omega⟩,by show 0<=(i:Int);omega,by show (i:Int) < _;omega⟩ hsv
 clear h ho hE ht hv htt hin hf65 he hi hj hu hjn hsv;go_enter func253,ntmps253
 go_wp2_with fail
 refine HC.o.mono ?_;rintro e1 w1 ⟨rfl,hb1⟩;have HW1:=uA (Wy.new HK.o hb1);clear hb1;obtain ⟨x10,x11,x12,x13⟩:=wy4 H0.o HW1.o;go_wp2_with fail
 refine (HS.o w1 HW1.o.ck).mono ?_;rintro e2 w2 ⟨rfl,hb2⟩;have HW2:=uA (HW1.o.trans hb2);exact QV):P:=h
theorem uA6 {K:CkW} {o:OpW} {i:Nat} {u:TyW} {v:Bool} {w:World} (h:Ck K w) (ho:pB w K.B o) (hE:vP K.E o.v=0) (ht:K.x.types.L[i]?=some u) (hv:sP K.E o.v (i:Int)=v) :
 Calls prog 253 #[K.ptr,BU o,.int .i64 (i:Int)] w fun e w'=>e=.returned (.bool v)/\Wy K w w':=by
 obtain ⟨k,⟨l,b,c,d,f⟩,n⟩:=o;have htt:(tys K.x.types.L)[i]?=some u.t:=by
  show (K.x.types.L.map TyW.t)[i]?=_;rw [Ar,ht];rfl
 have hin:i < K.x.types.n:=by have x:=(Ah.1 ht).1;have y:=h.one.types.len;omega
 have g:=qZ hE;have hf65:=h.few;rcases g with r | ⟨g,he⟩
 ·have hkd:=(uB1 r (i:Int)).symm.trans hv;have hkd:decide (kdV K.E (OpW.v ⟨k,⟨l,b,c,d,f⟩,n⟩)=(uR (tys K.x.types.L) (i:Int)).kind)=v:=hkd;rw [mH htt] at hkd;obtain ⟨⟨kx,mu,rg,el,A⟩,fA,fn,fc⟩:=u;have z:=dP kx rg el mu fA fn fc;simp only [] at hkd;have r:k=2\/k=3\/k=4:=r;rcases r with rfl | rfl | rfl
  ·have a:kdV K.E (OpW.v ⟨2,⟨l,b,c,d,f⟩,n⟩)=2:=rfl;rw [a] at hkd;have HB:=uA (uB w (.cells (cOp ⟨2,⟨l,b,c,d,f⟩,n⟩).toArray 183));have HK:=uA (h.up HB.o);have H0:=uA h;have HO:=uA (ho.below (HB.o.mono h.bs));have HC:=uA (bZ HK.o HO.o nF a);clear h ho hE hv htt hin hf65 a;have HT:=uA fun (w':World) (q:Ck K w')=>wZ q ht
   clear ht;by_cases hq:2=kx
   ·have m:((2:Int) == kx)=true:=(by simp [hq]);obtain rfl:v=true:=by rw [<-hkd];simp [hq]
    exact BM
   ·have m:((2:Int) == kx)=false:=(by simp [hq]);obtain rfl:v=false:=by rw [<-hkd];simp [hq]
    exact BM
  ·have a:kdV K.E (OpW.v ⟨3,⟨l,b,c,d,f⟩,n⟩)=1:=rfl;rw [a] at hkd;have HB:=uA (uB w (.cells (cOp ⟨3,⟨l,b,c,d,f⟩,n⟩).toArray 183));have HK:=uA (h.up HB.o);have H0:=uA h;have HO:=uA (ho.below (HB.o.mono h.bs));have HC:=uA (bZ HK.o HO.o nF a);clear h ho hE hv htt hin hf65 a;have HT:=uA fun (w':World) (q:Ck K w')=>wZ q ht
   clear ht;by_cases hq:1=kx
   ·have m:((1:Int) == kx)=true:=(by simp [hq]);obtain rfl:v=true:=by rw [<-hkd];simp [hq]
    exact BM
   ·have m:((1:Int) == kx)=false:=(by simp [hq]);obtain rfl:v=false:=by rw [<-hkd];simp [hq]
    exact BM
  ·have a:kdV K.E (OpW.v ⟨4,⟨l,b,c,d,f⟩,n⟩)=0:=rfl;rw [a] at hkd;have HB:=uA (uB w (.cells (cOp ⟨4,⟨l,b,c,d,f⟩,n⟩).toArray 183));have HK:=uA (h.up HB.o);have H0:=uA h;have HO:=uA (ho.below (HB.o.mono h.bs));have HC:=uA (bZ HK.o HO.o nF a);clear h ho hE hv htt hin hf65 a;have HT:=uA fun (w':World) (q:Ck K w')=>wZ q ht
   clear ht;by_cases hq:0=kx
   ·have m:((0:Int) == kx)=true:=(by simp [hq]);obtain rfl:v=true:=by rw [<-hkd];simp [hq]
    exact BM
   ·have m:((0:Int) == kx)=false:=(by simp [hq]);obtain rfl:v=false:=by rw [<-hkd];simp [hq]
    exact BM
 ·have he:(tyV K.E (PlW.v ⟨l,b,c,d,f⟩)).2=0:=he;obtain ⟨j,B,hi,hj⟩:=h.vb.ty (p:=PlW.v ⟨l,b,c,d,f⟩) he;have hu:tyV K.E (PlW.v ⟨l,b,c,d,f⟩)=((j:Int),0):=Fp hi he;have hjn:j < K.x.types.n:=by have x:=(Ah.1 hj).1;have y:=h.one.types.len;omega
  have g:k=0\/k=1:=g;have hsv:sub (out K.x.outl.L ((K.x.regions.L.length:Nat):Int)) (tys K.x.types.L) (j:Int) (i:Int)=v:=by
   rw [<-hv,<- (show (tyV K.E (PlW.v ⟨l,b,c,d,f⟩)).1=(j:Int) from hi)];exact (if_neg (show ¬1 < k by omega)).symm
  rcases g with rfl | rfl
  ·have HB:=uA (uB w (.cells (cOp ⟨0,⟨l,b,c,d,f⟩,n⟩).toArray 183));exact uFa
  ·have HB:=uA (uB w (.cells (cOp ⟨1,⟨l,b,c,d,f⟩,n⟩).toArray 183));exact uFa
noncomputable def vaV (E:Env) (o:OpV) (t:Int):Int:=if vP E o≠0 then vP E o else if sP E o t=false then 22 else 0
theorem uFd {P:Prop} (h:P:=by
 clear hv;go_enter func237,ntmps237
 go_wp2_with fail
 refine HC.o.mono ?_;rintro e1 w1 ⟨rfl,hb1⟩;have HW1:=uA hb1;clear hb1;obtain ⟨x10,x11,x12,x13⟩:=wy4 H0.o HW1.o;go_wp2_with fail
 refine (HF.o w1 HW1.o).mono ?_;rintro e2 w2 ⟨rfl,hb2⟩;have HW2:=uA (HW1.o.trans hb2);exact QV):P:=h
theorem uEy {P:Prop} (h:P:=by
 refine HC.o.mono ?_;rintro e1 w1 ⟨rfl,hb1⟩;have HW1:=uA hb1;clear hb1;go_wp2;go_ret;exact ⟨rfl,(Turn.of_below HB.o).trans HW1.o.turn,HW1.o.ck⟩):P:=h
theorem QO {K:CkW} {o:OpW} {i:Nat} {y:TyW} {v:Int} {w:World} (h:Ck K w) (p:pB w K.B o) (r:K.x.types.L[i]?=some y) (hv:vaV K.E o.v (i:Int)=v) :
 Calls prog 237 #[K.ptr,BU o,.int .i64 (i:Int)] w fun e s=>e=.returned (.int .i64 v)/\Wy K w s:=by
 obtain ⟨k,⟨l,d,f,g,j⟩,n⟩:=o;obtain ⟨c,a⟩:∃ c,vP K.E (OpW.v ⟨k,⟨l,d,f,g,j⟩,n⟩)=c:=⟨_,rfl⟩;unfold vaV at hv;rw [a] at hv;have HB:=uA (uB w (.cells (cOp ⟨k,⟨l,d,f,g,j⟩,n⟩).toArray 183));have u:=uA (h.up HB.o);have H0:=uA h;have x:=uA (p.below (HB.o.mono h.bs));have HC:=uA (CY u.o x.o a);by_cases m:c=0
 ·subst m;obtain ⟨b,t⟩:∃ b,sP K.E (OpW.v ⟨k,⟨l,d,f,g,j⟩,n⟩) (i:Int)=b:=⟨_,rfl⟩;rw [t,if_neg nF] at hv;clear h p;have HF:=uA fun (s:World) (q:Wy K (w.alloc (.cells (cOp ⟨k,⟨l,d,f,g,j⟩,n⟩).toArray 183)) s)=>uA6 q.ck (x.o.below (q.low u.o)) a r t
  clear r a t;cases b
  ·obtain rfl:v=22:=by rw [<-hv];simp
   exact uFd
  ·obtain rfl:v=0:=by rw [<-hv];simp
   exact uFd
 ·have z:(c == 0)=false:=by simp [m]
  rw [if_pos m] at hv;obtain rfl:c=v:=hv;clear h p r a m;go_enter func237,ntmps237
  go_wp2_with fail
  exact uEy
def coV (E:Env) (o:OpV):Int:=if vP E o≠0 then vP E o else if kdV E o=1 then 0 else 22
theorem uFf {P:Prop} (h:P:=by
 clear hv hb1;go_enter func202,ntmps202
 go_wp2_with fail
 refine HC.o.mono ?_;rintro e1 w1 ⟨rfl,hb1⟩;have HW1:=uA hb1;clear hb1;obtain ⟨x10,x11,x12,x13⟩:=wy4 H0.o HW1.o;go_wp2_with fail
 refine (HF.o w1 HW1.o).mono ?_;rintro e2 w2 ⟨rfl,hb2⟩;have HW2:=uA (HW1.o.up hb2);exact QV):P:=h
theorem uAf {K:CkW} {o:OpW} {v:Int} {w:World} (h:Ck K w) (m:pB w K.B o) (hv:coV K.E o.v=v) :
 Calls prog 202 #[K.ptr,BU o] w fun e p=>e=.returned (.int .i64 v)/\Wy K w p:=by
 obtain ⟨k,⟨l,d,f,g,i⟩,n⟩:=o;obtain ⟨c,a⟩:∃ c,vP K.E (OpW.v ⟨k,⟨l,d,f,g,i⟩,n⟩)=c:=⟨_,rfl⟩;unfold coV at hv;rw [a] at hv;have HB:=uA (uB w (.cells (cOp ⟨k,⟨l,d,f,g,i⟩,n⟩).toArray 183));have s:=uA (h.up HB.o);have H0:=uA h;have t:=uA (m.below (HB.o.mono h.bs));have HC:=uA (CY s.o t.o a);by_cases j:c=0
 ·subst j;obtain ⟨b,r⟩:∃ b,kdV K.E (OpW.v ⟨k,⟨l,d,f,g,i⟩,n⟩)=b:=⟨_,rfl⟩;rw [r,if_neg nF] at hv;clear h m;have u:=qZ a;clear a;have HF:=uA fun (p:World) (q:Wy K (w.alloc (.cells (cOp ⟨k,⟨l,d,f,g,i⟩,n⟩).toArray 183)) p)=>bZ q.ck (t.o.below (q.low s.o)) (u.imp id fun q=>q.2) r
  clear r u;by_cases hb1:b=1
  ·have x:(b != 1)=false:=(by simp [hb1]);obtain rfl:v=0:=by rw [<-hv];simp [hb1]
   exact uFf
  ·have x:(b != 1)=true:=(by simp [hb1]);obtain rfl:v=22:=by rw [<-hv];simp [hb1]
   exact uFf
 ·have y:(c == 0)=false:=by simp [j]
  rw [if_pos j] at hv;obtain rfl:c=v:=hv;clear h m a j;go_enter func202,ntmps202
  go_wp2_with fail
  exact uEy
noncomputable def clV (E:Env) (t:TmV):Int:=if vE t.name=false then 12 else if 65535 < t.args.length then 15 else if vG E t.args≠0 then vG E t.args else (wrV E t.pl).2
theorem uAw {K:CkW} {x:TmW} {v:Int} {w:World} (h:Ck K w) (P:mY w K.B x) (m:clV K.E x.v=v) :
 Calls prog 203 #[K.ptr,fZ x] w fun e w'=>e=.returned (.int .i64 v)/\Wy K w w':=by
 obtain ⟨k,⟨tA,tn,tc,tL⟩,⟨Z,d,gc,n⟩,⟨l,I,J,L,M⟩,Q⟩:=x;have N:=uA (uB w (.cells (cTm ⟨k,⟨tA,tn,tc,tL⟩,⟨Z,d,gc,n⟩,⟨l,I,J,L,M⟩,Q⟩).toArray 63));have R:=uA (h.up N.o);have H0:=uA h;have HX:=uA (P.below (N.o.mono h.bs));have q:n.length=d:=P.args.len;have A:Q.size<=maxLen:=P.name;have S:d<=maxLen:=P.args.nm;obtain ⟨O,r⟩:∃ e,vG K.E (n.map OpW.v)=e:=⟨_,rfl⟩;have m:(if vE Q=false then (12:Int) else if 65535 < d then 15 else if O≠0 then O else (wrV K.E (PlW.v ⟨l,I,J,L,M⟩)).2)=v:=by
  rw [<-m,<- r,<- q,<- Ao (f:=OpW.v)];rfl
 clear h P;obtain ⟨bi,s⟩:∃ b,vE Q=b:=⟨_,rfl⟩;rw [s] at m;cases bi
 ·obtain rfl:v=12:=by rw [<-m];rfl
  clear m r q S;go_enter func203,ntmps203
  go_wp2_with fail
  refine (wS s _ A).mono ?_;rintro e0 w0 ⟨rfl,rfl⟩;go_wp2;go_ret;exact ⟨rfl,Turn.of_below N.o,R.o⟩
 rw [if_neg nF] at m;by_cases hg:65535 < d
 ·have tg:(65535:Int) < (d:Int):=by omega
  rw [if_pos hg] at m;subst m;clear r q S hg;go_enter func203,ntmps203
  go_wp2_with fail
  refine (wS s _ A).mono ?_;rintro e0 w0 ⟨rfl,rfl⟩;go_wp2;go_ret;exact ⟨rfl,Turn.of_below N.o,R.o⟩
 have tg:(d:Int)<=65535:=by omega
 rw [if_neg hg] at m;have t:=uA q;have a0:=uA r;have HV:=uA m;clear hg r q m;go_enter func203,ntmps203
 go_wp2_with fail
 refine (wS s _ A).mono ?_;rintro e0 w0 ⟨rfl,rfl⟩;go_wp2;go_loopw [23] (fun i wr=>∃ j:Nat,i=.int .i64 (j:Int)/\j<=d/\Hdd (vG K.E ((n.map OpW.v).drop j)=O)/\Hdd (Wy K (w.alloc (.cells (cTm ⟨k,⟨tA,tn,tc,tL⟩,⟨Z,d,gc,n⟩,⟨l,I,J,L,M⟩,Q⟩).toArray 63)) wr)) (fun i _=>d - (intOf i).toNat)
 case atStart=>exact ⟨0,rfl,Am _,uA a0.o,uA (Wy.refl R.o)⟩
 case round=>
  obtain ⟨j,rfl,hj,HE,B⟩:=hrel;by_cases a3:j < d
  ·have a2:(j:Int) < (d:Int):=bB;obtain ⟨p,hp⟩:∃ p,n[j]?=some p:=⟨_,Ad (by have:n.length=d:=t.o;omega)⟩;have T:(n.map OpW.v)[j]?=some p.v:=by rw [Ar,hp];rfl
   have U:Ops wr K.B ⟨Z,d,gc,n⟩:=Ops.below (B.o.low R.o) HX.o.args;obtain ⟨b,o,hA,_,y,V⟩:=U.at_ hp;have hA:Z=some ⟨b,o,none⟩:=hA;subst hA;obtain ⟨kq,⟨lq,qA,qn,qc,qs⟩,nq⟩:=p;have c0:wr.cell? ⟨b,o+j*4,none⟩=some (.int .i64 kq):=V 0 _ rfl;have c1:wr.cell? ⟨b,o+j*4+1,none⟩=some (.int .i64 lq):=V 1 _ rfl;have c2:wr.cell? ⟨b,o+j*4+2,none⟩=some (.slice qA qn qc):=V 2 _ rfl;have c3:wr.cell? ⟨b,o+j*4+3,none⟩=some (.int .i64 nq):=V 3 _ rfl;have HS:=uA (BC (E:=K.E) T);have C:=(Below.refl wr.heap.size wr).alloc (Ae _) (.cells (cOp ⟨kq,⟨lq,qA,qn,qc,qs⟩,nq⟩).toArray 183);have D:=uA (B.o.up C);have a1:=uA (y.below (C.mono B.o.ck.bs));obtain ⟨c,F⟩:∃ c,vP K.E (OpW.v ⟨kq,⟨lq,qA,qn,qc,qs⟩,nq⟩)=c:=⟨_,rfl⟩;have HC:=uA (CY D.o.ck a1.o F);have W:=uA F;clear hp T U y V C F;by_cases X:c=0
   ·subst X;have HN:=uA (show vG K.E ((n.map OpW.v).drop (j+1))=O by rw [<-HE.o,HS.o,if_neg (by rw [W.o];simp)]);go_wp2_with fail
    refine HC.o.mono ?_;rintro e1 w1 ⟨rfl,a⟩;have g:=uA (D.o.trans a);clear a;go_wp2;go_roundw
    case rel=>exact ⟨j+1,by go_num,bB,uA HN.o,uA g.o⟩
    case measure=>simp [intOf];omega
   ·have t0:(c != 0)=true:=(by simp [X]);have HN:=uA (show O=c by rw [<-HE.o,HS.o,W.o,if_pos X]);have G:=uA (show v=c by rw [<-HV.o,HN.o,if_pos X]);clear X;go_wp2_with fail
    refine HC.o.mono ?_;rintro e1 w1 ⟨rfl,a⟩;have g:=uA (D.o.trans a);clear a;go_wp2;go_ret;exact ⟨congrArg (fun v=>Ending.returned (.int .i64 v)) G.o.symm,(Turn.of_below N.o).trans g.o.turn,g.o.ck⟩
  ·obtain rfl:d=j:=by omega
   have z:O=0:=by rw [<-HE.o];exact sU (by rw [Ao];have:n.length=d:=t.o;omega)
   obtain ⟨wa,Y⟩:∃ u,(wrV K.E (PlW.v ⟨l,I,J,L,M⟩)).1=u:=⟨_,rfl⟩;obtain ⟨wb,H⟩:∃ u,(wrV K.E (PlW.v ⟨l,I,J,L,M⟩)).2=u:=⟨_,rfl⟩;have G:=uA (show v=wb by rw [<-HV.o,z,if_neg nF,H]);have HC:=uA (xO B.o.ck (HX.o.pl.below (B.o.low R.o)) (Fp Y H:wrV K.E (PlW.v ⟨l,I,J,L,M⟩)=(wa,wb)));obtain ⟨a4,a5,a6,a7,a8,a9⟩:=wy6 H0.o B.o;clear z Y H HE;go_wp2_with fail
   refine HC.o.mono ?_;rintro e1 w1 ⟨rfl,a⟩;have g:=uA (B.o.up a);clear a;go_wp2;go_ret;exact ⟨congrArg (fun v=>Ending.returned (.int .i64 v)) G.o.symm,(Turn.of_below N.o).trans g.o.turn,g.o.ck⟩
theorem WG {E:Env} {o:OpV} {u r:Int}:(if vP E o≠0 then vP E o else if sP E o u=false then 22 else r)=if vaV E o u≠0 then vaV E o u else r:=by
 unfold vaV;by_cases h:vP E o=0
 ·cases hf:sP E o u <;> simp [h]
 ·simp [h]
noncomputable def tuV (E:Env) (r:RvV) (t:Int):Int:=if (uR E.T t).kind≠4\/(uR E.T t).fields.length≠r.args.length then 22 else oE E r.args (uR E.T t).fields
theorem uE6 {P:Prop} (h:P:=by
 go_enter func239,ntmps239
 go_wp2_with fail
 refine HT.o.mono ?_;rintro e1 w1 ⟨he1,hb1⟩;obtain rfl:e1=.returned (.agg #[.int .i64 tk,.bool tmu,.int .i64 trg,.int .i64 tel,.slice fA fn fc]):=he1;have HW1:=uA (Wy.new HK.o hb1);clear hb1;have hbt:=(Below.refl w1.heap.size w1).alloc (Ae _) (.cells #[.int .i64 tk,.bool tmu,.int .i64 trg,.int .i64 tel,.slice fA fn fc] 123);have HW2:=uA (HW1.o.up hbt);clear hbt;obtain ⟨_,_,_,_,_,_,y6⟩:=wy7 H0.o HW2.o;go_wp2;go_ret;exact ⟨rfl,(Turn.of_below HB.o).trans HW2.o.turn,HW2.o.ck⟩):P:=h
theorem uE4 {P:Prop} (h:P:=by
 obtain ⟨g0,g1,g2,g3,g4,g5⟩:=hcs.o _ HX0.o;exact ⟨(hb4.turn.cell (p:=⟨wr.heap.size,0,none⟩) HL0.o HNS1.o).trans g0,(hb4.turn.cell (p:=⟨wr.heap.size,1,none⟩) HL0.o HNS1.o).trans g1,(hb4.turn.cell (p:=⟨wr.heap.size,2,none⟩) HL0.o HNS1.o).trans g2,(hb4.turn.cell (p:=⟨wr.heap.size,3,none⟩) HL0.o HNS1.o).trans g3,(hb4.turn.cell (p:=⟨w1.heap.size,4,none⟩) HL1.o HNS2.o).trans g4,(hb4.turn.cell (p:=⟨fb,fo+j,none⟩) HL2.o HNS3.o).trans g5⟩):P:=h
theorem uDv {K:CkW} {x:RvW} {i:Nat} {ty:TyW} {v:Int} {w:World} (h:Ck K w) (hx:zR w K.B x) (ht:K.x.types.L[i]?=some ty) (I:tuV K.E x.v (i:Int)=v) :
 Calls prog 239 #[K.ptr,eH x,.int .i64 (i:Int)] w fun e g=>e=.returned (.int .i64 v)/\Wy K w g:=by
 have V:(tys K.x.types.L)[i]?=some ty.t:=by
  show (K.x.types.L.map TyW.t)[i]?=_;rw [Ar,ht];rfl
 have D:wF w K.B ty:=h.one.types.all ty (Aj ht);obtain ⟨rk,op,rg,mu,⟨l,pA,pn,pc,ps⟩,⟨gA,W,gc,C⟩⟩:=x;obtain ⟨⟨tk,tmu,trg,tel,J⟩,fA,fn,fc⟩:=ty;have HB:=uA (uB w (.cells (cRv ⟨rk,op,rg,mu,⟨l,pA,pn,pc,ps⟩,⟨gA,W,gc,C⟩⟩).toArray 67));have HK:=uA (h.up HB.o);have H0:=uA h;have HX:=uA (hx.below (HB.o.mono h.bs));have a8:=uA (D.below (HB.o.mono h.bs));have F:C.length=W:=hx.args.len;have a9:W<=maxLen:=hx.args.nm;unfold maxLen at a9;have G:J.length=fn:=by have:=D.rd.1;rw [Ao] at this;exact this
 have aa:fn<=maxLen:=Ai D.ok.nc D.ok.cm;unfold maxLen at aa;clear hx D;have a0:(if tk≠4\/fn≠W then (22:Int) else oE K.E (C.map OpW.v) J)=v:=by
  rw [<-I,<- F,<- G,<- Ao (f:=OpW.v)];show _=(if (uR (tys K.x.types.L) (i:Int)).kind≠4\/(uR (tys K.x.types.L) (i:Int)).fields.length≠(C.map OpW.v).length then (22:Int) else oE K.E (C.map OpW.v) (uR (tys K.x.types.L) (i:Int)).fields);rw [mH V]
 clear I;have I:=a0;clear a0;have a1:∀ (q:Nat) (f:Int),tk=4->J[q]?=some f->∃ (u:Nat) (y:TyW),f=(u:Int)/\K.x.types.L[u]?=some y:=fun q f L hq=>by
  obtain ⟨u,y,rfl,_,hu⟩:=(yM.1 h.ok.ty).elem V (p:=f) (by rw [vY L];exact Aj hq);obtain ⟨z,hz,_⟩:=bH hu;exact ⟨u,z,rfl,hz⟩
 clear h V;have ab:=uA a1;clear a1;have HT:=uA (wZ HK.o ht);clear ht;by_cases L:tk=4
 case neg=>
  have t4:(tk != 4)=true:=by simp [L]
  obtain rfl:v=22:=by rw [<-I,if_pos (.inl L)]
  clear I F G L;exact uE6
 have t4:(tk != 4)=false:=by simp [L]
 by_cases hl:fn=W
 case neg=>
  have tl:((fn:Int) != (W:Int))=true:=by rw [bne_iff_ne];omega
  obtain rfl:v=22:=by rw [<-I,if_pos (.inr hl)]
  clear I F G L hl;exact uE6
 rw [if_neg bB] at I;obtain rfl:fn=W:=hl;have tl:((fn:Int) != (fn:Int))=false:=by simp
 have HV:=uA I;clear I;have O:=uA F;clear F;have ac:=uA G;clear G;have H4:=uA L;clear L;go_enter func239,ntmps239
 go_wp2_with fail
 refine HT.o.mono ?_;rintro e1 w1 ⟨he1,hb1⟩;obtain rfl:e1=.returned (.agg #[.int .i64 tk,.bool tmu,.int .i64 trg,.int .i64 tel,.slice fA fn fc]):=he1;have HW1:=uA (Wy.new HK.o hb1);clear hb1;have hbt:=(Below.refl w1.heap.size w1).alloc (Ae _) (.cells #[.int .i64 tk,.bool tmu,.int .i64 trg,.int .i64 tel,.slice fA fn fc] 123);have HW2:=uA (HW1.o.up hbt);clear hbt;obtain ⟨_,_,_,_,_,_,y6⟩:=wy7 H0.o HW2.o;go_wp2;go_loopw [29] (fun i wr=>∃ j:Nat,i=.int .i64 (j:Int)/\j<=fn/\Hdd (oE K.E ((C.map OpW.v).drop j) (J.drop j)=v)/\Hdd (Wy K (w1.alloc (.cells #[.int .i64 tk,.bool tmu,.int .i64 trg,.int .i64 tel,.slice fA fn fc] 123)) wr)) (fun i _=>fn - (intOf i).toNat)
 case atStart=>exact ⟨0,rfl,Am _,uA HV.o,uA (Wy.refl HW2.o.ck)⟩
 case round=>
  obtain ⟨j,rfl,hj,HE,HW⟩:=hrel;have M:=uA (HW2.o.trans HW.o);by_cases ag:j < fn
  ·have af:(j:Int) < (fn:Int):=bB;obtain ⟨p,hp⟩:∃ p,C[j]?=some p:=⟨_,Ad (by have:C.length=fn:=O.o;omega)⟩;obtain ⟨f,hf⟩:∃ f,J[j]?=some f:=⟨_,Ad (by have:J.length=fn:=ac.o;omega)⟩;have a2:(C.map OpW.v)[j]?=some p.v:=by rw [Ar,hp];rfl
   obtain ⟨u,yt,rfl,hu⟩:=ab.o j f H4.o hf;have a3:Ops wr K.B ⟨gA,fn,gc,C⟩:=Ops.below (M.o.low HK.o) HX.o.args;obtain ⟨b,o,hA,_,R,hc⟩:=a3.at_ hp;have hA:gA=some ⟨b,o,none⟩:=hA;subst hA;have a4:Rd wr K.B fA fn (vC J):=(a8.o.below (M.o.low HK.o)).rd;obtain ⟨fb,fo,X,ah,a5⟩:=a4.2 bB;have X:fA=some ⟨fb,fo,none⟩:=X;subst X;have cf:wr.cell? ⟨fb,fo+j,none⟩=some (.int .i64 (u:Int)):=a5 j _ (by rw [Ar,hf];rfl);obtain ⟨k,⟨m,n,s,t,A⟩,nq⟩:=p;have c0:wr.cell? ⟨b,o+j*4,none⟩=some (.int .i64 k):=hc 0 _ rfl;have c1:wr.cell? ⟨b,o+j*4+1,none⟩=some (.int .i64 m):=hc 1 _ rfl;have c2:wr.cell? ⟨b,o+j*4+2,none⟩=some (.slice n s t):=hc 2 _ rfl;have c3:wr.cell? ⟨b,o+j*4+3,none⟩=some (.int .i64 nq):=hc 3 _ rfl;have HS:=uA (SM (E:=K.E) a2 hf);have B:=(Below.refl wr.heap.size wr).alloc (Ae _) (.cells (cOp ⟨k,⟨m,n,s,t,A⟩,nq⟩).toArray 183);have H:=uA (HW.o.up B);have ad:=uA (R.below (B.mono HW.o.ck.bs));obtain ⟨c,Y⟩:∃ c,vaV K.E (OpW.v ⟨k,⟨m,n,s,t,A⟩,nq⟩) (u:Int)=c:=⟨_,rfl⟩;have a6:=uA Y;have U:fb < wr.heap.size:=by
    apply Df;intro ai;have h2:wr.heap[fb]?=none:=Dd bB;simp [World.cell?,h2] at cf
   have hcs:=uA fun (g:World) (hb:Ab (wr.alloc (.cells (cOp ⟨k,⟨m,n,s,t,A⟩,nq⟩).toArray 183)) g)=>(show g.cell? ⟨wr.heap.size,0,none⟩=some (.int .i64 k)/\g.cell? ⟨wr.heap.size,1,none⟩=some (.int .i64 m)/\g.cell? ⟨wr.heap.size,2,none⟩=some (.slice n s t)/\g.cell? ⟨wr.heap.size,3,none⟩=some (.int .i64 nq)/\g.cell? ⟨w1.heap.size,4,none⟩=some (.slice (some ⟨fb,fo,none⟩) fn fc)/\g.cell? ⟨fb,fo+j,none⟩=some (.int .i64 (u:Int)) from by
    have hcx:=wR (w:=wr) (cs:=cOp ⟨k,⟨m,n,s,t,A⟩,nq⟩) (T:=183) hb;have ae:=Wy.box (cs:=[.int .i64 tk,.bool tmu,.int .i64 trg,.int .i64 tel,.slice (some ⟨fb,fo,none⟩) fn fc]) (T:=123) HW1.o.ck (H.o.up hb);exact ⟨hcx 0 _ rfl,hcx 1 _ rfl,hcx 2 _ rfl,hcx 3 _ rfl,ae 4 _ rfl,((Aa B hb).cell (p:=⟨fb,fo+j,none⟩) U).trans cf⟩)
   have HC:=uA fun (g:World) (hb:Ab (wr.alloc (.cells (cOp ⟨k,⟨m,n,s,t,A⟩,nq⟩).toArray 183)) g)=>QO (H.o.ck.up hb) (ad.o.below (hb.mono H.o.ck.bs)) hu Y
   have HNS1:Hdd (¬K.S wr.heap.size):=fun q=>Cg _ (HW.o.ck.sLt _ q);have HNS2:Hdd (¬K.S w1.heap.size):=fun q=>Cg _ (HW1.o.ck.sLt _ q);have HNS3:Hdd (¬K.S fb):=(fun q=>by have:=HW1.o.ck.sB _ q;omega);have HL1:=uA (show w1.heap.size < (wr.alloc (.cells (cOp ⟨k,⟨m,n,s,t,A⟩,nq⟩).toArray 183)).heap.size by have Z:=HW.o.turn.size;have h2:=B.size;simp at Z;omega);have HL0:=uA (show wr.heap.size < (wr.alloc (.cells (cOp ⟨k,⟨m,n,s,t,A⟩,nq⟩).toArray 183)).heap.size by simp);clear hp a2 a3 R hc Y a4 a5 hf hu;have HL2:Hdd (fb < (wr.alloc (.cells (cOp ⟨k,⟨m,n,s,t,A⟩,nq⟩).toArray 183)).heap.size):=Ap U B.size;clear B;have a7:=uA (WG (E:=K.E) (o:=OpW.v ⟨k,⟨m,n,s,t,A⟩,nq⟩) (u:=(u:Int)) (r:=oE K.E ((C.map OpW.v).drop (j+1)) (J.drop (j+1))));by_cases h0:c=0
   ·subst h0;have HN:=uA (show oE K.E ((C.map OpW.v).drop (j+1)) (J.drop (j+1))=v by have Z:=a7.o;rw [a6.o] at Z;rw [<-HE.o,HS.o,Z,if_neg nF]);go_wp2;have HX0:=uA ((Below.refl (wr.alloc (.cells (cOp ⟨k,⟨m,n,s,t,A⟩,nq⟩).toArray 183)).heap.size (wr.alloc (.cells (cOp ⟨k,⟨m,n,s,t,A⟩,nq⟩).toArray 183))).drew);refine wp_region_held_drew (S:=(fun g=>g.cell? ⟨wr.heap.size,0,none⟩=some (.int .i64 k)/\g.cell? ⟨wr.heap.size,1,none⟩=some (.int .i64 m)/\g.cell? ⟨wr.heap.size,2,none⟩=some (.slice n s t)/\g.cell? ⟨wr.heap.size,3,none⟩=some (.int .i64 nq)/\g.cell? ⟨w1.heap.size,4,none⟩=some (.slice (some ⟨fb,fo,none⟩) fn fc)/\g.cell? ⟨fb,fo+j,none⟩=some (.int .i64 (u:Int)))) fL (hcs.o _ HX0.o) (fun hHeld=>?_);refine uJ [0,1,2,3,4,5,6] ?_
    repeat' (first | refine pT hHeld rfl ?_ | refine pS hHeld rfl ?_)
    refine uK ?_;refine wpAnyH_ready (rs:=[7]) fL nF ?_;refine AllReadyH.cons rfl (fun KZ hK=>?_) AllReadyH.nil;go_simp;refine (HC.o _ HX0.o).mono ?_;rintro e4 w4 ⟨rfl,hb4⟩;have N:=uA ((H.o.up HX0.o).trans hb4);refine hK.out _ _ ?_ (fun hHeld=>?_)
    ·exact uE4
    clear hK KZ;try simp only [Ac]
    refine uJ [8] ?_
    repeat' (first | refine pT hHeld rfl ?_ | refine pS hHeld rfl ?_)
    refine uK ?_;refine wpAnyH_done fL ?_ _;go_wp2;go_roundw
    case rel=>exact ⟨j+1,by go_num,bB,uA HN.o,uA N.o⟩
    case measure=>simp [intOf];omega
   ·have t0:(c != 0)=true:=(by simp [h0]);have HN:=uA (show v=c by have Z:=a7.o;rw [a6.o] at Z;rw [<-HE.o,HS.o,Z,if_pos h0]);clear h0;go_wp2;have HX0:=uA ((Below.refl (wr.alloc (.cells (cOp ⟨k,⟨m,n,s,t,A⟩,nq⟩).toArray 183)).heap.size (wr.alloc (.cells (cOp ⟨k,⟨m,n,s,t,A⟩,nq⟩).toArray 183))).drew);refine wp_region_held_drew (S:=(fun g=>g.cell? ⟨wr.heap.size,0,none⟩=some (.int .i64 k)/\g.cell? ⟨wr.heap.size,1,none⟩=some (.int .i64 m)/\g.cell? ⟨wr.heap.size,2,none⟩=some (.slice n s t)/\g.cell? ⟨wr.heap.size,3,none⟩=some (.int .i64 nq)/\g.cell? ⟨w1.heap.size,4,none⟩=some (.slice (some ⟨fb,fo,none⟩) fn fc)/\g.cell? ⟨fb,fo+j,none⟩=some (.int .i64 (u:Int)))) fL (hcs.o _ HX0.o) (fun hHeld=>?_);refine uJ [0,1,2,3,4,5,6] ?_
    repeat' (first | refine pT hHeld rfl ?_ | refine pS hHeld rfl ?_)
    refine uK ?_;refine wpAnyH_ready (rs:=[7]) fL nF ?_;refine AllReadyH.cons rfl (fun KZ hK=>?_) AllReadyH.nil;go_simp;refine (HC.o _ HX0.o).mono ?_;rintro e4 w4 ⟨rfl,hb4⟩;have N:=uA ((H.o.up HX0.o).trans hb4);refine hK.out _ _ ?_ (fun hHeld=>?_)
    ·exact uE4
    clear hK KZ;try simp only [Ac]
    refine uJ [8] ?_
    repeat' (first | refine pT hHeld rfl ?_ | refine pS hHeld rfl ?_)
    refine uK ?_;refine wpAnyH_done fL ?_ _;go_wp2;go_ret;exact ⟨congrArg (fun v=>Ending.returned (.int .i64 v)) HN.o.symm,(Turn.of_below HB.o).trans (HW2.o.trans N.o).turn,N.o.ck⟩
  ·obtain rfl:fn=j:=by omega
   obtain rfl:v=0:=by rw [<-HE.o];exact OF (by rw [Ao];have:C.length=fn:=O.o;omega)
   go_wp2;go_ret;exact ⟨rfl,(Turn.of_below HB.o).trans M.o.turn,M.o.ck⟩
end Go.Proofs.YtnkjbjkoffgocaaGreatDoor
