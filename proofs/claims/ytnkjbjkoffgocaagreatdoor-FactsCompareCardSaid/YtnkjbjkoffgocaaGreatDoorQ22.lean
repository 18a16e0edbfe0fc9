import Derived.Test.YtnkjbjkoffgocaaGreatDoorQ21
set_option linter.unusedVariables false
set_option linter.unusedSimpArgs false
set_option maxRecDepth 100000
set_option maxHeartbeats 8000000
namespace Go.Proofs.YtnkjbjkoffgocaaGreatDoor
open Tryz Go.RowKit
theorem Wy.box2w {K:CkW} {w w':World} {cs ds:List Value} {T U:TypeId} (f:Ck K w) (h:Wy K (two w cs T ds U) w'):(∀ (j:Nat) (u:Value),cs[j]?=some u->w'.cell? ⟨w.heap.size,j,none⟩=some u)/\(∀ (j:Nat) (u:Value),ds[j]?=some u->w'.cell? ⟨w.heap.size+1,j,none⟩=some u):=by
 obtain ⟨a,b⟩:=RQ (Below.refl (two w cs T ds U).heap.size (two w cs T ds U));have d:(two w cs T ds U).heap.size=w.heap.size+2:=by simp [two]
 have e:∀ k,w.heap.size<=k->¬K.S k:=fun k g q=>by have:=f.sLt _ q;omega
 exact ⟨fun j u c=>(h.turn.cell (p:=⟨w.heap.size,j,none⟩) (by rw [d];show w.heap.size < _;omega) (e _ (Ae _))).trans (a j u c),fun j u c=>(h.turn.cell (p:=⟨w.heap.size+1,j,none⟩) (by rw [d];show w.heap.size+1 < _;omega) (e _ (Cc _))).trans (b j u c)⟩
theorem sY {K:CkW} {w w':World} {a b e f g i j b5 k:Value} {T U:TypeId} (l:Ck K w) (h:Wy K ((w.alloc (.cells #[a,b] T)).alloc (.cells #[e,f,g,i,j,b5,k] U)) w'):w'.cell? ⟨w.heap.size,0,none⟩=some a/\w'.cell? ⟨w.heap.size,1,none⟩=some b/\w'.cell? ⟨w.heap.size+1,0,none⟩=some e/\w'.cell? ⟨w.heap.size+1,1,none⟩=some f/\w'.cell? ⟨w.heap.size+1,2,none⟩=some g/\w'.cell? ⟨w.heap.size+1,3,none⟩=some i/\w'.cell? ⟨w.heap.size+1,4,none⟩=some j/\w'.cell? ⟨w.heap.size+1,5,none⟩=some b5/\w'.cell? ⟨w.heap.size+1,6,none⟩=some k:=by
 obtain ⟨c,d⟩:=Wy.box2w (cs:=[a,b]) (ds:=[e,f,g,i,j,b5,k]) l h;exact ⟨c 0 _ rfl,c 1 _ rfl,d 0 _ rfl,d 1 _ rfl,d 2 _ rfl,d 3 _ rfl,d 4 _ rfl,d 5 _ rfl,d 6 _ rfl⟩
noncomputable def SO (E:Env) (p:PlV) (r:RvV):Int:=if (tyV E p).2≠0 then (tyV E p).2 else if muV E p=false then 22 else nN E r (tyV E p).1
theorem uDf (E:Env) (p:PlV) (r:RvV):SO E p r=if (wrV E p).2≠0 then (wrV E p).2 else if mL r≠0 then mL r else nN E r (wrV E p).1:=by
 unfold SO wrV;by_cases h:(tyV E p).2=0
 ·cases hm:muV E p
  ·simp [h]
  ·by_cases a:mL r=0
   ·simp [h,a]
   ·simp [h,a];unfold nN;rw [if_pos a]
 ·simp [h]
theorem uF3 {K:CkW} {w:World} (h:Ck K w) {p:PlV} (a:(wrV K.E p).2=0):∃ (i:Nat) (c:TyW),(wrV K.E p).1=(i:Int)/\K.x.types.L[i]?=some c:=by
 unfold wrV at a ⊢
 split at a
 ·rename_i b;exact absurd a b
 ·rename_i b
  split at a
  ·cases a
  ·rename_i d;rw [if_neg b,if_neg d];exact h.vb.ty (p:=p) (Ge.1 b)
theorem MY {r:RvV} (h:mL r=0):(0<=r.kind/\r.kind<=4)/\((r.kind=0\/r.kind=2)->r.args.length=1)/\(r.kind=3->r.args.length=2):=by
 unfold mL at h
 split at h
 ·cases h
 rename_i d
 split at h
 ·cases h
 split at h
 ·cases h
 rename_i c;refine ⟨bB,fun a=>?_,fun a=>?_⟩
 ·apply Df;intro b;exact c (.inl ⟨a,b⟩)
 ·apply Df;intro b;exact c (.inr ⟨a,b⟩)
theorem SC {E:Env} {r:RvV} {t:Int} (a:r.kind=1) (b:mL r=0):nN E r t=IQ E r t:=by
 unfold nN;rw [if_neg bB,if_pos a]
theorem UW {E:Env} {r:RvV} {t:Int} (a:r.kind=4) (b:mL r=0):nN E r t=tuV E r t:=by
 unfold nN tuV;rw [if_neg bB,if_neg bB,if_neg bB,if_pos a]
theorem SK {E:Env} {r:RvV} {t:Int} {o:OpV} (a:r.kind=0) (b:r.args=[o]) (c:mL r=0):nN E r t=vaV E o t:=by
 unfold nN;rw [if_neg bB,if_neg bB,if_neg bB,if_neg bB,b,if_pos a];unfold vaV vG vG;by_cases h:vP E o=0
 ·cases hf:sP E o t <;> simp [h,hf]
 ·simp [h]
theorem uHd {E:Env} {L:List OpV} (h:vG E L=0) (c:Int):(L.all fun o=>UZ E o c)=L.all fun o=>decide (kdV E o=c):=by
 rw [D8,Cb,Cb];exact ⟨fun q o a=>by rw [<-EM (oZ.1 h o a)];exact q o a,fun q o a=>by rw [EM (oZ.1 h o a)];exact q o a⟩
theorem GK {P:Prop} (h:P:=by
 unfold AG opR wW wW wW wW wW wW wW wW wW;simp [h1,h2]):P:=h
theorem RD {P:Prop} (h:P:=by
 refine hrow 0 2 2 ?_ (by simp [eV,h1,h2]) (by simp [NP,h1,h2]) hb;exact GK):P:=h
theorem LG {E:Env} {r:RvV} {t:Int} (i:r.kind=2\/r.kind=3) (j:mL r=0):nN E r t=AG E r (uR E.T t).kind:=by
 have hrow:∀ (f c d:Int),AG E r (uR E.T t).kind=(if vG E r.args≠0 then vG E r.args else if (r.args.all fun o=>decide (kdV E o=c))=true/\(uR E.T t).kind=d then 0 else 22)->eV r=c->NP r=d->¬((r.kind=2/\(r.op < 0\/1 < r.op))\/(r.kind=3/\(r.op < 0\/5 < r.op)))->nN E r t=AG E r (uR E.T t).kind:=by
  intro _ c d h1 h2 b e;rw [h1];unfold nN;rw [if_neg (show ¬mL r≠0 by omega),if_neg (show ¬r.kind=1 by omega),if_neg e,if_neg (show ¬r.kind=4 by omega),h2,b];by_cases a:vG E r.args=0
  ·rw [if_neg (show ¬vG E r.args≠0 by omega),if_neg (show ¬r.kind=0 by omega),uHd a,if_neg (show ¬vG E r.args≠0 by omega)]
  ·rw [if_pos a,if_pos a]
 by_cases hb:(r.kind=2/\(r.op < 0\/1 < r.op))\/(r.kind=3/\(r.op < 0\/5 < r.op))
 ·unfold nN;rw [if_neg bB,if_neg bB,if_pos hb];unfold AG opR wW wW wW wW wW wW wW wW wW;simp only [];rcases hb with ⟨h1,h2⟩ | ⟨h1,h2⟩ <;> simp [h1] <;> omega
 ·have g:(r.kind=2/\(r.op=0\/r.op=1))\/(r.kind=3/\(r.op=0\/r.op=1\/r.op=2\/r.op=3\/r.op=4\/r.op=5)):=by omega
  rcases g with ⟨h1,h2 | h2⟩ | ⟨h1,h2 | h2 | h2 | h2 | h2 | h2⟩
  ·exact RD
  ·refine hrow 0 1 1 ?_ (by simp [eV,h1,h2]) (by simp [NP,h1,h2]) hb;exact GK
  ·exact RD
  ·exact RD
  ·exact RD
  ·refine hrow 0 2 1 ?_ (by simp [eV,h1,h2]) (by simp [NP,h1,h2]) hb;exact GK
  ·refine hrow 0 2 1 ?_ (by simp [eV,h1,h2]) (by simp [NP,h1,h2]) hb;exact GK
  ·refine hrow 0 1 1 ?_ (by simp [eV,h1,h2]) (by simp [NP,h1,h2]) hb;exact GK
theorem uFp {P:Prop} (h:P:=by
 rintro e3 w3 ⟨rfl,hb3⟩;have HW3:=uA (HW2.o.trans hb3);clear hb3;go_wp2;go_ret;exact ⟨rfl,(Turn.of_below HB.o).trans HW3.o.turn,HW3.o.ck⟩):P:=h
theorem uFg {P:Prop} (h:P:=by
 refine uJ [0,1,2,3] ?_
 repeat' (first | refine pT hHeld rfl ?_ | refine pS hHeld rfl ?_)
 refine uK ?_;refine wpAnyH_ready (rs:=[4]) fL nF ?_;refine AllReadyH.cons rfl (fun KZ hK=>?_) AllReadyH.nil;go_simp;refine (HTA.o _ HX2.o.ck).mono ?_;rintro e3 w3 ⟨he3,hb3⟩;obtain rfl:e3=.returned (.agg #[.int .i64 kx,.bool tmu,.int .i64 trg,.int .i64 tel,.slice fA fn fc]):=he3;have HW3:=uA (HX2.o.up hb3);clear hb3;refine hK.out _ _ (hcs.o _ HW3.o) (fun hHeld=>?_);clear hK KZ;try simp only [Ac]
 refine uJ [5] ?_
 repeat' (first | refine pT hHeld rfl ?_ | refine pS hHeld rfl ?_)
 refine uK ?_;refine wpAnyH_ready (rs:=[6]) fL nF ?_;refine AllReadyH.cons rfl (fun KZ hK=>?_) AllReadyH.nil;go_simp;refine (HVA.o _ HW3.o).mono ?_;rintro e4 w4 ⟨rfl,hb4⟩;have HW4:=uA (HW3.o.trans hb4);clear hb4;refine hK.out _ _ (hcs.o _ HW4.o) (fun hHeld=>?_);clear hK KZ;try simp only [Ac]
 refine uJ [7] ?_
 repeat' (first | refine pT hHeld rfl ?_ | refine pS hHeld rfl ?_)
 refine uK ?_;refine wpAnyH_done fL ?_ _;go_wp2;go_ret;exact ⟨rfl,(Turn.of_below HB.o).trans HW4.o.turn,HW4.o.ck⟩):P:=h
theorem uFh {P:Prop} (h:P:=by
 rintro e2 w2 ⟨rfl,hb2⟩;have HW2:=uA (HW1.o.up hb2);clear hb2;obtain ⟨p20,p21,r20,r21,r22,r23,r24,r25,r26⟩:=sY H0.o HW2.o;go_wp2_with fail
 refine (HVA.o w2 HW2.o).mono ?_;exact uFp):P:=h
theorem uC9 {K:CkW} {p:PlW} {x:RvW} {v:Int} {w:World} (h:Ck K w) (hp:uL w K.B p) (Y:zR w K.B x) (T:SO K.E p.v x.v=v) :
 Calls prog 200 #[K.ptr,uV p,eH x] w fun e f=>e=.returned (.int .i64 v)/\Wy K w f:=by
 obtain ⟨l,U,V,W,ps⟩:=p;obtain ⟨k,n,s,t,⟨z,A,B,C,X⟩,⟨m,E,D,R⟩⟩:=x;obtain ⟨wa,N⟩:∃ u,(wrV K.E (PlW.v ⟨l,U,V,W,ps⟩)).1=u:=⟨_,rfl⟩;obtain ⟨wb,O⟩:∃ u,(wrV K.E (PlW.v ⟨l,U,V,W,ps⟩)).2=u:=⟨_,rfl⟩;have H:wrV K.E (PlW.v ⟨l,U,V,W,ps⟩)=(wa,wb):=Fp N O;obtain ⟨sh,g⟩:∃ u,mL (RvW.v ⟨k,n,s,t,⟨z,A,B,C,X⟩,⟨m,E,D,R⟩⟩)=u:=⟨_,rfl⟩;have ae:(if wb≠0 then wb else if sh≠0 then sh else nN K.E (RvW.v ⟨k,n,s,t,⟨z,A,B,C,X⟩,⟨m,E,D,R⟩⟩) wa)=v:=by
  rw [<-T,<- N,<- O,<- g];exact (uDf _ _ _).symm
 clear T;have T:=ae;clear ae;have J:uH k:=Y.kind;have H0:=uA h;by_cases L:wb=0
 case neg=>
  have t0:(wb != 0)=true:=by simp [L]
  rw [if_pos L] at T;obtain rfl:wb=v:=T;clear h N O g L J;have HB:=uA (mO w [.int .i64 l,.slice U V W] 48 [.int .i64 k,.int .i64 n,.int .i64 s,.bool t,.int .i64 z,.slice A B C,.slice m E D] 67);have F:=uA (H0.o.up HB.o);have HP:=uA (hp.below (HB.o.mono H0.o.bs));clear hp;have Z:=uA (Y.below (HB.o.mono H0.o.bs));clear Y;have HC:=uA (xO F.o HP.o H);clear H;go_enter func200,ntmps200
  go_wp2_with fail
  refine HC.o.mono ?_;rintro e1 w1 ⟨rfl,j⟩;have HW1:=uA (Wy.new F.o j);clear j;go_wp2;go_ret;exact ⟨rfl,(Turn.of_below HB.o).trans HW1.o.turn,HW1.o.ck⟩
 have t0:(wb != 0)=false:=by simp [L]
 rw [if_neg bB] at T;by_cases ac:sh=0
 case neg=>
  have t1:(sh != 0)=true:=by simp [ac]
  rw [if_pos ac] at T;obtain rfl:sh=v:=T;clear h N O L ac J;have HB:=uA (mO w [.int .i64 l,.slice U V W] 48 [.int .i64 k,.int .i64 n,.int .i64 s,.bool t,.int .i64 z,.slice A B C,.slice m E D] 67);have F:=uA (H0.o.up HB.o);have HP:=uA (hp.below (HB.o.mono H0.o.bs));clear hp;have Z:=uA (Y.below (HB.o.mono H0.o.bs));clear Y;have HC:=uA (xO F.o HP.o H);clear H;have M:=uA g;clear g;go_enter func200,ntmps200
  go_wp2_with fail
  refine HC.o.mono ?_;rintro e1 w1 ⟨rfl,j⟩;have HW1:=uA (Wy.new F.o j);clear j;obtain ⟨a2,a3,a4,a5,a6,a7,a8,a9,aa⟩:=sY H0.o HW1.o;go_wp2_with fail
  refine (jE (x:=⟨k,n,s,t,⟨z,A,B,C,X⟩,⟨m,E,D,R⟩⟩) M.o w1 ((Z.o.below (HW1.o.low F.o)).more HW1.o.ck.bs)).mono ?_;rintro e2 w2 ⟨rfl,hb2⟩;have HW2:=uA (HW1.o.up hb2);clear hb2;obtain ⟨p20,p21,r20,r21,r22,r23,r24,r25,r26⟩:=sY H0.o HW2.o;go_wp2;go_ret;exact ⟨rfl,(Turn.of_below HB.o).trans HW2.o.turn,HW2.o.ck⟩
 subst ac;rw [if_neg nF] at T;obtain ⟨i,ty,hi,hty⟩:=uF3 h (p:=PlW.v ⟨l,U,V,W,ps⟩) (O.trans L);obtain rfl:wa=(i:Int):=N.symm.trans hi;have hk:=MY g;have a0:R.length=E:=Y.args.len;have a1:E<=maxLen:=Y.args.nm;unfold maxLen at a1;have af:k=0\/k=1\/k=2\/k=3\/k=4:=by have:=hk.1;have e:(RvW.v ⟨k,n,s,t,⟨z,A,B,C,X⟩,⟨m,E,D,R⟩⟩).kind=k:=rfl;rw [e] at this;omega
 rcases af with rfl | rfl | rfl | rfl | rfl
 case inl=>
  have HB:=uA (mO w [.int .i64 l,.slice U V W] 48 [.int .i64 (0),.int .i64 n,.int .i64 s,.bool t,.int .i64 z,.slice A B C,.slice m E D] 67);have F:=uA (H0.o.up HB.o);have HP:=uA (hp.below (HB.o.mono H0.o.bs));have Z:=uA (Y.below (HB.o.mono H0.o.bs));have HC:=uA (xO F.o HP.o H);have M:=uA g;have ag:E=1:=by have:=hk.2.1 (.inl rfl);rw [<-a0];have e:(RvW.v ⟨0,n,s,t,⟨z,A,B,C,X⟩,⟨m,E,D,R⟩⟩).args.length=R.length:=Ao _;omega
  subst ag;obtain ⟨q,hq⟩:∃ q,R=[q]:=Fh.1 a0;subst hq;clear h hp Y N O H L J hi hk a0 a1;have I:vaV K.E q.v (i:Int)=v:=by rw [<-T];exact (SK (r:=RvW.v ⟨0,n,s,t,⟨z,A,B,C,X⟩,⟨m,1,D,[q]⟩⟩) rfl rfl g).symm
  clear g T;have HVA:=uA fun (f:World) (y:Wy K (two w [.int .i64 l,.slice U V W] 48 [.int .i64 (0),.int .i64 n,.int .i64 s,.bool t,.int .i64 z,.slice A B C,.slice m 1 D] 67) f) (ho:pB f K.B q)=>QO y.ck ho hty I
  clear hty I;have ah:=uA fun (f:World) (y:Wy K (two w [.int .i64 l,.slice U V W] 48 [.int .i64 (0),.int .i64 n,.int .i64 s,.bool t,.int .i64 z,.slice A B C,.slice m 1 D] 67) f)=>(Ops.below (y.low F.o) Z.o.args).at_ (i:=0) (x:=q) rfl
  go_enter func200,ntmps200
  go_wp2_with fail
  refine HC.o.mono ?_;rintro e1 w1 ⟨rfl,j⟩;have HW1:=uA (Wy.new F.o j);clear j;obtain ⟨a2,a3,a4,a5,a6,a7,a8,a9,aa⟩:=sY H0.o HW1.o;go_wp2_with fail
  refine (jE (x:=⟨0,n,s,t,⟨z,A,B,C,X⟩,⟨m,1,D,[q]⟩⟩) M.o w1 ((Z.o.below (HW1.o.low F.o)).more HW1.o.ck.bs)).mono ?_;rintro e2 w2 ⟨rfl,hb2⟩;have HW2:=uA (HW1.o.up hb2);clear hb2;obtain ⟨p20,p21,r20,r21,r22,r23,r24,r25,r26⟩:=sY H0.o HW2.o;obtain ⟨b,o,hA,_,ad,hc⟩:=ah.o w2 HW2.o;have hA:m=some ⟨b,o,none⟩:=hA;subst hA;obtain ⟨kq,⟨lq,zA,zn,zc,zs⟩,nq⟩:=q;have c0:w2.cell? ⟨b,o,none⟩=some (.int .i64 kq):=hc 0 _ rfl;have c1:w2.cell? ⟨b,o+1,none⟩=some (.int .i64 lq):=hc 1 _ rfl;have c2:w2.cell? ⟨b,o+2,none⟩=some (.slice zA zn zc):=hc 2 _ rfl;have c3:w2.cell? ⟨b,o+3,none⟩=some (.int .i64 nq):=hc 3 _ rfl;clear hc;have HO:=uA (HVA.o w2 HW2.o ad);clear ad;go_wp2_with fail
  refine HO.o.mono ?_;exact uFp
 case inr.inl=>
  clear h N O L J hi hk a0 a1;have HB:=uA (mO w [.int .i64 l,.slice U V W] 48 [.int .i64 (1),.int .i64 n,.int .i64 s,.bool t,.int .i64 z,.slice A B C,.slice m E D] 67);have F:=uA (H0.o.up HB.o);have HP:=uA (hp.below (HB.o.mono H0.o.bs));clear hp;have Z:=uA (Y.below (HB.o.mono H0.o.bs));clear Y;have HC:=uA (xO F.o HP.o H);clear H;have M:=uA g;have I:IQ K.E (RvW.v ⟨1,n,s,t,⟨z,A,B,C,X⟩,⟨m,E,D,R⟩⟩) (i:Int)=v:=by rw [<-T];exact (SC (r:=RvW.v ⟨1,n,s,t,⟨z,A,B,C,X⟩,⟨m,E,D,R⟩⟩) rfl g).symm
  clear g T;have HVA:=uA fun (f:World) (y:Wy K (two w [.int .i64 l,.slice U V W] 48 [.int .i64 (1),.int .i64 n,.int .i64 s,.bool t,.int .i64 z,.slice A B C,.slice m E D] 67) f)=>uDg y.ck (Z.o.below (y.low F.o)) hty I
  clear hty I;go_enter func200,ntmps200
  go_wp2_with fail
  refine HC.o.mono ?_;rintro e1 w1 ⟨rfl,j⟩;have HW1:=uA (Wy.new F.o j);clear j;obtain ⟨a2,a3,a4,a5,a6,a7,a8,a9,aa⟩:=sY H0.o HW1.o;go_wp2_with fail
  refine (jE (x:=⟨1,n,s,t,⟨z,A,B,C,X⟩,⟨m,E,D,R⟩⟩) M.o w1 ((Z.o.below (HW1.o.low F.o)).more HW1.o.ck.bs)).mono ?_;exact uFh
 case inr.inr.inl=>
  have HB:=uA (mO w [.int .i64 l,.slice U V W] 48 [.int .i64 (2),.int .i64 n,.int .i64 s,.bool t,.int .i64 z,.slice A B C,.slice m E D] 67);have F:=uA (H0.o.up HB.o);have HP:=uA (hp.below (HB.o.mono H0.o.bs));have Z:=uA (Y.below (HB.o.mono H0.o.bs));have HC:=uA (xO F.o HP.o H);have M:=uA g;obtain ⟨⟨kx,tmu,trg,tel,fs⟩,fA,fn,fc⟩:=ty;clear h hp Y N O H L J hi hk a0 a1;have ab:(tys K.x.types.L)[i]?=some ⟨kx,tmu,trg,tel,fs⟩:=by
   show (K.x.types.L.map TyW.t)[i]?=_;rw [Ar,hty];rfl
  have I:AG K.E (RvW.v ⟨2,n,s,t,⟨z,A,B,C,X⟩,⟨m,E,D,R⟩⟩) kx=v:=by
   rw [<-T,LG (r:=RvW.v ⟨2,n,s,t,⟨z,A,B,C,X⟩,⟨m,E,D,R⟩⟩) (.inl rfl) g];show _=AG K.E _ (uR (tys K.x.types.L) (i:Int)).kind;rw [mH ab]
  clear g T ab;have ai:=dP kx trg tel tmu fA fn fc;have HTA:=uA fun (f:World) (q:Ck K f)=>wZ q hty
  clear hty;have HVA:=uA fun (f:World) (y:Wy K (two w [.int .i64 l,.slice U V W] 48 [.int .i64 (2),.int .i64 n,.int .i64 s,.bool t,.int .i64 z,.slice A B C,.slice m E D] 67) f)=>QZ y.ck (Z.o.below (y.low F.o)) I
  clear I;have hcs:=uA fun (f:World) (y:Wy K (two w [.int .i64 l,.slice U V W] 48 [.int .i64 (2),.int .i64 n,.int .i64 s,.bool t,.int .i64 z,.slice A B C,.slice m E D] 67) f)=>(show f.cell? ⟨w.heap.size+1,0,none⟩=some (.int .i64 (2))/\f.cell? ⟨w.heap.size+1,1,none⟩=some (.int .i64 n)/\f.cell? ⟨w.heap.size+1,2,none⟩=some (.int .i64 s)/\f.cell? ⟨w.heap.size+1,3,none⟩=some (.bool t)/\f.cell? ⟨w.heap.size+1,4,none⟩=some (.int .i64 z)/\f.cell? ⟨w.heap.size+1,5,none⟩=some (.slice A B C)/\f.cell? ⟨w.heap.size+1,6,none⟩=some (.slice m E D) from by
   obtain ⟨_,G⟩:=Wy.box2w H0.o y;exact ⟨G 0 _ rfl,G 1 _ rfl,G 2 _ rfl,G 3 _ rfl,G 4 _ rfl,G 5 _ rfl,G 6 _ rfl⟩)
  go_enter func200,ntmps200
  go_wp2_with fail
  refine HC.o.mono ?_;rintro e1 w1 ⟨rfl,j⟩;have HW1:=uA (Wy.new F.o j);clear j;obtain ⟨a2,a3,a4,a5,a6,a7,a8,a9,aa⟩:=sY H0.o HW1.o;go_wp2_with fail
  refine (jE (x:=⟨2,n,s,t,⟨z,A,B,C,X⟩,⟨m,E,D,R⟩⟩) M.o w1 ((Z.o.below (HW1.o.low F.o)).more HW1.o.ck.bs)).mono ?_;rintro e2 w2 ⟨rfl,hb2⟩;have HW2:=uA (HW1.o.up hb2);clear hb2;obtain ⟨p20,p21,r20,r21,r22,r23,r24,r25,r26⟩:=sY H0.o HW2.o;go_wp2;have HX2:=uA (HW2.o.drew);refine wp_region_held_drew (S:=(fun f=>f.cell? ⟨w.heap.size+1,0,none⟩=some (.int .i64 (2))/\f.cell? ⟨w.heap.size+1,1,none⟩=some (.int .i64 n)/\f.cell? ⟨w.heap.size+1,2,none⟩=some (.int .i64 s)/\f.cell? ⟨w.heap.size+1,3,none⟩=some (.bool t)/\f.cell? ⟨w.heap.size+1,4,none⟩=some (.int .i64 z)/\f.cell? ⟨w.heap.size+1,5,none⟩=some (.slice A B C)/\f.cell? ⟨w.heap.size+1,6,none⟩=some (.slice m E D))) fL (hcs.o _ HX2.o) (fun hHeld=>?_);exact uFg
 case inr.inr.inr.inl=>
  have HB:=uA (mO w [.int .i64 l,.slice U V W] 48 [.int .i64 (3),.int .i64 n,.int .i64 s,.bool t,.int .i64 z,.slice A B C,.slice m E D] 67);have F:=uA (H0.o.up HB.o);have HP:=uA (hp.below (HB.o.mono H0.o.bs));have Z:=uA (Y.below (HB.o.mono H0.o.bs));have HC:=uA (xO F.o HP.o H);have M:=uA g;obtain ⟨⟨kx,tmu,trg,tel,fs⟩,fA,fn,fc⟩:=ty;clear h hp Y N O H L J hi hk a0 a1;have ab:(tys K.x.types.L)[i]?=some ⟨kx,tmu,trg,tel,fs⟩:=by
   show (K.x.types.L.map TyW.t)[i]?=_;rw [Ar,hty];rfl
  have I:AG K.E (RvW.v ⟨3,n,s,t,⟨z,A,B,C,X⟩,⟨m,E,D,R⟩⟩) kx=v:=by
   rw [<-T,LG (r:=RvW.v ⟨3,n,s,t,⟨z,A,B,C,X⟩,⟨m,E,D,R⟩⟩) (.inr rfl) g];show _=AG K.E _ (uR (tys K.x.types.L) (i:Int)).kind;rw [mH ab]
  clear g T ab;have ai:=dP kx trg tel tmu fA fn fc;have HTA:=uA fun (f:World) (q:Ck K f)=>wZ q hty
  clear hty;have HVA:=uA fun (f:World) (y:Wy K (two w [.int .i64 l,.slice U V W] 48 [.int .i64 (3),.int .i64 n,.int .i64 s,.bool t,.int .i64 z,.slice A B C,.slice m E D] 67) f)=>QZ y.ck (Z.o.below (y.low F.o)) I
  clear I;have hcs:=uA fun (f:World) (y:Wy K (two w [.int .i64 l,.slice U V W] 48 [.int .i64 (3),.int .i64 n,.int .i64 s,.bool t,.int .i64 z,.slice A B C,.slice m E D] 67) f)=>(show f.cell? ⟨w.heap.size+1,0,none⟩=some (.int .i64 (3))/\f.cell? ⟨w.heap.size+1,1,none⟩=some (.int .i64 n)/\f.cell? ⟨w.heap.size+1,2,none⟩=some (.int .i64 s)/\f.cell? ⟨w.heap.size+1,3,none⟩=some (.bool t)/\f.cell? ⟨w.heap.size+1,4,none⟩=some (.int .i64 z)/\f.cell? ⟨w.heap.size+1,5,none⟩=some (.slice A B C)/\f.cell? ⟨w.heap.size+1,6,none⟩=some (.slice m E D) from by
   obtain ⟨_,G⟩:=Wy.box2w H0.o y;exact ⟨G 0 _ rfl,G 1 _ rfl,G 2 _ rfl,G 3 _ rfl,G 4 _ rfl,G 5 _ rfl,G 6 _ rfl⟩)
  go_enter func200,ntmps200
  go_wp2_with fail
  refine HC.o.mono ?_;rintro e1 w1 ⟨rfl,j⟩;have HW1:=uA (Wy.new F.o j);clear j;obtain ⟨a2,a3,a4,a5,a6,a7,a8,a9,aa⟩:=sY H0.o HW1.o;go_wp2_with fail
  refine (jE (x:=⟨3,n,s,t,⟨z,A,B,C,X⟩,⟨m,E,D,R⟩⟩) M.o w1 ((Z.o.below (HW1.o.low F.o)).more HW1.o.ck.bs)).mono ?_;rintro e2 w2 ⟨rfl,hb2⟩;have HW2:=uA (HW1.o.up hb2);clear hb2;obtain ⟨p20,p21,r20,r21,r22,r23,r24,r25,r26⟩:=sY H0.o HW2.o;go_wp2;have HX2:=uA (HW2.o.drew);refine wp_region_held_drew (S:=(fun f=>f.cell? ⟨w.heap.size+1,0,none⟩=some (.int .i64 (3))/\f.cell? ⟨w.heap.size+1,1,none⟩=some (.int .i64 n)/\f.cell? ⟨w.heap.size+1,2,none⟩=some (.int .i64 s)/\f.cell? ⟨w.heap.size+1,3,none⟩=some (.bool t)/\f.cell? ⟨w.heap.size+1,4,none⟩=some (.int .i64 z)/\f.cell? ⟨w.heap.size+1,5,none⟩=some (.slice A B C)/\f.cell? ⟨w.heap.size+1,6,none⟩=some (.slice m E D))) fL (hcs.o _ HX2.o) (fun hHeld=>?_);exact uFg
 case inr.inr.inr.inr=>
  clear h N O L J hi hk a0 a1;have HB:=uA (mO w [.int .i64 l,.slice U V W] 48 [.int .i64 (4),.int .i64 n,.int .i64 s,.bool t,.int .i64 z,.slice A B C,.slice m E D] 67);have F:=uA (H0.o.up HB.o);have HP:=uA (hp.below (HB.o.mono H0.o.bs));clear hp;have Z:=uA (Y.below (HB.o.mono H0.o.bs));clear Y;have HC:=uA (xO F.o HP.o H);clear H;have M:=uA g;have I:tuV K.E (RvW.v ⟨4,n,s,t,⟨z,A,B,C,X⟩,⟨m,E,D,R⟩⟩) (i:Int)=v:=by rw [<-T];exact (UW (r:=RvW.v ⟨4,n,s,t,⟨z,A,B,C,X⟩,⟨m,E,D,R⟩⟩) rfl g).symm
  clear g T;have HVA:=uA fun (f:World) (y:Wy K (two w [.int .i64 l,.slice U V W] 48 [.int .i64 (4),.int .i64 n,.int .i64 s,.bool t,.int .i64 z,.slice A B C,.slice m E D] 67) f)=>uDv y.ck (Z.o.below (y.low F.o)) hty I
  clear hty I;go_enter func200,ntmps200
  go_wp2_with fail
  refine HC.o.mono ?_;rintro e1 w1 ⟨rfl,j⟩;have HW1:=uA (Wy.new F.o j);clear j;obtain ⟨a2,a3,a4,a5,a6,a7,a8,a9,aa⟩:=sY H0.o HW1.o;go_wp2_with fail
  refine (jE (x:=⟨4,n,s,t,⟨z,A,B,C,X⟩,⟨m,E,D,R⟩⟩) M.o w1 ((Z.o.below (HW1.o.low F.o)).more HW1.o.ck.bs)).mono ?_;exact uFh
theorem SB {E:Env} {s:StV} (a:s.kind=0) (b:s.loc=0):yC E s=SO E s.pl s.rv:=by
 unfold yC SO;rw [if_pos a,if_neg bB]
theorem uEt {P:Prop} (h:P:=by
 clear h hx hll hE hin hq hv;go_enter func154,ntmps154
 have HW0:=uA (Wy.refl HK.o);go_wp2_with fail
 refine (oQ (x:=⟨l,pA,pn,pc,ps⟩) hz _ (HX.o.pl.more HK.o.bs)).mono ?_;rintro e1 w1 ⟨rfl,hb1⟩;have HW1:=uA (Wy.new HK.o hb1);clear hb1;obtain ⟨c1_0,c1_1,c1_2,c1_3,c1_4,c1_5,c1_6,c1_7,c1_8,c1_9,c1_10⟩:=EZ H0.o HW1.o;have g1_4:=HW1.o.ck.cells 4 (.slice K.x.locals.A K.x.locals.n K.x.locals.c) rfl;go_wp2_with fail
 refine (eX (x:=⟨rk,op,rg,mu,⟨rl,qA,qn,qc,qs⟩,⟨gA,gn,gc,gL⟩⟩) hr _ ((HX.o.rv.below (HW1.o.low HK.o)).more HW1.o.ck.bs)).mono ?_;rintro e2 w2 ⟨rfl,hb2⟩;have HW2:=uA (HW1.o.up hb2);clear hb2;obtain ⟨c2_0,c2_1,c2_2,c2_3,c2_4,c2_5,c2_6,c2_7,c2_8,c2_9,c2_10⟩:=EZ H0.o HW2.o;have g2_4:=HW2.o.ck.cells 4 (.slice K.x.locals.A K.x.locals.n K.x.locals.c) rfl;go_wp2;have HY:=uA (HW2.o.drew);have hcs:=uA fun (w':World) (y:Wy K (w.alloc (.cells #[.int .i64 (1),.int .i64 l,.slice pA pn pc,.int .i64 rk,.int .i64 op,.int .i64 rg,.bool mu,.int .i64 rl,.slice qA qn qc,.slice gA gn gc,.int .i64 lo] 69)) w')=>(show w'.cell? ⟨w.heap.size,0,none⟩=some (.int .i64 (1))/\w'.cell? ⟨w.heap.size,10,none⟩=some (.int .i64 lo)/\w'.cell? ⟨K.g,4,none⟩=some (.slice K.x.locals.A K.x.locals.n K.x.locals.c) from ⟨hcx.o _ y 0 _ rfl,hcx.o _ y 10 _ rfl,y.ck.cells 4 _ rfl⟩)
 refine wp_region_held_drew (S:=(fun w'=>w'.cell? ⟨w.heap.size,0,none⟩=some (.int .i64 (1))/\w'.cell? ⟨w.heap.size,10,none⟩=some (.int .i64 lo)/\w'.cell? ⟨K.g,4,none⟩=some (.slice K.x.locals.A K.x.locals.n K.x.locals.c))) fL (hcs.o _ HY.o) (fun hHeld=>?_);refine uJ [0,1,2,3,4,5,6,7,8,9,10,11] ?_
 repeat' (first | refine pT hHeld rfl ?_ | refine pS hHeld rfl ?_)
 refine uK ?_;refine wpAnyH_ready (rs:=[12]) fL nF ?_;refine AllReadyH.cons rfl (fun KZ hK=>?_) AllReadyH.nil;go_simp;refine (xE HIN.o _).mono ?_;rintro e7 w7 ⟨rfl,rfl⟩;refine hK.out _ _ (hcs.o _ HY.o) (fun hHeld=>?_);clear hK KZ;try simp only [Ac]
 refine uJ [13,14,15] ?_
 repeat' (first | refine pT hHeld rfl ?_ | refine pS hHeld rfl ?_)
 refine uK ?_;refine wpAnyH_done fL ?_ _;go_wp2;go_ret;exact ⟨rfl,(Turn.of_below HB.o).trans HY.o.turn,HY.o.ck⟩):P:=h
theorem uFq {P:Prop} (h:P:=by
 go_enter func154,ntmps154
 have HW0:=uA (Wy.refl HK.o);go_wp2_with fail
 refine (oQ (x:=⟨l,pA,pn,pc,ps⟩) hz _ (HX.o.pl.more HK.o.bs)).mono ?_;rintro e1 w1 ⟨rfl,hb1⟩;have HW1:=uA (Wy.new HK.o hb1);clear hb1;obtain ⟨c1_0,c1_1,c1_2,c1_3,c1_4,c1_5,c1_6,c1_7,c1_8,c1_9,c1_10⟩:=EZ H0.o HW1.o;have g1_4:=HW1.o.ck.cells 4 (.slice K.x.locals.A K.x.locals.n K.x.locals.c) rfl;go_wp2_with fail
 refine (eX (x:=⟨rk,op,rg,mu,⟨rl,qA,qn,qc,qs⟩,⟨gA,gn,gc,gL⟩⟩) hr _ ((HX.o.rv.below (HW1.o.low HK.o)).more HW1.o.ck.bs)).mono ?_;rintro e2 w2 ⟨rfl,hb2⟩;have HW2:=uA (HW1.o.up hb2);clear hb2;obtain ⟨c2_0,c2_1,c2_2,c2_3,c2_4,c2_5,c2_6,c2_7,c2_8,c2_9,c2_10⟩:=EZ H0.o HW2.o;have g2_4:=HW2.o.ck.cells 4 (.slice K.x.locals.A K.x.locals.n K.x.locals.c) rfl;go_wp2;go_ret;exact ⟨rfl,(Turn.of_below HB.o).trans HW2.o.turn,HW2.o.ck⟩):P:=h
theorem uEp {P:Prop} (h:P:=by
 go_enter func154,ntmps154
 have HW0:=uA (Wy.refl HK.o);go_wp2_with fail
 refine (oQ (x:=⟨l,pA,pn,pc,ps⟩) hz _ (HX.o.pl.more HK.o.bs)).mono ?_;rintro e1 w1 ⟨rfl,hb1⟩;have HW1:=uA (Wy.new HK.o hb1);clear hb1;obtain ⟨c1_0,c1_1,c1_2,c1_3,c1_4,c1_5,c1_6,c1_7,c1_8,c1_9,c1_10⟩:=EZ H0.o HW1.o;have g1_4:=HW1.o.ck.cells 4 (.slice K.x.locals.A K.x.locals.n K.x.locals.c) rfl;go_wp2;go_ret;exact ⟨rfl,(Turn.of_below HB.o).trans HW1.o.turn,HW1.o.ck⟩):P:=h
theorem WH {P:Prop} (h:P:=by
 go_enter func154,ntmps154
 have HW0:=uA (Wy.refl HK.o);go_wp2;go_ret;exact ⟨rfl,(Turn.of_below HB.o).trans HW0.o.turn,HW0.o.ck⟩):P:=h
theorem uGy {K:CkW} {x:StW} {v:Int} {w:World} (h:Ck K w) (hx:aN w K.B x) (hv:yC K.E x.v=v) :
 Calls prog 154 #[K.ptr,KV x] w fun e w'=>e=.returned (.int .i64 v)/\Wy K w w':=by
 obtain ⟨k,⟨l,pA,pn,pc,ps⟩,⟨rk,op,rg,mu,⟨rl,qA,qn,qc,qs⟩,⟨gA,gn,gc,gL⟩⟩,lo⟩:=x;have H0:=uA h;have hll:K.x.locals.L.length=K.x.locals.n:=h.one.locals.len;have f:K.x.locals.n<=maxLen:=h.one.locals.nm;unfold maxLen at f;have hE:K.E.lc.length=K.x.locals.n:=by rw [<-hll];exact Ao _
 by_cases F:k=0
 case pos=>
  subst F;by_cases b:lo=0
  case neg=>
   have H:(lo != 0)=true:=(by simp [b]);obtain rfl:v=2:=by
    rw [<-hv];simp [yC,StW.v,b]
   clear h hll f hE b hv;have HB:=uA (uB w (.cells #[.int .i64 (0),.int .i64 l,.slice pA pn pc,.int .i64 rk,.int .i64 op,.int .i64 rg,.bool mu,.int .i64 rl,.slice qA qn qc,.slice gA gn gc,.int .i64 lo] 69));have HK:=uA (H0.o.up HB.o);have HX:=uA (hx.below (HB.o.mono H0.o.bs));clear hx;have hcx:=uA fun (w':World) (y:Wy K (w.alloc (.cells #[.int .i64 (0),.int .i64 l,.slice pA pn pc,.int .i64 rk,.int .i64 op,.int .i64 rg,.bool mu,.int .i64 rl,.slice qA qn qc,.slice gA gn gc,.int .i64 lo] 69)) w')=>Wy.box (cs:=[.int .i64 (0),.int .i64 l,.slice pA pn pc,.int .i64 rk,.int .i64 op,.int .i64 rg,.bool mu,.int .i64 rl,.slice qA qn qc,.slice gA gn gc,.int .i64 lo]) (T:=69) H0.o y
   exact WH
  have H:(lo != 0)=false:=by simp [b]
  clear h hll f hE;have j:SO K.E (PlW.v ⟨l,pA,pn,pc,ps⟩) (RvW.v ⟨rk,op,rg,mu,⟨rl,qA,qn,qc,qs⟩,⟨gA,gn,gc,gL⟩⟩)=v:=by rw [<-hv];exact (SB (s:=StW.v ⟨0,⟨l,pA,pn,pc,ps⟩,⟨rk,op,rg,mu,⟨rl,qA,qn,qc,qs⟩,⟨gA,gn,gc,gL⟩⟩,lo⟩) rfl b).symm
  clear hv b;have HB:=uA (uB w (.cells #[.int .i64 (0),.int .i64 l,.slice pA pn pc,.int .i64 rk,.int .i64 op,.int .i64 rg,.bool mu,.int .i64 rl,.slice qA qn qc,.slice gA gn gc,.int .i64 lo] 69));have HK:=uA (H0.o.up HB.o);have HX:=uA (hx.below (HB.o.mono H0.o.bs));clear hx;have hcx:=uA fun (w':World) (y:Wy K (w.alloc (.cells #[.int .i64 (0),.int .i64 l,.slice pA pn pc,.int .i64 rk,.int .i64 op,.int .i64 rg,.bool mu,.int .i64 rl,.slice qA qn qc,.slice gA gn gc,.int .i64 lo] 69)) w')=>Wy.box (cs:=[.int .i64 (0),.int .i64 l,.slice pA pn pc,.int .i64 rk,.int .i64 op,.int .i64 rg,.bool mu,.int .i64 rl,.slice qA qn qc,.slice gA gn gc,.int .i64 lo]) (T:=69) H0.o y
  have I:=uA fun (w':World) (y:Wy K (w.alloc (.cells #[.int .i64 (0),.int .i64 l,.slice pA pn pc,.int .i64 rk,.int .i64 op,.int .i64 rg,.bool mu,.int .i64 rl,.slice qA qn qc,.slice gA gn gc,.int .i64 lo] 69)) w')=>uC9 y.ck (HX.o.pl.below (y.low HK.o)) (HX.o.rv.below (y.low HK.o)) j
  clear j;go_enter func154,ntmps154
  have HW0:=uA (Wy.refl HK.o);go_wp2;have HY:=uA (HW0.o.drew);have hcs:=uA fun (w':World) (y:Wy K (w.alloc (.cells #[.int .i64 (0),.int .i64 l,.slice pA pn pc,.int .i64 rk,.int .i64 op,.int .i64 rg,.bool mu,.int .i64 rl,.slice qA qn qc,.slice gA gn gc,.int .i64 lo] 69)) w')=>(show w'.cell? ⟨w.heap.size,0,none⟩=some (.int .i64 (0))/\w'.cell? ⟨w.heap.size,10,none⟩=some (.int .i64 lo)/\w'.cell? ⟨K.g,4,none⟩=some (.slice K.x.locals.A K.x.locals.n K.x.locals.c) from ⟨hcx.o _ y 0 _ rfl,hcx.o _ y 10 _ rfl,y.ck.cells 4 _ rfl⟩)
  refine wp_region_held_drew (S:=(fun w'=>w'.cell? ⟨w.heap.size,0,none⟩=some (.int .i64 (0))/\w'.cell? ⟨w.heap.size,10,none⟩=some (.int .i64 lo)/\w'.cell? ⟨K.g,4,none⟩=some (.slice K.x.locals.A K.x.locals.n K.x.locals.c))) fL (hcs.o _ HY.o) (fun hHeld=>?_);refine uJ [0,1,2,3,4,5,6,7,8,9,10,11] ?_
  repeat' (first | refine pT hHeld rfl ?_ | refine pS hHeld rfl ?_)
  refine uK ?_;refine wpAnyH_ready (rs:=[12]) fL nF ?_;refine AllReadyH.cons rfl (fun KZ hK=>?_) AllReadyH.nil;go_simp;refine hK.out _ _ hHeld (fun hHeld=>?_);clear hK KZ;try simp only [Ac]
  refine uJ [13,14,15] ?_
  repeat' (first | refine pT hHeld rfl ?_ | refine pS hHeld rfl ?_)
  refine uK ?_;refine wpAnyH_done fL ?_ _;obtain ⟨m,n,o,p,q,r,t,u,z,A,g⟩:=EZ H0.o HY.o;have B:=HY.o.ck.cells 4 (.slice K.x.locals.A K.x.locals.n K.x.locals.c) rfl;go_wp2_with fail
  refine (I.o _ HY.o).mono ?_;rintro L M ⟨rfl,C⟩;have D:=uA (HY.o.trans C);clear C;go_wp2;go_ret;exact ⟨rfl,(Turn.of_below HB.o).trans D.o.turn,D.o.ck⟩
 have N:(k == 0)=false:=by simp [F]
 by_cases E:k=1
 case pos=>
  subst E;have HB:=uA (uB w (.cells #[.int .i64 (1),.int .i64 l,.slice pA pn pc,.int .i64 rk,.int .i64 op,.int .i64 rg,.bool mu,.int .i64 rl,.slice qA qn qc,.slice gA gn gc,.int .i64 lo] 69));have HK:=uA (H0.o.up HB.o);have HX:=uA (hx.below (HB.o.mono H0.o.bs));have hcx:=uA fun (w':World) (y:Wy K (w.alloc (.cells #[.int .i64 (1),.int .i64 l,.slice pA pn pc,.int .i64 rk,.int .i64 op,.int .i64 rg,.bool mu,.int .i64 rl,.slice qA qn qc,.slice gA gn gc,.int .i64 lo] 69)) w')=>Wy.box (cs:=[.int .i64 (1),.int .i64 l,.slice pA pn pc,.int .i64 rk,.int .i64 op,.int .i64 rg,.bool mu,.int .i64 rl,.slice qA qn qc,.slice gA gn gc,.int .i64 lo]) (T:=69) H0.o y
  by_cases hz:noP (PlW.v ⟨l,pA,pn,pc,ps⟩)=true
  case neg=>
   have hz:noP (PlW.v ⟨l,pA,pn,pc,ps⟩)=false:=(by simpa using hz);obtain rfl:v=2:=by
    rw [<-hv];simp [yC,StW.v,hz]
   clear h hx hll f hE hv;exact uEp
  by_cases hr:noR (RvW.v ⟨rk,op,rg,mu,⟨rl,qA,qn,qc,qs⟩,⟨gA,gn,gc,gL⟩⟩)=true
  case neg=>
   have hr:noR (RvW.v ⟨rk,op,rg,mu,⟨rl,qA,qn,qc,qs⟩,⟨gA,gn,gc,gL⟩⟩)=false:=(by simpa using hr);obtain rfl:v=2:=by
    rw [<-hv];simp [yC,StW.v,hz,hr]
   clear h hx hll f hE hv;exact uFq
  by_cases hin:0<=lo/\lo < (K.x.locals.n:Int)
  case pos=>
   have HIN:Hdd (vD lo (K.x.locals.n:Int)=true):=uW.2 hin;have hq:¬(lo < 0\/(K.E.lc.length:Int)<=lo):=by rw [hE];omega
   obtain rfl:v=0:=by
    rw [<-hv];show (if noP (PlW.v ⟨l,pA,pn,pc,ps⟩)=false\/noR (RvW.v ⟨rk,op,rg,mu,⟨rl,qA,qn,qc,qs⟩,⟨gA,gn,gc,gL⟩⟩)=false then (2:Int) else if lo < 0\/(K.E.lc.length:Int)<=lo then 3 else 0)=_;rw [if_neg (by rw [hz,hr];simp),if_neg hq]
   exact uEt
  case neg=>
   have HIN:Hdd (vD lo (K.x.locals.n:Int)=false):=wP.2 hin;have hq:lo < 0\/(K.E.lc.length:Int)<=lo:=by rw [hE];omega
   obtain rfl:v=3:=by
    rw [<-hv];show (if noP (PlW.v ⟨l,pA,pn,pc,ps⟩)=false\/noR (RvW.v ⟨rk,op,rg,mu,⟨rl,qA,qn,qc,qs⟩,⟨gA,gn,gc,gL⟩⟩)=false then (2:Int) else if lo < 0\/(K.E.lc.length:Int)<=lo then 3 else 0)=_;rw [if_neg (by rw [hz,hr];simp),if_pos hq]
   exact uEt
 have O:(k == 1)=false:=by simp [E]
 have J:(k != 1)=true:=by simp [E]
 by_cases G:k=2
 case pos=>
  subst G;have HB:=uA (uB w (.cells #[.int .i64 (2),.int .i64 l,.slice pA pn pc,.int .i64 rk,.int .i64 op,.int .i64 rg,.bool mu,.int .i64 rl,.slice qA qn qc,.slice gA gn gc,.int .i64 lo] 69));have HK:=uA (H0.o.up HB.o);have HX:=uA (hx.below (HB.o.mono H0.o.bs));have hcx:=uA fun (w':World) (y:Wy K (w.alloc (.cells #[.int .i64 (2),.int .i64 l,.slice pA pn pc,.int .i64 rk,.int .i64 op,.int .i64 rg,.bool mu,.int .i64 rl,.slice qA qn qc,.slice gA gn gc,.int .i64 lo] 69)) w')=>Wy.box (cs:=[.int .i64 (2),.int .i64 l,.slice pA pn pc,.int .i64 rk,.int .i64 op,.int .i64 rg,.bool mu,.int .i64 rl,.slice qA qn qc,.slice gA gn gc,.int .i64 lo]) (T:=69) H0.o y
  by_cases b:lo=0
  case neg=>
   have H:(lo != 0)=true:=(by simp [b]);obtain rfl:v=2:=by
    rw [<-hv];simp [yC,StW.v,b]
   clear h hx hll f hE b hv;exact WH
  have H:(lo != 0)=false:=by simp [b]
  by_cases hz:noP (PlW.v ⟨l,pA,pn,pc,ps⟩)=true
  case neg=>
   have hz:noP (PlW.v ⟨l,pA,pn,pc,ps⟩)=false:=(by simpa using hz);obtain rfl:v=2:=by
    rw [<-hv];simp [yC,StW.v,hz,b]
   clear h hx hll f hE b hv;exact uEp
  by_cases hr:noR (RvW.v ⟨rk,op,rg,mu,⟨rl,qA,qn,qc,qs⟩,⟨gA,gn,gc,gL⟩⟩)=true
  case neg=>
   have hr:noR (RvW.v ⟨rk,op,rg,mu,⟨rl,qA,qn,qc,qs⟩,⟨gA,gn,gc,gL⟩⟩)=false:=(by simpa using hr);obtain rfl:v=2:=by
    rw [<-hv];simp [yC,StW.v,hz,hr,b]
   clear h hx hll f hE b hv;exact uFq
  obtain rfl:v=0:=by
   rw [<-hv];simp [yC,StW.v,hz,hr,b]
  clear h hx hll f hE b hv;go_enter func154,ntmps154
  have HW0:=uA (Wy.refl HK.o);go_wp2_with fail
  refine (oQ (x:=⟨l,pA,pn,pc,ps⟩) hz _ (HX.o.pl.more HK.o.bs)).mono ?_;rintro e1 w1 ⟨rfl,hb1⟩;have HW1:=uA (Wy.new HK.o hb1);clear hb1;obtain ⟨c1_0,c1_1,c1_2,c1_3,c1_4,c1_5,c1_6,c1_7,c1_8,c1_9,c1_10⟩:=EZ H0.o HW1.o;have g1_4:=HW1.o.ck.cells 4 (.slice K.x.locals.A K.x.locals.n K.x.locals.c) rfl;go_wp2_with fail
  refine (eX (x:=⟨rk,op,rg,mu,⟨rl,qA,qn,qc,qs⟩,⟨gA,gn,gc,gL⟩⟩) hr _ ((HX.o.rv.below (HW1.o.low HK.o)).more HW1.o.ck.bs)).mono ?_;rintro e2 w2 ⟨rfl,hb2⟩;have HW2:=uA (HW1.o.up hb2);clear hb2;obtain ⟨c2_0,c2_1,c2_2,c2_3,c2_4,c2_5,c2_6,c2_7,c2_8,c2_9,c2_10⟩:=EZ H0.o HW2.o;have g2_4:=HW2.o.ck.cells 4 (.slice K.x.locals.A K.x.locals.n K.x.locals.c) rfl;go_wp2;have HY:=uA (HW2.o.drew);have hcs:=uA fun (w':World) (y:Wy K (w.alloc (.cells #[.int .i64 (2),.int .i64 l,.slice pA pn pc,.int .i64 rk,.int .i64 op,.int .i64 rg,.bool mu,.int .i64 rl,.slice qA qn qc,.slice gA gn gc,.int .i64 lo] 69)) w')=>(show w'.cell? ⟨w.heap.size,0,none⟩=some (.int .i64 (2))/\w'.cell? ⟨w.heap.size,10,none⟩=some (.int .i64 lo)/\w'.cell? ⟨K.g,4,none⟩=some (.slice K.x.locals.A K.x.locals.n K.x.locals.c) from ⟨hcx.o _ y 0 _ rfl,hcx.o _ y 10 _ rfl,y.ck.cells 4 _ rfl⟩)
  refine wp_region_held_drew (S:=(fun w'=>w'.cell? ⟨w.heap.size,0,none⟩=some (.int .i64 (2))/\w'.cell? ⟨w.heap.size,10,none⟩=some (.int .i64 lo)/\w'.cell? ⟨K.g,4,none⟩=some (.slice K.x.locals.A K.x.locals.n K.x.locals.c))) fL (hcs.o _ HY.o) (fun hHeld=>?_);refine uJ [0,1,2,3,4,5,6,7,8,9,10,11] ?_
  repeat' (first | refine pT hHeld rfl ?_ | refine pS hHeld rfl ?_)
  refine uK ?_;refine wpAnyH_ready (rs:=[12]) fL nF ?_;refine AllReadyH.cons rfl (fun KZ hK=>?_) AllReadyH.nil;go_simp;refine hK.out _ _ hHeld (fun hHeld=>?_);clear hK KZ;try simp only [Ac]
  refine uJ [13,14,15] ?_
  repeat' (first | refine pT hHeld rfl ?_ | refine pS hHeld rfl ?_)
  refine uK ?_;refine wpAnyH_done fL ?_ _;obtain ⟨m,n,o,p,q,r,t,u,z,A,g⟩:=EZ H0.o HY.o;have B:=HY.o.ck.cells 4 (.slice K.x.locals.A K.x.locals.n K.x.locals.c) rfl;go_wp2;go_ret;exact ⟨rfl,(Turn.of_below HB.o).trans HY.o.turn,HY.o.ck⟩
 have R:(k != 2)=true:=by simp [G]
 obtain rfl:v=14:=by
  rw [<-hv];simp [yC,StW.v,F,E,G]
 clear h hll f hE F E G hv;have HB:=uA (uB w (.cells #[.int .i64 k,.int .i64 l,.slice pA pn pc,.int .i64 rk,.int .i64 op,.int .i64 rg,.bool mu,.int .i64 rl,.slice qA qn qc,.slice gA gn gc,.int .i64 lo] 69));have HK:=uA (H0.o.up HB.o);have HX:=uA (hx.below (HB.o.mono H0.o.bs));clear hx;have hcx:=uA fun (w':World) (y:Wy K (w.alloc (.cells #[.int .i64 k,.int .i64 l,.slice pA pn pc,.int .i64 rk,.int .i64 op,.int .i64 rg,.bool mu,.int .i64 rl,.slice qA qn qc,.slice gA gn gc,.int .i64 lo] 69)) w')=>Wy.box (cs:=[.int .i64 k,.int .i64 l,.slice pA pn pc,.int .i64 rk,.int .i64 op,.int .i64 rg,.bool mu,.int .i64 rl,.slice qA qn qc,.slice gA gn gc,.int .i64 lo]) (T:=69) H0.o y
 exact WH
theorem gM:ByteArray.empty.toList=[]:=by
 unfold ByteArray.toList;unfold ByteArray.toList.loop;simp
theorem iQ {s:ByteArray} (h:s=.empty):s.toList.isEmpty=true:=by rw [h,gM];rfl
theorem zH {s:ByteArray} (h:¬s=.empty):s.toList.isEmpty=false:=by
 have a:=uBt s .empty;rw [decide_eq_false h,gM] at a;rw [List.isEmpty_eq_false_iff];intro e;rw [e] at a;cases a
def fG (t:TmV):Int:=
 if t.kind < 0\/5 < t.kind then 14
 else if t.targets.length≠zD t.kind\/(t.kind≠3/\t.name≠.empty)\/(t.kind≠3/\t.kind≠4/\noP t.pl=false)\/(t.kind=1/\t.args.length≠1)\/(t.kind≠1/\t.kind≠3/\0 < t.args.length) then 2
 else 0
theorem kJ {P:Prop} (h:P:=by
 go_quiet (fail)
 go_wp2;go_ret;exact ⟨rfl,KU HE1.o _⟩):P:=h
theorem bJ {P:Prop} (h:P:=by
 go_enter func201,ntmps201
 go_wp2_with fail
 refine (oQ (x:=⟨l,pA,pn,pc,ps⟩) hz _ HX.o.pl).mono ?_;rintro e w1 ⟨rfl,hb1⟩;have HW1:=uA hb1;clear hb1;have HE1:=uA (Aa HB.o HW1.o);obtain ⟨x0,x1,x2,x3,x4,x5⟩:=uAg HW1.o;go_wp2;exact kJ):P:=h
theorem uAa {P:Prop} (h:P:=by
 have hz:noP (PlW.v ⟨l,pA,pn,pc,ps⟩)=false:=by simpa using hz
 obtain rfl:v=2:=by
  rw [<-hv];simp [zD,he,hz]
 clear he hv;exact bJ):P:=h
theorem uFo {P:Prop} (h:P:=by
 by_cases hgn:gn=0
 ·have tgn:((gn:Int) == 0)=true:=by simp [hgn]
  obtain rfl:v=0:=by
   rw [<-hv];simp [zD,he,hz,htn,hgn]
  clear he htn hgn hv;exact bJ
 ·have tgn:((gn:Int) == 0)=false:=by rw [beq_eq_false_iff_ne];omega
  have hgnp:0 < gn:=by omega
  obtain rfl:v=2:=by
   rw [<-hv];simp [zD,he,hz,htn,hgn,hgnp]
  clear he htn hgn hgnp hv;exact bJ):P:=h
theorem uE0 {P:Prop} (h:P:=by
 have ttn:((tn:Int) == 1)=false:=by rw [beq_eq_false_iff_ne];omega
 obtain rfl:v=2:=by
  rw [<-hv];simp [zD,he,hz,htn]
 clear he htn hv;exact bJ):P:=h
theorem uEv {P:Prop} (h:P:=by
 have te:nm.toList.isEmpty=true:=iQ he;by_cases hz:noP (PlW.v ⟨l,pA,pn,pc,ps⟩)=true
 ·by_cases htn:tn=0
  ·have ttn:((tn:Int) == 0)=true:=(by simp [htn]);exact uFo
  ·have ttn:((tn:Int) == 0)=false:=by rw [beq_eq_false_iff_ne];omega
   have htnp:0 < tn:=bB;obtain rfl:v=2:=by
    rw [<-hv];simp [zD,he,hz,htn,htnp]
   clear he htn htnp hv;exact bJ
 ·exact uAa):P:=h
theorem uEr {P:Prop} (h:P:=by
 clear he htn hv;go_enter func201,ntmps201
 have HE1:=HB;obtain ⟨x0,x1,x2,x3,x4,x5⟩:=rJ w (.int .i64 (3)) (.slice tA tn tc) (.slice gA gn gc) (.int .i64 l) (.slice pA pn pc) (.string nm) 63;go_wp2;exact kJ):P:=h
theorem WD {P:Prop} (h:P:=by
 by_cases htn:tn=1
 ·have ttn:((tn:Int) == 1)=true:=by simp [htn]
  exact uFo
 ·exact uE0):P:=h
theorem uE2 {P:Prop} (h:P:=by
 by_cases htn:tn=1
 ·have ttn:((tn:Int) == 1)=true:=by simp [htn]
  obtain rfl:v=0:=by
   rw [<-hv];simp [zD,he,hz,htn]
  clear he htn hv;exact bJ
 ·exact uE0):P:=h
theorem uEb (x:TmW) (w:World) (h:mY w w.heap.size x) :
 Calls prog 201 #[fZ x] w fun e f=>e=.returned (.int .i64 (fG x.v))/\Ab w f:=by
 obtain ⟨k,⟨tA,tn,tc,a⟩,⟨gA,gn,gc,b⟩,⟨l,pA,pn,pc,ps⟩,nm⟩:=x;have hgn:b.length=gn:=h.args.len;have htn:a.length=tn:=h.targets.len;obtain ⟨v,hv⟩:∃ v,fG (TmW.v ⟨k,⟨tA,tn,tc,a⟩,⟨gA,gn,gc,b⟩,⟨l,pA,pn,pc,ps⟩,nm⟩)=v:=⟨_,rfl⟩;rw [hv];unfold fG at hv;simp only [TmW.v,Ao,hgn,htn] at hv;clear hgn htn;by_cases d:0<=k/\k<=5
 ·have d:k=0\/k=1\/k=2\/k=3\/k=4\/k=5:=by omega
  rcases d with rfl | rfl | rfl | rfl | rfl | rfl
  ·-- kind 0
   have HB:=uA (uB w (.cells (cTm ⟨0,⟨tA,tn,tc,a⟩,⟨gA,gn,gc,b⟩,⟨l,pA,pn,pc,ps⟩,nm⟩).toArray 63));have HX:=uA (h.up HB.o);clear h;by_cases he:nm=.empty
   ·have te:nm.toList.isEmpty=true:=iQ he;by_cases hz:noP (PlW.v ⟨l,pA,pn,pc,ps⟩)=true
    ·exact WD
    ·exact uAa
   ·have te:nm.toList.isEmpty=false:=zH he;obtain rfl:v=2:=by
     rw [<-hv];simp [zD,he]
    clear he hv;go_enter func201,ntmps201
    have HE1:=HB;obtain ⟨x0,x1,x2,x3,x4,x5⟩:=rJ w (.int .i64 (0)) (.slice tA tn tc) (.slice gA gn gc) (.int .i64 l) (.slice pA pn pc) (.string nm) 63;go_wp2;exact kJ
  ·-- kind 1
   have HB:=uA (uB w (.cells (cTm ⟨1,⟨tA,tn,tc,a⟩,⟨gA,gn,gc,b⟩,⟨l,pA,pn,pc,ps⟩,nm⟩).toArray 63));have HX:=uA (h.up HB.o);clear h;by_cases he:nm=.empty
   ·have te:nm.toList.isEmpty=true:=iQ he;by_cases hz:noP (PlW.v ⟨l,pA,pn,pc,ps⟩)=true
    ·by_cases htn:tn=2
     ·have ttn:((tn:Int) == 2)=true:=(by simp [htn]);by_cases hgn:gn=1
      ·have tgn:((gn:Int) == 1)=true:=(by simp [hgn]);obtain rfl:v=0:=by
        rw [<-hv];simp [zD,he,hz,htn,hgn]
       clear he htn hgn hv;exact bJ
      ·have tgn:((gn:Int) == 1)=false:=by rw [beq_eq_false_iff_ne];omega
       obtain rfl:v=2:=by
        rw [<-hv];simp [zD,he,hz,htn,hgn]
       clear he htn hgn hv;exact bJ
     ·have ttn:((tn:Int) == 2)=false:=by rw [beq_eq_false_iff_ne];omega
      obtain rfl:v=2:=by
       rw [<-hv];simp [zD,he,hz,htn]
      clear he htn hv;exact bJ
    ·exact uAa
   ·have te:nm.toList.isEmpty=false:=zH he;obtain rfl:v=2:=by
     rw [<-hv];simp [zD,he]
    clear he hv;go_enter func201,ntmps201
    have HE1:=HB;obtain ⟨x0,x1,x2,x3,x4,x5⟩:=rJ w (.int .i64 (1)) (.slice tA tn tc) (.slice gA gn gc) (.int .i64 l) (.slice pA pn pc) (.string nm) 63;go_wp2;exact kJ
  ·-- kind 2
   have HB:=uA (uB w (.cells (cTm ⟨2,⟨tA,tn,tc,a⟩,⟨gA,gn,gc,b⟩,⟨l,pA,pn,pc,ps⟩,nm⟩).toArray 63));have HX:=uA (h.up HB.o);clear h;by_cases he:nm=.empty
   ·exact uEv
   ·have te:nm.toList.isEmpty=false:=zH he;obtain rfl:v=2:=by
     rw [<-hv];simp [zD,he]
    clear he hv;go_enter func201,ntmps201
    have HE1:=HB;obtain ⟨x0,x1,x2,x3,x4,x5⟩:=rJ w (.int .i64 (2)) (.slice tA tn tc) (.slice gA gn gc) (.int .i64 l) (.slice pA pn pc) (.string nm) 63;go_wp2;exact kJ
  ·-- kind 3
   have HB:=uA (uB w (.cells (cTm ⟨3,⟨tA,tn,tc,a⟩,⟨gA,gn,gc,b⟩,⟨l,pA,pn,pc,ps⟩,nm⟩).toArray 63));have HX:=uA (h.up HB.o);clear h;by_cases he:nm=.empty
   ·have te:nm.toList.isEmpty=true:=iQ he;by_cases hz:noP (PlW.v ⟨l,pA,pn,pc,ps⟩)=true
    ·exact uE2
    ·have hz:noP (PlW.v ⟨l,pA,pn,pc,ps⟩)=false:=(by simpa using hz);exact uE2
   ·have te:nm.toList.isEmpty=false:=zH he;by_cases htn:tn=1
    ·have ttn:((tn:Int) == 1)=true:=(by simp [htn]);obtain rfl:v=0:=by
      rw [<-hv];simp [zD,he,htn]
     exact uEr
    ·have ttn:((tn:Int) == 1)=false:=by rw [beq_eq_false_iff_ne];omega
     obtain rfl:v=2:=by
      rw [<-hv];simp [zD,he,htn]
     exact uEr
  ·-- kind 4
   have HB:=uA (uB w (.cells (cTm ⟨4,⟨tA,tn,tc,a⟩,⟨gA,gn,gc,b⟩,⟨l,pA,pn,pc,ps⟩,nm⟩).toArray 63));have HX:=uA (h.up HB.o);clear h;by_cases he:nm=.empty
   ·have te:nm.toList.isEmpty=true:=iQ he;by_cases hz:noP (PlW.v ⟨l,pA,pn,pc,ps⟩)=true
    ·exact WD
    ·have hz:noP (PlW.v ⟨l,pA,pn,pc,ps⟩)=false:=(by simpa using hz);exact WD
   ·have te:nm.toList.isEmpty=false:=zH he;obtain rfl:v=2:=by
     rw [<-hv];simp [zD,he]
    clear he hv;go_enter func201,ntmps201
    have HE1:=HB;obtain ⟨x0,x1,x2,x3,x4,x5⟩:=rJ w (.int .i64 (4)) (.slice tA tn tc) (.slice gA gn gc) (.int .i64 l) (.slice pA pn pc) (.string nm) 63;go_wp2;exact kJ
  ·-- kind 5
   have HB:=uA (uB w (.cells (cTm ⟨5,⟨tA,tn,tc,a⟩,⟨gA,gn,gc,b⟩,⟨l,pA,pn,pc,ps⟩,nm⟩).toArray 63));have HX:=uA (h.up HB.o);clear h;by_cases he:nm=.empty
   ·exact uEv
   ·have te:nm.toList.isEmpty=false:=zH he;obtain rfl:v=2:=by
     rw [<-hv];simp [zD,he]
    clear he hv;go_enter func201,ntmps201
    have HE1:=HB;obtain ⟨x0,x1,x2,x3,x4,x5⟩:=rJ w (.int .i64 (5)) (.slice tA tn tc) (.slice gA gn gc) (.int .i64 l) (.slice pA pn pc) (.string nm) 63;go_wp2;exact kJ
 ·have c:k < 0\/5 < k:=by omega
  rw [if_pos c] at hv;subst hv;have g:(k == 0)=false:=by rw [beq_eq_false_iff_ne];omega
  have i:(k == 1)=false:=by rw [beq_eq_false_iff_ne];omega
  have j:(k == 2)=false:=by rw [beq_eq_false_iff_ne];omega
  have m:(k == 3)=false:=by rw [beq_eq_false_iff_ne];omega
  have n:(k == 4)=false:=by rw [beq_eq_false_iff_ne];omega
  have o:(k == 5)=false:=by rw [beq_eq_false_iff_ne];omega
  clear d c;have HB:=uA (uB w (.cells (cTm ⟨k,⟨tA,tn,tc,a⟩,⟨gA,gn,gc,b⟩,⟨l,pA,pn,pc,ps⟩,nm⟩).toArray 63));have HX:=uA (h.up HB.o);clear h;by_cases he:nm=.empty
  ·have te:nm.toList.isEmpty=true:=iQ he;by_cases hz:noP (PlW.v ⟨l,pA,pn,pc,ps⟩)=true
   ·clear he;exact bJ
   ·have hz:noP (PlW.v ⟨l,pA,pn,pc,ps⟩)=false:=(by simpa using hz);clear he;exact bJ
  ·have te:nm.toList.isEmpty=false:=zH he;clear he;go_enter func201,ntmps201
   have HE1:=HB;obtain ⟨x0,x1,x2,x3,x4,x5⟩:=rJ w (.int .i64 k) (.slice tA tn tc) (.slice gA gn gc) (.int .i64 l) (.slice pA pn pc) (.string nm) 63;go_wp2;exact kJ
theorem eM {x:TmW} {v:Int} (h:fG x.v=v) (w:World) (a:mY w w.heap.size x) :
 Calls prog 201 #[fZ x] w fun e b=>e=.returned (.int .i64 v)/\Ab w b:=h ▸ uEb x w a
end Go.Proofs.YtnkjbjkoffgocaaGreatDoor
