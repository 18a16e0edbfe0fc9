import Derived.Test.YtnkjbjkoffgocaaGreatDoorQ31
set_option linter.unusedVariables false
set_option linter.unusedSimpArgs false
set_option maxRecDepth 100000
set_option maxHeartbeats 32000000
namespace Go.Proofs.YtnkjbjkoffgocaaGreatDoor
open Tryz Go.RowKit
noncomputable def rgV (b:BdV):Int:=if 65535 < b.regions.length then 15 else nO [] b.regions
noncomputable def lcV (b:BdV):Int:=if 65535 < b.locals.length then 15 else zV b.types.length [] b.locals
theorem uA9 (b:BdV):aM b=if vE b.name=false then 12 else if rgV b≠0 then rgV b else if xP b.outl b.regions.length≠0 then xP b.outl b.regions.length
 else if xY b.types b.regions.length≠0 then xY b.types b.regions.length else if lcV b≠0 then lcV b
 else if b.args < 0\/(b.locals.length:Int) < b.args then 3 else if b.blocks.length=0\/65535 < b.blocks.length then 15 else 0:=by
 unfold aM rgV lcV;cases vE b.name
 ·rfl
 ·by_cases a:65535 < b.regions.length
  ·simp [a]
  ·by_cases c:nO [] b.regions=0
   ·by_cases d:xP b.outl b.regions.length=0
    ·by_cases e:xY b.types b.regions.length=0
     ·by_cases f:65535 < b.locals.length
      ·simp [a,c,d,e,f]
      ·simp [a,c,d,e,f]
     ·simp [a,c,d,e]
    ·simp [a,c,d]
   ·simp [a,c]
theorem BG {P:Prop} (h:P:=by
 go_enter func110,ntmps110
 go_wp2_with fail
 refine (wS HID.o _ HNM.o).mono ?_;rintro e0 w0 ⟨rfl,rfl⟩;go_wp2_with fail
 refine (HRG.o _ (Below.refl _ _)).mono ?_;rintro e1 w1 ⟨rfl,hb1⟩;have HW1:=uA hb1;clear hb1;obtain ⟨c1_0,c1_1,c1_2,c1_3,c1_4,c1_5,c1_6⟩:=xB HW1.o;go_wp2_with fail
 refine (HPR.o _ HW1.o).mono ?_;rintro e2 w2 ⟨rfl,hb2⟩;have HW2:=uA (Aa HW1.o hb2);clear hb2;obtain ⟨c2_0,c2_1,c2_2,c2_3,c2_4,c2_5,c2_6⟩:=xB HW2.o;go_wp2_with fail
 refine (HTY.o _ HW2.o).mono ?_;rintro e3 w3 ⟨rfl,hb3⟩;have HW3:=uA (Aa HW2.o hb3);clear hb3;obtain ⟨c3_0,c3_1,c3_2,c3_3,c3_4,c3_5,c3_6⟩:=xB HW3.o;go_wp2_with fail
 refine (HLC.o _ HW3.o).mono ?_;rintro e4 w4 ⟨rfl,hb4⟩;have HW4:=uA (Aa HW3.o hb4);clear hb4;obtain ⟨c4_0,c4_1,c4_2,c4_3,c4_4,c4_5,c4_6⟩:=xB HW4.o;go_wp2;go_ret;exact ⟨rfl,(Aa HB.o HW4.o)⟩):P:=h
theorem uF4 {x:BdW} {v:Int} {w:World} (h:uS w w.heap.size x) (a:aM x.v=v) :
 Calls prog 110 #[vR x] w fun e y=>e=.returned (.int .i64 v)/\Ab w y:=by
 obtain ⟨j,⟨m,g,n,E⟩,⟨o,on,k,F⟩,⟨p,i,l,B⟩,⟨r,d,s,A⟩,f,⟨t,b,u,G⟩⟩:=x;have HB:=uA (uB w (.cells #[.string j,.slice m g n,.slice o on k,.slice p i l,.slice r d s,.int .i64 f,.slice t b u] 28));have V:=uA (h.up HB.o);have I:j.size<=maxLen:=h.name;have J:E.length=g:=h.regions.len;have K:A.length=d:=h.locals.len;have L:G.length=b:=h.blocks.len;have M:B.length=i:=h.types.len;have a0:g<=maxLen:=h.regions.nm;have N:on<=maxLen:=h.outl.nm;have C:i<=maxLen:=h.types.nm;have a1:d<=maxLen:=h.locals.nm;have a2:b<=maxLen:=h.blocks.nm;obtain ⟨bi,D⟩:∃ z,vE j=z:=⟨_,rfl⟩;obtain ⟨O,h1⟩:∃ z,rgV (BdW.v ⟨j,⟨m,g,n,E⟩,⟨o,on,k,F⟩,⟨p,i,l,B⟩,⟨r,d,s,A⟩,f,⟨t,b,u,G⟩⟩)=z:=⟨_,rfl⟩;obtain ⟨Q,h2⟩:∃ z,xP F ((g:Nat):Int)=z:=⟨_,rfl⟩;obtain ⟨R,h3⟩:∃ z,xY (tys B) ((g:Nat):Int)=z:=⟨_,rfl⟩;obtain ⟨H,h4⟩:∃ z,lcV (BdW.v ⟨j,⟨m,g,n,E⟩,⟨o,on,k,F⟩,⟨p,i,l,B⟩,⟨r,d,s,A⟩,f,⟨t,b,u,G⟩⟩)=z:=⟨_,rfl⟩;have S:(if bi=false then (12:Int) else if O≠0 then O else if Q≠0 then Q else if R≠0 then R else if H≠0 then H else if f < 0\/(d:Int) < f then 3 else if b=0\/65535 < b then 15 else 0)=v:=by
  have e1:(BdW.v ⟨j,⟨m,g,n,E⟩,⟨o,on,k,F⟩,⟨p,i,l,B⟩,⟨r,d,s,A⟩,f,⟨t,b,u,G⟩⟩).locals.length=d:=(Ao _).trans K;have e2:(BdW.v ⟨j,⟨m,g,n,E⟩,⟨o,on,k,F⟩,⟨p,i,l,B⟩,⟨r,d,s,A⟩,f,⟨t,b,u,G⟩⟩).blocks.length=b:=(Ao _).trans L;have e3:(BdW.v ⟨j,⟨m,g,n,E⟩,⟨o,on,k,F⟩,⟨p,i,l,B⟩,⟨r,d,s,A⟩,f,⟨t,b,u,G⟩⟩).regions.length=g:=J;rw [<-a,uA9,h1,h4,e1,e2,e3,<- h2,<- h3,<- D];rfl
 clear a;have a:=S;clear S;have HRG:=uA fun (y:World) (q:Ab (w.alloc (.cells #[.string j,.slice m g n,.slice o on k,.slice p i l,.slice r d s,.int .i64 f,.slice t b u] 28)) y)=>WJ ((V.o.up q).regions) h1
 have HPR:=uA fun (y:World) (q:Ab (w.alloc (.cells #[.string j,.slice m g n,.slice o on k,.slice p i l,.slice r d s,.int .i64 f,.slice t b u] 28)) y)=>cU (c:=k) h2 y ((V.o.up q).prs) N
 have HTY:=uA fun (y:World) (q:Ab (w.alloc (.cells #[.string j,.slice m g n,.slice o on k,.slice p i l,.slice r d s,.int .i64 f,.slice t b u] 28)) y)=>UR (c:=l) h3 y ((V.o.up q).typs) C
 have T:(if 65535 < A.length then (15:Int) else zV i [] (A.map LcW.v))=H:=by
  rw [<-h4];show _=(if 65535 < (A.map LcW.v).length then (15:Int) else zV (tys B).length [] (A.map LcW.v));rw [Ao,zE,M]
 have HLC:=uA fun (y:World) (q:Ab (w.alloc (.cells #[.string j,.slice m g n,.slice o on k,.slice p i l,.slice r d s,.int .i64 f,.slice t b u] 28)) y)=>XJ (nt:=i) ((V.o.up q).locals) C T
 have HID:=uA D;have HNM:=uA I;have HV:=uA a;unfold maxLen at a0 C a1 a2;clear h I J K L M N D h1 h2 h3 h4 T;have a:=HV.o;clear HV;cases bi
 case false=>
  obtain rfl:v=12:=a.symm;clear a;go_enter func110,ntmps110
  go_wp2_with fail
  refine (wS HID.o _ HNM.o).mono ?_;rintro e0 w0 ⟨rfl,rfl⟩;go_wp2;go_ret;exact ⟨rfl,HB.o⟩
 case true=>
  rw [if_neg nF] at a;by_cases W:O=0
  case neg=>
   have t1:(O != 0)=true:=(by simp [W]);rw [if_pos W] at a;obtain rfl:O=v:=a;clear W;go_enter func110,ntmps110
   go_wp2_with fail
   refine (wS HID.o _ HNM.o).mono ?_;rintro e0 w0 ⟨rfl,rfl⟩;go_wp2_with fail
   refine (HRG.o _ (Below.refl _ _)).mono ?_;rintro e1 w1 ⟨rfl,hb1⟩;have HW1:=uA hb1;clear hb1;obtain ⟨c1_0,c1_1,c1_2,c1_3,c1_4,c1_5,c1_6⟩:=xB HW1.o;go_wp2;go_ret;exact ⟨rfl,(Aa HB.o HW1.o)⟩
  subst W;rw [if_neg nF] at a;by_cases X:Q=0
  case neg=>
   have t2:(Q != 0)=true:=(by simp [X]);rw [if_pos X] at a;obtain rfl:Q=v:=a;clear X;go_enter func110,ntmps110
   go_wp2_with fail
   refine (wS HID.o _ HNM.o).mono ?_;rintro e0 w0 ⟨rfl,rfl⟩;go_wp2_with fail
   refine (HRG.o _ (Below.refl _ _)).mono ?_;rintro e1 w1 ⟨rfl,hb1⟩;have HW1:=uA hb1;clear hb1;obtain ⟨c1_0,c1_1,c1_2,c1_3,c1_4,c1_5,c1_6⟩:=xB HW1.o;go_wp2_with fail
   refine (HPR.o _ HW1.o).mono ?_;rintro e2 w2 ⟨rfl,hb2⟩;have HW2:=uA (Aa HW1.o hb2);clear hb2;obtain ⟨c2_0,c2_1,c2_2,c2_3,c2_4,c2_5,c2_6⟩:=xB HW2.o;go_wp2;go_ret;exact ⟨rfl,(Aa HB.o HW2.o)⟩
  subst X;rw [if_neg nF] at a;by_cases Y:R=0
  case neg=>
   have t3:(R != 0)=true:=(by simp [Y]);rw [if_pos Y] at a;obtain rfl:R=v:=a;clear Y;go_enter func110,ntmps110
   go_wp2_with fail
   refine (wS HID.o _ HNM.o).mono ?_;rintro e0 w0 ⟨rfl,rfl⟩;go_wp2_with fail
   refine (HRG.o _ (Below.refl _ _)).mono ?_;rintro e1 w1 ⟨rfl,hb1⟩;have HW1:=uA hb1;clear hb1;obtain ⟨c1_0,c1_1,c1_2,c1_3,c1_4,c1_5,c1_6⟩:=xB HW1.o;go_wp2_with fail
   refine (HPR.o _ HW1.o).mono ?_;rintro e2 w2 ⟨rfl,hb2⟩;have HW2:=uA (Aa HW1.o hb2);clear hb2;obtain ⟨c2_0,c2_1,c2_2,c2_3,c2_4,c2_5,c2_6⟩:=xB HW2.o;go_wp2_with fail
   refine (HTY.o _ HW2.o).mono ?_;rintro e3 w3 ⟨rfl,hb3⟩;have HW3:=uA (Aa HW2.o hb3);clear hb3;obtain ⟨c3_0,c3_1,c3_2,c3_3,c3_4,c3_5,c3_6⟩:=xB HW3.o;go_wp2;go_ret;exact ⟨rfl,(Aa HB.o HW3.o)⟩
  subst Y;rw [if_neg nF] at a;by_cases Z:H=0
  case neg=>
   have t4:(H != 0)=true:=(by simp [Z]);rw [if_pos Z] at a;obtain rfl:H=v:=a;clear Z;exact BG
  subst Z;rw [if_neg nF] at a;by_cases ha:f < 0
  case pos=>
   obtain rfl:v=3:=by rw [<-a,if_pos (.inl ha)]
   clear a;exact BG
  have a4:0<=f:=by omega
  by_cases hb:(d:Int) < f
  case pos=>
   obtain rfl:v=3:=by rw [<-a,if_pos (.inr hb)]
   clear a;exact BG
  have a5:f<=(d:Int):=by omega
  rw [if_neg bB] at a;by_cases U:b=0
  case pos=>
   obtain rfl:v=15:=by rw [<-a,if_pos (.inl U)]
   have tb:((b:Int) == 0)=true:=(by simp [U]);clear a U ha hb;exact BG
  have tb:((b:Int) == 0)=false:=by rw [beq_eq_false_iff_ne];omega
  by_cases hd:65535 < b
  case pos=>
   obtain rfl:v=15:=by rw [<-a,if_pos (.inr hd)]
   have a3:(65535:Int) < (b:Int):=bB;clear a U ha hb hd;exact BG
  have a3:(b:Int)<=65535:=by omega
  obtain rfl:v=0:=by rw [<-a,if_neg bB]
  clear a U ha hb hd;exact BG
abbrev lR (w:World) (x:BdW):World:=((((w.alloc (.cells (cBd x).toArray 28)).alloc (.map #[] 0)).alloc (.map #[] 0)).alloc (.map #[] 0)).alloc (.cells (cBd x++[Value.pointer none,Value.map (some (w.heap.size+1)),Value.map (some (w.heap.size+1+1)),Value.map (some (w.heap.size+1+1+1))]).toArray 248)
def uGm (x:BdW) (w:World) (e:Ending) (w':World):Prop:=∃ K:CkW,K.B=w.heap.size/\K.x=x/\e=.returned K.ptr/\Ck K w'/\Ab w w'
theorem rI {w:World} {b:Nat} {cs:Array Value} {T:TypeId} (h:w.heap[b]?=some (.cells cs T (0,0))) (j:Nat):w.frozen? ⟨b,j,none⟩=false:=by simp [World.frozen?,h]
theorem AS (w:World) (x:BdW):Ab w (lR w x):=((((uB w _).alloc nF _).alloc (by simp;omega) _).alloc (by simp;omega) _).alloc (by simp;omega) _
theorem uGp {w:World} {x:BdW} (h:VB w x) (r:x.types.n<=1000) (i:mV w):Ck ⟨w.heap.size,w.heap.size+1+1+1+1,w.heap.size+1,w.heap.size+1+1,w.heap.size+1+1+1,x⟩ (lR w x):=by
 have s:(w.alloc (.cells (cBd x).toArray 28)).heap.size=w.heap.size+1:=by simp
 have l:((w.alloc (.cells (cBd x).toArray 28)).alloc (.map #[] 0)).heap.size=w.heap.size+1+1:=by simp
 have e:(((w.alloc (.cells (cBd x).toArray 28)).alloc (.map #[] 0)).alloc (.map #[] 0)).heap.size=w.heap.size+1+1+1:=by simp
 have c:((((w.alloc (.cells (cBd x).toArray 28)).alloc (.map #[] 0)).alloc (.map #[] 0)).alloc (.map #[] 0)).heap.size=w.heap.size+1+1+1+1:=by simp
 have m:=fun f=>aF.made (w.alloc (.cells (cBd x).toArray 28)) x.types.n f
 have n:=fun f=>pY.made ((w.alloc (.cells (cBd x).toArray 28)).alloc (.map #[] 0)) x.types.n f
 have p:=fun f=>pY.made (((w.alloc (.cells (cBd x).toArray 28)).alloc (.map #[] 0)).alloc (.map #[] 0)) x.regions.n f
 have g:=heap_alloc_new ((((w.alloc (.cells (cBd x).toArray 28)).alloc (.map #[] 0)).alloc (.map #[] 0)).alloc (.map #[] 0)) (.cells (cBd x++[Value.pointer none,Value.map (some (w.heap.size+1)),Value.map (some (w.heap.size+1+1)),Value.map (some (w.heap.size+1+1+1))]).toArray 248);rw [s] at m;rw [l] at n;rw [e] at p;rw [c] at g;have b:∀ (j:Nat) (u:Value),(cBd x++[Value.pointer none,Value.map (some (w.heap.size+1)),Value.map (some (w.heap.size+1+1)),Value.map (some (w.heap.size+1+1+1))])[j]?=some u->(lR w x).cell? ⟨w.heap.size+1+1+1+1,j,none⟩=some u:=fun j u d=>(uE g j).trans (by rw [C9];exact d)
 have q:=AS w x;have a:∀ (W:World) (o:Obj) (k:Nat),k < W.heap.size->(W.alloc o).heap[k]?=W.heap[k]?:=Below.heap_alloc;refine ⟨i.lt,⟨show w.heap.size<=w.heap.size+1+1+1+1 by omega,show w.heap.size<=w.heap.size+1 by omega,show w.heap.size<=w.heap.size+1+1 by omega,show w.heap.size<=w.heap.size+1+1+1 by omega⟩,?_,h.one.below q,h.ok,r,fun j u d=>b j u ?_,b 7 _ rfl |> fun _=>b 8 _ rfl,b 9 _ rfl,b 10 _ rfl,fun j=>?_,.inl (b 7 _ rfl),?_,?_,?_,by show w.heap.size+1≠w.heap.size+1+1;omega,by show w.heap.size+1≠w.heap.size+1+1+1;omega,by show w.heap.size+1+1≠w.heap.size+1+1+1;omega,i.up q⟩
 ·show w.heap.size+1+1+1+1 < (lR w x).heap.size;unfold lR;rw [Ak,c];omega
 ·rw [Cr (Ah.1 d).1];exact d
 ·exact rI g j
 ·refine (m _).block ?_;show (lR w x).heap[w.heap.size+1]?=_;unfold lR;rw [a _ _ _ (by rw [c];omega),a _ _ _ (by rw [e];omega),a _ _ _ (by rw [l];omega)]
 ·refine (n _).block ?_;show (lR w x).heap[w.heap.size+1+1]?=_;unfold lR;rw [a _ _ _ (by rw [c];omega),a _ _ _ (by rw [e];omega)]
 ·refine (p _).block ?_;show (lR w x).heap[w.heap.size+1+1+1]?=_;unfold lR;rw [a _ _ _ (by rw [c];omega)]
theorem ZL {x:BdW} {w:World} (h:VB w x) (y:x.types.n<=1000) (z:mV w) :
 Calls prog 111 #[vR x] w (uGm x w):=by
 have A:=uA h;have B:=uA y;have C:=uA z;have D:=@run_makeMap prog;obtain ⟨a,⟨b,c,d,e⟩,⟨f,on,g,i⟩,⟨j,k,l,m⟩,⟨n,o,p,q⟩,r,⟨s,t,u,v⟩⟩:=x;go_enter func111,ntmps111
 go_wp2;go_ret;exact ⟨⟨w.heap.size,w.heap.size+1+1+1+1,w.heap.size+1,w.heap.size+1+1,w.heap.size+1+1+1,⟨a,⟨b,c,d,e⟩,⟨f,on,g,i⟩,⟨j,k,l,m⟩,⟨n,o,p,q⟩,r,⟨s,t,u,v⟩⟩⟩,rfl,rfl,rfl,uGp A.o B.o C.o,AS w ⟨a,⟨b,c,d,e⟩,⟨f,on,g,i⟩,⟨j,k,l,m⟩,⟨n,o,p,q⟩,r,⟨s,t,u,v⟩⟩⟩
theorem SS {x:BdW} {v:Int} {w:World} (h:uS w w.heap.size x) (hf:x.types.n<=1000) (ht:mV w) (hv:BP x.v=v) :
 Calls prog 71 #[vR x] w fun e J=>e=.returned (.int .i64 v)/\Ab w J:=by
 have HF:=uA hf;obtain ⟨de,R⟩:∃ z,aM x.v=z:=⟨_,rfl⟩;have hE:=uI6 x;have M:x.blocks.L.length=x.blocks.n:=h.blocks.len;have Y:x.blocks.n<=maxLen:=h.blocks.nm;unfold maxLen at Y;have N:(if de≠0 then de else pI (wE x) (x.blocks.L.map BkW.v))=v:=by
  rw [<-hv,<- R,<- hE];rfl
 have m:∀ J,Ab w J->uS J J.heap.size x:=fun J q=>h.up q
 have Z:de=0->XX x.v:=fun e=>GA (R.trans e)
 obtain ⟨n,⟨r,s,t,rL⟩,⟨u,on,y,oL⟩,⟨A,B,C,tL⟩,⟨D,F,G,lL⟩,H,⟨I,d,g,L⟩⟩:=x;clear hv hE m hf;have M:L.length=d:=M;have Y:d<=2 ^ 63 - 1:=Y;have S:=uA (uB w (.cells #[.string n,.slice r s t,.slice u on y,.slice A B C,.slice D F G,.int .i64 H,.slice I d g] 28));have HX:=uA (h.up S.o);clear h;have HT:=uA (ht.up S.o);clear ht;have HC:=uA (uF4 HX.o R);clear R;have f:=uA fun (J:World) (q:Ab (w.alloc (.cells #[.string n,.slice r s t,.slice u on y,.slice A B C,.slice D F G,.int .i64 H,.slice I d g] 28)) J)=>wR (cs:=[.string n,.slice r s t,.slice u on y,.slice A B C,.slice D F G,.int .i64 H,.slice I d g]) q
 by_cases hd:de=0
 case neg=>
  have t0:(de != 0)=true:=by simp [hd]
  rw [if_pos hd] at N;obtain rfl:de=v:=N;clear hd Z M;go_enter func71,ntmps71
  go_wp2_with fail
  refine HC.o.mono ?_;rintro e1 T ⟨rfl,O⟩;have a:=uA (Aa S.o O);clear O;go_wp2;go_ret;exact ⟨rfl,a.o⟩
 subst hd;rw [if_neg nF] at N;have am:=uA (Z rfl);clear Z;have HV:=uA N;clear N;have U:=uA M;clear M;go_enter func71,ntmps71
 go_wp2_with fail
 refine HC.o.mono ?_;rintro e1 T ⟨rfl,O⟩;have a:=uA O;clear O;have a5:=f.o T a.o 0 (.string n) rfl;have a6:=f.o T a.o 1 (.slice r s t) rfl;have a7:=f.o T a.o 2 (.slice u on y) rfl;have a8:=f.o T a.o 3 (.slice A B C) rfl;have a9:=f.o T a.o 4 (.slice D F G) rfl;have aa:=f.o T a.o 5 (.int .i64 H) rfl;have ab:=f.o T a.o 6 (.slice I d g) rfl;go_wp2_with fail
 refine (ZL ⟨HX.o.up a.o,am.o⟩ HF.o (HT.o.up a.o)).mono ?_;rintro e2 w2 ⟨K,ac,ad,rfl,ae,af⟩;clear a5 a6 a7 a8 a9 aa ab;have ag:=uA (Aa a.o af);clear af;have HK:=uA ae;clear ae;have ah:=uA ac;clear ac;have an:=uA ad;clear ad;have ao:=f.o w2 ag.o 6 (.slice I d g) rfl;have V:∀ J,Wy K w2 J->Ab (w.alloc (.cells #[.string n,.slice r s t,.slice u on y,.slice A B C,.slice D F G,.int .i64 H,.slice I d g] 28)) J:=fun J q=>ag.o.trans ((q.low HK.o).mono (by rw [ah.o];exact a.o.size))
 have P:=uA V;clear V;go_wp2;go_loopw [18] (fun i wr=>∃ j:Nat,i=.int .i64 (j:Int)/\j<=d/\Hdd (pI (wE ⟨n,⟨r,s,t,rL⟩,⟨u,on,y,oL⟩,⟨A,B,C,tL⟩,⟨D,F,G,lL⟩,H,⟨I,d,g,L⟩⟩) ((L.map BkW.v).drop j)=v)/\Hdd (Wy K w2 wr)) (fun i _=>d - (intOf i).toNat)
 case atStart=>exact ⟨0,rfl,Am _,uA HV.o,uA (Wy.refl HK.o)⟩
 case round=>
  obtain ⟨j,rfl,hj,HE,HW⟩:=hrel;by_cases aq:j < d
  ·have ap:(j:Int) < (d:Int):=bB;obtain ⟨p,hp⟩:∃ p,L[j]?=some p:=⟨_,Ad (by have:L.length=d:=U.o;omega)⟩;have ai:(L.map BkW.v)[j]?=some p.v:=by rw [Ar,hp];rfl
   have aj:SlH wr (w.alloc (.cells #[.string n,.slice r s t,.slice u on y,.slice A B C,.slice D F G,.int .i64 H,.slice I d g] 28)).heap.size 7 cBk (aP wr (w.alloc (.cells #[.string n,.slice r s t,.slice u on y,.slice A B C,.slice D F G,.int .i64 H,.slice I d g] 28)).heap.size) ⟨I,d,g,L⟩:=(HX.o.below (P.o _ HW.o)).blocks;obtain ⟨b,o,hA,_,m,W⟩:=aj.at_ hp;have hA:I=some ⟨b,o,none⟩:=hA;subst hA;obtain ⟨⟨sA,sn,sc,sL⟩,⟨k,⟨xA,xn,xc,xL⟩,⟨gA,gn,gc,gL⟩,⟨l,pA,pn,pc,ps⟩,tn⟩⟩:=p;have c0:wr.cell? ⟨b,o+j*7,none⟩=some (.slice sA sn sc):=W 0 _ rfl;have c1:wr.cell? ⟨b,o+j*7+1,none⟩=some (.int .i64 k):=W 1 _ rfl;have c2:wr.cell? ⟨b,o+j*7+2,none⟩=some (.slice xA xn xc):=W 2 _ rfl;have c3:wr.cell? ⟨b,o+j*7+3,none⟩=some (.slice gA gn gc):=W 3 _ rfl;have c4:wr.cell? ⟨b,o+j*7+4,none⟩=some (.int .i64 l):=W 4 _ rfl;have c5:wr.cell? ⟨b,o+j*7+5,none⟩=some (.slice pA pn pc):=W 5 _ rfl;have c6:wr.cell? ⟨b,o+j*7+6,none⟩=some (.string tn):=W 6 _ rfl;have a0:=(Below.refl wr.heap.size wr).alloc (Ae _) (.cells #[.slice sA sn sc,.int .i64 k,.slice xA xn xc,.slice gA gn gc,.int .i64 l,.slice pA pn pc,.string tn] 65);have a1:=uA (HW.o.up a0);have X:(w.alloc (.cells #[.string n,.slice r s t,.slice u on y,.slice A B C,.slice D F G,.int .i64 H,.slice (some ⟨b,o,none⟩) d g] 28)).heap.size<=K.B:=by rw [ah.o];exact a.o.size
   have HO:=uA ((m.more X).below (a0.mono HW.o.ck.bs));have HS:=uA (TB (E:=wE ⟨n,⟨r,s,t,rL⟩,⟨u,on,y,oL⟩,⟨A,B,C,tL⟩,⟨D,F,G,lL⟩,H,⟨some ⟨b,o,none⟩,d,g,L⟩⟩) ai);obtain ⟨c,a2⟩:∃ c,pW (wE ⟨n,⟨r,s,t,rL⟩,⟨u,on,y,oL⟩,⟨A,B,C,tL⟩,⟨D,F,G,lL⟩,H,⟨some ⟨b,o,none⟩,d,g,L⟩⟩) (BkW.v ⟨⟨sA,sn,sc,sL⟩,⟨k,⟨xA,xn,xc,xL⟩,⟨gA,gn,gc,gL⟩,⟨l,pA,pn,pc,ps⟩,tn⟩⟩)=c:=⟨_,rfl⟩;clear hp ai aj m W a0 X;have ak:=uA a2;have al:=uA (uCg a1.o.ck HO.o (show pW K.E _=c by rw [show K.E=wE K.x from rfl,an.o];exact a2));clear a2;by_cases h0:c=0
   ·subst h0;have HN:=uA (show pI (wE ⟨n,⟨r,s,t,rL⟩,⟨u,on,y,oL⟩,⟨A,B,C,tL⟩,⟨D,F,G,lL⟩,H,⟨some ⟨b,o,none⟩,d,g,L⟩⟩) ((L.map BkW.v).drop (j+1))=v by rw [<-HE.o,HS.o,if_neg (by rw [ak.o];simp)]);go_wp2_with fail
    refine al.o.mono ?_;rintro e4 w4 ⟨rfl,Q⟩;have a3:=uA (a1.o.trans Q);clear Q;go_wp2;go_roundw
    case rel=>exact ⟨j+1,by go_num,bB,uA HN.o,uA a3.o⟩
    case measure=>simp [intOf];omega
   ·have t0:(c != 0)=true:=(by simp [h0]);have a4:=uA (show v=c by rw [<-HE.o,HS.o,ak.o,if_pos h0]);clear h0;go_wp2_with fail
    refine al.o.mono ?_;rintro e4 w4 ⟨rfl,Q⟩;have a3:=uA (a1.o.trans Q);clear Q;go_wp2;go_ret;exact ⟨congrArg (fun v=>Ending.returned (.int .i64 v)) a4.o.symm,S.o.trans ((P.o _ a3.o).mono S.o.size)⟩
  ·obtain rfl:d=j:=by omega
   have a4:=uA (show v=0 by rw [<-HE.o];exact MU (by rw [Ao];have:L.length=d:=U.o;omega));go_wp2;go_ret;exact ⟨congrArg (fun v=>Ending.returned (.int .i64 v)) a4.o.symm,S.o.trans ((P.o _ HW.o).mono S.o.size)⟩
theorem UP:(prog.info? 60).map (fun i=>(i.zero,i.size,i.bytes))=some (some (.slice none 0 0),1,24):=by kernel_rfl
theorem ZP {T:List Ty} {t:Int} {n:Nat} (b:∀ q,wO T t q->0<=q/\q < (n:Int)) (q:Int):q∈tW T t↔wO T t q:=by
 classical
 have h:=QK (T:=T) (t:=t) (ys:=((List.range n).map fun (k:Nat)=>(k:Int)).filter fun q=>decide (wO T t q)) ?_ ?_
 ·rw [h,Cx,decide_eq_true_iff,Bw];refine ⟨fun h=>h.2,fun a=>⟨⟨q.toNat,B1.2 ?_,?_⟩,a⟩⟩ <;> have:=b q a <;> omega
 ·refine List.Pairwise.filter _ ?_;rw [Ec];exact Fe.imp fun h=>by omega
 ·intro q;rw [Cx,decide_eq_true_iff,Bw];refine ⟨fun h=>h.2,fun a=>⟨⟨q.toNat,B1.2 ?_,?_⟩,a⟩⟩ <;> have:=b q a <;> omega
theorem eK.mem {T c:Int->Int} (h:eK T c) {P:Int->Prop}:(∃ q,c q≠0/\P q)↔∃ q,T q≠0/\P q:=⟨fun ⟨q,a,b⟩=>⟨q,(h q).1 a,b⟩,fun ⟨q,a,b⟩=>⟨q,(h q).2 a,b⟩⟩
theorem PtRow.add {w m d:World} {base c r K g cap:Nat} {F:List (SlW Int)} {s:SlW Int} {z:Value} {xs:List Value} {p:Int} {X:Nat->Prop} {A:World} (h:wJ w base c 60 3 1 uX F) (n:F[r]?=some s) (f:Ab w m) (o:m.grownBy d s.val.ownBlock)
 (q:d.ownsRow base 3 1 (.slice (some ⟨g,0,none⟩) (s.n+1) cap) (s.n+1) (s.L.flatMap uX++uX p)) (u:s.val.ownBlock=some g\/g=m.heap.size) (B:c < base) (N:base<=w.heap.size)
 (O:w.ownsRow 0 3 1 z K xs) (L:∀ (j:Nat) t,F[j]?=some t->∀ b,t.val.ownBlock=some b->z.ownBlock≠some b) (P:Turn X A w) (Q:X c) (R:A.heap.size<=base) :
 d.cell? ⟨c,r,none⟩=some s.val/\d.frozen? ⟨c,r,none⟩=false/\(∃ C,C=F.set r ⟨some ⟨g,0,none⟩,s.n+1,cap,s.L++[p]⟩/\wJ (d.setCell ⟨c,r,none⟩ (.slice (some ⟨g,0,none⟩) (s.n+1) cap)) base c 60 3 1 uX C/\∀ (j:Nat) t,C[j]?=some t->∀ b,t.val.ownBlock=some b->z.ownBlock≠some b) /\
  (d.setCell ⟨c,r,none⟩ (.slice (some ⟨g,0,none⟩) (s.n+1) cap)).ownsRow 0 3 1 z K xs/\Turn X A (d.setCell ⟨c,r,none⟩ (.slice (some ⟨g,0,none⟩) (s.n+1) cap))/\∀ {b D:Nat} {T:Int->Int},yV w b D T->b < base->b≠c->yV (d.setCell ⟨c,r,none⟩ (.slice (some ⟨g,0,none⟩) (s.n+1) cap)) b D T:=by
 obtain ⟨S,U,V,r4⟩:=wJ.stored (s':=⟨some ⟨g,0,none⟩,s.n+1,cap,s.L++[p]⟩) h n f o (by rw [Bk];exact q) (u.elim (fun e=>.inl e.symm) fun e=>.inr (by rw [e];rfl)) B N;have v:=uC (h.own r s n) f;have i:∀ b,s.val.ownBlock=some b->base<=b:=fun b E=>(v.lt b E).1
 obtain ⟨W,Y⟩:=FH (v2:=.slice (some ⟨g,0,none⟩) (s.n+1) cap) (h.own r s n) O (fun b M=>L r s n b M) f o (u.elim (fun e=>.inl e.symm) fun e=>.inr (by rw [e];rfl));have G:Bx d c (F.map SlW.val) 60:=(o.block c (Ap h.lt f.size) (fun e=>by have:=i c e.symm;omega)).trans ((f.block c h.lt).trans h.blk);have H:=KT.of_set G r (.slice (some ⟨g,0,none⟩) (s.n+1) cap);refine ⟨S,U,⟨_,rfl,V,fun j t l b x y=>?_⟩,xV W H eW,?_,fun {b D T} I M Z=>?_⟩
 ·rw [Cp] at l;by_cases e:r=j
  ·subst e;rw [if_pos rfl,if_pos (Ah.1 n).1] at l;injection l with l;subst l;exact Y b x y
  ·rw [if_neg e] at l;exact L j t l b x y
 ·exact ((P.trans (Turn.of_below f)).grown o fun b J=>.inr (Ai R (i b J))).setCell (a:=⟨c,r,none⟩) (.inl Q) _
 ·have t1:Turn (fun k=>k≠b) m d:=(Turn.refl _ m).grown o fun k E=>.inl (fun e=>by have:=i k E;omega)
  exact (I.below f).turn (t1.setCell (a:=⟨c,r,none⟩) (.inl fun e=>Z e.symm) _) (fun e=>e rfl)
theorem TN (x:BdW) (w:World) (hx:uS w w.heap.size x) (h:GN x) (cc:∀ N,Ab w N->Calls prog 71 #[vR x] N fun e w2=>e=.returned (.int .i64 0)/\Ab N w2) :
 Calls prog 35 #[vR x] w (ME w (BX x)):=by
 have dy:=uA cc;have cd:xP x.outl.L (x.regions.n:Int)=0:=by
  have h1:=(GU h.err).1.o;have e:x.v.regions.length=x.regions.n:=hx.regions.len;rw [e] at h1;exact h1
 have b2:=uA fun (N:World) (y:Ab w N)=>JI x.outl.A x.outl.n x.outl.c x.outl.L (x.regions.n:Int) N ((hx.up y).prs) cd
 have b3:=uA fun (N:World) (y:Ab w N)=>KE x N (hx.up y) h.sm.cnt h.sm.nl h.sm.nr (uG1 hx h) (uCf hx h.sm.sz) (uFx hx h) (uHl hx h) (NV hx h) (uF0 h)
 have hM:∀ i,i < x.locals.n->∀ q,q∈FK x i↔wO (tys x.types.L) (EI (lcs x.locals.L) (i:Int)) q:=fun i _ q=>ZP (n:=x.regions.n) (fun q hq=>by have:=wO.bd (NV hx h) hq;exact ⟨this.1,this.2.1⟩) q
 have bm:=h.sm.nr;have b4:=h.sm.cnt;have bo:=uA fun (T:Int->Int) (p:Nat) (hT:∀ q,T q=oK x.v.blocks (FK x) x.locals.n p q)=>(show ∀ q,T q≠0->0<=q/\q < (x.regions.n:Int) from fun q hq=>by
  rw [hT] at hq;obtain ⟨i,hi,_,hm⟩:=gV.2.1 hq;have:=wO.bd (NV hx h) ((hM i hi q).1 hm);exact ⟨this.1,this.2.1⟩)
 have b5:=uA fun (p:Nat) (T:Int->Int) (hT:∀ q,T q=oK x.v.blocks (FK x) x.locals.n p q) (r:Int)=>uDu hT hM r
 have aj:Hdd (BX x=dZ (rgB (tys x.types.L) (lcs x.locals.L) x.outl.L x.regions.n) (jU x.v.blocks x.locals.n) x.regions.n):=rfl;clear cc cd hM h hx;obtain ⟨l,hl⟩:∃ l,x.v.blocks=l:=⟨_,rfl⟩;obtain ⟨M,ce⟩:∃ M,FK x=M:=⟨_,rfl⟩;rw [hl] at b3 bo b5 aj b4;rw [ce] at b3 bo b5;clear hl ce;obtain ⟨C,ak⟩:∃ C,uF l=C:=⟨_,rfl⟩;rw [ak] at b3 b4;obtain ⟨f,hf⟩:∃ f,rgB (tys x.types.L) (lcs x.locals.L) x.outl.L x.regions.n=f:=⟨_,rfl⟩;have dz:Hdd (∀ r,f [] r=false):=(fun r=>by rw [<-hf];exact uDq);rw [hf] at b5 aj;obtain ⟨D,b6⟩:∃ D,jU l x.locals.n=D:=⟨_,rfl⟩;have b7:=uA (show D.length=C by rw [<-b6,<- ak];unfold jU uBz;simp);have e0:Hdd (∀ p,p<=C->(D[p]?).getD []=lvI l p x.locals.n):=fun p hp=>by
  rcases Bs p C with h1 | h1
  ·rw [<-b6];unfold jU;rw [uB5 l _ (by rw [ak];exact h1)];rfl
  ·obtain rfl:p=C:=by omega
   have h2:D[p]?=none:=Bh (by rw [b7.o];exact Ae _);rw [h2,<- ak,ZW];rfl
 rw [b6] at aj;generalize BX x=RS at *;clear ak hf b6;obtain ⟨nm,⟨rA,o,rc,rL⟩,⟨oA,on,oc,oL⟩,⟨tA,tm,tc,tL⟩,⟨lA,ln,lc,lL⟩,ar,⟨bA,bn,bc,bL⟩⟩:=x;have bm:o<=10:=bm;have HB:=uA (uB w (.cells #[.string nm,.slice rA o rc,.slice oA on oc,.slice tA tm tc,.slice lA ln lc,.int .i64 ar,.slice bA bn bc] 28));have b8:=uA fun (N:World) (y:Ab (w.alloc (.cells #[.string nm,.slice rA o rc,.slice oA on oc,.slice tA tm tc,.slice lA ln lc,.int .i64 ar,.slice bA bn bc] 28)) N)=>xB y
 obtain ⟨x0,x1,x2,x3,x4,x5,x6⟩:=b8.o _ (Below.refl _ _);obtain ⟨i1,cf,cg,ch,ci⟩:=info_parts UP;obtain ⟨i0,hi,e1,e2,e3⟩:=info_parts qQ;obtain ⟨i3,e4,e5,e6,e7⟩:=info_parts lH;have cj:=@run_makeMap prog;go_enter func35,ntmps35
 go_wp2_with fail
 refine (dy.o _ HB.o).mono ?_;rintro e w1 ⟨rfl,b9⟩;have bp:=uA (Aa HB.o b9);clear x0 x1 x2 x3 x4 x5 x6;have bh:=uA b9;obtain ⟨x0,x1,x2,x3,x4,x5,x6⟩:=b8.o _ b9;clear b9;go_wp2_with fail
 refine (b2.o _ bp.o).mono ?_;rintro e w2 ⟨ro,rfl,hrel,bq⟩;have ck:=uA fun (N:World) (y:Below w2.heap.size w2 N)=>(hrel.below y).more y.size
 have a7:=uA (Aa bh.o bq);have ba:=uA (Aa bp.o bq);clear x0 x1 x2 x3 x4 x5 x6 hrel;obtain ⟨x0,x1,x2,x3,x4,x5,x6⟩:=b8.o _ a7.o;have br:=uB w2 (.cells (Array.replicate o (.slice none 0 0)) 60);have cl:Bx (w2.alloc (.cells (Array.replicate o (.slice none 0 0)) 60)) w2.heap.size (List.replicate o (.slice none 0 0)) 60:=by
  have h:=Bx.new w2 (List.replicate o (.slice none 0 0)) 60;simpa using h
 have cm:(w2.alloc (.cells (Array.replicate o (.slice none 0 0)) 60)).heap.size=w2.heap.size+1:=by simp
 have a3:=yV.new (w2.alloc (.cells (Array.replicate o (.slice none 0 0)) 60));rw [cm] at a3;have bs:=uB (w2.alloc (.cells (Array.replicate o (.slice none 0 0)) 60)) (.map #[] 0);have a8:=uA a3;have bb:=uA (cl.below bs);have al:=(Aa br bs);have bd:=uA al;obtain ⟨v0,v1,v2,v3,v4,v5,v6⟩:=b8.o _ (Aa a7.o al);have cn:w.heap.size < w2.heap.size:=by have h:=a7.o.size;rw [Ak] at h;omega
 clear bq cl a3 br bs al;go_wp2_with (at_make;refine nR _ rfl _ _ _ rfl 60 i1 _ underlying85 cf cg ch rfl o rfl rfl (by rw [ci];omega) bB ?_)
 clear x0 x1 x2 x3 x4 x5 x6 v0 v1 v2 v3 v4 v5 v6 cj cf cg ch ci;refine (b3.o _ (Aa ba.o bd.o)).mono ?_;generalize (w2.alloc (.cells (Array.replicate o (.slice none 0 0)) 60)).alloc (.map #[] 0)=w4 at *;rintro e H ⟨⟨gb,gc,b1,G,rfl,e8,ez,bt,co⟩,ag⟩;have e9:w2.heap.size < w4.heap.size:=bb.o.lt;have ea:w2.heap.size+1 < w4.heap.size:=a8.o.lt;obtain ⟨E,be⟩:∃ g,w2.heap.size=g:=⟨_,rfl⟩;have f1:=uA be;rw [be] at a8 bb e9 ea ⊢;obtain ⟨C1,cp⟩:∃ c,C+1=c:=⟨_,rfl⟩;have f0:C+1<=C1/\C1<=C+1:=by omega
 rw [cp];have f2:=ag.size;have eb:=uA fun (N:World) (y:Turn (fun k=>k=E+1\/k=E) H N)=>bt.turn y (fun k hk=>by omega) e8 bB
 have ec:=uA co;have ed:Hdd (G.length=C+1):=bt.len;have bu:=uA fun (N:World) (y:Turn (fun k=>k=E+1\/k=E) H N)=>ck.o N (bd.o.trans ((ag.mono bd.o.size).trans (y.below bB fun k hk=>by omega)))
 have ee:=uA fun (N:World) (y:Turn (fun k=>k=E+1\/k=E) H N)=>(show Ab w N from ba.o.trans ((bd.o.mono ba.o.size).trans ((ag.mono bB).trans (y.below bB fun k hk=>by omega))))
 have S:Hdd (yV H (E+1) (0*800000) (EC G 0)):=(Fc 800000).symm ▸ (a8.o.below ag);have z:=uA (wJ.of_nil (bb.o.below ag) H.heap.size 3 1 uX);have cq:=uA (Turn.refl (fun k=>k=E+1\/k=E) H);have J:Hdd (∀ r,r < o->∃ s,(List.replicate o (⟨none,0,0,[]⟩:SlW Int))[r]?=some s/\s.L=wL (onR f D r 0)):=fun r hr=>⟨⟨none,0,0,[]⟩,by simp [hr],rfl⟩;have a0:=uA (show (List.replicate o (⟨none,0,0,[]⟩:SlW Int)).length=o by simp);have cr:Hdd (∀ a:Int,a∈([]:List Int)↔∃ q,EC G 0 q≠0/\Out oL (o:Int) a q):=fun a=>Iff.intro (fun h=>by cases h) fun ⟨q,h,_⟩=>absurd rfl h;have f3:E+1 < H.heap.size:=by omega
 have b2:Hdd (∀ (j:Nat) t,(List.replicate o (⟨none,0,0,[]⟩:SlW Int))[j]?=some t->∀ b,t.val.ownBlock=some b->(Value.slice none 0 0).ownBlock≠some b):=(fun j t _ b _ h=>by cases h);have f4:w.heap.size<=E:=by rw [<-be];exact Co cn
 clear bt co ag be cp cn a8 bb cm;go_wp2_with fail
 go_loopw [8,38] (fun v i wr=>∃ (p nn:Nat) (T:Int->Int) (A8:Option Addr) (n8 c8:Nat) (Lv:List Int) (F:List (SlW Int)),i=.int .i64 (p:Int)/\v=.slice A8 n8 c8/\p<=C1/\Hdd (yV wr (E+1) nn T)/\Hdd (nn<=p*800000)/\Hdd (∀ q,T q=EC G p q)/\Hdd (wr.ownsRow 0 3 1 (.slice A8 n8 c8) n8 (Lv.flatMap uX))/\Hdd (Lv.Pairwise (· < ·))/\Hdd (∀ a,a∈Lv↔∃ q,T q≠0/\Out oL (o:Int) a q)/\Hdd (wJ wr H.heap.size E 60 3 1 uX F)/\Hdd (F.length=o)/\Hdd (∀ r,r < o->∃ s,F[r]?=some s/\s.L=wL (onR f D r p))/\Hdd (∀ (j:Nat) t,F[j]?=some t->∀ b,t.val.ownBlock=some b->(Value.slice A8 n8 c8).ownBlock≠some b)/\Hdd (Turn (fun k=>k=E+1\/k=E) H wr)) (fun _ i _=>C1 - (intOf i).toNat)
 case atStart=>exact ⟨0,_,_,none,0,0,[],_,rfl,rfl,Am _,S,Ae _,uA (fun q=>rfl),uA (Bv _ _ _ _),uA List.Pairwise.nil,cr,z,a0,J,b2,cq⟩
 case round=>
  clear S z cq J a0 cr b2;obtain ⟨p,nn,T,A8,n8,c8,Lv,F,rfl,rfl,hp,S,ct,bv,a1,bw,bx,z,a0,J,a4,HT⟩:=hrel;have W:=HT.o.size;by_cases cu:p < C1
  ·have cv:(p:Int) < (C1:Int):=bB;have f5:(0:Int)<=(p:Int):=bB;obtain ⟨s,Z⟩:∃ s,G[p]?=some s:=⟨_,Ad (by rw [ed.o];omega)⟩;have bf:=eb.o wr HT.o;obtain ⟨am,an⟩:=bf.all p s Z;have B:=bf.grid.own p s Z;have g1:=bf.grid.cell Z;have cw:s.L.length=s.n:=vH QQ eW B;have bz:xQ s.L<=800000:=Ai (XA fun g hg=>(an g hg).few) (by rw [cw];omega);have f6:=ct.o;have U:=uA fun (q:Int)=>(show nL T s.L q=EC G (p+1) q by rw [LC,bv.o,uC5,uCv Z])
   obtain ⟨sA,sn,sk,sL⟩:=s;have g1:wr.cell? ⟨gb,p,none⟩=some (.slice sA sn sk):=g1;have cx:=uA (TO S.o sA sn sk sL (uM.of_own QQ eW B) (fun g hg=>⟨uM.of_own vN eW (an g hg).row,(an g hg).by_,(an g hg).rng⟩) (show sn<=1000000000 by have h:sn<=80000:=am;omega) (show nn+xQ sL<=1000000000 by have h:xQ sL<=800000:=bz;omega));have bz:xQ sL<=800000:=bz;have U:Hdd (∀ q,nL T sL q=EC G (p+1) q):=U.o;have bi:Hdd (∀ q,EC G (p+1) q=oK l M ln p q):=fun q=>ec.o p bB q;clear Z bf am an B cw;go_wp2_with fail
   refine cx.o.mono ?_;rintro e w6 ⟨⟨d,rfl,a3,a5⟩,ao⟩;obtain ⟨Y,cy⟩:∃ Y,nL T sL=Y:=⟨_,rfl⟩;rw [cy] at a3 a5 U;have bg:=uA (HT.o.trans (ao.weak fun k hk=>.inl hk));have ap:∀ q,Y q=oK l M ln p q:=fun q=>(U.o q).trans (bi.o q)
   have ah:Hdd (∀ q,Y q≠0->0<=q/\q < (o:Int)):=bo.o Y p ap;have bj:Hdd (∀ r,(∃ q,Y q≠0/\Out oL (o:Int) r q)↔f (lvI l p ln) r=true):=fun r=>b5.o p Y ap r;have cz:E≠E+1:=bB;have a9:Hdd (wJ w6 H.heap.size E 60 3 1 uX F):=⟨(ao.block E z.o.lt cz).trans z.o.blk,fun j s Z=>yZ (z.o.own j s Z) ao (fun b hb e=>by have:=((z.o.own j s Z).lt b hb).1;omega),z.o.dis⟩;have d0:∀ b,(Value.slice A8 n8 c8).ownBlock=some b->¬b=E+1:=fun b hb e=>by
    subst e;obtain ⟨cs,hc⟩:=zQ a1.o hb;obtain ⟨_,⟨es,ef,h3,_⟩,_⟩:=S.o.own;rw [h3] at hc;cases hc
   have bk:=uA (yZ a1.o ao d0);have aa:=uA a3;have d1:nn+xQ sL<=(p+1)*800000:=bB;have d2:=uA a5;have d3:Hdd (∀ q,Y q=EC G (p+1) q):=U.o;clear a3 a5 ao cy ap d0 g1;cases d
   case' false=>
    have d4:=d2.o rfl;go_wp2_with fail
    have ab:Hdd (∀ a,a∈Lv↔∃ q,Y q≠0/\Out oL (o:Int) a q):=fun a=>(bx.o a).trans (d4.mem (P:=fun q=>Out oL (o:Int) a q)).symm;have ac:=bk;have ad:=bw;have aq:=a4;have au:=a9;have av:=aa;have c1:=bg;clear d4 bx bk bw a4 a9 aa bg;obtain ⟨A9,eg⟩:∃ A:Option Addr,A=A8:=⟨_,rfl⟩;obtain ⟨n9,d5⟩:∃ n:Nat,n=n8:=⟨_,rfl⟩;obtain ⟨c9,eh⟩:∃ c:Nat,c=c8:=⟨_,rfl⟩;obtain ⟨L9,ei⟩:∃ L:List Int,L=Lv:=⟨_,rfl⟩;subst eg d5 eh ei
   case' true=>
    obtain ⟨Dm,m1,m2,_⟩:=aa.o.own;have ej:=uA (KG (E+1) (nn+xQ sL) Dm (AK Y o) w6 m1 (fun q hq=>(m2 q hq).trans (gP ah.o).symm) (fun q hq=>by have:=ah.o q ((gP ah.o).1 hq);unfold uH;omega) bB);have ek:(qW (AK Y o)).length<=1000000:=by
     have h1:=GI (AK Y o);have h2:=XU Y o;omega
    clear m1 m2;go_wp2_with fail
    refine ej.o.mono ?_;rintro e w7 ⟨kA,kc,rfl,d6,I⟩;have el:=uA (bg.o.trans (Turn.of_below I));have em:=uA (IH ro oL (o:Int) kA (qW (AK Y o)).length kc (qW (AK Y o)) w7 (bu.o w7 el.o) (OX d6) ek);have d7:=I.size;have ai:=uA I;clear d6 I;generalize (qW (AK Y o)).length=kn at *;go_wp2_with fail
    refine em.o.mono ?_;rintro e w8 ⟨A9,n9,c9,L9,rfl,d8,d9,c2,aw,ax,da⟩;have ac:=uA (show w8.ownsRow 0 3 1 (.slice A9 n9 c9) n9 (L9.flatMap uX) by rw [qJ];exact uI c2 (Am _));have ad:=uA aw;have ab:Hdd (∀ a,a∈L9↔∃ q,Y q≠0/\Out oL (o:Int) a q):=fun a=>(ax a).trans ⟨fun ⟨b,h1,h2⟩=>⟨b,(gP ah.o).1 (cJ.1 h1),h2⟩,fun ⟨b,h1,h2⟩=>⟨b,cJ.2 ((gP ah.o).2 h1),h2⟩⟩;have ae:=ai.o.trans (da.mono d7);have aq:Hdd (∀ (j:Nat) t,F[j]?=some t->∀ b,t.val.ownBlock=some b->(Value.slice A9 n9 c9).ownBlock≠some b):=fun j t ht b h1 h2=>by
     have h3:=((a9.o.own j t ht).lt b h1).2;have h4:=(c2.lt b h2).1;omega
    have au:=uA (a9.o.below ae);have av:=uA (aa.o.below ae);have c1:=uA (bg.o.trans (Turn.of_below ae));clear d8 d9 c2 aw ax da ae;go_wp2_with fail
   all_goals
    have db:Hdd (∀ r:Nat,r < o->((r:Int)∈L9↔f ((D[p]?).getD []) (r:Int)=true)):=(fun r hr=>by rw [e0.o p bB];exact (ab.o _).trans (bj.o _));have dc:Hdd (∀ a∈L9,0<=a/\a < (o:Int)):=(fun a ha=>by obtain ⟨q,_,ho⟩:=(ab.o a).1 ha;exact ho.1);have c3:Hdd (L9.length=n9):=vH (f:=uX) vN eW ac.o;have bl:Hdd (∀ r,r < o->∃ s,F[r]?=some s/\s.L=wL (onR f D r p)++(if (r:Int)∈L9.take 0 then [(p:Int)] else [])):=fun r hr=>by
     obtain ⟨s,h1,h2⟩:=J.o r hr;exact ⟨s,h1,by rw [h2];simp⟩
    have d5:n9<=10:=by rw [<-c3.o];exact Ai (BN ad.o dc.o) bm
    clear J bj ah d2 U bi bv cx
    (try clear a4)
    go_loopw [52] (fun i wr=>∃ (j:Nat) (F:List (SlW Int)),i=.int .i64 (j:Int)/\j<=n9/\Hdd (yV wr (E+1) (nn+xQ sL) Y)/\Hdd (wr.ownsRow 0 3 1 (.slice A9 n9 c9) n9 (L9.flatMap uX))/\Hdd (wJ wr H.heap.size E 60 3 1 uX F)/\Hdd (F.length=o)/\Hdd (∀ r:Nat,r < o->∃ s,F[r]?=some s/\s.L=wL (onR f D r p)++(if (r:Int)∈L9.take j then [(p:Int)] else []))/\Hdd (∀ (j:Nat) t,F[j]?=some t->∀ b,t.val.ownBlock=some b->(Value.slice A9 n9 c9).ownBlock≠some b)/\Hdd (Turn (fun k=>k=E+1\/k=E) H wr)) (fun i _=>n9 - (intOf i).toNat)
    case atStart=>exact ⟨0,F,rfl,Am _,av,ac,au,a0,bl,aq,c1⟩
    case round=>
     clear av ac au bl aq c1 a0 z a1 S HT;obtain ⟨j,F,rfl,hj,S,a1,z,a0,J,a4,HT⟩:=hrel;have W:=HT.o.size;by_cases dd:j < n9
     ·have de:(j:Int) < (n9:Int):=bB;have f7:(0:Int)<=(j:Int):=bB;obtain ⟨a,ha⟩:∃ a,L9[j]?=some a:=⟨_,Ad (by rw [c3.o];exact dd)⟩;have en:=dc.o a (Aj ha);obtain ⟨r,rfl⟩:∃ r:Nat,a=(r:Int):=⟨a.toNat,bB⟩;have eo:r < o:=bB;obtain ⟨gk,zk,c4,_,ay⟩:=(uM.of_own vN eW a1.o).at_ ha;subst c4;have c0:wr.cell? ⟨gk,zk+j,none⟩=some (.int .i64 (r:Int)):=(by simpa using ay 0 _ rfl);have df:L9.take (j+1)=L9.take j++[(r:Int)]:=by rw [Bm,ha];rfl
      have az:(r:Int)∉L9.take j:=fun hm=>by
       obtain ⟨k,hk⟩:=B2 hm;rw [Dp] at hk
       split at hk
       ·have e:=cE ad.o hk ha;omega
       ·cases hk
      obtain ⟨s,Z,V⟩:=J.o r eo;rw [if_neg az,B5] at V;have B:=z.o.own r s Z;have am:s.n<=100:=by
       have h1:s.L.length=s.n:=vH (f:=uX) vN eW B;have h2:(wL (onR f D r p)).length=(onR f D r p).length:=by unfold wL;simp
       have h3:=QF f D r p;rw [V] at h1;omega
      have g1:=z.o.cell Z;have HS:=uA Z;have ep:=uA V;have c5:=uA df;have f8:=uA az;obtain ⟨zA,O,zc,zL⟩:=s;have am:O<=100:=am;have g1:wr.cell? ⟨E,r,none⟩=some (.slice zA O zc):=g1;have I:=uB wr (.cells #[.int .i64 (p:Int)] 3);have ai:=uA I;have q2:=uC (show wr.ownsRow H.heap.size 3 1 (.slice zA O zc) O (zL.flatMap uX) from B) I;have q3:∀ j u,([Value.int .i64 (p:Int)])[j]?=some u->(wr.alloc (.cells #[.int .i64 (p:Int)] 3)).cell? ((⟨wr.heap.size,0,none⟩:Addr).add j)=some u:=Bd (heap_alloc_new wr (.cells #[.int .i64 (p:Int)] 3));have a2:H.heap.size<=(wr.alloc (.cells #[.int .i64 (p:Int)] 3)).heap.size:=by rw [Ak];omega
      have dg:(r:Int) < (o:Int):=bB;have eq:(0:Int)<=(r:Int):=bB;clear ha ay df az Z V B I en;go_wp2_with (at_builtin;refine wpList_append_lies _ rfl _ _ 60 rfl H.heap.size 3 i0 _ 1 8 underlying60 hi e1 e2 e3 rfl eW (.slice zA O zc) O (zL.flatMap uX) rfl q2 ⟨wr.heap.size,0,none⟩ 1 1 [.int .i64 (p:Int)] rfl rfl q3 (nB (p:Int)) eW (by unfold maxLen;omega) bB a2 _ rfl ?_;intro g dh w8 K a6 af c6;obtain ⟨r1,r2,⟨F9,di,r3,r4⟩,r5,r6,r7⟩:=PtRow.add (X:=fun k=>k=E+1\/k=E) z.o HS.o ai.o a6 K af bB W a1.o a4.o HT.o (.inr rfl) (Ae _);have R3:=uA r3;have R4:=uA r4;have R5:=uA r5;have R6:=uA r6;have R7:=uA (r7 S.o bB bB);have RF:=uA di;clear r3 r4 r5 r6 r7 di K a6 af c6)
      have b0:Hdd (∀ y:Nat,y < o->∃ s,F9[y]?=some s/\s.L=wL (onR f D y p)++(if (y:Int)∈L9.take (j+1) then [(p:Int)] else [])):=fun y hy=>by
       obtain ⟨s,h1,h2⟩:=J.o y hy;have er:=(Ah.1 h1).1;rw [RF.o,Cp,c5.o];by_cases e:r=y
       ·subst e;refine ⟨_,by rw [if_pos rfl,if_pos er],?_⟩;rw [if_pos nF];show zL++[(p:Int)]=_;rw [show zL=_ from ep.o]
       ·refine ⟨s,by rw [if_neg e];exact h1,?_⟩;rw [h2];congr 1;by_cases hm:(y:Int)∈L9.take j
        ·rw [if_pos hm,if_pos (Aq.2 (.inl hm))]
        ·rw [if_neg hm,if_neg fun h=>(Aq.1 h).elim hm fun h=>by have:=An.1 h;omega]
      go_roundw
      case rel=>exact ⟨j+1,F9,by go_num,dd,R7,R5,R3,uA (by rw [RF.o,D9];exact a0.o),b0,R4,R6⟩
      case measure=>simp [intOf];omega
     ·have de:¬(j:Int) < (n9:Int):=bB;have b0:Hdd (∀ r,r < o->∃ s,F[r]?=some s/\s.L=wL (onR f D r (p+1))):=fun r hr=>by
       obtain ⟨s,h1,h2⟩:=J.o r hr;refine ⟨s,h1,?_⟩;rw [h2,YZ,Au (by rw [c3.o];omega)];unfold wL;rw [By];congr 1;by_cases hm:(r:Int)∈L9
       ·rw [if_pos hm,if_pos ((db.o r hr).1 hm)];rfl
       ·rw [if_neg hm,if_neg fun h=>hm ((db.o r hr).2 h)];rfl
      have dj:=d3;go_wp2_with fail
      go_roundw
      case rel=>exact ⟨p+1,nn+xQ sL,Y,A9,n9,c9,L9,F,by go_num,rfl,cu,S,uA d1,dj,a1,ad,ab,z,a0,b0,a4,HT⟩
      case measure=>simp [intOf];omega
  ·have cv:¬(p:Int) < (C1:Int):=bB;obtain rfl:C1=p:=by omega
   have dk:Hdd (∀ r,r < o->∃ s,F[r]?=some s/\s.L=wL (onR f D r C)):=fun r hr=>by
    obtain ⟨s,h1,h2⟩:=J.o r hr;refine ⟨s,h1,?_⟩;obtain rfl:C1=C+1:=by omega
    rw [h2,YZ,show D[C]?=none from Bh (by rw [b7.o];exact Ae _)];show wL (onR f D r C++if f [] (r:Int)=true then [C] else [])=_;rw [dz.o,if_neg eW,B5]
   have dl:=uA (ee.o wr HT.o);have dm:Hdd (wr.ownsRow H.heap.size 54 2 (.slice none 0 0) 0 ((dZ f D 0).flatMap pV)):=Bv _ _ _ _;have c7:w.heap.size<=H.heap.size:=bB;clear S a1 bw bx J a4 cu bv ct;go_wp2_with fail
   go_loopw [13,70] (fun v i wr=>∃ (r:Nat) (A:Option Addr) (m c:Nat),i=.int .i64 (r:Int)/\v=.slice A m c/\r<=o/\H.heap.size<=wr.heap.size/\Hdd (wr.ownsRow H.heap.size 54 2 (.slice A m c) m ((dZ f D r).flatMap pV))/\Hdd (wJ wr H.heap.size E 60 3 1 uX F)/\Hdd (Ab w wr)) (fun _ i _=>o - (intOf i).toNat)
   case atStart=>exact ⟨0,none,0,0,rfl,rfl,Am _,W,dm,z,dl⟩
   case round=>
    clear dm z dl W HT;obtain ⟨r,A,m,c,rfl,rfl,hr,W,HO,z,HW⟩:=hrel;by_cases dn:r < o
    ·have dg:(r:Int) < (o:Int):=bB;have eq:(0:Int)<=(r:Int):=bB;obtain ⟨s,Z,V⟩:=dk.o r dn;have g0:=z.o.cell Z;have B:=z.o.own r s Z;have et:=uA Z;obtain ⟨zA,O,zc,zL⟩:=s;have g1:wr.cell? ⟨E,r,none⟩=some (.slice zA O zc):=g0;clear g0;have V:zL=wL (onR f D r C):=V;have dp:zL.length=O:=vH (f:=uX) vN eW B;have ca:(onR f D r C).length=O:=by rw [<-dp,V];unfold wL;simp
     have f9:O<=60:=by rw [<-ca];exact Ai (QF _ _ _ _) b4
     have cb:=uA ca;have dq:=uA V;have dr:(dZ f D r).length=m:=vH uY eW HO.o;have cj:m<=600:=by
      have h1:=WR f D r;rw [dr,b7.o] at h1;exact Ai h1 (Ai (Eo (show r<=10 by omega) b4) eW)
     have U:=uA (show dZ f D (r+1)=dZ f D r++(onR f D r C).map fun (q:Nat)=>((r:Int),(q:Int)) by rw [PX,uCr,b7.o]);obtain ⟨R,hR⟩:∃ R,dZ f D r=R:=⟨_,rfl⟩;rw [hR] at HO U dr;obtain ⟨Q,hQ⟩:∃ Q,onR f D r C=Q:=⟨_,rfl⟩;rw [hQ] at cb dq U;have ds:=uA (show wr.ownsRow H.heap.size 54 2 (.slice A m c) m ((R++(Q.take 0).map fun (q:Nat)=>((r:Int),(q:Int))).flatMap pV) by rw [F8,D2,B5];exact HO.o);clear Z V B dp ca hR hQ;go_wp2_with fail
     go_loopw [13,77] (fun v i wr=>∃ (k:Nat) (A:Option Addr) (c:Nat),i=.int .i64 (k:Int)/\v=.slice A (m+k) c/\k<=O/\H.heap.size<=wr.heap.size/\Hdd (wr.ownsRow H.heap.size 54 2 (.slice A (m+k) c) (m+k) ((R++(Q.take k).map fun (q:Nat)=>((r:Int),(q:Int))).flatMap pV))/\Hdd (wJ wr H.heap.size E 60 3 1 uX F)/\Hdd (Ab w wr)) (fun _ i _=>O - (intOf i).toNat)
     case atStart=>exact ⟨0,A,c,rfl,rfl,Am _,W,ds,z,HW⟩
     case round=>
      clear HO ds z HW W g1;obtain ⟨k,A,c,rfl,rfl,hk,W,HO,z,HW⟩:=hrel;by_cases dt:k < O
      ·have du:(k:Int) < (O:Int):=bB;have fa:(0:Int)<=(k:Int):=bB;obtain ⟨q,hq⟩:∃ q,Q[k]?=some q:=⟨_,Ad (by rw [cb.o];exact dt)⟩;obtain ⟨gk,zk,c4,_,ay⟩:=(uM.of_own vN eW (show wr.ownsRow H.heap.size 3 1 (.slice zA O zc) O (zL.flatMap uX) from z.o.own r _ et.o)).at_ (show zL[k]?=some (q:Int) by rw [dq.o];exact KI hq);subst c4;have c0:wr.cell? ⟨gk,zk+k,none⟩=some (.int .i64 (q:Int)):=(by simpa using ay 0 _ rfl);have c5:=uA (show R++(Q.take (k+1)).map (fun (q:Nat)=>((r:Int),(q:Int)))=R++(Q.take k).map (fun (q:Nat)=>((r:Int),(q:Int)))++[((r:Int),(q:Int))] by rw [Bm,hq,By,C2];rfl);have I:=uB wr (.cells #[.int .i64 (r:Int),.int .i64 (q:Int)] 54);have ai:=uA I;have q2:=uC HO.o I;have q3:∀ j u,(pV ((r:Int),(q:Int)))[j]?=some u->(wr.alloc (.cells #[.int .i64 (r:Int),.int .i64 (q:Int)] 54)).cell? ((⟨wr.heap.size,0,none⟩:Addr).add j)=some u:=Bd (heap_alloc_new wr (.cells #[.int .i64 (r:Int),.int .i64 (q:Int)] 54));have a2:H.heap.size<=(wr.alloc (.cells #[.int .i64 (r:Int),.int .i64 (q:Int)] 54)).heap.size:=by rw [Ak];omega
       clear hq ay I;go_wp2_with (at_builtin;refine wpList_append_lies _ rfl _ _ 23 rfl H.heap.size 54 i3 _ 2 16 underlying23 e4 e5 e6 e7 rfl eW (.slice A (m+k) c) (m+k) _ rfl q2 ⟨wr.heap.size,0,none⟩ 1 1 (pV ((r:Int),(q:Int))) rfl rfl q3 (gO ((r:Int),(q:Int))) eW (by unfold maxLen;omega) bB a2 _ rfl ?_;intro g dh w8 K a6 af c6;have eu:=uA K;have ev:=uA ((z.o.below ai.o).kt (KT.of_grown a6 q2) eW eW);have ew:=uA ((Aa HW.o ai.o).grown a6 (Ai c7 a2) (fun b hb=>Ai c7 (q2.lt b hb).1));have dv:H.heap.size<=w8.heap.size:=Ai a2 a6.size;clear K a6 af c6)
       go_roundw
       case rel=>exact ⟨k+1,some ⟨g,0,none⟩,dh,by go_num,rfl,dt,dv,uA (by rw [c5.o,Bk];exact eu.o),ev,ew⟩
       case measure=>simp [intOf];omega
      ·have du:¬(k:Int) < (O:Int):=bB;obtain rfl:O=k:=by omega
       have ex:=uA (show wr.ownsRow H.heap.size 54 2 (.slice A (m+O) c) (m+O) ((dZ f D (r+1)).flatMap pV) from by
        have h:=HO.o
        rwa [Au (by rw [cb.o];exact Ae _),<- U.o] at h)
       go_wp2_with fail
       go_roundw
       case rel=>exact ⟨r+1,A,m+O,c,by go_num,rfl,dn,W,ex,z,HW⟩
       case measure=>simp [intOf];omega
    ·have dg:¬(r:Int) < (o:Int):=bB;obtain rfl:o=r:=by omega
     have dw:(dZ f D o).length=m:=vH uY eW HO.o;have dx:=uA dw;have ey:=uA (uI HO.o c7);clear dw;go_wp2_with fail
     go_ret2
     exact ⟨A,c,by rw [aj.o,dx.o];rfl,by rw [aj.o,dx.o];exact ey.o,HW.o⟩
theorem uIf {w:World} {x:BdW} (c:uIk w) (a:uS w w.heap.size x) (h:GN x) (w':World) (y:Ab w w'):Calls prog 35 #[vR x] w' (ME w' (BX x)):=
 TN x w' (a.up y) h fun d b=>SS ((a.up y).up b) h.sm.nt (mV.up (mV.up c y) b) h.err
end Go.Proofs.YtnkjbjkoffgocaaGreatDoor
