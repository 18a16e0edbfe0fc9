import Derived.Test.YtnkjbjkoffgocaaGreatDoorQ26
import Derived.Test.YtnkjbjkoffgocaaGreatDoorQ28
set_option linter.unusedVariables false
set_option linter.unusedSimpArgs false
set_option maxRecDepth 100000
set_option maxHeartbeats 16000000
namespace Go.Proofs.YtnkjbjkoffgocaaGreatDoor
open Tryz Go.RowKit
theorem uHo {w:World} {B:Nat} {x:StW} (h:aN w B x):∀ d,stD x.v=some d->uH d:=fun d a=>by
 unfold stD at a
 split at a
 ·injection a with a;exact a ▸ h.loc
 ·split at a
  ·injection a with a;exact a ▸ h.pl.l
  ·cases a
theorem uHi {w:World} {B:Nat} {x:TmW} (h:mY w B x):∀ d,tmD x.v=some d->uH d:=fun d a=>by
 unfold tmD at a
 split at a
 ·injection a with a;exact a ▸ h.pl.l
 ·cases a
theorem uAx:(prog.info? 60).map (fun i=>(i.zero,i.size,i.bytes))=some (some (.slice none 0 0),1,24):=by kernel_rfl
def uE5 (l:List BkV) (lo:Nat) (e:Ending) (w':World):Prop:=∃ a K,e=.returned (.pointer (some ⟨a,0,none⟩))/\QI w' l a K/\lo<=a/\(∀ q,q∈K↔vF l q (uF l)≠[])/\K.length<=1000000000
theorem IT (x:BdW) (w:World) (hx:uS w w.heap.size x) (hC:uF x.v.blocks<=1000) (dr:∀ b∈x.v.blocks,b.term.targets.length<=100000) (hU:DQ x.v.blocks) (hT:YD x.v.blocks) (hE:(xF x.v.blocks).length<=200000) :
 Calls prog 117 #[vR x] w fun e w'=>uE5 x.v.blocks w.heap.size e w'/\Ab w w':=by
 obtain ⟨r,cl⟩:∃ l,x.v.blocks=l:=⟨_,rfl⟩;have bu:=eT hx;have ds:=uA fun (w':World) (y:Ab w w')=>tE x w' (hx.up y) (Ai hC eW) dr
 have dt:=nW x.v.blocks;rw [cl] at hC bu hU hT hE ds dt ⊢;have fd:=uA cl;have HX:=uA hx;have HU:=uA hU;have HT:=uA hT;have ff:=uA hE;clear hx cl hU hT hE dr;obtain ⟨nm,⟨rA,rn,rc,rL⟩,⟨oA,on,oc,oL⟩,⟨tA,tm,tc,tL⟩,⟨lA,ln,lc,lL⟩,ar,⟨bA,m,bc,bL⟩⟩:=x;have M:Hdd (r.length=m):=bu;have h8:m<=1000:=by have h:r.length=m:=bu;omega
 obtain ⟨Wa,av⟩:∃ W,W=w.alloc (.cells #[.string nm,.slice rA rn rc,.slice oA on oc,.slice tA tm tc,.slice lA ln lc,.int .i64 ar,.slice bA m bc] 28):=⟨_,rfl⟩;obtain ⟨Wb,aw⟩:∃ W,W=Wa.alloc (.cells (Array.replicate m (.slice none 0 0)) 60):=⟨_,rfl⟩;obtain ⟨Wc,ax⟩:∃ W,W=Wb.alloc (.map #[] 0):=⟨_,rfl⟩;obtain ⟨Wd,ay⟩:∃ W,W=Wc.alloc (.cells #[.slice none 0 0,.slice (some ⟨w.heap.size+1,0,none⟩) m m,.map (some (w.heap.size+1+1))] 258):=⟨_,rfl⟩;have ba:Ab w Wa:=av ▸ uB w _;have bb:Ab Wa Wb:=aw ▸ uB Wa _;have bv:Ab Wb Wc:=ax ▸ uB Wb _;have bd:Ab Wc Wd:=ay ▸ uB Wc _;have sa:Wa.heap.size=w.heap.size+1:=by rw [av];simp
 have sb:Wb.heap.size=w.heap.size+2:=by rw [aw];simp [sa]
 have sc:Wc.heap.size=w.heap.size+3:=by rw [ax];simp [sb]
 have sd:Wd.heap.size=w.heap.size+4:=by rw [ay];simp [sc]
 have xa:Bx Wa w.heap.size [.string nm,.slice rA rn rc,.slice oA on oc,.slice tA tm tc,.slice lA ln lc,.int .i64 ar,.slice bA m bc] 28:=by rw [av];exact Bx.new w _ _
 have xb:Bx Wb (w.heap.size+1) (List.replicate m (.slice none 0 0)) 60:=by
  have h:=Bx.new Wa (List.replicate m (.slice none 0 0)) 60;rw [sa] at h;rw [aw];simpa using h
 have xc:dY Wc (w.heap.size+2) (w.heap.size+2) (fun _=>⟨none,0,0,[]⟩) []:=by
  have h:=xD.new Wb (w.heap.size+2) 272 2 nP;rw [sb] at h;rw [ax];exact h
 have xd:Bx Wd (w.heap.size+3) [.slice none 0 0,.slice (some ⟨w.heap.size+1,0,none⟩) m m,.map (some (w.heap.size+1+1))] 258:=by
  have h:=Bx.new Wc [.slice none 0 0,.slice (some ⟨w.heap.size+1,0,none⟩) m m,.map (some (w.heap.size+1+1))] 258;rw [sc] at h;rw [ay];exact h
 have fg:Hdd (oM Wd r (w.heap.size+1+1+1) (w.heap.size+1) (w.heap.size+1+1) m none 0 0 (uD r 0)):=⟨xd,Bv _ _ _ _,_,[],xc.below bd,fun q=>rfl,(fun q=>Iff.intro (fun h=>by cases h) fun h=>absurd rfl h),Am _⟩;have fh:=uA ((xb.below bv).below bd);have a8:=uA (((xa.below bb).below bv).below bd);have HB:=uA (ba.trans (((Aa bb bv).trans (bd.mono bB)).mono ba.size));have X:=uA sd;have fi:=uA fun (w':World) (y:Below (w.heap.size+1+1) Wd w')=>(show w'.cell? ⟨w.heap.size,0,none⟩=some (.string nm)/\w'.cell? ⟨w.heap.size,1,none⟩=some (.slice rA rn rc)/\w'.cell? ⟨w.heap.size,2,none⟩=some (.slice oA on oc)/\w'.cell? ⟨w.heap.size,3,none⟩=some (.slice tA tm tc)/\w'.cell? ⟨w.heap.size,4,none⟩=some (.slice lA ln lc)/\w'.cell? ⟨w.heap.size,5,none⟩=some (.int .i64 ar)/\w'.cell? ⟨w.heap.size,6,none⟩=some (.slice bA m bc) from
  have hz:=fun j=>y.cell (p:=⟨w.heap.size,j,none⟩) (show w.heap.size < w.heap.size+1+1 by omega)
  ⟨(hz 0).trans (a8.o.q 0 rfl),(hz 1).trans (a8.o.q 1 rfl),(hz 2).trans (a8.o.q 2 rfl),(hz 3).trans (a8.o.q 3 rfl),(hz 4).trans (a8.o.q 4 rfl),(hz 5).trans (a8.o.q 5 rfl),(hz 6).trans (a8.o.q 6 rfl)⟩)
 have x6:=xa.q 6 rfl;obtain ⟨i1,du,dv,dw,dx⟩:=info_parts uAx;obtain ⟨i0,hi,cm,cn,co⟩:=info_parts qQ;have fj:=@run_makeMap prog;have cp:=uA av;have dy:=uA aw;have dz:=uA ax;have e0:=uA ay;have h9:=uA (And.intro sa (And.intro sb sc));have fk:=uA (Below.refl (w.heap.size+1+1) Wd);have he:=hC;clear bu dt ba bb bv bd sa sb sc sd xa xb xc xd av aw ax ay;rw [cp.o] at x6;go_enter func117,ntmps117
 go_wp2_with (at_make;refine nR _ rfl _ _ _ rfl 60 i1 _ underlying85 du dv dw rfl m rfl rfl (by rw [dx];omega) bB ?_)
 rw [<-cp.o,<- dy.o,<- dz.o,<- e0.o];clear fj cp dy dz e0 x6 du dv dw dx;have bw:w.heap.size<=w.heap.size+1+1:=by omega
 go_loopw [4,23] (fun pt v wr=>∃ (i:Nat) (A:Option Addr) (c:Nat),v=.int .i64 (i:Int)/\pt=.int .i64 (uD r i:Int)/\i<=m/\Hdd (oM wr r (w.heap.size+1+1+1) (w.heap.size+1) (w.heap.size+1+1) m A c i (uD r i))/\Hdd (Below (w.heap.size+1+1) Wd wr)) (fun _ v _=>m - (intOf v).toNat)
 case atStart=>exact ⟨0,none,0,rfl,rfl,Am _,fg,fk⟩
 case round=>
  obtain ⟨i,A,c,rfl,rfl,hg,HN,HW⟩:=hrel;by_cases a9:i < m
  ·have az:(i:Int) < (m:Int):=bB;have hh:(0:Int)<=(i:Int):=bB;obtain ⟨pb,b,o,_,a3,fl,fn,hA,hb,bx,hc⟩:=tH HX.o a9;have hA:bA=some ⟨b,o,none⟩:=hA;subst hA;have a3:r[i]?=some pb.v:=fd.o ▸ a3;have cq:=uA a3;have e4:=uA (HU.o _ (Aj a3));have fo:=uA (HT.o _ (Aj a3));have e7:=uA fun (k:Nat)=>RY HU.o (Aj a3) k
   have fp:=uA (vW a3);have hl:=yL r (i+1);obtain ⟨⟨sA,G,sc,sL⟩,⟨bk,⟨gA,gn,gc,gL⟩,⟨aA,an,ac,aL⟩,⟨l,pA,pn,pc,ps⟩,J⟩⟩:=pb;have ak:Hdd (sL.length=G):=bx.stmts.len;have e8:=uA bx.stmts;have bz:=uA bx.term;have e9:uD r (i+1)=uD r i+(G+1):=by
    have h1:=fp.o;have h2:ptN (BkW.v ⟨⟨sA,G,sc,sL⟩,⟨bk,⟨gA,gn,gc,gL⟩,⟨aA,an,ac,aL⟩,⟨l,pA,pn,pc,ps⟩,J⟩⟩)=(sL.map StW.v).length+1:=rfl;rw [Ao,ak.o] at h2;omega
   have aa:Ab w wr:=HB.o.trans (HW.o.mono bw);have hz:=fun j=>aa.cell (p:=⟨b,o+i*7+j,none⟩) hb
   have z0:=(hz 0).trans (hc 0 _ rfl);have z1:=(hz 1).trans (hc 1 _ rfl);have z2:=(hz 2).trans (hc 2 _ rfl);have z3:=(hz 3).trans (hc 3 _ rfl);have z4:=(hz 4).trans (hc 4 _ rfl);have z5:=(hz 5).trans (hc 5 _ rfl);have z6:=(hz 6).trans (hc 6 _ rfl);simp only [Dl] at z0;have fq:=uA e9;obtain ⟨pt,cr⟩:∃ p,uD r i=p:=⟨_,rfl⟩;rw [cr] at HN e9;have c2:=uA cr;have c3:=HW.o.size;have cs:=uB wr (.cells #[.slice sA G sc,.int .i64 bk,.slice gA gn gc,.slice aA an ac,.int .i64 l,.slice pA pn pc,.string J] 65);obtain ⟨w3,ab⟩:∃ w3,w3=wr.alloc (.cells #[.slice sA G sc,.int .i64 bk,.slice gA gn gc,.slice aA an ac,.int .i64 l,.slice pA pn pc,.string J] 65):=⟨_,rfl⟩;have ce:=uA ab;have b0:Hdd (oM w3 r (w.heap.size+1+1+1) (w.heap.size+1) (w.heap.size+1+1) m A c i pt):=ab ▸ HN.o.below cs;have ct:Hdd (Below (w.heap.size+1+1) Wd w3):=ab ▸ HW.o.trans (cs.mono (Ai (by rw [X.o];omega) c3));have ea:Hdd (Bx w3 wr.heap.size [.slice sA G sc,.int .i64 bk,.slice gA gn gc,.slice aA an ac,.int .i64 l,.slice pA pn pc,.string J] 65):=ab ▸ Bx.new wr _ _;have c4:w3.heap.size=wr.heap.size+1:=by rw [ab];simp
   have c0:=b0.o.box.q 0 rfl;have eb:=c0;rw [ab] at eb;have ad:=uB w3 (.cells #[.int .i64 (pt:Int)] 3);have q2:=uC b0.o.st ad;have ae:=uA ad;have q3:∀ j u,([Value.int .i64 (pt:Int)])[j]?=some u->(w3.alloc (.cells #[.int .i64 (pt:Int)] 3)).cell? ((⟨wr.heap.size+1,0,none⟩:Addr).add j)=some u:=c4 ▸ Bd (heap_alloc_new w3 (.cells #[.int .i64 (pt:Int)] 3));have a4:w.heap.size+1+1<=(w3.alloc (.cells #[.int .i64 (pt:Int)] 3)).heap.size:=by
    rw [Ak,c4];have:=X.o;omega
   have fr:(w3.alloc (.cells #[.int .i64 (pt:Int)] 3)).heap.size=wr.heap.size+1+1:=(by rw [Ak,c4]);clear a3 fl fn hb bx hc aa hz cs ad HN cr ab;rw [c2.o];rw [ce.o] at q2 q3 a4;go_wp2_with (at_builtin;refine wpList_append_lies _ rfl _ _ 60 rfl (w.heap.size+1+1) 3 i0 _ 1 8 underlying60 hi cm cn co rfl eW (.slice A i c) i ((stI r i).flatMap uX) rfl q2 ⟨wr.heap.size+1,0,none⟩ 1 1 [.int .i64 (pt:Int)] rfl rfl q3 (nB (pt:Int)) eW (by unfold maxLen;omega) bB a4 _ rfl ?_;intro g t w7 F R a0 b7;rw [<-ce.o] at R;obtain ⟨r1,r2,r3,r4⟩:=oM.start (g:=g) (cap:=t) b0.o ae.o R (by rw [c2.o];exact F);have R3:=uA r3;have R4:=uA (r4 (w.heap.size+1+1) (Ae _) (Cc _) (Ai (by rw [X.o];omega) ct.o.size));have R5:=uA (((ea.o.below ae.o).kt (KT.of_grown R (uC b0.o.st ae.o)) eW).other (a:=⟨w.heap.size+1+1+1,0,none⟩) (show w.heap.size+1+1+1≠wr.heap.size by have:=X.o;omega) (.slice (some ⟨g,0,none⟩) (i+1) t));have q8:=R5.o.q 0 rfl;clear r3 r4 F R a0 b7)
   have af:=uA (ct.o.trans R4.o);have ft:Hdd (Below (w.heap.size+1+1) w3 (w7.setCell ⟨w.heap.size+1+1+1,0,none⟩ (.slice (some ⟨g,0,none⟩) (i+1) t))):=R4.o;have hm:w.heap.size+4<=wr.heap.size:=by rw [<-X.o];exact c3
   clear q8 r1 r2 q2 q3 a4 fr c0 eb z0 z1 z2 z3 z4 z5 z6 b0 ae ea ct R4 ft;generalize w7.setCell ⟨w.heap.size+1+1+1,0,none⟩ (.slice (some ⟨g,0,none⟩) (i+1) t)=w8 at *;generalize hp:wr.heap.size=xk at *;have ee:Hdd (oM w8 r (w.heap.size+1+1+1) (w.heap.size+1) (w.heap.size+1+1) m (some ⟨g,0,none⟩) t (i+1) (pt+0)):=R3.o;clear R3 c4;go_loopw [4,40] (fun p v cu=>∃ k:Nat,v=.int .i64 (k:Int)/\p=.int .i64 ((pt+k:Nat):Int)/\k<=G/\Hdd (oM cu r (w.heap.size+1+1+1) (w.heap.size+1) (w.heap.size+1+1) m (some ⟨g,0,none⟩) t (i+1) (pt+k))/\Hdd (Bx cu xk [.slice sA G sc,.int .i64 bk,.slice gA gn gc,.slice aA an ac,.int .i64 l,.slice pA pn pc,.string J] 65)/\Hdd (Below (w.heap.size+1+1) Wd cu)) (fun _ v _=>G - (intOf v).toNat)
   case atStart=>exact ⟨0,rfl,rfl,Am _,ee,R5,af⟩
   case round=>
    clear ee R5 af;obtain ⟨k,rfl,rfl,hk,HN,HK,HW⟩:=hrel;have ef:=HW.o.size;rw [X.o] at ef;have aa:Ab w wr:=HB.o.trans (HW.o.mono bw);have ai:wA r (pt+k)=some (i,k):=oB.2 ⟨_,cq.o,(show k<=(sL.map StW.v).length by rw [Ao,ak.o];exact hk),by rw [c2.o]⟩;have cv:pt+k<=1000:=bB;obtain ⟨pk,eg⟩:∃ q,pt+k=q:=⟨_,rfl⟩;rw [eg] at HN ai cv ⊢;have s5:IntKind.i64.wrap ((pk:Int)+1)=(pk:Int)+1:=vV _ bB bB;have eh:=uA ai;have fu:=uA eg;have cw:=uA aa;by_cases fv:k < G
    ·have ei:(k:Int) < (G:Int):=bB;have ht:(0:Int)<=(k:Int):=bB;obtain ⟨s,hs⟩:∃ s,sL[k]?=some s:=⟨_,Ad (by rw [ak.o];exact fv)⟩;obtain ⟨gs,zs,b8,ej,c5,al⟩:=e8.o.at_ hs;have b8:sA=some ⟨gs,zs,none⟩:=b8;subst b8;have cx:(BkW.v ⟨⟨some ⟨gs,zs,none⟩,G,sc,sL⟩,⟨bk,⟨gA,gn,gc,gL⟩,⟨aA,an,ac,aL⟩,⟨l,pA,pn,pc,ps⟩,J⟩⟩).stmts[k]?=some s.v:=by
      show (sL.map StW.v)[k]?=some s.v;rw [Ar,hs];rfl
     have b9:s.rv.args.n<=1000000:=by
      have h1:=e4.o.1 s.v (Aj cx);have h2:s.v.rv.args.length=s.rv.args.n:=(Ao _).trans c5.rv.args.len;omega
     have a1:=uA (OD cx);have bf:=uA (uHo c5);have bg:=uA fun (w':World) (y:Ab w w')=>PT s w' ((c5.below y).more y.size) b9
     obtain ⟨kd,⟨ql,qA,qn,qc,qs⟩,⟨rk,ro,rr,rm,⟨tl,tA,tn,tc,ts⟩,⟨dA,dn,dc,dL⟩⟩,cy⟩:=s;have N:∀ i u,(cSt ⟨kd,⟨ql,qA,qn,qc,qs⟩,⟨rk,ro,rr,rm,⟨tl,tA,tn,tc,ts⟩,⟨dA,dn,dc,dL⟩⟩,cy⟩)[i]?=some u->wr.cell? ⟨gs,zs+k*11+i,none⟩=some u:=fun i u hu=>(aa.cell (p:=⟨gs,zs+k*11+i,none⟩) ej).trans (al i u hu)
     have g0:=N 0 _ rfl;have g1:=N 1 _ rfl;have g2:=N 2 _ rfl;have g3:=N 3 _ rfl;have g4:=N 4 _ rfl;have g5:=N 5 _ rfl;have g6:=N 6 _ rfl;have g7:=N 7 _ rfl;have g8:=N 8 _ rfl;have g9:=N 9 _ rfl;have fw:=N 10 _ rfl;simp only [Dl] at g0;have c6:=uB wr (.cells #[.int .i64 kd,.int .i64 ql,.slice qA qn qc,.int .i64 rk,.int .i64 ro,.int .i64 rr,.bool rm,.int .i64 tl,.slice tA tn tc,.slice dA dn dc,.int .i64 cy] 69);have H:=Bx.new wr [.int .i64 kd,.int .i64 ql,.slice qA qn qc,.int .i64 rk,.int .i64 ro,.int .i64 rr,.bool rm,.int .i64 tl,.slice tA tn tc,.slice dA dn dc,.int .i64 cy] 69;have j0:=H.q 0 rfl;have j1:=H.q 1 rfl;have j2:=H.q 2 rfl;have j3:=H.q 3 rfl;have j4:=H.q 4 rfl;have j5:=H.q 5 rfl;have j6:=H.q 6 rfl;have j7:=H.q 7 rfl;have j8:=H.q 8 rfl;have j9:=H.q 9 rfl;have fy:=H.q 10 rfl;have fz:=uA (HN.o.below c6);have ga:=uA (HK.o.below c6);have bh:=uA c6;obtain ⟨U,ag⟩:∃ U,zZ (BkW.v ⟨⟨some ⟨gs,zs,none⟩,G,sc,sL⟩,⟨bk,⟨gA,gn,gc,gL⟩,⟨aA,an,ac,aL⟩,⟨l,pA,pn,pc,ps⟩,J⟩⟩) k=U:=⟨_,rfl⟩;obtain ⟨D,a2⟩:∃ D,oY (BkW.v ⟨⟨some ⟨gs,zs,none⟩,G,sc,sL⟩,⟨bk,⟨gA,gn,gc,gL⟩,⟨aA,an,ac,aL⟩,⟨l,pA,pn,pc,ps⟩,J⟩⟩) k=D:=⟨_,rfl⟩;rw [<-a1.o.1,<- a1.o.2,ag,a2] at bg;rw [<-a1.o.2,a2] at bf;have cz:=uA ag;have d0:=uA a2;clear hs cx c5 al N b9 ej aa ai c6 H a1 ag a2;go_wp2_with fail
     refine (bg.o _ (Aa cw.o bh.o)).mono ?_;rintro e w4 ⟨be,rfl,bj,ek,a5⟩;rw [Ak] at ek;have Y:=uA a5;have d1:=uA (oM.noted (fz.o.below a5) bj bB eh.o cq.o cz.o d0.o bf.o (e7.o k) cv);have gb:=uA (ga.o.below a5);clear bj a5 g0 g1 g2 g3 g4 g5 g6 g7 g8 g9 fw j0 j1 j2 j3 j4 j5 j6 j7 j8 j9 fy;generalize D.getD 0=d at *;generalize D.isSome=f at *;go_wp2_with fail
     refine d1.o.mono ?_;rintro e w5 ⟨rfl,bl,c7,bm⟩;have d2:=uA (show oM w5 r (w.heap.size+1+1+1) (w.heap.size+1) (w.heap.size+1+1) m (some ⟨g,0,none⟩) t (i+1) (pt+(k+1)) by rw [show pt+(k+1)=pk+1 by omega];exact bl);have gd:=uA (gb.o.kt c7 eW);have d3:=uA ((HW.o.trans ((Aa bh.o Y.o).mono (show w.heap.size+1+1<=wr.heap.size by omega))).trans bm);clear bl c7 bm;go_wp2_with fail
     go_roundw
     case rel=>exact ⟨k+1,by go_num,(by rw [<-fu.o];go_num),bB,d2,gd,d3⟩
     case measure=>simp [intOf];omega
    ·have ei:¬(k:Int) < (G:Int):=bB;obtain rfl:G=k:=by omega
     have b9:an<=1000000:=by
      have h1:=e4.o.2;have h2:(aL.map OpW.v).length=an:=(Ao _).trans bz.o.args.len;have h3:(aL.map OpW.v).length<=900000:=h1;omega
     have el:bk=1\/bk=3\/an=0:=by
      have h1:=fo.o;have h2:(aL.map OpW.v).length=an:=(Ao _).trans bz.o.args.len;have h3:bk=1\/bk=3\/(aL.map OpW.v).length=0:=h1;omega
     have a1:Hdd (zZ (BkW.v ⟨⟨sA,G,sc,sL⟩,⟨bk,⟨gA,gn,gc,gL⟩,⟨aA,an,ac,aL⟩,⟨l,pA,pn,pc,ps⟩,J⟩⟩) G=tmU (TmW.v ⟨bk,⟨gA,gn,gc,gL⟩,⟨aA,an,ac,aL⟩,⟨l,pA,pn,pc,ps⟩,J⟩)/\oY (BkW.v ⟨⟨sA,G,sc,sL⟩,⟨bk,⟨gA,gn,gc,gL⟩,⟨aA,an,ac,aL⟩,⟨l,pA,pn,pc,ps⟩,J⟩⟩) G=tmD (TmW.v ⟨bk,⟨gA,gn,gc,gL⟩,⟨aA,an,ac,aL⟩,⟨l,pA,pn,pc,ps⟩,J⟩)):=NN (by show (sL.map StW.v).length<=G;rw [Ao,ak.o];exact Ae _);have bf:=uA (uHi bz.o);have bg:=uA fun (w':World) (y:Ab w w')=>PM ⟨bk,⟨gA,gn,gc,gL⟩,⟨aA,an,ac,aL⟩,⟨l,pA,pn,pc,ps⟩,J⟩ w' ((bz.o.below y).more y.size) b9 el
     have b1:=HK.o.q 1 rfl;have b2:=HK.o.q 2 rfl;have b3:=HK.o.q 3 rfl;have b4:=HK.o.q 4 rfl;have b5:=HK.o.q 5 rfl;have b6:=HK.o.q 6 rfl;obtain ⟨U,ag⟩:∃ U,zZ (BkW.v ⟨⟨sA,G,sc,sL⟩,⟨bk,⟨gA,gn,gc,gL⟩,⟨aA,an,ac,aL⟩,⟨l,pA,pn,pc,ps⟩,J⟩⟩) G=U:=⟨_,rfl⟩;obtain ⟨D,a2⟩:∃ D,oY (BkW.v ⟨⟨sA,G,sc,sL⟩,⟨bk,⟨gA,gn,gc,gL⟩,⟨aA,an,ac,aL⟩,⟨l,pA,pn,pc,ps⟩,J⟩⟩) G=D:=⟨_,rfl⟩;rw [<-a1.o.1,<- a1.o.2,ag,a2] at bg;rw [<-a1.o.2,a2] at bf;have cz:=uA ag;have d0:=uA a2;clear b9 el a1 ag a2 aa ai;go_wp2_with fail
     refine (bg.o _ cw.o).mono ?_;rintro e w4 ⟨be,rfl,bj,ek,a5⟩;have Y:=uA a5;have d1:=uA (oM.noted (HN.o.below a5) bj bB eh.o cq.o cz.o d0.o bf.o (e7.o G) cv);clear bj a5 b1 b2 b3 b4 b5 b6;generalize D.getD 0=d at *;generalize D.isSome=f at *;go_wp2_with fail
     refine d1.o.mono ?_;rintro e w5 ⟨rfl,bl,c7,bm⟩;have d4:uD r (i+1)=pk+1:=by have:=fq.o;have:=c2.o;omega
     have d2:=uA (show oM w5 r (w.heap.size+1+1+1) (w.heap.size+1) (w.heap.size+1+1) m (some ⟨g,0,none⟩) t (i+1) (uD r (i+1)) by rw [d4];exact bl);have d3:=uA ((HW.o.trans (Y.o.mono (show w.heap.size+1+1<=wr.heap.size by omega))).trans bm);have gf:=uA d4;clear bl c7 bm d4;go_wp2_with fail
     go_roundw
     case rel=>exact ⟨i+1,some ⟨g,0,none⟩,t,by go_num,(by rw [gf.o];go_num),a9,d2,d3⟩
     case measure=>simp [intOf];omega
  ·have az:¬(i:Int) < (m:Int):=bB;obtain rfl:m=i:=by omega
   have c8:uD r m=uF r:=zM (by rw [M.o];exact Ae _);obtain ⟨C,c9⟩:∃ C,uF r=C:=⟨_,rfl⟩;rw [c8,c9] at HN ⊢;rw [c9] at c8 hC;have em:=uA c9;have gg:=uA c8;have c3:=HW.o.size;rw [X.o] at c3;have c0:=HN.o.box.q 0 rfl;have ad:=uB wr (.cells #[.int .i64 (C:Int)] 3);have q2:=uC HN.o.st ad;have ae:=uA ad;have q3:∀ j u,([Value.int .i64 (C:Int)])[j]?=some u->(wr.alloc (.cells #[.int .i64 (C:Int)] 3)).cell? ((⟨wr.heap.size,0,none⟩:Addr).add j)=some u:=Bd (heap_alloc_new wr (.cells #[.int .i64 (C:Int)] 3));have a4:w.heap.size+1+1<=(wr.alloc (.cells #[.int .i64 (C:Int)] 3)).heap.size:=by rw [Ak];omega
   clear ad c8 c9 a9;go_wp2_with (at_builtin;refine wpList_append_lies _ rfl _ _ 60 rfl (w.heap.size+1+1) 3 i0 _ 1 8 underlying60 hi cm cn co rfl eW (.slice A m c) m ((stI r m).flatMap uX) rfl q2 ⟨wr.heap.size,0,none⟩ 1 1 [.int .i64 (C:Int)] rfl rfl q3 (nB (C:Int)) eW (by unfold maxLen;omega) bB a4 _ rfl ?_;intro g t w7 F R a0 b7;obtain ⟨r1,r2,r3,r4⟩:=oM.start (g:=g) (cap:=t) HN.o ae.o R (by rw [gg.o];exact F);have R3:=uA r3;have R4:=uA (r4 (w.heap.size+1+1) (Ae _) (Cc _) bB);obtain ⟨y0,y1,y2,y3,y4,y5,y6⟩:=fi.o _ (HW.o.trans R4.o);clear r3 r4 F R a0 b7)
   have af:Hdd (Below (w.heap.size+1+1) Wd (w7.setCell ⟨w.heap.size+1+1+1,0,none⟩ (.slice (some ⟨g,0,none⟩) (m+1) t))):=HW.o.trans R4.o;clear y0 y1 y2 y3 y4 y5 y6 r1 r2 q2 q3 c0 R4;generalize w7.setCell ⟨w.heap.size+1+1+1,0,none⟩ (.slice (some ⟨g,0,none⟩) (m+1) t)=w8 at *;refine (ds.o w8 (HB.o.trans (af.o.mono bw))).mono ?_;rintro e w9 ⟨eA,ec,rfl,bo,d5⟩;obtain ⟨E,d6⟩:∃ E,xF r=E:=⟨_,rfl⟩;have hel:=ff.o;rw [d6] at bo hel ⊢;obtain ⟨en,d7⟩:∃ n,E.length=n:=⟨_,rfl⟩;rw [d7] at bo hel ⊢;have d8:=uA d7;have cf:=uA d6;have bp:=R3.o.below d5;have d9:=uA (af.o.trans (d5.mono (by have:=af.o.size;rw [X.o] at this;omega)));have gh:=d9.o.size;rw [X.o] at gh;have eo:wJ w9 w9.heap.size (w.heap.size+1) 60 3 1 uX (List.replicate m ⟨none,0,0,[]⟩):=wJ.of_nil ((d9.o.block (w.heap.size+1) bB).trans fh.o) _ _ _ _;obtain ⟨S,K,k1,k2,k3,k4⟩:=bp.sit;have da:=uA (And.intro k2 (And.intro k3 k4));have db:=uA fun (w':World) (y:Turn (fun k=>k=w.heap.size+1) w9 w')=>(show Bx w' (w.heap.size+1+1+1) [.slice (some ⟨g,0,none⟩) (m+1) t,.slice (some ⟨w.heap.size+1,0,none⟩) m m,.map (some (w.heap.size+1+1))] 258/\w'.ownsRow (w.heap.size+1+1) 3 1 (.slice (some ⟨g,0,none⟩) (m+1) t) (m+1) ((stI r (m+1)).flatMap uX)/\dY w' (w.heap.size+1+1) (w.heap.size+1+1) S K/\w'.ownsRow w8.heap.size 54 2 (.slice eA en ec) en (E.flatMap pV) from
    ⟨bp.box.turn y bB,yZ bp.st y (fun b hb e=>by have:=(bp.st.lt b hb).1;omega),k1.turn y bB (fun b hb=>by omega),yZ bo y (fun b hb e=>by have:=(bo.lt b hb).1;have:=af.o.size;rw [X.o] at this;omega)⟩)
   have ep:=uA eo;have eq:=uA (Turn.refl (fun k=>k=w.heap.size+1) w9);have a6:Hdd (∀ j,j < m->∃ s,(List.replicate m (⟨none,0,0,[]⟩:SlW Int))[j]?=some s/\s.L=wL (qX r (E.take 0) j)):=fun j hj=>⟨⟨none,0,0,[]⟩,by simp [hj],rfl⟩;have er:w.heap.size+1 < w9.heap.size:=bB;clear bo d5 d6 d7 bp eo k1 k2 k3 k4 R3 HN HW ae;go_wp2_with fail
   go_loopw [74] (fun v wr=>∃ (q:Nat) (L:List (SlW Int)),v=.int .i64 (q:Int)/\q<=en/\Hdd (wJ wr w9.heap.size (w.heap.size+1) 60 3 1 uX L)/\Hdd (∀ j,j < m->∃ s,L[j]?=some s/\s.L=wL (qX r (E.take q) j))/\Hdd (Turn (fun k=>k=w.heap.size+1) w9 wr)) (fun v _=>en - (intOf v).toNat)
   case atStart=>exact ⟨0,_,rfl,Am _,ep,a6,eq⟩
   case round=>
    clear ep a6 eq;obtain ⟨q,L,rfl,hq,HG,a6,bq⟩:=hrel;have hv:=bq.o.size;by_cases a9:q < en
    ·have az:(q:Int) < (en:Int):=bB;have i2:(0:Int)<=(q:Int):=bB;obtain ⟨ed,ca⟩:∃ e,E[q]?=some e:=⟨_,Ad (by rw [d8.o];exact a9)⟩;obtain ⟨fx,fs,fm,fe⟩:=db.o wr bq.o;obtain ⟨ge,oe,b8,_,al⟩:=(uM.of_own uY eW fe).at_ ca;subst b8;have dd:=Aj ca;have es:=uA (show E.take (q+1)=E.take q++[ed] by rw [Bm,ca];rfl);rw [<-cf.o] at dd;obtain ⟨e1,e2⟩:=ed;obtain ⟨n,y,rfl,rfl,hn,hy⟩:=jK.1 dd;obtain ⟨⟨bi,bk,et,eu⟩,ev⟩:=OQ hn hy;have c0:wr.cell? ⟨ge,oe+q*2,none⟩=some (.int .i64 (n:Int)):=(by simpa using al 0 _ rfl);have c1:wr.cell? ⟨ge,oe+q*2+1,none⟩=some (.int .i64 (y:Int)):=al 1 _ rfl;have cc:=uB wr (.cells #[.int .i64 (n:Int),.int .i64 (y:Int)] 54);obtain ⟨wa,br⟩:∃ wa,wa=wr.alloc (.cells #[.int .i64 (n:Int),.int .i64 (y:Int)] 54):=⟨_,rfl⟩;rw [<-br] at cc;have H:Bx wa wr.heap.size [.int .i64 (n:Int),.int .i64 (y:Int)] 54:=by rw [br];exact Bx.new wr _ _
     have gi:=uA br;have gj:=uA H;have gm:=uA (HG.o.below cc);have ew:=uA (bq.o.trans (Turn.of_below cc));obtain ⟨fx,fs,fm,fe⟩:=db.o wa ew.o;have cd:=OX fs;rw [<-M.o] at cd;have bs:=uA fun (w':World) (y':Ab wa w')=>bG (c:=t) (y:Int) w' (cd.below y') (FN (Ae _)) (by rw [M.o];omega)
     have hcx:=uA fun (w':World) (y':Ab wa w')=>(show w'.cell? ⟨w.heap.size+1+1+1,0,none⟩=some (.slice (some ⟨g,0,none⟩) (m+1) t)/\w'.cell? ⟨wr.heap.size,1,none⟩=some (.int .i64 (y:Int)) from
      ⟨(fx.below y').q 0 rfl,(H.below y').q 1 rfl⟩)
     obtain ⟨D,hD⟩:∃ D,stI r (r.length+1)=D:=⟨_,rfl⟩;obtain ⟨ci,de⟩:∃ c,D.countP (· < (y:Int))=c:=⟨_,rfl⟩;obtain ⟨cb,df⟩:∃ c,D.contains (y:Int)=c:=⟨_,rfl⟩;rw [hD,de,df] at bs;have dg:=uA hD;have go:=uA de;have ex:=uA df;have gp:=uA et;have gq:=uA eu;have gr:=uA ev;have HD:=uA ((Below.refl wa.heap.size wa).drew);rw [M.o] at bs;have gt:Hdd (Bx wa (w.heap.size+1+1+1) [.slice (some ⟨g,0,none⟩) (m+1) t,.slice (some ⟨w.heap.size+1,0,none⟩) m m,.map (some (w.heap.size+1+1))] 258):=fx;have gu:=uA cd;have h5:wa.heap.size=wr.heap.size+1:=by rw [br];simp
     clear ca al dd hn hy et eu ev cc H fx fs fm fe cd hD de df br;go_wp2_with fail
     rw [<-gi.o];refine wp_region_held_drew (S:=(fun w'=>Ab wa w')) fL HD.o (fun hHeld=>?_);refine uJ [0,1,2,3,4,5] ?_
     repeat' (first | refine pT hHeld rfl ?_ | refine pS hHeld rfl ?_)
     refine uK ?_;refine pC 6 rfl (fun Z I=>?_);go_simp;refine (bs.o _ HD.o).mono ?_;rintro e5 w5 ⟨rfl,q5,rfl⟩;have ah:=uA (HD.o.trans ((xZ wa.drew q5).mono HD.o.size));refine I.out _ _ ah.o (fun hHeld=>?_);clear I Z;generalize wa.drew.drewN q5=w5 at *;refine uJ [7,8,9,10,11] ?_
     repeat' (first | refine pT hHeld rfl ?_ | refine pS hHeld rfl ?_)
     refine uK ?_;refine wpAnyH_done fL ?_ _;have dh:=uA (gm.o.below ah.o);have ey:=uA (ew.o.trans (Turn.of_below ah.o));have cg:=uA (gt.o.below ah.o);have ez:=uA (gj.o.below ah.o);have gv:=ah.o.size;cases cb
     case false=>
      have bh:Hdd (∀ j,j < m->∃ s,L[j]?=some s/\s.L=wL (qX r (E.take (q+1)) j)):=fun j hj=>by
       obtain ⟨s,h1,h2⟩:=a6.o j hj;refine ⟨s,h1,?_⟩;rw [es.o,QN,if_neg (ZE (by rw [dg.o];exact ex.o) (by rw [M.o];exact hj)),B5];exact h2
      clear hHeld c0 c1;go_wp2_with fail
      go_roundw
      case rel=>exact ⟨q+1,L,by go_num,a9,dh,bh,ey⟩
      case measure=>simp [intOf];omega
     obtain ⟨j,f0,di⟩:=YX gr.o (by rw [dg.o];exact ex.o);have gw:ci=j:=by
      rw [<-go.o,<- dg.o,di];exact (iY bB).1
     subst gw;have f1:ci < m:=by rw [<-M.o];exact f0
     obtain ⟨s,dj,dk⟩:=a6.o ci f1;have am:=uA dj;have ch:=dh.o.own ci s dj;have f2:s.n<=200000:=by
      have h1:=IN r (E.take q) ci;have h2:(wL (qX r (E.take q) ci)).length=(qX r (E.take q) ci).length:=by unfold wL;simp
      have h3:(E.take q).length<=E.length:=by rw [B9];exact Nat.min_le_right _ _
      have h4:s.L.length=s.n:=vH (f:=uX) vN eW ch;rw [d8.o] at h3;rw [dk] at h4;omega
     have i3:Hdd (∀ j,j < m->∃ z,(L.set ci ⟨s.A,s.n,s.c,s.L⟩)[j]?=some z/\True):=fun j hj=>⟨_,Ad (by
      obtain ⟨z,h1,_⟩:=a6.o j hj;have:=(Ah.1 h1).1
      rwa [D9]),trivial⟩
     have h6:(ci:Int) < (m:Int):=bB;have h7:(0:Int)<=(ci:Int):=bB;have a7:=uA (xZ w5 1);have f3:w5.drewN 1=w5.drew:=rfl;rw [f3] at a7;have f4:=uA di;obtain ⟨sA,G,sk,sL⟩:=s;have f2:G<=200000:=f2;have ak:Hdd (sL=wL (qX r (E.take q) ci)):=dk;have f5:=uA (sX (l:=r) (fb:=w.heap.size+1+1+1) (p:=n) w5.drew (by rw [M.o];exact (cg.o.below a7.o).q 0 rfl) ((gu.o.below ah.o).below (by have:=a7.o;exact this.mono gv)) (by rw [M.o];omega) gp.o);have dl:=uA (dh.o.below a7.o);have dm:=uA (cg.o.below a7.o);have dp:=uA (ez.o.below a7.o);have f6:=uA (ey.o.trans (Turn.of_below a7.o));clear hHeld c0 c1 f3 di f0 dj dk ch;go_wp2_with fail
     refine wp_region_held_drew (S:=(fun w'=>w'.cell? ⟨w.heap.size+1+1+1,1,none⟩=some (.slice (some ⟨w.heap.size+1,0,none⟩) m m)/\w'.cell? ⟨wr.heap.size,0,none⟩=some (.int .i64 (n:Int)))) fL ⟨dm.o.q 1 rfl,dp.o.q 0 rfl⟩ (fun hHeld=>?_);have i4:=a7.o.size;generalize w5.drew=wd at *;refine uJ [0,1,2,3,4,5,6,7,8,9,10,12,13,14] ?_
     repeat' (first | refine pT hHeld rfl ?_ | refine pS hHeld rfl ?_)
     refine uK ?_;refine wpAnyH_ready (rs:=[11,15]) fL nF ?_;refine AllReadyH.cons rfl (fun Z I=>?p1) (AllReadyH.cons rfl (fun Z I=>?p2) AllReadyH.nil)
     case' p1=>
      have gl:=dl.o.cell am.o;go_simp;refine I.out _ _ hHeld (fun hHeld=>?_);clear I Z gl;try simp only [Ac]
      refine pC 15 rfl (fun Z I=>?_);go_simp;refine f5.o.mono ?_;rintro e6 w6 ⟨rfl,q6,rfl⟩;have V:=uA (xZ wd q6);have bt:=uA (dl.o.below V.o);have ao:=uA (dm.o.below V.o);have Y:=uA (dp.o.below V.o);have f7:=uA (f6.o.trans (Turn.of_below V.o));refine I.out _ _ ⟨ao.o.q 1 rfl,Y.o.q 0 rfl⟩ (fun hHeld=>?_);have gx:=V.o.size;clear I Z;generalize wd.drewN q6=w6 at *;try simp only [Ac]
      refine pC 16 rfl (fun Z I=>?_);have O:=uA (uB w6 (.cells #[.int .i64 (bi:Int)] 3));have ap:=uA (bt.o.below O.o);have aq:=uA (ao.o.below O.o);have au:=uA (Y.o.below O.o);go_simp;refine I.out _ _ ⟨aq.o.q 1 rfl,au.o.q 0 rfl⟩ (fun hHeld=>?_);clear I Z;try simp only [Ac]
     case' p2=>
      go_simp;refine f5.o.mono ?_;rintro e6 w6 ⟨rfl,q6,rfl⟩;have V:=uA (xZ wd q6);have bt:=uA (dl.o.below V.o);have ao:=uA (dm.o.below V.o);have Y:=uA (dp.o.below V.o);have f7:=uA (f6.o.trans (Turn.of_below V.o));refine I.out _ _ ⟨ao.o.q 1 rfl,Y.o.q 0 rfl⟩ (fun hHeld=>?_);have gx:=V.o.size;clear I Z;generalize wd.drewN q6=w6 at *;try simp only [Ac]
      refine wpAnyH_ready (rs:=[11,16]) fL nF ?_;refine AllReadyH.cons rfl (fun Z I=>?p3) (AllReadyH.cons rfl (fun Z I=>?p4) AllReadyH.nil)
     case' p3=>
      have gl:=bt.o.cell am.o;go_simp;refine I.out _ _ hHeld (fun hHeld=>?_);clear I Z gl;try simp only [Ac]
      refine pC 16 rfl (fun Z I=>?_);have O:=uA (uB w6 (.cells #[.int .i64 (bi:Int)] 3));have ap:=uA (bt.o.below O.o);have aq:=uA (ao.o.below O.o);have au:=uA (Y.o.below O.o);go_simp;refine I.out _ _ ⟨aq.o.q 1 rfl,au.o.q 0 rfl⟩ (fun hHeld=>?_);clear I Z;try simp only [Ac]
     case' p4=>
      have O:=uA (uB w6 (.cells #[.int .i64 (bi:Int)] 3));have ap:=uA (bt.o.below O.o);have aq:=uA (ao.o.below O.o);have au:=uA (Y.o.below O.o);go_simp;refine I.out _ _ ⟨aq.o.q 1 rfl,au.o.q 0 rfl⟩ (fun hHeld=>?_);clear I Z;try simp only [Ac]
      refine pC 11 rfl (fun Z I=>?_);have gl:=ap.o.cell am.o;go_simp;refine I.out _ _ hHeld (fun hHeld=>?_);clear I Z gl;try simp only [Ac]
     all_goals
      refine pC 17 rfl (fun Z I=>?_);refine step_append_lies (w6.alloc (.cells #[.int .i64 (bi:Int)] 3)) rfl (.tmp 100) (.tmp 105) 60 rfl w9.heap.size 3 i0 (.int .i64 0) 1 8 underlying60 hi cm cn co rfl eW (.slice sA G sk) G (sL.flatMap uX) rfl (ap.o.own ci _ am.o) ⟨w6.heap.size,0,none⟩ 1 1 [.int .i64 (bi:Int)] rfl rfl (Bd (heap_alloc_new w6 (.cells #[.int .i64 (bi:Int)] 3))) (nB (bi:Int)) eW (by unfold maxLen;omega) bB (by rw [Ak];omega) _ rfl ?_;intro g2 aj w7 F R a0 b7;obtain ⟨r1,r2,r3,r4⟩:=wJ.stored (s':=⟨some ⟨g2,0,none⟩,G+1,aj,sL++[(bi:Int)]⟩) ap.o am.o (Below.refl _ _) R (by rw [Bk];exact F) (a0.elim (fun e=>.inl e.symm) fun e=>.inr (by rw [e];rfl)) er (by rw [Ak];omega);have dq:=KT.of_grown R (ap.o.own ci _ am.o);have f8:=uA (aq.o.kt dq eW);have f9:=uA (au.o.kt dq eW);have R3:=uA r3;have R4:=uA (r4 w9 (f7.o.trans (Turn.of_below O.o)) (Ae _));refine I.out _ _ ⟨f8.o.q 1 rfl,f9.o.q 0 rfl⟩ (fun hHeld=>?_);clear I Z F R a0 b7 r3 r4 dq;try simp only [Ac]
      refine uJ [18] ?_
      repeat' (first | refine pT hHeld rfl ?_ | refine pS hHeld rfl ?_)
      refine uK ?_;refine pC 19 rfl (fun Z I=>?_);go_simp;have cj:=f9.o.other (a:=⟨w.heap.size+1,ci,none⟩) (show w.heap.size+1≠wr.heap.size by omega) (.slice (some ⟨g2,0,none⟩) (G+1) aj);have ck:=f8.o.other (a:=⟨w.heap.size+1,ci,none⟩) (show w.heap.size+1≠w.heap.size+1+1+1 by omega) (.slice (some ⟨g2,0,none⟩) (G+1) aj);refine I.out _ _ ⟨ck.q 1 rfl,cj.q 0 rfl⟩ (fun hHeld=>?_);clear I Z cj ck r1 r2;refine wpAnyH_done fL ?_ _;have gy:Hdd (∀ j,j < m->∃ z,(L.set ci ⟨some ⟨g2,0,none⟩,G+1,aj,sL++[(bi:Int)]⟩)[j]?=some z/\z.L=wL (qX r (E.take (q+1)) j)):=fun j hj=>by
       obtain ⟨z,h1,h2⟩:=a6.o j hj;have gz:=(Ah.1 h1).1;rw [es.o,QN,Cp];by_cases e:ci=j
       ·subst e;refine ⟨_,by rw [if_pos rfl,if_pos gz],?_⟩;rw [if_pos (by rw [f4.o])];show sL++[(bi:Int)]=_;rw [ak.o,gq.o];unfold wL;rw [By];rfl
       ·refine ⟨z,by rw [if_neg e];exact h1,?_⟩;rw [if_neg fun e2=>e ?_,B5]
        ·exact h2
        ·have e3:(y:Int)=(uD r j:Int):=e2;exact lS (by rw [M.o];exact f1) (by rw [M.o];exact hj) (by have:=f4.o;omega)
      go_wp2_with fail
      go_roundw
      case rel=>exact ⟨q+1,_,by go_num,a9,R3,gy,R4⟩
      case measure=>simp [intOf];omega
    ·have az:¬(q:Int) < (en:Int):=bB;have fa:Hdd (∀ j,j < r.length->∃ s,L[j]?=some s/\s.L=wL (qX r (xF r) j)):=fun j hj=>by
      have h:=a6.o j (by rw [<-M.o];exact hj)
      rwa [Au (by rw [d8.o];omega),<- cf.o] at h
     obtain ⟨fx,fs,fm,fe⟩:=db.o wr bq.o;have fc:Hdd (uE5 r w.heap.size (.returned (.pointer (some ⟨w.heap.size+1+1+1,0,none⟩))) wr):=⟨w.heap.size+1+1+1,K,rfl,⟨some ⟨g,0,none⟩,t,w.heap.size+1,w.heap.size+1+1,w9.heap.size,w.heap.size+1+1,S,L,⟨by rw [M.o];exact fx,by rw [M.o];exact OX fs,HG.o,fa.o,fm,by rw [em.o];exact da.o.1⟩⟩,bB,by rw [em.o];exact da.o.2.1,by have:=da.o.2.2;omega⟩;have h0:Hdd (Ab w wr):=(HB.o.trans (d9.o.mono bw)).trans (bq.o.below bB fun k hk=>by omega);clear fx fs fm fe;go_wp2_with fail
     go_ret;exact ⟨fc.o,h0.o⟩
theorem WC (p:Nat):xW [] p=0:=rfl
theorem LM {E:Env} {t:TmV} (h:aK E t=0):t.targets.length<=2/\(t.kind=1\/t.kind=3\/t.args.length=0):=by
 unfold aK at h
 split at h
 ·cases h
 ·split at h
  ·cases h
  ·rename_i a;have e:zD t.kind<=2:=by
    unfold zD;repeat' split
    all_goals decide
   omega
theorem TV (l:List BkV):(xF l).length<=uF l*uF l:=by
 have h:∀ L:List Nat,(L.flatMap fun k:Nat=>(mG l (k:Int)).map fun q=>((k:Int),q)).length<=L.length*uF l:=fun L=>by
  induction L with
  | nil=>simp
  | cons n L d=>
    rw [Ct,Aw,As,G9,Ao];have:=sE l (n:Int);omega
 have a:=h (List.range (uF l));rw [C0] at a;exact a
theorem uFx {w:World} {x:BdW} (_:uS w w.heap.size x) (h:GN x):YD x.v.blocks:=fun b a=>(LM ((GU h.err).2 b a).2).2
theorem uG1 {w:World} {x:BdW} (_:uS w w.heap.size x) (h:GN x):∀ b∈x.v.blocks,b.term.targets.length<=100000:=fun b a=>Ai (LM ((GU h.err).2 b a).2).1 eW
theorem uHl {w:World} {x:BdW} (_:uS w w.heap.size x) (h:GN x):(xF x.v.blocks).length<=200000:=by
 have d:=TV x.v.blocks;have a:=h.sm.cnt;exact Ai d (Ai (Eo a a) eW)
def uIk (w:World):Prop:=mV w
def dX (T:Int->Int) (r d:Int):Int->Int:=fun q=>if q=r then T q+d else T q
structure yV (w:World) (b nn:Nat) (T:Int->Int):Prop where
 own:∃ Dm,w.ownsMap (H:=Unit) prog 3 (plainElem prog 3) b nn Dm/\(∀ q,uH q->(Maps.has Dm (.int .i64 q)=true↔T q≠0))/\∀ q,uH q->Dm.atKey (.int .i64 q) (.lit (.int .i64 0))=.lit (.int .i64 (T q))
 bd:∀ q,-(nn:Int)<=T q/\T q<=(nn:Int)
theorem uD0 (w:World):(zeroValue 3).run prog w=.ok (.int .i64 0) w:=by kernel_rfl
theorem uEn:prog.underlying 135=some (.map 3 3):=underlying135
section
variable {w w':World} {b nn:Nat} {T:Int->Int} {q:Int}
theorem yV.lt (h:yV w b nn T):b < w.heap.size:=by
 obtain ⟨_,a,_⟩:=h.own;exact a.lt
theorem yV.turn {S:Nat->Prop} (h:yV w b nn T) (d:Turn S w w') (e:¬S b):yV w' b nn T:=by
 obtain ⟨f,a,g⟩:=h.own;exact ⟨⟨f,uN a (d.block b a.lt e),g⟩,h.bd⟩
theorem yV.below (h:yV w b nn T) (a:Ab w w'):yV w' b nn T:=h.turn (S:=fun _=>False) (Turn.of_below a) id
theorem yV.new (w:World):yV (w.alloc (.map #[] 0)) w.heap.size 0 fun _=>0:=
 ⟨⟨_,Cu _ _ _ _,fun q _=>⟨fun h=>by simp [Maps.has] at h,fun h=>absurd rfl h⟩,fun q _=>Cm (by simp [Maps.has]) _⟩,fun q=>by simp⟩
theorem GO {E:TypeId} {D:DataW Unit} {v:Int} (e:prog.underlying E=some (.map 3 3)) (h:w.ownsMap (H:=Unit) prog 3 (plainElem prog 3) b nn D) (f:uH q) (g:D.atKey (.int .i64 q) (.lit (.int .i64 0))=.lit (.int .i64 v)):(Instr.lookup E (.map (some b)) (.int .i64 q) false).run prog w=.ok (.int .i64 v) w:=by
 obtain ⟨c,d,a,_⟩:=h.lookup_int zS e underlying3 (uD0 w) (wY f);rw [d];rw [g] at a;injection a with a;injection a with _ a;rw [a]
theorem yV.look {E:TypeId} (d:prog.underlying E=some (.map 3 3)) (h:yV w b nn T) (a:uH q):(Instr.lookup E (.map (some b)) (.int .i64 q) false).run prog w=.ok (.int .i64 (T q)) w:=by
 obtain ⟨D,e,_,f⟩:=h.own;exact GO d e a (f q a)
theorem yV.put {a:DataW Unit} {d:Int} (h:∀ q,-(nn:Int)<=T q/\T q<=(nn:Int)) (i:w.ownsMap (H:=Unit) prog 3 (plainElem prog 3) b nn a) (j:∀ q,uH q->(Maps.has a (.int .i64 q)=true↔T q≠0)) (k:∀ q,uH q->a.atKey (.int .i64 q) (.lit (.int .i64 0))=.lit (.int .i64 (T q)))
 (m:d=1\/d=-1) (hn:T q+d≠0) (l:w'.ownsMap (H:=Unit) prog 3 (plainElem prog 3) b (nn+1) (a.put (.int .i64 q) (.lit (.int .i64 (T q+d))))):yV w' b (nn+1) (dX T q d):=by
 have g:=i.isMap;refine ⟨⟨_,l,fun p f=>?_,fun p f=>?_⟩,fun p=>?_⟩
 ·unfold dX;by_cases e:p=q
  ·subst e;rw [Da g (show Go.WideAt.IsKeyLit (.int .i64 p) from trivial),if_pos rfl];simpa using hn
  ·rw [B7 (zI e),if_neg e];exact j p f
 ·unfold dX;by_cases e:p=q
  ·subst e;rw [if_pos rfl];exact Cn g (show Go.WideAt.IsKeyLit (.int .i64 p) from trivial) _ _
  ·rw [if_neg e,Ci (zI e)];exact k p f
 ·have:=h p;unfold dX
  split <;> omega
theorem yV.del {a:DataW Unit} {d:Int} {n:Nat} (g:∀ q,-(nn:Int)<=T q/\T q<=(nn:Int)) (h:∀ q,uH q->(Maps.has a (.int .i64 q)=true↔T q≠0)) (i:∀ q,uH q->a.atKey (.int .i64 q) (.lit (.int .i64 0))=.lit (.int .i64 (T q)))
 (k:d=1\/d=-1) (hn:T q+d=0) (j:w'.ownsMap (H:=Unit) prog 3 (plainElem prog 3) b (nn+1) ((a.put (.int .i64 q) (.lit (.int .i64 (T q+d)))).del (.int .i64 q))):yV w' b (nn+1) (dX T q d):=by
 refine ⟨⟨_,j,fun p f=>?_,fun p f=>?_⟩,fun p=>?_⟩
 ·unfold dX;by_cases e:p=q
  ·subst e;rw [Maps.has_del_same,if_pos rfl];simpa using hn
  ·rw [Maps.has_del_other (zI e),B7 (zI e),if_neg e];exact h p f
 ·unfold dX;by_cases e:p=q
  ·subst e;rw [if_pos rfl,hn];exact Maps.atKey_del_same _
  ·rw [if_neg e,Maps.atKey_del_other (zI e),Ci (zI e)];exact i p f
 ·have:=g p;unfold dX
  split <;> omega
end
abbrev CgW:=SlW Int×Int
def cCg (g:CgW):List Value:=[g.1.val,.int .i64 g.2]
theorem QQ (g:CgW):(cCg g).length=2:=rfl
theorem RA (g:CgW):∀ u∈cCg g,u.oneCell'=true:=by intro u a;simp only [cCg,Av,Cd,or_false] at a;rcases a with rfl | rfl <;> rfl
def aV (T:Int->Int) (d:Int) (rs:List Int):Int->Int:=rs.foldl (fun T r=>dX T r d) T
def nL (T:Int->Int) (L:List CgW):Int->Int:=L.foldl (fun T g=>aV T g.2 g.1.L) T
theorem uEl (T:Int->Int) (d:Int) (rs:List Int) (r:Int):aV T d (rs++[r])=dX (aV T d rs) r d:=by unfold aV;rw [Fb];rfl
theorem VO (T:Int->Int) (L:List CgW) (g:CgW):nL T (L++[g])=aV (nL T L) g.2 g.1.L:=by unfold nL;rw [Fb];rfl
theorem PW (d:Int):∀ (a:List Int) (T:Int->Int) (q:Int),aV T d a q=T q+d*(a.count q:Int)
 | [],T,q=>by simp [aV]
 | r :: a,T,q=>by
   have f:=PW d a (dX T r d) q;show aV (dX T r d) d a q=_;rw [f,List.count_cons];unfold dX;by_cases e:q=r
   ·subst e;rw [if_pos rfl,if_pos nF]
    push_cast
    rw [Int.mul_add,Int.mul_one];omega
   ·rw [if_neg e,if_neg (by simpa using fun h=>e h.symm),Dl]
def pZ (L:List CgW) (q:Int):Int:=(L.map fun g=>g.2*(g.1.L.count q:Int)).sum
theorem LC:∀ (L:List CgW) (T:Int->Int) (q:Int),nL T L q=T q+pZ L q
 | [],T,q=>by simp [nL,pZ]
 | g :: L,T,q=>by
   have a:=LC L (aV T g.2 g.1.L) q;show nL (aV T g.2 g.1.L) L q=_;rw [a,PW];unfold pZ;rw [C6,Gh];omega
theorem VU (L M:List CgW) (q:Int):pZ (L++M) q=pZ L q+pZ M q:=by unfold pZ;rw [By,Ft]
def xQ (L:List CgW):Nat:=(L.map fun g=>g.1.n).sum
theorem LS (L:List CgW) (g:CgW):xQ (L++[g])=xQ L+g.1.n:=by unfold xQ;rw [By,Ft];simp
theorem NA {L:List CgW} (j:Nat):xQ (L.take j)<=xQ L:=by
 have h:=congrArg xQ (Fj j L);unfold xQ at *;rw [By,Ft] at h;omega
def eK (T a:Int->Int):Prop:=∀ q,a q≠0↔T q≠0
theorem eK.add {T a:Int->Int} {r d:Int} (h:eK T a) (f:a r≠0) (g:a r+d≠0):eK T (dX a r d):=fun q=>by
 unfold dX;by_cases e:q=r
 ·subst e;rw [if_pos rfl];exact ⟨fun _=>(h q).1 f,fun _=>g⟩
 ·rw [if_neg e];exact h q
def sN (w:World):World:=(w.alloc (.map #[] 0)).alloc (.cells #[.map (some w.heap.size)] 245)
theorem rK (w:World):Ab w (sN w):=((Below.refl _ _).alloc (Ae _) _).alloc nF _
theorem BR (w:World):(sN w).heap.size=w.heap.size+2:=by simp [sN]
theorem uD4 (w:World) (a:List Int):MR w.heap.size a (sN w) fun _=>False:=by
 refine ⟨by simp [sN,go_sem],by rw [BR];omega,0,.map [],(Cu _ _ _ _).alloc _,fun q _=>?_,fun q h=>h.elim⟩;exact ⟨fun h=>by simp [Maps.has] at h,fun h=>h.elim⟩
def uHv (w:World) (D:Int->Prop) (e:Ending) (w':World):Prop:=∃ A n c a,e=.returned (.slice A n c)/\n<=c/\c<=maxLen/\w'.ownsRow w.heap.size 3 1 (.slice A n c) n (vC a)/\uHm a/\(∀ q,q∈a↔D q)/\Ab w w'
theorem sO {w:World} {base:Nat} {e:TypeId} {size n:Nat} {v:Value} {xs:List Value} (h:w.ownsRow base e size v n xs):∃ A c,v=.slice A n c/\n<=c/\c<=maxLen:=by
 rcases h.2 with ⟨rfl,a⟩ | ⟨g,d,f,rfl,_,_,i,j,_⟩
 ·exact ⟨none,0,by rw [a],bB,Am _⟩
 ·exact ⟨_,_,rfl,i,j⟩
theorem SE (w:World) (x:Int) (t:TypeId):∀ j u,(vC [x])[j]?=some u->(w.alloc (.cells #[.int .i64 x] t)).cell? ((⟨w.heap.size,0,none⟩:Addr).add j)=some u:=
 Bd (heap_alloc_new w _)
theorem OL (A:Option Addr) (n c:Nat) (i:Int) (w:World) (M:List Int) (aw:M.length<=65535) (D:Int->Prop) (hD:∀ q,D q->uH q)
 (hc:Calls prog 165 #[.slice A n c,.int .i64 i,.func (.func 166) #[] #[.pointer (some ⟨w.heap.size+1,0,none⟩)]] (sN w) fun e w'=>(∃ b,e=.returned (.bool b))/\MR w.heap.size M w' D/\Turn (fun k=>k=w.heap.size) (sN w) w') :
 Calls prog 119 #[.slice A n c,.int .i64 i] w (uHv w D):=by
 obtain ⟨i0,hi,ac,ad,ae⟩:=info_parts qY;have HC:=uA hc;have HW:=uA (rK w);have HD:=uA hD;unfold sN at HC;have af:=@run_makeMap prog;clear hc hD;go_enter func119,ntmps119
 go_wp2_with fail
 refine HC.o.mono ?_;rintro e r ⟨⟨b,rfl⟩,hm,ht⟩;have f:=uA ((HW.o.trans (ht.below (B:=w.heap.size) (by simp;omega) fun k hk=>by omega)));have c1:=hm.1;obtain ⟨G,t,hh⟩:=hm.few;have ax:=hm.2.1;have HH:=uA hh;have HO:=uA t;clear hm ht hh t af HC;go_wp2_with (at_range;refine wpList_range_own _ rfl _ 245 rfl 3 4 zS BJ _ w.heap.size M.length G rfl HO.o ?_;intro w0 u N O;have ag:=uA N;have ah:=uA u;have P:r.heap.size < w0.heap.size:=(by rw [O];omega);clear N u O)
 have ai:=uA (f.o.grown ag.o f.o.size (fun j Q=>by cases Q));go_frame
 go_loopw [6] (fun v wr=>∃ (g:Lit->Bool) (s m:Nat) (R:List Int),wr.ranges prog 3 (plainElem prog 4) w.heap.size r.heap.size M.length G g s/\m+s<=Maps.size G /\
  wr.ownsRow (r.heap.size+1) 3 1 v m (vC R)/\Hdd (tG G g R)/\Ab w wr/\r.heap.size < wr.heap.size) (fun _ wr=>wr.rangeLeft w.heap.size r.heap.size)
 case atStart=>exact ⟨_,_,0,[],ah.o,nF,Bv _ _ _ _,tG.start G,ai.o,P⟩
 case round=>
  obtain ⟨g,s,m,R,S,ay,z,H,hb,aj⟩:=hrel;have U:=uA S;have I:=uA z;have HB:=uA hb;have au:Maps.size G<=65535:=by have:=HO.o.size_le;omega
  clear S z hb;go_wp2_with (at_next;refine wpList_next_ranges _ rfl _ rfl 3 zS (plainElem prog 4) (Value.int .i64) (fun c:Value=>c) (fun az kl hk=>by obtain ⟨x,hx,_⟩:=Maps.keyOf_int_inv underlying3 hk;exact ⟨x,hx⟩) (fun v y hv=>⟨v,rfl⟩) w.heap.size r.heap.size M.length G g s rfl U.o ?_ ?_)
  ·intro b0 V;have ak:=uA V;clear V;go_wp2_with fail
   refine (gD I.o bB).mono ?_;rintro e w2 ⟨rfl,a,W⟩;obtain ⟨A2,c2,rfl,X,Y⟩:=sO a;have d:=uA (uI a (base':=w.heap.size) (by have:=f.o.size;omega));have l:=uA (HB.o.trans ((W bB).mono (by have:=f.o.size;omega)));clear a W;go_wp2_with fail
   go_ret;refine ⟨A2,m,c2,_,rfl,X,Y,d.o,BD H.o.1,fun q=>?_,l.o⟩;rw [(E2 R _).mem_iff,H.o.2 q,ak.o];constructor
   ·rintro ⟨Z,_⟩;obtain ⟨es,al,_⟩:=HO.o.entries zS;obtain ⟨am,a0,an⟩:=HO.o.keysOf;subst al;obtain rfl:es=am:=by simpa using a0
    rw [Maps.has_eq,Em] at Z;obtain ⟨p,hp,a1⟩:=Z;obtain ⟨v,hv⟩:=an p hp;obtain ⟨y,_,hy,hw⟩:=Maps.keyOf_int_inv underlying3 hv;rw [hy] at a1;have ao:y=q:=(by simpa [Lit.sameKey] using a1);subst ao;refine (HH.o y (fP hw)).1 ?_;rw [Maps.has_eq,Em];exact ⟨p,hp,by rw [hy];simp [Lit.sameKey]⟩
   ·intro Z;exact ⟨(HH.o q (HD.o q Z)).2 Z,rfl⟩
  ·intro x cc kl yd yp w2 a2 C a3 hv a4 E a5 J a6 b1;obtain ⟨x',ex,rfl,b2⟩:=Maps.keyOf_int_inv underlying3 C;cases ex;have ap:some r.heap.size≠u6.ownBlock:=fun e=>by have:=(I.o.lt _ e.symm).1;omega
   have a:=I.o.kept J (.inr (fun e=>ap e.symm));have d:=uA a;have a7:=uA E;have l:=uA (HB.o.grown J HB.o.size (fun j Q=>by cases Q;exact f.o.size));have aq:=uA (H.o.step a3 a4);have av:r.heap.size < w2.heap.size:=by rw [a6];exact aj
   clear a6 a E J a3 a4 C hv;go_wp2_with (at_builtin;refine wpList_append_own_at _ rfl _ _ 60 rfl (r.heap.size+1) 3 i0 (.int .i64 0) 1 8 underlying60 hi ac ad ae rfl eW _ m _ rfl (d.o.alloc _) ⟨w2.heap.size,0,none⟩ 1 1 (vC [x]) rfl rfl (SE w2 x 3) (ints_oneCell _ _) (by unfold maxLen;omega) bB (by simp;omega) ?_;intro v3 w3 o a8 _ a9;have ar:=uA o;have K:=uA a8;clear o a8 a9)
   have aa:some r.heap.size≠u6.ownBlock:=fun e=>by have:=(d.o.lt _ e.symm).1;omega
   have ab:some w.heap.size≠u6.ownBlock:=fun e=>by have:=(d.o.lt _ e.symm).1;have:=f.o.size;omega
   have F:=(a7.o.alloc _).kept K.o ab aa;go_roundw
   case rel=>
    refine ⟨_,a2,m+1,R++[x],F,bB,?_,aq.o,?_,?_⟩
    ·have h:=ar.o;rw [<-By] at h;exact h
    ·exact (l.o.alloc l.o.size _).grown K.o (by have:=l.o.size;simp;omega) (fun j Q=>by have:=(d.o.lt _ Q).1;have:=f.o.size;omega)
    ·have:=K.o.size;simp at this;omega
   case measure=>rw [F.left_eq,U.o.left_eq];exact a5
section
variable {A:Option Addr} {n c:Nat} {L:List TyW} {w:World} {B:Nat} (hA:yH w B A n L) (hB:B<=w.heap.size) (hnc:n<=c) (hcm:c<=maxLen) (hn:n<=65535)
include hA hB hnc hcm hn
theorem PQ {r:Int} (a:TyOk (tys L) r) (y:r<=9223372036854775807) (i:Nat) (z:i < n):Calls prog 119 #[.slice A n c,.int .i64 (i:Int)] w (uHv w (wO (tys L) (i:Int))):=by
 have d:∃ x,L[i]?=some x:=⟨_,Ad (by have:=hA.len;omega)⟩;obtain ⟨x,hx⟩:=d;have g:=rK w;have j:=BR w;refine OL A n c _ w ((tys L).map Ty.region) (by rw [Ao,Ao,hA.len];exact hn) _ (fun q l=>by have:=wO.bd a l;unfold uH;omega)
  ((kE (w:=sN w) (Sx:=fun k=>k=w.heap.size) (D0:=fun _=>False) (men:=wO (tys L)) (val:=fun _=>true) (M:=MR w.heap.size ((tys L).map Ty.region)) (hA.below (g.mono hB)) bB hnc hcm hn a (fun k E=>by omega)
    (fun F m G H D h o=>h.turn o (fun e=>by omega) (fun e=>by omega)) (uD4 w _)
    (fun p=>uD7 (C:=sH (sN w) A n c L (fun k=>k=w.heap.size) 166 #[.pointer (some ⟨w.heap.size+1,0,none⟩)]) (s:=w.heap.size) a rfl rfl p (fun k=>Iff.rfl) (by show _ < (sN w).heap.size+2;omega) hA.len) trivial i x hx).mono ?_)
 rintro e w' ⟨t,f,u⟩;have v:(fun q=>False\/wO (tys L) (i:Int) q)=wO (tys L) (i:Int):=by funext q;simp
 rw [v] at f;exact ⟨⟨_,t⟩,f,u⟩
end
end Go.Proofs.YtnkjbjkoffgocaaGreatDoor
