import Derived.Test.YtnkjbjkoffgocaaGreatDoorQ27
set_option linter.unusedVariables false
set_option linter.unusedSimpArgs false
set_option maxRecDepth 100000
set_option maxHeartbeats 16000000
namespace Go.Proofs.YtnkjbjkoffgocaaGreatDoor
open Tryz Go.RowKit
def uIt (l:List BkV) (x:Int) (lo:Nat) (e:Ending) (w':World):Prop:=∃ (A:Option Addr) (m c:Nat) (J:List wM),e=.returned (.slice A m c)/\w'.ownsRow lo 203 2 (.slice A m c) m (J.flatMap vT)/\m<=2000/\oC (uF l) J/\∀ p,p < uF l->xW J p=if lvB l x p=true then 1 else 0
theorem TX {w:World} {l:List BkV} {fb:Nat} {sA:Option Addr} {sc bb m b1 b2:Nat} {S:Int->SlW (Nat×Bool)} {K:List Int} {L:List (SlW Int)} (h:JX w l fb sA sc bb m b1 b2 S K L) {x:Int} (hx:uH x) (hC:uF l<=1000) (hE:(xF l).length<=200000) :
 Calls prog 120 #[.pointer (some ⟨fb,0,none⟩),.int .i64 x] w fun e w'=>uIt l x w.heap.size e w'/\Ab w w':=by
 have dy:l.length<=uF l:=nW l;have b5:=uA (h.sit.look MX (gU w) hx);have P:=h.sit.row x;have b6:=h.sit.len x;have an:=h.sites x;have ao:=uA fun (w':World) (y:Ab w w')=>h.below y
 have f2:=h.box.q 2 rfl;have HF:=uA fun (w':World) (y:Ab w w')=>(show w'.cell? ⟨fb,0,none⟩=some (.slice sA (l.length+1) sc)/\w'.cell? ⟨fb,1,none⟩=some (.slice (some ⟨bb,0,none⟩) l.length l.length) from
  ⟨(y.cell (p:=⟨fb,0,none⟩) h.box.lt).trans (h.box.q 0 rfl),(y.cell (p:=⟨fb,1,none⟩) h.box.lt).trans (h.box.q 1 rfl)⟩)
 obtain ⟨sb,so,rfl,cj,ck⟩:=h.st.2 (G8 _);have bq:=uA fun (w':World) (y:Ab w w') (i:Nat) (hi:i < l.length+1)=>(show w'.cell? ⟨sb,so+i,none⟩=some (.int .i64 (uD l i:Int)) from (y.cell (p:=⟨sb,so+i,none⟩) cj).trans (ck i _ (by rw [Ar,sF l hi];rfl)))
 obtain ⟨s,hs⟩:∃ s,S x=s:=⟨_,rfl⟩;rw [hs] at b5 P b6 an;obtain ⟨tA,sn,tc,sL⟩:=s;have b5:Hdd ((Instr.lookup 256 (.map (some m)) (.int .i64 x) false).run prog w=.ok (.slice tA sn tc) w):=b5.o;have es:sn<=1000:=by have h1:=fM l x (uF l);have h2:sL=_:=an;rw [<-h2] at h1;have h3:sL.length=sn:=b6;omega
 have cl:Hdd (sL.length=sn):=b6;have b7:Hdd (sL=vF l x (uF l)):=an;have cm:Hdd (uM w w.heap.size 2 nP tA sn sL):=uM.of_own BT eW P;have HZ:Hdd (∀ z∈sL,z.1<=100000):=fun z hz=>by
  have h2:sL=vF l x (uF l):=an;rw [h2] at hz;obtain ⟨z1,z2⟩:=z;have h3:=(zF.1 hz).1;show z1<=100000;omega
 obtain ⟨i0,hi,br,bs,bt⟩:=info_parts PY;obtain ⟨C,bu⟩:∃ C,uF l=C:=⟨_,rfl⟩;obtain ⟨R,b8⟩:∃ n,l.length=n:=⟨_,rfl⟩;have D:=uA b8;rw [b8] at HF bq;have cn:=uA fun (j:Nat) (hj:j < R)=>h.bef j (by rw [b8];exact hj)
 have b9:=uA bu;have dz:C<=1000:=bu ▸ hC;have ek:R<=C:=by omega
 have HE:=uA hE;clear h P b6 an hs dy hC bu b8 hE hx cj ck;go_enter func120,ntmps120
 go_wp2;refine wp_scope_straight ?_;go_wp2_with (at_lookup;refine uP _ rfl _ _ _ _ rfl _ _ _ rfl rfl b5.o ?_)
 clear f2;have e2:=uA (Below.refl w.heap.size w);go_loopw [6,25] (fun v i wr=>∃ (j:Nat) (T:Option Addr) (U V:Nat),i=.int .i64 (j:Int)/\v=.slice T U V/\j<=sn/\U<=j/\Hdd (wr.ownsRow w.heap.size 203 2 (.slice T U V) U ((vZ (sL.take j)).flatMap vT))/\Hdd (Ab w wr)) (fun _ i _=>sn - (intOf i).toNat)
 case atStart=>exact ⟨0,none,0,0,rfl,rfl,Am _,Ae _,uA (Bv _ _ _ _),e2⟩
 case round=>
  obtain ⟨j,T,U,V,rfl,rfl,hj,et,HO,H⟩:=hrel;by_cases ba:j < sn
  ·have co:(j:Int) < (sn:Int):=bB;have e3:(0:Int)<=(j:Int):=bB;obtain ⟨z,hz⟩:∃ z,sL[j]?=some z:=⟨_,Ad (by rw [cl.o];exact ba)⟩;obtain ⟨g0,o0,hA,bv,I⟩:=cm.o.at_ hz;subst hA;have cp:=HZ.o z (Aj hz);have cq:=uA (show vZ (sL.take (j+1))=vZ (sL.take j)++if z.2=true then [(z.1,z.1+1)] else [] by rw [Bm,hz];exact OR _ _);obtain ⟨o,zu⟩:=z;have cp:o<=100000:=cp;have c0:wr.cell? ⟨g0,o0+j*2,none⟩=some (.int .i64 (o:Int)):=(H.o.cell (p:=⟨g0,o0+j*2,none⟩) bv).trans (by simpa using I 0 _ rfl);have c1:wr.cell? ⟨g0,o0+j*2+1,none⟩=some (.bool zu):=(H.o.cell (p:=⟨g0,o0+j*2+1,none⟩) bv).trans (I 1 _ rfl);have a2:=H.o.size;have t:=uB wr (.cells #[.int .i64 (o:Int),.bool zu] 272);have cr:=uA (uC HO.o t);have cs:=uA (Bx.new wr [.int .i64 (o:Int),.bool zu] 272);have bw:=uA (H.o.trans (t.mono a2));have y0:=cs.o.q 0 rfl;have y1:=cs.o.q 1 rfl;have s2:IntKind.i64.wrap ((o:Int)+1)=(o:Int)+1:=vV _ bB bB;clear hz bv I t;cases zu
   ·go_wp2_with fail
    go_roundw
    case rel=>exact ⟨j+1,T,U,V,by go_num,rfl,ba,bB,uA (show _ by rw [cq.o];simpa using cr.o),bw⟩
    case measure=>simp [intOf];omega
   ·have ct:=uA (show Ab w ((wr.alloc (.cells #[.int .i64 (o:Int),.bool true] 272)).alloc (.cells #[.int .i64 (o:Int),.int .i64 ((o:Int)+1)] 203))/\((wr.alloc (.cells #[.int .i64 (o:Int),.bool true] 272)).alloc (.cells #[.int .i64 (o:Int),.int .i64 ((o:Int)+1)] 203)).ownsRow w.heap.size 203 2 (.slice T U V) U ((vZ (sL.take j)).flatMap vT)/\(∀ j u,(vT (o,o+1))[j]?=some u->((wr.alloc (.cells #[.int .i64 (o:Int),.bool true] 272)).alloc (.cells #[.int .i64 (o:Int),.int .i64 ((o:Int)+1)] 203)).cell? ((⟨wr.heap.size+1,0,none⟩:Addr).add j)=some u) from by
     have ak:=uB (wr.alloc (.cells #[.int .i64 (o:Int),.bool true] 272)) (.cells #[.int .i64 (o:Int),.int .i64 ((o:Int)+1)] 203);have hn:=heap_alloc_new (wr.alloc (.cells #[.int .i64 (o:Int),.bool true] 272)) (.cells #[.int .i64 (o:Int),.int .i64 ((o:Int)+1)] 203);rw [Ak] at hn;exact ⟨(Aa bw.o ak),uC cr.o ak,Bd hn⟩)
    obtain ⟨q1,q2,q3⟩:=ct.o;have Q1:=uA q1;clear q1;go_wp2_with (at_builtin;refine wpList_append_lies _ rfl _ _ 200 rfl w.heap.size 203 i0 _ 2 16 underlying200 hi br bs bt rfl eW (.slice T U V) U ((vZ (sL.take j)).flatMap vT) rfl q2 ⟨wr.heap.size+1,0,none⟩ 1 1 (vT (o,o+1)) rfl rfl q3 (qG _) eW (by unfold maxLen;omega) bB Q1.o.size _ rfl ?_;intro g a6 w7 a E F ap)
    have a0:=uA (Q1.o.grown E Q1.o.size fun b hb=>(q2.lt b hb).1);have e4:=uA (show w7.ownsRow w.heap.size 203 2 (.slice (some ⟨g,0,none⟩) (U+1) a6) (U+1) ((vZ (sL.take (j+1))).flatMap vT) by rw [cq.o,if_pos rfl,Bk];exact a);clear a E F ap q2 q3;go_roundw
    case rel=>exact ⟨j+1,_,U+1,a6,by go_num,rfl,ba,bB,e4,a0⟩
    case measure=>simp [intOf];omega
  ·have co:¬(j:Int) < (sn:Int):=bB;obtain rfl:sn=j:=by omega
   have cu:=uA (show wr.ownsRow w.heap.size 203 2 (.slice T U V) U ((vZ (vF l x (uF l))).flatMap vT) from by
    have h:=HO.o
    rwa [Au (by rw [cl.o];exact Ae _),b7.o] at h)
   have e5:(vZ (vF l x (uF l))).length<=1000:=Ai (II _) (Ai (fM _ _ _) (by rw [b9.o];exact dz));obtain ⟨u,hu⟩:∃ u,(vZ (vF l x (uF l))).length=u:=⟨_,rfl⟩;have cv:=uA (yA.start l x);have bx:xR (wr.alloc (.map #[] 0)) w.heap.size wr.heap.size [] (vZ (vF l x (uF l))) [] [] (.slice none 0 0) (.slice T U V) 0 U:=
    ⟨Bv _ _ _ _,uC cu.o (uB wr _),(fun b hb=>by cases hb),wC.new wr,fun i=>by simp⟩
   have a3:=uA bx;have G:=uA (H.o.trans ((uB wr (.map #[] 0)).mono H.o.size));have cw:=bx.l6;have aq:=H.o.size;rw [hu] at cv e5 cw;have e6:=uA (show 2*(R - ([]:List Nat).length)+(vZ (vF l x (uF l))).length<=2*R+u by rw [hu];simp);obtain ⟨eb,bc⟩:∃ eb,wr.heap.size=eb:=⟨_,rfl⟩;rw [bc] at aq;have e7:=@run_makeMap prog;clear ba HO cu bx;go_wp2;clear e7;apply wp_label;go_wp2;have G:Hdd (Ab w (wr.alloc (.map #[] 0))):=G.o;have a3:Hdd (xR (wr.alloc (.map #[] 0)) w.heap.size wr.heap.size [] (vZ (vF l x (uF l))) [] [] (.slice none 0 0) (.slice T U V) 0 U):=a3.o;generalize wr.alloc (.map #[] 0)=w9 at *;rw [bc] at *;clear bc H;go_loopg [5,6] (2*R+u) (fun g v5 v6 wr=>∃ (X:List Nat) (W:List wM) (Y:List (wM×Nat)) (A5:Option Addr) (n5 c5:Nat) (T:Option Addr) (n6 V:Nat) (N:List Int),v5=.slice A5 n5 c5/\v6=.slice T n6 V/\Hdd (yA l x u X W Y [])/\Hdd (xR wr w.heap.size eb (mD Y) W X N (.slice A5 n5 c5) (.slice T n6 V) n5 n6)/\Hdd (Ab w wr)/\Hdd (N.length<=Y.length*200000)/\Hdd (2*(R - X.length)+W.length<=g)/\Hdd (g<=2*R+u))
   case atStart=>exact ⟨[],_,[],none,0,0,T,U,V,[],rfl,rfl,cv,a3,G,Am _,e6,Ae _⟩
   case round=>
    obtain ⟨X,W,Y,A5,n5,c5,B6,n6,d6,N,rfl,rfl,HS,HM,H,O,HG,cx⟩:=hrel;have cy:=HM.o.l5;have bd:=HM.o.l6;have a7:=HS.o.len;have bz:=HS.o.xlen;rw [D.o] at bz;have e8:=UE Y;have eu:n5<=2000:=bB;by_cases h0:W=[]
    ·subst h0;obtain rfl:n6=0:=bd.symm;have HJ:=uA (MZ (C:=C) HM.o.r5 bB bB (by rw [<-b9.o];exact HS.o.runs) H.o.size);have cz:=uA fun (p:Nat) (hp:p < uF l)=>HS.o.fin hp
     have a2:=H.o.size;clear cy bd a7 bz e8 HG cx O HS HM;go_wp2_with fail
     refine HJ.o.mono ?_;rintro e w8 ⟨⟨A,m8,c8,J,rfl,d0,ev,d1,d2⟩,d3⟩;have e9:=uA (H.o.trans d3);have ea:=uA (uI d0 a2);have ec:=uA d1;have ed:=uA d2;clear d0 d3 d1 d2;go_wp2;rw [Do];go_ret;exact ⟨⟨A,m8,c8,J,rfl,ea.o,bB,by rw [b9.o];exact ec.o,fun p hp=>(ed.o p).trans (cz.o p hp)⟩,e9.o⟩
    ·obtain ⟨Wi,r,rfl⟩:∃ M y,W=M++[y]:=⟨W.dropLast,W.getLast h0,(Fs h0).symm⟩;obtain ⟨k,hk⟩:∃ k,Wi.length=k:=⟨_,rfl⟩;obtain rfl:n6=k+1:=by rw [<-bd,Aw,hk];rfl
     have c2:=(HS.o.all r).1 (.inl nF);obtain ⟨j,kk,a4,d4,hj,d5,d7,d8⟩:=c2.block fun i hi=>(HS.o.xok i hi).1
     have d9:r.1<=r.2:=by
      rcases c2 with ⟨q,_,_,rfl⟩ | ⟨i,_,rfl⟩
      ·exact Cc _
      ·exact Ae _
     obtain ⟨ra,rd⟩:=r;have d4:0 < rd:=d4;obtain ⟨d,rfl⟩:∃ d,rd=d+1:=⟨rd - 1,bB⟩;have a4:wA l d=some (j,kk):=a4;have d9:ra<=d+1:=d9;have d8:d+1<=C:=by rw [<-b9.o];exact d8
     have ag:=uA (And.intro d5 d7);have el:=uA a4;have hj:j < R:=by rw [<-D.o];exact hj
     have hg:=HG.o;have ew:=cx.o;rw [Aw,hk] at hg a7;have hg:2*(R - X.length)+(k+1)<=gk:=hg;have a7:k+1+Y.length=u+X.length:=a7;obtain ⟨g6,rfl,em,bj⟩:=bK HM.o.r6 (G8 k);obtain ⟨gv,zv,a8,_,I⟩:=(uM.of_own wN eW HM.o.r6).at_ (i:=k) (x:=(ra,d+1)) (by rw [<-hk];simp);injection a8 with a8;injection a8 with a8 ee;subst a8 ee;have c0:wr.cell? ⟨g6,k*2,none⟩=some (.int .i64 (ra:Int)):=(by simpa using I 0 _ rfl);have c1:wr.cell? ⟨g6,k*2+1,none⟩=some (.int .i64 ((d:Int)+1)):=(by simpa using I 1 _ rfl);obtain ⟨eo,da⟩:k+1<=d6/\d6<=maxLen:=by
      have h:=yX (s:=⟨some ⟨g6,0,none⟩,k+1,d6,Wi++[(ra,d+1)]⟩) (Q:=fun _=>True) wN eW HM.o.r6 (fun _ _=>trivial);exact ⟨h.nc,h.cm⟩
     unfold maxLen at da;have s1:IntKind.i64.wrap ((k:Int)+1 - 1)=(k:Int):=by rw [show (k:Int)+1 - 1=k by omega];exact vV _ bB bB
     have s2:IntKind.i64.wrap ((d:Int)+1 - 1)=(d:Int):=by rw [show (d:Int)+1 - 1=d by omega];exact vV _ bB bB
     have ex:((k+1:Nat):Int) > 0:=bB;have ey:(k:Int) < ((k+1:Nat):Int):=bB;have ez:(0:Int)<=(k:Int):=bB;have f3:k<=d6:=bB;have db:=uA HM.o.pop;have dc:=(HF.o wr H.o).1;have bk:fb < w.heap.size:=(ao.o w (Below.refl _ _)).box.lt;have bl:=uA (sX (l:=l) (fb:=fb) (p:=d) wr (B:=wr.heap.size) (by rw [D.o];exact dc) (ao.o wr H.o).st (by rw [D.o];omega) a4);have bm:=uA fun (w':World) (y:Ab w w')=>VE (l:=l) (fb:=fb) (sc:=sc) ra (d+1) j tA sn tc sL w' (Ap bk y.size) (by rw [D.o];exact (HF.o w' y).1) (ao.o w' y).st (by rw [D.o];omega) ((cm.o.below y).more y.size) (by rw [b7.o];exact lQ _ _ _) bB bB (fun z hz=>Ai (HZ.o z hz) eW)
     have HK:=uA hk;have f4:=uA a7;have f5:=uA bz;have a2:=H.o.size;have t:=uB wr (.cells #[.int .i64 (ra:Int),.int .i64 ((d:Int)+1)] 203);clear h0 cy bd c2 a4 d5 d7 I dc bk hk t;go_wp2_with fail
     refine bl.o.mono ?_;rintro e w1 ⟨rfl,q1,rfl⟩;have a1:Below wr.heap.size wr (wr.drewN q1):=xZ wr q1;have ar:=uA (H.o.trans (a1.mono a2));have c3:=uA (db.o.below a1);have e0:=(a1.cell (p:=⟨g6,k*2,none⟩) bj).trans c0;have e1:=(a1.cell (p:=⟨g6,k*2+1,none⟩) bj).trans c1;generalize wr.drewN q1=w1 at *;have ep:=a1.size;clear a1 c0 c1 s2 db;go_wp2_with fail
     refine (bm.o w1 ar.o).mono ?_;rintro e w2 ⟨⟨b,rfl,dd⟩,t⟩;have c4:=uA dd;have ak:=uB w2 (.cells #[.int .i64 (b:Int),.int .i64 ((d:Int)+1)] 203);have au:=uA ((Aa ar.o t).trans (ak.mono (Ai ar.o.size t.size)));have av:=uA ((c3.o.below t).below ak);have al:=uA (Bx.new w2 [.int .i64 (b:Int),.int .i64 ((d:Int)+1)] 203);have y0:=al.o.q 0 rfl;have y1:=al.o.q 1 rfl;have eq:w.heap.size<=w2.heap.size:=Ai ar.o.size t.size;have de:Hdd (∀ b,(Value.slice A5 n5 c5).ownBlock=some b->b < w2.heap.size):=fun b hb=>((c3.o.below t).r5.lt b hb).2;clear dd t ak e0 e1 bm bl c3;have aw:=uA (YW Y ((ra,d+1),b));by_cases c9:b < d+1
     case' pos=>
      have ax:(b:Int) < (d:Int)+1:=bB;obtain ⟨q1,q2,q3⟩:Ab (w2.alloc (.cells #[.int .i64 (b:Int),.int .i64 ((d:Int)+1)] 203)) ((w2.alloc (.cells #[.int .i64 (b:Int),.int .i64 ((d:Int)+1)] 203)).alloc (.cells #[.int .i64 (b:Int),.int .i64 ((d:Int)+1)] 203))/\((w2.alloc (.cells #[.int .i64 (b:Int),.int .i64 ((d:Int)+1)] 203)).alloc (.cells #[.int .i64 (b:Int),.int .i64 ((d:Int)+1)] 203)).ownsRow w.heap.size 203 2 (.slice A5 n5 c5) n5 ((mD Y).flatMap vT)/\(∀ j u,(vT (b,d+1))[j]?=some u->((w2.alloc (.cells #[.int .i64 (b:Int),.int .i64 ((d:Int)+1)] 203)).alloc (.cells #[.int .i64 (b:Int),.int .i64 ((d:Int)+1)] 203)).cell? ((⟨w2.heap.size+1,0,none⟩:Addr).add j)=some u):=by
       have a9:=uB (w2.alloc (.cells #[.int .i64 (b:Int),.int .i64 ((d:Int)+1)] 203)) (.cells #[.int .i64 (b:Int),.int .i64 ((d:Int)+1)] 203);have hn:=heap_alloc_new (w2.alloc (.cells #[.int .i64 (b:Int),.int .i64 ((d:Int)+1)] 203)) (.cells #[.int .i64 (b:Int),.int .i64 ((d:Int)+1)] 203);rw [Ak] at hn;exact ⟨a9,uC av.o.r5 a9,Bd hn⟩
      have Q1:=uA q1;have Z:w.heap.size<=((w2.alloc (.cells #[.int .i64 (b:Int),.int .i64 ((d:Int)+1)] 203)).alloc (.cells #[.int .i64 (b:Int),.int .i64 ((d:Int)+1)] 203)).heap.size:=Ai au.o.size q1.size;clear q1;go_wp2_with (at_builtin;refine wpList_append_lies _ rfl _ _ 200 rfl w.heap.size 203 i0 _ 2 16 underlying200 hi br bs bt rfl eW (.slice A5 n5 c5) n5 ((mD Y).flatMap vT) rfl q2 ⟨w2.heap.size+1,0,none⟩ 1 1 (vT (b,d+1)) rfl rfl q3 (qG _) eW (by unfold maxLen;omega) bB Z _ rfl ?_;intro g a6 w7 a E F ap)
      have df:=uA (av.o.app5 (r:=(b,d+1)) Q1.o E a F);have a0:=uA ((Aa au.o Q1.o).grown E Z fun b hb=>(q2.lt b hb).1);have ca:=al.o.below Q1.o;have cb:Hdd (Bx w7 w2.heap.size [.int .i64 (b:Int),.int .i64 ((d:Int)+1)] 203):=(E.block w2.heap.size (Ag.1 ca).1 fun e=>Cg _ (de.o _ e.symm)).trans ca;rw [if_pos (show (((ra,d+1),b):wM×Nat).2 < (((ra,d+1),b):wM×Nat).1.2 from c9)] at aw;have aa:=uA (show xR w7 w.heap.size eb (mD (Y++[((ra,d+1),b)])) Wi X N (.slice (some ⟨g,0,none⟩) (n5+1) a6) (.slice (some ⟨g6,0,none⟩) k d6) (n5+1) k by rw [aw.o];exact df.o);clear a E F ap q2 q3 ca df av al Q1 ax Z y0 y1;obtain ⟨A7,be⟩:∃ A:Option Addr,A=some ⟨g,0,none⟩:=⟨_,rfl⟩;obtain ⟨n7,bf⟩:∃ n:Nat,n=n5+1:=⟨_,rfl⟩;rw [<-be,<- bf] at aa ⊢;obtain ⟨c7,bg⟩:∃ c:Nat,c=a6:=⟨_,rfl⟩;rw [<-bg] at aa ⊢;clear be bf bg
     case' neg=>
      have ax:¬(b:Int) < (d:Int)+1:=bB;go_wp2_with fail
      rw [if_neg (show ¬(((ra,d+1),b):wM×Nat).2 < (((ra,d+1),b):wM×Nat).1.2 from c9),B5] at aw;have aa:=av;rw [<-aw.o] at aa;have a0:=au;have cb:Hdd (Bx (w2.alloc (.cells #[.int .i64 (b:Int),.int .i64 ((d:Int)+1)] 203)) w2.heap.size [.int .i64 (b:Int),.int .i64 ((d:Int)+1)] 203):=al.o;clear av au al ax y0 y1;generalize w2.alloc (.cells #[.int .i64 (b:Int),.int .i64 ((d:Int)+1)] 203)=w7 at *;obtain ⟨A7,be⟩:∃ A:Option Addr,A=A5:=⟨_,rfl⟩;obtain ⟨n7,bf⟩:∃ n:Nat,n=n5:=⟨_,rfl⟩;obtain ⟨c7,bg⟩:∃ c:Nat,c=c5:=⟨_,rfl⟩;subst be bf bg
     all_goals
      clear c9 aw de;have bn:=a0.o.size;have y0:=cb.o.q 0 rfl;have f0:=(HF.o w7 a0.o).1;have dg:=bq.o w7 a0.o j bB;obtain ⟨fj,bh⟩:∃ f,uD l j=f:=⟨_,rfl⟩;have dh:=uA bh;rw [bh] at dg;have di:fj<=b:=bh ▸ c4.o.low;have ef:(j:Int) < ((R+1:Nat):Int):=bB;have e3:(0:Int)<=(j:Int):=bB;clear bh;by_cases cc:fj < b
      ·have a1:decide ((b:Int) > (fj:Int))=true:=decide_eq_true bB;have dj:(b:Int) > (fj:Int):=bB;have eg:=uA cc;clear cc di;go_quiet (fail)
       have ab:Ab w7 (w7.drewN nq):=xZ w7 nq;have ac:=uA (aa.o.below ab);have am:=uA (a0.o.trans (ab.mono bn));have ay:=uA (HS.o.pop (j:=j) (b:=b) (Pd:=[]) (by rw [D.o];exact hj) ag.o.1 ag.o.2 (by rw [<-b7.o];exact c4.o) (fun i hi=>by cases hi) (fun e=>absurd e (by have:=eg.o;have:=dh.o;omega)) fun _=>rfl);clear ab;go_wp2_with fail
       go_roundg (2*(R - X.length)+k)
       case rel=>exact ⟨X,Wi,Y++[((ra,d+1),b)],A7,n7,c7,some ⟨g6,0,none⟩,k,d6,N,rfl,rfl,ay,ac,am,uA (by rw [Aw];exact Ai O.o (Eg _ (C7 _ _))),(show _<=_ by rw [HK.o];exact Ae _),(show _<=_ by omega)⟩
       case measure=>omega
      ·have a1:decide ((b:Int) > (fj:Int))=false:=decide_eq_false bB;have dj:¬(b:Int) > (fj:Int):=bB;obtain rfl:b=fj:=by omega
       clear cc di;go_quiet (fail)
       have ab:Ab w7 (w7.drewN nq):=xZ w7 nq;have ac:=uA (aa.o.below ab);have am:=uA (a0.o.trans (ab.mono bn));generalize w7.drewN nq=w8 at *;have f1:=(HF.o w8 am.o).2;obtain ⟨⟨rA,rn,rc,rL⟩,cd,az⟩:=cn.o j hj;have az:rL=wL (qX l (xF l) j):=az;have g1:w8.cell? ⟨bb,j,none⟩=some (.slice rA rn rc):=(ao.o w8 am.o).grid.cell cd;have P:=(ao.o w (Below.refl _ _)).grid.own j _ cd;have dk:Hdd (uM w w.heap.size 1 uX rA rn rL):=uM.of_own vN eW P;have dl:rL.length=rn:=dk.o.1;obtain ⟨Bf,ce⟩:∃ B,qX l (xF l) j=B:=⟨_,rfl⟩;have bi:∀ i,i∈Bf↔i < l.length/\j∈bN l i:=fun i=>ce ▸ VX (by rw [D.o];exact hj)
       have f6:rn<=200000:=by
        have h1:=IN l (xF l) j;rw [<-dl,az];have h2:(wL (qX l (xF l) j)).length=(qX l (xF l) j).length:=by unfold wL;simp
        have h3:=HE.o;omega
       rw [ce] at az;subst az;have dm := uA (show Bf.length = rn by have h2:(wL Bf).length=Bf.length:=by {unfold wL;simp};omega)
       have f7:=uA bi;have ay:=uA (HS.o.pop (j:=j) (b:=b) (Pd:=Bf) (by rw [D.o];exact hj) ag.o.1 ag.o.2 (by rw [<-b7.o];exact c4.o) (fun i hi=>(bi i).1 hi) (fun _ i h1 h2=>(bi i).2 ⟨h1,h2⟩) fun e=>absurd dh.o.symm e);have f8:(j:Int) < (R:Int):=bB;have bo:=uA (show (Y++[((ra,d+1),b)]).length=Y.length+1 by simp);have eh:=O.o;have ei:=a7;have b0:=uA (show 2*(R - X.length)+Wi.length+1<=gk by rw [HK.o];omega);have bp:Hdd (N.length<=Y.length*200000+0):=Ai O.o (C7 _ _);have er:Y.length<=2000:=bB;clear ab cd P dl ce bi a1 dj dg f0 y0 ef a7 eh ei HS aa a0 cb hg;have ac:Hdd (xR w8 w.heap.size eb (mD (Y++[((ra,d+1),b)])) Wi X N (.slice A7 n7 c7) (.slice (some ⟨g6,0,none⟩) k d6) n7 k):=ac.o;obtain ⟨DD,dn⟩:∃ DD,Y++[((ra,d+1),b)]=DD:=⟨_,rfl⟩;rw [dn] at ay ac bo;clear dn;go_wp2_with fail
       go_loopw [6,94] (fun v i wr=>∃ (q:Nat) (X:List Nat) (W:List wM) (T:Option Addr) (n6 V:Nat) (N:List Int),v=.slice T n6 V/\i=.int .i64 (q:Int)/\q<=rn/\Hdd (yA l x u X W DD (Bf.drop q))/\Hdd (xR wr w.heap.size eb (mD DD) W X N (.slice A7 n7 c7) (.slice T n6 V) n7 n6)/\Hdd (Ab w wr)/\Hdd (N.length<=Y.length*200000+q)/\Hdd (2*(R - X.length)+W.length+1<=gk)) (fun _ i _=>rn - (intOf i).toNat)
       case atStart=>exact ⟨0,X,Wi,some ⟨g6,0,none⟩,k,d6,N,rfl,rfl,Am _,ay,ac,am,bp,b0⟩
       case round=>
        clear ay ac am bp b0 f1 g1;obtain ⟨q,X,W,T,n6,V,N,rfl,rfl,hq,HS,HM,H,O,HG⟩:=hrel;have a2:=H.o.size;by_cases cf:q < rn
        ·have dp:(q:Int) < (rn:Int):=bB;have f9:(0:Int)<=(q:Int):=bB;obtain ⟨i,cg⟩:∃ i,Bf[q]?=some i:=⟨_,Ad (by rw [dm.o];exact cf)⟩;have dq:Bf.drop q=i :: Bf.drop (q+1):=by
          obtain ⟨h1,h2⟩:=Ah.1 cg;rw [Cq h1,h2]
         have ch:=uA (show yA l x u X W DD (i :: Bf.drop (q+1)) by rw [<-dq];exact HS.o);have fa:i < R:=by rw [<-D.o];exact (ch.o.pok i nF).1
         obtain ⟨gr,dr,a8,ds,I⟩:=dk.o.at_ (KI cg);subst a8;have c0:wr.cell? ⟨gr,dr+q,none⟩=some (.int .i64 (i:Int)):=(H.o.cell (p:=⟨gr,dr+q,none⟩) ds).trans (by simpa using I 0 _ rfl);have dt:N.length<=1000000000:=by have:=O.o;omega
         have ah:=uA (bM HM.o.set (q:=(i:Int)) (by unfold uH;omega) dt);have bc:=HM.o.set.lt;have ai:=HM.o.mem i;clear cg dq I ds dt HS;by_cases ad:i∈X
         ·have a5:decide ((i:Int)∈N)=true:=decide_eq_true (ai.2 ad);have ae:=uA (ch.o.skip ad);have ej:=uA ad;rw [a5] at ah;clear ai ad a5;go_wp2_with fail
          refine ah.o.mono ?_;rintro e w9 ⟨rfl,b3,af⟩;have a3:=uA (HM.o.add (i:=i) (X':=X) af b3 fun j=>⟨.inl,fun h=>h.elim id fun e=>e ▸ ej.o⟩);have G:=uA (H.o.trans (af.below a2 fun k hk=>by rw [hk];exact aq));have b4:=uA (show (N++[(i:Int)]).length<=Y.length*200000+(q+1) by rw [Aw,Cv];have h:=O.o;omega);clear b3 af c0;go_wp2_with fail
          go_roundw
          case rel=>exact ⟨q+1,X,W,T,n6,V,N++[(i:Int)],rfl,by go_num,cf,ae,a3,G,b4,HG⟩
          case measure=>simp [intOf];omega
         ·have a5:decide ((i:Int)∈N)=false:=decide_eq_false fun h=>ad (ai.1 h)
          have ae:=uA (ch.o.push ad);have aj:=ae.o.xlen;rw [D.o,Aw] at aj;have aj:X.length+1<=R:=aj;have b0:=uA (show 2*(R - (X++[i]).length)+(W++[(uD l (i+1),uD l (i+1))]).length+1<=gk from by
           have h:=HG.o;rw [Aw,Aw];show 2*(R - (X.length+1))+(W.length+1)+1<=gk;omega)
          have fc:n6<=100000:=by
           have h1:=HM.o.l6;have h2:=HG.o;omega
          obtain ⟨en,ci⟩:∃ e,uD l (i+1)=e:=⟨_,rfl⟩;rw [ci] at ae b0;rw [a5] at ah;clear ai ad a5 aj;go_wp2_with fail
          refine ah.o.mono ?_;rintro e w9 ⟨rfl,b3,af⟩;have a3:=uA (HM.o.add (i:=i) (X':=X++[i]) af b3 fun j=>by simp);have G:=uA (H.o.trans (af.below a2 fun k hk=>by rw [hk];exact aq));have b4:=uA (show (N++[(i:Int)]).length<=Y.length*200000+(q+1) by rw [Aw,Cv];have h:=O.o;omega);have f0:=(HF.o w9 G.o).1;have du:=bq.o w9 G.o (i+1) bB;rw [ci] at du;have s3:IntKind.i64.wrap ((i:Int)+1)=(i:Int)+1:=vV _ bB bB;have fd:(i:Int) < (R:Int):=bB;have a9:=uB w9 (.cells #[.int .i64 (en:Int),.int .i64 (en:Int)] 203);have dv:=uA a9;have q2:=uC a3.o.r6 a9;have q3:∀ j u,(vT (en,en))[j]?=some u->(w9.alloc (.cells #[.int .i64 (en:Int),.int .i64 (en:Int)] 203)).cell? ((⟨w9.heap.size,0,none⟩:Addr).add j)=some u:=Bd (heap_alloc_new w9 (.cells #[.int .i64 (en:Int),.int .i64 (en:Int)] 203));have Z:w.heap.size<=(w9.alloc (.cells #[.int .i64 (en:Int),.int .i64 (en:Int)] 203)).heap.size:=Ai G.o.size a9.size;clear b3 af c0 a9 ci;go_wp2_with (at_builtin;refine wpList_append_lies _ rfl _ _ 200 rfl w.heap.size 203 i0 _ 2 16 underlying200 hi br bs bt rfl eW (.slice T n6 V) n6 (W.flatMap vT) rfl q2 ⟨w9.heap.size,0,none⟩ 1 1 (vT (en,en)) rfl rfl q3 (qG _) eW (by unfold maxLen;omega) bB Z _ rfl ?_;intro g a6 fe a E F ap)
          have dw:=uA (a3.o.app6 (r:=(en,en)) dv.o E a F);have dx:=uA ((Aa G.o dv.o).grown E Z fun b hb=>(q2.lt b hb).1);clear a E F ap q2 q3 f0 du;go_roundw
          case rel=>exact ⟨q+1,X++[i],W++[(en,en)],some ⟨g,0,none⟩,n6+1,a6,N++[(i:Int)],rfl,by go_num,cf,ae,dw,dx,b4,b0⟩
          case measure=>simp [intOf];omega
        ·have dp:¬(q:Int) < (rn:Int):=bB;have ae:=uA (show yA l x u X W DD [] from by
          have h:=HS.o
          rwa [Cs (by rw [dm.o];omega)] at h)
         have b4:=uA (show N.length<=DD.length*200000 from by
          have h:=O.o;rw [bo.o];omega)
         clear HS O;go_wp2_with fail
         go_roundg (2*(R - X.length)+W.length)
         case rel=>exact ⟨X,W,DD,A7,n7,c7,T,n6,V,N,rfl,rfl,ae,HM,H,b4,(show _<=_ from Ae _),(show _<=_ by have:=HG.o;omega)⟩
         case measure=>have:=HG.o;omega
theorem rF (g b:Nat) (d:Int) (f:Bool) (B:List Int) (l:Int) (A:Option Addr) (n c:Nat) (w:World) (H:FA w g b d f) (hS:wC w b B) (I:uH l) (L:0 < n) (M:g≠b) (R:B.length<=100000000) :
 Calls prog 219 #[.pointer (some ⟨g,0,none⟩),.agg #[.int .i64 l,.slice A n c]] w fun e r=>e=.returned (.tuple #[])/\wC r b (B++[l])/\Turn (fun k=>k=b) w r:=by
 obtain ⟨s,p⟩:∃ s,s=(w.alloc (.cells #[.int .i64 l,.slice A n c] 48)):=⟨_,rfl⟩;have C:=uA p;have m:=uB w (.cells #[.int .i64 l,.slice A n c] 48);have q:=Bx.new w [.int .i64 l,.slice A n c] 48;rw [<-p] at m;have q:Bx s w.heap.size [.int .i64 l,.slice A n c] 48:=p ▸ q;have D:=uA (hS.below m);have t:FA s g b d f:=Bx.below H m;have E:=hS.lt;have hcx:=uA fun (r:World) (y:Turn (fun k=>k=b) s r)=>(show (r.cell? ⟨g,0,none⟩=some (.map (some b))/\r.cell? ⟨w.heap.size,0,none⟩=some (.int .i64 l)) from
  ⟨(t.turn y M).q 0 rfl,(q.turn y (show ¬w.heap.size=b by omega)).q 0 rfl⟩)
 have F:=uA (Turn.of_below (S:=fun k=>k=b) m);have T:(w.alloc (.cells #[.int .i64 l,.slice A n c] 48)).cell? ⟨w.heap.size,1,none⟩=some (.slice A n c):=(Bx.new w [.int .i64 l,.slice A n c] 48).q 1 rfl;have N:=uA I;have U:(n:Int) > 0:=by omega
 clear H hS I L p m q t E;go_enter func219,ntmps219
 go_wp2;rw [<-C.o];have J:=uA ((Turn.refl (fun k=>k=b) s).drew);refine wp_region_held_drew (S:=(fun r=>Turn (fun k=>k=b) s r)) fL J.o (fun hHeld=>?_);refine uJ [0,1,2,3,4,5] ?_
 repeat' (first | refine pT hHeld rfl ?_ | refine pS hHeld rfl ?_)
 refine uK ?_;refine pC 6 rfl (fun O K=>?_);go_simp;refine (bM (D.o.below ((Below.refl _ _).drew)) N.o bB).mono ?_;rintro V W ⟨rfl,u,x⟩;have G:=uA u;have z:=uA (J.o.trans x);clear u x;refine K.out _ _ z.o (fun hHeld=>?_);clear K O;refine wpAnyH_done fL ?_ _;go_wp2;refine bodyPost_ret (results_none rfl _ _ _) rfl ?_;exact ⟨rfl,G.o,F.o.trans z.o⟩
theorem sJ (g b:Nat) (d:Int) (f:Bool) (l:Int) (A:Option Addr) (c:Nat) (w:World) (q:FA w g b d f) :
 Calls prog 219 #[.pointer (some ⟨g,0,none⟩),.agg #[.int .i64 l,.slice A 0 c]] w fun e r=>e=.returned (.tuple #[])/\FA r g b l true/\Turn (fun k=>k=g) w r:=by
 have i:=uB w (.cells #[.int .i64 l,.slice A 0 c] 48);have m:=Bx.new w [.int .i64 l,.slice A 0 c] 48;have h:Bx (w.alloc (.cells #[.int .i64 l,.slice A 0 c] 48)) g [.map (some b),.int .i64 d,.bool f] 262:=Bx.below q i;have o:=uA ((h.set 1 (.int .i64 l)).set 2 (.bool true));have p:=uA (((Turn.of_below (S:=fun k=>k=g) i).setCell (a:=⟨g,1,none⟩) (.inl rfl) (.int .i64 l)).setCell (a:=⟨g,2,none⟩) (.inl rfl) (.bool true));have s:(w.alloc (.cells #[.int .i64 l,.slice A 0 c] 48)).cell? ⟨w.heap.size,0,none⟩=some (.int .i64 l):=m.q 0 rfl;have t:(w.alloc (.cells #[.int .i64 l,.slice A 0 c] 48)).cell? ⟨w.heap.size,1,none⟩=some (.slice A 0 c):=m.q 1 rfl;have u:=h.q 1 rfl;have v:=h.frozen 1;have n:=h.set 1 (.int .i64 l);have x:=n.frozen 2;have y:=n.q 2 rfl;clear q i m h n;go_enter func219,ntmps219
 go_wp2;go_end0
 exact ⟨rfl,o.o,p.o⟩
def QH (w:World) (U:List Int) (D:Option Int) (e:Ending) (w':World):Prop:=∃ b,e=.returned (.agg #[.map (some b),.int .i64 (D.getD 0),.bool D.isSome])/\wC w' b U/\w.heap.size<=b/\Ab w w'
theorem tK:(prog.info? 262).map (·.size)=some 3:=by kernel_rfl
theorem dI (b:Nat) (d:Int) (f:Bool):(#[Value.map (some b),.int .i64 d,.bool f]:Array Value).all Value.oneCell'=true:=all_oneCell_toArray (cs:=[.map (some b),.int .i64 d,.bool f]) (fun u a=>by simp only [Av,Cd,or_false] at a;rcases a with rfl | rfl | rfl <;> rfl)
theorem wC.row {w:World} {b g:Nat} {L:List Int} {cs:List Value} {T:TypeId} (h:wC w b L) (k:Bx w g cs T) (i:Array Value):wC (w.setRow g i) b L:=by
 have c:b≠g:=fun e=>by
  subst e;obtain ⟨j,⟨m,d,a,_⟩,_⟩:=h.own;have f:w.heap[b]?=some (.cells cs.toArray T (0,0)):=k;rw [f] at a;cases a
 obtain ⟨j,a,l⟩:=h.own;refine ⟨⟨j,uN a ?_,l⟩,h.rng⟩;exact setRow_other w g b i c
structure Ef0 (w W:World):Prop where
 r:Bx W (w.heap.size+1) [.map none,.int .i64 0,.bool false] 262
 s:wC W (w.heap.size+2) []
 e:FA W (w.heap.size+3) (w.heap.size+2) 0 false
 b:Ab w W
theorem ef0 (w:World) (o:Obj):Ef0 w ((((w.alloc o).alloc (.cells #[.map none,.int .i64 0,.bool false] 262)).alloc (.map #[] 0)).alloc (.cells #[.map (some (w.heap.size+2)),.int .i64 0,.bool false] 262)):=by
 have h:(w.alloc o).heap.size=w.heap.size+1:=by simp
 have i:((w.alloc o).alloc (.cells #[.map none,.int .i64 0,.bool false] 262)).heap.size=w.heap.size+2:=by simp
 have j:(((w.alloc o).alloc (.cells #[.map none,.int .i64 0,.bool false] 262)).alloc (.map #[] 0)).heap.size=w.heap.size+3:=by simp
 have c:=Bx.new (w.alloc o) [.map none,.int .i64 0,.bool false] 262;have d:=wC.new ((w.alloc o).alloc (.cells #[.map none,.int .i64 0,.bool false] 262));have e:=Bx.new (((w.alloc o).alloc (.cells #[.map none,.int .i64 0,.bool false] 262)).alloc (.map #[] 0)) [.map (some (w.heap.size+2)),.int .i64 0,.bool false] 262;rw [h] at c;rw [i] at d;rw [j] at e;have f:=uB w o;have g:=uB (w.alloc o) (.cells #[.map none,.int .i64 0,.bool false] 262);have a:=uB ((w.alloc o).alloc (.cells #[.map none,.int .i64 0,.bool false] 262)) (.map #[] 0);have b:=uB (((w.alloc o).alloc (.cells #[.map none,.int .i64 0,.bool false] 262)).alloc (.map #[] 0)) (.cells #[.map (some (w.heap.size+2)),.int .i64 0,.bool false] 262);exact ⟨(c.below a).below b,d.below b,e,f.trans ((g.trans ((Aa a b).mono g.size)).mono f.size)⟩
theorem MP {w a:World} {d:Int} {f:Bool} {U:List Int} {D:Option Int} {e:Ending} (b:wC a (w.heap.size+2) U) (c:Bx a (w.heap.size+1) [.map none,.int .i64 0,.bool false] 262) (g:Ab w a) (h:d=D.getD 0) (i:f=D.isSome)
 (j:e=.returned (.agg #[.map (some (w.heap.size+2)),.int .i64 d,.bool f])):QH w U D e (a.setRow (w.heap.size+1) #[.map (some (w.heap.size+2)),.int .i64 d,.bool f]):=
 ⟨_,by rw [j,h,i],b.row c _,bB,xS g (Cc _) _⟩
theorem ef1 (w:World) (o:Obj) {d:Int} {f:Bool} {D:Option Int} (i:d=D.getD 0) (j:f=D.isSome) :
 ((((w.alloc o).alloc (.cells #[.map (some (w.heap.size+1+1)),.int .i64 d,.bool f] 262)).alloc (.map #[] 0)).alloc (.cells #[.map (some (w.heap.size+1+1)),.int .i64 d,.bool f] 262)).heap[w.heap.size+1]?=some (.cells #[.map (some (w.heap.size+1+1)),.int .i64 d,.bool f] 262 (0,0)) /\
 QH w [] D (.returned (.agg #[.map (some (w.heap.size+1+1)),.int .i64 d,.bool f])) ((((w.alloc o).alloc (.cells #[.map (some (w.heap.size+1+1)),.int .i64 d,.bool f] 262)).alloc (.map #[] 0)).alloc (.cells #[.map (some (w.heap.size+1+1)),.int .i64 d,.bool f] 262)):=by
 have c:=Bx.new (w.alloc o) [.map (some (w.heap.size+1+1)),.int .i64 d,.bool f] 262;have e:=wC.new ((w.alloc o).alloc (.cells #[.map (some (w.heap.size+1+1)),.int .i64 d,.bool f] 262));simp only [Ak] at c e;have g:=uB w o;have h:=uB (w.alloc o) (.cells #[.map (some (w.heap.size+1+1)),.int .i64 d,.bool f] 262);have a:=uB ((w.alloc o).alloc (.cells #[.map (some (w.heap.size+1+1)),.int .i64 d,.bool f] 262)) (.map #[] 0);have b:=uB (((w.alloc o).alloc (.cells #[.map (some (w.heap.size+1+1)),.int .i64 d,.bool f] 262)).alloc (.map #[] 0)) (.cells #[.map (some (w.heap.size+1+1)),.int .i64 d,.bool f] 262);exact ⟨(c.below a).below b,_,by rw [<-i,<- j],e.below b,bB,g.trans ((h.trans ((Aa a b).mono h.size)).mono g.size)⟩
theorem PT (x:StW) (w:World) (hx:aN w w.heap.size x) (hn:x.rv.args.n<=1000000) :
 Calls prog 162 #[KV x] w (QH w (stU x.v) (stD x.v)):=by
 have C:=hx.pl.prs.len;have hl:uH x.pl.l:=hx.pl.l;have a8:uH x.rv.pl.l:=hx.rv.pl.l;have c:=hx.rv.args;obtain ⟨U,hU⟩:∃ U,stU x.v=U:=⟨_,rfl⟩;obtain ⟨D,hD⟩:∃ D,stD x.v=D:=⟨_,rfl⟩;rw [hU,hD];obtain ⟨p,⟨l,E,r,F,ps⟩,⟨s,R,S,T,⟨A,V,W,X,ar⟩,⟨O,B,P,Y⟩⟩,a⟩:=x;have C:ps.length=r:=C;have HL:Hdd (uH l):=hl;have al:Hdd (uH A):=a8;have am:Hdd (Y.length=B):=c.len;have hn:B<=1000000:=hn;have q:Hdd ((if p=0 then mN (Y.map OpW.v)++((if s=1 then [A] else [])++(if 0 < ps.length then [l] else [])) else [])=U):=hU;have n:Hdd ((if p=1 then some a else if p=0/\ps.length=0 then some l else none)=D):=hD;clear hU hD;rw [C] at q n;have h0:=ef0 w (.cells #[.int .i64 p,.int .i64 l,.slice E r F,.int .i64 s,.int .i64 R,.int .i64 S,.bool T,.int .i64 A,.slice V W X,.slice O B P,.int .i64 a] 69);have ao:=uB w (.cells #[.int .i64 p,.int .i64 l,.slice E r F,.int .i64 s,.int .i64 R,.int .i64 S,.bool T,.int .i64 A,.slice V W X,.slice O B P,.int .i64 a] 69);have a9:=Bx.new w [.int .i64 p,.int .i64 l,.slice E r F,.int .i64 s,.int .i64 R,.int .i64 S,.bool T,.int .i64 A,.slice V W X,.slice O B P,.int .i64 a] 69;obtain ⟨W0,t⟩:∃ W0,W0=((((w.alloc (.cells #[.int .i64 p,.int .i64 l,.slice E r F,.int .i64 s,.int .i64 R,.int .i64 S,.bool T,.int .i64 A,.slice V W X,.slice O B P,.int .i64 a] 69)).alloc (.cells #[.map none,.int .i64 0,.bool false] 262)).alloc (.map #[] 0)).alloc (.cells #[.map (some (w.heap.size+2)),.int .i64 0,.bool false] 262)):=⟨_,rfl⟩;have ap:=uA t;have b:Bx W0 w.heap.size [.int .i64 p,.int .i64 l,.slice E r F,.int .i64 s,.int .i64 R,.int .i64 S,.bool T,.int .i64 A,.slice V W X,.slice O B P,.int .i64 a] 69:=by
  rw [t];exact ((a9.below (uB _ _)).below (uB _ _)).below (uB _ _)
 rw [<-t] at h0;have o:=uA h0;have HX:=uA b;have Z:=uA fun (Q:World) (y:Ab W0 Q)=>(AT (w.heap.size+3) (w.heap.size+2) 0 false [] ⟨O,B,P,Y⟩ w.heap.size Q (Bx.below o.o.e y) (o.o.s.below y) (Ops.below (Aa o.o.b y) c) bB bB hn nF)
 have aq:=@run_makeMap prog;have s0:=b.q 0 rfl;have s1:=b.q 1 rfl;have s2:=b.q 2 rfl;have s3:=b.q 3 rfl;have s7:=b.q 7 rfl;have s9:=b.q 9 rfl;have aa:=b.q 10 rfl;rw [t] at s0 s1 s2 s3 s7 s9 aa;clear hx C hl a8 c h0 ao a9 b t;by_cases hk:p=0
 ·subst hk;rw [if_pos rfl] at q;rw [if_neg eW] at n;go_enter func162,ntmps162
  go_wp2_with fail
  rw [<-ap.o];refine (Z.o W0 (Below.refl _ _)).mono ?_;rintro e1 w1 ⟨rfl,ab,a0⟩;have G:=uA (a0.weak (S':=fun k=>k=w.heap.size+2\/k=w.heap.size+3) fun _ h=>.inl h);have ad:Hdd (wC w1 (w.heap.size+2) (mN (Y.map OpW.v))):=ab;have H:=uA (show (mN (Y.map OpW.v)).length<=1000000 from by
   have h1:=cY (Y.map OpW.v);rw [Ao] at h1;have h2:=am.o;omega)
  have I:=HX.o.turn G.o bB;have ae:=o.o.r.turn G.o bB;have J:FA w1 (w.heap.size+3) (w.heap.size+2) 0 false:=Bx.turn o.o.e a0 bB;have af:=uA J;have c3:=I.q 3 rfl;clear ab a0 s0 s1 s2 s3 s7 s9 aa aq;have a1:∃ U1,mN (Y.map OpW.v)++(if s=1 then [A] else [])=U1:=⟨_,rfl⟩;obtain ⟨U1,K⟩:=a1;have e:=uA K;rw [<-C2,K] at q;by_cases hr:s=1
  case' pos=>
   subst hr;rw [if_pos rfl] at e;have c7:=I.q 7 rfl;have c8:=J.q 0 rfl;have ag:=G;clear K I ae J;go_wp2_with fail
   refine (bM ad.o al.o (by have:=H.o;omega)).mono ?_;rintro e2 w2 ⟨rfl,ah,a2⟩;have a3:Hdd (wC w2 (w.heap.size+2) U1):=e.o ▸ ah;have L:=uA (ag.o.trans (a2.weak fun _ h=>.inl h));have M:Hdd (FA w2 (w.heap.size+3) (w.heap.size+2) 0 false):=Bx.turn af.o a2 bB;have ai:=uA (show U1.length<=1000001 by rw [<-e.o,Aw];have:=H.o;exact Gn this);clear ah a2 c3 c7 c8
  case' neg=>
   rw [if_neg hr,B5] at e;have t1:(s == 1)=false:=(by simpa using hr);have a3:Hdd (wC w1 (w.heap.size+2) U1):=e.o ▸ ad.o;have L:=G;have M:=af;clear K I ae J;have ai:=uA (show U1.length<=1000001 by rw [<-e.o];have:=H.o;omega);clear hr H e;generalize w1=w2 at *
  all_goals
   have N:=HX.o.turn L.o bB;have d1:=N.q 1 rfl;have d2:=N.q 2 rfl;by_cases hp:0 < r
   case' pos=>
    rw [if_pos hp] at q;rw [if_neg bB] at n;have a4:=uA (fun Q (h:Q=w2)=>rF (w.heap.size+3) (w.heap.size+2) 0 false U1 l E r F Q (h ▸ M.o) (h ▸ a3.o) HL.o hp bB (by have:=ai.o;omega));clear hp N;go_wp2_with fail
    refine (a4.o _ rfl).mono ?_;rintro e3 w3 ⟨rfl,aj,g⟩;have a5:Hdd (wC w3 (w.heap.size+2) U):=q.o ▸ aj;have u:=uA (L.o.trans (g.weak fun _ h=>.inl h));have i:Hdd (Bx w3 (w.heap.size+3) [.map (some (w.heap.size+2)),.int .i64 0,.bool false] 262):=Bx.turn M.o g bB;have v:=uA (show (0:Int)=D.getD 0/\false=D.isSome by rw [<-n.o];exact ⟨rfl,rfl⟩);clear aj g d1 d2;have m:=uA (o.o.r.turn u.o bB);have a6:=uA (o.o.b.trans (u.o.below o.o.b.size bB));have e0:=i.o.q 0 rfl;have e1:=i.o.q 1 rfl;have e2:=i.o.q 2 rfl;have a7:=uA tK;have z:=uA (dI (w.heap.size+2) 0 false);go_wp2_with (refine wpList_store_row rfl 262 _ _ rfl (w.heap.size+1) #[.map (some (w.heap.size+2)),.int .i64 0,.bool false] rfl rfl 262 #[.map none,.int .i64 0,.bool false] ?_ ?_ ?_ ?_ ?_;exact m.o;exact a7.o;rfl;exact z.o)
    refine bodyPost_ret (results_cell_row rfl _ _ (w.heap.size+1) _ #[.map (some (w.heap.size+2)),.int .i64 0,.bool false] (0,0) _ rfl (setRow_heap _ _ _ _ _ _ m.o) underlying262 rfl fL) rfl ?_;exact MP a5.o m.o a6.o v.o.1 v.o.2 rfl
   case' neg=>
    obtain rfl:r=0:=by omega
    rw [if_neg hp,B5] at q;rw [if_pos ⟨trivial,rfl⟩] at n;have a4:=uA (fun Q (h:Q=w2)=>sJ (w.heap.size+3) (w.heap.size+2) 0 false l E F Q (h ▸ M.o));clear hp N;go_wp2_with fail
    refine (a4.o _ rfl).mono ?_;rintro e3 w3 ⟨rfl,ak,g⟩;have a5:Hdd (wC w3 (w.heap.size+2) U):=q.o ▸ a3.o.turn g bB;have u:=uA (L.o.trans (g.weak fun _ h=>.inr h));have i:Hdd (Bx w3 (w.heap.size+3) [.map (some (w.heap.size+2)),.int .i64 l,.bool true] 262):=ak;have v:=uA (show l=D.getD 0/\true=D.isSome by rw [<-n.o];exact ⟨rfl,rfl⟩);clear ak g d1 d2;have m:=uA (o.o.r.turn u.o bB);have a6:=uA (o.o.b.trans (u.o.below o.o.b.size bB));have e0:=i.o.q 0 rfl;have e1:=i.o.q 1 rfl;have e2:=i.o.q 2 rfl;have a7:=uA tK;have z:=uA (dI (w.heap.size+2) l true);go_wp2_with (refine wpList_store_row rfl 262 _ _ rfl (w.heap.size+1) #[.map (some (w.heap.size+2)),.int .i64 l,.bool true] rfl rfl 262 #[.map none,.int .i64 0,.bool false] ?_ ?_ ?_ ?_ ?_;exact m.o;exact a7.o;rfl;exact z.o)
    refine bodyPost_ret (results_cell_row rfl _ _ (w.heap.size+1) _ #[.map (some (w.heap.size+2)),.int .i64 l,.bool true] (0,0) _ rfl (setRow_heap _ _ _ _ _ _ m.o) underlying262 rfl fL) rfl ?_;exact MP a5.o m.o a6.o v.o.1 v.o.2 rfl
 ·rw [if_neg hk] at q;have t0:(p == 0)=false:=by simpa using hk
  by_cases h1:p=1
  case' pos=>
   subst h1;rw [if_pos rfl] at n;have HF:=uA (ef1 w (.cells #[.int .i64 1,.int .i64 l,.slice E r F,.int .i64 s,.int .i64 R,.int .i64 S,.bool T,.int .i64 A,.slice V W X,.slice O B P,.int .i64 a] 69) (d:=a) (f:=true) (D:=D) (by rw [<-n.o];rfl) (by rw [<-n.o];rfl));obtain rfl:[]=U:=q.o;clear HX o Z q n hk;go_enter func162,ntmps162
   go_wp2;exact bodyPost_ret (results_cell_row rfl _ _ (w.heap.size+1) _ #[.map (some (w.heap.size+1+1)),.int .i64 a,.bool true] (0,0) _ rfl HF.o.1 underlying262 rfl fL) rfl HF.o.2
  case' neg=>
   rw [if_neg h1,if_neg (fun h=>hk h.1)] at n;have t1:(p == 1)=false:=(by simpa using h1);clear h1;have HF:=uA (ef1 w (.cells #[.int .i64 p,.int .i64 l,.slice E r F,.int .i64 s,.int .i64 R,.int .i64 S,.bool T,.int .i64 A,.slice V W X,.slice O B P,.int .i64 a] 69) (d:=0) (f:=false) (D:=D) (by rw [<-n.o];rfl) (by rw [<-n.o];rfl));obtain rfl:[]=U:=q.o;clear HX o Z q n hk;go_enter func162,ntmps162
   go_wp2;exact bodyPost_ret (results_cell_row rfl _ _ (w.heap.size+1) _ #[.map (some (w.heap.size+1+1)),.int .i64 0,.bool false] (0,0) _ rfl HF.o.1 underlying262 rfl fL) rfl HF.o.2
theorem PM (x:TmW) (w:World) (hx:mY w w.heap.size x) (hn:x.args.n<=1000000) (Q:x.kind=1\/x.kind=3\/x.args.n=0) :
 Calls prog 163 #[fZ x] w (QH w (tmU x.v) (tmD x.v)):=by
 have A:=hx.pl.prs.len;have hl:uH x.pl.l:=hx.pl.l;have e:=hx.args;obtain ⟨U,hU⟩:∃ U,tmU x.v=U:=⟨_,rfl⟩;obtain ⟨D,hD⟩:∃ D,tmD x.v=D:=⟨_,rfl⟩;rw [hU,hD];obtain ⟨c,⟨T,V,W,gL⟩,⟨R,B,S,F⟩,⟨l,G,C,H,ps⟩,p⟩:=x;have A:ps.length=C:=A;have HL:Hdd (uH l):=hl;have q:F.length=B:=e.len;have a5:=uA q;have hn:B<=1000000:=hn;have Q:c=1\/c=3\/B=0:=Q;have n:Hdd (mN (F.map OpW.v)++(if c=4\/c=3/\0 < ps.length then [l] else [])=U):=hU;have o:Hdd ((if c=3/\ps.length=0 then some l else none)=D):=hD;clear hU hD;rw [A] at n o;have h0:=ef0 w (.cells #[.int .i64 c,.slice T V W,.slice R B S,.int .i64 l,.slice G C H,.string p] 63);have X:=Bx.new w [.int .i64 c,.slice T V W,.slice R B S,.int .i64 l,.slice G C H,.string p] 63;obtain ⟨I,r⟩:∃ I,I=((((w.alloc (.cells #[.int .i64 c,.slice T V W,.slice R B S,.int .i64 l,.slice G C H,.string p] 63)).alloc (.cells #[.map none,.int .i64 0,.bool false] 262)).alloc (.map #[] 0)).alloc (.cells #[.map (some (w.heap.size+2)),.int .i64 0,.bool false] 262)):=⟨_,rfl⟩;have J:=uA r;have s:Bx I w.heap.size [.int .i64 c,.slice T V W,.slice R B S,.int .i64 l,.slice G C H,.string p] 63:=by
  rw [r];exact ((X.below (uB _ _)).below (uB _ _)).below (uB _ _)
 rw [<-r] at h0;have i:=uA h0;have HX:=uA s;have K:=uA fun (w':World) (y:Ab I w')=>(AT (w.heap.size+3) (w.heap.size+2) 0 false [] ⟨R,B,S,F⟩ w.heap.size w' (Bx.below i.o.e y) (i.o.s.below y) (Ops.below (Aa i.o.b y) e) bB bB hn nF)
 have a1:=@run_makeMap prog;have s0:=s.q 0 rfl;have s2:=s.q 2 rfl;have s3:=s.q 3 rfl;have e0:=Bx.cell i.o.e (j:=0) rfl;rw [r] at s0 s2 s3 e0;clear hx A hl e h0 X s r;have a2:=uA tK;by_cases hr:c=1\/c=3
 case' neg=>
  have t1:(c == 1)=false:=by simp;omega
  have t3:(c == 3)=false:=by simp;omega
  have ha:F=[]:=Bu bB;subst ha;rw [if_neg bB] at o;by_cases h4:c=4
  case' pos=>
   subst h4;rw [if_pos (.inl rfl)] at n;have t:=uA i.o.e;clear Q hr q;go_enter func163,ntmps163
   go_wp2_with fail
   rw [<-J.o];refine (bM i.o.s HL.o nF).mono ?_;rintro e3 u ⟨rfl,b,a⟩;have E:Hdd (wC u (w.heap.size+2) U):=n.o ▸ b;have v:=uA (a.weak (S':=fun k=>k=w.heap.size+2\/k=w.heap.size+3) fun _ h=>.inl h);have m:Hdd (Bx u (w.heap.size+3) [.map (some (w.heap.size+2)),.int .i64 0,.bool false] 262):=Bx.turn t.o a bB;have z:=uA (show (0:Int)=D.getD 0/\false=D.isSome by rw [<-o.o];exact ⟨rfl,rfl⟩);have g:=uA (dI (w.heap.size+2) 0 false);clear b a
  case' neg=>
   have t4:(c == 4)=false:=(by simpa using h4);rw [if_neg bB] at n;have HF:=uA (ef1 w (.cells #[.int .i64 c,.slice T V W,.slice R B S,.int .i64 l,.slice G C H,.string p] 63) (d:=0) (f:=false) (D:=D) (by rw [<-o.o];rfl) (by rw [<-o.o];rfl));obtain rfl:[]=U:=n.o;clear HX i K n o Q q;go_enter func163,ntmps163
   go_wp2;exact bodyPost_ret (results_cell_row rfl _ _ (w.heap.size+1) _ #[.map (some (w.heap.size+1+1)),.int .i64 0,.bool false] (0,0) _ rfl HF.o.1 underlying262 rfl fL) rfl HF.o.2
 case' pos=>
  have a3:=uA (show (mN (F.map OpW.v)).length<=1000000 from by
   have h1:=cY (F.map OpW.v);rw [Ao] at h1;omega)
  rcases hr with rfl | rfl
  case' inl=>
   rw [if_neg bB,B5] at n;rw [if_neg bB] at o;clear Q q;go_enter func163,ntmps163
   go_wp2_with fail
   rw [<-J.o];refine (K.o I (Below.refl _ _)).mono ?_;rintro e3 u ⟨rfl,b,a⟩;have E:Hdd (wC u (w.heap.size+2) U):=n.o ▸ b;have v:=uA (a.weak (S':=fun k=>k=w.heap.size+2\/k=w.heap.size+3) fun _ h=>.inl h);have m:Hdd (Bx u (w.heap.size+3) [.map (some (w.heap.size+2)),.int .i64 0,.bool false] 262):=Bx.turn i.o.e a bB;have z:=uA (show (0:Int)=D.getD 0/\false=D.isSome by rw [<-o.o];exact ⟨rfl,rfl⟩);have g:=uA (dI (w.heap.size+2) 0 false);clear b a
  case' inr=>
   clear Q q;go_enter func163,ntmps163
   go_wp2_with fail
   rw [<-J.o];refine (K.o I (Below.refl _ _)).mono ?_;rintro e1 w2 ⟨rfl,Y,L⟩;have M:=uA (L.weak (S':=fun k=>k=w.heap.size+2\/k=w.heap.size+3) fun _ h=>.inl h);have Z:Hdd (wC w2 (w.heap.size+2) (mN (F.map OpW.v))):=Y;have t:Hdd (FA w2 (w.heap.size+3) (w.heap.size+2) 0 false):=Bx.turn i.o.e L bB;have N:=HX.o.turn M.o bB;have d1:=N.q 3 rfl;have d2:=N.q 4 rfl;clear Y L s0 s2 s3 e0 a1 N;by_cases hp:0 < C
   case' pos=>
    rw [if_pos (.inr ⟨trivial,hp⟩)] at n;rw [if_neg bB] at o;have O:=uA (rF (w.heap.size+3) (w.heap.size+2) 0 false (mN (F.map OpW.v)) l G C H w2 t.o Z.o HL.o hp bB (by have:=a3.o;omega));clear hp;go_wp2_with fail
    refine O.o.mono ?_;rintro e3 u ⟨rfl,b,a⟩;have E:Hdd (wC u (w.heap.size+2) U):=n.o ▸ b;have v:=uA (M.o.trans (a.weak fun _ h=>.inl h));have m:Hdd (Bx u (w.heap.size+3) [.map (some (w.heap.size+2)),.int .i64 0,.bool false] 262):=Bx.turn t.o a bB;have z:=uA (show (0:Int)=D.getD 0/\false=D.isSome by rw [<-o.o];exact ⟨rfl,rfl⟩);have g:=uA (dI (w.heap.size+2) 0 false);clear b a d1 d2
   case' neg=>
    obtain rfl:C=0:=by omega
    rw [if_neg bB,B5] at n;rw [if_pos ⟨trivial,rfl⟩] at o;have O:=uA (sJ (w.heap.size+3) (w.heap.size+2) 0 false l G H w2 t.o);clear hp;go_wp2_with fail
    refine O.o.mono ?_;rintro e3 u ⟨rfl,a0,a⟩;have E:Hdd (wC u (w.heap.size+2) U):=n.o ▸ Z.o.turn a bB;have v:=uA (M.o.trans (a.weak fun _ h=>.inr h));have m:Hdd (Bx u (w.heap.size+3) [.map (some (w.heap.size+2)),.int .i64 l,.bool true] 262):=a0;have z:=uA (show l=D.getD 0/\true=D.isSome by rw [<-o.o];exact ⟨rfl,rfl⟩);have g:=uA (dI (w.heap.size+2) l true);clear a0 a d1 d2
 all_goals
  have P:=uA (i.o.r.turn v.o bB);have a4:=uA (i.o.b.trans (v.o.below i.o.b.size bB));have e0:=m.o.q 0 rfl;have e1:=m.o.q 1 rfl;have e2:=m.o.q 2 rfl;go_wp2_with (refine wpList_store_row rfl 262 _ _ rfl (w.heap.size+1) _ rfl rfl 262 #[.map none,.int .i64 0,.bool false] ?_ ?_ ?_ ?_ ?_;exact P.o;exact a2.o;rfl;exact g.o)
  refine bodyPost_ret (results_cell_row rfl _ _ (w.heap.size+1) _ _ (0,0) _ rfl (setRow_heap _ _ _ _ _ _ P.o) underlying262 rfl fL) rfl ?_;exact MP E.o P.o a4.o z.o.1 z.o.2 rfl
def YD (l:List BkV):Prop:=∀ b∈l,b.term.kind=1\/b.term.kind=3\/b.term.args.length=0
theorem OD {b:BkV} {k:Nat} {s:StV} (h:b.stmts[k]?=some s):zZ b k=stU s/\oY b k=stD s:=by
 unfold zZ oY;rw [h];exact ⟨rfl,rfl⟩
theorem NN {b:BkV} {k:Nat} (h:b.stmts.length<=k):zZ b k=tmU b.term/\oY b k=tmD b.term:=by
 unfold zZ oY;rw [Bh h];exact ⟨rfl,rfl⟩
end Go.Proofs.YtnkjbjkoffgocaaGreatDoor
