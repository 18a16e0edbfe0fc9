import Derived.Test.YtnkjbjkoffgocaaGreatDoorQ25
import Derived.Deep.LoopGhost
set_option linter.unusedVariables false
set_option linter.unusedSimpArgs false
set_option maxRecDepth 100000
set_option maxHeartbeats 8000000
namespace Go.Proofs.YtnkjbjkoffgocaaGreatDoor
open Tryz Go.RowKit
def uIb (s:List (Nat×Bool)) (f a d:Nat) (e:Ending):Prop:=∃ b:Nat,e=.returned (.agg #[.int .i64 (b:Int),.int .i64 (d:Int)])/\eJ s f a b
theorem ZK:(prog.info? 203).map (·.size)=some 2:=by kernel_rfl
theorem PZ (a b:Int):(#[Value.int .i64 a,.int .i64 b]:Array Value).all Value.oneCell'=true:=all_oneCell_toArray (cs:=[.int .i64 a,.int .i64 b]) (fun u c=>by simp only [Av,Cd,or_false] at c;rcases c with rfl | rfl <;> rfl)
theorem VE {l:List BkV} {fb:Nat} {sA:Option Addr} {sc:Nat} (a d j:Nat) (A:Option Addr) (n c:Nat) (s:List (Nat×Bool)) (w:World) (a5:fb < w.heap.size) (hc:w.cell? ⟨fb,0,none⟩=some (.slice sA (l.length+1) sc)) (Q:Rd w w.heap.size sA (l.length+1) (vC (stI l (l.length+1)))) (hj:j < l.length+1)
 (hs:uM w w.heap.size 2 nP A n s) (E:s.Pairwise fun x y=>x.1 < y.1) (hn:n<=1000000000) (ha:a<=1000000000) (B:∀ z∈s,z.1<=1000000000) :
 Calls prog 168 #[.pointer (some ⟨fb,0,none⟩),.agg #[.int .i64 (a:Int),.int .i64 (d:Int)],.int .i64 (j:Int),.slice A n c] w fun e w'=>uIb s (uD l j) a d e/\Ab w w':=by
 obtain ⟨f,hf⟩:∃ f,uD l j=f:=⟨_,rfl⟩;rw [hf];obtain ⟨sb,so,a6,a7,T⟩:=Q.cell (k:=j) (u:=.int .i64 (f:Int)) (by rw [Ar,sF l hj,<- hf];rfl);subst a6;generalize l.length+1=m at *;obtain ⟨P,h⟩:∃ P,P=(w.alloc (.cells #[.int .i64 (a:Int),.int .i64 (d:Int)] 203)).alloc (.cells #[.int .i64 0,.int .i64 0] 203):=⟨_,rfl⟩;have b1:=uB w (.cells #[.int .i64 (a:Int),.int .i64 (d:Int)] 203);have b2:=uB (w.alloc (.cells #[.int .i64 (a:Int),.int .i64 (d:Int)] 203)) (.cells #[.int .i64 0,.int .i64 0] 203);have U:=(Bx.new w [.int .i64 (a:Int),.int .i64 (d:Int)] 203).below b2;have V:=Bx.new (w.alloc (.cells #[.int .i64 (a:Int),.int .i64 (d:Int)] 203)) [.int .i64 0,.int .i64 0] 203;simp only [Ak] at V;have U:Bx P w.heap.size [.int .i64 (a:Int),.int .i64 (d:Int)] 203:=h ▸ U;have V:Bx P (w.heap.size+1) [.int .i64 0,.int .i64 0] 203:=h ▸ V;have hB:Ab w P:=h ▸ (Aa b1 b2);have a8:=uA h;have HB:=uA hB;have HX:=uA U;have HR:=uA V;have HS:=uA hs;have HL:Hdd (s.length=n):=hs.1;have HZ:=uA B;have HA:=uA E;have HC:=uA fun (w':World) (y:Ab w w')=>(show w'.cell? ⟨fb,0,none⟩=some (.slice (some ⟨sb,so,none⟩) m sc)/\w'.cell? ⟨sb,so+j,none⟩=some (.int .i64 (f:Int)) from ⟨(y.cell (p:=⟨fb,0,none⟩) a5).trans hc,(y.cell (p:=⟨sb,so+j,none⟩) a7).trans T⟩)
 have x0:=U.q 0 rfl;rw [h] at x0;have ac:(j:Int) < (m:Int):=by omega
 have ad:(0:Int)<=(j:Int):=by omega
 have Y:=uA ZK;clear hs B E hc T Q U V hB b1 b2 h hf;go_enter func168,ntmps168
 go_wp2_with fail
 rw [<-a8.o];refine (TR A n c a s P ((HS.o.below HB.o).more HB.o.size) HA.o hn ha HZ.o).mono ?_;rintro e w1 ⟨⟨k,fd,rfl,hk,F⟩,hb⟩;have H:=uA (Aa HB.o hb);have I:=uA (HX.o.below hb);have a9:=uA (HR.o.below hb);have J:=uA F;obtain ⟨c0,c1⟩:=HC.o _ H.o;have x1:=I.o.q 0 rfl;have f1:=I.o.frozen 0;have q:=uA (I.o.set 0 (.int .i64 (f:Int)));have M:=uA (a9.o.other (a:=⟨w.heap.size,0,none⟩) nF (.int .i64 (f:Int)));have Z:=uA (H.o.setCell (p:=⟨w.heap.size,0,none⟩) (Ae _) (.int .i64 (f:Int)));clear hb F x0;by_cases h0:k=0
 ·subst h0;have y0:=q.o.q 0 rfl;have y1:=q.o.q 1 rfl;have N:Hdd (eJ s f a f):=⟨Ae _,fun z B O=>by
   obtain ⟨i,G⟩:=B2 B;have:=(J.o i z G).1 O;omega,.inl rfl⟩
  have C:=uA (PZ (f:Int) (d:Int));go_wp2_with (refine wpList_store_row rfl 203 _ _ rfl (w.heap.size+1) _ rfl rfl 203 #[.int .i64 0,.int .i64 0] ?_ ?_ ?_ ?_ ?_;exact M.o;exact Y.o;rfl;exact C.o)
  refine bodyPost_ret (results_cell_row rfl _ _ (w.heap.size+1) _ _ (0,0) _ rfl (setRow_heap _ _ _ _ _ _ M.o) underlying203 rfl fL) rfl ?_;exact ⟨⟨f,rfl,N.o⟩,xS Z.o (Cc _) _⟩
 ·obtain ⟨b,rfl⟩:∃ b,k=b+1:=⟨k - 1,bB⟩;have ae:((b+1:Nat):Int) > 0:=by omega
  obtain ⟨z,B⟩:∃ z,s[b]?=some z:=⟨_,Ad (by rw [HL.o];omega)⟩;obtain ⟨g,o,hA,hg,a0⟩:=HS.o.at_ B;subst hA;have a1:=HZ.o z (Aj B);have HM:=uA B;obtain ⟨D,zu⟩:=z;have a1:D<=1000000000:=a1;have af:g≠w.heap.size:=fun e=>by subst e;exact absurd hg (Cg _)
  have z0:(w1.setCell ⟨w.heap.size,0,none⟩ (.int .i64 (f:Int))).cell? ⟨g,o+b*2,none⟩=some (.int .i64 (D:Int)):=(B3 w1 ⟨w.heap.size,0,none⟩ ⟨g,o+b*2,none⟩ _ (by simp <;> omega)).trans ((H.o.cell (p:=⟨g,o+b*2,none⟩) hg).trans (by simpa using a0 0 _ rfl));have y0:=q.o.q 0 rfl;have y1:=q.o.q 1 rfl;have y2:=q.o.frozen 0;have ag:(b:Int) < (n:Int):=by omega
  have ah:(0:Int)<=(b:Int):=by omega
  have s1:IntKind.i64.wrap ((b:Int)+1 - 1)=(b:Int):=by rw [show (b:Int)+1 - 1=b by omega];exact vV _ bB bB
  have s2:IntKind.i64.wrap ((D:Int)+1)=(D:Int)+1:=vV _ bB bB;clear h0 B hg a0;go_wp2;go_region;obtain ⟨t,aa⟩:∃ t,max f (D+1)=t:=⟨_,rfl⟩;have a2:max (f:Int) ((D:Int)+1)=(t:Int):=by omega
  rw [a2];have N:Hdd (eJ s f a t):=⟨bB,fun z B O=>by
   obtain ⟨i,G⟩:=B2 B;have h1:=(J.o i z G).1 O;rcases Bs i b with h2 | h2
   ·obtain ⟨l1,e1⟩:=Ah.1 G;obtain ⟨l2,e2⟩:=Ah.1 HM.o;have h3:=C4.1 HA.o i b l1 l2 h2;rw [e1,e2] at h3;have h4:z.1 < D:=h3;omega
   ·obtain rfl:i=b:=by omega
    rw [HM.o] at G;injection G with G;subst G;show D < t;omega,by
   rcases Nat.le_total f (D+1) with h1 | h1
   ·exact .inr ⟨(D,zu),Aj HM.o,(J.o b _ HM.o).2 (Dr _),by show t=D+1;omega⟩
   ·exact .inl bB⟩
  have hd:=(Below.refl ((w1.setCell ⟨w.heap.size,0,none⟩ (.int .i64 (f:Int))).setCell ⟨w.heap.size,0,none⟩ (.int .i64 (t:Int))).heap.size ((w1.setCell ⟨w.heap.size,0,none⟩ (.int .i64 (f:Int))).setCell ⟨w.heap.size,0,none⟩ (.int .i64 (t:Int)))).drew;have a3:=uA ((q.o.set 0 (.int .i64 (t:Int))).below hd);have a4:=uA ((M.o.other (a:=⟨w.heap.size,0,none⟩) nF (.int .i64 (t:Int))).below hd);have ab:=(Z.o.setCell (p:=⟨w.heap.size,0,none⟩) (Ae _) (.int .i64 (t:Int))).drew;have v0:=a3.o.q 0 rfl;have v1:=a3.o.q 1 rfl;have C:=uA (PZ (t:Int) (d:Int));clear hd a2 aa y0 y1 y2 z0 s1 s2 x1 f1 c0 c1;go_wp2_with (refine wpList_store_row rfl 203 _ _ rfl (w.heap.size+1) _ rfl rfl 203 #[.int .i64 0,.int .i64 0] ?_ ?_ ?_ ?_ ?_;exact a4.o;exact Y.o;rfl;exact C.o)
  refine bodyPost_ret (results_cell_row rfl _ _ (w.heap.size+1) _ _ (0,0) _ rfl (setRow_heap _ _ _ _ _ _ a4.o) underlying203 rfl fL) rfl ?_;exact ⟨⟨t,rfl,N.o⟩,xS ab (Cc _) _⟩
theorem xZ (w:World) (q:Nat):Ab w (w.drewN q):=have h:=Below.refl w.heap.size w;⟨h.os,h.tape,h.output,h.size,h.block⟩
theorem NC {w:World} {lo k g n c:Nat} {e:TypeId} {xs:List Value} (h:w.ownsRow lo e k (.slice (some ⟨g,0,none⟩) n c) n xs) {i:Nat} (F:i < n*k) (u:Value):(w.setCell ⟨g,i,none⟩ u).ownsRow lo e k (.slice (some ⟨g,0,none⟩) n c) n (xs.set i u):=by
 obtain ⟨z,f⟩:=h;refine ⟨by rw [D9];exact z,?_⟩;rcases f with ⟨f,_⟩ | ⟨G,A,a,b,B,C,d,o,p,q⟩
 ·cases f
 ·injection b with b D s;injection b with b;injection b with b;subst b s;have E:n*k<=c*k:=Eg _ d;refine .inr ⟨g,c,a.setIfInBounds i u,rfl,B,by simp [World.setCell,Di,C],d,o,by simpa using p,?_⟩;rw [<-q,Ga];apply Eb;intro j;have t:i < a.size:=by omega
  by_cases y:j < n*k
  ·rw [Ej y,Cp (l:=a.toList.take (n*k)),Ej y];by_cases x:i=j
   ·subst x;rw [if_pos rfl,Gp (by simpa using t),if_pos (by rw [B9];simp;omega)]
   ·rw [if_neg x,List.getElem?_set_ne x]
  ·rw [Bh (by simp;omega),Bh (by simp;omega)]
theorem uCm (M:List wM) (a b x:Nat):((M++[(a,b)]).flatMap vT).set (M.length*2+1) (.int .i64 (x:Int))=(M++[(a,x)]).flatMap vT:=by
 have c:(M.flatMap vT).length=M.length*2:=uU wN M;rw [Bk,Bk,Eu _ _ bB,c,show M.length*2+1 - M.length*2=1 by omega];rfl
theorem PY:(prog.info? 203).map (fun i=>(i.zero,i.size,i.bytes))=some (some (.agg #[.int .i64 0,.int .i64 0]),2,16):=by kernel_rfl
def uId (C n lo:Nat) (R:List wM) (e:Ending) (w':World):Prop:=∃ (A:Option Addr) (m c:Nat) (J:List wM),e=.returned (.slice A m c)/\w'.ownsRow lo 203 2 (.slice A m c) m (J.flatMap vT)/\m<=n/\oC C J/\∀ p,xW J p=xW R p
theorem MZ {w:World} {base C n c:Nat} {A:Option Addr} {R:List wM} (h:w.ownsRow base 203 2 (.slice A n c) n (R.flatMap vT)) (hn:n<=1000000000) (hC:C<=1000000000) (hR:oC C R) (N:base<=w.heap.size) :
 Calls prog 170 #[.slice A n c] w fun e w'=>uId C n w.heap.size R e w'/\Below base w w':=by
 have HS:=uA (FO h hn);have ar:=uA hR;clear h hR;go_enter func170,ntmps170
 go_wp2_with fail
 refine HS.o.mono ?_;rintro e w1 ⟨rfl,⟨R',hp,ho⟩,hb⟩;have a4:=uA (hb N);have HL:=uA (vH wN eW ho);have au:=uA (uM.of_own wN eW ho);have HP:=uA hp;have av:Hdd (oC C R'):=fun r hr=>ar.o r (hp.mem_iff.2 hr);clear hp ho hb HS;go_wp2;go_loopw [3,11] (fun v i wr=>∃ (j:Nat) (A2:Option Addr) (m c2:Nat) (J:List wM),i=.int .i64 (j:Int)/\v=.slice A2 m c2/\j<=n/\m<=j/\Hdd (wr.ownsRow w1.heap.size 203 2 (.slice A2 m c2) m (J.flatMap vT))/\Hdd (∀ p,xW J p=xW (R'.take j) p)/\Hdd (oC C J)/\Hdd (Ab w1 wr)) (fun _ i _=>n - (intOf i).toNat)
 case atStart=>exact ⟨0,none,0,0,[],rfl,rfl,Am _,Ae _,uA (Bv _ _ _ _),uA (fun p=>rfl),uA (fun r hr=>by cases hr),uA (Below.refl _ _)⟩
 case round=>
  obtain ⟨j,A2,m,c2,J,rfl,rfl,hj,aw,HO,a0,O,HW⟩:=hrel;by_cases P:j < n
  ·have ag:(j:Int) < (n:Int):=bB;have b6:(0:Int)<=(j:Int):=bB;obtain ⟨x,hx⟩:∃ x,R'[j]?=some x:=⟨_,Ad (by rw [HL.o];exact P)⟩;obtain ⟨g0,o0,hA,a5,E⟩:=au.o.at_ hx;subst hA;obtain ⟨f,a⟩:=x;have a6:=av.o (f,a) (Aj hx);have a1:f < a:=a6.1;have a7:a<=C:=a6.2;have a8:=uA (show R'.take (j+1)=R'.take j++[(f,a)] by rw [Bm,hx];rfl);have c0:wr.cell? ⟨g0,o0+j*2,none⟩=some (.int .i64 (f:Int)):=(HW.o.cell (p:=⟨g0,o0+j*2,none⟩) a5).trans (by simpa using E 0 _ rfl);have c1:wr.cell? ⟨g0,o0+j*2+1,none⟩=some (.int .i64 (a:Int)):=(HW.o.cell (p:=⟨g0,o0+j*2+1,none⟩) a5).trans (E 1 _ rfl);have ax:=HW.o.size;have a9:=uB wr (.cells #[.int .i64 (f:Int),.int .i64 (a:Int)] 203);have Q:=uA (uC HO.o a9);have d:=uA (Bx.new wr [.int .i64 (f:Int),.int .i64 (a:Int)] 203);have F:=uA (HW.o.trans (a9.mono ax));have y0:=d.o.q 0 rfl;have y1:=d.o.q 1 rfl;have ah:=vH wN eW HO.o;have aa:=uA ah;obtain ⟨s,ab⟩:∃ s,s=wr.alloc (.cells #[.int .i64 (f:Int),.int .i64 (a:Int)] 203):=⟨_,rfl⟩;have T:=uA ab;rw [<-ab] at Q d F y0 y1;have b7:s.frozen? ⟨wr.heap.size,1,none⟩=false:=d.o.frozen 1;clear hx a6 a5 E a9 ah ab;obtain ⟨i0,hi,ai,aj,ak⟩:=info_parts PY;have a2:=uA fun (t:World) (q:Ab s t)=>(show Ab w1 (t.alloc (.cells #[.int .i64 (f:Int),.int .i64 (a:Int)] 203))/\(t.alloc (.cells #[.int .i64 (f:Int),.int .i64 (a:Int)] 203)).ownsRow w1.heap.size 203 2 (.slice A2 m c2) m (J.flatMap vT)/\(∀ j u,(vT (f,a))[j]?=some u->(t.alloc (.cells #[.int .i64 (f:Int),.int .i64 (a:Int)] 203)).cell? ((⟨t.heap.size,0,none⟩:Addr).add j)=some u) from by
    have al:=uB t (.cells #[.int .i64 (f:Int),.int .i64 (a:Int)] 203);exact ⟨(Aa F.o q).trans (al.mono (Ai F.o.size q.size)),uC (uC Q.o q) al,Bd (heap_alloc_new t (.cells #[.int .i64 (f:Int),.int .i64 (a:Int)] 203))⟩)
   rcases m with _ | k
   ·have s1:IntKind.i64.wrap ((0:Int) - 1)=-1:=eW;have ay:J=[]:=Fa.1 aa.o;subst ay;have y2:=d.o.q 0 rfl;have y3:=d.o.q 1 rfl;rw [T.o] at y2 y3;go_wp2_with fail
    rw [<-T.o];clear y2 y3;go_quiet (fail)
    have q:Ab s (s.drewN nq):=xZ s nq;obtain ⟨t,y⟩:∃ t,t=s.drewN nq:=⟨_,rfl⟩;rw [<-y] at q ⊢;obtain ⟨q1,q2,q3⟩:=a2.o t q;have y2:=(d.o.below q).q 0 rfl;have y3:=(d.o.below q).q 1 rfl;have Q1:=uA q1;clear q y y0 y1 q1;go_wp2_with (at_builtin;refine wpList_append_lies _ rfl _ _ 200 rfl w1.heap.size 203 i0 _ 2 16 underlying200 hi ai aj ak rfl eW (.slice A2 0 c2) 0 ([].flatMap vT) rfl q2 ⟨t.heap.size,0,none⟩ 1 1 (vT (f,a)) rfl rfl q3 (qG _) eW (by unfold maxLen;omega) bB Q1.o.size _ rfl ?_;intro g U w7 o V Y ac)
    have ad:=uA (Q1.o.grown V Q1.o.size fun b hb=>(q2.lt b hb).1);have G:=uA (show w7.ownsRow w1.heap.size 203 2 (.slice (some ⟨g,0,none⟩) (0+1) U) (0+1) (([]++[(f,a)]).flatMap vT) by rw [Bk];exact o);have B:Hdd (∀ p,xW ([]++[(f,a)]) p=xW (R'.take (j+1)) p):=(fun p=>by rw [yK,a0.o p,a8.o,yK]);have D:Hdd (oC C ([]++[(f,a)])):=(fun r hr=>(Aq.1 hr).elim (O.o r) fun h=>by rw [An.1 h];exact ⟨a1,a7⟩);clear o V Y ac q2 q3;go_roundw
    case rel=>exact ⟨j+1,_,0+1,U,[]++[(f,a)],by go_num,rfl,P,bB,G,B,D,ad⟩
    case measure=>simp [intOf];omega
   ·obtain ⟨M,z,rfl⟩:∃ M z,J=M++[z]:=by
     have am:J≠[]:=fun e=>by have:=aa.o;rw [e] at this;cases this
     exact ⟨J.dropLast,J.getLast am,(Fs am).symm⟩
    obtain ⟨I,H⟩:=z;have ae:M.length=k:=by have:=aa.o;simp at this;omega
    obtain ⟨g,rfl,az,hg⟩:=bK Q.o (G8 k);obtain ⟨gv,zv,Z,_,E⟩:=(uM.of_own wN eW Q.o).at_ (i:=k) (x:=(I,H)) (by rw [<-ae];simp);injection Z with Z;injection Z with Z b0;subst Z b0;have z1:s.cell? ⟨g,k*2+1,none⟩=some (.int .i64 (H:Int)):=(by simpa using E 1 _ rfl);have s1:IntKind.i64.wrap ((k:Int)+1 - 1)=(k:Int):=by rw [show (k:Int)+1 - 1=k by omega];exact vV _ bB bB
    have b8:decide ((k:Int)≥0)=true:=decide_eq_true bB;have b9:(k:Int) < ((k+1:Nat):Int):=bB;have ba:(0:Int)<=(k:Int):=bB;have an:=O.o (I,H) nF;have a3:I < H:=an.1;have ao:=uA ae;have y2:=d.o.q 0 rfl;have y3:=d.o.q 1 rfl;have y4:=z1;rw [T.o] at y2 y3 y4;clear E an ae;by_cases he:H=f
    ·subst he;go_wp2_with fail
     rw [<-T.o];clear y2 y3 y4;go_quiet (fail)
     have q:Ab s (s.drewN nq):=xZ s nq;obtain ⟨t,y⟩:∃ t,t=s.drewN nq:=⟨_,rfl⟩;rw [<-y] at q ⊢;have y2:=(d.o.below q).q 1 rfl;have af:=uC Q.o q;have ap:=iS af (i:=k) (Dr k) 1 eW;have y3:=ap.2;have b3:=uA ((Aa F.o q).setCell (p:=⟨g,k*2+1,none⟩) az (.int .i64 (a:Int)));have G:=uA (NC af (i:=k*2+1) bB (.int .i64 (a:Int)));rw [<-ao.o,uCm M I H a,ao.o] at G;have B:Hdd (∀ p,xW (M++[(I,a)]) p=xW (R'.take (j+1)) p):=(fun p=>by rw [<-RX (Co a3) (Co a1),yK,a0.o p,a8.o,yK]);have D:Hdd (oC C (M++[(I,a)])):=(fun r hr=>(Aq.1 hr).elim (fun h=>O.o r (Aq.2 (.inl h))) fun h=>by rw [An.1 h];exact ⟨Gq a3 a1,a7⟩);have y4:=(q.cell (p:=⟨g,k*2+1,none⟩) hg).trans z1;clear q y y0 y1 af ap z1;go_wp2;go_roundw
     case rel=>exact ⟨j+1,_,k+1,c2,M++[(I,a)],by go_num,rfl,P,bB,G,B,D,b3⟩
     case measure=>simp [intOf];omega
    ·have bc:((H:Int) == (f:Int))=false:=by simpa using fun h=>he bB
     have bd:decide ((H:Int)=(f:Int))=false:=decide_eq_false bB;clear he;go_wp2_with fail
     rw [<-T.o];clear y2 y3 y4;go_quiet (fail)
     have q:Ab s (s.drewN nq):=xZ s nq;obtain ⟨t,y⟩:∃ t,t=s.drewN nq:=⟨_,rfl⟩;rw [<-y] at q ⊢;obtain ⟨q1,q2,q3⟩:=a2.o t q;have y2:=(d.o.below q).q 0 rfl;have y3:=(d.o.below q).q 1 rfl;have Q1:=uA q1;clear q y y0 y1 q1;go_wp2_with (at_builtin;refine wpList_append_lies _ rfl _ _ 200 rfl w1.heap.size 203 i0 _ 2 16 underlying200 hi ai aj ak rfl eW (.slice (some ⟨g,0,none⟩) (k+1) c2) (k+1) ((M++[(I,H)]).flatMap vT) rfl q2 ⟨t.heap.size,0,none⟩ 1 1 (vT (f,a)) rfl rfl q3 (qG _) eW (by unfold maxLen;omega) bB Q1.o.size _ rfl ?_;intro g7 U w7 o V Y ac)
     have ad:=uA (Q1.o.grown V Q1.o.size fun b hb=>(q2.lt b hb).1);have G:=uA (show w7.ownsRow w1.heap.size 203 2 (.slice (some ⟨g7,0,none⟩) ((k+1)+1) U) ((k+1)+1) (((M++[(I,H)])++[(f,a)]).flatMap vT) by rw [Bk];exact o);have B:Hdd (∀ p,xW ((M++[(I,H)])++[(f,a)]) p=xW (R'.take (j+1)) p):=(fun p=>by rw [yK,a0.o p,a8.o,yK]);have D:Hdd (oC C ((M++[(I,H)])++[(f,a)])):=(fun r hr=>(Aq.1 hr).elim (O.o r) fun h=>by rw [An.1 h];exact ⟨a1,a7⟩);clear o V Y ac q2 q3;go_roundw
     case rel=>exact ⟨j+1,_,(k+1)+1,U,(M++[(I,H)])++[(f,a)],by go_num,rfl,P,bB,G,B,D,ad⟩
     case measure=>simp [intOf];omega
  ·have ag:¬(j:Int) < (n:Int):=bB;obtain rfl:j=n:=by omega
   have aq:Hdd (∀ p,xW J p=xW R p):=fun p=>by
    rw [a0.o p,Au (by rw [HL.o];exact Ae _)];exact (UG HP.o p).symm
   have b4:=uA (a4.o.trans (HW.o.mono (Ai N a4.o.size)));have b5:=uA (uI HO.o a4.o.size);clear P;go_wp2;go_ret;exact ⟨⟨A2,m,c2,J,rfl,b5.o,aw,O.o,aq.o⟩,b4.o⟩
structure JX (w:World) (l:List BkV) (fb:Nat) (sA:Option Addr) (sc bb m b1 b2:Nat) (S:Int->SlW (Nat×Bool)) (K:List Int) (L:List (SlW Int)):Prop where
 box:Bx w fb [.slice sA (l.length+1) sc,.slice (some ⟨bb,0,none⟩) l.length l.length,.map (some m)] 258
 st:Rd w w.heap.size sA (l.length+1) (vC (stI l (l.length+1)))
 grid:wJ w b1 bb 60 3 1 uX L
 bef:∀ j,j < l.length->∃ s,L[j]?=some s/\s.L=wL (qX l (xF l) j)
 sit:dY w b2 m S K
 sites:∀ q,(S q).L=vF l q (uF l)
def QI (w:World) (l:List BkV) (fb:Nat) (K:List Int):Prop:=∃ sA sc bb m b1 b2 S L,JX w l fb sA sc bb m b1 b2 S K L
section
variable {w w':World} {l:List BkV} {fb:Nat} {sA:Option Addr} {sc bb m b1 b2:Nat} {S:Int->SlW (Nat×Bool)} {K:List Int} {L:List (SlW Int)}
theorem JX.below (h:JX w l fb sA sc bb m b1 b2 S K L) (a:Ab w w'):JX w' l fb sA sc bb m b1 b2 S K L:=
 ⟨h.box.below a,(h.st.below a).more a.size,h.grid.below a,h.bef,h.sit.below a,h.sites⟩
theorem QI.below (h:QI w l fb K) (a:Ab w w'):QI w' l fb K:=by
 obtain ⟨sA,sc,bb,m,b1,b2,S,L,h⟩:=h;exact ⟨sA,sc,bb,m,b1,b2,S,L,h.below a⟩
end
theorem SZ {w:World} {base g n cap:Nat} {e:TypeId} {xs:List Value} {x y:Value} (h:w.ownsRow base e 2 (.slice (some ⟨g,0,none⟩) (n+1) cap) (n+1) (xs++[x,y])):w.ownsRow base e 2 (.slice (some ⟨g,0,none⟩) n cap) n xs:=by
 have b:xs.length=n*2:=by have:=h.1;simp at this;omega
 rcases h.2 with ⟨i,_⟩ | ⟨u,d,c,j,k,o,z,p,q,s⟩
 ·cases i
 ·injection j with a A t;injection a with a;injection a with a;subst a t;refine ⟨b,.inr ⟨g,cap,c,rfl,k,o,bB,p,q,?_⟩⟩;have f:=congrArg (List.take (n*2)) s;rw [Fy,D4 bB,<- b,Dz] at f;rw [<-f,b];congr 1;omega
theorem FH {w wp w7:World} {lo c k j n o:Nat} {e p:TypeId} {v d v2:Value} {xs f:List Value} (B:w.ownsRow lo e k v n xs) (q:w.ownsRow c p j d o f) (s:∀ b,v.ownBlock=some b->d.ownBlock≠some b) (t:Ab w wp) (z:wp.grownBy w7 v.ownBlock)
 (h:v2.ownBlock=v.ownBlock\/v2.ownBlock=some wp.heap.size):w7.ownsRow c p j d o f/\∀ b,v2.ownBlock=some b->d.ownBlock≠some b:=by
 have r:=uC q t;refine ⟨r.kept z ?_,fun b a g=>?_⟩
 ·rcases r.2 with ⟨i,_⟩ | ⟨u,x,A,i,_⟩
  ·left;rw [i];rfl
  ·right;intro e1;have y:d.ownBlock=some u:=by rw [i];rfl
   exact s u (by rw [<-e1,y]) y
 ·rcases h with e1 | e1
  ·exact s b (by rw [<-e1];exact a) g
  ·rw [e1] at a;injection a with a;have C:=(q.lt b g).2;have D:=t.size;omega
theorem wC.grown {w wp w7:World} {eb lo k n:Nat} {e:TypeId} {v:Value} {xs:List Value} {L:List Int} (h:wC w eb L) (d:w.ownsRow lo e k v n xs) (f:Ab w wp) (g:wp.grownBy w7 v.ownBlock):wC w7 eb L:=by
 refine h.kept fun o b i=>?_
 have j:=(Ag.1 b).1;have c:=(f.block eb j).trans b;refine (g.block eb (Ag.1 c).1 fun e=>?_).trans c;obtain ⟨p,a⟩:=zQ d e.symm;rw [b] at a;injection a with a;subst a;cases i
structure xR (w:World) (lo eb:Nat) (R W:List wM) (X:List Nat) (Lx:List Int) (v5 v6:Value) (n5 n6:Nat):Prop where
 r5:w.ownsRow lo 203 2 v5 n5 (R.flatMap vT)
 r6:w.ownsRow lo 203 2 v6 n6 (W.flatMap vT)
 dis:∀ b,v5.ownBlock=some b->v6.ownBlock≠some b
 set:wC w eb Lx
 mem:∀ i:Nat,(i:Int)∈Lx↔i∈X
section
variable {w w' wp w7:World} {lo eb:Nat} {R W:List wM} {X:List Nat} {Lx:List Int} {v5 v6 v:Value} {n5 n6:Nat} {r:wM}
theorem xR.l5 (h:xR w lo eb R W X Lx v5 v6 n5 n6):R.length=n5:=vH wN eW h.r5
theorem xR.l6 (h:xR w lo eb R W X Lx v5 v6 n5 n6):W.length=n6:=vH wN eW h.r6
theorem xR.below (h:xR w lo eb R W X Lx v5 v6 n5 n6) (a:Ab w w'):xR w' lo eb R W X Lx v5 v6 n5 n6:=
 ⟨uC h.r5 a,uC h.r6 a,h.dis,h.set.below a,h.mem⟩
theorem xR.add (h:xR w lo eb R W X Lx v5 v6 n5 n6) (c:Turn (fun k=>k=eb) w w') {i:Nat} {X':List Nat} (o:wC w' eb (Lx++[(i:Int)])) (p:∀ j,j∈X'↔j∈X\/j=i):xR w' lo eb R W X' (Lx++[(i:Int)]) v5 v6 n5 n6:=by
 have d:∀ (v:Value) (n:Nat) (f:List Value),w.ownsRow lo 203 2 v n f->∀ b,v.ownBlock=some b->¬b=eb:=fun v n f q b s e=>by
  subst e;obtain ⟨u,g⟩:=zQ q s;obtain ⟨_,⟨x,a,t,_⟩,_⟩:=h.set.own;rw [t] at g;cases g
 refine ⟨yZ h.r5 c (d _ _ _ h.r5),yZ h.r6 c (d _ _ _ h.r6),h.dis,o,fun j=>?_⟩;rw [Aq,h.mem j,p j,An];exact or_congr_right ⟨fun e=>by omega,fun e=>by omega⟩
theorem xR.pop {g n c:Nat} (h:xR w lo eb R (W++[r]) X Lx v5 (.slice (some ⟨g,0,none⟩) (n+1) c) n5 (n+1)):xR w lo eb R W X Lx v5 (.slice (some ⟨g,0,none⟩) n c) n5 n:=
 ⟨h.r5,SZ (x:=.int .i64 (r.1:Int)) (y:=.int .i64 (r.2:Int)) (by have:=h.r6;rw [Bk] at this;exact this),h.dis,h.set,h.mem⟩
theorem xR.app5 (h:xR w lo eb R W X Lx v5 v6 n5 n6) (d:Ab w wp) (f:wp.grownBy w7 v5.ownBlock) {g c:Nat} (a:w7.ownsRow lo 203 2 (.slice (some ⟨g,0,none⟩) (n5+1) c) (n5+1) (R.flatMap vT++vT r)) (b:v5.ownBlock=some g\/g=wp.heap.size) :
 xR w7 lo eb (R++[r]) W X Lx (.slice (some ⟨g,0,none⟩) (n5+1) c) v6 (n5+1) n6:=by
 obtain ⟨i,j⟩:=FH (v2:=.slice (some ⟨g,0,none⟩) (n5+1) c) h.r5 h.r6 h.dis d f (b.elim (fun e=>.inl e.symm) fun e=>.inr (by rw [e];rfl));exact ⟨by rw [Bk];exact a,i,j,h.set.grown h.r5 d f,h.mem⟩
theorem xR.app6 (h:xR w lo eb R W X Lx v5 v6 n5 n6) (j:Ab w wp) (k:wp.grownBy w7 v6.ownBlock) {g c:Nat} (a:w7.ownsRow lo 203 2 (.slice (some ⟨g,0,none⟩) (n6+1) c) (n6+1) (W.flatMap vT++vT r)) (d:v6.ownBlock=some g\/g=wp.heap.size) :
 xR w7 lo eb R (W++[r]) X Lx v5 (.slice (some ⟨g,0,none⟩) (n6+1) c) n5 (n6+1):=by
 obtain ⟨n,o⟩:=FH (v2:=.slice (some ⟨g,0,none⟩) (n6+1) c) h.r6 h.r5 (fun b f i=>h.dis b i f) j k (d.elim (fun e=>.inl e.symm) fun e=>.inr (by rw [e];rfl));exact ⟨n,by rw [Bk];exact a,fun b f i=>o b i f,h.set.grown h.r6 j k,h.mem⟩
end
end Go.Proofs.YtnkjbjkoffgocaaGreatDoor
