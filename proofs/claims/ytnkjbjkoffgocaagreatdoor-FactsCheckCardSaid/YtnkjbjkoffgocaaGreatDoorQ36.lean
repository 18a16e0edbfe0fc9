import Derived.Test.YtnkjbjkoffgocaaGreatDoorQ35
set_option linter.unusedVariables false
set_option linter.unusedSimpArgs false
set_option maxRecDepth 100000
set_option maxHeartbeats 8000000
namespace Go.Proofs.YtnkjbjkoffgocaaGreatDoor
open _root_.Go.Proofs.Tryz Go.RowKit
theorem JV (x:PlW) (w:World) (G:uL w w.heap.size x) :
 Calls prog 49 #[uV x] w fun e O=>e=.returned (.int .i64 (vS x.l x.ps))/\Ab w O:=by
 obtain ⟨l,A,n,c,t⟩:=x;have H:=G.cm;have W:=G.nc;simp only [] at H W;have HX:=uA G.prs;have P:=uA G.prs.len;have X:=uA ((Below.refl w.heap.size w).alloc (Ae _) (.cells #[.int .i64 l,.slice A n c] 48));clear G
 unfold maxLen at H
 by_cases Q:l < 0
 ·have D:Hdd (vS l t=3):=if_pos Q;go_enter func49,ntmps49
  go_wp2;go_ret;exact ⟨congrArg (fun v=>Ending.returned (.int .i64 v)) D.o.symm,X.o⟩
 by_cases hn:32 < n
 ·have D:=uA (show vS l t=19 by unfold vS;rw [if_neg Q,if_pos (by have:t.length=n:=P.o;omega)]);have Y:(32:Int) < (n:Int):=by omega
  go_enter func49,ntmps49
  go_wp2;go_ret;exact ⟨congrArg (fun v=>Ending.returned (.int .i64 v)) D.o.symm,X.o⟩
 have D:=uA (show vS l t=yY (t.drop 0) by unfold vS;rw [if_neg Q,if_neg (by have:t.length=n:=P.o;omega)];rfl);have Y:(n:Int)<=32:=by omega
 have a3:0<=l:=by omega
 clear Q hn;have HC:=uA fun (O:World) (h:Ab (w.alloc (.cells #[.int .i64 l,.slice A n c] 48)) O)=>((h.cell (p:=⟨w.heap.size,1,none⟩) nF).trans (by simp [go_sem]):O.cell? ⟨w.heap.size,1,none⟩=some (.slice A n c))
 go_enter func49,ntmps49
 go_wp2;go_loopw [3] (fun i wr=>∃ j:Nat,i=.int .i64 (j:Int)/\j<=n/\Hdd (yY (t.drop j)=yY (t.drop 0))/\Ab (w.alloc (.cells #[.int .i64 l,.slice A n c] 48)) wr) (fun i _=>n - (intOf i).toNat)
 case atStart=>exact ⟨0,rfl,Am _,rfl,Below.refl _ _⟩
 case round=>
  obtain ⟨j,rfl,hj,Z,S⟩:=hrel;have T:=uA (X.o.trans (S.mono nF));have I:=uA S;have cz:=HC.o _ S;clear S;by_cases a4:j < n
  ·have a2:(j:Int) < (n:Int):=(by omega);obtain ⟨p,hp⟩:∃ p,t[j]?=some p:=⟨_,Ad (by have:t.length=n:=P.o;omega)⟩;obtain ⟨b,o,rfl,_,hi,c0,c1⟩:=(HX.o.below T.o).at_ hp;have HS:=uA (BF hp);obtain ⟨k,f⟩:=p;simp only [] at c0 c1;have B:=uA (T.o.alloc T.o.size (.cells #[.int .i64 k,.int .i64 f] 52));have J:=uA (I.o.alloc I.o.size (.cells #[.int .i64 k,.int .i64 f] 52));clear hp hi;have m:∀ v,xI (k,f)=v->v≠0->Hdd (vS l t=v):=fun v hv a0=>(show _=_ by rw [D.o,<- Z.o,HS.o,hv,if_neg a0])
   have r:xI (k,f)=0->Hdd (yY (t.drop (j+1))=yY (t.drop 0)):=fun hv=>(show _=_ by rw [<-Z.o,HS.o,if_pos hv])
   by_cases F:k=0
   ·subst F;by_cases C:f=0
    ·subst C;have u:=r (by decide);clear m r;go_wp2;go_roundw
     case rel=>exact ⟨j+1,by go_num,by omega,u.o,J.o⟩
     case measure=>simp [intOf];omega
    ·have t1:(f != 0)=true:=by rw [bne_iff_ne];exact C
     have u:=m 2 (by unfold xI;rw [if_neg (by omega),if_pos ⟨rfl,C⟩]) (by decide);clear m r C;go_wp2;go_ret;exact ⟨congrArg (fun v=>Ending.returned (.int .i64 v)) u.o.symm,B.o⟩
   ·have t0:(k != 0)=true:=by rw [bne_iff_ne];exact F
    have a1:(k == 0)=false:=(by simpa using F);by_cases V:k=1
    ·subst V;clear F t0 a1;by_cases C:f < 0
     ·have u:=m 3 (by unfold xI;rw [if_neg (by omega),if_neg (by omega),if_pos C]) (by decide);clear m r;go_wp2;go_ret;exact ⟨congrArg (fun v=>Ending.returned (.int .i64 v)) u.o.symm,B.o⟩
     ·have u:=r (by unfold xI;rw [if_neg (by omega),if_neg (by omega),if_neg C]);clear m r;have a5:0<=f:=(by omega);go_wp2;go_roundw
      case rel=>exact ⟨j+1,by go_num,by omega,u.o,J.o⟩
      case measure=>simp [intOf];omega
    ·have t1:(k != 1)=true:=by rw [bne_iff_ne];exact V
     have u:=m 14 (by unfold xI;rw [if_pos ⟨F,V⟩]) (by decide);clear m r F V;go_wp2;go_ret;exact ⟨congrArg (fun v=>Ending.returned (.int .i64 v)) u.o.symm,B.o⟩
  ·obtain rfl:j=n:=by omega
   have u:=uA (show vS l t=0 by rw [D.o,<- Z.o,Cs (by have:t.length=j:=P.o;omega)];rfl);go_wp2;go_ret;exact ⟨congrArg (fun v=>Ending.returned (.int .i64 v)) u.o.symm,T.o⟩
theorem MQ {x:PlW} {v:Int} (h:vS x.l x.ps=v) (w:World) (c:uL w w.heap.size x) :
 Calls prog 49 #[uV x] w fun e d=>e=.returned (.int .i64 v)/\Ab w d:=h ▸ JV x w c
theorem PrS.up {w w':World} {s:SlW Pr} (h:PrS w w.heap.size s) (c:Ab w w'):PrS w' w'.heap.size s:=(h.below c).more c.size
section
variable {α:Type} {f:Option α->α->Int} {L:List α} {j:Nat} {p:α} {E v:Int}
end
section
variable {a b x y:Int} {q:Option Pr}
theorem lB (h:x < 0\/a<=x\/y < 0\/b<=y):prE a b q (x,y)=3:=if_pos h
theorem ZT (c:¬x < 0) (d:¬a<=x) (e:¬y < 0) (g:¬b<=y):prE a b none (x,y)=0:=if_neg (by show ¬(x < 0\/a<=x\/y < 0\/b<=y);omega)
theorem LX {u v e:Int} (c:¬x < 0) (d:¬a<=x) (g:¬y < 0) (i:¬b<=y) (h:(if x < u\/(x=u/\y<=v) then (21:Int) else 0)=e):prE a b (some (u,v)) (x,y)=e:=by
 unfold prE;rw [if_neg (by show ¬(x < 0\/a<=x\/y < 0\/b<=y);omega)];exact h
end
theorem EY (A:Option Addr) (n c:Nat) (L:List Pr) (g sc:Int) (w:World) (J:Prs w w.heap.size A n L) (X:n<=maxLen) :
 Calls prog 50 #[.slice A n c,.int .i64 g,.int .i64 sc] w fun e Y=>e=.returned (.int .i64 (pR g sc L))/\w=Y:=by
 have D:=uA J;have Z:=uA J.len;unfold maxLen at X;have HC:Hdd (pR g sc L=oR (prE g sc) (yN L 0) (L.drop 0)):=rfl;clear J;go_enter func50,ntmps50
 go_wp2;go_loop [7] (fun i=>∃ k:Nat,i=.int .i64 (k:Int)/\k<=n/\Hdd (pR g sc L=oR (prE g sc) (yN L k) (L.drop k))) (fun i=>n - (intOf i).toNat)
 case atStart=>exact ⟨0,rfl,Am _,HC.o⟩
 case round=>
  obtain ⟨k,rfl,hk,l⟩:=hrel;by_cases K:k < n
  ·obtain ⟨p,M⟩:=D.o.get K;have m:=uA M;obtain ⟨b,o,rfl,a0,O,c0,c1⟩:=D.o.at_ M;have W:(k:Int) < (n:Int):=bB;obtain ⟨x,y⟩:=p;simp only [] at c0 c1;clear M O;by_cases r:x < 0
   ·have d:=uA (zX m.o (lB (.inl r)) eW l.o);go_wp2;go_ret;exact ⟨xJ d.o,rfl⟩
   have t1:decide (x < 0)=false:=decide_eq_false r;have P:=uA r;by_cases t:g<=x
   ·have d:=uA (zX m.o (lB (.inr (.inl t))) eW l.o);clear r;go_wp2;go_ret;exact ⟨xJ d.o,rfl⟩
   have t2:decide (g<=x)=false:=decide_eq_false t;have Q:=uA t;by_cases C:y < 0
   ·have d:=uA (zX m.o (lB (.inr (.inr (.inl C)))) eW l.o);clear r t;go_wp2;go_ret;exact ⟨xJ d.o,rfl⟩
   have t3:decide (y < 0)=false:=decide_eq_false C;have S:=uA C;by_cases F:sc<=y
   ·have d:=uA (zX m.o (lB (.inr (.inr (.inr F)))) eW l.o);clear r t C;go_wp2;go_ret;exact ⟨xJ d.o,rfl⟩
   have t4:decide (sc<=y)=false:=decide_eq_false F;have T:=uA F;clear r t C F;rcases Ca k with h0 | h0
   ·have G:=uA (show yN L k=none by rw [h0];rfl);have d:=uA (dK m.o (by rw [G.o];exact ZT P.o Q.o S.o T.o) l.o);have tk:decide ((0:Int) < (k:Int))=false:=by simp;omega
    have a1:decide (0 < k)=false:=by simp;omega
    clear h0;go_wp2;go_round
    case rel=>exact ⟨k+1,by go_num,bB,d.o⟩
    case measure=>simp [intOf];omega
   ·obtain ⟨j,rfl⟩:∃ j,k=j+1:=⟨k - 1,bB⟩;obtain ⟨q,U⟩:=D.o.get (show j < n by omega);obtain ⟨b',o',e',_,V,d0,d1⟩:=D.o.at_ U;cases e';have G:Hdd (yN L (j+1)=some q):=(fW L j).trans U;obtain ⟨u,v⟩:=q;simp only [] at d0 d1;have tk:decide ((0:Int) < (j:Int)+1)=true:=by rw [decide_eq_true_iff];omega
    have a2:(0:Int)<=(j:Int):=Ch _;have a3:(j:Int) < (n:Int):=bB;have a4:IntKind.i64.wrap ((j:Int)+1 - 1)=(j:Int):=by rw [De];omega
    have a5:IntKind.i64.wrap (j:Int)=(j:Int):=by rw [De];omega
    have z:=uA fun (h:¬(x < u\/(x=u/\y<=v)))=>(show pR g sc L=oR (prE g sc) (yN L (j+1+1)) (L.drop (j+1+1)) from dK m.o (by rw [G.o];exact LX P.o Q.o S.o T.o (if_neg h)) l.o)
    have B:=uA fun (h:x < u\/(x=u/\y<=v))=>(show pR g sc L=21 from zX m.o (by rw [G.o];exact LX P.o Q.o S.o T.o (if_pos h)) eW l.o)
    clear U V;by_cases s:x < u
    ·have d:=uA (B.o (.inl s));clear z B;go_wp2;go_ret;exact ⟨xJ d.o,rfl⟩
    have t6:decide (x < u)=false:=decide_eq_false s;by_cases H:x=u
    ·subst H;by_cases I:y<=v
     ·have d:=uA (B.o (.inr ⟨rfl,I⟩));clear z B s;go_wp2;go_ret;exact ⟨xJ d.o,rfl⟩
     ·have d:=uA (z.o (fun h=>h.elim s fun h=>I h.2));have t7:decide (y<=v)=false:=decide_eq_false I;clear z B s I;go_wp2;go_round
      case rel=>exact ⟨j+1+1,by go_num,bB,d.o⟩
      case measure=>simp [intOf];omega
    ·have t7:(x == u)=false:=(by simpa using H);have d:=uA (z.o (fun h=>h.elim s fun h=>H h.1));clear z B s H;go_wp2;go_round
     case rel=>exact ⟨j+1+1,by go_num,bB,d.o⟩
     case measure=>simp [intOf];omega
  ·obtain rfl:k=n:=by omega
   have d:=uA (l.o.trans (fQ _ (by have:=Z.o;omega) _));go_wp2;go_ret;exact ⟨xJ d.o,rfl⟩
theorem pD {s:SlW Pr} {c sc v:Int} (h:pR c sc s.L=v) (w:World) (d:PrS w w.heap.size s):Calls prog 50 #[s.val,.int .i64 c,.int .i64 sc] w fun e g=>e=.returned (.int .i64 v)/\w=g:=h ▸ EY s.A s.n s.c s.L c sc w ⟨d.cells,d.all⟩ d.nm
section
variable {N R:Int} {x:LnW} {q:Option LnW}
end
theorem DE (x:FcW) (N R:Int) (w:World) (J:vO w w.heap.size x) :
 Calls prog 17 #[wG x,.int .i64 N,.int .i64 R] w fun e w'=>e=.returned (.int .i64 (fcE x N R))/\Ab w w':=by
 have HX:=uA J.loans;have HE:=uA J.edges;have HK:=uA J.killed;have HI:=uA J.invalid;have HV:=uA J.live;have aa:=uA J.loans.len;have ab:=J.loans.nm;obtain ⟨z,hz⟩:∃ z,fcE x N R=z:=⟨_,rfl⟩;rw [hz];obtain ⟨⟨A,n,c,L⟩,⟨K,B,M,eL⟩,⟨O,C,P,kL⟩,⟨Q,D,S,jL⟩,⟨T,F,U,vL⟩⟩:=x;simp only [] at HX HE HK HI HV ab aa;unfold maxLen at ab;have HZ:=uA hz;have m:=uA fun (h:16777216 < n\/16777216 < B\/16777216 < C\/16777216 < D\/16777216 < F)=>(show z=15 from hz ▸ if_pos h)
 have ac:=uA fun (h:¬(16777216 < n\/16777216 < B\/16777216 < C\/16777216 < D\/16777216 < F))=>(show z=orE (lT N R L) (orE (pR N N eL) (orE (pR (n:Int) N kL) (orE (pR (n:Int) N jL) (pR R N vL)))) from hz ▸ if_neg h)
 have g:=uA (uB w (.cells #[.slice A n c,.slice K B M,.slice O C P,.slice Q D S,.slice T F U] 33));have HC:=uA fun (w':World) (y:Ab (w.alloc (.cells #[.slice A n c,.slice K B M,.slice O C P,.slice Q D S,.slice T F U] 33)) w')=>aH y
 have ad:=uA (Below.refl (w.alloc (.cells #[.slice A n c,.slice K B M,.slice O C P,.slice Q D S,.slice T F U] 33)).heap.size (w.alloc (.cells #[.slice A n c,.slice K B M,.slice O C P,.slice Q D S,.slice T F U] 33)));obtain ⟨x0,x1,x2,x3,x4⟩:=HC.o _ ad.o;clear J hz;go_enter func17,ntmps17
 by_cases h:16777216 < n
 ·have h':(16777216:Int) < (n:Int):=by omega
  have d:=uA (m.o (.inl h));go_wp2;go_ret;exact ⟨xJ d.o,g.o⟩
 have gn:=h;have qn:¬(16777216:Int) < (n:Int):=by omega
 clear h;by_cases h:16777216 < B
 ·have h':(16777216:Int) < (B:Int):=by omega
  have d:=uA (m.o (.inr (.inl h)));go_wp2;go_ret;exact ⟨xJ d.o,g.o⟩
 have al:=h;have ba:¬(16777216:Int) < (B:Int):=by omega
 clear h;by_cases h:16777216 < C
 ·have h':(16777216:Int) < (C:Int):=by omega
  have d:=uA (m.o (.inr (.inr (.inl h))));go_wp2;go_ret;exact ⟨xJ d.o,g.o⟩
 have am:=h;have bb:¬(16777216:Int) < (C:Int):=by omega
 clear h;by_cases h:16777216 < D
 ·have h':(16777216:Int) < (D:Int):=by omega
  have d:=uA (m.o (.inr (.inr (.inr (.inl h)))));go_wp2;go_ret;exact ⟨xJ d.o,g.o⟩
 have an:=h;have bc:¬(16777216:Int) < (D:Int):=by omega
 clear h;by_cases h:16777216 < F
 ·have h':(16777216:Int) < (F:Int):=by omega
  have d:=uA (m.o (.inr (.inr (.inr (.inr h)))));go_wp2;go_ret;exact ⟨xJ d.o,g.o⟩
 have ao:=h;have bd:¬(16777216:Int) < (F:Int):=by omega
 clear h;have HS:=uA (ac.o bB);clear m ac gn al am an ao;have ap:Hdd (lT N R L=oR (lnE N R) (yN L 0) (L.drop 0)):=rfl;go_wp2;clear x0 x1 x2 x3 x4;go_loopw [8] (fun i wr=>∃ k:Nat,i=.int .i64 (k:Int)/\k<=n/\Hdd (lT N R L=oR (lnE N R) (yN L k) (L.drop k))/\Hdd (Ab (w.alloc (.cells #[.slice A n c,.slice K B M,.slice O C P,.slice Q D S,.slice T F U] 33)) wr)) (fun i _=>n - (intOf i).toNat)
 case atStart=>exact ⟨0,rfl,Am _,ap,ad⟩
 case round=>
  obtain ⟨k,rfl,hk,V,HR⟩:=hrel;obtain ⟨x0,x1,x2,x3,x4⟩:=HC.o _ HR.o;by_cases aq:k < n
  ·obtain ⟨p,hp⟩:=HX.o.get aq;have HP:=uA hp;obtain ⟨b,o,hA,hb,h1,c0,c1,c2,c3,c4⟩:=eC HX.o (Aa g.o HR.o) hp;have hA:A=some ⟨b,o,none⟩:=hA;subst hA;have ae:=uA h1.pl;have b9:(k:Int) < (n:Int):=bB;have r:=uA (HR.o.trans ((uB wr (.cells #[.int .i64 p.region,.int .i64 p.point,.bool p.mut_,.int .i64 p.pl.l,.slice p.pl.A p.pl.n p.pl.c] 50)).mono HR.o.size));have HO:∀ h:p.region < 0\/R<=p.region\/p.point < 0\/N<=p.point,lT N R L=3:=fun h=>zX HP.o (QW h) eW V.o
   have W:=uA fun (h1:¬p.region < 0) (h2:¬R<=p.region) (h3:¬p.point < 0) (h4:¬N<=p.point) (e:Int) (h:vS p.pl.l p.pl.ps=e) (G:e≠0)=>(show z=e from HS.o.trans (jS (zX HP.o (ZC h1 h2 h3 h4 h G) G V.o) G))
   have X:=uA fun (h1:¬p.region < 0) (h2:¬R<=p.region) (h3:¬p.point < 0) (h4:¬N<=p.point) (h:vS p.pl.l p.pl.ps=0) (e:Int) (G:(match yN L k with | none=>0 | some q=>if p.point<=q.point then 21 else 0)=e)=>(show lnE N R (yN L k) p=e from OV h1 h2 h3 h4 h G)
   have t:=uA fun (h:p.region < 0\/R<=p.region\/p.point < 0\/N<=p.point)=>(show z=3 from HS.o.trans (jS (HO h) eW))
   obtain ⟨rg,H,mu,⟨l,pA,pn,pc,ps⟩⟩:=p;simp only [] at c0 c1 c2 c3 c4 t W X ae;clear h1 hp hb HO;by_cases b1:rg < 0
   ·have d:=uA (t.o (.inl b1));go_wp2;go_ret;exact ⟨xJ d.o,(Aa g.o r.o)⟩
   by_cases b2:R<=rg
   ·have d:=uA (t.o (.inr (.inl b2)));go_wp2;go_ret;exact ⟨xJ d.o,(Aa g.o r.o)⟩
   by_cases b3:H < 0
   ·have d:=uA (t.o (.inr (.inr (.inl b3))));go_wp2;go_ret;exact ⟨xJ d.o,(Aa g.o r.o)⟩
   by_cases b4:N<=H
   ·have d:=uA (t.o (.inr (.inr (.inr b4))));go_wp2;go_ret;exact ⟨xJ d.o,(Aa g.o r.o)⟩
   have af:=uA (W.o b1 b2 b3 b4);have ag:=uA (X.o b1 b2 b3 b4);have ar:=uA fun (w':World) (y:Ab (wr.alloc (.cells #[.int .i64 rg,.int .i64 H,.bool mu,.int .i64 l,.slice pA pn pc] 50)) w')=>aH y
   obtain ⟨ev,ah⟩:∃ e,vS l ps=e:=⟨_,rfl⟩;have Y:=uA ah;clear W X t ah;go_wp2_with fail
   refine (MQ Y.o _ (ae.o.up (Aa g.o r.o))).mono ?_;rintro e w2 ⟨rfl,hb⟩;have au:=uA hb;have u:=uA (Aa r.o hb);clear hb x0 x1 x2 x3 x4 c0 c1 c2 c3 c4;by_cases G:ev=0
   case' neg=>
    have te:(ev != 0)=true:=by rw [bne_iff_ne];exact G
    have d:=uA (af.o _ Y.o G);clear G;go_wp2;go_ret;exact ⟨xJ d.o,(Aa g.o u.o)⟩
   subst G;have Z:=uA (ag.o Y.o);clear af ag b1 b2 b3 b4;obtain ⟨k0,k1,k2,k3,k4⟩:=ar.o _ au.o;obtain ⟨x0,x1,x2,x3,x4⟩:=HC.o _ u.o;rcases Ca k with h0 | h0
   ·have d:=uA (dK HP.o (Z.o 0 (by rw [h0];rfl)) V.o);have tk:decide ((0:Int) < (k:Int))=false:=by simp;omega
    have be:decide (0 < k)=false:=by simp;omega
    clear h0;go_wp2;go_quiet (fail)
    go_wp2;go_roundw
    case rel=>exact ⟨k+1,by go_num,bB,d,uA (tyN u.o _)⟩
    case measure=>simp [intOf];omega
   ·obtain ⟨j,rfl⟩:∃ j,k=j+1:=⟨k - 1,bB⟩;obtain ⟨q,hq⟩:=HX.o.get (show j < n by omega);obtain ⟨b',o',hA,_,_,_,d1,_,_,_⟩:=eC HX.o (Aa g.o u.o) hq;cases hA;have ai:Hdd (yN L (j+1)=some q):=(fW L j).trans hq;have tk:decide ((0:Int) < (j:Int)+1)=true:=by rw [decide_eq_true_iff];omega
    have bf:(0:Int)<=(j:Int):=Ch _;have bg:(j:Int) < (n:Int):=bB;have bh:IntKind.i64.wrap ((j:Int)+1 - 1)=(j:Int):=by rw [De];omega
    have bi:IntKind.i64.wrap (j:Int)=(j:Int):=by rw [De];omega
    have a0:=uA (fun (e:Int) (G:(if H<=q.point then 21 else 0)=e)=>(show lnE N R (yN L (j+1)) ⟨rg,H,mu,⟨l,pA,pn,pc,ps⟩⟩=e from Z.o e (by rw [ai.o];exact G)));obtain ⟨rq,pq,mq,lq⟩:=q;simp only [] at d1 a0;clear hq Z ai;by_cases b7:H<=pq
    ·have d:Hdd (z=21):=HS.o.trans (jS (zX HP.o (a0.o 21 (if_pos b7)) eW V.o) eW);have t7:decide (H<=pq)=true:=decide_eq_true b7;clear b7;go_wp2;go_quiet (fail)
     go_wp2;go_ret;exact ⟨xJ d.o,g.o.trans ((tyN u.o _).mono g.o.size)⟩
    ·have d:=uA (dK HP.o (a0.o 0 (if_neg b7)) V.o);have t7:decide (H<=pq)=false:=decide_eq_false b7;clear b7;go_wp2;go_quiet (fail)
     go_wp2;go_roundw
     case rel=>exact ⟨j+1+1,by go_num,bB,d,uA (tyN u.o _)⟩
     case measure=>simp [intOf];omega
  ·obtain rfl:k=n:=by omega
   have a5:=uA (HS.o.trans (BW (V.o.trans (fQ _ (by have:=aa.o;omega) _))));have HU:=uA fun (s:SlW Pr) (h:PrS w w.heap.size s)=>h.up (Aa g.o HR.o)
   have av:=uA (HU.o _ HE.o);have aw:=uA (HU.o _ HK.o);have ax:=uA (HU.o _ HI.o);have ay:=uA (HU.o _ HV.o);have I:=uA (Aa g.o HR.o);clear HU HE HK HI HV V HS;obtain ⟨a1,a6⟩:∃ v,pR N N eL=v:=⟨_,rfl⟩;obtain ⟨a2,a7⟩:∃ v,pR (k:Int) N kL=v:=⟨_,rfl⟩;obtain ⟨a3,a8⟩:∃ v,pR (k:Int) N jL=v:=⟨_,rfl⟩;obtain ⟨a4,a9⟩:∃ v,pR R N vL=v:=⟨_,rfl⟩;rw [a6,a7,a8,a9] at a5;have az:=uA a6;have b0:=uA a7;have b5:=uA a8;have b6:=uA a9;clear a6 a7 a8 a9;go_wp2_with fail
   refine (pD az.o _ av.o).mono ?_;rintro e w2 ⟨rfl,rfl⟩;by_cases y1:a1=0
   case' neg=>
    have t1:(a1 == 0)=false:=(by simpa using y1);have d:=uA (a5.o.trans (jS rfl y1));clear y1;go_wp2;go_ret;exact ⟨xJ d.o,I.o⟩
   subst y1;have aj:=uA (a5.o.trans (BW rfl));go_wp2_with fail
   refine (pD b0.o _ aw.o).mono ?_;rintro e w2 ⟨rfl,rfl⟩;by_cases y2:a2=0
   case' neg=>
    have t2:(a2 == 0)=false:=(by simpa using y2);have d:=uA (aj.o.trans (jS rfl y2));clear y2;go_wp2;go_ret;exact ⟨xJ d.o,I.o⟩
   subst y2;have ak:=uA (aj.o.trans (BW rfl));go_wp2_with fail
   refine (pD b5.o _ ax.o).mono ?_;rintro e w2 ⟨rfl,rfl⟩;by_cases y3:a3=0
   case' neg=>
    have t3:(a3 == 0)=false:=(by simpa using y3);have d:=uA (ak.o.trans (jS rfl y3));clear y3;go_wp2;go_ret;exact ⟨xJ d.o,I.o⟩
   subst y3;have b8:=uA (ak.o.trans (BW rfl));go_wp2_with fail
   refine (pD b6.o _ ay.o).mono ?_;rintro e w2 ⟨rfl,rfl⟩;go_wp2;go_ret;exact ⟨xJ b8.o,I.o⟩
theorem FY {x:FcW} {N R v:Int} (h:fcE x N R=v) (w:World) (c:vO w w.heap.size x) :
 Calls prog 17 #[wG x,.int .i64 N,.int .i64 R] w fun e d=>e=.returned (.int .i64 v)/\Ab w d:=h ▸ DE x N R w c
theorem XC (m:FcW) (N R:Int) (w:World) (U:vO w w.heap.size m) (hN:uH N) (hR:uH R) (s0:oJ m) (hT:gW w) :
 Calls prog 4 #[wG m,.int .i64 N,.int .i64 R] w fun e g=>e=.returned (.bool true)/\Ab w g:=by
 have t:=uA fun (g:World) (y:Ab w g)=>cC g (hT.up y)
 have Y:=uA fun (g:World) (y:Ab w g)=>zY m g (U.up y) s0
 obtain ⟨v,Z⟩:∃ v,fcE m N R=v:=⟨_,rfl⟩;have a0:=uA fun (g:World) (y:Ab w g)=>RG Z g (U.up y) hN hR
 have a1:=uA fun (g:World) (y:Ab w g)=>FY Z g (U.up y)
 have a5:(v == v)=true:=by simp
 obtain ⟨⟨A,n,c,L⟩,⟨u,z,B,eL⟩,⟨C,D,F,kL⟩,⟨G,H,I,jL⟩,⟨J,K,M,vL⟩⟩:=m;have l:=uA (uB w (.cells #[.slice A n c,.slice u z B,.slice C D F,.slice G H I,.slice J K M] 33));have hcx:=uA fun (g:World) (y:Ab (w.alloc (.cells #[.slice A n c,.slice u z B,.slice C D F,.slice G H I,.slice J K M] 33)) g)=>aH y
 clear U s0 hT hN hR Z;obtain ⟨m,x1,x2,x3,x4⟩:=hcx.o _ (Below.refl _ _);go_enter func4,ntmps4
 go_wp2_with fail
 refine (Y.o _ l.o).mono ?_;rintro e1 w1 ⟨h1,r⟩;have a2:=uA r;have s:=uA (Aa l.o r);clear r m x1 x2 x3 x4;rcases h1 with rfl | ⟨rfl,a3⟩
 case inl=>
  go_wp2_with fail
  refine (t.o _ s.o).mono ?_;rintro e w9 ⟨rfl,O⟩;have a4:=uA (Aa s.o O);clear O;go_wp2;go_ret;exact ⟨rfl,a4.o⟩
 clear a3;go_wp2;have V:=uA (a2.o.drew);refine wp_region_held_drew (S:=(fun g=>Ab (w.alloc (.cells #[.slice A n c,.slice u z B,.slice C D F,.slice G H I,.slice J K M] 33)) g)) fL V.o (fun hHeld=>?_);refine wpAnyH_ready (rs:=[0]) fL nF ?_;refine AllReadyH.cons rfl (fun T o=>?_) AllReadyH.nil;go_simp;refine (t.o _ (Aa l.o V.o)).mono ?_;rintro e w5 ⟨rfl,k⟩;have W:=uA (Aa V.o k);clear k;refine o.out _ _ W.o (fun hHeld=>?_);clear o T;try simp only [Ac]
 refine uJ [1,2,3,4,6,7,8] ?_
 repeat' (first | refine pT hHeld rfl ?_ | refine pS hHeld rfl ?_)
 refine uK ?_;refine wpAnyH_ready (rs:=[5]) fL nF ?_;refine AllReadyH.cons rfl (fun T o=>?_) AllReadyH.nil;go_simp;refine (a0.o _ (Aa l.o W.o)).mono ?_;rintro e w6 ⟨rfl,k⟩;have X:=uA (Aa W.o k);clear k;refine o.out _ _ X.o (fun hHeld=>?_);clear o T;try simp only [Ac]
 refine wpAnyH_ready (rs:=[9]) fL nF ?_;refine AllReadyH.cons rfl (fun T o=>?_) AllReadyH.nil;go_simp;refine (a1.o _ (Aa l.o X.o)).mono ?_;rintro e w7 ⟨rfl,k⟩;have H7:=uA (Aa X.o k);clear k;refine o.out _ _ H7.o (fun hHeld=>?_);clear o T;try simp only [Ac]
 refine uJ [10,11,12] ?_
 repeat' (first | refine pT hHeld rfl ?_ | refine pS hHeld rfl ?_)
 refine uK ?_;refine wpAnyH_done fL ?_ _;go_wp2;go_ret;exact ⟨rfl,(Aa l.o H7.o)⟩
end Go.Proofs.YtnkjbjkoffgocaaGreatDoor
