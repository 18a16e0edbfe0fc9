import Derived.Test.YtnkjbjkoffgocaaGreatDoorQ12
set_option linter.unusedVariables false
set_option linter.unusedSimpArgs false
set_option maxRecDepth 100000
set_option maxHeartbeats 4000000
namespace Go.Proofs.YtnkjbjkoffgocaaGreatDoor
open Tryz Go.RowKit
theorem AL (x y:PlW) (w:World) (D:uL w w.heap.size x) (E:uL w w.heap.size y) :
 Calls prog 62 #[uV x,uV y] w fun e I=>e=.returned (.bool (yI x y))/\Ab w I:=by
 have s:=uA (mR w x y);have HX:=uA (D.up s.o).prs;have HY:=uA (E.up s.o).prs;have S:=Ai D.nc D.cm;have T:=Ai E.nc E.cm;have hs:=uA fun (I:World) (h:Ab (yW w x y) I)=>aE h
 have t:=uA D.prs.len;have u:=uA E.prs.len;obtain ⟨l,A,n,c,m⟩:=x;obtain ⟨J,B,f,C,d⟩:=y;simp only [] at S T;clear D E;unfold maxLen at S T;by_cases H:l=J;rotate_left
 ·have t1:(l != J)=true:=by rw [bne_iff_ne];exact H
  have z:=uA (show yI ⟨l,A,n,c,m⟩ ⟨J,B,f,C,d⟩=false by unfold yI;simp [H]);clear H;go_enter func62,ntmps62
  go_wp2;go_ret;exact ⟨congrArg (fun v=>Ending.returned (.bool v)) z.o.symm,s.o⟩
 subst H;by_cases K:n<=f;rotate_left
 ·have F:(f:Int) < (n:Int):=by omega
  have z:=uA (show yI ⟨l,A,n,c,m⟩ ⟨l,B,f,C,d⟩=false from by
   cases h:yI ⟨l,A,n,c,m⟩ ⟨l,B,f,C,d⟩
   ·rfl
   ·have:=(qD.1 h).2.length_le;have U:m.length=n:=t.o;have h2:d.length=f:=u.o;simp only [] at this;omega)
  go_enter func62,ntmps62
  go_wp2;go_ret;exact ⟨congrArg (fun v=>Ending.returned (.bool v)) z.o.symm,s.o⟩
 have F:(n:Int)<=(f:Int):=by omega
 have L:=uA (show (d.take n).length=n by rw [B9];have:d.length=f:=u.o;omega);have V:Hdd (∀ v,aU m (d.take n)=v->yI ⟨l,A,n,c,m⟩ ⟨l,B,f,C,d⟩=v):=fun v hv=>by
  rw [<-hv,D8,qD,<- LE t.o (by rw [show d.length=f from u.o];exact K)];simp
 go_enter func62,ntmps62
 go_wp2;go_loopw [5] (fun i wr=>∃ j:Nat,i=.int .i64 (j:Int)/\j<=n/\Hdd (dF m (d.take n) j)/\Ab (yW w ⟨l,A,n,c,m⟩ ⟨l,B,f,C,d⟩) wr) (fun i _=>n - (intOf i).toNat)
 case atStart=>exact ⟨0,rfl,Am _,fun j h=>absurd h bB,Below.refl _ _⟩
 case round=>
  obtain ⟨j,rfl,hj,W,M⟩:=hrel;obtain ⟨_,k1,_,k3⟩:=hs.o wr M;have k:=uA M;clear M;by_cases N:j < n
  ·have X:j < f:=bB;obtain ⟨p,O⟩:∃ a,m[j]?=some a:=⟨_,Ad (by have:m.length=n:=t.o;omega)⟩;obtain ⟨q,P⟩:∃ a,d[j]?=some a:=⟨_,Ad (by have:d.length=f:=u.o;omega)⟩;have Y:=uA (show (d.take n)[j]?=some q by rw [Dp,if_pos N];exact P);obtain ⟨g,o,rfl,_,_,c0,c1⟩:=(HX.o.below k.o).at_ O;obtain ⟨g',o',rfl,_,_,d0,d1⟩:=(HY.o.below k.o).at_ P;have Z:(j:Int) < (n:Int):=bB;have Q:(j:Int) < (f:Int):=bB;have G:=uA O;clear O P;obtain ⟨a,b⟩:=p;obtain ⟨a',b'⟩:=q;simp only [] at c0 c1 d0 d1;by_cases r:a=a'/\b=b'
   ·obtain ⟨rfl,rfl⟩:=r;have R:=uA (eZ W.o G.o Y.o);go_wp2;go_quiet (fail)
    go_wp2;go_roundw
    case rel=>exact ⟨j+1,by go_num,bB,R.o,tyN k.o _⟩
    case measure=>simp [intOf];omega
   ·have z:=uA (V.o _ (EA G.o Y.o (fun e=>r (by injection e with e1 e2;exact ⟨e1,e2⟩))));by_cases U:a=a'
    ·subst U;have h2:¬b=b':=fun e=>r ⟨rfl,e⟩
     clear r;go_wp2;go_quiet (fail)
     go_wp2;go_ret;exact ⟨congrArg (fun v=>Ending.returned (.bool v)) z.o.symm,s.o.trans ((tyN k.o _).mono s.o.size)⟩
    ·clear r;go_wp2;go_quiet (fail)
     go_wp2;go_ret;exact ⟨congrArg (fun v=>Ending.returned (.bool v)) z.o.symm,s.o.trans ((tyN k.o _).mono s.o.size)⟩
  ·obtain rfl:j=n:=by omega
   have z:=uA (V.o _ (rV W.o t.o L.o));go_wp2;go_ret;exact ⟨congrArg (fun v=>Ending.returned (.bool v)) z.o.symm,(Aa s.o k.o)⟩
theorem EJ {x y:PlW} {v:Bool} (h:yI x y=v) (w:World) (a:uL w w.heap.size x) (b:uL w w.heap.size y) :
 Calls prog 62 #[uV x,uV y] w fun e c=>e=.returned (.bool v)/\Ab w c:=h ▸ AL x y w a b
theorem LF (x y:PlW) (w:World) (p:uL w w.heap.size x) (q:uL w w.heap.size y) :
 Calls prog 43 #[uV x,uV y] w fun e C=>e=.returned (.bool (pU x y))/\Ab w C:=by
 have d:=uA (mR w x y);have D:=uA (p.up d.o);have E:=uA (q.up d.o);have f:=uA p.prs.len;have g:=uA q.prs.len;clear p q;obtain ⟨l,A,n,c,b⟩:=x;obtain ⟨k,m,i,o,a⟩:=y;by_cases j:n=i
 ·subst j;obtain ⟨v,r⟩:∃ v,yI ⟨l,A,n,c,b⟩ ⟨k,m,n,o,a⟩=v:=⟨_,rfl⟩;have F:=uA r;have s:=uA (show pU ⟨l,A,n,c,b⟩ ⟨k,m,n,o,a⟩=v from by
   rw [<-r,D8,qD,tF];refine and_congr Iff.rfl ⟨fun h=>h ▸ List.prefix_rfl,fun h=>h.eq_of_length ?_⟩;rw [show b.length=n from f.o,show a.length=n from g.o])
  clear r;go_enter func43,ntmps43
  go_wp2_with fail
  refine (EJ F.o _ D.o E.o).mono ?_;rintro e H ⟨rfl,u⟩;have t:=uA (Aa d.o u);clear u;go_wp2;go_ret;exact ⟨congrArg (fun v=>Ending.returned (.bool v)) s.o.symm,t.o⟩
 ·have I:((n:Int) == (i:Int))=false:=by simp;omega
  have s:=uA (show pU ⟨l,A,n,c,b⟩ ⟨k,m,i,o,a⟩=false from by
   cases h:pU ⟨l,A,n,c,b⟩ ⟨k,m,i,o,a⟩
   ·rfl
   ·have z:=(tF.1 h).2;have B:b.length=n:=f.o;have G:a.length=i:=g.o;simp only [] at z;rw [z] at B;exact absurd (B.symm.trans G) j)
  go_enter func43,ntmps43
  go_wp2;go_ret;exact ⟨congrArg (fun v=>Ending.returned (.bool v)) s.o.symm,d.o⟩
theorem PH {x y:PlW} {v:Bool} (h:pU x y=v) (w:World) (a:uL w w.heap.size x) (b:uL w w.heap.size y) :
 Calls prog 43 #[uV x,uV y] w fun e c=>e=.returned (.bool v)/\Ab w c:=h ▸ LF x y w a b
deriving instance DecidableEq for PlV,OpV,RvV,StV,TmV,BkV,LcV
section
variable {α β:Type}
theorem uC0 [DecidableEq α] {xs ys:List α} {k:Nat} {p q:α} (a:xs[k]?=some p) (b:ys[k]?=some q) (h:p≠q):eqL xs ys=false:=by simpa using NR (f:=id) a b h
theorem uBi [DecidableEq α] {xs ys:List α} {n:Nat} (h:jR id xs ys n) (a:xs.length=n) (b:ys.length=n):eqL xs ys=true:=by simpa using ET h a b
theorem YI [DecidableEq α] {xs ys:List α} {n m:Nat} (a:xs.length=n) (b:ys.length=m) (h:n≠m):eqL xs ys=false:=by simpa using EU (f:=id) a b h
end
theorem tQ (s t:SlW Pr) (w:World) (k l:Nat) (D:SlH w k 2 pV xH s) (E:SlH w l 2 pV xH t) :
 Calls prog 44 #[s.val,t.val] w fun e h=>e=.returned (.bool (eqL s.L t.L))/\Ab w h:=by
 have L:=uA D;have M:=uA E;have r:=uA D.len;have u:=uA E.len;have N:=D.nm;have O:=E.nm;obtain ⟨A,n,c,xs⟩:=s;obtain ⟨B,m,d,ys⟩:=t;simp only [] at N O;unfold maxLen at N O;clear D E;show Calls prog 44 #[.slice A n c,.slice B m d] w _;by_cases x:n=m
 ·subst x;go_enter func44,ntmps44
  go_wp2;go_loopw [5] (fun i wr=>∃ j:Nat,i=.int .i64 (j:Int)/\j<=n/\Hdd (jR id xs ys j)/\Ab w wr/\(∀ p,wr.cell? p=w.cell? p)) (fun i _=>n - (intOf i).toNat)
  case atStart=>exact ⟨0,rfl,Am _,uA (fC _ _ _),Below.refl _ _,fun _=>rfl⟩
  case round=>
   obtain ⟨j,rfl,hj,P,Q,R⟩:=hrel;have H:=uA Q;have S:=uA R;clear Q R;by_cases y:j < n
   ·obtain ⟨p,I⟩:=L.o.get y;obtain ⟨q,J⟩:=M.o.get y;obtain ⟨g,o,T,_,_,F⟩:=L.o.at_ I;obtain ⟨g',o',z,_,_,G⟩:=M.o.at_ J;simp only [] at T z;subst T;subst z;simp only [<-S.o] at F G;have U:(j:Int) < (n:Int):=bB;have V:=uA I;have W:=uA J;clear I J;have X:=F 0 _ rfl;have Y:=G 0 _ rfl;have c2:=F 1 _ rfl;have d2:=G 1 _ rfl;clear F G;simp only [Dl] at X Y;obtain ⟨a,b⟩:=p;obtain ⟨Z,b'⟩:=q;simp only [] at X Y c2 d2;by_cases f:a=Z/\b=b'
    ·obtain ⟨rfl,rfl⟩:=f;have hE:=fun h=>DC (v:=true) a b a b h nF
     have K:=uA (rB P.o V.o W.o rfl);go_wp2;go_quiet (fail)
     go_wp2;go_roundw
     case rel=>exact ⟨j+1,by go_num,bB,K,tyN H.o _,S.o⟩
     case measure=>simp [intOf];omega
    ·have hE:=fun h=>DC (v:=false) a b Z b' h (by simpa using f)
     have C:=uA (uC0 V.o W.o (fun e=>f (by injection e with e1 e2;exact ⟨e1,e2⟩)));clear f;go_wp2;go_quiet (fail)
     go_wp2;go_ret;exact ⟨congrArg (fun v=>Ending.returned (.bool v)) C.o.symm,tyN H.o _⟩
   ·obtain rfl:j=n:=by omega
    have C:=uA (uBi P.o r.o u.o);go_wp2;go_ret;exact ⟨congrArg (fun v=>Ending.returned (.bool v)) C.o.symm,H.o⟩
 ·have e1:((n:Int) != (m:Int))=true:=by simp;omega
  have C:=uA (YI r.o u.o x);go_enter func44,ntmps44
  go_wp2;go_ret;exact ⟨congrArg (fun v=>Ending.returned (.bool v)) C.o.symm,Below.refl _ _⟩
theorem mU {s t:SlW Pr} {v:Bool} (h:eqL s.L t.L=v) (w:World) {k l:Nat} (a:SlH w k 2 pV xH s) (b:SlH w l 2 pV xH t) :
 Calls prog 44 #[s.val,t.val] w fun e c=>e=.returned (.bool v)/\Ab w c:=h ▸ tQ s t w k l a b
theorem FR {w w':World} {a b c d e f g i j l:Value} {T U:TypeId} (h:Ab ((w.alloc (.cells #[a,b,c,d,e] T)).alloc (.cells #[f,g,i,j,l] U)) w') :
 (w'.cell? ⟨w.heap.size,0,none⟩=some a/\w'.cell? ⟨w.heap.size,1,none⟩=some b/\w'.cell? ⟨w.heap.size,2,none⟩=some c/\w'.cell? ⟨w.heap.size,3,none⟩=some d/\w'.cell? ⟨w.heap.size,4,none⟩=some e)/\w'.cell? ⟨w.heap.size+1,0,none⟩=some f/\w'.cell? ⟨w.heap.size+1,1,none⟩=some g/\w'.cell? ⟨w.heap.size+1,2,none⟩=some i/\w'.cell? ⟨w.heap.size+1,3,none⟩=some j/\w'.cell? ⟨w.heap.size+1,4,none⟩=some l:=by
 have m:(w.alloc (.cells #[a,b,c,d,e] T)).heap.size=w.heap.size+1:=by simp
 have k:=aH h;rw [m] at k;exact ⟨aH ((uB (w.alloc (.cells #[a,b,c,d,e] T)) _).trans (h.mono (uB (w.alloc (.cells #[a,b,c,d,e] T)) _).size)),k⟩
theorem CU (x y:FcW) (w:World) (hx:vO w w.heap.size x) (hy:vO w w.heap.size y) :
 Calls prog 14 #[wG x,wG y] w fun e d=>e=.returned (.bool (oG x y))/\Ab w d:=by
 have HX:=uA hx.loans;have HY:=uA hy.loans;have S:=uA (And.intro hx.edges (And.intro hx.killed (And.intro hx.invalid hx.live)));have T:=uA (And.intro hy.edges (And.intro hy.killed (And.intro hy.invalid hy.live)));have a6:=uA hx.loans.len;have a7:=uA hy.loans.len;have ak:=hx.loans.nm;obtain ⟨z,hz⟩:∃ z,oG x y=z:=⟨_,rfl⟩;rw [hz];obtain ⟨⟨A,n,c,L⟩,⟨eA,en,ec,eL⟩,⟨kA,kn,kc,kL⟩,⟨jA,jn,jc,jL⟩,⟨vA,vn,vc,vL⟩⟩:=x;obtain ⟨⟨A',n',c',L'⟩,⟨m,r,s,a8⟩,⟨t,u,B,a3⟩,⟨C,D,E,U⟩,⟨F,G,H,K⟩⟩:=y;simp only [] at HX HY S T ak a6 a7;unfold maxLen at ak;have HZ:Hdd ((eqL (L.map LnW.v) (L'.map LnW.v) && (eqL eL a8 && (eqL kL a3 && (eqL jL U && eqL vL K))))=z):=hz;have HB:=uA ((uB w (.cells #[.slice A n c,.slice eA en ec,.slice kA kn kc,.slice jA jn jc,.slice vA vn vc] 33)).trans ((uB (w.alloc (.cells #[.slice A n c,.slice eA en ec,.slice kA kn kc,.slice jA jn jc,.slice vA vn vc] 33)) (.cells #[.slice A' n' c',.slice m r s,.slice t u B,.slice C D E,.slice F G H] 33)).mono (uB w (.cells #[.slice A n c,.slice eA en ec,.slice kA kn kc,.slice jA jn jc,.slice vA vn vc] 33)).size));have HC:=uA fun (d:World) (y:Ab ((w.alloc (.cells #[.slice A n c,.slice eA en ec,.slice kA kn kc,.slice jA jn jc,.slice vA vn vc] 33)).alloc (.cells #[.slice A' n' c',.slice m r s,.slice t u B,.slice C D E,.slice F G H] 33)) d)=>FR y
 have a9:=uA (Below.refl ((w.alloc (.cells #[.slice A n c,.slice eA en ec,.slice kA kn kc,.slice jA jn jc,.slice vA vn vc] 33)).alloc (.cells #[.slice A' n' c',.slice m r s,.slice t u B,.slice C D E,.slice F G H] 33)).heap.size ((w.alloc (.cells #[.slice A n c,.slice eA en ec,.slice kA kn kc,.slice jA jn jc,.slice vA vn vc] 33)).alloc (.cells #[.slice A' n' c',.slice m r s,.slice t u B,.slice C D E,.slice F G H] 33)));clear hx hy hz;by_cases al:n=n'
 case' neg=>
  have e1:((n:Int) != (n':Int))=true:=by simp;try omega
  have I:=uA (HZ.o.symm.trans (by rw [EU a6.o a7.o al];try rfl));obtain ⟨⟨V,W,X,Y,Z⟩,y0,y1,y2,y3,y4⟩:=HC.o _ a9.o;go_enter func14,ntmps14
  go_wp2;go_ret;exact ⟨congrArg (fun v=>Ending.returned (.bool v)) I.o.symm,HB.o⟩
 subst al;obtain ⟨⟨V,W,X,Y,Z⟩,y0,y1,y2,y3,y4⟩:=HC.o _ a9.o;go_enter func14,ntmps14
 go_wp2;clear V W X Y Z y0 y1 y2 y3 y4;go_loopw [5] (fun i wr=>∃ k:Nat,i=.int .i64 (k:Int)/\k<=n/\Hdd (jR LnW.v L L' k)/\Hdd (Ab ((w.alloc (.cells #[.slice A n c,.slice eA en ec,.slice kA kn kc,.slice jA jn jc,.slice vA vn vc] 33)).alloc (.cells #[.slice A' n c',.slice m r s,.slice t u B,.slice C D E,.slice F G H] 33)) wr)) (fun i _=>n - (intOf i).toNat)
 case atStart=>exact ⟨0,rfl,Am _,uA (fC _ _ _),a9⟩
 case round=>
  obtain ⟨k,rfl,hk,HE,HR⟩:=hrel;obtain ⟨⟨V,W,X,Y,Z⟩,y0,y1,y2,y3,y4⟩:=HC.o _ HR.o;have a:=uA (Aa HB.o HR.o);by_cases am:k < n
  ·obtain ⟨p,hp⟩:=HX.o.get am;obtain ⟨q,hq⟩:=HY.o.get am;obtain ⟨b,o,hA,g,h1,c0,c1,c2,c3,c4⟩:=eC HX.o a.o hp;obtain ⟨b',o',aa,an,ao,d0,d1,d2,d3,d4⟩:=eC HY.o a.o hq;have hA:A=some ⟨b,o,none⟩:=hA;have aa:A'=some ⟨b',o',none⟩:=aa;subst hA aa;have HP:=uA hp;have HQ:=uA hq;have ap:=uA h1.pl;have aq:=uA ao.pl;have bi:(k:Int) < (n:Int):=bB;obtain ⟨rg,pt,mu,⟨l,pA,pn,pc,ps⟩⟩:=p;obtain ⟨M,N,O,⟨l',a0,a1,a2,ar⟩⟩:=q;simp only [] at c0 c1 c2 c3 c4 d0 d1 d2 d3 d4 ap aq;have ab:=uA (HR.o.trans (((uB wr (.cells #[.int .i64 rg,.int .i64 pt,.bool mu,.int .i64 l,.slice pA pn pc] 50)).trans ((uB (wr.alloc (.cells #[.int .i64 rg,.int .i64 pt,.bool mu,.int .i64 l,.slice pA pn pc] 50)) (.cells #[.int .i64 M,.int .i64 N,.bool O,.int .i64 l',.slice a0 a1 a2] 50)).mono (uB wr (.cells #[.int .i64 rg,.int .i64 pt,.bool mu,.int .i64 l,.slice pA pn pc] 50)).size)).mono HR.o.size));have az:=uA fun (d:World) (y:Ab ((wr.alloc (.cells #[.int .i64 rg,.int .i64 pt,.bool mu,.int .i64 l,.slice pA pn pc] 50)).alloc (.cells #[.int .i64 M,.int .i64 N,.bool O,.int .i64 l',.slice a0 a1 a2] 50)) d)=>FR y
   have a4:=uA fun (h:(⟨rg,pt,mu,⟨l,pA,pn,pc,ps⟩⟩:LnW).v≠(⟨M,N,O,⟨l',a0,a1,a2,ar⟩⟩:LnW).v)=>(show z=false from HZ.o.symm.trans (by rw [NR (f:=LnW.v) HP.o HQ.o h];try rfl))
   have J:=uA (Aa HB.o ab.o);have au:=uA fun (d:World) (y:Ab wr d)=>HC.o d (Aa HR.o y)
   clear hp hq h1 ao;have hz:=fun j=>(uB wr (.cells #[.int .i64 rg,.int .i64 pt,.bool mu,.int .i64 l,.slice pA pn pc] 50)).cell (p:=⟨b',o'+k*5+j,none⟩) (show b' < wr.heap.size from Ap an a.o.size)
   have f0:=(hz 0).trans d0;have f1:=(hz 1).trans d1;have f2:=(hz 2).trans d2;have f3:=(hz 3).trans d3;have f4:=(hz 4).trans d4;simp only [Dl] at f0;obtain ⟨_,v0,v1,v2,v3,v4⟩:=au.o _ (uB wr (.cells #[.int .i64 rg,.int .i64 pt,.bool mu,.int .i64 l,.slice pA pn pc] 50));obtain ⟨⟨k0,k1,k2,k3,k4⟩,m0,m1,m2,m3,m4⟩:=az.o _ (Below.refl _ _);clear hz g an au;by_cases b1:rg=M
   case' neg=>
    have I:=uA (a4.o (fun h=>b1 (congrArg LnV.region h)));have t1:(rg != M)=true:=by rw [bne_iff_ne];exact b1
    go_wp2;go_ret;exact ⟨congrArg (fun v=>Ending.returned (.bool v)) I.o.symm,J.o⟩
   subst b1;by_cases b2:pt=N
   case' neg=>
    have I:=uA (a4.o (fun h=>b2 (congrArg LnV.point h)));have t1:(pt != N)=true:=by rw [bne_iff_ne];exact b2
    go_wp2;go_ret;exact ⟨congrArg (fun v=>Ending.returned (.bool v)) I.o.symm,J.o⟩
   subst b2;by_cases b3:mu=O
   case' neg=>
    have I:=uA (a4.o (fun h=>b3 (congrArg LnV.mut_ h)));have t1:(mu != O)=true:=by rw [bne_iff_ne];exact b3
    go_wp2;go_ret;exact ⟨congrArg (fun v=>Ending.returned (.bool v)) I.o.symm,J.o⟩
   subst b3;obtain ⟨ev,av⟩:∃ e,pU ⟨l,pA,pn,pc,ps⟩ ⟨l',a0,a1,a2,ar⟩=e:=⟨_,rfl⟩;have ac:=uA av;clear av;go_wp2_with fail
   refine (PH ac.o _ (ap.o.up J.o) (aq.o.up J.o)).mono ?_;rintro e w2 ⟨rfl,g⟩;have b0:=uA (Aa J.o g);have b4:=uA (Aa ab.o g);clear g;cases ev
   ·have I:=uA (a4.o (fun h=>by have:=ZX h;rw [show pU _ _=false from ac.o] at this;cases this));go_wp2;go_ret;exact ⟨congrArg (fun v=>Ending.returned (.bool v)) I.o.symm,b0.o⟩
   ·have b5:=uA (rB (f:=LnW.v) HE.o HP.o HQ.o (YA rfl rfl rfl ac.o));go_wp2;go_roundw
    case rel=>exact ⟨k+1,by go_num,bB,b5,b4⟩
    case measure=>simp [intOf];omega
  ·obtain rfl:k=n:=by omega
   have ad:=uA (show (eqL eL a8 && (eqL kL a3 && (eqL jL U && eqL vL K)))=z from by
    have h:=HZ.o
    rwa [ET HE.o a6.o a7.o,E3] at h)
   have a5:=uA fun (d:World) (y:Ab wr d)=>HC.o d (Aa HR.o y)
   have b6:=uA (S.o.1.below a.o);have b7:=uA (T.o.1.below a.o);have b8:=uA fun (d:World) (y:Ab wr d)=>(S.o.2.1.below (Aa a.o y))
   have b9:=uA fun (d:World) (y:Ab wr d)=>(T.o.2.1.below (Aa a.o y))
   have ba:=uA fun (d:World) (y:Ab wr d)=>(S.o.2.2.1.below (Aa a.o y))
   have bb:=uA fun (d:World) (y:Ab wr d)=>(T.o.2.2.1.below (Aa a.o y))
   have bc:=uA fun (d:World) (y:Ab wr d)=>(S.o.2.2.2.below (Aa a.o y))
   have bd:=uA fun (d:World) (y:Ab wr d)=>(T.o.2.2.2.below (Aa a.o y))
   have aw:=uA (Below.refl wr.heap.size wr);obtain ⟨q1,ae⟩:∃ e,eqL eL a8=e:=⟨_,rfl⟩;have be:=uA ae;rw [ae] at ad;clear ae;go_wp2_with fail
   refine (mU be.o _ b6.o b7.o).mono ?_;rintro e w2 ⟨rfl,g⟩;have P:=uA (Aa aw.o g);clear g V W X Y Z y0 y1 y2 y3 y4;obtain ⟨⟨V,W,X,Y,Z⟩,y0,y1,y2,y3,y4⟩:=a5.o _ P.o;cases q1
   ·have I:=uA (show false=z by have h:=ad.o;rwa [G1] at h);go_wp2;go_ret;exact ⟨congrArg (fun v=>Ending.returned (.bool v)) I.o,(Aa a.o P.o)⟩
   have af:=uA (show (eqL kL a3 && (eqL jL U && eqL vL K))=z by have h:=ad.o;rwa [E3] at h);obtain ⟨q2,ag⟩:∃ e,eqL kL a3=e:=⟨_,rfl⟩;have bf:=uA ag;rw [ag] at af;clear ag;go_wp2_with fail
   refine (mU bf.o _ (b8.o _ P.o) (b9.o _ P.o)).mono ?_;rintro e w3 ⟨rfl,g⟩;have Q:=uA (Aa P.o g);clear g V W X Y Z y0 y1 y2 y3 y4;obtain ⟨⟨V,W,X,Y,Z⟩,y0,y1,y2,y3,y4⟩:=a5.o _ Q.o;cases q2
   ·have I:=uA (show false=z by have h:=af.o;rwa [G1] at h);go_wp2;go_ret;exact ⟨congrArg (fun v=>Ending.returned (.bool v)) I.o,(Aa a.o Q.o)⟩
   have ah:=uA (show (eqL jL U && eqL vL K)=z by have h:=af.o;rwa [E3] at h);obtain ⟨q3,ai⟩:∃ e,eqL jL U=e:=⟨_,rfl⟩;have bg:=uA ai;rw [ai] at ah;clear ai;go_wp2_with fail
   refine (mU bg.o _ (ba.o _ Q.o) (bb.o _ Q.o)).mono ?_;rintro e w4 ⟨rfl,g⟩;have R:=uA (Aa Q.o g);clear g V W X Y Z y0 y1 y2 y3 y4;obtain ⟨⟨V,W,X,Y,Z⟩,y0,y1,y2,y3,y4⟩:=a5.o _ R.o;cases q3
   ·have I:=uA (show false=z by have h:=ah.o;rwa [G1] at h);go_wp2;go_ret;exact ⟨congrArg (fun v=>Ending.returned (.bool v)) I.o,(Aa a.o R.o)⟩
   have ax:=uA (show eqL vL K=z by have h:=ah.o;rwa [E3] at h);obtain ⟨q4,aj⟩:∃ e,eqL vL K=e:=⟨_,rfl⟩;have bh:=uA aj;rw [aj] at ax;clear aj;go_wp2_with fail
   refine (mU bh.o _ (bc.o _ R.o) (bd.o _ R.o)).mono ?_;rintro e w5 ⟨rfl,g⟩;have ay:=uA (Aa R.o g);clear g V W X Y Z y0 y1 y2 y3 y4;obtain ⟨⟨V,W,X,Y,Z⟩,y0,y1,y2,y3,y4⟩:=a5.o _ ay.o;go_wp2;go_ret;exact ⟨congrArg (fun v=>Ending.returned (.bool v)) ax.o,(Aa a.o ay.o)⟩
theorem jQ {x y:FcW} {v:Bool} (h:oG x y=v) (w:World) (a:vO w w.heap.size x) (b:vO w w.heap.size y) :
 Calls prog 14 #[wG x,wG y] w fun e c=>e=.returned (.bool v)/\Ab w c:=h ▸ CU x y w a b
end Go.Proofs.YtnkjbjkoffgocaaGreatDoor
