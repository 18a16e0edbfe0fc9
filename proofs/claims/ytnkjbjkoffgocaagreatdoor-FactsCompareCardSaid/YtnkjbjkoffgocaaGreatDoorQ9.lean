import Derived.Test.YtnkjbjkoffgocaaGreatDoorQ8
import Derived.Test.YtnkjbjkoffgocaaGreatDoorShelf
import Derived.Lib.OwnBridge
import Derived.Sort.OwnSortedInts
import Derived.LoopNIn
import Derived.Sort.QuietIn
set_option linter.unusedVariables false
set_option linter.unusedSimpArgs false
set_option maxRecDepth 100000
set_option maxHeartbeats 8000000
namespace Go.Proofs.YtnkjbjkoffgocaaGreatDoor
open Tryz Go.RowKit
theorem DB {zs:List Int} {x:Int}:x∈Lib.compact zs↔x∈zs:=by
 unfold Lib.compact Lib.compactUpTo;constructor
 ·intro h;obtain ⟨i,a,rfl⟩:=Bw.1 h;have c:i < zs.length:=B1.1 (Cx.1 a).1;simp [getElem!_pos,c]
 ·intro h;obtain ⟨i,a,rfl⟩:=List.mem_iff_getElem.1 h;have d:∀ n,∀ i (a:i < zs.length),i<=n->∃ j,j < zs.length/\Lib.keeps zs.toArray j=true/\zs.toArray[j]! = zs[i]:=by
   intro n
   induction n with
   | zero=>
     intro i a o;obtain rfl:i=0:=by omega
     exact ⟨0,a,by simp [Lib.keeps],by simp [getElem!_pos,a]⟩
   | succ n p=>
     intro i a q;by_cases l:Lib.keeps zs.toArray i=true
     ·exact ⟨i,a,l,by simp [getElem!_pos,a]⟩
     ·have b:¬(i=0\/zs.toArray[i]!≠zs.toArray[i - 1]!):=(by simpa [Lib.keeps] using l);have o:i≠0:=fun e=>b (.inl e)
      have m:zs.toArray[i]! = zs.toArray[i - 1]!:=E1 fun e=>b (.inr e)
      obtain ⟨j,f,g,k⟩:=p (i - 1) bB bB;refine ⟨j,f,g,k.trans ?_⟩;simp only [getElem!_pos,a,show i - 1 < zs.length by omega,Bc,List.getElem_toArray] at m;exact m.symm
  obtain ⟨j,f,g,k⟩:=d i i a (Ae _);exact Bw.2 ⟨j,Cx.2 ⟨B1.2 f,g⟩,k⟩
theorem DF {zs:List Int} (h:zs.Pairwise (·<=·)):(Lib.compact zs).Pairwise (· < ·):=by
 unfold Lib.compact Lib.compactUpTo;refine Ec.2 ?_;have l:((List.range zs.length).filter (Lib.keeps zs.toArray)).Pairwise (· < ·):=Gw List.filter_sublist Fe;refine Gg ?_ l;intro i j m n o;obtain ⟨d,p⟩:=Cx.1 m;obtain ⟨e,f⟩:=Cx.1 n;have a:=B1.1 e;have b:=B1.1 d;have g:zs.toArray[j]!≠zs.toArray[j - 1]!:=by
  have:j=0\/zs.toArray[j]!≠zs.toArray[j - 1]!:=by simpa [Lib.keeps] using f
  rcases this with h | h
  ·omega
  ·exact h
 simp only [getElem!_pos,a,b,show j - 1 < zs.length by omega,Bc,List.getElem_toArray] at g ⊢;have k:=C4.1 h;have q:zs[j - 1]<=zs[j]:=k (j - 1) j bB a bB;rcases Bs i (j - 1) with c | c
 ·have r:zs[i]<=zs[j - 1]:=k i (j - 1) b bB c;omega
 ·obtain rfl:i=j - 1:=by omega
  omega
theorem uA1 (zs:List Int):(zs.mergeSort fun x y=>decide (x<=y)).Pairwise (·<=·):=by
 have d:=Gm (le:=fun x y:Int=>decide (x<=y)) (fun a b c e f=>by simp at e f ⊢;omega) (fun a b=>by simp;omega) zs;exact d.imp fun h=>by simpa using h
def nH (zs:List Int):List Int:=Lib.compact (zs.mergeSort fun x y=>decide (x<=y))
theorem eU {zs:List Int} {x:Int}:x∈nH zs↔x∈zs:=by unfold nH;rw [DB,(E2 _ _).mem_iff]
theorem fB (zs:List Int):(nH zs).Pairwise (· < ·):=DF (uA1 zs)
theorem sG (zs:List Int):(nH zs).length<=zs.length:=by
 have h:=Lib.compact_length_le (zs.mergeSort fun x y=>decide (x<=y));rw [List.length_mergeSort] at h;exact h
theorem gD {w:World} {base n:Nat} {v:Value} {zs:List Int} (h:w.ownsRow base 3 1 v n (vC zs)) (z:n<=4611686018427387903) :
 Calls prog 114 #[v] w fun e b=>e=.returned (.tuple #[])/\b.ownsRow base 3 1 v n (vC (zs.mergeSort fun x y=>decide (x<=y)))/\(base<=w.heap.size->Below base w b):=by
 have f:zs.length=n:=by simpa using h.1
 rcases h.2 with ⟨rfl,i⟩ | ⟨g,c,k,rfl,a,d,l,o,p,q⟩
 ·subst i;obtain rfl:zs=[]:=Bu f;refine (Tryz.slices_Sort_int_none none 0 w).mono ?_;rintro e b ⟨rfl,rfl⟩;exact ⟨rfl,by simpa using h,fun _=>Below.refl _ _⟩
 ·subst f;have r:=Go.holds_of_blockI d (by simpa using q);have s:g < w.heap.size:=(Ag.1 d).1;refine (Tryz.slices_Sort_int g 0 c zs w r s bB).mono ?_;rintro e b ⟨rfl,m,A,rfl⟩;refine ⟨rfl,Go.ownsRow_sortedI nF a d l o p,fun t=>?_⟩;exact (Below.refl base w).grown (Go.grownBy_sortedI _) t (fun j u=>by cases u;exact a)
theorem cN {w:World} {base n:Nat} {v:Value} {zs:List Int} (h:w.ownsRow base 3 1 v n (vC zs)) (z:n<=4611686018427387903) :
 Calls prog 115 #[v] w fun e d=>∃ A m c,e=.returned (.slice A m c)/\m<=c/\c<=maxLen/\d.ownsRow base 3 1 (.slice A m c) m (vC (Lib.compact zs))/\Below base w d:=by
 have l:zs.length=n:=by simpa using h.1
 by_cases o:v=.slice none 0 0
 ·subst o;have r:n=0:=by
   rcases h.2 with ⟨_,s⟩ | ⟨g,b,t,u,_⟩
   ·exact s
   ·cases u
  subst r;obtain rfl:zs=[]:=Bu l;refine (Tryz.slices_Compact_int_empty none 0 w).mono ?_;rintro e d ⟨rfl,rfl⟩;refine ⟨none,0,0,rfl,Ae _,Am _,?_,Below.refl _ _⟩;have e:Lib.compact ([]:List Int)=[]:=rfl;rw [e];exact h
 ·obtain ⟨g,b,rfl,f,x,a,i,_,y⟩:=Lib.holds_of_ownsRow h o;subst l;refine (Tryz.slices_Compact_int g 0 b zs w y bB a).mono ?_;rintro e d ⟨rfl,q,rfl⟩;have j:=Lib.compact_length_le zs;have p:=Lib.ownsRow_putRow (q:=q) (k:=(Lib.compact zs).length) (ys:=Lib.compact zs++List.replicate (zs.length - (Lib.compact zs).length) 0) h (by simp;omega) j;rw [Gy] at p;exact ⟨_,_,_,rfl,bB,i,p,Lib.below_putRow (Below.refl _ _) f⟩
def tgF (n:Nat) (L:List Int):List Int:=L.filter fun z=>inR z (n:Int)
def tgI (n:Nat) (L:List Int):List Int:=nH (tgF n L)
theorem uG6 {n:Nat} {L:List Int} {j:Nat} {t:Int} (h:L[j]?=some t):tgF n (L.take (j+1))=tgF n (L.take j)++if inR t (n:Int)=true then [t] else []:=by
 unfold tgF;rw [Bm,h,List.filter_append];congr 1;by_cases a:inR t (n:Int)=true
 ·simp [a]
 ·simp [a]
theorem RN (n:Nat) (L:List Int) (j:Nat):(tgF n (L.take j)).length<=j:=by
 unfold tgF;refine Ai (D6 _ _) ?_;rw [B9];exact Nat.min_le_left _ _
theorem aD {n:Nat} {L:List Int} {z:Int}:z∈tgI n L↔z∈L/\0<=z/\z < (n:Int):=by
 unfold tgI tgF;rw [eU,Cx];unfold inR;rw [decide_eq_true_iff]
theorem uD2 (n:Nat) (L:List Int):(tgI n L).length<=L.length:=by
 unfold tgI;refine Ai (sG _) ?_;have h:=RN n L L.length;rw [Dz] at h;exact h
def jmI (l:List BkV) (n:Nat) (L:List Int):List Int:=(tgI n L).map fun z=>(uD l z.toNat:Int)
theorem EN (x:BdW) (t:TmW) (w:World) (hx:uS w w.heap.size x) (O:mY w w.heap.size t) (E:t.targets.n<=1000000) :
 Calls prog 136 #[vR x,fZ t] w (qN w (tgI x.blocks.n t.targets.L)):=by
 obtain ⟨P,⟨Q,R,S,rL⟩,⟨T,on,U,oL⟩,⟨V,W,X,tL⟩,⟨Y,Z,lc,lL⟩,ar,⟨bA,a,bc,bL⟩⟩:=x;obtain ⟨bk,⟨xA,m,xc,f⟩,⟨gA,gn,gc,gL⟩,⟨l,pA,pn,pc,ps⟩,B⟩:=t;have b5:m<=1000000:=E;have HT:Hdd (uHk w w.heap.size ⟨xA,m,xc,f⟩):=O.targets;have af:=uA fun (z:Int) (v:Bool) (h:inR z (a:Int)=v) (w':World)=>PP h w'
 have D:(w.alloc (.cells #[.string P,.slice Q R S,.slice T on U,.slice V W X,.slice Y Z lc,.int .i64 ar,.slice bA a bc] 28)).heap.size=w.heap.size+1:=by simp
 have o:=Bx.new w [.string P,.slice Q R S,.slice T on U,.slice V W X,.slice Y Z lc,.int .i64 ar,.slice bA a bc] 28;have b2:=uB (w.alloc (.cells #[.string P,.slice Q R S,.slice T on U,.slice V W X,.slice Y Z lc,.int .i64 ar,.slice bA a bc] 28)) (.cells #[.int .i64 bk,.slice xA m xc,.slice gA gn gc,.int .i64 l,.slice pA pn pc,.string B] 63);have o:=o.below b2;have s:=Bx.new (w.alloc (.cells #[.string P,.slice Q R S,.slice T on U,.slice V W X,.slice Y Z lc,.int .i64 ar,.slice bA a bc] 28)) [.int .i64 bk,.slice xA m xc,.slice gA gn gc,.int .i64 l,.slice pA pn pc,.string B] 63;rw [D] at s;obtain ⟨d,q⟩:∃ d,d=(w.alloc (.cells #[.string P,.slice Q R S,.slice T on U,.slice V W X,.slice Y Z lc,.int .i64 ar,.slice bA a bc] 28)).alloc (.cells #[.int .i64 bk,.slice xA m xc,.slice gA gn gc,.int .i64 l,.slice pA pn pc,.string B] 63):=⟨_,rfl⟩;have F:d.heap.size=w.heap.size+2:=by rw [q];simp
 have u:Ab w d:=by rw [q];exact (uB w _).trans (b2.mono (uB w _).size)
 have o:Bx d w.heap.size [.string P,.slice Q R S,.slice T on U,.slice V W X,.slice Y Z lc,.int .i64 ar,.slice bA a bc] 28:=q ▸ o;have s:Bx d (w.heap.size+1) [.int .i64 bk,.slice xA m xc,.slice gA gn gc,.int .i64 l,.slice pA pn pc,.string B] 63:=q ▸ s;have b3:=uB d (.cells #[] 3);have ag:=uA fun (w':World) (y:Ab d w')=>(o.below y).q 6 rfl
 have ah:=uA fun (w':World) (y:Ab d w')=>(s.below y).q 1 rfl
 have G:=uA u;have r:=uA F;have ai:=uA q;have aj:=uA b3;have ak:=uA (show (d.alloc (.cells #[] 3)).ownsRow (w.heap.size+2) 3 1 (.slice (some ⟨w.heap.size+2,0,none⟩) 0 0) 0 ((tgF a (f.take 0)).flatMap uX) from by
  have h:=nA d 3 1;rw [F] at h;exact h)
 have q0:=ah.o _ b3;clear o s b2 b3 u F q D hx O E;go_enter func136,ntmps136
 go_wp2;rw [<-ai.o];clear q0;go_loopw [5,12] (fun v i wr=>∃ j:Nat,∃ A c,i=.int .i64 (j:Int)/\v=.slice A (tgF a (f.take j)).length c/\j<=m/\Hdd (wr.ownsRow (w.heap.size+2) 3 1 (.slice A (tgF a (f.take j)).length c) (tgF a (f.take j)).length ((tgF a (f.take j)).flatMap uX))/\Hdd (Ab d wr)) (fun _ i _=>m - (intOf i).toNat)
 case atStart=>exact ⟨0,some ⟨w.heap.size+2,0,none⟩,0,rfl,rfl,Am _,ak,aj⟩
 case round=>
  obtain ⟨j,A,c,rfl,rfl,hj,HO,H⟩:=hrel;have a0:=RN a f j;obtain ⟨M,hM⟩:∃ M,tgF a (f.take j)=M:=⟨_,rfl⟩;rw [hM] at a0;have HM:=uA hM;have a1:=uA (hM ▸ HO.o);rw [hM];clear hM HO;obtain ⟨n,E⟩:∃ n,M.length=n:=⟨_,rfl⟩;have I:Hdd (wr.ownsRow (w.heap.size+2) 3 1 (.slice A n c) n (M.flatMap uX)):=E ▸ a1.o;have HN:=uA E;rw [E] at a0 ⊢;clear a1 E;by_cases al:j < m
  ·have a2:(j:Int) < (m:Int):=bB;obtain ⟨t,O⟩:=HT.o.get al;obtain ⟨g,z,J,am,_,a3⟩:=HT.o.at_ O;have J:xA=some ⟨g,z,none⟩:=J;subst J;have a4:=uA (uG6 (n:=a) (show f[j]?=some t from O));have c0:wr.cell? ⟨g,z+j,none⟩=some (.int .i64 t):=(H.o.cell (p:=⟨g,z+j,none⟩) (by have:=r.o;show g < d.heap.size;omega)).trans ((G.o.cell (p:=⟨g,z+j,none⟩) am).trans (by simpa using a3 0 _ rfl));have c6:=ag.o _ H.o;obtain ⟨bv,a5⟩:∃ b,inR t (a:Int)=b:=⟨_,rfl⟩;have K:=uA a5;clear O a3 a5;go_wp2_with fail
   refine (af.o t bv K.o _).mono ?_;rintro e C ⟨rfl,rfl⟩;clear c0 c6;cases bv
   ·have HU:=uA (show tgF a (f.take (j+1))=M by rw [a4.o,HM.o,K.o];simp);go_wp2;go_roundw
    case rel=>exact ⟨j+1,A,c,by go_num,by rw [HU.o,HN.o],bB,uA (by rw [HU.o,HN.o];exact I.o),H⟩
    case measure=>simp [intOf];omega
   ·have HU:=uA (show tgF a (f.take (j+1))=M++[t] by rw [a4.o,HM.o,K.o];simp);obtain ⟨i0,hi,an,ao,ap⟩:=info_parts qQ;have L:=uB C (.cells #[.int .i64 t] 3);have a6:=uA (uC I.o L);have aq:Hdd (uM (C.alloc (.cells #[.int .i64 t] 3)) (C.heap.size+1) 1 uX (some ⟨C.heap.size,0,none⟩) 1 [t]):=TQ C uX vN t 3;have a7:=uA (Aa H.o L);have a8:w.heap.size+2<=(C.alloc (.cells #[.int .i64 t] 3)).heap.size:=by
     have h1:=a7.o.size;have h2:=r.o;omega
    clear L;go_wp2_with (at_builtin;refine xG (C.alloc (.cells #[.int .i64 t] 3)) rfl (.tmp 21) (.tmp 23) 60 rfl vN eW nB (w.heap.size+2) 3 i0 _ 8 underlying60 hi an ao ap rfl _ n (M.flatMap uX) rfl a6.o _ (some ⟨C.heap.size,0,none⟩) 1 1 [t] rfl aq.o (by unfold maxLen;omega) bB a8 ?_;intro v5 w5 k a9 _;obtain ⟨A5,k5,rfl⟩:=wU k;have au:=uA k;have av:=uA (mM a7.o (uI a6.o (Cw r.o)) (Ai (Cw r.o) a8) a9);clear k a9)
    go_roundw
    case rel=>
     refine ⟨j+1,A5,k5,by go_num,?_,bB,uA ?_,av⟩
     ·rw [HU.o,Aw,HN.o];rfl
     ·rw [HU.o,Aw,HN.o,Bk];exact au.o
    case measure=>simp [intOf];omega
  ·have a2:¬(j:Int) < (m:Int):=bB;obtain rfl:m=j:=by omega
   have HF:=uA (show M=tgF a f by rw [<-HM.o,Au (by rw [show f.length=m from HT.o.len];exact Ae _)]);have aw:=uA (gD (zs:=M) (base:=w.heap.size+2) (n:=n) (by have h:=I.o;rw [qJ] at h;exact h) bB);go_wp2_with fail
   refine aw.o.mono ?_;rintro e C ⟨rfl,aa,u⟩;have ab:=H.o.size;have ax:=uA (u (by rw [<-r.o];exact ab));have ay:=uA (cN aa bB);clear aa u ab;go_wp2_with fail
   refine ay.o.mono ?_;rintro e w2 ⟨A2,m2,c2,rfl,az,b0,N,ac⟩;have ad:(tgI a f).length=m2:=by
    have h:=N.1;unfold tgI nH;rw [<-HF.o];simpa using h
   have ae:=uA ad;have b1:=uA (show w2.ownsRow w.heap.size 3 1 (.slice A2 m2 c2) m2 ((tgI a f).flatMap uX) from by
    have h:=uI N (show w.heap.size<=w.heap.size+2 by omega);rw [qJ];unfold tgI nH;rw [<-HF.o];exact h)
   have b4:Hdd (Ab w w2):=(G.o.trans ((H.o.trans ((r.o ▸ (ax.o.trans ac):Below d.heap.size wr w2))).mono G.o.size));clear ad N ac az b0;go_wp2;go_ret;refine ⟨A2,c2,?_,?_,b4.o⟩
   ·rw [ae.o];rfl
   ·rw [ae.o];exact b1.o
theorem ZV (w:World) (n:Nat):Ab w (w.drewN n):=by
 have h:∀ k (a:World),Ab w a->Ab w (a.drewN k):=by
  intro k
  induction k with
  | zero=>intro a h;exact h
  | succ k b=>intro a h;exact (b a h).drew
 exact h n w (Below.refl _ _)
abbrev RH (p i k:Nat):Value:=.agg #[.int .i64 (p:Int),.int .i64 (i:Int),.int .i64 (k:Int)]
theorem FV (x:BdW) (q i k:Nat) (w:World) (b:BkV) (O:uS w w.heap.size x) (P:x.v.blocks[i]?=some b) :
 Calls prog 85 #[vR x,RH q i k] w fun e w'=>e=.returned (.bool (decide (k < b.stmts.length)))/\Ab w w':=by
 have Q:i < x.blocks.n:=by rw [<-eT O];exact (Ah.1 P).1
 have h:=O.blocks.nm;unfold maxLen at h;obtain ⟨p,c,o,_,H,I,J,R,S,_,W⟩:=tH O Q;have T:some p.v=some b:=H.symm.trans P;injection T with T;subst T;unfold maxLen at J;have l:w.cell? ⟨c,o+i*7,none⟩=some (.slice p.stmts.A p.stmts.n p.stmts.c):=W 0 _ rfl;obtain ⟨X,m⟩:∃ X,p.stmts.n=X:=⟨_,rfl⟩;have K:=uA (I.trans m);rw [m] at l J;rw [K.o];obtain ⟨Y,L⟩:∃ Y,p.stmts.A=Y:=⟨_,rfl⟩;obtain ⟨Z,M⟩:∃ Z,p.stmts.c=Z:=⟨_,rfl⟩;rw [L,M] at l;clear H I W m K L M O P;obtain ⟨n,⟨r,s,t,rL⟩,⟨u,on,v,oL⟩,⟨y,A,B,tL⟩,⟨C,D,E,lL⟩,F,⟨bA,d,G,bL⟩⟩:=x;have R:bA=some ⟨c,o,none⟩:=R;subst R;have Q:i < d:=Q;have h:d<=9223372036854775807:=h;have a0:(i:Int) < (d:Int):=by omega
 have a1:(0:Int)<=(i:Int):=by omega
 have g:(w.alloc (.cells #[.string n,.slice r s t,.slice u on v,.slice y A B,.slice C D E,.int .i64 F,.slice (some ⟨c,o,none⟩) d G] 28)).heap.size=w.heap.size+1:=by simp
 have U:=uB w (.cells #[.string n,.slice r s t,.slice u on v,.slice y A B,.slice C D E,.int .i64 F,.slice (some ⟨c,o,none⟩) d G] 28);have V:=uB (w.alloc (.cells #[.string n,.slice r s t,.slice u on v,.slice y A B,.slice C D E,.int .i64 F,.slice (some ⟨c,o,none⟩) d G] 28)) (.cells #[.int .i64 (q:Int),.int .i64 (i:Int),.int .i64 (k:Int)] 159);have N:=(Bx.new w [.string n,.slice r s t,.slice u on v,.slice y A B,.slice C D E,.int .i64 F,.slice (some ⟨c,o,none⟩) d G] 28).below V;have f:=Bx.new (w.alloc (.cells #[.string n,.slice r s t,.slice u on v,.slice y A B,.slice C D E,.int .i64 F,.slice (some ⟨c,o,none⟩) d G] 28)) [.int .i64 (q:Int),.int .i64 (i:Int),.int .i64 (k:Int)] 159;rw [g] at f;have a:=(Aa U V);have a2:=uA a;have z6:=N.q 6 rfl;have z1:=f.q 1 rfl;have z2:=f.q 2 rfl;have zc:=(a.cell (p:=⟨c,o+i*7,none⟩) S).trans l;have HQ:=uA fun (kk:Nat)=>(a.trans ((ZV ((w.alloc (.cells #[.string n,.slice r s t,.slice u on v,.slice y A B,.slice C D E,.int .i64 F,.slice (some ⟨c,o,none⟩) d G] 28)).alloc (.cells #[.int .i64 (q:Int),.int .i64 (i:Int),.int .i64 (k:Int)] 159)) kk).mono a.size))
 clear N f a U V g;go_enter func85,ntmps85
 go_wp2;go_quiet (fail)
 go_wp2;go_ret;exact ⟨congrArg (fun z:Bool=>Ending.returned (.bool z)) nF,HQ.o _⟩
theorem uGw {M:List Int} {j:Nat} {t:Int} (h:M[j]?=some t) (f:Int->Int):∃ R,(M.take j).map f++M.drop j=(M.take j).map f++t :: R/\(M.take (j+1)).map f++M.drop (j+1)=(M.take j).map f++f t :: R:=by
 obtain ⟨a,b⟩:=Ah.1 h;refine ⟨M.drop (j+1),?_,?_⟩
 ·rw [Cq a,b]
 ·rw [Bm,h,By,C2];rfl
theorem MW (x:BdW) (i:Nat) (b:BkV) (fA:Option Addr) (fc:Nat) (w:World) (hx:uS w w.heap.size x) (hb:x.v.blocks[i]?=some b) (Y:b.term.targets.length<=1000000) (hN:uF x.v.blocks<=2 ^ 62)
 (hF:uM w w.heap.size 1 uX fA x.blocks.n (stI x.v.blocks x.blocks.n)) :
 Calls prog 86 #[vR x,.int .i64 (i:Int),.slice fA x.blocks.n fc] w (qN w (jmI x.v.blocks x.blocks.n b.term.targets)):=by
 obtain ⟨D,ag⟩:∃ l,x.v.blocks=l:=⟨_,rfl⟩;have hi:i < x.blocks.n:=by rw [<-eT hx];exact (Ah.1 hb).1
 have I:=hx.blocks.nm;unfold maxLen at I;obtain ⟨p,r,o,_,a0,ah,ai,hA,a1,J,hc⟩:=tH hx hi;have e':some p.v=some b:=a0.symm.trans hb;injection e' with e';subst e';have a2:p.term.targets.L.length=p.term.targets.n:=J.term.targets.len;have a3:p.term.targets.n<=1000000:=by rw [<-a2];exact Y
 have K:=uA fun (f:World) (y:Ab w f)=>EN x p.term f (hx.up y) (J.term.up y) a3
 obtain ⟨L,hL⟩:∃ L,tgI x.blocks.n p.term.targets.L=L:=⟨_,rfl⟩;have a4:=fun z (h:z∈L)=>(aD (n:=x.blocks.n) (L:=p.term.targets.L)).1 (hL ▸ h)
 have aj:=uA a4;have ak:L.length<=1000000:=by
  have:=uD2 x.blocks.n p.term.targets.L;rw [hL] at this;omega
 have a5:=uA (show jmI D x.blocks.n p.v.term.targets=L.map fun z=>(uD D z.toNat:Int) from by
  unfold jmI;rw [<-hL];rfl)
 rw [hL] at K;have al:=uA hc;rw [ag] at hN hF ⊢;have HN:=uA hN;have HF:=uA hF;rw [a5.o];obtain ⟨sn,M⟩:∃ sn,p.term=sn:=⟨_,rfl⟩;rw [M] at K;have a6:∀ j u,(cTm sn)[j]?=some u->w.cell? ⟨r,o+i*7+(j+1),none⟩=some u:=fun j u hu=>hc (j+1) u (by rw [<-M] at hu;exact hu)
 clear a0 ah hc al M hx hb hN hF a4 a2 a3 Y hL a5 J ai;obtain ⟨bk,⟨xA,xn,xc,xL⟩,⟨gA,gn,gc,gL⟩,⟨l,pA,pn,pc,ps⟩,am⟩:=sn;obtain ⟨nm,⟨rA,rn,rc,rL⟩,⟨oA,on,oc,oL⟩,⟨tA,tm,tc,tL⟩,⟨lA,ln,lc,lL⟩,ar,⟨bA,E,bc,bL⟩⟩:=x;have hA:bA=some ⟨r,o,none⟩:=hA;subst hA;have hi:i < E:=hi;have I:E<=9223372036854775807:=I;have ax:(i:Int) < (E:Int):=by omega
 have ay:(0:Int)<=(i:Int):=by omega
 have N:=uA (uB w (.cells #[.string nm,.slice rA rn rc,.slice oA on oc,.slice tA tm tc,.slice lA ln lc,.int .i64 ar,.slice (some ⟨r,o,none⟩) E bc] 28));have O:(w.alloc (.cells #[.string nm,.slice rA rn rc,.slice oA on oc,.slice tA tm tc,.slice lA ln lc,.int .i64 ar,.slice (some ⟨r,o,none⟩) E bc] 28)).heap.size=w.heap.size+1:=by simp
 have a7:=uA fun (f:World) (y:Ab (w.alloc (.cells #[.string nm,.slice rA rn rc,.slice oA on oc,.slice tA tm tc,.slice lA ln lc,.int .i64 ar,.slice (some ⟨r,o,none⟩) E bc] 28)) f)=>xB y
 have B:=uA a6;obtain ⟨s,T⟩:∃ s,s=w.alloc (.cells #[.string nm,.slice rA rn rc,.slice oA on oc,.slice tA tm tc,.slice lA ln lc,.int .i64 ar,.slice (some ⟨r,o,none⟩) E bc] 28):=⟨_,rfl⟩;rw [<-T] at N O a7;have G:=uA O;have hcx:=uA fun (f:World) (y:Ab s f)=>(show _/\_/\_/\_/\_/\_/\_ from a7.o f y)
 have hel:=uA fun (f:World) (y:Ab s f)=>(show f.cell? ⟨r,o+i*7+1,none⟩=some (.int .i64 bk)/\f.cell? ⟨r,o+i*7+2,none⟩=some (.slice xA xn xc)/\f.cell? ⟨r,o+i*7+3,none⟩=some (.slice gA gn gc)/\f.cell? ⟨r,o+i*7+4,none⟩=some (.int .i64 l)/\f.cell? ⟨r,o+i*7+5,none⟩=some (.slice pA pn pc)/\f.cell? ⟨r,o+i*7+6,none⟩=some (.string am) from
  have Z:=fun j=>(y.cell (p:=⟨r,o+i*7+j,none⟩) (show r < s.heap.size by rw [G.o];omega)).trans (N.o.cell (p:=⟨r,o+i*7+j,none⟩) a1)
  ⟨(Z 1).trans (B.o 0 _ rfl),(Z 2).trans (B.o 1 _ rfl),(Z 3).trans (B.o 2 _ rfl),(Z 4).trans (B.o 3 _ rfl),(Z 5).trans (B.o 4 _ rfl),(Z 6).trans (B.o 5 _ rfl)⟩)
 have an:=uA T;have HD:=uA ((Below.refl s.heap.size s).drew);clear a6 O T a1;go_enter func86,ntmps86
 go_wp2;rw [<-an.o];refine wp_region_held_drew (S:=(fun f=>Ab s f)) fL HD.o (fun hHeld=>?_);refine uJ [0,1,2,3,4,5,6] ?_
 repeat' (first | refine pT hHeld rfl ?_ | refine pS hHeld rfl ?_)
 refine uK ?_;refine wpAnyH_ready (rs:=[7]) fL nF ?_;refine AllReadyH.cons rfl (fun KZ hK=>?_) AllReadyH.nil;go_simp;refine (K.o _ (Aa N.o HD.o)).mono ?_;rintro e5 w5 ⟨A,c,rfl,e,a8⟩;have HY:=uA (Aa HD.o a8);have HO:=uA (uI e (show w.heap.size+1<=_ by rw [<-G.o];exact HD.o.size));clear a8 e;refine hK.out _ _ HY.o (fun hHeld=>?_);clear hK KZ;try simp only [Ac]
 refine uJ [8] ?_
 repeat' (first | refine pT hHeld rfl ?_ | refine pS hHeld rfl ?_)
 refine uK ?_;refine wpAnyH_done fL ?_ _;obtain ⟨n,Y⟩:∃ n,L.length=n:=⟨_,rfl⟩;have C:=uA Y;rw [Y] at HO ak ⊢;clear Y;go_wp2;go_loopw [20] (fun i wr=>∃ j:Nat,i=.int .i64 (j:Int)/\j<=n/\Hdd (wr.ownsRow (w.heap.size+1) 3 1 (.slice A n c) n (((L.take j).map (fun z=>(uD D z.toNat:Int))++L.drop j).flatMap uX))/\Hdd (Ab s wr)) (fun i _=>n - (intOf i).toNat)
 case atStart=>exact ⟨0,rfl,Am _,uA (by rw [F8,D2,Bj,List.drop_zero];exact HO.o),HY⟩
 case round=>
  obtain ⟨j,rfl,hj,HO,HW⟩:=hrel;by_cases a9:j < n
  ·have aa:(j:Int) < (n:Int):=bB;obtain ⟨t,ht⟩:∃ t,L[j]?=some t:=⟨_,Ad (by rw [C.o];exact a9)⟩;obtain ⟨_,ao,ab⟩:=aj.o t (Aj ht);obtain ⟨k,rfl⟩:∃ k:Nat,t=(k:Int):=⟨t.toNat,bB⟩;obtain ⟨R,ac,ad⟩:=uGw ht (fun z=>(uD D z.toNat:Int));have e:=HO.o;rw [ac] at e;obtain ⟨g,rfl,ap,az⟩:=bK e bB;have H:((L.take j).map (fun z=>(uD D z.toNat:Int))).length=j:=by rw [Ao,B9,C.o];omega
   have ae:=iS e a9 0 bB;obtain ⟨g',z',U,_,af⟩:=(uM.of_own vN eW e).at_ (i:=j) (x:=(k:Int)) (by rw [B4 (by rw [H];exact Ae _),H,D3];rfl);injection U with U;injection U with aq au;subst aq au;have c0:wr.cell? ⟨g,j,none⟩=some (.int .i64 (k:Int)):=(by simpa using af 0 _ rfl);have ff:wr.frozen? ⟨g,j,none⟩=false:=(by simpa using ae.2);have av:k < E:=by have h:(k:Int) < (E:Int):=ab;omega
   obtain ⟨f1,f2,V,aw,W⟩:=HF.o.at_ (sF D av);have V:fA=some ⟨f1,f2,none⟩:=V;subst V;obtain ⟨m,hm⟩:∃ m,uD D k=m:=⟨_,rfl⟩;rw [hm] at W;have d0:wr.cell? ⟨f1,f2+k,none⟩=some (.int .i64 (m:Int)):=(HW.o.cell (p:=⟨f1,f2+k,none⟩) (show f1 < s.heap.size by rw [G.o];omega)).trans ((N.o.cell (p:=⟨f1,f2+k,none⟩) aw).trans (by simpa using W 0 _ rfl));have F:=QT vN (q:=(m:Int)) e;rw [H,Ey] at F;have X:=uA (show (wr.setCell ⟨g,j,none⟩ (.int .i64 (m:Int))).ownsRow (w.heap.size+1) 3 1 (.slice (some ⟨g,0,none⟩) n c) n (((L.take (j+1)).map (fun z=>(uD D z.toNat:Int))++L.drop (j+1)).flatMap uX) from by
    rw [ad];show (wr.setCell ⟨g,j,none⟩ (.int .i64 (m:Int))).ownsRow (w.heap.size+1) 3 1 (.slice (some ⟨g,0,none⟩) n c) n (((L.take j).map (fun z=>(uD D z.toNat:Int))++(uD D ((k:Int)).toNat:Int) :: R).flatMap uX);rw [A3,hm];exact F)
   have HW5:=uA (HW.o.setCell (p:=⟨g,j,none⟩) (show s.heap.size<=g by rw [G.o];exact ap) (.int .i64 (m:Int)));have b0:(k:Int) < (E:Int):=bB;have b1:(0:Int)<=(k:Int):=bB;have b2:(0:Int)<=(j:Int):=bB;clear ht ao ab ac ad e H ae af W hm F HO;go_wp2;go_roundw
   case rel=>exact ⟨j+1,by go_num,bB,X,HW5⟩
   case measure=>simp [intOf];omega
  ·have aa:¬(j:Int) < (n:Int):=bB;obtain rfl:n=j:=by omega
   have X:=uA (show wr.ownsRow w.heap.size 3 1 (.slice A n c) n ((L.map (fun z=>(uD D z.toNat:Int))).flatMap uX) from by
    have h:=HO.o;rw [Au (by rw [C.o];exact Ae _),Fi (by rw [C.o];exact Ae _),B5] at h;exact uI h (Cc _))
   go_wp2;go_ret;refine ⟨A,c,?_,?_,(Aa N.o HW.o)⟩
   ·rw [Ao,C.o];rfl
   ·rw [Ao,C.o];exact X.o
section
open Go.Shelf
attribute [local go_sem] Oper.semAt_some
abbrev SpX (l:List BkV):={ s:Nat×Nat×Nat // wA l s.1=some (s.2.1,s.2.2) }
def IB {l:List BkV} (s:SpX l):Array Value:=#[RH s.1.1 s.1.2.1 s.1.2.2]
def spP {l:List BkV} (s:SpX l):Nat:=s.1.1
def iW:List TypeId:=[28,3]
theorem rD {b:Type} {B:Nat} {J:b->World->Prop} (h:AbidesFrom B J) {s:b} {W a:World} (c:J s W) (d:Ab W a):J s a:=
 h s W a none c (bY d) (fun r e=>by cases e)
theorem PA (f P:Nat) (h:f<=P):List.range' f (P+1 - f)=List.range' f (P - f)++[P]:=by
 obtain ⟨d,rfl⟩:=Ep h;rw [show f+d+1 - f=d+1 by omega,show f+d - f=d by omega,List.range'_concat];simp
theorem RV {l:List BkV} {pre:List (SpX l)} {s:SpX l} {f P:Nat} (h:pre.map spP=List.range' f (P - f)) (a:f<=P) (b:spP s=P):(pre++[s]).map spP=List.range' f (P+1 - f):=by
 rw [By,h,PA f P a,List.map_singleton,b]
theorem uBh {l:List BkV} {pre:List (SpX l)} {f P:Nat} (h:pre.map spP=List.range' f (P - f)):pre.length=P - f:=by
 have:=congrArg List.length h
 rwa [Ao,F1] at this
theorem WP {l:List BkV} {pre:List (SpX l)} {f P C:Nat} (h:pre.map spP=List.range' f (P - f)) (b:P<=C):pre.map spP <+: List.range' f (C - f):=by
 rw [h];obtain ⟨d,a⟩:=Ep (show P - f<=C - f by omega);rw [a,<- List.range'_append_1];exact List.prefix_append _ _
theorem CM (n:Nat) (x:BdW) (a:Int) (w:World) :
 CallsIn Fence.wide n prog 84 #[vR x,.int .i64 a] w fun e b=>e=.returned (.func (.func 135) #[] #[.pointer (some ⟨w.heap.size,0,none⟩),.pointer (some ⟨w.heap.size+1,0,none⟩)]) /\
  b=(w.alloc (.cells (cBd x).toArray 28)).alloc (.cells #[.int .i64 a] 3):=by
 obtain ⟨c,⟨d,f,g,h⟩,⟨i,on,j,k⟩,⟨l,m,o,p⟩,⟨q,r,s,t⟩,u,⟨v,y,z,A⟩⟩:=x;refine callsIn_of_wp func84 rfl trivial ?_ rfl;simp only [ntmps84,Bc,As,Br,Nat.reduceAdd,Nat.reduceSub,Ay,Az,Be,Ba,Bj,Bg];gi_wp2;go_ret;exact ⟨rfl,rfl⟩
theorem PE (n:Nat) (hn:1<=n) (l Bb Bf n₀:Nat) (x:BdW) (c:List BkV) (G:x.v.blocks=c) (u:Int) (C:Nat) (hC:uF c=C) (hN:C<=2 ^ 62) (hI:uH u) (B0:Nat) (J Jx:List (SpX c)->World->Prop) (hJ:AbidesFrom B0 J) (b0:AbidesFrom B0 Jx)
 (hY:∀ a s W,J a W->a.length < C - u.toNat->YieldAt Fence.wide (n - 1) prog l (IB s) W fun e y=>
  (e=.returned (.bool true)/\J (a++[s]) y/\vQ n₀ iW W y)\/(e=.returned (.bool false)/\Jx (a++[s]) y))
 (W:World) (R:W.heap[Bb]?=some (.cells (cBd x).toArray 28 (0,0))) (S:Boxed W Bf 3 (.int .i64 u)) (hx:uS W n₀ x) (ag:n₀<=W.heap.size) (h0:J [] W) :
 CallsIn Fence.wide n prog 135 #[.func (.yield l) #[] #[],.pointer (some ⟨Bb,0,none⟩),.pointer (some ⟨Bf,0,none⟩)] W fun e y=>(∃ v,e=.returned v) /\
  ((∃ ys:List (SpX c),ys.map spP=List.range' u.toNat (C - u.toNat)/\J ys y)\/(∃ a:List (SpX c),a.map spP <+: List.range' u.toNat (C - u.toNat)/\Jx a y)):=by
 obtain ⟨f,hf⟩:∃ f,u.toNat=f:=⟨_,rfl⟩;rw [hf] at hY ⊢;have HF:=uA hf;have HJ:=uA fun (a:List (SpX c)) (W y:World) (h:J a W) (hb:Ab W y)=>rD hJ h hb
 have ah:=uA hY;have ai:=uA G;have T:=uA hC;have H:=eT hx;rw [G] at H;have I:=hx.blocks.nm;unfold maxLen at I;obtain ⟨b1,b2⟩:=hI;have HX:=uA hx;obtain ⟨nm,⟨rA,rn,rc,rL⟩,⟨oA,on,oc,oL⟩,⟨tA,tm,tc,tL⟩,⟨lA,ln,lc,lL⟩,ar,⟨bA,z,bc,bL⟩⟩:=x;have aj:Hdd (c.length=z):=H;have I:z<=2 ^ 63 - 1:=I;have c6:W.cell? ⟨Bb,6,none⟩=some (.slice bA z bc):=uE R 6;have U:=uA S;have ak:=uA (vQ.refl n₀ iW W);clear hJ hY G H hx hC hf R S;refine callsIn_of_wp func135 rfl trivial ?_ rfl;simp only [ntmps135,Bc,As,Br,Nat.reduceAdd,Nat.reduceSub,Ay,Az,Be,Ba,Bj,Bg];refine wpIn_wide.2 (wp_scope_straight ((wpIn_wide (n:=n)).1 ?_));gi_wp2;apply wpIn_label;gi_wp2;clear c6;gi_loopw [4,12] (fun v i wr=>∃ (a:List (SpX c)) (j:Nat),i=.int .i64 (j:Int)/\v=.int .i64 (uD c j:Nat)/\j<=z/\Hdd (a.map spP=List.range' f (uD c j - f))/\J a wr/\Hdd (vQ n₀ iW W wr)/\n₀<=wr.heap.size) (fun _ i _=>z - (intOf i).toNat)
 case atStart=>exact ⟨[],0,rfl,by rw [mI];rfl,Am _,(show _=_ by rw [mI,Nat.zero_sub];rfl),h0,ak,ag⟩
 case round=>
  obtain ⟨a,j,rfl,rfl,hj,t,d,HK,V⟩:=hrel;by_cases al:j < z
  ·have X:(j:Int) < (z:Int):=bB;obtain ⟨p,b,o,_,g,K,hA,hb,am,A⟩:=NT (HX.o.below HK.o.1) al;have hA:bA=some ⟨b,o,none⟩:=hA;subst hA;have g:c[j]?=some p.v:=ai.o ▸ g;have hu:=vW g;unfold ptN at hu;rw [K] at hu;have Y:=yL c (j+1);rw [T.o] at Y;have an:=uA g;have L:=uA K;obtain ⟨m,hm⟩:∃ m,uD c j=m:=⟨_,rfl⟩;have ao:=uA hm;have Z:m+(p.stmts.n+1)<=C:=bB;have HU:=uA (show uD c (j+1)=m+(p.stmts.n+1) by omega);have ap:=uA fun (w':World)=>iZ p w' bB
   rw [hm] at t ⊢;obtain ⟨⟨sA,q,sc,sL⟩,⟨bk,⟨xA,xn,xc,xL⟩,⟨gA,gn,gc,gL⟩,⟨l,pA,pn,pc,ps⟩,r⟩⟩:=p;have L:Hdd ((BkV.stmts (BkW.v ⟨⟨sA,q,sc,sL⟩,⟨bk,⟨xA,xn,xc,xL⟩,⟨gA,gn,gc,gL⟩,⟨l,pA,pn,pc,ps⟩,r⟩⟩)).length=q):=L.o;have Z:m+(q+1)<=C:=Z;have c0:wr.cell? ⟨b,o+j*7,none⟩=some (.slice sA q sc):=A 0 _ rfl;have c1:wr.cell? ⟨b,o+j*7+1,none⟩=some (.int .i64 bk):=A 1 _ rfl;have c2:wr.cell? ⟨b,o+j*7+2,none⟩=some (.slice xA xn xc):=A 2 _ rfl;have c3:wr.cell? ⟨b,o+j*7+3,none⟩=some (.slice gA gn gc):=A 3 _ rfl;have c4:wr.cell? ⟨b,o+j*7+4,none⟩=some (.int .i64 l):=A 4 _ rfl;have c5:wr.cell? ⟨b,o+j*7+5,none⟩=some (.slice pA pn pc):=A 5 _ rfl;have c6:wr.cell? ⟨b,o+j*7+6,none⟩=some (.string r):=A 6 _ rfl;have a0:=uA (uB wr (.cells #[.slice sA q sc,.int .i64 bk,.slice xA xn xc,.slice gA gn gc,.int .i64 l,.slice pA pn pc,.string r] 65));obtain ⟨y0,y1,y2,y3,y4,y5,y6⟩:=xB (Below.refl (wr.alloc (.cells #[.slice sA q sc,.int .i64 bk,.slice xA xn xc,.slice gA gn gc,.int .i64 l,.slice pA pn pc,.string r] 65)).heap.size (wr.alloc (.cells #[.slice sA q sc,.int .i64 bk,.slice xA xn xc,.slice gA gn gc,.int .i64 l,.slice pA pn pc,.string r] 65)));have s3:IntKind.i64.wrap ((m:Int)+((q:Int)+1))=(m:Int)+((q:Int)+1):=vV _ bB bB;clear g K A hu Y hm am;gi_wp2_with (refine ⟨trivial,?_⟩;gi_at_call 134;refine (callsIn_wide.2 (ap.o _)).mono ?_;rintro e w2 ⟨rfl,a1⟩;have w:=uA (Aa a0.o a1);have cF:=uE ((HK.o.2 _ _ _ _ (by simp [iW]) U.o) |> (w.o.block Bf (Ag.1 (HK.o.2 _ _ _ _ (by simp [iW]) U.o)).1).trans) 0)
   have a2:=uA (HK.o.trans (vQ.of_below w.o V));have a3:=uA (HJ.o _ _ _ d w.o);have a4:n₀<=w2.heap.size:=Ai V w.o.size;have a5:max (m:Int) u=((max m f:Nat):Int):=by have:=HF.o;omega
   rw [a5];have a6:max m f=m\/max m f=f:=bB;have B:m<=max m f:=Nat.le_max_left _ _;have D:f<=max m f:=Nat.le_max_right _ _;have M:=uA (show a.map spP=List.range' f (max m f - f) from by
    rw [t.o];congr 1;omega)
   obtain ⟨P0,a7⟩:∃ P0,max m f=P0:=⟨_,rfl⟩;rw [a7] at a6 B D M ⊢;obtain ⟨E,hE⟩:∃ E,m+(q+1)=E:=⟨_,rfl⟩;have a8:(m:Int)+((q:Int)+1)=(E:Int):=bB;rw [a8];clear a1 cF c0 c1 c2 c3 c4 c5 c6 y0 y1 y2 y3 y4 y5 y6 s3 a5 a7 d a8;generalize wr=wo at *;gi_loopw [8] (fun v wr=>∃ (a:List (SpX c)) (P:Nat),v=.int .i64 (P:Int)/\f<=P/\m<=P/\(P<=E\/P=f)/\Hdd (a.map spP=List.range' f (P - f))/\J a wr/\Hdd (vQ n₀ iW W wr)/\n₀<=wr.heap.size) (fun v _=>E - (intOf v).toNat)
   case atStart=>exact ⟨a,P0,rfl,D,B,bB,M.o,a3.o,a2,a4⟩
   case round=>
    clear M a3 a2 a4 t;obtain ⟨a,P,rfl,aq,au,a9,t,d,aa,ab⟩:=hrel;by_cases av:P < E
    ·have ac:(P:Int) < (E:Int):=bB;obtain ⟨k,hk⟩:∃ k,P=m+k:=Ep au;have ad:wA c P=some (j,k):=oB.2 ⟨_,an.o,by rw [L.o];omega,by rw [ao.o];exact hk⟩;have ae:=uA (RV (s:=(⟨(P,j,k),ad⟩:SpX c)) t.o aq rfl);have F:a.length < C - f:=by
      have:=uBh t.o;omega
     have af:=ah.o a ⟨(P,j,k),ad⟩ wr d F;simp only [IB] at af;have s1:IntKind.i64.wrap ((P:Int) - (m:Int))=(k:Int):=by
      rw [show (P:Int) - (m:Int)=(k:Int) by omega];exact vV _ bB bB
     have aw:=uA (WP (C:=C) ae.o bB);have az:P<=2 ^ 62:=bB;have s2:IntKind.i64.wrap ((P:Int)+1)=(P:Int)+1:=vV _ bB bB;obtain ⟨fn,tmps,assign,body,hy,hR⟩:=af;clear F a9 t d hk;gi_wp2;refine hR.mono ?_;rintro e w3 (⟨rfl,N,O⟩ | ⟨rfl,N⟩)
     ·have ax:=uA (aa.o.trans O);have ay:=Ai ab O.1.size;clear O hR hy;gi_wp2;exact ⟨⟨_,P+1,by go_num,bB,bB,.inl av,ae.o,N,ax,ay⟩,by simp [intOf];omega⟩
     ·gi_wp2;rw [Exit.noGoto_normal];go_end0
      exact ⟨⟨_,rfl⟩,.inr ⟨_,aw.o,N⟩⟩
    ·have ac:¬(P:Int) < (E:Int):=bB;have Q:=uA (show a.map spP=List.range' f (uD c (j+1) - f) from by
      rw [t.o,HU.o];congr 1;omega)
     have he:(E:Int)=(uD c (j+1):Nat):=(by rw [HU.o,hE]);rw [he];clear a9 t;gi_wp2;exact ⟨⟨a,j+1,by go_num,rfl,bB,Q,d,aa,ab⟩,by simp [intOf];omega⟩
  ·have X:¬(j:Int) < (z:Int):=bB;have Q:=uA (show a.map spP=List.range' f (C - f) from by
    rw [t.o,zM (show c.length<=j by rw [aj.o];omega),T.o])
   gi_wp2;go_end0
   exact ⟨⟨_,rfl⟩,.inl ⟨a,Q.o,d⟩⟩
theorem fY (n:Nat) (m:1<=n) (e f n₀:Nat) (x:BdW) (g:List BkV) (i:x.v.blocks=g) (a:Int) (C:Nat) (o:uF g=C) (p:C<=2 ^ 62) (q:uH a) (w:World) (b:w.heap[e]?=some (.cells (cBd x).toArray 28 (0,0))) (c:Boxed w f 3 (.int .i64 a)) (r:uS w n₀ x) (d:n₀<=w.heap.size) :
 SeqStopsK Fence.wide n prog 135 #[.pointer (some ⟨e,0,none⟩),.pointer (some ⟨f,0,none⟩)] (fun s:SpX g=>IB s) (vQ n₀ iW) (fun t=>t.map spP=List.range' a.toNat (C - a.toNat)) (fun j=>j.map spP <+: List.range' a.toNat (C - a.toNat)) (C - a.toNat) w:=fun l J u W h v k y z=>
 PE n m l e f n₀ x g i a C o p q W.heap.size J u v k y W ((h.block e (Ag.1 b).1).trans b) ((h.block f c.lt).trans c) (r.below (h.mono d)) (Ai d h.size) z
end
end Go.Proofs.YtnkjbjkoffgocaaGreatDoor
