import Derived.Test.YtnkjbjkoffgocaaGreatDoorQ14
import Derived.Deep.DeepMust
import Derived.Lib.AppendZeros
import Derived.Lib.AppendZerosOnto
import Derived.Sort.LoopGhostIn
import Derived.WalkMore
set_option linter.unusedVariables false
set_option linter.unusedSimpArgs false
set_option maxRecDepth 100000
set_option maxHeartbeats 8000000
namespace Go.Proofs.YtnkjbjkoffgocaaGreatDoor
open Tryz Go.RowKit
theorem uHn:(prog.info? 60).map (fun i=>(i.zero,i.size,i.bytes))=some (some (.slice none 0 0),1,24):=by kernel_rfl
def nM (ps:List Pr):List Int:=ps.flatMap fun p=>[p.1,p.2]
theorem SL (ps:List Pr):(nM ps).length=2*ps.length:=by
 induction ps with
 | nil=>rfl
 | cons p ps a=>unfold nM at a ⊢;rw [Ct,Aw,a];simp;omega
theorem uAu {ps:List Pr} {k:Nat} {p:Pr} (h:ps[k]?=some p):nM (ps.take (k+1))=nM (ps.take k)++[p.1,p.2]:=by
 rw [Bm,h];simp [nM]
theorem US {ps:List Pr} {x:Int}:x∈nM ps↔∃ p∈ps,x=p.1\/x=p.2:=by
 unfold nM;rw [Dt];exact ⟨fun ⟨p,h,k⟩=>⟨p,h,by simpa using k⟩,fun ⟨p,h,k⟩=>⟨p,h,by simpa using k⟩⟩
structure AA (D:List Int) (qs:List Pr) (Ls:List (List Int)):Prop where
 len:Ls.length=D.length
 all:∀ (j:Nat) xs b,Ls[j]?=some xs->D[j]?=some b->(∀ t∈xs,0<=t/\t < (D.length:Int))/\xs.length<=qs.length/\∀ (i:Nat) a,D[i]?=some a->((i:Int)∈xs↔(a,b)∈qs)
theorem AA.begin (D:List Int):AA D [] (List.replicate D.length []):=by
 refine ⟨nF,fun j c b h _=>?_⟩;have e:c=[]:=Ei (Aj h);subst e;exact ⟨(fun t h=>by cases h),Ae _,fun i a _=>⟨(fun h=>by cases h),fun h=>by cases h⟩⟩
theorem AA.step {D:List Int} {s:List Pr} {l:List (List Int)} (h:AA D s l) (u:D.Pairwise (· < ·)) {x y:Int} {i j:Nat} (n:D[i]?=some x) (o:D[j]?=some y) {xs:List Int} (z:l[j]?=some xs):AA D (s++[(x,y)]) (l.set j (xs++[(i:Int)])):=by
 have B:=(Ah.1 n).1;have p:=(Ah.1 z).1;refine ⟨by rw [D9,h.len],fun A C b d f=>?_⟩;rw [Cp] at d;by_cases e:j=A
 ·subst e;rw [if_pos rfl,if_pos p] at d;injection d with d;subst d;rw [o] at f;injection f with f;subst f;obtain ⟨q,E,r⟩:=h.all j xs y z o;refine ⟨fun t ht=>?_,by simp;omega,fun g a c=>?_⟩
  ·rcases Aq.1 ht with ht | ht
   ·exact q t ht
   ·have e:t=(i:Int):=(by simpa using ht);omega
  ·rw [Aq,Aq,r g a c];refine or_congr Iff.rfl ?_;simp only [An,Eh,and_true];constructor
   ·intro e;have e:g=i:=bB;subst e;rw [n] at c;injection c with c;exact c.symm
   ·intro e;subst e;rw [cE u c n]
 ·rw [if_neg e] at d;obtain ⟨q,E,r⟩:=h.all A C b d f;refine ⟨q,by simp;omega,fun g a c=>?_⟩;rw [Aq,r g a c];refine ⟨.inl,fun k=>k.elim id fun k=>?_⟩;have G:b=y:=by simp at k;exact k.2
  subst G;exact absurd (cE u o f) e
theorem AA.rel {D:List Int} {ps:List Pr} {rg:Int} {e:List (List Int)} (h:AA D ps e) (f:D.Pairwise (· < ·)) (g:∀ x,x∈D↔∃ p∈ps,x=p.1\/x=p.2):ZG ps rg D e:=by
 have d:∀ (j:Nat) a,e[j]?=some a->∃ b,D[j]?=some b:=fun j a c=>⟨_,Ad (by have:=(Ah.1 c).1;have:=h.len;omega)⟩
 refine ⟨f,g,h.len,fun j a c i k=>?_,fun j a b c d=>(h.all j a b c d).2.2⟩;obtain ⟨b,d⟩:=d j a c;exact (h.all j a b c d).1 i k
structure AbW (w:World) (base gA nD:Nat) (L:List qB):Prop where
 len:L.length=nD
 blk:w.heap[gA]?=some (.cells (L.map tR).toArray 60 (0,0))
 own:∀ (j:Nat) x,L[j]?=some x->w.ownsRow base 3 1 (tR x) x.n (vC x.xs)
 dis:∀ (i j:Nat) x y,i≠j->L[i]?=some x->L[j]?=some y->∀ g,(tR x).ownBlock=some g->(tR y).ownBlock≠some g
theorem AbW.below {w w':World} {base a b:Nat} {L:List qB} (h:AbW w base a b L) (c:Ab w w'):AbW w' base a b L:=
 ⟨h.len,(c.block a (Ag.1 h.blk).1).trans h.blk,fun j x d=>uC (h.own j x d) c,h.dis⟩
theorem tZ (z:Value) (a:z.cells=#[z]) (k:Nat):madeCells z.cells k=(List.replicate k z).toArray:=by
 apply G2
 ·rw [size_madeCells];simp
 ·intro i b c;simp [madeCells,a,Nat.mod_one]
theorem kV {P:Program} (w:World) {d:Array Oper} {b:List Oper} {o:Oper} {a:Act} {Q:Exit->Act->World->Prop}
 (p:o.guard=none) (l c:Operand) (t:TypeId) (f:o.op=Op.makeSlice t l c)
 (e:TypeId) (i:TypeInfo) (z:Value) (q:P.underlying t=some (.slice e)) (r:P.info? e=some i) (s:i.zero=some z) (u:i.size=1) (x:z.cells=#[z])
 (n:Nat) (y:a.eval l=.int .i64 (n:Int)) (A:a.eval c=.int .i64 (n:Int)) (C:i.bytes*n<=281474976710656) (D:n<=1000000)
 (B:wpList P d Q b (a.put o.dst (.slice (some ⟨w.heap.size,0,none⟩) n n)) (w.alloc (.cells (List.replicate n z).toArray e))) :
 wpList P d Q (o :: b) a w:=by
 have g:(i.bytes:Int)*(n:Int)<=281474976710656:=by
  have h:((i.bytes*n:Nat):Int)<=281474976710656:=by omega
  rwa [Fr] at h
 have k:=run_make (P:=P) w t e i z q r s .i64 .i64 n n bB (Fn _) g bB;simp only [A3,u,Ey,tZ z x] at k;refine wpList_plain p fun K j=>?_
 unfold Oper.wp;simp [execOp,f,y,A,k,Result.andThen];exact j _ _ B
theorem AbW.begin (w:World) (base n:Nat) (t:TypeId) (c:t=60):AbW (w.alloc (.cells (List.replicate n (.slice none 0 0)).toArray t)) base w.heap.size n (List.replicate n ⟨[],none,0,0⟩):=by
 subst c;have a:∀ (j:Nat) x,(List.replicate n (⟨[],none,0,0⟩:qB))[j]?=some x->x=⟨[],none,0,0⟩:=fun j x h=>Ei (Aj h)
 refine ⟨nF,?_,fun j x h=>?_,fun i j x y _ h k g b=>?_⟩
 ·rw [heap_alloc_new];simp
 ·rw [a j x h];exact Bv _ _ _ _
 ·rw [a i x h] at b;cases b
theorem uHy (w:World) (x y:Int) (t:TypeId) {g:Nat} (a:g=w.heap.size):∀ j u,(vC [x,y])[j]?=some u->(w.alloc (.cells #[.int .i64 x,.int .i64 y] t)).cell? ((⟨g,0,none⟩:Addr).add j)=some u:=by
 subst a;intro j u b;exact Bd (heap_alloc_new w (.cells #[.int .i64 x,.int .i64 y] t)) j u (by simpa using b)
theorem uFv {w:World} {base n:Nat} {e:TypeId} {v:Value} {xs ys:List Int} (h:w.ownsRow base e 1 v n (vC xs++vC ys)):w.ownsRow base e 1 v n (vC (xs++ys)):=by rw [<-By] at h;exact h
theorem NE (w:World) (x:Int) (t:TypeId):∀ j u,(vC [x])[j]?=some u->(w.alloc (.cells #[.int .i64 x] t)).drew.cell? ((⟨w.heap.size,0,none⟩:Addr).add j)=some u:=by
 intro j u a;exact Bd (w:=(w.alloc (.cells #[.int .i64 x] t)).drew) (heap_alloc_new w (.cells #[.int .i64 x] t)) j u (by simpa using a)
theorem heap_setCell {w:World} {b i:Nat} {cs:Array Value} {t:TypeId} {a:Nat×Nat} (h:w.heap[b]?=some (.cells cs t a)) (v:Value):(w.setCell ⟨b,i,none⟩ v).heap[b]?=some (.cells (cs.setIfInBounds i v) t a):=by
 simp [World.setCell,Di,h]
theorem AbW.stored {w6 N c:World} {s T j C cap g H:Nat} {D:Nat} {E:Option Addr} {L:List qB} {xs ys:List Int} {m:Nat} (h:AbW w6 (s+2) (s+1) T L) (A:L[j]?=some ⟨xs,E,C,D⟩) (G:Ab w6 N)
 (P:N.grownBy c (Value.slice E C D).ownBlock) (I:c.ownsRow (s+2) 3 1 (.slice (some ⟨g,0,none⟩) m cap) m (vC ys)) (o:(Value.slice E C D).ownBlock=some g\/g=H) (hH:N.heap.size=H) (hs:s+2<=w6.heap.size) :
 Below (s+2) w6 c/\c.cell? ⟨s+1,j,none⟩=some (.slice E C D)/\c.frozen? ⟨s+1,j,none⟩=false/\AbW (c.setCell ⟨s+1,j,none⟩ (.slice (some ⟨g,0,none⟩) m cap)) (s+2) (s+1) T (L.set j ⟨ys,some ⟨g,0,none⟩,m,cap⟩)/\Below (s+1) w6 (c.setCell ⟨s+1,j,none⟩ (.slice (some ⟨g,0,none⟩) m cap))/\s+2<=(c.setCell ⟨s+1,j,none⟩ (.slice (some ⟨g,0,none⟩) m cap)).heap.size:=by
 have r:=(Ah.1 A).1;have J:=uC (h.own j _ A) G;have t:∀ k,(Value.slice E C D).ownBlock=some k->s+2<=k:=fun k Z=>(J.lt k Z).1
 have a0:=G.size;have u:s+1 < N.heap.size:=by omega
 have z:c.heap[s+1]?=some (.cells (L.map tR).toArray 60 (0,0)):=
  (P.block (s+1) u (fun e=>by have:=t _ e.symm;omega)).trans ((G.block _ bB).trans h.blk)
 have K:=heap_setCell (i:=j) z (.slice (some ⟨g,0,none⟩) m cap);have a1:s+2<=g:=by
  rcases o with e | e
  ·exact t g e
  ·omega
 have d:Below (s+2) w6 c:=(G.mono bB).grown P bB t;refine ⟨d,(cell_of_row c (s+1) j _ _ (0,0) z).trans (by simp [A]),by simp [World.frozen?,z],⟨by rw [D9,h.len],?_,fun i x b=>?_,fun i k x y n b l q B=>?_⟩,?_,?_⟩
 ·rw [K];congr 1;congr 1;apply F7;simp [Fx]
 ·rw [Cp] at b;by_cases e:j=i
  ·subst e;rw [if_pos rfl,if_pos r] at b;injection b with b;subst b;exact ownsRow_setCell_below I (a:=⟨s+1,j,none⟩) (show s+1 < s+2 by omega) _
  ·rw [if_neg e] at b;have U:=uC (h.own i x b) G;have h2:=U.kept P (by
    rcases U.2 with ⟨Q,_⟩ | ⟨V,Y,a2,Q,_⟩
    ·left;rw [Q];rfl
    ·right;intro e';have M:(tR x).ownBlock=some V:=by rw [Q];rfl
     exact h.dis i j x _ (fun O=>e O.symm) b A V M (by rw [<-e',<- M]))
   exact ownsRow_setCell_below h2 (a:=⟨s+1,j,none⟩) (show s+1 < s+2 by omega) _
 ·rw [Cp] at b l;have f:∀ i x,L[i]?=some x->∀ q,(tR x).ownBlock=some q->q < w6.heap.size:=fun i x b q B=>((h.own i x b).lt q B).2
  by_cases M:j=i
  ·subst M;rw [if_pos rfl,if_pos r] at b;injection b with b;subst b;rw [if_neg n] at l;have R:q=g:=by have:some g=some q:=B;injection this with this;exact this.symm
   subst R;rcases o with e | e
   ·exact h.dis j k _ y n A l q e
   ·intro S;have:=f k y l q S;omega
  ·rw [if_neg M] at b;by_cases O:j=k
   ·subst O;rw [if_pos rfl,if_pos r] at l;injection l with l;subst l;intro S;have R:q=g:=by have:some g=some q:=S;injection this with this;exact this.symm
    subst R;rcases o with e | e
    ·exact h.dis i j x _ n b A q B e
    ·have:=f i x b q B;omega
   ·rw [if_neg O] at l;exact h.dis i k x y n b l q B
 ·exact (d.mono (show s+1<=s+2 by omega)).setCell (p:=⟨s+1,j,none⟩) (Ae _) _
 ·have:=d.size;simp [World.setCell];omega
theorem uIu (A:Option Addr) (n c:Nat) (ps:List Pr) (rg v:Int) (w:World) (a:Prs w w.heap.size A n ps) (d:n<=maxLen) (h:xP ps rg=v) (b:v≠0) :
 Calls prog 72 #[.slice A n c,.int .i64 rg] w fun x w'=>x=.returned (.tuple #[.pointer none,.int .i64 v])/\Ab w w':=by
 have f:=uA (cU (c:=c) h w a d);have g:(v != 0)=true:=by rw [bne_iff_ne];exact b
 clear h a b;go_enter func72,ntmps72
 go_wp2_with fail
 refine f.o.mono ?_;rintro e j ⟨rfl,i⟩;go_wp2_with fail
 go_ret2
 exact ⟨rfl,i⟩
theorem JI (A:Option Addr) (n c:Nat) (ps:List Pr) (rg:Int) (w:World) (hA:Prs w w.heap.size A n ps) (h:xP ps rg=0) :
 Calls prog 72 #[.slice A n c,.int .i64 rg] w fun x w'=>∃ r,x=.returned (.tuple #[.pointer (some ⟨r,0,none⟩),.int .i64 0])/\Rel w' w'.heap.size r ps rg/\Ab w w':=by
 obtain ⟨i0,hi,aa,ab,ac⟩:=info_parts qY;obtain ⟨i1,az,b0,b1,b2⟩:=info_parts uHn;have a4:=uA (YJ h);have hn:n<=65535:=by have:=a4.o.len;have:=hA.len;omega
 have HC:=uA (cU (c:=c) h w hA (by unfold maxLen;omega));have HA:=uA hA;have HL:=uA hA.len;clear h hA;go_enter func72,ntmps72
 go_wp2_with fail
 refine HC.o.mono ?_;rintro e w1 ⟨rfl,hb⟩;have HB:=uA hb;clear hb;go_wp2_with fail
 go_loopw [7,25] (fun v i wr=>∃ k:Nat,i=.int .i64 (k:Int)/\k<=n/\wr.ownsRow w1.heap.size 3 1 v (2*k) (vC (nM (ps.take k)))/\Ab w1 wr) (fun _ i _=>n - (intOf i).toNat)
 case atStart=>exact ⟨0,rfl,Am _,Bv _ _ _ _,Below.refl _ _⟩
 case round=>
  obtain ⟨k,rfl,hk,J,g⟩:=hrel;obtain ⟨A1,c1,rfl,b3,b4⟩:=wH J;have HO:=uA J;have S:=uA g;have ad:=g.size;unfold maxLen at b4;clear J g;by_cases T:k < n
  ·obtain ⟨p,hp⟩:=HA.o.get T;have K:(k:Int) < (n:Int):=bB;have b5:=uA (uAu hp);obtain ⟨b,o,rfl,b6,_,c0,a5⟩:=(HA.o.below (Aa HB.o S.o)).at_ hp;obtain ⟨x,y⟩:=p;simp only [] at c0 a5;have E:Hdd (((wr.alloc (.cells #[.int .i64 x,.int .i64 y] 54)).alloc (.cells #[.int .i64 x,.int .i64 y] 3)).ownsRow w1.heap.size 3 1 (.slice A1 (2*k) c1) (2*k) (vC (nM (ps.take k)))):=(HO.o.alloc _).alloc _;have a6:∃ m,m=2*k:=⟨_,rfl⟩;obtain ⟨m,hm⟩:=a6;rw [<-hm] at E b3 ⊢;have bl:m<=131070:=bB;have HM:=uA hm;clear hp hm HO;go_wp2_with (at_builtin;refine wpList_append_own_at _ rfl _ _ 60 rfl w1.heap.size 3 i0 (.int .i64 0) 1 8 underlying60 hi aa ab ac rfl eW _ m _ rfl E.o ⟨wr.heap.size+1,0,none⟩ 2 2 (vC [x,y]) rfl rfl (uHy (wr.alloc (.cells #[.int .i64 x,.int .i64 y] 54)) x y 3 nF) (ints_oneCell _ _) (by unfold maxLen;omega) bB (by simp;omega) ?_;intro v5 w5 M ae _ af;have b7:=uA M;have b8:=uA (mM ((S.o.alloc ad _).alloc (by simp;omega) _) E.o (by simp;omega) ae);clear M ae af)
   go_roundw
   case rel=>
    refine ⟨k+1,by go_num,bB,?_,b8.o⟩;have h:=b7.o;rw [<-By] at h;rw [b5.o,show 2*(k+1)=m+2 by have:=HM.o;omega];exact h
   case measure=>simp [intOf];omega
  ·have e:k=n:=bB;have bm:2*k<=131070:=bB;have K:¬(k:Int) < (n:Int):=bB;have HF:=uA (show nM (ps.take k)=nM ps by rw [Au (by have:=HL.o;omega)]);rw [HF.o] at HO;clear HF T;generalize hm:2*k=m at *;go_wp2_with fail
   refine (gD HO.o bB).mono ?_;rintro e w2 ⟨rfl,N,f⟩;have ag:=uA (S.o.trans (f ad));have E:=uA N;clear N f HO;go_wp2_with fail
   refine (cN E.o bB).mono ?_;rintro e d ⟨G,a,H,rfl,ah,ai,l,aj⟩;have ak:=uA (ag.o.trans aj);have al:Hdd (d.ownsRow w1.heap.size 3 1 (.slice G a H) a (vC (nH (nM ps)))):=l;have bn:a<=131070:=by
    have h1:=(Rd.of_own l).ilen;have h2:=sG (nM ps);have h3:=SL ps;have h4:=HL.o;unfold nH at h2;omega
   unfold maxLen at ai;clear l aj E;have U:=uA (Rd.of_own al.o);go_wp2_with (at_make;refine kV _ rfl _ _ _ rfl 60 i1 _ underlying85 az b0 b1 rfl a rfl rfl (by rw [b2];omega) bB ?_)
   have HD:Hdd (∀ x,x∈nH (nM ps)↔∃ p∈ps,x=p.1\/x=p.2):=fun x=>eU.trans US;have C:=uA (fB (nM ps));generalize nH (nM ps)=D at *;have b9:=U.o.ilen;have V:Below d.heap.size d ((d.alloc (.cells #[.int .i64 rg,.slice G a H,.slice (some ⟨d.heap.size+1,0,none⟩) a a] 193)).alloc (.cells (Array.replicate a (.slice none 0 0)) 60)):=((Below.refl _ _).alloc (Ae _) _).alloc nF _;have am:AbW ((d.alloc (.cells #[.int .i64 rg,.slice G a H,.slice (some ⟨d.heap.size+1,0,none⟩) a a] 193)).alloc (.cells (Array.replicate a (.slice none 0 0)) 60)) (d.heap.size+2) (d.heap.size+1) a (List.replicate a ⟨[],none,0,0⟩):=by
    have h:=AbW.begin (d.alloc (.cells #[.int .i64 rg,.slice G a H,.slice (some ⟨d.heap.size+1,0,none⟩) a a] 193)) (d.heap.size+2) a 60 rfl;simpa using h
   have an:((d.alloc (.cells #[.int .i64 rg,.slice G a H,.slice (some ⟨d.heap.size+1,0,none⟩) a a] 193)).alloc (.cells (Array.replicate a (.slice none 0 0)) 60)).heap[d.heap.size]?=some (.cells #[.int .i64 rg,.slice G a H,.slice (some ⟨d.heap.size+1,0,none⟩) a a] 193 (0,0)):=by
    rw [heap_alloc_old _ _ nF];exact heap_alloc_new _ _
   have ao:d.heap.size+2<=((d.alloc (.cells #[.int .i64 rg,.slice G a H,.slice (some ⟨d.heap.size+1,0,none⟩) a a] 193)).alloc (.cells (Array.replicate a (.slice none 0 0)) 60)).heap.size:=nF;generalize ((d.alloc (.cells #[.int .i64 rg,.slice G a H,.slice (some ⟨d.heap.size+1,0,none⟩) a a] 193)).alloc (.cells (Array.replicate a (.slice none 0 0)) 60))=w4 at *;have ba:∃ s,s=d.heap.size:=⟨_,rfl⟩;obtain ⟨s,hs⟩:=ba;have O:=uA (Aa HB.o ak.o);have bb:=O.o.size;rw [<-hs] at V am an ao bb U ⊢;have ap:Hdd (Ab w w4):=O.o.trans (V.mono bB);have a2:=uA (U.o.below V);clear V O ak al hs U ag S HB;go_loopw [55] (fun i wr=>∃ (k:Nat) (L:List qB),i=.int .i64 (k:Int)/\k<=n/\Hdd (AbW wr (s+2) (s+1) a L)/\Hdd (wr.heap[s]?=some (.cells #[.int .i64 rg,.slice G a H,.slice (some ⟨s+1,0,none⟩) a a] 193 (0,0)))/\Below s w4 wr/\s+2<=wr.heap.size/\Hdd (AA D (ps.take k) (L.map qB.xs))) (fun i _=>n - (intOf i).toNat)
   case atStart=>exact ⟨0,_,rfl,Am _,am,an,Below.refl _ _,ao,by rw [F8,List.map_replicate,<- b9];exact AA.begin D⟩
   case round=>
    obtain ⟨k2,L,rfl,bo,t,HR,f,bc,Y⟩:=hrel;by_cases T:k2 < n
    ·obtain ⟨p,hp⟩:=HA.o.get T;have K:(k2:Int) < (n:Int):=bB;obtain ⟨b,o,rfl,b6,_,c0,a5⟩:=((HA.o.below ap.o).below (f.mono bB)).at_ hp;have a7:=Aj hp;have aq:ps.take (k2+1)=ps.take k2++[p]:=by rw [Bm,hp];rfl
     obtain ⟨i,hi⟩:=B2 ((HD.o p.1).2 ⟨p,a7,.inl rfl⟩);obtain ⟨j,Z⟩:=B2 ((HD.o p.2).2 ⟨p,a7,.inr rfl⟩);obtain ⟨x,y⟩:=p;simp only [] at c0 a5 hi Z;have bp:j < a:=by have:=(Ah.1 Z).1;omega
     have a6:∃ z,L[j]?=some z:=⟨_,Ad (by have:=t.o.len;omega)⟩;obtain ⟨z,hz⟩:=a6;have P:=uA (Y.o.step C.o hi Z (show (L.map qB.xs)[j]?=some z.xs by rw [Ar,hz];rfl));rw [<-aq] at P;have bd:=uA hi;have ar:=uA Z;have HZ:=uA hz;have HX:=uA fun (w':World) (Q:Ab wr w')=>show w'.cell? ⟨s,1,none⟩=some (.slice G a H)/\Rd w' s G a (vC D)/\w'.cell? ⟨s,2,none⟩=some (.slice (some ⟨s+1,0,none⟩) a a)/\w'.cell? ⟨s+1,j,none⟩=some (tR z)/\AbW w' (s+2) (s+1) a L from
      ⟨(Q.cell (p:=⟨s,1,none⟩) (show s < wr.heap.size by omega)).trans (cell_of_row wr s 1 _ _ (0,0) HR.o),(a2.o.below f).below (Q.mono bB),(Q.cell (p:=⟨s,2,none⟩) (show s < wr.heap.size by omega)).trans (cell_of_row wr s 2 _ _ (0,0) HR.o),
        (Q.cell (p:=⟨s+1,j,none⟩) (show s+1 < wr.heap.size by omega)).trans ((cell_of_row wr (s+1) j _ _ (0,0) t.o.blk).trans (by simp [HZ.o])),t.o.below Q⟩
     have g:=(Below.refl wr.heap.size wr).alloc (Ae _) (.cells #[.int .i64 x,.int .i64 y] 54);clear hp a7 aq hi Z hz;go_wp2_with fail
     refine (jG bd.o _ (HX.o _ g).1 (HX.o _ g).2.1 C.o bB).mono ?_;rintro e w5 ⟨rfl,q,rfl⟩;have a8:=tyN g q;have e0:((wr.alloc (.cells #[.int .i64 x,.int .i64 y] 54)).drewN q).cell? ⟨wr.heap.size,0,none⟩=some (.int .i64 x):=cell_of_row _ wr.heap.size 0 _ _ (0,0) (heap_alloc_new wr _);have e1:((wr.alloc (.cells #[.int .i64 x,.int .i64 y] 54)).drewN q).cell? ⟨wr.heap.size,1,none⟩=some (.int .i64 y):=cell_of_row _ wr.heap.size 1 _ _ (0,0) (heap_alloc_new wr _);generalize (wr.alloc (.cells #[.int .i64 x,.int .i64 y] 54)).drewN q=w5 at *;go_wp2_with fail
     refine (jG ar.o _ (HX.o _ a8).1 (HX.o _ a8).2.1 C.o bB).mono ?_;rintro e I ⟨rfl,q2,rfl⟩;have a0:=tyN a8 q2;generalize w5.drewN q2=I at *;go_wp2_with fail
     obtain ⟨g1,g2,g3,g4,g5⟩:=HX.o _ a0;have a9:=uA fun (w':World) (h:Ab I w')=>uC (g5.own j z HZ.o) h
     have G5:=uA g5;obtain ⟨xs,zA,zn,zc⟩:=z;simp only [] at g4 a9 HZ P;have bq:(0:Int)<=(j:Int):=Ch _;have br:(j:Int) < (a:Int):=bB;clear g5 HX e0 e1;have a1:Ab I (I.alloc (.cells #[.int .i64 (i:Int)] 3)).drew:=((Below.refl _ _).alloc (Ae _) _).drew;have au:=uA (a9.o _ a1);have be:=uA (show xs.length=zn by have:=(Rd.of_own au.o).ilen;exact this);have bs:zn<=65535:=by
      have h1:=(Y.o.all j xs y (by rw [Ar,HZ.o];rfl) ar.o).2.1;rw [B9] at h1;have:=be.o;omega
     have bf:s+2<=I.heap.size:=Ai bc a0.size;have bg:=NE I (i:Int) 3;have bh:=(a1.cell (p:=⟨s,2,none⟩) (show s < I.heap.size by omega)).trans g3;have bi:=(a1.cell (p:=⟨s+1,j,none⟩) (show s+1 < I.heap.size by omega)).trans g4;simp only [World.cell?_drew] at bh bi;have bj:=uA ((a0.block s (show s < wr.heap.size by omega)).trans HR.o);have av:=uA (f.trans (a0.mono bB));clear a9;go_region_law (go_must (refine step_append_lies _ (by rfl) (.tmp 84) (.tmp 86) 60 (by rfl) (s+2) 3 i0 (.int .i64 0) 1 8 underlying60 hi aa ab ac rfl bB (.slice zA zn zc) zn (vC xs) (by rfl) au.o ⟨I.heap.size,0,none⟩ 1 1 (vC [(i:Int)]) (by rfl) (by rfl) bg (ints_oneCell _ _) bB (by unfold maxLen;omega) bB (by simp;omega) (I.heap.size+1) nF ?_;intro g7 aw w7 R ax a3 ay;have B:=uA (AbW.stored G5.o HZ.o a1 ax (uFv R) a3 nF bf);have bt:=(B.o.1.cell (p:=⟨s,2,none⟩) nF).trans g3;have bu:=B.o.2.1;have bv:=B.o.2.2.1;clear R ax a3 ay))
     all_goals
      go_wp2;refine ⟨⟨k2+1,L.set j ⟨xs++[(i:Int)],some ⟨g7,0,none⟩,zn+1,aw⟩,by go_num,bB,B.o.2.2.2.1,(B.o.2.2.2.2.1.block s bB).trans bj.o,av.o.trans (B.o.2.2.2.2.1.mono bB),B.o.2.2.2.2.2,?_⟩,by simp [intOf];omega⟩;have h:=P.o;show AA D _ _;rw [Fx];exact h
    ·obtain rfl:k2=n:=by omega
     have HF:=uA (show Rel wr wr.heap.size s ps rg from by
      have hr:=HR.o;have hl:∀ j,wr.cell? ⟨s,j,none⟩=(#[.int .i64 rg,.slice G a H,.slice (some ⟨s+1,0,none⟩) a a]:Array Value)[j]?:=fun j=>cell_of_row wr s j _ _ (0,0) hr
      refine ⟨G,a,H,D,some ⟨s+1,0,none⟩,a,L,bB,hl 0,hl 1,hl 2,ah,Ae _,(a2.o.below f).more bB,⟨by rw [Ao,t.o.len],fun h0=>⟨s+1,0,rfl,bB,fun j u hu=>?_⟩⟩,fun x hx=>?_,?_,bB,a4.o⟩
      ·rw [Ea,cell_of_row wr (s+1) j _ _ (0,0) t.o.blk];simpa using hu
      ·obtain ⟨j,Z⟩:=B2 hx;have h:=t.o.own j x Z;refine ⟨Rd.of_own h,?_,?_⟩
       ·obtain ⟨_,_,e,h1,_⟩:=wH h;cases e;exact h1
       ·have h1:=(Rd.of_own h).ilen;have bk:(L.map qB.xs)[j]?=some x.xs:=by rw [Ar,Z];rfl
        have hb:∃ b,D[j]?=some b:=⟨_,Ad (by have:=(Ah.1 Z).1;have:=t.o.len;omega)⟩;obtain ⟨b,hb⟩:=hb;have h2:=(Y.o.all j x.xs b bk hb).2.1;rw [B9] at h2;have:=a4.o.len;omega
      ·have h:=Y.o;rw [Au (by have:=HL.o;omega)] at h;exact h.rel C.o HD.o)
     have K:¬(k2:Int) < (k2:Int):=Int.lt_irrefl _;go_wp2;go_ret2
     exact ⟨s,rfl,HF.o,ap.o.trans (f.mono bB)⟩
section
open Go.Shelf
attribute [local go_sem] Oper.semAt_some
theorem VI:(prog.info? 4).map (fun i=>(i.zero,i.size,i.bytes))=some (some (.bool false),1,1):=by kernel_rfl
theorem uD6 (z:Value) (a:z.cells=#[z]) (k:Nat):madeCells z.cells k=(List.replicate k z).toArray:=by
 apply G2
 ·rw [size_madeCells];simp
 ·intro i b c;simp [madeCells,a,Nat.mod_one]
theorem gY {F:Fence} {p:Nat} {P:Program} (w:World) {f:Array Oper} {b:List Oper} {o:Oper} {a:Act} {Q:Exit->Act->World->Prop}
 (r:o.guard=none) (l c:Operand) (t:TypeId) (d:o.op=Op.makeSlice t l c)
 (e:TypeId) (i:TypeInfo) (z:Value) (s:P.underlying t=some (.slice e)) (u:P.info? e=some i) (x:i.zero=some z) (y:i.size=1) (A:z.cells=#[z])
 (n:Nat) (B:a.eval l=.int .i64 (n:Int)) (C:a.eval c=.int .i64 (n:Int)) (E:i.bytes*n<=281474976710656) (G:n<=1000000)
 (D:wpListIn F p P f Q b (a.put o.dst (.slice (some ⟨w.heap.size,0,none⟩) n n)) (w.alloc (.cells (List.replicate n z).toArray e))) :
 wpListIn F p P f Q (o :: b) a w:=by
 have g:(i.bytes:Int)*(n:Int)<=281474976710656:=by
  have h:((i.bytes*n:Nat):Int)<=281474976710656:=by omega
  rwa [Fr] at h
 have q:=run_make (P:=P) w t e i z s u x .i64 .i64 n n bB (Fn _) g bB;simp only [A3,y,Ey,uD6 z A] at q;refine wpListIn_plain r fun K j=>?_
 unfold Oper.wpIn;refine ⟨by simp [Oper.about,d],?_⟩;rw [Oper.semAt_plain F _ _ (by rw [d];intro c k;cases k)];simp [execOp,d,B,C,q,Result.andThen];exact j _ _ D
def RdX (B X:Nat) (w:World) (A:Option Addr) (n:Nat) (xs:List Int):Prop:=
 xs.length=n/\(0 < n->∃ b o,A=some ⟨b,o,none⟩/\b < B/\b≠X/\some b≠wI X w/\∀ j x,xs[j]?=some x->w.cell? ⟨b,o+j,none⟩=some (.int .i64 x))
theorem RdX.at_ {B X:Nat} {w:World} {A:Option Addr} {n:Nat} {xs:List Int} (h:RdX B X w A n xs) {j:Nat} {x:Int} (a:xs[j]?=some x):∃ b o,A=some ⟨b,o,none⟩/\b < B/\b≠X/\some b≠wI X w/\w.cell? ⟨b,o+j,none⟩=some (.int .i64 x):=by
 obtain ⟨b,o,c,d,e,f,g⟩:=h.2 (by have:=(Ah.1 a).1;have:=h.1;omega);exact ⟨b,o,c,d,e,f,g j x a⟩
theorem RdX.of_rd {B B' X:Nat} {w:World} {A:Option Addr} {n:Nat} {xs:List Int} (h:Rd w B A n (vC xs)) (l:B<=X) (a:B<=B') (c:∀ g,wI X w=some g->B<=g):RdX B' X w A n xs:=by
 refine ⟨h.ilen,fun d=>?_⟩;obtain ⟨b,o,f,p,i⟩:=h.2 d;exact ⟨b,o,f,bB,bB,fun e=>by have:=c b e.symm;omega,fun j x k=>i j _ (by rw [Ar,k];rfl)⟩
theorem jN {base X:Nat} {W a:World} (h:zT base X W a) {b:Nat} (f:b < W.heap.size) (d:some b≠wI X W):some b≠wI X a:=by
 rcases h.own with e | ⟨g,e,i⟩
 ·rw [e];exact d
 ·rw [e];intro c;injection c with c;omega
theorem RdX.keep {B X base:Nat} {w w':World} {A:Option Addr} {n:Nat} {xs:List Int} (h:RdX B X w A n xs) (a:zT base X w w') (l:B<=w.heap.size):RdX B X w' A n xs:=
 ⟨h.1,fun e=>by
  obtain ⟨b,o,f,g,c,d,i⟩:=h.2 e;exact ⟨b,o,f,g,c,jN a bB d,fun j x k=>a.cell (i j x k) c d⟩⟩
theorem RdX.low {B X:Nat} {w w':World} {A:Option Addr} {n:Nat} {xs:List Int} (h:RdX B X w A n xs) (a:Below B w w') (d:X < B):RdX B X w' A n xs:=by
 have e:wI X w'=wI X w:=yO (a.cell (p:=⟨X,0,none⟩) d);exact ⟨h.1,fun f=>by
  obtain ⟨b,o,g,c,i,k,l⟩:=h.2 f;exact ⟨b,o,g,c,i,by rw [e];exact k,fun j x q=>(a.cell (p:=⟨b,o+j,none⟩) c).trans (l j x q)⟩⟩
structure SrW (base n₀ X gF:Nat) (W0 w:World) (F:List Bool) (v:Value) (m:Nat) (W:List Int):Prop where
 low:Below base W0 w
 fnd:w.heap[gF]?=some (.cells (F.map Value.bool).toArray 4 (0,0))
 own:w.ownsRow (gF+1) 3 1 v m (vC W)
 ox:∀ g,wI X w=some g->n₀<=g/\g < w.heap.size/\g≠gF/\v.ownBlock≠some g
section
variable {base n₀ X gF:Nat} {W0 w w':World} {F:List Bool} {v:Value} {m:Nat} {W:List Int}
theorem SrW.lt (h:SrW base n₀ X gF W0 w F v m W):gF < w.heap.size:=(Ag.1 h.fnd).1
theorem SrW.keep (h:SrW base n₀ X gF W0 w F v m W) (b:zT base X w w') (r:n₀<=gF) (s:X < n₀):SrW base n₀ X gF W0 w' F v m W:=by
 have t:=h.lt;have l:some gF≠wI X w:=fun e=>(h.ox gF e.symm).2.2.1 rfl
 refine ⟨h.low.trans b.low,b.cells gF _ _ _ h.fnd bB l,⟨h.own.1,?_⟩,fun g a=>?_⟩
 ·rcases h.own.2 with n | ⟨g,d,f,e,o,i,c⟩
  ·exact .inl n
  ·refine .inr ⟨g,d,f,e,o,b.cells g _ _ _ i bB (fun j=>?_),c⟩;exact (h.ox g j.symm).2.2.2 (by rw [e];rfl)
 ·have k:=b.fits (fun g a=>(h.ox g a).2.1) g a;rcases b.own with e | ⟨p,e,q⟩
  ·rw [e] at a;have:=h.ox g a;exact ⟨this.1,k,this.2.2⟩
  ·rw [e] at a;injection a with a;subst a;exact ⟨bB,k,bB,fun j=>by have:=(h.own.lt p j).2;omega⟩
theorem SrW.cell (h:SrW base n₀ X gF W0 w F v m W) {i:Nat} {b:Bool} (a:F[i]?=some b):w.cell? ⟨gF,i,none⟩=some (.bool b)/\w.frozen? ⟨gF,i,none⟩=false:=
 ⟨(cell_of_row w gF i _ _ (0,0) h.fnd).trans (by simp [a]),by simp [World.frozen?,h.fnd]⟩
theorem SrW.q (h:SrW base n₀ X gF W0 w F v m W) (i:Nat) {b:Bool} (a:F[i]?=some b):w.cell? ⟨gF,i,none⟩=some (.bool b)/\w.frozen? ⟨gF,i,none⟩=false:=h.cell a
theorem SrW.mark (h:SrW base n₀ X gF W0 w F v m W) (o:n₀<=gF) (u:X < n₀) (f:base<=n₀) (i:Nat):SrW base n₀ X gF W0 (w.setCell ⟨gF,i,none⟩ (.bool true)) (F.set i true) v m W/\ItX n₀ X w (w.setCell ⟨gF,i,none⟩ (.bool true)):=by
 have x:=h.lt;have q:(w.setCell ⟨gF,i,none⟩ (.bool true)).heap.size=w.heap.size:=by simp [World.setCell]
 have b:∀ k,k≠gF->(w.setCell ⟨gF,i,none⟩ (.bool true)).heap[k]?=w.heap[k]?:=fun k r=>Below.heap_setCell w ⟨gF,i,none⟩ _ k r
 have e:wI X (w.setCell ⟨gF,i,none⟩ (.bool true))=wI X w:=yO (Ce (w:=w) (a:=⟨X,0,none⟩) (b X bB));refine ⟨⟨h.low.setCell (p:=⟨gF,i,none⟩) (Ai f o) _,?_,⟨h.own.1,?_⟩,fun g d=>?_⟩,(Below.refl n₀ w).setCell (p:=⟨gF,i,none⟩) o _,fun g d _=>b g (h.ox g d).2.2.1⟩
 ·have s:(w.setCell ⟨gF,i,none⟩ (.bool true)).heap[gF]?=some (.cells ((F.map Value.bool).toArray.setIfInBounds i (.bool true)) 4 (0,0)):=by simp [World.setCell,Di,h.fnd]
  rw [s];congr 2;apply F7;simp [Fx]
 ·rcases h.own.2 with t | ⟨g,j,l,e,f,n,c⟩
  ·exact .inl t
  ·exact .inr ⟨g,j,l,e,f,(b g bB).trans n,c⟩
 ·rw [e] at d;rw [q];exact h.ox g d
theorem SrW.alloc (h:SrW base n₀ X gF W0 w F v m W) (c:X < w.heap.size) (a:Ab w w') (d:base<=w.heap.size):SrW base n₀ X gF W0 w' F v m W:=by
 have e:wI X w'=wI X w:=yO (a.cell (p:=⟨X,0,none⟩) c);refine ⟨h.low.trans (a.mono d),(a.block _ h.lt).trans h.fnd,uC h.own a,fun g b=>?_⟩;rw [e] at b;have:=h.ox g b;exact ⟨this.1,Ap this.2.1 a.size,this.2.2⟩
theorem SrW.app (h:SrW base n₀ X gF W0 w F v m W) (r:n₀<=gF) (s:X < n₀) (t:base<=n₀) {l:Value} {p:Nat} {ys:List Int} (f:w'.ownsRow (gF+1) 3 1 l p (vC ys)) (i:w.grownBy w' v.ownBlock) (o:l.ownBlock=v.ownBlock\/l.ownBlock=some w.heap.size) :
 SrW base n₀ X gF W0 w' F l p ys/\ItX n₀ X w w':=by
 have q:=h.lt;have b:∀ k,v.ownBlock=some k->gF+1<=k:=fun k c=>(h.own.lt k c).1
 have e:wI X w'=wI X w:=yO (Ce (w:=w) (a:=⟨X,0,none⟩) (i.block X bB (fun e=>by have:=b X e.symm;omega)));refine ⟨⟨h.low.grown i bB (fun k c=>by have:=b k c;omega),(i.block gF q (fun e=>by have:=b gF e.symm;omega)).trans h.fnd,f,fun g j=>?_⟩,ItX.of_grown i bB fun k c=>⟨by have:=b k c;omega,fun d=>(h.ox k d.symm).2.2.2 c⟩⟩;rw [e] at j;have n:=h.ox g j;refine ⟨n.1,Ap n.2.1 i.size,n.2.2.1,fun d=>?_⟩;rcases o with e3 | e3
 ·exact n.2.2.2 (e3 ▸ d)
 ·rw [e3] at d;injection d with d;omega
end
theorem LY {w:World} {base g n cap:Nat} {e:TypeId} {xs:List Value} {x:Value} (h:w.ownsRow base e 1 (.slice (some ⟨g,0,none⟩) (n+1) cap) (n+1) (xs++[x])):w.ownsRow base e 1 (.slice (some ⟨g,0,none⟩) n cap) n xs:=by
 have b:xs.length=n:=by have:=h.1;simp at this;omega
 rcases h.2 with ⟨i,_⟩ | ⟨s,d,c,j,k,l,t,o,p,q⟩
 ·cases i
 ·injection j with a u r;injection a with a;injection a with a;subst a r;refine ⟨by simp [b],.inr ⟨g,cap,c,rfl,k,l,bB,o,p,?_⟩⟩;have f:=congrArg (List.take n) q;rw [Fy,D4 bB,<- b,Dz] at f;rw [<-f,b];congr 1;omega
theorem FS {w:World} {base n:Nat} {e:TypeId} {v:Value} {xs ys:List Int} (h:w.ownsRow base e 1 v n (vC xs++vC ys)):w.ownsRow base e 1 v n (vC (xs++ys)):=by rw [<-By] at h;exact h
def uAk (base X N l:Nat) (J d:List Int->World->Prop):Prop:=∀ m a x b,J a b->a.length < N->YieldAt Fence.wide m prog l #[.int .i64 x] b fun e c=>
 (e=.returned (.bool true)/\J (a++[x]) c/\zT base X b c)\/(e=.returned (.bool false)/\d (a++[x]) c)
theorem RB {α:Type}:∀ {L:List α} {n:Nat},L.length=n+1->∃ M x,L=M++[x]/\M.length=n:=by
 intro L n h;refine ⟨L.take n,L[n]'bB,?_,by rw [B9];omega⟩;have:=List.take_append_getElem (show n < L.length by omega);rw [this,<- h,Dz]
theorem RU (m l base X n₀ N:Nat) (J Jx:List Int->World->Prop) (hJ:∀ s A B,J s A->ItX n₀ X A B->J s B) (hY:uAk base X N l J Jx)
 (r:Nat) (ps:List Pr) (rg:Int) (A1:Option Addr) (H cD:Nat) (D:List Int) (A2:Option Addr) (c2:Nat) (L:List qB) (W0:World) (hR:DY W0 base r ps rg A1 H cD D A2 c2 L)
 (aj:base<=n₀) (ak:base<=X) (ac:X < n₀) (hn:n₀<=W0.heap.size) (G:Int->Prop) (hG:∀ a b,(a,b)∈ps->G b->G a)
 (A:Option Addr) (n c:Nat) (S:List Int) (hS:RdX W0.heap.size X W0 A n S) (al:n<=140737488355327) (am:∀ x∈S,(0<=x/\x < (D.length:Int))/\∀ a,D[x.toNat]?=some a->G a)
 (j:List Int) (h0:J j W0) (hO:∀ g,wI X W0=some g->n₀<=g/\g < W0.heap.size) (hN:j.length+H<=N) :
 CallsIn Fence.wide m prog 173 #[.pointer (some ⟨r,0,none⟩),.slice A n c,.func (.yield l) #[] #[]] W0 fun e W'=>(∃ v,e=.returned v) /\
  ((∃ C:List Int,(∀ a∈C,G a)/\(∀ s∈S,∀ b,D[s.toNat]?=some b->∀ a,Way ps a b->a∈C)/\J (j++C) W')\/(∃ C:List Int,(∀ a∈C,G a)/\Jx (j++C) W')):=by
 obtain ⟨i0,hi,bb,a1,an⟩:=info_parts qY;obtain ⟨i1,bc,bd,be,bf⟩:=info_parts VI;have HR:=uA hR;have bg:D.length=H:=hR.dec.ilen;have c1:=hR.few;have HJ:=uA hJ;have bh:=uA hY;have HG:=uA hG;have c5:=hR.d1;have bi:r < W0.heap.size:=Ap hR.lt bB;have c6:=uA hS;have ao:=uA (Sr.begin (ab:=L.map qB.xs) am);rw [bg] at ao;have a2:Ab W0 (W0.alloc (.cells (Array.replicate H (.bool false)) 4)):=(Below.refl _ _).alloc (Ae _) _;have bj:=uA (hJ _ _ _ h0 (ItX.of_below a2 hn));have ap:=uA (show SrW base n₀ X W0.heap.size W0 (W0.alloc (.cells (Array.replicate H (.bool false)) 4)) (List.replicate H false) (.slice none 0 0) 0 [] from
  ⟨(Below.refl base W0).alloc bB _,by rw [heap_alloc_new];simp,Bv _ _ _ _,fun g hg=>by
    have e:wI X (W0.alloc (.cells (Array.replicate H (.bool false)) 4))=wI X W0:=yO (a2.cell (p:=⟨X,0,none⟩) (show X < W0.heap.size by omega));rw [e] at hg;have:=hO g hg;exact ⟨this.1,by simp;omega,bB,fun e=>by cases e⟩⟩)
 have aq:=uA (hS.low a2 bB);clear hJ hY hG hS am h0 hO hR a2;refine callsIn_of_wp func173 rfl trivial ?_ rfl;simp only [ntmps173,Bc,As,Br,Nat.reduceAdd,Nat.reduceSub,Ay,Az,Be,Ba,Bj,Bg];refine wpIn_wide.2 (wp_scope_straight ((wpIn_wide (n:=m)).1 ?_));gi_wp2_with (gi_at_make;refine gY _ rfl _ _ _ rfl 4 i1 _ underlying280 bc bd be rfl H rfl rfl (by rw [bf];omega) bB ?_)
 apply wpIn_label;gi_wp2;have bk:W0.heap.size < (W0.alloc (.cells (Array.replicate H (.bool false)) 4)).heap.size:=by rw [Ak];omega
 generalize W0.alloc (.cells (Array.replicate H (.bool false)) 4)=w1 at *;have E:∃ gF,gF=W0.heap.size:=⟨_,rfl⟩;obtain ⟨gF,ar⟩:=E;rw [<-ar] at ap aq hn bi bk ⊢;clear ar;gi_loopg [1,7] (2*H) (fun g v1 v7 wr=>∃ (A:Option Addr) (n c:Nat) (Ix:List Int) (F:List Bool) (W:List Int) (C:List Int) (O:Nat),v1=.slice A n c/\n<=140737488355327/\Hdd (RdX gF X wr A n Ix)/\Hdd (SrW base n₀ X gF W0 wr F v7 O W)/\Hdd (Sr D (L.map qB.xs) G S Ix W F C)/\Hdd (C.length+qH F=H)/\Hdd (2*qH F+O<=g)/\Hdd (g<=2*H)/\Hdd (J (j++C) wr))
 case atStart=>
  have I:qH (List.replicate H false)=H:=by unfold qH;rw [List.countP_replicate];simp
  exact ⟨A,n,c,S,_,[],[],0,rfl,al,aq.o,ap.o,ao.o,(show _=_ by rw [I];simp),(show _<=_ by rw [I];omega),(show _<=_ by omega),(show J (j++[]) _ by rw [B5];exact bj.o)⟩
 case round=>
  obtain ⟨A,n,c,Ix,F,W,C,O,rfl,al,K,d,M,HC,HM,ad,P⟩:=hrel;gi_wp2;gi_loopw [7,19] (fun v7 i wr=>∃ (k:Nat) (F:List Bool) (W:List Int) (C:List Int) (O:Nat),i=.int .i64 (k:Int)/\k<=n/\Hdd (RdX gF X wr A n Ix)/\Hdd (SrW base n₀ X gF W0 wr F v7 O W)/\Hdd (Sr D (L.map qB.xs) G S (Ix.drop k) W F C)/\Hdd (C.length+qH F=H)/\Hdd (2*qH F+O<=gk)/\Hdd (J (j++C) wr)) (fun _ i _=>n - (intOf i).toNat)
  case atStart=>exact ⟨0,F,W,C,O,rfl,Am _,K.o,d.o,M.o,HC.o,HM.o,P.o⟩
  case round=>
   clear K d M HC HM P;obtain ⟨k,F,W,C,O,rfl,hk,K,d,M,HC,HM,P⟩:=hrel;have c8:=d.o.lt;by_cases c9:k < n
   ·have E:∃ x,Ix[k]?=some x:=⟨_,Ad (by have:=K.o.1;omega)⟩;obtain ⟨x,hx⟩:=E;have au:(k:Int) < (n:Int):=bB;have Q:Ix.drop k=x :: Ix.drop (k+1):=by
     have av:=(Ah.1 hx).1;rw [Cq av];rw [Ad av] at hx;injection hx with hx;rw [hx]
    have f:=M;rw [Q] at f;obtain ⟨⟨a3,ca⟩,_⟩:=f.o.ix x nF;obtain ⟨i,rfl⟩:=Cz a3;have bl:i < H:=bB;have E:∃ fb,F[i]?=some fb:=⟨_,Ad (by have:=d.o;have:=M.o.len;omega)⟩;obtain ⟨fb,U⟩:=E;obtain ⟨b,o,rfl,cb,ak,cc,c0⟩:=K.o.at_ hx;obtain ⟨f0,f1⟩:=d.o.cell U;have bm:(0:Int)<=(i:Int):=Ch _;have aw:(i:Int) < (H:Int):=bB;cases fb
    ·have E:∃ a,D[i]?=some a:=⟨_,Ad bB⟩;obtain ⟨a,ha⟩:=E;obtain ⟨V,ax⟩:=d.o.mark hn ac aj i;have a6:Below gF wr (wr.setCell ⟨gF,i,none⟩ (.bool true)):=(Below.refl gF wr).setCell (p:=⟨gF,i,none⟩) (Ae _) _;have a7:=K.o.low a6 bB;obtain ⟨bD,oD,rfl,cd,dD⟩:=(HR.o.below V.low).dec.int ha;have d1:=(HR.o.below V.low).d1;have I:=JT U;have R:=uA (show Sr D (L.map qB.xs) G S (Ix.drop (k+1)) (W++[(i:Int)]) (F.set i true) (C++[a]) by have h:=f.o.take (a:=a) (by rw [A3];exact ha);rw [A3] at h;exact h);have bn:=uA (show (C++[a]).length+qH (F.set i true)=H by rw [Aw,Cv];have:=HC.o;omega);have bo:=uA (show 2*qH (F.set i true)+(O+1)<=gk by have:=HM.o;omega);have ay:O<=400000:=by
      have h2:=HM.o;have:=ad.o;omega
     obtain ⟨fn,tmps,assign,body,hy,ae⟩:=bh.o (m - 1) (j++C) a _ (HJ.o _ _ _ P.o ax) (by rw [Aw];have:=HC.o;omega);have bp:=uA V;have az:=uA a7;clear hx Q f U V ax a6 a7 ha I M HC HM P K d;gi_wp2;refine ⟨fun h=>(by cases h),ae.mono ?_⟩;rintro e W3 (⟨rfl,b0,af⟩ | ⟨rfl,a8⟩)
     ·have ag:=uA (bp.o.keep af hn ac);have b1:=uA (az.o.keep af (by simp [World.setCell];omega));have bq:=uA b0;clear b0 af ae hy f0 f1 d1 dD c0;have ce:=ag.o.lt;gi_wp2_with (gi_at_builtin;go_must (refine wpListIn_append_own_at _ rfl _ _ 60 rfl (gF+1) 3 i0 (.int .i64 0) 1 8 underlying60 hi bb a1 an rfl eW _ O _ rfl (ag.o.own.alloc _) ⟨W3.heap.size,0,none⟩ 1 1 (vC [(i:Int)]) rfl rfl (iX W3 (i:Int) 3) (ints_oneCell _ _) (by unfold maxLen;omega) bB (by rw [Ak];omega) ?_;intro v5 w5 Y ah _ a9;have a4:=(Below.refl W3.heap.size W3).alloc (Ae _) (.cells #[.int .i64 (i:Int)] 3);have ai:=ag.o.alloc bB a4 bB;have Z:=ai.app hn ac aj (FS Y) ah a9;have br:=uA Z.1;have bs:=uA (HJ.o _ _ _ (HJ.o _ _ _ bq.o (ItX.of_below a4 bB)) Z.2);have b2:=uA ((b1.o.low (a4.mono (by omega:gF<=W3.heap.size)) bB).low ((Below.refl gF _).grown ah (by rw [Ak];omega) (fun k hk=>by have:=(ai.own.lt k hk).1;omega)) bB);clear Y ah a9 a4 ai Z))
      exact ⟨⟨k+1,F.set i true,W++[(i:Int)],C++[a],O+1,by go_num,bB,b2.o,br.o,R.o,bn.o,bo.o,(show J (j++(C++[a])) w5 by rw [<-C2];exact bs.o)⟩,by simp [intOf];omega⟩
     ·have b3:=uA a8;clear a8 ae hy f0 f1 d1 dD c0;gi_wp2;rw [Exit.noGoto_normal];go_end0
      exact ⟨⟨_,rfl⟩,.inr ⟨C++[a],R.o.good,(by rw [<-C2];exact b3.o)⟩⟩
    ·have R:=uA (f.o.skip (show Fnd F (i:Int) by unfold Fnd;rw [A3];exact U));clear hx Q f U;gi_wp2;exact ⟨⟨k+1,F,W,C,O,by go_num,bB,K.o,d.o,R.o,HC.o,HM.o,P.o⟩,by simp [intOf];omega⟩
   ·have e:k=n:=bB;have au:¬(k:Int) < (n:Int):=bB;have f:=M;rw [Cs (by have:=K.o.1;omega)] at f;obtain ⟨A7,c7,rfl,cf,bt⟩:=wH d.o.own;have a5:W.length=O:=by have:=d.o.own.1;simpa using this
    have ay:O<=400000:=by
     have h2:=HM.o;have:=ad.o;omega
    unfold maxLen at bt;rcases Ca O with h0 | h0
    ·subst h0;have e0:W=[]:=Bu a5;subst e0;have HE:Hdd (∀ s∈S,∀ b,D[s.toNat]?=some b->∀ a,Way ps a b->a∈C):=fun s hs b hb a ha=>f.o.end_ HR.o.rel hs hb ha;have bu:=uA f.o.good;clear M f a5;gi_wp2;go_end0
     exact ⟨⟨_,rfl⟩,.inl ⟨C,bu.o,HE.o,P.o⟩⟩
    ·obtain ⟨m3,rfl⟩:∃ m3,O=m3+1:=⟨O - 1,bB⟩;obtain ⟨W3,x,rfl,b4⟩:=RB a5;obtain ⟨T,a3⟩:=f.o.wait x nF;obtain ⟨i,rfl⟩:=Cz a3;have bl:i < H:=by
      unfold Fnd at T;have h1:=(Ah.1 T).1;have h2:=f.o.len;rw [A3] at h1;omega
     have E:∃ z,L[i]?=some z:=⟨_,Ad (by have h1:=HR.o.above.len;rw [Ao] at h1;omega)⟩;obtain ⟨z,hz⟩:=E;have E:∃ y,D[i]?=some y:=⟨_,Ad bB⟩;obtain ⟨y,hy⟩:=E;have a0:(L.map qB.xs)[i]?=some z.xs:=by rw [Ar,hz];rfl
     have b5:G y:=f.o.good y ((f.o.come y).2 ⟨i,by unfold Fnd at T;rw [A3] at T;exact T,hy⟩);have R:=uA (f.o.pop (x:=(i:Int)) (xs:=z.xs) (by rw [A3];exact a0) (fun t ht=>HR.o.rel.rng i z.xs a0 t ht) (fun t ht a ha=>by
      obtain ⟨h0,h1⟩:=HR.o.rel.rng i z.xs a0 t ht;obtain ⟨q,rfl⟩:=Cz h0;rw [A3] at ha;exact HG.o a y ((HR.o.rel.ab i z.xs y a0 hy q a ha).1 ht) b5))
     obtain ⟨a1,an,bv⟩:=(HR.o.below d.o.low).rows z (Aj hz);have bw:=uA (RdX.of_rd a1 ak (by omega:base<=gF) (fun g hg=>by have:=(d.o.ox g hg).1;omega));obtain ⟨bL,oL,rfl,cg,dL⟩:=(HR.o.below d.o.low).above.cell (k:=i) (u:=tR z) (by rw [Ar,hz];rfl);have d2:=(HR.o.below d.o.low).d2;obtain ⟨g7,b6,b7,ch,c3⟩:=d.o.own.form bB;obtain ⟨rfl,rfl⟩:A7=some ⟨g7,0,none⟩/\c7=b6:=by injection b7 with h1 h2 h3;exact ⟨h1,h3⟩
     have dW:wr.cell? ⟨g7,m3,none⟩=some (.int .i64 (i:Int)):=by
      obtain ⟨b,o,e,_,h⟩:=(Rd.of_own d.o.own).int (k:=m3) (x:=(i:Int)) (by rw [B4 bB,b4,D3];rfl);injection e with e;injection e with e1 e2;subst e1 e2;rw [Ea] at h;exact h
     have e7:vC (W3++[(i:Int)])=vC W3++[.int .i64 (i:Int)]:=By;have h7:=d.o.own;rw [e7] at h7;have b8:=uA (LY h7);clear h7 e7;have aa:Hdd (SrW base n₀ X gF W0 wr F (.slice (some ⟨g7,0,none⟩) m3 c7) m3 W3):=⟨d.o.low,d.o.fnd,b8.o,d.o.ox⟩;have bm:(0:Int)<=(i:Int):=Ch _;have aw:(i:Int) < (H:Int):=bB;have ci:(0:Int)<=(m3:Int):=Ch _;have V:(m3:Int)<=(m3:Int)+1:=bB;obtain ⟨bx,zA,zn,zc⟩:=z;simp only [tR] at dL;clear M f a5 T hz hy a0 b5 a1 a3 d b8 b7 b4;gi_wp2;gi_quiet (fail)
     gi_wp2;have hq:=tyN (Below.refl wr.heap.size wr) nq;have c4:=aa.o.lt;have b9:=uA (aa.o.alloc bB hq bB);have ba:=uA (bw.o.low (hq.mono (by omega:gF<=wr.heap.size)) bB);have bz:=uA (HJ.o _ _ _ P.o (ItX.of_below hq bB));gi_roundg (2*qH F+m3)
     case rel=>exact ⟨zA,zn,zc,bx,F,W3,C,m3,rfl,bv,ba.o,b9.o,R.o,HC.o,Ae _,(show _<=_ by have:=HM.o;have:=ad.o;omega),bz.o⟩
     case measure=>have:=HM.o;omega
end
end Go.Proofs.YtnkjbjkoffgocaaGreatDoor
