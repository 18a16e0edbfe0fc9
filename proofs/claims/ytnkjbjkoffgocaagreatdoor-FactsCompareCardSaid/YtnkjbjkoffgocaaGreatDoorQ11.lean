import Derived.Test.YtnkjbjkoffgocaaGreatDoorQ10
import Derived.Lib.BufferWrite
set_option linter.unusedVariables false
set_option linter.unusedSimpArgs false
set_option maxRecDepth 100000
set_option maxHeartbeats 8000000
namespace Go.Proofs.YtnkjbjkoffgocaaGreatDoor
open Tryz Go.RowKit
section
open Go.Shelf
attribute [local go_sem] Oper.semAt_some
theorem uA8 (n:Nat) (A:Option Addr) (m c:Nat) (w:World) :
 CallsIn Fence.wide n prog 179 #[.slice A m c] w fun e a=>e=.returned (.func (.func 230) #[] #[.pointer (some ⟨w.heap.size,0,none⟩)])/\a=w.alloc (.cells #[.slice A m c] 61):=by
 refine callsIn_of_wp func179 rfl trivial ?_ rfl;simp only [ntmps179,Bc,As,Br,Nat.reduceAdd,Nat.reduceSub,Ay,Az,Be,Ba,Bj,Bg];gi_wp2;go_ret;exact ⟨rfl,rfl⟩
theorem SH (n:Nat) (d:1<=n) (l a:Nat) (A:Option Addr) (c:Nat) (W:World) (f:W.cell? ⟨a,0,none⟩=some (.slice A 0 c)) :
 CallsIn Fence.wide n prog 230 #[.func (.yield l) #[] #[],.pointer (some ⟨a,0,none⟩)] W fun e b=>(∃ v,e=.returned v)/\b=W:=by
 refine callsIn_of_wp func230 rfl trivial ?_ rfl;simp only [ntmps230,Bc,As,Br,Nat.reduceAdd,Nat.reduceSub,Ay,Az,Be,Ba,Bj,Bg];gi_wp2;gi_loopw [8] (fun i wr=>i=.int .i64 0/\wr=W) (fun _ _=>0)
 case atStart=>exact ⟨rfl,rfl⟩
 case round=>
  obtain ⟨rfl,rfl⟩:=hrel;gi_wp2;go_end0
  exact ⟨⟨_,rfl⟩,rfl⟩
theorem NZ {Pk:Nat->TypeId->Prop} (n:Nat) (d:1<=n) (a:Nat) (A:Option Addr) (c:Nat) (w:World) (f:w.cell? ⟨a,0,none⟩=some (.slice A 0 c)) (b:a < w.heap.size) :
 uDa n prog 230 #[.pointer (some ⟨a,0,none⟩)] (fun x:AcW=>#[tM x]) (fun _ _=>False) (fun g=>g=[]) (fun _=>False) Pk (fun _=>True) w:=fun l J m W i o j q k _=>
 (SH n d l a A c W ((i.cell (p:=⟨a,0,none⟩) b).trans f)).mono fun e r h=>⟨h.1,.inl ⟨[],rfl,h.2 ▸ k⟩⟩
theorem uBa (n:Nat) (a:uIs) (w:World) :
 CallsIn Fence.wide n prog 129 #[OI a] w fun e b=>e=.returned (.func (.func 178) #[] #[.pointer (some ⟨w.heap.size,0,none⟩)])/\b=w.alloc (.cells #[.slice a.args.A a.args.n a.args.c,.slice a.own.A a.own.n a.own.c,.bool a.asn,.int .i64 a.pl.l,.slice a.pl.A a.pl.n a.pl.c] 223):=by
 refine callsIn_of_wp func129 rfl trivial ?_ rfl;simp only [ntmps129,Bc,As,Br,Nat.reduceAdd,Nat.reduceSub,Ay,Az,Be,Ba,Bj,Bg];gi_wp2;go_ret;exact ⟨rfl,rfl⟩
theorem uBm {Pk:Nat->TypeId->Prop} (O:∀ k,Pk k 278) (n:Nat) (hn:4<=n) (l N:Nat) (z:Option Addr) (B:Nat) (A:Option Addr) (m c:Nat) (a:List AcW) (a4:Bool) (pl:PlW) (hm:m<=maxLen)
 (J Jx:List AcW->World->Prop) (W:World) (hJ:OwnFrom W.heap.size J) (a5:OwnFrom W.heap.size Jx)
 (hY:∀ d x W1,a[d.length]?=some x->J d W1->d.length < m->YieldAt Fence.wide (n - 1) prog l #[tM x] W1 fun e y=>
  ((e=.returned (.bool true)/\J (d++[x]) y/\wD Pk W1 y)\/(e=.returned (.bool false)/\Jx (d++[x]) y))/\JA W.heap.size W1 y)
 (C:W.heap[N]?=some (.cells #[.slice z 0 B,.slice A m c,.bool a4,.int .i64 pl.l,.slice pl.A pl.n pl.c] 223 (0,0)))
 (am:a.length=m) (ho:∀ (j:Nat) (q:AcW),a[j]?=some q->∃ b o,A=some ⟨b,o,none⟩/\b < W.heap.size/\(∀ t,Pk b t)/\∀ i u,(cAc q)[i]?=some u->W.cell? ⟨b,o+j*4+i,none⟩=some u) (a6:∀ t,Pk N t) (h0:J [] W) :
 CallsIn Fence.wide n prog 178 #[.func (.yield l) #[] #[],.pointer (some ⟨N,0,none⟩)] W fun e y=>(∃ v,e=.returned v)/\(J a y\/(∃ d,d <+: a/\d≠[]/\Jx d y)):=by
 have a7:=uA hY;have HO:=uA ho;have P:=uA hJ;have a8:=uA C;have a9:1<=n:=by omega
 have g:=uA (Ag.1 C).1;have x0:W.cell? ⟨N,0,none⟩=some (.slice z 0 B):=uE C 0;unfold maxLen at hm;have aa:=uA fun (w':World) (Bo:Nat) (hB:w'.cell? ⟨Bo,0,none⟩=some (.slice z 0 B)) (hl:Bo < w'.heap.size)=>NZ (Pk:=Pk) (n - 1) bB Bo z B w' hB hl
 have x1:=(uB W (.cells #[.func (.yield l) #[] #[]] 278)).cell (p:=⟨N,0,none⟩) g.o |>.trans x0
 clear hY ho hJ C;refine callsIn_of_wp_marks func178 rfl trivial ?_ rfl;simp only [ntmps178,Bc,As,Br,Nat.reduceAdd,Nat.reduceSub,Ay,Az,Be,Ba,Bj,Bg];gi_wp2_with (refine ⟨trivial,?_⟩;gi_at_call 179;refine (uA8 _ _ _ _ _).mono ?_;rintro e w2 ⟨rfl,rfl⟩)
 have ao:((W.alloc (.cells #[.func (.yield l) #[] #[]] 278)).alloc (.cells #[.slice z 0 B] 61)).heap.size=W.heap.size+2:=by simp
 have b1:=uB W (.cells #[.func (.yield l) #[] #[]] 278);have b2:=uB (W.alloc (.cells #[.func (.yield l) #[] #[]] 278)) (.cells #[.slice z 0 B] 61);have hF:=(Bx.new W [.func (.yield l) #[] #[]] 278).below b2;have hO:=(Bx.new (W.alloc (.cells #[.func (.yield l) #[] #[]] 278)) [.slice z 0 B] 61).q 0 rfl;rw [Ak] at hO;have Q:=uA (Aa b1 b2);have R:J [] ((W.alloc (.cells #[.func (.yield l) #[] #[]] 278)).alloc (.cells #[.slice z 0 B] 61)):=P.o.alloc _ (P.o.alloc _ h0);generalize (W.alloc (.cells #[.func (.yield l) #[] #[]] 278)).alloc (.cells #[.slice z 0 B] 61)=W2 at *;clear b1 b2 x0 x1;refine mS a9 (gf:=230) (lb:=#[.pointer (some ⟨W.heap.size+1,0,none⟩)]) rfl (enters_of func230 fL rfl)
  (aa.o W2 (W.heap.size+1) hO bB) (Below.refl _ _) (fun _=>rfl)
  (fun _ y=>J [] y/\wD Pk W2 y) (fun _ _ _=>False)
  (fun s X Y ab hs hg hr=>⟨P.o _ X Y ab hs.1 hg (fun r e=>⟨by have:=(hr r e).1;omega,(hr r e).2⟩),hs.2.trans (wD.recs hg (fun r e=>(hr r e).2))⟩)
  (fun _ _ _ _ _ hs _ _=>hs) ⟨R,wD.refl _ _⟩ (fun _ _ _=>True.intro) (fun _ _ _=>True) (fun _ _ _ _ _ _ _ _ _=>True.intro) ?assign ?body ?done ?stop
 case assign=>
  intro l' d x W3 K _ I;exact (show False from I).elim
 case body=>
  intro l' d x a' W3 _ _ I;exact (show False from I).elim
 case stop=>
  rintro D cd d W3 hD ac;exact ac.elim
 case done=>
  rintro D ys W3 hD ad ⟨f,L⟩ S;have x1:=L.old a6 (Q.o.cell (p:=⟨N,1,none⟩) g.o |>.trans (uE a8.o 1));have E:=uA L;have ae:=uA hF;clear hF hO R;gi_wp2;gi_loopw [17] (fun i wr=>∃ j:Nat,i=.int .i64 (j:Int)/\j<=m/\J (a.take j) wr/\Hdd (wD Pk W2 wr)/\wr.heap[D]?=some (.deferred (some []))) (fun i _=>m - (intOf i).toNat)
  case atStart=>exact ⟨0,rfl,Am _,by subst ad;exact f,E,S⟩
  case round=>
   clear f L E S x1;obtain ⟨j,rfl,hj,T,M,h⟩:=hrel;by_cases ap:j < m
   ·have an:(j:Int) < (m:Int):=bB;have aq:(0:Int)<=(j:Int):=bB;obtain ⟨q,hq⟩:∃ q,a[j]?=some q:=⟨_,Ad bB⟩;obtain ⟨b,o,hA,af,hb,hc⟩:=HO.o j q hq;subst hA;have U:∀ i u,(cAc q)[i]?=some u->wr.cell? ⟨b,o+j*4+i,none⟩=some u:=fun i u hu=>M.o.old hb ((Q.o.cell (p:=⟨b,o+j*4+i,none⟩) af).trans (hc i u hu))
    have z0:=U 0 _ rfl;have z1:=U 1 _ rfl;have z2:=U 2 _ rfl;have z3:=U 3 _ rfl;simp only [Dl] at z0;have F:=uB wr (.cells #[.int .i64 q.pl.l,.slice q.pl.A q.pl.n q.pl.c,.bool q.wr,.bool q.deep] 145);have ag:(wr.alloc (.cells #[.int .i64 q.pl.l,.slice q.pl.A q.pl.n q.pl.c,.bool q.wr,.bool q.deep] 145)).cell? ⟨W.heap.size,0,none⟩=some (.func (.yield l) #[] #[]):=(show Bx _ W.heap.size [.func (.yield l) #[] #[]] 278 from ((wD.below (Pk:=Pk) F).typ (O _) (M.o.typ (O _) ae.o))).q 0 rfl;have ah:=uA (M.o.trans (wD.below F));have V:(wr.alloc (.cells #[.int .i64 q.pl.l,.slice q.pl.A q.pl.n q.pl.c,.bool q.wr,.bool q.deep] 145)).heap[D]?=some (.deferred (some [])):=(F.block D (Ag.1 h).1).trans h;have Z:=uA V;have a0:a.take (j+1)=a.take j++[q]:=by rw [Bm,hq];rfl
    have a1:=uA a0;have a2:=a7.o (a.take j) q _ (by rw [B9,E5 bB];exact hq) (P.o.alloc (.cells #[.int .i64 q.pl.l,.slice q.pl.A q.pl.n q.pl.c,.bool q.wr,.bool q.deep] 145) T) (by rw [B9];omega);obtain ⟨ai,aj,ak⟩:=q;obtain ⟨ql,qA,qn,qc,qs⟩:=ai;simp only [] at a2 z0 z1 z2 z3 ag;clear hc U F hq h V a0;obtain ⟨fn,tmps,assign,body,hy,hR⟩:=a2;gi_wp2;refine hR.mono ?_;rintro e w3 ⟨⟨rfl,f,a3⟩ | ⟨rfl,f⟩,G⟩
    ·have H:=G D _ bB Z.o rfl;have w:=uA (a1.o ▸ f);have E:=uA (ah.o.trans a3);clear a3 G hy hR f;gi_wp2;exact ⟨⟨j+1,by go_num,bB,w.o,E,H⟩,by simp [intOf];omega⟩
    ·have H:=G D _ bB Z.o rfl;have w:=uA f;have al:Hdd (a.take j++[(⟨⟨ql,qA,qn,qc,qs⟩,aj,ak⟩:AcW)] <+: a):=a1.o ▸ List.take_prefix _ _;clear G hy hR f;gi_wp2;refine ⟨nF,.inl ⟨_,_,rfl,run_takeDeferred H,?_⟩⟩;refine ⟨_,results_none rfl _ _ _,⟨_,rfl⟩,.inr ⟨_,al.o,nF,a5.putObj _ w.o bB H rfl⟩⟩
   ·obtain rfl:j=m:=by omega
    have w:=uA (show J a wr by rw [<-Au (l:=a) (i:=j) bB];exact T);gi_wp2;refine ⟨nF,.inl ⟨_,_,rfl,run_takeDeferred h,?_⟩⟩;refine ⟨_,results_none rfl _ _ _,⟨_,rfl⟩,.inl (P.o.putObj _ w.o bB h rfl)⟩
theorem uEj:(prog.info? 145).map (fun i=>(i.zero,i.size,i.bytes))=some (some (.agg #[.int .i64 0,.slice none 0 0,.bool false,.bool false]),4,40):=by kernel_rfl
structure ZPl (x:PlW):Prop where
 n:x.n=0
 ps:x.ps=[]
 cm:x.c<=maxLen
 l:uH x.l
theorem ZPl.one {x:PlW} (h:ZPl x) (w:World) (B:Nat):uL w B x:=by
 obtain ⟨l,A,n,c,d⟩:=x;obtain ⟨a,b,e,f⟩:=h;have a:n=0:=a;have b:d=[]:=b;subst a b;exact ⟨Am _,e,f,⟨⟨rfl,fun h=>absurd h (Cg _)⟩,fun p g=>by cases g⟩⟩
def eI (L M:List AcW):Prop:=M.map (fun b=>(b.pl.l,b.wr,b.deep))=L.map (fun b=>(b.pl.l,b.wr,b.deep))/\∀ b∈M,ZPl b.pl
theorem eI.nil:eI [] []:=⟨rfl,fun _ h=>by cases h⟩
theorem eI.snoc {L M:List AcW} {a b:AcW} (h:eI L M) (d:b.pl.l=a.pl.l) (e:b.wr=a.wr) (f:b.deep=a.deep) (g:ZPl b.pl):eI (L++[a]) (M++[b]):=
 ⟨by simp [h.1,d,e,f],fun c i=>(Aq.1 i).elim (h.2 c) (fun h=>by obtain rfl:=An.1 h;exact g)⟩
theorem eI.len {L M:List AcW} (h:eI L M):M.length=L.length:=by simpa using congrArg List.length h.1
theorem rH {W j:World} {row:Option Nat} {base:Nat} {e:TypeId} {a n:Nat} {v:Value} {xs:List Value} (h:W.ownsRow base e a v n xs) (k:W.grownBy j row) (l:∀ r,row=some r->∃ o:Obj,W.heap[r]?=some o/\o.isCells=false):j.ownsRow base e a v n xs:=by
 obtain ⟨m,d⟩:=h;refine ⟨m,?_⟩;rcases d with d | ⟨g,f,i,p,q,b,h⟩
 ·exact .inl d
 ·refine .inr ⟨g,f,i,p,q,(k.block g (Ag.1 b).1 (fun e=>?_)).trans b,h⟩;obtain ⟨o,c,s⟩:=l g e.symm;rw [b] at c;injection c with c;subst c;cases s
theorem BZ {w:World} {base:Nat} {e:TypeId} {k n:Nat} {v:Value} {xs:List Value} (h:w.ownsRow base e k v n xs) {g:Nat} (a:v.ownBlock=some g):base<=g/\∃ b,w.heap[g]?=some (.cells b e):=by
 refine ⟨(h.lt g a).1,?_⟩;rcases h.2 with ⟨rfl,i⟩ | ⟨j,c,d,rfl,l,f,m,o,p⟩
 ·cases a
 ·injection a with a;subst a;exact ⟨_,f⟩
theorem Turn.keepQ {S:Nat->Prop} {Pk:Nat->TypeId->Prop} {W b:World} (h:Turn S W b) (e:∀ k,S k->∀ c t d,W.heap[k]?=some (.cells c t d)->¬Pk k t):wD Pk W b:=
 ⟨h.size,fun k c t d f a=>(h.block k (Ag.1 a).1 (fun g=>e k g _ _ _ a f)).trans a⟩
def EF (w:World) (a:List AcW) (e:Ending) (w':World):Prop:=∃ A n c M,e=.returned (.slice A n c)/\w'.ownsRow w.heap.size 145 4 (.slice A n c) n (M.flatMap cAc)/\eI a M/\Ab w w'
def PkA (n x:Nat) (k:Nat) (t:TypeId):Prop:=(k < n/\k≠x)\/t=278
theorem uDo {Pk:Nat->TypeId->Prop} (z:∀ k,Pk k 278) (n:Nat) (I:4<=n) (f:Nat) (F:Option Addr) (G:Nat) (A:Option Addr) (m c:Nat) (d:List AcW) (g:Bool) (r:PlW) (K:m<=maxLen) (w:World)
 (s:w.heap[f]?=some (.cells #[.slice F 0 G,.slice A m c,.bool g,.int .i64 r.l,.slice r.A r.n r.c] 223 (0,0))) (v:d.length=m)
 (L:∀ (j:Nat) (q:AcW),d[j]?=some q->∃ b o,A=some ⟨b,o,none⟩/\b < w.heap.size/\(∀ t,Pk b t)/\∀ i u,(cAc q)[i]?=some u->w.cell? ⟨b,o+j*4+i,none⟩=some u) (B:∀ t,Pk f t) :
 uDa n prog 178 #[.pointer (some ⟨f,0,none⟩)] (fun x:AcW=>#[tM x]) (fun a x=>d[a.length]?=some x) (fun M=>M=d) (fun a=>a≠[]) Pk (fun _=>True) w:=fun l J N W C O D P Q _=>
 (uBm z n I l f F G A m c d g r K J N W O D (fun a x R S E Z=>(P a x R E S).mono fun e T h=>⟨h.1,h.2.1⟩)
  ((C.block f (Ag.1 s).1).trans s) v
  (fun j q U=>by
   obtain ⟨b,o,H,y,V,X⟩:=L j q U;exact ⟨b,o,H,Ap y C.size,V,fun i u Y=>(C.cell (p:=⟨b,o+j*4+i,none⟩) y).trans (X i u Y)⟩)
  B Q).mono fun e T h=>⟨h.1,h.2.elim (fun h=>.inl ⟨d,rfl,h⟩) (fun ⟨a,H,y,h⟩=>.inr ⟨a,y,h⟩)⟩
def uIy (a:Nat) (n x:Nat) (w:World) (pre:List AcW) (W:World):Prop:=(n<=W.heap.size/\∃ A m c M,Bx W x [.slice A m c] 143/\W.ownsRow n 145 4 (.slice A m c) m (M.flatMap cAc)/\eI pre M)/\Below a w W
theorem RC (x:BdW) (p:Int) (w:World) (A0:Option Addr) (c0:Nat) (L0:List OpW) (d:List AcW) (l:Bool) (pl:PlW) (a8:∀ a∈d,ZPl a.pl) (ao:d.length<=100)
 (hP:∀ w',Ab w w'->Calls prog 128 #[vR x,.int .i64 p] w' (pE w' ⟨A0,0,c0,L0⟩ d l pl)) :
 Calls prog 78 #[vR x,.int .i64 p] w (EF w d):=by
 refine (callsIn_wide (n:=12)).1 ?_;obtain ⟨i0,hi,bd,be,bf⟩:=info_parts uEj;have ap:=uA a8;have bg:=uA ao;have HP:=uA hP;obtain ⟨nm,⟨rA,rn,rc,rL⟩,⟨oA,on,oc,oL⟩,⟨tA,tm,tc,tL⟩,⟨lA,ln,lc,lL⟩,ar,⟨bA,bn,bc,bL⟩⟩:=x;obtain ⟨ql,qA,qn,qc,qs⟩:=pl;have b1:=uB w (.cells #[.string nm,.slice rA rn rc,.slice oA on oc,.slice tA tm tc,.slice lA ln lc,.int .i64 ar,.slice bA bn bc] 28);have b2:=uB (w.alloc (.cells #[.string nm,.slice rA rn rc,.slice oA on oc,.slice tA tm tc,.slice lA ln lc,.int .i64 ar,.slice bA bn bc] 28)) (.cells #[.slice none 0 0] 143);have HB:=uA (Aa b1 b2);have hx:=(Bx.new w [.string nm,.slice rA rn rc,.slice oA on oc,.slice tA tm tc,.slice lA ln lc,.int .i64 ar,.slice bA bn bc] 28).below b2;have hr:=Bx.new (w.alloc (.cells #[.string nm,.slice rA rn rc,.slice oA on oc,.slice tA tm tc,.slice lA ln lc,.int .i64 ar,.slice bA bn bc] 28)) [.slice none 0 0] 143;rw [Ak] at hr;have HR:=uA hr;have ab:=uA (show ((w.alloc (.cells #[.string nm,.slice rA rn rc,.slice oA on oc,.slice tA tm tc,.slice lA ln lc,.int .i64 ar,.slice bA bn bc] 28)).alloc (.cells #[.slice none 0 0] 143)).heap.size=w.heap.size+2 by simp);have x0:=hx.q 0 rfl;have x1:=hx.q 1 rfl;have x2:=hx.q 2 rfl;have x3:=hx.q 3 rfl;have x4:=hx.q 4 rfl;have x5:=hx.q 5 rfl;have x6:=hx.q 6 rfl;clear hx hr b1 b2 hP a8 ao;refine callsIn_of_wp_marks func78 rfl trivial ?_ rfl;simp only [ntmps78,Bc,As,Br,Nat.reduceAdd,Nat.reduceSub,Ay,Az,Be,Ba,Bj,Bg];gi_wp2_with (refine ⟨trivial,?_⟩;gi_at_call 128;refine (callsIn_wide.2 (HP.o _ HB.o)).mono ?_;rintro e I ⟨O,n4,c4,rfl,aq,ac⟩)
 have au:=uA aq;have ad:=uA ac;have av:=uA (Aa HB.o ac);clear x0 x1 x2 x3 x4 x5 x6 aq ac;gi_wp2_with (refine ⟨trivial,?_⟩;gi_at_call 129;refine (uBa _ ⟨⟨A0,0,c0,L0⟩,⟨O,n4,c4,d⟩,l,⟨ql,qA,qn,qc,qs⟩⟩ _).mono ?_;rintro e w3 ⟨rfl,rfl⟩)
 have ae:SlH I I.heap.size 4 cAc (fun _=>True) ⟨O,n4,c4,d⟩:=yX iB eW au.o (fun _ _=>True.intro);have bh:=ae.nm;have b5:=uB I (.cells #[.slice A0 0 c0,.slice O n4 c4,.bool l,.int .i64 ql,.slice qA qn qc] 223);have bi:=uA ((HR.o.below ad.o).below b5);have P:=uA (Aa av.o b5);have bj:=heap_alloc_new I (.cells #[.slice A0 0 c0,.slice O n4 c4,.bool l,.int .i64 ql,.slice qA qn qc] 223);have a0:=ae.cells.below b5;have bk:w.heap.size+3<=(I.alloc (.cells #[.slice A0 0 c0,.slice O n4 c4,.bool l,.int .i64 ql,.slice qA qn qc] 223)).heap.size:=by have y:=ab.o;have v:=ad.o.size;rw [Ak];omega
 have R:w.heap.size+2<=I.heap.size/\I.heap.size < (I.alloc (.cells #[.slice A0 0 c0,.slice O n4 c4,.bool l,.int .i64 ql,.slice qA qn qc] 223)).heap.size:=by have y:=ab.o;have v:=ad.o.size;rw [Ak];omega
 generalize I.alloc (.cells #[.slice A0 0 c0,.slice O n4 c4,.bool l,.int .i64 ql,.slice qA qn qc] 223)=J at *;have a1:∀ (j:Nat) (q:AcW),d[j]?=some q->∃ b o,O=some ⟨b,o,none⟩/\b < J.heap.size/\(∀ t,PkA J.heap.size (w.heap.size+1) b t)/\∀ i u,(cAc q)[i]?=some u->J.cell? ⟨b,o+j*4+i,none⟩=some u:=fun j q hq=>by
  obtain ⟨b,o,hA,hb,hc⟩:=a0.at_ hq;have E:=(au.o.lt b (by rw [show O=some ⟨b,o,none⟩ from hA];rfl)).1;have N:=ab.o;exact ⟨b,o,hA,Gq hb R.2,fun t=>.inl ⟨Gq hb R.2,bB⟩,hc⟩
 refine mS bB (gf:=178) (lb:=#[.pointer (some ⟨I.heap.size,0,none⟩)]) rfl (enters_of func178 fL rfl)
  (uDo (Pk:=PkA J.heap.size (w.heap.size+1)) (fun _=>.inr rfl) _ bB I.heap.size A0 c0 O n4 c4 d l ⟨ql,qA,qn,qc,qs⟩ bh J bj ae.cells.1 a1 (fun t=>.inl ⟨R.2,bB⟩)) (Below.refl _ _) (fun _=>rfl)
  (uIy w.heap.size J.heap.size (w.heap.size+1) w) (fun _ _ _=>False)
  (Dg (Ed (fun s X Y bl hs hg hr=>⟨Ai hs.1 hg.size,by
   obtain ⟨A,m,c,M,y,v,E⟩:=hs.2;exact ⟨A,m,c,M,y.owns hg hr,rH v hg hr,E⟩⟩) _) (ownFrom_below (Ae _) P.o.size))
  (fun _ _ _ _ _ hs _ _=>hs) ⟨⟨Ae _,none,0,0,[],bi.o,Bv _ _ _ _,eI.nil⟩,P.o⟩ (fun _ _ _=>True.intro)
  (fun x a' W=>∃ g,J.heap.size<=g/\Bx W g (cAc x) 145/\(∃ A m c,Bx W (w.heap.size+1) [.slice A m c] 143/\(Value.slice A m c).ownBlock≠some g)/\a'={ tmps:=#[vR ⟨nm,⟨rA,rn,rc,rL⟩,⟨oA,on,oc,oL⟩,⟨tA,tm,tc,tL⟩,⟨lA,ln,lc,lL⟩,ar,⟨bA,bn,bc,bL⟩⟩,.int .i64 p,.pointer (some ⟨w.heap.size,0,none⟩),undef,.slice none 0 0,.pointer (some ⟨w.heap.size+1,0,none⟩),.pointer (some ⟨g,0,none⟩),.agg #[.string nm,.slice rA rn rc,.slice oA on oc,.slice tA tm tc,.slice lA ln lc,.int .i64 ar,.slice bA bn bc],.int .i64 p,OI ⟨⟨A0,0,c0,L0⟩,⟨O,n4,c4,d⟩,l,⟨ql,qA,qn,qc,qs⟩⟩,.func (.func 178) #[] #[.pointer (some ⟨I.heap.size,0,none⟩)],tM x,undef,undef,undef,undef,undef,undef,undef,undef,undef,undef,undef],defers:=[] })
  (fun x a' _ X Y bl hs hg hr=>by
   obtain ⟨g,y,v,⟨A,m,c,N,V⟩,E⟩:=hs;exact ⟨g,y,v.owns hg (fun r e=>(hr r e).2),⟨A,m,c,N.owns hg (fun r e=>(hr r e).2),V⟩,E⟩)
  ?assign ?body ?done ?stop
 case assign=>
  rintro l' a2 x F K hI S hK;have HK:=uA hK;have HI:=uA hI;have hb:=uB F (.cells (cAc x).toArray 145);have G:=uA hb;have T:=uA (Bx.new F (cAc x) 145);obtain ⟨⟨xl,xA,xn,xc,aw⟩,xw,xd⟩:=x;clear hK hI S hb a0 a1;dsimp only;gi_wp2;obtain ⟨⟨y,A,m,c,M,v,E,N⟩,V⟩:=HI.o;exact HK.o _ _ ((KeepsOthers.alloc _ _).from _) (wD.below G.o) ⟨⟨Nat.le_trans y G.o.size,A,m,c,M,v.below G.o,uC E G.o,N⟩,(Aa V G.o)⟩ ⟨F.heap.size,y,T.o,⟨A,m,c,v.below G.o,fun e=>Nat.lt_irrefl _ (E.lt _ e).2⟩,rfl⟩
 case body=>
  rintro l' a2 x a' F ⟨⟨y,A,m,c,M,v,E,N⟩,V⟩ ⟨g,c2,bX,⟨A',m',c',a9,aa⟩,rfl⟩ S;have he:Value.slice A m c=.slice A' m' c':=B8 ((v.q 0 rfl).symm.trans (a9.q 0 rfl));have bm:Hdd ((Value.slice A m c).ownBlock≠some g):=he ▸ aa;clear he aa a9;obtain ⟨⟨xl,xA,xn,xc,aw⟩,xw,xd⟩:=x;have hz:=ap.o _ (Aj S);obtain rfl:xn=0:=hz.n;obtain rfl:aw=[]:=hz.ps;have HZ:=uA hz;have HC:=uA (CB ⟨xA,0,xc,[]⟩ F (hz.one F F.heap.size).sl (Am _));have bo:a2.length < d.length:=(Ah.1 S).1;have c3:Hdd (M.length=a2.length):=N.len;have c6:M.length=m:=vH iB eW E;have c7:m<=100:=by have h6:=N.len;have h7:=bg.o;omega
  have ax:=uA y;have a3:=uA bk;have ay:=uA v;have af:=uA E;have ag:=uA N;have a4:=uA V;have T:Hdd (Bx F g [.int .i64 xl,.slice xA 0 xc,.bool xw,.bool xd] 145):=bX;have d1:=T.o.q 1 rfl;clear y v E N V a0 a1 bX hz S bo;gi_wp2_with fail
  refine ⟨trivial,(CallsIn.inRound l' (callsIn_wide.2 HC.o)).mono ?_⟩;rintro e Z ⟨⟨z,n5,B,L5⟩,rfl,ah,ai,H⟩;clear HC d1;have ah:L5=[]:=ah;subst ah;have bp:0=n5:=vH (f:=pV) (L:=[]) (fun _=>rfl) eW ai;subst bp;have bq:=uA (yX (s:=⟨z,0,B,[]⟩) (Q:=xH) (f:=pV) (fun _=>rfl) eW ai (fun _ h=>by cases h));have a5:=T.o.below H;have f1:=a5.frozen 1;have e1:=a5.q 1 rfl;have U:=a5.set 1 (.slice z 0 B);have g0:=U.q 0 rfl;have g1:=U.q 1 rfl;have g2:=U.q 2 rfl;have g3:=U.q 3 rfl;have az:g≠w.heap.size+1:=by
   have h7:=a3.o;omega
  have aj:Bx (Z.setCell ⟨g,1,none⟩ (.slice z 0 B)) (w.heap.size+1) [.slice A m c] 143:=(ay.o.below H).other (a:=⟨g,1,none⟩) az _;have r0:=aj.q 0 rfl;have br:=uA aj;have b0:=uA H;have b3:(Z.setCell ⟨g,1,none⟩ (.slice z 0 B)).heap.size=Z.heap.size:=Db ..;have b4:(Z.setCell ⟨g,1,none⟩ (.slice z 0 B)).ownsRow J.heap.size 145 4 (.slice A m c) m (M.flatMap cAc):=(uC af.o H).kept (Go.Lib.grownBy_setCell Z g 1 _) (.inr bm.o);have b6:=((Turn.of_below H:Turn (fun q=>q=w.heap.size+1\/q=g\/(Value.slice A m c).ownBlock=some q) F Z)).setCell (a:=⟨g,1,none⟩) (.inl (.inr (.inl rfl))) (.slice z 0 B);have bs:=uA b6;have bt:=uA b4;have b7:=uB (Z.setCell ⟨g,1,none⟩ (.slice z 0 B)) (.cells #[.int .i64 xl,.slice z 0 B,.bool xw,.bool xd] 145);have b8:=uA b7;have ak:=uC bt.o b7;have al:=Bd (heap_alloc_new (Z.setCell ⟨g,1,none⟩ (.slice z 0 B)) (.cells #[.int .i64 xl,.slice z 0 B,.bool xw,.bool xd] 145));rw [b3] at al;have b9:J.heap.size<=((Z.setCell ⟨g,1,none⟩ (.slice z 0 B)).alloc (.cells #[.int .i64 xl,.slice z 0 B,.bool xw,.bool xd] 145)).heap.size:=by
   have h7:=ax.o;have h8:=b0.o.size;rw [Ak,b3];omega
  clear ai H a5 U aj az b4 b6;gi_wp2_with (gi_at_builtin;first | (refine wpListIn_append_own_at _ rfl _ _ 143 rfl J.heap.size 145 i0 (.agg #[.int .i64 0,.slice none 0 0,.bool false,.bool false]) 4 40 underlying143 hi bd be bf rfl eW _ m (M.flatMap cAc) rfl ak ⟨Z.heap.size,0,none⟩ 1 1 [.int .i64 xl,.slice z 0 B,.bool xw,.bool xd] rfl rfl al (FP ⟨⟨xl,z,0,B,[]⟩,xw,xd⟩) (by unfold maxLen;omega) bB b9 ?_;intro v8 w8 C am _ ba;obtain ⟨A8,c8,rfl⟩:=wU C;have bb:=uA C;have bu:Hdd (World.grownBy _ w8 (Value.slice A m c).ownBlock):=am;clear ba;have a6:Bx w8 (w.heap.size+1) [.slice A m c] 143:=(am.block (w.heap.size+1) (by have h7:=a3.o;omega) (fun e=>by have h7:=(ak.lt _ e.symm).1;have h8:=a3.o;omega)).trans (br.o.below b8.o);have r8:=a6.q 0 rfl;have f8:=a6.frozen 0) | (trace_state;exact test))
  have bv:=uA (a6.set 0 (.slice A8 (m+1) c8));have a7:=uA (((bs.o.trans (Turn.of_below b8.o)).grown bu.o (fun k e=>.inl (.inr (.inr e)))).setCell (a:=⟨w.heap.size+1,0,none⟩) (.inl (.inl rfl)) (.slice A8 (m+1) c8));have bw:=uA (ownsRow_setCell_below bb.o (a:=⟨w.heap.size+1,0,none⟩) (by have h7:=a3.o;show w.heap.size+1 < J.heap.size;omega) (.slice A8 (m+1) c8));clear a6 C am ak al b9 b7;gi_wp2;have hS:∀ k,(k=w.heap.size+1\/k=g\/(Value.slice A m c).ownBlock=some k)->∃ cs t,F.heap[k]?=some (.cells cs t)/\¬PkA J.heap.size (w.heap.size+1) k t:=fun k hk=>by
   rcases hk with rfl | rfl | hk
   ·exact ⟨_,_,ay.o,fun h=>h.elim (fun h=>h.2 rfl) eW⟩
   ·exact ⟨_,_,T.o,fun h=>h.elim (fun h=>by omega) eW⟩
   ·obtain ⟨y,cs,v⟩:=BZ af.o hk;exact ⟨_,_,v,fun h=>h.elim (fun h=>by omega) eW⟩
  refine ⟨a7.o.keepsFrom (fun k hk=>(by obtain ⟨cs,t,h,_⟩:=hS k hk;exact ⟨cs,t,_,h⟩)) _,a7.o.keepQ (fun k hk cs t fr h=>by
   obtain ⟨c9,t',h',hn⟩:=hS k hk;rw [h'] at h;injection h with h;injection h with _ h _;exact h ▸ hn),⟨⟨Ai ax.o a7.o.size,A8,m+1,c8,M++[⟨⟨xl,z,0,B,[]⟩,xw,xd⟩],bv.o,?_,ag.o.snoc rfl rfl rfl ⟨rfl,rfl,bq.o.cm,HZ.o.l⟩⟩,?_⟩⟩
  ·rw [Bk];exact bw.o
  ·exact a4.o.trans (a7.o.below a4.o.size (fun q hq=>by
    rcases hq with rfl | rfl | hq
    ·omega
    ·have:=P.o.size;omega
    ·have y:=(BZ af.o hq).1;have:=P.o.size;omega))
 case done=>
  rintro D ys F hD bx ⟨⟨y,A,m,c,M,v,E,N⟩,V⟩ an;subst bx;have bz:Hdd (F.ownsRow w.heap.size 145 4 (.slice A m c) m (M.flatMap cAc)):=uI E bB;have ag:=uA N;have a4:=uA V;have x0:=v.q 0 rfl;have c1:w.heap.size<=D:=Ai P.o.size hD;clear y v E N V a0 a1;gi_wp2;refine ⟨nF,.inl ⟨_,_,rfl,run_takeDeferred an,?_⟩⟩;exact ⟨_,results_tmp rfl _ _ _,A,m,c,M,rfl,rH bz.o (grownBy_putObj' _ _ _) (fun r e=>by injection e with e;subst e;exact ⟨_,an,rfl⟩),ag.o,a4.o.trans (belowK_b (w:=w) (Ae _) F D _ _ c1 an rfl rfl)⟩
 case stop=>
  rintro D cd a2 F hD ca h;exact h.elim
end
abbrev pG (a:Bool) (g:Nat):BdW:=⟨.empty,⟨none,0,0,[]⟩,⟨none,0,0,[]⟩,⟨none,0,0,[]⟩,⟨none,0,0,[]⟩,0,⟨some ⟨g+1+1+1+1,0,none⟩,1,1,[tD a g]⟩⟩
theorem JK {a:Bool} {g:Nat} {w:World} {B:Nat} (h:uS w B (nC a g)):uS w B (pG a g):=⟨Am _,kH _ _ _ _ _,kH _ _ _ _ _,kH _ _ _ _ _,kH _ _ _ _ _,nJ,h.blocks⟩
theorem DG (a:Bool) (g:Nat):(pG a g).v.blocks=pQ a:=rfl
abbrev QG (a:Bool):List AcW:=[⟨⟨0,none,0,0,[]⟩,a,true⟩,⟨⟨1,none,0,0,[]⟩,true,false⟩]
theorem uAc (a:Bool) {g:Nat} (w:World) (c:uS w w.heap.size (pG a g)):Calls prog 128 #[vR (pG a g),.int .i64 0] w (pE w ⟨none,0,0,[]⟩ (QG a) true ⟨1,none,0,0,[]⟩):=by
 refine kN (pG a g) 0 w c ?_ nJ (i:=0) (k:=0) ?_ (pb:=tD a g) rfl _ _ _ _ ?_ ?_
 ·rw [DG,oO];decide
 ·rw [DG];cases a <;> decide
 ·intro s b d;injection b with b;subst b;exact NF (TA a) d rfl rfl
 ·intro h;cases h
theorem YB (a:Bool) {g:Nat} (w:World) (c:uS w w.heap.size (pG a g)):Calls prog 128 #[vR (pG a g),.int .i64 1] w (pE w ⟨none,0,0,[]⟩ [] false ⟨0,none,0,0,[]⟩):=by
 refine kN (pG a g) 1 w c ?_ (mE eW) (i:=0) (k:=1) ?_ (pb:=tD a g) rfl _ _ _ _ ?_ ?_
 ·rw [DG,oO];decide
 ·rw [DG];cases a <;> decide
 ·intro s d b;cases d
 ·intro _ b;exact NS _ b rfl
theorem uIe (l:Int) (h:uH l):ZPl ⟨l,none,0,0,[]⟩:=⟨rfl,rfl,Am _,h⟩
theorem uBr (c:Bool) {g:Nat} (w:World) (d:uS w w.heap.size (pG c g)):Calls prog 78 #[vR (pG c g),.int .i64 0] w (EF w (QG c)):=
 RC (pG c g) 0 w none 0 [] (QG c) true ⟨1,none,0,0,[]⟩ (fun a ha=>by
  rcases Av.1 ha with rfl | ha
  ·exact uIe _ nJ
  ·obtain rfl:=An.1 ha;exact uIe _ (mE eW)) nF fun e b=>uAc c e (d.up b)
theorem uDt (c:Bool) {g:Nat} (w:World) (d:uS w w.heap.size (pG c g)):Calls prog 78 #[vR (pG c g),.int .i64 1] w (EF w []):=
 RC (pG c g) 1 w none 0 [] [] false ⟨0,none,0,0,[]⟩ (fun a e=>by cases e) nF fun f b=>YB c f (d.up b)
def uIz (f:Bool) (w:World) (e:Ending) (w':World):Prop:=∃ b c g a h d,e=.returned (.slice (some ⟨b,0,none⟩) 2 c)/\w.heap.size<=b/\b < w'.heap.size/\a<=maxLen/\d<=maxLen/\Ab w w' /\
 ∀ i u,[Value.int .i64 0,.slice g 0 a,.bool f,.bool true,.int .i64 1,.slice h 0 d,.bool true,.bool false][i]?=some u->w'.cell? ⟨b,i,none⟩=some u
theorem uC1 {s:Bool} {w w':World} {e:Ending} (h:EF w (QG s) e w'):uIz s w e w':=by
 obtain ⟨A,n,c,M,rfl,j,t,C⟩:=h;have D:=t.len;obtain ⟨v,x⟩:=t
 match M,D with
 | [⟨⟨R,E,F,G,S⟩,T,U⟩,⟨⟨V,H,I,J,W⟩,X,Y⟩],_=>
   simp only [C6,D2,E7,Eh,and_true] at v;obtain ⟨⟨rfl,rfl,rfl⟩,rfl,rfl,rfl⟩:=v;have y:=x _ (F2 ..);have z:=x _ (Cj _ (F2 ..));have m:F=0:=y.n;have p:I=0:=z.n;subst m p;have K:2=n:=vH iB eW j;subst K;have B:=uM.of_own (f:=cAc) iB eW j;obtain ⟨b,o,L,q,k⟩:=B.at_ (i:=0) rfl;obtain ⟨Z,o',d,_,l⟩:=B.at_ (i:=1) rfl;subst L;injection d with d;injection d with N O;subst N O;have r:o=0:=by
    rcases j.2 with ⟨h,_⟩ | ⟨g,P,Q,h,_⟩
    ·cases h
    ·injection h with h;injection h with h;injection h
   subst r;refine ⟨b,c,E,G,H,J,rfl,(j.lt b rfl).1,q,y.cm,z.cm,C,fun i u a=>?_⟩
   match i,a with
   | 0,a=>exact k 0 u a
   | 1,a=>exact k 1 u a
   | 2,a=>exact k 2 u a
   | 3,a=>exact k 3 u a
   | 4,a=>exact l 0 u a
   | 5,a=>exact l 1 u a
   | 6,a=>exact l 2 u a
   | 7,a=>exact l 3 u a
end Go.Proofs.YtnkjbjkoffgocaaGreatDoor
