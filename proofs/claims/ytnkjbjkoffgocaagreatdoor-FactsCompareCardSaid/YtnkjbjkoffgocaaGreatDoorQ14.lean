import Derived.Test.YtnkjbjkoffgocaaGreatDoorQ13
import Derived.Deep.RegionLaw
set_option linter.unusedVariables false
set_option linter.unusedSimpArgs false
set_option maxRecDepth 100000
set_option maxHeartbeats 4000000
namespace Go.Proofs.YtnkjbjkoffgocaaGreatDoor
open Tryz Go.RowKit
section
open Go.Shelf
attribute [local go_sem] Oper.semAt_some
theorem uHj:(prog.info? 123).map (fun i=>(i.zero,i.size,i.bytes))=some (some (.agg #[.int .i64 0,.bool false,.int .i64 0,.int .i64 0,.slice none 0 0]),5,56):=by kernel_rfl
theorem uAp {W c:World} {row:Option Nat} {base k n:Nat} {e:TypeId} {v:Value} {xs:List Value} (h:W.ownsRow base e k v n xs) (d:W.grownBy c row) (f:∀ r,row=some r->∃ o:Obj,W.heap[r]?=some o/\o.isCells=false):c.ownsRow base e k v n xs:=by
 refine h.kept d ?_;rcases h.2 with ⟨rfl,_⟩ | ⟨g,i,j,rfl,_,b,_⟩
 ·exact .inl rfl
 ·refine .inr fun l=>?_
  obtain ⟨o,a,m⟩:=f g (by rw [<-l];rfl);rw [b] at a;injection a with a;subst a;cases m
theorem sW {W b:World} {B base k n:Nat} {t e:TypeId} {u v:Value} {xs:List Value} (h:Boxed W B t u) (c:W.grownBy b v.ownBlock) (a:W.ownsRow base e k v n xs) (d:t≠e):Boxed b B t u:=
 h.kept c (h.not_row d a)
theorem iL {B:Nat} {W a:World} (b:Ab W a):KeepsFrom B W a:=⟨b.size,fun k o _ c _=>(b.block k (Ag.1 c).1).trans c⟩
theorem tP {B:Nat} {W d:World} {base k n:Nat} {e:TypeId} {v:Value} {xs:List Value} (f:W.grownBy d v.ownBlock) (b:W.ownsRow base e k v n xs):KeepsFrom B W d:=⟨f.size,fun q o _ c i=>(f.block q (Ag.1 c).1 (fun h=>by
 rcases b.2 with ⟨rfl,_⟩ | ⟨g,j,l,rfl,_,a,_⟩
 ·cases h
 ·have:q=g:=by simpa [Value.ownBlock] using h
  subst this;rw [c] at a;injection a with a;subst a;cases i)).trans c⟩
theorem RO (w:World) (cs:List Value) (t:TypeId):∀ j u,cs[j]?=some u->(w.alloc (.cells cs.toArray t)).cell? ((⟨w.heap.size,0,none⟩:Addr).add j)=some u:=
 Bd (heap_alloc_new w _)
def FF (R base:Nat) (S:List TyW) (W:World):Prop:=∃ v m,Boxed W R 24 v/\W.ownsRow base 123 5 v m (S.flatMap c5)/\m=S.length
theorem FF.own {R base:Nat} {S:List TyW} {W a:World} {row:Option Nat} (h:FF R base S W) (b:W.grownBy a row) (c:∀ r,row=some r->∃ o:Obj,W.heap[r]?=some o/\o.isCells=false):FF R base S a:=by
 obtain ⟨v,m,d,e,f⟩:=h;exact ⟨v,m,oH d b c,uAp e b c,f⟩
theorem FF.below {R base:Nat} {S:List TyW} {W a:World} (h:FF R base S W) (b:Ab W a):FF R base S a:=by
 obtain ⟨v,m,c,d,e⟩:=h;exact ⟨v,m,yS c b,uC d b,e⟩
def uCe (w:World) (R:List TyW) (e:Ending) (w':World):Prop:=∃ v m,e=.returned (.tuple #[v,.bool true])/\w'.ownsRow w.heap.size 123 5 v m (R.flatMap c5)/\m=R.length/\Ab w w'
def xT (L:List TyW) (T:List Ty) (t:Int) (ps:List Pr) (pre:List (StX T t ps)):List TyW:=pre.filterMap fun y=>aR L T t ps y.1
theorem BK {L:List TyW} {T:List Ty} {t:Int} {ps:List Pr} {pre:List (StX T t ps)} {y:StX T t ps} (h:∀ p,ps[y.1]?=some p->p.1≠0):xT L T t ps (pre++[y])=xT L T t ps pre:=by
 unfold xT;rw [Dh];have:aR L T t ps y.1=none:=by
  unfold aR;cases hp:ps[y.1]? with
  | none=>rfl
  | some p=>simp [h p hp]
 simp [this]
theorem OW {L:List TyW} {T:List Ty} {t:Int} {ps:List Pr} {pre:List (StX T t ps)} {y:StX T t ps} {p:Pr} {x:TyW} (a:ps[y.1]?=some p) (b:p.1=0) {i:Nat} (c:tyA T t ps y.1=(i:Int)) (d:L[i]?=some x):xT L T t ps (pre++[y])=xT L T t ps pre++[x]:=by
 unfold xT;rw [Dh];have:aR L T t ps y.1=some x:=by
  unfold aR;rw [a];simp only [b,if_true];rw [c,A3,d]
 simp [this]
theorem NJ {L:List TyW} {T:List Ty} {t:Int} {ps:List Pr} (pre:List (StX T t ps)):(xT L T t ps pre).length<=pre.length:=Dj _ _
theorem NU {L:List TyW} {T:List Ty} {t:Int} {ps:List Pr} {ys:List (StX T t ps)} (h:ys.map (·.1)=List.range (ps.length+1)):xT L T t ps ys=mC L T t ps ps.length:=by
 have e:xT L T t ps ys=(ys.map (·.1)).filterMap (aR L T t ps):=by
  unfold xT;rw [List.filterMap_map];rfl
 rw [e,h];exact XM (n:=ps.length) fun p a=>by rw [Bh (Ae _)] at a;cases a
theorem ZN {P:Prop} (h:P:=by
 refine hK.out _ _ (HS.o _ hb4.o) (fun hHeld=>?_);clear hK K;refine wpAnyH_ready (rs:=[5]) fL nF ?_;refine AllReadyH.cons rfl (fun K hK=>?_) AllReadyH.nil;refine step_append_lies _ (by rfl) (.tmp 46) (.tmp 50) 24 (by rfl) (w1.heap.size+4) 123 i0 (.agg #[.int .i64 0,.bool false,.int .i64 0,.int .i64 0,.slice none 0 0]) 5 56 underlying24 hi hz0 hz1 hz2 rfl eW v m ((xT L (tys L) lc.ty ps pre).flatMap c5) (by rfl) (uC HRow.o hb4.o) ⟨w3.heap.size,0,none⟩ 1 1 (c5 ⟨⟨k0,mu,r0,el,fs⟩,Af,nf,cf⟩) (by rfl) rfl (RO w3 [.int .i64 k0,.bool mu,.int .i64 r0,.int .i64 el,.slice Af nf cf] 123) (uHq _) eW (by unfold maxLen;omega) bB (by have:=hb4.o.size;omega) _ rfl ?_;intro g5 cap5 w5 hown5 hg5 hat5 hlt5;have cB5:=sW (yS HB1X.o hb4.o) hg5 (uC HRow.o hb4.o) eW;have cA5:=cB5.cell;have fA5:=cB5.frozen;have S5:=(sW (yS HBTW.o hb4.o) hg5 (uC HRow.o hb4.o) eW).cell;refine hK.out _ _ S5 (fun hHeld=>?_);clear hK K;refine wpAnyH_ready (rs:=[6]) fL nF ?_;refine AllReadyH.cons rfl (fun K hK=>?_) AllReadyH.nil;go_simp;refine hK.out _ _ ((B3 _ _ _ _ (by simp <;> omega)).trans S5) (fun hHeld=>?_);clear hK K;refine wpAnyH_done fL ?_ _;have hk1:vJ w1.heap.size jC w1.heap.size W _:=(vJ.of_below hb4.o bB).trans ((vJ.of_t (vQ.row hg5 (uC HRow.o hb4.o) bB (by have:=hb4.o.size;omega) eW)).trans (vJ.boxX cB5 (Ae _) (.slice (some ⟨g5,0,none⟩) (m+1) cap5)));have hk2:KeepsFrom W0.heap.size W _:=(iL hb4.o).trans ((tP hg5 (uC HRow.o hb4.o)).trans ((Bz w5 ⟨w1.heap.size,0,none⟩ (.slice (some ⟨g5,0,none⟩) (m+1) cap5)).from _));refine ⟨hk2,hk1,⟨?_,_,m+1,cB5.set _,?_,?_⟩,HBB.o.trans hk1.low⟩
 ·rw [jM];have:=hb4.o.size;have:=hg5.size;omega
 ·rw [HN.o,Bk,Ct,List.flatMap_nil,B5];exact ownsRow_setCell_below hown5 (a:=⟨w1.heap.size,0,none⟩) (by show w1.heap.size < _;omega) _
 ·rw [HN.o,Aw,Cv,HM.o]):P:=h
theorem uA3 {P:Prop} (h:P:=by
 refine hK.out _ _ S3 (fun hHeld=>?_);clear hK K;refine wpAnyH_ready (rs:=[4]) fL nF ?_;refine AllReadyH.cons rfl (fun K hK=>?_) AllReadyH.nil;go_simp;have hb4:=uA (hb3'.alloc hb3'.size (.cells #[.int .i64 k0,.bool mu,.int .i64 r0,.int .i64 el,.slice Af nf cf] 123));exact ZN):P:=h
theorem tB {d B:Option Addr} {nt ct C cl:Nat} {L:List TyW} {LL:List LcW} {x:PlW} {r:Int} {w:World} (h:Pl8 w d B nt C L LL x r) {k:Nat} {lc:LcW} (hk:x.l=(k:Int)) (T:LL[k]?=some lc) (j:vS x.l x.ps=0) (he:(goL (tys L) lc.ty x.ps).2=0) :
 CallsIn Fence.wide 9 prog 272 #[.slice d nt ct,.slice B C cl,uV x] w (uCe w (mC L (tys L) lc.ty x.ps x.ps.length)):=by
 have U:=((Below.refl w.heap.size w).alloc (Ae _) (.cells #[.slice d nt ct] 24)).alloc nF (.cells #[.int .i64 x.l,.slice x.A x.n x.c] 48);have a3:=uA U;have HW:=uA (h.way hk T);obtain ⟨V,a4⟩:∃ V,(goL (tys L) lc.ty x.ps).1=V:=⟨_,rfl⟩;have a5:zO (tys L) (lcs LL) x.l x.ps=(V,0):=by rw [tT j hk (DH T),<- a4,<- he]
 have HC:=uA (iT (ct:=ct) (cl:=cl) (h.up U) a5);have H:=uA fun Z (hb:Ab w Z)=>h.up hb
 have a6:x.ps.length=x.n:=h.one.prs.len;have ag:=h.one.nc;have a7:=h.one.cm;have a8:=(oF.1 j).2.1;have a9:=heap_alloc_new w (.cells #[.slice d nt ct] 24);have ah:=uA (heap_alloc_new (w.alloc (.cells #[.slice d nt ct] 24)) (.cells #[.int .i64 x.l,.slice x.A x.n x.c] 48));have ai:=uA ((((Below.refl (w.alloc (.cells #[.slice d nt ct] 24)).heap.size _).alloc (Ae _) (.cells #[.int .i64 x.l,.slice x.A x.n x.c] 48)).block w.heap.size nF).trans a9);have F:x.l=(k:Int):=hk;have HE:=uA he;obtain ⟨l,A,n,c,ps⟩:=x;simp only [] at hk a6 ag a7 a8;subst hk;unfold maxLen at a7;clear h U T j a9 F a5 a4 he;refine callsIn_of_wp_marks func272 rfl trivial ?_ rfl;simp only [ntmps272,Bc,As,Br,Nat.reduceAdd,Nat.reduceSub,Ay,Az,Be,Ba,Bj,Bg];gi_wp2;refine ⟨trivial,?_⟩;refine (callsIn_wide.2 HC.o).mono ?_;rintro e w1 ⟨rfl,G⟩;have az:w.heap.size+2<=w1.heap.size:=by have:=G.size;simpa using this
 have z:=uA (Aa a3.o G);have f:w1.heap[w.heap.size+1]?=some (.cells #[.int .i64 (k:Int),.slice A n c] 48 (0,0)):=(G.block (w.heap.size+1) nF).trans (by simpa using ah.o);have q:w1.heap[w.heap.size]?=some (.cells #[.slice d nt ct] 24 (0,0)):=(G.block w.heap.size (by simp;omega)).trans ai.o;have O:=(Below.refl w1.heap.size w1).alloc (Ae _) (.cells #[.slice none 0 0] 24);have aa:=uA f;have ab:=uA q;have z0:=uE f 0;have z1:=uE f 1;have z2:=uE q 0;have y0:=uE ((O.block (w.heap.size+1) bB).trans f) 0;have y1:=uE ((O.block (w.heap.size+1) bB).trans f) 1;have y2:=uE ((O.block w.heap.size bB).trans q) 0;clear G O f q;gi_wp2;refine ⟨trivial,?_⟩;refine (JE _ d B nt ct C cl ⟨(k:Int),A,n,c,ps⟩ _).mono ?_;rintro e w2 ⟨rfl,rfl⟩;gi_wp2;have bR:=(((Du w1 24 (.slice none 0 0)).alloc (.cells #[.slice d nt ct] 24)).alloc (.cells #[.slice B C cl] 25)).alloc (.cells #[.int .i64 (k:Int),.slice A n c] 48);have bA:=((Du (w1.alloc (.cells #[.slice none 0 0] 24)) 24 (.slice d nt ct)).alloc (.cells #[.slice B C cl] 25)).alloc (.cells #[.int .i64 (k:Int),.slice A n c] 48);have bL:=(Du ((w1.alloc (.cells #[.slice none 0 0] 24)).alloc (.cells #[.slice d nt ct] 24)) 25 (.slice B C cl)).alloc (.cells #[.int .i64 (k:Int),.slice A n c] 48);have bP:=heap_alloc_new (((w1.alloc (.cells #[.slice none 0 0] 24)).alloc (.cells #[.slice d nt ct] 24)).alloc (.cells #[.slice B C cl] 25)) (.cells #[.int .i64 (k:Int),.slice A n c] 48);simp only [Ak] at bA bL bP;have I:Ab w1 ((((w1.alloc (.cells #[.slice none 0 0] 24)).alloc (.cells #[.slice d nt ct] 24)).alloc (.cells #[.slice B C cl] 25)).alloc (.cells #[.int .i64 (k:Int),.slice A n c] 48)):=((((Below.refl _ w1).alloc (Ae _) _).alloc nF _).alloc (by simp;omega) _).alloc (by simp;omega) _;have aj:((((w1.alloc (.cells #[.slice none 0 0] 24)).alloc (.cells #[.slice d nt ct] 24)).alloc (.cells #[.slice B C cl] 25)).alloc (.cells #[.int .i64 (k:Int),.slice A n c] 48)).heap.size=w1.heap.size+4:=by simp
 obtain ⟨W0,ac⟩:∃ W0,((((w1.alloc (.cells #[.slice none 0 0] 24)).alloc (.cells #[.slice d nt ct] 24)).alloc (.cells #[.slice B C cl] 25)).alloc (.cells #[.int .i64 (k:Int),.slice A n c] 48))=W0:=⟨_,rfl⟩;rw [ac] at bR bA bL bP I aj ⊢;clear ac y0 y1 y2 z0 z1 z2;have h1:=H.o _ z.o;have ak:=uA (h1.typs.below I);have al:=uA (h1.locs.below I);have am:=uA (h1.one.prs.below I);clear h1;obtain ⟨i0,hi,hz0,hz1,hz2⟩:=info_parts uHj;refine wpIn_rangeFunc_ownH rfl bB (gf:=292) (lb:=#[.pointer (some ⟨w1.heap.size+1+2,0,none⟩),.pointer (some ⟨w1.heap.size+1+1,0,none⟩),.pointer (some ⟨w1.heap.size+1,0,none⟩)]) rfl trivial (enters_of func292 fL rfl)
  (kK _ bB (w1.heap.size+1) (w1.heap.size+1+1) (w1.heap.size+1+2) w1.heap.size w1.heap.size d B nt ct C cl L LL ⟨(k:Int),A,n,c,ps⟩ k lc r HW.o W0 bA bL bP bB bB bB bB ak.o al.o am.o bB) KN (KD bB) (Below.refl _ _) (fun _=>rfl)
  (fun pre W=>(w1.heap.size+4<=W.heap.size/\FF w1.heap.size (w1.heap.size+4) (xT L (tys L) lc.ty ps pre) W)/\Ab w1 W)
  (fun _ _ _=>False)
  (Dg (Ed (fun s X Y an E hg hr=>⟨Ai E.1 hg.size,E.2.own hg hr⟩) _) (ownFrom_below (Ae _) bB))
  (fun _ _ _ _ _ E _ _=>E)
  ⟨⟨bB,.slice none 0 0,0,bR,Bv _ _ _ _,rfl⟩,I⟩
  (fun y a' W=>∃ Bq,w1.heap.size+4<=Bq/\W.heap[Bq]?=some (.cells #[.int .i64 (k:Int),.slice A y.1 c] 48 (0,0))/\a'={ tmps:=#[.slice d nt ct,.slice B C cl,uV ⟨(k:Int),A,n,c,ps⟩,.pointer (some ⟨w.heap.size,0,none⟩),undef,.pointer (some ⟨w.heap.size+1,0,none⟩),.slice none 0 0,.bool false,.int .i64 V,.int .i64 0,.pointer (some ⟨w1.heap.size,0,none⟩),.pointer (some ⟨Bq,0,none⟩),.int .i64 (tyA (tys L) lc.ty ps y.1),undef,.tuple #[.int .i64 V,.int .i64 0],.slice d nt ct,.slice B C cl,.agg #[.int .i64 (k:Int),.slice A n c],.tuple #[.int .i64 V,.int .i64 0],.int .i64 V,.int .i64 0,.int .i64 0,.bool false,.slice d nt ct,.slice B C cl,.agg #[.int .i64 (k:Int),.slice A n c],.func (.func 292) #[] #[.pointer (some ⟨w1.heap.size+1+2,0,none⟩),.pointer (some ⟨w1.heap.size+1+1,0,none⟩),.pointer (some ⟨w1.heap.size+1,0,none⟩)],.agg #[.int .i64 (k:Int),.slice A y.1 c],.int .i64 (tyA (tys L) lc.ty ps y.1),undef,undef,undef,undef,undef,undef,undef,undef,undef,undef,undef,undef,undef,undef,undef,undef,undef,undef,undef,undef,undef,undef,undef,undef],defers:=[] })
  (fun y a' _ X Y an E hg hr=>by obtain ⟨Bq,h1,h2,h3⟩:=E;exact ⟨Bq,h1,oH h2 hg (fun r e=>(hr r e).2),h3⟩)
  ?assign ?body ?done ?stop
 case assign=>
  rintro l pre y W K ⟨⟨E,hI⟩,J⟩ hK;have hb:=(Below.refl W.heap.size W).alloc (Nat.le_refl _) (.cells #[.int .i64 (k:Int),.slice A y.1 c] 48);have ao:vJ w1.heap.size jC w1.heap.size W _:=vJ.of_below hb bB;have HK:=uA hK;clear hK;dsimp only [RZ];gi_wp2;exact HK.o _ _ ((KeepsOthers.alloc _ _).from _) ao ⟨⟨by simp;omega,hI.below hb⟩,(Aa J hb)⟩ ⟨W.heap.size,E,heap_alloc_new W _,rfl⟩
 case body=>
  rintro l pre y a' W hl ap ⟨⟨E,hI⟩,J⟩ ⟨Bq,b0,bX,rfl⟩ aq;have HI:=uA hI;obtain ⟨v,m,b1,t,hm⟩:=hI;have d0:=uE bX 0;have d1:=uE bX 1;have q:Boxed W w.heap.size 24 (.slice d nt ct):=(J.block w.heap.size bB).trans ab.o;have HBTW:=uA q;have z0:=q.cell;have f:=(J.block (w.heap.size+1) bB).trans aa.o;have x1:=uE f 1;have HBB:=uA J;have ar:=uA ((H.o W (Aa z.o J)).one.prs);have HRow:=uA t;have HM:=uA hm;have g:Hdd (KeepsFrom (w1.heap.size+4) W W/\vJ w1.heap.size jC w1.heap.size W W):=⟨Gz _ _,vJ.refl _ _ _ _⟩;have HB1X:=uA b1;have b2:=b1.cell;have b3:m<=40:=by
   have h1:=HM.o;have h2:(xT L (tys L) lc.ty ps pre).length<=pre.length:=NJ pre;have h3:pre.length < ps.length+1:=aq;omega
  clear t hm q f ap b1 J;by_cases b4:y.1 < n;rotate_left
  ·have ad:(n:Int)<=(y.1:Int):=bB;have HN:=uA (show FF w1.heap.size (w1.heap.size+4) (xT L (tys L) lc.ty ps (pre++[y])) W from by
    rw [BK (L:=L) (pre:=pre) (y:=y) fun p M=>by
     rw [Bh (by show ps.length<=y.1;omega)] at M;cases M]
    exact HI.o)
   gi_wp2;exact ⟨g.o.1,g.o.2,⟨E,HN.o⟩,HBB.o⟩
  have ad:(y.1:Int) < (n:Int):=by omega
  obtain ⟨p,M⟩:∃ p,ps[y.1]?=some p:=⟨_,Ad bB⟩;obtain ⟨b,o,hA,_,_,e0,e1⟩:=ar.o.at_ M;simp only [] at hA;subst hA;obtain ⟨pk,pf⟩:=p;simp only [] at e0 e1;by_cases j:pk=0;rotate_left
  ·have tp:(pk == 0)=false:=(by simpa using j);have HN:=uA (show FF w1.heap.size (w1.heap.size+4) (xT L (tys L) lc.ty ps (pre++[y])) W from by
    rw [BK (L:=L) (pre:=pre) (y:=y) fun p au=>by
     have Q:ps[y.1]?=some p:=au;rw [M] at Q;injection Q with Q;rw [<-Q];exact j]
    exact HI.o)
   clear M j;gi_wp2;exact ⟨g.o.1,g.o.2,⟨E,HN.o⟩,HBB.o⟩
  subst j;obtain ⟨i,u,a0,hu⟩:=y.2.lt HW.o.ok HW.o.t0 (by rw [zE];exact HW.o.t1);obtain ⟨x0,F,av⟩:=bH hu;have HN:Hdd (xT L (tys L) lc.ty ps (pre++[y])=xT L (tys L) lc.ty ps pre++[x0]):=OW (pre:=pre) M rfl a0 F;have a1:=uA fun N (h:Ab W N)=>(show Calls prog 288 #[.slice d nt ct,.int .i64 (tyA (tys L) lc.ty ps y.1)] N fun e Z=>e=.returned (xU x0)/\Ab N Z from by
   rw [show tyA (tys L) lc.ty ps y.1=(i:Int) from a0];exact rQ (c:=ct) F N (H.o N (z.o.trans ((Aa HBB.o h).mono z.o.size))).typs HW.o.nt)
  have HS:=uA fun N (h:Ab W N)=>(h.cell (p:=⟨w.heap.size,0,none⟩) (by show w.heap.size < W.heap.size;omega)).trans z0
  clear M a0 hu F av;have ae:=uA fun (N:World) (h:Ab W N)=>(yS HB1X.o h).cell
  obtain ⟨⟨k0,mu,r0,el,fs⟩,Af,nf,cf⟩:=x0;simp only [] at a1;gi_wp2;refine nZ (S:=fun Z=>Z.cell? ⟨w.heap.size,0,none⟩=some (.slice d nt ct)) fL fL (by rintro ⟨_,_,h⟩;exact h) (HS.o _ (Below.refl _ W).drew) (fun hHeld=>?_);refine wpAnyH_take (i:=1) (v:=.slice d nt ct) rfl fL fL fL (fun _ _ _ h=>h) (Or.inl ⟨by rfl,fun Z hS=>by have s0:=hS;go_simp⟩) hHeld ?_;simp only [Act.put,List.setIfInBounds_toArray];refine wpAnyH_take (i:=2) (v:=.int .i64 (tyA (tys L) lc.ty ps y.1)) rfl fL fL fL (fun _ _ _ h=>h) (Or.inl ⟨by rfl,fun Z hS=>by have s0:=hS;go_simp⟩) hHeld ?_;simp only [Act.put];refine wpAnyH_ready (rs:=[0,3]) fL nF ?_;refine AllReadyH.cons rfl (fun K hK=>?_) (AllReadyH.cons rfl (fun K hK=>?_) AllReadyH.nil)
  ·go_simp;refine hK.out _ _ hHeld (fun hHeld=>?_);clear hK K;refine wpAnyH_ready (rs:=[3]) fL nF ?_;refine AllReadyH.cons rfl (fun K hK=>?_) AllReadyH.nil;go_simp;refine (a1.o _ (Below.refl _ W).drew).mono ?_;rintro e w3 ⟨rfl,a2⟩;have hb3':Ab W w3:=(Below.refl _ W).drew.trans a2;have S3:=HS.o _ hb3';exact uA3
  ·go_simp;refine (a1.o _ (Below.refl _ W).drew).mono ?_;rintro e w3 ⟨rfl,a2⟩;have hb3':Ab W w3:=(Below.refl _ W).drew.trans a2;have S3:=HS.o _ hb3';have b5:=ae.o _ hb3';refine hK.out _ _ S3 (fun hHeld=>?_);clear hK K;refine wpAnyH_ready (rs:=[0,4]) fL nF ?_;refine AllReadyH.cons rfl (fun K hK=>?_) (AllReadyH.cons rfl (fun K hK=>?_) AllReadyH.nil)
   ·go_simp;exact uA3
   ·go_simp;have hb4:=uA (hb3'.alloc hb3'.size (.cells #[.int .i64 k0,.bool mu,.int .i64 r0,.int .i64 el,.slice Af nf cf] 123));refine hK.out _ _ (HS.o _ hb4.o) (fun hHeld=>?_);clear hK K;refine wpAnyH_ready (rs:=[0]) fL nF ?_;refine AllReadyH.cons rfl (fun K hK=>?_) AllReadyH.nil;have b6:=ae.o _ hb4.o;go_simp;exact ZN
 case done=>
  rintro D ys W hD ⟨m,hS,hm,R⟩ ⟨⟨E,hI⟩,J⟩ hK;have aw:m=ps.length:=by
   rcases R with h | ⟨p,M,he⟩
   ·exact h
   ·exact absurd (by rw [LW hS M he] at HE;exact HE.o) he
  subst aw;rw [show xT L (tys L) lc.ty ps ys=mC L (tys L) lc.ty ps ps.length from NU hm,a6] at hI;obtain ⟨v,m,b1,t,af⟩:=hI;have k1:=b1.cell;have HM:=uA af;have HRow:=uA t;have HBB:=uA (Aa z.o J);have ax:w.heap.size<=D:=by omega
  clear af t hm R J;gi_wp2;refine ⟨nF,.inl ⟨_,_,rfl,run_takeDeferred hK,?_⟩⟩;refine ⟨_,results_tmp2 rfl _ _ _,v,m,rfl,uI (base:=w1.heap.size+4) (ownsRow_putObj HRow.o _ hK rfl) bB,HM.o,HBB.o.trans (belowK_b (w:=w) (Ae _) W D _ _ ax hK rfl rfl)⟩
 case stop=>
  rintro D cd pre W hD ay h hK;exact h.elim
theorem AD {g j:Option Addr} {nt ct k cl:Nat} {L:List TyW} {m:List LcW} {x:PlW} {r u v:Int} {w:World} (h:Pl8 w g j nt k L m x r) (o:zO (tys L) (lcs m) x.l x.ps=(u,v)) (b:v≠0) :
 Calls prog 272 #[.slice g nt ct,.slice j k cl,uV x] w fun e p=>e=.returned (.tuple #[.slice none 0 0,.bool false])/\Ab w p:=by
 have a:=((Below.refl w.heap.size w).alloc (Ae _) (.cells #[.slice g nt ct] 24)).alloc nF (.cells #[.int .i64 x.l,.slice x.A x.n x.c] 48);have d:=uA a;have q:=uA (iT (ct:=ct) (cl:=cl) (h.up a) o);have s:(v != 0)=true:=by rw [bne_iff_ne];exact b
 obtain ⟨l,A,n,c,t⟩:=x;clear h a o b;go_enter func272,ntmps272
 go_wp2_with fail
 refine q.o.mono ?_;rintro e y ⟨rfl,f⟩;have i:=uA (Aa d.o f);clear f;go_wp2;go_ret2
 exact ⟨rfl,i.o⟩
end
theorem UL (L:List TyW) (t:Int) (ps:List Pr) (n:Nat):tys (mC L (tys L) t ps n)=mC (tys L) (tys L) t ps n:=RP TyW.t L t ps n
def uH0 (w:World) (L:List TyW) (a:List LcW) (x:PlW) (e:Ending) (w':World):Prop:=
 (∃ A m c R,e=.returned (.tuple #[.slice A m c,.bool true])/\(zO (tys L) (lcs a) x.l x.ps).2=0/\tys R=TS (tys L) (lcs a) x.l x.ps/\m<=40/\yH w' w'.heap.size A m R/\Ab w w') \/
 (e=.returned (.tuple #[.slice none 0 0,.bool false])/\(zO (tys L) (lcs a) x.l x.ps).2≠0/\Ab w w')
theorem cQ {s z:Option Addr} {nt ct B cl:Nat} {L:List TyW} {f:List LcW} {x:PlW} {r:Int} {w:World} (h:Pl8 w s z nt B L f x r) :
 Calls prog 272 #[.slice s nt ct,.slice z B cl,uV x] w (uH0 w L f x):=by
 by_cases b:(zO (tys L) (lcs f) x.l x.ps).2=0
 ·obtain ⟨g,k,t,C,o,p⟩:=tI b;have i:=(Ah.1 o).1;rw [PV] at i;obtain ⟨n,j⟩:∃ n,f[k]?=some n:=⟨_,Ad i⟩;have a:=DH j;rw [o] at a;injection a with a;subst a;rw [p] at b;refine (callsIn_wide.1 (tB (ct:=ct) (cl:=cl) h C j g b)).mono ?_;rintro e D ⟨v,m,rfl,d,F,l⟩;obtain ⟨A,c,rfl,_,_⟩:=wH d;refine .inl ⟨A,m,c,mC L (tys L) n.ty x.ps x.ps.length,rfl,by rw [p];exact b,?_,?_,⟨uM.of_own VJ eW d,fun y E=>?_⟩,l⟩
  ·rw [UL];unfold TS;rw [p,if_pos b,C,A3,Bn,o];rfl
  ·have G:=UQ L (tys L) n.ty x.ps x.ps.length;have H:=(oF.1 g).2.1;omega
  ·exact ((h.typs.one y (CA E)).below l).more l.size
 ·obtain ⟨u,v,q⟩:∃ u v,zO (tys L) (lcs f) x.l x.ps=(u,v):=⟨_,_,rfl⟩;rw [q] at b;refine (AD (ct:=ct) (cl:=cl) h q b).mono ?_;rintro e D ⟨rfl,l⟩;exact .inr ⟨rfl,by rw [q];exact b,l⟩
theorem EH (x:TyW) (w:World):Calls prog 285 #[xU x] w fun e a=>e=.returned (.bool (!x.t.mut_))/\Ab w a:=by
 obtain ⟨⟨k,b,r,d,g⟩,A,n,c⟩:=x;have f:=uA ((Below.refl w.heap.size w).alloc (Ae _) (.cells #[.int .i64 k,.bool b,.int .i64 r,.int .i64 d,.slice A n c] 123));go_enter func285,ntmps285
 go_wp2;go_ret;exact ⟨rfl,f.o⟩
def uI1 (R:List TyW) (e:Ending):Prop:=∃ v:Int,e=.returned (.int .i64 v)/\((R.all (fun x=>x.t.mut_)=true/\v=-1)\/(R.all (fun x=>x.t.mut_)=false/\0<=v))
theorem AJ (A:Option Addr) (n c:Nat) (R:List TyW) (w:World) (l:yH w w.heap.size A n R) (z:n<=maxLen) :
 Calls prog 294 #[.slice A n c,.func (.func 285) #[] #[]] w fun e B=>uI1 R e/\Ab w B:=by
 have C:=uA l;have s:=uA l.len;unfold maxLen at z;clear l;go_enter func294,ntmps294
 go_wp2;go_loopw [8] (fun i wr=>∃ j:Nat,i=.int .i64 (j:Int)/\j<=n/\Hdd (∀ t x,t < j->R[t]?=some x->x.t.mut_=true)/\Ab w wr) (fun i _=>n - (intOf i).toNat)
 case atStart=>exact ⟨0,rfl,Am _,fun t x h=>absurd h (E8 _),Below.refl _ _⟩
 case round=>
  obtain ⟨j,rfl,M,u,d⟩:=hrel;have g:=uA d;clear d;by_cases D:j < n
  ·have v:(j:Int) < (n:Int):=bB;obtain ⟨x,a⟩:∃ x,R[j]?=some x:=⟨_,Ad (by have:=s.o;omega)⟩;obtain ⟨b,o,rfl,_,_,E,F,G,H,I⟩:=(C.o.below g.o).at_ a;have m:=uA (EH x wr);have y:=uA a;obtain ⟨⟨k,J,r,N,O⟩,P,Q,S⟩:=x;simp only [] at E F G H I m;clear a;cases J
   ·have p:=uA (show R.all (fun x=>x.t.mut_)=false from by
     rw [<-Gk,Cb];exact fun h=>by cases h _ (Aj y.o))
    go_wp2_with fail
    refine m.o.mono ?_;rintro e K ⟨rfl,d⟩;have f:=uA (Aa g.o d);clear d;go_wp2;go_ret;exact ⟨⟨_,rfl,.inr ⟨p.o,bB⟩⟩,f.o⟩
   ·have L:Hdd (∀ t x,t < j+1->R[t]?=some x->x.t.mut_=true):=fun t x q a=>by
     rcases Bs t j with h1 | h1
     ·exact u.o t x h1 a
     ·obtain rfl:t=j:=by omega
      rw [y.o] at a;injection a with a;rw [<-a]
    go_wp2_with fail
    refine m.o.mono ?_;rintro e K ⟨rfl,d⟩;have f:=uA (Aa g.o d);clear d;go_wp2;go_roundw
    case rel=>exact ⟨j+1,by go_num,bB,L.o,f.o⟩
    case measure=>simp [intOf];omega
  ·obtain rfl:j=n:=by omega
   have p:=uA (show R.all (fun x=>x.t.mut_)=true from by
    rw [Cb];intro x a;obtain ⟨t,q⟩:=B2 a;exact u.o t x (by have:=(Ah.1 q).1;have:=s.o;omega) q)
   go_wp2;go_ret;exact ⟨⟨_,rfl,.inl ⟨p.o,rfl⟩⟩,g.o⟩
theorem iM (A:Option Addr) (n c:Nat) (R:List TyW) (w:World) (g:yH w w.heap.size A n R) (h:n<=maxLen) :
 Calls prog 284 #[.slice A n c,.func (.func 285) #[] #[]] w fun e i=>e=.returned (.bool (!R.all (fun x=>x.t.mut_)))/\Ab w i:=by
 go_enter func284,ntmps284
 go_wp2_with fail
 refine (AJ A n c R w g h).mono ?_;rintro e l ⟨⟨v,rfl,j⟩,d⟩;have f:=uA d;clear d;rcases j with ⟨a,rfl⟩ | ⟨a,k⟩
 ·have b:=uA a;clear a;go_wp2;go_ret;exact ⟨by rw [b.o];rfl,f.o⟩
 ·have b:=uA a;have m:decide (0<=v)=true:=decide_eq_true k;clear a;go_wp2;go_ret;exact ⟨by rw [b.o];rfl,f.o⟩
theorem GP {t u:Option Addr} {nt ct y cl:Nat} {L:List TyW} {o:List LcW} {x:PlW} {r:Int} {w:World} (h:Pl8 w t u nt y L o x r) :
 Calls prog 269 #[.slice t nt ct,.slice u y cl,uV x] w fun e B=>e=.returned (.bool (UH (tys L) (lcs o) x.l x.ps))/\Ab w B:=by
 have f:=(Below.refl w.heap.size w).alloc (Ae _) (.cells #[.int .i64 x.l,.slice x.A x.n x.c] 48);have a:=uA f;have C:=uA (cQ (ct:=ct) (cl:=cl) (h.up f));obtain ⟨k,g⟩:∃ k,UH (tys L) (lcs o) x.l x.ps=k:=⟨_,rfl⟩;rw [g];have j:=uA g;obtain ⟨l,A,n,c,H⟩:=x;clear h f g;go_enter func269,ntmps269
 go_wp2_with fail
 refine C.o.mono ?_;rintro e D (⟨E,m,F,R,rfl,i,p,I,z,d⟩ | ⟨rfl,i,d⟩)
 ·have b:=uA (Aa a.o d);have q:=uA (show R.all (fun x=>x.t.mut_)=k from by
   rw [<-j.o];unfold UH;simp only [] at i p;rw [i,<- p,List.all_map];simp;rfl)
  have G:=uA z;clear d i p z;go_wp2_with fail
  refine (iM E m F R D G.o (by unfold maxLen;omega)).mono ?_;rintro e J ⟨rfl,d⟩;have s:=uA (Aa b.o d);clear d;generalize R.all (fun x=>x.t.mut_)=K at *;go_wp2;go_ret;exact ⟨congrArg (fun v=>Ending.returned (.bool v)) q.o,s.o⟩
 ·have b:=uA (Aa a.o d);have q:=uA (show k=false from by
   rw [<-j.o];unfold UH;simp only [] at i;simp [i])
  clear d i;go_wp2;go_ret;exact ⟨congrArg (fun v=>Ending.returned (.bool v)) q.o.symm,b.o⟩
theorem OK {a b:Option Addr} {nt ct c cl:Nat} {L:List TyW} {d:List LcW} {x:PlW} {r:Int} {v:Bool} {w:World} (h:Pl8 w a b nt c L d x r) (f:UH (tys L) (lcs d) x.l x.ps=v) :
 Calls prog 269 #[.slice a nt ct,.slice b c cl,uV x] w fun e g=>e=.returned (.bool v)/\Ab w g:=f ▸ GP h
def FG (w:World) (xs:List Int) (e:Ending) (w':World):Prop:=∃ A m c,e=.returned (.slice A m c)/\m<=40/\m<=c/\c<=maxLen/\w'.ownsRow w.heap.size 3 1 (.slice A m c) m (vC xs)/\Ab w w'
theorem IV {α a:Type} {l:List α} {f:α->a} {k:Nat} {x:α} (h:l[k]?=some x):(l.take (k+1)).map f=(l.take k).map f++[f x]:=by
 rw [Bm,h,By];rfl
theorem VH (w:World) (x:Int) (t:TypeId):∀ j u,(vC [x])[j]?=some u->(w.alloc (.cells #[.int .i64 x] t)).cell? ((⟨w.heap.size,0,none⟩:Addr).add j)=some u:=
 Bd (heap_alloc_new w _)
theorem FD {At Al:Option Addr} {nt ct nl cl:Nat} {L:List TyW} {J:List LcW} {x:PlW} {r:Int} {w:World} (h:Pl8 w At Al nt nl L J x r) :
 Calls prog 255 #[.slice At nt ct,.slice Al nl cl,uV x] w (FG w (DA (tys L) (lcs J) x.l x.ps)):=by
 obtain ⟨i0,hi,K,M,N⟩:=info_parts qY;have s:=(Below.refl w.heap.size w).alloc (Ae _) (.cells #[.int .i64 x.l,.slice x.A x.n x.c] 48);have q:=uA s;have HC:=uA (cQ (ct:=ct) (cl:=cl) (h.up s));obtain ⟨z,t⟩:∃ z,DA (tys L) (lcs J) x.l x.ps=z:=⟨_,rfl⟩;rw [t];have B:=uA t;obtain ⟨l,A,n,c,ps⟩:=x;clear h s t;go_enter func255,ntmps255
 go_wp2_with fail
 refine HC.o.mono ?_;rintro e I (⟨A1,m,c1,R,rfl,C,O,hm,P,a⟩ | ⟨rfl,C,a⟩)
 ·have d:=uA (Aa q.o a);have Q:=uA (show R.map (fun x=>x.t.region)=z from by
   rw [<-B.o];unfold DA;simp only [] at O;rw [<-O,Fw];rfl)
  have HT:=uA P;have HL:=uA P.len;clear a C O P;go_wp2;go_loopw [9,21] (fun v i wr=>∃ j:Nat,i=.int .i64 (j:Int)/\j<=m/\wr.ownsRow I.heap.size 3 1 v j (vC ((R.take j).map fun x=>x.t.region))/\Ab I wr) (fun _ i _=>m - (intOf i).toNat)
  case atStart=>exact ⟨0,rfl,Am _,Bv _ _ _ _,Below.refl _ _⟩
  case round=>
   obtain ⟨j,rfl,hj,g,a⟩:=hrel;obtain ⟨A2,c2,rfl,S,D⟩:=wH g;have T:=uA g;have HB:=uA a;have E:=uA (Aa d.o a);have U:=a.size;have a3:=E.o.size;unfold maxLen at D;clear g a;by_cases a5:j < m
   ·have a4:(j:Int) < (m:Int):=bB;obtain ⟨y,V⟩:∃ y,R[j]?=some y:=⟨_,Ad (by have:=HL.o;omega)⟩;obtain ⟨b,o,rfl,_,_,d0,d1,d2,d3,d4⟩:=(HT.o.below HB.o).at_ V;have F:=uA (IV (f:=fun x:TyW=>x.t.region) V);obtain ⟨⟨k,W,u,X,fs⟩,Y,Z,cf⟩:=y;simp only [] at d0 d1 d2 d3 d4 F;clear V;have a6:=uA ((Below.refl wr.heap.size wr).alloc (Ae _) (.cells #[.int .i64 k,.bool W,.int .i64 u,.int .i64 X,.slice Y Z cf] 123));go_wp2_with (at_builtin;refine wpList_append_own_at _ rfl (.tmp 25) (.tmp 28) 60 rfl I.heap.size 3 i0 (.int .i64 0) 1 8 underlying60 hi K M N rfl eW _ j _ rfl ((T.o.alloc _).alloc _) ⟨wr.heap.size+1,0,none⟩ 1 1 (vC [u]) rfl rfl (by simpa using VH (wr.alloc (.cells #[.int .i64 k,.bool W,.int .i64 u,.int .i64 X,.slice Y Z cf] 123)) u 3) (ints_oneCell _ _) (by unfold maxLen;omega) bB (by simp;omega) ?_;intro v5 w5 p G _ H;have a0:=uA p;have a1:=uA (mM ((HB.o.alloc U (.cells #[.int .i64 k,.bool W,.int .i64 u,.int .i64 X,.slice Y Z cf] 123)).alloc (by simp;omega) (.cells #[.int .i64 u] 3)) ((T.o.alloc _).alloc _) (by simp;omega) G);clear p G H)
    go_roundw
    case rel=>
     refine ⟨j+1,by go_num,bB,?_,a1.o⟩;rw [F.o];have h:=a0.o;rw [<-By] at h;exact h
    case measure=>simp [intOf];omega
   ·obtain rfl:j=m:=by omega
    have HE:=uA (show wr.ownsRow w.heap.size 3 1 (.slice A2 j c2) j (vC z) from by
     rw [<-Q.o];have h:=T.o;rw [Au (by have:=HL.o;omega)] at h;exact uI h (by have:=d.o.size;omega))
    go_wp2;go_ret;exact ⟨A2,j,c2,rfl,bB,S,D,HE.o,E.o⟩
 ·have d:=uA (Aa q.o a);have Q:=uA (show z=[] from by
   rw [<-B.o];unfold DA TS;simp only [] at C;rw [if_neg C];rfl)
  clear a C;go_wp2;go_loopw [9,21] (fun v i wr=>v=.slice none 0 0/\i=.int .i64 0/\Ab w wr) (fun _ i _=>0)
  case atStart=>exact ⟨rfl,rfl,d.o⟩
  case round=>
   obtain ⟨rfl,rfl,a⟩:=hrel;have a2:=uA a;clear a;go_wp2;go_ret;exact ⟨none,0,0,rfl,bB,Ae _,Am _,by rw [Q.o];exact Bv _ _ _ _,a2.o⟩
def wE (x:BdW):Env:=⟨tys x.types.L,lcs x.locals.L,x.outl.L,x.regions.L.length,x.blocks.L.length⟩
theorem uI6 (x:BdW):x.v.env=wE x:=by
 unfold BdV.env wE BdW.v lcs;simp only [Fw,Ao];rfl
structure VB (w:World) (x:BdW):Prop where
 one:uS w w.heap.size x
 ok:XX x.v
theorem VB.pl8 {w:World} {x:BdW} (h:VB w x) {p:PlW} (a:uL w w.heap.size p):Pl8 w x.types.A x.locals.A x.types.n x.locals.n x.types.L x.locals.L p (x.regions.L.length:Nat):=
 ⟨h.one.typs,h.one.locs,a,h.one.types.nm,h.one.locals.nm,yM.1 h.ok.ty,by
  have e:lcs x.locals.L=(x.v.locals.map LcV.ty):=by
   unfold lcs BdW.v;rw [Fw];rfl
  rw [e];exact h.ok.lc⟩
theorem VB.nt65 {w:World} {x:BdW} (h:VB w x):x.types.n<=65535:=by
 have b:=h.one.types.len;have a:=h.ok.ty;unfold xY at a
 split at a
 ·cases a
 ·rename_i c;have d:x.v.types.length=x.types.L.length:=zE _;omega
theorem VB.ty {w:World} {x:BdW} (h:VB w x) {p:PlV} (f:(tyV (wE x) p).2=0):∃ (i:Nat) (u:TyW),(tyV (wE x) p).1=(i:Int)/\x.types.L[i]?=some u:=by
 have c:=yM.1 h.ok.ty;obtain ⟨r,k,t,s,j,m⟩:=tI (T:=tys x.types.L) (lc:=lcs x.locals.L) (l:=p.l) (ps:=p.ps) f;have a:0<=t/\t < ((tys x.types.L).length:Int):=by
  have e:lcs x.locals.L=(x.v.locals.map LcV.ty):=by
   unfold lcs BdW.v;rw [Fw];rfl
  exact h.ok.lc t (e ▸ Aj j)
 have g:(tyV (wE x) p)=goL (tys x.types.L) t p.ps:=m;have n:Stp (tys x.types.L) t p.ps p.ps.length:=⟨Ae _,by
  unfold erA;rw [nS,<- g];exact f⟩
 obtain ⟨i,u,d,o⟩:=Stp.lt c a.1 a.2 n;unfold tyA at d;rw [nS] at d;have b:(x.types.L.map TyW.t)[i]?=some u:=o;rw [Ar,Gr] at b;obtain ⟨y,q,_⟩:=b;exact ⟨i,y,by rw [g];exact d,q⟩
def two (w:World) (cs:List Value) (T:TypeId) (ds:List Value) (U:TypeId):World:=(w.alloc (.cells cs.toArray T)).alloc (.cells ds.toArray U)
theorem mO (w:World) (cs:List Value) (T:TypeId) (ds:List Value) (U:TypeId):Ab w (two w cs T ds U):=((Below.refl _ w).alloc (Ae _) _).alloc nF _
theorem RQ {w w':World} {cs ds:List Value} {T U:TypeId} (h:Ab (two w cs T ds U) w'):(∀ (j:Nat) (u:Value),cs[j]?=some u->w'.cell? ⟨w.heap.size,j,none⟩=some u)/\(∀ (j:Nat) (u:Value),ds[j]?=some u->w'.cell? ⟨w.heap.size+1,j,none⟩=some u):=by
 have f:(two w cs T ds U).heap.size=w.heap.size+2:=by simp [two]
 have b:(w.alloc (.cells cs.toArray T)).heap.size=w.heap.size+1:=by simp
 have d:w'.heap[w.heap.size]?=_:=(h.block w.heap.size bB).trans ((((Below.refl (w.heap.size+1) _).alloc (by rw [b];exact Ae _) _).block w.heap.size bB).trans (heap_alloc_new w _));have c:=heap_alloc_new (w.alloc (.cells cs.toArray T)) (.cells ds.toArray U);rw [b] at c;have e:=(h.block (w.heap.size+1) bB).trans c;exact ⟨fun j u a=>(uE d j).trans (by rw [C9];exact a),fun j u a=>(uE e j).trans (by rw [C9];exact a)⟩
theorem FI (A:Option Addr) (c:Nat) (x:Int) (w:World):Calls prog 160 #[.slice A 0 c,.int .i64 x] w fun e a=>e=.returned (.tuple #[.int .i64 0,.bool false])/\∃ q,a=w.drewN q:=by
 go_enter func160,ntmps160
 go_wp2;go_loop [7,8] (fun i j=>i=.int .i64 0/\j=.int .i64 0) (fun _ _=>0)
 case atStart=>exact ⟨rfl,rfl⟩
 case round=>
  obtain ⟨rfl,rfl⟩:=hrel;go_wp2;go_ret2
  exact ⟨rfl,0,rfl⟩
theorem bG {A:Option Addr} {n c:Nat} {D:List Int} (x:Int) (w:World) {B:Nat} (d:Rd w B A n (vC D)) (g:D.Pairwise (· < ·)) (l:n<=1000000) :
 Calls prog 160 #[.slice A n c,.int .i64 x] w fun e i=>e=.returned (.tuple #[.int .i64 ((D.countP (· < x):Nat):Int),.bool (D.contains x)])/\∃ q,i=w.drewN q:=by
 have a:=d.ilen;rcases Ca n with h0 | h0
 ·subst h0;obtain rfl:D=[]:=Bu a;exact FI A c x w
 ·obtain ⟨b,o,rfl,m,k⟩:=d.2 h0;have h:=Tryz.slices_BinarySearch_int b o n c D x w bB bB (fun j f=>k j _ (by rw [Ar,Ad f,Bn,Ad f];rfl)) (by rw [<-a,Dz];exact uGo g);rw [<-a,Dz,a] at h;exact h
structure qB where
 xs:List Int
 A:Option Addr
 n:Nat
 c:Nat
abbrev tR (x:qB):Value:=.slice x.A x.n x.c
structure DY (w:World) (B r:Nat) (ps:List Pr) (rg:Int) (A1:Option Addr) (nD cD:Nat) (D:List Int) (A2:Option Addr) (c2:Nat) (L:List qB):Prop where
 lt:r < B
 d0:w.cell? ⟨r,0,none⟩=some (.int .i64 rg)
 d1:w.cell? ⟨r,1,none⟩=some (.slice A1 nD cD)
 d2:w.cell? ⟨r,2,none⟩=some (.slice A2 nD c2)
 nc:nD<=cD
 nc2:nD<=c2
 dec:Rd w B A1 nD (vC D)
 above:Rd w B A2 nD (L.map tR)
 rows:∀ x∈L,Rd w B x.A x.n (vC x.xs)/\x.n<=x.c/\x.n<=140737488355327
 rel:ZG ps rg D (L.map qB.xs)
 few:nD<=200000
 ok:XT ps rg
theorem DY.below {w w':World} {B r:Nat} {ps:List Pr} {rg:Int} {b:Option Addr} {c cD:Nat} {D:List Int} {d:Option Addr} {e:Nat} {L:List qB} (h:DY w B r ps rg b c cD D d e L) (a:Below B w w'):DY w' B r ps rg b c cD D d e L:=
 ⟨h.lt,(a.cell (p:=⟨r,0,none⟩) h.lt).trans h.d0,(a.cell (p:=⟨r,1,none⟩) h.lt).trans h.d1,(a.cell (p:=⟨r,2,none⟩) h.lt).trans h.d2,h.nc,h.nc2,h.dec.below a,h.above.below a,fun x f=>⟨(h.rows x f).1.below a,(h.rows x f).2⟩,h.rel,h.few,h.ok⟩
theorem DY.more {w:World} {B B' r:Nat} {ps:List Pr} {rg:Int} {b:Option Addr} {c cD:Nat} {D:List Int} {d:Option Addr} {e:Nat} {L:List qB} (h:DY w B r ps rg b c cD D d e L) (a:B<=B'):DY w B' r ps rg b c cD D d e L:=
 ⟨Ap h.lt a,h.d0,h.d1,h.d2,h.nc,h.nc2,h.dec.more a,h.above.more a,fun x f=>⟨(h.rows x f).1.more a,(h.rows x f).2⟩,h.rel,h.few,h.ok⟩
def Rel (w:World) (B r:Nat) (ps:List Pr) (rg:Int):Prop:=∃ a b c D d e L,DY w B r ps rg a b c D d e L
theorem Rel.below {w w':World} {B r:Nat} {ps:List Pr} {rg:Int} (h:Rel w B r ps rg) (a:Below B w w'):Rel w' B r ps rg:=by
 obtain ⟨b,c,d,D,e,f,L,h⟩:=h;exact ⟨b,c,d,D,e,f,L,h.below a⟩
theorem Rel.more {w:World} {B B' r:Nat} {ps:List Pr} {rg:Int} (h:Rel w B r ps rg) (a:B<=B'):Rel w B' r ps rg:=by
 obtain ⟨b,c,d,D,e,f,L,h⟩:=h;exact ⟨b,c,d,D,e,f,L,h.more a⟩
theorem AX {d:Option Addr} {a cD:Nat} {D:List Int} {r:Nat} (x:Int) (w:World) {B:Nat} (l:w.cell? ⟨r,1,none⟩=some (.slice d a cD)) (f:Rd w B d a (vC D)) (g:D.Pairwise (· < ·)) (h:a<=1000000) :
 Calls prog 116 #[.pointer (some ⟨r,0,none⟩),.int .i64 x] w fun e i=>e=.returned (.tuple #[.int .i64 ((D.countP (· < x):Nat):Int),.bool (D.contains x)])/\∃ q,i=w.drewN q:=by
 have j:=uA (bG (c:=cD) x w f g h);clear f g;generalize D.countP (· < x)=k at *;generalize D.contains x=b at *;go_enter func116,ntmps116
 go_wp2_with (go_at_call 160;refine j.o.mono ?_;rintro e m ⟨rfl,q,rfl⟩)
 go_ret2
 exact ⟨rfl,q,rfl⟩
theorem jG {b:Option Addr} {a cD:Nat} {D:List Int} {r:Nat} {x:Int} {i:Nat} (c:D[i]?=some x) (w:World) {B:Nat} (f:w.cell? ⟨r,1,none⟩=some (.slice b a cD)) (g:Rd w B b a (vC D)) (d:D.Pairwise (· < ·)) (j:a<=1000000) :
 Calls prog 116 #[.pointer (some ⟨r,0,none⟩),.int .i64 x] w fun e k=>e=.returned (.tuple #[.int .i64 (i:Int),.bool true])/\∃ q,k=w.drewN q:=by
 have h:=AX (cD:=cD) x w f g d j;rw [iR d c,show D.contains x=true by simpa using Aj c] at h;exact h
theorem uAn {b:Option Addr} {a cD:Nat} {D:List Int} {r:Nat} {x:Int} (d:x∉D) (w:World) {B:Nat} (f:w.cell? ⟨r,1,none⟩=some (.slice b a cD)) (g:Rd w B b a (vC D)) (h:D.Pairwise (· < ·)) (i:a<=1000000) :
 Calls prog 116 #[.pointer (some ⟨r,0,none⟩),.int .i64 x] w fun e c=>(∃ k:Nat,e=.returned (.tuple #[.int .i64 (k:Int),.bool false]))/\∃ q,c=w.drewN q:=by
 refine (AX (cD:=cD) x w f g h i).mono ?_;rintro e c ⟨rfl,q,rfl⟩;exact ⟨⟨_,by rw [show D.contains x=false by simpa using d]⟩,q,rfl⟩
end Go.Proofs.YtnkjbjkoffgocaaGreatDoor
