import Derived.Test.YtnkjbjkoffgocaaGreatDoorQ3
import Derived.Deep.OwnRows
set_option linter.unusedVariables false
set_option linter.unusedSimpArgs false
set_option maxRecDepth 100000
set_option maxHeartbeats 4000000
namespace Go.Proofs.YtnkjbjkoffgocaaGreatDoor
open Tryz Go.RowKit
structure wD (Pk:Nat->TypeId->Prop) (W W':World):Prop where
 size:W.heap.size<=W'.heap.size
 cells:∀ (k:Nat) (cs:Array Value) (t:TypeId) (fr:Nat×Nat),Pk k t->W.heap[k]?=some (.cells cs t fr)->W'.heap[k]?=some (.cells cs t fr)
abbrev uT (n₀:Nat) (Ts:List TypeId):World->World->Prop:=wD (fun k t=>k < n₀\/t∈Ts)
section
variable {Pk:Nat->TypeId->Prop} {W W':World}
theorem wD.refl (Pk:Nat->TypeId->Prop) (W:World):wD Pk W W:=⟨Ae _,fun _ _ _ _ _ h=>h⟩
theorem wD.trans {A B C:World} (h:wD Pk A B) (k:wD Pk B C):wD Pk A C:=⟨Ai h.size k.size,fun q a t b c d=>k.cells q a t b c (h.cells q a t b c d)⟩
theorem wD.below (h:Ab W W'):wD Pk W W':=⟨h.size,fun k b t c _ a=>(h.block k (Ag.1 a).1).trans a⟩
theorem wD.grown {row:Option Nat} (b:W.grownBy W' row) (f:∀ r,row=some r->∀ c t d,W.heap[r]?=some (.cells c t d)->¬Pk r t):wD Pk W W':=
 ⟨b.size,fun k c t d g a=>(b.block k (Ag.1 a).1 (fun e=>f k e.symm _ _ _ a g)).trans a⟩
theorem wD.recs {row:Option Nat} (a:W.grownBy W' row) (b:∀ r,row=some r->∃ o:Obj,W.heap[r]?=some o/\o.isCells=false):wD Pk W W':=
 .grown a fun r e f t g h=>by
  obtain ⟨o,c,d⟩:=b r e;rw [c] at h;injection h with h;subst h;cases d
theorem wD.put (W:World) (l:Nat) (o a:Obj) (h:W.heap[l]?=some o) (b:o.isCells=false):wD Pk W (W.putObj l a):=
 wD.recs (grownBy_putObj' W l a) fun r e=>by injection e with e;subst e;exact ⟨o,h,b⟩
theorem wD.old (h:wD Pk W W') {b i:Nat} {v:Value} (e:∀ t,Pk b t) (c:W.cell? ⟨b,i,none⟩=some v):W'.cell? ⟨b,i,none⟩=some v:=by
 obtain ⟨o,d,f⟩:=cells_of_cell c;cases o with
 | cells g t j=>exact (Ce (w:=W) (a:=⟨b,i,none⟩) ((h.cells b g t j (e t) d).trans d.symm)).trans c
 | _=>cases f
theorem wD.typ (h:wD Pk W W') {b:Nat} {cs:List Value} {t:TypeId} (a:Pk b t) (c:W.heap[b]?=some (.cells cs.toArray t (0,0))):W'.heap[b]?=some (.cells cs.toArray t (0,0)):=h.cells b _ _ _ a c
end
section
variable {n₀:Nat} {Ts:List TypeId} {W W':World}
theorem uT.refl (n₀:Nat) (Ts:List TypeId) (W:World):uT n₀ Ts W W:=⟨Ae _,fun _ _ _ _ _ h=>h⟩
theorem uT.trans {A B C:World} (h:uT n₀ Ts A B) (k:uT n₀ Ts B C):uT n₀ Ts A C:=⟨Ai h.size k.size,fun q a t b c d=>k.cells q a t b c (h.cells q a t b c d)⟩
theorem uT.below (h:Ab W W'):uT n₀ Ts W W':=⟨h.size,fun k b t c _ a=>(h.block k (Ag.1 a).1).trans a⟩
theorem uT.recs {row:Option Nat} (b:W.grownBy W' row) (c:∀ r,row=some r->∃ o:Obj,W.heap[r]?=some o/\o.isCells=false):uT n₀ Ts W W':=
 ⟨b.size,fun k g t h _ a=>(b.block k (Ag.1 a).1 (fun e=>by
  obtain ⟨o,d,f⟩:=c k e.symm;rw [d] at a;injection a with a;subst a;cases f)).trans a⟩
theorem uT.typ (h:uT n₀ Ts W W') {b:Nat} {cs:List Value} {t:TypeId} (a:t∈Ts) (c:W.heap[b]?=some (.cells cs.toArray t (0,0))):W'.heap[b]?=some (.cells cs.toArray t (0,0)):=h.cells b _ _ _ (.inr a) c
end
def JA (B:Nat) (W W':World):Prop:=∀ (k:Nat) (o:Obj),B<=k->W.heap[k]?=some o->o.isCells=false->W'.heap[k]?=some o
def ZS {α:Type} (n:Nat) (P:Program) (g:Nat) (lb:Array Value) (b:α->Array Value) (h:List α->α->Prop) (S i:List α->Prop) (n₀:Nat) (Ts:List TypeId) (w:World):Prop:=
 ∀ (l:Nat) (J d:List α->World->Prop) (W:World),Ab w W->OwnFrom W.heap.size J->OwnFrom W.heap.size d ->
   (∀ a x c,J a c->h a x->YieldAt Fence.wide (n - 1) P l (b x) c fun e W'=>
    ((e=.returned (.bool true)/\J (a++[x]) W'/\uT n₀ Ts c W')\/(e=.returned (.bool false)/\d (a++[x]) W'))/\JA W.heap.size c W') ->
   J [] W ->
   CallsIn Fence.wide n P g (#[.func (.yield l) #[] #[]]++lb) W fun e W'=>(∃ v,e=.returned v)/\((∃ f,S f/\J f W')\/(∃ a,i a/\d a W'))
def uDa {α:Type} (n:Nat) (P:Program) (g:Nat) (lb:Array Value) (b:α->Array Value) (h:List α->α->Prop) (S i:List α->Prop) (Pk:Nat->TypeId->Prop) (G:World->Prop) (w:World):Prop:=
 ∀ (l:Nat) (J d:List α->World->Prop) (W:World),Ab w W->OwnFrom W.heap.size J->OwnFrom W.heap.size d ->
   (∀ a x c,J a c->h a x->YieldAt Fence.wide (n - 1) P l (b x) c fun e W'=>
    ((e=.returned (.bool true)/\J (a++[x]) W'/\wD Pk c W')\/(e=.returned (.bool false)/\d (a++[x]) W'))/\JA W.heap.size c W'/\c.heap.size<=W'.heap.size) ->
   J [] W->(∀ a W,J a W->G W) ->
   CallsIn Fence.wide n P g (#[.func (.yield l) #[] #[]]++lb) W fun e W'=>(∃ v,e=.returned v)/\((∃ f,S f/\J f W')\/(∃ a,i a/\d a W'))
abbrev uB3 {α:Type} (n:Nat) (P:Program) (g:Nat) (lb:Array Value) (a:α->Array Value) (b:List α->α->Prop) (S c:List α->Prop) (n₀:Nat) (Ts:List TypeId) (G:World->Prop) (w:World):Prop:=uDa n P g lb a b S c (fun k t=>k < n₀\/t∈Ts) G w
theorem ZS.g {α:Type} {n:Nat} {P:Program} {g:Nat} {lb:Array Value} {a:α->Array Value} {d:List α->α->Prop} {S f:List α->Prop} {n₀:Nat} {Ts:List TypeId} {w:World} {G:World->Prop} (h:ZS n P g lb a d S f n₀ Ts w):uB3 n P g lb a d S f n₀ Ts G w:=
 fun l J i W j k b m o _=>h l J i W j k b (fun c x p q r=>(m c x p q r).mono fun e W' h=>⟨h.1,h.2.1⟩) o
theorem mS {α:Type} {n:Nat} {P:Program} {g:Operand} {ps:Array Tmp} {assign body:Code} {Q:Exit->Act->World->Prop} {a:Act} {w:World}
 (h1:1<=n) {gf:Nat} {lb:Array Value} (hg:a.eval g=.func (.func gf) #[] lb) (eg:∀ args w,(callFunc gf args).run P w=.ok (.enter gf args) w)
 {E:α->Array Value} {Nx:List α->α->Prop} {S Sp:List α->Prop} {Pk:Nat->TypeId->Prop} {G:World->Prop} {w0:World} (a5:uDa (n - 1) P gf lb E Nx S Sp Pk G w0) (a6:Ab w0 w) (a9:∀ x,(E x).size=ps.size)
 (I:List α->World->Prop) (Ix:Code->List α->World->Prop) (hI:OwnFrom w.heap.size I) (N:∀ c,OwnFrom w.heap.size (Ix c)) (h0:I [] w) (hG:∀ d W,I d W->G W) (Ax:α->Act->World->Prop) (aa:∀ x T,OwnFrom w.heap.size (fun (_:Unit) W=>Ax x T W))
 (O:∀ (l:Nat) (d:List α) (x:α) (W:World) (K:Act->World->Prop),I d W->Nx d x->(∀ T W',KeepsFrom w.heap.size W W'->wD Pk W W'->I d W'->Ax x T W'->K T W') ->
  assign.wpIn (Fence.wide.inRound l) (n - 1 - 1) P (Exit.then K (fun _ _ _=>False)) { tmps:=(ps.zip (E x)).foldl (fun t (p,v)=>t.setIfInBounds p v) a.tmps,defers:=[] } W)
 (a1:∀ (l:Nat) (d:List α) (x:α) (T:Act) (W:World),I d W->Ax x T W->Nx d x->body.wpIn (Fence.wide.inRound l) (n - 1 - 1) P (ownPostG w.heap.size (wD Pk) I Ix (d++[x]) W) T W)
 (a2:∀ (D:Nat) (xs:List α) (W:World),w.heap.size<=D->S xs->I xs W->W.heap[D]?=some (.deferred (some []))->Q .normal { a with defers:={ target:=.collected D,args:=#[] } :: a.defers } W)
 (a4:∀ (D:Nat) (c:Code) (d:List α) (W:World),w.heap.size<=D->Sp d->Ix c d W->W.heap[D]?=some (.deferred (some []))->c.wpIn Fence.wide n P Q { a with defers:={ target:=.collected D,args:=#[] } :: a.defers } W) :
 (Code.rangeFunc g ps assign body).wpIn Fence.wide n P Q a w:=by
 refine wpIn_rangeFunc ?_;intro fn ab;obtain ⟨f,i⟩:∃ f:LoopState->Option Code->Loop,f=fun st pe=>{ state:=st,pending:=pe,fn,tmps:=a.tmps,params:=ps,assign,body,defers:=w.heap.size }:=⟨_,rfl⟩
 obtain ⟨J,L⟩:∃ J,(w.alloc (.deferred (some []))).alloc (.loop (f .ready none))=J:=⟨_,rfl⟩;have ap:J.heap.size=w.heap.size+2:=by rw [<-L];simp
 have ac:J.heap[w.heap.size+1]?=some (.loop (f .ready none)):=by
  rw [<-L];have:=E0 (w.alloc (.deferred (some []))) (.loop (f .ready none));rwa [Ak] at this
 have ad:J.heap[w.heap.size]?=some (.deferred (some [])):=by
  rw [<-L];exact (Below.heap_alloc _ _ _ nF).trans (E0 w _)
 have ae:I [] J:=by rw [<-L];exact hI.alloc _ (hI.alloc _ h0)
 have af:Ab w J:=by rw [<-L];exact ((Below.refl _ w).alloc (Ae _) _).alloc nF _
 refine ⟨w.heap.size+1,[{ target:=.collected w.heap.size,args:=#[] }],J,{ target:=.fn (.func gf) lb,args:=#[.func (.yield (w.heap.size+1)) #[] #[]] },J,gf,
  #[.func (.yield (w.heap.size+1)) #[] #[]]++lb,J,?_,?_,fun _ _=>trivial,?_,fun _=>h1,?_⟩
 ·rw [<-L,i];exact run_enterLoop_outer _ _ _ _ _
 ·simp only [resolve,hg];simp [go_sem]
 ·simp [invoke,go_sem,eg]
 have q:∀ {X Y:World} {M:Option Nat} {k:Nat} {o:Obj},X.grownBy Y M->(∀ r,M=some r->J.heap.size<=r/\∃ o,X.heap[r]?=some o/\o.isCells=false)->k < w.heap.size+2->X.heap[k]?=some o->Y.heap[k]?=some o:=fun u y Z h=>(u.block _ (Ag.1 h).1 (fun e=>by have:=(y _ e.symm).1;omega)).trans h
 refine (a5 (w.heap.size+1)
  (fun d W=>I d W/\W.heap[w.heap.size+1]?=some (.loop (f .ready none))/\W.heap[w.heap.size]?=some (.deferred (some [])))
  (fun d W=>∃ c,Ix c d W/\W.heap[w.heap.size+1]?=some (.loop (f .done (some c)))/\W.heap[w.heap.size]?=some (.deferred (some [])))
  J (Aa a6 af)
  (fun s X Y M hs u y=>⟨hI s X Y M hs.1 u (fun r e=>⟨by have:=(y r e).1;omega,(y r e).2⟩),q u y bB hs.2.1,q u y bB hs.2.2⟩)
  (fun s X Y M hs u y=>by
   obtain ⟨c,hc,U,Z⟩:=hs;exact ⟨c,N c s X Y M hc u (fun r e=>⟨by have:=(y r e).1;omega,(y r e).2⟩),q u y bB U,q u y bB Z⟩)
  ?_ ⟨ae,ac,ad⟩ (fun d W h=>hG d W h.1)).mono ?_
 ·rintro d x W ⟨hi,U,Z⟩ a0;have hy:=run_yield (P:=P) (args:=E x) U (by rw [i];exact a9 x);rw [i] at hy;refine ⟨fn,_,assign,body,hy,roundIn_of_wpIn ab (O _ d x W _ hi a0 ?_)⟩;clear hy;intro T Wa F a7 ag ah;have R:=F.same _ _ bB U rfl;have ai:=F.same _ _ (Ae _) Z rfl;have aj:w.heap.size+1 < Wa.heap.size:=(Ag.1 R).1;refine ⟨_,run_beginRound R (by rw [i]),?_⟩;have ak:(Wa.putObj (w.heap.size+1) (.loop { f .ready none with state:=.busy })).heap[w.heap.size+1]?=some (.loop { f .ready none with state:=.busy }):=Es aj;have al:(Wa.putObj (w.heap.size+1) (.loop { f .ready none with state:=.busy })).heap[w.heap.size]?=some (.deferred (some [])):=(Cf bB).trans ai;have am:wD Pk Wa (Wa.putObj (w.heap.size+1) (.loop { f .ready none with state:=.busy })):=wD.put _ _ _ _ R rfl;refine wpIn_mono (a1 _ d x T _ (hI.putObj _ ag bB R rfl) ((aa x T).putObj (s:=()) _ ah bB R rfl) a0) ?_;have V:∀ (b:Option Code) (H:World),KeepsFrom w.heap.size (Wa.putObj (w.heap.size+1) (.loop { f .ready none with state:=.busy })) H ->
   (Instr.endRound (w.heap.size+1) b).run P H=.ok (.bool b.isNone) (H.putObj (w.heap.size+1) (.loop (f (if b.isNone then .ready else .done) b))) /\
   H.heap[w.heap.size+1]?=some (.loop { f .ready none with state:=.busy }) /\
   (H.putObj (w.heap.size+1) (.loop (f (if b.isNone then .ready else .done) b))).heap[w.heap.size+1]?=some (.loop (f (if b.isNone then .ready else .done) b)) /\
   (H.putObj (w.heap.size+1) (.loop (f (if b.isNone then .ready else .done) b))).heap[w.heap.size]?=some (.deferred (some [])) /\
   (JA J.heap.size W (H.putObj (w.heap.size+1) (.loop (f (if b.isNone then .ready else .done) b)))/\W.heap.size<=(H.putObj (w.heap.size+1) (.loop (f (if b.isNone then .ready else .done) b))).heap.size):=fun b H m=>by
   have j:=m.same _ _ bB ak rfl;have:=run_endRound (P:=P) b j;rw [i] at this ⊢;exact ⟨this,by rw [i] at j;exact j,Es (Ag.1 j).1,(Cf bB).trans (m.same _ _ (Ae _) al rfl),
    fun k o aq an ho=>(Cf bB).trans (m.same k o bB ((Cf bB).trans (F.same k o bB an ho)) ho),
    by have h1:=F.size;have h2:=m.size;simp only [World.putObj_size] at h2 ⊢;omega⟩
  rintro e a3 H hp;cases e with
  | normal=>
    obtain ⟨m,a8,z⟩:=hp;obtain ⟨y,j,A,B,C⟩:=V none H m;exact ⟨_,_,y,.inl ⟨rfl,⟨hI.putObj _ z bB j rfl,A,B⟩,a7.trans ((am.trans a8).trans (wD.put _ _ _ _ j rfl))⟩,C⟩
  | ret=>
    obtain ⟨m,z⟩:=hp;obtain ⟨y,j,A,B,C⟩:=V (some .ret) H m;exact ⟨_,_,y,.inr ⟨rfl,.ret,(N _).putObj _ z bB j rfl,A,B⟩,C⟩
  | exit id=>
    obtain ⟨m,z⟩:=hp;obtain ⟨y,j,A,B,C⟩:=V (some (.exit id)) H m;exact ⟨_,_,y,.inr ⟨rfl,.exit id,(N _).putObj _ z bB j rfl,A,B⟩,C⟩
  | goto t=>
    obtain ⟨m,z⟩:=hp;obtain ⟨y,j,A,B,C⟩:=V (some (.goto t)) H m;exact ⟨_,_,y,.inr ⟨rfl,.goto t,(N _).putObj _ z bB j rfl,A,B⟩,C⟩
  | panic ch=>exact hp.elim
  | outgrown=>exact hp.elim
 ·rintro e W2 ⟨⟨v,rfl⟩,(⟨xs,hS,hi,U,Z⟩ | ⟨d,ao,c,hi,U,Z⟩)⟩
  ·exact ⟨none,_,by have:=run_endLoop (P:=P) U (by rw [i];simp);rw [i] at this;exact this,a2 _ xs _ (Ae _) hS (hI.putObj _ hi bB U rfl) ((Cf bB).trans Z)⟩
  ·exact ⟨some c,_,by have:=run_endLoop (P:=P) U (by rw [i];simp);rw [i] at this;exact this,a4 _ c d _ (Ae _) ao ((N c).putObj _ hi bB U rfl) ((Cf bB).trans Z)⟩
theorem yQ {α:Type} {n:Nat} {P:Program} {g:Operand} {ps:Array Tmp} {assign body:Code} {Q:Exit->Act->World->Prop} {a:Act} {w:World}
 (C:1<=n) {gf:Nat} {lb:Array Value} (E:a.eval g=.func (.func gf) #[] lb) (F:∀ args w,(callFunc gf args).run P w=.ok (.enter gf args) w)
 {d:α->Array Value} {q:List α->α->Prop} {S A:List α->Prop} {n₀:Nat} {Ts:List TypeId} {G:World->Prop} {r:World} (k:uB3 (n - 1) P gf lb d q S A n₀ Ts G r) (s:Ab r w) (u:∀ x,(d x).size=ps.size)
 (I:List α->World->Prop) (m:Code->List α->World->Prop) (H:OwnFrom w.heap.size I) (y:∀ c,OwnFrom w.heap.size (m c)) (J:I [] w) (L:∀ b W,I b W->G W) (o:α->Act->World->Prop) (z:∀ x j,OwnFrom w.heap.size (fun (_:Unit) W=>o x j W))
 (e:∀ (l:Nat) (b:List α) (x:α) (W:World) (K:Act->World->Prop),I b W->q b x->(∀ j W',KeepsFrom w.heap.size W W'->uT n₀ Ts W W'->I b W'->o x j W'->K j W') ->
  assign.wpIn (Fence.wide.inRound l) (n - 1 - 1) P (Exit.then K (fun _ _ _=>False)) { tmps:=(ps.zip (d x)).foldl (fun t (p,v)=>t.setIfInBounds p v) a.tmps,defers:=[] } W)
 (f:∀ (l:Nat) (b:List α) (x:α) (j:Act) (W:World),I b W->o x j W->q b x->body.wpIn (Fence.wide.inRound l) (n - 1 - 1) P (ownPostG w.heap.size (uT n₀ Ts) I m (b++[x]) W) j W)
 (h:∀ (D:Nat) (B:List α) (W:World),w.heap.size<=D->S B->I B W->W.heap[D]?=some (.deferred (some []))->Q .normal { a with defers:={ target:=.collected D,args:=#[] } :: a.defers } W)
 (i:∀ (D:Nat) (c:Code) (b:List α) (W:World),w.heap.size<=D->A b->m c b W->W.heap[D]?=some (.deferred (some []))->c.wpIn Fence.wide n P Q { a with defers:={ target:=.collected D,args:=#[] } :: a.defers } W) :
 (Code.rangeFunc g ps assign body).wpIn Fence.wide n P Q a w:=
 mS C E F k s u I m H y J L o z e f h i
theorem wB {α:Type} {n:Nat} {P:Program} {g:Operand} {ps:Array Tmp} {assign body:Code} {Q:Exit->Act->World->Prop} {a:Act} {w:World}
 (C:1<=n) {gf:Nat} {lb:Array Value} (E:a.eval g=.func (.func gf) #[] lb) (F:∀ args w,(callFunc gf args).run P w=.ok (.enter gf args) w)
 {d:α->Array Value} {q:List α->α->Prop} {S A:List α->Prop} {n₀:Nat} {Ts:List TypeId} {r:World} (k:ZS (n - 1) P gf lb d q S A n₀ Ts r) (s:Ab r w) (u:∀ x,(d x).size=ps.size)
 (I:List α->World->Prop) (m:Code->List α->World->Prop) (H:OwnFrom w.heap.size I) (y:∀ c,OwnFrom w.heap.size (m c)) (J:I [] w) (o:α->Act->World->Prop) (z:∀ x j,OwnFrom w.heap.size (fun (_:Unit) W=>o x j W))
 (e:∀ (l:Nat) (b:List α) (x:α) (W:World) (K:Act->World->Prop),I b W->q b x->(∀ j W',KeepsFrom w.heap.size W W'->uT n₀ Ts W W'->I b W'->o x j W'->K j W') ->
  assign.wpIn (Fence.wide.inRound l) (n - 1 - 1) P (Exit.then K (fun _ _ _=>False)) { tmps:=(ps.zip (d x)).foldl (fun t (p,v)=>t.setIfInBounds p v) a.tmps,defers:=[] } W)
 (f:∀ (l:Nat) (b:List α) (x:α) (j:Act) (W:World),I b W->o x j W->q b x->body.wpIn (Fence.wide.inRound l) (n - 1 - 1) P (ownPostG w.heap.size (uT n₀ Ts) I m (b++[x]) W) j W)
 (h:∀ (D:Nat) (B:List α) (W:World),w.heap.size<=D->S B->I B W->W.heap[D]?=some (.deferred (some []))->Q .normal { a with defers:={ target:=.collected D,args:=#[] } :: a.defers } W)
 (i:∀ (D:Nat) (c:Code) (b:List α) (W:World),w.heap.size<=D->A b->m c b W->W.heap[D]?=some (.deferred (some []))->c.wpIn Fence.wide n P Q { a with defers:={ target:=.collected D,args:=#[] } :: a.defers } W) :
 (Code.rangeFunc g ps assign body).wpIn Fence.wide n P Q a w:=
 yQ C E F (k.g (G:=fun _=>True)) s u I m H y J (fun _ _ _=>True.intro) o z e f h i
section
open Go.Shelf
attribute [local go_sem] Oper.semAt_some
def fcK:List (Int×Nat):=[(0,1),(1,2),(2,3),(3,4)]
def uHp (pre:List (Int×Nat)) (x:Int×Nat):Prop:=fcK[pre.length]?=some x
def FcW.at_ (x:FcW) (k:Nat):SlW Pr:=if k=1 then x.edges else if k=2 then x.killed else if k=3 then x.invalid else x.live
theorem FcW.at_ok {w:World} {B:Nat} {x:FcW} (h:vO w B x) (k:Nat):PrS w B (x.at_ k):=by
 unfold FcW.at_
 split
 ·exact h.edges
 split
 ·exact h.killed
 split
 ·exact h.invalid
 exact h.live
theorem FcW.cell_at {x:FcW} {w:World} {F:Nat} (h:Bx w F (cFc x) 33) {k:Nat} (a:1<=k/\k<=4):w.cell? ⟨F,k,none⟩=some (.slice (x.at_ k).A (x.at_ k).n (x.at_ k).c):=by
 obtain rfl | rfl | rfl | rfl:k=1\/k=2\/k=3\/k=4:=by omega
 all_goals exact h.cell rfl
theorem pX {pre:List (Int×Nat)} {x:Int×Nat} (h:uHp pre x):x=((pre.length:Int),pre.length+1)/\pre.length < 4:=by
 unfold uHp at h;generalize pre.length=k at *
 match k,h with
 | 0,h=>injection h with h;exact ⟨h.symm,eW⟩
 | 1,h=>injection h with h;exact ⟨h.symm,eW⟩
 | 2,h=>injection h with h;exact ⟨h.symm,eW⟩
 | 3,h=>injection h with h;exact ⟨h.symm,eW⟩
 | k+4,h=>exact absurd h (by simp [fcK])
theorem Bx.owns {W W':World} {row:Option Nat} {B:Nat} {cs:List Value} {t:TypeId} (h:Bx W B cs t) (b:W.grownBy W' row) (c:∀ r,row=some r->∃ o:Obj,W.heap[r]?=some o/\o.isCells=false):Bx W' B cs t:=
 (b.block B (Ag.1 h).1 (fun d=>by
  obtain ⟨o,a,e⟩:=c B d.symm;rw [show W.heap[B]?=_ from h] at a;injection a with a;subst a;cases e)).trans h
theorem aZ {B:Nat} {W W':World} (h:KeepsFrom B W W'):KeepsFrom B W W'.drew:=⟨h.size,h.same⟩
theorem uT.drew {n₀:Nat} {Ts:List TypeId} {W W':World} (h:uT n₀ Ts W W'):uT n₀ Ts W W'.drew:=⟨h.size,h.cells⟩
theorem uT.setBx {n₀:Nat} {Ts:List TypeId} {W:World} {b i:Nat} {cs:List Value} {t:TypeId} (h:Bx W b cs t) (f:n₀<=b) (g:t∉Ts) (v:Value):uT n₀ Ts W (W.setCell ⟨b,i,none⟩ v):=
 ⟨by rw [Db];exact Ae _,fun k j l m c a=>by
  refine (show (W.setCell ⟨b,i,none⟩ v).heap[k]?=W.heap[k]? from ?_).trans a;have d:k≠b:=fun e=>by
   subst e;rw [show W.heap[k]?=_ from h] at a;injection a with a;injection a with _ a _;exact c.elim (fun h=>Cg _ (Ap h f)) (fun h=>g (a ▸ h))
  exact Below.heap_setCell W ⟨b,i,none⟩ v k d⟩
theorem Turn.keepsFrom {S:Nat->Prop} {W W':World} (h:Turn S W W') (d:∀ k,S k->∃ b t c,W.heap[k]?=some (.cells b t c)) (B:Nat):KeepsFrom B W W':=
 ⟨h.size,fun k o _ a f=>(h.block k (Ag.1 a).1 (fun g=>by
  obtain ⟨b,t,c,e⟩:=d k g;rw [a] at e;injection e with e;subst e;cases f)).trans a⟩
theorem Turn.keepD {S:Nat->Prop} {n₀:Nat} {Ts:List TypeId} {W W':World} (h:Turn S W W') (b:∀ k,S k->n₀<=k/\∀ c t d,W.heap[k]?=some (.cells c t d)->t∉Ts):uT n₀ Ts W W':=
 ⟨h.size,fun k c t d f a=>(h.block k (Ag.1 a).1 (fun e=>f.elim (fun g=>Cg _ (Ap g (b k e).1)) ((b k e).2 _ _ _ a))).trans a⟩
def qT (Q:Exit->Act->World->Prop):Exit->Act->World->Prop
 | .panic _,_,_=>False
 | .normal,a,w=>Q .normal a w
 | .ret,a,w=>Q .ret a w
 | .exit i,a,w=>Q (.exit i) a w
 | .goto i,a,w=>Q (.goto i) a w
 | .outgrown,a,w=>Q .outgrown a w
theorem qT.le {Q:Exit->Act->World->Prop}:∀ (e:Exit) (a:Act) (w:World),qT Q e a w->Q e a w
 | .panic _,_,_,h=>h.elim
 | .normal,_,_,h=>h
 | .ret,_,_,h=>h
 | .exit _,_,_,h=>h
 | .goto _,_,_,h=>h
 | .outgrown,_,_,h=>h
theorem mQ (n F:Nat) (w:World) :
 CallsIn Fence.wide n prog 47 #[.pointer (some ⟨F,0,none⟩)] w fun e a=>e=.returned (.func (.func 91) #[] #[.pointer (some ⟨w.heap.size,0,none⟩)])/\a=w.alloc (.cells #[.pointer (some ⟨F,0,none⟩)] 101):=by
 refine callsIn_of_wp func47 rfl trivial ?_ rfl;simp only [ntmps47,Bc,As,Br,Nat.reduceAdd,Nat.reduceSub,Ay,Az,Be,Ba,Bj,Bg];gi_wp2;go_ret;exact ⟨rfl,rfl⟩
theorem zK {n₀:Nat} {Ts:List TypeId} (z:101∈Ts) (n:Nat) (K:1<=n) (f F:Nat) (w:World) (A:Bx w f [.pointer (some ⟨F,0,none⟩)] 101) :
 ZS n prog 91 #[.pointer (some ⟨f,0,none⟩)] (fun x:Int×Nat=>#[.int .i64 x.1,.pointer (some ⟨F,x.2,none⟩)]) uHp (fun G=>G=fcK) (fun B=>B.length<=4) n₀ Ts w:=by
 intro l J t W C L H D I;have q:=uA D;have c:Bx W f [.pointer (some ⟨F,0,none⟩)] 101:=(C.block f (Ag.1 A).1).trans A;have d:=uA c;have r:W.cell? ⟨f,0,none⟩=_:=c.q 0 rfl;clear D A C c;obtain ⟨fn,tmps,assign,body,s,g⟩:=q.o [] (0,1) W I rfl;refine callsIn_of_wp func91 rfl trivial ?_ rfl;simp only [ntmps91,Bc,As,Br,Nat.reduceAdd,Nat.reduceSub,Ay,Az,Be,Ba,Bj,Bg];gi_wp2;refine g.mono ?_;clear s g r;rintro e u ⟨⟨rfl,i,p⟩ | ⟨rfl,i⟩,a⟩
 case' inr=>
  have b:Hdd (t [(0,1)] u):=i;clear i a;gi_wp2;refine ⟨fun _ h=>(by cases h),?_⟩;gi_wp2;refine ⟨fun _ h=>(by cases h),?_⟩;gi_wp2;refine ⟨fun _ h=>(by cases h),?_⟩;gi_wp2;go_end0
  exact ⟨⟨_,rfl⟩,.inr ⟨_,eW,b.o⟩⟩
 have c:=p.typ z d.o;have d:Hdd (Bx u f [.pointer (some ⟨F,0,none⟩)] 101):=c;have r:=(show Bx u f [.pointer (some ⟨F,0,none⟩)] 101 from c).q 0 rfl;obtain ⟨fn,tmps,assign,body,s,g⟩:=q.o [(0,1)] (1,2) u i rfl;clear c p a i;gi_wp2;refine g.mono ?_;clear s g r;rintro e v ⟨⟨rfl,k,p⟩ | ⟨rfl,k⟩,a⟩
 case' inr=>
  have b:Hdd (t [(0,1),(1,2)] v):=k;clear k a;gi_wp2;refine ⟨fun _ h=>(by cases h),?_⟩;gi_wp2;refine ⟨fun _ h=>(by cases h),?_⟩;gi_wp2;go_end0
  exact ⟨⟨_,rfl⟩,.inr ⟨_,eW,b.o⟩⟩
 have c:=p.typ z d.o;have d:Hdd (Bx v f [.pointer (some ⟨F,0,none⟩)] 101):=c;have r:=(show Bx v f [.pointer (some ⟨F,0,none⟩)] 101 from c).q 0 rfl;obtain ⟨fn,tmps,assign,body,s,g⟩:=q.o [(0,1),(1,2)] (2,3) v k rfl;clear c p a k;gi_wp2;refine g.mono ?_;clear s g r;rintro e y ⟨⟨rfl,m,p⟩ | ⟨rfl,m⟩,a⟩
 case' inr=>
  have b:Hdd (t [(0,1),(1,2),(2,3)] y):=m;clear m a;gi_wp2;refine ⟨fun _ h=>(by cases h),?_⟩;gi_wp2;go_end0
  exact ⟨⟨_,rfl⟩,.inr ⟨_,eW,b.o⟩⟩
 have c:=p.typ z d.o;have d:Hdd (Bx y f [.pointer (some ⟨F,0,none⟩)] 101):=c;have r:=(show Bx y f [.pointer (some ⟨F,0,none⟩)] 101 from c).q 0 rfl;obtain ⟨fn,tmps,assign,body,s,g⟩:=q.o [(0,1),(1,2),(2,3)] (3,4) y m rfl;clear c p a m;gi_wp2;refine g.mono ?_;clear s g r;rintro e E ⟨⟨rfl,o,p⟩ | ⟨rfl,o⟩,a⟩
 case' inr=>
  have b:Hdd (t [(0,1),(1,2),(2,3),(3,4)] E):=o;clear o a;gi_wp2;go_end0
  exact ⟨⟨_,rfl⟩,.inr ⟨_,eW,b.o⟩⟩
 have b:Hdd (J fcK E):=o;clear p a o;gi_wp2;go_end0
 exact ⟨⟨_,rfl⟩,.inl ⟨_,rfl,b.o⟩⟩
end
theorem uD9 (a d n c:Nat) (p v:Int) (w:World) (b:w.cell? ⟨a,0,none⟩=some (.slice (some ⟨d,0,none⟩) n c)) (f:0<=p) (i:p < (n:Int)) (j:n<=65535) (g:w.cell? ⟨d,p.toNat,none⟩=some (.int .i64 v)) :
 Calls prog 195 #[.int .i64 p,.pointer (some ⟨a,0,none⟩)] w fun e h=>e=.returned (.int .i64 v)/\w=h:=by
 obtain ⟨q,rfl⟩:=Cz f;rw [A3] at g;go_enter func195,ntmps195
 go_wp2;go_ret;exact ⟨rfl,rfl⟩
theorem uAr {ds:List Int} (h:∀ v∈ds,0<=v/\v<=65535) (p:Int):0<=ds.getD p.toNat 0/\ds.getD p.toNat 0<=65535:=by
 rw [Bn];cases hx:ds[p.toNat]? with
 | none=>exact ⟨Fn _,eW⟩
 | some v=>exact h v (Aj hx)
theorem XV (args:Array Value) (w:World):(callFunc 195 args).run prog w=.ok (.enter 195 args) w:=dJ func195 fL rfl args w
theorem uG8 (x:TyW) (w:World) (y:wF w w.heap.size x) (a d n c:Nat) (ds:List Int) (g:w.cell? ⟨a,0,none⟩=some (.slice (some ⟨d,0,none⟩) n c)) (i:∀ j v,ds[j]?=some v->w.cell? ⟨d,j,none⟩=some (.int .i64 v))
 (l:a < w.heap.size) (m:d < w.heap.size) (z:∀ p∈uG x.t,0<=p/\p < (ds.length:Int)) (E:ds.length<=n) (o:n<=65535) (q:∀ v∈ds,0<=v/\v<=65535) :
 Calls prog 194 #[xU x,.func (.func 195) #[] #[.pointer (some ⟨a,0,none⟩)]] w fun e b=>e=.returned (.int .i64 (pO ds x.t))/\Ab w b:=by
 have V:cS 195 #[.pointer (some ⟨a,0,none⟩)] (fun p=>.int .i64 (ds.getD p.toNat 0)) (uG x.t) w (fun _=>False) (fun _ _=>True) (fun _ _=>False):=by
  refine ⟨XV,?_⟩;intro p r s D f _;obtain ⟨A,F⟩:=z p r;have t:∃ v,ds[p.toNat]?=some v:=⟨_,Ad bB⟩;obtain ⟨v,u⟩:=t;have e:ds.getD p.toNat 0=v:=by rw [Bn,u];rfl
  have B:=uD9 a d n c p v s ((f.cell (p:=⟨a,0,none⟩) l (fun h=>h)).trans g) A bB o ((f.cell (p:=⟨d,p.toNat,none⟩) m (fun h=>h)).trans (i _ _ u));rw [e];have C:Calls prog 195 (#[.int .i64 p]++#[.pointer (some ⟨a,0,none⟩)]) s fun e b=>e=.returned (.int .i64 v)/\s=b:=B
  refine C.mono ?_;rintro e G ⟨rfl,rfl⟩;exact ⟨rfl,trivial,Turn.refl _ _⟩
 have h:=uGx x 195 #[.pointer (some ⟨a,0,none⟩)] w y (fun _=>False) (fun _ _=>True) (fun _ _=>False) (fun _=>False) (fun _ _ _ _ _=>trivial) trivial (fun _ _ _ _ h=>h) (fun _ h=>h.elim) (fun p=>ds.getD p.toNat 0) (fun p _=>uAr q p) V;refine h.mono ?_;rintro e b ⟨rfl,_,f⟩;exact ⟨rfl,f.below (Ae _) fun k h=>h.elim⟩
theorem TM (w:World) (n:Nat) (t:TypeId) {j:Nat} (a:j < n):(w.alloc (.cells (madeCells #[.int .i64 0] n) t)).cell? ⟨w.heap.size,j,none⟩=some (.int .i64 0):=by
 rw [cell_of_row (w.alloc (.cells (madeCells #[.int .i64 0] n) t)) w.heap.size j _ t (0,0) (heap_alloc_new w _),<- Et,toList_madeCells_one];simp [a]
theorem kC {a b:Int} (h:a=b):Ending.returned (.int .i64 b)=.returned (.int .i64 a):=by rw [h]
theorem eS {P:Prop} (h:P:=by
 go_enter func193,ntmps193
 go_wp2;go_quiet (fail)
 go_wp2;go_ret;exact ⟨kC HF.o,HBN.o _⟩):P:=h
theorem kX (k:Int) (m:Bool) (r a:Int) (b:List Int) (A:Option Addr) (n c:Nat) (er rg:Int) (w:World) (d:wF w w.heap.size ⟨⟨k,m,r,a,b⟩,A,n,c⟩) (f:k < 0) :
 Calls prog 193 #[xU ⟨⟨k,m,r,a,b⟩,A,n,c⟩,.int .i64 er,.int .i64 rg] w fun e g=>e=.returned (.int .i64 (yB ⟨k,m,r,a,b⟩ er rg))/\Ab w g:=by
 have i:=uA ((Below.refl w.heap.size w).alloc (Ae _) (.cells #[.int .i64 k,.bool m,.int .i64 r,.int .i64 a,.slice A n c] 123));have HBN:=uA fun nq=>tyN i.o nq
 have j:b.length=n:=d.ok.len;have l:n<=maxLen:=Ai d.ok.nc d.ok.cm;unfold maxLen at l;clear d;have HF:Hdd (yB ⟨k,m,r,a,b⟩ er rg=14):=if_pos (.inl f);have o:(k == 3)=false:=beq_eq_false_iff_ne.2 bB;have p:(k == 4)=false:=beq_eq_false_iff_ne.2 bB;clear j;exact eS
theorem iP (k:Int) (m:Bool) (r a:Int) (b:List Int) (A:Option Addr) (n c:Nat) (er rg:Int) (w:World) (d:wF w w.heap.size ⟨⟨k,m,r,a,b⟩,A,n,c⟩) (f:4 < k) :
 Calls prog 193 #[xU ⟨⟨k,m,r,a,b⟩,A,n,c⟩,.int .i64 er,.int .i64 rg] w fun e g=>e=.returned (.int .i64 (yB ⟨k,m,r,a,b⟩ er rg))/\Ab w g:=by
 have i:=uA ((Below.refl w.heap.size w).alloc (Ae _) (.cells #[.int .i64 k,.bool m,.int .i64 r,.int .i64 a,.slice A n c] 123));have HBN:=uA fun nq=>tyN i.o nq
 have j:b.length=n:=d.ok.len;have l:n<=maxLen:=Ai d.ok.nc d.ok.cm;unfold maxLen at l;clear d;have HF:Hdd (yB ⟨k,m,r,a,b⟩ er rg=14):=if_pos (.inr f);have o:(k == 3)=false:=beq_eq_false_iff_ne.2 bB;have p:(k == 4)=false:=beq_eq_false_iff_ne.2 bB;have q:0<=k:=by omega
 clear j;exact eS
theorem cT {k:Int} {m:Bool} {r b:Int} {a:List Int} {er rg:Int} (c:0<=k) (d:k<=4):yB ⟨k,m,r,b,a⟩ er rg=if (k≠3/\(m=true\/r≠0\/b≠0))\/(k≠4/\0 < a.length) then 2 else if (k=3/\vD r rg=false)\/wX (uG ⟨k,m,r,b,a⟩) er=false then 3 else if k=4/\(a.length=0\/65535 < a.length) then 15 else 0:=
 if_neg (show ¬(k < 0\/4 < k) by omega)
theorem pN (k:Int) (m:Bool) (r a:Int) (b:List Int) (A:Option Addr) (n c:Nat) (er rg:Int) (w:World) (f:wF w w.heap.size ⟨⟨k,m,r,a,b⟩,A,n,c⟩) (i:0<=k) (j:k<=4) (g:k≠4) (l:k≠3->m=false/\r=0/\a=0) (o:0 < n) :
 Calls prog 193 #[xU ⟨⟨k,m,r,a,b⟩,A,n,c⟩,.int .i64 er,.int .i64 rg] w fun e q=>e=.returned (.int .i64 (yB ⟨k,m,r,a,b⟩ er rg))/\Ab w q:=by
 have s:=uA ((Below.refl w.heap.size w).alloc (Ae _) (.cells #[.int .i64 k,.bool m,.int .i64 r,.int .i64 a,.slice A n c] 123));have HBN:=uA fun nq=>tyN s.o nq
 have p:b.length=n:=f.ok.len;have t:n<=maxLen:=Ai f.ok.nc f.ok.cm;unfold maxLen at t;clear f;have HF:Hdd (yB ⟨k,m,r,a,b⟩ er rg=2):=(cT i j).trans (if_pos (.inr ⟨g,bB⟩));have x:(k == 4)=false:=beq_eq_false_iff_ne.2 g;have u:(0:Int) < (n:Int):=by omega
 by_cases d:k=3
 ·clear p l g o;have v:(k == 3)=true:=beq_iff_eq.2 d;clear d;exact eS
 ·have v:(k == 3)=false:=beq_eq_false_iff_ne.2 d;obtain ⟨rfl,rfl,rfl⟩:=l d;clear p l d g o;exact eS
theorem YR {P:Prop} (h:P:=by
 refine (CR _ _ (HX.o _)).mono ?_;rintro e w1 ⟨A1,n1,c1,rfl,h1,h2,h3,h4,h5⟩;clear h3;have HB1:=uA ((HBN.o _).trans (h5.mono (HBN.o _).size));clear h5;have HC:=uA (gQ (c:=c1) HA.o h4 (Ai h1 h2));clear h1 h2 h4;go_wp2_with fail
 refine HC.o.mono ?_;rintro e w2 ⟨rfl,rfl⟩;go_wp2;go_ret;exact ⟨kC HF.o,HB1.o⟩):P:=h
theorem uBk {P:Prop} (h:P:=by
 have HA:=uA ha;clear ha;go_enter func193,ntmps193
 go_wp2;go_quiet (fail)
 go_wp2_with fail
 refine (qC HW.o _).mono ?_;rintro e w1 ⟨rfl,rfl⟩;go_wp2_with fail
 exact YR):P:=h
theorem kU (k:Int) (m:Bool) (r a:Int) (b:List Int) (A:Option Addr) (n c:Nat) (er rg:Int) (w:World) (f:wF w w.heap.size ⟨⟨k,m,r,a,b⟩,A,n,c⟩) (h3:k=3) (o:n=0) :
 Calls prog 193 #[xU ⟨⟨k,m,r,a,b⟩,A,n,c⟩,.int .i64 er,.int .i64 rg] w fun e p=>e=.returned (.int .i64 (yB ⟨k,m,r,a,b⟩ er rg))/\Ab w p:=by
 have l:=uA ((Below.refl w.heap.size w).alloc (Ae _) (.cells #[.int .i64 k,.bool m,.int .i64 r,.int .i64 a,.slice A n c] 123));have i:=uA ((f.below l.o).more (B':=(w.alloc (.cells #[.int .i64 k,.bool m,.int .i64 r,.int .i64 a,.slice A n c] 123)).heap.size) nF);have HX:=uA fun nq=>(show wF ((w.alloc (.cells #[.int .i64 k,.bool m,.int .i64 r,.int .i64 a,.slice A n c] 123)).drewN nq) ((w.alloc (.cells #[.int .i64 k,.bool m,.int .i64 r,.int .i64 a,.slice A n c] 123)).drewN nq).heap.size ⟨⟨k,m,r,a,b⟩,A,n,c⟩ from i.o.below (tyN (Below.refl _ _) nq))
 have HBN:=uA fun nq=>tyN l.o nq
 have g:b.length=n:=f.ok.len;have q:n<=maxLen:=Ai f.ok.nc f.ok.cm;unfold maxLen at q;clear f;subst o;have d:b=[]:=Bu g;have u:(k == 3)=true:=beq_iff_eq.2 h3;have v:(k == 4)=false:=beq_eq_false_iff_ne.2 bB;have j:Hdd (yB ⟨k,m,r,a,b⟩ er rg=if (k=3/\vD r rg=false)\/wX (uG ⟨k,m,r,a,b⟩) er=false then 3 else 0):=by
  show _=_;rw [cT bB bB,if_neg (by rw [d];simp [h3]),if_neg (show ¬(k=4/\(b.length=0\/65535 < b.length)) by omega)]
 have s:0<=k:=by omega
 have t:k<=4:=by omega
 cases hw:vD r rg
 ·clear g d;have HF:=uA (j.o.trans (if_pos (.inl ⟨h3,hw⟩)));clear h3;have HW:=uA hw;clear hw;go_enter func193,ntmps193
  go_wp2;go_quiet (fail)
  go_wp2_with (go_at_call 221;refine (qC HW.o _).mono ?_;rintro e w1 ⟨rfl,rfl⟩)
  go_ret;exact ⟨kC HF.o,HBN.o _⟩
 ·have HW:=uA hw;cases ha:wX (uG ⟨k,m,r,a,b⟩) er
  ·clear g d h3 hw;have HF:=uA (j.o.trans (if_pos (.inr ha)));exact uBk
  ·have HF:=uA (j.o.trans (if_neg (by simp [ha,hw])));clear g d h3 hw;exact uBk
theorem kY (k:Int) (m:Bool) (r d:Int) (f:List Int) (A:Option Addr) (n c:Nat) (er rg:Int) (w:World) (i:wF w w.heap.size ⟨⟨k,m,r,d,f⟩,A,n,c⟩) (l:0<=k) (o:k<=4) (p:k≠3) (a:m=true\/r≠0\/d≠0) :
 Calls prog 193 #[xU ⟨⟨k,m,r,d,f⟩,A,n,c⟩,.int .i64 er,.int .i64 rg] w fun e s=>e=.returned (.int .i64 (yB ⟨k,m,r,d,f⟩ er rg))/\Ab w s:=by
 have t:=uA ((Below.refl w.heap.size w).alloc (Ae _) (.cells #[.int .i64 k,.bool m,.int .i64 r,.int .i64 d,.slice A n c] 123));have HBN:=uA fun nq=>tyN t.o nq
 have u:f.length=n:=i.ok.len;have v:n<=maxLen:=Ai i.ok.nc i.ok.cm;unfold maxLen at v;clear i;have HF:Hdd (yB ⟨k,m,r,d,f⟩ er rg=2):=(cT l o).trans (if_pos (.inl ⟨p,a⟩));have z:(k == 3)=false:=beq_eq_false_iff_ne.2 p;have q:∃ b,(k == 4)=b:=⟨_,rfl⟩;obtain ⟨B,C⟩:=q;clear u p;cases m;rotate_left
 ·clear a;exact eS
 by_cases j:r=0;rotate_left
 ·clear a;have x:(r != 0)=true:=by rw [bne_iff_ne];exact j
  clear j;exact eS
 have g:d≠0:=by
  rcases a with h | h | h
  ·cases h
  ·exact absurd j h
  ·exact h
 have y:(d != 0)=true:=by rw [bne_iff_ne];exact g
 subst j;clear a g;exact eS
theorem DT {P:Prop} (h:P:=by
 go_enter func193,ntmps193
 go_wp2;go_quiet (fail)
 go_wp2_with fail
 refine (CR _ _ (HX.o _)).mono ?_;rintro e w1 ⟨A1,n1,c1,rfl,h1,h2,h3,h4,h5⟩;have HB1:=uA ((HBN.o _).trans (h5.mono (HBN.o _).size));have HC:=uA (gQ (c:=c1) HA.o h4 (Ai h1 h2));have f4:w1.cell? ⟨w.heap.size,4,none⟩=some (.slice A n c):=(h5.cell (p:=⟨w.heap.size,4,none⟩) (by simp [go_sem])).trans (by simp [go_sem]);clear h1 h2 h3 h4 h5;go_wp2_with fail
 refine HC.o.mono ?_;rintro e w2 ⟨rfl,rfl⟩;go_wp2;go_ret;exact ⟨kC HF.o,HB1.o⟩):P:=h
theorem kP (k:Int) (m:Bool) (r a:Int) (b:List Int) (A:Option Addr) (n c:Nat) (er rg:Int) (w:World) (f:wF w w.heap.size ⟨⟨k,m,r,a,b⟩,A,n,c⟩) (h4:k=4) (t:m=false) (u:r=0) (v:a=0) :
 Calls prog 193 #[xU ⟨⟨k,m,r,a,b⟩,A,n,c⟩,.int .i64 er,.int .i64 rg] w fun e x=>e=.returned (.int .i64 (yB ⟨k,m,r,a,b⟩ er rg))/\Ab w x:=by
 have q:=uA ((Below.refl w.heap.size w).alloc (Ae _) (.cells #[.int .i64 k,.bool m,.int .i64 r,.int .i64 a,.slice A n c] 123));have j:=uA ((f.below q.o).more (B':=(w.alloc (.cells #[.int .i64 k,.bool m,.int .i64 r,.int .i64 a,.slice A n c] 123)).heap.size) nF);have HX:=uA fun nq=>(show wF ((w.alloc (.cells #[.int .i64 k,.bool m,.int .i64 r,.int .i64 a,.slice A n c] 123)).drewN nq) ((w.alloc (.cells #[.int .i64 k,.bool m,.int .i64 r,.int .i64 a,.slice A n c] 123)).drewN nq).heap.size ⟨⟨k,m,r,a,b⟩,A,n,c⟩ from j.o.below (tyN (Below.refl _ _) nq))
 have HBN:=uA fun nq=>tyN q.o nq
 have g:b.length=n:=f.ok.len;have y:n<=maxLen:=Ai f.ok.nc f.ok.cm;unfold maxLen at y;clear f;subst t u v;have D:(k == 3)=false:=beq_eq_false_iff_ne.2 bB;have E:(k == 4)=true:=beq_iff_eq.2 h4;have s:Hdd (yB ⟨k,false,0,0,b⟩ er rg=if wX (uG ⟨k,false,0,0,b⟩) er=false then 3 else if n=0\/65535 < n then 15 else 0):=by
  show _=_;rw [cT bB bB,if_neg (by simp [h4]),g];simp [h4]
 have z:0<=k:=by omega
 have B:k<=4:=by omega
 cases ha:wX (uG ⟨k,false,0,0,b⟩) er
 ·clear g h4;have HF:=uA (s.o.trans (if_pos ha));have HA:=uA ha;clear ha;exact DT
 ·have d:=uA (s.o.trans (if_neg (by simp [ha])));have HA:=uA ha;by_cases i:n=0
  ·have HF:=uA (d.o.trans (if_pos (.inl i)));have C:((n:Int) == 0)=true:=beq_iff_eq.2 bB;clear g h4 ha i;exact DT
  ·have C:((n:Int) == 0)=false:=beq_eq_false_iff_ne.2 bB;by_cases l:65535 < n
   ·have HF:=uA (d.o.trans (if_pos (.inr l)));have o:(65535:Int) < (n:Int):=bB;clear g h4 ha i l;exact DT
   ·have HF:=uA (d.o.trans (if_neg bB));have o:¬(65535:Int) < (n:Int):=bB;clear g h4 ha i l;exact DT
theorem gJ (k:Int) (m:Bool) (r a:Int) (b:List Int) (A:Option Addr) (n c:Nat) (er rg:Int) (w:World) (f:wF w w.heap.size ⟨⟨k,m,r,a,b⟩,A,n,c⟩) (i:0<=k) (j:k<=4) (h3:k≠3) (h4:k≠4) (q:m=false) (s:r=0) (t:a=0) (u:n=0) :
 Calls prog 193 #[xU ⟨⟨k,m,r,a,b⟩,A,n,c⟩,.int .i64 er,.int .i64 rg] w fun e v=>e=.returned (.int .i64 (yB ⟨k,m,r,a,b⟩ er rg))/\Ab w v:=by
 have o:=uA ((Below.refl w.heap.size w).alloc (Ae _) (.cells #[.int .i64 k,.bool m,.int .i64 r,.int .i64 a,.slice A n c] 123));have l:=uA ((f.below o.o).more (B':=(w.alloc (.cells #[.int .i64 k,.bool m,.int .i64 r,.int .i64 a,.slice A n c] 123)).heap.size) nF);have HX:=uA fun nq=>(show wF ((w.alloc (.cells #[.int .i64 k,.bool m,.int .i64 r,.int .i64 a,.slice A n c] 123)).drewN nq) ((w.alloc (.cells #[.int .i64 k,.bool m,.int .i64 r,.int .i64 a,.slice A n c] 123)).drewN nq).heap.size ⟨⟨k,m,r,a,b⟩,A,n,c⟩ from l.o.below (tyN (Below.refl _ _) nq))
 have HBN:=uA fun nq=>tyN o.o nq
 have p:b.length=n:=f.ok.len;have x:n<=maxLen:=Ai f.ok.nc f.ok.cm;unfold maxLen at x;clear f;subst q s t u;have d:b=[]:=Bu p;have y:(k == 3)=false:=beq_eq_false_iff_ne.2 h3;have z:(k == 4)=false:=beq_eq_false_iff_ne.2 h4;have g:wX (uG ⟨k,false,0,0,b⟩) er=true:=by rw [yP h3 h4];rfl
 have HF:Hdd (yB ⟨k,false,0,0,b⟩ er rg=0):=by
  show _=_;rw [cT i j,d];rw [d] at g;simp [h3,h4,g]
 clear p d h3 h4;have HA:=uA g;clear g;go_enter func193,ntmps193
 go_wp2;go_quiet (fail)
 go_wp2_with fail
 exact YR
theorem kR (x:TyW) (er rg:Int) (w:World) (d:wF w w.heap.size x) :
 Calls prog 193 #[xU x,.int .i64 er,.int .i64 rg] w fun e q=>e=.returned (.int .i64 (yB x.t er rg))/\Ab w q:=by
 obtain ⟨⟨k,m,r,b,f⟩,A,n,c⟩:=x;by_cases s:k < 0
 ·exact kX k m r b f A n c er rg w d s
 by_cases t:4 < k
 ·exact iP k m r b f A n c er rg w d t
 by_cases i:k=3
 ·by_cases j:n=0
  ·exact kU k m r b f A n c er rg w d i j
  ·exact pN k m r b f A n c er rg w d bB bB bB (fun h=>absurd i h) bB
 by_cases a:m=true\/r≠0\/b≠0
 ·exact kY k m r b f A n c er rg w d bB bB i a
 have g:m=false:=by
  cases g:m
  ·rfl
  ·exact absurd (.inl g) a
 have l:r=0:=E1 fun h=>a (.inr (.inl h))
 have o:b=0:=E1 fun h=>a (.inr (.inr h))
 by_cases p:k=4
 ·exact kP k m r b f A n c er rg w d p g l o
 ·by_cases j:n=0
  ·exact gJ k m r b f A n c er rg w d bB bB i p g l o j
  ·exact pN k m r b f A n c er rg w d bB bB p (fun _=>⟨g,l,o⟩) bB
theorem uGa:(prog.info? 5).map (fun i=>(i.zero,i.size,i.bytes))=some (some (.int .u8 0),1,1):=by kernel_rfl
theorem uHg (w:World) (xs:List Int) (t:TypeId):Rd (w.alloc (.cells (u8s xs).toArray t)) (w.heap.size+1) (some ⟨w.heap.size,0,none⟩) xs.length (u8s xs):=
 ⟨nF,fun _=>⟨w.heap.size,0,rfl,bB,fun j u a=>by
  rw [cell_of_row (w.alloc (.cells (u8s xs).toArray t)) w.heap.size (0+j) (u8s xs).toArray t (0,0) (heap_alloc_new w _)];simpa using a⟩⟩
end Go.Proofs.YtnkjbjkoffgocaaGreatDoor
