import Derived.Test.YtnkjbjkoffgocaaGreatDoorQ5
import Derived.LoopIn
set_option linter.unusedVariables false
set_option linter.unusedSimpArgs false
set_option maxRecDepth 100000
set_option maxHeartbeats 8000000
namespace Go.Proofs.YtnkjbjkoffgocaaGreatDoor
open Tryz Go.RowKit
section
open Go.Shelf
attribute [local go_sem] Oper.semAt_some
theorem NW (n:Nat) (N:Option Addr) (x:PlW) (w:World) :
 CallsIn Fence.wide n prog 131 #[.pointer N,uV x] w fun e w'=>e=.returned (.func (.func 180) #[] #[.pointer (some ⟨w.heap.size+1,0,none⟩),.pointer (some ⟨w.heap.size,0,none⟩)])/\w'=(w.alloc (.cells #[.pointer N] 211)).alloc (.cells #[.int .i64 x.l,.slice x.A x.n x.c] 48):=by
 refine callsIn_of_wp func131 rfl trivial ?_ rfl;simp only [ntmps131,Bc,As,Br,Nat.reduceAdd,Nat.reduceSub,Ay,Az,Be,Ba,Bj,Bg];gi_wp2;go_ret;exact ⟨rfl,rfl⟩
theorem NK {n₀:Nat} {Ts:List TypeId} (n:Nat) (hn:1<=n) (s u:Nat) (x:PlW) (w:World) (C:uL w w.heap.size x) (D:Bx w u [.pointer none] 211) (E:Bx w s [.int .i64 x.l,.slice x.A x.n x.c] 48) :
 ZS n prog 180 #[.pointer (some ⟨s,0,none⟩),.pointer (some ⟨u,0,none⟩)] (fun v:Nat=>#[.pointer (some ⟨v,0,none⟩)]) (fun _ _=>False) (fun M=>M=[]) (fun _=>False) n₀ Ts w:=by
 intro l J Jx W r F N O G;have H:=uA G;have R:=uA F;have f:Bx W u [.pointer none] 211:=D.below r;have k:Bx W s [.int .i64 x.l,.slice x.A x.n x.c] 48:=E.below r;have e:=C.below r;have T:=f.q 0 rfl;have y:=k.q 1 rfl;have d:=e.prs;have g:=d.len;have p:=Ai e.nc e.cm;unfold maxLen at p;clear O G F D E r C;obtain ⟨xl,A,m,c,ps⟩:=x;simp only [] at y g p d;refine callsIn_of_wp func180 rfl trivial ?_ rfl;simp only [ntmps180,Bc,As,Br,Nat.reduceAdd,Nat.reduceSub,Ay,Az,Be,Ba,Bj,Bg];gi_wp2;gi_loopw [9] (fun i wr=>i=.int .i64 0/\wr=W) (fun _ _=>0)
 case atStart=>exact ⟨rfl,rfl⟩
 case round=>
  obtain ⟨rfl,rfl⟩:=hrel;by_cases U:0 < m
  ·obtain ⟨⟨I,K⟩,L⟩:=d.get U;obtain ⟨b,o,z,V,_,X,Y⟩:=d.at_ L;have z:A=some ⟨b,o,none⟩:=z;subst z;simp only [Fc,Dl] at X Y;have Z:(0:Int) < (m:Int):=bB;have q:=uB wr (.cells #[.int .i64 I,.int .i64 K] 52);have a0:=(f.below q).q 0 rfl;have B:=uA (R.o.alloc (.cells #[.int .i64 I,.int .i64 K] 52) H.o);clear L V q d g f k e;gi_wp2;refine ⟨fun _ h=>(by cases h),?_⟩;gi_wp2;refine bodyPost_ret (results_none rfl _ _ _) rfl ?_;exact ⟨⟨_,rfl⟩,.inl ⟨[],rfl,B.o⟩⟩
  ·obtain rfl:m=0:=by omega
   clear f k e;gi_wp2;refine ⟨fun _ h=>(by cases h),?_⟩;gi_wp2;go_end0
   exact ⟨⟨_,rfl⟩,.inl ⟨[],rfl,H.o⟩⟩
def uCn:List Nat:=[2,4]
theorem JF {n₀:Nat} {Ts:List TypeId} (T:211∈Ts) (n:Nat) (hn:1<=n) (y u N:Nat) (l:Int) (A:Option Addr) (c:Nat) (w:World) (F:Bx w u [.pointer (some ⟨N,0,none⟩)] 211) (G:Bx w y [.int .i64 l,.slice A 0 c] 48) :
 uB3 n prog 180 #[.pointer (some ⟨y,0,none⟩),.pointer (some ⟨u,0,none⟩)] (fun h:Nat=>#[.pointer (some ⟨N,h,none⟩)]) (fun k h=>uCn[k.length]?=some h) (fun U=>U=uCn) (fun k=>k.length<=2) n₀ Ts (fun W=>∃ v,W.cell? ⟨N,0,none⟩=some v) w:=by
 intro lp J H W z V X I K L;have o:=uA I;have p:=uA L;have m:Bx W u [.pointer (some ⟨N,0,none⟩)] 211:=F.below z;have q:Bx W y [.int .i64 l,.slice A 0 c] 48:=G.below z;have B:=m.q 0 rfl;have C:=q.q 1 rfl;have D:=uA m;have M:=uA K;clear I K V F G z L m q;refine callsIn_of_wp func180 rfl trivial ?_ rfl;simp only [ntmps180,Bc,As,Br,Nat.reduceAdd,Nat.reduceSub,Ay,Az,Be,Ba,Bj,Bg];gi_wp2;gi_loopw [9] (fun i wr=>i=.int .i64 0/\wr=W) (fun _ _=>0)
 case atStart=>exact ⟨rfl,rfl⟩
 case round=>
  obtain ⟨rfl,rfl⟩:=hrel;obtain ⟨fn,tmps,assign,body,E,r⟩:=o.o [] 2 wr M.o rfl;obtain ⟨v0,Y⟩:=p.o [] wr M.o;gi_wp2;refine r.mono ?_;clear E r B C;rintro e s ⟨⟨rfl,b,x⟩ | ⟨rfl,b⟩,d⟩
  case' inr=>
   have f:Hdd (H [2] s):=b;clear b d;gi_wp2;go_end0
   exact ⟨⟨_,rfl⟩,.inr ⟨_,eW,f.o⟩⟩
  have O:Bx s u [.pointer (some ⟨N,0,none⟩)] 211:=uT.typ x T D.o;have Z:=O.q 0 rfl;have b:J [2] s:=b;obtain ⟨v1,a0⟩:=p.o [2] s b;obtain ⟨fn,tmps,assign,body,E,r⟩:=o.o [2] 4 s b rfl;clear O x d b;gi_wp2;refine r.mono ?_;clear E r Z;rintro e R ⟨⟨rfl,g,x⟩ | ⟨rfl,g⟩,d⟩
  ·have f:Hdd (J uCn R):=g;clear x d g;gi_wp2;go_end0
   exact ⟨⟨_,rfl⟩,.inl ⟨_,rfl,f.o⟩⟩
  ·have f:Hdd (H [2,4] R):=g;clear d g;gi_wp2;go_end0
   exact ⟨⟨_,rfl⟩,.inr ⟨_,eW,f.o⟩⟩
end
section
variable {P:Program} {md:Region.Mode} {ops:Array Oper} {Q:Exit->Act->World->Prop} {S:World->Prop}
def AU (c:List Nat) (P:Program) (md:Region.Mode) (ops:Array Oper) (Q:Exit->Act->World->Prop) (S:World->Prop) (fuel:Nat) (b:Array Bool) (a:Act) (w:World):Prop:=wpAnyH P md ops Q S fuel b a w
theorem uJ (is:List Nat) {fuel:Nat} {b:Array Bool} {a:Act} {w:World} (h:AU is P md ops Q S fuel b a w):wpAnyH P md ops Q S fuel b a w:=h
theorem uK {fuel:Nat} {b:Array Bool} {a:Act} {w:World} (h:wpAnyH P md ops Q S fuel b a w):AU [] P md ops Q S fuel b a w:=h
theorem pT {i:Nat} {d:Option Tmp} {is:List Nat} {oi:Oper} {v:Value} {fuel:Nat} {listed:Array Bool} {a a':Act} {w:World} (hS:S w) (hi:ops[i]?=some oi)
 (h:AU is P md ops Q S fuel (listed.setIfInBounds i true) a' w)
 (hd:oi.dst=d:=by (conv=>lhs;whnf);try rfl) (hw:Region.wanted oi (yielded ops a.tmps)=true:=by rfl)
 (hy:∀ w,S w->(execOp a.eval oi).run P w=.ok (.value v) w:=by
  intro w9 hS9
  (try dsimp only at hS9)
  (first | have q1:=hcx.o _ hS9 | have q1:=hcx.o _ (Aa HW.o hS9) | have q1:=hcx.o _ (Aa HW5.o hS9) | have q1:=hcx.o _ (Aa HWo.o hS9) | have q1:=hcx.o _ (Aa HWl.o hS9) | skip)
  (first | have q2:=hty.o _ hS9 | have q2:=hty.o _ (Aa HW.o hS9) | have q2:=hty.o _ (Aa HW5.o hS9) | skip)
  (try have q3:=hel.o _ hS9)
  (try have q4:=hef.o _ hS9)
  (try have q5:=har.o _ hS9)
  go_split_ands;first | (go_simp;done) | (go_simp;with_reducible rfl))
 (ha:a.put d v=a':=by (simp only [Ac];try rfl))
 (hs:Region.noSelect ops=true:=by kernel_rfl) (hf:Region.free md ops listed i=true:=by kernel_rfl) (hr:(Region.ready md ops listed).contains i=true:=by kernel_rfl)
 (hQ:∀ c a w,Q (.panic c) (a.put d v) w->Q (.panic c) a w:=by exact fun _ _ _ h=>h):AU (i :: is) P md ops Q S (fuel+1) listed a w:=uIp hi hd hs hf hr hQ hw hy hS (by subst ha;exact h)
theorem pS {i:Nat} {d:Option Tmp} {is:List Nat} {oi:Oper} {fuel:Nat} {listed:Array Bool} {a a':Act} {w:World} (hS:S w) (hi:ops[i]?=some oi)
 (h:AU is P md ops Q S fuel (listed.setIfInBounds i true) a' w)
 (hd:oi.dst=d:=by (conv=>lhs;whnf);try rfl) (hw:Region.wanted oi (yielded ops a.tmps)=false:=by rfl)
 (ha:a.put d undef=a':=by (simp only [Ac];try rfl))
 (hs:Region.noSelect ops=true:=by kernel_rfl) (hf:Region.free md ops listed i=true:=by kernel_rfl) (hr:(Region.ready md ops listed).contains i=true:=by kernel_rfl)
 (hQ:∀ c a w,Q (.panic c) (a.put d undef) w->Q (.panic c) a w:=by exact fun _ _ _ h=>h):AU (i :: is) P md ops Q S (fuel+1) listed a w:=uHw hi hd hs hf hr hQ hw hS (by subst ha;exact h)
theorem pC {fuel:Nat} {listed:Array Bool} {a:Act} {w:World} {o:Oper} (i:Nat) (ho:ops[i]?=some o)
 (h:∀ K':Act->World->Prop,Shut (∀ a w,S w->(S w->wpAnyH P md ops Q S fuel (listed.setIfInBounds i true) a w)->K' a w)->if Region.wanted o (yielded ops a.tmps)=true then Oper.wp P o a w K' Q else K' (a.put o.dst undef) w)
 (hr:Region.ready md ops listed=[i]:=by kernel_rfl):wpAnyH P md ops Q S (fuel+1) listed a w:=wpAnyH_ready hr nF (AllReadyH.cons ho h AllReadyH.nil)
end
def wI (X:Nat) (w:World):Option Nat:=match w.cell? ⟨X,0,none⟩ with
 | some v=>v.ownBlock
 | none=>none
theorem dR {X:Nat} {w:World} {v:Value} (h:w.cell? ⟨X,0,none⟩=some v):wI X w=v.ownBlock:=by unfold wI;rw [h]
theorem yO {X:Nat} {w w':World} (h:w'.cell? ⟨X,0,none⟩=w.cell? ⟨X,0,none⟩):wI X w'=wI X w:=by unfold wI;rw [h]
theorem uA0 {w:World} {b i:Nat} {v:Value} (h:w.cell? ⟨b,i,none⟩=some v):∃ c t d,w.heap[b]?=some (.cells c t d):=by
 obtain ⟨o,e,f⟩:=cells_of_cell h;cases o with
 | cells c t d=>exact ⟨c,t,d,e⟩
 | _=>cases f
structure zT (base X:Nat) (W W':World):Prop where
 low:Below base W W'
 cells:∀ k cs t fr,W.heap[k]?=some (.cells cs t fr)->k≠X->some k≠wI X W->W'.heap[k]?=some (.cells cs t fr)
 own:wI X W'=wI X W\/∃ g,wI X W'=some g/\W.heap.size<=g
 fits:(∀ g,wI X W=some g->g < W.heap.size)->∀ g,wI X W'=some g->g < W'.heap.size
 walks:∀ (k:Nat) (o:Obj),W.heap[k]?=some o->o.isWalk=true->W'.heap[k]?=some o
theorem zT.trans {base X:Nat} {A B C:World} (h:zT base X A B) (k:zT base X B C):zT base X A C:=by
 refine ⟨h.low.trans k.low,fun b d t f c i j=>?_,?_,fun p=>k.fits (h.fits p),fun b o c l=>k.walks b o (h.walks b o c l) l⟩
 ·have q:=h.cells b d t f c i j;refine k.cells b d t f q i ?_;rcases h.own with e | ⟨g,e,m⟩
  ·rw [e];exact j
  ·rw [e];intro n;injection n with n;have:=(Ag.1 c).1;omega
 ·rcases k.own with e | ⟨g,e,m⟩
  ·rw [e];exact h.own
  ·exact .inr ⟨g,e,Ai h.low.size m⟩
theorem zT.put {base X:Nat} {w:World} (q:base<=w.heap.size) (r:X < w.heap.size) (W:World) (l:Nat) (o c:Obj) (j:w.heap.size<=l) (h:W.heap[l]?=some o) (d:o.isCells=false) (f:o.isWalk=false):zT base X W (W.putObj l c):=by
 have m:=belowK_b q W l o c j h d f;have i:=belowK_b (Ae w.heap.size) W l o c j h d f;have e:wI X (W.putObj l c)=wI X W:=yO (i.cell (p:=⟨X,0,none⟩) r);refine ⟨m,fun k v t x b _ _=>((grownBy_putObj' W l c).block k (Ag.1 b).1 (fun e=>by
  injection e with e;subst e;rw [h] at b;injection b with b;subst b;cases d)).trans b,.inl e,fun s g u=>Ap (s g (by rw [<-e];exact u)) m.size,fun k y b n=>((grownBy_putObj' W l c).block k (Ag.1 b).1 (fun e=>by
  injection e with e;subst e;rw [h] at b;injection b with b;subst b;rw [f] at n;cases n)).trans b⟩
theorem zT.cell {base X:Nat} {W c:World} (h:zT base X W c) {b i:Nat} {v:Value} (d:W.cell? ⟨b,i,none⟩=some v) (f:b≠X) (g:some b≠wI X W):c.cell? ⟨b,i,none⟩=some v:=by
 obtain ⟨j,t,k,e⟩:=uA0 d;exact (Ce (w:=W) (a:=⟨b,i,none⟩) ((h.cells b j t k e f g).trans e.symm)).trans d
structure ItX (n X:Nat) (W W':World):Prop where
 low:Below n W W'
 own:∀ g,wI X W=some g->g < W.heap.size->W'.heap[g]?=W.heap[g]?
theorem ItX.of_below {n X:Nat} {W b:World} (h:Ab W b) (c:n<=W.heap.size):ItX n X W b:=⟨h.mono c,fun g _ d=>h.block g d⟩
theorem ItX.of_grown {n X:Nat} {W b:World} {row:Option Nat} (h:W.grownBy b row) (d:n<=W.heap.size) (c:∀ k,row=some k->n<=k/\some k≠wI X W):ItX n X W b:=
 ⟨(Below.refl n W).grown h d (fun k e=>(c k e).1),fun g f i=>h.block g i (fun e=>(c g e.symm).2 f.symm)⟩
theorem sM {m:Nat} (e:Nat) {P:Program} {l:Nat} {args:Array Value} {W:World} {R:Ending->World->Prop} (h:YieldAt Fence.wide m P l args W R):YieldAt Fence.wide e P l args W R:=by
 obtain ⟨fn,tmps,assign,body,f,b⟩:=h;exact ⟨fn,tmps,assign,body,f,b.1,fun c g _=>b.2 c g (fun d h=>by cases h)⟩
def SG (n:Nat) (P:Program) (g:Nat) (lb:Array Value) (base X:Nat) (S i:List Int->Prop) (N:Nat) (w:World):Prop:=
 ∀ (l:Nat) (J d:List Int->World->Prop) (W:World),Ab w W->wI X W=none->X < W.heap.size ->
   (∀ s A B,J s A->ItX W.heap.size X A B->J s B)->(∀ s A B,d s A->ItX W.heap.size X A B->d s B) ->
   (∀ b x f,J b f->b.length < N->YieldAt Fence.wide (n - 1) P l #[.int .i64 x] f fun e c=>
    (e=.returned (.bool true)/\J (b++[x]) c/\zT base X f c)\/(e=.returned (.bool false)/\d (b++[x]) c)) ->
   J [] W ->
   CallsIn Fence.wide n P g (#[.func (.yield l) #[] #[]]++lb) W fun e c=>(∃ v,e=.returned v)/\((∃ h,S h/\J h c)\/(∃ b,i b/\d b c))
def YP {b:Type} (B X:Nat) (I:b->World->Prop):Prop:=∀ s A C,I s A->ItX B X A C->I s C
theorem qR {n:Nat} {P:Program} {g:Operand} {p:Tmp} {assign body:Code} {Q:Exit->Act->World->Prop} {a:Act} {w:World}
 (h1:1<=n) {gf:Nat} {lb:Array Value} (hg:a.eval g=.func (.func gf) #[] lb) (eg:∀ args w,(callFunc gf args).run P w=.ok (.enter gf args) w)
 {base X:Nat} {S Sp:List Int->Prop} {N:Nat} {w0:World} (U:SG (n - 1) P gf lb base X S Sp N w0) (V:Ab w0 w) (z:base<=w.heap.size) (hX:X < w.heap.size) (hO:wI X w=none)
 (I:List Int->World->Prop) (Y:Code->List Int->World->Prop) (Z:OwnFrom w.heap.size I) (F:∀ c,OwnFrom w.heap.size (Y c)) (hS:YP (w.heap.size+2) X I) (a5:∀ c,YP (w.heap.size+2) X (Y c)) (h0:I [] w) (H:Int->Act)
 (C:∀ (l:Nat) (x:Int) (W:World) (K:Act->World->Prop),K (H x) W ->
  assign.wpIn (Fence.wide.inRound l) (n - 1 - 1) P (Exit.then K (fun _ _ _=>False)) { tmps:=((#[p]:Array Tmp).zip (#[.int .i64 x]:Array Value)).foldl (fun t (p,v)=>t.setIfInBounds p v) a.tmps,defers:=[] } W)
 (J:∀ (l:Nat) (h:List Int) (x:Int) (W:World),I h W->h.length < N->body.wpIn (Fence.wide.inRound l) (n - 1 - 1) P (ownPostG w.heap.size (zT base X) I Y (h++[x]) W) (H x) W)
 (L:∀ (D:Nat) (xs:List Int) (W:World),w.heap.size<=D->S xs->I xs W->W.heap[D]?=some (.deferred (some []))->Q .normal { a with defers:={ target:=.collected D,args:=#[] } :: a.defers } W)
 (M:∀ (D:Nat) (c:Code) (h:List Int) (W:World),w.heap.size<=D->Sp h->Y c h W->W.heap[D]?=some (.deferred (some []))->c.wpIn Fence.wide n P Q { a with defers:={ target:=.collected D,args:=#[] } :: a.defers } W) :
 (Code.rangeFunc g #[p] assign body).wpIn Fence.wide n P Q a w:=by
 refine wpIn_rangeFunc ?_;intro fn a6;obtain ⟨d,f⟩:∃ d:LoopState->Option Code->Loop,d=fun st pe=>{ state:=st,pending:=pe,fn,tmps:=a.tmps,params:=#[p],assign,body,defers:=w.heap.size }:=⟨_,rfl⟩
 obtain ⟨E,q⟩:∃ E,(w.alloc (.deferred (some []))).alloc (.loop (d .ready none))=E:=⟨_,rfl⟩;have a0:E.heap.size=w.heap.size+2:=by rw [<-q];simp
 have a7:E.heap[w.heap.size+1]?=some (.loop (d .ready none)):=by
  rw [<-q];have:=E0 (w.alloc (.deferred (some []))) (.loop (d .ready none));rwa [Ak] at this
 have a8:E.heap[w.heap.size]?=some (.deferred (some [])):=by
  rw [<-q];exact (Below.heap_alloc _ _ _ nF).trans (E0 w _)
 have a9:I [] E:=by rw [<-q];exact Z.alloc _ (Z.alloc _ h0)
 have a1:Ab w E:=by rw [<-q];exact ((Below.refl _ w).alloc (Ae _) _).alloc nF _
 refine ⟨w.heap.size+1,[{ target:=.collected w.heap.size,args:=#[] }],E,{ target:=.fn (.func gf) lb,args:=#[.func (.yield (w.heap.size+1)) #[] #[]] },E,gf,
  #[.func (.yield (w.heap.size+1)) #[] #[]]++lb,E,?_,?_,fun _ _=>trivial,?_,fun _=>h1,?_⟩
 ·rw [<-q,f];exact run_enterLoop_outer _ _ _ _ _
 ·simp only [resolve,hg];simp [go_sem]
 ·simp [invoke,go_sem,eg]
 refine (U (w.heap.size+1)
  (fun h W=>I h W/\W.heap[w.heap.size+1]?=some (.loop (d .ready none))/\W.heap[w.heap.size]?=some (.deferred (some [])))
  (fun h W=>∃ c,Y c h W/\W.heap[w.heap.size+1]?=some (.loop (d .done (some c)))/\W.heap[w.heap.size]?=some (.deferred (some [])))
  E (Aa V a1) ((yO (a1.cell (p:=⟨X,0,none⟩) hX)).trans hO) bB
  (fun s A B hs r=>⟨hS s A B hs.1 (a0 ▸ r),(r.low.block _ bB).trans hs.2.1,(r.low.block _ bB).trans hs.2.2⟩)
  (fun s A B hs r=>by
   obtain ⟨c,hc,u,O⟩:=hs;exact ⟨c,a5 c s A B hc (a0 ▸ r),(r.low.block _ bB).trans u,(r.low.block _ bB).trans O⟩)
  ?_ ⟨a9,a7,a8⟩).mono ?_
 ·rintro h x W ⟨r,u,O⟩ a2;have aa:w.heap.size+1 < W.heap.size:=(Ag.1 u).1;have hy:=run_yield (P:=P) (args:=#[.int .i64 x]) u (by rw [f];rfl);rw [f] at hy;refine ⟨fn,_,assign,body,hy,roundIn_of_wpIn a6 (C _ x W _ ⟨_,run_beginRound u (by rw [f]),?_⟩)⟩;have ab:(W.putObj (w.heap.size+1) (.loop { d .ready none with state:=.busy })).heap[w.heap.size+1]?=some (.loop { d .ready none with state:=.busy }):=Es aa;have ac:(W.putObj (w.heap.size+1) (.loop { d .ready none with state:=.busy })).heap[w.heap.size]?=some (.deferred (some [])):=(Cf bB).trans O;have ad:zT base X W (W.putObj (w.heap.size+1) (.loop { d .ready none with state:=.busy })):=zT.put z hX _ _ _ _ bB u rfl rfl;refine wpIn_mono (J _ h x _ (Z.putObj _ r bB u rfl) a2) ?_;have G:∀ (b:Option Code) (y:World),KeepsFrom w.heap.size (W.putObj (w.heap.size+1) (.loop { d .ready none with state:=.busy })) y ->
   (Instr.endRound (w.heap.size+1) b).run P y=.ok (.bool b.isNone) (y.putObj (w.heap.size+1) (.loop (d (if b.isNone then .ready else .done) b))) /\
   y.heap[w.heap.size+1]?=some (.loop { d .ready none with state:=.busy }) /\
   (y.putObj (w.heap.size+1) (.loop (d (if b.isNone then .ready else .done) b))).heap[w.heap.size+1]?=some (.loop (d (if b.isNone then .ready else .done) b)) /\
   (y.putObj (w.heap.size+1) (.loop (d (if b.isNone then .ready else .done) b))).heap[w.heap.size]?=some (.deferred (some [])):=fun b y j=>by
   have i:=j.same _ _ bB ab rfl;have:=run_endRound (P:=P) b i;rw [f] at this ⊢;exact ⟨this,by rw [f] at i;exact i,Es (Ag.1 i).1,(Cf bB).trans (j.same _ _ (Ae _) ac rfl)⟩
  rintro e a3 y T;cases e with
  | normal=>
    obtain ⟨j,a4,k⟩:=T;obtain ⟨R,i,m,o⟩:=G none y j;exact ⟨_,_,R,.inl ⟨rfl,⟨Z.putObj _ k bB i rfl,m,o⟩,(ad.trans a4).trans (zT.put z hX _ _ _ _ bB i rfl rfl)⟩⟩
  | ret=>
    obtain ⟨j,k⟩:=T;obtain ⟨R,i,m,o⟩:=G (some .ret) y j;exact ⟨_,_,R,.inr ⟨rfl,.ret,(F _).putObj _ k bB i rfl,m,o⟩⟩
  | exit id=>
    obtain ⟨j,k⟩:=T;obtain ⟨R,i,m,o⟩:=G (some (.exit id)) y j;exact ⟨_,_,R,.inr ⟨rfl,.exit id,(F _).putObj _ k bB i rfl,m,o⟩⟩
  | goto t=>
    obtain ⟨j,k⟩:=T;obtain ⟨R,i,m,o⟩:=G (some (.goto t)) y j;exact ⟨_,_,R,.inr ⟨rfl,.goto t,(F _).putObj _ k bB i rfl,m,o⟩⟩
  | panic ch=>exact T.elim
  | outgrown=>exact T.elim
 ·rintro e W2 ⟨⟨v,rfl⟩,(⟨xs,hS,r,u,O⟩ | ⟨h,ae,c,r,u,O⟩)⟩
  ·exact ⟨none,_,by have:=run_endLoop (P:=P) u (by rw [f];simp);rw [f] at this;exact this,L _ xs _ (Ae _) hS (Z.putObj _ r bB u rfl) ((Cf bB).trans O)⟩
  ·exact ⟨some c,_,by have:=run_endLoop (P:=P) u (by rw [f];simp);rw [f] at this;exact this,M _ c h _ (Ae _) ae ((F c).putObj _ r bB u rfl) ((Cf bB).trans O)⟩
section
open Go.Shelf
attribute [local go_sem] Oper.semAt_some
theorem OC {α:Type} {B:Nat} {J:α->World->Prop} {s:α} {X Y:World} (h:OwnFrom B J) (j:J s X) (b:Ab X Y):J s Y:=h s X Y none j ⟨b.os,b.tape,b.output,b.size,fun i c _=>b.block i c⟩ (fun r e=>by cases e)
def mkD (D:Nat):Deferred:={ target:=.collected D,args:=#[] }
def Mk (B:Nat) (Ds:List Nat) (W:World):Prop:=Ds.Nodup/\∀ D∈Ds,B<=D/\W.heap[D]?=some (.deferred (some []))
theorem Mk.nil (B:Nat) (W:World):Mk B [] W:=⟨Ff,fun _ h=>by cases h⟩
theorem Mk.keep {B:Nat} {Ds:List Nat} {W c:World} (h:Mk B Ds W) (k:JA B W c):Mk B Ds c:=⟨h.1,fun D b=>⟨(h.2 D b).1,k D _ (h.2 D b).1 (h.2 D b).2 rfl⟩⟩
theorem Mk.below {B:Nat} {Ds:List Nat} {W c:World} (h:Mk B Ds W) (k:Ab W c):Mk B Ds c:=⟨h.1,fun D b=>⟨(h.2 D b).1,(k.block D (Ag.1 (h.2 D b).2).1).trans (h.2 D b).2⟩⟩
theorem Mk.cons {B D:Nat} {Ds:List Nat} {b W:World} (c:Mk B Ds b) (h:Mk B Ds W) (f:b.heap.size<=D) (g:B<=b.heap.size) (d:W.heap[D]?=some (.deferred (some []))):Mk B (D :: Ds) W:=
 ⟨E6.2 ⟨fun e=>by have:=(Ag.1 (c.2 D e).2).1;omega,h.1⟩,fun E hE=>by
  rcases Av.1 hE with rfl | hE
  ·exact ⟨bB,d⟩
  ·exact h.2 E hE⟩
theorem Mk.owns {B:Nat} {Ds:List Nat} {c X Y:World} {row:Option Nat} (d:Mk B Ds c) (h:Mk B Ds X) (f:X.grownBy Y row) (g:∀ r,row=some r->c.heap.size<=r):Mk B Ds Y:=
 ⟨h.1,fun D b=>⟨(h.2 D b).1,(f.block D (Ag.1 (h.2 D b).2).1 (fun e=>by have:=g D e.symm;have:=(Ag.1 (d.2 D b).2).1;omega)).trans (h.2 D b).2⟩⟩
theorem nU {F:Fence} {n:Nat} {P:Program} {fn:Func} {tmps:Array Value} {R:Ending->World->Prop} {B:Nat} {J:World->Prop} (f:∀ W D,B<=D->W.heap[D]?=some (.deferred (some []))->J W->J (W.putObj D (.deferred none)))
 (g:∀ W,J W->LeavesIn F n P fn tmps R [] .returning W):∀ (c:List Nat) (W:World),Mk B c W->J W->LeavesInM F n P fn tmps R (c.map mkD) .returning W
 | [],W,_,j=>g W j
 | D :: c,W,h,j=>by
   obtain ⟨k,i⟩:=h.2 D (F2 ..);have b:=E6.1 h.1;refine ⟨nF,.inl ⟨D,_,rfl,run_takeDeferred i,nU f g c _ ⟨b.2,fun E d=>⟨(h.2 E (Cj _ d)).1,?_⟩⟩ (f W D k i j)⟩⟩;exact (Cf (fun e=>b.1 (by rw [<-e];exact d))).trans (h.2 E (Cj _ d)).2
theorem AV (M:Option Nat) (x:PlW) (w:World) :
 Calls prog 79 #[.map M,uV x] w fun e w'=>e=.returned (.func (.func 130) #[] #[.pointer (some ⟨w.heap.size,0,none⟩),.pointer (some ⟨w.heap.size+1,0,none⟩)])/\w'=(w.alloc (.cells #[.map M] 84)).alloc (.cells #[.int .i64 x.l,.slice x.A x.n x.c] 48):=by
 go_enter func79,ntmps79
 go_wp2_with fail
 go_ret;exact ⟨rfl,rfl⟩
def jP:List Nat->List Nat
 | []=>[]
 | _ :: _=>[2]
theorem uIn (w:World):(Instr.index 227 (.agg #[.bool false,.bool true]) (.int .i64 0)).run prog w=.ok (.bool false) w:=by kernel_rfl
theorem uIg (w:World):(Instr.index 227 (.agg #[.bool false,.bool true]) (.int .i64 1)).run prog w=.ok (.bool true) w:=by kernel_rfl
theorem uGb {T:List Value} (h:T.length=24):∃ u:Nat->Value,T=[u 9,u 10,u 11,u 12,u 13,u 14,u 15,u 16,u 17,u 18,u 19,u 20,u 21,u 22,u 23,u 24,u 25,u 26,u 27,u 28,u 29,u 30,u 31,u 32]:=
 match T,h with | [D,b,c,d,e,f,g,i,j,l,m,n,o,p,q,r,s,v,x,y,z,A,B,C],_=>⟨fun k=>[D,b,c,d,e,f,g,i,j,l,m,n,o,p,q,r,s,v,x,y,z,A,B,C].getD (k - 9) undef,rfl⟩
def ovP (l b:Int) (mu:Bool) (j:Nat):List Nat:=if b=l/\(if mu then 1 else 0) < j then [2] else []
def OvI (n₀:Nat) (Ts:List TypeId) (d:World) (e f g b:Nat) (l h:Int) (mu:Bool) (J:List Nat->World->Prop) (a:Act) (w':World):Prop:=∃ (i:Int) (j:Nat) (k m:Value) (T:List Value) (c:List Nat),i=(j:Int)/\a={ tmps:=((.func (.yield e) #[] #[]:Value) :: .pointer (some ⟨f,0,none⟩) :: .pointer (some ⟨g,0,none⟩) :: .pointer (some ⟨b,0,none⟩) :: undef :: k :: m :: .agg #[.bool false,.bool true] :: .int .i64 i :: T).toArray,defers:=c.map mkD }/\T.length=24/\j<=2/\J (ovP l h mu j) w'/\Hdd (uT n₀ Ts d w')/\Mk b c w'
theorem OvI.intro {n₀:Nat} {Ts:List TypeId} {c:World} {d e f b:Nat} {l g:Int} {mu:Bool} {J:List Nat->World->Prop} {w':World} {i:Int} (j:Nat) {h k:Value} {T:List Value} {Ds:List Nat} (m:i=(j:Int)) (n:T.length=24) (o:j<=2) (p:J (ovP l g mu j) w') (q:Hdd (uT n₀ Ts c w')) (r:Mk b Ds w') :
 OvI n₀ Ts c d e f b l g mu J { tmps:=((.func (.yield d) #[] #[]:Value) :: .pointer (some ⟨e,0,none⟩) :: .pointer (some ⟨f,0,none⟩) :: .pointer (some ⟨b,0,none⟩) :: undef :: h :: k :: .agg #[.bool false,.bool true] :: .int .i64 i :: T).toArray,defers:=Ds.map mkD } w':=⟨i,j,h,k,T,Ds,m,rfl,n,o,p,q,r⟩
theorem QS {n₀:Nat} {Ts:List TypeId} (bg:84∈Ts) (bh:48∈Ts) (aq:226∈Ts) (bi:211∈Ts) (n:Nat) (hn:6<=n) (Bi Bp M N:Nat) (mu:Bool) (l:Int) (f:Int) (A:Option Addr) (c:Nat) (w:World) (hl:uH l) (hx:uL w w.heap.size ⟨f,A,0,c,[]⟩) (hI:Bx w Bi [.map (some M)] 84) (hP:Bx w Bp [.int .i64 f,.slice A 0 c] 48) :
 uB3 n prog 130 #[.pointer (some ⟨Bi,0,none⟩),.pointer (some ⟨Bp,0,none⟩)] (fun ad:Nat=>#[.pointer (some ⟨N,ad,none⟩)]) (fun G ad=>G=[]/\ad=2/\f=l) (fun xs=>xs=ovP l f mu 2) (fun G=>G=[2]/\f=l) n₀ Ts
  (fun W=>wV 214 W M (fun _=>.pointer (some ⟨N,0,none⟩)) [kZ l mu]/\(∃ v,W.cell? ⟨N,0,none⟩=some v)/\(∃ p c,W.cell? ⟨N,2,none⟩=some (.slice p 1 c))/\W.cell? ⟨N,4,none⟩=some (.slice none 0 0)) w:=by
 intro lp J Jx W hW hJ ar hY h0 hG;have bj:=uA hY;have ae:=uA hG;have HJ:=uA hJ;have au:=uA ar;have bk:=uA fun (w':World) (B:Nat)=>hx.zero w' B
 have af:=uA hx.l;have av:Bx W Bi [.map (some M)] 84:=hI.below hW;have aw:Bx W Bp [.int .i64 f,.slice A 0 c] 48:=hP.below hW;have bl:=uA av;have bm:=uA aw;have ax:=uB W (.cells #[.func (.yield lp) #[] #[]] 226);have ay:=uA ax;have HF:=uA (Bx.new W [.func (.yield lp) #[] #[]] 226);have H0:=uA (hJ.alloc (.cells #[.func (.yield lp) #[] #[]] 226) h0);clear hY h0 hJ ar hI hP hW hG av aw ax hx;refine callsIn_of_wp_marks func130 rfl trivial ?_ rfl;simp only [ntmps130,Bc,As,Br,Nat.reduceAdd,Nat.reduceSub,Ay,Az,Be,Ba,Bj,Bg];gi_wp2;refine wpIn_loop (OvI n₀ Ts (W.alloc (.cells #[.func (.yield lp) #[] #[]] 226)) lp Bi Bp W.heap.size l f mu J) (fun a _=>2 - (intOf (a.tmps.getD 8 undef)).toNat) ?_ ?_
 ·exact OvI.intro (Ds:=[]) 0 rfl rfl eW (by simpa [ovP] using H0.o) (uA (uT.refl _ _ _)) (Mk.nil _ _)
 rintro a wr ⟨i,j,v5,v6,T,Ds,bn,rfl,ac,hj,ag,HK,hM⟩;obtain ⟨u,rfl⟩:=uGb ac;clear ac;have HM:=uA hM;have a8:=uA ag;have hi:Bx wr Bi [.map (some M)] 84:=uT.typ HK.o bg (bl.o.below ay.o);have hp:Bx wr Bp [.int .i64 f,.slice A 0 c] 48:=uT.typ HK.o bh (bm.o.below ay.o);have hf:Bx wr W.heap.size [.func (.yield lp) #[] #[]] 226:=uT.typ HK.o aq HF.o;have bo:=uA hf;have az:=uA hi;have b0:=uA hp;obtain ⟨gm,⟨v0,g0⟩,⟨pp,cc,g2⟩,g4⟩:=ae.o _ wr ag;have b1:=uA gm;have bu:=uA g0;have b2:∀ b:Bool,∃ V:Option Addr,(V=if f=l/\b=mu then some ⟨N,0,none⟩ else none)/\∀ w',wV 214 w' M (fun _=>.pointer (some ⟨N,0,none⟩)) [kZ l mu]->(Instr.lookup 84 (.map (some M)) (.agg #[.int .i64 f,.bool b]) false).run prog w'=.ok (.pointer V) w':=by
  intro b;refine ⟨_,rfl,fun w' hm=>?_⟩;by_cases h:f=l/\b=mu
  ·rw [if_pos h];exact hm.look qP IK (RK _) (mT af.o b) trivial (fun _=>rfl) (fun hn=>absurd (by rw [h.1,h.2];exact An.2 rfl) hn)
  ·rw [if_neg h];exact hm.look qP IK (RK _) (mT af.o b) trivial (fun hk=>absurd (VW af.o hl (An.1 hk)) h) (fun _=>rfl)
 have b3:=uA b2;clear hM ag hp hi hf gm g0 g2 g4 b2;rcases (by omega:(j=2/\i=2)\/(j=1/\i=1)\/(j=0/\i=0)) with ⟨rfl,rfl⟩ | ⟨rfl,rfl⟩ | ⟨rfl,rfl⟩ <;> clear bn
 ·gi_wp2;refine nU (J:=J (ovP l f mu 2)) (fun W' D hD hd h=>HJ.o.putObj _ h hD hd rfl) ?_ Ds wr HM.o a8.o;intro W' h;exact ⟨_,results_none rfl _ _ _,⟨_,rfl⟩,.inl ⟨_,rfl,h⟩⟩
 case' inr.inl=>
  have ah:=uIg wr;gi_wp2;clear ah;obtain ⟨V,hV,hL⟩:=b3.o true;obtain ⟨G,I⟩:∃ z,ovP l f mu 1=z:=⟨_,rfl⟩;obtain ⟨a2,R⟩:∃ z,ovP l f mu 2=z:=⟨_,rfl⟩;rw [I] at a8;have ai:=uA (show (V=none->a2=G)/\∀ q,V=some q->f=l/\q=⟨N,0,none⟩/\G=[]/\a2=[2] by
   subst I R hV;by_cases h:f=l <;> cases mu <;> simp [ovP,h] <;> exact fun q h=>h.symm)
 case' inr.inr=>
  have ah:=uIn wr;gi_wp2;clear ah;obtain ⟨V,hV,hL⟩:=b3.o false;obtain ⟨G,I⟩:∃ z,ovP l f mu 0=z:=⟨_,rfl⟩;obtain ⟨a2,R⟩:∃ z,ovP l f mu 1=z:=⟨_,rfl⟩;rw [I] at a8;have ai:=uA (show (V=none->a2=G)/\∀ q,V=some q->f=l/\q=⟨N,0,none⟩/\G=[]/\a2=[2] by
   subst I R hV;by_cases h:f=l <;> cases mu <;> simp [ovP,h] <;> exact fun q h=>h.symm)
 all_goals
  have HV:=uA hV;have HL:=uA hL;have hcx:=uA fun (w':World) (h:Bx w' Bi [.map (some M)] 84/\Bx w' Bp [.int .i64 f,.slice A 0 c] 48/\wV 214 w' M (fun _=>.pointer (some ⟨N,0,none⟩)) [kZ l mu])=>
   And.intro (show w'.cell? ⟨Bi,0,none⟩=some (.map (some M)) from h.1.q 0 rfl) (And.intro (show w'.cell? ⟨Bp,0,none⟩=some (.int .i64 f) from h.2.1.q 0 rfl) (And.intro (show w'.cell? ⟨Bp,1,none⟩=some (.slice A 0 c) from h.2.1.q 1 rfl) (HL.o w' h.2.2)))
  clear hL hV I;have a9:=uA R;clear R;refine wpIn_mono (Q:=qT _) ?_ qT.le;refine wpIn_wide.2 ?_;refine wp_region_held_drew (S:=fun w'=>Bx w' Bi [.map (some M)] 84/\Bx w' Bp [.int .i64 f,.slice A 0 c] 48/\wV 214 w' M (fun _=>.pointer (some ⟨N,0,none⟩)) [kZ l mu]) fL ⟨az.o.below (Below.refl _ _).drew,b0.o.below (Below.refl _ _).drew,b1.o.below (Below.refl _ _).drew⟩ (fun hHeld=>?_);refine uJ [0,1,2,3,4,5,6] ?_;(iterate 7 refine pT hHeld rfl ?_);refine uK ?_;refine pC 7 rfl (fun KZ hK=>?_);go_simp;refine (callsIn_wide.1 (NW n V ⟨f,A,0,c,[]⟩ _)).mono ?_;rintro e w2 ⟨rfl,rfl⟩;have a3:=((Below.refl wr.heap.size wr).drew.trans (uB wr.drew (.cells #[.pointer V] 211))).trans ((uB (wr.drew.alloc (.cells #[.pointer V] 211)) (.cells #[.int .i64 f,.slice A 0 c] 48)).mono (Gf (Ae _) |> fun h=>by rw [Ak];exact h));have aj:=(Bx.new wr.drew [.pointer V] 211).below (uB (wr.drew.alloc (.cells #[.pointer V] 211)) (.cells #[.int .i64 f,.slice A 0 c] 48));have aa:=Bx.new (wr.drew.alloc (.cells #[.pointer V] 211)) [.int .i64 f,.slice A 0 c] 48;rw [Ak] at aa;generalize bp:(wr.drew.alloc (.cells #[.pointer V] 211)).alloc (.cells #[.int .i64 f,.slice A 0 c] 48)=w2 at a3 aj aa ⊢;clear bp;have ab:=uA a3;have b4:=uA aj;have b5:=uA aa;refine hK.out _ _ ⟨az.o.below a3,b0.o.below a3,b1.o.below a3⟩ (fun hHeld=>?_);clear hK KZ a3 aj aa;try simp only [Ac]
  refine wpAnyH_done fL ?_ _;clear hHeld hcx;simp only [qT];gi_wp2;have U:=HM.o.below ab.o;have a1:J G w2:=OC HJ.o a8.o ab.o;have ak:=uA (HK.o.trans (uT.below ab.o));have a4:=uA U;have al:W.heap.size<=w2.heap.size:=by
   have h1:=ak.o.size;rw [Ak] at h1;omega
  cases V with
  | none=>
    have hn:=ai.o.1 rfl;subst hn;refine wB bB (gf:=180) (lb:=#[.pointer (some ⟨wr.drew.heap.size+1,0,none⟩),.pointer (some ⟨wr.drew.heap.size,0,none⟩)]) rfl (enters_of func180 fL rfl)
     (NK (n₀:=n₀) (Ts:=Ts) (n - 1) bB _ _ ⟨f,A,0,c,[]⟩ w2 (bk.o _ _) b4.o b5.o) (Below.refl _ _) (fun _=>rfl)
     (fun _ W'=>(J a2 W'/\uT n₀ Ts w2 W')/\Mk W.heap.size Ds W') (fun _ _ _=>False)
     (fun s X Y a5 hs hg hr=>⟨⟨HJ.o _ X Y a5 hs.1.1 hg (fun r e=>⟨by have:=(hr r e).1;omega,(hr r e).2⟩),hs.1.2.trans (uT.recs hg (fun r e=>(hr r e).2))⟩,a4.o.owns hs.2 hg (fun r e=>(hr r e).1)⟩)
     (fun _ _ _ _ _ hs _ _=>hs) ⟨⟨a1,uT.refl _ _ _⟩,U⟩ (fun _ _ _=>True) (fun _ _ _ _ _ _ _ _ _=>True.intro) ?assign ?body ?done ?stop
    case assign=>
     intro l' a6 x' W3 K _ m;exact (show False from m).elim
    case body=>
     intro l' a6 x' a' W3 _ _ m;exact (show False from m).elim
    case stop=>
     rintro D cd a6 W3 hD b6;exact b6.elim
    case done=>
     rintro D ys W3 hD am ⟨⟨g,L⟩,C⟩ Z;have O:=uA g;have H:=uA (ak.o.trans L);have E:=uA (a4.o.cons C hD al Z);clear g L C Z U a1 am;gi_wp2;refine ⟨?_,by simp [intOf]⟩;first | exact OvI.intro (Ds:=D :: Ds) 1 rfl rfl eW (by rw [a9.o];exact O.o) H E.o | exact OvI.intro (Ds:=D :: Ds) 2 rfl rfl eW (by rw [a9.o];exact O.o) H E.o
  | some q=>
    obtain ⟨b7,rfl,rfl,rfl⟩:=ai.o.2 q rfl;have b8:=uA b7;clear b7;refine yQ bB (gf:=180) (lb:=#[.pointer (some ⟨wr.drew.heap.size+1,0,none⟩),.pointer (some ⟨wr.drew.heap.size,0,none⟩)]) rfl (enters_of func180 fL rfl)
     (JF (n₀:=n₀) (Ts:=Ts) bi (n - 1) bB _ _ N f A c w2 b4.o b5.o) (Below.refl _ _) (fun _=>rfl)
     (fun ys W'=>(J (jP ys) W'/\uT n₀ Ts w2 W')/\Mk W.heap.size Ds W') (fun cd ys W'=>(cd=.ret/\Jx [2] W')/\Mk W.heap.size Ds W')
     (fun s X Y a5 hs hg hr=>⟨⟨HJ.o _ X Y a5 hs.1.1 hg (fun r e=>⟨by have:=(hr r e).1;omega,(hr r e).2⟩),hs.1.2.trans (uT.recs hg (fun r e=>(hr r e).2))⟩,a4.o.owns hs.2 hg (fun r e=>(hr r e).1)⟩)
     (fun cd s X Y a5 hs hg hr=>⟨⟨hs.1.1,au.o _ X Y a5 hs.1.2 hg (fun r e=>⟨by have:=(hr r e).1;omega,(hr r e).2⟩)⟩,a4.o.owns hs.2 hg (fun r e=>(hr r e).1)⟩)
     ⟨⟨a1,uT.refl _ _ _⟩,U⟩ (fun ys W' h=>(ae.o _ W' h.1.1).2.1) (fun x a' _=>∃ (i:Int) (v5 v9 b9 ba bb bc:Value),a'={ tmps:=((.func (.yield lp) #[] #[]:Value) :: .pointer (some ⟨Bi,0,none⟩) :: .pointer (some ⟨Bp,0,none⟩) :: .pointer (some ⟨W.heap.size,0,none⟩) :: undef :: v5 :: .pointer (some ⟨N,x,none⟩) :: .agg #[.bool false,.bool true] :: .int .i64 i :: v9 :: b9 :: .map (some M) :: .pointer (some ⟨Bp,0,none⟩) :: .int .i64 f :: ba :: bb :: .pointer (some ⟨N,0,none⟩) :: .agg #[.int .i64 f,.slice A 0 c] :: bc :: .pointer (some ⟨N,x,none⟩) :: u 20 :: u 21 :: u 22 :: u 23 :: u 24 :: u 25 :: u 26 :: u 27 :: u 28 :: u 29 :: u 30 :: u 31 :: u 32 :: []).toArray,defers:=[] }) (fun x a' _ X Y a5 hs hg hr=>hs) ?assign ?body ?done ?stop
    case assign=>
     intro l' ys x W3 K hI m hK;have H:=uA hK;have bq:=uA hI;clear hK hI m a1 U;dsimp only;gi_wp2;exact H.o _ _ ((KeepsOthers.refl _).from _) (uT.refl _ _ _) bq.o ⟨_,_,_,_,_,_,_,rfl⟩
    case body=>
     rintro l' ys x a' W3 ⟨⟨g,L⟩,C⟩ ⟨i,v5,v9,b9,ba,bb,bc,rfl⟩ m;clear a1 U;have O:=uA g;have H:=uA L;have E:=uA C;have bd:W3.cell? ⟨W.heap.size,0,none⟩=some (.func (.yield lp) #[] #[]):=(show Bx W3 W.heap.size [.func (.yield lp) #[] #[]] 226 from uT.typ L aq (bo.o.below ab.o)).q 0 rfl;obtain ⟨gm,⟨v0,g0⟩,⟨pp,cc,g2⟩,g4⟩:=ae.o _ W3 g;clear C L gm g0;rcases ys with _ | ⟨y,_ | ⟨z,ys⟩⟩
     ·have br:x=2:=(B8 (show some 2=some x from m)).symm;subst br;have bs:=sM (n - 1 - 1 - 1) (bj.o [] 2 W3 g ⟨rfl,rfl,b8.o⟩);clear g g4 m;obtain ⟨fn,tmps,assign,body,hy,hR⟩:=bs;gi_wp2;refine ⟨fun _=>by omega,RoundIn.mono (F:=Fence.wide.inRound l') hR ?_⟩;clear hy hR g2 bd;rintro e w3 ⟨⟨rfl,a7,be⟩ | ⟨rfl,a7⟩,a0⟩
      ·have an:Hdd (KeepsFrom w2.heap.size W3 w3):=⟨a0.2,fun k o hk ho hc=>a0.1 k o bB ho hc⟩;have ao:=uA (E.o.keep a0.1);have ap:Hdd (J [2] w3):=a7;have bf:=uA be;clear a7 be a0;gi_wp2;exact ⟨an.o,bf.o,⟨ap.o,H.o.trans bf.o⟩,ao.o⟩
      ·have an:Hdd (KeepsFrom w2.heap.size W3 w3):=⟨a0.2,fun k o hk ho hc=>a0.1 k o bB ho hc⟩;have ao:=uA (E.o.keep a0.1);have ap:Hdd (Jx [2] w3):=a7;clear a7 a0;gi_wp2;exact ⟨an.o,⟨rfl,ap.o⟩,ao.o⟩
     ·have bt:x=4:=(B8 (show some 4=some x from m)).symm;subst bt;clear g2 bd m g;gi_wp2;refine ⟨fun _ h=>(by cases h),?_⟩;gi_wp2;exact ⟨(Gz _ _),uT.refl _ _ _,⟨O.o,H.o⟩,E.o⟩
     ·exact absurd m (by simp [uCn])
    case stop=>
     rintro D cd a6 W3 hD b6 ⟨⟨rfl,g⟩,C⟩ Z;have O:=uA g;have E:=uA (a4.o.cons C hD al Z);clear g C Z U a1;gi_wp2;refine nU (J:=Jx [2]) (fun W' D hD hd h=>au.o.putObj _ h hD hd rfl) ?_ (D :: Ds) W3 E.o O.o;intro W' h;exact ⟨_,results_none rfl _ _ _,⟨_,rfl⟩,.inr ⟨_,⟨rfl,b8.o⟩,h⟩⟩
    case done=>
     rintro D ys W3 hD am ⟨⟨g,L⟩,C⟩ Z;subst am;have O:Hdd (J [2] W3):=g;have H:=uA (ak.o.trans L);have E:=uA (a4.o.cons C hD al Z);clear g L C Z U a1;gi_wp2;refine ⟨?_,by simp [intOf]⟩;first | exact OvI.intro (Ds:=D :: Ds) 1 rfl rfl eW (by rw [a9.o];exact O.o) H E.o | exact OvI.intro (Ds:=D :: Ds) 2 rfl rfl eW (by rw [a9.o];exact O.o) H E.o
end
structure FsA where
 lb:Nat
 c:Nat
 E:Nat
 M:Nat
 HK:Nat
 HI:Nat
 N:Nat
 M2:Nat
 og:Nat
 oc:Nat
 pg:Nat
 pc:Nat
 rg:Int
 pt:Int
 qA:Option Addr
 qc:Nat
abbrev FsA.S (a:FsA) (b:Nat):Prop:=b=a.N\/b=a.HI
structure FsW (w:World) (mu t:Bool) (a:FsA):Prop where
 ex:Bx w a.E [.slice (some ⟨a.lb,0,none⟩) 1 a.c,.map (some a.M),.slice (some ⟨a.HK,0,none⟩) 1 1,.slice (some ⟨a.HI,0,none⟩) 1 1] 88
 mp:wV 214 w a.M (fun _=>.pointer (some ⟨a.N,0,none⟩)) [kZ 0 mu]
 nd:Bx w a.N (qF (.slice (some ⟨a.og,0,none⟩) 1 a.oc) (.slice (some ⟨a.pg,0,none⟩) 1 a.pc) (.slice none 0 0) 0 (if t then 1 else 0) 0 a.M2) 218
 pg:w.cell? ⟨a.pg,0,none⟩=some (.int .i64 0)
 ln:∀ i u,[Value.int .i64 a.rg,.int .i64 a.pt,.bool mu,.int .i64 0,.slice a.qA 0 a.qc][i]?=some u->w.cell? ⟨a.lb,i,none⟩=some u
 hk:Bx w a.HK [.slice none 0 0] 60
 hi:(t=false/\Bx w a.HI [.slice none 0 0] 60)\/(t=true/\∃ base s,OY w base a.HI s/\s.L=[0]/\s.n=1)
 d1:a.E≠a.N/\a.E≠a.HI
 d2:a.HK≠a.N/\a.HK≠a.HI
 d3:a.pg≠a.N/\a.pg≠a.HI
 d4:a.N≠a.HI
 d6:a.lb≠a.N/\a.lb≠a.HI
 d5:a.M≠a.N/\a.M≠a.HI
 qc:a.qc<=maxLen
section
variable {w w':World} {mu t:Bool} {a:FsA}
theorem FsW.hl (h:FsW w mu t a):a.N < w.heap.size/\a.HI < w.heap.size/\a.M < w.heap.size/\a.E < w.heap.size:=
 ⟨h.nd.lt,h.hi.elim (fun h=>h.2.lt) (fun ⟨_,b,s,h,_⟩=>h.lt),h.mp.lt,h.ex.lt⟩
theorem qI {p:Addr} {v:Value} (h:w.cell? p=some v):p.block < w.heap.size:=by
 obtain ⟨o,b,_⟩:=cells_of_cell h;exact (Ag.1 b).1
theorem FsW.keep (h:FsW w mu t a) (f:∀ b,b < w.heap.size->(b=a.M\/∃ d e A,w.heap[b]?=some (.cells d e A))->w'.heap[b]?=w.heap[b]?):FsW w' mu t a:=by
 have B:∀ (p:Addr) v,w.cell? p=some v->w'.cell? p=some v:=fun p v k=>by
  obtain ⟨o,C,l⟩:=cells_of_cell k;refine (Ce (w:=w) (f p.block (Ag.1 C).1 (.inr ?_))).trans k;cases o with
  | cells d e A=>exact ⟨_,_,_,C⟩
  | _=>cases l
 have c:∀ b d T,Bx w b d T->Bx w' b d T:=fun b d T c=>(f b c.lt (.inr ⟨_,_,_,c⟩)).trans c
 refine ⟨c _ _ _ h.ex,h.mp.blk (f _ h.mp.lt (.inl rfl)),c _ _ _ h.nd,B _ _ h.pg,fun i u D=>B _ _ (h.ln i u D),c _ _ _ h.hk,?_,h.d1,h.d2,h.d3,h.d4,h.d6,h.d5,h.qc⟩;rcases h.hi with ⟨e,h⟩ | ⟨e,E,s,h,F⟩
 ·exact .inl ⟨e,c _ _ _ h⟩
 ·refine .inr ⟨e,E,s,⟨(f _ h.lt (.inr ⟨_,_,_,h.blk⟩)).trans h.blk,fun j x l=>?_,h.dis⟩,F⟩;obtain ⟨G,m⟩:=h.own j x l;refine ⟨G,?_⟩;rcases m with m | ⟨g,n,q,k,y,z,r⟩
  ·exact .inl m
  ·exact .inr ⟨g,n,q,k,y,(f g (Ag.1 z).1 (.inr ⟨_,_,_,z⟩)).trans z,r⟩
theorem FsW.below (h:FsW w mu t a) (c:Ab w w'):FsW w' mu t a:=h.keep fun b d _=>c.block b d
theorem FsW.owns {B:Nat} {row:Option Nat} (h:FsW w mu t a) (k:a.M < B) (f:w.grownBy w' row) (g:∀ r,row=some r->B<=r/\∃ o:Obj,w.heap[r]?=some o/\o.isCells=false):FsW w' mu t a:=
 h.keep fun b i d=>f.block b i fun e=>by
  obtain ⟨l,o,c,j⟩:=g b e.symm;rcases d with rfl | ⟨m,e,n,d⟩
  ·omega
  ·rw [d] at c;injection c with c;subst c;cases j
theorem Turn.owns14 {S:Nat->Prop} {B:Nat} {X Y:World} {row:Option Nat} (h:Turn S w X) (b:w.heap.size<=B) (c:X.grownBy Y row) (d:∀ r,row=some r->B<=r/\∃ o:Obj,X.heap[r]?=some o/\o.isCells=false):Turn S w Y:=
 h.grown c fun k e=>.inr (Ai b (d k e).1)
theorem FsW.next (h:FsW w mu false a):Bx (w.setCell ⟨a.N,3,none⟩ (.int .i64 1)) a.N (qF (.slice (some ⟨a.og,0,none⟩) 1 a.oc) (.slice (some ⟨a.pg,0,none⟩) 1 a.pc) (.slice none 0 0) 0 1 0 a.M2) 218 /\
 ∀ b,b≠a.N->(w.setCell ⟨a.N,3,none⟩ (.int .i64 1)).heap[b]?=w.heap[b]?:=
 ⟨h.nd.set 3 (.int .i64 1),fun b c=>Below.heap_setCell w ⟨a.N,3,none⟩ _ b c⟩
theorem FsW.noted {e d:World} {base:Nat} (h:FsW w mu false a) (x:Turn a.S w e) (n:Bx e a.N (qF (.slice (some ⟨a.og,0,none⟩) 1 a.oc) (.slice (some ⟨a.pg,0,none⟩) 1 a.pc) (.slice none 0 0) 0 1 0 a.M2) 218)
 (y:CV e base a.HI ⟨none,0,0,[]⟩ 0 d) (g:e.heap.size<=base):FsW d mu true a/\Turn a.S w d:=by
 obtain ⟨z,A,B,C,D⟩:=y;have o:=D e (Turn.refl _ _) g;have c:Turn a.S w d:=x.trans (o.weak fun k E=>.inr E);have q:∀ (p:Addr) v,p.block≠a.N->p.block≠a.HI->w.cell? p=some v->d.cell? p=some v:=fun p v j l r=>
  (c.cell (qI r) (fun f=>f.elim j l)).trans r
 have s:∀ b m T,b≠a.N->b≠a.HI->Bx w b m T->Bx d b m T:=fun b m T j l g=>(c.block b g.lt (fun f=>f.elim j l)).trans g
 exact ⟨⟨s _ _ _ h.d1.1 h.d1.2 h.ex,h.mp.blk (c.block _ h.mp.lt (fun f=>f.elim h.d5.1 h.d5.2)),(o.block _ n.lt h.d4).trans n,q _ _ h.d3.1 h.d3.2 h.pg,fun i u F=>q _ _ h.d6.1 h.d6.2 (h.ln i u F),s _ _ _ h.d2.1 h.d2.2 h.hk,.inr ⟨rfl,base,z,C,A,B⟩,h.d1,h.d2,h.d3,h.d4,h.d6,h.d5,h.qc⟩,c⟩
end
theorem Mk.turn14 {S:Nat->Prop} {B:Nat} {Ds:List Nat} {W c:World} (h:Mk B Ds W) (d:Turn S W c) (e:∀ k,B<=k->¬S k):Mk B Ds c:=
 ⟨h.1,fun D b=>⟨(h.2 D b).1,(d.block D (Ag.1 (h.2 D b).2).1 (e D (h.2 D b).1)).trans (h.2 D b).2⟩⟩
theorem iN {w:World} {H:Nat} (base:Nat) (h:Bx w H [.slice none 0 0] 60):OY w base H ⟨none,0,0,[]⟩:=by
 have d:∀ (j:Nat) (s:SlW Int),[(⟨none,0,0,[]⟩:SlW Int)][j]?=some s->s=⟨none,0,0,[]⟩:=fun j s h=>An.1 (Aj h)
 refine ⟨h,fun j s c=>?_,fun i j s t _ c _ b e=>?_⟩
 ·rw [d j s c];exact Bv _ _ _ _
 ·rw [d i s c] at e;cases e
theorem uDp {w W:World} {b c d e:Obj} (f:((((w.alloc b).alloc c).alloc d).alloc e).drew=W) :
 W.heap[w.heap.size]?=some b/\W.heap[w.heap.size+1]?=some c/\W.heap[w.heap.size+1+1]?=some d/\W.heap[w.heap.size+1+1+1]?=some e/\Ab w W/\W.heap.size=w.heap.size+4:=by
 subst f;exact uGq w b c d e
def GJ (w:World) (mu:Bool) (lb c:Nat) (rg pt:Int) (b:Option Addr) (d:Nat) (W:World):Prop:=∃ a:FsA,(a.lb=lb/\a.c=c/\a.E=w.heap.size+1+1+1)/\(a.rg=rg/\a.pt=pt/\a.qA=b/\a.qc=d)/\FsW W mu false a/\(w.heap.size<=a.N/\w.heap.size<=a.HI)/\Ab w W
theorem GJ.of {w W f:World} {mu:Bool} {lb c:Nat} {rg pt:Int} {l:Option Addr} {g:Nat} {M z A:Nat} {m:World}
 (B:∀ i u,[Value.int .i64 rg,.int .i64 pt,.bool mu,.int .i64 0,.slice l 0 g][i]?=some u->w.cell? ⟨lb,i,none⟩=some u) (n:g<=maxLen)
 (H:uFb w (some ⟨lb,0,none⟩) c (w.heap.size+1+1+1) M z A W) (d:Ab W m) (I:VS m M 0 mu f):GJ w mu lb c rg pt l g f:=by
 obtain ⟨J,C,D,E,j,⟨K,n7,L,n9⟩,o,e,q,r,O,s⟩:=H;obtain ⟨N,R,U,V,X,Y,Z,i2,i3,i4,i5,i6,i7,i8,F⟩:=I;have a0:=d.size;have hW:=j.size;have e2:=C.lt;have e3:=D.lt;have e4:=E.lt;have v:∀ b x T,b≠M->Bx W b x T->Bx f b x T:=fun b x T h1 h=>(F.block b (h.below d).lt h1).trans (h.below d)
 have hM:M < m.heap.size:=Ap (J (fun _=>undef)).lt d.size;have y:lb < w.heap.size:=qI (B 0 _ rfl);have G:Ab w f:=(Aa j d).trans (F.below (Ai j.size d.size) fun k hk=>by rw [hk];exact K);exact ⟨⟨lb,c,w.heap.size+1+1+1,M,z,A,N,R,U,V,X,Y,rg,pt,l,g⟩,⟨rfl,rfl,rfl⟩,⟨rfl,rfl,rfl,rfl⟩,
  ⟨v _ _ _ r E,i7,Z,i2,fun i u hu=>(G.cell (p:=⟨lb,i,none⟩) y).trans (B i u hu),v _ _ _ o.symm C,.inl ⟨rfl,v _ _ _ e.symm D⟩,⟨by simp only [];omega,s⟩,⟨by simp only [];omega,q⟩,⟨i6,by simp only [];omega⟩,(by simp only [];omega),⟨by simp only [];omega,by simp only [];omega⟩,⟨by simp only [];omega,e⟩,n⟩,⟨by simp only [];omega,L⟩,G⟩
theorem TG (mu:Bool) (lb c:Nat) (rg pt:Int) (f:Option Addr) (b:Nat) (w:World) (X:∀ (w':World) (B:Nat),zP w' B ⟨rg,pt,mu,⟨0,f,0,b,[]⟩⟩) (K:∀ i u,[Value.int .i64 rg,.int .i64 pt,.bool mu,.int .i64 0,.slice f 0 b][i]?=some u->w.cell? ⟨lb,i,none⟩=some u) (L:b<=maxLen) :
 Calls prog 36 #[.slice (some ⟨lb,0,none⟩) 1 c] w fun e w'=>e=.returned (.pointer (some ⟨w.heap.size+1+1+1,0,none⟩))/\GJ w mu lb c rg pt f b w':=by
 have a0:∀ w':World,(Instr.makeSlice 86 (.int .i64 1) (.int .i64 1)).run prog w'=.ok (.slice (some ⟨w'.heap.size,0,none⟩) 1 1) (w'.alloc (.cells #[.slice none 0 0] 60)):=fun w'=>by kernel_rfl
 have a1:=@run_makeMap prog;have Y:=uA K;have HQ:=uA X;have E:lb < w.heap.size:=qI (K 0 _ rfl);have O:=uA E;clear K X E;go_enter func36,ntmps36
 go_wp2_with fail
 go_region;all_goals
  generalize Z:World.drew _=W;obtain ⟨n,r,s,x,l,hs⟩:=uDp Z;clear Z;have J:∃ M F G,uFb w (some ⟨lb,0,none⟩) c (w.heap.size+1+1+1) M F G W:=by
   first
   | exact ⟨w.heap.size,w.heap.size+1,w.heap.size+1+1,fun S=>wV.of_empty _ n S,r,s,x,l,bB,bB,bB,bB,bB,bB,bB⟩
   | exact ⟨w.heap.size,w.heap.size+1+1,w.heap.size+1,fun S=>wV.of_empty _ n S,s,r,x,l,bB,bB,bB,bB,bB,bB,bB⟩
   | exact ⟨w.heap.size+1,w.heap.size,w.heap.size+1+1,fun S=>wV.of_empty _ r S,n,s,x,l,bB,bB,bB,bB,bB,bB,bB⟩
   | exact ⟨w.heap.size+1,w.heap.size+1+1,w.heap.size,fun S=>wV.of_empty _ r S,s,n,x,l,bB,bB,bB,bB,bB,bB,bB⟩
   | exact ⟨w.heap.size+1+1,w.heap.size,w.heap.size+1,fun S=>wV.of_empty _ s S,n,r,x,l,bB,bB,bB,bB,bB,bB,bB⟩
   | exact ⟨w.heap.size+1+1,w.heap.size+1,w.heap.size,fun S=>wV.of_empty _ s S,r,n,x,l,bB,bB,bB,bB,bB,bB,bB⟩
  clear n r s x hs l;obtain ⟨M,F,G,J⟩:=J;have D:=uA J;clear J;go_wp2_with fail
  go_loopw [18] (fun i wr=>(i=.int .i64 0/\wr=W)\/(i=.int .i64 1/\Hdd (GJ w mu lb c rg pt f b wr))) (fun i _=>1 - (intOf i).toNat)
  case atStart=>exact .inl ⟨rfl,rfl⟩
  case round=>
   rcases hrel with ⟨rfl,rfl⟩ | ⟨rfl,HP⟩
   ·have l:=D.o.2.2.2.2.1;have g:∀ k u,[Value.int .i64 rg,.int .i64 pt,.bool mu,.int .i64 0,.slice f 0 b][k]?=some u->wr.cell? ⟨lb,k,none⟩=some u:=fun k u hu=>(l.cell (p:=⟨lb,k,none⟩) O.o).trans (Y.o k u hu)
    have z0:=g 0 _ rfl;have z1:=g 1 _ rfl;have z2:=g 2 _ rfl;have z3:=g 3 _ rfl;have z4:=g 4 _ rfl;clear g l;go_wp2_with fail
    clear z0 z1 z2 z3 z4;have m:=(uB wr (.cells #[.int .i64 rg,.int .i64 pt,.bool mu,.int .i64 0,.slice f 0 b] 50)).drew;have H:Bx (wr.alloc (.cells #[.int .i64 rg,.int .i64 pt,.bool mu,.int .i64 0,.slice f 0 b] 50)).drew wr.heap.size [.int .i64 rg,.int .i64 pt,.bool mu,.int .i64 0,.slice f 0 b] 50:=Bx.new wr [.int .i64 rg,.int .i64 pt,.bool mu,.int .i64 0,.slice f 0 b] 50;have y:Hdd (Bx (wr.alloc (.cells #[.int .i64 rg,.int .i64 pt,.bool mu,.int .i64 0,.slice f 0 b] 50)).drew (w.heap.size+1+1+1) [.slice (some ⟨lb,0,none⟩) 1 c,.map (some M),.slice (some ⟨F,0,none⟩) 1 1,.slice (some ⟨G,0,none⟩) 1 1] 88):=D.o.2.2.2.1.below m;have z:=uA H;have R:=uA m;have hcx:=uA fun (w':World) (h:Bx w' (w.heap.size+1+1+1) [.slice (some ⟨lb,0,none⟩) 1 c,.map (some M),.slice (some ⟨F,0,none⟩) 1 1,.slice (some ⟨G,0,none⟩) 1 1] 88/\Bx w' wr.heap.size [.int .i64 rg,.int .i64 pt,.bool mu,.int .i64 0,.slice f 0 b] 50)=>(show w'.cell? ⟨w.heap.size+1+1+1,1,none⟩=some (.map (some M))/\w'.cell? ⟨wr.heap.size,0,none⟩=some (.int .i64 rg)/\w'.cell? ⟨wr.heap.size,1,none⟩=some (.int .i64 pt)/\w'.cell? ⟨wr.heap.size,2,none⟩=some (.bool mu)/\w'.cell? ⟨wr.heap.size,3,none⟩=some (.int .i64 0)/\w'.cell? ⟨wr.heap.size,4,none⟩=some (.slice f 0 b) from
     ⟨h.1.q 1 rfl,h.2.q 0 rfl,h.2.q 1 rfl,h.2.q 2 rfl,h.2.q 3 rfl,h.2.q 4 rfl⟩)
    have T:=uA (MS M ⟨rg,pt,mu,⟨0,f,0,b,[]⟩⟩ _ (HQ.o (wr.alloc (.cells #[.int .i64 rg,.int .i64 pt,.bool mu,.int .i64 0,.slice f 0 b] 50)).drew _) rfl (fun S=>(D.o.1 S).below m));clear m H;refine wp_region_held_drew (S:=fun w'=>Bx w' (w.heap.size+1+1+1) [.slice (some ⟨lb,0,none⟩) 1 c,.map (some M),.slice (some ⟨F,0,none⟩) 1 1,.slice (some ⟨G,0,none⟩) 1 1] 88/\Bx w' wr.heap.size [.int .i64 rg,.int .i64 pt,.bool mu,.int .i64 0,.slice f 0 b] 50) fL ⟨y.o,z.o⟩ (fun hHeld=>?_);refine uJ [0,1,2,3,4,5] ?_;(iterate 6 refine pT hHeld rfl ?_);refine uK ?_;refine pC 6 rfl (fun KZ hK=>?_);go_simp;refine T.o.mono ?_;rintro e w5 ⟨⟨v,rfl⟩,A⟩;have U:=uA (GJ.of Y.o L D.o R.o A);have V:(w.heap.size+1+1+1)≠M:=D.o.2.2.2.2.2.2.2.2.2.1;have I:wr.heap.size≠M:=fun e=>by have:=(D.o.1 (fun _=>undef)).lt;omega
    have C:Turn (fun q=>q=M) _ w5:=(by obtain ⟨N,M2,og,oc,pg,pc,i1,i2,i3,i4,i5,i6,i7,i8,i9⟩:=A;exact i9);refine hK.out _ _ ⟨(C.block _ y.o.lt V).trans y.o,(C.block _ z.o.lt I).trans z.o⟩ (fun hHeld=>?_);clear hK KZ A C;try simp only [Ac]
    refine wpAnyH_done fL ?_ _;clear hHeld hcx;go_wp2;go_roundw
    case rel=>exact .inr ⟨by go_num,U⟩
    case measure=>simp [intOf]
   ·go_wp2_with fail
    go_ret;exact ⟨rfl,HP.o⟩
end Go.Proofs.YtnkjbjkoffgocaaGreatDoor
