import Derived.Test.YtnkjbjkoffgocaaGreatDoorQ17
set_option linter.unusedVariables false
set_option linter.unusedSimpArgs false
set_option maxRecDepth 100000
set_option maxHeartbeats 4000000
namespace Go.Proofs.YtnkjbjkoffgocaaGreatDoor
open Tryz Go.RowKit
def uGc:List (List Int):=[[2,0,2,2],[2,1,1,1],[3,0,2,2],[3,1,2,2],[3,2,2,2],[3,3,2,1],[3,4,2,1],[3,5,1,1]]
def yR:List Value:=uGc.flatten.map fun k=>.int .i64 k
def mV (w:World):Prop:=∀ (j:Nat) (u:Value),yR[j]?=some u->w.cell? ⟨0,j,none⟩=some u
theorem mV.lt {w:World} (h:mV w):0 < w.heap.size:=by
 have a:=h 0 (.int .i64 2) rfl;apply Nat.pos_of_ne_zero;intro e;have c:w.heap[0]?=none:=Dd bB;simp [World.cell?,c] at a
theorem mV.keep {w w':World} (h:mV w) (c:w'.heap[0]?=w.heap[0]?):mV w':=fun j u d=>(Ce (w:=w) (a:=⟨0,j,none⟩) c).trans (h j u d)
theorem mV.up {w w':World} (h:mV w) (a:Ab w w'):mV w':=h.keep (a.block 0 h.lt)
def aF (b N:Nat) (f:Int->Bool) (w:World):Prop:=∃ m a,w.ownsMap (H:=Unit) prog 3 (plainElem prog 4) b m a /\
 ∀ q,uH q->Maps.has a (.int .i64 q)=true->0<=q/\q < (N:Int)/\∀ z,a.atKey (.int .i64 q) z=.lit (.bool (f q))
def pY (b N:Nat) (f:Int->Int->Bool) (w:World):Prop:=∃ (M:List Pr) (m:Nat) (a:DataW Unit),w.ownsMap (H:=Unit) prog 54 (plainElem prog 4) b m a/\m<=M.length/\M.Nodup /\
 (∀ p∈M,(0<=p.1/\p.1 < (N:Int))/\0<=p.2/\p.2 < (N:Int))/\(∀ p,xH p->(Maps.has a (zB p)=true↔p∈M))/\∀ p∈M,∀ z,a.atKey (zB p) z=.lit (.bool (f p.1 p.2))
section
variable {b N:Nat} {w w':World}
theorem aF.block {f:Int->Bool} (h:aF b N f w) (a:w'.heap[b]?=w.heap[b]?):aF b N f w':=by
 obtain ⟨m,c,d,e⟩:=h;exact ⟨m,c,uN d a,e⟩
theorem pY.block {f:Int->Int->Bool} (h:pY b N f w) (a:w'.heap[b]?=w.heap[b]?):pY b N f w':=by
 obtain ⟨M,m,c,d,e⟩:=h;exact ⟨M,m,c,uN d a,e⟩
theorem aF.lt {f:Int->Bool} (h:aF b N f w):b < w.heap.size:=by
 obtain ⟨m,c,a,_⟩:=h;exact EK a
theorem pY.lt {f:Int->Int->Bool} (h:pY b N f w):b < w.heap.size:=by
 obtain ⟨M,m,c,a,_⟩:=h;exact EK a
theorem kG {H:Type} {P:Program} {k:TypeId} {R:Value->Option (DataW H×List MemPlace)} {m:Nat} {D:DataW H} (h:w.ownsMap P k R b m D) (o:Nat):w.cell? ⟨b,o,none⟩=none:=by
 obtain ⟨d,a,c,_⟩:=h;simp [World.cell?,c]
theorem aF.nocell {f:Int->Bool} (h:aF b N f w) (o:Nat):w.cell? ⟨b,o,none⟩=none:=by
 obtain ⟨m,c,a,_⟩:=h;exact kG a o
theorem pY.nocell {f:Int->Int->Bool} (h:pY b N f w) (o:Nat):w.cell? ⟨b,o,none⟩=none:=by
 obtain ⟨M,m,c,a,_⟩:=h;exact kG a o
end
theorem aF.made (w:World) (N:Nat) (f:Int->Bool):aF w.heap.size N f (w.alloc (.map #[] 0)):=
 ⟨0,.map [],Cu (H:=Unit) w prog 3 (plainElem prog 4),fun q _ h=>by simp [Maps.has] at h⟩
theorem pY.made (w:World) (N:Nat) (f:Int->Int->Bool):pY w.heap.size N f (w.alloc (.map #[] 0)):=
 ⟨[],0,.map [],Cu (H:=Unit) w prog 54 (plainElem prog 4),Ae _,Ff,(fun p a=>by cases a),(fun p _=>by simp [Maps.has]),(fun p h=>by cases h)⟩
def gT (w w':World):Prop:=w.heap.size<=w'.heap.size/\∀ (b o:Nat) (v:Value),w.cell? ⟨b,o,none⟩=some v->(∀ p,v≠.pointer p)->w'.cell? ⟨b,o,none⟩=some v
theorem Rd.noptr {w w':World} {B n:Nat} {A:Option Addr} {xs:List Value} (h:Rd w B A n xs) (c:gT w w') (d:∀ u∈xs,∀ p,u≠.pointer p):Rd w' B A n xs:=
 ⟨h.1,fun f=>by
  obtain ⟨b,o,e,g,i⟩:=h.2 f;exact ⟨b,o,e,g,fun j u a=>c.2 _ _ _ (i j u a) (d u (Aj a))⟩⟩
theorem Rel.noptr {w w':World} {B r:Nat} {ps:List Pr} {rg:Int} (h:Rel w B r ps rg) (a:gT w w'):Rel w' B r ps rg:=by
 obtain ⟨i,j,k,D,l,m,L,h⟩:=h;have d:∀ (f:List Int),∀ u∈vC f,∀ p,u≠.pointer p:=by
  intro f u c p e;obtain ⟨x,_,rfl⟩:=Bw.1 c;cases e
 exact ⟨i,j,k,D,l,m,L,h.lt,a.2 _ _ _ h.d0 (fun p e=>by cases e),a.2 _ _ _ h.d1 (fun p e=>by cases e),a.2 _ _ _ h.d2 (fun p e=>by cases e),h.nc,h.nc2,h.dec.noptr a (d _),
  h.above.noptr a (by
   intro u c p e;obtain ⟨x,_,rfl⟩:=Bw.1 c;cases e),fun x g=>⟨(h.rows x g).1.noptr a (d _),(h.rows x g).2⟩,h.rel,h.few,h.ok⟩
theorem gT.of_block {w w':World} {b:Nat} (g:w.heap.size<=w'.heap.size) (h:∀ o,w.cell? ⟨b,o,none⟩=none) (i:∀ k,k < w.heap.size->k≠b->w'.heap[k]?=w.heap[k]?):gT w w':=
 ⟨g,fun c o v d _=>by
  have j:c < w.heap.size:=by
   apply Df;intro l;have m:w.heap[c]?=none:=Dd bB;simp [World.cell?,m] at d
  have f:c≠b:=fun e=>by subst e;rw [h o] at d;cases d
  exact (Ce (w:=w) (a:=⟨c,o,none⟩) (i c j f)).trans d⟩
theorem gT.of_set {w:World} {b o:Nat} {p:Option Addr} (h:w.cell? ⟨b,o,none⟩=some (.pointer p)) (q:Option Addr):gT w (w.setCell ⟨b,o,none⟩ (.pointer q)):=
 ⟨by simp [World.setCell],fun c j v a f=>by
  have d:(⟨b,o,none⟩:Addr)≠⟨c,j,none⟩:=fun e=>by rw [<-e,h] at a;injection a with a;exact f _ a.symm
  exact (B3 _ _ _ _ d).trans a⟩
structure CkW where
 B:Nat
 g:Nat
 m1:Nat
 m2:Nat
 m3:Nat
 x:BdW
def CkW.S (K:CkW):Nat->Prop:=fun k=>k=K.g\/k=K.m1\/k=K.m2\/k=K.m3
abbrev CkW.E (K:CkW):Env:=wE K.x
abbrev CkW.ptr (K:CkW):Value:=.pointer (some ⟨K.g,0,none⟩)
def uI5 (K:CkW) (w:World):Prop:=w.cell? ⟨K.g,7,none⟩=some (.pointer none)\/∃ r,w.cell? ⟨K.g,7,none⟩=some (.pointer (some ⟨r,0,none⟩))/\Rel w w.heap.size r K.x.outl.L ((K.x.regions.L.length:Nat):Int)
structure Ck (K:CkW) (w:World):Prop where
 b0:0 < K.B
 hB:K.B<=K.g/\K.B<=K.m1/\K.B<=K.m2/\K.B<=K.m3
 lt:K.g < w.heap.size
 one:uS w K.B K.x
 ok:XX K.x.v
 few:K.x.types.n<=1000
 cells:∀ (j:Nat) (u:Value),(cBd K.x)[j]?=some u->w.cell? ⟨K.g,j,none⟩=some u
 c8:w.cell? ⟨K.g,8,none⟩=some (.map (some K.m1))
 c9:w.cell? ⟨K.g,9,none⟩=some (.map (some K.m2))
 c10:w.cell? ⟨K.g,10,none⟩=some (.map (some K.m3))
 fr:∀ j,w.frozen? ⟨K.g,j,none⟩=false
 rel:uI5 K w
 cop:aF K.m1 K.x.types.n (fun t=>mF (tys K.x.types.L) t) w
 subt:pY K.m2 K.x.types.n (fun s t=>sub (out K.x.outl.L ((K.x.regions.L.length:Nat):Int)) (tys K.x.types.L) s t) w
 outl:pY K.m3 K.x.regions.n (fun a b=>out K.x.outl.L ((K.x.regions.L.length:Nat):Int) a b) w
 m12:K.m1≠K.m2
 m13:K.m1≠K.m3
 m23:K.m2≠K.m3
 tab:mV w
theorem Ck.vb {K:CkW} {w:World} (h:Ck K w):VB w K.x:=⟨h.one.more (Ai h.hB.1 (Co h.lt)),h.ok⟩
theorem Ck.bs {K:CkW} {w:World} (h:Ck K w):K.B<=w.heap.size:=Ai h.hB.1 (Co h.lt)
theorem Ck.g1 {K:CkW} {w:World} (h:Ck K w):K.g≠K.m1:=fun e=>by have:=h.cop.nocell 8;rw [<-e,h.c8] at this;cases this
theorem Ck.g2 {K:CkW} {w:World} (h:Ck K w):K.g≠K.m2:=fun e=>by have:=h.subt.nocell 8;rw [<-e,h.c8] at this;cases this
theorem Ck.g3 {K:CkW} {w:World} (h:Ck K w):K.g≠K.m3:=fun e=>by have:=h.outl.nocell 8;rw [<-e,h.c8] at this;cases this
theorem Ck.sLt {K:CkW} {w:World} (h:Ck K w):∀ k,K.S k->k < w.heap.size:=by
 rintro k (rfl | rfl | rfl | rfl)
 ·exact h.lt
 ·exact h.cop.lt
 ·exact h.subt.lt
 ·exact h.outl.lt
theorem Ck.sB {K:CkW} {w:World} (h:Ck K w):∀ k,K.S k->K.B<=k:=by
 rintro k (rfl | rfl | rfl | rfl)
 ·exact h.hB.1
 ·exact h.hB.2.1
 ·exact h.hB.2.2.1
 ·exact h.hB.2.2.2
theorem Ck.up {K:CkW} {w w':World} (h:Ck K w) (a:Ab w w'):Ck K w':=
 ⟨h.b0,h.hB,Ap h.lt a.size,h.one.below (a.mono h.bs),h.ok,h.few,fun j u c=>(a.cell (p:=⟨K.g,j,none⟩) h.lt).trans (h.cells j u c),
  (a.cell (p:=⟨K.g,8,none⟩) h.lt).trans h.c8,(a.cell (p:=⟨K.g,9,none⟩) h.lt).trans h.c9,(a.cell (p:=⟨K.g,10,none⟩) h.lt).trans h.c10,
  fun j=>(a.frozen (p:=⟨K.g,j,none⟩) h.lt).trans (h.fr j),(by
   rcases h.rel with e | ⟨r,e,d⟩
   ·exact .inl ((a.cell (p:=⟨K.g,7,none⟩) h.lt).trans e)
   ·exact .inr ⟨r,(a.cell (p:=⟨K.g,7,none⟩) h.lt).trans e,(d.below a).more a.size⟩),
  h.cop.block (a.block _ h.cop.lt),h.subt.block (a.block _ h.subt.lt),h.outl.block (a.block _ h.outl.lt),h.m12,h.m13,h.m23,h.tab.up a⟩
theorem Ck.map {K:CkW} {w w':World} (h:Ck K w) {m:Nat} (l:m=K.m1\/m=K.m2\/m=K.m3) (f:w.grownBy w' (some m))
 (v:m=K.m1->aF K.m1 K.x.types.n (fun t=>mF (tys K.x.types.L) t) w')
 (x:m=K.m2->pY K.m2 K.x.types.n (fun s t=>sub (out K.x.outl.L ((K.x.regions.L.length:Nat):Int)) (tys K.x.types.L) s t) w')
 (y:m=K.m3->pY K.m3 K.x.regions.n (fun a b=>out K.x.outl.L ((K.x.regions.L.length:Nat):Int) a b) w'):Ck K w':=by
 have g:K.g≠m:=by rcases l with rfl | rfl | rfl;exact h.g1;exact h.g2;exact h.g3
 have z:K.B<=m:=by rcases l with rfl | rfl | rfl;exact h.hB.2.1;exact h.hB.2.2.1;exact h.hB.2.2.2
 have n:∀ o,w.cell? ⟨m,o,none⟩=none:=by rcases l with rfl | rfl | rfl;exact h.cop.nocell;exact h.subt.nocell;exact h.outl.nocell
 have c:∀ k,k < w.heap.size->k≠m->w'.heap[k]?=w.heap[k]?:=fun k c A=>f.block k c (fun e=>A (by injection e))
 have d:∀ j,w'.cell? ⟨K.g,j,none⟩=w.cell? ⟨K.g,j,none⟩:=fun j=>Ce (w:=w) (a:=⟨K.g,j,none⟩) (c _ h.lt g)
 have B:∀ j,w'.frozen? ⟨K.g,j,none⟩=w.frozen? ⟨K.g,j,none⟩:=fun j=>World.frozen?_of_block (w:=w) (a:=⟨K.g,j,none⟩) (c _ h.lt g)
 have p:Below K.B w w':=(Below.refl K.B w).grown f h.bs (fun k e=>by injection e with e;omega);have q:gT w w':=gT.of_block f.size n c;refine ⟨h.b0,h.hB,Ap h.lt f.size,h.one.below p,h.ok,h.few,fun j u C=>(d j).trans (h.cells j u C),(d 8).trans h.c8,(d 9).trans h.c9,(d 10).trans h.c10,fun j=>(B j).trans (h.fr j),?_,?_,?_,?_,h.m12,h.m13,h.m23,h.tab.keep (c 0 h.tab.lt (by have:=h.b0;omega))⟩
 ·rcases h.rel with e | ⟨r,e,D⟩
  ·exact .inl ((d 7).trans e)
  ·exact .inr ⟨r,(d 7).trans e,(D.noptr q).more f.size⟩
 ·by_cases e:m=K.m1
  ·exact v e
  ·exact h.cop.block (c _ h.cop.lt (fun i=>e i.symm))
 ·by_cases e:m=K.m2
  ·exact x e
  ·exact h.subt.block (c _ h.subt.lt (fun i=>e i.symm))
 ·by_cases e:m=K.m3
  ·exact y e
  ·exact h.outl.block (c _ h.outl.lt (fun i=>e i.symm))
theorem Ck.stored {K:CkW} {w:World} (h:Ck K w) {r:Nat} (i:Rel w w.heap.size r K.x.outl.L ((K.x.regions.L.length:Nat):Int)):Ck K (w.setCell ⟨K.g,7,none⟩ (.pointer (some ⟨r,0,none⟩))):=by
 obtain ⟨p,f⟩:∃ p,w.cell? ⟨K.g,7,none⟩=some (.pointer p):=by
  rcases h.rel with e | ⟨r,e,_⟩
  ·exact ⟨_,e⟩
  ·exact ⟨_,e⟩
 have g:(w.setCell ⟨K.g,7,none⟩ (.pointer (some ⟨r,0,none⟩))).heap.size=w.heap.size:=by simp [World.setCell]
 have a:∀ k,k≠K.g->(w.setCell ⟨K.g,7,none⟩ (.pointer (some ⟨r,0,none⟩))).heap[k]?=w.heap[k]?:=fun k a=>Below.heap_setCell w _ _ k a
 have c:∀ (b j:Nat) (u:Value),(⟨K.g,7,none⟩:Addr)≠⟨b,j,none⟩->w.cell? ⟨b,j,none⟩=some u->(w.setCell ⟨K.g,7,none⟩ (.pointer (some ⟨r,0,none⟩))).cell? ⟨b,j,none⟩=some u:=fun b j u l d=>(B3 _ _ _ _ l).trans d
 refine ⟨h.b0,h.hB,g.symm ▸ h.lt,h.one.below ((Below.refl K.B w).setCell (p:=⟨K.g,7,none⟩) h.hB.1 _),h.ok,h.few,fun j u d=>c _ _ _ (fun e=>?_) (h.cells j u d),c _ _ _ (fun e=>by injection e with _ e;cases e) h.c8,c _ _ _ (fun e=>by injection e with _ e;cases e) h.c9,c _ _ _ (fun e=>by injection e with _ e;cases e) h.c10,fun j=>(Ev _ _ _ _).trans (h.fr j),.inr ⟨r,Dk _ _ _ f,?_⟩,h.cop.block (a _ (G6 h.g1)),h.subt.block (a _ (G6 h.g2)),h.outl.block (a _ (G6 h.g3)),h.m12,h.m13,h.m23,h.tab.keep (a 0 (by have:=h.b0;have:=h.hB.1;omega))⟩
 ·injection e with _ e;have m:j < (cBd K.x).length:=(Ah.1 d).1;rw [uDb] at m;omega
 ·rw [g];exact i.noptr (gT.of_set f _)
structure Wy (K:CkW) (w w':World):Prop where
 turn:Turn K.S w w'
 ck:Ck K w'
theorem Wy.refl {K:CkW} {w:World} (h:Ck K w):Wy K w w:=⟨Turn.refl _ _,h⟩
theorem Wy.trans {K:CkW} {w w' a:World} (h:Wy K w w') (k:Wy K w' a):Wy K w a:=⟨h.turn.trans k.turn,k.ck⟩
theorem Wy.up {K:CkW} {w w' a:World} (h:Wy K w w') (c:Ab w' a):Wy K w a:=⟨h.turn.trans (Turn.of_below c),h.ck.up c⟩
theorem Wy.new {K:CkW} {w w':World} (h:Ck K w) (a:Ab w w'):Wy K w w':=⟨Turn.of_below a,h.up a⟩
theorem Wy.low {K:CkW} {w w':World} (a:Ck K w) (h:Wy K w w'):Below K.B w w':=h.turn.below a.bs a.sB
theorem Wy.box {K:CkW} {w w':World} {cs:List Value} {T:TypeId} (a:Ck K w) (h:Wy K (w.alloc (.cells cs.toArray T)) w'):∀ (j:Nat) (u:Value),cs[j]?=some u->w'.cell? ⟨w.heap.size,j,none⟩=some u:=fun j u c=>
 (h.turn.cell (p:=⟨w.heap.size,j,none⟩) nF (fun d=>Cg _ (a.sLt _ d))).trans ((uE (heap_alloc_new w _) j).trans (by rw [C9];exact c))
theorem wy4 {K:CkW} {w w':World} {a d e f:Value} {T:TypeId} (g:Ck K w) (h:Wy K (w.alloc (.cells #[a,d,e,f] T)) w'):w'.cell? ⟨w.heap.size,0,none⟩=some a/\w'.cell? ⟨w.heap.size,1,none⟩=some d/\w'.cell? ⟨w.heap.size,2,none⟩=some e/\w'.cell? ⟨w.heap.size,3,none⟩=some f:=by
 have c:=Wy.box (cs:=[a,d,e,f]) g h;exact ⟨c 0 _ rfl,c 1 _ rfl,c 2 _ rfl,c 3 _ rfl⟩
theorem wy6 {K:CkW} {w w':World} {a d e f g i:Value} {T:TypeId} (j:Ck K w) (h:Wy K (w.alloc (.cells #[a,d,e,f,g,i] T)) w'):w'.cell? ⟨w.heap.size,0,none⟩=some a/\w'.cell? ⟨w.heap.size,1,none⟩=some d/\w'.cell? ⟨w.heap.size,2,none⟩=some e/\w'.cell? ⟨w.heap.size,3,none⟩=some f/\w'.cell? ⟨w.heap.size,4,none⟩=some g/\w'.cell? ⟨w.heap.size,5,none⟩=some i:=by
 have c:=Wy.box (cs:=[a,d,e,f,g,i]) j h;exact ⟨c 0 _ rfl,c 1 _ rfl,c 2 _ rfl,c 3 _ rfl,c 4 _ rfl,c 5 _ rfl⟩
theorem wy7 {K:CkW} {w w':World} {a d e f g i j:Value} {T:TypeId} (k:Ck K w) (h:Wy K (w.alloc (.cells #[a,d,e,f,g,i,j] T)) w'):w'.cell? ⟨w.heap.size,0,none⟩=some a/\w'.cell? ⟨w.heap.size,1,none⟩=some d/\w'.cell? ⟨w.heap.size,2,none⟩=some e/\w'.cell? ⟨w.heap.size,3,none⟩=some f/\w'.cell? ⟨w.heap.size,4,none⟩=some g/\w'.cell? ⟨w.heap.size,5,none⟩=some i/\w'.cell? ⟨w.heap.size,6,none⟩=some j:=by
 have c:=Wy.box (cs:=[a,d,e,f,g,i,j]) k h;exact ⟨c 0 _ rfl,c 1 _ rfl,c 2 _ rfl,c 3 _ rfl,c 4 _ rfl,c 5 _ rfl,c 6 _ rfl⟩
theorem EZ {K:CkW} {w w':World} {d e f g i j k l m n a:Value} {T:TypeId} (o:Ck K w) (h:Wy K (w.alloc (.cells #[d,e,f,g,i,j,k,l,m,n,a] T)) w'):w'.cell? ⟨w.heap.size,0,none⟩=some d/\w'.cell? ⟨w.heap.size,1,none⟩=some e/\w'.cell? ⟨w.heap.size,2,none⟩=some f/\w'.cell? ⟨w.heap.size,3,none⟩=some g/\w'.cell? ⟨w.heap.size,4,none⟩=some i/\w'.cell? ⟨w.heap.size,5,none⟩=some j/\w'.cell? ⟨w.heap.size,6,none⟩=some k/\w'.cell? ⟨w.heap.size,7,none⟩=some l/\w'.cell? ⟨w.heap.size,8,none⟩=some m/\w'.cell? ⟨w.heap.size,9,none⟩=some n/\w'.cell? ⟨w.heap.size,10,none⟩=some a:=by
 have c:=Wy.box (cs:=[d,e,f,g,i,j,k,l,m,n,a]) o h;exact ⟨c 0 _ rfl,c 1 _ rfl,c 2 _ rfl,c 3 _ rfl,c 4 _ rfl,c 5 _ rfl,c 6 _ rfl,c 7 _ rfl,c 8 _ rfl,c 9 _ rfl,c 10 _ rfl⟩
theorem Wy.drew {K:CkW} {w w':World} (h:Wy K w w'):Wy K w w'.drew:=⟨h.turn.drew,h.ck.up (Below.refl _ _).drew⟩
def noB (r:RvV):Bool:=decide (r.region=0) && !r.mut_ && noP r.pl
theorem uHe (r:RvV):noR r=(decide (r.kind=0) && decide (r.op=0) && decide (r.args.length=0) && noB r):=by
 unfold noR noB;cases decide (r.kind=0) <;> cases decide (r.op=0) <;> cases decide (r.region=0) <;> cases r.mut_ <;> cases noP r.pl <;> cases decide (r.args.length=0) <;> rfl
theorem SU {r:RvV}:(r.region≠0\/r.mut_=true\/noP r.pl=false)↔noB r=false:=by
 unfold noB;by_cases h:r.region=0 <;> cases r.mut_ <;> cases noP r.pl <;> simp [h]
theorem uA7 (r:RvV):mL r=if r.kind < 0\/4 < r.kind then 14
 else if (r.kind≠2/\r.kind≠3/\r.op≠0)\/(r.kind≠1/\noB r=false)\/(r.kind=1/\0 < r.args.length) then 2
 else if ((r.kind=0\/r.kind=2)/\r.args.length≠1)\/(r.kind=3/\r.args.length≠2) then 2
 else 0:=by
 unfold mL;simp only [SU]
theorem ZZ {P:Prop} (h:P:=by
 go_enter func197,ntmps197
 go_wp2;go_ret;exact ⟨congrArg (fun v=>Ending.returned (.bool v)) HF.o.symm,rfl⟩):P:=h
theorem IM (i n:Int) (w:World) :
 Calls prog 197 #[.int .i64 i,.int .i64 n] w fun e w'=>e=.returned (.bool (vD i n))/\w=w':=by
 by_cases a:0<=i
 ·by_cases c:i < n
  ·have HF:Hdd (vD i n=true):=uW.2 ⟨a,c⟩;exact ZZ
  ·have HF:Hdd (vD i n=false):=wP.2 fun h=>c h.2;exact ZZ
 ·have HF:Hdd (vD i n=false):=wP.2 fun h=>a h.1;exact ZZ
theorem xE {i n:Int} {v:Bool} (h:vD i n=v) (w:World) :
 Calls prog 197 #[.int .i64 i,.int .i64 n] w fun e w'=>e=.returned (.bool v)/\w=w':=h ▸ IM i n w
theorem uAq {P:Prop} (h:P:=by
 go_enter func198,ntmps198
 go_wp2;go_ret;exact ⟨rfl,HB.o⟩):P:=h
theorem TE (x:PlW) (w:World) (f:uL w w.heap.size x) :
 Calls prog 198 #[uV x] w fun e w'=>e=.returned (.bool (noP x.v))/\Ab w w':=by
 obtain ⟨l,A,n,c,g⟩:=x;have i:g.length=n:=f.prs.len;have HB:=uA (uB w (.cells #[.int .i64 l,.slice A n c] 48));have j:noP (PlW.v ⟨l,A,n,c,g⟩)=(decide (l=0) && decide (n=0)):=by
  unfold noP PlW.v;simp only [];rw [i]
 rw [j];clear j i f;by_cases a:l=0
 ·have k:(l == 0)=true:=by simpa using a
  by_cases d:n=0
  ·have m:((n:Int) == 0)=true:=(by simp [d]);have e:(decide (l=0) && decide (n=0))=true:=(by simp [a,d]);rw [e];clear e a d;exact uAq
  ·have m:((n:Int) == 0)=false:=by rw [beq_eq_false_iff_ne];omega
   have e:(decide (l=0) && decide (n=0))=false:=(by simp [d]);rw [e];clear e a d;exact uAq
 ·have k:(l == 0)=false:=by simpa using a
  have e:(decide (l=0) && decide (n=0))=false:=by simp [a]
  rw [e];clear e a;exact uAq
theorem oQ {x:PlW} {v:Bool} (h:noP x.v=v) (w:World) (a:uL w w.heap.size x) :
 Calls prog 198 #[uV x] w fun e w'=>e=.returned (.bool v)/\Ab w w':=h ▸ TE x w a
theorem CQ {P:Prop} (h:P:=by
 rintro e w1 ⟨rfl,hb1⟩;have HW1:=uA hb1;clear hb1;have HE1:=uA (Aa HB.o HW1.o);obtain ⟨x0,x1,x2,x3,x4,x5,x6⟩:=xB HW1.o;go_wp2;go_ret;exact ⟨rfl,HE1.o⟩):P:=h
theorem ZD {P:Prop} (h:P:=by
 clear h2 hv;go_enter func234,ntmps234
 go_wp2_with fail
 refine (oQ (x:=⟨l,pA,pn,pc,ps⟩) hz _ HX.o.pl).mono ?_;exact CQ):P:=h
theorem uBq (x:RvW) (w:World) (h:zR w w.heap.size x) :
 Calls prog 234 #[eH x] w fun e w'=>e=.returned (.bool (noB x.v))/\Ab w w':=by
 obtain ⟨k,i,a,d,⟨l,pA,pn,pc,ps⟩,⟨j,f,m,g⟩⟩:=x;have c:g.length=f:=h.args.len;obtain ⟨v,hv⟩:∃ v,noB (RvW.v ⟨k,i,a,d,⟨l,pA,pn,pc,ps⟩,⟨j,f,m,g⟩⟩)=v:=⟨_,rfl⟩;rw [hv];unfold noB at hv;simp only [RvW.v,Ao,c] at hv;clear c;have HB:=uA (uB w (.cells (cRv ⟨k,i,a,d,⟨l,pA,pn,pc,ps⟩,⟨j,f,m,g⟩⟩).toArray 67));have HX:=uA (h.up HB.o);clear h;by_cases h2:a=0
 ·have n:(a == 0)=true:=by simp [h2]
  cases d
  ·by_cases hz:noP (PlW.v ⟨l,pA,pn,pc,ps⟩)=true
   ·obtain rfl:v=true:=by
     rw [<-hv];simp [h2,hz]
    exact ZD
   ·have hz:noP (PlW.v ⟨l,pA,pn,pc,ps⟩)=false:=(by simpa using hz);obtain rfl:v=false:=by
     rw [<-hv];simp [h2,hz]
    exact ZD
  ·obtain rfl:v=false:=by
    rw [<-hv];simp []
   clear h2 hv;go_enter func234,ntmps234
   go_wp2;go_ret;exact ⟨rfl,HB.o⟩
 ·have n:(a == 0)=false:=by simp [h2]
  obtain rfl:v=false:=by
   rw [<-hv];simp [h2]
  clear h2 hv;go_enter func234,ntmps234
  go_wp2;go_ret;exact ⟨rfl,HB.o⟩
theorem iE {x:RvW} {v:Bool} (h:noB x.v=v) (w:World) (a:zR w w.heap.size x) :
 Calls prog 234 #[eH x] w fun e w'=>e=.returned (.bool v)/\Ab w w':=h ▸ uBq x w a
theorem uFj {P:Prop} (h:P:=by
 clear h0 h1 h2 hv;go_enter func199,ntmps199
 go_wp2_with fail
 refine (iE (x:=⟨k,op,rg,mu,⟨l,pA,pn,pc,ps⟩,⟨gA,gn,gc,gL⟩⟩) hN _ HX.o).mono ?_;exact CQ):P:=h
theorem XL {P:Prop} (h:P:=by
 go_enter func199,ntmps199
 go_wp2;go_ret;exact ⟨rfl,HB.o⟩):P:=h
theorem KL (x:RvW) (w:World) (h:zR w w.heap.size x) :
 Calls prog 199 #[eH x] w fun e w'=>e=.returned (.bool (noR x.v))/\Ab w w':=by
 obtain ⟨k,op,rg,mu,⟨l,pA,pn,pc,ps⟩,⟨gA,gn,gc,gL⟩⟩:=x;have a:gL.length=gn:=h.args.len;obtain ⟨v,hv⟩:∃ v,noR (RvW.v ⟨k,op,rg,mu,⟨l,pA,pn,pc,ps⟩,⟨gA,gn,gc,gL⟩⟩)=v:=⟨_,rfl⟩;rw [hv];rw [uHe] at hv;simp only [RvW.v,Ao,a] at hv;clear a;generalize hN:noB (RvV.mk k op rg mu (PlW.v ⟨l,pA,pn,pc,ps⟩) (gL.map OpW.v))=c at hv;have hN:noB (RvW.v ⟨k,op,rg,mu,⟨l,pA,pn,pc,ps⟩,⟨gA,gn,gc,gL⟩⟩)=c:=hN;have HB:=uA (uB w (.cells (cRv ⟨k,op,rg,mu,⟨l,pA,pn,pc,ps⟩,⟨gA,gn,gc,gL⟩⟩).toArray 67));have HX:=uA (h.up HB.o);clear h;by_cases h0:k=0
 ·have d:(k == 0)=true:=by simp [h0]
  by_cases h1:op=0
  ·have f:(op == 0)=true:=(by simp [h1]);by_cases h2:gn=0
   ·have g:((gn:Int) == 0)=true:=(by simp [h2]);cases c
    ·obtain rfl:v=false:=by
      rw [<-hv];simp []
     exact uFj
    ·obtain rfl:v=true:=by
      rw [<-hv];simp [h0,h1,h2]
     exact uFj
   ·have g:((gn:Int) == 0)=false:=by rw [beq_eq_false_iff_ne];omega
    obtain rfl:v=false:=by
     rw [<-hv];simp [h2]
    clear h0 h1 h2 hv;exact XL
  ·have f:(op == 0)=false:=(by simp [h1]);obtain rfl:v=false:=by
    rw [<-hv];simp [h1]
   clear h0 h1 hv;exact XL
 ·have d:(k == 0)=false:=by simp [h0]
  obtain rfl:v=false:=by
   rw [<-hv];simp [h0]
  clear h0 hv;exact XL
theorem eX {x:RvW} {v:Bool} (h:noR x.v=v) (w:World) (a:zR w w.heap.size x) :
 Calls prog 199 #[eH x] w fun e w'=>e=.returned (.bool v)/\Ab w w':=h ▸ KL x w a
theorem RE {P:Prop} (h:P:=by
 go_enter func236,ntmps236
 go_wp2;go_ret;exact ⟨rfl,HB.o⟩):P:=h
theorem uBf {P:Prop} (h:P:=by
 go_enter func236,ntmps236
 go_wp2_with fail
 refine (iE (x:=⟨0,op,rg,mu,⟨l,pA,pn,pc,ps⟩,⟨gA,gn,gc,gL⟩⟩) hN _ HX.o).mono ?_;exact CQ):P:=h
theorem YQ {P:Prop} (h:P:=by
 go_enter func236,ntmps236
 go_wp2_with fail
 refine (iE (x:=⟨2,op,rg,mu,⟨l,pA,pn,pc,ps⟩,⟨gA,gn,gc,gL⟩⟩) hN _ HX.o).mono ?_;exact CQ):P:=h
theorem WW {P:Prop} (h:P:=by
 go_enter func236,ntmps236
 go_wp2_with fail
 refine (iE (x:=⟨3,op,rg,mu,⟨l,pA,pn,pc,ps⟩,⟨gA,gn,gc,gL⟩⟩) hN _ HX.o).mono ?_;exact CQ):P:=h
theorem uFc {P:Prop} (h:P:=by
 clear hop hv;go_enter func236,ntmps236
 go_wp2_with fail
 refine (iE (x:=⟨4,op,rg,mu,⟨l,pA,pn,pc,ps⟩,⟨gA,gn,gc,gL⟩⟩) hN _ HX.o).mono ?_;exact CQ):P:=h
theorem ON {P:Prop} (h:P:=by
 have top:(op == 0)=false:=by simp [hop]
 obtain rfl:v=2:=by
  rw [<-hv];simp [hop]
 clear hop hv;exact RE):P:=h
theorem uC8 (x:RvW) (w:World) (h:zR w w.heap.size x) :
 Calls prog 236 #[eH x] w fun e w'=>e=.returned (.int .i64 (mL x.v))/\Ab w w':=by
 obtain ⟨k,op,rg,mu,⟨l,pA,pn,pc,ps⟩,⟨gA,gn,gc,gL⟩⟩:=x;have d:gL.length=gn:=h.args.len;obtain ⟨v,hv⟩:∃ v,mL (RvW.v ⟨k,op,rg,mu,⟨l,pA,pn,pc,ps⟩,⟨gA,gn,gc,gL⟩⟩)=v:=⟨_,rfl⟩;rw [hv];rw [uA7] at hv;simp only [RvW.v,Ao,d] at hv;clear d;generalize hN:noB (RvV.mk k op rg mu (PlW.v ⟨l,pA,pn,pc,ps⟩) (gL.map OpW.v))=f at hv;have hN:noB (RvW.v ⟨k,op,rg,mu,⟨l,pA,pn,pc,ps⟩,⟨gA,gn,gc,gL⟩⟩)=f:=hN;by_cases j:0<=k/\k<=4
 ·have j:k=0\/k=1\/k=2\/k=3\/k=4:=by omega
  rcases j with rfl | rfl | rfl | rfl | rfl
  ·-- kind 0
   have HB:=uA (uB w (.cells (cRv ⟨0,op,rg,mu,⟨l,pA,pn,pc,ps⟩,⟨gA,gn,gc,gL⟩⟩).toArray 67));have HX:=uA (h.up HB.o);clear h;by_cases hop:op=0
   ·have top:(op == 0)=true:=(by simp [hop]);cases f
    ·obtain rfl:v=2:=by
      rw [<-hv];simp [hop]
     clear hop hv;exact uBf
    ·by_cases a:gn=1
     ·have c:((gn:Int) == 1)=true:=(by simp [a]);obtain rfl:v=0:=by
       rw [<-hv];simp [hop,a]
      clear hop a hv;exact uBf
     ·have c:((gn:Int) == 1)=false:=by rw [beq_eq_false_iff_ne];omega
      obtain rfl:v=2:=by
       rw [<-hv];simp [hop,a]
      clear hop a hv;exact uBf
   ·exact ON
  ·-- kind 1
   have HB:=uA (uB w (.cells (cRv ⟨1,op,rg,mu,⟨l,pA,pn,pc,ps⟩,⟨gA,gn,gc,gL⟩⟩).toArray 67));have HX:=uA (h.up HB.o);clear h;by_cases hop:op=0
   ·have top:(op == 0)=true:=(by simp [hop]);by_cases a:gn=0
    ·have c:((gn:Int) == 0)=true:=(by simp [a]);obtain rfl:v=0:=by
      rw [<-hv];simp [hop,a]
     clear hop a hv;exact RE
    ·have c:((gn:Int) == 0)=false:=by rw [beq_eq_false_iff_ne];omega
     have g:0 < gn:=bB;obtain rfl:v=2:=by
      rw [<-hv];simp [hop,a,g]
     clear hop a g hv;exact RE
   ·exact ON
  ·-- kind 2
   have HB:=uA (uB w (.cells (cRv ⟨2,op,rg,mu,⟨l,pA,pn,pc,ps⟩,⟨gA,gn,gc,gL⟩⟩).toArray 67));have HX:=uA (h.up HB.o);clear h;cases f
   ·obtain rfl:v=2:=by
     rw [<-hv];simp []
    clear hv;exact YQ
   ·by_cases a:gn=1
    ·have c:((gn:Int) == 1)=true:=(by simp [a]);obtain rfl:v=0:=by
      rw [<-hv];simp [a]
     clear a hv;exact YQ
    ·have c:((gn:Int) == 1)=false:=by rw [beq_eq_false_iff_ne];omega
     obtain rfl:v=2:=by
      rw [<-hv];simp [a]
     clear a hv;exact YQ
  ·-- kind 3
   have HB:=uA (uB w (.cells (cRv ⟨3,op,rg,mu,⟨l,pA,pn,pc,ps⟩,⟨gA,gn,gc,gL⟩⟩).toArray 67));have HX:=uA (h.up HB.o);clear h;cases f
   ·obtain rfl:v=2:=by
     rw [<-hv];simp []
    clear hv;exact WW
   ·by_cases a:gn=2
    ·have c:((gn:Int) == 2)=true:=(by simp [a]);obtain rfl:v=0:=by
      rw [<-hv];simp [a]
     clear a hv;exact WW
    ·have c:((gn:Int) == 2)=false:=by rw [beq_eq_false_iff_ne];omega
     obtain rfl:v=2:=by
      rw [<-hv];simp [a]
     clear a hv;exact WW
  ·-- kind 4
   have HB:=uA (uB w (.cells (cRv ⟨4,op,rg,mu,⟨l,pA,pn,pc,ps⟩,⟨gA,gn,gc,gL⟩⟩).toArray 67));have HX:=uA (h.up HB.o);clear h;by_cases hop:op=0
   ·have top:(op == 0)=true:=(by simp [hop]);cases f
    ·obtain rfl:v=2:=by
      rw [<-hv];simp [hop]
     exact uFc
    ·obtain rfl:v=0:=by
      rw [<-hv];simp [hop]
     exact uFc
   ·exact ON
 ·have i:k < 0\/4 < k:=by omega
  rw [if_pos i] at hv;subst hv;have m:(k == 0)=false:=by rw [beq_eq_false_iff_ne];omega
  have n:(k == 1)=false:=by rw [beq_eq_false_iff_ne];omega
  have o:(k == 2)=false:=by rw [beq_eq_false_iff_ne];omega
  have p:(k == 3)=false:=by rw [beq_eq_false_iff_ne];omega
  have q:(k == 4)=false:=by rw [beq_eq_false_iff_ne];omega
  clear j i;have HB:=uA (uB w (.cells (cRv ⟨k,op,rg,mu,⟨l,pA,pn,pc,ps⟩,⟨gA,gn,gc,gL⟩⟩).toArray 67));have HX:=uA (h.up HB.o);clear h;exact RE
theorem jE {x:RvW} {v:Int} (h:mL x.v=v) (w:World) (a:zR w w.heap.size x) :
 Calls prog 236 #[eH x] w fun e w'=>e=.returned (.int .i64 v)/\Ab w w':=h ▸ uC8 x w a
theorem wK {K:CkW} {p:PlW} {u v:Int} {w:World} (h:Ck K w) (r:uL w K.B p) (s:tyV K.E p.v=(u,v)) :
 Calls prog 244 #[K.ptr,uV p] w fun e w'=>e=.returned (.tuple #[.int .i64 u,.int .i64 v])/\Ab w w':=by
 obtain ⟨B,g,F,G,H,⟨I,⟨J,L,M,O⟩,⟨P,on,Q,R⟩,⟨t,x,m,S⟩,⟨y,z,n,T⟩,U,⟨V,W,X,Y⟩⟩⟩:=K;obtain ⟨l,a,c,d,A⟩:=p;have k:=uA (uB w (.cells #[.int .i64 l,.slice a c d] 48));have j:uL w w.heap.size ⟨l,a,c,d,A⟩:=r.more h.bs;clear r;have C:=uA (j.up k.o);clear j;have o:=uA (h.up k.o);clear h;have D:=uA fun (w':World) (f:Ab (w.alloc (.cells #[.int .i64 l,.slice a c d] 48)) w')=>iT (ct:=m) (cl:=n) (((o.o.up f).vb).pl8 (C.o.up f)) s
 clear s;have i:=uA fun (w':World) (f:Ab (w.alloc (.cells #[.int .i64 l,.slice a c d] 48)) w')=>(show w'.cell? ⟨g,3,none⟩=some (.slice t x m)/\w'.cell? ⟨g,4,none⟩=some (.slice y z n)/\w'.cell? ⟨w.heap.size,0,none⟩=some (.int .i64 l)/\w'.cell? ⟨w.heap.size,1,none⟩=some (.slice a c d) from
  ⟨(o.o.up f).cells 3 _ rfl,(o.o.up f).cells 4 _ rfl,wR (cs:=[.int .i64 l,.slice a c d]) f 0 _ rfl,wR (cs:=[.int .i64 l,.slice a c d]) f 1 _ rfl⟩)
 go_enter func244,ntmps244
 go_wp2;go_region_held3 (fun w'=>Ab (w.alloc (.cells #[.int .i64 l,.slice a c d] 48)) w'/\w'.cell? ⟨g,3,none⟩=some (.slice t x m)/\w'.cell? ⟨g,4,none⟩=some (.slice y z n)/\w'.cell? ⟨w.heap.size,0,none⟩=some (.int .i64 l)/\w'.cell? ⟨w.heap.size,1,none⟩=some (.slice a c d))
  (first | exact ⟨by assumption,i.o _ (by assumption)⟩ | exact ⟨Below.refl _ _,i.o _ (Below.refl _ _)⟩ | exact ⟨(Below.refl _ _).drew,i.o _ (Below.refl _ _).drew⟩)
  (first | (go_at_call 258;go_split_ands;refine (D.o _ (by assumption)).mono ?_;rintro Z w1 ⟨rfl,q⟩;have E:=Below.trans (by assumption:Ab (w.alloc (.cells #[.int .i64 l,.slice a c d] 48)) _) (q.mono (Below.size (by assumption:Ab (w.alloc (.cells #[.int .i64 l,.slice a c d] 48)) _)))))
 all_goals
  go_split_ands;go_wp2;go_ret2
  exact ⟨rfl,k.o.trans (Below.mono (by assumption) k.o.size)⟩
theorem RI {K:CkW} {p:PlW} {v:Bool} {w:World} (h:Ck K w) (r:uL w K.B p) (s:muV K.E p.v=v) :
 Calls prog 252 #[K.ptr,uV p] w fun e w'=>e=.returned (.bool v)/\Ab w w':=by
 obtain ⟨B,g,E,F,G,⟨H,⟨I,J,L,M⟩,⟨O,on,P,Q⟩,⟨t,u,m,R⟩,⟨x,y,n,S⟩,T,⟨U,V,W,X⟩⟩⟩:=K;obtain ⟨l,a,c,d,z⟩:=p;have k:=uA (uB w (.cells #[.int .i64 l,.slice a c d] 48));have j:uL w w.heap.size ⟨l,a,c,d,z⟩:=r.more h.bs;clear r;have A:=uA (j.up k.o);clear j;have o:=uA (h.up k.o);clear h;have C:=uA fun (w':World) (f:Ab (w.alloc (.cells #[.int .i64 l,.slice a c d] 48)) w')=>OK (ct:=m) (cl:=n) (((o.o.up f).vb).pl8 (A.o.up f)) s
 clear s;have i:=uA fun (w':World) (f:Ab (w.alloc (.cells #[.int .i64 l,.slice a c d] 48)) w')=>(show w'.cell? ⟨g,3,none⟩=some (.slice t u m)/\w'.cell? ⟨g,4,none⟩=some (.slice x y n)/\w'.cell? ⟨w.heap.size,0,none⟩=some (.int .i64 l)/\w'.cell? ⟨w.heap.size,1,none⟩=some (.slice a c d) from
  ⟨(o.o.up f).cells 3 _ rfl,(o.o.up f).cells 4 _ rfl,wR (cs:=[.int .i64 l,.slice a c d]) f 0 _ rfl,wR (cs:=[.int .i64 l,.slice a c d]) f 1 _ rfl⟩)
 go_enter func252,ntmps252
 go_wp2;go_region_held3 (fun w'=>Ab (w.alloc (.cells #[.int .i64 l,.slice a c d] 48)) w'/\w'.cell? ⟨g,3,none⟩=some (.slice t u m)/\w'.cell? ⟨g,4,none⟩=some (.slice x y n)/\w'.cell? ⟨w.heap.size,0,none⟩=some (.int .i64 l)/\w'.cell? ⟨w.heap.size,1,none⟩=some (.slice a c d))
  (first | exact ⟨by assumption,i.o _ (by assumption)⟩ | exact ⟨Below.refl _ _,i.o _ (Below.refl _ _)⟩ | exact ⟨(Below.refl _ _).drew,i.o _ (Below.refl _ _).drew⟩)
  (first | (go_at_call 269;go_split_ands;refine (C.o _ (by assumption)).mono ?_;rintro Y Z ⟨rfl,q⟩;have D:=Below.trans (by assumption:Ab (w.alloc (.cells #[.int .i64 l,.slice a c d] 48)) _) (q.mono (Below.size (by assumption:Ab (w.alloc (.cells #[.int .i64 l,.slice a c d] 48)) _)))))
 all_goals
  go_split_ands;go_wp2;go_ret;exact ⟨rfl,k.o.trans (Below.mono (by assumption) k.o.size)⟩
def wrV (E:Env) (p:PlV):Int×Int:=if (tyV E p).2≠0 then (0,(tyV E p).2) else if muV E p=false then (0,22) else ((tyV E p).1,0)
theorem uEw {P:Prop} (h:P:=by
 obtain ⟨rfl,rfl⟩:=ha;clear hv;go_enter func235,ntmps235
 go_wp2_with fail
 refine HC.o.mono ?_;rintro e w1 ⟨rfl,hb1⟩;have HW1:=uA hb1;clear hb1;obtain ⟨x10,x11⟩:=PN HW1.o;go_wp2_with fail
 refine (HM.o w1 HW1.o).mono ?_;rintro e2 w2 ⟨rfl,hb2⟩;have HW2:=uA (Aa HW1.o hb2);clear hb2;go_wp2;go_ret2
 exact ⟨rfl,(Aa HB.o HW2.o)⟩):P:=h
theorem xO {K:CkW} {p:PlW} {a b:Int} {w:World} (h:Ck K w) (o:uL w K.B p) (hv:wrV K.E p.v=(a,b)) :
 Calls prog 235 #[K.ptr,uV p] w fun e w'=>e=.returned (.tuple #[.int .i64 a,.int .i64 b])/\Ab w w':=by
 obtain ⟨l,f,g,i,m⟩:=p;have HB:=uA (uB w (.cells #[.int .i64 l,.slice f g i] 48));have q:=uA (h.up HB.o);have s:=uA (o.below (HB.o.mono h.bs));obtain ⟨u,n⟩:∃ u,(tyV K.E (PlW.v ⟨l,f,g,i,m⟩)).1=u:=⟨_,rfl⟩;obtain ⟨v,d⟩:∃ v,(tyV K.E (PlW.v ⟨l,f,g,i,m⟩)).2=v:=⟨_,rfl⟩;have j:tyV K.E (PlW.v ⟨l,f,g,i,m⟩)=(u,v):=Fp n d;unfold wrV at hv;rw [n,d] at hv;have HC:=uA (wK q.o s.o j);by_cases c:v=0
 ·have x:(v != 0)=false:=by simp [c]
  rw [if_neg bB] at hv;obtain ⟨r,k⟩:∃ r,muV K.E (PlW.v ⟨l,f,g,i,m⟩)=r:=⟨_,rfl⟩;rw [k] at hv;clear h o j n d c;have HM:=uA fun (w':World) (t:Ab (w.alloc (.cells #[.int .i64 l,.slice f g i] 48)) w')=>RI (q.o.up t) (s.o.below (t.mono q.o.bs)) k
  clear k;cases r
  ·have ha:a=0/\b=22:=(by simpa [eq_comm] using hv);exact uEw
  ·have ha:a=u/\b=0:=(by simpa [eq_comm] using hv);exact uEw
 ·have x:(v != 0)=true:=by simp [c]
  rw [if_pos c] at hv;have ha:a=0/\b=v:=by simpa [eq_comm] using hv
  obtain ⟨rfl,rfl⟩:=ha;clear h o j n d c hv;go_enter func235,ntmps235
  go_wp2_with fail
  refine HC.o.mono ?_;rintro e w1 ⟨rfl,hb1⟩;have HW1:=uA hb1;clear hb1;go_wp2;go_ret2
  exact ⟨rfl,(Aa HB.o HW1.o)⟩
def drV (E:Env) (p:PlV):Int:=if (tyV E p).2≠0 then (tyV E p).2 else if aT p.ps 0=true then 22 else 0
theorem uFl {P:Prop} (h:P:=by
 subst ha;clear hv hv1;go_enter func204,ntmps204
 go_wp2_with fail
 refine HC.o.mono ?_;rintro e w1 ⟨rfl,hb1⟩;have HW1:=uA hb1;clear hb1;obtain ⟨x10,x11⟩:=PN HW1.o;go_wp2_with fail
 refine (HM.o w1 HW1.o).mono ?_;rintro e2 w2 ⟨rfl,hb2⟩;have HW2:=uA (Aa HW1.o hb2);clear hb2;go_wp2;go_ret;exact ⟨rfl,(Aa HB.o HW2.o)⟩):P:=h
theorem uA4 {K:CkW} {p:PlW} {b:Int} {w:World} (h:Ck K w) (m:uL w K.B p) (hv:drV K.E p.v=b) :
 Calls prog 204 #[K.ptr,uV p] w fun e w'=>e=.returned (.int .i64 b)/\Ab w w':=by
 obtain ⟨l,c,g,i,k⟩:=p;have HB:=uA (uB w (.cells #[.int .i64 l,.slice c g i] 48));have n:=uA (h.up HB.o);have r:=uA (m.below (HB.o.mono h.bs));obtain ⟨u,o⟩:∃ u,(tyV K.E (PlW.v ⟨l,c,g,i,k⟩)).1=u:=⟨_,rfl⟩;obtain ⟨v,a⟩:∃ v,(tyV K.E (PlW.v ⟨l,c,g,i,k⟩)).2=v:=⟨_,rfl⟩;have j:tyV K.E (PlW.v ⟨l,c,g,i,k⟩)=(u,v):=Fp o a;unfold drV at hv;rw [a] at hv;have HC:=uA (wK n.o r.o j);by_cases hv1:v=0
 ·have t:(v == 0)=true:=by simp [hv1]
  rw [if_neg bB] at hv;obtain ⟨d,q⟩:∃ d,aT (PlW.v ⟨l,c,g,i,k⟩).ps 0=d:=⟨_,rfl⟩;rw [q] at hv;clear h m j o a;have HM:=uA fun (w':World) (s:Ab (w.alloc (.cells #[.int .i64 l,.slice c g i] 48)) w')=>oW (x:=⟨l,c,g,i,k⟩) (f:=0) q w' ((r.o.below (s.mono n.o.bs)).more (Ai n.o.bs s.size))
  clear q;cases d
  ·have ha:b=v:=by rw [hv1];simpa [eq_comm] using hv
   exact uFl
  ·have ha:b=22:=(by simpa [eq_comm] using hv);exact uFl
 ·have t:(v == 0)=false:=by simp [hv1]
  rw [if_pos hv1] at hv;obtain rfl:v=b:=hv;clear h m j o a hv1;go_enter func204,ntmps204
  go_wp2_with fail
  refine HC.o.mono ?_;rintro e w1 ⟨rfl,hb1⟩;have HW1:=uA hb1;clear hb1;go_wp2;go_ret;exact ⟨rfl,(Aa HB.o HW1.o)⟩
theorem wZ {K:CkW} {i:Nat} {f:TyW} {w:World} (h:Ck K w) (c:K.x.types.L[i]?=some f) :
 Calls prog 241 #[K.ptr,.int .i64 (i:Int)] w fun e w'=>e=.returned (xU f)/\Ab w w':=by
 obtain ⟨B,g,Q,R,S,⟨T,⟨U,V,W,X⟩,⟨Y,on,Z,oL⟩,⟨D,d,E,j⟩,⟨lA,ln,lc,lL⟩,ar,⟨bA,bn,bc,bL⟩⟩⟩:=K;obtain ⟨⟨k,l,m,n,F⟩,o,fn,p⟩:=f;have c:j[i]?=some ⟨⟨k,l,m,n,F⟩,o,fn,p⟩:=c;have G:=uA (uB w (.cells #[.int .i64 0,.bool false,.int .i64 0,.int .i64 0,.slice none 0 0] 123));have y:=uA (h.up G.o);have H:i < d:=by
  have h1:i < j.length:=(Ah.1 c).1;have h2:j.length=d:=h.one.types.len;omega
 have z:(i:Int) < (d:Int):=by omega
 have I:(0:Int)<=(i:Int):=by omega
 have A:d<=1000:=h.few;obtain ⟨b,q,r,s,_,_⟩:=h.one.typs.at_ c;have r:D=some ⟨b,q,none⟩:=r;subst r;have t:=uA fun (w':World) (C:Ab (w.alloc (.cells #[.int .i64 0,.bool false,.int .i64 0,.int .i64 0,.slice none 0 0] 123)) w')=>(show w'.cell? ⟨g,3,none⟩=some (.slice (some ⟨b,q,none⟩) d E)/\w'.cell? ⟨b,q+i*5,none⟩=some (.int .i64 k)/\w'.cell? ⟨b,q+i*5+1,none⟩=some (.bool l)/\w'.cell? ⟨b,q+i*5+2,none⟩=some (.int .i64 m)/\w'.cell? ⟨b,q+i*5+3,none⟩=some (.int .i64 n)/\w'.cell? ⟨b,q+i*5+4,none⟩=some (.slice o fn p) from by
  obtain ⟨b',q',a,_,_,J,L,M,O,P⟩:=(y.o.up C).one.typs.at_ c;injection a with a;injection a with u v;subst u v;exact ⟨(y.o.up C).cells 3 _ rfl,J,L,M,O,P⟩)
 have x:((w.alloc (.cells #[.int .i64 0,.bool false,.int .i64 0,.int .i64 0,.slice none 0 0] 123))).heap[w.heap.size]?=some (.cells #[.int .i64 0,.bool false,.int .i64 0,.int .i64 0,.slice none 0 0] 123 (0,0)):=heap_alloc_new w _;obtain ⟨y0,y1,y2,y3,y4,y5⟩:=t.o (w.alloc (.cells #[.int .i64 0,.bool false,.int .i64 0,.int .i64 0,.slice none 0 0] 123)) (Below.refl _ _);clear h c s x;go_enter func241,ntmps241
 go_wp2;refine bodyPost_ret (results_cell_row rfl _ _ w.heap.size _ #[.int .i64 k,.bool l,.int .i64 m,.int .i64 n,.slice o fn p] (0,0) _ rfl (heap_alloc_new w _) underlying123 rfl fL) rfl ⟨rfl,(Below.refl w.heap.size w).alloc (Ae _) _⟩
theorem dP (a rg c:Int) (d:Bool) (e:Option Addr) (fn f:Nat) (W:World):(Instr.field 123 (.agg #[.int .i64 a,.bool d,.int .i64 rg,.int .i64 c,.slice e fn f]) 0).run prog W=.ok (.int .i64 a) W:=by kernel_rfl
def kdV (E:Env) (o:OpV):Int:=if o.kind=2 then 2 else if o.kind=3 then 1 else if o.kind=4 then 0 else (uR E.T (tyV E o.pl).1).kind
theorem WM {P:Prop} (h:P:=by
 go_enter func243,ntmps243
 go_wp2;go_ret;exact ⟨rfl,HB.o⟩):P:=h
theorem bZ {K:CkW} {o:OpW} {v:Int} {w:World} (h:Ck K w) (r:pB w K.B o) (q:(o.kind=2\/o.kind=3\/o.kind=4)\/(tyV K.E o.pl.v).2=0) (g:kdV K.E o.v=v) :
 Calls prog 243 #[K.ptr,BU o] w fun e w'=>e=.returned (.int .i64 v)/\Ab w w':=by
 obtain ⟨k,⟨l,a,c,d,f⟩,n⟩:=o;simp only [] at q;by_cases s:k=2
 ·subst s;obtain rfl:v=2:=g.symm;clear h r q g;have HB:=uA (uB w (.cells (cOp ⟨2,⟨l,a,c,d,f⟩,n⟩).toArray 183));exact WM
 by_cases t:k=3
 ·subst t;obtain rfl:v=1:=g.symm;clear h r q g;have HB:=uA (uB w (.cells (cOp ⟨3,⟨l,a,c,d,f⟩,n⟩).toArray 183));exact WM
 by_cases u:k=4
 ·subst u;obtain rfl:v=0:=g.symm;clear h r q g;have HB:=uA (uB w (.cells (cOp ⟨4,⟨l,a,c,d,f⟩,n⟩).toArray 183));exact WM
 have B:(tyV K.E (PlW.v ⟨l,a,c,d,f⟩)).2=0:=by
  rcases q with (e | e | e) | e
  ·exact absurd e s
  ·exact absurd e t
  ·exact absurd e u
  ·exact e
 obtain ⟨i,C,D,j⟩:=h.vb.ty (p:=PlW.v ⟨l,a,c,d,f⟩) B;have H:tyV K.E (PlW.v ⟨l,a,c,d,f⟩)=((i:Int),0):=Fp D B;have x:(tys K.x.types.L)[i]?=some C.t:=by
  show (K.x.types.L.map TyW.t)[i]?=_;rw [Ar,j];rfl
 have y:kdV K.E (OpW.v ⟨k,⟨l,a,c,d,f⟩,n⟩)=C.t.kind:=by
  show (if k=2 then (2:Int) else if k=3 then 1 else if k=4 then 0 else (uR (tys K.x.types.L) (tyV K.E (PlW.v ⟨l,a,c,d,f⟩)).1).kind)=_;rw [if_neg s,if_neg t,if_neg u,D,mH x]
 rw [y] at g;have HB:=uA (uB w (.cells (cOp ⟨k,⟨l,a,c,d,f⟩,n⟩).toArray 183));have I:=uA (h.up HB.o);have R:=uA (r.pl.below (HB.o.mono h.bs));have S:=uA (wK I.o R.o H);have T:=uA fun (w':World) (U:Ab (w.alloc (.cells (cOp ⟨k,⟨l,a,c,d,f⟩,n⟩).toArray 183)) w')=>wZ (I.o.up U) j
 have Y:(k == 2)=false:=by simp [s]
 have Z:(k == 3)=false:=by simp [t]
 have t4:(k == 4)=false:=by simp [u]
 clear h r q B D j H x y s t u;obtain ⟨⟨E,J,L,M,fs⟩,O,fn,Q⟩:=C;have g:E=v:=g;subst g;have V:=dP E L M J O fn Q;go_enter func243,ntmps243
 go_wp2_with fail
 refine S.o.mono ?_;rintro e W ⟨rfl,z⟩;have m:=uA z;clear z;go_wp2_with fail
 refine (T.o W m.o).mono ?_;rintro X w2 ⟨F,A⟩;obtain rfl:X=.returned (.agg #[.int .i64 E,.bool J,.int .i64 L,.int .i64 M,.slice O fn Q]):=F;have G:=uA (Aa m.o A);clear A;go_wp2;go_ret;exact ⟨rfl,(Aa HB.o G.o)⟩
end Go.Proofs.YtnkjbjkoffgocaaGreatDoor
