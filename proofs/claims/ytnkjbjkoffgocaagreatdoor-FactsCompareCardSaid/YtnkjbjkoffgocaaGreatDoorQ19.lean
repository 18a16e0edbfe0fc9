import Derived.Test.YtnkjbjkoffgocaaGreatDoorQ18
set_option linter.unusedVariables false
set_option linter.unusedSimpArgs false
set_option maxRecDepth 100000
set_option maxHeartbeats 4000000
namespace Go.Proofs.YtnkjbjkoffgocaaGreatDoor
open Tryz Go.RowKit
section
variable {b N:Nat} {w w':World}
theorem QE {P:Prop} (h:P:=by
 obtain ⟨c,rfl,hc⟩:=uQ underlying4 hv;injection hc with hc _;injection hc with hc;injection hc with hc;rw [hc]):P:=h
theorem aF.look {f:Int->Bool} (h:aF b N f w) {q:Int} (d:uH q) :
 ((Instr.lookup 245 (.map (some b)) (.int .i64 q) true).run prog w=.ok (.tuple #[.bool (f q),.bool true]) w)\/((Instr.lookup 245 (.map (some b)) (.int .i64 q) true).run prog w=.ok (.tuple #[.bool false,.bool false]) w):=by
 obtain ⟨m,e,g,i⟩:=h;obtain ⟨v,j,a,hv⟩:=g.look_ok zS BJ (gE w) (zd:=.lit (.bool false)) (zp:=[]) (plainElem_bool underlying4 false) (wY d);cases hh:Maps.has e (.int .i64 q)
 ·right;rw [Cm hh] at hv;rw [a,hh];exact QE
 ·left;rw [(i q d hh).2.2] at hv;rw [a,hh];exact QE
theorem aF.owns {f:Int->Bool} (h:aF b N f w):∃ a,w.ownsMap (H:=Unit) prog 3 (plainElem prog 4) b N a /\
 ∀ q,uH q->Maps.has a (.int .i64 q)=true->0<=q/\q < (N:Int)/\∀ z,a.atKey (.int .i64 q) z=.lit (.bool (f q)):=by
 obtain ⟨m,a,c,d⟩:=h;have e:=lV zS underlying3 c ((List.range N).map fun (j:Nat)=>(j:Int)) fun q g i=>by
  obtain ⟨k,c,_⟩:=d q (by simpa [Lit.wf,IntKind.min,IntKind.max,IntKind.signed,IntKind.bits,uH] using g) i;exact Bw.2 ⟨q.toNat,B1.2 bB,bB⟩
 rw [Ao,C0] at e;exact ⟨a,e,d⟩
theorem aF.put {f:Int->Bool} {j:DataW Unit} (l:w.ownsMap (H:=Unit) prog 3 (plainElem prog 4) b N j)
 (m:∀ q,uH q->Maps.has j (.int .i64 q)=true->0<=q/\q < (N:Int)/\∀ z,j.atKey (.int .i64 q) z=.lit (.bool (f q))) {i:Int} (n:0<=i) (o:i < (N:Int))
 (p:w'.ownsMap (H:=Unit) prog 3 (plainElem prog 4) b (N+1) (j.put (.int .i64 i) (.lit (.bool (f i))))):aF b N f w':=by
 refine ⟨N+1,_,p,fun q r k=>?_⟩;by_cases g:q=i
 ·subst g;exact ⟨n,o,fun z=>Cn ⟨_,l.entries zS |>.choose_spec.1⟩ (show Go.WideAt.IsKeyLit (.int .i64 q) from trivial) _ z⟩
 ·have h:Lit.int .i64 q≠Lit.int .i64 i:=fun e=>by injection e with _ e;exact g e
  rw [B7 h] at k;obtain ⟨a,c,d⟩:=m q r k;exact ⟨a,c,fun z=>(Ci h _ z).trans (d z)⟩
def InP (N:Nat) (p:Pr):Prop:=(0<=p.1/\p.1 < (N:Int))/\0<=p.2/\p.2 < (N:Int)
structure PL (b N:Nat) (f:Int->Int->Bool) (w:World) (M:List Pr) (m:Nat) (Dm:DataW Unit):Prop where
 own:w.ownsMap (H:=Unit) prog 54 (plainElem prog 4) b m Dm
 le:m<=M.length
 nd:M.Nodup
 rng:∀ p∈M,InP N p
 has:∀ p,xH p->(Maps.has Dm (zB p)=true↔p∈M)
 val:∀ p∈M,∀ z,Dm.atKey (zB p) z=.lit (.bool (f p.1 p.2))
theorem pY.pl {f:Int->Int->Bool} (h:pY b N f w):∃ M m a,PL b N f w M m a:=by
 obtain ⟨M,m,a,c,d,e,g,i,j⟩:=h;exact ⟨M,m,a,c,d,e,g,i,j⟩
theorem PL.few {f:Int->Int->Bool} {M:List Pr} {m:Nat} {d:DataW Unit} (h:PL b N f w M m d):m<=N*N:=by
 have a:=pP h.nd (m:=grid N) fun p c=>LI (h.rng p c).1 (h.rng p c).2
 rw [sD] at a;exact Ai h.le a
theorem PL.hit {f:Int->Int->Bool} {M:List Pr} {m:Nat} {g:DataW Unit} (h:PL b N f w M m g) {p:Pr} (d:xH p) (e:p∈M) :
 (Instr.lookup 246 (.map (some b)) (AF p) true).run prog w=.ok (.tuple #[.bool (f p.1 p.2),.bool true]) w:=by
 obtain ⟨v,i,a,hv⟩:=h.own.look_ok yD oX (gE w) (zd:=.lit (.bool false)) (zp:=[]) (plainElem_bool underlying4 false) (xC d);rw [h.val p e] at hv;rw [a,(h.has p d).2 e];exact QE
theorem PL.miss {f:Int->Int->Bool} {M:List Pr} {m:Nat} {d:DataW Unit} (h:PL b N f w M m d) {p:Pr} (g:xH p) (j:p∉M) :
 (Instr.lookup 246 (.map (some b)) (AF p) true).run prog w=.ok (.tuple #[.bool false,.bool false]) w:=by
 obtain ⟨v,k,a,hv⟩:=h.own.look_ok yD oX (gE w) (zd:=.lit (.bool false)) (zp:=[]) (plainElem_bool underlying4 false) (xC g);have i:Maps.has d (zB p)=false:=by
  cases e:Maps.has d (zB p)
  ·rfl
  ·exact absurd ((h.has p g).1 e) j
 rw [Cm i] at hv;rw [a,i];exact QE
theorem PL.put {f:Int->Int->Bool} {M:List Pr} {m:Nat} {j:DataW Unit} (h:PL b N f w M m j) {p:Pr} (l:xH p) (o:InP N p)
 (q:w'.ownsMap (H:=Unit) prog 54 (plainElem prog 4) b (m+1) (j.put (zB p) (.lit (.bool (f p.1 p.2))))) (n:p∉M) (r:N<=65535):pY b N f w':=by
 have d:Maps.IsMap j:=⟨_,(h.own.entries yD).choose_spec.1⟩;refine ⟨M++[p],m+1,_,q,by have:=h.le;simp;omega,?_,?_,fun u hu=>?_,fun u hu z=>?_⟩
 ·rw [Fg];exact ⟨h.nd,nF,fun a s c t=>by
   obtain rfl:c=p:=by simpa using t
   exact fun e=>n (e ▸ s)⟩
 ·intro u hu;rcases Aq.1 hu with hu | hu
  ·exact h.rng u hu
  ·obtain rfl:u=p:=by simpa using hu
   exact o
 ·by_cases g:u=p
  ·subst g;rw [Da d gI];simp
  ·have i:zB u≠zB p:=fun e=>g (sZ hu l e)
   rw [B7 i,h.has u hu];simp [g]
 ·rcases Aq.1 hu with hu | hu
  ·have k:xH u:=by
    have v:=h.rng u hu;unfold InP at v;unfold xH uH;omega
   have i:zB u≠zB p:=fun e=>n ((sZ k l e) ▸ hu)
   exact (Ci i _ z).trans (h.val u hu z)
  ·obtain rfl:u=p:=by simpa using hu
   exact Cn d gI _ z
end
theorem MF {K:CkW} {w:World} (h:Ck K w) :
 Calls prog 275 #[K.ptr] w fun e w'=>∃ r,e=.returned (.pointer (some ⟨r,0,none⟩))/\Rel w' w'.heap.size r K.x.outl.L ((K.x.regions.L.length:Nat):Int)/\Wy K w w'/\Turn (fun k=>k=K.g) w w':=by
 rcases h.rel with F | ⟨r,F,hr⟩
 ·have y:=uA h;have g:=h.one.regions.len;have q:=h.ok.o;have I:=h.cells 1 _ rfl;have J:=h.cells 2 _ rfl;have L:=h.fr 7;have j:=h.lt;clear h;have M:=uA fun (w':World) (n:Ab w w')=>JI K.x.outl.A K.x.outl.n K.x.outl.c K.x.outl.L ((K.x.regions.n:Nat):Int) w' ((y.o.up n).vb.one.prs) (by rw [<-g];exact q)
  clear q;have o:=uA fun (w':World) (n:Ab w w')=>(show w'.cell? ⟨K.g,1,none⟩=some (.slice K.x.regions.A K.x.regions.n K.x.regions.c)/\w'.cell? ⟨K.g,2,none⟩=some (.slice K.x.outl.A K.x.outl.n K.x.outl.c) from ⟨(n.cell (p:=⟨K.g,1,none⟩) j).trans I,(n.cell (p:=⟨K.g,2,none⟩) j).trans J⟩)
  have m:=uA fun (w':World) (n:Ab w w')=>(show w'.cell? ⟨K.g,7,none⟩=some (.pointer none)/\w'.frozen? ⟨K.g,7,none⟩=false from ⟨(n.cell (p:=⟨K.g,7,none⟩) j).trans F,(n.frozen (p:=⟨K.g,7,none⟩) j).trans L⟩)
  have s:=uA g;clear g;go_enter func275,ntmps275
  go_wp2;have l:=uA ((Below.refl w.heap.size w).drew);refine wp_region_held_drew (S:=(fun w'=>w'.cell? ⟨K.g,1,none⟩=some (.slice K.x.regions.A K.x.regions.n K.x.regions.c)/\w'.cell? ⟨K.g,2,none⟩=some (.slice K.x.outl.A K.x.outl.n K.x.outl.c))) fL (o.o _ l.o) (fun hHeld=>?_);refine uJ [0,1,2,3,4,5,6,7,8,9,10,11] ?_
  repeat' (first | refine pT hHeld rfl ?_ | refine pS hHeld rfl ?_)
  refine uK ?_;refine wpAnyH_ready (rs:=[12]) fL nF ?_;refine AllReadyH.cons rfl (fun z t=>?_) AllReadyH.nil;go_simp;refine (M.o _ l.o).mono ?_;rintro U A ⟨r,rfl,hr,u⟩;have f:=uA (Aa l.o u);clear u;have B:=uA hr;clear hr;refine t.out _ _ (o.o _ f.o) (fun hHeld=>?_);clear t z;try simp only [Ac]
  refine uJ [13,14,15,16,17] ?_
  repeat' (first | refine pT hHeld rfl ?_ | refine pS hHeld rfl ?_)
  refine uK ?_;refine wpAnyH_ready (rs:=[18]) fL nF ?_;refine AllReadyH.cons rfl (fun z t=>?_) AllReadyH.nil;obtain ⟨G,O⟩:=m.o _ f.o;go_simp;refine t.out _ _ ?_ (fun hHeld=>?_)
  ·obtain ⟨R,T⟩:=o.o _ f.o;exact ⟨(B3 _ _ _ _ (fun e=>by injection e with _ e;cases e)).trans R,(B3 _ _ _ _ (fun e=>by injection e with _ e;cases e)).trans T⟩
  clear t z;try simp only [Ac]
  refine wpAnyH_done fL ?_ _;obtain ⟨G,O⟩:=m.o _ f.o;have H:=Dk A ⟨K.g,7,none⟩ (.pointer (some ⟨r,0,none⟩)) G;go_wp2;go_ret;have C:=y.o.up f.o;have D:Rel A A.heap.size r K.x.outl.L ((K.x.regions.L.length:Nat):Int):=by rw [s.o];exact B.o
  have x:=C.stored D;refine ⟨r,rfl,?_,⟨(Turn.of_below f.o).setCell (a:=⟨K.g,7,none⟩) (.inl (.inl rfl)) _,x⟩,Turn.setCell (S:=fun k=>k=K.g) (Turn.of_below f.o) (a:=⟨K.g,7,none⟩) (.inl rfl) _⟩;rcases x.rel with e | ⟨V,e,E⟩
  ·rw [H] at e;cases e
  ·rw [H] at e;injection e with e;injection e with e;injection e with e;injection e with e;subst e;exact E
 ·have y:=uA h;clear h;have B:=uA hr;clear hr;go_enter func275,ntmps275
  go_wp2;go_ret;exact ⟨r,rfl,B.o,Wy.refl y.o,Turn.refl _ _⟩
theorem WY {K:CkW} {i g j:Nat} {v:Bool} {w:World} (h:Ck K w) (hi:i < K.x.types.n) (q:mF (tys K.x.types.L) (i:Int)=v) (r:w.cell? ⟨g,0,none⟩=some K.ptr) (s:w.cell? ⟨j,0,none⟩=some (.int .i64 (i:Int))) (t:g < w.heap.size) (u:j < w.heap.size) :
 Calls prog 290 #[.pointer (some ⟨g,0,none⟩),.pointer (some ⟨j,0,none⟩)] w fun e w'=>e=.returned (.bool v)/\Ab w w':=by
 have k:=uA h;clear h;have y:=uA fun (w':World) (l:Ab w w')=>q ▸ LT (c:=K.x.types.c) ((k.o.up l).vb.one.typs) (Ae _) (k.o.one.types.nc) (k.o.one.types.cm) (k.o.vb.nt65) (yM.1 k.o.ok.ty) i hi
 clear hi q;have m:=uA fun (w':World) (l:Ab w w')=>(show w'.cell? ⟨g,0,none⟩=some K.ptr/\w'.cell? ⟨j,0,none⟩=some (.int .i64 (i:Int))/\w'.cell? ⟨K.g,3,none⟩=some (.slice K.x.types.A K.x.types.n K.x.types.c) from ⟨(l.cell (p:=⟨g,0,none⟩) t).trans r,(l.cell (p:=⟨j,0,none⟩) u).trans s,(k.o.up l).cells 3 _ rfl⟩)
 clear r s t u;go_enter func290,ntmps290
 go_wp2;have f:=uA ((Below.refl w.heap.size w).drew);refine wp_region_held_drew (S:=(fun w'=>w'.cell? ⟨g,0,none⟩=some K.ptr/\w'.cell? ⟨j,0,none⟩=some (.int .i64 (i:Int))/\w'.cell? ⟨K.g,3,none⟩=some (.slice K.x.types.A K.x.types.n K.x.types.c))) fL (m.o _ f.o) (fun hHeld=>?_);refine uJ [0,1,2,3,4,5] ?_
 repeat' (first | refine pT hHeld rfl ?_ | refine pS hHeld rfl ?_)
 refine uK ?_;refine wpAnyH_ready (rs:=[6]) fL nF ?_;refine AllReadyH.cons rfl (fun z x=>?_) AllReadyH.nil;go_simp;refine (y.o _ f.o).mono ?_;rintro A B ⟨rfl,n⟩;have o:=uA (Aa f.o n);clear n;refine x.out _ _ (m.o _ o.o) (fun hHeld=>?_);clear x z;try simp only [Ac]
 refine uJ [7] ?_
 repeat' (first | refine pT hHeld rfl ?_ | refine pS hHeld rfl ?_)
 refine uK ?_;refine wpAnyH_done fL ?_ _;go_wp2;go_ret;exact ⟨rfl,o.o⟩
theorem uFs {P:Prop} (h:P:=by
 repeat' (first | refine pT hHeld rfl ?_ | refine pS hHeld rfl ?_)
 refine uK ?_;refine wpAnyH_done fL ?_ _;go_wp2;go_ret;exact ⟨rfl,HW2.o,HT2.o⟩):P:=h
theorem uBe {K:CkW} {s t:Int} {j m n:Nat} {v:Bool} {w:World} (h:Ck K w) (hs:uH s) (D:uH t) (E:sub (out K.x.outl.L ((K.x.regions.L.length:Nat):Int)) (tys K.x.types.L) s t=v) (F:w.cell? ⟨j,0,none⟩=some K.ptr) (G:w.cell? ⟨m,0,none⟩=some (.int .i64 s)) (H:w.cell? ⟨n,0,none⟩=some (.int .i64 t))
 (l:(j < w.heap.size/\m < w.heap.size/\n < w.heap.size)/\¬K.S j/\¬K.S m/\¬K.S n) :
 Calls prog 286 #[.pointer (some ⟨j,0,none⟩),.pointer (some ⟨m,0,none⟩),.pointer (some ⟨n,0,none⟩)] w fun e w'=>e=.returned (.bool v)/\Wy K w w'/\Turn (fun k=>k=K.g) w w':=by
 have I:=uA h;clear h;have o:=uA fun (w':World) (y:Wy K w w')=>(show w'.cell? ⟨j,0,none⟩=some K.ptr/\w'.cell? ⟨m,0,none⟩=some (.int .i64 s)/\w'.cell? ⟨n,0,none⟩=some (.int .i64 t)/\w'.cell? ⟨K.g,3,none⟩=some (.slice K.x.types.A K.x.types.n K.x.types.c) from ⟨(y.turn.cell (p:=⟨j,0,none⟩) l.1.1 l.2.1).trans F,(y.turn.cell (p:=⟨m,0,none⟩) l.1.2.1 l.2.2.1).trans G,(y.turn.cell (p:=⟨n,0,none⟩) l.1.2.2 l.2.2.2).trans H,y.ck.cells 3 _ rfl⟩)
 clear F G H l;have J:=uA E;clear E;have z:=uA hs;clear hs;have A:=uA D;clear D;go_enter func286,ntmps286
 go_wp2;have q:=uA ((Wy.refl I.o).drew);refine wp_region_held_drew (S:=(fun w'=>w'.cell? ⟨j,0,none⟩=some K.ptr/\w'.cell? ⟨m,0,none⟩=some (.int .i64 s)/\w'.cell? ⟨n,0,none⟩=some (.int .i64 t)/\w'.cell? ⟨K.g,3,none⟩=some (.slice K.x.types.A K.x.types.n K.x.types.c))) fL (o.o _ q.o) (fun hHeld=>?_);refine uJ [0,2,3,4,5,6,7,8] ?_
 repeat' (first | refine pT hHeld rfl ?_ | refine pS hHeld rfl ?_)
 refine uK ?_;refine wpAnyH_ready (rs:=[1]) fL nF ?_;refine AllReadyH.cons rfl (fun B u=>?_) AllReadyH.nil;go_simp;refine (MF q.o.ck).mono ?_;rintro M O ⟨r,rfl,hr,f,x⟩;have g:=uA (q.o.trans f);clear f;have C:=uA ((Turn.refl (fun k=>k=K.g) w).drew.trans x);clear x;have L:=uA hr;clear hr;refine u.out _ _ (o.o _ g.o) (fun hHeld=>?_);clear u B;try simp only [Ac]
 refine wpAnyH_ready (rs:=[9]) fL nF ?_;refine AllReadyH.cons rfl (fun B u=>?_) AllReadyH.nil;go_simp;refine (MN (c:=K.x.types.c) J.o _ L.o g.o.ck.vb.one.typs g.o.ck.few (yM.1 g.o.ck.ok.ty) z.o A.o).mono ?_;rintro R T ⟨rfl,f⟩;have HW2:=uA (g.o.up f);have HT2:=uA (C.o.trans (Turn.of_below f));clear f;refine u.out _ _ (o.o _ HW2.o) (fun hHeld=>?_);clear u B;try simp only [Ac]
 refine uJ [10] ?_;exact uFs
theorem XN {K:CkW} {s t:Int} {g j m:Nat} {v:Bool} {w:World} (h:Ck K w) (hs:uH s) (B:uH t) (C:out K.x.outl.L ((K.x.regions.L.length:Nat):Int) s t=v) (D:w.cell? ⟨g,0,none⟩=some K.ptr) (E:w.cell? ⟨j,0,none⟩=some (.int .i64 s)) (F:w.cell? ⟨m,0,none⟩=some (.int .i64 t))
 (l:(g < w.heap.size/\j < w.heap.size/\m < w.heap.size)/\¬K.S g/\¬K.S j/\¬K.S m) :
 Calls prog 274 #[.pointer (some ⟨g,0,none⟩),.pointer (some ⟨j,0,none⟩),.pointer (some ⟨m,0,none⟩)] w fun e w'=>e=.returned (.bool v)/\Wy K w w'/\Turn (fun k=>k=K.g) w w':=by
 have G:=uA h;clear h;have n:=uA fun (w':World) (y:Wy K w w')=>(show w'.cell? ⟨g,0,none⟩=some K.ptr/\w'.cell? ⟨j,0,none⟩=some (.int .i64 s)/\w'.cell? ⟨m,0,none⟩=some (.int .i64 t)/\w'.cell? ⟨K.g,3,none⟩=some (.slice K.x.types.A K.x.types.n K.x.types.c) from ⟨(y.turn.cell (p:=⟨g,0,none⟩) l.1.1 l.2.1).trans D,(y.turn.cell (p:=⟨j,0,none⟩) l.1.2.1 l.2.2.1).trans E,(y.turn.cell (p:=⟨m,0,none⟩) l.1.2.2 l.2.2.2).trans F,y.ck.cells 3 _ rfl⟩)
 clear D E F l;have H:=uA C;clear C;have I:=uA hs;clear hs;have J:=uA B;clear B;go_enter func274,ntmps274
 go_wp2;have o:=uA ((Wy.refl G.o).drew);refine wp_region_held_drew (S:=(fun w'=>w'.cell? ⟨g,0,none⟩=some K.ptr/\w'.cell? ⟨j,0,none⟩=some (.int .i64 s)/\w'.cell? ⟨m,0,none⟩=some (.int .i64 t)/\w'.cell? ⟨K.g,3,none⟩=some (.slice K.x.types.A K.x.types.n K.x.types.c))) fL (n.o _ o.o) (fun hHeld=>?_);refine uJ [0,2,3] ?_
 repeat' (first | refine pT hHeld rfl ?_ | refine pS hHeld rfl ?_)
 refine uK ?_;refine wpAnyH_ready (rs:=[1]) fL nF ?_;refine AllReadyH.cons rfl (fun z q=>?_) AllReadyH.nil;go_simp;refine (MF o.o.ck).mono ?_;rintro M O ⟨r,rfl,hr,f,u⟩;have x:=uA (o.o.trans f);clear f;have A:=uA ((Turn.refl (fun k=>k=K.g) w).drew.trans u);clear u;have L:=uA hr;clear hr;refine q.out _ _ (n.o _ x.o) (fun hHeld=>?_);clear q z;try simp only [Ac]
 refine wpAnyH_ready (rs:=[4]) fL nF ?_;refine AllReadyH.cons rfl (fun z q=>?_) AllReadyH.nil;go_simp;refine (cB H.o _ L.o).mono ?_;rintro R T ⟨rfl,f⟩;have HW2:=uA (x.o.up f);have HT2:=uA (A.o.trans (Turn.of_below f));clear f;refine q.out _ _ (n.o _ HW2.o) (fun hHeld=>?_);clear q z;try simp only [Ac]
 refine uJ [5] ?_;exact uFs
theorem uCa {K:CkW} {i u x:Nat} {v:Bool} {w:World} (h:Ck K w) (t:i < K.x.types.n) (n:mF (tys K.x.types.L) (i:Int)=v) (y:w.cell? ⟨u,0,none⟩=some K.ptr) (z:w.cell? ⟨x,0,none⟩=some (.int .i64 (i:Int))) (A:u < w.heap.size) (B:x < w.heap.size) :
 Calls prog 289 #[.map (some K.m1),.int .i64 (i:Int),.func (.func 290) #[] #[.pointer (some ⟨u,0,none⟩),.pointer (some ⟨x,0,none⟩)]] w fun e w'=>e=.returned (.bool v)/\Wy K w w':=by
 have f:uH (i:Int):=by
  have R:=h.few;unfold uH;omega
 have H:=uA h;rcases h.cop.look f with hrun | hrun
 ·have hrun:_=Result.ok (Value.tuple #[.bool (mF (tys K.x.types.L) (i:Int)),.bool true]) w:=hrun;rw [n] at hrun;clear h t n y z A B f;have a:=uA hrun;clear hrun;go_enter func289,ntmps289
  go_wp2_with (at_lookup;refine uP _ rfl _ _ _ true rfl _ _ _ rfl rfl a.o ?_)
  go_ret;exact ⟨rfl,Wy.refl H.o⟩
 ·have a:=uA hrun;have I:=uA (WY h t n y z A B);have M:=uA n;have C:=uA f;have O:=uA t;have o:K.x.types.n < maxLen:=by have:=h.few;unfold maxLen;omega
  clear h t n y z A B hrun f;go_enter func289,ntmps289
  go_wp2_with (at_lookup;refine uP _ rfl _ _ _ true rfl _ _ _ rfl rfl a.o ?_)
  refine I.o.mono ?_;rintro S P ⟨rfl,l⟩;have g:=uA (H.o.up l);have D:=uA l;obtain ⟨Q,j,c⟩:=g.o.cop.owns;clear l a I;have J:=uA j;clear j;have p:=uA c;clear c;go_wp2_with (at_mapUpdate;refine wpList_mapUpdate_own _ rfl _ _ _ 245 rfl 3 4 zS BJ _ K.m1 K.x.types.n Q rfl J.o o _ _ (.int .i64 (i:Int)) rfl rfl (wY C.o) (.lit (.bool v)) [] (plainElem_bool underlying4 v) ?_;intro L d q;have E:=uA d;have r:=uA q;clear d q)
  have s:Ck K L:=g.o.map (m:=K.m1) (.inl rfl) r.o (fun _=>aF.put J.o p.o (i:=(i:Int)) bB (by have:=O.o;omega) (by show World.ownsMap _ _ _ _ _ _ (DataW.put _ _ (.lit (.bool (mF (tys K.x.types.L) (i:Int)))));rw [M.o];exact E.o))
   (fun e=>absurd e g.o.m12) (fun e=>absurd e g.o.m13)
  have F:Hdd (Wy K w L):=⟨(Turn.of_below D.o).trans ((Turn.refl K.S P).grown r.o (fun k G=>by injection G with G;exact .inl (G ▸ .inr (.inl rfl)))),s⟩;clear s;go_ret;exact ⟨rfl,F.o⟩
theorem uFt {P:Prop} (h:P:=by
 rw [hv] at hrun;clear h hs ht hv d1 d2 d3 l hIP hpl hm hB0 hin;have HRUN:=uA hrun;clear hrun;go_enter func273,ntmps273
 go_wp2_with (at_lookup;refine uP _ rfl _ _ _ true rfl _ _ _ rfl rfl HRUN.o ?_)
 go_ret;exact ⟨rfl,Wy.refl HK.o |>.turn |> fun q=>(Turn.of_below HB.o).trans q,HK.o⟩):P:=h
theorem uCt {K:CkW} {s t:Int} {o r u:Nat} {v:Bool} {w:World} (h:Ck K w) (hs:uH s) (ht:uH t) (hin:InP K.x.types.n (s,t)) (hv:sub (out K.x.outl.L ((K.x.regions.L.length:Nat):Int)) (tys K.x.types.L) s t=v) (d1:w.cell? ⟨o,0,none⟩=some K.ptr) (d2:w.cell? ⟨r,0,none⟩=some (.int .i64 s)) (d3:w.cell? ⟨u,0,none⟩=some (.int .i64 t))
 (l:(o < w.heap.size/\r < w.heap.size/\u < w.heap.size)/\¬K.S o/\¬K.S r/\¬K.S u) :
 Calls prog 273 #[.map (some K.m2),AF (s,t),.func (.func 286) #[] #[.pointer (some ⟨o,0,none⟩),.pointer (some ⟨r,0,none⟩),.pointer (some ⟨u,0,none⟩)]] w fun e w'=>e=.returned (.bool v)/\Wy K w w':=by
 have hB0:=(Below.refl w.heap.size w).alloc (Ae _) (.cells #[.int .i64 s,.int .i64 t] 54);have HB:=uA hB0;have HK:=uA (h.up hB0);have hIP:xH (s,t):=⟨hs,ht⟩;obtain ⟨M,m,Q,hpl⟩:=HK.o.subt.pl;by_cases hm:(s,t)∈M
 ·have hrun:=hpl.hit hIP hm;have hrun:_=Result.ok (Value.tuple #[.bool (sub (out K.x.outl.L ((K.x.regions.L.length:Nat):Int)) (tys K.x.types.L) s t),.bool true]) (w.alloc (.cells #[.int .i64 s,.int .i64 t] 54)):=hrun;exact uFt
 ·have hrun:=hpl.miss hIP hm;have HRUN:=uA hrun;clear hrun;have R:=uA (uBe HK.o hs ht hv ((hB0.cell (p:=⟨o,0,none⟩) l.1.1).trans d1) ((hB0.cell (p:=⟨r,0,none⟩) l.1.2.1).trans d2) ((hB0.cell (p:=⟨u,0,none⟩) l.1.2.2).trans d3) ⟨⟨Ap l.1.1 hB0.size,Ap l.1.2.1 hB0.size,Ap l.1.2.2 hB0.size⟩,l.2⟩);clear hs ht d1 d2 d3 l hB0;have S:=uA hv;clear hv;have x:=uA hIP;clear hIP;have F:=uA hin;clear hin;have y:Hdd (¬K.S w.heap.size):=fun q=>Cg _ (h.sLt _ q);clear h;have a:=uA hpl;clear hpl;have T:=uA hm;clear hm;go_enter func273,ntmps273
  go_wp2_with (at_lookup;refine uP _ rfl _ _ _ true rfl _ _ _ rfl rfl HRUN.o ?_)
  refine R.o.mono ?_;rintro W E ⟨rfl,c,z⟩;have U:E.cell? ⟨w.heap.size,0,none⟩=some (.int .i64 s):=(c.turn.cell (p:=⟨w.heap.size,0,none⟩) nF y.o).trans (uE (heap_alloc_new w _) 0);have V:E.cell? ⟨w.heap.size,1,none⟩=some (.int .i64 t):=(c.turn.cell (p:=⟨w.heap.size,1,none⟩) nF y.o).trans (uE (heap_alloc_new w _) 1);have g:=uA c.ck;have G:=uA c;have d:PL K.m2 K.x.types.n (fun s t=>sub (out K.x.outl.L ((K.x.regions.L.length:Nat):Int)) (tys K.x.types.L) s t) E M m Q:=⟨uN a.o.own (z.block _ HK.o.subt.lt (G6 HK.o.g2)),a.o.le,a.o.nd,a.o.rng,a.o.has,a.o.val⟩;have i:K.x.types.n<=65535:=Ai g.o.few eW;have A:m < maxLen:=by
   have X:=d.few;have Y:K.x.types.n*K.x.types.n<=65535*65535:=Eo i i;unfold maxLen;omega
  clear c z HRUN R a;have H:=uA i;clear i;have j:=uA d;clear d;go_wp2_with (at_mapUpdate;refine wpList_mapUpdate_own _ rfl _ _ _ 246 rfl 54 4 yD oX _ K.m2 m Q rfl j.o.own A _ _ (zB (s,t)) rfl rfl (xC x.o) (.lit (.bool v)) [] (plainElem_bool underlying4 v) ?_;intro I f B;have J:=uA f;have C:=uA B;clear f B)
  have n:pY K.m2 K.x.types.n (fun s t=>sub (out K.x.outl.L ((K.x.regions.L.length:Nat):Int)) (tys K.x.types.L) s t) I:=j.o.put x.o F.o (by show World.ownsMap _ _ _ _ _ _ (DataW.put _ _ (.lit (.bool (sub (out K.x.outl.L ((K.x.regions.L.length:Nat):Int)) (tys K.x.types.L) s t))));rw [S.o];exact J.o) T.o H.o;have D:Ck K I:=g.o.map (m:=K.m2) (.inr (.inl rfl)) C.o (fun e=>absurd e.symm g.o.m12) (fun _=>n) (fun e=>absurd e g.o.m23);clear n;have L:Hdd (Wy K w I):=⟨(Turn.of_below HB.o).trans (G.o.turn.trans ((Turn.refl K.S E).grown C.o (fun k O=>by injection O with O;exact .inl (O ▸ (.inr (.inr (.inl rfl))))))),D⟩;clear D;go_ret;exact ⟨rfl,L.o⟩
theorem uEm {K:CkW} {s t:Int} {o r u:Nat} {v:Bool} {w:World} (h:Ck K w) (hs:uH s) (ht:uH t) (hin:InP K.x.regions.n (s,t)) (hv:out K.x.outl.L ((K.x.regions.L.length:Nat):Int) s t=v) (d1:w.cell? ⟨o,0,none⟩=some K.ptr) (d2:w.cell? ⟨r,0,none⟩=some (.int .i64 s)) (d3:w.cell? ⟨u,0,none⟩=some (.int .i64 t))
 (l:(o < w.heap.size/\r < w.heap.size/\u < w.heap.size)/\¬K.S o/\¬K.S r/\¬K.S u) :
 Calls prog 273 #[.map (some K.m3),AF (s,t),.func (.func 274) #[] #[.pointer (some ⟨o,0,none⟩),.pointer (some ⟨r,0,none⟩),.pointer (some ⟨u,0,none⟩)]] w fun e w'=>e=.returned (.bool v)/\Wy K w w':=by
 have hB0:=(Below.refl w.heap.size w).alloc (Ae _) (.cells #[.int .i64 s,.int .i64 t] 54);have HB:=uA hB0;have HK:=uA (h.up hB0);have hIP:xH (s,t):=⟨hs,ht⟩;obtain ⟨M,m,Q,hpl⟩:=HK.o.outl.pl;by_cases hm:(s,t)∈M
 ·have hrun:=hpl.hit hIP hm;have hrun:_=Result.ok (Value.tuple #[.bool (out K.x.outl.L ((K.x.regions.L.length:Nat):Int) s t),.bool true]) (w.alloc (.cells #[.int .i64 s,.int .i64 t] 54)):=hrun;exact uFt
 ·have hrun:=hpl.miss hIP hm;have HRUN:=uA hrun;clear hrun;have R:=uA (XN HK.o hs ht hv ((hB0.cell (p:=⟨o,0,none⟩) l.1.1).trans d1) ((hB0.cell (p:=⟨r,0,none⟩) l.1.2.1).trans d2) ((hB0.cell (p:=⟨u,0,none⟩) l.1.2.2).trans d3) ⟨⟨Ap l.1.1 hB0.size,Ap l.1.2.1 hB0.size,Ap l.1.2.2 hB0.size⟩,l.2⟩);clear hs ht d1 d2 d3 l hB0;have S:=uA hv;clear hv;have x:=uA hIP;clear hIP;have F:=uA hin;clear hin;have y:Hdd (¬K.S w.heap.size):=fun q=>Cg _ (h.sLt _ q);clear h;have a:=uA hpl;clear hpl;have T:=uA hm;clear hm;go_enter func273,ntmps273
  go_wp2_with (at_lookup;refine uP _ rfl _ _ _ true rfl _ _ _ rfl rfl HRUN.o ?_)
  refine R.o.mono ?_;rintro Y E ⟨rfl,c,z⟩;have U:E.cell? ⟨w.heap.size,0,none⟩=some (.int .i64 s):=(c.turn.cell (p:=⟨w.heap.size,0,none⟩) nF y.o).trans (uE (heap_alloc_new w _) 0);have V:E.cell? ⟨w.heap.size,1,none⟩=some (.int .i64 t):=(c.turn.cell (p:=⟨w.heap.size,1,none⟩) nF y.o).trans (uE (heap_alloc_new w _) 1);have d:=uA c.ck;have G:=uA c;have f:PL K.m3 K.x.regions.n (fun s t=>out K.x.outl.L ((K.x.regions.L.length:Nat):Int) s t) E M m Q:=⟨uN a.o.own (z.block _ HK.o.outl.lt (G6 HK.o.g3)),a.o.le,a.o.nd,a.o.rng,a.o.has,a.o.val⟩;have i:K.x.regions.n<=65535:=(by have W:=d.o.ok.nr;have Z:=d.o.one.regions.len;have X:K.x.v.regions.length=K.x.regions.L.length:=rfl;omega);have A:m < maxLen:=by
   have W:=f.few;have X:K.x.regions.n*K.x.regions.n<=65535*65535:=Eo i i;unfold maxLen;omega
  clear c z HRUN R a;have H:=uA i;clear i;have j:=uA f;clear f;go_wp2_with (at_mapUpdate;refine wpList_mapUpdate_own _ rfl _ _ _ 246 rfl 54 4 yD oX _ K.m3 m Q rfl j.o.own A _ _ (zB (s,t)) rfl rfl (xC x.o) (.lit (.bool v)) [] (plainElem_bool underlying4 v) ?_;intro I g B;have J:=uA g;have C:=uA B;clear g B)
  have n:pY K.m3 K.x.regions.n (fun s t=>out K.x.outl.L ((K.x.regions.L.length:Nat):Int) s t) I:=j.o.put x.o F.o (by show World.ownsMap _ _ _ _ _ _ (DataW.put _ _ (.lit (.bool (out K.x.outl.L ((K.x.regions.L.length:Nat):Int) s t))));rw [S.o];exact J.o) T.o H.o;have D:Ck K I:=d.o.map (m:=K.m3) (.inr (.inr rfl)) C.o (fun e=>absurd e.symm d.o.m13) (fun e=>absurd e.symm d.o.m23) (fun _=>n);clear n;have L:Hdd (Wy K w I):=⟨(Turn.of_below HB.o).trans (G.o.turn.trans ((Turn.refl K.S E).grown C.o (fun k O=>by injection O with O;exact .inl (O ▸ (.inr (.inr (.inr rfl))))))),D⟩;clear D;go_ret;exact ⟨rfl,L.o⟩
theorem sub_self {K:CkW} {w:World} (h:Ck K w) {i:Nat} (j:i < K.x.types.n):sub (out K.x.outl.L ((K.x.regions.L.length:Nat):Int)) (tys K.x.types.L) (i:Int) (i:Int)=true:=by
 have a:∃ c,K.x.types.L[i]?=some c:=⟨_,Ad (by have:=h.one.types.len;omega)⟩;obtain ⟨c,d⟩:=a;have e:(tys K.x.types.L)[i]?=some c.t:=by
  show (K.x.types.L.map TyW.t)[i]?=_;rw [Ar,d];rfl
 exact DZ.2 (LJ (O:=out K.x.outl.L ((K.x.regions.L.length:Nat):Int)) (yM.1 h.ok.ty) (fun x g f=>fS.2 (Out.refl ⟨g,f⟩)) _ _ _ (Dr _) (by rw [iF];exact e))
theorem TL {K:CkW} {i:Nat} {v:Bool} {w:World} (h:Ck K w) (hi:i < K.x.types.n) (t:mF (tys K.x.types.L) (i:Int)=v) :
 Calls prog 277 #[K.ptr,.int .i64 (i:Int)] w fun e w'=>e=.returned (.bool v)/\Wy K w w':=by
 have l:Ab w ((w.alloc (.cells #[K.ptr] 187)).alloc (.cells #[.int .i64 (i:Int)] 3)):=((uB w (.cells #[K.ptr] 187)).alloc (by first | (simp;done) | (simp;omega)) (.cells #[.int .i64 (i:Int)] 3));have x:=uA l;have y:=uA (h.up l);have f:((w.alloc (.cells #[K.ptr] 187)).alloc (.cells #[.int .i64 (i:Int)] 3)).heap.size=w.heap.size+2:=by simp
 have g:∀ k,w.heap.size<=k->¬K.S k:=fun k B q=>by have:=h.sLt _ q;omega
 have s:((w.alloc (.cells #[K.ptr] 187)).alloc (.cells #[.int .i64 (i:Int)] 3)).cell? ⟨w.heap.size,0,none⟩=some (K.ptr):=by simp [go_sem]
 have q1:((w.alloc (.cells #[K.ptr] 187)).alloc (.cells #[.int .i64 (i:Int)] 3)).cell? ⟨w.heap.size+1,0,none⟩=some (.int .i64 (i:Int)):=by simp [go_sem]
 have o:=uA fun (w':World) (j:Wy K ((w.alloc (.cells #[K.ptr] 187)).alloc (.cells #[.int .i64 (i:Int)] 3)) w')=>(show w'.cell? ⟨w.heap.size,0,none⟩=some K.ptr/\w'.cell? ⟨w.heap.size+1,0,none⟩=some (.int .i64 (i:Int))/\w'.cell? ⟨K.g,8,none⟩=some (.map (some K.m1)) from ⟨(j.turn.cell (p:=⟨w.heap.size,0,none⟩) (by rw [f];simp) (g _ nF)).trans s,(j.turn.cell (p:=⟨w.heap.size+1,0,none⟩) (by rw [f];simp) (g _ nF)).trans q1,j.ck.c8⟩)
 have z:=uA fun (w':World) (j:Wy K ((w.alloc (.cells #[K.ptr] 187)).alloc (.cells #[.int .i64 (i:Int)] 3)) w')=>uCa j.ck hi t ((j.turn.cell (p:=⟨w.heap.size,0,none⟩) (by rw [f];simp) (g _ nF)).trans s) ((j.turn.cell (p:=⟨w.heap.size+1,0,none⟩) (by rw [f];simp) (g _ nF)).trans q1) (by have:=j.turn.size;omega) (by have:=j.turn.size;omega)
 clear h hi t l f g s q1;go_enter func277,ntmps277
 go_wp2;have m:=uA ((Wy.refl y.o).drew);refine wp_region_held_drew (S:=(fun w'=>w'.cell? ⟨w.heap.size,0,none⟩=some K.ptr/\w'.cell? ⟨w.heap.size+1,0,none⟩=some (.int .i64 (i:Int))/\w'.cell? ⟨K.g,8,none⟩=some (.map (some K.m1)))) fL (o.o _ m.o) (fun hHeld=>?_);refine uJ [0,1,2,3,4,5] ?_
 repeat' (first | refine pT hHeld rfl ?_ | refine pS hHeld rfl ?_)
 refine uK ?_;refine wpAnyH_ready (rs:=[6]) fL nF ?_;refine AllReadyH.cons rfl (fun A u=>?_) AllReadyH.nil;go_simp;refine (z.o _ m.o).mono ?_;rintro C D ⟨rfl,r⟩;have n:=uA (m.o.trans r);clear r;refine u.out _ _ (o.o _ n.o) (fun hHeld=>?_);clear u A;try simp only [Ac]
 refine uJ [7] ?_
 repeat' (first | refine pT hHeld rfl ?_ | refine pS hHeld rfl ?_)
 refine uK ?_;refine wpAnyH_done fL ?_ _;go_wp2;go_ret;exact ⟨rfl,(Turn.of_below x.o).trans n.o.turn,n.o.ck⟩
theorem uDy {K:CkW} {s t:Int} {v:Bool} {w:World} (h:Ck K w) (hs:uH s) (y:uH t) (o:InP K.x.regions.n (s,t)) (z:out K.x.outl.L ((K.x.regions.L.length:Nat):Int) s t=v) :
 Calls prog 256 #[K.ptr,.int .i64 s,.int .i64 t] w fun e w'=>e=.returned (.bool v)/\Wy K w w':=by
 have l:Ab w (((w.alloc (.cells #[K.ptr] 187)).alloc (.cells #[.int .i64 s] 3)).alloc (.cells #[.int .i64 t] 3)):=(((uB w (.cells #[K.ptr] 187)).alloc (by first | (simp;done) | (simp;omega)) (.cells #[.int .i64 s] 3)).alloc (by first | (simp;done) | (simp;omega)) (.cells #[.int .i64 t] 3));have B:=uA l;have C:=uA (h.up l);have g:(((w.alloc (.cells #[K.ptr] 187)).alloc (.cells #[.int .i64 s] 3)).alloc (.cells #[.int .i64 t] 3)).heap.size=w.heap.size+3:=by simp
 have f:∀ k,w.heap.size<=k->¬K.S k:=fun k F q=>by have:=h.sLt _ q;omega
 have x:(((w.alloc (.cells #[K.ptr] 187)).alloc (.cells #[.int .i64 s] 3)).alloc (.cells #[.int .i64 t] 3)).cell? ⟨w.heap.size,0,none⟩=some (K.ptr):=by simp [go_sem]
 have q1:(((w.alloc (.cells #[K.ptr] 187)).alloc (.cells #[.int .i64 s] 3)).alloc (.cells #[.int .i64 t] 3)).cell? ⟨w.heap.size+1,0,none⟩=some (.int .i64 s):=by simp [go_sem]
 have q2:(((w.alloc (.cells #[K.ptr] 187)).alloc (.cells #[.int .i64 s] 3)).alloc (.cells #[.int .i64 t] 3)).cell? ⟨w.heap.size+2,0,none⟩=some (.int .i64 t):=by simp [go_sem]
 have r:=uA fun (w':World) (j:Wy K (((w.alloc (.cells #[K.ptr] 187)).alloc (.cells #[.int .i64 s] 3)).alloc (.cells #[.int .i64 t] 3)) w')=>(show w'.cell? ⟨w.heap.size,0,none⟩=some K.ptr/\w'.cell? ⟨w.heap.size+1,0,none⟩=some (.int .i64 s)/\w'.cell? ⟨w.heap.size+2,0,none⟩=some (.int .i64 t)/\w'.cell? ⟨K.g,10,none⟩=some (.map (some K.m3)) from ⟨(j.turn.cell (p:=⟨w.heap.size,0,none⟩) (by rw [g];simp) (f _ nF)).trans x,(j.turn.cell (p:=⟨w.heap.size+1,0,none⟩) (by rw [g];simp) (f _ nF)).trans q1,(j.turn.cell (p:=⟨w.heap.size+2,0,none⟩) (by rw [g];simp) (f _ nF)).trans q2,j.ck.c10⟩)
 have D:=uA fun (w':World) (j:Wy K (((w.alloc (.cells #[K.ptr] 187)).alloc (.cells #[.int .i64 s] 3)).alloc (.cells #[.int .i64 t] 3)) w')=>uEm j.ck hs y o z ((j.turn.cell (p:=⟨w.heap.size,0,none⟩) (by rw [g];simp) (f _ nF)).trans x) ((j.turn.cell (p:=⟨w.heap.size+1,0,none⟩) (by rw [g];simp) (f _ nF)).trans q1) ((j.turn.cell (p:=⟨w.heap.size+2,0,none⟩) (by rw [g];simp) (f _ nF)).trans q2) ⟨(by have:=j.turn.size;omega),f _ nF,f _ nF,f _ nF⟩
 clear h hs y o z l g f x q1 q2;go_enter func256,ntmps256
 go_wp2;have m:=uA ((Wy.refl C.o).drew);refine wp_region_held_drew (S:=(fun w'=>w'.cell? ⟨w.heap.size,0,none⟩=some K.ptr/\w'.cell? ⟨w.heap.size+1,0,none⟩=some (.int .i64 s)/\w'.cell? ⟨w.heap.size+2,0,none⟩=some (.int .i64 t)/\w'.cell? ⟨K.g,10,none⟩=some (.map (some K.m3)))) fL (r.o _ m.o) (fun hHeld=>?_);refine uJ [0,1,2,3,4,5,6,7] ?_
 repeat' (first | refine pT hHeld rfl ?_ | refine pS hHeld rfl ?_)
 refine uK ?_;refine wpAnyH_ready (rs:=[8]) fL nF ?_;refine AllReadyH.cons rfl (fun E A=>?_) AllReadyH.nil;go_simp;refine (D.o _ m.o).mono ?_;rintro G H ⟨rfl,u⟩;have n:=uA (m.o.trans u);clear u;refine A.out _ _ (r.o _ n.o) (fun hHeld=>?_);clear A E;try simp only [Ac]
 refine uJ [9] ?_
 repeat' (first | refine pT hHeld rfl ?_ | refine pS hHeld rfl ?_)
 refine uK ?_;refine wpAnyH_done fL ?_ _;go_wp2;go_ret;exact ⟨rfl,(Turn.of_below B.o).trans n.o.turn,n.o.ck⟩
theorem uDl {K:CkW} {s t:Int} {v:Bool} {w:World} (h:Ck K w) (hs:uH s) (B:uH t) (l:InP K.x.types.n (s,t)) (z:sub (out K.x.outl.L ((K.x.regions.L.length:Nat):Int)) (tys K.x.types.L) s t=v) :
 Calls prog 270 #[K.ptr,.int .i64 s,.int .i64 t] w fun e w'=>e=.returned (.bool v)/\Wy K w w':=by
 have o:Ab w (((w.alloc (.cells #[K.ptr] 187)).alloc (.cells #[.int .i64 s] 3)).alloc (.cells #[.int .i64 t] 3)):=(((uB w (.cells #[K.ptr] 187)).alloc (by first | (simp;done) | (simp;omega)) (.cells #[.int .i64 s] 3)).alloc (by first | (simp;done) | (simp;omega)) (.cells #[.int .i64 t] 3));have E:=uA o;have F:=uA (h.up o);have g:(((w.alloc (.cells #[K.ptr] 187)).alloc (.cells #[.int .i64 s] 3)).alloc (.cells #[.int .i64 t] 3)).heap.size=w.heap.size+3:=by simp
 have f:∀ k,w.heap.size<=k->¬K.S k:=fun k J q=>by have:=h.sLt _ q;omega
 have A:(((w.alloc (.cells #[K.ptr] 187)).alloc (.cells #[.int .i64 s] 3)).alloc (.cells #[.int .i64 t] 3)).cell? ⟨w.heap.size,0,none⟩=some (K.ptr):=by simp [go_sem]
 have q1:(((w.alloc (.cells #[K.ptr] 187)).alloc (.cells #[.int .i64 s] 3)).alloc (.cells #[.int .i64 t] 3)).cell? ⟨w.heap.size+1,0,none⟩=some (.int .i64 s):=by simp [go_sem]
 have q2:(((w.alloc (.cells #[K.ptr] 187)).alloc (.cells #[.int .i64 s] 3)).alloc (.cells #[.int .i64 t] 3)).cell? ⟨w.heap.size+2,0,none⟩=some (.int .i64 t):=by simp [go_sem]
 have r:=uA fun (w':World) (n:Wy K (((w.alloc (.cells #[K.ptr] 187)).alloc (.cells #[.int .i64 s] 3)).alloc (.cells #[.int .i64 t] 3)) w')=>(show w'.cell? ⟨w.heap.size,0,none⟩=some K.ptr/\w'.cell? ⟨w.heap.size+1,0,none⟩=some (.int .i64 s)/\w'.cell? ⟨w.heap.size+2,0,none⟩=some (.int .i64 t)/\w'.cell? ⟨K.g,9,none⟩=some (.map (some K.m2)) from ⟨(n.turn.cell (p:=⟨w.heap.size,0,none⟩) (by rw [g];simp) (f _ nF)).trans A,(n.turn.cell (p:=⟨w.heap.size+1,0,none⟩) (by rw [g];simp) (f _ nF)).trans q1,(n.turn.cell (p:=⟨w.heap.size+2,0,none⟩) (by rw [g];simp) (f _ nF)).trans q2,n.ck.c9⟩)
 have G:=uA fun (w':World) (n:Wy K (((w.alloc (.cells #[K.ptr] 187)).alloc (.cells #[.int .i64 s] 3)).alloc (.cells #[.int .i64 t] 3)) w')=>uCt n.ck hs B l z ((n.turn.cell (p:=⟨w.heap.size,0,none⟩) (by rw [g];simp) (f _ nF)).trans A) ((n.turn.cell (p:=⟨w.heap.size+1,0,none⟩) (by rw [g];simp) (f _ nF)).trans q1) ((n.turn.cell (p:=⟨w.heap.size+2,0,none⟩) (by rw [g];simp) (f _ nF)).trans q2) ⟨(by have:=n.turn.size;omega),f _ nF,f _ nF,f _ nF⟩
 by_cases m:s=t
 ·have H:(s == t)=true:=by simp [m]
  have C:v=true:=by
   rw [<-z,<- m];have L:=l.1.1;have M:s < (K.x.types.n:Int):=l.1.2;have I:=sub_self h (i:=s.toNat) bB
   rwa [show ((s.toNat:Nat):Int)=s by omega] at I
  subst C;clear h hs B l z o g f A q1 q2 m;go_enter func270,ntmps270
  go_wp2;have j:=uA ((Wy.refl F.o).drew);refine wp_region_held_drew (S:=(fun w'=>w'.cell? ⟨w.heap.size,0,none⟩=some K.ptr/\w'.cell? ⟨w.heap.size+1,0,none⟩=some (.int .i64 s)/\w'.cell? ⟨w.heap.size+2,0,none⟩=some (.int .i64 t)/\w'.cell? ⟨K.g,9,none⟩=some (.map (some K.m2)))) fL (r.o _ j.o) (fun hHeld=>?_);refine uJ [0,1,2,3,4,5,6,7,8,9,10,11] ?_
  repeat' (first | refine pT hHeld rfl ?_ | refine pS hHeld rfl ?_)
  refine uK ?_;refine wpAnyH_ready (rs:=[12]) fL nF ?_;refine AllReadyH.cons rfl (fun D x=>?_) AllReadyH.nil;go_simp;refine x.out _ _ hHeld (fun hHeld=>?_);clear x D;try simp only [Ac]
  refine uJ [13,14] ?_
  repeat' (first | refine pT hHeld rfl ?_ | refine pS hHeld rfl ?_)
  refine uK ?_;refine wpAnyH_done fL ?_ _;go_wp2;go_ret;exact ⟨rfl,(Turn.of_below E.o).trans j.o.turn,j.o.ck⟩
 ·have H:(s == t)=false:=by simp [m]
  clear h hs B l z o g f A q1 q2 m;go_enter func270,ntmps270
  go_wp2;have j:=uA ((Wy.refl F.o).drew);refine wp_region_held_drew (S:=(fun w'=>w'.cell? ⟨w.heap.size,0,none⟩=some K.ptr/\w'.cell? ⟨w.heap.size+1,0,none⟩=some (.int .i64 s)/\w'.cell? ⟨w.heap.size+2,0,none⟩=some (.int .i64 t)/\w'.cell? ⟨K.g,9,none⟩=some (.map (some K.m2)))) fL (r.o _ j.o) (fun hHeld=>?_);refine uJ [0,1,2,3,4,5,6,7,8,9,10,11] ?_
  repeat' (first | refine pT hHeld rfl ?_ | refine pS hHeld rfl ?_)
  refine uK ?_;refine wpAnyH_ready (rs:=[12]) fL nF ?_;refine AllReadyH.cons rfl (fun D x=>?_) AllReadyH.nil;go_simp;refine (G.o _ j.o).mono ?_;rintro O R ⟨rfl,y⟩;have u:=uA (j.o.trans y);clear y;refine x.out _ _ (r.o _ u.o) (fun hHeld=>?_);clear x D;try simp only [Ac]
  refine uJ [13,14] ?_
  repeat' (first | refine pT hHeld rfl ?_ | refine pS hHeld rfl ?_)
  refine uK ?_;refine wpAnyH_done fL ?_ _;go_wp2;go_ret;exact ⟨rfl,(Turn.of_below E.o).trans u.o.turn,u.o.ck⟩
def rdV (E:Env) (o:OpV):Int:=if (tyV E o.pl).2≠0 then (tyV E o.pl).2 else if (o.kind=0/\mF E.T (tyV E o.pl).1=false)\/(o.kind=1/\aT o.pl.ps 0=true) then 22 else 0
theorem uE8 {P:Prop} (h:P:=by
 clear hb2;obtain ⟨x20,x21,x22,x23⟩:=wy4 H0.o HW2.o;go_wp2;go_ret;exact ⟨rfl,(Turn.of_below HB.o).trans HW2.o.turn,HW2.o.ck⟩):P:=h
theorem uFm {P:Prop} (h:P:=by
 clear hv;go_enter func257,ntmps257
 go_wp2_with fail
 refine HC.o.mono ?_;rintro e1 w1 ⟨rfl,hb1⟩;have HW1:=uA (Wy.new HK.o hb1);clear hb1;obtain ⟨x10,x11,x12,x13⟩:=wy4 H0.o HW1.o;go_wp2_with fail
 refine (HM.o w1 HW1.o).mono ?_;rintro e2 w2 ⟨rfl,hb2⟩;have HW2:=uA (HW1.o.trans hb2);exact uE8):P:=h
theorem uFn {P:Prop} (h:P:=by
 clear hv;go_enter func257,ntmps257
 go_wp2_with fail
 refine HC.o.mono ?_;rintro e1 w1 ⟨rfl,hb1⟩;have HW1:=uA (Wy.new HK.o hb1);clear hb1;obtain ⟨x10,x11,x12,x13⟩:=wy4 H0.o HW1.o;go_wp2_with fail
 refine (HM.o w1 HW1.o).mono ?_;rintro e2 w2 ⟨rfl,hb2⟩;have HW2:=uA (HW1.o.up hb2);exact uE8):P:=h
theorem uE3 {P:Prop} (h:P:=by
 rintro e1 w1 ⟨rfl,hb1⟩;have HW1:=uA (Wy.new HK.o hb1);clear hb1;obtain ⟨x10,x11,x12,x13⟩:=wy4 H0.o HW1.o;go_wp2;go_ret;exact ⟨rfl,(Turn.of_below HB.o).trans HW1.o.turn,HW1.o.ck⟩):P:=h
theorem uAm {K:CkW} {o:OpW} {v:Int} {w:World} (h:Ck K w) (y:pB w K.B o) (E:o.kind=0\/o.kind=1) (hv:rdV K.E o.v=v) :
 Calls prog 257 #[K.ptr,BU o] w fun e w'=>e=.returned (.int .i64 v)/\Wy K w w':=by
 obtain ⟨k,⟨l,j,m,r,a⟩,n⟩:=o;simp only [] at E;obtain ⟨F,c⟩:∃ u,(tyV K.E (PlW.v ⟨l,j,m,r,a⟩)).1=u:=⟨_,rfl⟩;obtain ⟨z,d⟩:∃ u,(tyV K.E (PlW.v ⟨l,j,m,r,a⟩)).2=u:=⟨_,rfl⟩;have g:tyV K.E (PlW.v ⟨l,j,m,r,a⟩)=(F,z):=Fp c d;have B:rdV K.E (OpW.v ⟨k,⟨l,j,m,r,a⟩,n⟩)=if z≠0 then z else if (k=0/\mF (tys K.x.types.L) F=false)\/(k=1/\aT a 0=true) then 22 else 0:=by
  rw [<-c,<- d];rfl
 rw [B] at hv;clear B;by_cases D:z=0
 ·subst D;rw [if_neg nF] at hv;obtain ⟨i,I,C,s⟩:=h.vb.ty (p:=PlW.v ⟨l,j,m,r,a⟩) d;have C:(tyV K.E (PlW.v ⟨l,j,m,r,a⟩)).1=(i:Int):=C;obtain rfl:F=(i:Int):=c.symm.trans C;have G:i < K.x.types.n:=by have J:=(Ah.1 s).1;have L:=h.one.types.len;omega
  rcases E with rfl | rfl
  ·have HB:=uA (uB w (.cells (cOp ⟨0,⟨l,j,m,r,a⟩,n⟩).toArray 183));have HK:=uA (h.up HB.o);have H0:=uA h;have A:=uA (y.below (HB.o.mono h.bs));have HC:=uA (wK HK.o A.o.pl g);obtain ⟨b,t⟩:∃ b,mF (tys K.x.types.L) (i:Int)=b:=⟨_,rfl⟩;rw [t] at hv;clear h y c d g C s;have HM:=uA fun (w':World) (q:Wy K (w.alloc (.cells (cOp ⟨0,⟨l,j,m,r,a⟩,n⟩).toArray 183)) w')=>TL q.ck G t
   clear t;cases b
   ·obtain rfl:v=22:=by rw [<-hv];simp
    exact uFm
   ·obtain rfl:v=0:=by rw [<-hv];simp
    exact uFm
  ·have HB:=uA (uB w (.cells (cOp ⟨1,⟨l,j,m,r,a⟩,n⟩).toArray 183));have HK:=uA (h.up HB.o);have H0:=uA h;have A:=uA (y.below (HB.o.mono h.bs));have HC:=uA (wK HK.o A.o.pl g);obtain ⟨b,t⟩:∃ b,aT a 0=b:=⟨_,rfl⟩;rw [t] at hv;clear h y c d g C s;have HM:=uA fun (w':World) (q:Wy K (w.alloc (.cells (cOp ⟨1,⟨l,j,m,r,a⟩,n⟩).toArray 183)) w')=>oW (x:=⟨l,j,m,r,a⟩) (f:=0) t w' ((A.o.pl.below (q.low HK.o)).more q.ck.bs)
   clear t;cases b
   ·obtain rfl:v=0:=by rw [<-hv];simp
    exact uFn
   ·obtain rfl:v=22:=by rw [<-hv];simp
    exact uFn
 ·have H:(z != 0)=true:=by simp [D]
  rw [if_pos D] at hv;obtain rfl:z=v:=hv;clear c d D E;have HB:=uA (uB w (.cells (cOp ⟨k,⟨l,j,m,r,a⟩,n⟩).toArray 183));have HK:=uA (h.up HB.o);have H0:=uA h;have A:=uA (y.below (HB.o.mono h.bs));clear h y;have HC:=uA (wK HK.o A.o.pl g);clear g;go_enter func257,ntmps257
  go_wp2_with fail
  refine HC.o.mono ?_;exact uE3
theorem JW {E:Env} {o:OpV} (c:o.kind=0\/o.kind=1) (d:o.n=0):vP E o=rdV E o:=by
 unfold vP rdV;rw [if_neg bB,if_neg (by rintro (⟨a,_⟩ | ⟨a,_⟩) <;> omega),if_neg bB,if_neg bB]
theorem uEx {P:Prop} (h:P:=by
 go_enter func242,ntmps242
 go_wp2;go_ret;exact ⟨rfl,Turn.of_below HB.o,HK.o⟩):P:=h
theorem sS {P:Prop} (h:P:=by
 go_enter func242,ntmps242
 go_wp2_with fail
 refine (oQ (x:=⟨l,pA,pn,pc,ps⟩) hz _ (HO.o.pl.more HK.o.bs)).mono ?_;exact uE3):P:=h
theorem XE {P:Prop} (h:P:=by
 have tn:(n != 0)=true:=by simp [hn]
 obtain rfl:v=2:=by
  rw [<-hv];simp [vP,OpW.v,hn]
 clear h ho hn hv;exact uEx):P:=h
theorem uEu {P:Prop} (h:P:=by
 have HC:=uA (uAm HK.o HO.o nF hrd);clear h ho hv hrd hn;go_enter func242,ntmps242
 go_wp2_with fail
 refine HC.o.mono ?_;rintro e1 w1 ⟨rfl,hb1⟩;have HW1:=uA hb1;clear hb1;go_wp2;go_ret;exact ⟨rfl,(Turn.of_below HB.o).trans HW1.o.turn,HW1.o.ck⟩):P:=h
theorem uFk {P:Prop} (h:P:=by
 have hz:noP (PlW.v ⟨l,pA,pn,pc,ps⟩)=false:=by simpa using hz
 obtain rfl:v=2:=by
  rw [<-hv];simp [vP,OpW.v,hz]
 clear h ho hv;exact sS):P:=h
theorem CY {K:CkW} {o:OpW} {v:Int} {w:World} (h:Ck K w) (ho:pB w K.B o) (hv:vP K.E o.v=v) :
 Calls prog 242 #[K.ptr,BU o] w fun e w'=>e=.returned (.int .i64 v)/\Wy K w w':=by
 obtain ⟨k,⟨l,pA,pn,pc,ps⟩,n⟩:=o;by_cases g:0<=k/\k<=4
 ·have g:k=0\/k=1\/k=2\/k=3\/k=4:=by omega
  rcases g with rfl | rfl | rfl | rfl | rfl
  ·-- kind 0
   have HB:=uA (uB w (.cells (cOp ⟨0,⟨l,pA,pn,pc,ps⟩,n⟩).toArray 183));have HK:=uA (h.up HB.o);have H0:=uA h;have HO:=uA (ho.below (HB.o.mono h.bs));by_cases hn:n=0
   ·have tn:(n != 0)=false:=(by simp [hn]);have hrd:rdV K.E (OpW.v ⟨0,⟨l,pA,pn,pc,ps⟩,n⟩)=v:=(JW (by simp [OpW.v]) hn).symm.trans hv;exact uEu
   ·exact XE
  ·-- kind 1
   have HB:=uA (uB w (.cells (cOp ⟨1,⟨l,pA,pn,pc,ps⟩,n⟩).toArray 183));have HK:=uA (h.up HB.o);have H0:=uA h;have HO:=uA (ho.below (HB.o.mono h.bs));by_cases hn:n=0
   ·have tn:(n != 0)=false:=(by simp [hn]);have hrd:rdV K.E (OpW.v ⟨1,⟨l,pA,pn,pc,ps⟩,n⟩)=v:=(JW (by simp [OpW.v]) hn).symm.trans hv;exact uEu
   ·exact XE
  ·-- kind 2
   have HB:=uA (uB w (.cells (cOp ⟨2,⟨l,pA,pn,pc,ps⟩,n⟩).toArray 183));have HK:=uA (h.up HB.o);have H0:=uA h;have HO:=uA (ho.below (HB.o.mono h.bs));by_cases hz:noP (PlW.v ⟨l,pA,pn,pc,ps⟩)=true
   ·obtain rfl:v=0:=by
     rw [<-hv];simp [vP,OpW.v,hz]
    clear h ho hv;exact sS
   ·exact uFk
  ·-- kind 3
   have HB:=uA (uB w (.cells (cOp ⟨3,⟨l,pA,pn,pc,ps⟩,n⟩).toArray 183));have HK:=uA (h.up HB.o);have H0:=uA h;have HO:=uA (ho.below (HB.o.mono h.bs));by_cases hz:noP (PlW.v ⟨l,pA,pn,pc,ps⟩)=true
   ·by_cases a:n=0
    ·have i:(n != 0)=false:=(by simp [a]);obtain rfl:v=0:=by
      rw [<-hv];simp [vP,OpW.v,hz,a]
     clear h ho a hv;exact sS
    ·have i:(n != 0)=true:=(by simp [a]);by_cases c:n=1
     ·have j:(n != 1)=false:=(by simp [c]);obtain rfl:v=0:=by
       rw [<-hv];simp [vP,OpW.v,hz,c]
      clear h ho a c hv;exact sS
     ·have j:(n != 1)=true:=(by simp [c]);obtain rfl:v=3:=by
       rw [<-hv];simp [vP,OpW.v,hz,a,c]
      clear h ho a c hv;exact sS
   ·exact uFk
  ·-- kind 4
   have HB:=uA (uB w (.cells (cOp ⟨4,⟨l,pA,pn,pc,ps⟩,n⟩).toArray 183));have HK:=uA (h.up HB.o);have H0:=uA h;have HO:=uA (ho.below (HB.o.mono h.bs));by_cases hn:n=0
   ·have tn:(n != 0)=false:=(by simp [hn]);by_cases hz:noP (PlW.v ⟨l,pA,pn,pc,ps⟩)=true
    ·obtain rfl:v=0:=by
      rw [<-hv];simp [vP,OpW.v,hz,hn]
     clear h ho hn hv;exact sS
    ·have hz:noP (PlW.v ⟨l,pA,pn,pc,ps⟩)=false:=(by simpa using hz);obtain rfl:v=2:=by
      rw [<-hv];simp [vP,OpW.v,hz,hn]
     clear h ho hn hv;exact sS
   ·exact XE
 ·have d:k < 0\/4 < k:=by omega
  have f:vP K.E (OpW.v ⟨k,⟨l,pA,pn,pc,ps⟩,n⟩)=14:=by unfold vP;exact if_pos d
  obtain rfl:v=14:=hv.symm.trans f;have i:(k == 0)=false:=by rw [beq_eq_false_iff_ne];omega
  have j:(k == 1)=false:=by rw [beq_eq_false_iff_ne];omega
  have m:(k == 2)=false:=by rw [beq_eq_false_iff_ne];omega
  have p:(k == 3)=false:=by rw [beq_eq_false_iff_ne];omega
  have q:(k == 4)=false:=by rw [beq_eq_false_iff_ne];omega
  have r:(k != 4)=true:=by rw [bne_iff_ne];omega
  clear g d hv f;have HB:=uA (uB w (.cells (cOp ⟨k,⟨l,pA,pn,pc,ps⟩,n⟩).toArray 183));have HK:=uA (h.up HB.o);have H0:=uA h;have HO:=uA (ho.below (HB.o.mono h.bs));clear h ho;exact uEx
end Go.Proofs.YtnkjbjkoffgocaaGreatDoor
