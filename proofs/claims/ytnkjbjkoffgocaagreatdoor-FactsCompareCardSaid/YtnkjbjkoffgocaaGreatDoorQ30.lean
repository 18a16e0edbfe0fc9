import Derived.Test.YtnkjbjkoffgocaaGreatDoorQ29
set_option linter.unusedVariables false
set_option linter.unusedSimpArgs false
set_option maxRecDepth 100000
set_option maxHeartbeats 32000000
namespace Go.Proofs.YtnkjbjkoffgocaaGreatDoor
open Tryz Go.RowKit
def tV (G:List (SlW CgW)) (p:Nat):List CgW:=((G[p]?).map fun s=>s.L).getD []
theorem uCv {G:List (SlW CgW)} {p:Nat} {s:SlW CgW} (h:G[p]?=some s):tV G p=s.L:=by unfold tV;rw [h];rfl
def pK (G:List (SlW CgW)) (p:Nat) (q:Int):Int:=((List.range (p+1)).map fun k=>pZ (tV G k) q).sum
theorem EQ (G:List (SlW CgW)) (p:Nat) (q:Int):pK G (p+1) q=pK G p q+pZ (tV G (p+1)) q:=by
 unfold pK;rw [Dx,By,Ft];simp
theorem YE (L:List CgW) (g:CgW) (q:Int):pZ (L++[g]) q=pZ L q+g.2*(g.1.L.count q:Int):=by
 rw [VU];unfold pZ;simp
theorem uBg {G:List (SlW CgW)} {a:Nat} {s s':SlW CgW} {g:CgW} (h:G[a]?=some s) (d:s'.L=s.L++[g]) (q:Int):∀ p,pK (G.set a s') p q=pK G p q+if a<=p then g.2*(g.1.L.count q:Int) else 0:=by
 have i:=(Ah.1 h).1;have b:∀ k,pZ (tV (G.set a s') k) q=pZ (tV G k) q+if a=k then g.2*(g.1.L.count q:Int) else 0:=fun k=>by
  unfold tV;rw [Cp];by_cases e:a=k
  ·subst e;rw [if_pos rfl,if_pos i,if_pos rfl,h];show pZ s'.L q=pZ s.L q+_;rw [d,YE]
  ·rw [if_neg e,if_neg e,Ha]
 intro p
 induction p with
 | zero=>
   unfold pK;simp only [Ea,List.range_one,C6,D2,Gh,List.sum_nil,Ha];rw [b];by_cases e:a=0
   ·rw [if_pos e,if_pos bB]
   ·rw [if_neg e,if_neg bB]
 | succ p j=>
   rw [EQ,EQ,j,b];by_cases e:a=p+1
   ·rw [if_pos e,if_neg bB,if_pos bB];omega
   ·rw [if_neg e];by_cases c:a<=p
    ·rw [if_pos c,if_pos bB];omega
    ·rw [if_neg c,if_neg bB];omega
theorem uEh {a b p:Nat} (h:a < b) (d:Int):(if a<=p then 1*d else 0)+(if b<=p then (-1)*d else 0)=(xW [(a,b)] p:Int)*d:=by
 rw [cK];by_cases c:a<=p
 ·by_cases g:b<=p
  ·rw [if_pos c,if_pos g,if_neg bB];simp;omega
  ·rw [if_pos c,if_neg g,if_pos bB];simp
 ·rw [if_neg c,if_neg bB,if_neg bB];simp
theorem uCi {J:List wM} {C:Nat} (h:oC C J):xW J C=0:=by
 unfold xW;rw [Ek];intro r a;have:=(h r a).2;simp;omega
theorem CF {l:List BkV} {x:Int}:lvB l x (uF l)=false:=uGf fun h=>by
 rcases cZ.1 h with h | ⟨_,q,j,_⟩
 ·cases e:wA l (uF l) with
  | none=>
    have a:vB l ((uF l:Nat):Int)=none:=by unfold vB;rw [if_neg bB,A3];exact e
    unfold mJ at h;rw [sI a] at h;cases h
  | some r=>
    obtain ⟨i,k⟩:=r;obtain ⟨b,c,d,o⟩:=vI e;have:=aQ c d;omega
 ·have g:=(nX.1 (aG.1 j)).2;unfold bQ at g;cases e:wA l (uF l) with
  | none=>
    have a:vB l ((uF l:Nat):Int)=none:=by unfold vB;rw [if_neg bB,A3];exact e
    simp [a] at g
  | some r=>
    obtain ⟨i,k⟩:=r;obtain ⟨b,c,d,o⟩:=vI e;have:=aQ c d;omega
noncomputable def tW (T:List Ty) (t:Int):List Int:=open Classical in if h:∃ a:List Int,a.Pairwise (· < ·)/\∀ q,q∈a↔wO T t q then h.choose else []
theorem QK {T:List Ty} {t:Int} {ys:List Int} (a:ys.Pairwise (· < ·)) (b:∀ q,q∈ys↔wO T t q):tW T t=ys:=by
 have h:∃ ys:List Int,ys.Pairwise (· < ·)/\∀ q,q∈ys↔wO T t q:=⟨ys,a,b⟩;unfold tW;rw [dif_pos h];exact bU h.choose_spec.1 a fun z=>(h.choose_spec.2 z).trans (b z).symm
noncomputable def oK (l:List BkV) (M:Nat->List Int):Nat->Nat->Int->Int
 | 0,_,_=>0
 | i+1,p,q=>oK l M i p q+(if lvB l (i:Int) p=true then 1 else 0)*((M i).count q:Int)
theorem gV {l:List BkV} {M:Nat->List Int} {p:Nat} {q:Int}:∀ {n:Nat},0<=oK l M n p q/\(oK l M n p q≠0↔∃ i,i < n/\zC l (i:Int) p/\q∈M i)
 | 0=>⟨by simp [oK],by simp [oK]⟩
 | n+1=>by
   obtain ⟨o,c⟩:=gV (l:=l) (M:=M) (p:=p) (q:=q) (n:=n);have r:(0:Int)<=((M n).count q:Int):=bB;unfold oK;by_cases a:lvB l (n:Int) p=true
   ·rw [if_pos a,Int.one_mul];refine ⟨bB,?_⟩;have j:(M n).count q≠0↔q∈M n:=(by rw [ne_eq,List.count_eq_zero,Classical.not_not]);constructor
    ·intro h;by_cases d:oK l M n p q=0
     ·exact ⟨n,Dr n,dU.1 a,j.1 bB⟩
     ·obtain ⟨i,g,b⟩:=c.1 d;exact ⟨i,bB,b⟩
    ·rintro ⟨i,g,d,b⟩ s;rcases Bs i n with h6 | h6
     ·have:=c.2 ⟨i,h6,d,b⟩;omega
     ·obtain rfl:i=n:=by omega
      have:=j.2 b;omega
   ·rw [if_neg a,Int.zero_mul,Ha];refine ⟨o,c.trans ⟨fun ⟨i,g,h⟩=>⟨i,bB,h⟩,fun ⟨i,g,h⟩=>⟨i,?_,h⟩⟩⟩;rcases Bs i n with h6 | h6
    ·exact h6
    ·obtain rfl:i=n:=by omega
     exact absurd (dU.2 h.1) a
section
variable {α:Type} {w w':World} {base m:Nat} {e:TypeId} {k:Nat} {f:α->List Value} {S:Int->SlW α} {K:List Int} {q:Int}
theorem xD.look_ok {T E:TypeId} (i:prog.underlying T=some (.map 3 E)) (j:(zeroValue E).run prog w=.ok (.slice none 0 0) w) (h:xD w base m e k f S K) (d:uH q):(Instr.lookup T (.map (some m)) (.int .i64 q) true).run prog w=.ok (.tuple #[(S q).val,.bool (decide (q∈K))]) w:=by
 obtain ⟨l,o,g,p⟩:=h.own;obtain ⟨v,r,b,a⟩:=o.look_ok zS i j (zd:=.held (.slice none 0 0)) (zp:=[]) rfl (wY d);rw [b];unfold qE at a;injection a with a;injection a with a _;cases hh:Maps.has l (.int .i64 q)
 ·rw [Cm hh] at a;injection a with a;have c:q∉K:=fun c=>by rw [(g q d).2 c] at hh;cases hh
  rw [a,h.o q c,decide_eq_false c]
 ·rw [p q hh] at a;injection a with a;rw [a,decide_eq_true ((g q d).1 hh)]
theorem xD.insert {w6 w7 l:World} {s':SlW α} {o:DataW Value} (h:xD w6 base m e k f S K) (s:Ab w6 w7) (u:w7.ownsRow base e k s'.val s'.n (s'.L.flatMap f)) (j:∀ b,s'.val.ownBlock=some b->w6.heap.size<=b) (O:uH q)
 (L:w7.ownsMap prog 3 qE m K.length o) (P:∀ q,uH q->(Maps.has o (.int .i64 q)=true↔q∈K)) (Q:∀ q,Maps.has o (.int .i64 q)=true->∀ z,o.atKey (.int .i64 q) z=.held (S q).val)
 (R:l.ownsMap prog 3 qE m (K.length+1) (o.put (.int .i64 q) (.held s'.val))) (E:w7.grownBy l (some m)):xD l base m e k f (eQ S q s') (K++[q])/\(∀ {lo x n:Nat} {t:TypeId} {v:Value} {y:List Value},w7.ownsRow lo t x v n y->l.ownsRow lo t x v n y):=by
 have B:=L.isMap;have T:(K++[q]).length=K.length+1:=by simp
 have c:∀ {lo x n:Nat} {t:TypeId} {v:Value} {y:List Value},w7.ownsRow lo t x v n y->l.ownsRow lo t x v n y:=fun i=>by
  obtain ⟨U,F⟩:=i;refine ⟨U,?_⟩;rcases F with F | ⟨g,H,I,V,s,D,r⟩
  ·exact .inl F
  ·refine .inr ⟨g,H,I,V,s,(E.block g (Ag.1 D).1 fun a=>?_).trans D,r⟩;injection a with a;subst a;obtain ⟨es,J,B,_⟩:=L;rw [B] at D;cases D
 refine ⟨⟨⟨_,T ▸ R,fun p hp=>?_,fun p M z=>?_⟩,fun p hp=>?_,fun p hp=>?_,fun p=>?_,fun p r A b hp i=>?_⟩,c⟩
 ·by_cases a:p=q
  ·subst a;rw [Da B (show Go.WideAt.IsKeyLit (.int .i64 p) from trivial)];simp
  ·rw [B7 (zI a),P p hp];simp [a]
 ·unfold eQ;by_cases a:p=q
  ·subst a;rw [if_pos rfl];exact Cn B (show Go.WideAt.IsKeyLit (.int .i64 p) from trivial) _ z
  ·rw [B7 (zI a)] at M;rw [if_neg a];exact (Ci (zI a) _ z).trans (Q p M z)
 ·rcases Aq.1 hp with hp | hp
  ·exact h.rng p hp
  ·rw [An.1 hp];exact O
 ·unfold eQ;rw [if_neg fun a=>hp (Aq.2 (.inr (by simp [a])))];exact h.o p fun W=>hp (Aq.2 (.inl W))
 ·unfold eQ;by_cases a:p=q
  ·rw [if_pos a];exact c u
  ·rw [if_neg a];exact c (uC (h.row p) s)
 ·unfold eQ at hp i;have d:∀ (p:Int) (b:Nat),(S p).val.ownBlock=some b->b < w6.heap.size:=fun p b s=>((h.row p).lt b s).2
  by_cases a:p=q
  ·rw [if_pos a] at hp;rw [if_neg fun X=>A (a.trans X.symm)] at i;have Y:=j b hp;have Z:=d r b i;omega
  ·rw [if_neg a] at hp;by_cases N:r=q
   ·rw [if_pos N] at i;have Y:=j b i;have Z:=d p b hp;omega
   ·rw [if_neg N] at i;exact h.dis p r A b hp i
end
structure aS (w:World) (lo:Nat) (g:CgW):Prop where
 row:w.ownsRow lo 3 1 g.1.val g.1.n (g.1.L.flatMap uX)
 by_:g.2=1\/g.2=-1
 rng:∀ q∈g.1.L,uH q
 few:g.1.n<=10
theorem aS.below {w w':World} {lo:Nat} {g:CgW} (h:aS w lo g) (a:Ab w w'):aS w' lo g:=⟨uC h.row a,h.by_,h.rng,h.few⟩
theorem aS.kt {w w':World} {lo:Nat} {g:CgW} {t:TypeId} (h:aS w lo g) (a:KT t w w') (b:3≠t):aS w' lo g:=⟨xV h.row a b,h.by_,h.rng,h.few⟩
structure nI (w:World) (b1 gb lo C n:Nat) (G:List (SlW CgW)):Prop where
 grid:wJ w b1 gb 138 205 2 cCg G
 len:G.length=C+1
 all:∀ (p:Nat) s,G[p]?=some s->s.n<=n/\∀ g∈s.L,aS w lo g
section
variable {w w' wp w7:World} {b1 gb lo C n:Nat} {G:List (SlW CgW)}
theorem nI.below (h:nI w b1 gb lo C n G) (a:Ab w w'):nI w' b1 gb lo C n G:=⟨h.grid.below a,h.len,fun p s b=>⟨(h.all p s b).1,fun g c=>((h.all p s b).2 g c).below a⟩⟩
theorem nI.more {a:Nat} (h:nI w b1 gb lo C n G) (c:n<=a):nI w b1 gb lo C a G:=⟨h.grid,h.len,fun p s b=>⟨Ai (h.all p s b).1 c,(h.all p s b).2⟩⟩
theorem nI.begin {C:Nat} (h:Bx w gb (List.replicate (C+1) (.slice none 0 0)) 138) (b1 lo n:Nat):nI w b1 gb lo C n (List.replicate (C+1) ⟨none,0,0,[]⟩):=
 ⟨wJ.of_nil h _ _ _ _,nF,fun p s a=>by
  rw [Ei (Aj a)];exact ⟨Am _,fun g b=>by cases b⟩⟩
theorem nI.add {g cap a:Nat} {s:SlW CgW} {c:CgW} (h:nI w b1 gb lo C n G) (l:G[a]?=some s) (t:Ab w wp) (u:wp.grownBy w7 s.val.ownBlock) (o:w7.ownsRow b1 205 2 (.slice (some ⟨g,0,none⟩) (s.n+1) cap) (s.n+1) (s.L.flatMap cCg++cCg c))
 (v:s.val.ownBlock=some g\/g=wp.heap.size) (y:gb < b1) (H:b1<=w.heap.size) (I:aS w lo c) :
 w7.cell? ⟨gb,a,none⟩=some s.val/\w7.frozen? ⟨gb,a,none⟩=false/\(∃ F,nI (w7.setCell ⟨gb,a,none⟩ (.slice (some ⟨g,0,none⟩) (s.n+1) cap)) b1 gb lo C (n+1) F/\∀ p q,pK F p q=pK G p q+if a<=p then c.2*(c.1.L.count q:Int) else 0) /\
  (∃ A,KT 205 wp w7/\A=w7.setCell ⟨gb,a,none⟩ (.slice (some ⟨g,0,none⟩) (s.n+1) cap)/\KT 138 w7 A/\Turn (fun b=>b≠gb->s.val.ownBlock=some b) wp A)/\∀ i,Ab i w->i.heap.size<=gb->Ab i (w7.setCell ⟨gb,a,none⟩ (.slice (some ⟨g,0,none⟩) (s.n+1) cap)):=by
 obtain ⟨J,L,M,N⟩:=wJ.stored (s':=⟨some ⟨g,0,none⟩,s.n+1,cap,s.L++[c]⟩) h.grid l t u (by rw [Bk];exact o) (v.elim (fun e=>.inl e.symm) fun e=>.inr (by rw [e];rfl)) y H;have j:=KT.of_grown u (uC (h.grid.own a s l) t);have B:Bx w7 gb (G.map SlW.val) 138:=((show Bx w gb (G.map SlW.val) 138 from h.grid.blk).below t).kt j eW;have r:=KT.of_set B a (.slice (some ⟨g,0,none⟩) (s.n+1) cap);have D:∀ x,aS w lo x->aS (w7.setCell ⟨gb,a,none⟩ (.slice (some ⟨g,0,none⟩) (s.n+1) cap)) lo x:=fun x hx=>((hx.below t).kt j eW).kt r eW
 refine ⟨J,L,⟨_,⟨M,by rw [D9];exact h.len,fun p z d=>?_⟩,fun p q=>uBg l rfl q p⟩,⟨_,j,rfl,r,?_⟩,fun i O P=>?_⟩
 ·rw [Cp] at d;by_cases e:a=p
  ·subst e;rw [if_pos rfl,if_pos (Ah.1 l).1] at d;injection d with d;subst d;refine ⟨Gn (h.all a s l).1,fun x hx=>?_⟩;rcases Aq.1 hx with hx | hx
   ·exact D x ((h.all a s l).2 x hx)
   ·rw [An.1 hx];exact D c I
  ·rw [if_neg e] at d;exact ⟨Gf (h.all p z d).1,fun x hx=>D x ((h.all p z d).2 x hx)⟩
 ·have Q:Turn (fun b=>b≠gb->s.val.ownBlock=some b) wp w7:=(Turn.refl _ wp).grown u fun b E=>.inl fun _=>E
  exact Q.setCell (a:=⟨gb,a,none⟩) (.inl fun e=>absurd rfl e) _
 ·exact (N i (Turn.of_below O) bB).below (Ae _) fun k R=>by rw [R];exact P
end
theorem xD.kt2 {α:Type} {w w' a:World} {base m:Nat} {e:TypeId} {k:Nat} {f:α->List Value} {S:Int->SlW α} {K:List Int} {t d:TypeId} {X:Nat->Prop} (h:xD w base m e k f S K) (i:KT t w w') (j:e≠t) (b:KT d w' a) (c:e≠d) (l:Turn X w a) (o:¬X m):xD a base m e k f S K:=by
 obtain ⟨p,g,r⟩:=h.own;exact ⟨⟨p,uN g (l.block m g.lt o),r⟩,h.rng,h.o,fun q=>xV (xV (h.row q) i j) b c,h.dis⟩
theorem BN {l:List Int} {n:Nat} (h:l.Pairwise (· < ·)) (a:∀ q∈l,0<=q/\q < (n:Int)):l.length<=n:=by
 have c:=pP (m:=(List.range n).map fun (k:Nat)=>(k:Int)) (h.imp fun h=>by omega:l.Nodup) fun q b=>Bw.2 ⟨q.toNat,B1.2 (by have:=a q b;omega),by have:=a q b;omega⟩
 simpa using c
theorem KT.of_map {w w':World} {m n:Nat} {H:Type} {R:Value->Option (DataW H×List MemPlace)} {D:DataW H} {t:TypeId} (d:w.ownsMap prog 3 R m n D) (g:w.grownBy w' (some m)):KT t w w':=fun k i e j a _=>by
 refine g.block k (Ag.1 a).1 fun b=>?_
 injection b with b;subst b;obtain ⟨l,c,h,_⟩:=d;rw [h] at a;cases a
theorem nI.kt {w w':World} {b1 gb lo C n:Nat} {G:List (SlW CgW)} {t:TypeId} (h:nI w b1 gb lo C n G) (a:KT t w w') (c:138≠t) (d:205≠t) (i:3≠t):nI w' b1 gb lo C n G:=⟨h.grid.kt a c d,h.len,fun p s b=>⟨(h.all p s b).1,fun g j=>((h.all p s b).2 g j).kt a i⟩⟩
theorem uD3:(prog.info? 205).map (fun i=>(i.zero,i.size,i.bytes))=some (some (.agg #[.slice none 0 0,.int .i64 0]),2,32):=by kernel_rfl
theorem VY:(prog.info? 138).map (fun i=>(i.zero,i.size,i.bytes))=some (some (.slice none 0 0),1,24):=by kernel_rfl
theorem uIq:prog.underlying 198=some (.map 3 60):=underlying198
theorem ML (w:World):(zeroValue 60).run prog w=.ok (.slice none 0 0) w:=by kernel_rfl
noncomputable def FK (x:BdW) (i:Nat):List Int:=tW (tys x.types.L) (EI (lcs x.locals.L) (i:Int))
def uJd (l:List BkV) (M:Nat->List Int) (C n lo:Nat) (e:Ending) (w':World):Prop:=∃ gb c b1 G,e=.returned (.slice (some ⟨gb,0,none⟩) (C+1) c)/\lo<=gb/\gb < b1/\nI w' b1 gb lo C 80000 G/\∀ p,p<=C->∀ q,pK G p q=oK l M n p q
theorem KE (x:BdW) (w:World) (hx:uS w w.heap.size x) (hC:uF x.v.blocks<=60) (co:x.locals.n<=20) (bx:x.regions.n<=10) (cp:∀ b∈x.v.blocks,b.term.targets.length<=100000) (hU:DQ x.v.blocks) (hT:YD x.v.blocks) (hE:(xF x.v.blocks).length<=200000)
 (hty:TyOk (tys x.types.L) (x.regions.n:Int)) (cq:uCq (tys x.types.L) (lcs x.locals.L)) :
 Calls prog 73 #[vR x] w fun e w'=>uJd x.v.blocks (FK x) (uF x.v.blocks) x.locals.n w.heap.size e w'/\Below w.heap.size w w':=by
 obtain ⟨l,hl⟩:∃ l,x.v.blocks=l:=⟨_,rfl⟩;have cr:=uA fun (w':World) (y:Below w.heap.size w w')=>IT x w' (hx.up y) (Ai hC eW) cp hU hT hE
 have bz:=uA fun (w':World) (y:Below w.heap.size w w')=>MO x w' (hx.up y) (Ai hC eW)
 have ct:=uA (show x.types.n<=65535 by have h:=hty.len;rw [Ao,hx.types.len] at h;exact h);have e0:=uA fun (w':World) (y:Below w.heap.size w w') (t:Nat) (ht:t < x.types.n)=>PQ (c:=x.types.c) ((hx.up y).typs) (Ae _) hx.types.nc hx.types.cm ct.o hty bB t ht
 have cu:Hdd (∀ i,FK x i=tW (tys x.types.L) (EI (lcs x.locals.L) (i:Int))):=fun _=>rfl;have c2:=uA fun (t:Nat) (q:Int) (hq:wO (tys x.types.L) (t:Int) q)=>wO.bd hty hq
 rw [hl] at hC hE cr bz ⊢;have e1:=uA hE;obtain ⟨M,hM⟩:∃ M,FK x=M:=⟨_,rfl⟩;rw [hM] at cu ⊢;have cv:=uA hx.locals;have e2:Hdd (∀ (i:Nat) y,x.locals.L[i]?=some y->∃ t:Nat,y.ty=(t:Int)/\t < x.types.n/\EI (lcs x.locals.L) (i:Int)=(t:Int)):=fun i y hy=>by
  have h1:(lcs x.locals.L)[i]?=some y.ty:=DH hy;have h2:=cq y.ty (Aj h1);have h3:(tys x.types.L).length=x.types.n:=by rw [Ao];exact hx.types.len
  refine ⟨y.ty.toNat,bB,bB,?_⟩;unfold EI;rw [A3,h1];show y.ty=_;omega
 clear hx cp hU hT hE hl hM hty cq;obtain ⟨C,c3⟩:∃ C,uF l=C:=⟨_,rfl⟩;rw [c3] at bz hC ⊢;have bg:=uA c3;clear c3;obtain ⟨nm,⟨rA,rn,rc,rL⟩,⟨oA,on,oc,oL⟩,⟨tA,tm,tc,tL⟩,⟨lA,ln,lc,lL⟩,ar,⟨bA,bn,bc,bL⟩⟩:=x;have co:ln<=20:=co;have bx:rn<=10:=bx;have e3:Hdd (lL.length=ln):=cv.o.len;obtain ⟨lo,cw⟩:∃ n,w.heap.size=n:=⟨_,rfl⟩;have HB:=uA (uB w (.cells #[.string nm,.slice rA rn rc,.slice oA on oc,.slice tA tm tc,.slice lA ln lc,.int .i64 ar,.slice bA bn bc] 28));have c4:=uA fun (w':World) (y:Ab (w.alloc (.cells #[.string nm,.slice rA rn rc,.slice oA on oc,.slice tA tm tc,.slice lA ln lc,.int .i64 ar,.slice bA bn bc] 28)) w')=>xB y
 obtain ⟨x0,x1,x2,x3,x4,x5,x6⟩:=c4.o _ (Below.refl _ _);obtain ⟨i1,cx,cy,cz,d0⟩:=info_parts VY;obtain ⟨i3,d1,d2,d3,d4⟩:=info_parts uD3;have e4:=@run_makeMap prog;have ak:=uA cw;clear cw;go_enter func73,ntmps73
 go_wp2_with fail
 refine (cr.o _ HB.o).mono ?_;rintro e w1 ⟨⟨fb,K0,rfl,hF,eu,A,ev⟩,ad⟩;have c6:=uA (Aa HB.o ad);have e5:=uA hF;have B:=uA ad;clear x0 x1 x2 x3 x4 x5 x6 hF A;obtain ⟨x0,x1,x2,x3,x4,x5,x6⟩:=c4.o _ ad;clear ad;go_wp2_with fail
 refine (bz.o _ c6.o).mono ?_;rintro e D ⟨rfl,ae⟩;clear x0 x1 x2 x3 x4 x5 x6;have ew:=uA ae;have a4:=uA fun (w':World) (y:Below D.heap.size D w')=>c4.o w' (B.o.trans ((Aa ae y).mono B.o.size))
 obtain ⟨sA,sc,bb,m0,ex,ey,S0,L0,d5⟩:=e5.o.below ae;have e6:=uA fun (w':World) (y:Below D.heap.size D w')=>d5.below y
 have bh:=uA (Aa c6.o ae);obtain ⟨C1,c7⟩:∃ c,c=C+1:=⟨_,rfl⟩;have s0:IntKind.i64.wrap ((C:Int)+1)=(C1:Int):=by rw [show (C1:Int)=(C:Int)+1 by omega];exact vV _ bB bB
 have bi:=uB D (.cells (Array.replicate C1 (.slice none 0 0)) 138);have d6:Bx (D.alloc (.cells (Array.replicate C1 (.slice none 0 0)) 138)) D.heap.size (List.replicate C1 (.slice none 0 0)) 138:=by
  have h:=Bx.new D (List.replicate C1 (.slice none 0 0)) 138;simpa using h
 have e7:(D.alloc (.cells (Array.replicate C1 (.slice none 0 0)) 138)).heap.size=D.heap.size+1:=by simp
 have d7:nI (D.alloc (.cells (Array.replicate C1 (.slice none 0 0)) 138)) (D.heap.size+1) D.heap.size lo C 0 (List.replicate (C+1) ⟨none,0,0,[]⟩):=nI.begin (c7 ▸ d6) _ _ _;have ep:C+1<=C1/\C1<=C+1:=by omega
 have e8:=uA c7;have c8:=uB (D.alloc (.cells (Array.replicate C1 (.slice none 0 0)) 138)) (.map #[] 0);have bu:xD ((D.alloc (.cells (Array.replicate C1 (.slice none 0 0)) 138)).alloc (.map #[] 0)) lo (D.heap.size+1) 3 1 uX (fun _=>⟨none,0,0,[]⟩) []:=by
  have h:=xD.new (α:=Int) (D.alloc (.cells (Array.replicate C1 (.slice none 0 0)) 138)) lo 3 1 uX;rw [e7] at h;exact h
 have bj:=uA (d7.below c8);have a5:=uA bu;have av:=(Aa bi c8);have c9:=uA av;obtain ⟨x0,x1,x2,x3,x4,x5,x6⟩:=a4.o _ av;obtain ⟨z0,z1,z2,z3,z4,z5,z6⟩:=a4.o _ (Below.refl _ _);obtain ⟨v0,v1,v2,v3,v4,v5,v6⟩:=a4.o _ bi;have d8:w.heap.size < D.heap.size:=by have h:=ae.size;have h2:=B.o.size;rw [Ak] at h2;omega
 have al:Hdd (∀ p,p<=C->∀ q,pK (List.replicate (C+1) ⟨none,0,0,[]⟩) p q=oK l M 0 p q):=fun p hp q=>by
  have h:∀ k,pZ (tV (List.replicate (C+1) ⟨none,0,0,[]⟩) k) q=0:=fun k=>by
   unfold tV;by_cases hk:k < C+1
   ·simp [hk,pZ]
   ·simp [hk,pZ]
  unfold pK oK
  induction List.range (p+1) with
  | nil=>rfl
  | cons k L ih=>rw [C6,Gh,h,ih];rfl
 have ca:lo<=D.heap.size:=by rw [<-ak.o];exact bh.o.size
 clear ae d5 d6 d7 c8 bu av bi c7;go_wp2_with (at_make;refine nR _ rfl _ _ _ rfl 138 i1 _ underlying136 cx cy cz rfl C1 rfl rfl (by rw [d0];omega) bB ?_)
 clear v0 v1 v2 v3 v4 v5 v6;generalize (D.alloc (.cells (Array.replicate C1 (.slice none 0 0)) 138)).alloc (.map #[] 0)=w3 at *;clear e4 x0 x1 x2 x3 x4 x5 x6 z0 z1 z2 z3 z4 z5 z6 cx cy cz d0 s0;obtain ⟨gb,ao⟩:∃ g,D.heap.size=g:=⟨_,rfl⟩;obtain ⟨b1,ad⟩:∃ g,D.heap.size+1=g:=⟨_,rfl⟩;have bj:Hdd (nI w3 b1 gb lo C (0*4000) (List.replicate (C+1) ⟨none,0,0,[]⟩)):=ao ▸ ad ▸ (Fc 4000).symm ▸ bj.o;have a5:Hdd (xD w3 lo (gb+1) 3 1 uX (fun _=>⟨none,0,0,[]⟩) []):=ao ▸ a5.o;have aw:gb < b1:=by omega
 have ez:D.heap.size<=gb:=by omega
 have d9:lo<=gb:=by omega
 have eq:b1<=w3.heap.size:=by
  have h:=a5.o.lt;omega
 have f0:=uA ao;have e9:w.heap.size < D.heap.size:=d8;have ax:D.heap.size=gb:=ao;simp only [ao] at c9 ⊢;have am:=uA (show b1=gb+1 by omega);clear ao ad d8;go_loopw [22] (fun v wr=>∃ (i:Nat) (G:List (SlW CgW)) (S:Int->SlW Int) (K:List Int),v=.int .i64 (i:Int)/\i<=ln/\Hdd (nI wr b1 gb lo C (i*4000) G)/\Hdd (∀ p,p<=C->∀ q,pK G p q=oK l M i p q)/\Hdd (xD wr lo (gb+1) 3 1 uX S K)/\Hdd (K.length<=i)/\Hdd (∀ t∈K,(S t).L=tW (tys tL) t/\(S t).n<=10/\∀ q∈(S t).L,uH q)/\Hdd (Below D.heap.size D wr)) (fun v _=>ln - (intOf v).toNat)
 case atStart=>exact ⟨0,_,_,_,rfl,Am _,bj,al,a5,Am _,uA (fun t ht=>by cases ht),(by rw [ax];exact c9)⟩
 case round=>
  clear bj al a5 c9;obtain ⟨i,G,S,K,rfl,f1,u,ap,R,aq,au,HW⟩:=hrel;have ea:=HW.o.size;by_cases bk:i < ln
  ·have da:(i:Int) < (ln:Int):=bB;have f2:(0:Int)<=(i:Int):=bB;obtain ⟨db,ay⟩:∃ y,lL[i]?=some y:=⟨_,Ad (by rw [e3.o];exact bk)⟩;obtain ⟨ga,za,az,cb,_,af⟩:=cv.o.at_ ay;have az:lA=some ⟨ga,za,none⟩:=az;subst az;obtain ⟨t,cc,cd,dc⟩:=e2.o i db ay;have dd:M i=tW (tys tL) (t:Int):=by rw [cu.o i];show tW (tys tL) (EI (lcs lL) (i:Int))=_;rw [show EI (lcs lL) (i:Int)=(t:Int) from dc]
   have ce:=uA dd;obtain ⟨a6,eb⟩:=db;have cc:eb=(t:Int):=cc;subst cc;have cd:t < tm:=cd;have f3:tm<=65535:=ct.o;have cf:Below w.heap.size w wr:=bh.o.trans (HW.o.mono bB);have c0:wr.cell? ⟨ga,za+i*2,none⟩=some (.string a6):=(cf.cell (p:=⟨ga,za+i*2,none⟩) cb).trans (by simpa using af 0 _ rfl);have c1:wr.cell? ⟨ga,za+i*2+1,none⟩=some (.int .i64 (t:Int)):=(cf.cell (p:=⟨ga,za+i*2+1,none⟩) cb).trans (af 1 _ rfl);have W:=uB wr (.cells #[.string a6,.int .i64 (t:Int)] 125);have cg:uH (t:Int):=by unfold uH;omega
   have de:=uA cg;obtain ⟨wa,ag⟩:∃ wa,wa=wr.alloc (.cells #[.string a6,.int .i64 (t:Int)] 125):=⟨_,rfl⟩;have ch:=uA ag;rw [<-ag] at W;have df:Hdd (Bx wa wr.heap.size [.string a6,.int .i64 (t:Int)] 125):=ag ▸ Bx.new wr _ _;have bv:=uA (u.o.below W);have a0:=uA (R.o.below W);have ah:=uA (HW.o.trans (W.mono ea));have X:=uA (a0.o.look_ok uIq (ML _) cg);rw [ag] at X;have y1:=df.o.q 1 rfl;rw [ag] at y1;have er:wa.heap.size=wr.heap.size+1:=by rw [ag];simp
   clear ay af cb dc dd cf W cg ag;by_cases ai:(t:Int)∈K
   case' pos=>
    have dg:=y1;rw [decide_eq_true ai] at X;obtain ⟨fd,dh⟩:∃ s,S (t:Int)=s:=⟨_,rfl⟩;have E:=a0.o.row (t:Int);have b0:=au.o _ ai;rw [dh] at X E b0;obtain ⟨T,fn,U,V⟩:=fd;have I:Hdd (wa.ownsRow lo 3 1 (.slice T fn U) fn (V.flatMap uX)):=E;have bl:fn<=10:=b0.2.1;have bm:Hdd (∀ q∈V,uH q):=b0.2.2;have bo:Hdd (V=M i):=b0.1.trans ce.o.symm;have X:Hdd ((Instr.lookup 198 (.map (some (gb+1))) (.int .i64 (t:Int)) true).run prog (wr.alloc (.cells #[.string a6,.int .i64 (t:Int)] 125))=.ok (.tuple #[.slice T fn U,.bool true]) (wr.alloc (.cells #[.string a6,.int .i64 (t:Int)] 125))):=X.o;have b2:=a0;have b3:=bv;have b4:=ah;have b5:=I;have b6:=uA (Gf aq.o);have b7:=au;have di:wr.heap.size+1<=wa.heap.size:=bB;clear dh E b0 ai dg
   case' neg=>
    have f4:=uA ai;rw [decide_eq_false ai,a0.o.o _ ai] at X;have X:Hdd ((Instr.lookup 198 (.map (some (gb+1))) (.int .i64 (t:Int)) true).run prog (wr.alloc (.cells #[.string a6,.int .i64 (t:Int)] 125))=.ok (.tuple #[.slice none 0 0,.bool false]) (wr.alloc (.cells #[.string a6,.int .i64 (t:Int)] 125))):=X.o;have bw:Below w.heap.size w wa:=bh.o.trans (ah.o.mono bB);obtain ⟨z0,z1,z2,z3,z4,z5,z6⟩:=a4.o wa ah.o;obtain ⟨v0,v1,v2,v3,v4,v5,v6⟩:=a4.o wr HW.o;rw [ch.o] at z3;clear z0 z1 z2 z4 z5 z6 v0 v1 v2 v4 v5 v6 ai;go_wp2_with (at_lookup;refine uP _ rfl _ _ _ _ rfl _ _ _ rfl rfl X.o ?_)
    rw [<-ch.o];refine (e0.o wa bw t cd).mono ?_;rintro e wg ⟨T,fn,U,V,rfl,ec,ed,bp,b8,a7,bq⟩;have an:V.length=fn:=by have h:=bp.1;simpa using h
    have bl:fn<=10:=by
     rw [<-an];exact Ai (BN b8 fun q hq=>⟨(c2.o t q ((a7 q).1 hq)).1,(c2.o t q ((a7 q).1 hq)).2.1⟩) (show rn<=10 from bx)
    have bm:Hdd (∀ q∈V,uH q):=(fun q hq=>by have h:=c2.o t q ((a7 q).1 hq);have h1:=h.1;have h2:q < (rn:Int):=h.2.1;unfold uH;omega);have bo:Hdd (V=M i):=(QK b8 a7).symm.trans ce.o.symm;have I:=uA (show wg.ownsRow lo 3 1 (.slice T fn U) fn (V.flatMap uX) by rw [qJ];exact uI bp (by have:=ah.o.size;omega));have ee:Hdd (∀ b,(Value.slice T fn U).ownBlock=some b->wa.heap.size<=b):=fun b hb=>(bp.lt b hb).1;have a8:=uA bq;obtain ⟨Dm,m1,m2,m3⟩:=(a0.o.below bq).own;have ci:=uA m1;have ef:=uA m2;have eg:=uA m3;have eh:=uA (df.o.below bq);have dg:=eh.o.q 1 rfl;have ei:K.length < maxLen:=by have:=aq.o;unfold maxLen;omega
    clear y1 z3 v3 ec ed bp b8 a7 bq an m1 m2 m3 bw X
   all_goals
    by_cases h0:fn=0
   all_goals
    first
    | (have t0:((fn:Int) == 0)=true:=by rw [h0];rfl)
    | (have t0:((fn:Int) == 0)=false:=by rw [beq_eq_false_iff_ne];omega)
   all_goals
    have dj:=uA h0;clear h0;go_wp2_with (first
     | (at_lookup;refine uP _ rfl _ _ _ _ rfl _ _ _ rfl rfl X.o ?_)
     | (at_mapUpdate;refine wpList_mapUpdate_own _ rfl _ _ _ 198 rfl 3 60 zS uIq qE (gb+1) K.length Dm rfl ci.o ei _ _ (.int .i64 (t:Int)) rfl rfl (wY de.o) (.held (.slice T fn U)) [] rfl ?_;intro w7 F Y;obtain ⟨q1,q2⟩:=xD.insert (s':=⟨T,fn,U,V⟩) a0.o a8.o I.o ee.o de.o ci.o ef.o eg.o F Y;have b2:=uA q1;have b5:=uA (q2 I.o);have b3:=uA ((bv.o.below a8.o).kt (KT.of_map (t:=4) ci.o Y) eW eW eW);have b4:=uA ((Aa ah.o a8.o).grown Y (Ai ah.o.size a8.o.size) (fun b e=>by injection e with e;omega));have b6:=uA (show (K++[(t:Int)]).length<=i+1 by rw [Aw];exact Gn aq.o);have b7:Hdd (∀ y∈K++[(t:Int)],(eQ S (t:Int) ⟨T,fn,U,V⟩ y).L=tW (tys tL) y/\(eQ S (t:Int) ⟨T,fn,U,V⟩ y).n<=10/\∀ q∈(eQ S (t:Int) ⟨T,fn,U,V⟩ y).L,uH q):=(fun y hy=>by
          unfold eQ;by_cases e:y=(t:Int)
          ·rw [if_pos e];exact ⟨by rw [e];exact bo.o.trans ce.o,bl,bm.o⟩
          ·rw [if_neg e];exact au.o y ((Aq.1 hy).elim id fun h=>absurd (An.1 h) e));have di:wr.heap.size+1<=w7.heap.size:=(by have h1:=Y.size;have h2:=a8.o.size;omega);clear q1 q2 F Y))
    (try rw [<-ch.o])
    have an:=vH (f:=uX) vN eW b5.o;first
    | (have hz : fn = 0 := dj.o
       have b9:Hdd (∀ p,p<=C->∀ q,pK G p q=oK l M (i+1) p q):=fun p hp q=>by
        have h1:V=[]:=Fa.1 (an.trans hz);unfold oK;rw [<-bo.o,h1];simpa using ap.o p hp q
       go_roundw
       case rel=>exact ⟨i+1,G,_,_,by go_num,bk,uA (b3.o.more bB),b9,b2,b6,b7,b4⟩
       case measure=>(simp [intOf];omega))
    | (have hz : ¬ fn = 0 := dj.o
       refine (TX (e6.o _ b4.o) (x:=(i:Int)) (by unfold uH;omega) (by rw [bg.o];omega) e1.o).mono ?_;rintro e w5 ⟨⟨A5,n5,c5,J,rfl,cj,f5,dk,dl⟩,W⟩;have HJ:=uA (uI cj (Am _));have dm:=uA (vH wN eW cj);have dn:=uA (show oC C J by rw [<-bg.o];exact dk);have ej:Hdd (∀ p,p<=C->xW J p=if lvB l (i:Int) p=true then 1 else 0):=fun p hp=>by
        rcases Bs p C with h | h
        ·exact dl p (by rw [bg.o];exact h)
        ·obtain rfl:p=C:=by omega
         rw [uCi dn.o,if_neg (by rw [<-bg.o,CF];decide)]
       have u:=uA ((b3.o.below W).more (show i*4000<=i*4000+2*0 by omega));have R:=uA (b2.o.below W);have I:=uA (uC b5.o W);have HW:=uA (Aa b4.o W);have al:Hdd (∀ p,p<=C->∀ q,pK G p q=oK l M i p q+(xW (J.take 0) p:Int)*(V.count q:Int)):=(fun p hp q=>by rw [F8,WC];simpa using ap.o p hp q);clear cj dk dl W;go_wp2_with fail
       go_loopw [52] (fun v wr=>∃ (r:Nat) (G:List (SlW CgW)) (S:Int->SlW Int) (K:List Int),v=.int .i64 (r:Int)/\r<=n5/\Hdd (nI wr b1 gb lo C (i*4000+2*r) G)/\Hdd (∀ p,p<=C->∀ q,pK G p q=oK l M i p q+(xW (J.take r) p:Int)*(V.count q:Int))/\Hdd (xD wr lo (gb+1) 3 1 uX S K)/\Hdd (K.length<=i+1)/\Hdd (∀ t∈K,(S t).L=tW (tys tL) t/\(S t).n<=10/\∀ q∈(S t).L,uH q)/\Hdd (wr.ownsRow lo 3 1 (.slice T fn U) fn (V.flatMap uX))/\Hdd (wr.ownsRow 0 203 2 (.slice A5 n5 c5) n5 (J.flatMap vT))/\Hdd (Below D.heap.size D wr)) (fun v _=>n5 - (intOf v).toNat)
       case atStart=>exact ⟨0,G,_,_,rfl,Am _,u,al,R,b6,b7,I,HJ,HW⟩
       case round=>
        obtain ⟨r,G,S,K,rfl,f6,u,ap,R,aq,au,I,HJ,HW⟩:=hrel;by_cases dp:r < n5
        ·have dq:(r:Int) < (n5:Int):=bB;have f7:(0:Int)<=(r:Int):=bB;obtain ⟨ru,br⟩:∃ z,J[r]?=some z:=⟨_,Ad (by rw [dm.o];exact dp)⟩;obtain ⟨gj,zj,az,_,af⟩:=(uM.of_own wN eW HJ.o).at_ br;subst az;obtain ⟨a,b⟩:=ru;have ck:=dn.o (a,b) (Aj br);have dr:a < b:=ck.1;have et:b<=C:=ck.2;have c0:wr.cell? ⟨gj,zj+r*2,none⟩=some (.int .i64 (a:Int)):=(by simpa using af 0 _ rfl);have c1:wr.cell? ⟨gj,zj+r*2+1,none⟩=some (.int .i64 (b:Int)):=af 1 _ rfl;have ek:=uA (show J.take (r+1)=J.take r++[(a,b)] by rw [Bm,br];rfl);have aj:=uB wr (.cells #[.int .i64 (a:Int),.int .i64 (b:Int)] 203);obtain ⟨wx,bs⟩:∃ wx,wx=wr.alloc (.cells #[.int .i64 (a:Int),.int .i64 (b:Int)] 203):=⟨_,rfl⟩;rw [<-bs] at aj;have el:=uA bs;obtain ⟨xk,ds⟩:∃ k,wr.heap.size=k:=⟨_,rfl⟩;have HX:=uA (show Bx wx xk [.int .i64 (a:Int),.int .i64 (b:Int)] 203 by rw [bs,<- ds];exact Bx.new wr _ _);have dt:=HW.o.size;have u:=uA (u.o.below aj);have R:=uA (R.o.below aj);have I:=uA (uC I.o aj);have HJ:=uA (uC HJ.o aj);have HW:=uA (HW.o.trans (aj.mono dt));clear br af ck aj bs;go_wp2_with fail
         (try rw [<-el.o])
         clear ds c0 c1;obtain ⟨s,hs⟩:∃ s,G[a]?=some s:=⟨_,Ad (by rw [u.o.len];omega)⟩;have ba:=(u.o.all a s hs).1;have du:=uA hs;obtain ⟨zA,zn,zc,zL⟩:=s;have ba:zn<=i*4000+2*r+0:=ba;have g1:wx.drew.cell? ⟨gb,a,none⟩=some (.slice zA zn zc):=u.o.grid.cell hs;have bd:Hdd (aS wx lo (⟨T,fn,U,V⟩,1)):=⟨I.o,.inl rfl,bm.o,bl⟩;have a1:Hdd (Bx wx.drew xk [.int .i64 (a:Int),.int .i64 (b:Int)] 203):=HX.o.below (xZ wx 1);have HD:Hdd (Ab wx wx.drew):=xZ wx 1;have em:(a:Int) < ((C1:Nat):Int):=bB;have dv:(0:Int)<=(a:Int):=bB;clear hs;refine wp_region_held_drew (S:=(fun w'=>w'.cell? ⟨xk,0,none⟩=some (.int .i64 (a:Int))/\w'.cell? ⟨xk,1,none⟩=some (.int .i64 (b:Int)))) fL ⟨a1.o.q 0 rfl,a1.o.q 1 rfl⟩ (fun hHeld=>?_);have en:=HD.o.size;have N:=uA (u.o.below HD.o);have H:=uA (R.o.below HD.o);have a9:=uA (uC I.o HD.o);have be:=uA (uC HJ.o HD.o);have bf:=uA (HW.o.trans (HD.o.mono (by have:=HW.o.size;omega)));have aa:=uA (bd.o.below HD.o);generalize wx.drew=wd at *;refine uJ [0,1,2,3,4,5,6,8,9] ?_
         repeat' (first | refine pT hHeld rfl ?_ | refine pS hHeld rfl ?_)
         refine uK ?_;have a2:=uB wd (.cells #[.slice T fn U,.int .i64 1] 205);have B:=uA a2;have O:=uA (a1.o.below a2);have g2:=(a2.cell (p:=⟨gb,a,none⟩) N.o.grid.lt).trans g1;have cl:(wd.alloc (.cells #[.slice T fn U,.int .i64 1] 205)).heap.size=wd.heap.size+1:=nF;clear a2;refine wpAnyH_ready (rs:=[7,10]) fL nF ?_;refine AllReadyH.cons rfl (fun Z A=>?_) (AllReadyH.cons rfl (fun Z A=>?_) AllReadyH.nil);all_goals
          first
          | (go_simp
             refine A.out _ _ hHeld (fun hHeld=>?_);clear A Z;try simp only [Ac]
             refine pC 10 rfl (fun Z A=>?_);go_simp;refine A.out _ _ ⟨O.o.q 0 rfl,O.o.q 1 rfl⟩ (fun hHeld=>?_);clear A Z)
          | (go_simp
             refine A.out _ _ ⟨O.o.q 0 rfl,O.o.q 1 rfl⟩ (fun hHeld=>?_);clear A Z;try simp only [Ac]
             refine pC 7 rfl (fun Z A=>?_);go_simp;refine A.out _ _ hHeld (fun hHeld=>?_);clear A Z)
         all_goals
          clear g1 g2;try simp only [Ac]
          refine pC 11 rfl (fun Z A=>?_);have E:=N.o.grid.own a _ du.o;refine step_append_lies (wd.alloc (.cells #[.slice T fn U,.int .i64 1] 205)) rfl (.tmp 63) (.tmp 66) 138 rfl b1 205 i3 (.agg #[.slice none 0 0,.int .i64 0]) 2 32 underlying138 d1 d2 d3 d4 rfl eW (.slice zA zn zc) zn (zL.flatMap cCg) rfl (uC E B.o) ⟨wd.heap.size,0,none⟩ 1 1 (cCg (⟨T,fn,U,V⟩,1)) rfl rfl (Bd (heap_alloc_new wd (.cells #[.slice T fn U,.int .i64 1] 205))) (RA (⟨T,fn,U,V⟩,1)) eW (by unfold maxLen;omega) bB (by rw [cl,am.o];have:=H.o.lt;omega) _ rfl ?_;intro g eo w7 F Y ab cm;obtain ⟨r1,r2,⟨G7,r3,r4⟩,⟨w9,r5,r6,r7,r8⟩,r9⟩:=nI.add N.o du.o B.o Y F ab aw (by rw [am.o];have:=H.o.lt;omega) aa.o;have a3:=O.o.kt r5 eW;refine A.out _ _ ⟨a3.q 0 rfl,a3.q 1 rfl⟩ (fun hHeld=>?_);clear A Z;try simp only [Ac]
          refine uJ [12] ?_
          repeat' (first | refine pT hHeld rfl ?_ | refine pS hHeld rfl ?_)
          refine uK ?_;refine pC 13 rfl (fun Z A=>?_);go_simp;have R6:=uA r6;rw [<-R6.o] at r3 r9 ⊢;have HX:=uA (a3.kt r7 eW);have ac:∀ q,(Value.slice zA zn zc).ownBlock=some q->q≠gb+1:=fun q hq e=>by
           subst e;obtain ⟨cs,hc⟩:=zQ E hq;obtain ⟨_,⟨es,cn,h3,_⟩,_⟩:=H.o.own;rw [h3] at hc;cases hc
          have R:=uA ((H.o.below B.o).kt2 r5 eW r7 eW r8 (fun h=>ac (gb+1) (h bB) rfl));have I:=uA (xV (xV (uC a9.o B.o) r5 eW) r7 eW);have HJ:=uA (xV (xV (uC be.o B.o) r5 eW) r7 eW);have HW:Hdd (Below D.heap.size D w9):=r9 D bf.o (by rw [ax];exact Ae _);have u:=uA r3;have dw:=uA r4;refine A.out _ _ ⟨HX.o.q 0 rfl,HX.o.q 1 rfl⟩ (fun hHeld=>?_);clear A Z r1 r2 r3 r4 r5 r6 r7 r8 r9 F Y ab cm a3 ac E R6 B O a1 N H a9 be bf aa bd HD;refine wpAnyH_done fL ?_ _;go_wp2_with fail
          obtain ⟨s,hs⟩:∃ s,G7[b]?=some s:=⟨_,Ad (by rw [u.o.len];omega)⟩;have ba:=(u.o.all b s hs).1;have dx:=uA hs;obtain ⟨zA,zn,zc,zL⟩:=s;have ba:zn<=i*4000+2*r+1:=ba;have g1:w9.drew.cell? ⟨gb,b,none⟩=some (.slice zA zn zc):=u.o.grid.cell hs;have bd:Hdd (aS w9 lo (⟨T,fn,U,V⟩,(-1))):=⟨I.o,.inr rfl,bm.o,bl⟩;have a1:Hdd (Bx w9.drew xk [.int .i64 (a:Int),.int .i64 (b:Int)] 203):=HX.o.below (xZ w9 1);have HD:Hdd (Ab w9 w9.drew):=xZ w9 1;have em:(b:Int) < ((C1:Nat):Int):=bB;have dv:(0:Int)<=(b:Int):=bB;clear hs;refine wp_region_held_drew (S:=(fun w'=>w'.cell? ⟨xk,0,none⟩=some (.int .i64 (a:Int))/\w'.cell? ⟨xk,1,none⟩=some (.int .i64 (b:Int)))) fL ⟨a1.o.q 0 rfl,a1.o.q 1 rfl⟩ (fun hHeld=>?_);have en:=HD.o.size;have N:=uA (u.o.below HD.o);have H:=uA (R.o.below HD.o);have a9:=uA (uC I.o HD.o);have be:=uA (uC HJ.o HD.o);have bf:=uA (HW.o.trans (HD.o.mono (by have:=HW.o.size;omega)));have aa:=uA (bd.o.below HD.o);generalize w9.drew=wd at *;refine uJ [0,1,2,3,4,5,6,8,9] ?_
          repeat' (first | refine pT hHeld rfl ?_ | refine pS hHeld rfl ?_)
          refine uK ?_;have a2:=uB wd (.cells #[.slice T fn U,.int .i64 (-1)] 205);have B:=uA a2;have O:=uA (a1.o.below a2);have g2:=(a2.cell (p:=⟨gb,b,none⟩) N.o.grid.lt).trans g1;have cl:(wd.alloc (.cells #[.slice T fn U,.int .i64 (-1)] 205)).heap.size=wd.heap.size+1:=nF;clear a2;refine wpAnyH_ready (rs:=[7,10]) fL nF ?_;refine AllReadyH.cons rfl (fun Z A=>?_) (AllReadyH.cons rfl (fun Z A=>?_) AllReadyH.nil);all_goals
           first
           | (go_simp
              refine A.out _ _ hHeld (fun hHeld=>?_);clear A Z;try simp only [Ac]
              refine pC 10 rfl (fun Z A=>?_);go_simp;refine A.out _ _ ⟨O.o.q 0 rfl,O.o.q 1 rfl⟩ (fun hHeld=>?_);clear A Z)
           | (go_simp
              refine A.out _ _ ⟨O.o.q 0 rfl,O.o.q 1 rfl⟩ (fun hHeld=>?_);clear A Z;try simp only [Ac]
              refine pC 7 rfl (fun Z A=>?_);go_simp;refine A.out _ _ hHeld (fun hHeld=>?_);clear A Z)
          all_goals
           clear g1 g2;try simp only [Ac]
           refine pC 11 rfl (fun Z A=>?_);have E:=N.o.grid.own b _ dx.o;refine step_append_lies (wd.alloc (.cells #[.slice T fn U,.int .i64 (-1)] 205)) rfl (.tmp 76) (.tmp 79) 138 rfl b1 205 i3 (.agg #[.slice none 0 0,.int .i64 0]) 2 32 underlying138 d1 d2 d3 d4 rfl eW (.slice zA zn zc) zn (zL.flatMap cCg) rfl (uC E B.o) ⟨wd.heap.size,0,none⟩ 1 1 (cCg (⟨T,fn,U,V⟩,(-1))) rfl rfl (Bd (heap_alloc_new wd (.cells #[.slice T fn U,.int .i64 (-1)] 205))) (RA (⟨T,fn,U,V⟩,(-1))) eW (by unfold maxLen;omega) bB (by rw [cl,am.o];have:=H.o.lt;omega) _ rfl ?_;intro g eo w7 F Y ab cm;obtain ⟨r1,r2,⟨G7,r3,r4⟩,⟨w9,r5,r6,r7,r8⟩,r9⟩:=nI.add N.o dx.o B.o Y F ab aw (by rw [am.o];have:=H.o.lt;omega) aa.o;have a3:=O.o.kt r5 eW;refine A.out _ _ ⟨a3.q 0 rfl,a3.q 1 rfl⟩ (fun hHeld=>?_);clear A Z;try simp only [Ac]
           refine uJ [12] ?_
           repeat' (first | refine pT hHeld rfl ?_ | refine pS hHeld rfl ?_)
           refine uK ?_;refine pC 13 rfl (fun Z A=>?_);go_simp;have R6:=uA r6;rw [<-R6.o] at r3 r9 ⊢;have HX:=uA (a3.kt r7 eW);have ac:∀ q,(Value.slice zA zn zc).ownBlock=some q->q≠gb+1:=fun q hq e=>by
            subst e;obtain ⟨cs,hc⟩:=zQ E hq;obtain ⟨_,⟨es,cn,h3,_⟩,_⟩:=H.o.own;rw [h3] at hc;cases hc
           have R:=uA ((H.o.below B.o).kt2 r5 eW r7 eW r8 (fun h=>ac (gb+1) (h bB) rfl));have I:=uA (xV (xV (uC a9.o B.o) r5 eW) r7 eW);have HJ:=uA (xV (xV (uC be.o B.o) r5 eW) r7 eW);have HW:Hdd (Below D.heap.size D w9):=r9 D bf.o (by rw [ax];exact Ae _);have u:=uA r3;have dy:=uA r4;refine A.out _ _ ⟨HX.o.q 0 rfl,HX.o.q 1 rfl⟩ (fun hHeld=>?_);clear A Z r1 r2 r3 r4 r5 r6 r7 r8 r9 F Y ab cm a3 ac E R6 B O a1 N H a9 be bf aa bd HD;refine wpAnyH_done fL ?_ _;go_wp2_with fail
         all_goals
          have dz:Hdd (∀ p,p<=C->∀ q,pK G7 p q=oK l M i p q+(xW (J.take (r+1)) p:Int)*(V.count q:Int)):=fun p hp q=>by
           have h1:=dy.o p q;have h2:=dw.o p q;have h3:=ap.o p hp q;have h4:=uEh (p:=p) dr (V.count q:Int);have h5:(xW (J.take (r+1)) p:Int)=(xW (J.take r) p:Int)+(xW [(a,b)] p:Int):=by rw [ek.o,yK];push_cast;rfl
           rw [h5,Int.add_mul,<- h4];simp only [] at h1 h2;omega
          go_roundw
          case rel=>exact ⟨r+1,G7,S,K,by go_num,dp,uA (u.o.more bB),dz,R,aq,au,I,HJ,HW⟩
          case measure=>(simp [intOf];omega)
        ·have dq:¬(r:Int) < (n5:Int):=bB;have b9:Hdd (∀ p,p<=C->∀ q,pK G p q=oK l M (i+1) p q):=fun p hp q=>by
          rw [ap.o p hp q,Au (l:=J) (by rw [dm.o];omega),ej.o p hp];rw [bo.o];show _=oK l M i p q+(if lvB l (i:Int) p=true then 1 else 0)*((M i).count q:Int);by_cases bt:lvB l (i:Int) p=true
          ·rw [if_pos bt,if_pos bt];rfl
          ·rw [if_neg bt,if_neg bt];rfl
         go_wp2_with fail
         go_roundw
         case rel=>exact ⟨i+1,G,S,K,by go_num,bk,uA (u.o.more bB),b9,R,aq,au,HW⟩
         case measure=>(simp [intOf];omega))
  ·have da:¬(i:Int) < (ln:Int):=bB;obtain rfl:ln=i:=by omega
   clear bk;go_wp2_with fail
   go_ret;exact ⟨⟨gb,C1,b1,G,by rw [<-e8.o];rfl,by rw [ak.o];exact d9,aw,by rw [ak.o];exact u.o.more bB,ap.o⟩,bh.o.trans (HW.o.mono (by rw [ak.o];exact ca))⟩
end Go.Proofs.YtnkjbjkoffgocaaGreatDoor
