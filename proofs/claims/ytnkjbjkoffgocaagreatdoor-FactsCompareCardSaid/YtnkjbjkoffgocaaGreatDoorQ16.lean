import Derived.Test.YtnkjbjkoffgocaaGreatDoorQ15
set_option linter.unusedVariables false
set_option linter.unusedSimpArgs false
set_option maxRecDepth 100000
set_option maxHeartbeats 8000000
namespace Go.Proofs.YtnkjbjkoffgocaaGreatDoor
open Tryz Go.RowKit Go.Shelf
section
attribute [local go_sem] Oper.semAt_some
theorem RdX.more {B B' X:Nat} {w:World} {A:Option Addr} {n:Nat} {xs:List Int} (h:RdX B X w A n xs) (e:B<=B'):RdX B' X w A n xs:=
 ⟨h.1,fun a=>by
  obtain ⟨b,o,c,f,d⟩:=h.2 a;exact ⟨b,o,c,bB,d⟩⟩
theorem tO {ps:List Pr} {a b:Int} (h:Way ps a b) (d:∀ p∈ps,b≠p.2):a=b:=by
 induction h with
 | refl=>rfl
 | @step a c b m w f=>
   have e:=f d;subst e;exact absurd rfl (d _ m)
structure SeU (base n₀ X:Nat) (W0 w:World) (v:Value) (m:Nat) (S:List Int):Prop where
 low:Below base W0 w
 size:n₀<=w.heap.size
 own:w.ownsRow n₀ 3 1 v m (vC S)
 ox:∀ g,wI X w=some g->n₀<=g/\g < w.heap.size/\v.ownBlock≠some g
section
variable {base n₀ X:Nat} {W0 w w':World} {v:Value} {m:Nat} {S:List Int}
theorem SeU.keep (h:SeU base n₀ X W0 w v m S) (b:zT base X w w') (s:X < n₀):SeU base n₀ X W0 w' v m S:=by
 refine ⟨h.low.trans b.low,Ai h.size b.low.size,⟨h.own.1,?_⟩,fun g a=>?_⟩
 ·rcases h.own.2 with o | ⟨g,d,f,e,p,i,c⟩
  ·exact .inl o
  ·refine .inr ⟨g,d,f,e,p,b.cells g _ _ _ i bB (fun j=>?_),c⟩;exact (h.ox g j.symm).2.2 (by rw [e];rfl)
 ·have n:=b.fits (fun g a=>(h.ox g a).2.1) g a;rcases b.own with e | ⟨q,e,r⟩
  ·rw [e] at a;have:=h.ox g a;exact ⟨this.1,n,this.2.2⟩
  ·rw [e] at a;injection a with a;subst a;have:=h.size;exact ⟨bB,n,fun j=>by have:=(h.own.lt q j).2;omega⟩
theorem SeU.alloc (h:SeU base n₀ X W0 w v m S) (d:X < n₀) (a:Ab w w') (f:base<=n₀):SeU base n₀ X W0 w' v m S:=by
 have c:=h.size;have e:wI X w'=wI X w:=yO (a.cell (p:=⟨X,0,none⟩) (show X < w.heap.size by omega));refine ⟨h.low.trans (a.mono bB),Ai c a.size,uC h.own a,fun g b=>?_⟩;rw [e] at b;have:=h.ox g b;exact ⟨this.1,Ap this.2.1 a.size,this.2.2⟩
theorem SeU.app (h:SeU base n₀ X W0 w v m S) (s:X < n₀) (t:base<=n₀) {n:Value} {q:Nat} {ys:List Int} (f:w'.ownsRow n₀ 3 1 n q (vC ys)) (i:w.grownBy w' v.ownBlock) (o:n.ownBlock=v.ownBlock\/n.ownBlock=some w.heap.size) :
 SeU base n₀ X W0 w' n q ys/\ItX n₀ X w w':=by
 have r:=h.size;have b:∀ k,v.ownBlock=some k->n₀<=k:=fun k c=>(h.own.lt k c).1
 have e:wI X w'=wI X w:=yO (Ce (w:=w) (a:=⟨X,0,none⟩) (i.block X bB (fun e=>by have:=b X e.symm;omega)));refine ⟨⟨h.low.grown i bB (fun k c=>by have:=b k c;omega),Ai r i.size,f,fun g j=>?_⟩,ItX.of_grown i r fun k c=>⟨b k c,fun d=>(h.ox k d.symm).2.2 c⟩⟩;rw [e] at j;have p:=h.ox g j;refine ⟨p.1,Ap p.2.1 i.size,fun d=>?_⟩;rcases o with e3 | e3
 ·exact p.2.2 (e3 ▸ d)
 ·rw [e3] at d;injection d with d;omega
theorem SeU.rd (h:SeU base n₀ X W0 w v m S) (r:X < n₀) {A:Option Addr} {c:Nat} (d:v=.slice A m c):RdX w.heap.size X w A m S:=by
 subst d;have a:=Rd.of_own h.own;refine ⟨a.ilen,fun f=>?_⟩;obtain ⟨b,o,e,g,i⟩:=a.2 f;subst e;have n:n₀<=b:=(h.own.lt b rfl).1;exact ⟨b,o,rfl,g,bB,fun p=>(h.ox b p.symm).2.2 rfl,fun j x q=>i j _ (by rw [Ar,q];rfl)⟩
end
structure Ls (ps:List Pr) (rg:Int) (D l:List Int) (k:Nat) (S pre:List Int):Prop where
 few:pre.length<=k
 good:∀ a∈pre,kS ps rg l a
 all:∀ (t:Nat) b,t < k->l[t]?=some b->b∉D->0<=b->b < rg->b∈pre
 rng:∀ x∈S,(0<=x/\x < (D.length:Int))/\∀ a,D[x.toNat]?=some a->a∈l
 dec:∀ (t:Nat) b (i:Nat),t < k->l[t]?=some b->D[i]?=some b->(i:Int)∈S
section
variable {ps:List Pr} {rg:Int} {D l:List Int} {k:Nat} {S pre:List Int}
theorem Ls.begin:Ls ps rg D l 0 [] []:=⟨Ae _,(fun a h=>by cases h),(fun t b h=>absurd h (E8 _)),(fun x h=>by cases h),fun t b i h=>absurd h (E8 _)⟩
theorem Ls.declared (h:Ls ps rg D l k S pre) (q:D.Pairwise (· < ·)) {b:Int} {i:Nat} (n:l[k]?=some b) (f:D[i]?=some b):Ls ps rg D l (k+1) (S++[(i:Int)]) pre:=by
 refine ⟨by have:=h.few;omega,h.good,fun t c r d o=>?_,fun x hx=>?_,fun t c j r d p=>?_⟩
 ·rcases Bs t k with h1 | h1
  ·exact h.all t c h1 d o
  ·obtain rfl:t=k:=by omega
   rw [n] at d;injection d with d;subst d;exact absurd (Aj f) o
 ·rcases Aq.1 hx with hx | hx
  ·exact h.rng x hx
  ·have e:x=(i:Int):=(by simpa using hx);subst e;have:=(Ah.1 f).1;refine ⟨bB,fun a g=>?_⟩;rw [A3,f] at g;injection g with g;subst g;exact Aj n
 ·rcases Bs t k with h1 | h1
  ·exact Ee _ (h.dec t c j h1 d p)
  ·obtain rfl:t=k:=by omega
   rw [n] at d;injection d with d;subst d;rw [cE q p f];simp
theorem Ls.other (h:Ls ps rg D l k S pre) {b:Int} (d:l[k]?=some b) (i:b∉D) (n:¬(0<=b/\b < rg)):Ls ps rg D l (k+1) S pre:=by
 refine ⟨by have:=h.few;omega,h.good,fun t c o a p e f=>?_,h.rng,fun t c j o a g=>?_⟩
 ·rcases Bs t k with h2 | h2
  ·exact h.all t c h2 a p e f
  ·obtain rfl:t=k:=by omega
   rw [d] at a;injection a with a;subst a;exact absurd ⟨e,f⟩ n
 ·rcases Bs t k with h2 | h2
  ·exact h.dec t c j h2 a g
  ·obtain rfl:t=k:=by omega
   rw [d] at a;injection a with a;subst a;exact absurd (Aj g) i
theorem Ls.yielded (h:Ls ps rg D l k S pre) {b:Int} (f:l[k]?=some b) (i:b∉D) (n:0<=b/\b < rg):Ls ps rg D l (k+1) S (pre++[b]):=by
 refine ⟨by have:=h.few;simp;omega,fun a ha=>?_,fun t c o d p q r=>?_,h.rng,fun t c j o d g=>?_⟩
 ·rcases Aq.1 ha with ha | ha
  ·exact h.good a ha
  ·have e:a=b:=(by simpa using ha);subst e;exact ⟨a,Aj f,Out.refl n⟩
 ·rcases Bs t k with h2 | h2
  ·exact Ee _ (h.all t c h2 d p q r)
  ·obtain rfl:t=k:=by omega
   rw [f] at d;injection d with d;subst d;simp
 ·rcases Bs t k with h2 | h2
  ·exact h.dec t c j h2 d g
  ·obtain rfl:t=k:=by omega
   rw [f] at d;injection d with d;subst d;exact absurd (Aj g) i
theorem uGj {ab:List (List Int)} (d:ZG ps rg D ab) (b:XT ps rg) {a:Int} (h:a∈D):0<=a/\a < rg:=by
 obtain ⟨p,c,rfl | rfl⟩:=(d.mem a).1 h
 ·exact b.a p c
 ·exact b.b p c
theorem Ls.end_ {ab:List (List Int)} (h:Ls ps rg D l k S pre) (z:l.length<=k) (n:ZG ps rg D ab) (o:XT ps rg) {ys:List Int} (q:∀ a∈ys,kS ps rg l a) (r:∀ s∈S,∀ b,D[s.toNat]?=some b->∀ a,Way ps a b->a∈ys):∀ a,a∈pre++ys↔kS ps rg l a:=by
 intro a;constructor
 ·intro ha;rcases Aq.1 ha with ha | ha
  ·exact h.good a ha
  ·exact q a ha
 ·rintro ⟨b,u,⟨_,c,g⟩⟩;obtain ⟨t,d⟩:=B2 u;have x:=(Ah.1 d).1;by_cases f:b∈D
  ·obtain ⟨i,j⟩:=B2 f;exact Gx _ (r _ (h.dec t b i bB d j) b (by rw [A3];exact j) a g)
  ·have e:=tO g (fun p y e=>f ((n.mem b).2 ⟨p,y,.inr e⟩));subst e;exact Ee _ (h.all t a bB d f c.1 c.2)
theorem uB0 (d:XT ps rg):∀ a b,(a,b)∈ps->kS ps rg l b->kS ps rg l a:=by
 rintro a b e ⟨c,f,h⟩;exact ⟨c,f,⟨d.a _ e,h.2.1,.step e h.2.2⟩⟩
end
theorem eG (m:Nat) (b3:1<=m) (base X Bl z r:Nat) (ps:List Pr) (rg:Int) (A1:Option Addr) (nD cD:Nat) (D:List Int) (A2:Option Addr) (c2:Nat) (L:List qB) (A:Option Addr) (n c:Nat) (l:List Int) (w:World)
 (hR:DY w base r ps rg A1 nD cD D A2 c2 L) (ah:base<=X) (ai:X < w.heap.size) (hL:RdX w.heap.size X w A n l) (hn:n<=1000000000) (U:w.cell? ⟨Bl,0,none⟩=some (.slice A n c)) (V:w.cell? ⟨z,0,none⟩=some (.pointer (some ⟨r,0,none⟩))) (aj:z≠X) :
 SG m prog 172 #[.pointer (some ⟨Bl,0,none⟩),.pointer (some ⟨z,0,none⟩)] base X (fun xs=>∀ a,a∈xs↔kS ps rg l a) (fun pre=>∀ a∈pre,kS ps rg l a) (n+nD) w:=by
 intro yl J Jx W B hO b4 hJ ak a3 h0;have hY:uAk base X (n+nD) yl J Jx:=fun m' pre x W1 h h'=>sM m' (a3 pre x W1 h h')
 have a4:Bl < w.heap.size:=Cy w _ U;have a5:z < w.heap.size:=Cy w _ V;have b5:=(B.cell (p:=⟨Bl,0,none⟩) a4).trans U;have C:=(B.cell (p:=⟨z,0,none⟩) a5).trans V;have Y:=hR.below (B.mono bB);have a6:=hL.low B ai;have al:=B.size;have b6:l.length=n:=hL.1;generalize b7:W.heap.size=n₀ at *;have HR:=uA Y;have HL:=uA (a6.more al);have HJ:=uA hJ;have a7:=uA hY;have am:Hdd (SeU base n₀ X W W (.slice none 0 0) 0 []):=⟨Below.refl _ _,bB,Bv _ _ _ _,fun g hg=>by rw [hO] at hg;cases hg⟩;have an:=uA h0;obtain ⟨i0,hi,ao,ap,aq⟩:=info_parts qY;have b8:nD<=200000:=Y.few;have d:base<=n₀:=by omega
 clear a3 hR hL Y a6 hJ ak hY h0 B U V hO;show CallsIn Fence.wide m prog 172 #[.func (.yield yl) #[] #[],.pointer (some ⟨Bl,0,none⟩),.pointer (some ⟨z,0,none⟩)] W _;refine callsIn_of_wp func172 rfl trivial ?_ rfl;simp only [ntmps172,Bc,As,Br,Nat.reduceAdd,Nat.reduceSub,Ay,Az,Be,Ba,Bj,Bg];gi_wp2;gi_loopw [4,11] (fun v i wr=>∃ (k P:Nat) (S pre:List Int),i=.int .i64 (k:Int)/\k<=n/\P<=k/\Hdd (SeU base n₀ X W wr v P S)/\Hdd (RdX n₀ X wr A n l)/\wr.cell? ⟨z,0,none⟩=some (.pointer (some ⟨r,0,none⟩))/\Hdd (Ls ps rg D l k S pre)/\Hdd (J pre wr)) (fun _ i _=>n - (intOf i).toNat)
 case atStart=>exact ⟨0,0,[],[],rfl,Am _,Ae _,am.o,HL.o,C,Ls.begin,an.o⟩
 case round=>
  obtain ⟨k,P,S,pre,rfl,hk,b9,E,M,C,o,N⟩:=hrel;have t:=E.o.size;obtain ⟨A7,c7,rfl,ba,ar⟩:=wH E.o.own;unfold maxLen at ar;have f:X < n₀:=by omega
  have a8:z < n₀:=by omega
  by_cases au:k < n
  ·have av:∃ b,l[k]?=some b:=⟨_,Ad bB⟩;obtain ⟨b,Q⟩:=av;obtain ⟨bl,ol,rfl,bb,b2,bc,c0⟩:=M.o.at_ Q;have a9:(k:Int) < (n:Int):=bB;have s:=HR.o.below E.o.low;have r0:=s.d0;have HB:=uA Q;by_cases Z:b∈D
   ·obtain ⟨i,a0⟩:=B2 Z;have HC:=uA (jG (cD:=cD) a0 wr s.d1 s.dec s.rel.asc bB);have j:=uA (o.o.declared s.rel.asc Q a0);clear Q a0 Z s;gi_wp2_with (first
     | (refine ⟨trivial,?_⟩;gi_at_call 116;go_must (refine (callsIn_wide.2 HC.o).mono ?_);rintro e w1 ⟨rfl,q,rfl⟩;have F:=tyN (Below.refl wr.heap.size wr) q;have u:=uA (E.o.alloc f F d);have a1:=F.alloc F.size (.cells #[.int .i64 (i:Int)] 3))
     | (gi_at_builtin;go_must (refine wpListIn_append_own_at _ rfl _ _ 60 rfl n₀ 3 i0 (.int .i64 0) 1 8 underlying60 hi ao ap aq rfl eW _ P _ rfl (u.o.own.alloc _) ⟨wr.heap.size,0,none⟩ 1 1 (vC [(i:Int)]) rfl rfl (iX (wr.drewN q) (i:Int) 3) (ints_oneCell _ _) (by unfold maxLen;omega) bB (by rw [Ak];have:=u.o.size;omega) ?_;intro v5 w5 G aa _ R;have aw:=E.o.alloc f a1 d;have y:=aw.app f d (FS G) aa R;have ax:=uA y.1;have ay:=uA (HJ.o _ _ _ (HJ.o _ _ _ N.o (ItX.of_below a1 t)) y.2);have H:=uA ((a1.mono t).trans y.2.low);clear G aa R y)))
    exact ⟨⟨k+1,P+1,S++[(i:Int)],pre,by go_num,bB,bB,ax.o,M.o.low H.o f,(H.o.cell (p:=⟨z,0,none⟩) a8).trans C,j.o,ay.o⟩,by simp [intOf];omega⟩
   ·have HC:=uA (uAn (cD:=cD) Z wr s.d1 s.dec s.rel.asc bB);by_cases I:0<=b/\b < rg
    ·have HT:Hdd (vD b rg=true):=uW.2 I;have j:=uA (o.o.yielded Q Z I);clear Q Z s;gi_wp2_with (first
      | (refine ⟨trivial,?_⟩;gi_at_call 116;go_must (refine (callsIn_wide.2 HC.o).mono ?_);go_must (rintro e w1 ⟨⟨k0,rfl⟩,q,rfl⟩);have F:=tyN (Below.refl wr.heap.size wr) q;have u:=uA (E.o.alloc f F d);have az:(wr.drewN q).cell? ⟨r,0,none⟩=_:=r0;have K:(wr.drewN q).cell? ⟨z,0,none⟩=_:=C;obtain ⟨fn,tmps,assign,body,hy,a2⟩:=a7.o (m - 1) pre b (wr.drewN q) (HJ.o _ _ _ N.o (ItX.of_below F t)) (by have:=o.o.few;omega))
      | (refine ⟨trivial,?_⟩;gi_at_call 156;refine (callsIn_wide.2 (uZ HT.o _)).mono ?_;rintro e w1 ⟨rfl,rfl⟩))
     refine a2.mono ?_;rintro e W3 (⟨rfl,ab,O⟩ | ⟨rfl,T⟩)
     ·have b0:=uA (u.o.keep O f);have ac:=uA ((M.o.low (F.mono t) f).keep O t);have ad:W3.cell? ⟨z,0,none⟩=some (.pointer (some ⟨r,0,none⟩)):=O.cell K aj (fun e=>by have:=(u.o.ox z e.symm).1;omega);have b1:=uA ab;clear ab O a2 hy;gi_wp2;exact ⟨⟨k+1,P,S,pre++[b],by go_num,bB,bB,b0.o,ac.o,ad,j.o,b1.o⟩,by simp [intOf];omega⟩
     ·have ae:=uA T;clear T a2 hy;gi_wp2;refine bodyPost_ret (results_none rfl _ _ _) rfl ?_;exact ⟨⟨_,rfl⟩,.inr ⟨pre++[b],j.o.good,ae.o⟩⟩
    ·have HT:Hdd (vD b rg=false):=wP.2 I;have j:=uA (o.o.other Q Z I);clear Q Z I s;gi_wp2_with (first
      | (refine ⟨trivial,?_⟩;gi_at_call 116;go_must (refine (callsIn_wide.2 HC.o).mono ?_);go_must (rintro e w1 ⟨⟨k0,rfl⟩,q,rfl⟩);have F:=tyN (Below.refl wr.heap.size wr) q;have u:=uA (E.o.alloc f F d);have az:(wr.drewN q).cell? ⟨r,0,none⟩=_:=r0;have K:(wr.drewN q).cell? ⟨z,0,none⟩=_:=C)
      | (refine ⟨trivial,?_⟩;gi_at_call 156;refine (callsIn_wide.2 (uZ HT.o _)).mono ?_;rintro e w1 ⟨rfl,rfl⟩))
     refine ⟨fun _ h=>(by cases h),?_⟩;gi_wp2;exact ⟨⟨k+1,P,S,pre,by go_num,bB,bB,u.o,M.o.low (F.mono t) f,K,j.o,HJ.o _ _ _ N.o (ItX.of_below F t)⟩,by simp [intOf];omega⟩
  ·have e:k=n:=bB;have a9:¬(k:Int) < (n:Int):=bB;have s:=uA (HR.o.below E.o.low);have af:=E.o.rd f rfl;have HC:=uA (RU (m - 1) yl base X n₀ (n+nD) J Jx HJ.o a7.o r ps rg A1 nD cD D A2 c2 L wr s.o d ah f t (kS ps rg l) (uB0 s.o.ok) A7 P c7 S af bB
    (fun x hx=>⟨(o.o.rng x hx).1,fun a ha=>by
     have h1:=(o.o.rng x hx).2 a ha;exact ⟨a,h1,Out.refl (uGj s.o.rel s.o.ok (Aj ha))⟩⟩) pre N.o (fun g hg=>⟨(E.o.ox g hg).1,(E.o.ox g hg).2.1⟩) (by have:=o.o.few;omega))
   clear af au;gi_wp2_with (refine ⟨trivial,?_⟩;gi_at_call 173;refine HC.o.mono ?_;rintro e W3 ⟨⟨v,rfl⟩,ag⟩)
   go_end0
   refine ⟨⟨_,rfl⟩,?_⟩;rcases ag with ⟨ys,h1,h2,h3⟩ | ⟨ys,h1,h3⟩
   ·exact .inl ⟨pre++ys,o.o.end_ bB s.o.rel s.o.ok h1 h2,h3⟩
   ·exact .inr ⟨pre++ys,fun a ha=>(Aq.1 ha).elim (o.o.good a) (h1 a),h3⟩
theorem eB (r:Nat) (A:Option Addr) (n c:Nat) (w:World) :
 Calls prog 122 #[.pointer (some ⟨r,0,none⟩),.slice A n c] w fun e w'=>e=.returned (.func (.func 172) #[] #[.pointer (some ⟨w.heap.size+1,0,none⟩),.pointer (some ⟨w.heap.size,0,none⟩)]) /\
  w'=(w.alloc (.cells #[.pointer (some ⟨r,0,none⟩)] 131)).alloc (.cells #[.slice A n c] 60):=by
 go_enter func122,ntmps122
 go_wp2;go_ret;exact ⟨rfl,rfl⟩
theorem qV {W b:World} {row:Option Nat} {B:Nat} {t:TypeId} {v:Value} (h:Boxed W B t v) (c:W.grownBy b row) (d:∀ r,row=some r->∃ o:Obj,W.heap[r]?=some o/\o.isCells=false):Boxed b B t v:=
 (c.block B h.lt (fun e=>by
  obtain ⟨o,a,f⟩:=d B e.symm;have g:W.heap[B]?=some (.cells #[v] t (0,0)):=h;rw [g] at a;injection a with a;subst a;cases f)).trans h
theorem dS {B n X:Nat} {W a:World} {t:TypeId} {v:Value} (h:Boxed W B t v) (b:ItX n X W a) (c:B < n):Boxed a B t v:=(b.low.block B c).trans h
theorem KA {ps:List Pr} {rg a b:Int}:kS ps rg [b] a↔Out ps rg a b:=
 ⟨fun ⟨c, h, k⟩ => by have e : c = b := by simpa using h
                      subst e;exact k,fun h=>⟨b,nF,h⟩⟩
theorem DK (r:Nat) (ps:List Pr) (rg a b:Int) (w:World) (G:Rel w w.heap.size r ps rg) :
 Calls prog 276 #[.pointer (some ⟨r,0,none⟩),.int .i64 a,.int .i64 b] w fun e w'=>e=.returned (.bool (out ps rg a b))/\Below w.heap.size w w':=by
 refine (callsIn_wide (n:=9)).1 ?_;obtain ⟨A1,nD,cD,D,A2,c2,L,G⟩:=G;refine callsIn_of_wp_marks func276 rfl trivial ?_ rfl;simp only [ntmps276,Bc,As,Br,Nat.reduceAdd,Nat.reduceSub,Ay,Az,Be,Ba,Bj,Bg];gi_wp2_with (refine ⟨trivial,?_⟩;gi_at_call 122;refine (callsIn_wide.2 (eB _ _ _ _ _)).mono ?_;rintro e w' ⟨rfl,rfl⟩)
 have Q:∃ s,s=w.heap.size:=⟨_,rfl⟩;obtain ⟨s,c⟩:=Q;have bA:=(((((Du w 3 (.int .i64 a)).alloc (.cells #[.bool false] 4)).alloc (.cells #[.int .i64 b] 3)).alloc (.cells #[.pointer (some ⟨r,0,none⟩)] 131)).alloc (.cells #[.slice (some ⟨w.heap.size+1+1,0,none⟩) 1 1] 60));have H:=((((Du (w.alloc (.cells #[.int .i64 a] 3)) 4 (.bool false)).alloc (.cells #[.int .i64 b] 3)).alloc (.cells #[.pointer (some ⟨r,0,none⟩)] 131)).alloc (.cells #[.slice (some ⟨w.heap.size+1+1,0,none⟩) 1 1] 60));have R:=(((Du ((w.alloc (.cells #[.int .i64 a] 3)).alloc (.cells #[.bool false] 4)) 3 (.int .i64 b)).alloc (.cells #[.pointer (some ⟨r,0,none⟩)] 131)).alloc (.cells #[.slice (some ⟨w.heap.size+1+1,0,none⟩) 1 1] 60));have T:=((Du (((w.alloc (.cells #[.int .i64 a] 3)).alloc (.cells #[.bool false] 4)).alloc (.cells #[.int .i64 b] 3)) 131 (.pointer (some ⟨r,0,none⟩))).alloc (.cells #[.slice (some ⟨w.heap.size+1+1,0,none⟩) 1 1] 60));have U:=Du ((((w.alloc (.cells #[.int .i64 a] 3)).alloc (.cells #[.bool false] 4)).alloc (.cells #[.int .i64 b] 3)).alloc (.cells #[.pointer (some ⟨r,0,none⟩)] 131)) 60 (.slice (some ⟨w.heap.size+1+1,0,none⟩) 1 1);have f:Below w.heap.size w (((((w.alloc (.cells #[.int .i64 a] 3)).alloc (.cells #[.bool false] 4)).alloc (.cells #[.int .i64 b] 3)).alloc (.cells #[.pointer (some ⟨r,0,none⟩)] 131)).alloc (.cells #[.slice (some ⟨w.heap.size+1+1,0,none⟩) 1 1] 60)):=
  (((((Below.refl _ w).alloc (Ae _) _).alloc nF _).alloc (by simp;omega) _).alloc (by simp;omega) _).alloc (by simp;omega) _
 have V:(((((w.alloc (.cells #[.int .i64 a] 3)).alloc (.cells #[.bool false] 4)).alloc (.cells #[.int .i64 b] 3)).alloc (.cells #[.pointer (some ⟨r,0,none⟩)] 131)).alloc (.cells #[.slice (some ⟨w.heap.size+1+1,0,none⟩) 1 1] 60)).heap.size=w.heap.size+5:=by simp
 simp only [Ak] at H R T U;generalize (((((w.alloc (.cells #[.int .i64 a] 3)).alloc (.cells #[.bool false] 4)).alloc (.cells #[.int .i64 b] 3)).alloc (.cells #[.pointer (some ⟨r,0,none⟩)] 131)).alloc (.cells #[.slice (some ⟨w.heap.size+1+1,0,none⟩) 1 1] 60))=W0 at *;rw [<-c] at G bA H R T U f V ⊢;have I:=uA c;clear c;have u:wI (s+1) W0=none:=dR H.cell;have Y:RdX W0.heap.size (s+1) W0 (some ⟨s+1+1,0,none⟩) 1 [b]:=⟨rfl,fun _=>⟨s+1+1,0,rfl,bB,bB,by rw [u];simp,fun j x d=>by
  match j,d with
  | 0,d=>
    have e:b=x:=(by simpa using d);subst e;exact R.cell
  | j+1,d=>simp at d⟩⟩
 refine qR bB (gf:=172) (lb:=#[.pointer (some ⟨s+1+1+1+1,0,none⟩),.pointer (some ⟨s+1+1+1,0,none⟩)]) rfl (enters_of func172 fL rfl)
  (eG _ bB (s+1) (s+1) (s+1+1+1+1) (s+1+1+1) r ps rg A1 nD cD D A2 c2 L _ 1 1 [b] W0 ((G.below f).more bB) (Ae _) bB Y bB U.cell T.cell bB)
  (Below.refl _ _) bB bB u
  (fun pre W=>((a∉pre)/\Boxed W s 3 (.int .i64 a)/\Boxed W (s+1) 4 (.bool false))/\Below s w W)
  (fun J pre W=>(J=.ret/\a∈pre/\Boxed W (s+1) 4 (.bool true))/\Below s w W)
  (Dg (Ed (fun s A B Z c M N=>⟨c.1,qV c.2.1 M N,qV c.2.2 M N⟩) _) (ownFrom_below (Cw I.o) bB))
  (fun J=>Dg (Ed (fun s A B Z c M N=>⟨c.1,c.2.1,qV c.2.2 M N⟩) _) (ownFrom_below (Cw I.o) bB))
  (fun pre A C h t=>⟨⟨h.1.1,dS h.1.2.1 t bB,dS h.1.2.2 t bB⟩,h.2.trans (t.low.mono bB)⟩)
  (fun J pre A C h t=>⟨⟨h.1.1,h.1.2.1,dS h.1.2.2 t bB⟩,h.2.trans (t.low.mono bB)⟩)
  ⟨⟨nF,bA,H⟩,f⟩
  (fun x=>{ tmps:=#[.pointer (some ⟨r,0,none⟩),.int .i64 a,.int .i64 b,undef,.pointer (some ⟨s,0,none⟩),undef,.pointer (some ⟨s+1,0,none⟩),.int .i64 x,.pointer (some ⟨r,0,none⟩),.bool false,.pointer (some ⟨r,0,none⟩),.int .i64 b,.slice (some ⟨s+1+1,0,none⟩) 1 1,
   .func (.func 172) #[] #[.pointer (some ⟨s+1+1+1+1,0,none⟩),.pointer (some ⟨s+1+1+1,0,none⟩)],.int .i64 x,undef,undef,undef],defers:=[] }) ?assign ?body ?done ?stop
 case assign=>
  intro l x W K g;gi_wp2;exact g
 case body=>
  rintro l pre x W ⟨⟨hp,y,hF⟩,i⟩ _;have cA:=y.cell;have O:=hF.cell;have fF:=hF.frozen;have HA:=uA y;have HF:=uA hF;have P:=uA i;have HP:=uA hp;clear y hF i hp;by_cases d:x=a
  ·subst d;have tx:(x == x)=true:=nF;gi_wp2;exact ⟨(Bz _ _ _).from _,⟨rfl,Aq.2 (.inr nF),HF.o.set _⟩,P.o.setCell (p:=⟨s+1,0,none⟩) nF _⟩
  ·have tx:(x == a)=false:=(by simpa using d);have HX:=uA d;clear d;gi_wp2;exact ⟨Gz _ _,⟨Below.refl _ _,fun _ _ _ _ h _ _=>h,.inl rfl,fun h=>h,fun _ _ h _=>h⟩,⟨fun h=>(Aq.1 h).elim HP.o (fun e=>HX.o (by have h:a=x:=(by simpa using e);exact h.symm)),HA.o,HF.o⟩,P.o⟩
 case done=>
  rintro D ys W hD z ⟨⟨E,y,hF⟩,i⟩ g;have HV:Hdd (out ps rg a b=false):=uDr.2 fun h=>E ((z a).2 (KA.2 h));have O:=hF.cell;have fF:=hF.frozen;have HF:=uA hF;have P:=uA i;clear hF i y E z;gi_wp2;have o:=(Bz W ⟨s+1,0,none⟩ (.bool false)).same D _ g rfl;refine ⟨nF,.inl ⟨_,_,rfl,run_takeDeferred o,?_⟩⟩;have q:=cell_kept (Gc W ⟨s+1,0,none⟩ (.bool false) (by rw [O];rfl)) (grownBy_putObj' _ D (.deferred none)) (fun r e=>by cases e;exact ⟨_,o,rfl⟩);refine ⟨.bool false,?_,by rw [HV.o],by rw [<-I.o];exact (P.o.setCell (p:=⟨s+1,0,none⟩) nF _).trans (belowK_b (w:=W0) bB _ D _ _ hD o rfl rfl)⟩;simp [results,Tryz.f276,go_sem,q]
 case stop=>
  rintro D J pre W hD F ⟨⟨rfl,a0,hF⟩,i⟩ g;have HV:Hdd (out ps rg a b=true):=fS.2 (KA.1 (F a a0));have O:=hF.cell;gi_wp2;refine ⟨nF,.inl ⟨_,_,rfl,run_takeDeferred g,?_⟩⟩;have q:=cell_kept O (grownBy_putObj' _ D (.deferred none)) (fun r e=>by cases e;exact ⟨_,g,rfl⟩);refine ⟨.bool true,?_,by rw [HV.o],by rw [<-I.o];exact i.trans (belowK_b (w:=W0) bB W D _ _ hD g rfl rfl)⟩;simp [results,Tryz.f276,go_sem,q]
theorem cB {r:Nat} {ps:List Pr} {rg a b:Int} {v:Bool} (h:out ps rg a b=v) (w:World) (c:Rel w w.heap.size r ps rg) :
 Calls prog 276 #[.pointer (some ⟨r,0,none⟩),.int .i64 a,.int .i64 b] w fun e w'=>e=.returned (.bool v)/\Ab w w':=h ▸ DK r ps rg a b w c
def DR (W:World) (base:Nat) (v:Value) (ys:List Int):Prop:=W.ownsRow base 3 1 v ys.length (vC ys)
theorem DR.own {W c:World} {row:Option Nat} {base:Nat} {v:Value} {ys:List Int} (h:DR W base v ys) (d:W.grownBy c row) (e:∀ r,row=some r->∃ o:Obj,W.heap[r]?=some o/\o.isCells=false):DR c base v ys:=by
 unfold DR at h ⊢;refine h.kept d ?_;rcases h.2 with ⟨rfl,_⟩ | ⟨g,f,i,rfl,_,b,_⟩
 ·exact .inl rfl
 ·refine .inr fun j=>?_
  obtain ⟨o,a,n⟩:=e g (by rw [<-j];rfl);rw [b] at a;injection a with a;subst a;cases n
theorem DR.stays {W i:World} {n X base:Nat} {v:Value} {ys:List Int} (h:DR W base v ys) (j:ItX n X W i) (o:W.cell? ⟨X,0,none⟩=some v):DR i base v ys:=by
 refine ⟨h.1,?_⟩;rcases h.2 with p | ⟨g,c,d,e,q,a,b⟩
 ·exact .inl p
 ·have f:=(Ag.1 a).1;exact .inr ⟨g,c,d,e,q,(j.own g (by rw [dR o,e];rfl) f).trans a,b⟩
theorem UU {base X:Nat} {W x b:World} {v c:Value} {n:Nat} {xs:List Value} {t:TypeId} (j:Ab W x) (f:x.ownsRow (X+1) t 1 v n xs) (y:Boxed W X 60 v) (z:x.grownBy b v.ownBlock) (A:c.ownBlock=v.ownBlock\/c.ownBlock=some x.heap.size) (L:base<=X) (M:∀ k,c.ownBlock=some k->k < b.heap.size) :
 zT base X W (b.setCell ⟨X,0,none⟩ c):=by
 have B:=y.lt;have C:=j.size;have q:∀ k,v.ownBlock=some k->X+1<=k:=fun k a=>(f.lt k a).1
 have E:b.cell? ⟨X,0,none⟩=some v:=by
  have F:b.heap[X]?=some (.cells #[v] 60 (0,0)):=(z.block X bB (fun e=>by have:=q X e.symm;omega)).trans ((j.block X B).trans y);exact cell_of_row b X 0 _ _ (0,0) F
 have G:(b.setCell ⟨X,0,none⟩ c).cell? ⟨X,0,none⟩=some c:=Gc _ _ _ (by rw [E];rfl);have I:wI X W=v.ownBlock:=dR y.cell;have J:wI X (b.setCell ⟨X,0,none⟩ c)=c.ownBlock:=dR G;have H:(b.setCell ⟨X,0,none⟩ c).heap.size=b.heap.size:=by simp [World.setCell]
 refine ⟨(((j.mono (by omega:base<=W.heap.size))).grown z bB (fun k a=>by have:=q k a;omega)).setCell (p:=⟨X,0,none⟩) L _,fun k Q R T a h r=>?_,?_,fun _ g s=>?_,fun k o a K=>?_⟩
 ·have i:=(Ag.1 a).1;rw [I] at r;exact (Below.heap_setCell b ⟨X,0,none⟩ c k h).trans ((z.block k bB r).trans ((j.block k i).trans a))
 ·rw [J,I];rcases A with e | e
  ·exact .inl e
  ·exact .inr ⟨_,e,C⟩
 ·rw [J] at s;rw [H];exact M g s
 ·have i:=(Ag.1 a).1;have h:k≠X:=by
   rintro rfl;have N:W.heap[k]?=some (.cells #[v] 60 (0,0)):=y;rw [N] at a;injection a with a;subst a;cases K
  have u:=(j.block k i).trans a;refine (Below.heap_setCell b ⟨X,0,none⟩ c k h).trans ((z.block k bB fun e=>?_).trans u);rcases f.2 with ⟨rfl,_⟩ | ⟨g,O,P,rfl,_,d,_⟩
  ·cases e
  ·have:k=g:=by simpa [Value.ownBlock] using e
   subst this;rw [u] at d;injection d with d;subst d;cases K
theorem jJ {B:Nat} {W a:World} (b:Ab W a):KeepsFrom B W a:=⟨b.size,fun k o _ c _=>(b.block k (Ag.1 c).1).trans c⟩
theorem rP {B:Nat} {W d:World} {base k n:Nat} {e:TypeId} {v:Value} {xs:List Value} (f:W.grownBy d v.ownBlock) (b:W.ownsRow base e k v n xs):KeepsFrom B W d:=⟨f.size,fun q o _ c i=>(f.block q (Ag.1 c).1 (fun h=>by
 rcases b.2 with ⟨rfl,_⟩ | ⟨g,j,p,rfl,_,a,_⟩
 ·cases h
 ·have:q=g:=by simpa [Value.ownBlock] using h
  subst this;rw [c] at a;injection a with a;subst a;cases i)).trans c⟩
theorem AO (gf:Nat) (lb:Array Value) (S Sp:List Int->Prop) (N:Nat) (w:World)
 (o:∀ w',Below w.heap.size w w'->w.heap.size < w'.heap.size->wI w.heap.size w'=none->SG 8 prog gf lb w.heap.size w.heap.size S Sp N w') (eg:∀ p w',(callFunc gf p).run prog w'=.ok (.enter gf p) w') (hN:N<=1000000000) :
 Calls prog 227 #[.slice none 0 0,.func (.func gf) #[] lb] w fun e w'=>∃ v z,e=.returned v/\S z/\z.length<=N/\w'.ownsRow w.heap.size 3 1 v z.length (vC z)/\Below w.heap.size w w':=by
 obtain ⟨i0,H,T,U,V⟩:=info_parts qY;refine (callsIn_wide (n:=9)).1 ?_;have q:=uA o;clear o;refine callsIn_of_wp_marks func227 rfl trivial ?_ rfl;simp only [ntmps227,Bc,As,Br,Nat.reduceAdd,Nat.reduceSub,Ay,Az,Be,Ba,Bj,Bg];gi_wp2;have y:Below w.heap.size w (w.alloc (.cells #[.slice none 0 0] 60)):=(Below.refl _ w).alloc (Ae _) _;have Y:(w.alloc (.cells #[.slice none 0 0] 60)).heap.size=w.heap.size+1:=Ak _ _;have P:=Du w 60 (.slice none 0 0);have I:=q.o _ y bB (dR P.cell);generalize w.alloc (.cells #[.slice none 0 0] 60)=W0 at *;have Z:∃ s,s=w.heap.size:=⟨_,rfl⟩;obtain ⟨s,E⟩:=Z;rw [<-E] at y Y P I ⊢;have HS:=uA E;clear E q;refine qR bB (gf:=gf) (lb:=lb) rfl eg I (Below.refl _ _) bB bB (dR P.cell)
  (fun pre W=>(pre.length<=N/\∃ v,Boxed W s 60 v/\DR W (s+1) v pre)/\Below s w W)
  (fun _ _ _=>False)
  (Dg (Ed (fun s A B a8 E hg hr=>⟨E.1,by
   obtain ⟨v,Q,h2⟩:=E.2;exact ⟨v,qV Q hg hr,h2.own hg hr⟩⟩) _) (ownFrom_below (Cw HS.o) bB))
  (fun _ _ _ _ _ h _ _=>h)
  (fun pre A C h H=>⟨⟨h.1.1,by
   obtain ⟨v,Q,h2⟩:=h.1.2;exact ⟨v,dS Q H bB,h2.stays H Q.cell⟩⟩,h.2.trans (H.low.mono bB)⟩)
  (fun _ _ _ _ h _=>h)
  ⟨⟨Am _,_,P,Bv _ _ _ _⟩,y⟩
  (fun x=>{ tmps:=#[.slice none 0 0,.func (.func gf) #[] lb,.pointer (some ⟨s,0,none⟩),undef,.slice none 0 0,.int .i64 x,.func (.func gf) #[] lb,.int .i64 x,undef,undef,undef,undef,undef],defers:=[] }) ?assign ?body ?done ?stop
 case assign=>
  intro l x W K F;gi_wp2;exact F
 case body=>
  rintro l pre x W ⟨⟨hl,v,d,b⟩,G⟩ a6;have c0:=d.cell;have hW:=G.size;have a0:=d.lt;have J:=uA d;have t:Hdd (W.ownsRow (s+1) 3 1 v pre.length (vC pre)):=b;have HB:=uA G;have f:=(Below.refl W.heap.size W).alloc (Ae _) (.cells #[.int .i64 x] 3);have g:=uC b f;clear d b G;gi_wp2_with (gi_at_builtin;go_must (refine wpListIn_append_own_at _ rfl _ _ 60 rfl (s+1) 3 i0 (.int .i64 0) 1 8 underlying60 H T U V rfl eW _ pre.length _ rfl g ⟨W.heap.size,0,none⟩ 1 1 (vC [x]) rfl rfl (iX W x 3) (ints_oneCell _ _) (by unfold maxLen;omega) bB (by rw [Ak];omega) ?_;intro v5 R c i _ u;obtain ⟨g5,L,rfl⟩:=ownsRow_succ c;have j:R.heap[s]?=some (.cells #[v] 60 (0,0)):=(i.block s (by rw [Ak];omega) (fun e=>by have:=(g.lt s e.symm).1;omega)).trans ((f.block s a0).trans J.o);have a9:=cell_of_row R s 0 _ _ (0,0) j;have aa:R.frozen? ⟨s,0,none⟩=false:=(by simp [World.frozen?,j]);have M:=uA (UU (base:=s) (X:=s) f g J.o i u (Ae _) (fun k hk=>(c.lt k hk).2));have a1:=uA (FS c);have a2:=uA ((jJ (B:=W0.heap.size) f).trans (rP i g));have a3:Hdd (Boxed R s 60 v):=j;clear c i u j))
  refine ⟨a2.o.trans ((Bz _ _ _).from _),M.o,⟨by simp;omega,_,a3.o.set _,?_⟩,HB.o.trans M.o.low⟩;have h:=ownsRow_setCell_below a1.o (a:=⟨s,0,none⟩) (show s < s+1 by omega) (.slice (some ⟨g5,0,none⟩) (pre.length+1) L);unfold DR;rw [Aw,Cv];exact h
 case done=>
  rintro D z W hD a4 ⟨⟨hl,v,d,b⟩,G⟩ F;have c0:=d.cell;have t:=uA b;have HB:=uA G;clear b G;gi_wp2;refine ⟨nF,.inl ⟨_,_,rfl,run_takeDeferred F,?_⟩⟩;have O:=belowK_b (w:=W0) (by omega:s<=W0.heap.size) W D _ (.deferred none) hD F rfl rfl;have a5:=grownBy_putObj' W D (.deferred none);refine ⟨_,results_tmp rfl _ _ _,v,z,rfl,a4,hl,?_,by rw [<-HS.o];exact HB.o.trans O⟩;have h:=t.o.own a5 (fun r e=>by cases e;exact ⟨_,F,rfl⟩);rw [<-HS.o];exact uI h bB
 case stop=>
  rintro D cd pre W hD a7 h F;exact h.elim
end
def GE (gf:Nat) (lb:Array Value) (S b:List Int->Prop) (N:Nat) (w:World):Prop:=
 (∀ w',Ab w w'->w.heap.size < w'.heap.size->wI w.heap.size w'=none->SG 8 prog gf lb w.heap.size w.heap.size S b N w')/\(∀ a w',(callFunc gf a).run prog w'=.ok (.enter gf a) w')/\N<=1000000000
theorem IO (gf:Nat) (lb:Array Value) (S b:List Int->Prop) (N:Nat) (w:World) (h:GE gf lb S b N w) :
 Calls prog 171 #[.func (.func gf) #[] lb] w fun e w'=>∃ v a,e=.returned v/\S a/\a.length<=N/\w'.ownsRow w.heap.size 3 1 v a.length (vC a)/\Ab w w':=by
 have c:=uA (AO gf lb S b N w h.1 h.2.1 h.2.2);clear h;go_enter func171,ntmps171
 go_wp2_with fail
 refine c.o.mono ?_;rintro e j ⟨v,a,rfl,d,f,g,i⟩;go_wp2_with fail
 go_ret;exact ⟨v,a,rfl,d,f,g,i⟩
theorem eN (gf:Nat) (lb:Array Value) (S b:List Int->Prop) (N:Nat) (w:World) (h:GE gf lb S b N w) :
 Calls prog 121 #[.func (.func gf) #[] lb] w fun e w'=>∃ v a,e=.returned v/\S a/\a.length<=N/\w'.ownsRow w.heap.size 3 1 v a.length (vC (a.mergeSort fun x y=>decide (x<=y)))/\Ab w w':=by
 have t:=h.2.2;have n:=uA (IO gf lb S b N w h);clear h;go_enter func121,ntmps121
 go_wp2_with fail
 refine n.o.mono ?_;rintro e u ⟨v,a,rfl,c,o,d,f⟩;have p:=uA c;have q:=uA d;have g:=uA f;clear c d f;go_wp2_with fail
 refine (gD q.o bB).mono ?_;rintro e z ⟨rfl,i,j⟩;have r:=uA i;have s:=uA (j g.o.size);clear i j;go_wp2_with fail
 go_ret;exact ⟨v,a,rfl,p.o,o,r.o,g.o.trans s.o⟩
def uIh (w:World) (ps:List Pr) (rg:Int) (l:List Int) (e:Ending) (w':World):Prop:=∃ A m c b,e=.returned (.slice A m c)/\m<=c/\c<=maxLen/\w'.ownsRow w.heap.size 3 1 (.slice A m c) m (vC b)/\b.Pairwise (· < ·)/\(∀ a,a∈b↔kS ps rg l a)/\Ab w w'
theorem IH (r:Nat) (ps:List Pr) (rg:Int) (A:Option Addr) (n c:Nat) (l:List Int) (w:World) (f:Rel w w.heap.size r ps rg) (i:Rd w w.heap.size A n (vC l)) (hn:n<=1000000) :
 Calls prog 75 #[.pointer (some ⟨r,0,none⟩),.slice A n c] w (uIh w ps rg l):=by
 obtain ⟨H,q,I,D,J,K,L,f⟩:=f;have s:=f.few;have M:=i.ilen;have b:Ab w ((w.alloc (.cells #[.pointer (some ⟨r,0,none⟩)] 131)).alloc (.cells #[.slice A n c] 60)):=((Below.refl _ w).alloc (Ae _) _).alloc nF _;have t:=(Du w 131 (.pointer (some ⟨r,0,none⟩))).alloc (.cells #[.slice A n c] 60);have j:=Du (w.alloc (.cells #[.pointer (some ⟨r,0,none⟩)] 131)) 60 (.slice A n c);rw [Ak] at j;have u:GE 172 #[.pointer (some ⟨w.heap.size+1,0,none⟩),.pointer (some ⟨w.heap.size,0,none⟩)] (fun N=>∀ a,a∈N↔kS ps rg l a) (fun pre=>∀ a∈pre,kS ps rg l a) (n+q) ((w.alloc (.cells #[.pointer (some ⟨r,0,none⟩)] 131)).alloc (.cells #[.slice A n c] 60)):=by
  generalize O:(w.alloc (.cells #[.pointer (some ⟨r,0,none⟩)] 131)).alloc (.cells #[.slice A n c] 60)=W at *;have hs:W.heap.size=w.heap.size+2:=by rw [<-O];simp
  refine ⟨fun w' h o P=>?_,enters_of func172 fL rfl,bB⟩;refine eG 8 bB W.heap.size W.heap.size (w.heap.size+1) w.heap.size r ps rg H q I D J K L A n c l w' ((f.below (b.trans (h.mono bB))).more bB) (Ae _) o
   (RdX.of_rd (B:=W.heap.size) ((i.below (b.trans (h.mono bB))).more bB) (Ae _) bB (fun g x=>by rw [P] at x;cases x)) bB
   ((h.cell (p:=⟨w.heap.size+1,0,none⟩) (show w.heap.size+1 < W.heap.size by omega)).trans j.cell) ((h.cell (p:=⟨w.heap.size,0,none⟩) (show w.heap.size < W.heap.size by omega)).trans t.cell) bB
 have Q:=uA (eN _ _ _ _ _ _ u);have d:=uA b;clear u t j b f i;go_enter func75,ntmps75
 go_wp2_with fail
 refine (eB _ _ _ _ _).mono ?_;rintro e w1 ⟨rfl,rfl⟩;go_wp2_with fail
 refine Q.o.mono ?_;rintro e w2 ⟨v,y,rfl,z,h2,C,E⟩;have R:=uA z;have T:=uA (uI C d.o.size);have U:=uA (Aa d.o E);clear z C E;go_wp2_with fail
 refine (cN T.o bB).mono ?_;rintro e w3 ⟨V,Y,Z,rfl,h5,h6,F,G⟩;have H7:=uA F;have H8:=uA (U.o.trans G);clear F G;go_wp2_with fail
 go_ret;exact ⟨V,Y,Z,nH y,rfl,h5,h6,H7.o,fB y,fun a=>eU.trans (R.o a),H8.o⟩
theorem FQ:(prog.info? 54).map (fun i=>(i.zero,i.size,i.bytes))=some (some (.agg #[.int .i64 0,.int .i64 0]),2,16):=by kernel_rfl
def mk2 (ps:List Pr) (n:Nat):List Value:=ps.flatMap pV++List.replicate ((n - ps.length)*2) (.int .i64 0)
theorem uCh {ps:List Pr} {n:Nat} (h:ps.length<=n):(mk2 ps n).length=n*2:=by
 unfold mk2;rw [Aw,uU uY,List.length_replicate];omega
theorem VM {n:Nat} {z:Value} (a:z.cells=#[.int .i64 0,.int .i64 0]):madeCells z.cells (n*2)=(mk2 [] n).toArray:=by
 apply G2
 ·rw [size_madeCells];simp [mk2]
 ·intro i b c;have:i % 2=0\/i % 2=1:=by omega
  rcases this with e | e <;> simp [madeCells,a,mk2,e]
theorem uG9 {ps:List Pr} {n:Nat} (p:Pr) (h:ps.length < n):((mk2 ps n).set (ps.length*2) (.int .i64 p.1)).set (ps.length*2+1) (.int .i64 p.2)=mk2 (ps++[p]) n:=by
 have a:=uU uY ps;unfold mk2;rw [Eu _ _ (by rw [a];exact Ae _),Eu _ _ (by rw [a];omega),a,D3,show ps.length*2+1 - ps.length*2=1 by omega,Bk,Aw,Cv,C2];congr 1;rw [show (n - ps.length)*2=(n - (ps.length+1))*2+2 by omega];rfl
theorem uBj {ps:List Pr}:mk2 ps ps.length=ps.flatMap pV:=by unfold mk2;rw [D3];simp
def jO (w':World) (A:Option Addr) (n c:Nat) (ps:List Pr):Prop:=n<=c/\c<=maxLen/\uM w' w'.heap.size 2 pV A n ps
theorem DS {P:Program} (w:World) {d:Array Oper} {b:List Oper} {o:Oper} {a:Act} {Q:Exit->Act->World->Prop}
 (q:o.guard=none) (l c:Operand) (t:TypeId) (f:o.op=Op.makeSlice t l c)
 (e:TypeId) (i:TypeInfo) (z:Value) (r:P.underlying t=some (.slice e)) (s:P.info? e=some i) (u:i.zero=some z) (x:i.size=2) (y:z.cells=#[.int .i64 0,.int .i64 0])
 (n:Nat) (A:a.eval l=.int .i64 (n:Int)) (B:a.eval c=.int .i64 (n:Int)) (E:i.bytes*n<=281474976710656) (F:n<=1000000)
 (C:wpList P d Q b (a.put o.dst (.slice (some ⟨w.heap.size,0,none⟩) n n)) (w.alloc (.cells (mk2 [] n).toArray e))) :
 wpList P d Q (o :: b) a w:=by
 have g:(i.bytes:Int)*(n:Int)<=281474976710656:=by
  have h:((i.bytes*n:Nat):Int)<=281474976710656:=by omega
  rwa [Fr] at h
 have p:=run_make (P:=P) w t e i z r s u .i64 .i64 n n bB (Fn _) g bB;simp only [A3,x,VM y] at p;refine wpList_plain q fun K j=>?_
 unfold Oper.wp;simp [execOp,f,A,B,p,Result.andThen];exact j _ _ C
theorem eD {w:World} {b i:Nat} {cs:Array Value} {t:TypeId} {a:Nat×Nat} (h:w.heap[b]?=some (.cells cs t a)) (v:Value):(w.setCell ⟨b,i,none⟩ v).heap[b]?=some (.cells (cs.setIfInBounds i v) t a):=by
 simp [World.setCell,Di,h]
theorem MH (A B:Option Addr) (n c d:Nat) (xs ys:List Int) (w:World) (G:Rd w w.heap.size A n (vC xs)) (H:Rd w w.heap.size B n (vC ys)) (hn:n<=65535) :
 Calls prog 297 #[.slice A n c,.slice B n d] w fun e w'=>∃ P Q,e=.returned (.tuple #[.slice P n Q,.bool true])/\jO w' P n Q (xs.zip ys)/\Ab w w':=by
 obtain ⟨W,Y,I,J,K⟩:=info_parts FQ;have Z:=uA G;have HY:=uA H;have r:=uA G.ilen;have s:=uA H.ilen;have t:(xs.zip ys).length=n:=by rw [List.length_zip,r.o,s.o,Nat.min_self]
 have a:=uA t;clear G H t;go_enter func297,ntmps297
 go_wp2_with (at_make;go_must (refine DS _ rfl _ _ _ rfl 54 W _ underlying23 Y I J rfl n rfl rfl (by rw [K];omega) bB ?_))
 have L:(w.alloc (.cells (mk2 [] n).toArray 54)).heap[w.heap.size]?=some (.cells (mk2 [] n).toArray 54 (0,0)):=heap_alloc_new _ _;have M:Ab w (w.alloc (.cells (mk2 [] n).toArray 54)):=(Below.refl _ _).alloc (Ae _) _;have R:w.heap.size < (w.alloc (.cells (mk2 [] n).toArray 54)).heap.size:=by rw [Ak];omega
 generalize w.alloc (.cells (mk2 [] n).toArray 54)=w0 at *;go_loopw [18] (fun i wr=>∃ k:Nat,i=.int .i64 (k:Int)/\k<=n/\Hdd (wr.heap[w.heap.size]?=some (.cells (mk2 ((xs.zip ys).take k) n).toArray 54 (0,0)))/\Ab w wr) (fun i _=>n - (intOf i).toNat)
 case atStart=>exact ⟨0,rfl,Am _,L,M⟩
 case round=>
  obtain ⟨k,rfl,hk,q,F⟩:=hrel;by_cases N:k < n
  ·have b:∃ x,xs[k]?=some x:=⟨_,Ad (by have:=r.o;omega)⟩;obtain ⟨x,f⟩:=b;have b:∃ y,ys[k]?=some y:=⟨_,Ad (by have:=s.o;omega)⟩;obtain ⟨y,g⟩:=b;obtain ⟨b1,o1,rfl,a0,c1⟩:=(Z.o.below F).int f;obtain ⟨b2,o2,rfl,a1,c2⟩:=(HY.o.below F).int g;have z:(k:Int) < (n:Int):=bB;have a2:(0:Int)<=(k:Int):=Ch _;have C:(xs.zip ys)[k]?=some (x,y):=Gd.2 ⟨f,g⟩;have E:((xs.zip ys).take k).length=k:=by rw [B9,a.o];omega
   have h:=uG9 (ps:=(xs.zip ys).take k) (n:=n) (x,y) bB;rw [E,show (xs.zip ys).take k++[(x,y)]=(xs.zip ys).take (k+1) by rw [Bm,C];rfl] at h;have O:=uA h;have o:=uCh (ps:=(xs.zip ys).take k) (n:=n) bB;have f0:wr.cell? ⟨w.heap.size,k*2,none⟩=some ((mk2 ((xs.zip ys).take k) n).getD (k*2) (.int .i64 0)):=by
    rw [cell_of_row wr w.heap.size (k*2) _ _ (0,0) q.o];simp [Bn,Ad (show k*2 < (mk2 ((xs.zip ys).take k) n).length by omega)]
   have f1:wr.cell? ⟨w.heap.size,k*2+1,none⟩=some ((mk2 ((xs.zip ys).take k) n).getD (k*2+1) (.int .i64 0)):=by
    rw [cell_of_row wr w.heap.size (k*2+1) _ _ (0,0) q.o];simp [Bn,Ad (show k*2+1 < (mk2 ((xs.zip ys).take k) n).length by omega)]
   have z0:wr.frozen? ⟨w.heap.size,k*2,none⟩=false:=(by simp [World.frozen?,q.o]);have z1:wr.frozen? ⟨w.heap.size,k*2+1,none⟩=false:=(by simp [World.frozen?,q.o]);generalize (mk2 ((xs.zip ys).take k) n).getD (k*2) (.int .i64 0)=u0 at f0;generalize (mk2 ((xs.zip ys).take k) n).getD (k*2+1) (.int .i64 0)=u1 at f1;clear h C f g E o;go_wp2;go_still_tail 12,fL
   change wpList _ _ _ _ _ wr.drew;go_wp2;refine ⟨⟨k+1,by go_num,bB,?_,((F.setCell (p:=⟨w.heap.size,k*2,none⟩) (Ae _) _).setCell (p:=⟨w.heap.size,k*2+1,none⟩) (Ae _) _).drew⟩,by simp [intOf];omega⟩;have h1:=eD (i:=k*2+1) (eD (i:=k*2) q.o (.int .i64 x)) (.int .i64 y);refine Eq.trans h1 ?_;congr 2;apply F7;simp only [Ga];exact O.o
  ·have e:k=n:=bB;have hF:=q.o;rw [e,Au (Cw a.o)] at hF;have T:mk2 (xs.zip ys) n=(xs.zip ys).flatMap pV:=by rw [<-a.o];exact uBj
   rw [T] at hF;have U:=uA hF;have z:¬(k:Int) < (n:Int):=bB;clear hF T N;go_wp2;go_ret2
   refine ⟨_,_,rfl,⟨Ae _,by unfold maxLen;omega,a.o,fun h0=>⟨w.heap.size,0,rfl,Ap (Dr _) (Ag.1 U.o).1,fun i p hp j u V=>?_⟩⟩,F⟩;have hj:j < 2:=by have:=(Ah.1 V).1;rw [uY] at this;exact this
   rw [cell_of_row wr w.heap.size _ _ _ (0,0) U.o,Ea,C9,zG uY hp hj];exact V
theorem TU (A B:Option Addr) (n m c d:Nat) (w:World) (h:n≠m) (a:n<=1000000) (b:m<=1000000) :
 Calls prog 297 #[.slice A n c,.slice B m d] w fun e w'=>e=.returned (.tuple #[.slice none 0 0,.bool false])/\w'=w:=by
 have t:((n:Int) != (m:Int))=true:=by rw [bne_iff_ne];omega
 have f:(n != m)=true:=by rw [bne_iff_ne];exact h
 clear h;go_enter func297,ntmps297
 go_wp2;go_ret2
 exact ⟨rfl,rfl⟩
def LU (w:World) (ps:List Pr) (rg:Int) (a b:Ty) (e:Ending) (w':World):Prop:=
 ∃ A n c,e=.returned (.tuple #[.slice A n c,.bool (zJ (out ps rg) a b)])/\(zJ (out ps rg) a b=true->jO w' A n c (xM a b))/\Ab w w'
theorem jO.nil (w:World):jO w none 0 0 []:=⟨Ae _,Am _,rfl,fun h=>absurd h (Cg 0)⟩
theorem TZ (w:World) (x y:Int) (t:TypeId) {w':World} (c:Ab (w.alloc (.cells #[.int .i64 x,.int .i64 y] t)) w'):jO w' (some ⟨w.heap.size,0,none⟩) 1 1 [(x,y)]:=by
 have b:w'.heap[w.heap.size]?=some (.cells #[.int .i64 x,.int .i64 y] t (0,0)):=(c.block _ nF).trans (heap_alloc_new _ _);refine ⟨Ae _,by unfold maxLen;decide,rfl,fun _=>⟨w.heap.size,0,rfl,(Ag.1 b).1,fun i p a j u d=>?_⟩⟩
 match i,a with
 | 0,a=>
   have e:(x,y)=p:=(by simpa using a);subst e;rw [cell_of_row w' w.heap.size _ _ _ (0,0) b];simpa [pV] using d
 | i+1,a=>simp at a
theorem YS {a b:Ty} (c:a.kind=3) (d:a.mut_=false):xM a b=[(a.elem,b.elem)]:=by rw [dH c,d];rfl
theorem VP {a b:Ty} (c:a.kind=3) (d:a.mut_=true):xM a b=[(a.elem,b.elem),(b.elem,a.elem)]:=by rw [dH c,d];rfl
theorem IG {O:Int->Int->Bool} {a b:Ty} {v:Bool} (e:a.kind=b.kind) (c:a.kind=3) (d:a.mut_=b.mut_) (f:O a.region b.region=v):zJ O a b=v:=by
 unfold zJ;rw [if_neg (fun h=>h e),if_neg bB,if_pos c,d,f];simp
theorem JN {O:Int->Int->Bool} {a b:Ty} (e:a.kind=b.kind) (c:a.kind=3) (d:a.mut_≠b.mut_):zJ O a b=false:=by
 unfold zJ;rw [if_neg (fun h=>h e),if_neg bB,if_pos c];have:(a.mut_ == b.mut_)=false:=by simpa using d
 rw [this];rfl
theorem EX {O:Int->Int->Bool} {a b:Ty} (e:a.kind≠b.kind):zJ O a b=false:=by unfold zJ;rw [if_pos e]
theorem GL {O:Int->Int->Bool} {a b:Ty} (e:a.kind=b.kind) (c:a.kind=4) (d:a.fields.length≠b.fields.length):zJ O a b=false:=by
 unfold zJ;rw [if_neg (fun h=>h e),if_neg bB,if_neg bB,if_pos c];simpa using d
theorem UN {O:Int->Int->Bool} {a b:Ty} (e:a.kind=b.kind) (f:a.kind≠0) (g:a.kind≠1) (i:a.kind≠2) (c:a.kind≠3) (d:a.kind≠4):zJ O a b=false:=by
 unfold zJ;rw [if_neg (fun h=>h e),if_neg bB,if_neg c,if_neg d]
end Go.Proofs.YtnkjbjkoffgocaaGreatDoor
