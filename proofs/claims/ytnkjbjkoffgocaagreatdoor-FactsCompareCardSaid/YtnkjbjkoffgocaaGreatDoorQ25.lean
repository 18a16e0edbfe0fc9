import Derived.Test.YtnkjbjkoffgocaaGreatDoorQ24
import Derived.RangeFuncSeq
import Derived.Sort.MapsRangeIn
import Derived.RegionIn
import Derived.BigRegion
set_option linter.unusedVariables false
set_option linter.unusedSimpArgs false
set_option maxRecDepth 100000
set_option maxHeartbeats 8000000
namespace Go.Proofs.YtnkjbjkoffgocaaGreatDoor
open Tryz Go.RowKit
section
open Go.Shelf
attribute [local go_sem] Oper.semAt_some
structure fR {H:Type} (D0:DataW H) (left:Lit->Bool) (ss:List Int):Prop where
 nd:ss.Nodup
 rng:∀ x∈ss,uH x
 mem:∀ x,uH x->(x∈ss↔(Maps.has D0 (.int .i64 x)=true/\left (.int .i64 x)=false))
theorem fR.start {H:Type} (D0:DataW H):fR D0 (Maps.has D0) []:=⟨Ff,(fun x h=>by cases h),fun x _=>by cases Maps.has D0 (.int .i64 x) <;> simp⟩
theorem fR.step {H:Type} {D0:DataW H} {c:Lit->Bool} {i:List Int} (h:fR D0 c i) {x:Int} {y:DataW H} (l:uH x) (j:c (.int .i64 x)=true) (k:∀ n,D0.atKey (.int .i64 x) n=y):fR D0 (fun z=>c z && !z.sameKey (.int .i64 x)) (i++[x]):=by
 have d:Maps.has D0 (.int .i64 x)=true:=Maps.has_true_of_atKey k;have f:x∉i:=fun o=>by have:=((h.mem x l).1 o).2;rw [j] at this;cases this
 refine ⟨Fg.2 ⟨h.nd,nF,fun a p b m=>by simp at m;subst m;exact fun e=>f (e ▸ p)⟩,fun y hy=>?_,fun y hy=>?_⟩
 ·rcases Aq.1 hy with hy | hy
  ·exact h.rng y hy
  ·rw [An.1 hy];exact l
 ·by_cases e:y=x
  ·subst e;simp [d,Lit.sameKey]
  ·simp [h.mem y hy,e,Lit.sameKey]
def LD (K:List Int) (ys:List Int):Prop:=ys.Nodup/\(∀ x,x∈ys↔x∈K)
theorem IF {K ys:List Int} (h:LD K ys):(ys.mergeSort fun x y=>decide (x<=y))=qW K:=by
 have a:=BD h.1;refine bU a (LK K) fun z=>?_
 rw [(E2 ys _).mem_iff,h.2 z,cJ]
theorem SY (a:Option Nat) (w:World):Calls prog 250 #[.map a] w fun e w'=>e=.returned (.func (.func 260) #[] #[.pointer (some ⟨w.heap.size,0,none⟩)])/\w'=w.alloc (.cells #[.map a] 245):=by
 go_enter func250,ntmps250
 go_wp2;go_ret;exact ⟨rfl,rfl⟩
theorem UC {H:Type} (n:Nat) (hn:1<=n) (base X r b V:Nat) {R:Value->Option (DataW H×List MemPlace)} (D0:DataW H) (K:List Int) (w:World) (aj:base<=w.heap.size) (ak:r < base) (hb:b < base) (al:base<=X)
 (hm:w.cell? ⟨r,0,none⟩=some (.map (some b))) (d:w.ownsMap prog 3 R b V D0) (hK:∀ q,uH q->(Maps.has D0 (.int .i64 q)=true↔q∈K)) (Z:∀ q∈K,uH q) :
 SG n prog 260 #[.pointer (some ⟨r,0,none⟩)] base X (LD K) (fun _=>True) (Maps.size D0) w:=by
 intro l J Jx W hW hO hX hJ a0 hY h0;have a1:b < w.heap.size:=d.lt;have am:=hW.size;have an:W.cell? ⟨r,0,none⟩=some (.map (some b)):=(hW.cell (p:=⟨r,0,none⟩) (show r < w.heap.size by omega)).trans hm;have f:=uN d (hW.block b a1);have HJ:=uA hJ;have HY:=uA hY;have H0:=uA h0;have a2:=uA f;clear hJ a0 hY h0 hm d f;refine callsIn_of_wp func260 rfl trivial ?_ rfl;have tl:(#[.func (.yield l) #[] #[]]++#[.pointer (some ⟨r,0,none⟩)]:Array Value)=#[.func (.yield l) #[] #[],.pointer (some ⟨r,0,none⟩)]:=rfl;rw [tl];clear tl;simp only [ntmps260,Bc,As,Br,Nat.reduceAdd,Nat.reduceSub,Ay,Az,Be,Ba,Bj,Bg];gi_wp2_with (first
  | (gi_at_range;refine wpListIn_range_own _ rfl _ 245 rfl 3 4 zS underlying245 _ b V _ rfl a2.o ?_;intro Y s m a3)
  | gi_in)
 have B:=uA s;have a4:=uA (HJ.o _ _ _ H0.o (ItX.of_grown m (Ae _) (fun k e=>by cases e)));have a5:wI X Y=none:=by
  have a6:Ab W Y:=(Below.refl _ W).grown m (Ae _) (fun k e=>by cases e);rw [yO (a6.cell (p:=⟨X,0,none⟩) hX)];exact hO
 have ao:Hdd (Below base W Y):=(Below.refl _ W).grown m bB (fun k e=>by cases e);have a7:W.heap.size < Y.heap.size:=by omega
 clear s m a3 H0;go_frame
 gi_loopw [3] (fun _ wr=>∃ (h:Lit->Bool) (z:Nat) (i:List Int),wr.ranges prog 3 R b W.heap.size V D0 h z/\i.length+z<=Maps.size D0/\Hdd (fR D0 h i)/\Hdd (J i wr)/\some W.heap.size≠wI X wr/\W.heap.size < wr.heap.size)
  (fun _ wr=>wr.rangeLeft b W.heap.size)
 case atStart=>exact ⟨_,_,[],B.o,nF,fR.start D0,a4,by rw [a5];simp,a7⟩
 case round=>
  obtain ⟨h,z,i,C,ap,D,E,F,aq⟩:=hrel;gi_wp2_with (first
   | (gi_at_next;refine wpListIn_next_ranges _ rfl _ rfl 3 zS R (Value.int .i64) id (fun ar kl hk=>by obtain ⟨x,A,_⟩:=Maps.keyOf_int_inv underlying3 hk;exact ⟨x,A⟩) (fun v _ _=>⟨v,rfl⟩) b W.heap.size V _ _ _ rfl C ?_ ?_)
   | gi_in)
  ·intro au a8;gi_wp2;go_end0
   refine ⟨⟨_,rfl⟩,.inl ⟨i,⟨D.o.nd,fun x=>⟨fun A=>?_,fun A=>?_⟩⟩,E.o⟩⟩
   ·have G:=D.o.rng x A;exact (hK x G).1 ((D.o.mem x G).1 A).1
   ·have G:=Z x A;exact (D.o.mem x G).2 ⟨(hK x G).2 A,a8 _⟩
  ·intro x c kl yd yp I L t a9 hv aa M ab o ac av;obtain ⟨x',ex,rfl,ad⟩:=Maps.keyOf_int_inv underlying3 t;cases ex;have ae:=fP ad;have af:J i I:=HJ.o i wr I E.o (ItX.of_grown o bB (fun k e=>by cases e;exact ⟨Ae _,F⟩));have N:i.length < Maps.size D0:=bB;have O:some W.heap.size≠wI X I:=by
    have e:I.cell? ⟨X,0,none⟩=wr.cell? ⟨X,0,none⟩:=Ce (w:=wr) (a:=⟨X,0,none⟩) (o.block X bB (by intro e;injection e with e;omega));rw [yO e];exact F
   obtain ⟨fn,tmps,assign,body,hy,hR⟩:=HY.o i x I af N;have ag:=uA (D.o.step ae a9 aa);clear ac t;gi_wp2;refine hR.mono ?_;rintro e W3 (⟨rfl,P,j⟩ | ⟨rfl,u⟩)
   ·have y:=M.of_walks ⟨j.low.size,j.walks⟩;have ah:=uA P;have Q:=jN j (b:=W.heap.size) (by have:=o.size;omega) O;have ai:W.heap.size < W3.heap.size:=by have:=j.low.size;have:=o.size;omega
    clear P j;gi_wp2;go_roundw
    case rel=>exact ⟨_,L,i++[x],y,by simp;omega,ag,ah,Q,ai⟩
    case measure=>rw [y.left_eq,C.left_eq];exact ab
   ·have U:=uA u;clear u;gi_wp2;refine bodyPost_ret (results_none rfl _ _ _) rfl ?_;exact ⟨⟨_,rfl⟩,.inr ⟨i++[x],trivial,U.o⟩⟩
theorem KW {H:Type} (b i:Nat) {R:Value->Option (DataW H×List MemPlace)} (D0:DataW H) (K:List Int) (w:World) (a:w.ownsMap prog 3 R b i D0) (n:∀ q,uH q->(Maps.has D0 (.int .i64 q)=true↔q∈K)) (f:∀ q∈K,uH q) (x:i<=1000000000) :
 Calls prog 217 #[.map (some b)] w (qN w (qW K)):=by
 have o:GE 260 #[.pointer (some ⟨w.heap.size,0,none⟩)] (LD K) (fun _=>True) (Maps.size D0) (w.alloc (.cells #[.map (some b)] 245)):=by
  have y:=uB w (.cells #[.map (some b)] 245);have F:(w.alloc (.cells #[.map (some b)] 245)).heap.size=w.heap.size+1:=by simp
  have k:=a.lt;refine ⟨fun w' h l G=>?_,enters_of func260 fL rfl,by have:=a.size_le;omega⟩;exact UC 8 bB _ _ w.heap.size b i D0 K w' (Co l) bB bB (Ae _) ((h.cell (p:=⟨w.heap.size,0,none⟩) (show w.heap.size < _ by omega)).trans ((Bx.new w [.map (some b)] 245).q 0 rfl)) (uN (uN a (y.block b k)) (h.block b bB)) n f
 have z:=uA (eN _ _ _ _ _ _ o);have m:=uA (uB w (.cells #[.map (some b)] 245));clear o a n f x;go_enter func217,ntmps217
 go_wp2_with fail
 refine (SY _ _).mono ?_;rintro e I ⟨rfl,rfl⟩;go_wp2_with fail
 refine z.o.mono ?_;rintro e J ⟨v,B,rfl,r,C,d,s⟩;have D:=uA (Aa m.o s);have t:=IF r;rw [t] at d;have u:(qW K).length=B.length:=by
  have:=d.1;simpa using this
 rw [<-u] at d;obtain ⟨A,c,rfl⟩:=wU d;have E:=uA (uI d m.o.size);clear r C d s t u;generalize qW K=L at *;go_wp2_with fail
 go_ret;exact ⟨A,c,rfl,by rw [fV];exact E.o,D.o⟩
theorem KJ {w:World} {b:Nat} {L:List Int} (h:wC w b L) (a:L.length<=1000000000):Calls prog 217 #[.map (some b)] w (qN w (qW L)):=by
 obtain ⟨c,d,e,_⟩:=h.own;exact KW b L.length c L w d e h.rng a
theorem UO (a:Option Nat) (w:World):Calls prog 123 #[.map a] w fun e w'=>e=.returned (.func (.func 174) #[] #[.pointer (some ⟨w.heap.size,0,none⟩)])/\w'=w.alloc (.cells #[.map a] 134):=by
 go_enter func123,ntmps123
 go_wp2;go_ret;exact ⟨rfl,rfl⟩
theorem UX {H:Type} (n:Nat) (hn:1<=n) (base X r b V:Nat) {R:Value->Option (DataW H×List MemPlace)} (D0:DataW H) (K:List Int) (w:World) (aj:base<=w.heap.size) (ak:r < base) (hb:b < base) (al:base<=X)
 (hm:w.cell? ⟨r,0,none⟩=some (.map (some b))) (d:w.ownsMap prog 3 R b V D0) (hK:∀ q,uH q->(Maps.has D0 (.int .i64 q)=true↔q∈K)) (Z:∀ q∈K,uH q) :
 SG n prog 174 #[.pointer (some ⟨r,0,none⟩)] base X (LD K) (fun _=>True) (Maps.size D0) w:=by
 intro l J Jx W hW hO hX hJ a0 hY h0;have a1:b < w.heap.size:=d.lt;have am:=hW.size;have an:W.cell? ⟨r,0,none⟩=some (.map (some b)):=(hW.cell (p:=⟨r,0,none⟩) (show r < w.heap.size by omega)).trans hm;have f:=uN d (hW.block b a1);have HJ:=uA hJ;have HY:=uA hY;have H0:=uA h0;have a2:=uA f;clear hJ a0 hY h0 hm d f;refine callsIn_of_wp func174 rfl trivial ?_ rfl;have tl:(#[.func (.yield l) #[] #[]]++#[.pointer (some ⟨r,0,none⟩)]:Array Value)=#[.func (.yield l) #[] #[],.pointer (some ⟨r,0,none⟩)]:=rfl;rw [tl];clear tl;simp only [ntmps174,Bc,As,Br,Nat.reduceAdd,Nat.reduceSub,Ay,Az,Be,Ba,Bj,Bg];gi_wp2_with (first
  | (gi_at_range;refine wpListIn_range_own _ rfl _ 134 rfl 3 3 zS underlying134 _ b V _ rfl a2.o ?_;intro Y s m a3)
  | gi_in)
 have B:=uA s;have a4:=uA (HJ.o _ _ _ H0.o (ItX.of_grown m (Ae _) (fun k e=>by cases e)));have a5:wI X Y=none:=by
  have a6:Ab W Y:=(Below.refl _ W).grown m (Ae _) (fun k e=>by cases e);rw [yO (a6.cell (p:=⟨X,0,none⟩) hX)];exact hO
 have ao:Hdd (Below base W Y):=(Below.refl _ W).grown m bB (fun k e=>by cases e);have a7:W.heap.size < Y.heap.size:=by omega
 clear s m a3 H0;go_frame
 gi_loopw [3] (fun _ wr=>∃ (h:Lit->Bool) (z:Nat) (i:List Int),wr.ranges prog 3 R b W.heap.size V D0 h z/\i.length+z<=Maps.size D0/\Hdd (fR D0 h i)/\Hdd (J i wr)/\some W.heap.size≠wI X wr/\W.heap.size < wr.heap.size)
  (fun _ wr=>wr.rangeLeft b W.heap.size)
 case atStart=>exact ⟨_,_,[],B.o,nF,fR.start D0,a4,by rw [a5];simp,a7⟩
 case round=>
  obtain ⟨h,z,i,C,ap,D,E,F,aq⟩:=hrel;gi_wp2_with (first
   | (gi_at_next;refine wpListIn_next_ranges _ rfl _ rfl 3 zS R (Value.int .i64) id (fun ar kl hk=>by obtain ⟨x,A,_⟩:=Maps.keyOf_int_inv underlying3 hk;exact ⟨x,A⟩) (fun v _ _=>⟨v,rfl⟩) b W.heap.size V _ _ _ rfl C ?_ ?_)
   | gi_in)
  ·intro au a8;gi_wp2;go_end0
   refine ⟨⟨_,rfl⟩,.inl ⟨i,⟨D.o.nd,fun x=>⟨fun A=>?_,fun A=>?_⟩⟩,E.o⟩⟩
   ·have G:=D.o.rng x A;exact (hK x G).1 ((D.o.mem x G).1 A).1
   ·have G:=Z x A;exact (D.o.mem x G).2 ⟨(hK x G).2 A,a8 _⟩
  ·intro x c kl yd yp I L t a9 hv aa M ab o ac av;obtain ⟨x',ex,rfl,ad⟩:=Maps.keyOf_int_inv underlying3 t;cases ex;have ae:=fP ad;have af:J i I:=HJ.o i wr I E.o (ItX.of_grown o bB (fun k e=>by cases e;exact ⟨Ae _,F⟩));have N:i.length < Maps.size D0:=bB;have O:some W.heap.size≠wI X I:=by
    have e:I.cell? ⟨X,0,none⟩=wr.cell? ⟨X,0,none⟩:=Ce (w:=wr) (a:=⟨X,0,none⟩) (o.block X bB (by intro e;injection e with e;omega));rw [yO e];exact F
   obtain ⟨fn,tmps,assign,body,hy,hR⟩:=HY.o i x I af N;have ag:=uA (D.o.step ae a9 aa);clear ac t;gi_wp2;refine hR.mono ?_;rintro e W3 (⟨rfl,P,j⟩ | ⟨rfl,u⟩)
   ·have y:=M.of_walks ⟨j.low.size,j.walks⟩;have ah:=uA P;have Q:=jN j (b:=W.heap.size) (by have:=o.size;omega) O;have ai:W.heap.size < W3.heap.size:=by have:=j.low.size;have:=o.size;omega
    clear P j;gi_wp2;go_roundw
    case rel=>exact ⟨_,L,i++[x],y,by simp;omega,ag,ah,Q,ai⟩
    case measure=>rw [y.left_eq,C.left_eq];exact ab
   ·have U:=uA u;clear u;gi_wp2;refine bodyPost_ret (results_none rfl _ _ _) rfl ?_;exact ⟨⟨_,rfl⟩,.inr ⟨i++[x],trivial,U.o⟩⟩
theorem KG {H:Type} (b i:Nat) {R:Value->Option (DataW H×List MemPlace)} (D0:DataW H) (K:List Int) (w:World) (a:w.ownsMap prog 3 R b i D0) (n:∀ q,uH q->(Maps.has D0 (.int .i64 q)=true↔q∈K)) (f:∀ q∈K,uH q) (x:i<=1000000000) :
 Calls prog 76 #[.map (some b)] w (qN w (qW K)):=by
 have o:GE 174 #[.pointer (some ⟨w.heap.size,0,none⟩)] (LD K) (fun _=>True) (Maps.size D0) (w.alloc (.cells #[.map (some b)] 134)):=by
  have y:=uB w (.cells #[.map (some b)] 134);have F:(w.alloc (.cells #[.map (some b)] 134)).heap.size=w.heap.size+1:=by simp
  have k:=a.lt;refine ⟨fun w' h l G=>?_,enters_of func174 fL rfl,by have:=a.size_le;omega⟩;exact UX 8 bB _ _ w.heap.size b i D0 K w' (Co l) bB bB (Ae _) ((h.cell (p:=⟨w.heap.size,0,none⟩) (show w.heap.size < _ by omega)).trans ((Bx.new w [.map (some b)] 134).q 0 rfl)) (uN (uN a (y.block b k)) (h.block b bB)) n f
 have z:=uA (eN _ _ _ _ _ _ o);have m:=uA (uB w (.cells #[.map (some b)] 134));clear o a n f x;go_enter func76,ntmps76
 go_wp2_with fail
 refine (UO _ _).mono ?_;rintro e I ⟨rfl,rfl⟩;go_wp2_with fail
 refine z.o.mono ?_;rintro e J ⟨v,B,rfl,r,C,d,s⟩;have D:=uA (Aa m.o s);have t:=IF r;rw [t] at d;have u:(qW K).length=B.length:=by
  have:=d.1;simpa using this
 rw [<-u] at d;obtain ⟨A,c,rfl⟩:=wU d;have E:=uA (uI d m.o.size);clear r C d s t u;generalize qW K=L at *;go_wp2_with fail
 go_ret;exact ⟨A,c,rfl,by rw [fV];exact E.o,D.o⟩
end
theorem uCp {L:List OpW} {j:Nat} {x:OpW} (h:L[j]?=some x):mN ((L.take (j+1)).map OpW.v)=mN ((L.take j).map OpW.v)++opU x.v:=by
 rw [Bm,h,By];unfold mN;rw [Bk];simp
section
variable {w w':World} {g:Nat} {cs:List Value} {T:TypeId} {S:Nat->Prop}
theorem Bx.turn (h:Bx w g cs T) (a:Turn S w w') (b:¬S g):Bx w' g cs T:=(a.block g h.lt b).trans h
end
def FA (w:World) (g b:Nat) (d:Int) (f:Bool):Prop:=Bx w g [.map (some b),.int .i64 d,.bool f] 262
theorem AT (g b:Nat) (d:Int) (f:Bool) (V:List Int) (s:SlW OpW) (B:Nat) (w:World) (hE:FA w g b d f) (hS:wC w b V) (hs:Ops w B s) (hB:B<=b) (hg:g≠b) (hn:s.n<=1000000) (hL:V.length<=1000000) :
 Calls prog 218 #[.pointer (some ⟨g,0,none⟩),.slice s.A s.n s.c] w fun e w'=>e=.returned (.tuple #[])/\wC w' b (V++mN (s.L.map OpW.v))/\Turn (fun k=>k=b) w w':=by
 have HS:=uA hs;have HE:=uA hE;have a3:=uA hS;have HL:Hdd (s.L.length=s.n):=hs.len;obtain ⟨sA,A,sc,t⟩:=s;have HL:Hdd (t.length=A):=HL.o;have hn:A<=1000000:=hn;have a8:=hS.lt;clear hs hE hS;go_enter func218,ntmps218
 go_wp2;go_loopw [8] (fun i wr=>∃ j:Nat,i=.int .i64 (j:Int)/\j<=A/\Hdd (wC wr b (V++mN ((t.take j).map OpW.v)))/\Hdd (Turn (fun k=>k=b) w wr)) (fun i _=>A - (intOf i).toNat)
 case atStart=>exact ⟨0,rfl,Am _,(by simpa [mN] using a3),Turn.refl _ _⟩
 case round=>
  obtain ⟨j,rfl,hj,K,HT⟩:=hrel;by_cases a4:j < A
  ·have W:(j:Int) < (A:Int):=bB;obtain ⟨x,hx⟩:∃ x,t[j]?=some x:=⟨_,Ad (by rw [HL.o];exact a4)⟩;have n:=uA (uCp hx);have a5:(V++mN ((t.take j).map OpW.v)).length<=2000000:=by
    have:=cY ((t.take j).map OpW.v);rw [Ao,B9] at this;rw [Aw];omega
   obtain ⟨M,hM⟩:∃ M,mN ((t.take j).map OpW.v)=M:=⟨_,rfl⟩;rw [hM] at K n a5;obtain ⟨C,z,L,a6,F,X⟩:=HS.o.at_ hx;have L:sA=some ⟨C,z,none⟩:=L;subst L;have D:uH x.pl.l:=F.pl.l;obtain ⟨l,⟨m,G,H,I,ps⟩,J⟩:=x;have D:uH m:=D;have q:∀ i u,(cOp ⟨l,⟨m,G,H,I,ps⟩,J⟩)[i]?=some u->wr.cell? ⟨C,z+j*4+i,none⟩=some u:=fun i u hu=>(HT.o.cell (p:=⟨C,z+j*4+i,none⟩) (show C < w.heap.size by omega) (show ¬C=b by omega)).trans (X i u hu)
   have c0:wr.cell? ⟨C,z+j*4,none⟩=some (.int .i64 l):=q 0 _ rfl;have c1:wr.cell? ⟨C,z+j*4+1,none⟩=some (.int .i64 m):=q 1 _ rfl;have c2:wr.cell? ⟨C,z+j*4+2,none⟩=some (.slice G H I):=q 2 _ rfl;have c3:wr.cell? ⟨C,z+j*4+3,none⟩=some (.int .i64 J):=q 3 _ rfl;have Y:=uB wr (.cells #[.int .i64 l,.int .i64 m,.slice G H I,.int .i64 J] 183);have N:=uA (K.o.below Y);have E:=uA (HT.o.alloc (.cells #[.int .i64 l,.int .i64 m,.slice G H I,.int .i64 J] 183));have O:Hdd (l=0\/l=1->mN ((t.take (j+1)).map OpW.v)=M++[m]):=fun h=>by
    rw [n.o];show M++(if l=0\/l=1 then [m] else [])=_;rw [if_pos h]
   have R:Hdd (¬(l=0\/l=1)->mN ((t.take (j+1)).map OpW.v)=M):=fun h=>by
    rw [n.o];show M++(if l=0\/l=1 then [m] else [])=_;rw [if_neg h,B5]
   obtain ⟨U,r⟩:∃ U,U=(wr.alloc (.cells #[.int .i64 l,.int .i64 m,.slice G H I,.int .i64 J] 183)):=⟨_,rfl⟩;have Z:=uA r;have q1:U.cell? ⟨wr.heap.size,1,none⟩=some (.int .i64 m):=by rw [r];exact wR (w:=wr) (cs:=[.int .i64 l,.int .i64 m,.slice G H I,.int .i64 J]) (Below.refl _ _) 1 _ rfl
   have q2:wr.heap.size < U.heap.size:=by rw [r];simp
   rw [<-r] at N E;have q3:=HE.o.turn E.o hg;have q4:=HT.o.size;have hcx:=uA fun (w':World) (y:Turn (fun k=>k=b) U w')=>(show (w'.cell? ⟨g,0,none⟩=some (.map (some b))/\w'.cell? ⟨wr.heap.size,1,none⟩=some (.int .i64 m)) from
    ⟨(q3.turn y hg).q 0 rfl,(y.cell (p:=⟨wr.heap.size,1,none⟩) q2 (show ¬wr.heap.size=b by omega)).trans q1⟩)
   have s0:(wr.alloc (.cells #[.int .i64 l,.int .i64 m,.slice G H I,.int .i64 J] 183)).cell? ⟨wr.heap.size,0,none⟩=some (.int .i64 l):=wR (w:=wr) (cs:=[.int .i64 l,.int .i64 m,.slice G H I,.int .i64 J]) (Below.refl _ _) 0 _ rfl;have HK:=uA D;clear hx X a6 hM q F D Y r q1 q2 q3 q4;by_cases h0:l=0\/l=1
   ·have HU:=uA (O.o h0);clear O R n;rcases h0 with rfl | rfl;all_goals
     go_wp2;rw [<-Z.o];have HD:=uA ((Turn.refl (fun k=>k=b) U).drew);refine wp_region_held_drew (S:=(fun w'=>Turn (fun k=>k=b) U w')) fL HD.o (fun hHeld=>?_);refine uJ [0,1,2,3,4,5,6] ?_
     repeat' (first | refine pT hHeld rfl ?_ | refine pS hHeld rfl ?_)
     refine uK ?_;refine pC 7 rfl (fun KZ hK=>?_);go_simp;refine (bM (N.o.below ((Below.refl _ _).drew)) HK.o bB).mono ?_;rintro e5 w5 ⟨rfl,a0,a1⟩;have a7:=uA a0;have a2:=uA (HD.o.trans a1);clear a0 a1;refine hK.out _ _ a2.o (fun hHeld=>?_);clear hK KZ;refine wpAnyH_done fL ?_ _;go_wp2;go_roundw
     case rel=>exact ⟨j+1,by go_num,bB,uA (by rw [HU.o,<- C2];exact a7.o),uA (E.o.trans a2.o)⟩
     case measure=>simp [intOf];omega
   ·have HU:=uA (R.o h0);have t0:(l == 0)=false:=by simp;omega
    have t1:(l == 1)=false:=by simp;omega
    clear O R n h0;go_wp2;rw [<-Z.o];go_roundw
    case rel=>exact ⟨j+1,by go_num,bB,uA (by rw [HU.o];exact N.o),E⟩
    case measure=>simp [intOf];omega
  ·have W:¬(j:Int) < (A:Int):=bB;obtain rfl:A=j:=by omega
   have HF:=uA (show mN ((t.take A).map OpW.v)=mN (t.map OpW.v) by rw [Au (by rw [HL.o];exact Ae _)]);go_wp2;go_end0
   exact ⟨rfl,by rw [<-HF.o];exact K.o,HT.o⟩
def nP (s:Nat×Bool):List Value:=[.int .i64 (s.1:Int),.bool s.2]
theorem BT (s:Nat×Bool):(nP s).length=2:=rfl
theorem AY (s:Nat×Bool):∀ u∈nP s,u.oneCell'=true:=by intro u a;simp only [nP,Av,Cd,or_false] at a;rcases a with rfl | rfl <;> rfl
abbrev dY (w:World) (base m:Nat) (S:Int->SlW (Nat×Bool)) (K:List Int):Prop:=xD w base m 272 2 nP S K
theorem MX:prog.underlying 256=some (.map 3 270):=underlying256
theorem gU (w:World):(zeroValue 270).run prog w=.ok (.slice none 0 0) w:=by kernel_rfl
theorem IE:(prog.info? 272).map (fun i=>(i.zero,i.size,i.bytes))=some (some (.agg #[.int .i64 0,.bool false]),2,16):=by kernel_rfl
def DM (p:Nat) (U:List Int) (D:Option Int) (q:Int):List (Nat×Bool):=if q∈U then [(p,true)] else if D=some q then [(p,false)] else []
theorem dY.more {w n l f:World} {base m p:Nat} {S:Int->SlW (Nat×Bool)} {K:List Int} {q:Int} {b:Bool} {g c:Nat} {i:DataW Value} (h:dY w base m S K) (A:Ab w n) (B:n.grownBy l (S q).val.ownBlock)
 (j:l.ownsRow base 272 2 (.slice (some ⟨g,0,none⟩) ((S q).n+1) c) ((S q).n+1) ((S q).L.flatMap nP++nP (p,b))) (r:(S q).val.ownBlock=some g\/g=n.heap.size) (F:uH q)
 (G:l.ownsMap prog 3 qE m K.length i) (H:∀ q,uH q->(Maps.has i (.int .i64 q)=true↔q∈K)) (I:∀ q,Maps.has i (.int .i64 q)=true->∀ z,i.atKey (.int .i64 q) z=.held (S q).val)
 (J:f.ownsMap prog 3 qE m (K.length+1) (i.put (.int .i64 q) (.held (.slice (some ⟨g,0,none⟩) ((S q).n+1) c)))) (k:l.grownBy f (some m)) (s:base<=m) (t:base<=w.heap.size) :
 ∃ C,dY f base m C (K++[q])/\(∀ y,(C y).L=(S y).L++if y=q then [(p,b)] else [])/\KT 272 w f/\Below base w f/\∀ (d:Nat) (o:Obj),d≠m->w.heap[d]?=some o->o.isCells=false->f.heap[d]?=some o:=by
 obtain ⟨L,M,N⟩:=xD.stored (s':=⟨some ⟨g,0,none⟩,(S q).n+1,c,(S q).L++[(p,b)]⟩) h A B (by rw [Bk];simpa using j) (r.elim (fun e=>.inl e.symm) (fun e=>.inr (by rw [e];rfl))) F G H I J k;refine ⟨_,L,fun y=>?_,M,N base (Ae _) s t,fun d o u v O=>?_⟩;rotate_left
 ·have x:=(Ag.1 v).1;have D:=(A.block d x).trans v;have E:=(B.block d (Ag.1 D).1 fun e=>by
   obtain ⟨cs,a⟩:=zQ (h.row q) e.symm;rw [v] at a;injection a with a;subst a;cases O).trans D
  exact (k.block d (Ag.1 E).1 fun e=>by injection e with e;exact u e).trans E
 unfold eQ;by_cases e:y=q
 ·subst e;rw [if_pos rfl,if_pos rfl]
 ·rw [if_neg e,if_neg e,B5]
theorem wC.kept {w w':World} {b:Nat} {L:List Int} (h:wC w b L) (e:∀ o:Obj,w.heap[b]?=some o->o.isCells=false->w'.heap[b]?=some o):wC w' b L:=by
 obtain ⟨f,c,i⟩:=h.own;refine ⟨⟨f,uN c ?_,i⟩,h.rng⟩;obtain ⟨j,a,d,_⟩:=c;exact (e _ d rfl).trans d.symm
theorem dY.len {w:World} {base m:Nat} {S:Int->SlW (Nat×Bool)} {K:List Int} (h:dY w base m S K) (q:Int):(S q).L.length=(S q).n:=by
 have a:=(h.row q).1;rw [uU BT] at a;omega
theorem VG (fb m base b p:Nat) (S:Int->SlW (Nat×Bool)) (K U:List Int) (D:Option Int) (cs:List Value) (w:World) (hF:Bx w fb cs 258) (hc:cs[2]?=some (.map (some m))) (hS:dY w base m S K) (hU:wC w b U) (bn:b≠m) (a2:base<=m)
 (bo:U.length<=1000000) (c7:K.length<=1000000000) (hp:p<=1000000000) (b6:∀ q,(S q).n<=1000000000) (hD:∀ d,D=some d->uH d) :
 Calls prog 161 #[.pointer (some ⟨fb,0,none⟩),.int .i64 (p:Int),.agg #[.map (some b),.int .i64 (D.getD 0),.bool D.isSome]] w fun e w'=>e=.returned (.tuple #[])/\(∃ S' K',dY w' base m S' K'/\(∀ q,(S' q).L=(S q).L++DM p U D q)/\(∀ q,q∈K'↔q∈K\/q∈U\/D=some q)/\K'.length<=K.length+U.length+1)/\KT 272 w w'/\Below base w w':=by
 obtain ⟨d,hd⟩:∃ d,D.getD 0=d:=⟨_,rfl⟩;obtain ⟨f,hf⟩:∃ f,D.isSome=f:=⟨_,rfl⟩;rw [hd,hf];have bp:base<=w.heap.size:=by have:=hS.lt;omega
 have HF:=uA hF;have HS:=uA hS;have HU:=uA hU;have a3:=uA (And.intro hd hf);have b7:=uA hD;have b8:=uA b6;have ak:=uB w (.cells #[.map (some b),.int .i64 d,.bool f] 262);have al:=Bx.new w [.map (some b),.int .i64 d,.bool f] 262;have a4:=uA ak;have HE:=uA al;have b9:=uA (KJ (hU.below ak) (Ai bo eW));obtain ⟨V,hV⟩:∃ V,qW U=V:=⟨_,rfl⟩;have ad:Hdd (∀ q,q∈V↔q∈U):=fun q=>hV ▸ cJ;have bq:Hdd (V.Pairwise (· < ·)):=hV ▸ LK U;have c8:V.length<=U.length:=hV ▸ GI U;have br:Hdd (∀ q∈V,uH q):=fun q W=>hU.rng q ((ad.o q).1 W);rw [hV] at b9;have c0:=al.q 0 rfl;have HC:=uA hc;obtain ⟨n,hn⟩:∃ n,V.length=n:=⟨_,rfl⟩;have HN:=uA hn;clear hF hS hU hd hf hD b6 ak al hV hc;go_enter func161,ntmps161
 go_wp2_with fail
 refine b9.o.mono ?_;rintro e w1 ⟨A1,c1,rfl,am,N⟩;rw [hn] at am ⊢;have bs:=uA am;have ba:=N.size;have bb:=uA (Aa a4.o N);have bt:=uA (HE.o.below N);have bc:=uA ((HF.o.below a4.o).below N);have bu:=uA ((HS.o.below a4.o).below N);have bv:=uA ((HU.o.below a4.o).below N);have c9:=uA (Below.refl w1.heap.size w1);rw [Ak] at ba;clear am N c0;go_wp2;go_loopw [12] (fun i wr=>∃ (j:Nat) (S':Int->SlW (Nat×Bool)) (K':List Int),i=.int .i64 (j:Int)/\j<=n/\Hdd (dY wr base m S' K')/\Hdd (∀ q,(S' q).L=(S q).L++if q∈V.take j then [(p,true)] else [])/\Hdd (∀ q,q∈K'↔q∈K\/q∈V.take j)/\Hdd (K'.length<=K.length+j)/\Hdd (KT 272 w1 wr)/\Hdd (Below base w1 wr)/\Hdd (wC wr b U)) (fun i _=>n - (intOf i).toNat)
 case atStart=>exact ⟨0,S,K,rfl,Am _,bu,uA (fun q=>by simp),uA (fun q=>by simp),uA (Ae _),uA (KT.of_b (Below.refl _ _)),uA (Below.refl _ _),bv⟩
 case round=>
  obtain ⟨j,S1,K1,rfl,hj,X,ae,an,a5,Y,ao,ap⟩:=hrel;have ca:=ao.o.size;by_cases bw:j < n
  ·have bd:(j:Int) < (n:Int):=bB;obtain ⟨q,W⟩:∃ q,V[j]?=some q:=⟨_,Ad (by rw [HN.o];exact bw)⟩;have be:=Aj W;have HQ:=uA (br.o q be);have bf:=uA (show V.take (j+1)=V.take j++[q] by rw [Bm,W];rfl);have bg:Hdd (q∉V.take j):=fun hm=>by
    obtain ⟨k,hk⟩:=B2 hm;rw [Dp] at hk
    split at hk
    ·have e:=cE bq.o hk W;omega
    ·cases hk
   obtain ⟨gv,zv,bx,_,bh⟩:=(uM.of_own vN eW (xV bs.o Y.o eW)).at_ W;subst bx;have c0:wr.cell? ⟨gv,zv+j,none⟩=some (.int .i64 q):=(by simpa using bh 0 _ rfl);have af:=uA (bc.o.kt Y.o eW);have O:=uA (af.o.below ((Below.refl wr.heap.size wr).drew));have E:=uA (X.o.below ((Below.refl wr.heap.size wr).drew));obtain ⟨x,hx⟩:∃ x,S1 q=x:=⟨_,rfl⟩;obtain ⟨sA,Z,sc,sL⟩:=x;have J:=uA hx;have aq:sL.length=Z:=by have:=X.o.len q;rw [hx] at this;exact this
   have bz:Z<=1000000001:=by
    have C:=ae.o q;rw [hx,if_neg bg.o,B5] at C;have h2:sL=(S q).L:=C;have h3:=HS.o.len q;have h4:=b8.o q;have h5:=congrArg List.length h2;omega
   have c6:=X;have ar:K1.length < maxLen:=by have:=a5.o;unfold maxLen;omega
   clear W be bh hx aq;go_wp2;have au:=(af.o.cell HC.o:wr.cell? ⟨fb,2,none⟩=some (.map (some m)));refine wp_region_held_drew (S:=(fun w'=>w'.cell? ⟨fb,2,none⟩=some (.map (some m)))) fL (O.o.cell HC.o) (fun hHeld=>?_);have F:Hdd (Ab wr wr.drew):=(Below.refl _ _).drew;obtain ⟨r,a6⟩:∃ r,r=wr.drew:=⟨_,rfl⟩;rw [<-a6] at F O E hHeld ⊢;clear a6 c0 au;have s:=uB r (.cells #[.int .i64 (p:Int),.bool true] 272);have a7:=xD.look MX (gU r) E.o HQ.o;have a8:=xD.look MX (gU _) (E.o.below s) HQ.o;rw [J.o] at a7 a8;have G:=uA (O.o.below s);have H:=uA (E.o.below s);have av:Hdd (∀ j u,(nP (p,true))[j]?=some u->(r.alloc (.cells #[.int .i64 (p:Int),.bool true] 272)).cell? ((⟨r.heap.size,0,none⟩:Addr).add j)=some u):=Bd (heap_alloc_new r (.cells #[.int .i64 (p:Int),.bool true] 272));have a0:=uA (Aa F.o s);have L:(r.alloc (.cells #[.int .i64 (p:Int),.bool true] 272)).heap.size=r.heap.size+1:=nF;have bi:=F.o.size;have a9:base<=wr.heap.size:=bB;clear s;obtain ⟨i0,hi,aw,ax,ay⟩:=info_parts IE;refine uJ [0,1,2,3,4,5,6,7,8,9,11,12] ?_
   repeat' (first | refine pT hHeld rfl ?_ | refine pS hHeld rfl ?_)
   refine uK ?_;refine wpAnyH_ready (rs:=[10,13]) fL nF ?_;refine AllReadyH.cons rfl (fun t l=>?_) (AllReadyH.cons rfl (fun t l=>?_) AllReadyH.nil)
   case' refine_1=>
    go_simp;refine l.out _ _ hHeld (fun hHeld=>?_);clear l t;try simp only [Ac]
    refine pC 13 rfl (fun t l=>?_);go_simp;refine l.out _ _ (G.o.cell HC.o) (fun hHeld=>?_);clear l t
   case' refine_2=>
    go_simp;refine l.out _ _ (G.o.cell HC.o) (fun hHeld=>?_);clear l t;try simp only [Ac]
    refine pC 10 rfl (fun t l=>?_);go_simp;refine l.out _ _ (G.o.cell HC.o) (fun hHeld=>?_);clear l t
   all_goals
    try simp only [Ac]
    refine pC 14 rfl (fun t l=>?_);refine step_append_lies (r.alloc (.cells #[.int .i64 (p:Int),.bool true] 272)) rfl (.tmp 26) (.tmp 29) 270 rfl base 272 i0 (.agg #[.int .i64 0,.bool false]) 2 16 underlying270 hi aw ax ay rfl eW (.slice sA Z sc) Z (sL.flatMap nP) rfl (by have h:=H.o.row q;rw [J.o] at h;exact h) ⟨r.heap.size,0,none⟩ 1 1 (nP (p,true)) rfl rfl av.o (AY _) eW (by unfold maxLen;omega) bB (by rw [L];omega) _ rfl ?_;intro g R w7 A I M az;obtain ⟨Dm,m1,m2,m3⟩:=xD.mid (w6:=(r.alloc (.cells #[.int .i64 (p:Int),.bool true] 272))) (q:=q) H.o (Below.refl _ _) (by rw [J.o];exact I);have c2:=uA (G.o.kt (KT.of_grown I (by have h:=H.o.row q;rw [J.o] at h;exact h)) eW);refine l.out _ _ (c2.o.cell HC.o) (fun hHeld=>?_);clear l t;try simp only [Ac]
    refine pC 15 rfl (fun t l=>?_);refine aX rfl _ _ _ 256 rfl 3 270 zS MX qE m K1.length Dm rfl m1 ar (.int .i64 q) (.slice (some ⟨g,0,none⟩) (Z+1) R) (.int .i64 q) rfl rfl (wY HQ.o) (.held (.slice (some ⟨g,0,none⟩) (Z+1) R)) [] rfl ?_;intro w8 B aa;obtain ⟨S2,r1,r2,r3,r4,r5⟩:=dY.more (p:=p) (b:=true) (q:=q) (g:=g) (c:=R) H.o (Below.refl _ _) (by rw [J.o];exact I) (by rw [J.o];exact A) (by rw [J.o];exact M) HQ.o m1 m2 m3 (by rw [J.o];exact B) aa a2 (by rw [L];omega);have R1:=uA r1;have R2:=uA r2;have ab:=uA (Y.o.tr ((KT.of_b a0.o).tr r3));have ac:=uA (ao.o.trans ((a0.o.mono a9).trans r4));have c3:=uA (wC.kept (ap.o.below a0.o) fun o ho hc=>r5 b o bn ho hc);have c4:=uA (G.o.kt r3 eW);refine l.out _ _ (c4.o.cell HC.o) (fun hHeld=>?_);clear l t A I M az m1 m2 m3 B aa r1 r2 r3 r4 r5;refine wpAnyH_done fL ?_ _;go_wp2;go_roundw
    case rel=>
     refine ⟨j+1,S2,K1++[q],by go_num,bB,R1,uA fun y=>?_,uA fun y=>?_,uA (by have:=a5.o;simp;omega),ab,ac,c3⟩
     ·rw [R2.o y,ae.o y,bf.o];by_cases e:y=q
      ·subst e;rw [if_neg bg.o,if_pos rfl,if_pos nF];simp
      ·rw [if_neg e,B5];congr 1;by_cases e2:y∈V.take j
       ·rw [if_pos e2,if_pos (Aq.2 (.inl e2))]
       ·rw [if_neg e2,if_neg (fun h=>(Aq.1 h).elim e2 (fun h=>e (An.1 h)))]
     ·rw [bf.o,Aq,Aq,an.o y];exact ⟨fun h=>h.elim (fun h=>h.imp id .inl) (fun h=>.inr (.inr h)),fun h=>h.elim (fun h=>.inl (.inl h)) fun h=>h.elim (fun h=>.inl (.inr h)) .inr⟩
    case measure=>simp [intOf];omega
  ·have bd:¬(j:Int) < (n:Int):=bB;obtain rfl:n=j:=by omega
   have c5:Hdd (V.take n=V):=Au (Cw HN.o);have ag:=uA (bt.o.kt Y.o eW);have e0:=ag.o.q 0 rfl;have e1:=ag.o.q 1 rfl;have e2:=ag.o.q 2 rfl;have b0:=uA ((bb.o.mono bp).trans ao.o);have b1:=uA ((KT.of_b bb.o).tr Y.o);rw [c5.o] at ae an;have b2:Hdd (∀ q,(S1 q).L=(S q).L++if q∈U then [(p,true)] else []):=fun q=>by
    rw [ae.o q];by_cases e:q∈V
    ·rw [if_pos e,if_pos ((ad.o q).1 e)]
    ·rw [if_neg e,if_neg fun h=>e ((ad.o q).2 h)]
   have bj:Hdd (∀ q,q∈K1↔q∈K\/q∈U):=(fun q=>by rw [an.o q,ad.o q]);by_cases a1:D=none\/∃ z,D=some z/\z∈U
   ·have bk:Hdd (dY wr base m S1 K1/\(∀ q,(S1 q).L=(S q).L++DM p U D q)/\(∀ q,q∈K1↔q∈K\/q∈U\/D=some q)/\K1.length<=K.length+U.length+1):=⟨X.o,fun q=>by
     rw [b2.o q];congr 1;unfold DM;by_cases e:q∈U
     ·rw [if_pos e,if_pos e]
     ·rw [if_neg e,if_neg e,if_neg];rintro h;rcases a1 with C | ⟨z,C,h2⟩
      ·rw [C] at h;cases h
      ·rw [C] at h;injection h with h;exact e (h ▸ h2),fun q=>by
     rw [bj.o q];refine ⟨fun h=>h.imp id .inl,fun h=>h.imp id fun h=>h.elim id fun h=>?_⟩;rcases a1 with C | ⟨z,C,h2⟩
     ·rw [C] at h;cases h
     ·rw [C] at h;injection h with h;exact h ▸ h2,by have:=a5.o;omega⟩
    rcases a1 with C | ⟨z,C,h2⟩
    ·obtain rfl:f=false:=by rw [<-a3.o.2,C];rfl
     clear C;go_wp2;go_end0
     exact ⟨rfl,⟨S1,K1,bk.o⟩,b1.o,b0.o⟩
    ·obtain rfl:f=true:=by rw [<-a3.o.2,C];rfl
     obtain rfl:z=d:=by rw [<-a3.o.1,C];rfl
     have a7:=ap.o.look uC4 (b7.o z C);rw [decide_eq_true h2] at a7;clear C h2;go_wp2;go_end0
     exact ⟨rfl,⟨S1,K1,bk.o⟩,b1.o,b0.o⟩
   ·obtain ⟨q,W⟩:∃ q,D=some q:=by
     cases D with
     | none=>exact absurd (.inl rfl) a1
     | some z=>exact ⟨z,rfl⟩
    have ah:q∉U:=fun h=>a1 (.inr ⟨q,W,h⟩)
    obtain rfl:f=true:=by rw [<-a3.o.2,W];rfl
    obtain rfl:q=d:=by rw [<-a3.o.1,W];rfl
    have HQ:=uA (b7.o q W);have ai:=ap.o.look uC4 HQ.o;rw [decide_eq_false ah] at ai;have af:=uA (bc.o.kt Y.o eW);have O:=uA (af.o.below ((Below.refl wr.heap.size wr).drew));have b3:=uA (ag.o.below ((Below.refl wr.heap.size wr).drew));have E:=uA (X.o.below ((Below.refl wr.heap.size wr).drew));obtain ⟨x,hx⟩:∃ x,S1 q=x:=⟨_,rfl⟩;obtain ⟨sA,Z,sc,sL⟩:=x;have J:=uA hx;have aq:sL.length=Z:=by have:=X.o.len q;rw [hx] at this;exact this
    have bz:Z<=1000000001:=by
     have C:=b2.o q;rw [hx,if_neg ah,B5] at C;have h2:sL=(S q).L:=C;have h3:=HS.o.len q;have h4:=b8.o q;have h5:=congrArg List.length h2;omega
    have ar:K1.length < maxLen:=by have:=a5.o;unfold maxLen;omega
    have bl:=uA W;have bm:=uA ah;clear hx aq a1 W ah;go_wp2;refine wp_region_held_drew (S:=(fun w'=>w'.cell? ⟨fb,2,none⟩=some (.map (some m))/\w'.cell? ⟨w.heap.size,1,none⟩=some (.int .i64 q))) fL ⟨O.o.cell HC.o,b3.o.q 1 rfl⟩ (fun hHeld=>?_);have F:Hdd (Ab wr wr.drew):=(Below.refl _ _).drew;obtain ⟨r,a6⟩:∃ r,r=wr.drew:=⟨_,rfl⟩;rw [<-a6] at F O b3 E hHeld ⊢;clear a6 ai e0 e1 e2;have s:=uB r (.cells #[.int .i64 (p:Int),.bool false] 272);have a7:=xD.look MX (gU r) E.o HQ.o;have a8:=xD.look MX (gU _) (E.o.below s) HQ.o;rw [J.o] at a7 a8;have G:=uA (O.o.below s);have b4:=uA (b3.o.below s);have H:=uA (E.o.below s);have av:Hdd (∀ j u,(nP (p,false))[j]?=some u->(r.alloc (.cells #[.int .i64 (p:Int),.bool false] 272)).cell? ((⟨r.heap.size,0,none⟩:Addr).add j)=some u):=Bd (heap_alloc_new r (.cells #[.int .i64 (p:Int),.bool false] 272));have a0:=uA (Aa F.o s);have L:(r.alloc (.cells #[.int .i64 (p:Int),.bool false] 272)).heap.size=r.heap.size+1:=nF;have bi:=F.o.size;have a9:base<=wr.heap.size:=bB;have b5:Hdd ((r.alloc (.cells #[.int .i64 (p:Int),.bool false] 272)).cell? ⟨fb,2,none⟩=some (.map (some m))/\(r.alloc (.cells #[.int .i64 (p:Int),.bool false] 272)).cell? ⟨w.heap.size,1,none⟩=some (.int .i64 q)):=⟨G.o.cell HC.o,b4.o.q 1 rfl⟩;clear s;obtain ⟨i0,hi,aw,ax,ay⟩:=info_parts IE;refine uJ [0,1,2,3,4,5,6,7,8,9,10,11,13,14] ?_
    repeat' (first | refine pT hHeld rfl ?_ | refine pS hHeld rfl ?_)
    refine uK ?_;refine wpAnyH_ready (rs:=[12,15]) fL nF ?_;refine AllReadyH.cons rfl (fun t l=>?_) (AllReadyH.cons rfl (fun t l=>?_) AllReadyH.nil)
    case' refine_1=>
     go_simp;refine l.out _ _ hHeld (fun hHeld=>?_);clear l t;try simp only [Ac]
     refine pC 15 rfl (fun t l=>?_);go_simp;refine l.out _ _ b5.o (fun hHeld=>?_);clear l t
    case' refine_2=>
     go_simp;refine l.out _ _ b5.o (fun hHeld=>?_);clear l t;try simp only [Ac]
     refine pC 12 rfl (fun t l=>?_);go_simp;refine l.out _ _ b5.o (fun hHeld=>?_);clear l t
    all_goals
     try simp only [Ac]
     refine pC 16 rfl (fun t l=>?_);refine step_append_lies (r.alloc (.cells #[.int .i64 (p:Int),.bool false] 272)) rfl (.tmp 54) (.tmp 57) 270 rfl base 272 i0 (.agg #[.int .i64 0,.bool false]) 2 16 underlying270 hi aw ax ay rfl eW (.slice sA Z sc) Z (sL.flatMap nP) rfl (by have h:=H.o.row q;rw [J.o] at h;exact h) ⟨r.heap.size,0,none⟩ 1 1 (nP (p,false)) rfl rfl av.o (AY _) eW (by unfold maxLen;omega) bB (by rw [L];omega) _ rfl ?_;intro g R w7 A I M az;obtain ⟨Dm,m1,m2,m3⟩:=xD.mid (w6:=(r.alloc (.cells #[.int .i64 (p:Int),.bool false] 272))) (q:=q) H.o (Below.refl _ _) (by rw [J.o];exact I);have aj:KT 272 (r.alloc (.cells #[.int .i64 (p:Int),.bool false] 272)) w7:=KT.of_grown I (by have h:=H.o.row q;rw [J.o] at h;exact h);refine l.out _ _ ⟨(G.o.kt aj eW).cell HC.o,(b4.o.kt aj eW).q 1 rfl⟩ (fun hHeld=>?_);clear l t;try simp only [Ac]
     refine pC 17 rfl (fun t l=>?_);refine aX rfl _ _ _ 256 rfl 3 270 zS MX qE m K1.length Dm rfl m1 ar (.int .i64 q) (.slice (some ⟨g,0,none⟩) (Z+1) R) (.int .i64 q) rfl rfl (wY HQ.o) (.held (.slice (some ⟨g,0,none⟩) (Z+1) R)) [] rfl ?_;intro w8 B aa;obtain ⟨S2,r1,r2,r3,r4,r5⟩:=dY.more (p:=p) (b:=false) (q:=q) (g:=g) (c:=R) H.o (Below.refl _ _) (by rw [J.o];exact I) (by rw [J.o];exact A) (by rw [J.o];exact M) HQ.o m1 m2 m3 (by rw [J.o];exact B) aa a2 (by rw [L];omega);have R1:=uA r1;have R2:=uA r2;have ab:=uA (b1.o.tr ((KT.of_b a0.o).tr r3));have ac:=uA (b0.o.trans ((a0.o.mono a9).trans r4));refine l.out _ _ ⟨(G.o.kt r3 eW).cell HC.o,(b4.o.kt r3 eW).q 1 rfl⟩ (fun hHeld=>?_);clear l t A I M az m1 m2 m3 B aa r1 r2 r3 r4 r5;refine wpAnyH_done fL ?_ _;go_wp2;go_end0
     refine ⟨rfl,⟨S2,K1++[q],R1.o,fun y=>?_,fun y=>?_,by have:=a5.o;simp;omega⟩,ab.o,ac.o⟩
     ·rw [R2.o y,b2.o y];unfold DM;rw [bl.o];by_cases e:y=q
      ·subst e;rw [if_neg bm.o,if_neg bm.o,if_pos rfl,if_pos rfl];simp
      ·rw [if_neg e,B5,if_neg (fun h:some q=some y=>e (by injection h with h;exact h.symm))]
     ·rw [Aq,bj.o y,bl.o];exact ⟨fun h=>h.elim (fun h=>h.imp id .inl) (fun h=>.inr (.inr (by rw [An.1 h]))),fun h=>h.elim (fun h=>.inl (.inl h)) fun h=>h.elim (fun h=>.inl (.inr h)) fun h=>.inr (by injection h with h;simp [h])⟩
theorem FN {l:List BkV} {n:Nat} (h:n<=l.length+1):(stI l n).Pairwise (· < ·):=by
 unfold stI;rw [Ec,C4];intro i j b c a;rw [C0] at b c;rw [F3,F3];have:=vX (l:=l) a bB;omega
theorem uCk {l:List BkV} {p i k:Nat} (h:wA l p=some (i,k)) (s:0 < k):(stI l (l.length+1)).countP (· < (p:Int))=i+1/\(stI l (l.length+1)).contains (p:Int)=false:=by
 obtain ⟨b,f,q,rfl⟩:=vI h;have r:=(Ah.1 f).1;have d:=vW f;unfold ptN at d;have c:∀ j,j < l.length+1->((uD l j:Int) < ((uD l i+k:Nat):Int)↔j < i+1):=fun j a=>by
  constructor
  ·intro n;refine Dw fun t=>?_
   have:=uO l (show i+1<=j by omega);omega
  ·intro n;have:=uO l (show j<=i by omega);omega
 constructor
 ·unfold stI;rw [List.countP_map];have e:List.range (l.length+1)=List.range (i+1)++List.range' (i+1) (l.length - i):=by
   rw [Fq,Fq,show l.length+1=(i+1)+(l.length - i) by omega,<- List.range'_append_1];simp
  rw [e,List.countP_append];have n:(List.range (i+1)).countP ((fun x:Int=>decide (x < ((uD l i+k:Nat):Int))) ∘ fun i=>(uD l i:Int))=i+1:=by
   rw [List.countP_eq_length.2,C0];intro j a;have:=B1.1 a;exact decide_eq_true ((c j bB).2 this)
  have u:(List.range' (i+1) (l.length - i)).countP ((fun x:Int=>decide (x < ((uD l i+k:Nat):Int))) ∘ fun i=>(uD l i:Int))=0:=by
   rw [Ek];intro j a;obtain ⟨m,v,rfl⟩:=List.mem_range'.1 a;have o:=c (i+1+1*m) bB;intro h4;have:=o.1 (of_decide_eq_true h4);omega
  omega
 ·rw [<-Gk,Fk];unfold stI;rw [Bw];rintro ⟨j,a,e⟩;have a:=B1.1 a;have o:=c j a;rcases Cl j i with h4 | h4 | h4
  ·have:=uO l (show j+1<=i from h4);have:=vX (l:=l) (show j < i from h4) bB;omega
  ·subst h4;omega
  ·have:=uO l (show i+1<=j from h4);omega
theorem iY {l:List BkV} {i:Nat} (h:i < l.length+1):(stI l (l.length+1)).countP (· < (uD l i:Int))=i/\(stI l (l.length+1)).contains (uD l i:Int)=true:=
 ⟨iR (FN (Ae _)) (sF l h),by simpa using Aj (sF l h)⟩
theorem sX {l:List BkV} {fb:Nat} {f:Option Addr} {sc:Nat} {p i k:Nat} (w:World) {B:Nat} (u:w.cell? ⟨fb,0,none⟩=some (.slice f (l.length+1) sc)) (d:Rd w B f (l.length+1) (vC (stI l (l.length+1)))) (v:l.length<=900000) (h:wA l p=some (i,k)) :
 Calls prog 164 #[.pointer (some ⟨fb,0,none⟩),.int .i64 (p:Int)] w fun e w'=>e=.returned (.int .i64 (i:Int))/\∃ q,w'=w.drewN q:=by
 have a:=uA (bG (c:=sc) (p:Int) w d (FN (Ae _)) bB);have o:=(Ah.1 (vI h).choose_spec.1).1;rcases Ca k with hk | hk
 ·subst hk;obtain ⟨b,r,_,s⟩:=vI h;obtain rfl:p=uD l i:=s;rw [(iY (l:=l) (i:=i) bB).1,(iY (l:=l) (i:=i) bB).2] at a;clear d h r;generalize l.length=n at *;go_enter func164,ntmps164
  go_wp2_with fail
  refine a.o.mono ?_;rintro e t ⟨rfl,q,rfl⟩;go_wp2;go_ret;exact ⟨rfl,q,rfl⟩
 ·obtain ⟨j,m⟩:=uCk h hk;rw [j,m] at a;have x:IntKind.i64.wrap ((i:Int)+1 - 1)=(i:Int):=by rw [show (i:Int)+1 - 1=i by omega];exact vV _ bB bB
  clear d h j m;generalize l.length=n at *;go_enter func164,ntmps164
  go_wp2_with fail
  refine a.o.mono ?_;rintro e t ⟨rfl,q,rfl⟩;go_wp2;go_ret;exact ⟨rfl,q,rfl⟩
def uIr (s:List (Nat×Bool)) (a k:Nat):Prop:=∀ j z,s[j]?=some z->(z.1 < a↔j < k)
def uIo (s:List (Nat×Bool)) (a n:Nat) (e:Ending):Prop:=∃ (k:Nat) (f:Bool),e=.returned (.tuple #[.int .i64 (k:Int),.bool f])/\k<=n/\uIr s a k
theorem JG (a b:Nat) (u:Bool) (w:World):Calls prog 224 #[.agg #[.int .i64 (a:Int),.bool u],.int .i64 (b:Int)] w fun e w'=>(∃ v,e=.returned (.int .i64 v)/\(v < 0↔a < b))/\Ab w w':=by
 have d:=uA (uB w (.cells #[.int .i64 (a:Int),.bool u] 272));obtain ⟨i,j⟩:=PN (Below.refl (w.alloc (.cells #[.int .i64 (a:Int),.bool u] 272)).heap.size (w.alloc (.cells #[.int .i64 (a:Int),.bool u] 272)));have h:=uA (show aJ (a:Int) (b:Int) < 0↔a < b by unfold aJ;split <;> (try split) <;> omega);go_enter func224,ntmps224
 go_wp2_with fail
 refine (uHt _ _ _).mono ?_;generalize aJ (a:Int) (b:Int)=v at *;rintro e k ⟨rfl,f⟩;have c:=uA (Aa d.o f);clear f;go_wp2;go_ret;exact ⟨⟨v,rfl,h.o⟩,c.o⟩
theorem TR (A:Option Addr) (n c a:Nat) (s:List (Nat×Bool)) (w:World) (M:uM w w.heap.size 2 nP A n s) (B:s.Pairwise fun x y=>x.1 < y.1) (hn:n<=1000000000) (ha:a<=1000000000) (q:∀ z∈s,z.1<=1000000000) :
 Calls prog 223 #[.slice A n c,.int .i64 (a:Int),.func (.func 224) #[] #[]] w fun e w'=>uIo s a n e/\Ab w w':=by
 have HS:=uA M;have N:Hdd (s.length=n):=M.1;have HA:=uA B;have HZ:=uA q;have HB:=uA (Below.refl w.heap.size w);clear M B q;go_enter func223,ntmps223
 go_wp2;go_loopw [9,10] (fun f t wr=>∃ i j:Nat,f=.int .i64 (i:Int)/\t=.int .i64 (j:Int)/\i<=j/\j<=n/\Hdd (∀ k z,s[k]?=some z->k < i->z.1 < a)/\Hdd (∀ k z,s[k]?=some z->j<=k->¬z.1 < a)/\Hdd (Ab w wr)) (fun f t _=>(intOf t).toNat - (intOf f).toNat)
 case atStart=>exact ⟨0,n,rfl,rfl,Am _,Ae _,uA (fun k z _ h=>absurd h bB),uA (fun k z b h=>by have:=(Ah.1 b).1;have:=N.o;omega),HB⟩
 case round=>
  obtain ⟨i,j,rfl,rfl,O,P,H1,H2,r⟩:=hrel;by_cases a1:i < j
  ·have F:(i:Int) < (j:Int):=bB;obtain ⟨m,hm⟩:∃ m,m=(i+j) / 2:=⟨_,rfl⟩;have s1:IntKind.i64.wrap ((i:Int)+(j:Int))=((i+j:Nat):Int):=vV _ bB bB;have he:((i:Int)+(j:Int)) / 2=(m:Int):=bB;have a2:m < j:=bB;have Q:i<=m:=bB;have a3:(m:Int) < (n:Int):=bB;have a4:(0:Int)<=(m:Int):=bB;obtain ⟨z,q⟩:∃ z,s[m]?=some z:=⟨_,Ad (by rw [N.o];omega)⟩;obtain ⟨g,o,R,D,d⟩:=HS.o.at_ q;subst R;have L:=uA q;obtain ⟨C,G⟩:=z;have U:wr.cell? ⟨g,o+m*2,none⟩=some (.int .i64 (C:Int)):=(r.o.cell (p:=⟨g,o+m*2,none⟩) D).trans (by simpa using d 0 _ rfl);have V:wr.cell? ⟨g,o+m*2+1,none⟩=some (.bool G):=(r.o.cell (p:=⟨g,o+m*2+1,none⟩) D).trans (d 1 _ rfl);clear hm q D d s1;go_wp2_with fail
   refine (JG C a G _).mono ?_;rintro e w1 ⟨⟨v,rfl,E⟩,H⟩;have u:=uA (Aa r.o H);clear H U V;by_cases l:C < a
   ·have W:v < 0:=E.2 l;have X:Hdd (∀ k z,s[k]?=some z->k < m+1->z.1 < a):=fun k z b Y=>by
     rcases Bs k m with h1 | h1
     ·obtain ⟨Z,e1⟩:=Ah.1 b;obtain ⟨l2,e2⟩:=Ah.1 L.o;have I:=C4.1 HA.o k m Z l2 h1;rw [e1,e2] at I;have h4:z.1 < C:=I;omega
     ·obtain rfl:k=m:=by omega
      rw [L.o] at b;injection b with b;subst b;exact l
    clear l E;go_wp2;go_roundw
    case rel=>exact ⟨m+1,j,by go_num,rfl,bB,P,X,H2,u⟩
    case measure=>simp [intOf];omega
   ·have W:¬v < 0:=fun h=>l (E.1 h)
    have X:Hdd (∀ k z,s[k]?=some z->m<=k->¬z.1 < a):=fun k z b Y=>by
     rcases Bs m k with h1 | h1
     ·obtain ⟨Z,e1⟩:=Ah.1 b;obtain ⟨l2,e2⟩:=Ah.1 L.o;have I:=C4.1 HA.o m k l2 Z h1;rw [e1,e2] at I;have h4:C < z.1:=I;omega
     ·obtain rfl:k=m:=by omega
      rw [L.o] at b;injection b with b;subst b;exact l
    clear l E;go_wp2;go_roundw
    case rel=>exact ⟨i,m,rfl,by go_num,Q,bB,H1,X,u⟩
    case measure=>simp [intOf];omega
  ·have F:¬(i:Int) < (j:Int):=bB;obtain rfl:i=j:=by omega
   have J:Hdd (uIr s a i):=fun k z b=>⟨fun h=>Dw fun hn=>H2.o k z b bB h,H1.o k z b⟩;clear O;by_cases a0:i < n
   ·have K:(i:Int) < (n:Int):=bB;have a5:(0:Int)<=(i:Int):=bB;obtain ⟨z,q⟩:∃ z,s[i]?=some z:=⟨_,Ad (by rw [N.o];omega)⟩;obtain ⟨g,o,R,D,d⟩:=HS.o.at_ q;subst R;obtain ⟨C,G⟩:=z;have U:wr.cell? ⟨g,o+i*2,none⟩=some (.int .i64 (C:Int)):=(r.o.cell (p:=⟨g,o+i*2,none⟩) D).trans (by simpa using d 0 _ rfl);have V:wr.cell? ⟨g,o+i*2+1,none⟩=some (.bool G):=(r.o.cell (p:=⟨g,o+i*2+1,none⟩) D).trans (d 1 _ rfl);clear q D d;go_wp2_with fail
    refine (JG C a G _).mono ?_;rintro e w1 ⟨⟨v,rfl,E⟩,H⟩;have u:=uA (Aa r.o H);clear H U V E;go_wp2;go_ret2
    exact ⟨⟨i,_,rfl,P,J.o⟩,u.o⟩
   ·have K:¬(i:Int) < (n:Int):=bB;clear a0;go_wp2;go_ret2
    exact ⟨⟨i,_,rfl,P,J.o⟩,r.o⟩
end Go.Proofs.YtnkjbjkoffgocaaGreatDoor
