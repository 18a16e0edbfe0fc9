import Derived.Test.YtnkjbjkoffgocaaGreatDoorQ2
import Derived.Lib.LazyBuf
import Derived.Laws.EntriesVeiled
import Derived.Shelf.Abstract
import Derived.Deep.MidRow
set_option linter.unusedVariables false
set_option linter.unusedSimpArgs false
set_option maxRecDepth 100000
set_option maxHeartbeats 8000000
namespace Go.Proofs.YtnkjbjkoffgocaaGreatDoor
open Tryz Go.RowKit
section
variable {P:Program} (w:World) {α:Type} {f:α->List Value} {k:Nat}
theorem iU (hk:∀ x,(f x).length=k) (W:0 < k) (C:∀ x,∀ u∈f x,u.oneCell'=true) (base:Nat) (t J e:TypeId) (i:TypeInfo) (z:Value) (bytes:Nat) (X:P.underlying t=some (.slice e)) (hi:P.info? e=some i) (Z:i.zero=some z)
 (p:i.size=k) (M:i.bytes=bytes) (N:z.cells.size=k)
 (v:Value) (n:Nat) (xs:List Value) (a:w.ownsRow base e k v n xs)
 (B:Nat) (A:Option Addr) (m c:Nat) (L:List α) (H:uM w B k f A m L)
 (O:n+m<=maxLen) (d:(n+m)*bytes<=140737488355328) (r:base<=w.heap.size) :
 ∃ y w',(Builtin.append_ #[t,t] J #[v,.slice A m c]).run P w=.ok y w'/\w'.ownsRow base e k y (n+m) (xs++L.flatMap f)/\w.grownBy w' v.ownBlock /\
   (y.ownBlock=v.ownBlock\/y.ownBlock=some w.heap.size):=by
 rcases A with _ | ad
 ·have hm:m=0:=by
   rcases Ca m with h | h
   ·exact h
   ·obtain ⟨b,o,h,_⟩:=H.2 h;cases h
  subst hm;have hn:L=[]:=Bu H.1;subst hn;exact ⟨v,w,oN w base t J e i k X hi v n xs a c,by simpa using a,Gb w _,.inl rfl⟩
 ·have l:∀ j u,(L.flatMap f)[j]?=some u->w.cell? (ad.add j)=some u:=by
   intro j u D;have Y:j < (L.flatMap f).length:=by
    rcases Bs j (L.flatMap f).length with h' | h'
    ·exact h'
    ·rw [Bh h'] at D;cases D
   rw [uU hk] at Y;have U:j / k < L.length:=Nat.div_lt_of_lt_mul (by rw [Nat.mul_comm];exact Y);have V:j % k < k:=Nat.mod_lt _ W;have I:L[j / k]?=some L[j / k]:=Ad U;have E:j / k*k+j % k=j:=by rw [Nat.mul_comm];exact Nat.div_add_mod j k
   obtain ⟨b,o,h,_,hc⟩:=H.at_ I;injection h with h;subst h;have F:(⟨b,o,none⟩:Addr).add j=⟨b,o+j,none⟩:=by unfold Addr.add;split <;> simp_all
   rw [F];have:=hc (j % k) u (by rw [<-zG hk I V,E];exact D)
   rwa [Nat.add_assoc,E] at this
  obtain ⟨y,w',G,h2,h3,_,h5⟩:=run_append_own_at (P:=P) w base t J e i z k bytes X hi Z p M N W v n xs a ad m c (L.flatMap f) (by rw [uU hk,H.1]) l (fun u D=>by
   obtain ⟨x,_,I⟩:=Dt.1 D;exact C x u I) O d r
  exact ⟨y,w',G,h2,h3,h5⟩
theorem xG {ops:Array Oper} {d:List Oper} {o:Oper} {a:Act} {Q:Exit->Act->World->Prop} (D:o.guard=none) (s x:Operand) (t:TypeId)
 (H:o.op=.call { callee:=.builtin .append,args:=#[s,x],argTypes:=#[t,t] })
 (hk:∀ x,(f x).length=k) (I:0 < k) (r:∀ x,∀ u∈f x,u.oneCell'=true)
 (base:Nat) (e:TypeId) (i:TypeInfo) (z:Value) (bytes:Nat) (J:P.underlying t=some (.slice e)) (hi:P.info? e=some i) (M:i.zero=some z)
 (j:i.size=k) (E:i.bytes=bytes) (F:z.cells.size=k)
 (v:Value) (n:Nat) (xs:List Value) (N:a.eval s=v) (y:w.ownsRow base e k v n xs)
 (B:Nat) (A:Option Addr) (m c:Nat) (L:List α) (O:a.eval x=.slice A m c) (U:uM w B k f A m L)
 (G:n+m<=maxLen) (b:(n+m)*bytes<=140737488355328) (l:base<=w.heap.size)
 (h:∀ p w',w'.ownsRow base e k p (n+m) (xs++L.flatMap f)->w.grownBy w' v.ownBlock->(p.ownBlock=v.ownBlock\/p.ownBlock=some w.heap.size)->wpList P ops Q d (a.put o.dst p) w'):wpList P ops Q (o :: d) a w:=
 wpList_plain D fun K V=>by
  obtain ⟨p,w',C,W,X,Y⟩:=iU (P:=P) w hk I r base t o.type e i z bytes J hi M j E F v n xs y B A m c L U G b l;unfold Oper.wp execOp;simp only [H,resolve,invoke,builtin,Fd,Sem.run_pure,Ew,Gl,C6,D2,N,O,C];exact V _ _ (h p w' W X Y)
end
section
variable {P:Program} {md:Region.Mode} {ops:Array Oper} {Q:Exit->Act->World->Prop} {S:World->Prop}
theorem uIp {i:Nat} {j:Oper} {d:Option Tmp} {v:Value} {fuel:Nat} {b:Array Bool} {a:Act} {w:World} (hi:ops[i]?=some j) (l:j.dst=d)
 (o:Region.noSelect ops=true) (p:Region.free md ops b i=true) (r:(Region.ready md ops b).contains i=true)
 (t:∀ c a w,Q (.panic c) (a.put d v) w->Q (.panic c) a w) (u:Region.wanted j (yielded ops a.tmps)=true) (x:∀ w,S w->(execOp a.eval j).run P w=.ok (.value v) w) (y:S w)
 (h:wpAnyH P md ops Q S fuel (b.setIfInBounds i true) (a.put d v) w):wpAnyH P md ops Q S (fuel+1) b a w:=by
 subst l;exact wpAnyH_take hi o p r t (Or.inl ⟨u,x⟩) y h
theorem uHw {i:Nat} {j:Oper} {d:Option Tmp} {fuel:Nat} {b:Array Bool} {a:Act} {w:World} (hi:ops[i]?=some j) (l:j.dst=d)
 (o:Region.noSelect ops=true) (p:Region.free md ops b i=true) (r:(Region.ready md ops b).contains i=true)
 (t:∀ c a w,Q (.panic c) (a.put d undef) w->Q (.panic c) a w) (u:Region.wanted j (yielded ops a.tmps)=false) (x:S w)
 (h:wpAnyH P md ops Q S fuel (b.setIfInBounds i true) (a.put d undef) w):wpAnyH P md ops Q S (fuel+1) b a w:=by
 subst l;exact wpAnyH_take hi o p r t (Or.inr ⟨u,rfl⟩) x h
end
theorem nA (w:World) (e:TypeId) (k:Nat):(w.alloc (.cells #[] e)).ownsRow w.heap.size e k (.slice (some ⟨w.heap.size,0,none⟩) 0 0) 0 []:=
 ⟨nF,.inr ⟨w.heap.size,0,#[],rfl,Ae _,heap_alloc_new w _,Ae _,Am _,nF,nF⟩⟩
theorem wU {w:World} {base:Nat} {e:TypeId} {a n:Nat} {v:Value} {xs:List Value} (h:w.ownsRow base e a v n xs):∃ A c,v=.slice A n c:=by
 obtain ⟨j,b⟩:=h;rcases b with ⟨rfl,rfl⟩ | ⟨g,d,i,rfl,_⟩
 ·exact ⟨_,_,rfl⟩
 ·exact ⟨_,_,rfl⟩
theorem nB (x:Int):∀ u∈uX x,u.oneCell'=true:=by intro u a;simp only [uX,Av,Cd,or_false] at a;subst a;rfl
theorem gO (x:Pr):∀ u∈pV x,u.oneCell'=true:=by intro u a;simp only [pV,Av,Cd,or_false] at a;rcases a with rfl | rfl <;> rfl
def PF {α:Type} (w:World) (e:TypeId) (k:Nat) (f:α->List Value) (L:List α) (x:Ending) (w':World):Prop:=
 ∃ s:SlW α,x=.returned s.val/\s.L=L/\w'.ownsRow w.heap.size e k s.val s.n (s.L.flatMap f)/\Ab w w'
theorem qQ:(prog.info? 3).map (fun i=>(i.zero,i.size,i.bytes))=some (some (.int .i64 0),1,8):=by kernel_rfl
theorem lH:(prog.info? 54).map (fun i=>(i.zero,i.size,i.bytes))=some (some (.agg #[.int .i64 0,.int .i64 0]),2,16):=by kernel_rfl
theorem SV (s:SlW Pr) (w:World) (y:SlH w w.heap.size 2 pV (xH) s) (p:s.n<=2 ^ 39) :
 Calls prog 57 #[s.val] w (PF w 54 2 pV s.L):=by
 obtain ⟨D,hi,r,t,u⟩:=info_parts lH;have j:=y.cells;obtain ⟨A,n,c,xs⟩:=s;simp only [] at p j;clear y;have l:xs.length=n:=j.1;show Calls prog 57 #[.slice A n c] w _;rcases A with _ | ad
 ·have h0:n=0:=by
   rcases Ca n with h0 | h0
   ·exact h0
   ·obtain ⟨b,o,h,_⟩:=j.2 h0;cases h
  subst h0;obtain rfl:xs=[]:=Bu l;clear l j;have d:=fun w:World=>run_eql_slice_nil (P:=prog) w 23 54 none 0 c underlying23
  simp only [F4] at d;go_enter func57,ntmps57
  go_wp2;go_ret;exact ⟨⟨none,0,0,[]⟩,rfl,rfl,Bv _ _ _ _,Below.refl _ _⟩
 ·have E:=uA j;have J:=uA l;have z:=uA p;clear j l p;have d:=fun w:World=>run_eql_slice_nil (P:=prog) w 23 54 (some ad) n c underlying23
  simp only [F5] at d;go_enter func57,ntmps57
  go_wp2_with (at_builtin;refine xG _ rfl _ _ 23 rfl uY eW gO w.heap.size 54 D _ 16 underlying23 hi r t u rfl _ 0 [] rfl (nA w 54 2) w.heap.size (some ad) n c xs rfl (E.o.below ((Below.refl w.heap.size w).alloc (Ae _) _)) (by have:=z.o;unfold maxLen;omega) (by have:=z.o;omega) nF ?_;intro F G i x C)
  go_ret;have a:G.ownsRow w.heap.size 54 2 F n (xs.flatMap pV):=by simpa using i
  obtain ⟨H,I,rfl⟩:=wU a;exact ⟨⟨H,n,I,xs⟩,rfl,rfl,a,mM ((Below.refl w.heap.size w).alloc (Ae _) _) (nA w 54 2) nF x⟩
theorem uEe:(prog.info? 52).map (fun i=>(i.zero,i.size,i.bytes))=some (some (.agg #[.int .i64 0,.int .i64 0]),2,16):=by kernel_rfl
theorem CB (s:SlW Pr) (w:World) (y:SlH w w.heap.size 2 pV (xH) s) (p:s.n<=2 ^ 39) :
 Calls prog 95 #[s.val] w (PF w 52 2 pV s.L):=by
 obtain ⟨D,hi,r,t,u⟩:=info_parts uEe;have j:=y.cells;obtain ⟨A,n,c,xs⟩:=s;simp only [] at p j;clear y;have l:xs.length=n:=j.1;show Calls prog 95 #[.slice A n c] w _;rcases A with _ | ad
 ·have h0:n=0:=by
   rcases Ca n with h0 | h0
   ·exact h0
   ·obtain ⟨b,o,h,_⟩:=j.2 h0;cases h
  subst h0;obtain rfl:xs=[]:=Bu l;clear l j;have d:=fun w:World=>run_eql_slice_nil (P:=prog) w 46 52 none 0 c underlying46
  simp only [F4] at d;go_enter func95,ntmps95
  go_wp2;go_ret;exact ⟨⟨none,0,0,[]⟩,rfl,rfl,Bv _ _ _ _,Below.refl _ _⟩
 ·have E:=uA j;have J:=uA l;have z:=uA p;clear j l p;have d:=fun w:World=>run_eql_slice_nil (P:=prog) w 46 52 (some ad) n c underlying46
  simp only [F5] at d;go_enter func95,ntmps95
  go_wp2_with (at_builtin;refine xG _ rfl _ _ 46 rfl uY eW gO w.heap.size 52 D _ 16 underlying46 hi r t u rfl _ 0 [] rfl (nA w 52 2) w.heap.size (some ad) n c xs rfl (E.o.below ((Below.refl w.heap.size w).alloc (Ae _) _)) (by have:=z.o;unfold maxLen;omega) (by have:=z.o;omega) nF ?_;intro F G i x C)
  go_ret;have a:G.ownsRow w.heap.size 52 2 F n (xs.flatMap pV):=by simpa using i
  obtain ⟨H,I,rfl⟩:=wU a;exact ⟨⟨H,n,I,xs⟩,rfl,rfl,a,mM ((Below.refl w.heap.size w).alloc (Ae _) _) (nA w 52 2) nF x⟩
def Bx (w:World) (g:Nat) (cs:List Value) (T:TypeId):Prop:=w.heap[g]?=some (.cells cs.toArray T (0,0))
section
variable {w w':World} {g:Nat} {cs:List Value} {T:TypeId}
theorem Bx.lt (h:Bx w g cs T):g < w.heap.size:=(Ag.1 h).1
theorem Bx.cell (h:Bx w g cs T) {j:Nat} {u:Value} (a:cs[j]?=some u):w.cell? ⟨g,j,none⟩=some u:=by
 rw [cell_of_row w g j cs.toArray T (0,0) h];simpa using a
theorem Bx.q (h:Bx w g cs T) (j:Nat) {u:Value} (a:cs[j]?=some u):w.cell? ⟨g,j,none⟩=some u:=h.cell a
theorem Bx.frozen (h:Bx w g cs T) (j:Nat):w.frozen? ⟨g,j,none⟩=false:=by
 unfold Bx at h;simp [World.frozen?,h]
theorem Bx.below (h:Bx w g cs T) (a:Ab w w'):Bx w' g cs T:=(a.block g h.lt).trans h
theorem Bx.set (h:Bx w g cs T) (j:Nat) (v:Value):Bx (w.setCell ⟨g,j,none⟩ v) g (cs.set j v) T:=by
 have a:=h;unfold Bx at *;rw [setCell_eq_setRow w g j _ _ _ v a,setRow_heap _ _ _ _ _ _ a];simp
theorem Bx.other (h:Bx w g cs T) {a:Addr} (b:a.block≠g) (v:Value):Bx (w.setCell a v) g cs T:=(Below.heap_setCell w a v g b.symm).trans h
theorem Bx.new (w:World) (cs:List Value) (T:TypeId):Bx (w.alloc (.cells cs.toArray T)) w.heap.size cs T:=heap_alloc_new w _
end
structure yJ (lo:Nat) (w w':World):Prop where
 size:w.heap.size<=w'.heap.size
 block:∀ k,lo<=k->k < w.heap.size->w'.heap[k]?=w.heap[k]?
section
variable {lo:Nat} {w w' w'':World}
theorem yJ.refl (lo:Nat) (w:World):yJ lo w w:=⟨Ae _,fun _ _ _=>rfl⟩
theorem yJ.of_below (h:Ab w w'):yJ lo w w':=⟨h.size,fun k _ hk=>h.block k hk⟩
theorem yJ.trans (h:yJ lo w w') (a:yJ lo w' w''):yJ lo w w'':=⟨Ai h.size a.size,fun k hk b=>(a.block k hk (Ap b h.size)).trans (h.block k hk b)⟩
theorem yJ.setCell {a:Addr} (b:a.block < lo) (v:Value):yJ lo w (w.setCell a v):=⟨nF,fun k hk _=>Below.heap_setCell w a v k bB⟩
theorem yJ.setCells {g:Nat} (c:g < lo):∀ (b:List Value) (o:Nat) (w:World),yJ lo w (w.setCells g o b)
 | [],_,_=>yJ.refl _ _
 | v :: b,o,w=>by
   rw [World.setCells];exact (yJ.setCell (a:=⟨g,o,none⟩) c v).trans (yJ.setCells c b (o+1) _)
theorem vU {e:TypeId} {a n:Nat} {v:Value} {xs:List Value} (h:w.ownsRow lo e a v n xs) (hk:yJ lo w w'):w'.ownsRow lo e a v n xs:=by
 obtain ⟨l,b⟩:=h;refine ⟨l,?_⟩;rcases b with b | ⟨g,c,d,o,i,j,r⟩
 ·exact .inl b
 ·exact .inr ⟨g,c,d,o,i,(hk.block g i (Ag.1 j).1).trans j,r⟩
end
theorem oP (g:Nat) (e:TypeId):∀ (c:List Value) (o:Nat) (w:World) (a:Array Value),w.heap[g]?=some (.cells a e (0,0))->o+c.length<=a.size ->
 ∃ b,(w.setCells g o c).heap[g]?=some (.cells b e (0,0))/\b.size=a.size/\∀ j,b[j]?=if o<=j/\j < o+c.length then c[j - o]? else a[j]?
 | [],o,w,a,h,_=>⟨a,h,rfl,fun j=>by rw [if_neg (by simp <;> omega)]⟩
 | v :: c,o,w,a,h,d=>by
   rw [As] at d;have i:(w.setCell ⟨g,o,none⟩ v).heap[g]?=some (.cells (a.setIfInBounds o v) e (0,0)):=(by rw [setCell_eq_setRow w g o a e (0,0) v h,setRow_heap _ _ _ _ _ _ h]);obtain ⟨b,l,p,r⟩:=oP g e c (o+1) _ _ i (by simp;omega);refine ⟨b,by rw [World.setCells];exact l,by simpa using p,fun j=>?_⟩;rw [r j,As];by_cases t:j=o
   ·subst t;rw [if_neg bB,if_pos bB,Fu];simp;omega
   ·by_cases hk:o<=j/\j < o+(c.length+1)
    ·rw [if_pos bB,if_pos hk,show j - o=(j - (o+1))+1 by omega,List.getElem?_cons_succ]
    ·rw [if_neg bB,if_neg hk,Fu,if_neg bB]
theorem QT {α:Type} {f:α->List Value} {k:Nat} (hk:∀ x,(f x).length=k) {w:World} {lo:Nat} {e:TypeId} {g n c:Nat} {M R:List α} {p q:α} (h:w.ownsRow lo e k (.slice (some ⟨g,0,none⟩) n c) n ((M++p :: R).flatMap f)) :
 (w.setCells g (M.length*k) (f q)).ownsRow lo e k (.slice (some ⟨g,0,none⟩) n c) n ((M++q :: R).flatMap f):=by
 obtain ⟨G,A⟩:=h;have H:((M++p :: R).flatMap f).length=(M++p :: R).length*k:=uU hk _;have I:((M++q :: R).flatMap f).length=(M++q :: R).length*k:=uU hk _;have J:(M++p :: R).length=(M++q :: R).length:=by simp
 have i:(M++p :: R).length=M.length+(R.length+1):=by simp
 refine ⟨by rw [I,<- J,<- H,G],?_⟩;rcases A with ⟨A,_⟩ | ⟨g',U,b,d,V,W,o,C,r,D⟩
 ·cases A
 ·injection d with d X E;injection d with d;injection d with d;subst d E;have t:(M++p :: R).length*k=n*k:=by rw [<-H,G]
  have Y:M.length*k+k<=n*k:=by
   rw [<-t,i];have:(M.length+(R.length+1))*k=M.length*k+k+R.length*k:=by rw [E9,E9,Nat.one_mul];omega
   omega
  have Z:n*k<=c*k:=Eg _ o;obtain ⟨a,k1,k2,k3⟩:=oP g e (f q) (M.length*k) w b W (by rw [hk,r];omega);refine .inr ⟨g,c,a,rfl,V,k1,o,C,by rw [k2,r],?_⟩;refine Eb fun j=>?_
  have a1:((M++p :: R).flatMap f)[j]?=(M.flatMap f++(f p++R.flatMap f))[j]?:=by simp
  have a2:((M++q :: R).flatMap f)[j]?=(M.flatMap f++(f q++R.flatMap f))[j]?:=by simp
  have y:(M.flatMap f).length=M.length*k:=uU hk _;rw [a2];have b1:(a.toList.take (n*k))[j]?=if j < n*k then a[j]? else none:=by rw [Dp];simp
  have b2:(b.toList.take (n*k))[j]?=if j < n*k then b[j]? else none:=by rw [Dp];simp
  rw [b1];have F:=congrArg (fun l=>l[j]?) D;rw [b2,a1] at F;rw [k3 j,hk];by_cases N:j < n*k
  ·rw [if_pos N] at F ⊢;by_cases z:M.length*k<=j/\j < M.length*k+k
   ·rw [if_pos z,B4 bB,y,Cr (by rw [hk];omega)]
   ·rw [if_neg z,F];by_cases a0:j < M.length*k
    ·rw [Cr bB,Cr bB]
    ·have O:∀ u,(M.flatMap f++(f u++R.flatMap f))[j]?=(R.flatMap f)[j - M.length*k - k]?:=fun u=>by
      have hu:=hk u;rw [B4 bB,B4 bB,y,hu]
     rw [O,O]
  ·rw [if_neg N,Bh];have:(M.flatMap f++(f q++R.flatMap f)).length=(M++q :: R).length*k:=by rw [<-I];simp
   rw [this,<- J,t];omega
theorem iS {w:World} {lo:Nat} {e:TypeId} {g n c k:Nat} {xs:List Value} (h:w.ownsRow lo e k (.slice (some ⟨g,0,none⟩) n c) n xs) {i:Nat} (hi:i < n):w.there g (i*k) k:=by
 obtain ⟨C,b⟩:=h;rcases b with ⟨b,_⟩ | ⟨D,r,d,a,E,p,l,t,u,x⟩
 ·cases b
 ·injection a with a y o;injection a with a;injection a with a;subst a o;intro j F;have z:i*k+k<=n*k:=by
   have:(i+1)*k<=n*k:=Eg _ hi;rw [E9,Nat.one_mul] at this;exact this
  have A:n*k<=c*k:=Eg _ l;refine ⟨?_,by simp [World.frozen?,p]⟩;rw [cell_of_row w g (i*k+j) d e (0,0) p,Dy bB];rfl
theorem bK {w:World} {lo:Nat} {e:TypeId} {n c k:Nat} {A:Option Addr} {xs:List Value} (h:w.ownsRow lo e k (.slice A n c) n xs) (b:0 < n):∃ g,A=some ⟨g,0,none⟩/\lo<=g/\g < w.heap.size:=by
 obtain ⟨g,d,a,i,j⟩:=h.form b;injection a with a;exact ⟨g,a,i,j⟩
section
variable {α β:Type} {w w':World} {lo lo':Nat} {e:TypeId} {k:Nat} {f:α->List Value} {R R' Q:α->Prop} {s s':SlW α} {v:α->β}
theorem vH (hk:∀ x,(f x).length=k) (a:0 < k) {L:List α} {n:Nat} {u:Value} (h:w.ownsRow lo e k u n (L.flatMap f)):L.length=n:=by
 have:=h.1;rw [uU hk] at this;exact Fz a this
theorem yX (hk:∀ x,(f x).length=k) (i:0 < k) (h:w.ownsRow lo e k s.val s.n (s.L.flatMap f)) (j:∀ x∈s.L,Q x):SlH w w.heap.size k f Q s:=by
 obtain ⟨A,n,c,L⟩:=s;have d:n<=c/\c<=maxLen:=by
  rcases h.2 with ⟨a,rfl⟩ | ⟨g,l,o,b,_,_,p,r,_⟩
  ·injection a with _ _ a;subst a;exact ⟨Ae _,Am _⟩
  ·injection b with _ _ b;subst b;exact ⟨p,r⟩
 exact ⟨d.1,d.2,uM.of_own hk i h,j⟩
end
abbrev lU (w:World) (lo:Nat) (x:PlW):Prop:=w.ownsRow lo 52 2 (.slice x.A x.n x.c) x.n (x.ps.flatMap pV)
section
variable {w w':World} {lo lo':Nat}
end
section
variable {w w':World} {lo B:Nat}
theorem uL.of_own {x b:PlW} (h:uL w B x) (e:b.v=x.v) (o:lU w' lo b):uL w' w'.heap.size b:=by
 obtain ⟨l,A,n,c,r⟩:=x;obtain ⟨t,i,j,p,a⟩:=b;simp only [PlW.v,PlV.mk.injEq] at e;obtain ⟨rfl,rfl⟩:=e;have d:SlH w' w'.heap.size 2 pV xH ⟨i,j,p,a⟩:=yX (s:=⟨i,j,p,a⟩) uY eW o h.prs.int;exact ⟨d.nc,d.cm,h.l,⟨d.cells,d.all⟩⟩
end
section
open Go.Shelf
theorem RowKit.below_setCells9 {B g:Nat} {b:World} (c:B<=g):∀ (a:List Value) (o:Nat) {w:World},Below B b w->Below B b (w.setCells g o a)
 | [],_,_,h=>h
 | v :: a,o,w,h=>by
   rw [World.setCells];exact RowKit.below_setCells9 c a (o+1) (h.setCell (p:=⟨g,o,none⟩) c v)
theorem yJ.setRow9 {g lo:Nat} (b:g < lo) (cs:Array Value) (w:World):yJ lo w (w.setRow g cs):=
 ⟨nF,fun k hk a=>by
  unfold World.setRow;rw [Dy (by simpa using a),Array.getElem_modify,if_neg bB,Dy a]⟩
theorem xS {B g:Nat} {b w:World} (a:Below B b w) (c:B<=g) (cs:Array Value):Below B b (w.setRow g cs):=
 ⟨a.os,a.tape,a.output,by simpa using a.size,fun k hk=>by
  refine Eq.trans ?_ (a.block k hk);unfold World.setRow;rcases Bs k w.heap.size with hl | hl
  ·rw [Dy (by simpa using hl),Array.getElem_modify,if_neg bB,Dy hl]
  ·rw [Dd (by simpa using hl),Dd hl]⟩
theorem uL.sl {w:World} {B:Nat} {x:PlW} (h:uL w B x):SlH w B 2 pV xH ⟨x.A,x.n,x.c,x.ps⟩:=⟨h.nc,h.cm,h.prs.cells,h.prs.int⟩
end
def KT (e:TypeId) (w w':World):Prop:=∀ (k:Nat) (cs:Array Value) (e':TypeId) (a:Nat×Nat),w.heap[k]?=some (.cells cs e' a)->e'≠e->w'.heap[k]?=w.heap[k]?
section
variable {e e':TypeId} {w w':World} {lo k n:Nat} {v:Value} {xs:List Value}
theorem KT.of_grown (b:w.grownBy w' v.ownBlock) (c:w.ownsRow lo e k v n xs):KT e w w':=fun j cs p r a d=>by
 refine b.block j (Ag.1 a).1 fun h=>?_
 rcases c.2 with ⟨rfl,_⟩ | ⟨g,i,l,rfl,_,o,_⟩
 ·cases h
 ·injection h with h;subst h;rw [o] at a;injection a with a;injection a with _ a _;exact d a.symm
theorem KT.of_set {g:Nat} {cs:List Value} {T:TypeId} (h:Bx w g cs T) (j:Nat) (u:Value):KT T w (w.setCell ⟨g,j,none⟩ u):=fun i a d l hi b=>by
 refine Below.heap_setCell w _ u i fun c=>?_
 subst c;unfold Bx at h;rw [h] at hi;injection hi with hi;injection hi with _ hi _;exact b hi.symm
theorem xV (h:w.ownsRow lo e' k v n xs) (hk:KT e w w') (i:e'≠e):w'.ownsRow lo e' k v n xs:=by
 obtain ⟨j,a⟩:=h;refine ⟨j,?_⟩;rcases a with a | ⟨g,b,c,l,o,d,r⟩
 ·exact .inl a
 ·exact .inr ⟨g,b,c,l,o,(hk _ _ _ _ d i).trans d,r⟩
theorem Bx.kt {g:Nat} {cs:List Value} {T:TypeId} (h:Bx w g cs T) (hk:KT e w w') (a:T≠e):Bx w' g cs T:=(hk _ _ _ _ h a).trans h
structure uGh (e:TypeId):Prop where
 p:52≠e
 o:183≠e
 s:69≠e
 i:3≠e
variable (hk:KT e w w') (hi:uGh e)
include hk hi
end
section
variable {lo hi:Nat} {w w' w'':World}
end
theorem KT.tr {e:TypeId} {w w' w'':World} (h:KT e w w') (k:KT e w' w''):KT e w w'':=fun j cs e' a b c=>(k j cs e' a ((h j cs e' a b c).trans b) c).trans (h j cs e' a b c)
theorem KT.of_b {e:TypeId} {w w':World} (h:Ab w w'):KT e w w':=fun k cs e' a hk _=>h.block k (Ag.1 hk).1
theorem zQ {w:World} {base k n:Nat} {e:TypeId} {v:Value} {xs:List Value} (h:w.ownsRow base e k v n xs) {b:Nat} (a:v.ownBlock=some b):∃ cs,w.heap[b]?=some (.cells cs e (0,0)):=by
 rcases h.2 with ⟨rfl,_⟩ | ⟨g,d,c,rfl,_,i,_⟩
 ·cases a
 ·injection a with a;subst a;exact ⟨c,i⟩
theorem yZ {S:Nat->Prop} {w w':World} {base k n:Nat} {e:TypeId} {v:Value} {xs:List Value} (h:w.ownsRow base e k v n xs) (l:Turn S w w') (o:∀ b,v.ownBlock=some b->¬S b):w'.ownsRow base e k v n xs:=by
 obtain ⟨p,a⟩:=h;refine ⟨p,?_⟩;rcases a with a | ⟨g,c,d,i,t,j,r⟩
 ·exact .inl a
 ·exact .inr ⟨g,c,d,i,t,(l.block g (Ag.1 j).1 (o g (by rw [i];rfl))).trans j,r⟩
section
variable {α:Type}
structure wJ (w:World) (base g:Nat) (T e:TypeId) (k:Nat) (f:α->List Value) (L:List (SlW α)):Prop where
 blk:w.heap[g]?=some (.cells (L.map SlW.val).toArray T (0,0))
 own:∀ (j:Nat) s,L[j]?=some s->w.ownsRow base e k s.val s.n (s.L.flatMap f)
 dis:∀ (i j:Nat) s t,i≠j->L[i]?=some s->L[j]?=some t->∀ b,s.val.ownBlock=some b->t.val.ownBlock≠some b
variable {w w':World} {base g:Nat} {T e:TypeId} {k:Nat} {f:α->List Value} {L:List (SlW α)}
theorem wJ.lt (h:wJ w base g T e k f L):g < w.heap.size:=(Ag.1 h.blk).1
theorem wJ.below (h:wJ w base g T e k f L) (a:Ab w w'):wJ w' base g T e k f L:=⟨(a.block g h.lt).trans h.blk,fun j s b=>uC (h.own j s b) a,h.dis⟩
theorem wJ.kt {t:TypeId} (h:wJ w base g T e k f L) (hk:KT t w w') (a:T≠t) (b:e≠t):wJ w' base g T e k f L:=⟨(hk _ _ _ _ h.blk a).trans h.blk,fun j s c=>xV (h.own j s c) hk b,h.dis⟩
theorem wJ.cell (h:wJ w base g T e k f L) {j:Nat} {s:SlW α} (a:L[j]?=some s):w.cell? ⟨g,j,none⟩=some s.val:=(cell_of_row w g j _ _ (0,0) h.blk).trans (by simp [a])
theorem wJ.q (h:wJ w base g T e k f L) (j:Nat) {s:SlW α} (a:L[j]?=some s):w.cell? ⟨g,j,none⟩=some s.val:=h.cell a
theorem wJ.stored {w6 O p:World} {j:Nat} {s s':SlW α} (h:wJ w6 base g T e k f L) (z:L[j]?=some s) (A:Ab w6 O) (U:O.grownBy p s.val.ownBlock) (C:p.ownsRow base e k s'.val s'.n (s'.L.flatMap f))
 (D:s'.val.ownBlock=s.val.ownBlock\/s'.val.ownBlock=some O.heap.size) (E:g < base) (hs:base<=w6.heap.size) :
 p.cell? ⟨g,j,none⟩=some s.val/\p.frozen? ⟨g,j,none⟩=false/\wJ (p.setCell ⟨g,j,none⟩ s'.val) base g T e k f (L.set j s')/\(∀ J,Turn (fun b=>b=g) J w6->J.heap.size<=base->Turn (fun b=>b=g) J (p.setCell ⟨g,j,none⟩ s'.val)):=by
 have t:=(Ah.1 z).1;have F:=uC (h.own j _ z) A;have G:∀ b,s.val.ownBlock=some b->base<=b:=fun b hk=>(F.lt b hk).1
 have a1:=A.size;have V:=h.lt;have u:p.heap[g]?=some (.cells (L.map SlW.val).toArray T (0,0)):=
  (U.block g bB (fun e=>by have:=G _ e.symm;omega)).trans ((A.block _ V).trans h.blk)
 refine ⟨(cell_of_row p g j _ _ (0,0) u).trans (by simp [z]),by simp [World.frozen?,u],⟨?_,fun i x c=>?_,fun i m x y r c l q o=>?_⟩,fun J ht h0=>?_⟩
 ·have H:(p.setCell ⟨g,j,none⟩ s'.val).heap[g]?=some (.cells ((L.map SlW.val).toArray.setIfInBounds j s'.val) T (0,0)):=by simp [World.setCell,Di,u]
  rw [H];congr 1;congr 1;apply F7;simp [Fx]
 ·rw [Cp] at c;by_cases e:j=i
  ·subst e;rw [if_pos rfl,if_pos t] at c;injection c with c;subst c;exact ownsRow_setCell_below C (a:=⟨g,j,none⟩) E _
  ·rw [if_neg e] at c;have Y:=uC (h.own i x c) A;have h2:=Y.kept U (by
    rcases Y.2 with ⟨W,_⟩ | ⟨Z,a0,a2,W,_⟩
    ·left;rw [W];rfl
    ·right;intro e';have I:x.val.ownBlock=some Z:=by rw [W];rfl
     exact h.dis i j x _ (fun M=>e M.symm) c z Z I (by rw [<-e',<- I]))
   exact ownsRow_setCell_below h2 (a:=⟨g,j,none⟩) E _
 ·rw [Cp] at c l;have d:∀ (i:Nat) (x:SlW α),L[i]?=some x->∀ q,x.val.ownBlock=some q->q < w6.heap.size:=fun i x c q o=>((h.own i x c).lt q o).2
  by_cases I:j=i
  ·subst I;rw [if_pos rfl,if_pos t] at c;injection c with c;subst c;rw [if_neg r] at l;rcases D with e | e
   ·rw [e] at o;exact h.dis j m _ y r z l q o
   ·intro N;have h4:=d m y l q N;rw [e] at o;injection o with o;omega
  ·rw [if_neg I] at c;by_cases M:j=m
   ·subst M;rw [if_pos rfl,if_pos t] at l;injection l with l;subst l;rcases D with e | e
    ·rw [e];exact h.dis i j x _ r c z q o
    ·rw [e];intro N;injection N with N;have:=d i x c q o;omega
   ·rw [if_neg M] at l;exact h.dis i m x y r c l q o
 ·exact (((ht.trans (Turn.of_below A)).grown U fun b X=>.inr (Ai h0 (G b X))).setCell (a:=⟨g,j,none⟩) (.inl rfl) _)
end
def qE (v:Value):Option (DataW Value×List MemPlace):=some (.held v,[])
def eQ {α:Type} (S:Int->SlW α) (q:Int) (s:SlW α):Int->SlW α:=fun y=>if y=q then s else S y
structure xD {α:Type} (w:World) (base m:Nat) (e:TypeId) (k:Nat) (f:α->List Value) (S:Int->SlW α) (K:List Int):Prop where
 own:∃ Dm,w.ownsMap prog 3 qE m K.length Dm/\(∀ q,uH q->(Maps.has Dm (.int .i64 q)=true↔q∈K))/\∀ q,Maps.has Dm (.int .i64 q)=true->∀ z,Dm.atKey (.int .i64 q) z=.held (S q).val
 rng:∀ q∈K,uH q
 o:∀ q,q∉K->S q=⟨none,0,0,[]⟩
 row:∀ q,w.ownsRow base e k (S q).val (S q).n ((S q).L.flatMap f)
 dis:∀ p q,p≠q->∀ b,(S p).val.ownBlock=some b->(S q).val.ownBlock≠some b
section
variable {α:Type} {w w':World} {base m:Nat} {e:TypeId} {k:Nat} {f:α->List Value} {S:Int->SlW α} {K:List Int} {q:Int}
theorem xD.lt (h:xD w base m e k f S K):m < w.heap.size:=by
 obtain ⟨_,a,_⟩:=h.own;exact a.lt
theorem xD.turn {X:Nat->Prop} (h:xD w base m e k f S K) (a:Turn X w w') (d:¬X m) (i:∀ b,X b->b < base):xD w' base m e k f S K:=by
 obtain ⟨j,c,l⟩:=h.own;exact ⟨⟨j,uN c (a.block m c.lt d),l⟩,h.rng,h.o,fun q=>yZ (h.row q) a fun b o p=>by have:=i b p;have:=((h.row q).lt b o).1;omega,h.dis⟩
theorem xD.below (h:xD w base m e k f S K) (a:Ab w w'):xD w' base m e k f S K:=h.turn (X:=fun _=>False) (Turn.of_below a) id fun _ h=>h.elim
theorem xD.kt {t:TypeId} {X:Nat->Prop} (h:xD w base m e k f S K) (hk:KT t w w') (b:e≠t) (c:Turn X w w') (d:¬X m):xD w' base m e k f S K:=by
 obtain ⟨i,a,j⟩:=h.own;exact ⟨⟨i,uN a (c.block m a.lt d),j⟩,h.rng,h.o,fun q=>xV (h.row q) hk b,h.dis⟩
theorem xD.new (w:World) (base:Nat) (e:TypeId) (k:Nat) (f:α->List Value):xD (w.alloc (.map #[] 0)) base w.heap.size e k f (fun _=>⟨none,0,0,[]⟩) []:=
 ⟨⟨_,Cu _ _ _ _,(fun q _=>⟨fun h=>by simp [Maps.has] at h,fun h=>by cases h⟩),fun q h=>by simp [Maps.has] at h⟩,(fun q h=>by cases h),fun q _=>rfl,fun q=>Bv _ _ _ _,fun p q _ b h=>by cases h⟩
theorem xD.look {T E:TypeId} (d:prog.underlying T=some (.map 3 E)) (i:(zeroValue E).run prog w=.ok (.slice none 0 0) w) (h:xD w base m e k f S K) (c:uH q):(Instr.lookup T (.map (some m)) (.int .i64 q) false).run prog w=.ok (S q).val w:=by
 obtain ⟨j,l,o,p⟩:=h.own;obtain ⟨v,r,b,a⟩:=l.lookup zS d i (zd:=.held (.slice none 0 0)) (zp:=[]) rfl (wY c);rw [b];unfold qE at a;injection a with a;injection a with a _;cases hh:Maps.has j (.int .i64 q)
 ·rw [Cm hh] at a;injection a with a;rw [a,h.o q fun hk=>by rw [(o q c).2 hk] at hh;cases hh]
 ·rw [p q hh] at a;injection a with a;rw [a]
theorem xD.mid {w6 d i:World} (h:xD w6 base m e k f S K) (l:Ab w6 d) (o:d.grownBy i (S q).val.ownBlock):∃ a,i.ownsMap prog 3 qE m K.length a/\(∀ q,uH q->(Maps.has a (.int .i64 q)=true↔q∈K))/\∀ q,Maps.has a (.int .i64 q)=true->∀ z,a.atKey (.int .i64 q) z=.held (S q).val:=by
 obtain ⟨a,b,p⟩:=h.own;refine ⟨a,(uN b (l.block m b.lt)).kept o fun r=>?_,p⟩;obtain ⟨cs,j⟩:=zQ (h.row q) r.symm;obtain ⟨u,c,t,_⟩:=b;rw [t] at j;cases j
theorem xD.stored {w6 O y u:World} {s':SlW α} {C:DataW Value} (h:xD w6 base m e k f S K) (i:Ab w6 O) (A:O.grownBy y (S q).val.ownBlock) (D:y.ownsRow base e k s'.val s'.n (s'.L.flatMap f))
 (E:s'.val.ownBlock=(S q).val.ownBlock\/s'.val.ownBlock=some O.heap.size) (hq:uH q) (h1:y.ownsMap prog 3 qE m K.length C) (h2:∀ q,uH q->(Maps.has C (.int .i64 q)=true↔q∈K)) (h3:∀ q,Maps.has C (.int .i64 q)=true->∀ z,C.atKey (.int .i64 q) z=.held (S q).val)
 (h8:u.ownsMap prog 3 qE m (K.length+1) (C.put (.int .i64 q) (.held s'.val))) (F:y.grownBy u (some m)):xD u base m e k f (eQ S q s') (K++[q])/\KT e w6 u/\(∀ lo,lo<=base->lo<=m->lo<=w6.heap.size->Below lo w6 u):=by
 have I:=h1.isMap;have hl:(K++[q]).length=K.length+1:=by simp
 have l:=uC (h.row q) i;have G:∀ (b:Nat) (cs:Array Value) (t:TypeId) (U:Nat×Nat),y.heap[b]?=some (.cells cs t U)->u.heap[b]?=some (.cells cs t U):=fun b cs t U J=>by
  refine (F.block b (Ag.1 J).1 fun a=>?_).trans J;injection a with a;subst a;obtain ⟨es,V,I,_⟩:=h1;rw [I] at J;cases J
 have W:∀ b,(S q).val.ownBlock=some b->base<=b:=fun b hk=>(l.lt b hk).1
 have o:∀ {n:Nat} {v:Value} {xs:List Value},y.ownsRow base e k v n xs->u.ownsRow base e k v n xs:=fun c=>by
  obtain ⟨M,X⟩:=c;refine ⟨M,?_⟩;rcases X with X | ⟨g,Y,H,hv,i,A,r⟩
  ·exact .inl X
  ·exact .inr ⟨g,Y,H,hv,i,G _ _ _ _ A,r⟩
 refine ⟨⟨⟨_,hl ▸ h8,fun p hp=>?_,fun p hh z=>?_⟩,fun p hp=>?_,fun p hp=>?_,fun p=>?_,fun p r x b hp c=>?_⟩,?_,fun lo l1 l2 l3=>?_⟩
 ·by_cases a:p=q
  ·subst a;rw [Da I (show Go.WideAt.IsKeyLit (.int .i64 p) from trivial)];simp
  ·rw [B7 (zI a),h2 p hp];simp [a]
 ·unfold eQ;by_cases a:p=q
  ·subst a;rw [if_pos rfl];exact Cn I (show Go.WideAt.IsKeyLit (.int .i64 p) from trivial) _ z
  ·rw [B7 (zI a)] at hh;rw [if_neg a];exact (Ci (zI a) _ z).trans (h3 p hh z)
 ·rcases Aq.1 hp with hp | hp
  ·exact h.rng p hp
  ·rw [An.1 hp];exact hq
 ·unfold eQ;rw [if_neg fun a=>hp (Aq.2 (.inr (by simp [a])))];exact h.o p fun hk=>hp (Aq.2 (.inl hk))
 ·unfold eQ;by_cases a:p=q
  ·rw [if_pos a];exact o D
  ·rw [if_neg a];have M:=uC (h.row p) i;refine o (M.kept A ?_);rcases M.2 with ⟨Z,_⟩ | ⟨g',a1,H,Z,_⟩
   ·left;rw [Z];rfl
   ·right;intro e';have e2:(S p).val.ownBlock=some g':=by rw [Z];rfl
    exact h.dis p q a g' e2 (by rw [<-e',<- e2])
 ·unfold eQ at hp c;have d:∀ (p:Int) (b:Nat),(S p).val.ownBlock=some b->b < w6.heap.size:=fun p b i=>((h.row p).lt b i).2
  have a2:=i.size;by_cases a:p=q
  ·rw [if_pos a] at hp;rw [if_neg fun e2=>x (a.trans e2.symm)] at c;rcases E with e2 | e2
   ·rw [e2] at hp;exact h.dis q r (fun N=>x (a.trans N)) b hp c
   ·rw [e2] at hp;injection hp with hp;have:=d r b c;omega
  ·rw [if_neg a] at hp;by_cases N:r=q
   ·rw [if_pos N] at c;rcases E with e2 | e2
    ·rw [e2] at c;exact h.dis p q a b hp c
    ·rw [e2] at c;injection c with c;have:=d p b hp;omega
   ·rw [if_neg N] at c;exact h.dis p r x b hp c
 ·intro j cs e' fz hj he;have j1:=(i.block j (Ag.1 hj).1).trans hj;have j2:=(KT.of_grown A l j cs e' fz j1 he).trans j1;exact (G _ _ _ _ j2).trans hj.symm
 ·have s1:=i.size;have s2:=A.size;exact (((i.mono l3).grown A bB fun b a0=>Ai l1 (W b a0))).grown F bB fun b a=>by injection a with a;omega
end
theorem aX {H:Type} {P:Program} {ops:Array Oper} {o:Oper} {a:Act} {w:World} {K:Act->World->Prop} {Q:Exit->Act->World->Prop} {E:Prop} (u:o.guard=none) (m x v:Operand) (t:TypeId) (p:o.op=Op.mapUpdate t m x v)
 (k e:TypeId) (y:Go.Maps.Keyed P k) (z:P.underlying t=some (.map k e)) (R:Value->Option (DataW H×List MemPlace)) (b n:Nat) (D:DataW H)
 (A:a.eval m=.map (some b)) (c:w.ownsMap P k R b n D) (C:n < maxLen) (h val:Value) (r:Lit) (F:a.eval x=h) (G:a.eval v=val) (i:keyOf P k h=some r)
 (d:DataW H) (ps:List MemPlace) (j:R val=some (d,ps))
 (I:∀ w',w'.ownsMap P k R b (n+1) (D.put r d)->w.grownBy w' (some b)->K (a.put o.dst undef) w') :
 if Region.wanted o (yielded ops a.tmps)=true then Oper.wp P o a w K Q else E:=by
 have J:Region.wanted o (yielded ops a.tmps)=true:=by simp [Region.wanted,u]
 rw [if_pos J];obtain ⟨w',l,M,N⟩:=c.update y z C i j;unfold Oper.wp;simp [execOp,p,A,F,G,l,Result.andThen];exact I w' M N
def uG7 (w:World) (N off:Nat) (cs:List Value) (T:TypeId) (i:Int) (w':World):Prop:=∃ g c,Bx w' N (cs.set off (.slice (some ⟨g,0,none⟩) 1 c)) T/\w'.cell? ⟨g,0,none⟩=some (.int .i64 i)/\w.heap.size<=g/\g < w'.heap.size/\Turn (fun q=>q=N) w w'
theorem rG (N off:Nat) (cs:List Value) (T:TypeId) (i:Int) (w:World) (E:Bx w N cs T) (F:cs[off]?=some (.slice none 0 0)) :
 Calls prog 127 #[.pointer (some ⟨N,off,none⟩),.int .i64 i] w fun e w'=>(∃ v,e=.returned v)/\uG7 w N off cs T i w':=by
 obtain ⟨Z,hi,G,H,I⟩:=info_parts qQ;have t:=uB w (.cells #[.int .i64 i] 3);have J:=uA (E.below t);have x0:=E.cell F;have z:=(Ag.1 E).1;have A:=uA z;have c:∀ k u,[Value.int .i64 i][k]?=some u->(w.alloc (.cells #[.int .i64 i] 3)).cell? ((⟨w.heap.size,0,none⟩:Addr).add k)=some u:=Bd (heap_alloc_new w (.cells #[.int .i64 i] 3));have M:=uA c;have p:=Bv (w.alloc (.cells #[.int .i64 i] 3)) w.heap.size 3 1;have O:=uA t;have a0:Hdd (∀ (w':World) (C:List Value),Bx w' N C T->w'.frozen? ⟨N,off,none⟩=false):=fun w' C h=>h.frozen off;have H0:=uA F;clear t E z F c;go_enter func127,ntmps127
 go_wp2_with (at_builtin;refine wpList_append_lies _ rfl _ _ 60 rfl w.heap.size 3 Z _ 1 8 underlying60 hi G H I rfl eW (.slice none 0 0) 0 [] rfl p ⟨w.heap.size,0,none⟩ 1 1 [.int .i64 i] rfl rfl M.o (nB i) eW eW eW nF _ rfl ?_;intro g j x d y r U;have l:Bx x N cs T:=(y.block N (by rw [Ak];have:=A.o;omega) (fun e=>by cases e)).trans J.o;have x5:=l.cell H0.o;have f5:=l.frozen off)
 have V:g=w.heap.size+1:=r.elim (fun e=>by cases e) (fun e=>by rw [e,Ak]);have D:g < x.heap.size:=(d.lt g rfl).2;have c:x.cell? ⟨g,0,none⟩=some (.int .i64 i):=by
  obtain ⟨b,o,W,_,hz⟩:=(uM.of_own (f:=uX) (L:=[i]) vN eW d).at_ (i:=0) rfl;injection W with W;injection W with e1 e2;subst e1 e2;exact hz 0 _ rfl
 have HR:Hdd (Turn (fun q=>q=N) w (x.setCell ⟨N,off,none⟩ (.slice (some ⟨g,0,none⟩) 1 j))):=(show Turn (fun q=>q=N) w x from (Turn.of_below O.o).grown y (fun k e=>by cases e)).setCell (a:=⟨N,off,none⟩) (.inl rfl) _;have HX:=uA (l.set off (.slice (some ⟨g,0,none⟩) 1 j));have X:Hdd ((x.setCell ⟨N,off,none⟩ (.slice (some ⟨g,0,none⟩) 1 j)).cell? ⟨g,0,none⟩=some (.int .i64 i)):=(B3 _ _ _ _ (fun e=>by injection e with e _;have:=A.o;omega)).trans c;have Y:Hdd (w.heap.size<=g/\g < x.heap.size):=⟨bB,D⟩;clear d y r U l c V D p;go_wp2;go_end0
 exact ⟨⟨_,rfl⟩,g,j,HX.o,X.o,Y.o.1,by rw [Db];exact Y.o.2,HR.o⟩
abbrev OY (w:World) (base H:Nat) (s:SlW Int):Prop:=wJ w base H 60 3 1 uX [s]
def CV (w:World) (base H:Nat) (s:SlW Int) (pt:Int) (w':World):Prop:=∃ s':SlW Int,s'.L=s.L++[pt]/\s'.n=s.n+1/\OY w' base H s'/\∀ a,Turn (fun q=>q=H) a w->a.heap.size<=base->Turn (fun q=>q=H) a w'
theorem uAy (base H pg c:Nat) (s:SlW Int) (pt:Int) (w:World) (h:OY w base H s) (hl:∀ z∈s.L,z < pt) (hn:s.n<=1000) (hH:H < base) (hb:base<=w.heap.size) (hp:w.cell? ⟨pg,0,none⟩=some (.int .i64 0)) :
 Calls prog 81 #[.slice (some ⟨H,0,none⟩) 1 1,.slice (some ⟨pg,0,none⟩) 1 c,.int .i64 pt] w fun e w'=>(∃ v,e=.returned v)/\CV w base H s pt w':=by
 obtain ⟨i0,hi,M,N,O⟩:=info_parts qQ;have HG:=uA h;have l:=h.own 0 s rfl;have U:=uA l;have x0:w.cell? ⟨H,0,none⟩=some (.slice s.A s.n s.c):=h.q 0 rfl;have x:s.L.length=s.n:=vH vN eW l;have V:=uA x;have HL:=uA hl;have C:=uB w (.cells #[.int .i64 pt] 3);have a0:=uA C;have D:=uA (uC l C);have W:Hdd (∀ k u,[Value.int .i64 pt][k]?=some u->(w.alloc (.cells #[.int .i64 pt] 3)).cell? ((⟨w.heap.size,0,none⟩:Addr).add k)=some u):=Bd (heap_alloc_new w (.cells #[.int .i64 pt] 3));have a1:=uA hb;have a2:=uA hH;obtain ⟨E,r,F,y⟩:=s;simp only [] at x0 x hn V HL D U;have G:r=0\/∃ k z b o,r=k+1/\E=some ⟨b,o,none⟩/\w.cell? ⟨b,o+k,none⟩=some (.int .i64 z)/\z < pt:=by
  rcases Ca r with h0 | h0
  ·exact .inl h0
  ·obtain ⟨z,hz⟩:∃ z,y[r - 1]?=some z:=⟨_,Ad bB⟩;obtain ⟨b,o,hA,_,hc⟩:=(uM.of_own (f:=uX) vN eW (show w.ownsRow base 3 1 (.slice E r F) r (y.flatMap uX) from l)).at_ (i:=r - 1) hz;exact .inr ⟨r - 1,z,b,o,bB,hA,by simpa using hc 0 _ rfl,hl z (Aj hz)⟩
 have A:=uA fun (g p:Nat) (J:World) (a:J.ownsRow base 3 1 (.slice (some ⟨g,0,none⟩) (r+1) p) (r+1) (y.flatMap uX++[.int .i64 pt])) (t:(w.alloc (.cells #[.int .i64 pt] 3)).grownBy J (Value.slice E r F).ownBlock) (d:(Value.slice E r F).ownBlock=some g\/g=(w.alloc (.cells #[.int .i64 pt] 3)).heap.size)=>
  wJ.stored (s:=⟨E,r,F,y⟩) (s':=⟨some ⟨g,0,none⟩,r+1,p,y++[pt]⟩) (j:=0) HG.o rfl a0.o t (by rw [Bk];exact a) (d.elim (fun e=>.inl e.symm) fun e=>.inr (by rw [e];rfl)) a2.o a1.o
 have X:=uA (show base<=(w.alloc (.cells #[.int .i64 pt] 3)).heap.size by rw [Ak];omega);clear h l hl C x hb hH;go_enter func81,ntmps81
 go_wp2;go_loopw [11] (fun i wr=>(i=.int .i64 0/\wr=w)\/(i=.int .i64 1/\Hdd (CV w base H ⟨E,r,F,y⟩ pt wr))) (fun i _=>1 - (intOf i).toNat)
 case atStart=>exact .inl ⟨rfl,rfl⟩
 case round=>
  rcases hrel with ⟨rfl,rfl⟩ | ⟨rfl,HN⟩
  ·rcases G with rfl | ⟨k,z,b,o,rfl,rfl,hz,a4⟩
   ·have a3:IntKind.i64.wrap (((0:Nat):Int) - 1)=-1:=eW;go_wp2_with (at_builtin;refine wpList_append_lies _ rfl _ _ 60 rfl base 3 i0 _ 1 8 underlying60 hi M N O rfl eW (.slice E 0 F) 0 (y.flatMap uX) rfl D.o ⟨wr.heap.size,0,none⟩ 1 1 [.int .i64 pt] rfl rfl W.o (nB pt) eW (by unfold maxLen;omega) bB X.o _ rfl ?_;intro g p J a t d I;obtain ⟨r1,r2,Y,Z⟩:=A.o g p J a t d;have R3:=uA Y;have R4:=uA Z;clear Y Z a t d I)
    exact ⟨.inr ⟨rfl,uA ⟨⟨some ⟨g,0,none⟩,0+1,p,y++[pt]⟩,rfl,rfl,R3.o,R4.o⟩⟩,by simp [intOf]⟩
   ·have a3:IntKind.i64.wrap (((k+1:Nat):Int) - 1)=(k:Int):=by rw [De];omega
    have a5:IntKind.i64.wrap ((k:Int)+1 - 1)=(k:Int):=by rw [De];omega
    have a6:(0:Int)<=(k:Int):=Ch _;have a7:(k:Int) < ((k+1:Nat):Int):=bB;have a8:¬(k:Int) < 0:=bB;have a9:(z != pt)=true:=by rw [bne_iff_ne];omega
    go_wp2_with (at_builtin;refine wpList_append_lies _ rfl _ _ 60 rfl base 3 i0 _ 1 8 underlying60 hi M N O rfl eW (.slice (some ⟨b,o,none⟩) (k+1) F) (k+1) (y.flatMap uX) rfl D.o ⟨wr.heap.size,0,none⟩ 1 1 [.int .i64 pt] rfl rfl W.o (nB pt) eW (by unfold maxLen;omega) bB X.o _ rfl ?_;intro g p J a t d I;obtain ⟨r1,r2,Y,Z⟩:=A.o g p J a t d;have R3:=uA Y;have R4:=uA Z;clear Y Z a t d I)
    exact ⟨.inr ⟨rfl,uA ⟨⟨some ⟨g,0,none⟩,k+1+1,p,y++[pt]⟩,rfl,rfl,R3.o,R4.o⟩⟩,by simp [intOf]⟩
  ·go_wp2;go_end0
   exact ⟨⟨_,rfl⟩,HN.o⟩
structure LnW where
 region:Int
 point:Int
 mut_:Bool
 pl:PlW
structure FcW where
 loans:SlW LnW
 edges:SlW Pr
 killed:SlW Pr
 invalid:SlW Pr
 live:SlW Pr
def cLn (x:LnW):List Value:=[.int .i64 x.region,.int .i64 x.point,.bool x.mut_,.int .i64 x.pl.l,.slice x.pl.A x.pl.n x.pl.c]
def cFc (x:FcW):List Value:=[.slice x.loans.A x.loans.n x.loans.c,.slice x.edges.A x.edges.n x.edges.c,.slice x.killed.A x.killed.n x.killed.c,.slice x.invalid.A x.invalid.n x.invalid.c,.slice x.live.A x.live.n x.live.c]
theorem xX (x:LnW):(cLn x).length=5:=rfl
abbrev KY (x:LnW):Value:=.agg #[.int .i64 x.region,.int .i64 x.point,.bool x.mut_,.int .i64 x.pl.l,.slice x.pl.A x.pl.n x.pl.c]
abbrev wG (x:FcW):Value:=.agg #[.slice x.loans.A x.loans.n x.loans.c,.slice x.edges.A x.edges.n x.edges.c,.slice x.killed.A x.killed.n x.killed.c,.slice x.invalid.A x.invalid.n x.invalid.c,.slice x.live.A x.live.n x.live.c]
structure zP (w:World) (B:Nat) (x:LnW):Prop where
 region:uH x.region
 point:uH x.point
 pl:uL w B x.pl
abbrev PrS (w:World) (B:Nat) (s:SlW Pr):Prop:=SlH w B 2 pV xH s
structure vO (w:World) (B:Nat) (x:FcW):Prop where
 loans:SlH w B 5 cLn (zP w B) x.loans
 edges:PrS w B x.edges
 killed:PrS w B x.killed
 invalid:PrS w B x.invalid
 live:PrS w B x.live
theorem zP.below {w w':World} {B:Nat} {x:LnW} (h:zP w B x) (a:Below B w w'):zP w' B x:=⟨h.region,h.point,h.pl.below a⟩
theorem zP.more {w:World} {B B':Nat} {x:LnW} (h:zP w B x) (a:B<=B'):zP w B' x:=⟨h.region,h.point,h.pl.more a⟩
theorem PrS.below {w w':World} {B:Nat} {s:SlW Pr} (h:PrS w B s) (a:Below B w w'):PrS w' B s:=SlH.below h a fun _ h=>h
theorem PrS.more {w:World} {B B':Nat} {s:SlW Pr} (h:PrS w B s) (a:B<=B'):PrS w B' s:=SlH.more h a fun _ h=>h
theorem vO.below {w w':World} {B:Nat} {x:FcW} (h:vO w B x) (a:Below B w w'):vO w' B x:=⟨SlH.below h.loans a fun _ h=>h.below a,PrS.below h.edges a,PrS.below h.killed a,PrS.below h.invalid a,PrS.below h.live a⟩
theorem vO.more {w:World} {B B':Nat} {x:FcW} (h:vO w B x) (a:B<=B'):vO w B' x:=⟨SlH.more h.loans a fun _ h=>h.more a,PrS.more h.edges a,PrS.more h.killed a,PrS.more h.invalid a,PrS.more h.live a⟩
theorem vO.up {w w':World} {x:FcW} (h:vO w w.heap.size x) (a:Ab w w'):vO w' w'.heap.size x:=(h.below a).more a.size
structure oJ (x:FcW):Prop where
 loans:x.loans.n<=2 ^ 47
 edges:x.edges.n<=2 ^ 47
 killed:x.killed.n<=2 ^ 47
 invalid:x.invalid.n<=2 ^ 47
 live:x.live.n<=2 ^ 47
 pl:∀ l∈x.loans.L,l.pl.n<=2 ^ 47
def yN {α:Type} (L:List α) (j:Nat):Option α:=if j=0 then none else L[j - 1]?
theorem fW {α:Type} (L:List α) (j:Nat):yN L (j+1)=L[j]?:=rfl
def oR {α:Type} (f:Option α->α->Int):Option α->List α->Int
 | _,[]=>0
 | q,p :: l=>if f q p=0 then oR f (some p) l else f q p
theorem lD {α:Type} (f:Option α->α->Int) {L:List α} {j:Nat} {p:α} (h:L[j]?=some p):oR f (yN L j) (L.drop j)=if f (yN L j) p=0 then oR f (yN L (j+1)) (L.drop (j+1)) else f (yN L j) p:=by
 obtain ⟨a,b⟩:=Ah.1 h;rw [Cq a,b,oR,fW,h]
theorem fQ {α:Type} (f:Option α->α->Int) {L:List α} {j:Nat} (h:L.length<=j) (q:Option α):oR f q (L.drop j)=0:=by rw [Fi h,oR]
def prE (a b:Int) (q:Option Pr) (p:Pr):Int:=if p.1 < 0\/a<=p.1\/p.2 < 0\/b<=p.2 then 3 else match q with
 | none=>0
 | some q=>if p.1 < q.1\/(p.1=q.1/\p.2<=q.2) then 21 else 0
def lnE (n r:Int) (q:Option LnW) (x:LnW):Int:=if x.region < 0\/r<=x.region\/x.point < 0\/n<=x.point then 3 else if vS x.pl.l x.pl.ps=0 then (match q with
 | none=>0
 | some q=>if x.point<=q.point then 21 else 0) else vS x.pl.l x.pl.ps
def pR (a b:Int) (L:List Pr):Int:=oR (prE a b) none L
def lT (n r:Int) (L:List LnW):Int:=oR (lnE n r) none L
def orE (a b:Int):Int:=if a=0 then b else a
def fcE (x:FcW) (n r:Int):Int:=if 16777216 < x.loans.n\/16777216 < x.edges.n\/16777216 < x.killed.n\/16777216 < x.invalid.n\/16777216 < x.live.n then 15 else
 orE (lT n r x.loans.L) (orE (pR n n x.edges.L) (orE (pR (x.loans.n:Int) n x.killed.L) (orE (pR (x.loans.n:Int) n x.invalid.L) (pR r n x.live.L))))
end Go.Proofs.YtnkjbjkoffgocaaGreatDoor
