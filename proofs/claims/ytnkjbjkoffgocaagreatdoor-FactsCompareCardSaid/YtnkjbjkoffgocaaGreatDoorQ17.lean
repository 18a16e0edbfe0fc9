import Derived.Test.YtnkjbjkoffgocaaGreatDoorQ16
import Derived.Lib.Slices
import Derived.Lib.Small
import Derived.Lib.Walk
set_option linter.unusedVariables false
set_option linter.unusedSimpArgs false
set_option maxRecDepth 100000
set_option maxHeartbeats 16000000
namespace Go.Proofs.YtnkjbjkoffgocaaGreatDoor
open Tryz Go.RowKit
abbrev eO (x:TyW):Array Value:=#[.int .i64 x.t.kind,.bool x.t.mut_,.int .i64 x.t.region,.int .i64 x.t.elem,.slice x.A x.n x.c]
abbrev AW (w:World) (a b:TyW):World:=(w.alloc (.cells (eO a) 123)).alloc (.cells (eO b) 123)
theorem mZ (w:World) (a b:TyW):Ab w (AW w a b):=((Below.refl _ _).alloc (Ae _) _).alloc nF _
theorem WV (w:World) (x y:Int) (t:TypeId):(w.alloc (.cells #[.int .i64 x,.int .i64 y] t)).ownsRow w.heap.size t 2 (.slice (some ⟨w.heap.size,0,none⟩) 1 1) 1 ([(x,y)].flatMap pV):=
 ⟨rfl,.inr ⟨w.heap.size,1,_,rfl,Ae _,heap_alloc_new w _,Ae _,by unfold maxLen;decide,rfl,rfl⟩⟩
theorem uEz (w:World) (x y:Int) (t:TypeId) {g:Nat} (f:g=w.heap.size):∀ j u,([(x,y)].flatMap pV)[j]?=some u->(w.alloc (.cells #[.int .i64 x,.int .i64 y] t)).cell? ((⟨g,0,none⟩:Addr).add j)=some u:=by
 subst f;intro j u h;exact Bd (heap_alloc_new w (.cells #[.int .i64 x,.int .i64 y] t)) j u (by simpa [pV] using h)
theorem jO.of_own {w:World} {base n c:Nat} {A:Option Addr} {ps:List Pr} (h:w.ownsRow base 54 2 (.slice A n c) n (ps.flatMap pV)):jO w A n c ps:=by
 obtain ⟨l,m,e,f,k⟩:=wH h;cases e;exact ⟨f,k,uM.of_own uY eW h⟩
theorem jO.below {w w':World} {A:Option Addr} {n c:Nat} {ps:List Pr} (h:jO w A n c ps) (f:Ab w w'):jO w' A n c ps:=⟨h.1,h.2.1,(h.2.2.below f).more f.size⟩
theorem nV {w w':World} {ps:List Pr} {rg:Int} {a b:Ty} {A:Option Addr} {n c:Nat} {v:Bool} (f:zJ (out ps rg) a b=v) (h:v=true->jO w' A n c (xM a b)) (k:Ab w w'):LU w ps rg a b (.returned (.tuple #[.slice A n c,.bool v])) w':=by
 subst f;exact ⟨A,n,c,rfl,h,k⟩
theorem uHc (r:Nat) (a b:TyW) (ps:List Pr) (rg:Int) (w:World) (h:a.t.kind≠b.t.kind) :
 Calls prog 295 #[.pointer (some ⟨r,0,none⟩),xU a,xU b] w (LU w ps rg a.t b.t):=by
 have f:=uA (mZ w a b);have l:=uA (EX (O:=out ps rg) h);have t:(a.t.kind != b.t.kind)=true:=by rw [bne_iff_ne];exact h
 obtain ⟨⟨k,m,v,x,y⟩,A,n,c⟩:=a;obtain ⟨⟨z,B,o,q,u⟩,C,D,E⟩:=b;simp only [eO,AW] at f l t;clear h;go_enter func295,ntmps295
 go_wp2;go_ret2
 exact nV l.o (fun h=>by cases h) f.o
theorem XS (r:Nat) (a b:TyW) (ps:List Pr) (rg:Int) (w:World) (h:a.t.kind=b.t.kind) (h0:a.t.kind=0\/a.t.kind=1\/a.t.kind=2) :
 Calls prog 295 #[.pointer (some ⟨r,0,none⟩),xU a,xU b] w (LU w ps rg a.t b.t):=by
 have v:=uA (mZ w a b);have x:=uA (CK (O:=out ps rg) h h0);have y:=uA (eP (a:=a.t) (b:=b.t) bB bB);obtain ⟨⟨k,m,B,C,D⟩,A,n,c⟩:=a;obtain ⟨⟨H,E,l,o,q⟩,I,J,K⟩:=b;simp only [eO,AW] at v x y h h0;subst h;have t:(k != k)=false:=by simp
 have f:∀ w',Ab w w'->LU w ps rg ⟨k,m,B,C,D⟩ ⟨k,E,l,o,q⟩ (.returned (.tuple #[.slice none 0 0,.bool true])) w':=fun w' F=>nV x.o (fun _=>by rw [y.o];exact jO.nil _) F
 have u:=uA (f _ v.o);clear f;rcases h0 with h0 | h0 | h0
 ·have z:(k == 0)=true:=beq_iff_eq.2 h0;clear h0;go_enter func295,ntmps295
  go_wp2;go_ret2
  exact u.o
 ·have z:(k == 0)=false:=by rw [h0];rfl
  have G:(k == 1)=true:=beq_iff_eq.2 h0;clear h0;go_enter func295,ntmps295
  go_wp2;go_ret2
  exact u.o
 ·have z:(k == 0)=false:=by rw [h0];rfl
  have G:(k == 1)=false:=by rw [h0];rfl
  have N:(k == 2)=true:=beq_iff_eq.2 h0;clear h0;go_enter func295,ntmps295
  go_wp2;go_ret2
  exact u.o
theorem TJ (r:Nat) (a b:TyW) (ps:List Pr) (rg:Int) (w:World) (h:a.t.kind=b.t.kind) (f:a.t.kind≠0) (l:a.t.kind≠1) (o:a.t.kind≠2) (q:a.t.kind≠3) (u:a.t.kind≠4) :
 Calls prog 295 #[.pointer (some ⟨r,0,none⟩),xU a,xU b] w (LU w ps rg a.t b.t):=by
 have v:=uA (mZ w a b);have x:=uA (UN (O:=out ps rg) h f l o q u);obtain ⟨⟨k,m,C,D,E⟩,A,n,c⟩:=a;obtain ⟨⟨F,G,y,z,B⟩,H,I,J⟩:=b;simp only [eO,AW] at v x h f l o q u;subst h;have t:(k != k)=false:=by simp
 have K:(k == 0)=false:=beq_eq_false_iff_ne.2 f;have N:(k == 1)=false:=beq_eq_false_iff_ne.2 l;have Q:(k == 2)=false:=beq_eq_false_iff_ne.2 o;have R:(k == 3)=false:=beq_eq_false_iff_ne.2 q;have S:(k == 4)=false:=beq_eq_false_iff_ne.2 u;clear f l o q u;go_enter func295,ntmps295
 go_wp2;go_ret2
 exact nV x.o (fun h=>by cases h) v.o
theorem uCl (r:Nat) (a b:TyW) (ps:List Pr) (rg:Int) (w:World) (y:wF w w.heap.size a) (z:wF w w.heap.size b) (h:a.t.kind=b.t.kind) (f:a.t.kind=4) (F:a.n<=65535) (B:b.n<=65535) :
 Calls prog 295 #[.pointer (some ⟨r,0,none⟩),xU a,xU b] w (LU w ps rg a.t b.t):=by
 have l:=mZ w a b;have G:=uA (iO (a:=a.t) (b:=b.t) f);have x:=uA l;have Q:=y.ok.len;have R:=z.ok.len;have H:=uA ((y.rd.below l).more l.size);have o:=uA ((z.rd.below l).more l.size);have q:Hdd (a.n=b.n->zJ (out ps rg) a.t b.t=true):=fun e=>lO h f bB;have u:Hdd (a.n≠b.n->zJ (out ps rg) a.t b.t=false):=fun e=>GL h f bB;clear y z l Q R;obtain ⟨⟨k,m,X,Y,S⟩,A,n,c⟩:=a;obtain ⟨⟨Z,m',T,U,C⟩,I,J,K⟩:=b;simp only [eO,AW] at x H o q u G h f F B;subst h;have t:(k != k)=false:=by simp
 have t0:(k == 0)=false:=by rw [f];rfl
 have t1:(k == 1)=false:=by rw [f];rfl
 have t2:(k == 2)=false:=by rw [f];rfl
 have t3:(k == 3)=false:=by rw [f];rfl
 have t4:(k == 4)=true:=beq_iff_eq.2 f;clear f;by_cases e:n=J
 ·subst e;have D:=uA (q.o rfl);go_enter func295,ntmps295
  go_wp2_with fail
  refine (MH A I n c K S C _ H.o o.o F).mono ?_;rintro e V ⟨A1,c1,rfl,N,v⟩;have W:=uA N;have E:=uA v;clear N v;go_wp2_with fail
  go_ret2
  exact nV D.o (fun _=>by rw [G.o];exact W.o) (Aa x.o E.o)
 ·have D:=uA (u.o e);go_enter func295,ntmps295
  go_wp2_with fail
  refine (TU A I n J c K _ e bB bB).mono ?_;rintro e V ⟨rfl,rfl⟩;go_wp2_with fail
  go_ret2
  exact nV D.o (fun h=>by cases h) x.o
theorem oV {w l:World} {v:Value} {base b i H:Nat} {u:Value} (m:w.grownBy l v.ownBlock) (f:∀ k,v.ownBlock=some k->base<=k/\k < H) (q:b < base) (o:w.cell? ⟨b,i,none⟩=some u):l.cell? ⟨b,i,none⟩=some u:=
 m.cell o (fun e=>by have h:=(f b e.symm).1;omega)
theorem uDn (r:Nat) (a b:TyW) (ps:List Pr) (rg:Int) (w:World) (hR:Rel w w.heap.size r ps rg) (h:a.t.kind=b.t.kind) (E:a.t.kind=3) :
 Calls prog 295 #[.pointer (some ⟨r,0,none⟩),xU a,xU b] w (LU w ps rg a.t b.t):=by
 obtain ⟨i0,hi,S,T,U⟩:=info_parts FQ;have hB:=mZ w a b;have V:=hB.alloc hB.size (.cells #[.int .i64 a.t.elem,.int .i64 b.t.elem] 54);have HB:=uA hB;have x:=uA V;have H:=uA fun (w':World) (hb:Ab w w')=>(hR.below hb).more hb.size
 have W:=uA (YS (a:=a.t) (b:=b.t) E);have X:=uA (VP (a:=a.t) (b:=b.t) E);have J:=uA fun (v:Bool) (hm:a.t.mut_=b.t.mut_) (hv:out ps rg a.t.region b.t.region=v)=>IG (O:=out ps rg) h E hm hv
 have K:=uA fun (hm:a.t.mut_≠b.t.mut_)=>JN (O:=out ps rg) h E hm
 clear hB V hR;obtain ⟨⟨k,m,Y,y,fs⟩,A,n,c⟩:=a;obtain ⟨⟨k',m',B,l,a5⟩,A',n',c'⟩:=b;simp only [eO,AW] at HB x W X J K h E;subst h;have t:(k != k)=false:=by simp
 have t0:(k == 0)=false:=by rw [E];rfl
 have t1:(k == 1)=false:=by rw [E];rfl
 have t2:(k == 2)=false:=by rw [E];rfl
 have t3:(k == 3)=true:=beq_iff_eq.2 E;clear E;obtain ⟨v,hv⟩:∃ v,out ps rg Y B=v:=⟨_,rfl⟩;have HV:=uA hv;clear hv;have Z:((w.alloc (.cells #[.int .i64 k,.bool m,.int .i64 Y,.int .i64 y,.slice A n c] 123)).alloc (.cells #[.int .i64 k,.bool m',.int .i64 B,.int .i64 l,.slice A' n' c'] 123)).heap.size=w.heap.size+2:=by simp
 cases m
 ·cases m'
  ·have N:=uA (J.o v rfl HV.o);go_enter func295,ntmps295
   go_wp2_with fail
   refine (cB HV.o _ (H.o _ x.o)).mono ?_;rintro e w1 ⟨rfl,z⟩;have G:=uA (TZ _ y l 54 z);rw [Z] at G;have Q:=uA (Aa x.o z);clear z;go_wp2_with fail
   go_ret2
   exact nV N.o (fun _=>by rw [W.o (by trivial)];exact G.o) Q.o
  ·have N:=uA (K.o eW);go_enter func295,ntmps295
   go_wp2_with fail
   go_ret2
   exact nV N.o (fun h=>by cases h) x.o
 ·have R:=uA (WV ((w.alloc (.cells #[.int .i64 k,.bool true,.int .i64 Y,.int .i64 y,.slice A n c] 123)).alloc (.cells #[.int .i64 k,.bool m',.int .i64 B,.int .i64 l,.slice A' n' c'] 123)) y l 54);rw [Z] at R;have a0:=x.o.alloc x.o.size (.cells #[.int .i64 l,.int .i64 y] 54);have a1:=uA a0;clear a0;cases m'
  ·have N:=uA (K.o eW);go_enter func295,ntmps295
   go_wp2_with (at_builtin;go_must (refine wpList_append_own_at _ rfl _ _ 23 rfl (w.heap.size+2) 54 i0 (.agg #[.int .i64 0,.int .i64 0]) 2 16 underlying23 hi S T U rfl eW _ 1 _ rfl (R.o.alloc _) ⟨w.heap.size+1+1+1,0,none⟩ 1 1 ([(l,y)].flatMap pV) rfl rfl (uEz _ l y 54 nF) (by intro u hu;obtain ⟨p,_,hp⟩:=Dt.1 hu;exact PJ p u hp) (by unfold maxLen;decide) eW nF ?_;intro v5 F o q _ C;have D:=uA (a1.o.grown q (by simp;omega) (fun k hk=>by have:=((R.o.alloc (.cells #[.int .i64 l,.int .i64 y] 54)).lt k hk).1;omega));obtain ⟨g5,I,rfl⟩:=ownsRow_succ o;have f:=(R.o.alloc (.cells #[.int .i64 l,.int .i64 y] 54)).lt;have d2:F.cell? ⟨w.heap.size,2,none⟩=some (.int .i64 Y):=oV q f bB (by simp [go_sem]);have a2:F.cell? ⟨w.heap.size+1,2,none⟩=some (.int .i64 B):=oV q f bB (by simp [go_sem]);have d1:F.cell? ⟨w.heap.size,1,none⟩=some (.bool true):=oV q f bB (by simp [go_sem]);have a3:F.cell? ⟨w.heap.size+1,1,none⟩=some (.bool false):=oV q f bB (by simp [go_sem]);clear f o q C))
   go_ret2
   exact nV N.o (fun h=>by cases h) D.o
  ·have N:=uA (J.o v rfl HV.o);go_enter func295,ntmps295
   go_wp2_with (first
    | (at_builtin;go_must (refine wpList_append_own_at _ rfl _ _ 23 rfl (w.heap.size+2) 54 i0 (.agg #[.int .i64 0,.int .i64 0]) 2 16 underlying23 hi S T U rfl eW _ 1 _ rfl (R.o.alloc _) ⟨w.heap.size+1+1+1,0,none⟩ 1 1 ([(l,y)].flatMap pV) rfl rfl (uEz _ l y 54 nF) (by intro u hu;obtain ⟨p,_,hp⟩:=Dt.1 hu;exact PJ p u hp) (by unfold maxLen;decide) eW nF ?_;intro v5 F o q _ C;have D:=uA (a1.o.grown q (by simp;omega) (fun k hk=>by have:=((R.o.alloc (.cells #[.int .i64 l,.int .i64 y] 54)).lt k hk).1;omega));obtain ⟨g5,I,rfl⟩:=ownsRow_succ o;have a4:Hdd (F.ownsRow (w.heap.size+2) 54 2 (.slice (some ⟨g5,0,none⟩) 2 I) 2 ([(y,l),(l,y)].flatMap pV)):=o;have f:=(R.o.alloc (.cells #[.int .i64 l,.int .i64 y] 54)).lt;have d2:F.cell? ⟨w.heap.size,2,none⟩=some (.int .i64 Y):=oV q f bB (by simp [go_sem]);have a2:F.cell? ⟨w.heap.size+1,2,none⟩=some (.int .i64 B):=oV q f bB (by simp [go_sem]);have d1:F.cell? ⟨w.heap.size,1,none⟩=some (.bool true):=oV q f bB (by simp [go_sem]);have a3:F.cell? ⟨w.heap.size+1,1,none⟩=some (.bool true):=oV q f bB (by simp [go_sem]);clear f;clear o q C))
    | (go_at_call 276;go_must (refine (cB HV.o _ (H.o _ D.o)).mono ?_;rintro e w1 ⟨rfl,z⟩;have G:=uA ((jO.of_own a4.o).below z);have Q:=uA (Aa D.o z);clear z)))
   go_ret2
   exact nV N.o (fun _=>by rw [X.o (by trivial)];exact G.o) Q.o
theorem IS (r:Nat) (a b:TyW) (ps:List Pr) (rg:Int) (w:World) (l:Rel w w.heap.size r ps rg) (m:wF w w.heap.size a) (o:wF w w.heap.size b) (q:a.n<=65535) (f:b.n<=65535) :
 Calls prog 295 #[.pointer (some ⟨r,0,none⟩),xU a,xU b] w (LU w ps rg a.t b.t):=by
 by_cases e:a.t.kind=b.t.kind
 ·by_cases h:a.t.kind=3
  ·exact uDn r a b ps rg w l e h
  ·by_cases k:a.t.kind=4
   ·exact uCl r a b ps rg w m o e k q f
   ·by_cases u:a.t.kind=0\/a.t.kind=1\/a.t.kind=2
    ·exact XS r a b ps rg w e u
    ·exact TJ r a b ps rg w e bB bB bB h k
 ·exact uHc r a b ps rg w e
theorem GD:prog.keyType 54=true:=by kernel_rfl
theorem yD:Go.Maps.Keyed prog 54:=Fo (deep_law_gate fL (of_decide_eq_true fL) (of_decide_eq_true fL) GD (by rw [underlying54]))
theorem oX:prog.underlying 246=some (.map 54 4):=underlying246
def zB (p:Pr):Lit:=.string (keyBytes [.int .i64 p.1,.int .i64 p.2])
section
variable {P:Program} {d:Nat} {t:TypeId}
theorem UJ {k:TypeId} {n:Nat} {e:TypeId} {cs:List Value} {h:List Lit} (l:P.underlying k=some (.array n e)) (m:P.keyType k=true) (f:cs.length=P.cellsOf k) (o:P.keyLits (P.types.size+1) k cs=some h):keyOf P k (.agg cs.toArray)=some (.string (keyBytes h)):=by
 simp [keyOf,l,m,Value.formed,f,Value.cells,o]
theorem IC {n:Nat} {e:TypeId} {cs:List Value} (h:P.underlying t=some (.array n e)) (f:cs.length=P.cellsOf t):P.keyLits (d+1) t cs=((List.range n).mapM fun i=>P.keyLits d e ((cs.drop (i*P.cellsOf e)).take (P.cellsOf e))).map List.flatten:=by
 conv=>lhs;unfold Program.keyLits
 simp only [h];rw [if_pos f]
theorem kF {q:IntKind} (f:P.underlying t=some (.int q)) {n:Int} (h:(Lit.int q n).wf=true):P.keyLits (d+1) t [.int q n]=some [.int q n]:=by
 simp [Program.keyLits,f,h]
end
theorem xC {p:Pr} (h:xH p):keyOf prog 54 (AF p)=some (zB p):=by
 have k:prog.cellsOf 3=1:=by kernel_rfl
 have f:prog.cellsOf 54=2:=by kernel_rfl
 have l:∃ d,prog.types.size=d+1:=⟨prog.types.size - 1,by have h:0 < prog.types.size:=of_decide_eq_true fL;omega⟩;obtain ⟨d,m⟩:=l;refine UJ (cs:=[.int .i64 p.1,.int .i64 p.2]) underlying54 GD (by rw [f];rfl) ?_;rw [IC underlying54 (by rw [f];rfl),m];simp only [show List.range 2=[0,1] from rfl,G0,G4,k];simp [kF underlying3 (aW h.1),kF underlying3 (aW h.2)]
theorem sZ {p q:Pr} (m:xH p) (o:xH q) (h:zB p=zB q):p=q:=by
 have l:=xC m;rw [h] at l;have f:=yD.inj l (xC o);injection f with f;have k:=congrArg Array.toList f;simp only [E7,and_true,Gt,true_and] at k;exact Fp k.1 k.2
theorem gI {p:Pr}:Go.WideAt.IsKeyLit (zB p):=trivial
def PrM (b:Nat) (M:List Pr) (w:World):Prop:=∃ m f,w.ownsMap (H:=Unit) prog 54 (plainElem prog 4) b m f/\m<=M.length /\
 (∀ p,xH p->(Maps.has f (zB p)=true↔p∈M))/\∀ p,Maps.has f (zB p)=true->∀ z,f.atKey (zB p) z=.lit (.bool true)
theorem PrM.block {b:Nat} {M:List Pr} {w w':World} (h:PrM b M w) (f:w'.heap[b]?=w.heap[b]?):PrM b M w':=by
 obtain ⟨m,k,l,o⟩:=h;exact ⟨m,k,uN l f,o⟩
theorem PrM.look {b:Nat} {M:List Pr} {w:World} (h:PrM b M w) {p:Pr} (o:xH p) {v:Bool} (q:decide (p∈M)=v):(Instr.lookup 246 (.map (some b)) (AF p) false).run prog w=.ok (.bool v) w:=by
 obtain ⟨m,y,z,_,x,B⟩:=h;obtain ⟨u,D,k,l⟩:=z.lookup yD oX (gE w) (zd:=.lit (.bool false)) (zp:=[]) (plainElem_bool underlying4 false) (xC o);rw [k,<- q];cases hh:Maps.has y (zB p)
 ·rw [Cm hh] at l;obtain ⟨c,rfl,f⟩:=uQ underlying4 l;injection f with f _;injection f with f;injection f with f;have C:¬p∈M:=fun h=>by rw [(x p o).2 h] at hh;cases hh
  rw [decide_eq_false C,f]
 ·rw [B p hh] at l;obtain ⟨c,rfl,f⟩:=uQ underlying4 l;injection f with f _;injection f with f;injection f with f;rw [decide_eq_true ((x p o).1 hh),f]
theorem PrM.put {b:Nat} {M:List Pr} {w w':World} {m:Nat} {h:DataW Unit} {p:Pr} (x:∀ q∈M,xH q) (y:w.ownsMap (H:=Unit) prog 54 (plainElem prog 4) b m h) (F:m<=M.length)
 (B:∀ p,xH p->(Maps.has h (zB p)=true↔p∈M)) (C:∀ p,Maps.has h (zB p)=true->∀ z,h.atKey (zB p) z=.lit (.bool true)) (D:xH p)
 (E:w'.ownsMap (H:=Unit) prog 54 (plainElem prog 4) b (m+1) (h.put (zB p) (.lit (.bool true)))):PrM b (M++[p]) w':=by
 have l:Maps.IsMap h:=⟨_,(y.entries yD).choose_spec.1⟩;refine ⟨m+1,_,E,by simp;omega,fun u o=>?_,fun u v z=>?_⟩
 ·by_cases f:u=p
  ·subst f;rw [Da l gI];simp
  ·have k:zB u≠zB p:=fun e=>f (sZ o D e)
   rw [B7 k,B u o];simp [f]
 ·by_cases f:zB u=zB p
  ·rw [f];exact Cn l gI _ z
  ·rw [B7 f] at v;exact (Ci f _ z).trans (C u v z)
theorem PrM.made (w:World):PrM w.heap.size [] (w.alloc (.map #[] 0)):=
 ⟨0,.map [],Cu (H:=Unit) w prog 54 (plainElem prog 4),Ae _,fun p _=>by simp [Maps.has],fun p h=>by simp [Maps.has] at h⟩
def qK (G M:List Pr):Nat:=G.countP fun p=>!M.contains p
theorem XB {G M:List Pr} {p:Pr} (hp:p∈G) (l:p∉M):qK G (M++[p])+1<=qK G M:=by
 unfold qK
 induction G with
 | nil=>cases hp
 | cons q G m=>
   have f:∀ k:List Pr,(k.countP fun r=>!(M++[p]).contains r)<=k.countP fun r=>!M.contains r:=by
    intro k;refine List.countP_mono_left fun r _ h=>?_
    simp at h ⊢;exact h.1
   rw [Dc,Dc];rcases Av.1 hp with rfl | hp
   ·have o:=f G;have u:(!(M++[p]).contains p)=false:=nF;have v:(!M.contains p)=true:=(by simpa using l);rw [if_neg (by rw [u];decide),if_pos v];omega
   ·have o:=m hp;have x:=f [q];rw [Dc,Dc,Gu,Gu] at x;omega
def grid (N:Nat):List Pr:=(List.range N).flatMap fun (i:Nat)=>(List.range N).map fun (j:Nat)=>(((i:Int),(j:Int)):Pr)
theorem LI {N:Nat} {p:Pr} (f:0<=p.1/\p.1 < (N:Int)) (h:0<=p.2/\p.2 < (N:Int)):p∈grid N:=by
 obtain ⟨x,y⟩:=p;simp only [] at f h;obtain ⟨i,rfl⟩:=Cz f.1;obtain ⟨j,rfl⟩:=Cz h.1;exact Dt.2 ⟨i,B1.2 bB,Bw.2 ⟨j,B1.2 bB,rfl⟩⟩
theorem KH {α m:Type} {f:α->List m} {k:Nat} (h:∀ x,(f x).length=k):∀ l:List α,(l.flatMap f).length=l.length*k
 | []=>by simp
 | y :: l=>by rw [Ct,Aw,KH h l,h,As,E9];omega
theorem sD (N:Nat):(grid N).length=N*N:=by
 unfold grid;rw [KH (k:=N) (fun i=>by simp)];simp
theorem FZ (G M:List Pr):qK G M<=G.length:=List.countP_le_length
structure gC (O:Int->Int->Bool) (L:List Ty) (s t:Int) (M Wt:List Pr):Prop where
 first:(s,t)∈M\/(s,t)∈Wt
 all:∀ p∈M,∃ a b,nT L p.1=some a/\nT L p.2=some b/\zJ O a b=true/\∀ q∈xM a b,q∈M\/q∈Wt
 wait:Sub O L s t->∀ q∈Wt,Sub O L q.1 q.2
 intM:∀ q∈M,xH q
 intW:∀ q∈Wt,xH q
section
variable {O:Int->Int->Bool} {L:List Ty} {r s t:Int} {M Wt:List Pr} {p:Pr} {a b:Ty}
theorem gC.begin (k:xH (s,t)):gC O L s t [] [(s,t)]:=⟨.inr nF,(fun p h=>by cases h),(fun h q f=>by have e:q=(s,t):=(by simpa using f);subst e;exact h),(fun q h=>by cases h),fun q f=>by have e:q=(s,t):=(by simpa using f);subst e;exact k⟩
theorem gC.seen (h:gC O L s t M (Wt++[p])) (k:p∈M):gC O L s t M Wt:=by
 have f:∀ q,q∈M\/q∈Wt++[p]->q∈M\/q∈Wt:=fun q hq=>by
  rcases hq with hq | hq
  ·exact .inl hq
  ·rcases Aq.1 hq with hq | hq
   ·exact .inr hq
   ·have e:q=p:=(by simpa using hq);subst e;exact .inl k
 refine ⟨f _ h.first,fun q hq=>?_,fun l q hq=>h.wait l q (by simp [hq]),h.intM,fun q hq=>h.intW q (by simp [hq])⟩;obtain ⟨a,b,m,o,v,x⟩:=h.all q hq;exact ⟨a,b,m,o,v,fun u y=>f u (x u y)⟩
theorem gC.step (h:gC O L s t M (Wt++[p])) (l:nT L p.1=some a) (m:nT L p.2=some b) (v:zJ O a b=true) (x:∀ q∈xM a b,xH q):gC O L s t (M++[p]) (Wt++xM a b):=by
 have f:∀ q,q∈M\/q∈Wt++[p]->q∈M++[p]\/q∈Wt++xM a b:=fun q hq=>by
  rcases hq with hq | hq
  ·exact .inl (by simp [hq])
  ·rcases Aq.1 hq with hq | hq
   ·exact .inr (by simp [hq])
   ·exact .inl (by simp at hq;simp [hq])
 refine ⟨f _ h.first,fun q hq=>?_,fun o q hq=>?_,fun q hq=>?_,fun q hq=>?_⟩
 ·rcases Aq.1 hq with hq | hq
  ·obtain ⟨y,z,B,C,D,E⟩:=h.all q hq;exact ⟨y,z,B,C,D,fun u k=>f u (E u k)⟩
  ·have e:q=p:=(by simpa using hq);subst e;exact ⟨a,b,l,m,v,fun u k=>.inr (by simp [k])⟩
 ·rcases Aq.1 hq with hq | hq
  ·exact h.wait o q (by simp [hq])
  ·exact ((h.wait o p nF).at_ l m).2 q hq
 ·rcases Aq.1 hq with hq | hq
  ·exact h.intM q hq
  ·have e:q=p:=(by simpa using hq);subst e;exact h.intW q nF
 ·rcases Aq.1 hq with hq | hq
  ·exact h.intW q (by simp [hq])
  ·exact x q hq
theorem gC.fail (h:gC O L s t M (Wt++[p])) (f:¬Sub O L p.1 p.2):sub O L s t=false:=uEa.2 fun k=>f (h.wait k p nF)
theorem gC.end_ (h:gC O L s t M []) (f:TyOk L r):sub O L s t=true:=by
 refine DZ.2 (PK f (M:=M) (fun q k=>?_) (s,t) (h.first.elim id (fun e=>by cases e)));obtain ⟨a,b,l,m,o,v⟩:=h.all q k;exact ⟨a,b,l,m,o,fun u x=>(v u x).elim id (fun e=>by cases e)⟩
end
theorem IW {O:Int->Int->Bool} {L:List Ty} {s t:Int} (h:¬((0<=s/\s < (L.length:Int))/\0<=t/\t < (L.length:Int))):¬Sub O L s t:=fun k=>by
 obtain ⟨a,b,f,l,_⟩:=k.inv;exact h ⟨JD f,JD l⟩
theorem FE {O:Int->Int->Bool} {L:List Ty} {s t:Int} {a b:Ty} (f:nT L s=some a) (l:nT L t=some b) (h:zJ O a b=false):¬Sub O L s t:=fun k=>by
 rw [(k.at_ f l).1] at h;cases h
structure UT (b:Nat) (w wr:World) (v:Value) (n:Nat) (Wt M:List Pr):Prop where
 low:Below b w wr
 map:PrM b M wr
 own:wr.ownsRow (b+1) 54 2 v n (Wt.flatMap pV)
 lt:b+1<=wr.heap.size
theorem UT.below {b n:Nat} {w wr wr':World} {v:Value} {Wt M:List Pr} (h:UT b w wr v n Wt M) (f:Ab wr wr'):UT b w wr' v n Wt M:=by
 have:=h.lt;exact ⟨h.low.trans (f.mono bB),h.map.block (f.block b bB),uC h.own f,Ai h.lt f.size⟩
theorem DN {w:World} {base g n cap:Nat} {e:TypeId} {xs:List Value} {x y:Value} (h:w.ownsRow base e 2 (.slice (some ⟨g,0,none⟩) (n+1) cap) (n+1) (xs++[x,y])):w.ownsRow base e 2 (.slice (some ⟨g,0,none⟩) n cap) n xs:=by
 have k:xs.length=n*2:=by have:=h.1;simp at this;omega
 rcases h.2 with ⟨q,_⟩ | ⟨F,m,l,u,v,z,G,B,C,D⟩
 ·cases q
 ·injection u with f H E;injection f with f;injection f with f;subst f E;refine ⟨k,.inr ⟨g,cap,l,rfl,v,z,bB,B,C,?_⟩⟩;have o:=congrArg (List.take (n*2)) D;rw [Fy,D4 bB,<- k,Dz] at o;rw [<-o,k];congr 1;omega
theorem lP {P:Program} (w:World) (base:Nat) (t I e:TypeId) (i:TypeInfo) (z:Value) (bytes:Nat) (Q:P.underlying t=some (.slice e)) (R:P.info? e=some i) (S:i.zero=some z)
 (q:i.size=2) (J:i.bytes=bytes) (K:z.cells.size=2)
 (v:Value) (n:Nat) (xs:List Value) (f:w.ownsRow base e 2 v n xs)
 (B:Nat) (A:Option Addr) (m c:Nat) (ps:List Pr) (C:uM w B 2 pV A m ps)
 (N:n+m<=maxLen) (k:(n+m)*bytes<=140737488355328) (x:base<=w.heap.size) :
 ∃ y w',(Builtin.append_ #[t,t] I #[v,.slice A m c]).run P w=.ok y w'/\w'.ownsRow base e 2 y (n+m) (xs++ps.flatMap pV)/\w.grownBy w' v.ownBlock /\
   (y.ownBlock=v.ownBlock\/y.ownBlock=some w.heap.size):=by
 rcases A with _ | ad
 ·have T:m=0:=by
   rcases Ca m with h0 | h0
   ·exact h0
   ·obtain ⟨b,o,h,_⟩:=C.2 h0;cases h
  subst T;have U:ps=[]:=Bu C.1;subst U;exact ⟨v,w,oN w base t I e i 2 Q R v n xs f c,by simpa using f,Gb w _,.inl rfl⟩
 ·have l:∀ j u,(ps.flatMap pV)[j]?=some u->w.cell? (ad.add j)=some u:=by
   intro j u D;have V:j < (ps.flatMap pV).length:=(Ah.1 D).1;rw [uU uY] at V;obtain ⟨b,o,h,_,W⟩:=C.2 (by have:=C.1;omega);injection h with h;subst h;have E:(⟨b,o,none⟩:Addr).add j=⟨b,o+j,none⟩:=by unfold Addr.add;split <;> simp_all
   rw [E];have G:ps[j / 2]?=some (ps[j / 2]'bB):=Ad bB;have e:j / 2*2+j % 2=j:=bB;rw [<-e,zG uY G bB] at D;have H:=W (j / 2) _ G (j % 2) u D;rw [show o+j / 2*2+j % 2=o+j by omega] at H;exact H
  obtain ⟨y,w',F,H,X,_,Y⟩:=run_append_own_at (P:=P) w base t I e i z 2 bytes Q R S q J K eW v n xs f ad m c (ps.flatMap pV) (by rw [uU uY,C.1]) l (by intro u D;obtain ⟨p,_,G⟩:=Dt.1 D;exact PJ p u G) N k x;exact ⟨y,w',F,H,X,Y⟩
theorem iG {P:Program} (w:World) {y:Array Oper} {k:List Oper} {o:Oper} {a:Act} {Q:Exit->Act->World->Prop} (E:o.guard=none) (s x:Operand) (t:TypeId)
 (I:o.op=.call { callee:=.builtin .append,args:=#[s,x],argTypes:=#[t,t] })
 (base:Nat) (e:TypeId) (i:TypeInfo) (z:Value) (bytes:Nat) (J:P.underlying t=some (.slice e)) (N:P.info? e=some i) (R:i.zero=some z)
 (l:i.size=2) (F:i.bytes=bytes) (G:z.cells.size=2)
 (v:Value) (n:Nat) (xs:List Value) (S:a.eval s=v) (C:w.ownsRow base e 2 v n xs)
 (B:Nat) (A:Option Addr) (m c:Nat) (ps:List Pr) (T:a.eval x=.slice A m c) (U:uM w B 2 pV A m ps)
 (H:n+m<=maxLen) (f:(n+m)*bytes<=140737488355328) (q:base<=w.heap.size)
 (h:∀ u w',w'.ownsRow base e 2 u (n+m) (xs++ps.flatMap pV)->w.grownBy w' v.ownBlock->(u.ownBlock=v.ownBlock\/u.ownBlock=some w.heap.size)->wpList P y Q k (a.put o.dst u) w'):wpList P y Q (o :: k) a w:=by
 obtain ⟨u,w',D,V,W,X⟩:=lP (P:=P) w base t o.type e i z bytes J N R l F G v n xs C B A m c ps U H f q;refine wpList_plain E fun K Y=>?_
 unfold Oper.wp execOp;simp only [I,resolve,invoke,builtin,Fd,Sem.run_pure,Ew,Gl,C6,D2,S,T,D];exact Y _ _ (h u w' V W X)
theorem WZ {a b:TyW} {w:World} {B:Nat} (f:wF w B a) (h:wF w B b):∀ q∈xM a.t b.t,xH q:=by
 intro q hq;unfold xM at hq
 split at hq
 ·rcases Av.1 hq with rfl | hq
  ·exact ⟨f.ok.e,h.ok.e⟩
  ·split at hq
   ·have e:q=(b.t.elem,a.t.elem):=(by simpa using hq);subst e;exact ⟨h.ok.e,f.ok.e⟩
   ·cases hq
 ·split at hq
  ·obtain ⟨i,k,l⟩:=MI hq;exact ⟨f.ok.f _ (Aj k),h.ok.f _ (Aj l)⟩
  ·cases hq
theorem uAo {a b:Ty} (h:a.fields.length<=65535):(xM a b).length<=65535:=by
 unfold xM
 split
 ·split <;> simp
 ·split
  ·rw [List.length_zip];omega
  ·simp
theorem SR (w:World) (x y:Int) (t:TypeId) {base:Nat} (f:base<=w.heap.size):(w.alloc (.cells #[.int .i64 x,.int .i64 y] t)).ownsRow base t 2 (.slice (some ⟨w.heap.size,0,none⟩) 1 1) 1 ([(x,y)].flatMap pV):=
 ⟨rfl,.inr ⟨w.heap.size,1,_,rfl,f,heap_alloc_new w _,Ae _,by unfold maxLen;decide,rfl,rfl⟩⟩
theorem ub1 {f h k l g:Nat} (m:h+1<=f) (o:f*65537+(k+1)<=g) (q:l<=65535):h*65537+(k+l) < g:=by omega
theorem ub2 {f h l K:Nat} (k:h+1<=f) (m:l+f<=K):l+1+h<=K:=by omega
theorem DX {a b:Bool} (h:b=a):Ending.returned (.bool a)=.returned (.bool b):=by rw [h]
theorem IJ (r:Nat) (ps:List Pr) (rg bf:Int) (A:Option Addr) (n c:Nat) (L:List TyW) (s t:Int) (w:World) (hR:Rel w w.heap.size r ps rg) (hA:yH w w.heap.size A n L) (hn:n<=1000) (aw:TyOk (tys L) bf) (hs:uH s) (ht:uH t) :
 Calls prog 287 #[.pointer (some ⟨r,0,none⟩),.slice A n c,.int .i64 s,.int .i64 t] w fun e w'=>e=.returned (.bool (sub (out ps rg) (tys L) s t))/\Ab w w':=by
 obtain ⟨i0,hi,bg,bh,bi⟩:=info_parts FQ;have cn:=@run_makeMap prog;have HR:=uA hR;have HA:=uA hA;have HL:=uA hA.len;have ag:=uA aw;have HI:=uA (gC.begin (O:=out ps rg) (L:=tys L) (s:=s) (t:=t) ⟨hs,ht⟩);have a5:Ab w ((w.alloc (.map #[] 0)).alloc (.cells #[.int .i64 s,.int .i64 t] 54)):=((Below.refl _ _).alloc (Ae _) _).alloc nF _;have bj:=uA (show UT w.heap.size w ((w.alloc (.map #[] 0)).alloc (.cells #[.int .i64 s,.int .i64 t] 54)) (.slice (some ⟨w.heap.size+1,0,none⟩) 1 1) 1 [(s,t)] [] from
  ⟨a5,(PrM.made w).block (Below.heap_alloc _ _ _ nF),by have h:=SR (w.alloc (.map #[] 0)) s t 54 (base:=w.heap.size+1) nF;rw [Ak] at h;exact h,nF⟩)
 have bk:=uA (show qK (grid n) []*65537+1<=65537000001 by have h1:=FZ (grid n) [];rw [sD] at h1;have h2:n*n<=1000*1000:=Eo hn hn;omega);have bm:=uA (show ([]:List Pr).length+qK (grid n) []<=1000000 by have h1:=FZ (grid n) [];rw [sD] at h1;have h2:n*n<=1000*1000:=Eo hn hn;simp;omega);clear hR hA aw hs ht a5;go_enter func287,ntmps287
 go_wp2;go_loopg [10] (qK (grid n) []*65537+1) (fun g v wr=>∃ (m:Nat) (Wt M:List Pr),Hdd (UT w.heap.size w wr v m Wt M)/\Hdd (gC (out ps rg) (tys L) s t M Wt)/\Hdd (qK (grid n) M*65537+m<=g)/\Hdd (g<=65537000001)/\Hdd (M.length+qK (grid n) M<=1000000))
 case atStart=>exact ⟨1,[(s,t)],[],bj.o,HI.o,Ae _,bk.o,bm.o⟩
 case round=>
  obtain ⟨m,Wt,M,HW,HS,HM,HG,HN⟩:=hrel;have ax:=HW.o.low;have cj:=HW.o.lt;obtain ⟨A7,c7,rfl,co,bn⟩:=wH HW.o.own;have a6:Wt.length=m:=(uM.of_own uY eW HW.o.own).1;have cp:m<=65537000001:=by have:=HM.o;have:=HG.o;omega
  unfold maxLen at bn;rcases Ca m with h0 | h0
  ·subst h0;have e0:Wt=[]:=Bu a6;subst e0;have HF:=uA (HS.o.end_ ag.o);clear a6;go_wp2;go_ret;exact ⟨DX HF.o,ax⟩
  ·obtain ⟨F,rfl⟩:∃ F,m=F+1:=⟨m - 1,bB⟩;obtain ⟨W1,p,rfl,ay⟩:=RB a6;obtain ⟨g7,az,b0,z,ck⟩:=HW.o.own.form bB;obtain ⟨rfl,rfl⟩:A7=some ⟨g7,0,none⟩/\c7=az:=by injection b0 with h1 h2 h3;exact ⟨h1,h3⟩
   obtain ⟨b,o,e,_,hc⟩:=(uM.of_own uY eW HW.o.own).at_ (i:=F) (x:=p) (by rw [B4 bB,ay,D3];rfl);have Q:=HS.o.intW p nF;have ah:=HW.o.own;rw [Bk] at ah;obtain ⟨x,y⟩:=p;have b3:wr.ownsRow (w.heap.size+1) 54 2 (.slice (some ⟨g7,0,none⟩) F c7) F (W1.flatMap pV):=DN (x:=.int .i64 x) (y:=.int .i64 y) ah;have d0:wr.cell? ⟨g7,F*2,none⟩=some (.int .i64 x):=by
    have h:=hc 0 _ rfl;injection e with e;injection e with R G;rw [<-R,<- G] at h;simpa using h
   have d1:wr.cell? ⟨g7,F*2+1,none⟩=some (.int .i64 y):=by
    have h:=hc 1 _ rfl;injection e with e;injection e with R G;rw [<-R,<- G] at h;simpa using h
   have bo:=(Below.refl wr.heap.size wr).alloc (Ae _) (.cells #[.int .i64 x,.int .i64 y] 54);have E:=uA (UT.below (wr':=wr.alloc (.cells #[.int .i64 x,.int .i64 y] 54)) ⟨HW.o.low,HW.o.map,b3,HW.o.lt⟩ bo);have cq:(0:Int)<=(F:Int):=Ch _;clear a6 b0 hc e ah b3 ay;by_cases J:(x,y)∈M
   ·have H:=uA (E.o.map.look Q (decide_eq_true J));have ai:=uA (HS.o.seen J);clear J Q;go_wp2_with (at_lookup;refine uP _ rfl _ _ _ false rfl _ _ _ rfl rfl H.o ?_)
    go_roundg (qK (grid n) M*65537+F)
    case rel=>exact ⟨F,W1,M,E.o,ai.o,Ae _,(show _<=_ by have:=HM.o;have:=HG.o;omega),HN.o⟩
    case measure=>have:=HM.o;omega
   ·have H:=uA (E.o.map.look Q (decide_eq_false J));obtain ⟨m3,Dm,o1,o2,o3,o4⟩:=E.o.map;have aj:m3 < maxLen:=by have:=HN.o;unfold maxLen;omega
    have a7:=uA o1;have bp:=uA o3;have bq:=uA o4;have a8:=uA Q;have br:=uA J;clear o1 o3 o4 Q J;by_cases S:vD x (n:Int)=true/\vD y (n:Int)=true
    ·obtain ⟨hx,hy⟩:=S;obtain ⟨a9,ak⟩:=uW.1 hx;obtain ⟨aa,al⟩:=uW.1 hy;obtain ⟨i,rfl⟩:=Cz a9;obtain ⟨j,rfl⟩:=Cz aa;have am:∃ a,L[i]?=some a:=⟨_,Ad (by have:=HL.o;omega)⟩;obtain ⟨B,K⟩:=am;have am:∃ a,L[j]?=some a:=⟨_,Ad (by have:=HL.o;omega)⟩;obtain ⟨u,T⟩:=am;have b4:nT (tys L) (i:Int)=some B.t:=by rw [iF];exact nK K
     have b5:nT (tys L) (j:Int)=some u.t:=by rw [iF];exact nK T
     have HX:=uA hx;have HY:=uA hy;have b6:=uA b4;have b7:=uA b5;have bs:=uA K;have bt:=uA T;have ab:=HA.o.one B (Aj K);have ac:=HA.o.one u (Aj T);have an:B.t.fields.length<=65535:=by
      have:=ag.o.own (nK K);by_cases h4:B.t.kind=4
      ·exact (this.2.2.2.2.2 h4).2
      ·rw [this.2.2.1 h4];simp
     have b8:u.t.fields.length<=65535:=by
      have:=ag.o.own (nK T);by_cases h4:u.t.kind=4
      ·exact (this.2.2.2.2.2 h4).2
      ·rw [this.2.2.1 h4];simp
     have bu:=uA (WZ ab ac);have bv:=uA (uAo (b:=u.t) an);have U:=uA (XB (LI (p:=((i:Int),(j:Int))) ⟨a9,ak⟩ ⟨aa,al⟩) br.o);have b9:=uA fun (w':World) (V:Ab w w')=>IS r B u ps rg w' ((HR.o.below V).more V.size) ((ab.below V).more V.size) ((ac.below V).more V.size) (by rw [<-ab.ok.len];exact an) (by rw [<-ac.ok.len];exact b8)
     have cr:(i:Int) < (n:Int):=ak;have cs:(j:Int) < (n:Int):=al;have ct:(0:Int)<=(i:Int):=a9;have cu:(0:Int)<=(j:Int):=aa;obtain ⟨C,D,bw,bx,_⟩:=HA.o.at_ K;subst bw;have W:∀ l:World,(wr.alloc (.cells #[.int .i64 (i:Int),.int .i64 (j:Int)] 54)).grownBy l (some w.heap.size)->Ab w l/\wr.heap.size < l.heap.size/\∀ w',Ab l w' ->
      (Ab l w'/\w'.cell? ⟨wr.heap.size,0,none⟩=some (.int .i64 (i:Int))/\w'.cell? ⟨wr.heap.size,1,none⟩=some (.int .i64 (j:Int)) /\
      w'.cell? ⟨C,D+i*5,none⟩=some (.int .i64 B.t.kind)/\w'.cell? ⟨C,D+i*5+1,none⟩=some (.bool B.t.mut_)/\w'.cell? ⟨C,D+i*5+2,none⟩=some (.int .i64 B.t.region)/\w'.cell? ⟨C,D+i*5+3,none⟩=some (.int .i64 B.t.elem)/\w'.cell? ⟨C,D+i*5+4,none⟩=some (.slice B.A B.n B.c) /\
      w'.cell? ⟨C,D+j*5,none⟩=some (.int .i64 u.t.kind)/\w'.cell? ⟨C,D+j*5+1,none⟩=some (.bool u.t.mut_)/\w'.cell? ⟨C,D+j*5+2,none⟩=some (.int .i64 u.t.region)/\w'.cell? ⟨C,D+j*5+3,none⟩=some (.int .i64 u.t.elem)/\w'.cell? ⟨C,D+j*5+4,none⟩=some (.slice u.A u.n u.c)):=by
      intro l hg;have I:Ab w l:=E.o.low.grown hg E.o.low.size (fun k hk=>by cases hk;exact Ae _);have X:wr.heap.size < l.heap.size:=by have:=hg.size;rw [Ak] at this;omega
      refine ⟨I,X,fun w' V=>?_⟩;have ba:=HA.o.below (Aa I V);obtain ⟨b1,o1,R,_,_,a0,a1,a2,a3,a4⟩:=ba.at_ bs.o;obtain ⟨rfl,rfl⟩:C=b1/\D=o1:=by injection R with R;injection R with R G;exact ⟨R,G⟩
      obtain ⟨b2,o2,G,_,_,c0,c1,c2,c3,c4⟩:=ba.at_ bt.o;obtain ⟨rfl,rfl⟩:C=b2/\D=o2:=by injection G with G;injection G with R G;exact ⟨R,G⟩
      exact ⟨V,(V.cell (p:=⟨wr.heap.size,0,none⟩) X).trans (hg.cell (by simp [go_sem]) (fun e=>by injection e with e;have G:wr.heap.size=w.heap.size:=e;omega)),(V.cell (p:=⟨wr.heap.size,1,none⟩) X).trans (hg.cell (by simp [go_sem]) (fun e=>by injection e with e;have G:wr.heap.size=w.heap.size:=e;omega)),a0,a1,a2,a3,a4,c0,c1,c2,c3,c4⟩
     have HU:=uA W;clear hx hy a9 ak aa al b4 b5 K T ab ac an b8 W bx;go_wp2_with (first
      | (at_lookup;refine uP _ rfl _ _ _ false rfl _ _ _ rfl rfl H.o ?_)
      | (at_mapUpdate;go_must (refine wpList_mapUpdate_own _ rfl _ _ _ 246 rfl 54 4 yD oX _ w.heap.size m3 Dm rfl a7.o aj _ _ (zB ((i:Int),(j:Int))) rfl rfl (xC a8.o) (.lit (.bool true)) [] (plainElem_bool underlying4 true) ?_;intro l f z;obtain ⟨N,cv,ao⟩:=HU.o l z;have bz:=uA f;have c5:=uA z;have ad:=uA N;have ap:=uA ao;obtain ⟨_,u0,u1,_⟩:=ao l (Below.refl _ _);clear f z N ao))
      | (go_at_call 156;refine (uZ HX.o _).mono ?_;clear HX;rintro e w8 ⟨rfl,rfl⟩)
      | (go_at_call 156;go_must (refine (uZ HY.o _).mono ?_;rintro e w8 ⟨rfl,rfl⟩)))
     go_region_held3 (fun w'=>Ab l w'/\w'.cell? ⟨wr.heap.size,0,none⟩=some (.int .i64 (i:Int))/\w'.cell? ⟨wr.heap.size,1,none⟩=some (.int .i64 (j:Int)) /\
      w'.cell? ⟨C,D+i*5,none⟩=some (.int .i64 B.t.kind)/\w'.cell? ⟨C,D+i*5+1,none⟩=some (.bool B.t.mut_)/\w'.cell? ⟨C,D+i*5+2,none⟩=some (.int .i64 B.t.region)/\w'.cell? ⟨C,D+i*5+3,none⟩=some (.int .i64 B.t.elem)/\w'.cell? ⟨C,D+i*5+4,none⟩=some (.slice B.A B.n B.c) /\
      w'.cell? ⟨C,D+j*5,none⟩=some (.int .i64 u.t.kind)/\w'.cell? ⟨C,D+j*5+1,none⟩=some (.bool u.t.mut_)/\w'.cell? ⟨C,D+j*5+2,none⟩=some (.int .i64 u.t.region)/\w'.cell? ⟨C,D+j*5+3,none⟩=some (.int .i64 u.t.elem)/\w'.cell? ⟨C,D+j*5+4,none⟩=some (.slice u.A u.n u.c))
      (first | exact ap.o _ (by assumption) | exact ap.o _ (Below.refl _ _) | exact ap.o _ (Below.refl _ _).drew)
      ((go_at_call 295;go_split_ands;refine (b9.o _ (ad.o.trans (Below.mono (by assumption:Ab l _) ad.o.size))).mono ?_;rintro e w8 ⟨A8,n8,c8,rfl,aq,a5⟩;have ae:=Below.trans (by assumption:Ab l _) (a5.mono (Below.size (by assumption:Ab l _)))))
     all_goals
      go_split_ands;have cl:w.heap.size+1<=g7:=z;have Y:Ab w w8:=(Aa ad.o ae);have f:l.ownsRow (w.heap.size+1) 54 2 (.slice (some ⟨g7,0,none⟩) F c7) F (W1.flatMap pV):=E.o.own.kept c5.o (.inr (fun e=>by injection e with e;have G:g7=w.heap.size:=e;omega));have ar:=uA (uC f ae);have c6:=uA (PrM.put (fun q hq=>HS.o.intM q hq) a7.o o2 bp.o bq.o a8.o bz.o);have c9:=uA ae;have bb:=uA Y;have cm:=ae.size;obtain ⟨v,hv⟩:∃ v,zJ (out ps rg) B.t u.t=v:=⟨_,rfl⟩;rw [hv] at aq;rw [hv];have HV:=uA hv;have ca:=uA aq;clear hv aq f Y;cases v
      ·have HF:=uA (HS.o.fail (FE b6.o b7.o HV.o));go_wp2;go_ret;exact ⟨DX HF.o,bb.o⟩
      ·have hr:=ca.o rfl;have cb:(xM B.t u.t).length=n8:=hr.2.2.1;have af:n8<=65535:=by rw [<-cb];exact bv.o
       have cc:=uA hr.2.2;have ai:=uA (HS.o.step b6.o b7.o HV.o bu.o);clear hr;have cd:F+n8<=maxLen:=by unfold maxLen;omega
       have ce:(F+n8)*16<=140737488355328:=bB;have cf:w.heap.size+1<=w8.heap.size:=bB;go_wp2_with (at_builtin;go_must (refine iG _ rfl _ _ 23 rfl (w.heap.size+1) 54 i0 (.agg #[.int .i64 0,.int .i64 0]) 16 underlying23 hi bg bh bi rfl _ F _ rfl ar.o _ _ n8 c8 (xM B.t u.t) rfl cc.o cd ce cf ?_;intro v9 w9 Z bc bd;have cg:=uA Z;have au:=uA bc;clear Z bc bd))
       go_roundg (qK (grid n) (M++[((i:Int),(j:Int))])*65537+(F+n8))
       case rel=>
        have av:=bb.o.grown au.o bB (fun k hk=>by have e:some g7=some k:=hk;injection e with e;omega);have be:=U.o;have ch:qK (grid n) (M++[((i:Int),(j:Int))])*65537+(F+n8)<=65537000001:=Ai (Co (ub1 be HM.o af)) HG.o;have ci:(M++[((i:Int),(j:Int))]).length+qK (grid n) (M++[((i:Int),(j:Int))])<=1000000:=by rw [Aw,Cv];exact ub2 be HN.o
        refine ⟨F+n8,W1++xM B.t u.t,M++[((i:Int),(j:Int))],⟨av,c6.o.block ((au.o.block w.heap.size bB (fun e=>by injection e with e;have G:w.heap.size=g7:=e;omega)).trans (c9.o.block w.heap.size bB)),?_,by have:=au.o.size;omega⟩,ai.o,uA (Ae _),uA ch,uA ci⟩;rw [Bk];exact cg.o
       case measure=>exact ub1 U.o HM.o af
    ·have HF:=uA (HS.o.fail (IW fun h=>S ⟨uW.2 (by have:=h.1;rw [zE,HL.o] at this;exact this),uW.2 (by have:=h.2;rw [zE,HL.o] at this;exact this)⟩));have W:∀ l:World,(wr.alloc (.cells #[.int .i64 x,.int .i64 y] 54)).grownBy l (some w.heap.size)->l.cell? ⟨wr.heap.size,0,none⟩=some (.int .i64 x)/\l.cell? ⟨wr.heap.size,1,none⟩=some (.int .i64 y)/\Ab w l:=fun l hg=>
      ⟨hg.cell (by simp [go_sem]) (fun e=>by injection e with e;have G:wr.heap.size=w.heap.size:=e;omega),hg.cell (by simp [go_sem]) (fun e=>by injection e with e;have G:wr.heap.size=w.heap.size:=e;omega),E.o.low.grown hg E.o.low.size (fun k hk=>by cases hk;exact Ae _)⟩
     have HU:=uA W;clear W;cases hx:vD x (n:Int)
     ·have HX:=uA hx;clear hx S;go_wp2_with (first
       | (at_lookup;refine uP _ rfl _ _ _ false rfl _ _ _ rfl rfl H.o ?_)
       | (at_mapUpdate;go_must (refine wpList_mapUpdate_own _ rfl _ _ _ 246 rfl 54 4 yD oX _ w.heap.size m3 Dm rfl a7.o aj _ _ (zB (x,y)) rfl rfl (xC a8.o) (.lit (.bool true)) [] (plainElem_bool underlying4 true) ?_;intro l f z;obtain ⟨u0,u1,N⟩:=HU.o l z;clear f z))
       | (go_at_call 156;go_must (refine (uZ HX.o _).mono ?_;rintro e w8 ⟨rfl,rfl⟩)))
      go_ret;exact ⟨DX HF.o,N⟩
     ·have hy:vD y (n:Int)=false:=by
       cases e:vD y (n:Int)
       ·rfl
       ·exact absurd ⟨hx,e⟩ S
      have HX:=uA hx;have HY:=uA hy;clear hx hy S;go_wp2_with (first
       | (at_lookup;refine uP _ rfl _ _ _ false rfl _ _ _ rfl rfl H.o ?_)
       | (at_mapUpdate;go_must (refine wpList_mapUpdate_own _ rfl _ _ _ 246 rfl 54 4 yD oX _ w.heap.size m3 Dm rfl a7.o aj _ _ (zB (x,y)) rfl rfl (xC a8.o) (.lit (.bool true)) [] (plainElem_bool underlying4 true) ?_;intro l f z;obtain ⟨u0,u1,N⟩:=HU.o l z;clear f z))
       | (go_at_call 156;refine (uZ HX.o _).mono ?_;clear HX;rintro e w8 ⟨rfl,rfl⟩)
       | (go_at_call 156;go_must (refine (uZ HY.o _).mono ?_;rintro e w8 ⟨rfl,rfl⟩)))
      go_ret;exact ⟨DX HF.o,N⟩
theorem MN {r:Nat} {ps:List Pr} {rg f:Int} {A:Option Addr} {n c:Nat} {L:List TyW} {s t:Int} {v:Bool} (h:sub (out ps rg) (tys L) s t=v) (w:World) (l:Rel w w.heap.size r ps rg) (m:yH w w.heap.size A n L) (o:n<=1000) (k:TyOk (tys L) f) (q:uH s) (u:uH t) :
 Calls prog 287 #[.pointer (some ⟨r,0,none⟩),.slice A n c,.int .i64 s,.int .i64 t] w fun e w'=>e=.returned (.bool v)/\Ab w w':=h ▸ IJ r ps rg f A n c L s t w l m o k q u
structure RS (A:Option Addr) (n c:Nat) (ps:List Pr) (B:Option Addr) (m d:Nat) (L:List TyW) (w:World):Prop where
 prs:Prs w w.heap.size A n ps
 typs:yH w w.heap.size B m L
 n:n<=65535
 m:m<=65535
section
variable {O:Int->Int->Bool} {L:List Ty} {r:Int} {i j:Nat} {a b:Ty}
end
theorem MJ (c:Int) (w:World) (h:0<=c) (k:c < 256) :
 Calls prog 190 #[.int .u8 c] w fun e w'=>e=.returned (.bool (tU c))/\w=w':=by
 by_cases a:c=95
 ·subst a;go_enter func190,ntmps190
  go_wp2;go_ret;exact ⟨rfl,rfl⟩
 ·have l:(c == 95)=false:=by simpa using a
  by_cases b:65<=c <;> by_cases d:c<=90 <;> by_cases e:97<=c <;> by_cases f:c<=122;all_goals
   go_enter func190,ntmps190
   go_wp2;go_ret;first
    | exact ⟨congrArg (fun v=>Ending.returned (.bool v)) (VV bB).symm,rfl⟩
    | exact ⟨congrArg (fun v=>Ending.returned (.bool v)) (uCb bB).symm,rfl⟩
theorem UK (c:Int) (w:World) (f:0<=c) (h:c < 256) :
 Calls prog 191 #[.int .u8 c] w fun e w'=>e=.returned (.bool (LO c))/\w=w':=by
 by_cases b:48<=c <;> by_cases d:c<=57;all_goals
  go_enter func191,ntmps191
  go_wp2;go_ret;first
   | exact ⟨congrArg (fun v=>Ending.returned (.bool v)) (YH bB).symm,rfl⟩
   | exact ⟨congrArg (fun v=>Ending.returned (.bool v)) (uCu bB).symm,rfl⟩
theorem qU {c:Int} {b:Bool} (h:tU c=b) (w:World) (f:0<=c) (k:c < 256) :
 Calls prog 190 #[.int .u8 c] w fun e w'=>e=.returned (.bool b)/\w=w':=h ▸ MJ c w f k
theorem IR {c:Int} {b:Bool} (h:LO c=b) (w:World) (f:0<=c) (k:c < 256) :
 Calls prog 191 #[.int .u8 c] w fun e w'=>e=.returned (.bool b)/\w=w':=h ▸ UK c w f k
theorem uFr (s:ByteArray) (k:Nat) (h:k < s.size):(sB s)[k]?=some (((s[k]).toNat:Nat):Int):=by
 have e:s.data.toList[k]?=some s[k]:=by
  rw [Ad (by rw [Fv];exact h)];rfl
 simp [sB,e]
theorem rY (b:UInt8):(0:Int)<=((b.toNat:Nat):Int):=by omega
theorem rM (b:UInt8):((b.toNat:Nat):Int) < 256:=by have:=b.toNat_lt;omega
theorem rW {P:Prop} (h:P:=by
 go_ret;exact ⟨congrArg (fun v=>Ending.returned (.bool v)) hn.o.symm,rfl⟩):P:=h
theorem ZU {P:Prop} (h:P:=by
 go_roundw
 case rel=>exact ⟨k+1,by go_num,bB,HN.o,trivial⟩
 case measure=>simp [intOf];omega):P:=h
theorem JY (s:ByteArray) (w:World) (C:s.size<=maxLen) :
 Calls prog 150 #[.string s] w fun e w'=>e=.returned (.bool (vE s))/\w=w':=by
 unfold maxLen at C;by_cases F:s.size=0
 ·have hn:=uA (kO (s:=s) (.inl bB));go_enter func150,ntmps150
  go_wp2_with fail
  exact rW
 by_cases D:255 < s.size
 ·have hn:=uA (kO (s:=s) (.inr D));have q:(255:Int) < (s.size:Int):=by omega
  go_enter func150,ntmps150
  go_wp2_with fail
  exact rW
 have q:(s.size:Int)<=255:=by omega
 have m:0 < s.size:=by omega
 have G:((s.size:Int) == 0)=false:=beq_eq_false_iff_ne.2 bB;have H:decide ((255:Int) < (s.size:Int))=false:=decide_eq_false bB;have E:=uA (uFr s 0 m);cases hl:tU ((s[0].toNat:Nat):Int)
 ·have hn:=uA (CO E.o hl (.inl rfl));have o:=uA hl;clear hl;go_enter func150,ntmps150
  go_wp2_with fail
  refine (qU o.o _ (rY _) (rM _)).mono ?_;rintro e l ⟨rfl,rfl⟩;go_wp2_with fail
  exact rW
 have o:=uA hl;clear hl;go_enter func150,ntmps150
 go_wp2_with fail
 refine (qU o.o _ (rY _) (rM _)).mono ?_;rintro e l ⟨rfl,rfl⟩;go_wp2_with fail
 go_loopw [20] (fun i wr=>∃ k:Nat,i=.int .i64 (k:Int)/\k<=s.size/\Hdd (fD (sB s) k)/\w=wr) (fun i _=>s.size - (intOf i).toNat)
 case atStart=>exact ⟨0,rfl,bB,LZ _,rfl⟩
 case round=>
  obtain ⟨k,rfl,I,u,rfl⟩:=hrel;by_cases x:k < s.size
  ·have J:(k:Int) < (s.size:Int):=bB;have y:=uA (uFr s k x);cases hl:tU ((s[k].toNat:Nat):Int)
   ·have f:=uA hl;cases hg:LO ((s[k].toNat:Nat):Int)
    ·have z:=uA hg;have hn:=uA (CO y.o hl (.inr hg));clear hl hg;go_wp2_with fail
     refine (qU f.o _ (rY _) (rM _)).mono ?_;rintro e l ⟨rfl,rfl⟩;go_wp2_with fail
     refine (IR z.o _ (rY _) (rM _)).mono ?_;rintro e l ⟨rfl,rfl⟩;go_wp2_with fail
     exact rW
    ·have z:=uA hg;have B:k≠0:=fun e=>by
      subst e;rw [o.o] at hl;cases hl
     clear hl;have HN:=uA (jZ u.o y.o (.inr ⟨B,hg⟩));clear hg;go_wp2_with fail
     refine (qU f.o _ (rY _) (rM _)).mono ?_;rintro e l ⟨rfl,rfl⟩;go_wp2_with fail
     refine (IR z.o _ (rY _) (rM _)).mono ?_;rintro e l ⟨rfl,rfl⟩;go_wp2_with fail
     exact ZU
   ·have f:=uA hl;have HN:=uA (jZ u.o y.o (.inl hl));clear hl;go_wp2_with fail
    refine (qU f.o _ (rY _) (rM _)).mono ?_;rintro e l ⟨rfl,rfl⟩;go_wp2_with fail
    exact ZU
  ·obtain rfl:k=s.size:=by omega
   have hn:=uA (sR m bB u.o);go_wp2_with fail
   exact rW
theorem wS {s:ByteArray} {b:Bool} (h:vE s=b) (w:World) (f:s.size<=maxLen) :
 Calls prog 150 #[.string s] w fun e w'=>e=.returned (.bool b)/\w=w':=h ▸ JY s w f
theorem KU {B:Nat} {a w:World} (h:Below B a w) (n:Nat):Below B a (w.drewN n):=⟨h.os,h.tape,h.output,h.size,h.block⟩
section
variable {w w':World} {g n c p:Nat} {A:Option Addr} {xs ys:List Int} {e:Int}
end
theorem uBt (a b:ByteArray):(a.toList == b.toList)=decide (a=b):=by
 rw [D8,beq_iff_eq,decide_eq_true_iff,ByteArray.toList_eq,ByteArray.toList_eq];exact ⟨fun h=>uDs h,fun h=>by rw [h]⟩
end Go.Proofs.YtnkjbjkoffgocaaGreatDoor
