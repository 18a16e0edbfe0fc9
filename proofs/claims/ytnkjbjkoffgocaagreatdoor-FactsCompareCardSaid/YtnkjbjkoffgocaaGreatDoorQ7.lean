import Derived.Test.YtnkjbjkoffgocaaGreatDoorQ5
set_option linter.unusedVariables false
set_option linter.unusedSimpArgs false
set_option maxRecDepth 100000
set_option maxHeartbeats 2000000
namespace Go.Proofs.YtnkjbjkoffgocaaGreatDoor
open Tryz Go.RowKit
def ptN (b:BkV):Nat:=b.stmts.length+1
def uD (l:List BkV) (i:Nat):Nat:=oS ptN (l.take i)
def uF (l:List BkV):Nat:=oS ptN l
theorem mI (l:List BkV):uD l 0=0:=by simp [uD,KB]
theorem zM {l:List BkV} {i:Nat} (h:l.length<=i):uD l i=uF l:=by unfold uD uF;rw [Au h]
theorem vW {l:List BkV} {i:Nat} {b:BkV} (h:l[i]?=some b):uD l (i+1)=uD l i+ptN b:=uC7 h
theorem jY (l:List BkV) (i d:Nat):uD l i<=uD l (i+d):=by
 unfold uD;rw [List.take_add,jT];omega
theorem uO (l:List BkV) {i j:Nat} (h:i<=j):uD l i<=uD l j:=by
 obtain ⟨d,rfl⟩:=Ep h;exact jY l i d
theorem yL (l:List BkV) (i:Nat):uD l i<=uF l:=by
 rw [<-zM (Nat.le_add_left l.length i)];exact jY l i l.length
theorem XQ {l:List BkV} {i j k m:Nat} {a b:BkV} (d:l[i]?=some a) (g:l[j]?=some b) (q:k<=a.stmts.length) (v:m<=b.stmts.length) (e:uD l i+k=uD l j+m):i=j/\k=m:=by
 have o:=vW d;have p:=vW g;unfold ptN at o p;rcases Cl i j with h | h | h
 ·have:=uO l (show i+1<=j from h);omega
 ·subst h;exact ⟨rfl,bB⟩
 ·have:=uO l (show j+1<=i from h);omega
theorem aQ {l:List BkV} {i k:Nat} {a:BkV} (d:l[i]?=some a) (g:k<=a.stmts.length):uD l i+k < uF l:=by
 have e:=vW d;have h:=yL l (i+1);unfold ptN at e;omega
def wA:List BkV->Nat->Option (Nat×Nat)
 | [],_=>none
 | b :: l,p=>if p<=b.stmts.length then some (0,p) else (wA l (p - (b.stmts.length+1))).map fun x=>(x.1+1,x.2)
theorem FC (b:BkV) (l:List BkV) (i:Nat):uD (b :: l) (i+1)=b.stmts.length+1+uD l i:=by
 unfold uD;rw [List.take_succ_cons,dQ];rfl
theorem vI:∀ {l:List BkV} {p i k:Nat},wA l p=some (i,k)->∃ b,l[i]?=some b/\k<=b.stmts.length/\p=uD l i+k
 | [],p,i,k,h=>by cases h
 | b :: l,p,i,k,h=>by
   have e:(if p<=b.stmts.length then some (0,p) else (wA l (p - (b.stmts.length+1))).map fun x=>(x.1+1,x.2))=some (i,k):=h;by_cases d:p<=b.stmts.length
   ·rw [if_pos d] at e;injection e with e;injection e with g j;subst g j;exact ⟨b,rfl,d,by rw [mI];omega⟩
   ·rw [if_neg d] at e;cases hq:wA l (p - (b.stmts.length+1)) with
    | none=>rw [hq] at e;cases e
    | some x=>
      obtain ⟨m,o⟩:=x;rw [hq] at e;injection e with e;injection e with g j;subst g j;obtain ⟨c,q,v,z⟩:=vI hq;have y:p=uD (b :: l) (m+1)+o:=by rw [FC];omega
      exact ⟨c,by simpa using q,v,y⟩
theorem mP:∀ {l:List BkV} {p:Nat},wA l p=none->uF l<=p
 | [],p,h=>by simp [uF,KB]
 | b :: l,p,h=>by
   have e:(if p<=b.stmts.length then some (0,p) else (wA l (p - (b.stmts.length+1))).map fun x=>(x.1+1,x.2))=none:=h;by_cases d:p<=b.stmts.length
   ·rw [if_pos d] at e;cases e
   ·rw [if_neg d] at e;have g:=mP (Option.map_eq_none_iff.1 e);have j:uF (b :: l)=b.stmts.length+1+uF l:=by unfold uF;rw [dQ];rfl
    omega
theorem oB {l:List BkV} {p i k:Nat}:wA l p=some (i,k)↔∃ b,l[i]?=some b/\k<=b.stmts.length/\p=uD l i+k:=by
 refine ⟨vI,?_⟩;rintro ⟨b,d,g,rfl⟩;cases h:wA l (uD l i+k) with
 | none=>exact absurd (mP h) (by have:=aQ d g;omega)
 | some x=>
   obtain ⟨j,m⟩:=x;obtain ⟨c,o,q,e⟩:=vI h;obtain ⟨rfl,rfl⟩:=XQ d o g q e;rfl
theorem rZ {l:List BkV} {p:Nat}:wA l p=none↔uF l<=p:=by
 refine ⟨mP,fun h=>?_⟩;cases e:wA l p with
 | none=>rfl
 | some x=>
   obtain ⟨i,k⟩:=x;obtain ⟨b,d,g,rfl⟩:=vI e;have:=aQ d g;omega
theorem tH {w:World} {B:Nat} {x:BdW} (h:uS w B x) {j:Nat} (g:j < x.blocks.n):∃ p b o,x.blocks.L[j]?=some p/\x.v.blocks[j]?=some p.v/\p.v.stmts.length=p.stmts.n/\p.stmts.n<=maxLen/\x.blocks.A=some ⟨b,o,none⟩/\b < B/\aP w B p/\∀ i u,(cBk p)[i]?=some u->w.cell? ⟨b,o+j*7+i,none⟩=some u:=by
 obtain ⟨p,d⟩:=h.blocks.get g;obtain ⟨b,o,l,m,e,q⟩:=h.blocks.at_ d;refine ⟨p,b,o,d,?_,?_,e.stmts.nm,l,m,e,q⟩
 ·show (x.blocks.L.map BkW.v)[j]?=some p.v;rw [Ar,d];rfl
 ·show (p.stmts.L.map StW.v).length=p.stmts.n;rw [Ao];exact e.stmts.len
theorem eT {w:World} {B:Nat} {x:BdW} (h:uS w B x):x.v.blocks.length=x.blocks.n:=(Ao _).trans h.blocks.len
def vB (l:List BkV) (p:Int):Option (Nat×Nat):=if p < 0 then none else wA l p.toNat
def uCs:Option (Nat×Nat)->Value
 | some x=>.tuple #[.int .i64 (x.1:Int),.int .i64 (x.2:Int),.bool true]
 | none=>.tuple #[.int .i64 0,.int .i64 0,.bool false]
theorem kM {l:List BkV} {p:Int} {i k:Nat} (h:vB l p=some (i,k)):0<=p/\∃ b,l[i]?=some b/\k<=b.stmts.length/\p=(uD l i:Int)+k:=by
 unfold vB at h
 split at h
 ·cases h
 ·obtain ⟨b,d,e,g⟩:=vI h;exact ⟨bB,b,d,e,bB⟩
def tgP (l:List BkV) (q t:Int):Bool:=decide (0<=t/\t < (l.length:Int)/\(uD l t.toNat:Int)=q)
def bQ (l:List BkV) (p q:Int):Bool:=
 match vB l p with
 | none=>false
 | some (i,k)=>match l[i]? with
   | none=>false
   | some b=>if k < b.stmts.length then decide (q=p+1) else b.term.targets.any (tgP l q)
theorem CI {l:List BkV} {p q:Int} {i k:Nat} {b:BkV} (h:vB l p=some (i,k)) (d:l[i]?=some b):bQ l p q=if k < b.stmts.length then decide (q=p+1) else b.term.targets.any (tgP l q):=by
 unfold bQ;rw [h];show (match l[i]? with | none=>false | some b=>if k < b.stmts.length then decide (q=p+1) else b.term.targets.any (tgP l q))=_;rw [d]
theorem GQ {l:List BkV} {p q:Int} (h:vB l p=none):bQ l p q=false:=by
 unfold bQ;rw [h]
theorem TQ {α:Type} (w:World) (f:α->List Value) {k:Nat} (g:∀ x,(f x).length=k) (z:α) (t:TypeId):uM (w.alloc (.cells (f z).toArray t)) (w.heap.size+1) k f (some ⟨w.heap.size,0,none⟩) 1 [z]:=by
 refine ⟨rfl,fun _=>⟨w.heap.size,0,rfl,bB,fun i x d j u e=>?_⟩⟩;have l:j < k:=by have:=(Ah.1 e).1;rwa [g] at this
 have h:i=0:=by
  have:=(Ah.1 d).1;simpa using this
 subst h;obtain rfl:z=x:=by simpa using d
 rw [cell_of_row (w.alloc (.cells (f z).toArray t)) w.heap.size _ (f z).toArray t (0,0) (heap_alloc_new w _)];rw [C9];simpa using e
section
variable {P:Program} {w:World} {α:Type} {f:α->List Value} {k:Nat}
end
theorem uIj (z:Value) (d:z.cells=#[z]) (k:Nat):madeCells z.cells k=(List.replicate k z).toArray:=by
 apply G2
 ·rw [size_madeCells];simp
 ·intro i e g;simp [madeCells,d,Nat.mod_one]
theorem nR {P:Program} (w:World) {g:Array Oper} {d:List Oper} {o:Oper} {a:Act} {Q:Exit->Act->World->Prop}
 (v:o.guard=none) (l c:Operand) (t:TypeId) (j:o.op=Op.makeSlice t l c)
 (e:TypeId) (i:TypeInfo) (z:Value) (y:P.underlying t=some (.slice e)) (B:P.info? e=some i) (C:i.zero=some z) (D:i.size=1) (F:z.cells=#[z])
 (n:Nat) (G:a.eval l=.int .i64 (n:Int)) (H:a.eval c=.int .i64 (n:Int)) (J:i.bytes*n<=281474976710656) (M:n<=1000000)
 (I:wpList P g Q d (a.put o.dst (.slice (some ⟨w.heap.size,0,none⟩) n n)) (w.alloc (.cells (List.replicate n z).toArray e))) :
 wpList P g Q (o :: d) a w:=by
 have m:(i.bytes:Int)*(n:Int)<=281474976710656:=by
  have h:((i.bytes*n:Nat):Int)<=281474976710656:=by omega
  rwa [Fr] at h
 have q:=run_make (P:=P) w t e i z y B C .i64 .i64 n n bB (Fn _) m bB;simp only [A3,D,Ey,uIj z F] at q;refine wpList_plain v fun K p=>?_
 unfold Oper.wp;simp [execOp,j,G,H,q,Result.andThen];exact p _ _ I
def nxI (l:List BkV) (p:Int) (j:Nat):List Int:=((List.range j).map fun (k:Nat)=>(k:Int)).filter (bQ l p)
def mG (l:List BkV) (p:Int):List Int:=nxI l p (uF l)
theorem uC2 (l:List BkV) (p:Int) (j:Nat):(nxI l p j).length<=j:=by
 unfold nxI;refine Ai (D6 _ _) ?_;rw [Ao,C0];exact Ae _
def qN (w:World) (L:List Int) (e:Ending) (w':World):Prop:=∃ A c,e=.returned (.slice A L.length c)/\w'.ownsRow w.heap.size 3 1 (.slice A L.length c) L.length (L.flatMap uX)/\Ab w w'
def edI (l:List BkV) (j:Nat):List Pr:=(List.range j).flatMap fun (k:Nat)=>(mG l (k:Int)).map fun q=>((k:Int),q)
def xF (l:List BkV):List Pr:=edI l (uF l)
def uD5 (w:World) (L:List Pr) (e:Ending) (w':World):Prop:=∃ A c,e=.returned (.slice A L.length c)/\w'.ownsRow w.heap.size 54 2 (.slice A L.length c) L.length (L.flatMap pV)/\Ab w w'
inductive kT (nx:Nat->List Nat) (N0:List Nat):Nat->Prop
 | base {q:Nat} (h:q∈N0):kT nx N0 q
 | step {p q:Nat} (h:kT nx N0 p) (k:q∈nx p):kT nx N0 q
theorem kT.closed {nx:Nat->List Nat} {N0:List Nat} {S:Nat->Prop} {q:Nat} (d:∀ x∈N0,S x) (e:∀ x,S x->∀ y∈nx x,S y) (h:kT nx N0 q):S q:=by
 induction h with
 | base h=>exact d _ h
 | step _ k g=>exact e _ g _ k
section
variable {nx:Nat->List Nat} {n i x:Nat} {N0:List Nat} {seen:List Bool} {L:List Nat}
end
def nxN (l:List BkV) (p:Int):List Nat:=(List.range (uF l)).filter fun (k:Nat)=>bQ l p (k:Int)
def wL (L:List Nat):List Int:=L.map fun (k:Nat)=>(k:Int)
theorem OM (l:List BkV) (p:Int):mG l p=wL (nxN l p):=by
 unfold mG nxI wL nxN;rw [List.filter_map];rfl
theorem KI {L:List Nat} {i x:Nat} (h:L[i]?=some x):(wL L)[i]?=some (x:Int):=by
 unfold wL;rw [Ar,h];rfl
def gH:List Int->Int->List Int
 | [],x=>[x]
 | y :: l,x=>if y < x then y :: gH l x else if x < y then x :: y :: l else y :: l
theorem sV:∀ {l:List Int} {x z:Int},z∈gH l x↔z=x\/z∈l
 | [],x,z=>by simp [gH]
 | y :: l,x,z=>by
   unfold gH
   split
   ·rw [Av,sV,Av];exact ⟨fun h=>h.elim (fun h=>.inr (.inl h)) fun h=>h.imp id .inr,fun h=>h.elim (fun h=>.inr (.inl h)) fun h=>h.imp id .inr⟩
   ·split
    ·rw [Av]
    ·have e:x=y:=bB;subst e;rw [Av];exact ⟨fun h=>.inr h,fun h=>h.elim .inl id⟩
theorem IL:∀ {l:List Int} {x:Int},l.Pairwise (· < ·)->(gH l x).Pairwise (· < ·)
 | [],x,_=>by simp [gH]
 | y :: l,x,h=>by
   rw [Dq] at h;unfold gH
   split
   ·rename_i d;rw [Dq];refine ⟨fun z hz=>?_,IL h.2⟩;rcases sV.1 hz with rfl | hz
    ·exact d
    ·exact h.1 z hz
   ·split
    ·rename_i _ e;rw [Dq,Dq];refine ⟨fun z hz=>?_,h⟩;rcases Av.1 hz with rfl | hz
     ·exact e
     ·have:=h.1 z hz;omega
    ·rw [Dq];exact h
theorem JH:∀ (l:List Int) (x:Int),(gH l x).length<=l.length+1
 | [],x=>Ae _
 | y :: l,x=>by
   unfold gH
   split
   ·rw [As,As];have:=JH l x;omega
   ·split
    ·exact Ae _
    ·exact Cc _
def qW (l:List Int):List Int:=l.foldl gH []
theorem CG:∀ {l d:List Int} {z:Int},z∈l.foldl gH d↔z∈d\/z∈l
 | [],d,z=>by simp
 | x :: l,d,z=>by
   rw [E4,CG,sV,Av];exact ⟨fun h=>h.elim (fun h=>h.elim (fun h=>.inr (.inl h)) .inl) (fun h=>.inr (.inr h)),fun h=>h.elim (fun h=>.inl (.inr h)) fun h=>h.elim (fun h=>.inl (.inl h)) .inr⟩
theorem BO:∀ {l d:List Int},d.Pairwise (· < ·)->(l.foldl gH d).Pairwise (· < ·)
 | [],d,h=>h
 | x :: l,d,h=>by
   rw [E4];exact BO (IL h)
theorem CP:∀ (l d:List Int),(l.foldl gH d).length<=d.length+l.length
 | [],d=>Ae _
 | x :: l,d=>by
   rw [E4,As];have e:=CP l (gH d x);have g:=JH d x;omega
theorem cJ {l:List Int} {z:Int}:z∈qW l↔z∈l:=by unfold qW;rw [CG];simp
theorem LK (l:List Int):(qW l).Pairwise (· < ·):=BO List.Pairwise.nil
theorem GI (l:List Int):(qW l).length<=l.length:=by
 have:=CP l [];unfold qW;simpa using this
def opU (o:OpV):List Int:=if o.kind=0\/o.kind=1 then [o.pl.l] else []
def mN (l:List OpV):List Int:=l.flatMap opU
theorem cY (l:List OpV):(mN l).length<=l.length:=by
 induction l with
 | nil=>exact Ae _
 | cons o l d=>
   have e:mN (o :: l)=opU o++mN l:=by unfold mN;rw [Ct]
   have h:(opU o).length<=1:=by unfold opU;split <;> simp
   rw [e,Aw,As];omega
def stU (s:StV):List Int:=if s.kind=0 then mN s.rv.args++((if s.rv.kind=1 then [s.rv.pl.l] else [])++(if 0 < s.pl.ps.length then [s.pl.l] else [])) else []
def tmU (t:TmV):List Int:=mN t.args++if t.kind=4\/t.kind=3/\0 < t.pl.ps.length then [t.pl.l] else []
def zZ (b:BkV) (k:Nat):List Int:=match b.stmts[k]? with
 | some s=>stU s
 | none=>tmU b.term
def stD (s:StV):Option Int:=if s.kind=1 then some s.loc else if s.kind=0/\s.pl.ps.length=0 then some s.pl.l else none
def tmD (t:TmV):Option Int:=if t.kind=3/\t.pl.ps.length=0 then some t.pl.l else none
def oY (b:BkV) (k:Nat):Option Int:=match b.stmts[k]? with
 | some s=>stD s
 | none=>tmD b.term
def atI {α:Type} (z:α) (f:BkV->Nat->α) (l:List BkV) (p:Int):α:=match vB l p with
 | none=>z
 | some (i,k)=>match l[i]? with
   | none=>z
   | some b=>f b k
def mJ (l:List BkV) (p:Int):List Int:=atI [] (fun b k=>qW (zZ b k)) l p
def UF (l:List BkV) (p:Int):Option Int:=atI none oY l p
theorem sI {α:Type} {z:α} {f:BkV->Nat->α} {l:List BkV} {p:Int} (h:vB l p=none):atI z f l p=z:=by unfold atI;rw [h]
theorem LH {α:Type} {z:α} {f:BkV->Nat->α} {l:List BkV} {p:Int} {i k:Nat} {b:BkV} (h:vB l p=some (i,k)) (d:l[i]?=some b):atI z f l p=f b k:=by
 unfold atI;rw [h];show (match l[i]? with | none=>z | some b=>f b k)=_;rw [d]
def DQ (l:List BkV):Prop:=∀ b∈l,(∀ s∈b.stmts,s.rv.args.length<=900000)/\b.term.args.length<=900000
theorem GB (i n:Int) (w:World):Calls prog 156 #[.int .i64 i,.int .i64 n] w fun e w'=>e=.returned (.bool (vD i n))/\w=w':=by
 by_cases d:0<=i
 ·by_cases g:i < n
  ·have e:Hdd (vD i n=true):=uW.2 ⟨d,g⟩;go_enter func156,ntmps156
   go_wp2;go_ret;exact ⟨congrArg (fun v=>Ending.returned (.bool v)) e.o.symm,rfl⟩
  ·have e:Hdd (vD i n=false):=wP.2 bB;have h:decide (i < n)=false:=(by simpa using g);go_enter func156,ntmps156
   go_wp2;go_ret;exact ⟨congrArg (fun v=>Ending.returned (.bool v)) e.o.symm,rfl⟩
 ·have e:Hdd (vD i n=false):=wP.2 bB;have h:decide (0<=i)=false:=by simpa using d
  go_enter func156,ntmps156
  go_wp2;go_ret;exact ⟨congrArg (fun v=>Ending.returned (.bool v)) e.o.symm,rfl⟩
theorem uZ {i n:Int} {b:Bool} (h:vD i n=b) (w:World):Calls prog 156 #[.int .i64 i,.int .i64 n] w fun e w'=>e=.returned (.bool b)/\w=w':=h ▸ GB i n w
theorem NH (p q:Pr) (w:World):Calls prog 157 #[.agg #[.int .i64 p.1,.int .i64 p.2],.agg #[.int .i64 q.1,.int .i64 q.2]] w fun e w'=>e=.returned (.bool (gG p q))/\Ab w w':=by
 obtain ⟨a,b⟩:=p;obtain ⟨c,d⟩:=q;have g:=uA (((Below.refl w.heap.size w).alloc (Ae _) (.cells #[.int .i64 a,.int .i64 b] 54)).alloc nF (.cells #[.int .i64 c,.int .i64 d] 54));by_cases j:a < c
 ·have e:=uA (show gG (a,b) (c,d)=true by unfold gG;simp;omega);go_enter func157,ntmps157
  go_wp2;go_ret;exact ⟨congrArg (fun v=>Ending.returned (.bool v)) e.o.symm,g.o⟩
 ·have l:decide (a < c)=false:=by simpa using j
  by_cases h:a=c
  ·subst h;have e:=uA (show gG (a,b) (a,d)=decide (b < d) by unfold gG;simp);go_enter func157,ntmps157
   go_wp2;go_ret;exact ⟨congrArg (fun v=>Ending.returned (.bool v)) e.o.symm,g.o⟩
  ·have m:(a == c)=false:=(by simpa using h);have e:=uA (show gG (a,b) (c,d)=false by unfold gG;simp;omega);clear h;go_enter func157,ntmps157
   go_wp2;go_ret;exact ⟨congrArg (fun v=>Ending.returned (.bool v)) e.o.symm,g.o⟩
theorem BV {p q:Pr} {v:Bool} (h:gG p q=v) (w:World):Calls prog 157 #[.agg #[.int .i64 p.1,.int .i64 p.2],.agg #[.int .i64 q.1,.int .i64 q.2]] w fun e w'=>e=.returned (.bool v)/\Ab w w':=h ▸ NH p q w
theorem TW {q:Option Pr} {p:Pr} {n:Int} (h:vD p.1 n=false):yG q p n=3:=by unfold yG;rw [if_pos (.inl h)]
theorem SP {q:Option Pr} {p:Pr} {n:Int} (h:vD p.2 n=false):yG q p n=3:=by unfold yG;rw [if_pos (.inr h)]
theorem YV {q:Option Pr} {p:Pr} {n:Int} (d:vD p.1 n=true) (e:vD p.2 n=true) (h:p.1=p.2):yG q p n=2:=by unfold yG;rw [if_neg (by rw [d,e];simp),if_pos h]
theorem NQ {p:Pr} {n:Int} (d:vD p.1 n=true) (e:vD p.2 n=true) (h:p.1≠p.2):yG none p n=0:=by unfold yG;rw [if_neg (by rw [d,e];simp),if_neg h]
theorem YC {q p:Pr} {n:Int} (d:vD p.1 n=true) (e:vD p.2 n=true) (h:p.1≠p.2) (g:gG q p=true):yG (some q) p n=0:=by unfold yG;rw [if_neg (by rw [d,e];simp),if_neg h];simp [g]
theorem TP {q p:Pr} {n:Int} (d:vD p.1 n=true) (e:vD p.2 n=true) (h:p.1≠p.2) (g:gG q p=false):yG (some q) p n=21:=by unfold yG;rw [if_neg (by rw [d,e];simp),if_neg h];simp [g]
theorem FJ {l:List Pr} {n:Int} {k:Nat} {p:Pr} {v:Int} (h:l[k]?=some p) (d:yG (prv l k) p n=v) (e:v≠0) (g:xP l n=nE n (prv l k) (l.drop k)):xP l n=v:=by
 rw [g,BI h,d,if_neg e]
theorem WN {l:List Pr} {n:Int} {k:Nat} {p:Pr} (h:l[k]?=some p) (d:yG (prv l k) p n=0) (e:xP l n=nE n (prv l k) (l.drop k)):xP l n=nE n (prv l (k+1)) (l.drop (k+1)):=by
 rw [e,BI h,d,if_pos rfl]
theorem xJ {a b:Int} (h:a=b):Ending.returned (.int .i64 b)=.returned (.int .i64 a):=by rw [h]
theorem rS (A:Option Addr) (n c:Nat) (L:List Pr) (rg:Int) (w:World) (R:Prs w w.heap.size A n L) (hn:n<=65535) :
 Calls prog 113 #[.slice A n c,.int .i64 rg] w fun e w'=>e=.returned (.int .i64 (xP L rg))/\Ab w w':=by
 have T:=uA R;have HL:=uA R.len;have HC:=uA (uBb (l:=L) (by rw [R.len];exact hn) rg);clear R;go_enter func113,ntmps113
 go_wp2;go_loopw [12] (fun i wr=>∃ k:Nat,i=.int .i64 (k:Int)/\k<=n/\Hdd (xP L rg=nE rg (prv L k) (L.drop k))/\Ab w wr) (fun i _=>n - (intOf i).toNat)
 case atStart=>exact ⟨0,rfl,Am _,HC.o,Below.refl _ _⟩
 case round=>
  obtain ⟨k,rfl,hk,I,z⟩:=hrel;by_cases V:k < n
  ·obtain ⟨p,W⟩:=T.o.get V;have N:=uA W;obtain ⟨b,o,rfl,X,Y,c0,c1⟩:=(T.o.below z).at_ W;have a1:(k:Int) < (n:Int):=bB;have C:=Ap X z.size;obtain ⟨⟨r1,r2⟩,r3,r4⟩:=Y;obtain ⟨x,y⟩:=p;simp only [] at r1 r2 r3 r4 c0 c1;have G:=uA (z.alloc z.size (.cells #[.int .i64 x,.int .i64 y] 54));clear W;cases h1:vD x rg
   ·have d:=uA (FJ N.o (TW h1) eW I.o);have g:=uA h1;clear h1 z;go_wp2_with (go_at_call 156;refine (uZ g.o _).mono ?_;rintro e m ⟨rfl,rfl⟩)
    go_ret;exact ⟨xJ d.o,G.o⟩
   ·have g:=uA h1;cases h2:vD y rg
    ·have d:=uA (FJ N.o (SP h2) eW I.o);have D:=uA h2;clear h1 h2 z;go_wp2_with (first | (go_at_call 156;refine (uZ g.o _).mono ?_;clear g;rintro e m ⟨rfl,rfl⟩) | (go_at_call 156;refine (uZ D.o _).mono ?_;rintro e m ⟨rfl,rfl⟩))
     go_ret;exact ⟨xJ d.o,G.o⟩
    ·have D:=uA h2;have Z:=uA h1;by_cases F:x=y
     ·subst F;have d:=uA (FJ N.o (YV h1 h2 rfl) eW I.o);clear h1 h2 z;go_wp2_with (first | (go_at_call 156;refine (uZ g.o _).mono ?_;clear g;rintro e m ⟨rfl,rfl⟩) | (go_at_call 156;refine (uZ D.o _).mono ?_;rintro e m ⟨rfl,rfl⟩))
      go_ret;exact ⟨xJ d.o,G.o⟩
     ·have t1:(x == y)=false:=(by simpa using F);have J:=uA F;clear h1 h2 F;rcases Ca k with h0 | h0
      ·have U:=uA (show prv L k=none by unfold prv;rw [if_pos h0]);have d:=uA (WN N.o (by rw [U.o];exact NQ Z.o D.o J.o) I.o);have tk:decide ((0:Int) < (k:Int))=false:=by simp;omega
       have a3:decide (0 < k)=false:=by simp;omega
       clear z h0;go_wp2_with (first | (go_at_call 156;refine (uZ g.o _).mono ?_;clear g;rintro e m ⟨rfl,rfl⟩) | (go_at_call 156;refine (uZ D.o _).mono ?_;rintro e m ⟨rfl,rfl⟩))
       go_quiet (fail)
       go_wp2;go_roundw
       case rel=>exact ⟨k+1,by go_num,bB,d.o,tyN G.o _⟩
       case measure=>simp [intOf];omega
      ·obtain ⟨j,rfl⟩:∃ j,k=j+1:=⟨k - 1,bB⟩;obtain ⟨q,hq⟩:=T.o.get (show j < n by omega);obtain ⟨b',o',e',_,_,d0,d1⟩:=(T.o.below z).at_ hq;cases e';have U:Hdd (prv L (j+1)=some q):=uAs hq;obtain ⟨u,v⟩:=q;simp only [] at d0 d1;have tk:decide ((0:Int) < (j:Int)+1)=true:=by rw [decide_eq_true_iff];omega
       have Q:=uA fun (w':World) (B:Ab (wr.alloc (.cells #[.int .i64 x,.int .i64 y] 54)) w')=>
        show Ab (wr.alloc (.cells #[.int .i64 x,.int .i64 y] 54)) w'/\w'.cell? ⟨b,o+j*2,none⟩=some (.int .i64 u)/\w'.cell? ⟨b,o+j*2+1,none⟩=some (.int .i64 v)/\w'.cell? ⟨wr.heap.size,0,none⟩=some (.int .i64 x)/\w'.cell? ⟨wr.heap.size,1,none⟩=some (.int .i64 y) from
        ⟨B,(B.cell (p:=⟨b,o+j*2,none⟩) (by rw [Ak];exact Nat.lt_succ_of_lt C)).trans ((Ef wr _ _ C).trans d0),(B.cell (p:=⟨b,o+j*2+1,none⟩) (by rw [Ak];exact Nat.lt_succ_of_lt C)).trans ((Ef wr _ _ C).trans d1),
         (B.cell (p:=⟨wr.heap.size,0,none⟩) nF).trans (by simp [go_sem]),(B.cell (p:=⟨wr.heap.size,1,none⟩) nF).trans (by simp [go_sem])⟩
       have H:∀ v0,gG (u,v) (x,y)=v0->Hdd (gG (u,v) (x,y)=v0):=fun _ h=>h
       have a4:(0:Int)<=(j:Int):=Ch _;have a5:(j:Int) < (n:Int):=bB;have a2:j < n:=bB;have a6:IntKind.i64.wrap ((j:Int)+1 - 1)=(j:Int):=by rw [De];omega
       have a7:IntKind.i64.wrap (j:Int)=(j:Int):=by rw [De];omega
       clear z hq;cases hl:gG (u,v) (x,y)
       ·have d:=uA (FJ N.o (show yG (prv L (j+1)) (x,y) rg=21 by rw [U.o];exact TP Z.o D.o J.o hl) eW I.o);have K:=uA hl;clear hl H;go_wp2_with (first | (go_at_call 156;refine (uZ g.o _).mono ?_;clear g;rintro e m ⟨rfl,rfl⟩) | (go_at_call 156;refine (uZ D.o _).mono ?_;rintro e m ⟨rfl,rfl⟩))
        go_region_held3 (fun w'=>Ab (wr.alloc (.cells #[.int .i64 x,.int .i64 y] 54)) w'/\w'.cell? ⟨b,o+j*2,none⟩=some (.int .i64 u)/\w'.cell? ⟨b,o+j*2+1,none⟩=some (.int .i64 v)/\w'.cell? ⟨wr.heap.size,0,none⟩=some (.int .i64 x)/\w'.cell? ⟨wr.heap.size,1,none⟩=some (.int .i64 y))
         (first | exact Q.o _ (by assumption) | exact Q.o _ (Below.refl _ _) | exact Q.o _ (Below.refl _ _).drew)
         ((go_at_call 157;go_split_ands;refine (BV K.o _).mono ?_;rintro e m ⟨rfl,M⟩;have a0:=Below.trans (by assumption:Below (wr.alloc (.cells #[.int .i64 x,.int .i64 y] 54)).heap.size _ _) (M.mono (Below.size (by assumption:Below (wr.alloc (.cells #[.int .i64 x,.int .i64 y] 54)).heap.size _ _)))))
        all_goals
         go_split_ands;go_wp2;go_ret;exact ⟨xJ d.o,G.o.trans (Below.mono (by assumption) G.o.size)⟩
       ·have d:=uA (WN N.o (show yG (prv L (j+1)) (x,y) rg=0 by rw [U.o];exact YC Z.o D.o J.o hl) I.o);have K:=uA hl;clear hl H;go_wp2_with (first | (go_at_call 156;refine (uZ g.o _).mono ?_;clear g;rintro e m ⟨rfl,rfl⟩) | (go_at_call 156;refine (uZ D.o _).mono ?_;rintro e m ⟨rfl,rfl⟩))
        go_region_held3 (fun w'=>Ab (wr.alloc (.cells #[.int .i64 x,.int .i64 y] 54)) w'/\w'.cell? ⟨b,o+j*2,none⟩=some (.int .i64 u)/\w'.cell? ⟨b,o+j*2+1,none⟩=some (.int .i64 v)/\w'.cell? ⟨wr.heap.size,0,none⟩=some (.int .i64 x)/\w'.cell? ⟨wr.heap.size,1,none⟩=some (.int .i64 y))
         (first | exact Q.o _ (by assumption) | exact Q.o _ (Below.refl _ _) | exact Q.o _ (Below.refl _ _).drew)
         ((go_at_call 157;go_split_ands;refine (BV K.o _).mono ?_;rintro e m ⟨rfl,M⟩;have a0:=Below.trans (by assumption:Below (wr.alloc (.cells #[.int .i64 x,.int .i64 y] 54)).heap.size _ _) (M.mono (Below.size (by assumption:Below (wr.alloc (.cells #[.int .i64 x,.int .i64 y] 54)).heap.size _ _)))))
        all_goals
         go_split_ands;go_wp2;go_roundw
         case rel=>exact ⟨j+1+1,by go_num,bB,d.o,G.o.trans (Below.mono (by assumption) G.o.size)⟩
         case measure=>simp [intOf];omega
  ·obtain rfl:k=n:=by omega
   have d:Hdd (xP L rg=0):=I.o.trans (PO (by rw [HL.o];exact Ae _));go_wp2;go_ret;exact ⟨xJ d.o,z⟩
theorem CW (A:Option Addr) (n c:Nat) (rg:Int) (w:World) (h:65535 < n) (d:n<=maxLen) :
 Calls prog 113 #[.slice A n c,.int .i64 rg] w fun e w'=>e=.returned (.int .i64 15)/\Ab w w':=by
 have g:(65535:Int) < (n:Int):=by omega
 unfold maxLen at d;go_enter func113,ntmps113
 go_wp2;go_ret;exact ⟨rfl,Below.refl _ _⟩
theorem FM (A:Option Addr) (n c:Nat) (L:List Pr) (rg:Int) (w:World) (d:Prs w w.heap.size A n L) (g:n<=maxLen) :
 Calls prog 113 #[.slice A n c,.int .i64 rg] w fun e w'=>e=.returned (.int .i64 (xP L rg))/\Ab w w':=by
 rcases Bs 65535 n with h | h
 ·rw [CD (by rw [d.len];exact h)];exact CW A n c rg w h g
 ·exact rS A n c L rg w d h
theorem cU {A:Option Addr} {n c:Nat} {L:List Pr} {rg v:Int} (h:xP L rg=v) (w:World) (d:Prs w w.heap.size A n L) (g:n<=maxLen) :
 Calls prog 113 #[.slice A n c,.int .i64 rg] w fun e w'=>e=.returned (.int .i64 v)/\Ab w w':=h ▸ FM A n c L rg w d g
theorem wH {w:World} {base:Nat} {e:TypeId} {d n:Nat} {v:Value} {xs:List Value} (h:w.ownsRow base e d v n xs):∃ A c,v=.slice A n c/\n<=c/\c<=maxLen:=by
 rcases h.2 with ⟨rfl,j⟩ | ⟨g,l,m,rfl,_,_,o,p,_⟩
 ·exact ⟨none,0,by rw [j],bB,Am _⟩
 ·exact ⟨_,_,rfl,o,p⟩
theorem iX (w:World) (x:Int) (t:TypeId):∀ j u,(vC [x])[j]?=some u->(w.alloc (.cells #[.int .i64 x] t)).cell? ((⟨w.heap.size,0,none⟩:Addr).add j)=some u:=
 Bd (heap_alloc_new w _)
theorem fV:∀ l:List Int,l.flatMap uX=vC l
 | []=>rfl
 | x :: l=>by rw [Ct,fV l];rfl
theorem OX {w:World} {lo n c:Nat} {A:Option Addr} {L:List Int} (h:w.ownsRow lo 3 1 (.slice A n c) n (L.flatMap uX)):Rd w w.heap.size A n (vC L):=by
 rw [fV] at h;exact Rd.of_own h
def lvN (l:List BkV) (x:Int) (p:Nat):List Nat:=if UF l (p:Int)=some x then [] else nxN l (p:Int)
def zC (l:List BkV) (x:Int) (p:Nat):Prop:=∃ q:Nat,kT (lvN l x) [p] q/\x∈mJ l (q:Int)
noncomputable def lvB (l:List BkV) (x:Int) (p:Nat):Bool:=@decide (zC l x p) (Classical.propDecidable _)
theorem dU {l:List BkV} {x:Int} {p:Nat}:lvB l x p=true↔zC l x p:=by unfold lvB;exact @decide_eq_true_iff _ (Classical.propDecidable _)
theorem uGf {l:List BkV} {x:Int} {p:Nat} (h:¬zC l x p):lvB l x p=false:=by
 cases e:lvB l x p with
 | false=>rfl
 | true=>exact absurd (dU.1 e) h
abbrev SlV:=Option Addr×Nat×Nat
section
variable {w w':World} {lo lo':Nat} {A A':Option Addr} {c c':Nat} {LL:List (List Int)} {S:List SlV} {L:List Int} {s:SlV}
end
noncomputable def lvI (l:List BkV) (p j:Nat):List Int:=((List.range j).map fun (k:Nat)=>(k:Int)).filter fun x=>lvB l x p
theorem lK {l:List BkV} {p j:Nat} {x:Int}:x∈lvI l p j↔(0<=x/\x < (j:Int))/\zC l x p:=by
 unfold lvI;rw [Cx,Bw,dU];refine ⟨fun ⟨⟨k,d,e⟩,h⟩=>⟨?_,h⟩,fun ⟨g,h⟩=>⟨⟨x.toNat,B1.2 bB,bB⟩,h⟩⟩;have:=B1.1 d;omega
noncomputable def uBz (l:List BkV) (n j:Nat):List (List Int):=(List.range j).map fun p=>lvI l p n
theorem uB5 (l:List BkV) (n:Nat) {j p:Nat} (h:p < j):(uBz l n j)[p]?=some (lvI l p n):=by
 unfold uBz;rw [Ar,List.getElem?_range h];rfl
noncomputable def jU (l:List BkV) (n:Nat):List (List Int):=uBz l n (uF l)
def EI (l:List Int) (z:Int):Int:=(l[z.toNat]?).getD 0
def uIm (T:List Ty) (ps:List Pr) (d:Int) (t r:Int) (s:Nat):Prop:=wO T t (s:Int)/\out ps d r (s:Int)=true
def RgT (T:List Ty) (ps:List Pr) (d:Nat) (t r:Int) (k:Nat):Prop:=∃ s,s < k/\uIm T ps (d:Int) t r s
def RgP (T:List Ty) (lc:List Int) (ps:List Pr) (e:Nat) (d:List Int) (r:Int):Prop:=∃ z∈d,RgT T ps e (EI lc z) r e
noncomputable def rgB (T:List Ty) (lc:List Int) (ps:List Pr) (e:Nat) (d:List Int) (r:Int):Bool:=@decide (RgP T lc ps e d r) (Classical.propDecidable _)
theorem EL {T:List Ty} {lc:List Int} {ps:List Pr} {e:Nat} {d:List Int} {r:Int}:rgB T lc ps e d r=true↔RgP T lc ps e d r:=by unfold rgB;exact @decide_eq_true_iff _ (Classical.propDecidable _)
theorem uF2 {T:List Ty} {lc:List Int} {ps:List Pr} {g:Nat} {d:List Int} {r:Int} (h:¬RgP T lc ps g d r):rgB T lc ps g d r=false:=by
 cases e:rgB T lc ps g d r with
 | false=>rfl
 | true=>exact absurd (EL.1 e) h
def NO (f:List Int->Int->Bool) (LL:List (List Int)) (r p:Nat):List Pr:=((List.range p).filter fun q=>f ((LL[q]?).getD []) (r:Int)).map fun (q:Nat)=>((r:Int),(q:Int))
theorem ZB (f:List Int->Int->Bool) (LL:List (List Int)) (r p:Nat):(NO f LL r p).length<=p:=by
 unfold NO;rw [Ao];refine Ai (D6 _ _) ?_;rw [C0];exact Ae _
theorem YF {f:List Int->Int->Bool} {LL:List (List Int)} {r p:Nat} {z:Pr}:z∈NO f LL r p↔∃ q,q < p/\f ((LL[q]?).getD []) (r:Int)=true/\z=((r:Int),(q:Int)):=by
 unfold NO;simp only [Bw,Cx,B1];exact ⟨fun ⟨q,⟨d,g⟩,e⟩=>⟨q,d,g,e.symm⟩,fun ⟨q,d,g,e⟩=>⟨q,⟨d,g⟩,e.symm⟩⟩
def dZ (f:List Int->Int->Bool) (LL:List (List Int)) (j:Nat):List Pr:=(List.range j).flatMap fun r=>NO f LL r LL.length
theorem PX (f:List Int->Int->Bool) (LL:List (List Int)) (j:Nat):dZ f LL (j+1)=dZ f LL j++NO f LL j LL.length:=by
 unfold dZ;rw [Dx,Bk];simp
theorem WR (f:List Int->Int->Bool) (LL:List (List Int)) (j:Nat):(dZ f LL j).length<=j*LL.length:=by
 induction j with
 | zero=>exact Am _
 | succ j d=>
   rw [PX,Aw,G9];exact Nat.add_le_add d (ZB _ _ _ _)
theorem VL {f:List Int->Int->Bool} {LL:List (List Int)} {j:Nat} {z:Pr}:z∈dZ f LL j↔∃ r q,r < j/\q < LL.length/\f ((LL[q]?).getD []) (r:Int)=true/\z=((r:Int),(q:Int)):=by
 unfold dZ;simp only [Dt,B1,YF];exact ⟨fun ⟨r,d,q,g,h,e⟩=>⟨r,q,d,g,h,e⟩,fun ⟨r,q,d,g,h,e⟩=>⟨r,d,q,g,h,e⟩⟩
noncomputable def BX (x:BdW):List Pr:=dZ (rgB (tys x.types.L) (lcs x.locals.L) x.outl.L x.regions.n) (jU x.v.blocks x.locals.n) x.regions.n
def ME (w:World) (P:List Pr) (e:Ending) (w':World):Prop:=∃ A c,e=.returned (.tuple #[.slice A P.length c,.int .i64 0])/\w'.ownsRow w.heap.size 54 2 (.slice A P.length c) P.length (P.flatMap pV)/\Ab w w'
def nT (L:List Ty) (s:Int):Option Ty:=if 0<=s then L[s.toNat]? else none
theorem iF {L:List Ty} {i:Nat}:nT L (i:Int)=L[i]?:=by unfold nT;rw [if_pos (Ch _),A3]
theorem dG {L:List Ty} {s:Int} {a:Ty} (h:nT L s=some a):∃ i:Nat,s=(i:Int)/\L[i]?=some a:=by
 unfold nT at h
 split at h
 ·rename_i d;exact ⟨s.toNat,(Dv d).symm,h⟩
 ·cases h
theorem JD {L:List Ty} {s:Int} {a:Ty} (h:nT L s=some a):0<=s/\s < (L.length:Int):=by
 obtain ⟨i,rfl,h⟩:=dG h;have:=(Ah.1 h).1;omega
def xM (a b:Ty):List Pr:=if a.kind=3 then (a.elem,b.elem) :: (if a.mut_=true then [(b.elem,a.elem)] else []) else if a.kind=4 then a.fields.zip b.fields else []
def zJ (O:Int->Int->Bool) (a b:Ty):Bool:=
 if a.kind≠b.kind then false
 else if a.kind=0\/a.kind=1\/a.kind=2 then true
 else if a.kind=3 then (a.mut_ == b.mut_) && O a.region b.region
 else if a.kind=4 then decide (a.fields.length=b.fields.length)
 else false
inductive Sub (O:Int->Int->Bool) (L:List Ty):Int->Int->Prop
 | mk {s t:Int} {a b:Ty}:nT L s=some a->nT L t=some b->zJ O a b=true->(∀ p:Pr,p∈xM a b->Sub O L p.1 p.2)->Sub O L s t
noncomputable def sub (O:Int->Int->Bool) (L:List Ty) (s t:Int):Bool:=@decide (Sub O L s t) (Classical.propDecidable _)
theorem DZ {O:Int->Int->Bool} {L:List Ty} {s t:Int}:sub O L s t=true↔Sub O L s t:=by unfold sub;exact @decide_eq_true_iff _ (Classical.propDecidable _)
theorem uEa {O:Int->Int->Bool} {L:List Ty} {s t:Int}:sub O L s t=false↔¬Sub O L s t:=by rw [<-DZ];simp
section
variable {O:Int->Int->Bool} {L:List Ty} {r:Int} {s t u:Int} {a b c:Ty}
theorem Sub.inv (h:Sub O L s t):∃ a b,nT L s=some a/\nT L t=some b/\zJ O a b=true/\∀ p:Pr,p∈xM a b->Sub O L p.1 p.2:=by
 cases h with
 | mk d e g j=>exact ⟨_,_,d,e,g,j⟩
theorem Sub.at_ (h:Sub O L s t) (g:nT L s=some a) (j:nT L t=some b):zJ O a b=true/\∀ p:Pr,p∈xM a b->Sub O L p.1 p.2:=by
 obtain ⟨o,q,d,e,l,m⟩:=h.inv;rw [g] at d;injection d with d;subst d;rw [j] at e;injection e with e;subst e;exact ⟨l,m⟩
theorem TH (h:zJ O a b=true):a.kind=b.kind:=by
 unfold zJ at h;by_cases e:a.kind=b.kind
 ·exact e
 ·rw [if_pos e] at h;cases h
theorem CK (e:a.kind=b.kind) (h:a.kind=0\/a.kind=1\/a.kind=2):zJ O a b=true:=by unfold zJ;rw [if_neg (fun h=>h e),if_pos h]
theorem MV (e:a.kind=b.kind) (d:a.kind=3) (g:a.mut_=b.mut_) (j:O a.region b.region=true):zJ O a b=true:=by
 unfold zJ;rw [if_neg (fun h=>h e),if_neg bB,if_pos d,g,j];simp
theorem lO (e:a.kind=b.kind) (d:a.kind=4) (g:a.fields.length=b.fields.length):zJ O a b=true:=by
 unfold zJ;rw [if_neg (fun h=>h e),if_neg bB,if_neg bB,if_pos d];simpa using g
theorem dH (d:a.kind=3):xM a b=(a.elem,b.elem) :: (if a.mut_=true then [(b.elem,a.elem)] else []):=by unfold xM;rw [if_pos d]
theorem iO (d:a.kind=4):xM a b=a.fields.zip b.fields:=by unfold xM;rw [if_neg bB,if_pos d]
theorem eP (h:a.kind≠3) (d:a.kind≠4):xM a b=[]:=by unfold xM;rw [if_neg h,if_neg d]
theorem MI {xs ys:List Int} {p:Pr} (h:p∈xs.zip ys):∃ i:Nat,xs[i]?=some p.1/\ys[i]?=some p.2:=by
 obtain ⟨i,d⟩:=B2 h;exact ⟨i,Gd.1 d⟩
theorem UV (h:TyOk L r) (o:nT L s=some a) (q:nT L t=some b) (F:a.kind=b.kind) {p:Pr} (hn:p∈xM a b):0<=p.1/\0<=p.2/\p.1+p.2 < s+t/\p.1 < (L.length:Int)/\p.2 < (L.length:Int):=by
 obtain ⟨i,rfl,d⟩:=dG o;obtain ⟨j,rfl,g⟩:=dG q;have v:=(Ah.1 d).1;have y:=(Ah.1 g).1;by_cases l:a.kind=3
 ·rw [dH l] at hn;have z:=h.part d (p:=a.elem) (by rw [xN l];simp);have B:=h.part g (p:=b.elem) (by rw [xN bB];simp);rcases Av.1 hn with rfl | hn
  ·simp only [];omega
  ·split at hn
   ·have e:p=(b.elem,a.elem):=(by simpa using hn);subst e;simp only [];omega
   ·cases hn
 ·by_cases m:a.kind=4
  ·rw [iO m] at hn;obtain ⟨k,C,D⟩:=MI hn;have z:=h.part d (p:=p.1) (by rw [vY m];exact Aj C);have B:=h.part g (p:=p.2) (by rw [vY bB];exact Aj D);omega
  ·rw [eP l m] at hn;cases hn
theorem PK (h:TyOk L r) {M:List Pr} (o:∀ p∈M,∃ a b,nT L p.1=some a/\nT L p.2=some b/\zJ O a b=true/\∀ q∈xM a b,q∈M):∀ p∈M,Sub O L p.1 p.2:=by
 have d:∀ n:Nat,∀ p∈M,(p.1+p.2).toNat < n->Sub O L p.1 p.2:=by
  intro n
  induction n with
  | zero=>intro p _ h;omega
  | succ n v=>
    intro p e y;obtain ⟨a,b,g,j,l,z⟩:=o p e;refine .mk g j l fun q m=>v q (z q m) ?_
    have:=UV h g j (TH l) m;omega
 intro p e;exact d _ p e (Dr _)
theorem LJ (h:TyOk L r) (y:∀ x,0<=x->x < r->O x x=true):∀ (n:Nat) (s:Int) (a:Ty),s.toNat < n->nT L s=some a->Sub O L s s
 | 0,s,a,D,_=>by omega
 | n+1,s,a,D,g=>by
   obtain ⟨i,rfl,o⟩:=dG g;have F:=(Ah.1 o).1;have G:=h.own o;have z:∀ p:Int,p∈uG a->Sub O L p p:=fun p d=>by
    obtain ⟨q,w,rfl,I,H⟩:=h.elem o d;exact LJ h y n q w bB (by rw [iF];exact H)
   by_cases j:a.kind=3
   ·have B:=G.2.2.2.1 j;refine .mk g g (MV rfl j rfl (y _ B.1 B.2)) fun p d=>?_
    rw [dH j] at d;have v:p=(a.elem,a.elem):=by
     rcases Av.1 d with e | e
     ·exact e
     ·split at e
      ·simpa using e
      ·cases e
    subst v;exact z _ (by rw [xN j];simp)
   ·by_cases l:a.kind=4
    ·refine .mk g g (lO rfl l rfl) fun p d=>?_
     rw [iO l] at d;obtain ⟨k,C,m⟩:=MI d;rw [C] at m;injection m with m;rw [<-m];exact z _ (by rw [vY l];exact Aj C)
    ·exact .mk g g (CK rfl bB) fun p d=>by rw [eP j l] at d;cases d
end
structure Env where
 T:List Ty
 lc:List Int
 ps:List Pr
 rg:Nat
 nb:Nat
def BdV.env (b:BdV):Env:=⟨b.types,b.locals.map LcV.ty,b.outl,b.regions.length,b.blocks.length⟩
section
variable (E:Env)
def tyV (p:PlV):Int×Int:=zO E.T E.lc p.l p.ps
def muV (p:PlV):Bool:=UH E.T E.lc p.l p.ps
def noP (p:PlV):Bool:=decide (p.l=0) && decide (p.ps.length=0)
def vP (o:OpV):Int:=
 if o.kind < 0\/4 < o.kind then 14
 else if (o.n≠0/\o.kind≠2/\o.kind≠3)\/(1 < o.kind/\noP o.pl=false) then 2
 else if o.kind=3/\o.n≠0/\o.n≠1 then 3
 else if 1 < o.kind then 0
 else if (tyV E o.pl).2≠0 then (tyV E o.pl).2
 else if (o.kind=0/\mF E.T (tyV E o.pl).1=false)\/(o.kind=1/\aT o.pl.ps 0=true) then 22
 else 0
def uB9 (k:Int) (d:Int):Bool:=decide ((k=2/\d=2)\/(k=3/\d=1)\/(k=4/\d=0))
def UZ (o:OpV) (d:Int):Bool:=if 1 < o.kind then uB9 o.kind d else decide ((uR E.T (tyV E o.pl).1).kind=d)
noncomputable def sP (o:OpV) (t:Int):Bool:=if 1 < o.kind then uB9 o.kind (uR E.T t).kind else sub (out E.ps E.rg) E.T (tyV E o.pl).1 t
def noR (r:RvV):Bool:=decide (r.kind=0) && decide (r.op=0) && decide (r.region=0) && !r.mut_ && noP r.pl && decide (r.args.length=0)
def mL (r:RvV):Int:=
 if r.kind < 0\/4 < r.kind then 14
 else if (r.kind≠2/\r.kind≠3/\r.op≠0)\/(r.kind≠1/\(r.region≠0\/r.mut_=true\/noP r.pl=false))\/(r.kind=1/\0 < r.args.length) then 2
 else if ((r.kind=0\/r.kind=2)/\r.args.length≠1)\/(r.kind=3/\r.args.length≠2) then 2
 else 0
noncomputable def IQ (r:RvV) (t:Int):Int:=
 if (tyV E r.pl).2≠0 then (tyV E r.pl).2
 else if r.region < 0\/(E.rg:Int)<=r.region then 3
 else if (uR E.T t).kind≠3\/(uR E.T t).region≠r.region\/(uR E.T t).mut_≠r.mut_\/(uR E.T t).elem≠(tyV E r.pl).1\/(r.mut_=true/\muV E r.pl=false) then 22
 else if (DA E.T E.lc r.pl.l r.pl.ps).all (fun a=>out E.ps E.rg a r.region) then 0 else 22
def vG:List OpV->Int
 | []=>0
 | o :: l=>if vP E o≠0 then vP E o else vG l
noncomputable def oE:List OpV->List Int->Int
 | [],_=>0
 | o :: l,d=>if vP E o≠0 then vP E o else if sP E o (d.headD 0)=false then 22 else oE l d.tail
def eV (r:RvV):Int:=if (r.kind=2/\r.op=1)\/(r.kind=3/\r.op=5) then 1 else 2
def NP (r:RvV):Int:=if (r.kind=2/\r.op=1)\/(r.kind=3/\3<=r.op) then 1 else 2
noncomputable def nN (r:RvV) (t:Int):Int:=
 if mL r≠0 then mL r
 else if r.kind=1 then IQ E r t
 else if (r.kind=2/\(r.op < 0\/1 < r.op))\/(r.kind=3/\(r.op < 0\/5 < r.op)) then 14
 else if r.kind=4 then (if (uR E.T t).kind≠4\/(uR E.T t).fields.length≠r.args.length then 22 else oE E r.args (uR E.T t).fields)
 else if vG E r.args≠0 then vG E r.args
 else if r.kind=0 then (if r.args.all (fun o=>sP E o t) then 0 else 22)
 else if r.args.all (fun o=>UZ E o (eV r))/\(uR E.T t).kind=NP r then 0 else 22
noncomputable def yC (s:StV):Int:=
 if s.kind=0 then (if s.loc≠0 then 2 else if (tyV E s.pl).2≠0 then (tyV E s.pl).2 else if muV E s.pl=false then 22 else nN E s.rv (tyV E s.pl).1)
 else if s.kind=1 then (if noP s.pl=false\/noR s.rv=false then 2 else if s.loc < 0\/(E.lc.length:Int)<=s.loc then 3 else 0)
 else if s.kind=2 then (if noP s.pl=false\/noR s.rv=false\/s.loc≠0 then 2 else 0)
 else 14
def zD (k:Int):Nat:=if k=0\/k=3\/k=4 then 1 else if k=1 then 2 else 0
def yU:List Int->Int
 | []=>0
 | t :: l=>if t < 0\/(E.nb:Int)<=t then 3 else yU l
noncomputable def aK (t:TmV):Int:=
 if t.kind < 0\/5 < t.kind then 14
 else if t.targets.length≠zD t.kind\/(t.kind≠3/\t.name≠.empty)\/(t.kind≠3/\t.kind≠4/\noP t.pl=false)\/(t.kind=1/\t.args.length≠1)\/(t.kind≠1/\t.kind≠3/\0 < t.args.length) then 2
 else if yU E t.targets≠0 then yU E t.targets
 else if t.kind=3/\vE t.name=false then 12
 else if 65535 < t.args.length then 15
 else if vG E t.args≠0 then vG E t.args
 else if t.kind=1/\t.args.all (fun o=>UZ E o 1)=false then 22
 else if t.kind≠3/\t.kind≠4 then 0
 else if (tyV E t.pl).2≠0 then (tyV E t.pl).2
 else if (t.kind=3/\muV E t.pl=false)\/(t.kind=4/\aT t.pl.ps 0=true) then 22
 else 0
end
noncomputable def aI (l:List ByteArray) (s:ByteArray):Bool:=@decide (s∈l) (Classical.propDecidable _)
theorem JZ {l:List ByteArray} {s:ByteArray}:aI l s=true↔s∈l:=by unfold aI;exact @decide_eq_true_iff _ (Classical.propDecidable _)
theorem iC {l:List ByteArray} {s:ByteArray}:aI l s=false↔s∉l:=by rw [<-JZ];simp
noncomputable def nO:List ByteArray->List ByteArray->Int
 | _,[]=>0
 | pre,s :: l=>if vE s=false then 12 else if aI pre s=true then 21 else nO (pre++[s]) l
noncomputable def zV (nt:Nat):List ByteArray->List LcV->Int
 | _,[]=>0
 | pre,x :: l=>if vE x.name=false then 12 else if aI pre x.name=true then 21 else if x.ty < 0\/(nt:Int)<=x.ty then 3 else zV nt (pre++[x.name]) l
noncomputable def aM (b:BdV):Int:=
 if vE b.name=false then 12
 else if 65535 < b.regions.length then 15
 else if nO [] b.regions≠0 then nO [] b.regions
 else if xP b.outl b.regions.length≠0 then xP b.outl b.regions.length
 else if xY b.types b.regions.length≠0 then xY b.types b.regions.length
 else if 65535 < b.locals.length then 15
 else if zV b.types.length [] b.locals≠0 then zV b.types.length [] b.locals
 else if b.args < 0\/(b.locals.length:Int) < b.args then 3
 else if b.blocks.length=0\/65535 < b.blocks.length then 15
 else 0
section
variable (E:Env)
noncomputable def nG:List StV->Int
 | []=>0
 | s :: l=>if yC E s≠0 then yC E s else nG l
noncomputable def pW (b:BkV):Int:=if 65535 < b.stmts.length then 15 else if nG E b.stmts≠0 then nG E b.stmts else aK E b.term
noncomputable def pI:List BkV->Int
 | []=>0
 | b :: l=>if pW E b≠0 then pW E b else pI l
end
noncomputable def BP (b:BdV):Int:=if aM b≠0 then aM b else pI b.env b.blocks
theorem xK {α:Type} {l:List α} {k:Nat} {x:α} (h:l[k]?=some x):l.drop k=x :: l.drop (k+1):=by
 have d:=(Ah.1 h).1;rw [Cq d];rw [Ad d] at h;injection h with h;rw [h]
theorem yF {α:Type} {l:List α} {k:Nat} (h:l.length<=k):l.drop k=[]:=Fi h
section
variable {E:Env}
theorem BC {l:List OpV} {k:Nat} {o:OpV} (h:l[k]?=some o):vG E (l.drop k)=if vP E o≠0 then vP E o else vG E (l.drop (k+1)):=by rw [xK h];rfl
theorem sU {l:List OpV} {k:Nat} (h:l.length<=k):vG E (l.drop k)=0:=by rw [yF h];rfl
theorem SM {l:List OpV} {d:List Int} {k:Nat} {o:OpV} {f:Int} (h:l[k]?=some o) (e:d[k]?=some f):oE E (l.drop k) (d.drop k)=if vP E o≠0 then vP E o else if sP E o f=false then 22 else oE E (l.drop (k+1)) (d.drop (k+1)):=by rw [xK h,xK e];rfl
theorem OF {l:List OpV} {d:List Int} {k:Nat} (h:l.length<=k):oE E (l.drop k) (d.drop k)=0:=by rw [yF h];rfl
theorem uBl {l:List Int} {k:Nat} {t:Int} (h:l[k]?=some t):yU E (l.drop k)=if t < 0\/(E.nb:Int)<=t then 3 else yU E (l.drop (k+1)):=by rw [xK h];rfl
theorem dE {l:List Int} {k:Nat} (h:l.length<=k):yU E (l.drop k)=0:=by rw [yF h];rfl
theorem UI {l:List StV} {k:Nat} {s:StV} (h:l[k]?=some s):nG E (l.drop k)=if yC E s≠0 then yC E s else nG E (l.drop (k+1)):=by rw [xK h];rfl
theorem OH {l:List StV} {k:Nat} (h:l.length<=k):nG E (l.drop k)=0:=by rw [yF h];rfl
theorem TB {l:List BkV} {k:Nat} {b:BkV} (h:l[k]?=some b):pI E (l.drop k)=if pW E b≠0 then pW E b else pI E (l.drop (k+1)):=by rw [xK h];rfl
theorem MU {l:List BkV} {k:Nat} (h:l.length<=k):pI E (l.drop k)=0:=by rw [yF h];rfl
end
theorem dB {α:Type} {l:List α} {k:Nat} {x:α} (h:l[k]?=some x):l.take (k+1)=l.take k++[x]:=by rw [Bm,h];rfl
theorem WE {l:List ByteArray} {k:Nat} {s:ByteArray} (h:l[k]?=some s):nO (l.take k) (l.drop k)=if vE s=false then 12 else if aI (l.take k) s=true then 21 else nO (l.take (k+1)) (l.drop (k+1)):=by rw [xK h,dB h];rfl
theorem ST {l:List ByteArray} {k:Nat} (h:l.length<=k):nO (l.take k) (l.drop k)=0:=by rw [yF h];rfl
theorem XH {nt:Nat} {l:List LcV} {k:Nat} {x:LcV} (h:l[k]?=some x):zV nt ((l.take k).map LcV.name) (l.drop k)=if vE x.name=false then 12 else if aI ((l.take k).map LcV.name) x.name=true then 21 else if x.ty < 0\/(nt:Int)<=x.ty then 3 else zV nt ((l.take (k+1)).map LcV.name) (l.drop (k+1)):=by
 rw [xK h,dB h,By];rfl
theorem TT {nt:Nat} {l:List LcV} {k:Nat} (h:l.length<=k):zV nt ((l.take k).map LcV.name) (l.drop k)=0:=by rw [yF h];rfl
section
variable {E:Env}
theorem oZ:∀ {l:List OpV},vG E l=0↔∀ o∈l,vP E o=0
 | []=>⟨(fun _ o h=>by cases h),fun _=>rfl⟩
 | o :: l=>by
   show (if vP E o≠0 then vP E o else vG E l)=0↔_;by_cases h:vP E o=0
   ·rw [if_neg bB,oZ];exact ⟨(fun k q hq=>by rcases Av.1 hq with rfl | hq;exact h;exact k q hq),fun k q hq=>k q (by simp [hq])⟩
   ·rw [if_pos h];exact ⟨fun k=>absurd k h,fun k=>k o nF⟩
theorem bV:∀ {l:List StV},nG E l=0↔∀ s∈l,yC E s=0
 | []=>⟨(fun _ o h=>by cases h),fun _=>rfl⟩
 | o :: l=>by
   show (if yC E o≠0 then yC E o else nG E l)=0↔_;by_cases h:yC E o=0
   ·rw [if_neg bB,bV];exact ⟨(fun k q hq=>by rcases Av.1 hq with rfl | hq;exact h;exact k q hq),fun k q hq=>k q (by simp [hq])⟩
   ·rw [if_pos h];exact ⟨fun k=>absurd k h,fun k=>k o nF⟩
theorem cI:∀ {l:List BkV},pI E l=0↔∀ b∈l,pW E b=0
 | []=>⟨(fun _ o h=>by cases h),fun _=>rfl⟩
 | o :: l=>by
   show (if pW E o≠0 then pW E o else pI E l)=0↔_;by_cases h:pW E o=0
   ·rw [if_neg bB,cI];exact ⟨(fun k q hq=>by rcases Av.1 hq with rfl | hq;exact h;exact k q hq),fun k q hq=>k q (by simp [hq])⟩
   ·rw [if_pos h];exact ⟨fun k=>absurd k h,fun k=>k o nF⟩
theorem tJ {b:BkV}:pW E b=0↔b.stmts.length<=65535/\(∀ s∈b.stmts,yC E s=0)/\aK E b.term=0:=by
 unfold pW;by_cases h:65535 < b.stmts.length
 ·rw [if_pos h];exact ⟨fun k=>absurd k eW,fun k=>by omega⟩
 ·rw [if_neg h];by_cases d:nG E b.stmts=0
  ·rw [if_neg bB];exact ⟨fun k=>⟨bB,bV.1 d,k⟩,fun k=>k.2.2⟩
  ·rw [if_pos d];exact ⟨fun k=>absurd k d,fun k=>absurd (bV.2 k.2.1) d⟩
end
theorem GX {nt:Nat}:∀ {l:List LcV} {d:List ByteArray},zV nt d l=0->∀ x∈l,0<=x.ty/\x.ty < (nt:Int)
 | [],_,_,x,hx=>by cases hx
 | y :: l,d,h,x,hx=>by
   have e:(if vE y.name=false then (12:Int) else if aI d y.name=true then 21 else if y.ty < 0\/(nt:Int)<=y.ty then 3 else zV nt (d++[y.name]) l)=0:=h
   split at e
   ·cases e
   ·split at e
    ·cases e
    ·split at e
     ·cases e
     ·rcases Av.1 hx with rfl | hx
      ·omega
      ·exact GX e x hx
structure XX (b:BdV):Prop where
 nr:b.regions.length<=65535
 o:xP b.outl b.regions.length=0
 ty:xY b.types b.regions.length=0
 nl:b.locals.length<=65535
 lc:uCq b.types (b.locals.map LcV.ty)
 nb:0 < b.blocks.length/\b.blocks.length<=65535
theorem GA {b:BdV} (h:aM b=0):XX b:=by
 unfold aM at h
 split at h
 ·cases h
 rename_i o
 split at h
 ·cases h
 rename_i p
 split at h
 ·rename_i e;exact absurd h e
 rename_i e
 split at h
 ·rename_i g;exact absurd h g
 rename_i g
 split at h
 ·rename_i j;exact absurd h j
 rename_i j
 split at h
 ·cases h
 rename_i q
 split at h
 ·rename_i d;exact absurd h d
 rename_i d
 split at h
 ·cases h
 rename_i v
 split at h
 ·cases h
 rename_i y;refine ⟨bB,bB,bB,bB,fun t l=>?_,bB,bB⟩;obtain ⟨x,m,rfl⟩:=Bw.1 l;exact GX (Ge.1 d) x m
end Go.Proofs.YtnkjbjkoffgocaaGreatDoor
