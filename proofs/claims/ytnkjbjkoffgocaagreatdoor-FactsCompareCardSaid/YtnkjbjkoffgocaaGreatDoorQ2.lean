import Derived.Test.YtnkjbjkoffgocaaGreatDoorQ1
import Derived.Maps.AppendAt
set_option linter.unusedVariables false
set_option linter.unusedSimpArgs false
set_option maxRecDepth 100000
set_option maxHeartbeats 2000000
namespace Go.Proofs.YtnkjbjkoffgocaaGreatDoor
open Tryz Go.RowKit
def xI (p:Pr):Int:=if p.1≠0/\p.1≠1 then 14 else if p.1=0/\p.2≠0 then 2 else if p.2 < 0 then 3 else 0
def yY:List Pr->Int
 | []=>0
 | p :: l=>if xI p=0 then yY l else xI p
theorem BF {l:List Pr} {k:Nat} {p:Pr} (h:l[k]?=some p):yY (l.drop k)=if xI p=0 then yY (l.drop (k+1)) else xI p:=by
 have a:=(Ah.1 h).1;have e:l.drop k=p :: l.drop (k+1):=by
  rw [Cq a];rw [Ad a] at h;injection h with h;rw [h]
 rw [e];rfl
theorem jX:∀ {l:List Pr},yY l=0↔∀ p∈l,xI p=0
 | []=>⟨(fun _ p h=>by cases h),fun _=>rfl⟩
 | p :: l=>by
   show (if xI p=0 then yY l else xI p)=0↔_;by_cases a:xI p=0
   ·rw [if_pos a,jX];exact ⟨(fun h q hq=>by rcases Av.1 hq with rfl | hq;exact a;exact h q hq),fun h q hq=>h q (by simp [hq])⟩
   ·rw [if_neg a];exact ⟨fun h=>absurd h a,fun h=>h p nF⟩
def vS (l:Int) (ps:List Pr):Int:=if l < 0 then 3 else if 32 < ps.length then 19 else yY ps
theorem oF {l:Int} {ps:List Pr}:vS l ps=0↔0<=l/\ps.length<=32/\∀ p∈ps,xI p=0:=by
 unfold vS
 split
 ·exact ⟨fun h=>(by cases h),fun h=>by omega⟩
 ·split
  ·exact ⟨fun h=>(by cases h),fun h=>by omega⟩
  ·rw [jX];exact ⟨fun h=>⟨bB,bB,h⟩,fun h=>h.2.2⟩
def vK (t:Ty) (p:Pr):Int×Int:=
 if p.1=0/\t.kind=3 then (t.elem,0)
 else if p.1=1/\t.kind=4 then (if 0<=p.2/\p.2 < (t.fields.length:Int) then (t.fields.getD p.2.toNat 0,0) else (0,3))
 else (0,22)
theorem SW {t:Ty} {p:Pr} (a:p.1=0) (b:t.kind=3):vK t p=(t.elem,0):=if_pos ⟨a,b⟩
theorem UB {t:Ty} {p:Pr} (b:p.1=1) (c:t.kind=4) {k:Nat} {x:Int} (d:p.2=(k:Int)) (a:t.fields[k]?=some x):vK t p=(x,0):=by
 have e:=(Ah.1 a).1;unfold vK;rw [if_neg bB,if_pos ⟨b,c⟩,if_pos bB,d,A3,Bn,a];rfl
theorem UY {t:Ty} {p:Pr} (a:p.1=1) (b:t.kind=4) (h:¬(0<=p.2/\p.2 < (t.fields.length:Int))):vK t p=(0,3):=by
 unfold vK;rw [if_neg bB,if_pos ⟨a,b⟩,if_neg h]
theorem VA {t:Ty} {p:Pr} (h:¬(p.1=0/\t.kind=3)) (a:¬(p.1=1/\t.kind=4)):vK t p=(0,22):=by
 unfold vK;rw [if_neg h,if_neg a]
theorem aY (t:Ty) (p:Pr):(p.1=0/\t.kind=3/\vK t p=(t.elem,0))\/(p.1=1/\t.kind=4/\∃ (k:Nat) (x:Int),p.2=(k:Int)/\t.fields[k]?=some x/\vK t p=(x,0))\/(p.1=1/\t.kind=4/\¬(0<=p.2/\p.2 < (t.fields.length:Int))/\vK t p=(0,3))\/(¬(p.1=0/\t.kind=3)/\¬(p.1=1/\t.kind=4)/\vK t p=(0,22)):=by
 by_cases h:p.1=0/\t.kind=3
 ·exact .inl ⟨h.1,h.2,SW h.1 h.2⟩
 by_cases a:p.1=1/\t.kind=4
 ·by_cases b:0<=p.2/\p.2 < (t.fields.length:Int)
  ·have c:t.fields[p.2.toNat]?=some (t.fields[p.2.toNat]'bB):=Ad bB;exact .inr (.inl ⟨a.1,a.2,p.2.toNat,_,bB,c,UB a.1 a.2 bB c⟩)
  ·exact .inr (.inr (.inl ⟨a.1,a.2,b,UY a.1 a.2 b⟩))
 ·exact .inr (.inr (.inr ⟨h,a,VA h a⟩))
theorem iI {t:Ty} {p:Pr} (h:(vK t p).2≠0):vK t p=(0,(vK t p).2):=by
 rcases aY t p with ⟨_,_,e⟩ | ⟨_,_,_,_,_,_,e⟩ | ⟨_,_,_,e⟩ | ⟨_,_,e⟩ <;> rw [e] at h ⊢ <;> first | rfl | exact absurd rfl h
theorem PI {t:Ty} {p:Pr} (h:(vK t p).2=0):(vK t p).1∈uG t:=by
 rcases aY t p with ⟨_,k,e⟩ | ⟨_,k,_,_,_,a,e⟩ | ⟨_,_,_,e⟩ | ⟨_,_,e⟩
 ·rw [e,xN k];simp
 ·rw [e,vY k];exact Aj a
 ·rw [e] at h;cases h
 ·rw [e] at h;cases h
def uR (T:List Ty) (i:Int):Ty:=T.getD i.toNat ⟨0,false,0,0,[]⟩
theorem mH {T:List Ty} {i:Nat} {t:Ty} (h:T[i]?=some t):uR T (i:Int)=t:=by
 unfold uR;rw [A3,Bn,h];rfl
def goL (T:List Ty):Int->List Pr->Int×Int
 | t,[]=>(t,0)
 | t,p :: a=>if (vK (uR T t) p).2=0 then goL T (vK (uR T t) p).1 a else (0,(vK (uR T t) p).2)
theorem JS (T:List Ty):∀ (a:List Pr) (t:Int) (p:Pr),goL T t (a++[p])=if (goL T t a).2=0 then vK (uR T (goL T t a).1) p else (0,(goL T t a).2)
 | [],t,p=>by
   show (if (vK (uR T t) p).2=0 then ((vK (uR T t) p).1,0) else (0,(vK (uR T t) p).2))=if (0:Int)=0 then vK (uR T t) p else _
   rw [if_pos rfl];by_cases h:(vK (uR T t) p).2=0
   ·rw [if_pos h,<- h]
   ·rw [if_neg h];exact (iI h).symm
 | q :: a,t,p=>by
   show (if (vK (uR T t) q).2=0 then goL T (vK (uR T t) q).1 (a++[p]) else (0,(vK (uR T t) q).2))=_;by_cases h:(vK (uR T t) q).2=0
   ·have e:goL T t (q :: a)=goL T (vK (uR T t) q).1 a:=if_pos h;rw [if_pos h,e,JS T a]
   ·have e:goL T t (q :: a)=(0,(vK (uR T t) q).2):=if_neg h;rw [if_neg h,e,if_neg h]
def tyA (T:List Ty) (t:Int) (ps:List Pr) (n:Nat):Int:=(goL T t (ps.take n)).1
def erA (T:List Ty) (t:Int) (ps:List Pr) (n:Nat):Int:=(goL T t (ps.take n)).2
theorem YM (T:List Ty) (t:Int) (ps:List Pr):tyA T t ps 0=t:=rfl
theorem GV (T:List Ty) (t:Int) (ps:List Pr):erA T t ps 0=0:=rfl
theorem FX {l:List Pr} {k:Nat} {p:Pr} (h:l[k]?=some p):l.take (k+1)=l.take k++[p]:=by
 rw [Bm,h];rfl
theorem NL {T:List Ty} {t:Int} {ps:List Pr} {n:Nat} {p:Pr} (h:ps[n]?=some p):goL T t (ps.take (n+1))=if erA T t ps n=0 then vK (uR T (tyA T t ps n)) p else (0,erA T t ps n):=by
 rw [FX h,JS];rfl
theorem FU {T:List Ty} {t:Int} {ps:List Pr} {n:Nat} {p:Pr} (h:ps[n]?=some p) (a:erA T t ps n=0):tyA T t ps (n+1)=(vK (uR T (tyA T t ps n)) p).1/\erA T t ps (n+1)=(vK (uR T (tyA T t ps n)) p).2:=by
 unfold tyA;rw [show erA T t ps (n+1)=(goL T t (ps.take (n+1))).2 from rfl,NL h,if_pos a];exact ⟨rfl,rfl⟩
theorem dO {T:List Ty} {t:Int} {ps:List Pr} {n:Nat} (h:erA T t ps n≠0):∀ m,n<=m->goL T t (ps.take m)=(0,erA T t ps n)
 | 0,d=>by
   obtain rfl:n=0:=by omega
   exact absurd (GV T t ps) h
 | m+1,d=>by
   have b:∀ k,n=k+1->goL T t (ps.take n)=(0,erA T t ps n):=by
    intro k j;subst j;cases hp:ps[k]? with
    | none=>
      have e:ps.take (k+1)=ps.take k:=by rw [Au (by have:=D7.1 hp;omega),Au (by have:=D7.1 hp;omega)]
      have a:erA T t ps (k+1)=erA T t ps k:=by unfold erA;rw [e]
      have l:=dO (n:=k) (by rw [<-a];exact h) k (Ae _);rw [e,l,a]
    | some p=>
      have e:=NL (T:=T) (t:=t) hp;by_cases c:erA T t ps k=0
      ·rw [if_pos c] at e;have a:erA T t ps (k+1)=(vK (uR T (tyA T t ps k)) p).2:=(FU hp c).2;rw [e,a];exact iI (by rw [<-a];exact h)
      ·rw [if_neg c] at e;have a:erA T t ps (k+1)=erA T t ps k:=by show (goL T t (ps.take (k+1))).2=_;rw [e]
       rw [e,a]
   rcases Nat.eq_or_lt_of_le d with e | hlt
   ·exact e ▸ b m e
   ·have g:=dO h m bB;cases hp:ps[m]? with
    | none=>
      have e:ps.take (m+1)=ps.take m:=by rw [Au (by have:=D7.1 hp;omega),Au (by have:=D7.1 hp;omega)]
      rw [e,g]
    | some p=>
      have i:erA T t ps m=erA T t ps n:=by show (goL T t (ps.take m)).2=_;rw [g]
      rw [NL hp,if_neg (by rw [i];exact h),i]
theorem nS (T:List Ty) (t:Int) (ps:List Pr):goL T t (ps.take ps.length)=goL T t ps:=by rw [Dz]
structure Stp (T:List Ty) (t:Int) (ps:List Pr) (n:Nat):Prop where
 le:n<=ps.length
 ok:erA T t ps n=0
theorem Stp.zero (T:List Ty) (t:Int) (ps:List Pr):Stp T t ps 0:=⟨Am _,GV T t ps⟩
theorem Stp.down {T:List Ty} {t:Int} {ps:List Pr} {n m:Nat} (h:Stp T t ps n) (b:m<=n):Stp T t ps m:=⟨by have:=h.le;omega,by
 by_cases a:erA T t ps m=0
 ·exact a
 ·have e:=dO a n b;have:=h.ok;unfold erA at this;rw [e] at this;exact absurd this a⟩
theorem LW {T:List Ty} {t:Int} {ps:List Pr} {n:Nat} {p:Pr} (h:Stp T t ps n) (a:ps[n]?=some p) (c:(vK (uR T (tyA T t ps n)) p).2≠0):goL T t ps=(0,(vK (uR T (tyA T t ps n)) p).2):=by
 have b:=(FU a h.ok).2;have d:=(Ah.1 a).1;have:=dO (T:=T) (t:=t) (ps:=ps) (n:=n+1) (by rw [b];exact c) ps.length bB;rw [nS,b] at this;exact this
theorem Stp.lt {T:List Ty} {r t:Int} {ps:List Pr} (a:TyOk T r) (e:0<=t) (g:t < (T.length:Int)):∀ {n:Nat},Stp T t ps n->∃ (i:Nat) (u:Ty),tyA T t ps n=(i:Int)/\T[i]?=some u
 | 0,_=>⟨t.toNat,_,by rw [YM];omega,Ad bB⟩
 | n+1,h=>by
   obtain ⟨i,u,j,b⟩:=Stp.lt a e g (h.down (Cc n));have y:=h.le;have l:ps[n]?=some (ps[n]'bB):=Ad bB;obtain ⟨c,d⟩:=FU (T:=T) (t:=t) l (h.down (Cc n)).ok;rw [j,mH b] at c d;have m:=PI (t:=u) (p:=ps[n]'bB) (by rw [<-d];exact h.ok);obtain ⟨q,v,o,_,x⟩:=a.elem b m;exact ⟨q,v,by rw [c,o],x⟩
def aR {α:Type} (G:List α) (T:List Ty) (t:Int) (ps:List Pr) (n:Nat):Option α:=match ps[n]? with
 | some p=>if p.1=0 then G[(tyA T t ps n).toNat]? else none
 | none=>none
def mC {α:Type} (G:List α) (T:List Ty) (t:Int) (ps:List Pr) (n:Nat):List α:=(List.range n).filterMap (aR G T t ps)
theorem uAb {α:Type} (G:List α) (T:List Ty) (t:Int) (ps:List Pr) (n:Nat):mC G T t ps (n+1)=mC G T t ps n++(aR G T t ps n).toList:=by
 unfold mC;rw [Dx,Dh];congr 1
theorem XM {α:Type} {G:List α} {T:List Ty} {t:Int} {ps:List Pr} {n:Nat} (h:∀ p,ps[n]?=some p->p.1≠0):mC G T t ps (n+1)=mC G T t ps n:=by
 rw [uAb];unfold aR;cases hp:ps[n]? with
 | none=>simp
 | some p=>simp [h p hp]
theorem UQ {α:Type} (G:List α) (T:List Ty) (t:Int) (ps:List Pr) (n:Nat):(mC G T t ps n).length<=n:=by
 unfold mC;have:=Dj (aR G T t ps) (List.range n)
 rwa [C0] at this
theorem RP {α:Type} (f:α->Ty) (G:List α) (t:Int) (ps:List Pr) (n:Nat):(mC G (G.map f) t ps n).map f=mC (G.map f) (G.map f) t ps n:=by
 unfold mC;rw [List.map_filterMap];congr 1;funext k;unfold aR;cases ps[k]? with
 | none=>rfl
 | some p=>by_cases h:p.1=0 <;> simp [h]
theorem CA {α:Type} {G:List α} {T:List Ty} {t:Int} {ps:List Pr} {n:Nat} {x:α} (h:x∈mC G T t ps n):x∈G:=by
 unfold mC at h;obtain ⟨k,_,a⟩:=Er.1 h;unfold aR at a
 split at a
 ·split at a
  ·exact Aj a
  ·cases a
 ·cases a
def zO (T:List Ty) (lc:List Int) (l:Int) (ps:List Pr):Int×Int:=
 if vS l ps≠0 then (0,vS l ps) else if l < (lc.length:Int) then goL T (lc.getD l.toNat 0) ps else (0,3)
theorem BE {T:List Ty} {lc:List Int} {l:Int} {ps:List Pr} {e:Int} (h:vS l ps=e) (a:e≠0):zO T lc l ps=(0,e):=by
 unfold zO;rw [h,if_pos a]
theorem BQ {T:List Ty} {lc:List Int} {l:Int} {ps:List Pr} (h:vS l ps=0) (a:¬l < (lc.length:Int)):zO T lc l ps=(0,3):=by
 unfold zO;rw [h,if_neg nF,if_neg a]
theorem tT {T:List Ty} {lc:List Int} {l:Int} {ps:List Pr} {k:Nat} {t:Int} (h:vS l ps=0) (b:l=(k:Int)) (a:lc[k]?=some t):zO T lc l ps=goL T t ps:=by
 have:=(Ah.1 a).1;unfold zO;rw [h,if_neg nF,if_pos bB,b,A3,Bn,a];rfl
def TS (T:List Ty) (lc:List Int) (l:Int) (ps:List Pr):List Ty:=if (zO T lc l ps).2=0 then mC T T (lc.getD l.toNat 0) ps ps.length else []
def UH (T:List Ty) (lc:List Int) (l:Int) (ps:List Pr):Bool:=decide ((zO T lc l ps).2=0) && (TS T lc l ps).all Ty.mut_
def DA (T:List Ty) (lc:List Int) (l:Int) (ps:List Pr):List Int:=(TS T lc l ps).map Ty.region
def uCq (T:List Ty) (lc:List Int):Prop:=∀ t∈lc,0<=t/\t < (T.length:Int)
theorem tI {T:List Ty} {lc:List Int} {l:Int} {ps:List Pr} (h:(zO T lc l ps).2=0):vS l ps=0/\∃ (k:Nat) (t:Int),l=(k:Int)/\lc[k]?=some t/\zO T lc l ps=goL T t ps:=by
 have a:vS l ps=0:=by
  by_cases a:vS l ps=0
  ·exact a
  ·rw [BE rfl a] at h;exact absurd h a
 have b:l < (lc.length:Int):=by
  by_cases b:l < (lc.length:Int)
  ·exact b
  ·rw [BQ a b] at h;cases h
 have:=(oF.1 a).1;have c:lc[l.toNat]?=some (lc[l.toNat]'bB):=Ad bB;exact ⟨a,l.toNat,_,bB,c,tT a bB c⟩
def pV (p:Pr):List Value:=[.int .i64 p.1,.int .i64 p.2]
theorem uY (p:Pr):(pV p).length=2:=rfl
theorem PJ (p:Pr):∀ u∈pV p,u.oneCell'=true:=by intro u a;simp only [pV,Av,Cd,or_false] at a;rcases a with rfl | rfl <;> rfl
abbrev AF (p:Pr):Value:=.agg #[.int .i64 p.1,.int .i64 p.2]
def xH (p:Pr):Prop:=uH p.1/\uH p.2
structure Prs (w:World) (B:Nat) (A:Option Addr) (n:Nat) (L:List Pr):Prop where
 cells:uM w B 2 pV A n L
 int:∀ p∈L,xH p
theorem Prs.below {w w':World} {B:Nat} {A:Option Addr} {n:Nat} {L:List Pr} (h:Prs w B A n L) (hb:Below B w w'):Prs w' B A n L:=⟨h.cells.below hb,h.int⟩
theorem Prs.more {w:World} {B B':Nat} {A:Option Addr} {n:Nat} {L:List Pr} (h:Prs w B A n L) (hb:B<=B'):Prs w B' A n L:=⟨h.cells.more hb,h.int⟩
theorem Prs.len {w:World} {B:Nat} {A:Option Addr} {n:Nat} {L:List Pr} (h:Prs w B A n L):L.length=n:=h.cells.1
theorem Prs.at_ {w:World} {B:Nat} {A:Option Addr} {n:Nat} {L:List Pr} (h:Prs w B A n L) {i:Nat} {p:Pr} (a:L[i]?=some p) :
 ∃ b o,A=some ⟨b,o,none⟩/\b < B/\xH p/\w.cell? ⟨b,o+i*2,none⟩=some (.int .i64 p.1)/\w.cell? ⟨b,o+i*2+1,none⟩=some (.int .i64 p.2):=by
 obtain ⟨b,o,d,e,c⟩:=h.cells.at_ a;exact ⟨b,o,d,e,h.int p (Aj a),c 0 _ rfl,c 1 _ rfl⟩
theorem Prs.get {w:World} {B:Nat} {A:Option Addr} {n:Nat} {L:List Pr} (h:Prs w B A n L) {i:Nat} (a:i < n):∃ p,L[i]?=some p:=⟨_,Ad (by have:=h.len;omega)⟩
structure LcW where
 name:ByteArray
 ty:Int
def cLc (x:LcW):List Value:=[.string x.name,.int .i64 x.ty]
theorem uBu (x:LcW):(cLc x).length=2:=rfl
structure cG (w:World) (B:Nat) (A:Option Addr) (n:Nat) (L:List LcW):Prop where
 cells:uM w B 2 cLc A n L
 int:∀ x∈L,uH x.ty
theorem cG.below {w w':World} {B:Nat} {A:Option Addr} {n:Nat} {L:List LcW} (h:cG w B A n L) (hb:Below B w w'):cG w' B A n L:=⟨h.cells.below hb,h.int⟩
theorem cG.more {w:World} {B B':Nat} {A:Option Addr} {n:Nat} {L:List LcW} (h:cG w B A n L) (hb:B<=B'):cG w B' A n L:=⟨h.cells.more hb,h.int⟩
theorem cG.len {w:World} {B:Nat} {A:Option Addr} {n:Nat} {L:List LcW} (h:cG w B A n L):L.length=n:=h.cells.1
theorem cG.at_ {w:World} {B:Nat} {A:Option Addr} {n:Nat} {L:List LcW} (h:cG w B A n L) {i:Nat} {x:LcW} (c:L[i]?=some x) :
 ∃ b o,A=some ⟨b,o,none⟩/\b < B/\w.cell? ⟨b,o+i*2,none⟩=some (.string x.name)/\w.cell? ⟨b,o+i*2+1,none⟩=some (.int .i64 x.ty):=by
 obtain ⟨b,o,d,e,a⟩:=h.cells.at_ c;exact ⟨b,o,d,e,a 0 _ rfl,a 1 _ rfl⟩
abbrev lcs (L:List LcW):List Int:=L.map LcW.ty
theorem DH {L:List LcW} {k:Nat} {x:LcW} (h:L[k]?=some x):(lcs L)[k]?=some x.ty:=by rw [Ar,h];rfl
theorem PV (L:List LcW):(lcs L).length=L.length:=Ao _
structure PlW where
 l:Int
 A:Option Addr
 n:Nat
 c:Nat
 ps:List Pr
abbrev uV (x:PlW):Value:=.agg #[.int .i64 x.l,.slice x.A x.n x.c]
structure uL (w:World) (B:Nat) (x:PlW):Prop where
 nc:x.n<=x.c
 cm:x.c<=maxLen
 l:uH x.l
 prs:Prs w B x.A x.n x.ps
theorem uL.below {w w':World} {B:Nat} {x:PlW} (h:uL w B x) (hb:Below B w w'):uL w' B x:=⟨h.nc,h.cm,h.l,h.prs.below hb⟩
theorem uL.more {w:World} {B B':Nat} {x:PlW} (h:uL w B x) (hb:B<=B'):uL w B' x:=⟨h.nc,h.cm,h.l,h.prs.more hb⟩
theorem uL.up {w w':World} {x:PlW} (h:uL w w.heap.size x) (hb:Ab w w'):uL w' w'.heap.size x:=(h.below hb).more hb.size
theorem yH.up {w w':World} {A:Option Addr} {n:Nat} {L:List TyW} (h:yH w w.heap.size A n L) (hb:Ab w w'):yH w' w'.heap.size A n L:=(h.below hb).more hb.size
theorem cG.up {w w':World} {A:Option Addr} {n:Nat} {L:List LcW} (h:cG w w.heap.size A n L) (hb:Ab w w'):cG w' w'.heap.size A n L:=(h.below hb).more hb.size
theorem Prs.take {w:World} {B:Nat} {A:Option Addr} {n:Nat} {L:List Pr} (h:Prs w B A n L) {k:Nat} (j:k<=n):Prs w B A k (L.take k):=by
 have l:=h.len;refine ⟨⟨by rw [B9];omega,fun m=>?_⟩,fun p c=>h.int p (Ex c)⟩;obtain ⟨b,o,d,e,g⟩:=h.cells.2 bB;refine ⟨b,o,d,e,fun i x a=>g i x ?_⟩;rw [Dp] at a
 split at a
 ·exact a
 ·cases a
theorem XZ {P:Prop} (h:P:=by
 go_enter func278,ntmps278
 go_wp2;go_ret;exact ⟨congrArg (fun v=>Ending.returned (.bool v)) HF.o.symm,rfl⟩):P:=h
theorem NX (i n:Int) (w:World) :
 Calls prog 278 #[.int .i64 i,.int .i64 n] w fun e w'=>e=.returned (.bool (vD i n))/\w=w':=by
 by_cases a:0<=i
 ·by_cases b:i < n
  ·have HF:Hdd (vD i n=true):=uW.2 ⟨a,b⟩;exact XZ
  ·have HF:Hdd (vD i n=false):=wP.2 fun h=>b h.2;exact XZ
 ·have HF:Hdd (vD i n=false):=wP.2 fun h=>a h.1;exact XZ
theorem nY {i n:Int} {v:Bool} (h:vD i n=v) (w:World) :
 Calls prog 278 #[.int .i64 i,.int .i64 n] w fun e w'=>e=.returned (.bool v)/\w=w':=h ▸ NX i n w
theorem GR {P:Prop} (h:P:=by
 go_enter func140,ntmps140
 go_wp2;go_ret;exact ⟨congrArg (fun v=>Ending.returned (.int .i64 v)) HF.o.symm,HA.o⟩):P:=h
theorem tX (p:Pr) (w:World) :
 Calls prog 140 #[AF p] w fun e w'=>e=.returned (.int .i64 (xI p))/\Ab w w':=by
 obtain ⟨k,f⟩:=p;have HA:=uA ((Below.refl w.heap.size w).alloc (Ae _) (.cells #[.int .i64 k,.int .i64 f] 52));by_cases b:k=0
 ·subst b;by_cases a:f=0
  ·subst a;have HF:=uA (show xI ((0:Int),(0:Int))=0 by decide);exact GR
  ·have g:(f != 0)=true:=by rw [bne_iff_ne];exact a
   have HF:=uA (show xI ((0:Int),f)=2 by unfold xI;rw [if_neg bB,if_pos ⟨rfl,a⟩]);clear a;exact GR
 ·have i:(k != 0)=true:=by rw [bne_iff_ne];exact b
  have d:(k == 0)=false:=by simpa using b
  by_cases c:k=1
  ·subst c;clear b i d;by_cases a:f < 0
   ·have HF:=uA (show xI ((1:Int),f)=3 by unfold xI;rw [if_neg bB,if_neg bB,if_pos a]);exact GR
   ·have HF:=uA (show xI ((1:Int),f)=0 by unfold xI;rw [if_neg bB,if_neg bB,if_neg a]);exact GR
  ·have g:(k != 1)=true:=by rw [bne_iff_ne];exact c
   have HF:=uA (show xI (k,f)=14 by unfold xI;rw [if_pos ⟨b,c⟩]);clear b c;exact GR
theorem fT {p:Pr} {v:Int} (h:xI p=v) (w:World) :
 Calls prog 140 #[AF p] w fun e w'=>e=.returned (.int .i64 v)/\Ab w w':=h ▸ tX p w
theorem uE7 {P:Prop} (h:P:=by
 go_enter func90,ntmps90
 go_wp2;go_ret;exact ⟨congrArg (fun v=>Ending.returned (.int .i64 v)) HF.o.symm,HA.o⟩):P:=h
theorem OZ (x:PlW) (w:World) (q:uL w w.heap.size x) :
 Calls prog 90 #[uV x] w fun e w'=>e=.returned (.int .i64 (vS x.l x.ps))/\Ab w w':=by
 obtain ⟨l,A,n,c,a⟩:=x;have r:=q.cm;have D:=q.nc;simp only [] at r D;have K:=uA q.prs;have u:=uA q.prs.len;clear q;have HA:=uA ((Below.refl w.heap.size w).alloc (Ae _) (.cells #[.int .i64 l,.slice A n c] 48));unfold maxLen at r;by_cases y:l < 0
 ·have HF:Hdd (vS l a=3):=if_pos y;exact uE7
 by_cases L:32 < n
 ·have HF:=uA (show vS l a=19 by unfold vS;rw [if_neg y,if_pos (by have:a.length=n:=u.o;omega)]);have E:(32:Int) < (n:Int):=by omega
  exact uE7
 have HF:=uA (show vS l a=yY (a.drop 0) by unfold vS;rw [if_neg y,if_neg (by have:a.length=n:=u.o;omega)];rfl);have E:(n:Int)<=32:=by omega
 have M:0<=l:=by omega
 clear y L;go_enter func90,ntmps90
 go_wp2;go_loopw [18] (fun i wr=>∃ j:Nat,i=.int .i64 (j:Int)/\j<=n/\Hdd (yY (a.drop j)=yY (a.drop 0))/\Ab w wr) (fun i _=>n - (intOf i).toNat)
 case atStart=>exact ⟨0,rfl,Am _,rfl,HA.o⟩
 case round=>
  obtain ⟨j,rfl,U,F,hb⟩:=hrel;have z:=uA hb;clear hb;by_cases N:j < n
  ·have H:(j:Int) < (n:Int):=bB;obtain ⟨p,G⟩:∃ p,a[j]?=some p:=⟨_,Ad (by have:a.length=n:=u.o;omega)⟩;obtain ⟨b,o,rfl,_,O,R,S⟩:=(K.o.below z.o).at_ G;have I:=uA (BF G);obtain ⟨k,f⟩:=p;simp only [] at R S;have d:=uA (z.o.alloc z.o.size (.cells #[.int .i64 k,.int .i64 f] 52));obtain ⟨v,J⟩:∃ v,xI (k,f)=v:=⟨_,rfl⟩;clear G O;have C:=uA J;clear J;by_cases g:v=0
   ·subst g;have t:=uA (show yY (a.drop (j+1))=yY (a.drop 0) by rw [<-F.o,I.o,if_pos C.o]);go_wp2_with fail
    refine (fT C.o _).mono ?_;rintro e T ⟨rfl,hb⟩;have m:=uA (Aa d.o hb);clear hb;go_wp2;go_roundw
    case rel=>exact ⟨j+1,by go_num,bB,t.o,m.o⟩
    case measure=>simp [intOf];omega
   ·have V:(v != 0)=true:=by rw [bne_iff_ne];exact g
    have t:=uA (show vS l a=v by rw [HF.o,<- F.o,I.o,C.o,if_neg g]);clear g;go_wp2_with fail
    refine (fT C.o _).mono ?_;rintro e T ⟨rfl,hb⟩;have m:=uA (Aa d.o hb);clear hb;go_wp2;go_ret;exact ⟨congrArg (fun v=>Ending.returned (.int .i64 v)) t.o.symm,m.o⟩
  ·obtain rfl:j=n:=by omega
   have t:=uA (show vS l a=0 by rw [HF.o,<- F.o,Cs (by have:a.length=j:=u.o;omega)];rfl);go_wp2;go_ret;exact ⟨congrArg (fun v=>Ending.returned (.int .i64 v)) t.o.symm,z.o⟩
theorem iJ {x:PlW} {v:Int} (h:vS x.l x.ps=v) (w:World) (a:uL w w.heap.size x) :
 Calls prog 90 #[uV x] w fun e w'=>e=.returned (.int .i64 v)/\Ab w w':=h ▸ OZ x w a
structure SlW (α:Type) where
 A:Option Addr
 n:Nat
 c:Nat
 L:List α
abbrev SlW.val {α:Type} (s:SlW α):Value:=.slice s.A s.n s.c
structure SlH {α:Type} (w:World) (B:Nat) (k:Nat) (f:α->List Value) (Q:α->Prop) (s:SlW α):Prop where
 nc:s.n<=s.c
 cm:s.c<=maxLen
 cells:uM w B k f s.A s.n s.L
 all:∀ x∈s.L,Q x
section
variable {α:Type} {w w':World} {B B' k:Nat} {f:α->List Value} {Q Q':α->Prop} {s:SlW α}
theorem SlH.below (h:SlH w B k f Q s) (hb:Below B w w') (a:∀ x,Q x->Q' x):SlH w' B k f Q' s:=⟨h.nc,h.cm,h.cells.below hb,fun x b=>a x (h.all x b)⟩
theorem SlH.more (h:SlH w B k f Q s) (hb:B<=B') (a:∀ x,Q x->Q' x):SlH w B' k f Q' s:=⟨h.nc,h.cm,h.cells.more hb,fun x b=>a x (h.all x b)⟩
theorem SlH.len (h:SlH w B k f Q s):s.L.length=s.n:=h.cells.1
theorem SlH.nm (h:SlH w B k f Q s):s.n<=maxLen:=Ai h.nc h.cm
theorem SlH.get (h:SlH w B k f Q s) {i:Nat} (a:i < s.n):∃ x,s.L[i]?=some x:=⟨_,Ad (by have:=h.len;omega)⟩
theorem SlH.at_ (h:SlH w B k f Q s) {i:Nat} {x:α} (a:s.L[i]?=some x):∃ b o,s.A=some ⟨b,o,none⟩/\b < B/\Q x/\∀ j u,(f x)[j]?=some u->w.cell? ⟨b,o+i*k+j,none⟩=some u:=by
 obtain ⟨b,o,c,d,e⟩:=h.cells.at_ a;exact ⟨b,o,c,d,h.all x (Aj a),e⟩
end
def uX (x:Int):List Value:=[.int .i64 x]
def uHa (s:ByteArray):List Value:=[.string s]
abbrev uHk (w:World) (B:Nat) (s:SlW Int):Prop:=SlH w B 1 uX uH s
abbrev uGn (w:World) (B:Nat) (s:SlW ByteArray):Prop:=SlH w B 1 uHa (fun x=>x.size<=maxLen) s
structure PlV where
 l:Int
 ps:List Pr
structure OpV where
 kind:Int
 pl:PlV
 n:Int
structure RvV where
 kind:Int
 op:Int
 region:Int
 mut_:Bool
 pl:PlV
 args:List OpV
structure StV where
 kind:Int
 pl:PlV
 rv:RvV
 loc:Int
structure TmV where
 kind:Int
 targets:List Int
 args:List OpV
 pl:PlV
 name:ByteArray
structure BkV where
 stmts:List StV
 term:TmV
structure LcV where
 name:ByteArray
 ty:Int
structure BdV where
 name:ByteArray
 regions:List ByteArray
 outl:List Pr
 types:List Ty
 locals:List LcV
 args:Int
 blocks:List BkV
structure OpW where
 kind:Int
 pl:PlW
 n:Int
structure RvW where
 kind:Int
 op:Int
 region:Int
 mut_:Bool
 pl:PlW
 args:SlW OpW
structure StW where
 kind:Int
 pl:PlW
 rv:RvW
 loc:Int
structure TmW where
 kind:Int
 targets:SlW Int
 args:SlW OpW
 pl:PlW
 name:ByteArray
structure BkW where
 stmts:SlW StW
 term:TmW
structure BdW where
 name:ByteArray
 regions:SlW ByteArray
 outl:SlW Pr
 types:SlW TyW
 locals:SlW LcW
 args:Int
 blocks:SlW BkW
def PlW.v (x:PlW):PlV:=⟨x.l,x.ps⟩
def OpW.v (x:OpW):OpV:=⟨x.kind,x.pl.v,x.n⟩
def RvW.v (x:RvW):RvV:=⟨x.kind,x.op,x.region,x.mut_,x.pl.v,x.args.L.map OpW.v⟩
def StW.v (x:StW):StV:=⟨x.kind,x.pl.v,x.rv.v,x.loc⟩
def TmW.v (x:TmW):TmV:=⟨x.kind,x.targets.L,x.args.L.map OpW.v,x.pl.v,x.name⟩
def BkW.v (x:BkW):BkV:=⟨x.stmts.L.map StW.v,x.term.v⟩
def LcW.v (x:LcW):LcV:=⟨x.name,x.ty⟩
def BdW.v (x:BdW):BdV:=⟨x.name,x.regions.L,x.outl.L,tys x.types.L,x.locals.L.map LcW.v,x.args,x.blocks.L.map BkW.v⟩
def cOp (x:OpW):List Value:=[.int .i64 x.kind,.int .i64 x.pl.l,.slice x.pl.A x.pl.n x.pl.c,.int .i64 x.n]
def cRv (x:RvW):List Value:=[.int .i64 x.kind,.int .i64 x.op,.int .i64 x.region,.bool x.mut_,.int .i64 x.pl.l,.slice x.pl.A x.pl.n x.pl.c,.slice x.args.A x.args.n x.args.c]
def cSt (x:StW):List Value:=[.int .i64 x.kind,.int .i64 x.pl.l,.slice x.pl.A x.pl.n x.pl.c,.int .i64 x.rv.kind,.int .i64 x.rv.op,.int .i64 x.rv.region,.bool x.rv.mut_,.int .i64 x.rv.pl.l,.slice x.rv.pl.A x.rv.pl.n x.rv.pl.c,.slice x.rv.args.A x.rv.args.n x.rv.args.c,.int .i64 x.loc]
def cTm (x:TmW):List Value:=[.int .i64 x.kind,.slice x.targets.A x.targets.n x.targets.c,.slice x.args.A x.args.n x.args.c,.int .i64 x.pl.l,.slice x.pl.A x.pl.n x.pl.c,.string x.name]
def cBk (x:BkW):List Value:=[.slice x.stmts.A x.stmts.n x.stmts.c,.int .i64 x.term.kind,.slice x.term.targets.A x.term.targets.n x.term.targets.c,.slice x.term.args.A x.term.args.n x.term.args.c,.int .i64 x.term.pl.l,.slice x.term.pl.A x.term.pl.n x.term.pl.c,.string x.term.name]
def cBd (x:BdW):List Value:=[.string x.name,.slice x.regions.A x.regions.n x.regions.c,.slice x.outl.A x.outl.n x.outl.c,.slice x.types.A x.types.n x.types.c,.slice x.locals.A x.locals.n x.locals.c,.int .i64 x.args,.slice x.blocks.A x.blocks.n x.blocks.c]
theorem uEi (x:StW):(cSt x).length=11:=rfl
theorem uB4 (x:BkW):(cBk x).length=7:=rfl
theorem uDb (x:BdW):(cBd x).length=7:=rfl
theorem vN (x:Int):(uX x).length=1:=rfl
theorem YU (x:ByteArray):(uHa x).length=1:=rfl
abbrev BU (x:OpW):Value:=.agg #[.int .i64 x.kind,.int .i64 x.pl.l,.slice x.pl.A x.pl.n x.pl.c,.int .i64 x.n]
abbrev eH (x:RvW):Value:=.agg #[.int .i64 x.kind,.int .i64 x.op,.int .i64 x.region,.bool x.mut_,.int .i64 x.pl.l,.slice x.pl.A x.pl.n x.pl.c,.slice x.args.A x.args.n x.args.c]
abbrev KV (x:StW):Value:=.agg #[.int .i64 x.kind,.int .i64 x.pl.l,.slice x.pl.A x.pl.n x.pl.c,.int .i64 x.rv.kind,.int .i64 x.rv.op,.int .i64 x.rv.region,.bool x.rv.mut_,.int .i64 x.rv.pl.l,.slice x.rv.pl.A x.rv.pl.n x.rv.pl.c,.slice x.rv.args.A x.rv.args.n x.rv.args.c,.int .i64 x.loc]
abbrev fZ (x:TmW):Value:=.agg #[.int .i64 x.kind,.slice x.targets.A x.targets.n x.targets.c,.slice x.args.A x.args.n x.args.c,.int .i64 x.pl.l,.slice x.pl.A x.pl.n x.pl.c,.string x.name]
abbrev uFi (x:BkW):Value:=.agg #[.slice x.stmts.A x.stmts.n x.stmts.c,.int .i64 x.term.kind,.slice x.term.targets.A x.term.targets.n x.term.targets.c,.slice x.term.args.A x.term.args.n x.term.args.c,.int .i64 x.term.pl.l,.slice x.term.pl.A x.term.pl.n x.term.pl.c,.string x.term.name]
abbrev vR (x:BdW):Value:=.agg #[.string x.name,.slice x.regions.A x.regions.n x.regions.c,.slice x.outl.A x.outl.n x.outl.c,.slice x.types.A x.types.n x.types.c,.slice x.locals.A x.locals.n x.locals.c,.int .i64 x.args,.slice x.blocks.A x.blocks.n x.blocks.c]
structure pB (w:World) (B:Nat) (x:OpW):Prop where
 kind:uH x.kind
 pl:uL w B x.pl
 n:uH x.n
abbrev Ops (w:World) (B:Nat) (s:SlW OpW):Prop:=SlH w B 4 cOp (pB w B) s
structure zR (w:World) (B:Nat) (x:RvW):Prop where
 kind:uH x.kind
 op:uH x.op
 region:uH x.region
 pl:uL w B x.pl
 args:Ops w B x.args
structure aN (w:World) (B:Nat) (x:StW):Prop where
 kind:uH x.kind
 pl:uL w B x.pl
 rv:zR w B x.rv
 loc:uH x.loc
structure mY (w:World) (B:Nat) (x:TmW):Prop where
 kind:uH x.kind
 targets:uHk w B x.targets
 args:Ops w B x.args
 pl:uL w B x.pl
 name:x.name.size<=maxLen
structure aP (w:World) (B:Nat) (x:BkW):Prop where
 stmts:SlH w B 11 cSt (aN w B) x.stmts
 term:mY w B x.term
structure uS (w:World) (B:Nat) (x:BdW):Prop where
 name:x.name.size<=maxLen
 regions:uGn w B x.regions
 outl:SlH w B 2 pV xH x.outl
 types:SlH w B 5 c5 (wF w B) x.types
 locals:SlH w B 2 cLc (fun y=>uH y.ty/\y.name.size<=maxLen) x.locals
 args:uH x.args
 blocks:SlH w B 7 cBk (aP w B) x.blocks
section
variable {w w':World} {B B':Nat} (hb:Below B w w')
include hb
theorem pB.below {x:OpW} (h:pB w B x):pB w' B x:=⟨h.kind,h.pl.below hb,h.n⟩
theorem Ops.below {s:SlW OpW} (h:Ops w B s):Ops w' B s:=SlH.below h hb fun _ h=>h.below hb
theorem zR.below {x:RvW} (h:zR w B x):zR w' B x:=⟨h.kind,h.op,h.region,h.pl.below hb,Ops.below hb h.args⟩
theorem aN.below {x:StW} (h:aN w B x):aN w' B x:=⟨h.kind,h.pl.below hb,h.rv.below hb,h.loc⟩
theorem mY.below {x:TmW} (h:mY w B x):mY w' B x:=⟨h.kind,SlH.below h.targets hb fun _ h=>h,Ops.below hb h.args,h.pl.below hb,h.name⟩
theorem aP.below {x:BkW} (h:aP w B x):aP w' B x:=⟨SlH.below h.stmts hb fun _ h=>h.below hb,h.term.below hb⟩
theorem uS.below {x:BdW} (h:uS w B x):uS w' B x:=⟨h.name,SlH.below h.regions hb fun _ h=>h,SlH.below h.outl hb fun _ h=>h,SlH.below h.types hb fun _ h=>wF.below h hb,SlH.below h.locals hb fun _ h=>h,h.args,SlH.below h.blocks hb fun _ h=>h.below hb⟩
end
section
variable {w:World} {B B':Nat} (hb:B<=B')
include hb
theorem pB.more {x:OpW} (h:pB w B x):pB w B' x:=⟨h.kind,h.pl.more hb,h.n⟩
theorem Ops.more {s:SlW OpW} (h:Ops w B s):Ops w B' s:=SlH.more h hb fun _ h=>h.more hb
theorem zR.more {x:RvW} (h:zR w B x):zR w B' x:=⟨h.kind,h.op,h.region,h.pl.more hb,Ops.more hb h.args⟩
theorem aN.more {x:StW} (h:aN w B x):aN w B' x:=⟨h.kind,h.pl.more hb,h.rv.more hb,h.loc⟩
theorem mY.more {x:TmW} (h:mY w B x):mY w B' x:=⟨h.kind,SlH.more h.targets hb fun _ h=>h,Ops.more hb h.args,h.pl.more hb,h.name⟩
theorem aP.more {x:BkW} (h:aP w B x):aP w B' x:=⟨SlH.more h.stmts hb fun _ h=>h.more hb,h.term.more hb⟩
theorem uS.more {x:BdW} (h:uS w B x):uS w B' x:=⟨h.name,SlH.more h.regions hb fun _ h=>h,SlH.more h.outl hb fun _ h=>h,SlH.more h.types hb fun _ h=>wF.more h hb,SlH.more h.locals hb fun _ h=>h,h.args,SlH.more h.blocks hb fun _ h=>h.more hb⟩
end
theorem uS.up {w w':World} {x:BdW} (h:uS w w.heap.size x) (hb:Ab w w'):uS w' w'.heap.size x:=(h.below hb).more hb.size
theorem mY.up {w w':World} {x:TmW} (h:mY w w.heap.size x) (hb:Ab w w'):mY w' w'.heap.size x:=(h.below hb).more hb.size
theorem zR.up {w w':World} {x:RvW} (h:zR w w.heap.size x) (hb:Ab w w'):zR w' w'.heap.size x:=(h.below hb).more hb.size
theorem uS.typs {w:World} {B:Nat} {x:BdW} (h:uS w B x):yH w B x.types.A x.types.n x.types.L:=⟨h.types.cells,h.types.all⟩
theorem uS.locs {w:World} {B:Nat} {x:BdW} (h:uS w B x):cG w B x.locals.A x.locals.n x.locals.L:=⟨h.locals.cells,fun y a=>(h.locals.all y a).1⟩
theorem uS.prs {w:World} {B:Nat} {x:BdW} (h:uS w B x):Prs w B x.outl.A x.outl.n x.outl.L:=⟨h.outl.cells,h.outl.all⟩
def aU (xs ys:List Pr):Bool:=decide (xs=ys)
theorem cX {xs ys:List Pr}:aU xs ys=true↔xs=ys:=by simp [aU]
def dF (xs ys:List Pr) (k:Nat):Prop:=∀ j,j < k->xs[j]?=ys[j]?
theorem eZ {xs ys:List Pr} {k:Nat} {p:Pr} (h:dF xs ys k) (a:xs[k]?=some p) (b:ys[k]?=some p):dF xs ys (k+1):=fun i c=>by
 rcases Bs i k with h1 | h1
 ·exact h i h1
 ·obtain rfl:i=k:=by omega
  rw [a,b]
theorem EA {xs ys:List Pr} {k:Nat} {p q:Pr} (b:xs[k]?=some p) (a:ys[k]?=some q) (h:p≠q):aU xs ys=false:=by
 cases e:aU xs ys
 ·rfl
 ·rw [cX] at e;subst e;rw [b] at a;injection a with a;exact absurd a h
theorem rV {xs ys:List Pr} {n:Nat} (h:dF xs ys n) (a:xs.length=n) (b:ys.length=n):aU xs ys=true:=by
 rw [cX];refine Eb fun i=>?_
 rcases Bs i n with h1 | h1
 ·exact h i h1
 ·rw [Bh bB,Bh bB]
theorem ZY (A B:Option Addr) (n m c d:Nat) (xs ys:List Pr) (w:World) (k l:Nat) (z:Prs w k A n xs) (C:Prs w l B m ys) (X:n<=maxLen) (Y:m<=maxLen) :
 Calls prog 142 #[.slice A n c,.slice B m d] w fun e w'=>e=.returned (.bool (aU xs ys))/\Ab w w':=by
 have Z:=uA z;have HY:=uA C;have t:=uA z.len;have u:=uA C.len;unfold maxLen at X Y;clear z C;by_cases D:n=m
 ·subst D;go_enter func142,ntmps142
  go_wp2;go_loopw [13] (fun i wr=>∃ j:Nat,i=.int .i64 (j:Int)/\j<=n/\Hdd (dF xs ys j)/\Ab w wr/\(∀ p,wr.cell? p=w.cell? p)) (fun i _=>n - (intOf i).toNat)
  case atStart=>exact ⟨0,rfl,Am _,fun j h=>absurd h bB,Below.refl _ _,fun _=>rfl⟩
  case round=>
   obtain ⟨j,rfl,hj,H,hb,I⟩:=hrel;have y:=uA hb;have J:=uA I;clear hb I;by_cases a0:j < n
   ·obtain ⟨p,E⟩:∃ a,xs[j]?=some a:=⟨_,Ad (by have:=t.o;omega)⟩;obtain ⟨q,F⟩:∃ a,ys[j]?=some a:=⟨_,Ad (by have:=u.o;omega)⟩;obtain ⟨g,o,rfl,_,_,K,L⟩:=Z.o.at_ E;obtain ⟨g',o',rfl,_,_,M,N⟩:=HY.o.at_ F;rw [<-J.o] at K L M N;have O:(j:Int) < (n:Int):=bB;have R:=uA E;have S:=uA F;clear E F;obtain ⟨a,b⟩:=p;obtain ⟨T,U⟩:=q;simp only [] at K L M N;by_cases r:a=T/\b=U
    ·obtain ⟨rfl,rfl⟩:=r;have G:=uA (eZ H.o R.o S.o);go_wp2;go_quiet (fail)
     go_wp2;go_roundw
     case rel=>exact ⟨j+1,by go_num,bB,G.o,tyN y.o _,J.o⟩
     case measure=>simp [intOf];omega
    ·have x:=uA (EA R.o S.o (fun e=>r (by injection e with V e2;exact ⟨V,e2⟩)));by_cases W:a=T
     ·subst W;have h2:¬b=U:=fun e=>r ⟨rfl,e⟩
      clear r;go_wp2;go_quiet (fail)
      go_wp2;go_ret;exact ⟨congrArg (fun v=>Ending.returned (.bool v)) x.o.symm,tyN y.o _⟩
     ·clear r;go_wp2;go_quiet (fail)
      go_wp2;go_ret;exact ⟨congrArg (fun v=>Ending.returned (.bool v)) x.o.symm,tyN y.o _⟩
   ·obtain rfl:j=n:=by omega
    have x:=uA (rV H.o t.o u.o);go_wp2;go_ret;exact ⟨congrArg (fun v=>Ending.returned (.bool v)) x.o.symm,y.o⟩
 ·have V:((n:Int) != (m:Int))=true:=by simp;omega
  have x:=uA (show aU xs ys=false by
   cases h:aU xs ys
   ·rfl
   ·rw [cX] at h;subst h;have W:=t.o;have h2:=u.o;omega)
  go_enter func142,ntmps142
  go_wp2;go_ret;exact ⟨congrArg (fun v=>Ending.returned (.bool v)) x.o.symm,Below.refl _ _⟩
theorem QD {A B:Option Addr} {n m c d:Nat} {xs ys:List Pr} {v:Bool} (h:aU xs ys=v) (w:World) (a:Prs w w.heap.size A n xs) (b:Prs w w.heap.size B m ys) (g:n<=maxLen) (i:m<=maxLen) :
 Calls prog 142 #[.slice A n c,.slice B m d] w fun e w'=>e=.returned (.bool v)/\Ab w w':=h ▸ ZY A B n m c d xs ys w _ _ a b g i
def pU (x y:PlW):Bool:=decide (x.l=y.l/\x.ps=y.ps)
def yI (x y:PlW):Bool:=decide (x.l=y.l/\x.ps <+: y.ps)
theorem tF {x y:PlW}:pU x y=true↔x.l=y.l/\x.ps=y.ps:=by simp [pU]
theorem qD {x y:PlW}:yI x y=true↔x.l=y.l/\x.ps <+: y.ps:=by simp [yI]
theorem LE {xs ys:List Pr} {n:Nat} (a:xs.length=n) (b:n<=ys.length):xs <+: ys↔aU xs (ys.take n)=true:=by
 rw [cX];subst a;exact List.prefix_iff_eq_take
def yW (w:World) (x y:PlW):World:=(w.alloc (.cells #[.int .i64 x.l,.slice x.A x.n x.c] 48)).alloc (.cells #[.int .i64 y.l,.slice y.A y.n y.c] 48)
theorem mR (w:World) (x y:PlW):Ab w (yW w x y):=((Below.refl _ w).alloc (Ae _) _).alloc nF _
theorem aE {w w':World} {x y:PlW} (h:Ab (yW w x y) w'):w'.cell? ⟨w.heap.size,0,none⟩=some (.int .i64 x.l)/\w'.cell? ⟨w.heap.size,1,none⟩=some (.slice x.A x.n x.c)/\w'.cell? ⟨w.heap.size+1,0,none⟩=some (.int .i64 y.l)/\w'.cell? ⟨w.heap.size+1,1,none⟩=some (.slice y.A y.n y.c):=by
 have a:(yW w x y).heap.size=w.heap.size+2:=by simp [yW]
 refine ⟨(h.cell (p:=⟨w.heap.size,0,none⟩) (show w.heap.size < (yW w x y).heap.size by omega)).trans ?_,(h.cell (p:=⟨w.heap.size,1,none⟩) (show w.heap.size < (yW w x y).heap.size by omega)).trans ?_,(h.cell (p:=⟨w.heap.size+1,0,none⟩) (show w.heap.size+1 < (yW w x y).heap.size by omega)).trans ?_,(h.cell (p:=⟨w.heap.size+1,1,none⟩) (show w.heap.size+1 < (yW w x y).heap.size by omega)).trans ?_⟩ <;> (unfold yW;simp [go_sem])
theorem OB (x y:PlW) (w:World) (d:uL w w.heap.size x) (g:uL w w.heap.size y) :
 Calls prog 93 #[uV x,uV y] w fun e w'=>e=.returned (.bool (pU x y))/\Ab w w':=by
 have b:=uA (mR w x y);have C:=uA (d.up b.o).prs;have D:=uA (g.up b.o).prs;have q:=Ai d.nc d.cm;have r:=Ai g.nc g.cm;obtain ⟨l,A,n,c,i⟩:=x;obtain ⟨j,t,u,z,a⟩:=y;simp only [] at q r;clear d g;by_cases h:l=j
 ·subst h;obtain ⟨v,m⟩:∃ v,aU i a=v:=⟨_,rfl⟩;have E:=uA m;have o:=uA (show pU ⟨l,A,n,c,i⟩ ⟨l,t,u,z,a⟩=v by rw [<-m];unfold pU aU;simp);clear m;go_enter func93,ntmps93
  go_wp2_with fail
  refine (QD E.o _ C.o D.o q r).mono ?_;rintro e F ⟨rfl,hb⟩;have p:=uA (Aa b.o hb);clear hb;go_wp2;go_ret;exact ⟨congrArg (fun v=>Ending.returned (.bool v)) o.o.symm,p.o⟩
 ·have G:(l == j)=false:=by simpa using h
  have o:=uA (show pU ⟨l,A,n,c,i⟩ ⟨j,t,u,z,a⟩=false by unfold pU;simp [h]);clear h;go_enter func93,ntmps93
  go_wp2;go_ret;exact ⟨congrArg (fun v=>Ending.returned (.bool v)) o.o.symm,b.o⟩
theorem UM {x y:PlW} {v:Bool} (h:pU x y=v) (w:World) (a:uL w w.heap.size x) (b:uL w w.heap.size y) :
 Calls prog 93 #[uV x,uV y] w fun e w'=>e=.returned (.bool v)/\Ab w w':=h ▸ OB x y w a b
theorem DJ (x y:PlW) (w:World) (p:uL w w.heap.size x) (m:uL w w.heap.size y) :
 Calls prog 181 #[uV x,uV y] w fun e w'=>e=.returned (.bool (yI x y))/\Ab w w':=by
 have o:=uA (mR w x y);have K:=uA (p.up o.o).prs;have L:=uA (m.up o.o).prs;have H:=Ai p.nc p.cm;have I:=Ai m.nc m.cm;have M:=m.nc;have D:=uA fun (w':World) (h:Ab (yW w x y) w')=>aE h
 have q:=uA p.prs.len;have r:=uA m.prs.len;obtain ⟨l,A,n,c,d⟩:=x;obtain ⟨E,g,b,i,a⟩:=y;simp only [] at H I M;clear p m;by_cases C:l=E
 ·subst C;by_cases j:n<=b
  ·obtain ⟨v,F⟩:∃ v,aU d (a.take n)=v:=⟨_,rfl⟩;have N:=uA F;have t:=uA (show yI ⟨l,A,n,c,d⟩ ⟨l,g,b,i,a⟩=v from by
    rw [<-F,D8,qD,<- LE q.o (by rw [show a.length=b from r.o];exact j)];simp)
   have u:=uA fun (w':World) (h:Ab (yW w ⟨l,A,n,c,d⟩ ⟨l,g,b,i,a⟩) w')=>(show Prs w' w'.heap.size A n d/\Prs w' w'.heap.size g n (a.take n) from ⟨(K.o.below h).more h.size,((L.o.below h).more h.size).take j⟩)
   have z:(n:Int)<=(b:Int):=bB;have J:n<=i:=bB;clear F;go_enter func181,ntmps181
   go_wp2;change Code.wp _ _ _ _ (yW w ⟨l,A,n,c,d⟩ ⟨l,g,b,i,a⟩);go_region_held3 (fun w'=>Ab (yW w ⟨l,A,n,c,d⟩ ⟨l,g,b,i,a⟩) w'/\w'.cell? ⟨w.heap.size,0,none⟩=some (.int .i64 l)/\w'.cell? ⟨w.heap.size,1,none⟩=some (.slice A n c)/\w'.cell? ⟨w.heap.size+1,0,none⟩=some (.int .i64 l)/\w'.cell? ⟨w.heap.size+1,1,none⟩=some (.slice g b i))
    (first | exact ⟨by assumption,D.o _ (by assumption)⟩ | exact ⟨Below.refl _ _,D.o _ (Below.refl _ _)⟩ | exact ⟨(Below.refl _ _).drew,D.o _ (Below.refl _ _).drew⟩)
    (first | (go_at_call 142;go_split_ands;refine (QD N.o _ (u.o _ (by assumption)).1 (u.o _ (by assumption)).2 H (Ai j I)).mono ?_;rintro e R ⟨rfl,G⟩;have O:=Below.trans (by assumption:Ab (yW w ⟨l,A,n,c,d⟩ ⟨l,g,b,i,a⟩) _) (G.mono (Below.size (by assumption:Ab (yW w ⟨l,A,n,c,d⟩ ⟨l,g,b,i,a⟩) _)))))
   all_goals
    go_split_ands;go_wp2;go_ret;exact ⟨congrArg (fun v=>Ending.returned (.bool v)) t.o.symm,o.o.trans (Below.mono (by assumption) o.o.size)⟩
  ·have z:(b:Int) < (n:Int):=bB;have t:=uA (show yI ⟨l,A,n,c,d⟩ ⟨l,g,b,i,a⟩=false from by
    cases h:yI ⟨l,A,n,c,d⟩ ⟨l,g,b,i,a⟩
    ·rfl
    ·have:=(qD.1 h).2.length_le;have S:d.length=n:=q.o;have T:a.length=b:=r.o;simp only [] at this;omega)
   have U:decide (n<=b)=false:=decide_eq_false j;clear j;go_enter func181,ntmps181
   go_wp2;go_quiet (fail)
   go_wp2;go_ret;exact ⟨congrArg (fun v=>Ending.returned (.bool v)) t.o.symm,o.o.trans (tyN (Below.refl _ _) _)⟩
 ·have V:(l == E)=false:=by simpa using C
  have t:=uA (show yI ⟨l,A,n,c,d⟩ ⟨E,g,b,i,a⟩=false by unfold yI;simp [C]);clear C;go_enter func181,ntmps181
  go_wp2;go_quiet (fail)
  go_wp2;go_ret;exact ⟨congrArg (fun v=>Ending.returned (.bool v)) t.o.symm,o.o.trans (tyN (Below.refl _ _) _)⟩
theorem cM {x y:PlW} {v:Bool} (h:yI x y=v) (w:World) (a:uL w w.heap.size x) (b:uL w w.heap.size y) :
 Calls prog 181 #[uV x,uV y] w fun e w'=>e=.returned (.bool v)/\Ab w w':=h ▸ DJ x y w a b
deriving instance DecidableEq for PlV,OpV,RvV,StV,TmV,BkV,LcV
theorem DC (a b c d:Int) (w:World) {v:Bool} (h:decide (a=c/\b=d)=v):(Op.equalIn 10000 54 (.agg #[.int .i64 a,.int .i64 b]) (.agg #[.int .i64 c,.int .i64 d])).run prog w=.ok v w:=by
 have u5:=underlying3;have i:=Tryz.isAgg3;have j:=Tryz.sizeOf3;rw [show (10000:Nat)=9999+1 from rfl,Op.equalIn];simp only [Fd,run_underlying underlying54,Ew];simp only [Ez,Std.Legacy.Range.size,Nat.sub_zero,F0,Nat.div_one,List.range'_succ,List.range'_zero,List.forIn_cons,List.forIn_nil];go_simp;rw [<-h];by_cases e:a=c <;> by_cases g:b=d <;> simp [e,g]
section
variable {α β:Type}
def eqL [DecidableEq α] (xs ys:List α):Bool:=decide (xs=ys)
theorem lG [DecidableEq α] {xs ys:List α}:eqL xs ys=true↔xs=ys:=by simp [eqL]
def jR (f:β->α) (xs ys:List β) (k:Nat):Prop:=∀ j,j < k->(xs[j]?).map f=(ys[j]?).map f
theorem fC (f:β->α) (xs ys:List β):jR f xs ys 0:=fun _ h=>absurd h bB
theorem rB {f:β->α} {xs ys:List β} {k:Nat} {p q:β} (h:jR f xs ys k) (b:xs[k]?=some p) (c:ys[k]?=some q) (a:f p=f q):jR f xs ys (k+1):=fun i d=>by
 rcases Bs i k with h1 | h1
 ·exact h i h1
 ·obtain rfl:i=k:=by omega
  rw [b,c,Gv,Gv,a]
theorem NR [DecidableEq α] {f:β->α} {xs ys:List β} {k:Nat} {p q:β} (a:xs[k]?=some p) (b:ys[k]?=some q) (h:f p≠f q):eqL (xs.map f) (ys.map f)=false:=by
 cases e:eqL (xs.map f) (ys.map f)
 ·rfl
 ·rw [lG] at e;have:=congrArg (fun l=>l[k]?) e;simp only [Ar,a,b,Gv] at this;injection this with this;exact absurd this h
theorem ET [DecidableEq α] {f:β->α} {xs ys:List β} {n:Nat} (h:jR f xs ys n) (a:xs.length=n) (b:ys.length=n):eqL (xs.map f) (ys.map f)=true:=by
 rw [lG];refine Eb fun i=>?_
 rw [Ar,Ar];rcases Bs i n with h1 | h1
 ·exact h i h1
 ·rw [Bh bB,Bh bB]
theorem EU [DecidableEq α] {f:β->α} {xs ys:List β} {n m:Nat} (a:xs.length=n) (b:ys.length=m) (h:n≠m):eqL (xs.map f) (ys.map f)=false:=by
 cases e:eqL (xs.map f) (ys.map f)
 ·rfl
 ·rw [lG] at e;have:=congrArg List.length e;rw [Ao,Ao,a,b] at this;exact absurd this h
end
theorem ZF {x y:PlW}:x.v=y.v↔pU x y=true:=by
 rw [tF];obtain ⟨l,A,n,c,b⟩:=x;obtain ⟨d,e,g,h,a⟩:=y;simp [PlW.v]
section
variable {P:Program} (w:World)
theorem oN (base:Nat) (t l e:TypeId) (i:TypeInfo) (a:Nat) (h:P.underlying t=some (.slice e)) (j:P.info? e=some i)
 (v:Value) (n:Nat) (xs:List Value) (b:w.ownsRow base e a v n xs) (c:Nat):(Builtin.append_ #[t,t] l #[v,.slice none 0 c]).run P w=.ok v w:=by
 rcases b.2 with ⟨rfl,rfl⟩ | ⟨g,m,o,rfl,_,_,d,_⟩
 ·simp [Builtin.append_,run_underlying h,sizeOf,typeInfo,j,Builtin.lenOf,Builtin.firstCells]
 ·simp [Builtin.append_,run_underlying h,sizeOf,typeInfo,j,Builtin.lenOf,Builtin.firstCells,d,storeCells]
theorem AN (base:Nat) (t D e:TypeId) (i:TypeInfo) (z:Value) (bytes:Nat) (I:P.underlying t=some (.slice e)) (J:P.info? e=some i) (K:i.zero=some z)
 (p:i.size=1) (E:i.bytes=bytes) (F:z.cells.size=1)
 (v:Value) (n:Nat) (xs:List Value) (d:w.ownsRow base e 1 v n xs)
 (B:Nat) (A:Option Addr) (m c:Nat) (a:List Value) (x:Rd w B A m a) (L:∀ u∈a,u.oneCell'=true)
 (G:n+m<=maxLen) (g:(n+m)*bytes<=140737488355328) (q:base<=w.heap.size) :
 ∃ r w',(Builtin.append_ #[t,t] D #[v,.slice A m c]).run P w=.ok r w'/\w'.ownsRow base e 1 r (n+m) (xs++a)/\w.grownBy w' v.ownBlock /\
   (r.ownBlock=v.ownBlock\/r.ownBlock=some w.heap.size):=by
 rcases A with _ | ad
 ·have M:m=0:=by
   rcases Ca m with h0 | h0
   ·exact h0
   ·obtain ⟨b,o,h,_⟩:=x.2 h0;cases h
  subst M;have N:a=[]:=Bu x.1;subst N;exact ⟨v,w,oN w base t D e i 1 I J v n xs d c,by simpa using d,Gb w _,.inl rfl⟩
 ·have l:∀ j u,a[j]?=some u->w.cell? (ad.add j)=some u:=by
   intro j u H;have U:j < a.length:=by
    rcases Bs j a.length with h' | h'
    ·exact h'
    ·rw [Bh h'] at H;cases H
   obtain ⟨b,o,h,_,O⟩:=x.2 (by have:=x.1;omega);injection h with h;subst h;have y:(⟨b,o,none⟩:Addr).add j=⟨b,o+j,none⟩:=by unfold Addr.add;split <;> simp_all
   rw [y];exact O j u H
  obtain ⟨r,w',C,R,S,_,T⟩:=run_append_own_at (P:=P) w base t D e i z 1 bytes I J K p E F eW v n xs d ad m c a (by have:=x.1;omega) l L G g q;exact ⟨r,w',C,R,S,T⟩
theorem CZ {o:Oper} {a:Act} {K:Act->World->Prop} {Q:Exit->Act->World->Prop} (s x:Operand) (t:TypeId)
 (D:o.op=.call { callee:=.builtin .append,args:=#[s,x],argTypes:=#[t,t] })
 (base:Nat) (e:TypeId) (i:TypeInfo) (z:Value) (bytes:Nat) (E:P.underlying t=some (.slice e)) (F:P.info? e=some i) (G:i.zero=some z)
 (g:i.size=1) (r:i.bytes=bytes) (y:z.cells.size=1)
 (v:Value) (n:Nat) (xs:List Value) (H:a.eval s=v) (p:w.ownsRow base e 1 v n xs)
 (B:Nat) (A:Option Addr) (m c:Nat) (b:List Value) (I:a.eval x=.slice A m c) (J:Rd w B A m b) (L:∀ u∈b,u.oneCell'=true)
 (C:n+m<=maxLen) (d:(n+m)*bytes<=140737488355328) (j:base<=w.heap.size)
 (h:∀ l w',w'.ownsRow base e 1 l (n+m) (xs++b)->w.grownBy w' v.ownBlock->(l.ownBlock=v.ownBlock\/l.ownBlock=some w.heap.size)->K (a.put o.dst l) w'):o.wp P a w K Q:=by
 obtain ⟨l,w',q,M,N,O⟩:=AN (P:=P) w base t o.type e i z bytes E F G g r y v n xs p B A m c b J L C d j;unfold Oper.wp execOp;simp only [D,resolve,invoke,builtin,Fd,Sem.run_pure,Ew,Gl,C6,D2,H,I,q];exact h l w' M N O
theorem iV {q:Array Oper} {g:List Oper} {o:Oper} {a:Act} {Q:Exit->Act->World->Prop} (y:o.guard=none) (s x:Operand) (t:TypeId)
 (F:o.op=.call { callee:=.builtin .append,args:=#[s,x],argTypes:=#[t,t] })
 (base:Nat) (e:TypeId) (i:TypeInfo) (z:Value) (bytes:Nat) (G:P.underlying t=some (.slice e)) (H:P.info? e=some i) (I:i.zero=some z)
 (j:i.size=1) (C:i.bytes=bytes) (D:z.cells.size=1)
 (v:Value) (n:Nat) (xs:List Value) (J:a.eval s=v) (r:w.ownsRow base e 1 v n xs)
 (B:Nat) (A:Option Addr) (m c:Nat) (b:List Value) (K:a.eval x=.slice A m c) (L:Rd w B A m b) (M:∀ u∈b,u.oneCell'=true)
 (E:n+m<=maxLen) (d:(n+m)*bytes<=140737488355328) (l:base<=w.heap.size)
 (h:∀ p w',w'.ownsRow base e 1 p (n+m) (xs++b)->w.grownBy w' v.ownBlock->(p.ownBlock=v.ownBlock\/p.ownBlock=some w.heap.size)->wpList P q Q g (a.put o.dst p) w'):wpList P q Q (o :: g) a w:=
 wpList_plain y fun _ N=>CZ w s x t F base e i z bytes G H I j C D v n xs J r B A m c b K L M E d l fun p w' O R S=>N _ _ (h p w' O R S)
end
theorem mM {w d g:World} {base:Nat} {e:TypeId} {a n:Nat} {v:Value} {xs:List Value} (hb:Below base d w) (b:w.ownsRow base e a v n xs) (c:base<=w.heap.size) (h:w.grownBy g v.ownBlock):Below base d g:=
 hb.grown h c (fun k i=>(b.lt k i).1)
section
variable {α:Type}
def oS (f:α->Nat) (l:List α):Nat:=(l.map f).sum
theorem KB (f:α->Nat):oS f []=0:=rfl
theorem dQ (f:α->Nat) (x:α) (l:List α):oS f (x :: l)=f x+oS f l:=by simp [oS]
theorem jT (f:α->Nat) (l m:List α):oS f (l++m)=oS f l+oS f m:=by simp [oS]
theorem uC7 {f:α->Nat} {l:List α} {j:Nat} {p:α} (h:l[j]?=some p):oS f (l.take (j+1))=oS f (l.take j)+f p:=by
 rw [Bm,h,jT];simp [oS]
theorem GM {f:α->Nat} {l:List α} {p:α} (h:p∈l):f p<=oS f l:=by
 induction l with
 | nil=>cases h
 | cons x l a=>
   rw [dQ];rcases Av.1 h with rfl | h
   ·omega
   ·have:=a h;omega
end
theorem vV (n:Int) (a:-9223372036854775808<=n) (b:n<=9223372036854775807):IntKind.i64.wrap n=n:=by
 simp [IntKind.wrap,IntKind.bits,IntKind.signed];omega
end Go.Proofs.YtnkjbjkoffgocaaGreatDoor
