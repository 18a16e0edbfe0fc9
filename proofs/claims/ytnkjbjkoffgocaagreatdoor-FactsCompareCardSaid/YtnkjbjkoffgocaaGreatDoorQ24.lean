import Derived.Test.YtnkjbjkoffgocaaGreatDoorQ23
import Derived.Test.YtnkjbjkoffgocaaGreatDoorSortf
set_option linter.unusedVariables false
set_option linter.unusedSimpArgs false
set_option maxRecDepth 100000
set_option maxHeartbeats 2000000
namespace Go.Proofs.YtnkjbjkoffgocaaGreatDoor
open Tryz Go.RowKit
def zW (l:List BkV) (x:Int) (p:Nat):Option Bool:=if x∈mJ l (p:Int) then some true else if UF l (p:Int)=some x then some false else none
theorem qS {l:List BkV} {x:Int} {p:Nat} (h:x∈mJ l (p:Int)):zW l x p=some true:=by unfold zW;rw [if_pos h]
theorem OJ {l:List BkV} {x:Int} {p:Nat} (h:zW l x p=some true):x∈mJ l (p:Int):=by
 unfold zW at h
 split at h
 ·assumption
 ·split at h <;> cases h
theorem rT {l:List BkV} {x:Int} {p:Nat} (h:zW l x p=none):x∉mJ l (p:Int)/\UF l (p:Int)≠some x:=by
 unfold zW at h
 split at h
 ·cases h
 ·rename_i a
  split at h
  ·cases h
  ·rename_i b;exact ⟨a,b⟩
def vF (l:List BkV) (x:Int) (m:Nat):List (Nat×Bool):=(List.range m).filterMap fun p=>(zW l x p).map fun u=>(p,u)
theorem CE (l:List BkV) (x:Int) (m:Nat):vF l x (m+1)=vF l x m++(match zW l x m with | none=>[] | some u=>[(m,u)]):=by
 unfold vF;rw [Dx,Dh];congr 1;cases h:zW l x m <;> simp [El,h]
theorem zF {l:List BkV} {x:Int} {m p:Nat} {u:Bool}:(p,u)∈vF l x m↔p < m/\zW l x p=some u:=by
 unfold vF;rw [Er];constructor
 ·rintro ⟨q,a,h⟩;rw [Gr] at h;obtain ⟨v,b,e⟩:=h;injection e with c d;subst c d;exact ⟨B1.1 a,b⟩
 ·rintro ⟨f,g⟩;exact ⟨p,B1.2 f,by rw [g];rfl⟩
theorem lQ (l:List BkV) (x:Int) (m:Nat):(vF l x m).Pairwise fun a b=>a.1 < b.1:=by
 induction m with
 | zero=>exact List.Pairwise.nil
 | succ m d=>
   rw [CE,List.pairwise_append];refine ⟨d,?_,fun a e b c=>?_⟩
   ·cases zW l x m <;> simp
   ·obtain ⟨q,u⟩:=a;have f:=(zF.1 e).1;cases h:zW l x m with
    | none=>rw [h] at c;cases c
    | some v=>
      rw [h] at c;rw [An.1 c];exact f
theorem fM (l:List BkV) (x:Int) (m:Nat):(vF l x m).length<=m:=by
 unfold vF;refine Ai (Dj _ _) ?_;rw [C0];exact Ae _
abbrev wM:=Nat×Nat
def xW (R:List wM) (p:Nat):Nat:=R.countP fun r=>decide (r.1<=p/\p < r.2)
theorem UG {R S:List wM} (h:R.Perm S) (p:Nat):xW R p=xW S p:=h.countP_eq _
theorem yK (R S:List wM) (p:Nat):xW (R++S) p=xW R p+xW S p:=List.countP_append
theorem cK (a b p:Nat):xW [(a,b)] p=if a<=p/\p < b then 1 else 0:=by
 unfold xW;rw [Dc,Gu];by_cases h:a<=p/\p < b
 ·rw [if_pos h,if_pos (decide_eq_true h)]
 ·rw [if_neg h,if_neg (by rw [decide_eq_false h];decide)]
theorem RX {R:List wM} {a b c p:Nat} (h:a<=b) (i:b<=c):xW (R++[(a,b)]++[(b,c)]) p=xW (R++[(a,c)]) p:=by
 rw [yK,yK,yK,cK,cK,cK];by_cases d:a<=p <;> by_cases e:p < b <;> by_cases f:b<=p <;> by_cases g:p < c <;> simp [d,e,f,g] <;> omega
def oC (C:Nat) (R:List wM):Prop:=∀ r∈R,r.1 < r.2/\r.2<=C
structure eJ (s:List (Nat×Bool)) (f a b:Nat):Prop where
 low:f<=b
 all:∀ z∈s,z.1 < a->z.1 < b
 one:b=f\/∃ z∈s,z.1 < a/\b=z.1+1
def PS (l:List BkV) (p:Int):Nat:=((vB l p).getD (0,0)).1
theorem DO {l:List BkV} {p i k:Nat} (h:wA l p=some (i,k)):PS l (p:Int)=i:=by
 unfold PS;rw [oI h];rfl
def qX (l:List BkV) (E:List Pr) (j:Nat):List Nat:=E.filterMap fun e=>if e.2=(uD l j:Int) then some (PS l e.1) else none
theorem QN (l:List BkV) (E:List Pr) (e:Pr) (j:Nat):qX l (E++[e]) j=qX l E j++if e.2=(uD l j:Int) then [PS l e.1] else []:=by
 unfold qX;rw [Dh];congr 1;by_cases h:e.2=(uD l j:Int) <;> simp [El,h]
theorem IN (l:List BkV) (E:List Pr) (j:Nat):(qX l E j).length<=E.length:=Dj _ _
theorem jK {l:List BkV} {p q:Int}:(p,q)∈xF l↔∃ n y:Nat,p=(n:Int)/\q=(y:Int)/\n < uF l/\y∈nxN l (n:Int):=by
 unfold xF edI;rw [Dt];constructor
 ·rintro ⟨n,a,h⟩;obtain ⟨z,b,e⟩:=Bw.1 h;injection e with c g;have d:=(nX.1 b).1;refine ⟨n,z.toNat,c.symm,bB,B1.1 a,aG.2 ?_⟩;rw [Dv d.1];exact b
 ·rintro ⟨n,y,rfl,rfl,a,f⟩;exact ⟨n,B1.2 a,Bw.2 ⟨_,aG.1 f,rfl⟩⟩
theorem lS {l:List BkV} {i j:Nat} (a:i < l.length) (b:j < l.length) (h:uD l i=uD l j):i=j:=by
 rcases Cl i j with h1 | h1 | h1
 ·have:=vX h1 (Co b);omega
 ·exact h1
 ·have:=vX h1 (Co a);omega
theorem VX {l:List BkV} {i j:Nat} (r:j < l.length):i∈qX l (xF l) j↔i < l.length/\j∈bN l i:=by
 unfold qX;rw [Er];constructor
 ·rintro ⟨⟨p,q⟩,v,h⟩;obtain ⟨n,y,rfl,rfl,C,s⟩:=jK.1 v
  split at h
  ·rename_i t;have t:y=uD l j:=by have:(y:Int)=(uD l j:Int):=t;omega
   injection h with h;cases c:wA l n with
   | none=>have:=mP c;omega
   | some z=>
     obtain ⟨E,k⟩:=z;have e:PS l (n:Int)=i:=h;rw [DO c] at e;subst e;obtain ⟨b,a,F,rfl⟩:=vI c;have g:=(Ah.1 a).1;by_cases d:k < b.stmts.length
     ·rw [CX c a d] at s;obtain ⟨_,G⟩:=XQ (k:=0) (m:=k+1) (Ad r) a (Am _) d bB;omega
     ·obtain ⟨A,f,e⟩:=(lM c a d).1 s;have:A=j:=lS (uE1 f) r bB;exact ⟨g,this ▸ f⟩
  ·cases h
 ·rintro ⟨B,o⟩;obtain ⟨b,a⟩:∃ b,l[i]?=some b:=⟨_,Ad B⟩;have c:wA l (uD l i+b.stmts.length)=some (i,b.stmts.length):=oB.2 ⟨b,a,Ae _,rfl⟩;refine ⟨(((uD l i+b.stmts.length:Nat):Int),(uD l j:Int)),jK.2 ⟨_,_,rfl,rfl,aQ a (Ae _),(lM c a (Cg _)).2 ⟨j,o,rfl⟩⟩,?_⟩;show (if (uD l j:Int)=(uD l j:Int) then some (PS l ((uD l i+b.stmts.length:Nat):Int)) else none)=some i;rw [if_pos rfl,DO c]
section
variable {l:List BkV} {x:Int}
theorem TY {p:Nat} (h:x∈mJ l (p:Int)):zC l x p:=cZ.2 (.inl h)
theorem fI {i:Nat} {b:BkV} (a:l[i]?=some b):∀ (d k:Nat),k+d<=b.stmts.length->zC l x (uD l i+(k+d))->(∀ m,k<=m->m < k+d->zW l x (uD l i+m)=none)->zC l x (uD l i+k)
 | 0,k,_,h,_=>h
 | d+1,k,g,h,c=>by
   have e:zC l x (uD l i+(k+1)):=fI a d (k+1) bB (by rw [show k+1+d=k+(d+1) by omega];exact h) fun m e j=>c m bB bB
   have f:wA l (uD l i+k)=some (i,k):=oB.2 ⟨b,a,bB,rfl⟩;refine cZ.2 (.inr ⟨(rT (c k (Ae _) bB)).2,_,(CX f a bB).2 rfl,?_⟩);rw [show uD l i+k+1=uD l i+(k+1) by omega];exact e
theorem gZ {C f a b:Nat} (h:eJ (vF l x C) f a b) {p:Nat} (g:b<=p) (c:p < a) (d:p < C):zW l x p=none:=by
 cases e:zW l x p with
 | none=>rfl
 | some u=>have:=h.all (p,u) (zF.2 ⟨d,e⟩) c;exact absurd this (by show ¬p < b;omega)
theorem ZO {i k b:Nat} {c:BkV} (a:l[i]?=some c) (d:k<=c.stmts.length) (f:x∈mJ l ((uD l i+k:Nat):Int)) (h:eJ (vF l x (uF l)) (uD l i) (uD l i+k) b) :
 ∀ p,b<=p->p < uD l i+k+1->zC l x p:=fun p j n=>by
 have o:=h.low;have g:=aQ a d;have e:p=uD l i+(p - uD l i):=by omega
 rw [e];refine fI a (k - (p - uD l i)) (p - uD l i) bB ?_ fun m q r=>gZ h bB bB bB
 rw [show p - uD l i+(k - (p - uD l i))=k by omega];exact TY f
theorem SI {i j b:Nat} {c:BkV} (a:l[i]?=some c) (g:j∈bN l i) (k:zC l x (uD l j)) (h:eJ (vF l x (uF l)) (uD l i) (uD l (i+1)) b) :
 ∀ p,b<=p->p < uD l (i+1)->zC l x p:=fun p o q=>by
 have r:=h.low;have d:=vW a;unfold ptN at d;have f:=aQ a (Ae c.stmts.length);have n:wA l (uD l i+c.stmts.length)=some (i,c.stmts.length):=oB.2 ⟨c,a,Ae _,rfl⟩;have e:p=uD l i+(p - uD l i):=by omega
 rw [e];refine fI a (c.stmts.length - (p - uD l i)) (p - uD l i) bB ?_ fun m s t=>gZ h bB bB bB
 rw [show p - uD l i+(c.stmts.length - (p - uD l i))=c.stmts.length by omega];exact cZ.2 (.inr ⟨(rT (gZ h bB bB f)).2,_,(lM n a (Cg _)).2 ⟨j,g,rfl⟩,k⟩)
end
def eE (l:List BkV) (x:Int) (X:List Nat) (r:wM):Prop:=(∃ q,q < uF l/\x∈mJ l (q:Int)/\r=(q,q+1))\/∃ i∈X,r=(uD l (i+1),uD l (i+1))
structure yA (l:List BkV) (x:Int) (u:Nat) (X:List Nat) (W:List wM) (Dn:List (wM×Nat)) (Pd:List Nat):Prop where
 all:∀ r,(r∈W\/r∈Dn.map Prod.fst)↔eE l x X r
 nd:(W++Dn.map Prod.fst).Nodup
 xnd:X.Nodup
 xok:∀ i∈X,i < l.length/\∃ j∈bN l i,zC l x (uD l j)
 pok:∀ i∈Pd,i < l.length/\∃ j∈bN l i,zC l x (uD l j)
 dn:∀ d∈Dn,∃ j,j < l.length/\uD l j < d.1.2/\d.1.2<=uD l (j+1)/\eJ (vF l x (uF l)) (uD l j) d.1.1 d.2/\(d.2=uD l j->∀ i,i < l.length->j∈bN l i->i∈X\/i∈Pd)
 len:W.length+Dn.length=u+X.length
def mD (Dn:List (wM×Nat)):List wM:=Dn.filterMap fun d=>if d.2 < d.1.2 then some (d.2,d.1.2) else none
theorem YW (Dn:List (wM×Nat)) (d:wM×Nat):mD (Dn++[d])=mD Dn++if d.2 < d.1.2 then [(d.2,d.1.2)] else []:=by
 unfold mD;rw [Dh];congr 1;by_cases h:d.2 < d.1.2 <;> simp [El,h]
theorem UE (Dn:List (wM×Nat)):(mD Dn).length<=Dn.length:=Dj _ _
theorem TI (Dn:List (wM×Nat)) (p:Nat):xW (mD Dn) p=Dn.countP fun d=>decide (d.2<=p/\p < d.1.2):=by
 induction Dn with
 | nil=>rfl
 | cons d Dn a=>
   have e:xW (mD (d :: Dn)) p=(if d.2<=p/\p < d.1.2 then 1 else 0)+xW (mD Dn) p:=by
    have b:mD (d :: Dn)=(if d.2 < d.1.2 then [(d.2,d.1.2)] else [])++mD Dn:=by
     unfold mD;by_cases h:d.2 < d.1.2 <;> simp [El,h]
    rw [b,yK];congr 1;by_cases h:d.2 < d.1.2
    ·rw [if_pos h,cK]
    ·rw [if_neg h,if_neg bB];rfl
   rw [e,a,Dc];by_cases h:d.2<=p/\p < d.1.2
   ·rw [if_pos h,if_pos (decide_eq_true h)];omega
   ·rw [if_neg h,if_neg (by rw [decide_eq_false h];decide)];omega
section
variable {l:List BkV} {x:Int} {u:Nat} {X:List Nat} {W:List wM} {Dn:List (wM×Nat)} {Pd:List Nat}
def vZ (s:List (Nat×Bool)):List wM:=s.filterMap fun z=>if z.2=true then some (z.1,z.1+1) else none
theorem OR (s:List (Nat×Bool)) (z:Nat×Bool):vZ (s++[z])=vZ s++if z.2=true then [(z.1,z.1+1)] else []:=by
 unfold vZ;rw [Dh];congr 1;by_cases h:z.2=true <;> simp [El,h]
theorem II (s:List (Nat×Bool)):(vZ s).length<=s.length:=Dj _ _
theorem JP {l:List BkV} {x:Int} {r:wM}:r∈vZ (vF l x (uF l))↔∃ q,q < uF l/\x∈mJ l (q:Int)/\r=(q,q+1):=by
 unfold vZ;rw [Er];constructor
 ·rintro ⟨⟨q,v⟩,d,h⟩
  split at h
  ·rename_i a;have a:v=true:=a;subst a;obtain ⟨b,c⟩:=zF.1 d;injection h with h;exact ⟨q,b,OJ c,h.symm⟩
  ·cases h
 ·rintro ⟨q,b,c,rfl⟩;exact ⟨(q,true),zF.2 ⟨b,qS c⟩,rfl⟩
theorem MK (l:List BkV) (x:Int) (m:Nat):(vZ (vF l x m)).Nodup:=by
 unfold vZ;refine List.Pairwise.filterMap _ ?_ (lQ l x m);intro a b h c f d g
 split at f
 ·split at g
  ·injection f with f;injection g with g;subst f g;intro e;injection e with e;omega
  ·cases g
 ·cases f
theorem yA.start (l:List BkV) (x:Int):yA l x (vZ (vF l x (uF l))).length [] (vZ (vF l x (uF l))) [] []:=by
 refine ⟨fun r=>?_,by simpa using MK l x _,Ff,(fun i h=>by cases h),(fun i h=>by cases h),(fun d h=>by cases h),nF⟩;unfold eE;rw [JP];simp
theorem eE.block {r:wM} (h:eE l x X r) (e:∀ i∈X,i < l.length):∃ j k,wA l (r.2 - 1)=some (j,k)/\0 < r.2/\j < l.length/\uD l j < r.2/\r.2<=uD l (j+1)/\r.2<=uF l:=by
 rcases h with ⟨q,n,_,rfl⟩ | ⟨i,f,rfl⟩
 ·cases hl:wA l q with
  | none=>have:=mP hl;omega
  | some z=>
    obtain ⟨j,k⟩:=z;obtain ⟨b,a,g,rfl⟩:=vI hl;have d:=vW a;have m:=aQ a g;unfold ptN at d;refine ⟨j,k,?_,?_,(Ah.1 a).1,?_,?_,?_⟩
    ·exact hl
    all_goals (show _;simp only [];omega)
 ·have c:=e i f;obtain ⟨b,a⟩:∃ b,l[i]?=some b:=⟨_,Ad c⟩;have d:=vW a;have m:=yL l (i+1);unfold ptN at d;refine ⟨i,b.stmts.length,oB.2 ⟨b,a,Ae _,?_⟩,?_,c,?_,?_,?_⟩;all_goals (show _;simp only [];omega)
theorem yA.live {r:wM} {j b:Nat} (h:yA l x u X W Dn Pd) (f:eE l x X r) (s:j < l.length) (a:uD l j < r.2) (d:r.2<=uD l (j+1)) (o:eJ (vF l x (uF l)) (uD l j) r.1 b) :
 ∀ p,b<=p->p < r.2->zC l x p:=by
 obtain ⟨c,g⟩:∃ c,l[j]?=some c:=⟨_,Ad s⟩;have m:=vW g;unfold ptN at m;rcases f with ⟨q,z,t,rfl⟩ | ⟨i,f,rfl⟩
 ·have a:uD l j < q+1:=a;have d:q+1<=uD l (j+1):=d;obtain ⟨k,rfl⟩:∃ k,q=uD l j+k:=⟨q - uD l j,bB⟩;exact ZO g bB t o
 ·obtain ⟨v,A,n,y⟩:=h.xok i f;have a:uD l j < uD l (i+1):=a;have d:uD l (i+1)<=uD l (j+1):=d;have e:i=j:=by
   rcases Cl i j with h3 | h3 | h3
   ·have:=uO l (show i+1<=j from h3);omega
   ·exact h3
   ·have:=vX (l:=l) (show j+1 < i+1 by omega) bB;omega
  subst e;exact SI g n y o
theorem yA.pop {r:wM} {j b:Nat} (h:yA l x u X (W++[r]) Dn []) (o:j < l.length) (c:uD l j < r.2) (p:r.2<=uD l (j+1)) (q:eJ (vF l x (uF l)) (uD l j) r.1 b) {Pd:List Nat}
 (f:∀ i∈Pd,i < l.length/\j∈bN l i) (g:b=uD l j->∀ i,i < l.length->j∈bN l i->i∈Pd) (m:b≠uD l j->Pd=[]):yA l x u X W (Dn++[(r,b)]) Pd:=by
 have a:eE l x X r:=(h.all r).1 (.inl nF);have n:=h.live a o c p q;refine ⟨fun s=>?_,?_,h.xnd,h.xok,fun i a=>?_,fun d hd=>?_,?_⟩
 ·rw [<-h.all s,By,Aq,Aq];simp only [C6,D2];exact ⟨fun k=>k.elim (fun k=>.inl (.inl k)) fun k=>k.elim .inr fun k=>.inl (.inr k),fun k=>k.elim (fun k=>k.elim .inl fun k=>.inr (.inr k)) fun k=>.inr (.inl k)⟩
 ·have t:=h.nd;rw [By];simp only [C6,D2];refine (List.Perm.nodup_iff ?_).1 t;rw [C2];exact List.Perm.append_left _ (List.perm_append_comm)
 ·by_cases e:b=uD l j
  ·have:=f i a;exact ⟨this.1,j,this.2,n _ (Cw e) c⟩
  ·rw [m e] at a;cases a
 ·rcases Aq.1 hd with hd | hd
  ·obtain ⟨v,y,z,A,B,C⟩:=h.dn d hd;exact ⟨v,y,z,A,B,fun e i a k=>(C e i a k).elim .inl fun k=>by cases k⟩
  ·rw [An.1 hd];exact ⟨j,o,c,p,q,fun e i a k=>.inr (g e i a k)⟩
 ·have:=h.len;simp at this ⊢;omega
theorem yA.skip {i:Nat} (h:yA l x u X W Dn (i :: Pd)) (b:i∈X):yA l x u X W Dn Pd:=
 ⟨h.all,h.nd,h.xnd,h.xok,fun k a=>h.pok k (Cj _ a),fun d c=>by
  obtain ⟨f,g,j,m,n,o⟩:=h.dn d c;exact ⟨f,g,j,m,n,fun e k a q=>(o e k a q).elim .inl fun q=>(Av.1 q).elim (fun q=>.inl (q ▸ b)) .inr⟩,h.len⟩
theorem yA.push {i:Nat} (h:yA l x u X W Dn (i :: Pd)) (g:i∉X):yA l x u (X++[i]) (W++[(uD l (i+1),uD l (i+1))]) Dn Pd:=by
 have j:=(h.pok i nF).1;have c:¬eE l x X (uD l (i+1),uD l (i+1)):=by
  rintro (⟨q,_,_,e⟩ | ⟨k,hk,e⟩)
  ·injection e with n F;omega
  ·injection e with n _;have o:=(h.xok k hk).1;have:i=k:=by
    rcases Cl i k with h3 | h3 | h3
    ·have:=vX (l:=l) (show i+1 < k+1 by omega) bB;omega
    ·exact h3
    ·have:=vX (l:=l) (show k+1 < i+1 by omega) bB;omega
   exact g (this ▸ hk)
 refine ⟨fun s=>?_,?_,?_,fun k hk=>?_,fun k hk=>h.pok k (Cj _ hk),fun d p=>?_,?_⟩
 ·unfold eE;rw [Aq,An];have f:=h.all s;unfold eE at f;constructor
  ·rintro ((k | k) | k)
   ·exact (f.1 (.inl k)).imp id fun ⟨m,hm,e⟩=>⟨m,Aq.2 (.inl hm),e⟩
   ·exact .inr ⟨i,nF,k⟩
   ·exact (f.1 (.inr k)).imp id fun ⟨m,hm,e⟩=>⟨m,Aq.2 (.inl hm),e⟩
  ·rintro (k | ⟨m,hm,e⟩)
   ·exact (f.2 (.inl k)).imp .inl id
   ·rcases Aq.1 hm with hm | hm
    ·exact (f.2 (.inr ⟨m,hm,e⟩)).imp .inl id
    ·rw [An.1 hm] at e;exact .inl (.inr e)
 ·have r:(uD l (i+1),uD l (i+1))∉W++Dn.map Prod.fst:=fun k=>c ((h.all _).1 (Aq.1 k))
  refine (List.Perm.nodup_iff ?_).2 (E6.2 ⟨r,h.nd⟩);rw [C2];exact List.perm_middle
 ·refine Fg.2 ⟨h.xnd,nF,fun a t b v=>?_⟩;rw [An.1 v];exact fun e=>g (e ▸ t)
 ·rcases Aq.1 hk with hk | hk
  ·exact h.xok k hk
  ·rw [An.1 hk];exact h.pok i nF
 ·obtain ⟨y,z,A,B,C,E⟩:=h.dn d p;exact ⟨y,z,A,B,C,fun e k hk q=>(E e k hk q).elim (fun q=>.inl (Aq.2 (.inl q))) fun q=>(Av.1 q).elim (fun q=>.inl (Aq.2 (.inr (by simp [q])))) .inr⟩
 ·have:=h.len;simp;omega
theorem yA.xlen (h:yA l x u X W Dn Pd):X.length<=l.length:=by
 have:=pP (m:=List.range l.length) h.xnd fun i a=>B1.2 (h.xok i a).1
 rwa [C0] at this
theorem lW {α o:Type} {P:α->Bool} {f:α->o}:∀ {L:List α},(L.map f).Nodup->(∃ z∈L,P z=true)->(∀ a∈L,∀ b∈L,P a=true->P b=true->f a=f b)->L.countP P=1
 | [],_,⟨z,h,_⟩,_=>by cases h
 | a :: L,i,⟨z,h,m⟩,n=>by
   rw [C6,E6] at i;rw [Dc];by_cases d:P a=true
   ·have p:L.countP P=0:=Ek.2 fun b g j=>i.1 (Bw.2 ⟨b,g,(n a nF b (Cj _ g) d j).symm⟩)
    rw [p,if_pos d]
   ·rw [if_neg d];have k:z∈L:=(Av.1 h).elim (fun e=>absurd (e ▸ m) d) id;exact lW i.2 ⟨z,k,m⟩ fun b g c q=>n b (Cj _ g) c (Cj _ q)
theorem yA.fin (h:yA l x u X [] Dn []) {p:Nat} (hp:p < uF l):xW (mD Dn) p=if lvB l x p=true then 1 else 0:=by
 have G:∀ d∈Dn,eE l x X d.1:=fun d C=>(h.all _).1 (.inr (Bw.2 ⟨d,C,rfl⟩))
 have a4:(Dn.map Prod.fst).Nodup:=by simpa using h.nd
 rw [TI]
 -- a run that a point lies in,by its block
 have a5:∀ y,y < uF l->zC l x y->∃ d∈Dn,d.2<=y/\y < d.1.2:=fun y hy M=>by
  obtain ⟨q,N,H⟩:=M;have Q:∀ a z,z∈lvN l x a->(∃ d∈Dn,d.2<=z/\z < d.1.2)->∃ d∈Dn,d.2<=a/\a < d.1.2:=fun a z E ⟨d,C,k1,k2⟩=>by
   by_cases t:x∈mJ l (a:Int)
   ·have a6:a < uF l:=by
     cases e:wA l a with
     | none=>
       exfalso;have f:vB l (a:Int)=none:=by unfold vB;rw [if_neg bB,A3];exact e
       unfold mJ at t;rw [sI f] at t;cases t
     | some r=>
       obtain ⟨i,k⟩:=r;obtain ⟨b,v,hk,rfl⟩:=vI e;exact aQ v hk
    have n:=(h.all (a,a+1)).2 (.inl ⟨a,a6,t,rfl⟩);have n:=n.elim (fun k=>by cases k) id;obtain ⟨A,g,e⟩:=Bw.1 n;obtain ⟨j,_,_,_,s,_⟩:=h.dn A g;rw [e] at s;refine ⟨A,g,?_,by rw [e];exact Dr _⟩;rcases s.one with f | ⟨F,_,m,f⟩
    ·rename_i o O _;have o:uD l j < A.1.2:=o;rw [e] at o;have:uD l j < a+1:=o;omega
    ·have:F.1 < a:=m;omega
   ·unfold lvN at E
    split at E
    ·cases E
    ·rename_i a7;have hs:zW l x a=none:=by unfold zW;rw [if_neg t,if_neg a7]
     obtain ⟨j,hj,o,O,s,k7⟩:=h.dn d C;cases e:wA l a with
     | none=>
       exfalso;have f:vB l (a:Int)=none:=by unfold vB;rw [if_neg bB,A3];exact e
       rw [aG,UA f] at E;cases E
     | some r=>
       obtain ⟨i,k⟩:=r;obtain ⟨b,v,hk,rfl⟩:=vI e;have a8:=(Ah.1 v).1;have a9:=vW v;unfold ptN at a9;have ag:=s.low;by_cases R:k < b.stmts.length
       ·have aa:=(CX e v R).1 E;subst aa;have ab:i=j:=by
         rcases Cl i j with h3 | h3 | h3
         ·have:=uO l (show i+1<=j from h3);omega
         ·exact h3
         ·have:=uO l (show j+1<=i from h3);omega
        subst ab;refine ⟨d,C,?_,bB⟩;rcases s.one with f | ⟨F,m,_,f⟩
        ·omega
        ·refine Dw fun hn=>?_
         have T:F.1=uD l i+k:=bB;obtain ⟨U,zu⟩:=F;have T:U=uD l i+k:=T;subst T;rw [(zF.1 m).2] at hs;cases hs
       ·obtain ⟨c,I,f⟩:=(lM e v R).1 E;subst f;have ah:=uE1 I;have L:c=j:=by
         rcases Cl c j with h3 | h3 | h3
         ·have:=vX (l:=l) h3 (Co hj);omega
         ·exact h3
         ·have:=uO l (show j+1<=c from h3);omega
        subst L;have hX:=(k7 bB i a8 I).elim id fun k=>by cases k
        have n:=(h.all (uD l (i+1),uD l (i+1))).2 (.inr ⟨i,hX,rfl⟩);have n:=n.elim (fun k=>by cases k) id;obtain ⟨A,g,e4⟩:=Bw.1 n;obtain ⟨j2,ai,P,m6,V,_⟩:=h.dn A g;rw [e4] at V P m6;have P:uD l j2 < uD l (i+1):=P;refine ⟨A,g,?_,by rw [e4];show uD l i+k < uD l (i+1);omega⟩;rcases V.one with f | ⟨F,m,Y,f⟩
        ·have:j2<=i:=by
          refine Dw fun hn=>?_
          have:=uO l (show i+1<=j2 by omega);omega
         have:=uO l this;omega
        ·refine Dw fun hn=>?_
         obtain ⟨U,zu⟩:=F;have Y:U < uD l (i+1):=Y;have f:A.2=U+1:=f;have T:U=uD l i+k:=bB;subst T;rw [(zF.1 m).2] at hs;cases hs
  have ac:∀ q,kT (lvN l x) [y] q->(∃ d∈Dn,d.2<=q/\q < d.1.2)->∃ d∈Dn,d.2<=y/\y < d.1.2:=fun q N=>by
   induction N with
   | base h0=>rw [An.1 h0];exact id
   | step _ k ih=>exact fun E=>ih (Q _ _ k E)
  refine ac q N ?_;have ad:q < uF l:=by
   cases e:wA l q with
   | none=>
     exfalso;have f:vB l (q:Int)=none:=by unfold vB;rw [if_neg bB,A3];exact e
     unfold mJ at H;rw [sI f] at H;cases H
   | some r=>
     obtain ⟨i,k⟩:=r;obtain ⟨b,v,hk,rfl⟩:=vI e;exact aQ v hk
  have n:=((h.all (q,q+1)).2 (.inl ⟨q,ad,H,rfl⟩)).elim (fun k=>by cases k) id;obtain ⟨A,g,e⟩:=Bw.1 n;obtain ⟨j,_,o,_,s,_⟩:=h.dn A g;rw [e] at s o;have o:uD l j < q+1:=o;refine ⟨A,g,?_,by rw [e];exact Dr _⟩;rcases s.one with f | ⟨F,_,m,f⟩
  ·omega
  ·have:F.1 < q:=m;omega
 by_cases M:zC l x p
 ·rw [if_pos (dU.2 M)];obtain ⟨d,C,n,h2⟩:=a5 p hp M;refine lW a4 ⟨d,C,decide_eq_true ⟨n,h2⟩⟩ fun a ha b v ae af=>?_
  obtain ⟨a1,a2⟩:=of_decide_eq_true ae;obtain ⟨b1,b2⟩:=of_decide_eq_true af;obtain ⟨j,hj,o,O,s,_⟩:=h.dn a ha;obtain ⟨c,I,P,m6,V,_⟩:=h.dn b v;have l1:=s.low;have l2:=V.low;have L:c=j:=by
   rcases Cl c j with h3 | h3 | h3
   ·have:=uO l (show c+1<=j from h3);omega
   ·exact h3
   ·have:=uO l (show j+1<=c from h3);omega
  subst L
  -- no site from p up to the run's raw start
  have ns:∀ (d:wM×Nat),eJ (vF l x (uF l)) (uD l c) d.1.1 d.2->d.2<=p->∀ q,p<=q->q < d.1.1->q < uF l->zW l x q=none:=fun d k n q h2 h3 h4=>gZ k bB h3 h4
  have n1:=ns a s a1;have n2:=ns b V b1;have hF:=yL l (c+1);rcases G a ha with ⟨q,N,H,ea⟩ | ⟨i,hi,ea⟩ <;> rcases G b v with ⟨q',Z,a0,eb⟩ | ⟨B,a3,eb⟩ <;> rw [ea] at a2 n1 o O <;> rw [eb] at b2 n2 P m6 <;> rw [ea,eb] <;> simp only [] at a2 b2 n1 n2 o O P m6
  ·rcases Cl q q' with h3 | h3 | h3
   ·have:=n2 q bB h3 N;rw [qS H] at this;cases this
   ·rw [h3]
   ·have:=n1 q' bB h3 Z;rw [qS a0] at this;cases this
  ·have e1:B=c:=by
    have:=(h.xok B a3).1;rcases Cl B c with h3 | h3 | h3
    ·have:=uO l (show B+1<=c from h3);omega
    ·exact h3
    ·have:=vX (l:=l) (show c+1 < B+1 by omega) bB;omega
   subst e1;have:=n2 q bB bB N;rw [qS H] at this;cases this
  ·have e1:i=c:=by
    have:=(h.xok i hi).1;rcases Cl i c with h3 | h3 | h3
    ·have:=uO l (show i+1<=c from h3);omega
    ·exact h3
    ·have:=vX (l:=l) (show c+1 < i+1 by omega) bB;omega
   subst e1;have:=n1 q' bB bB Z;rw [qS a0] at this;cases this
  ·have e1:i=c:=by
    have:=(h.xok i hi).1;rcases Cl i c with h3 | h3 | h3
    ·have:=uO l (show i+1<=c from h3);omega
    ·exact h3
    ·have:=vX (l:=l) (show c+1 < i+1 by omega) bB;omega
   have f:B=c:=by
    have:=(h.xok B a3).1;rcases Cl B c with h3 | h3 | h3
    ·have:=uO l (show B+1<=c from h3);omega
    ·exact h3
    ·have:=vX (l:=l) (show c+1 < B+1 by omega) bB;omega
   rw [e1,f]
 ·rw [if_neg (fun k=>M (dU.1 k))];refine Ek.2 fun d C hP=>M ?_
  obtain ⟨n,h2⟩:=of_decide_eq_true hP;obtain ⟨j,hj,o,O,s,_⟩:=h.dn d C;exact h.live (G d C) hj o O s p n h2
theorem yA.runs (h:yA l x u X W Dn Pd):oC (uF l) (mD Dn):=fun r a=>by
 unfold mD at a;obtain ⟨d,b,e⟩:=Er.1 a
 split at e
 ·injection e with e;subst e;obtain ⟨j,_,_,c,_,_⟩:=h.dn d b;have:=yL l (j+1);exact ⟨by assumption,by show d.1.2<=_;omega⟩
 ·cases e
end
section
open Go.Shelf Go.Sort
def vT (r:wM):List Value:=[.int .i64 (r.1:Int),.int .i64 (r.2:Int)]
theorem wN (r:wM):(vT r).length=2:=rfl
theorem qG (r:wM):∀ u∈vT r,u.oneCell'=true:=by intro u a;simp only [vT,Av,Cd,or_false] at a;rcases a with rfl | rfl <;> rfl
theorem MA (R:List wM):flatK vT 2 R.toArray=(R.flatMap vT).toArray:=by
 refine G2 (by simp [uU wN]) fun t c d=>?_
 have b:t < R.length*2:=by simpa using c
 have e:t / 2 < R.length:=by omega
 have a:=zG (f:=vT) wN (L:=R) (i:=t / 2) (x:=R[t / 2]) (j:=t % 2) (Ad e) bB;rw [show t / 2*2+t % 2=t by omega] at a;have g:=get_flatK vT 2 R.toArray t (by simpa using b);rw [getElem!_pos _ t c] at g;rw [g];have k:R.toArray[t / 2]! = R[t / 2]:=by simp [e]
 rw [k];have m:(R.flatMap vT).toArray[t]=(R.flatMap vT)[t]'(by simpa using d):=by simp
 rw [m];have n:=Ad (l:=R.flatMap vT) (i:=t) (by simpa using d);rw [n] at a;have o:(vT R[t / 2])[t % 2]?=some ((vT R[t / 2])[t % 2]!):=by
  rcases (show t % 2=0\/t % 2=1 by omega) with h | h <;> rw [h] <;> rfl
 rw [o] at a;injection a with a;exact a.symm
theorem EP (x y:wM):ltOf (fun x y:wM=>aJ (x.1:Int) (y.1:Int)) x y=decide (x.1 < y.1):=by
 show decide ((if (x.1:Int) < (y.1:Int) then (-1:Int) else if (y.1:Int) < (x.1:Int) then 1 else 0) < 0)=_;by_cases a:(x.1:Int) < (y.1:Int)
 ·rw [if_pos a];have:x.1 < y.1:=by omega
  simp [this]
 ·rw [if_neg a];have:¬x.1 < y.1:=by omega
  by_cases b:(y.1:Int) < (x.1:Int) <;> simp [b,this]
theorem uI7:SWO (ltOf fun x y:wM=>aJ (x.1:Int) (y.1:Int)) where
 irrefl x:=by rw [EP];simp
 trans x y z h1 h2:=by rw [EP] at *;simp at *;omega
 ntrans x y z h1 h2:=by rw [EP] at *;simp at *;omega
theorem WB (x y:wM) (w:World):Calls prog 226 #[.agg #[.int .i64 (x.1:Int),.int .i64 (x.2:Int)],.agg #[.int .i64 (y.1:Int),.int .i64 (y.2:Int)]] w fun e a=>e=.returned (.int .i64 (aJ (x.1:Int) (y.1:Int)))/\∃ q b,a=grow (w.drewN q) b:=by
 obtain ⟨c,g⟩:=x;obtain ⟨d,h⟩:=y;have f:=fun a=>DW (c:Int) (d:Int) a
 generalize aJ (c:Int) (d:Int)=v at *;go_enter func226,ntmps226
 go_wp2_with fail
 refine (f _).mono ?_;rintro e i ⟨rfl,rfl⟩;go_wp2;go_ret;exact ⟨rfl,0,_,by rw [alloc_eq_grow,alloc_eq_grow,grow_grow];rfl⟩
theorem uDj (w:World):(isAgg 203).run prog w=.ok true w:=Tryz.isAgg203 w
theorem uFu (w:World):(Go.sizeOf 203).run prog w=.ok 2 w:=Tryz.sizeOf203 w
theorem FO {w:World} {base n c:Nat} {A:Option Addr} {R:List wM} (h:w.ownsRow base 203 2 (.slice A n c) n (R.flatMap vT)) (hn:n<=1000000000) :
 Calls prog 225 #[.slice A n c,.func (.func 226) #[] #[]] w fun e s=>e=.returned (.tuple #[])/\(∃ a,R.Perm a/\s.ownsRow base 203 2 (.slice A n c) n (a.flatMap vT))/\(base<=w.heap.size->Below base w s):=by
 have T:R.length=n:=by
  have B:=h.1;rw [uU wN] at B;omega
 rcases h.2 with ⟨U,hx⟩ | ⟨g,V,f,C,b,t,B,Y,Z,h4⟩
 ·injection U with E N F;subst E N F;refine (AnyF.slices_SortFunc_none Tryz.sortRun none 0 _ w).mono ?_;rintro e s ⟨rfl,rfl⟩;exact ⟨rfl,⟨R,List.Perm.refl _,h⟩,fun _=>Go.RowKit.Below.refl _ _⟩
 ·injection C with E N F;subst E F;subst T;have O:g < w.heap.size:=(Ag.1 t).1;have hf:(R.flatMap vT).length=R.length*2:=uU wN R;have hH:HoldsK vT 2 w g 0 R.toArray:=by
   unfold HoldsK;rw [MA];intro j o;have p:j < (R.flatMap vT).length:=(by simpa using o);refine ⟨?_,by simp [World.frozen?,t]⟩;have q:(f.toList.take (R.length*2))[j]?=(R.flatMap vT)[j]?:=(by rw [h4]);rw [Ej bB] at q;simp only [World.cell?,t,Ea];simp only [Option.isSome_none,Bool.false_eq_true,if_false];rw [<-Et,q];simp [Ad p,p]
  have d:=AnyQ.slices_SortFunc Tryz.sortRun 2 uDj uFu vT (fun _=>rfl) (fun x v C=>qG x v C) (fun x y:wM=>aJ (x.1:Int) (y.1:Int)) uI7 226 #[] g 0 c R.toArray w (enters_of func226 fL rfl) (fun _ _ _ _ x y=>WB x y _) hH O (by simp;omega);change Calls prog 225 _ _ _ at d;have G:R.toArray.size=R.length:=by simp
  rw [G] at d;refine d.mono ?_;rintro e s ⟨rfl,P,m,z,Q,_,rfl⟩;obtain ⟨a,rfl⟩:∃ a:List wM,P=a.toArray:=⟨P.toList,nF⟩;have H:a.length=R.length:=by have:=Q.1;simpa using this
  have I:R.Perm a:=by
   have q:=Q.2.2;simp at q;have h6:=q.symm
   rwa [Au bB] at h6
  have r:(a.flatMap vT).length=R.length*2:=by rw [uU wN,H]
  have hw:sortWorldK vT 2 w g 0 m a.toArray z=grow (putRow id (Sort.ahead w m) g 0 (a.flatMap vT).toArray) z:=by
   unfold sortWorldK putRowK;rw [MA]
  rw [hw];have i:(grow (putRow id (Sort.ahead w m) g 0 (a.flatMap vT).toArray) z).heap[g]?=some (.cells (putCells id 0 (a.flatMap vT).toArray f) 203 (0,0)):=by
   rw [heap_grow_old _ _ (by simpa using O)];simp [putRow,mapBlock,Sort.ahead,Di,t,onCells]
  have L:w.grownBy (grow (putRow id (Sort.ahead w m) g 0 (a.flatMap vT).toArray) z) (some g):=by
   refine ⟨rfl,rfl,rfl,nF,fun k hk M=>?_⟩;rw [heap_grow_old _ _ (by simpa using hk)];have:g≠k:=fun e=>M (by rw [e])
   simp [putRow,mapBlock,Sort.ahead,Di,this]
  refine ⟨rfl,⟨a,I,⟨r,.inr ⟨g,c,_,rfl,b,i,B,Y,by simp [putCells,Z],?_⟩⟩⟩,fun hs=>(Go.RowKit.Below.refl base w).grown L hs (fun j o=>by cases o;exact b)⟩;apply Eb;intro j;by_cases o:j < R.length*2
  ·rw [Ej o,Et];have:j < (a.flatMap vT).length:=by omega
   simp [putCells,this,show j < f.size by omega,o,r]
  ·rw [List.getElem?_take_eq_none bB,Bh bB]
end
theorem XD:Go.Maps.Keyed prog 3:=Go.Maps.int_keyed underlying3
def BS (t:Ty) (men:Int->Int->Prop) (r:Int):Prop:=(t.kind=3/\r=t.region)\/∃ p∈uG t,men p r
structure uEq (S:Nat->Prop) (J:World->(Int->Prop)->Prop) (gq:Nat) (RR:Int->Prop):Prop where
 open_:∀ w D,J w D->∃ bq m Dm,w.cell? ⟨gq,0,none⟩=some (.map (some bq))/\w.ownsMap (H:=Unit) prog 3 (plainElem prog 4) bq m Dm/\m < maxLen/\S bq /\
  ∀ r w',uH r->RR r->w'.ownsMap (H:=Unit) prog 3 (plainElem prog 4) bq (m+1) (Dm.put (.int .i64 r) (.lit (.bool true)))->w.grownBy w' (some bq)->J w' (fun q=>D q\/q=r)
theorem uCz {r:Int} (h:uH r):keyOf prog 3 (.int .i64 r)=some (.int .i64 r):=Go.Maps.keyOf_int_mk underlying3 (aW h)
theorem wF.grown1 {w a:World} {x:TyW} {c:Nat} {S:Nat->Prop} (h:wF w w.heap.size x) (f:w.grownBy a (some c)) (k:0 < x.n->∀ b o,x.A=some ⟨b,o,none⟩->¬S b) (m:S c):wF a a.heap.size x:=
 ⟨h.ok,h.rd.1,fun g=>by
  obtain ⟨b,o,e,i,n⟩:=h.rd.2 g;exact ⟨b,o,e,Ap i f.size,fun j u p=>(f.cell_far ⟨b,o+j,none⟩ i (fun d=>by injection d with d;have q:b=c:=d;exact k g b o e (by rw [q];exact m))).trans (n j u p)⟩⟩
section
variable (x:TyW) (K:FuncId) (caps:Array Value) (w:World) (hx:wF w w.heap.size x) (S:Nat->Prop) (J:World->(Int->Prop)->Prop) (men:Int->Int->Prop) (D:Int->Prop)
  (hst:∀ w w' D,J w D->Ab w w'->J w' D) (hJ:J w D) (hfar:0 < x.n->∀ b o,x.A=some ⟨b,o,none⟩->¬S b) (hS:∀ k,S k->k < w.heap.size)
include hx hst hJ hfar hS
theorem uAl (gq:Nat) (a7:gq < w.heap.size) (RR:Int->Prop) (a8:RR x.t.region) (hN:uEq S J gq RR) (V:∀ w',Turn S w w'->cS K caps (fun _=>.bool true) (uG x.t) w' S J men) :
 Calls prog 166 #[xU x,.func (.func K) #[] caps,.pointer (some ⟨gq,0,none⟩)] w fun e w'=>e=.returned (.bool true)/\J w' (fun r=>D r\/BS x.t men r)/\Turn S w w':=by
 have HB:=uA ((Below.refl w.heap.size w).alloc (Ae _) (.cells (c5 x).toArray 123));have HX:=uA ((hx.below HB.o).more (B':=(w.alloc (.cells (c5 x).toArray 123)).heap.size) nF);have HF:=uA hfar;have HS:=uA hS;have HJ:=uA hJ;have a0:=uA hst;have N:=uA (hst _ _ _ hJ HB.o);have HV:=uA (V w (Turn.refl _ _));have ae:=(V w (Turn.refl _ _)).enter;by_cases s:x.t.kind=3
 ·have e3:(x.t.kind == 3)=true:=beq_iff_eq.2 s;have H3:=uA s;have a1:=uA hx.ok.r;obtain ⟨bq,m,Dm,hc,M,hm,F,a2⟩:=hN.open_ _ _ N.o;have HO:=uA M;have a9:=uA a2;have a3:=uA F;have G:Hdd ((fun r=>(fun q=>D q\/q=x.t.region) r\/∃ p∈uG x.t,men p r)=fun r=>D r\/BS x.t men r):=by
   show _=_;funext r;simp only [BS,s,true_and,or_assoc]
  have f:∃ n:Int->Prop,n=fun q=>D q\/q=x.t.region:=⟨_,rfl⟩
  obtain ⟨n,g⟩:=f;rw [<-g] at G;have aa:=uA g;have ag:w.cell? ⟨gq,0,none⟩=some (.map (some bq)):=by rwa [Ef w _ ⟨gq,0,none⟩ a7] at hc
  have a4:bq < w.heap.size:=hS bq F;have ab:=uA a4;have a5:=uCz a1.o;have ac:=uA a5;clear hx hst hJ hfar hS hN V s M a2 F g hc a5 a4;go_enter func166,ntmps166
  go_wp2_with (at_mapUpdate;refine wpList_mapUpdate_own _ rfl _ _ _ 245 rfl 3 4 XD underlying245 _ bq m Dm rfl HO.o hm _ _ (.int .i64 x.t.region) rfl rfl ac.o (.lit (.bool true)) [] (plainElem_bool underlying4 true) ?_;intro y z d;have O:Hdd (J y n):=(by show J y n;rw [aa.o];exact a9.o _ _ a1.o a8 z d);have P:Hdd (Turn S w y):=((Turn.of_below HB.o).grown d (fun k hk=>(by cases hk;exact .inl a3.o)));have H:Hdd (w.heap.size+1<=y.heap.size):=(by have:=d.size;simpa [Hdd] using this);have af:w.heap.size < y.heap.size:=H.o;have t:some w.heap.size≠some bq:=(fun e=>by injection e with e;have:=ab.o;omega);have d0:y.cell? ⟨w.heap.size,0,none⟩=some (.int .i64 x.t.kind):=d.cell (by simp [go_sem]) t;have d1:y.cell? ⟨w.heap.size,1,none⟩=some (.bool x.t.mut_):=d.cell (by simp [go_sem]) t;have d2:y.cell? ⟨w.heap.size,2,none⟩=some (.int .i64 x.t.region):=d.cell (by simp [go_sem]) t;have d3:y.cell? ⟨w.heap.size,3,none⟩=some (.int .i64 x.t.elem):=d.cell (by simp [go_sem]) t;have d4:y.cell? ⟨w.heap.size,4,none⟩=some (.slice x.A x.n x.c):=d.cell (by simp [go_sem]) t;have Q:Hdd (wF y y.heap.size x):=(HX.o.grown1 d HF.o a3.o);clear z d t)
  refine (eY _ _ Q.o).mono ?_;rintro e w2 ⟨A1,v,c1,rfl,h1,h2,s,h4,R,h6⟩;have HL:=uA s;have HR:=uA h4;have A:=uA (P.o.trans (Turn.of_below R));have T:=uA (a0.o _ _ _ O.o R);have HN:Hdd (0 < v->∀ b o,A1=some ⟨b,o,none⟩->¬S b):=fun h0 b o e F=>by
   rcases h6 b o e with ⟨h,hn⟩ | h
   ·exact HF.o bB b o h F
   ·have:=HS.o b F;have:=H.o;omega
  unfold maxLen at h2;clear s h4 R h6;go_wp2_with fail
  go_loopw [17] (fun i wr=>∃ j:Nat,i=.int .i64 (j:Int)/\j<=v/\Hdd (J wr (dV n (uG x.t) men j))/\Turn S w2 wr) (fun i _=>v - (intOf i).toNat)
  case atStart=>exact ⟨0,rfl,Am _,by show J w2 _;rw [dT];exact T.o,Turn.refl _ _⟩
  case round=>
   obtain ⟨j,rfl,hj,B,ht⟩:=hrel;have I:=uA ht;clear ht;by_cases ad:j < v
   ·have a6:(j:Int) < (v:Int):=bB;have f:∃ a,(uG x.t)[j]?=some a:=⟨_,Ad (by have:=HL.o;omega)⟩;obtain ⟨p,L⟩:=f;obtain ⟨b,o,rfl,hb,c0⟩:=(HR.o.turn I.o (Ae _) HN.o).int L;have HP:=uA L;have U:=uA (HV.o.call p (Aj L) wr _ (A.o.trans I.o) B.o);clear L;go_wp2_with fail
    refine U.o.mono ?_;rintro e w3 ⟨rfl,C,E⟩;have c:Hdd (J w3 (dV n (uG x.t) men (j+1))):=by show J w3 _;rw [<-pL n men HP.o];exact C
    have Y:=uA (I.o.trans E);clear C E;go_wp2_with fail
    go_roundw
    case rel=>exact ⟨j+1,by go_num,bB,c.o,Y.o⟩
    case measure=>simp [intOf];omega
   ·obtain rfl:j=v:=by omega
    have c:=B.o;rw [gN _ _ _ (by rw [HL.o];exact Ae _),G.o] at c;have Z:=uA c;clear c;go_wp2;go_ret;exact ⟨rfl,Z.o,A.o.trans I.o⟩
 ·have e3:(x.t.kind == 3)=false:=beq_eq_false_iff_ne.2 s;have f:∃ n:Int->Prop,n=D:=⟨_,rfl⟩;obtain ⟨n,g⟩:=f;have G:Hdd ((fun r=>n r\/∃ p∈uG x.t,men p r)=fun r=>D r\/BS x.t men r):=by
   show _=_;rw [g];funext r;simp only [BS,s,false_and,false_or]
  rw [<-g] at N;have O:=N;have Q:=HX;have P:Hdd (Turn S w (w.alloc (.cells (c5 x).toArray 123))):=Turn.of_below HB.o;have H:Hdd (w.heap.size+1<=(w.alloc (.cells (c5 x).toArray 123)).heap.size):=by show _<=_;simp
  clear hx hst hJ hfar hS hN V s g;go_enter func166,ntmps166
  go_wp2_with fail
  refine (eY _ _ Q.o).mono ?_;rintro e w2 ⟨A1,v,c1,rfl,h1,h2,s,h4,R,h6⟩;have HL:=uA s;have HR:=uA h4;have A:=uA (P.o.trans (Turn.of_below R));have T:=uA (a0.o _ _ _ O.o R);have HN:Hdd (0 < v->∀ b o,A1=some ⟨b,o,none⟩->¬S b):=fun h0 b o e F=>by
   rcases h6 b o e with ⟨h,hn⟩ | h
   ·exact HF.o bB b o h F
   ·have:=HS.o b F;have:=H.o;omega
  unfold maxLen at h2;clear s h4 R h6;go_wp2_with fail
  go_loopw [17] (fun i wr=>∃ j:Nat,i=.int .i64 (j:Int)/\j<=v/\Hdd (J wr (dV n (uG x.t) men j))/\Turn S w2 wr) (fun i _=>v - (intOf i).toNat)
  case atStart=>exact ⟨0,rfl,Am _,by show J w2 _;rw [dT];exact T.o,Turn.refl _ _⟩
  case round=>
   obtain ⟨j,rfl,hj,B,ht⟩:=hrel;have I:=uA ht;clear ht;by_cases ad:j < v
   ·have a6:(j:Int) < (v:Int):=bB;have f:∃ a,(uG x.t)[j]?=some a:=⟨_,Ad (by have:=HL.o;omega)⟩;obtain ⟨p,L⟩:=f;obtain ⟨b,o,rfl,hb,c0⟩:=(HR.o.turn I.o (Ae _) HN.o).int L;have HP:=uA L;have U:=uA (HV.o.call p (Aj L) wr _ (A.o.trans I.o) B.o);clear L;go_wp2_with fail
    refine U.o.mono ?_;rintro e w3 ⟨rfl,C,E⟩;have c:Hdd (J w3 (dV n (uG x.t) men (j+1))):=by show J w3 _;rw [<-pL n men HP.o];exact C
    have Y:=uA (I.o.trans E);clear C E;go_wp2_with fail
    go_roundw
    case rel=>exact ⟨j+1,by go_num,bB,c.o,Y.o⟩
    case measure=>simp [intOf];omega
   ·obtain rfl:j=v:=by omega
    have c:=B.o;rw [gN _ _ _ (by rw [HL.o];exact Ae _),G.o] at c;have Z:=uA c;clear c;go_wp2;go_ret;exact ⟨rfl,Z.o,A.o.trans I.o⟩
end
theorem BD {zs:List Int} (h:zs.Nodup):uHm (zs.mergeSort fun x y=>decide (x<=y)):=by
 refine sT ?_ ((E2 zs _).nodup_iff.2 h);have:=Gm (le:=fun x y:Int=>decide (x<=y)) (fun a b c d e=>by simp only [decide_eq_true_eq] at *;omega) (fun a b=>by simp only [Bool.or_eq_true,decide_eq_true_eq];omega) zs;exact this.imp fun h=>by simpa using h
def tG (D0:DataW Unit) (a:Lit->Bool) (b:List Int):Prop:=b.Nodup/\∀ x,x∈b↔(Maps.has D0 (.int .i64 x)=true/\a (.int .i64 x)=false)
theorem tG.start (D0:DataW Unit):tG D0 (Maps.has D0) []:=⟨Ff,fun x=>by cases Maps.has D0 (.int .i64 x) <;> simp⟩
theorem tG.step {D0:DataW Unit} {c:Lit->Bool} {g:List Int} (h:tG D0 c g) {x:Int} {y:DataW Unit} (i:c (.int .i64 x)=true) (j:∀ n,D0.atKey (.int .i64 x) n=y):tG D0 (fun z=>c z && !z.sameKey (.int .i64 x)) (g++[x]):=by
 have d:Maps.has D0 (.int .i64 x)=true:=Maps.has_true_of_atKey j;have f:x∉g:=fun hx=>by have:=((h.2 x).1 hx).2;rw [i] at this;cases this
 refine ⟨Fg.2 ⟨h.1,nF,fun a o b k=>by simp at k;subst k;exact fun e=>f (e ▸ o)⟩,fun y=>?_⟩;by_cases m:y=x
 ·subst m;simp [d,Lit.sameKey]
 ·simp [h.2 y,m,Lit.sameKey]
def MR (s:Nat) (b:List Int) (w:World) (D:Int->Prop):Prop:=w.cell? ⟨s+1,0,none⟩=some (.map (some s))/\s+1 < w.heap.size/\∃ m a,w.ownsMap (H:=Unit) prog 3 (plainElem prog 4) s m a /\
 (∀ q,uH q->(Maps.has a (.int .i64 q)=true↔D q))/\∀ q,D q->q∈b
theorem MR.turn {s:Nat} {f:List Int} {w w':World} {D:Int->Prop} (h:MR s f w D) {S:Nat->Prop} (e:Turn S w w') (g:¬S s) (i:¬S (s+1)):MR s f w' D:=by
 obtain ⟨a,b,m,j,c,d⟩:=h;exact ⟨(e.cell (p:=⟨s+1,0,none⟩) b i).trans a,Ap b e.size,m,j,uN c (e.block s bB g),d⟩
theorem MR.few {s:Nat} {b:List Int} {w:World} {D:Int->Prop} (h:MR s b w D):∃ a,w.ownsMap (H:=Unit) prog 3 (plainElem prog 4) s b.length a/\∀ q,uH q->(Maps.has a (.int .i64 q)=true↔D q):=by
 obtain ⟨_,_,m,a,c,d,e⟩:=h;exact ⟨a,lV zS underlying3 c b fun q f g=>e q ((d q (by simpa [Lit.wf,IntKind.min,IntKind.max,IntKind.signed,IntKind.bits,uH] using f)).1 g),d⟩
theorem fP {q:Int} (a:(Lit.int .i64 q).wf=true):uH q:=by simpa [Lit.wf,IntKind.min,IntKind.max,IntKind.signed,IntKind.bits,uH] using a
theorem uD7 {C:Ctx} {r:Int} {s:Nat} (o:TyOk (tys C.L) r) (z:C.KP=166) (H:C.cp=#[.pointer (some ⟨s+1,0,none⟩)]) (f:C.fix) (A:∀ k,C.S k↔k=C.bm\/k=s) (I:s+1 < C.bm) (B:C.L.length=C.n) :
 QB C (fun _=>.bool true) (wO (tys C.L)) (JB C (wO (tys C.L)) (fun _=>true) (MR s ((tys C.L).map Ty.region))):=by
 refine ⟨fun g w=>?_,fun i x hx w D K caps L t E V=>?_⟩
 ·rw [z];exact dJ func166 fL rfl g w
 ·rw [z,H];have M:∀ w b D,MR s ((tys C.L).map Ty.region) w D->Turn (fun k=>k=C.bm) w b->MR s ((tys C.L).map Ty.region) b D:=fun w b D h c=>h.turn c (fun e=>by omega) (fun e=>by omega)
  have N:uEq C.S (JB C (wO (tys C.L)) (fun _=>true) (MR s ((tys C.L).map Ty.region))) (s+1) (fun q=>q∈(tys C.L).map Ty.region):=by
   refine ⟨fun w D a=>?_⟩;obtain ⟨O,F,P⟩:=a.m.few;refine ⟨s,_,O,a.m.1,F,?_,(A s).2 (.inr rfl),fun q b Z Q j R=>?_⟩
   ·rw [Ao,Ao];have:=f.few;unfold maxLen;omega
   ·have c:Turn (fun k=>k=s) w b:=(Turn.refl _ w).grown R (fun k v=>by injection v with v;exact .inl v.symm);refine ⟨a.fr.turn f c (fun k e=>(A k).2 (.inr e)),(a.kn.block (c.block _ (a.fr.ls _ f.sm) bB)).grow (fun q h=>.inl h),?_⟩;refine ⟨(c.cell (p:=⟨s+1,0,none⟩) a.m.2.1 nF).trans a.m.1,Ap a.m.2.1 c.size,_,_,j,fun p m=>?_,fun p m=>?_⟩
    ·by_cases d:p=q
     ·subst d;rw [Da ⟨_,F.entries zS |>.choose_spec.1⟩ (show Go.WideAt.IsKeyLit (.int .i64 p) from trivial)];exact ⟨fun _=>.inr rfl,fun _=>rfl⟩
     ·have y:Lit.int .i64 p≠Lit.int .i64 q:=fun e=>by injection e with _ e;exact d e
      rw [B7 y,P p m];exact ⟨.inl,fun h=>h.elim id (fun e=>absurd e d)⟩
    ·rcases m with m | rfl
     ·obtain ⟨_,_,_,_,_,_,n⟩:=a.m;exact n p m
     ·exact Q
  have h:=uAl x K caps w L C.S (JB C (wO (tys C.L)) (fun _=>true) (MR s ((tys C.L).map Ty.region))) (wO (tys C.L)) D (fun w b D a T=>a.below f M T) E (f.fx x (Aj hx)) t (s+1) E.m.2.1 (fun q=>q∈(tys C.L).map Ty.region)
   (Bw.2 ⟨x.t,Bw.2 ⟨x,Aj hx,rfl⟩,rfl⟩) N (fun b c=>V.later c)
  refine h.mono ?_;rintro e b ⟨rfl,G,U⟩;have Y:(fun q=>D q\/BS x.t (wO (tys C.L)) q)=fun q=>D q\/wO (tys C.L) (i:Int) q:=by
   funext q;rw [o.men_at (nK hx)];rfl
  rw [Y] at G;exact ⟨rfl,G,U⟩
end Go.Proofs.YtnkjbjkoffgocaaGreatDoor
