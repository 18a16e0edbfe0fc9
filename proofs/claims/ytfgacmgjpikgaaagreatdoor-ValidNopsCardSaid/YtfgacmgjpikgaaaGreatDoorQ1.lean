/- Part 2 of the contracts and their mathematics. -/
import Derived.Test.YtfgacmgjpikgaaaGreatDoorQ0
import Derived.Below
import Derived.Laws.OwnMore
import Derived.Deep.AppendLies
import Derived.Deep.Draws
import Derived.Laws.BytesArg
import Derived.Lib.Bytes
import Derived.Laws.BitsLemmas
import Derived.RangeFuncBox
import Derived.OwnWalk
import Derived.Test.YtfgacmgjpikgaaaGreatDoorProg
import Derived.Laws.Rows
import Derived.Outline
import Derived.Deep.QuietTactic
import Derived.BigQuiet
set_option linter.unusedVariables false
set_option linter.unusedSimpArgs false
set_option maxHeartbeats 2000000
namespace Go.Proofs.YtfgacmgjpikgaaaGreatDoor
open Go.RowKit
def pjErr (p:Pr):Int:=if p.1≠0∧p.1≠1 then 14 else if p.1=0∧p.2≠0 then 2 else if p.2 < 0 then 3 else 0
theorem pjErr_zero {p:Pr} (h:pjErr p=0):(p.1=0∧p.2=0)∨(p.1=1∧0≤p.2):=by
 unfold pjErr at h
 split at h
 ·
  cases h
 ·
  split at h
  ·
   cases h
  ·
   split at h
   ·
    cases h
   ·
    omega
def pjsErr:List Pr→Int
 | []=>0
 | p :: l=>if pjErr p=0 then pjsErr l else pjErr p
theorem pjsErr_at {l:List Pr} {k:Nat} {p:Pr} (h:l[k]?=some p):pjsErr (l.drop k)=if pjErr p=0 then pjsErr (l.drop (k+1)) else pjErr p:=by
 have hk:=(List.getElem?_eq_some_iff.1 h).1
 have e:l.drop k=p :: l.drop (k+1):=by
  rw [List.drop_eq_getElem_cons hk]
  rw [List.getElem?_eq_getElem hk] at h
  injection h with h
  rw [h]
 rw [e]
 rfl
theorem pjsErr_zero:∀ {l:List Pr},pjsErr l=0↔∀ p∈l,pjErr p=0
 | []=>⟨(fun _ p h=>by cases h),fun _=>rfl⟩
 | p :: l=>by
  show (if pjErr p=0 then pjsErr l else pjErr p)=0↔_
  by_cases hp:pjErr p=0
  ·
   rw [if_pos hp,pjsErr_zero]
   exact ⟨(fun h q hq=>by rcases List.mem_cons.1 hq with rfl | hq;exact hp;exact h q hq),fun h q hq=>h q (by simp [hq])⟩
  ·
   rw [if_neg hp]
   exact ⟨fun h=>absurd h hp,fun h=>h p (by simp)⟩
def plErr (l:Int) (ps:List Pr):Int:=if l < 0 then 3 else if 32 < ps.length then 19 else pjsErr ps
theorem plErr_zero {l:Int} {ps:List Pr}:plErr l ps=0↔0≤l∧ps.length≤32∧∀ p∈ps,pjErr p=0:=by
 unfold plErr
 split
 ·
  exact ⟨fun h=>(by cases h),fun h=>by omega⟩
 ·
  split
  ·
   exact ⟨fun h=>(by cases h),fun h=>by omega⟩
  ·
   rw [pjsErr_zero]
   exact ⟨fun h=>⟨by omega,by omega,h⟩,fun h=>h.2.2⟩
theorem plErr_take {l:Int} {ps:List Pr} (h:plErr l ps=0) (k:Nat):plErr l (ps.take k)=0:=by
 obtain ⟨h1,h2,h3⟩:=plErr_zero.1 h
 exact plErr_zero.2 ⟨h1,by rw [List.length_take];omega,fun p hp=>h3 p (List.mem_of_mem_take hp)⟩
def stepT (t:Ty) (p:Pr):Int×Int:=
 if p.1=0∧t.kind=3 then (t.elem,0)
 else if p.1=1∧t.kind=4 then (if 0≤p.2∧p.2 < (t.fields.length:Int) then (t.fields.getD p.2.toNat 0,0) else (0,3))
 else (0,22)
theorem stepT_ref {t:Ty} {p:Pr} (h0:p.1=0) (h3:t.kind=3):stepT t p=(t.elem,0):=if_pos ⟨h0,h3⟩
theorem stepT_tup {t:Ty} {p:Pr} (h1:p.1=1) (h4:t.kind=4) {k:Nat} {x:Int} (hk:p.2=(k:Int)) (hx:t.fields[k]?=some x):stepT t p=(x,0):=by
 have hl:=(List.getElem?_eq_some_iff.1 hx).1
 unfold stepT
 rw [if_neg (by omega),if_pos ⟨h1,h4⟩,if_pos (by omega),hk,Int.toNat_natCast,List.getD_eq_getElem?_getD,hx]
 rfl
theorem stepT_out {t:Ty} {p:Pr} (h1:p.1=1) (h4:t.kind=4) (h:¬(0≤p.2∧p.2 < (t.fields.length:Int))):stepT t p=(0,3):=by
 unfold stepT
 rw [if_neg (by omega),if_pos ⟨h1,h4⟩,if_neg h]
theorem stepT_bad {t:Ty} {p:Pr} (h:¬(p.1=0∧t.kind=3)) (h':¬(p.1=1∧t.kind=4)):stepT t p=(0,22):=by
 unfold stepT
 rw [if_neg h,if_neg h']
theorem stepT_cases (t:Ty) (p:Pr):(p.1=0∧t.kind=3∧stepT t p=(t.elem,0))∨(p.1=1∧t.kind=4∧∃ (k:Nat) (x:Int),p.2=(k:Int)∧t.fields[k]?=some x∧stepT t p=(x,0))∨(p.1=1∧t.kind=4∧¬(0≤p.2∧p.2 < (t.fields.length:Int))∧stepT t p=(0,3))∨(¬(p.1=0∧t.kind=3)∧¬(p.1=1∧t.kind=4)∧stepT t p=(0,22)):=by
 by_cases h:p.1=0∧t.kind=3
 ·
  exact .inl ⟨h.1,h.2,stepT_ref h.1 h.2⟩
 by_cases h':p.1=1∧t.kind=4
 ·
  by_cases h2:0≤p.2∧p.2 < (t.fields.length:Int)
  ·
   have hx:t.fields[p.2.toNat]?=some (t.fields[p.2.toNat]'(by omega)):=List.getElem?_eq_getElem (by omega)
   exact .inr (.inl ⟨h'.1,h'.2,p.2.toNat,_,by omega,hx,stepT_tup h'.1 h'.2 (by omega) hx⟩)
  ·
   exact .inr (.inr (.inl ⟨h'.1,h'.2,h2,stepT_out h'.1 h'.2 h2⟩))
 ·
  exact .inr (.inr (.inr ⟨h,h',stepT_bad h h'⟩))
theorem stepT_err {t:Ty} {p:Pr} (h:(stepT t p).2≠0):stepT t p=(0,(stepT t p).2):=by
 rcases stepT_cases t p with ⟨_,_,e⟩ | ⟨_,_,_,_,_,_,e⟩ | ⟨_,_,_,e⟩ | ⟨_,_,e⟩ <;> rw [e] at h ⊢ <;> first | rfl | exact absurd rfl h
theorem stepT_part {t:Ty} {p:Pr} (h:(stepT t p).2=0):(stepT t p).1∈tyParts t:=by
 rcases stepT_cases t p with ⟨_,k,e⟩ | ⟨_,k,_,_,_,hx,e⟩ | ⟨_,_,_,e⟩ | ⟨_,_,e⟩
 ·
  rw [e,tyParts_ref k];simp
 ·
  rw [e,tyParts_tup k];exact List.mem_of_getElem? hx
 ·
  rw [e] at h;cases h
 ·
  rw [e] at h;cases h
def tyGet (T:List Ty) (i:Int):Ty:=T.getD i.toNat ⟨0,false,0,0,[]⟩
theorem tyGet_at {T:List Ty} {i:Nat} {t:Ty} (h:T[i]?=some t):tyGet T (i:Int)=t:=by
 unfold tyGet
 rw [Int.toNat_natCast,List.getD_eq_getElem?_getD,h]
 rfl
def goL (T:List Ty):Int→List Pr→Int×Int
 | t,[]=>(t,0)
 | t,p :: ps=>if (stepT (tyGet T t) p).2=0 then goL T (stepT (tyGet T t) p).1 ps else (0,(stepT (tyGet T t) p).2)
theorem goL_snoc (T:List Ty):∀ (ps:List Pr) (t:Int) (p:Pr),goL T t (ps++[p])=if (goL T t ps).2=0 then stepT (tyGet T (goL T t ps).1) p else (0,(goL T t ps).2)
 | [],t,p=>by
  show (if (stepT (tyGet T t) p).2=0 then ((stepT (tyGet T t) p).1,0) else (0,(stepT (tyGet T t) p).2))=if (0:Int)=0 then stepT (tyGet T t) p else _
  rw [if_pos rfl]
  by_cases h:(stepT (tyGet T t) p).2=0
  ·
   rw [if_pos h,← h]
  ·
   rw [if_neg h];exact (stepT_err h).symm
 | q :: ps,t,p=>by
  show (if (stepT (tyGet T t) q).2=0 then goL T (stepT (tyGet T t) q).1 (ps++[p]) else (0,(stepT (tyGet T t) q).2))=_
  by_cases h:(stepT (tyGet T t) q).2=0
  ·
   have e:goL T t (q :: ps)=goL T (stepT (tyGet T t) q).1 ps:=if_pos h
   rw [if_pos h,e,goL_snoc T ps]
  ·
   have e:goL T t (q :: ps)=(0,(stepT (tyGet T t) q).2):=if_neg h
   rw [if_neg h,e,if_neg h]
def tyA (T:List Ty) (t:Int) (ps:List Pr) (n:Nat):Int:=(goL T t (ps.take n)).1
def erA (T:List Ty) (t:Int) (ps:List Pr) (n:Nat):Int:=(goL T t (ps.take n)).2
theorem tyA_zero (T:List Ty) (t:Int) (ps:List Pr):tyA T t ps 0=t:=rfl
theorem erA_zero (T:List Ty) (t:Int) (ps:List Pr):erA T t ps 0=0:=rfl
theorem plTake_snoc {l:List Pr} {k:Nat} {p:Pr} (h:l[k]?=some p):l.take (k+1)=l.take k++[p]:=by
 rw [List.take_add_one,h];rfl
theorem goA_up {T:List Ty} {t:Int} {ps:List Pr} {n:Nat} {p:Pr} (h:ps[n]?=some p):goL T t (ps.take (n+1))=if erA T t ps n=0 then stepT (tyGet T (tyA T t ps n)) p else (0,erA T t ps n):=by
 rw [plTake_snoc h,goL_snoc];rfl
theorem erA_up {T:List Ty} {t:Int} {ps:List Pr} {n:Nat} {p:Pr} (h:ps[n]?=some p) (h0:erA T t ps n=0):tyA T t ps (n+1)=(stepT (tyGet T (tyA T t ps n)) p).1∧erA T t ps (n+1)=(stepT (tyGet T (tyA T t ps n)) p).2:=by
 unfold tyA
 rw [show erA T t ps (n+1)=(goL T t (ps.take (n+1))).2 from rfl,goA_up h,if_pos h0]
 exact ⟨rfl,rfl⟩
theorem erA_stays {T:List Ty} {t:Int} {ps:List Pr} {n:Nat} (h:erA T t ps n≠0):∀ m,n≤m→goL T t (ps.take m)=(0,erA T t ps n)
 | 0,hm=>by
  obtain rfl:n=0:=by omega
  exact absurd (erA_zero T t ps) h
 | m+1,hm=>by
  have key:∀ k,n=k+1→goL T t (ps.take n)=(0,erA T t ps n):=by
   intro k hk
   subst hk
   cases hp:ps[k]? with
   | none=>
    have e:ps.take (k+1)=ps.take k:=by rw [List.take_of_length_le (by have:=List.getElem?_eq_none_iff.1 hp;omega),List.take_of_length_le (by have:=List.getElem?_eq_none_iff.1 hp;omega)]
    have e1:erA T t ps (k+1)=erA T t ps k:=by unfold erA;rw [e]
    have e2:=erA_stays (n:=k) (by rw [←e1];exact h) k (Nat.le_refl _)
    rw [e,e2,e1]
   | some p=>
    have e:=goA_up (T:=T) (t:=t) hp
    by_cases h0:erA T t ps k=0
    ·
     rw [if_pos h0] at e
     have e1:erA T t ps (k+1)=(stepT (tyGet T (tyA T t ps k)) p).2:=(erA_up hp h0).2
     rw [e,e1]
     exact stepT_err (by rw [←e1];exact h)
    ·
     rw [if_neg h0] at e
     have e1:erA T t ps (k+1)=erA T t ps k:=by show (goL T t (ps.take (k+1))).2=_;rw [e]
     rw [e,e1]
  rcases Nat.eq_or_lt_of_le hm with e | hlt
  ·
   exact e ▸ key m e
  ·
   have ih:=erA_stays h m (by omega)
   cases hp:ps[m]? with
   | none=>
    have e:ps.take (m+1)=ps.take m:=by rw [List.take_of_length_le (by have:=List.getElem?_eq_none_iff.1 hp;omega),List.take_of_length_le (by have:=List.getElem?_eq_none_iff.1 hp;omega)]
    rw [e,ih]
   | some p=>
    have e0:erA T t ps m=erA T t ps n:=by show (goL T t (ps.take m)).2=_;rw [ih]
    rw [goA_up hp,if_neg (by rw [e0];exact h),e0]
theorem goL_take_all (T:List Ty) (t:Int) (ps:List Pr):goL T t (ps.take ps.length)=goL T t ps:=by rw [List.take_length]
structure Stp (T:List Ty) (t:Int) (ps:List Pr) (n:Nat):Prop where
 le:n≤ps.length
 ok:erA T t ps n=0
theorem Stp.zero (T:List Ty) (t:Int) (ps:List Pr):Stp T t ps 0:=⟨Nat.zero_le _,erA_zero T t ps⟩
theorem Stp.down {T:List Ty} {t:Int} {ps:List Pr} {n m:Nat} (h:Stp T t ps n) (hm:m≤n):Stp T t ps m:=⟨by have:=h.le;omega,by
 by_cases h0:erA T t ps m=0
 ·
  exact h0
 ·
  have e:=erA_stays h0 n hm
  have:=h.ok
  unfold erA at this
  rw [e] at this
  exact absurd this h0⟩
theorem goA_none {T:List Ty} {t:Int} {ps:List Pr} {n:Nat} {p:Pr} (h:Stp T t ps n) (hp:ps[n]?=some p) (he:(stepT (tyGet T (tyA T t ps n)) p).2≠0):goL T t ps=(0,(stepT (tyGet T (tyA T t ps n)) p).2):=by
 have e1:=(erA_up hp h.ok).2
 have hn:=(List.getElem?_eq_some_iff.1 hp).1
 have:=erA_stays (T:=T) (t:=t) (ps:=ps) (n:=n+1) (by rw [e1];exact he) ps.length (by omega)
 rw [goL_take_all,e1] at this
 exact this
theorem Stp.lt {T:List Ty} {r t:Int} {ps:List Pr} (hT:TyOk T r) (h0:0≤t) (h1:t < (T.length:Int)):∀ {n:Nat},Stp T t ps n→∃ (i:Nat) (u:Ty),tyA T t ps n=(i:Int)∧T[i]?=some u
 | 0,_=>⟨t.toNat,_,by rw [tyA_zero];omega,List.getElem?_eq_getElem (by omega)⟩
 | n+1,h=>by
  obtain ⟨i,u,hi,hu⟩:=Stp.lt hT h0 h1 (h.down (Nat.le_succ n))
  have hn:=h.le
  have hp:ps[n]?=some (ps[n]'(by omega)):=List.getElem?_eq_getElem (by omega)
  obtain ⟨e1,e2⟩:=erA_up (T:=T) (t:=t) hp (h.down (Nat.le_succ n)).ok
  rw [hi,tyGet_at hu] at e1 e2
  have hm:=stepT_part (t:=u) (p:=ps[n]'(by omega)) (by rw [←e2];exact h.ok)
  obtain ⟨q,v,hq,_,hv⟩:=hT.elem hu hm
  exact ⟨q,v,by rw [e1,hq],hv⟩
def refAt {α:Type} (G:List α) (T:List Ty) (t:Int) (ps:List Pr) (n:Nat):Option α:=match ps[n]? with
 | some p=>if p.1=0 then G[(tyA T t ps n).toNat]? else none
 | none=>none
def refTo {α:Type} (G:List α) (T:List Ty) (t:Int) (ps:List Pr) (n:Nat):List α:=(List.range n).filterMap (refAt G T t ps)
theorem refTo_up {α:Type} (G:List α) (T:List Ty) (t:Int) (ps:List Pr) (n:Nat):refTo G T t ps (n+1)=refTo G T t ps n++(refAt G T t ps n).toList:=by
 unfold refTo
 rw [List.range_succ,List.filterMap_append]
 congr 1
theorem refTo_yes {α:Type} {G:List α} {T:List Ty} {t:Int} {ps:List Pr} {n:Nat} {p:Pr} {x:α} (hp:ps[n]?=some p) (h0:p.1=0) {i:Nat} (hi:tyA T t ps n=(i:Int)) (hx:G[i]?=some x):refTo G T t ps (n+1)=refTo G T t ps n++[x]:=by
 rw [refTo_up]
 unfold refAt
 rw [hp]
 simp only [h0,if_true]
 rw [hi,Int.toNat_natCast,hx]
 rfl
theorem refTo_no {α:Type} {G:List α} {T:List Ty} {t:Int} {ps:List Pr} {n:Nat} (h:∀ p,ps[n]?=some p→p.1≠0):refTo G T t ps (n+1)=refTo G T t ps n:=by
 rw [refTo_up]
 unfold refAt
 cases hp:ps[n]? with
 | none=>simp
 | some p=>simp [h p hp]
theorem refTo_len {α:Type} (G:List α) (T:List Ty) (t:Int) (ps:List Pr) (n:Nat):(refTo G T t ps n).length≤n:=by
 unfold refTo
 have:=List.length_filterMap_le (refAt G T t ps) (List.range n)
 rwa [List.length_range] at this
theorem refTo_map {α:Type} (f:α→Ty) (G:List α) (t:Int) (ps:List Pr) (n:Nat):(refTo G (G.map f) t ps n).map f=refTo (G.map f) (G.map f) t ps n:=by
 unfold refTo
 rw [List.map_filterMap]
 congr 1
 funext k
 unfold refAt
 cases ps[k]? with
 | none=>rfl
 | some p=>by_cases h:p.1=0 <;> simp [h]
theorem refTo_mem {α:Type} {G:List α} {T:List Ty} {t:Int} {ps:List Pr} {n:Nat} {x:α} (h:x∈refTo G T t ps n):x∈G:=by
 unfold refTo at h
 obtain ⟨k,_,hk⟩:=List.mem_filterMap.1 h
 unfold refAt at hk
 split at hk
 ·
  split at hk
  ·
   exact List.mem_of_getElem? hk
  ·
   cases hk
 ·
  cases hk
def tyOfP (T:List Ty) (lc:List Int) (l:Int) (ps:List Pr):Int×Int:=
 if plErr l ps≠0 then (0,plErr l ps) else if l < (lc.length:Int) then goL T (lc.getD l.toNat 0) ps else (0,3)
theorem tyOfP_err {T:List Ty} {lc:List Int} {l:Int} {ps:List Pr} {e:Int} (h:plErr l ps=e) (he:e≠0):tyOfP T lc l ps=(0,e):=by
 unfold tyOfP;rw [h,if_pos he]
theorem tyOfP_out {T:List Ty} {lc:List Int} {l:Int} {ps:List Pr} (h:plErr l ps=0) (hl:¬l < (lc.length:Int)):tyOfP T lc l ps=(0,3):=by
 unfold tyOfP;rw [h,if_neg (by simp),if_neg hl]
theorem tyOfP_in {T:List Ty} {lc:List Int} {l:Int} {ps:List Pr} {k:Nat} {t:Int} (h:plErr l ps=0) (hk:l=(k:Int)) (ht:lc[k]?=some t):tyOfP T lc l ps=goL T t ps:=by
 have:=(List.getElem?_eq_some_iff.1 ht).1
 unfold tyOfP;rw [h,if_neg (by simp),if_pos (by omega),hk,Int.toNat_natCast,List.getD_eq_getElem?_getD,ht];rfl
def refP (T:List Ty) (lc:List Int) (l:Int) (ps:List Pr):List Ty:=if (tyOfP T lc l ps).2=0 then refTo T T (lc.getD l.toNat 0) ps ps.length else []
def mutP (T:List Ty) (lc:List Int) (l:Int) (ps:List Pr):Bool:=decide ((tyOfP T lc l ps).2=0) && (refP T lc l ps).all Ty.mut_
def regP (T:List Ty) (lc:List Int) (l:Int) (ps:List Pr):List Int:=(refP T lc l ps).map Ty.region
def LcOk (T:List Ty) (lc:List Int):Prop:=∀ t∈lc,0≤t∧t < (T.length:Int)
theorem tyOfP_zero {T:List Ty} {lc:List Int} {l:Int} {ps:List Pr} (h:(tyOfP T lc l ps).2=0):plErr l ps=0∧∃ (k:Nat) (t:Int),l=(k:Int)∧lc[k]?=some t∧tyOfP T lc l ps=goL T t ps:=by
 have h0:plErr l ps=0:=by
  by_cases h0:plErr l ps=0
  ·
   exact h0
  ·
   rw [tyOfP_err rfl h0] at h;exact absurd h h0
 have hl:l < (lc.length:Int):=by
  by_cases hl:l < (lc.length:Int)
  ·
   exact hl
  ·
   rw [tyOfP_out h0 hl] at h;cases h
 have:=(plErr_zero.1 h0).1
 have ht:lc[l.toNat]?=some (lc[l.toNat]'(by omega)):=List.getElem?_eq_getElem (by omega)
 exact ⟨h0,l.toNat,_,by omega,ht,tyOfP_in h0 (by omega) ht⟩
theorem hide {p:Prop} (h:p):Hid p:=h
def Rd (w:World) (B:Nat) (A:Option Addr) (n:Nat) (xs:List Value):Prop:=
 xs.length=n∧(0 < n→∃ b o,A=some ⟨b,o,none⟩∧b < B∧∀ j u,xs[j]?=some u→w.cell? ⟨b,o+j,none⟩=some u)
section
variable {w w':World} {B B' n:Nat} {A:Option Addr} {xs:List Value}
theorem Rd.nil (w:World) (B:Nat) (A:Option Addr):Rd w B A 0 []:=⟨rfl,fun h=>absurd h (by omega)⟩
theorem Rd.len (h:Rd w B A n xs):xs.length=n:=h.1
theorem Rd.cell (h:Rd w B A n xs) {k:Nat} {u:Value} (hu:xs[k]?=some u):∃ b o,A=some ⟨b,o,none⟩∧b < B∧w.cell? ⟨b,o+k,none⟩=some u:=by
 have hk:k < xs.length:=by
  rcases Nat.lt_or_ge k xs.length with h' | h'
  ·
   exact h'
  ·
   rw [List.getElem?_eq_none h'] at hu;cases hu
 obtain ⟨b,o,e,hb,hc⟩:=h.2 (by have:=h.1;omega)
 exact ⟨b,o,e,hb,hc k u hu⟩
theorem Rd.keep (h:Rd w B A n xs) (hk:∀ p:Addr,p.block < B→w'.cell? p=w.cell? p):Rd w' B A n xs:=
 ⟨h.1,fun hn=>by
  obtain ⟨b,o,e,hb,hc⟩:=h.2 hn
  exact ⟨b,o,e,hb,fun j u hu=>(hk _ hb).trans (hc j u hu)⟩⟩
theorem Rd.more (h:Rd w B A n xs) (hB:B≤B'):Rd w B' A n xs:=
 ⟨h.1,fun hn=>by
  obtain ⟨b,o,e,hb,hc⟩:=h.2 hn
  exact ⟨b,o,e,by omega,hc⟩⟩
theorem Rd.below (h:Rd w B A n xs) (hb:Below B w w'):Rd w' B A n xs:=h.keep fun _ hp=>hb.cell hp
theorem Rd.alloc (h:Rd w B A n xs) (hB:B≤w.heap.size) (o:Obj):Rd (w.alloc o) B A n xs:=h.keep fun p hp=>World.cell?_alloc_lt w o p (by omega)
theorem Rd.of_own {base:Nat} {e:TypeId} {c:Nat} (h:w.ownsRow base e 1 (.slice A n c) n xs):Rd w w.heap.size A n xs:=by
 have hl:xs.length=n:=by have:=h.1;omega
 refine ⟨hl,fun hn=>?_⟩
 obtain ⟨g,cap,hv,_,hlt⟩:=h.form hn
 have hA:A=some ⟨g,0,none⟩:=by injection hv
 subst hA
 refine ⟨g,0,rfl,hlt,fun j u hu=>?_⟩
 have:=h.cells (g:=g) rfl j u hu
 unfold Addr.add at this
 split at this <;> simp_all
theorem Rd.to_ (h:Rd w B A n xs) {k:Nat} (hk:k≤n):Rd w B A k (xs.take k):=by
 refine ⟨by rw [List.length_take,h.1];omega,fun hn=>?_⟩
 obtain ⟨b,o,rfl,hb,hcell⟩:=h.2 (by omega)
 refine ⟨b,o,rfl,hb,fun j u hu=>hcell j u ?_⟩
 rw [List.getElem?_take] at hu
 split at hu
 ·
  exact hu
 ·
  cases hu
end
theorem ownsRow_below {w w':World} {base:Nat} {e:TypeId} {size n:Nat} {v:Value} {xs:List Value} (h:w.ownsRow base e size v n xs) (hb:Below w.heap.size w w'):w'.ownsRow base e size v n xs:=by
 refine h.kept (row:=none) ⟨hb.os,hb.tape,hb.output,hb.size,fun i hi _=>hb.block i hi⟩ ?_
 rcases v.ownBlock with _ | k
 ·
  exact .inl rfl
 ·
  exact .inr (by simp)
theorem ownsRow_base {w:World} {base base':Nat} {e:TypeId} {size n:Nat} {v:Value} {xs:List Value} (h:w.ownsRow base e size v n xs) (hb:base'≤base):w.ownsRow base' e size v n xs:=by
 obtain ⟨h1,h2⟩:=h
 refine ⟨h1,?_⟩
 rcases h2 with h2 | ⟨g,cap,cur,hv,hg,r⟩
 ·
  exact .inl h2
 ·
  exact .inr ⟨g,cap,cur,hv,by omega,r⟩
abbrev u8s (xs:List Int):List Value:=xs.map (Value.int .u8)
def Byt (xs:List Int):Prop:=∀ x∈xs,0≤x∧x < 256
theorem Byt.nil:Byt []:=fun _ h=>by cases h
theorem Byt.cons {x:Int} {xs:List Int} (h0:0≤x) (h1:x < 256) (h:Byt xs):Byt (x :: xs):=fun y hy=>by
 rcases List.mem_cons.1 hy with rfl | hy
 ·
  exact ⟨h0,h1⟩
 ·
  exact h y hy
theorem Byt.append {xs ys:List Int} (h:Byt xs) (k:Byt ys):Byt (xs++ys):=fun y hy=>by
 rcases List.mem_append.1 hy with hy | hy
 ·
  exact h y hy
 ·
  exact k y hy
theorem Byt.at {xs:List Int} (h:Byt xs) {k:Nat} {x:Int} (hx:xs[k]?=some x):0≤x∧x < 256:=h x (List.mem_of_getElem? hx)
theorem Byt.take {xs:List Int} (h:Byt xs) (k:Nat):Byt (xs.take k):=fun y hy=>h y (List.mem_of_mem_take hy)
theorem Byt.drop {xs:List Int} (h:Byt xs) (k:Nat):Byt (xs.drop k):=fun y hy=>h y (List.mem_of_mem_drop hy)
theorem strOfNums_inj:∀ {xs ys:List Int},Byt xs→Byt ys→strOfNums xs=strOfNums ys→xs=ys:=by
 intro xs ys hx hy h
 have h1:xs.map (fun n=>UInt8.ofNat n.toNat)=ys.map (fun n=>UInt8.ofNat n.toNat):=by
  have:=congrArg (fun b:ByteArray=>b.data.toList) h
  simpa [strOfNums] using this
 clear h
 induction xs generalizing ys with
 | nil=>cases ys with
  | nil=>rfl
  | cons y ys=>simp at h1
 | cons x xs ih=>cases ys with
  | nil=>simp at h1
  | cons y ys=>
   simp only [List.map_cons,List.cons.injEq] at h1
   have a:=hx x (by simp)
   have b:=hy y (by simp)
   have e:x=y:=by
    have:=congrArg UInt8.toNat h1.1
    simp at this
    omega
   rw [e,ih (fun z hz=>hx z (by simp [hz])) (fun z hz=>hy z (by simp [hz])) h1.2]
theorem Rd.convert {P:Program} {w:World} {B n c:Nat} {A:Option Addr} {xs:List Int} (h:Rd w B A n (u8s xs)) (src e dst:TypeId) (hs:P.underlying src=some (.slice e)) (he:P.underlying e=some (.int .u8)) (hd:P.underlying dst=some .string) :
  (convert src dst (.slice A n c)).run P w=.ok (.string (strOfNums xs)) w:=by
 have hl:xs.length=n:=by simpa using h.1
 rcases Nat.eq_zero_or_pos n with hn | hn
 ·
  subst hn
  obtain rfl:xs=[]:=List.eq_nil_of_length_eq_zero hl
  rw [run_convert_bytes_string w src dst e _ 0 c hs he hd]
  cases A <;> simp [Conv.bytesToString,loadCells]
  all_goals rfl
 ·
  obtain ⟨b,o,rfl,_,hc⟩:=h.2 hn
  refine run_convert_bytes_arg (P:=P) w src e hs he b o n c xs hl (fun i hi=>hc i _ ?_) dst hd
  simp [List.getD,List.getElem?_eq_getElem (show i < xs.length by omega)]
def Cells {α:Type} (w:World) (B:Nat) (k:Nat) (f:α→List Value) (A:Option Addr) (n:Nat) (L:List α):Prop:=
 L.length=n∧(0 < n→∃ b o,A=some ⟨b,o,none⟩∧b < B∧∀ (i:Nat) (x:α),L[i]?=some x→∀ j u,(f x)[j]?=some u→w.cell? ⟨b,o+i*k+j,none⟩=some u)
theorem Cells.below {α:Type} {w w':World} {B k:Nat} {f:α→List Value} {A:Option Addr} {n:Nat} {L:List α} (h:Cells w B k f A n L) (hb:Below B w w'):Cells w' B k f A n L:=
 ⟨h.1,fun hn=>by
  obtain ⟨b,o,h1,h2,h3⟩:=h.2 hn
  exact ⟨b,o,h1,h2,fun i x hx j u hu=>(hb.cell (p:=⟨b,o+i*k+j,none⟩) h2).trans (h3 i x hx j u hu)⟩⟩
theorem Cells.more {α:Type} {w:World} {B B' k:Nat} {f:α→List Value} {A:Option Addr} {n:Nat} {L:List α} (h:Cells w B k f A n L) (hb:B≤B'):Cells w B' k f A n L:=
 ⟨h.1,fun hn=>by
  obtain ⟨b,o,h1,h2,h3⟩:=h.2 hn
  exact ⟨b,o,h1,by omega,h3⟩⟩
theorem Cells.at_ {α:Type} {w:World} {B k:Nat} {f:α→List Value} {A:Option Addr} {n:Nat} {L:List α} (h:Cells w B k f A n L) {i:Nat} {x:α} (hx:L[i]?=some x) :
  ∃ b o,A=some ⟨b,o,none⟩∧b < B∧∀ j u,(f x)[j]?=some u→w.cell? ⟨b,o+i*k+j,none⟩=some u:=by
 have hi:i < L.length:=by
  rcases Nat.lt_or_ge i L.length with h' | h'
  ·
   exact h'
  ·
   rw [List.getElem?_eq_none h'] at hx;cases hx
 obtain ⟨b,o,h1,h2,h3⟩:=h.2 (by have:=h.1;omega)
 exact ⟨b,o,h1,h2,h3 i x hx⟩
theorem flatMap_at {α:Type} {f:α→List Value} {k:Nat} (hk:∀ x,(f x).length=k):∀ {L:List α} {i:Nat} {x:α} {j:Nat},L[i]?=some x→j < k→(L.flatMap f)[i*k+j]?=(f x)[j]?
 | [],i,x,j,h,_=>by simp at h
 | y :: L,0,x,j,h,hj=>by
  simp at h
  subst h
  rw [List.flatMap_cons,Nat.zero_mul,Nat.zero_add,List.getElem?_append_left (by rw [hk];exact hj)]
 | y :: L,i+1,x,j,h,hj=>by
  have h':L[i]?=some x:=by simpa using h
  have ih:=flatMap_at hk h' hj
  have e:(i+1)*k+j=k+(i*k+j):=by rw [Nat.add_mul];omega
  rw [List.flatMap_cons,e,List.getElem?_append_right (by rw [hk];omega),hk,Nat.add_sub_cancel_left,ih]
theorem flatMap_len {α:Type} {f:α→List Value} {k:Nat} (hk:∀ x,(f x).length=k) (L:List α):(L.flatMap f).length=L.length*k:=by
 induction L with
 | nil=>simp
 | cons y L ih=>rw [List.flatMap_cons,List.length_append,ih,hk,List.length_cons,Nat.add_mul];omega
theorem Cells.of_own {α:Type} {w:World} {base k:Nat} {e:TypeId} {f:α→List Value} (hk:∀ x,(f x).length=k) (h0:0 < k) {A:Option Addr} {n c:Nat} {L:List α} (h:w.ownsRow base e k (.slice A n c) n (L.flatMap f)):Cells w w.heap.size k f A n L:=by
 have hl:L.length=n:=by
  have:=h.1
  rw [flatMap_len hk] at this
  exact Nat.eq_of_mul_eq_mul_right h0 this
 refine ⟨hl,fun hn=>?_⟩
 obtain ⟨g,cap,hv,_,hlt⟩:=h.form hn
 have hA:A=some ⟨g,0,none⟩:=by injection hv
 subst hA
 refine ⟨g,0,rfl,hlt,fun i x hx j u hu=>?_⟩
 have hj:j < k:=by
  rcases Nat.lt_or_ge j k with h' | h'
  ·
   exact h'
  ·
   rw [List.getElem?_eq_none (by rw [hk];exact h')] at hu;cases hu
 have:=h.cells (g:=g) rfl (i*k+j) u (by rw [flatMap_at hk hx hj];exact hu)
 unfold Addr.add at this
 split at this <;> simp_all
abbrev i64s (xs:List Int):List Value:=xs.map (Value.int .i64)
def IntR (x:Int):Prop:=-9223372036854775808≤x∧x≤9223372036854775807
theorem wf_i64 {x:Int} (h:IntR x):(Lit.int .i64 x).wf=true:=by
 simp [Lit.wf,IntKind.min,IntKind.max,IntKind.signed,IntKind.bits];exact h
theorem infoInt:(Tryz.prog.info? 3).map (fun i=>(i.zero,i.size,i.bytes))=some (some (.int .i64 0),1,8):=by kernel_rfl
structure TyW where
 t:Ty
 A:Option Addr
 n:Nat
 c:Nat
structure TyW.ok (x:TyW):Prop where
 nc:x.n≤x.c
 cm:x.c≤maxLen
 len:x.t.fields.length=x.n
 k:IntR x.t.kind
 r:IntR x.t.region
 e:IntR x.t.elem
 f:∀ y∈x.t.fields,IntR y
def c5 (x:TyW):List Value:=[.int .i64 x.t.kind,.bool x.t.mut_,.int .i64 x.t.region,.int .i64 x.t.elem,.slice x.A x.n x.c]
abbrev aggT (x:TyW):Value:=.agg #[.int .i64 x.t.kind,.bool x.t.mut_,.int .i64 x.t.region,.int .i64 x.t.elem,.slice x.A x.n x.c]
theorem c5_len (x:TyW):(c5 x).length=5:=rfl
theorem c5_one (x:TyW):∀ u∈c5 x,u.oneCell'=true:=by intro u hu;simp only [c5,List.mem_cons,List.not_mem_nil,or_false] at hu;rcases hu with rfl | rfl | rfl | rfl | rfl <;> rfl
structure OneT (w:World) (B:Nat) (x:TyW):Prop where
 ok:x.ok
 rd:Rd w B x.A x.n (i64s x.t.fields)
theorem OneT.below {w w':World} {B:Nat} {x:TyW} (h:OneT w B x) (hb:Below B w w'):OneT w' B x:=⟨h.ok,h.rd.below hb⟩
theorem OneT.more {w:World} {B B':Nat} {x:TyW} (h:OneT w B x) (hb:B≤B'):OneT w B' x:=⟨h.ok,h.rd.more hb⟩
structure Typs (w:World) (B:Nat) (A:Option Addr) (n:Nat) (L:List TyW):Prop where
 cells:Cells w B 5 c5 A n L
 one:∀ x∈L,OneT w B x
theorem Typs.below {w w':World} {B:Nat} {A:Option Addr} {n:Nat} {L:List TyW} (h:Typs w B A n L) (hb:Below B w w'):Typs w' B A n L:=⟨h.cells.below hb,fun x hx=>(h.one x hx).below hb⟩
theorem Typs.more {w:World} {B B':Nat} {A:Option Addr} {n:Nat} {L:List TyW} (h:Typs w B A n L) (hb:B≤B'):Typs w B' A n L:=⟨h.cells.more hb,fun x hx=>(h.one x hx).more hb⟩
theorem Typs.len {w:World} {B:Nat} {A:Option Addr} {n:Nat} {L:List TyW} (h:Typs w B A n L):L.length=n:=h.cells.1
theorem Typs.nil (w:World) (B:Nat) (A:Option Addr):Typs w B A 0 []:=⟨⟨rfl,fun h=>absurd h (by omega)⟩,fun x hx=>by cases hx⟩
theorem Typs.at_ {w:World} {B:Nat} {A:Option Addr} {n:Nat} {L:List TyW} (h:Typs w B A n L) {i:Nat} {x:TyW} (hx:L[i]?=some x) :
  ∃ b o,A=some ⟨b,o,none⟩∧b < B∧OneT w B x∧w.cell? ⟨b,o+i*5,none⟩=some (.int .i64 x.t.kind)∧w.cell? ⟨b,o+i*5+1,none⟩=some (.bool x.t.mut_) ∧
   w.cell? ⟨b,o+i*5+2,none⟩=some (.int .i64 x.t.region)∧w.cell? ⟨b,o+i*5+3,none⟩=some (.int .i64 x.t.elem)∧w.cell? ⟨b,o+i*5+4,none⟩=some (.slice x.A x.n x.c):=by
 obtain ⟨b,o,h1,h2,h3⟩:=h.cells.at_ hx
 exact ⟨b,o,h1,h2,h.one x (List.mem_of_getElem? hx),h3 0 _ rfl,h3 1 _ rfl,h3 2 _ rfl,h3 3 _ rfl,h3 4 _ rfl⟩
theorem Typs.take {w:World} {B:Nat} {A:Option Addr} {n:Nat} {L:List TyW} (h:Typs w B A n L) {k:Nat} (hk:k≤n):Typs w B A k (L.take k):=by
 have hl:=h.len
 refine ⟨⟨by rw [List.length_take];omega,fun h0=>?_⟩,fun x hx=>h.one x (List.mem_of_mem_take hx)⟩
 obtain ⟨b,o,h1,h2,h3⟩:=h.cells.2 (by omega)
 refine ⟨b,o,h1,h2,fun i x hx=>h3 i x ?_⟩
 rw [List.getElem?_take] at hx
 split at hx
 ·
  exact hx
 ·
  cases hx
abbrev tys (L:List TyW):List Ty:=L.map TyW.t
theorem tys_at {L:List TyW} {k:Nat} {x:TyW} (h:L[k]?=some x):(tys L)[k]?=some x.t:=by rw [List.getElem?_map,h];rfl
theorem tys_len (L:List TyW):(tys L).length=L.length:=List.length_map _
theorem tys_back {L:List TyW} {k:Nat} {t:Ty} (h:(tys L)[k]?=some t):∃ x,L[k]?=some x∧x.t=t:=by
 rw [List.getElem?_map] at h
 cases hx:L[k]? with
 | none=>rw [hx] at h;cases h
 | some x=>rw [hx] at h;exact ⟨x,rfl,by injection h⟩
theorem Rd.int {w:World} {B n:Nat} {A:Option Addr} {xs:List Int} (h:Rd w B A n (i64s xs)) {k:Nat} {x:Int} (hx:xs[k]?=some x):∃ b o,A=some ⟨b,o,none⟩∧b < B∧w.cell? ⟨b,o+k,none⟩=some (.int .i64 x):=
 h.cell (by rw [List.getElem?_map,hx];rfl)
theorem Rd.ilen {w:World} {B n:Nat} {A:Option Addr} {xs:List Int} (h:Rd w B A n (i64s xs)):xs.length=n:=by have:=h.len;simpa using this
theorem tyN {B:Nat} {w w':World} (h:Below B w w') (n:Nat):Below B w (w'.drewN n):=⟨h.os,h.tape,h.output,h.size,h.block⟩
def eqIs (xs ys:List Int):Bool:=decide (xs=ys)
theorem eqIs_iff {xs ys:List Int}:eqIs xs ys=true↔xs=ys:=by simp [eqIs]
def eqUpto (xs ys:List Int) (k:Nat):Prop:=∀ j,j < k→xs[j]?=ys[j]?
theorem EqI_any (A B:Option Addr) (n m c d:Nat) (xs ys:List Int) (w:World) (k l:Nat) (hx:Rd w k A n (i64s xs)) (hy:Rd w l B m (i64s ys)) (hn:n≤maxLen) (hm:m≤maxLen) :
  Calls Tryz.prog 118 #[.slice A n c,.slice B m d] w fun e w'=>e=.returned (.bool (eqIs xs ys))∧Below w.heap.size w w':=by
 have hxl:=hx.ilen
 have hyl:=hy.ilen
 have HX:=hide hx
 have HY:=hide hy
 have HXL:=hide hxl
 have HYL:=hide hyl
 unfold maxLen at hn hm
 clear hx hy
 by_cases hnm:n=m
 ·
  subst hnm
  clear hxl hyl
  go_enter Tryz.func118,Tryz.ntmps118
  go_wp2
  go_loopw [13] (fun i wr=>∃ j:Nat,i=.int .i64 (j:Int)∧j≤n∧Hid (eqUpto xs ys j)∧Below w.heap.size w wr∧(∀ p,wr.cell? p=w.cell? p)) (fun i _=>n - (intOf i).toNat)
  case atStart=>exact ⟨0,rfl,Nat.zero_le _,fun j h=>absurd h (by omega),Below.refl _ _,fun _=>rfl⟩
  case round=>
   obtain ⟨j,rfl,hj,HE,hb,hc⟩:=hrel
   have HB:=hide hb
   have HC:=hide hc
   clear hb hc
   by_cases hlt:j < n
   ·
    have hex:∃ a,xs[j]?=some a:=⟨_,List.getElem?_eq_getElem (by have:=HXL.out;omega)⟩
    obtain ⟨a,ha⟩:=hex
    have hex:∃ a,ys[j]?=some a:=⟨_,List.getElem?_eq_getElem (by have:=HYL.out;omega)⟩
    obtain ⟨b,hb⟩:=hex
    obtain ⟨g,o,rfl,_,c0⟩:=HX.out.int ha
    obtain ⟨g',o',rfl,_,c1⟩:=HY.out.int hb
    rw [←HC.out] at c0 c1
    have hlt':(j:Int) < (n:Int):=by omega
    have HA':=hide ha
    have HB':=hide hb
    clear ha hb
    by_cases hab:a=b
    ·
     subst hab
     have e1:((a:Int) != (a:Int))=false:=by simp
     have HE2:=hide (show eqUpto xs ys (j+1) from fun i hi=>by
      rcases Nat.lt_or_ge i j with h | h
      ·
       exact HE.out i h
      ·
       obtain rfl:i=j:=by omega
       rw [HA'.out,HB'.out])
     go_wp2
     go_quiet (fail)
     go_wp2
     go_roundw
     case rel=>exact ⟨j+1,by go_num,by omega,HE2.out,tyN HB.out _,HC.out⟩
     case measure=>simp [intOf];omega
    ·
     have e1:((a:Int) != (b:Int))=true:=by simp [hab]
     have HF:=hide (show eqIs xs ys=false by
      cases h:eqIs xs ys
      ·
       rfl
      ·
       rw [eqIs_iff] at h
       subst h
       have h1:=HA'.out
       rw [HB'.out] at h1
       injection h1 with h1
       exact absurd h1.symm hab)
     clear hab
     go_wp2
     go_quiet (fail)
     go_wp2
     go_ret
     exact ⟨congrArg (fun v=>Ending.returned (.bool v)) HF.out.symm,tyN HB.out _⟩
   ·
    obtain rfl:j=n:=by omega
    have HF:=hide (show eqIs xs ys=true by
     rw [eqIs_iff]
     refine List.ext_getElem? fun i=>?_
     rcases Nat.lt_or_ge i j with h | h
     ·
      exact HE.out i h
     ·
      rw [List.getElem?_eq_none (by have:=HXL.out;omega),List.getElem?_eq_none (by have:=HYL.out;omega)])
    go_wp2
    go_ret
    exact ⟨congrArg (fun v=>Ending.returned (.bool v)) HF.out.symm,HB.out⟩
 ·
  have e1:((n:Int) != (m:Int))=true:=by simp;omega
  have HF:=hide (show eqIs xs ys=false by
   cases h:eqIs xs ys
   ·
    rfl
   ·
    rw [eqIs_iff] at h
    subst h
    omega)
  clear hxl hyl
  go_enter Tryz.func118,Tryz.ntmps118
  go_wp2
  go_ret
  exact ⟨congrArg (fun v=>Ending.returned (.bool v)) HF.out.symm,Below.refl _ _⟩
def pV (p:Pr):List Value:=[.int .i64 p.1,.int .i64 p.2]
theorem pV_len (p:Pr):(pV p).length=2:=rfl
theorem pV_one (p:Pr):∀ u∈pV p,u.oneCell'=true:=by intro u hu;simp only [pV,List.mem_cons,List.not_mem_nil,or_false] at hu;rcases hu with rfl | rfl <;> rfl
abbrev aggP (p:Pr):Value:=.agg #[.int .i64 p.1,.int .i64 p.2]
def IntP (p:Pr):Prop:=IntR p.1∧IntR p.2
structure Prs (w:World) (B:Nat) (A:Option Addr) (n:Nat) (L:List Pr):Prop where
 cells:Cells w B 2 pV A n L
 int:∀ p∈L,IntP p
theorem Prs.below {w w':World} {B:Nat} {A:Option Addr} {n:Nat} {L:List Pr} (h:Prs w B A n L) (hb:Below B w w'):Prs w' B A n L:=⟨h.cells.below hb,h.int⟩
theorem Prs.more {w:World} {B B':Nat} {A:Option Addr} {n:Nat} {L:List Pr} (h:Prs w B A n L) (hb:B≤B'):Prs w B' A n L:=⟨h.cells.more hb,h.int⟩
theorem Prs.len {w:World} {B:Nat} {A:Option Addr} {n:Nat} {L:List Pr} (h:Prs w B A n L):L.length=n:=h.cells.1
theorem Prs.at_ {w:World} {B:Nat} {A:Option Addr} {n:Nat} {L:List Pr} (h:Prs w B A n L) {i:Nat} {p:Pr} (hp:L[i]?=some p) :
  ∃ b o,A=some ⟨b,o,none⟩∧b < B∧IntP p∧w.cell? ⟨b,o+i*2,none⟩=some (.int .i64 p.1)∧w.cell? ⟨b,o+i*2+1,none⟩=some (.int .i64 p.2):=by
 obtain ⟨b,o,h1,h2,h3⟩:=h.cells.at_ hp
 exact ⟨b,o,h1,h2,h.int p (List.mem_of_getElem? hp),h3 0 _ rfl,h3 1 _ rfl⟩
theorem Prs.get {w:World} {B:Nat} {A:Option Addr} {n:Nat} {L:List Pr} (h:Prs w B A n L) {i:Nat} (hi:i < n):∃ p,L[i]?=some p:=⟨_,List.getElem?_eq_getElem (by have:=h.len;omega)⟩
structure LcW where
 name:ByteArray
 ty:Int
def cLc (x:LcW):List Value:=[.string x.name,.int .i64 x.ty]
theorem cLc_len (x:LcW):(cLc x).length=2:=rfl
structure Locs (w:World) (B:Nat) (A:Option Addr) (n:Nat) (L:List LcW):Prop where
 cells:Cells w B 2 cLc A n L
 int:∀ x∈L,IntR x.ty
theorem Locs.below {w w':World} {B:Nat} {A:Option Addr} {n:Nat} {L:List LcW} (h:Locs w B A n L) (hb:Below B w w'):Locs w' B A n L:=⟨h.cells.below hb,h.int⟩
theorem Locs.more {w:World} {B B':Nat} {A:Option Addr} {n:Nat} {L:List LcW} (h:Locs w B A n L) (hb:B≤B'):Locs w B' A n L:=⟨h.cells.more hb,h.int⟩
theorem Locs.len {w:World} {B:Nat} {A:Option Addr} {n:Nat} {L:List LcW} (h:Locs w B A n L):L.length=n:=h.cells.1
theorem Locs.at_ {w:World} {B:Nat} {A:Option Addr} {n:Nat} {L:List LcW} (h:Locs w B A n L) {i:Nat} {x:LcW} (hp:L[i]?=some x) :
 ∃ b o,A=some ⟨b,o,none⟩∧b < B∧w.cell? ⟨b,o+i*2,none⟩=some (.string x.name)∧w.cell? ⟨b,o+i*2+1,none⟩=some (.int .i64 x.ty):=by
 obtain ⟨b,o,h1,h2,h3⟩:=h.cells.at_ hp
 exact ⟨b,o,h1,h2,h3 0 _ rfl,h3 1 _ rfl⟩
abbrev lcs (L:List LcW):List Int:=L.map LcW.ty
theorem lcs_at {L:List LcW} {k:Nat} {x:LcW} (h:L[k]?=some x):(lcs L)[k]?=some x.ty:=by rw [List.getElem?_map,h];rfl
theorem lcs_len (L:List LcW):(lcs L).length=L.length:=List.length_map _
structure PlW where
 l:Int
 A:Option Addr
 n:Nat
 c:Nat
 ps:List Pr
abbrev aggPl (x:PlW):Value:=.agg #[.int .i64 x.l,.slice x.A x.n x.c]
structure OnePl (w:World) (B:Nat) (x:PlW):Prop where
 nc:x.n≤x.c
 cm:x.c≤maxLen
 l:IntR x.l
 prs:Prs w B x.A x.n x.ps
theorem OnePl.below {w w':World} {B:Nat} {x:PlW} (h:OnePl w B x) (hb:Below B w w'):OnePl w' B x:=⟨h.nc,h.cm,h.l,h.prs.below hb⟩
theorem OnePl.more {w:World} {B B':Nat} {x:PlW} (h:OnePl w B x) (hb:B≤B'):OnePl w B' x:=⟨h.nc,h.cm,h.l,h.prs.more hb⟩
theorem OnePl.up {w w':World} {x:PlW} (h:OnePl w w.heap.size x) (hb:Below w.heap.size w w'):OnePl w' w'.heap.size x:=(h.below hb).more hb.size
theorem Typs.up {w w':World} {A:Option Addr} {n:Nat} {L:List TyW} (h:Typs w w.heap.size A n L) (hb:Below w.heap.size w w'):Typs w' w'.heap.size A n L:=(h.below hb).more hb.size
theorem Locs.up {w w':World} {A:Option Addr} {n:Nat} {L:List LcW} (h:Locs w w.heap.size A n L) (hb:Below w.heap.size w w'):Locs w' w'.heap.size A n L:=(h.below hb).more hb.size
def PlW.take (x:PlW) (k:Nat):PlW:=⟨x.l,x.A,k,x.c,x.ps.take k⟩
theorem Prs.take {w:World} {B:Nat} {A:Option Addr} {n:Nat} {L:List Pr} (h:Prs w B A n L) {k:Nat} (hk:k≤n):Prs w B A k (L.take k):=by
 have hl:=h.len
 refine ⟨⟨by rw [List.length_take];omega,fun h0=>?_⟩,fun p hp=>h.int p (List.mem_of_mem_take hp)⟩
 obtain ⟨b,o,h1,h2,h3⟩:=h.cells.2 (by omega)
 refine ⟨b,o,h1,h2,fun i x hx=>h3 i x ?_⟩
 rw [List.getElem?_take] at hx
 split at hx
 ·
  exact hx
 ·
  cases hx
theorem OnePl.take {w:World} {B:Nat} {x:PlW} (h:OnePl w B x) {k:Nat} (hk:k≤x.n):OnePl w B (x.take k):=⟨Nat.le_trans hk h.nc,h.cm,h.l,h.prs.take hk⟩
theorem Plaz1 {P:Prop} (h:P:=by
 go_enter Tryz.func111,Tryz.ntmps111
 go_wp2
 go_ret
 exact ⟨congrArg (fun v=>Ending.returned (.bool v)) HF.out.symm,rfl⟩):P:=h
theorem Within_any (i n:Int) (w:World) :
 Calls Tryz.prog 111 #[.int .i64 i,.int .i64 n] w fun e w'=>e=.returned (.bool (tyIn i n))∧w=w':=by
 by_cases h0:0≤i
 ·
  by_cases h1:i < n
  ·
   have HF:=hide (show tyIn i n=true from tyIn_iff.2 ⟨h0,h1⟩)
   exact Plaz1
  ·
   have HF:=hide (show tyIn i n=false from tyIn_not.2 fun h=>h1 h.2)
   exact Plaz1
 ·
  have HF:=hide (show tyIn i n=false from tyIn_not.2 fun h=>h0 h.1)
  exact Plaz1
theorem Within_is {i n:Int} {v:Bool} (h:tyIn i n=v) (w:World) :
 Calls Tryz.prog 111 #[.int .i64 i,.int .i64 n] w fun e w'=>e=.returned (.bool v)∧w=w':=h ▸ Within_any i n w
theorem Plaz0 {P:Prop} (h:P:=by
 go_enter Tryz.func124,Tryz.ntmps124
 go_wp2
 go_ret
 exact ⟨congrArg (fun v=>Ending.returned (.int .i64 v)) HF.out.symm,HA.out⟩):P:=h
theorem CheckProj_any (p:Pr) (w:World) :
 Calls Tryz.prog 124 #[aggP p] w fun e w'=>e=.returned (.int .i64 (pjErr p))∧Below w.heap.size w w':=by
 obtain ⟨k,f⟩:=p
 have HA:=hide ((Below.refl w.heap.size w).alloc (Nat.le_refl _) (.cells #[.int .i64 k,.int .i64 f] 102))
 by_cases h0:k=0
 ·
  subst h0
  by_cases hf:f=0
  ·
   subst hf
   have HF:=hide (show pjErr ((0:Int),(0:Int))=0 from by decide)
   exact Plaz0
  ·
   have t1:(f != 0)=true:=by rw [bne_iff_ne];exact hf
   have HF:=hide (show pjErr ((0:Int),f)=2 from by unfold pjErr;rw [if_neg (by omega),if_pos ⟨rfl,hf⟩])
   clear hf
   exact Plaz0
 ·
  have t0:(k != 0)=true:=by rw [bne_iff_ne];exact h0
  have t00:(k == 0)=false:=by simpa using h0
  by_cases h1:k=1
  ·
   subst h1
   clear h0 t0 t00
   by_cases hf:f < 0
   ·
    have HF:=hide (show pjErr ((1:Int),f)=3 from by unfold pjErr;rw [if_neg (by omega),if_neg (by omega),if_pos hf])
    exact Plaz0
   ·
    have HF:=hide (show pjErr ((1:Int),f)=0 from by unfold pjErr;rw [if_neg (by omega),if_neg (by omega),if_neg hf])
    exact Plaz0
  ·
   have t1:(k != 1)=true:=by rw [bne_iff_ne];exact h1
   have HF:=hide (show pjErr (k,f)=14 from by unfold pjErr;rw [if_pos ⟨h0,h1⟩])
   clear h0 h1
   exact Plaz0
theorem CheckProj_is {p:Pr} {v:Int} (h:pjErr p=v) (w:World) :
 Calls Tryz.prog 124 #[aggP p] w fun e w'=>e=.returned (.int .i64 v)∧Below w.heap.size w w':=h ▸ CheckProj_any p w
theorem Plaz2 {P:Prop} (h:P:=by
 go_enter Tryz.func110,Tryz.ntmps110
 go_wp2
 go_ret
 exact ⟨congrArg (fun v=>Ending.returned (.int .i64 v)) HF.out.symm,HA.out⟩):P:=h
theorem CheckP_any (x:PlW) (w:World) (hx:OnePl w w.heap.size x) :
 Calls Tryz.prog 110 #[aggPl x] w fun e w'=>e=.returned (.int .i64 (plErr x.l x.ps))∧Below w.heap.size w w':=by
 obtain ⟨l,A,n,c,ps⟩:=x
 have hcm:=hx.cm
 have hnc:=hx.nc
 simp only [] at hcm hnc
 have HX:=hide hx.prs
 have HL:=hide hx.prs.len
 clear hx
 have HA:=hide ((Below.refl w.heap.size w).alloc (Nat.le_refl _) (.cells #[.int .i64 l,.slice A n c] 36))
 unfold maxLen at hcm
 by_cases hl:l < 0
 ·
  have HF:=hide (show plErr l ps=3 from if_pos hl)
  exact Plaz2
 by_cases hn:32 < n
 ·
  have HF:=hide (show plErr l ps=19 from by unfold plErr;rw [if_neg hl,if_pos (by have:ps.length=n:=HL.out;omega)])
  have hn':(32:Int) < (n:Int):=by omega
  exact Plaz2
 have HF:=hide (show plErr l ps=pjsErr (ps.drop 0) from by unfold plErr;rw [if_neg hl,if_neg (by have:ps.length=n:=HL.out;omega)];rfl)
 have hn':(n:Int)≤32:=by omega
 have hl':0≤l:=by omega
 clear hl hn
 go_enter Tryz.func110,Tryz.ntmps110
 go_wp2
 go_loopw [18] (fun i wr=>∃ j:Nat,i=.int .i64 (j:Int)∧j≤n∧Hid (pjsErr (ps.drop j)=pjsErr (ps.drop 0))∧Below w.heap.size w wr) (fun i _=>n - (intOf i).toNat)
 case atStart=>exact ⟨0,rfl,Nat.zero_le _,rfl,HA.out⟩
 case round=>
  obtain ⟨j,rfl,hj,HE,hb⟩:=hrel
  have HB:=hide hb
  clear hb
  by_cases hlt:j < n
  ·
   have hlt':(j:Int) < (n:Int):=by omega
   obtain ⟨p,hp⟩:∃ p,ps[j]?=some p:=⟨_,List.getElem?_eq_getElem (by have:ps.length=n:=HL.out;omega)⟩
   obtain ⟨b,o,rfl,_,hi,c0,c1⟩:=(HX.out.below HB.out).at_ hp
   have HS:=hide (pjsErr_at hp)
   obtain ⟨k,f⟩:=p
   simp only [] at c0 c1
   have HB2:=hide (HB.out.alloc HB.out.size (.cells #[.int .i64 k,.int .i64 f] 102))
   obtain ⟨v,hv⟩:∃ v,pjErr (k,f)=v:=⟨_,rfl⟩
   clear hp hi
   have HV:=hide hv
   clear hv
   by_cases hv0:v=0
   ·
    subst hv0
    have HN:=hide (show pjsErr (ps.drop (j+1))=pjsErr (ps.drop 0) from by rw [←HE.out,HS.out,if_pos HV.out])
    go_wp2_with fail
    refine (CheckProj_is HV.out _).mono ?_
    rintro e w1 ⟨rfl,hb⟩
    have HB3:=hide (HB2.out.trans (hb.mono HB2.out.size))
    clear hb
    go_wp2
    go_roundw
    case rel=>exact ⟨j+1,by go_num,by omega,HN.out,HB3.out⟩
    case measure=>simp [intOf];omega
   ·
    have t1:(v != 0)=true:=by rw [bne_iff_ne];exact hv0
    have HN:=hide (show plErr l ps=v from by rw [HF.out,← HE.out,HS.out,HV.out,if_neg hv0])
    clear hv0
    go_wp2_with fail
    refine (CheckProj_is HV.out _).mono ?_
    rintro e w1 ⟨rfl,hb⟩
    have HB3:=hide (HB2.out.trans (hb.mono HB2.out.size))
    clear hb
    go_wp2
    go_ret
    exact ⟨congrArg (fun v=>Ending.returned (.int .i64 v)) HN.out.symm,HB3.out⟩
  ·
   obtain rfl:j=n:=by omega
   have HN:=hide (show plErr l ps=0 from by rw [HF.out,← HE.out,List.drop_of_length_le (by have:ps.length=j:=HL.out;omega)];rfl)
   go_wp2
   go_ret
   exact ⟨congrArg (fun v=>Ending.returned (.int .i64 v)) HN.out.symm,HB.out⟩
theorem CheckP_is {x:PlW} {v:Int} (h:plErr x.l x.ps=v) (w:World) (hx:OnePl w w.heap.size x) :
 Calls Tryz.prog 110 #[aggPl x] w fun e w'=>e=.returned (.int .i64 v)∧Below w.heap.size w w':=h ▸ CheckP_any x w hx
end Go.Proofs.YtfgacmgjpikgaaaGreatDoor
