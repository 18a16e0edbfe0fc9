/- Part 1 of the contracts and their mathematics. -/
import Derived.WalkKit
import Derived.Below
import Derived.Laws.OwnMore
import Derived.Deep.AppendLies
import Derived.Deep.Draws
import Derived.Laws.BytesArg
import Derived.Lib.Bytes
import Derived.Laws.BitsLemmas
import Derived.RangeFuncBox
import Derived.OwnWalk
set_option linter.unusedVariables false
set_option linter.unusedSimpArgs false
namespace Go.Proofs.YteeemjmohjkdpaaGreatDoor
open Go.RowKit
structure Ty where
 kind:Int
 mut_:Bool
 region:Int
 elem:Int
 fields:List Int
theorem Ty.ext' {a b:Ty} (h1:a.kind=b.kind) (h2:a.mut_=b.mut_) (h3:a.region=b.region) (h4:a.elem=b.elem) (h5:a.fields=b.fields):a=b:=by
 cases a;cases b;simp_all
instance instDecEqTy:DecidableEq Ty:=fun a b=>
 if h:a.kind=b.kind∧a.mut_=b.mut_∧a.region=b.region∧a.elem=b.elem∧a.fields=b.fields then .isTrue (Ty.ext' h.1 h.2.1 h.2.2.1 h.2.2.2.1 h.2.2.2.2)
 else .isFalse fun e=>h (by subst e;exact ⟨rfl,rfl,rfl,rfl,rfl⟩)
def eqTy (a b:Ty):Bool:=decide (a=b)
theorem eqTy_self (a:Ty):eqTy a a=true:=by simp [eqTy]
theorem eqTy_iff {a b:Ty}:eqTy a b=true↔a=b:=by simp [eqTy]
def tyParts (t:Ty):List Int:=if t.kind=3 then [t.elem] else if t.kind=4 then t.fields else []
theorem tyParts_ref {t:Ty} (h:t.kind=3):tyParts t=[t.elem]:=by unfold tyParts;rw [if_pos h]
theorem tyParts_tup {t:Ty} (h:t.kind=4):tyParts t=t.fields:=by unfold tyParts;rw [if_neg (by omega),if_pos h]
theorem tyParts_none {t:Ty} (h3:t.kind≠3) (h4:t.kind≠4):tyParts t=[]:=by unfold tyParts;rw [if_neg h3,if_neg h4]
section
variable {α:Type}
def tyTab (f:List α→Ty→α) (l:List Ty):List α:=l.foldl (fun d t=>d++[f d t]) []
theorem tyTab_snoc (f:List α→Ty→α) (l:List Ty) (t:Ty):tyTab f (l++[t])=tyTab f l++[f (tyTab f l) t]:=by
 unfold tyTab;rw [List.foldl_append];rfl
theorem tyFold_len (f:List α→Ty→α):∀ (l:List Ty) (d:List α),(l.foldl (fun d t=>d++[f d t]) d).length=d.length+l.length
 | [],d=>by simp
 | t :: l,d=>by rw [List.foldl_cons,tyFold_len f l];simp;omega
theorem tyTab_len (f:List α→Ty→α) (l:List Ty):(tyTab f l).length=l.length:=by unfold tyTab;rw [tyFold_len];simp
theorem tyTake_snoc {l:List Ty} {k:Nat} {t:Ty} (h:l[k]?=some t):l.take (k+1)=l.take k++[t]:=by
 rw [List.take_add_one,h];rfl
theorem tyTab_take (f:List α→Ty→α) (l:List Ty):∀ k,k≤l.length→tyTab f (l.take k)=(tyTab f l).take k:=by
 have pre:∀ (m:List Ty) (d:List α),(m.foldl (fun d t=>d++[f d t]) d).take d.length=d:=by
  intro m
  induction m with
  | nil=>intro d;simp
  | cons t m ih=>
   intro d
   have:=congrArg (List.take d.length) (ih (d++[f d t]))
   rw [List.take_take,Nat.min_eq_left (by simp),List.take_left] at this
   exact this
 have key:∀ (l m:List Ty),(tyTab f (l++m)).take l.length=tyTab f l:=by
  intro l m
  have:=pre m (tyTab f l)
  rw [tyTab_len] at this
  unfold tyTab at this ⊢
  rw [List.foldl_append]
  exact this
 intro k hk
 have:=key (l.take k) (l.drop k)
 rw [List.take_append_drop,List.length_take,Nat.min_eq_left hk] at this
 exact this.symm
theorem tyTab_at (f:List α→Ty→α) {l:List Ty} {k:Nat} {t:Ty} (h:l[k]?=some t):(tyTab f l)[k]?=some (f (tyTab f (l.take k)) t):=by
 have hk:k < l.length:=(List.getElem?_eq_some_iff.1 h).1
 have h1:=tyTab_take f l (k+1) hk
 rw [tyTake_snoc h,tyTab_snoc] at h1
 have h2:((tyTab f l).take (k+1))[k]?=(tyTab f l)[k]?:=by rw [List.getElem?_take,if_pos (by omega)]
 rw [←h2,← h1,List.getElem?_append_right (by rw [tyTab_len];simp;omega)]
 rw [tyTab_len,List.length_take,Nat.min_eq_left (by omega)]
 simp
theorem tyTake_at {d:List α} {k:Nat} {z:α} {p:Int} (h0:0≤p) (h1:p < (k:Int)):(d.take k).getD p.toNat z=d.getD p.toNat z:=by
 rw [List.getD_eq_getElem?_getD,List.getD_eq_getElem?_getD,List.getElem?_take,if_pos (by omega)]
end
def tyDpt (d:List Int) (t:Ty):Int:=((tyParts t).map fun p=>d.getD p.toNat 0).foldl max 0+1
def tyDeps (l:List Ty):List Int:=tyTab tyDpt l
def tyCpb (d:List Bool) (t:Ty):Bool:=if t.kind=3 then !t.mut_ else (tyParts t).all fun p=>d.getD p.toNat false
def tyCops (l:List Ty):List Bool:=tyTab tyCpb l
def tyDep (l:List Ty) (i:Int):Int:=(tyDeps l).getD i.toNat 0
def tyCop (l:List Ty) (i:Int):Bool:=(tyCops l).getD i.toNat false
inductive TyMen (l:List Ty):Int→Int→Prop
 | here (i:Nat) (t:Ty):l[i]?=some t→t.kind=3→TyMen l (i:Int) t.region
 | part (i:Nat) (t:Ty) (p r:Int):l[i]?=some t→p∈tyParts t→TyMen l p r→TyMen l (i:Int) r
def tyIn (i n:Int):Bool:=decide (0≤i) && decide (i < n)
theorem tyIn_iff {i n:Int}:tyIn i n=true↔0≤i∧i < n:=by simp [tyIn]
theorem tyIn_not {i n:Int}:tyIn i n=false↔¬(0≤i∧i < n):=by rw [←tyIn_iff];simp
def tyAllIn (xs:List Int) (n:Int):Bool:=xs.all fun i=>tyIn i n
theorem tyAllIn_iff {xs:List Int} {n:Int}:tyAllIn xs n=true↔∀ i∈xs,0≤i∧i < n:=by
 unfold tyAllIn
 rw [List.all_eq_true]
 exact ⟨fun h i hi=>tyIn_iff.1 (h i hi),fun h i hi=>tyIn_iff.2 (h i hi)⟩
def tyOwn (t:Ty) (earlier regions:Int):Int:=
 if t.kind < 0∨4 < t.kind then 14
 else if (t.kind≠3∧(t.mut_=true∨t.region≠0∨t.elem≠0))∨(t.kind≠4∧0 < t.fields.length) then 2
 else if (t.kind=3∧tyIn t.region regions=false)∨tyAllIn (tyParts t) earlier=false then 3
 else if t.kind=4∧(t.fields.length=0∨65535 < t.fields.length) then 15
 else 0
def tyErr (pre:List Ty) (t:Ty) (regions:Int):Int:=
 if tyOwn t (pre.length:Int) regions≠0 then tyOwn t (pre.length:Int) regions
 else if 32 < tyDpt (tyDeps pre) t then 19
 else if t∈pre then 21
 else 0
def tyChkR (regions:Int):List Ty→List Ty→Int
 | _,[]=>0
 | pre,t :: rest=>if tyErr pre t regions=0 then tyChkR regions (pre++[t]) rest else tyErr pre t regions
def tyChk (l:List Ty) (regions:Int):Int:=if 65535 < l.length then 15 else tyChkR regions [] l
theorem tyChk_big {l:List Ty} (h:65535 < l.length) (r:Int):tyChk l r=15:=by unfold tyChk;rw [if_pos h]
theorem tyChk_at {l:List Ty} (h:l.length≤65535) (r:Int):tyChk l r=tyChkR r (l.take 0) (l.drop 0):=by unfold tyChk;rw [if_neg (by omega)];simp
theorem tyChkR_at {l:List Ty} {r:Int} {k:Nat} {t:Ty} (h:l[k]?=some t):tyChkR r (l.take k) (l.drop k)=if tyErr (l.take k) t r=0 then tyChkR r (l.take (k+1)) (l.drop (k+1)) else tyErr (l.take k) t r:=by
 have hk:k < l.length:=(List.getElem?_eq_some_iff.1 h).1
 have e:l.drop k=t :: l.drop (k+1):=by
  rw [List.drop_eq_getElem_cons hk]
  rw [List.getElem?_eq_getElem hk] at h
  injection h with h
  rw [h]
 rw [e,tyTake_snoc h]
 rfl
theorem tyChkR_end {l:List Ty} {r:Int} {k:Nat} (h:l.length≤k):tyChkR r (l.take k) (l.drop k)=0:=by
 rw [List.drop_of_length_le h];cases l.take k <;> rfl
theorem tyChkR_ok {l:List Ty} {r:Int}:∀ (n k:Nat),l.length - k=n→k≤l.length→tyChkR r (l.take k) (l.drop k)=0→∀ j t,k≤j→l[j]?=some t→tyErr (l.take j) t r=0
 | 0,k,hn,hk,_,j,t,hj,ht=>by
  have:=(List.getElem?_eq_some_iff.1 ht).1
  omega
 | n+1,k,hn,hk,h,j,t,hj,ht=>by
  have hex:∃ u,l[k]?=some u:=⟨_,List.getElem?_eq_getElem (by omega)⟩
  obtain ⟨u,hu⟩:=hex
  rw [tyChkR_at hu] at h
  by_cases he:tyErr (l.take k) u r=0
  ·
   rw [if_pos he] at h
   rcases Nat.lt_or_ge k j with hlt | hge
   ·
    exact tyChkR_ok n (k+1) (by omega) (by omega) h j t hlt ht
   ·
    obtain rfl:k=j:=by omega
    rw [hu] at ht
    injection ht with ht
    subst ht
    exact he
  ·
   rw [if_neg he] at h
   exact absurd h he
theorem tyChkR_mk {l:List Ty} {r:Int}:∀ (n k:Nat),l.length - k=n→k≤l.length→(∀ j t,k≤j→l[j]?=some t→tyErr (l.take j) t r=0)→tyChkR r (l.take k) (l.drop k)=0
 | 0,k,hn,hk,_=>tyChkR_end (by omega)
 | n+1,k,hn,hk,h=>by
  have hex:∃ u,l[k]?=some u:=⟨_,List.getElem?_eq_getElem (by omega)⟩
  obtain ⟨u,hu⟩:=hex
  rw [tyChkR_at hu,if_pos (h k u (Nat.le_refl _) hu)]
  exact tyChkR_mk n (k+1) (by omega) (by omega) fun j t hj=>h j t (by omega)
structure TyOk (l:List Ty) (r:Int):Prop where
 len:l.length≤65535
 err:∀ j t,l[j]?=some t→tyErr (l.take j) t r=0
theorem tyChk_iff {l:List Ty} {r:Int}:tyChk l r=0↔TyOk l r:=by
 constructor
 ·
  intro h
  have hl:l.length≤65535:=by
   rcases Nat.lt_or_ge 65535 l.length with h' | h'
   ·
    rw [tyChk_big h'] at h;cases h
   ·
    exact h'
  rw [tyChk_at hl] at h
  exact ⟨hl,fun j t hj=>tyChkR_ok _ 0 rfl (Nat.zero_le _) h j t (Nat.zero_le _) hj⟩
 ·
  intro h
  rw [tyChk_at h.len]
  exact tyChkR_mk _ 0 rfl (Nat.zero_le _) fun j t _=>h.err j t
theorem tyOwn_zero {t:Ty} {e r:Int}:tyOwn t e r=0↔(0≤t.kind∧t.kind≤4)∧(t.kind≠3→t.mut_=false∧t.region=0∧t.elem=0)∧(t.kind≠4→t.fields=[])∧(t.kind=3→0≤t.region∧t.region < r)∧(∀ p∈tyParts t,0≤p∧p < e)∧(t.kind=4→1≤t.fields.length∧t.fields.length≤65535):=by
 unfold tyOwn
 by_cases c1:t.kind < 0∨4 < t.kind
 ·
  rw [if_pos c1]
  exact ⟨(fun h=>by cases h),fun h=>by have:=h.1;omega⟩
 rw [if_neg c1]
 by_cases c2:(t.kind≠3∧(t.mut_=true∨t.region≠0∨t.elem≠0))∨(t.kind≠4∧0 < t.fields.length)
 ·
  rw [if_pos c2]
  refine ⟨(fun h=>by cases h),fun h=>?_⟩
  obtain ⟨_,h2,h3,_⟩:=h
  rcases c2 with ⟨n3,h⟩ | ⟨n4,h⟩
  ·
   obtain ⟨a,b,c⟩:=h2 n3
   rcases h with h | h | h
   ·
    rw [a] at h;cases h
   ·
    exact absurd b h
   ·
    exact absurd c h
  ·
   rw [h3 n4] at h
   cases h
 rw [if_neg c2]
 have d2:(t.kind≠3→t.mut_=false∧t.region=0∧t.elem=0)∧(t.kind≠4→t.fields=[]):=by
  refine ⟨fun n3=>⟨?_,?_,?_⟩,fun n4=>?_⟩
  ·
   cases hm:t.mut_
   ·
    rfl
   ·
    exact absurd (.inl ⟨n3,.inl hm⟩) c2
  ·
   by_cases h:t.region=0
   ·
    exact h
   ·
    exact absurd (.inl ⟨n3,.inr (.inl h)⟩) c2
  ·
   by_cases h:t.elem=0
   ·
    exact h
   ·
    exact absurd (.inl ⟨n3,.inr (.inr h)⟩) c2
  ·
   cases hf:t.fields with
   | nil=>rfl
   | cons x xs=>exact absurd (.inr ⟨n4,by rw [hf];simp⟩) c2
 by_cases c3:(t.kind=3∧tyIn t.region r=false)∨tyAllIn (tyParts t) e=false
 ·
  rw [if_pos c3]
  refine ⟨(fun h=>by cases h),fun h=>?_⟩
  obtain ⟨_,_,_,h4,h5,_⟩:=h
  rcases c3 with ⟨e3,h⟩ | h
  ·
   exact absurd (h4 e3) (tyIn_not.1 h)
  ·
   rw [tyAllIn_iff.2 h5] at h;cases h
 rw [if_neg c3]
 have d3:(t.kind=3→0≤t.region∧t.region < r)∧∀ p∈tyParts t,0≤p∧p < e:=by
  refine ⟨fun e3=>?_,tyAllIn_iff.1 ?_⟩
  ·
   cases h:tyIn t.region r
   ·
    exact absurd (.inl ⟨e3,h⟩) c3
   ·
    exact tyIn_iff.1 h
  ·
   cases h:tyAllIn (tyParts t) e
   ·
    exact absurd (.inr h) c3
   ·
    rfl
 by_cases c4:t.kind=4∧(t.fields.length=0∨65535 < t.fields.length)
 ·
  rw [if_pos c4]
  exact ⟨(fun h=>by cases h),fun h=>by have:=h.2.2.2.2.2 c4.1;omega⟩
 rw [if_neg c4]
 exact ⟨fun _=>⟨by omega,d2.1,d2.2,d3.1,d3.2,fun h4=>by omega⟩,fun _=>rfl⟩
theorem tyErr_zero {pre:List Ty} {t:Ty} {r:Int}:tyErr pre t r=0↔tyOwn t (pre.length:Int) r=0∧tyDpt (tyDeps pre) t≤32∧t∉pre:=by
 unfold tyErr
 by_cases c1:tyOwn t (pre.length:Int) r=0
 ·
  rw [if_neg (by simp [c1])]
  by_cases c2:32 < tyDpt (tyDeps pre) t
  ·
   rw [if_pos c2]
   exact ⟨(fun h=>by cases h),fun h=>by omega⟩
  ·
   rw [if_neg c2]
   by_cases c3:t∈pre
   ·
    rw [if_pos c3]
    exact ⟨(fun h=>by cases h),fun h=>absurd c3 h.2.2⟩
   ·
    rw [if_neg c3]
    exact ⟨fun _=>⟨c1,by omega,c3⟩,fun _=>rfl⟩
 ·
  rw [if_pos c1]
  exact ⟨fun h=>absurd h c1,fun h=>absurd h.1 c1⟩
namespace TyOk
variable {l:List Ty} {r:Int} (h:TyOk l r) {j:Nat} {t:Ty}
include h
theorem own (ht:l[j]?=some t):(0≤t.kind∧t.kind≤4)∧(t.kind≠3→t.mut_=false∧t.region=0∧t.elem=0)∧(t.kind≠4→t.fields=[])∧(t.kind=3→0≤t.region∧t.region < r)∧(∀ p∈tyParts t,0≤p∧p < (j:Int))∧(t.kind=4→1≤t.fields.length∧t.fields.length≤65535):=by
 have h1:=tyOwn_zero.1 (tyErr_zero.1 (h.err j t ht)).1
 rw [List.length_take,Nat.min_eq_left (Nat.le_of_lt (List.getElem?_eq_some_iff.1 ht).1)] at h1
 exact h1
theorem part (ht:l[j]?=some t) {p:Int} (hp:p∈tyParts t):0≤p∧p < (j:Int):=(h.own ht).2.2.2.2.1 p hp
theorem elem (ht:l[j]?=some t) {p:Int} (hp:p∈tyParts t):∃ (q:Nat) (u:Ty),p=(q:Int)∧q < j∧l[q]?=some u:=by
 obtain ⟨h0,h1⟩:=h.part ht hp
 have hj:=(List.getElem?_eq_some_iff.1 ht).1
 exact ⟨p.toNat,_,by omega,by omega,List.getElem?_eq_getElem (by omega)⟩
theorem fields (ht:l[j]?=some t) (h3:t.kind≠3):tyParts t=t.fields:=by
 by_cases h4:t.kind=4
 ·
  exact tyParts_tup h4
 ·
  rw [tyParts_none h3 h4,(h.own ht).2.2.1 h4]
theorem dep_at (ht:l[j]?=some t):tyDep l (j:Int)=((tyParts t).map (tyDep l)).foldl max 0+1:=by
 have e:=tyTab_at tyDpt ht
 unfold tyDep tyDeps
 rw [Int.toNat_natCast,List.getD_eq_getElem?_getD,e,Option.getD_some]
 unfold tyDpt
 congr 2
 refine List.map_congr_left fun p hp=>?_
 obtain ⟨h0,h1⟩:=h.part ht hp
 rw [tyTab_take _ _ _ (Nat.le_of_lt (List.getElem?_eq_some_iff.1 ht).1),tyTake_at h0 h1]
theorem cop_at (ht:l[j]?=some t):tyCop l (j:Int)=if t.kind=3 then !t.mut_ else (tyParts t).all (tyCop l):=by
 have e:=tyTab_at tyCpb ht
 unfold tyCop tyCops
 rw [Int.toNat_natCast,List.getD_eq_getElem?_getD,e,Option.getD_some]
 have hd:∀ d,tyCpb d t=if t.kind=3 then !t.mut_ else (tyParts t).all fun p=>d.getD p.toNat false:=fun _=>rfl
 rw [hd]
 by_cases h3:t.kind=3
 ·
  rw [if_pos h3,if_pos h3]
 ·
  rw [if_neg h3,if_neg h3]
  rw [Bool.eq_iff_iff,List.all_eq_true,List.all_eq_true]
  have hp:∀ p∈tyParts t,(tyTab tyCpb (l.take j)).getD p.toNat false=(tyTab tyCpb l).getD p.toNat false:=fun p hp=>by
   obtain ⟨h0,h1⟩:=h.part ht hp
   rw [tyTab_take _ _ _ (Nat.le_of_lt (List.getElem?_eq_some_iff.1 ht).1),tyTake_at h0 h1]
  exact ⟨fun k p hp'=>by rw [←hp p hp'];exact k p hp',fun k p hp'=>by rw [hp p hp'];exact k p hp'⟩
end TyOk
theorem foldMax_le:∀ (xs:List Int) (m:Int),m≤xs.foldl max m∧(∀ x∈xs,x≤xs.foldl max m)∧(xs.foldl max m=m∨xs.foldl max m∈xs)
 | [],m=>⟨Int.le_refl _,(fun x hx=>by cases hx),.inl rfl⟩
 | y :: xs,m=>by
  obtain ⟨h1,h2,h3⟩:=foldMax_le xs (max m y)
  rw [List.foldl_cons]
  refine ⟨by omega,fun x hx=>?_,?_⟩
  ·
   rcases List.mem_cons.1 hx with rfl | hx
   ·
    omega
   ·
    exact h2 x hx
  ·
   rcases h3 with h3 | h3
   ·
    rw [h3]
    rcases Int.le_total m y with h | h
    ·
     right;rw [Int.max_eq_right h];simp
    ·
     left;rw [Int.max_eq_left h]
   ·
    right;simp [h3]
theorem TyOk.dep_pos {l:List Ty} {r:Int} (h:TyOk l r) {j:Nat} {t:Ty} (ht:l[j]?=some t):1≤tyDep l (j:Int)∧tyDep l (j:Int)≤32∧∀ p∈tyParts t,tyDep l p+1≤tyDep l (j:Int):=by
 have e:=h.dep_at ht
 obtain ⟨h1,h2,_⟩:=foldMax_le ((tyParts t).map (tyDep l)) 0
 refine ⟨by omega,?_,fun p hp=>by have:=h2 _ (List.mem_map_of_mem hp);omega⟩
 have h3:=(tyErr_zero.1 (h.err j t ht)).2.1
 have e2:=tyTab_at tyDpt ht
 have e3:tyDep l (j:Int)=tyDpt (tyDeps (l.take j)) t:=by
  show (tyTab tyDpt l).getD (j:Int).toNat 0=_
  rw [Int.toNat_natCast,List.getD_eq_getElem?_getD,e2]
  rfl
 omega
theorem TyOk.take {l:List Ty} {r:Int} (h:TyOk l r) (k:Nat):TyOk (l.take k) r:=by
 refine ⟨by have:=h.len;rw [List.length_take];omega,fun j t ht=>?_⟩
 rw [List.getElem?_take] at ht
 by_cases hj:j < k
 ·
  rw [if_pos hj] at ht
  rw [List.take_take,Nat.min_eq_left (by omega)]
  exact h.err j t ht
 ·
  rw [if_neg hj] at ht
  cases ht
theorem TyOk.more {l:List Ty} {r r':Int} (h:TyOk l r) (hr:r≤r'):TyOk l r':=by
 refine ⟨h.len,fun j t ht=>?_⟩
 obtain ⟨h1,h2,h3⟩:=tyErr_zero.1 (h.err j t ht)
 obtain ⟨a,b,c,d,e,f⟩:=tyOwn_zero.1 h1
 exact tyErr_zero.2 ⟨tyOwn_zero.2 ⟨a,b,c,fun h3=>by have:=d h3;omega,e,f⟩,h2,h3⟩
theorem TyOk.inj {l:List Ty} {r:Int} (h:TyOk l r) {i j:Nat} {t:Ty} (hi:l[i]?=some t) (hj:l[j]?=some t):i=j:=by
 have key:∀ {i j:Nat},l[i]?=some t→l[j]?=some t→¬i < j:=fun {i j} hi hj hlt=>by
  have:=(tyErr_zero.1 (h.err j t hj)).2.2
  exact this (List.mem_of_getElem? (show (l.take j)[i]?=some t by rw [List.getElem?_take,if_pos hlt];exact hi))
 rcases Nat.lt_trichotomy i j with h' | h' | h'
 ·
  exact absurd h' (key hi hj)
 ·
  exact h'
 ·
  exact absurd h' (key hj hi)
theorem TyMen.bd {l:List Ty} {r:Int} (h:TyOk l r) {i q:Int} (hm:TyMen l i q):0≤q∧q < r∧∃ t∈l,t.region=q:=by
 induction hm with
 | here i t ht hk=>
  have:=(h.own ht).2.2.2.1 hk
  exact ⟨this.1,this.2,t,List.mem_of_getElem? ht,rfl⟩
 | part _ _ _ _ _ _ _ ih=>exact ih
theorem TyMen.lt {l:List Ty} {i q:Int} (hm:TyMen l i q):0≤i∧i < (l.length:Int):=by
 cases hm with
 | here i t ht hk=>have:=(List.getElem?_eq_some_iff.1 ht).1;omega
 | part i t p q ht hp hm=>have:=(List.getElem?_eq_some_iff.1 ht).1;omega
def AscI (xs:List Int):Prop:=xs.Pairwise (· < ·)
theorem ascI_of_sorted {xs:List Int} (h:xs.Pairwise (·≤·)) (hn:xs.Nodup):AscI xs:=by
 refine (List.pairwise_and_iff.2 ⟨h,hn⟩).imp ?_
 rintro a b ⟨h1,h2⟩
 omega
theorem nodup_sub {α:Type} [DecidableEq α]:∀ {l m:List α},l.Nodup→(∀ x∈l,x∈m)→l.length≤m.length
 | [],_,_,_=>Nat.zero_le _
 | x :: l,m,hn,hs=>by
  obtain ⟨hx,hn'⟩:=List.nodup_cons.1 hn
  have hm:=hs x (by simp)
  have ih:=nodup_sub (l:=l) (m:=m.erase x) hn' fun y hy=>(List.mem_erase_of_ne (fun e=>by subst e;exact hx hy)).2 (hs y (by simp [hy]))
  rw [List.length_erase_of_mem hm] at ih
  have:=List.length_pos_of_mem hm
  rw [List.length_cons]
  omega
def tyBig:Nat→List Ty→Bool
 | _,[]=>false
 | n,t :: l=>if 200 < n+(1+min t.fields.length 500) then true else tyBig (n+(1+min t.fields.length 500)) l
def tyLarge (l:List Ty):Bool:=tyBig 0 l
theorem tyBig_small:∀ {l:List Ty} {n:Nat},n≤200→tyBig n l=false→n+l.length≤200∧∀ t∈l,t.fields.length≤200
 | [],n,hn,_=>⟨hn,fun t ht=>by cases ht⟩
 | t :: l,n,hn,h=>by
  unfold tyBig at h
  by_cases c:200 < n+(1+min t.fields.length 500)
  ·
   rw [if_pos c] at h;cases h
  ·
   rw [if_neg c] at h
   obtain ⟨h1,h2⟩:=tyBig_small (by omega) h
   refine ⟨by rw [List.length_cons];omega,fun u hu=>?_⟩
   rcases List.mem_cons.1 hu with rfl | hu
   ·
    omega
   ·
    exact h2 u hu
theorem tyLarge_small {l:List Ty} (h:tyLarge l=false):l.length≤200∧∀ t∈l,t.fields.length≤200:=by
 have:=tyBig_small (Nat.zero_le _) h
 exact ⟨by omega,this.2⟩
end Go.Proofs.YteeemjmohjkdpaaGreatDoor
namespace Go.Proofs.YteeemjmohjkdpaaGreatDoor
open Go.RowKit
abbrev Pr:=Int×Int
def prLt (p q:Pr):Bool:=decide (p.1 < q.1∨(p.1=q.1∧p.2 < q.2))
def prErr (prev:Option Pr) (p:Pr) (n:Int):Int:=
 if tyIn p.1 n=false∨tyIn p.2 n=false then 3
 else if p.1=p.2 then 2
 else match prev with
  | none=>0
  | some q=>if prLt q p=true then 0 else 21
def prChkR (n:Int):Option Pr→List Pr→Int
 | _,[]=>0
 | q,p :: rest=>if prErr q p n=0 then prChkR n (some p) rest else prErr q p n
def prChk (l:List Pr) (n:Int):Int:=if 65535 < l.length then 15 else prChkR n none l
def prv (l:List Pr) (k:Nat):Option Pr:=if k=0 then none else l[k - 1]?
theorem prv_up {l:List Pr} {k:Nat} {p:Pr} (h:l[k]?=some p):prv l (k+1)=some p:=by
 unfold prv;rw [if_neg (by omega),Nat.add_sub_cancel,h]
theorem prChk_big {l:List Pr} (h:65535 < l.length) (n:Int):prChk l n=15:=by unfold prChk;rw [if_pos h]
theorem prChk_at {l:List Pr} (h:l.length≤65535) (n:Int):prChk l n=prChkR n (prv l 0) (l.drop 0):=by unfold prChk;rw [if_neg (by omega)];rfl
theorem prChkR_at {l:List Pr} {n:Int} {k:Nat} {p:Pr} (h:l[k]?=some p):prChkR n (prv l k) (l.drop k)=if prErr (prv l k) p n=0 then prChkR n (prv l (k+1)) (l.drop (k+1)) else prErr (prv l k) p n:=by
 have hk:k < l.length:=(List.getElem?_eq_some_iff.1 h).1
 have e:l.drop k=p :: l.drop (k+1):=by
  rw [List.drop_eq_getElem_cons hk]
  rw [List.getElem?_eq_getElem hk] at h
  injection h with h
  rw [h]
 rw [e,prv_up h]
 rfl
theorem prChkR_end {l:List Pr} {n:Int} {k:Nat} (h:l.length≤k):prChkR n (prv l k) (l.drop k)=0:=by
 rw [List.drop_of_length_le h];cases prv l k <;> rfl
structure PrOk (l:List Pr) (n:Int):Prop where
 len:l.length≤65535
 a:∀ p∈l,0≤p.1∧p.1 < n
 b:∀ p∈l,0≤p.2∧p.2 < n
inductive Way (ps:List Pr):Int→Int→Prop
 | refl (a:Int):Way ps a a
 | step {a b c:Int}:(a,b)∈ps→Way ps b c→Way ps a c
theorem Way.trans {ps:List Pr} {a b c:Int} (h:Way ps a b) (k:Way ps b c):Way ps a c:=by
 induction h with
 | refl=>exact k
 | step m _ ih=>exact .step m (ih k)
theorem Way.one {ps:List Pr} {a b:Int} (h:(a,b)∈ps):Way ps a b:=.step h (.refl _)
theorem Way.snoc {ps:List Pr} {a b c:Int} (h:Way ps a b) (k:(b,c)∈ps):Way ps a c:=h.trans (.one k)
def Out (ps:List Pr) (n a b:Int):Prop:=(0≤a∧a < n)∧(0≤b∧b < n)∧Way ps a b
noncomputable def out (ps:List Pr) (n a b:Int):Bool:=@decide (Out ps n a b) (Classical.propDecidable _)
theorem out_iff {ps:List Pr} {n a b:Int}:out ps n a b=true↔Out ps n a b:=by unfold out;exact @decide_eq_true_iff _ (Classical.propDecidable _)
theorem out_not {ps:List Pr} {n a b:Int}:out ps n a b=false↔¬Out ps n a b:=by rw [←out_iff];simp
theorem out_eq {ps:List Pr} {n a b:Int} {v:Bool} (h:v=true↔Out ps n a b):v=out ps n a b:=by
 rw [Bool.eq_iff_iff,out_iff,h]
theorem Out.trans {ps:List Pr} {n a b c:Int} (h:Out ps n a b) (k:Out ps n b c):Out ps n a c:=⟨h.1,k.2.1,h.2.2.trans k.2.2⟩
theorem Out.refl {ps:List Pr} {n a:Int} (h:0≤a∧a < n):Out ps n a a:=⟨h,h,.refl _⟩
def OutL (ps:List Pr) (n:Int) (l:List Int) (a:Int):Prop:=∃ b∈l,Out ps n a b
structure RelD (ps:List Pr) (n:Int) (D:List Int) (ab:List (List Int)):Prop where
 asc:D.Pairwise (· < ·)
 mem:∀ x,x∈D↔∃ p∈ps,x=p.1∨x=p.2
 len:ab.length=D.length
 rng:∀ (j:Nat) xs,ab[j]?=some xs→∀ i∈xs,0≤i∧i < (D.length:Int)
 ab:∀ (j:Nat) xs b,ab[j]?=some xs→D[j]?=some b→∀ (i:Nat) a,D[i]?=some a→((i:Int)∈xs↔(a,b)∈ps)
theorem asc_injR {D:List Int} (h:D.Pairwise (· < ·)) {i j:Nat} {a:Int} (hi:D[i]?=some a) (hj:D[j]?=some a):i=j:=by
 obtain ⟨h1,e1⟩:=List.getElem?_eq_some_iff.1 hi
 obtain ⟨h2,e2⟩:=List.getElem?_eq_some_iff.1 hj
 rcases Nat.lt_trichotomy i j with hl | hl | hl
 ·
  have:=List.pairwise_iff_getElem.1 h i j h1 h2 hl
  omega
 ·
  exact hl
 ·
  have:=List.pairwise_iff_getElem.1 h j i h2 h1 hl
  omega
theorem asc_count:∀ {D:List Int},D.Pairwise (· < ·)→∀ {i:Nat} {a:Int},D[i]?=some a→D.countP (· < a)=i
 | [],_,i,a,h=>by simp at h
 | x :: D,hD,0,a,h=>by
  obtain ⟨h1,h2⟩:=List.pairwise_cons.1 hD
  have e:x=a:=by simpa using h
  subst e
  rw [List.countP_eq_zero.2]
  intro y hy
  rcases List.mem_cons.1 hy with rfl | hy
  ·
   simp
  ·
   have:=h1 y hy;simp;omega
 | x :: D,hD,i+1,a,h=>by
  obtain ⟨h1,h2⟩:=List.pairwise_cons.1 hD
  have h':D[i]?=some a:=by simpa using h
  have:=h1 a (List.mem_of_getElem? h')
  rw [List.countP_cons,asc_count h2 h',if_pos (by simpa using this)]
theorem asc_le {D:List Int} (h:D.Pairwise (· < ·)):D.Pairwise (·≤·):=h.imp fun h=>by omega
def Fnd (F:List Bool) (x:Int):Prop:=F[x.toNat]?=some true
structure Sr (D:List Int) (ab:List (List Int)) (G:Int→Prop) (S Ix W:List Int) (F:List Bool) (ys:List Int):Prop where
 len:F.length=D.length
 start:∀ s∈S,Fnd F s∨s∈Ix
 front:∀ (i:Nat),F[i]?=some true→(i:Int)∈W∨∀ xs,ab[i]?=some xs→∀ x∈xs,Fnd F x∨x∈Ix
 wait:∀ x∈W,Fnd F x∧0≤x
 ix:∀ x∈Ix,(0≤x∧x < (D.length:Int))∧∀ a,D[x.toNat]?=some a→G a
 come:∀ a,a∈ys↔∃ i:Nat,F[i]?=some true∧D[i]?=some a
 good:∀ a∈ys,G a
theorem Fnd.set {F:List Bool} {x:Int} {k:Nat} (h:Fnd F x):Fnd (F.set k true) x:=by
 unfold Fnd at h ⊢
 rw [List.getElem?_set]
 split
 ·
  rename_i e
  subst e
  rw [if_pos ((List.getElem?_eq_some_iff.1 h).1)]
 ·
  exact h
theorem fnd_set {F:List Bool} {x:Int} (h:x.toNat < F.length):Fnd (F.set x.toNat true) x:=by
 unfold Fnd
 rw [List.getElem?_set_self h]
theorem set_back {F:List Bool} {i k:Nat} (h:(F.set k true)[i]?=some true):i=k∨F[i]?=some true:=by
 rw [List.getElem?_set] at h
 split at h
 ·
  rename_i e;exact .inl e.symm
 ·
  exact .inr h
section
variable {D:List Int} {ab:List (List Int)} {G:Int→Prop} {S Ix W:List Int} {F:List Bool} {ys:List Int}
theorem Sr.begin (hs:∀ x∈S,(0≤x∧x < (D.length:Int))∧∀ a,D[x.toNat]?=some a→G a):Sr D ab G S S [] (List.replicate D.length false) []:=by
 have hno:∀ i:Nat,¬(List.replicate D.length false)[i]?=some true:=fun i h=>by
  rw [List.getElem?_replicate] at h
  split at h <;> cases h
 exact ⟨by simp,fun s h=>.inr h,fun i h=>absurd h (hno i),(fun x h=>by cases h),hs,fun a=>⟨(fun h=>by cases h),fun ⟨i,h,_⟩=>absurd h (hno i)⟩,(fun a h=>by cases h)⟩
theorem Sr.skip {x:Int} (h:Sr D ab G S (x :: Ix) W F ys) (hx:Fnd F x):Sr D ab G S Ix W F ys:=by
 refine ⟨h.len,fun s hs=>?_,fun i hi=>?_,h.wait,fun y hy=>h.ix y (by simp [hy]),h.come,h.good⟩
 ·
  rcases h.start s hs with h1 | h1
  ·
   exact .inl h1
  ·
   rcases List.mem_cons.1 h1 with rfl | h1
   ·
    exact .inl hx
   ·
    exact .inr h1
 ·
  rcases h.front i hi with h1 | h1
  ·
   exact .inl h1
  ·
   refine .inr fun xs hxs y hy=>?_
   rcases h1 xs hxs y hy with h2 | h2
   ·
    exact .inl h2
   ·
    rcases List.mem_cons.1 h2 with rfl | h2
    ·
     exact .inl hx
    ·
     exact .inr h2
theorem Sr.take {x a:Int} (h:Sr D ab G S (x :: Ix) W F ys) (ha:D[x.toNat]?=some a):Sr D ab G S Ix (W++[x]) (F.set x.toNat true) (ys++[a]):=by
 obtain ⟨⟨hx0,hx1⟩,hg⟩:=h.ix x (by simp)
 have hl:x.toNat < F.length:=by rw [h.len];omega
 refine ⟨by rw [List.length_set,h.len],fun s hs=>?_,fun i hi=>?_,fun y hy=>?_,fun y hy=>h.ix y (by simp [hy]),fun b=>?_,fun b hb=>?_⟩
 ·
  rcases h.start s hs with h1 | h1
  ·
   exact .inl h1.set
  ·
   rcases List.mem_cons.1 h1 with rfl | h1
   ·
    exact .inl (fnd_set hl)
   ·
    exact .inr h1
 ·
  rcases set_back hi with rfl | hi
  ·
   exact .inl (by simp;right;omega)
  ·
   rcases h.front i hi with h1 | h1
   ·
    exact .inl (by simp [h1])
   ·
    refine .inr fun xs hxs y hy=>?_
    rcases h1 xs hxs y hy with h2 | h2
    ·
     exact .inl h2.set
    ·
     rcases List.mem_cons.1 h2 with rfl | h2
     ·
      exact .inl (fnd_set hl)
     ·
      exact .inr h2
 ·
  rcases List.mem_append.1 hy with hy | hy
  ·
   exact ⟨(h.wait y hy).1.set,(h.wait y hy).2⟩
  ·
   obtain rfl:y=x:=by simpa using hy
   exact ⟨fnd_set hl,hx0⟩
 ·
  rw [List.mem_append,h.come]
  constructor
  ·
   rintro (⟨i,h1,h2⟩ | h1)
   ·
    exact ⟨i,by have:=Fnd.set (k:=x.toNat) (show Fnd F (i:Int) from h1);exact this,h2⟩
   ·
    obtain rfl:b=a:=by simpa using h1
    exact ⟨x.toNat,fnd_set hl,ha⟩
  ·
   rintro ⟨i,h1,h2⟩
   rcases set_back h1 with rfl | h1
   ·
    rw [ha] at h2
    injection h2 with h2
    exact .inr (by simp [h2])
   ·
    exact .inl ⟨i,h1,h2⟩
 ·
  rcases List.mem_append.1 hb with hb | hb
  ·
   exact h.good b hb
  ·
   obtain rfl:b=a:=by simpa using hb
   exact hg _ ha
theorem Sr.pop {x:Int} {xs:List Int} (h:Sr D ab G S [] (W++[x]) F ys) (hxs:ab[x.toNat]?=some xs) (hr:∀ i∈xs,0≤i∧i < (D.length:Int)) (hG:∀ i∈xs,∀ a,D[i.toNat]?=some a→G a):Sr D ab G S xs W F ys:=by
 refine ⟨h.len,fun s hs=>?_,fun i hi=>?_,fun y hy=>h.wait y (by simp [hy]),fun y hy=>⟨hr y hy,hG y hy⟩,h.come,h.good⟩
 ·
  rcases h.start s hs with h1 | h1
  ·
   exact .inl h1
  ·
   cases h1
 ·
  rcases h.front i hi with h1 | h1
  ·
   rcases List.mem_append.1 h1 with h1 | h1
   ·
    exact .inl h1
   ·
    have e:(i:Int)=x:=by simpa using h1
    subst e
    refine .inr fun zs hzs y hy=>.inr ?_
    rw [Int.toNat_natCast] at hxs
    rw [hxs] at hzs
    injection hzs with hzs
    rw [hzs];exact hy
  ·
   refine .inr fun zs hzs y hy=>?_
   rcases h1 zs hzs y hy with h2 | h2
   ·
    exact .inl h2
   ·
    cases h2
theorem Sr.end_ {ps:List Pr} {n:Int} (h:Sr D ab G S [] [] F ys) (hr:RelD ps n D ab) {s:Int} (hs:s∈S) {b:Int} (hb:D[s.toNat]?=some b) {a:Int} (w:Way ps a b):a∈ys:=by
 induction w with
 | refl=>
  rcases h.start s hs with h1 | h1
  ·
   exact (h.come _).2 ⟨s.toNat,h1,hb⟩
  ·
   cases h1
 | @step a c b m w ih=>
  obtain ⟨i,hi,hc⟩:=(h.come _).1 (ih hb)
  have hi2:i < ab.length:=by rw [hr.len];exact (List.getElem?_eq_some_iff.1 hc).1
  have hex:∃ xs,ab[i]?=some xs:=⟨_,List.getElem?_eq_getElem hi2⟩
  obtain ⟨xs,hxs⟩:=hex
  obtain ⟨j,hj⟩:=List.getElem?_of_mem ((hr.mem a).2 ⟨_,m,.inl rfl⟩)
  have hm:=(hr.ab i xs c hxs hc j a hj).2 m
  rcases h.front i hi with h1 | h1
  ·
   cases h1
  ·
   rcases h1 xs hxs _ hm with h2 | h2
   ·
    exact (h.come _).2 ⟨j,by unfold Fnd at h2;rw [Int.toNat_natCast] at h2;exact h2,hj⟩
   ·
    cases h2
end
def pjErr (p:Pr):Int:=if p.1≠0∧p.1≠1 then 14 else if p.1=0∧p.2≠0 then 2 else if p.2 < 0 then 3 else 0
theorem pjErr_zero {p:Pr} (h:pjErr p=0):(p.1=0∧p.2=0)∨(p.1=1∧0≤p.2):=by
 unfold pjErr at h
 split at h
 ·
  cases h
 ·
  split at h
  ·
   cases h
  ·
   split at h
   ·
    cases h
   ·
    omega
def pjsErr:List Pr→Int
 | []=>0
 | p :: l=>if pjErr p=0 then pjsErr l else pjErr p
theorem pjsErr_at {l:List Pr} {k:Nat} {p:Pr} (h:l[k]?=some p):pjsErr (l.drop k)=if pjErr p=0 then pjsErr (l.drop (k+1)) else pjErr p:=by
 have hk:=(List.getElem?_eq_some_iff.1 h).1
 have e:l.drop k=p :: l.drop (k+1):=by
  rw [List.drop_eq_getElem_cons hk]
  rw [List.getElem?_eq_getElem hk] at h
  injection h with h
  rw [h]
 rw [e]
 rfl
theorem pjsErr_zero:∀ {l:List Pr},pjsErr l=0↔∀ p∈l,pjErr p=0
 | []=>⟨(fun _ p h=>by cases h),fun _=>rfl⟩
 | p :: l=>by
  show (if pjErr p=0 then pjsErr l else pjErr p)=0↔_
  by_cases hp:pjErr p=0
  ·
   rw [if_pos hp,pjsErr_zero]
   exact ⟨(fun h q hq=>by rcases List.mem_cons.1 hq with rfl | hq;exact hp;exact h q hq),fun h q hq=>h q (by simp [hq])⟩
  ·
   rw [if_neg hp]
   exact ⟨fun h=>absurd h hp,fun h=>h p (by simp)⟩
def plErr (l:Int) (ps:List Pr):Int:=if l < 0 then 3 else if 32 < ps.length then 19 else pjsErr ps
theorem plErr_zero {l:Int} {ps:List Pr}:plErr l ps=0↔0≤l∧ps.length≤32∧∀ p∈ps,pjErr p=0:=by
 unfold plErr
 split
 ·
  exact ⟨fun h=>(by cases h),fun h=>by omega⟩
 ·
  split
  ·
   exact ⟨fun h=>(by cases h),fun h=>by omega⟩
  ·
   rw [pjsErr_zero]
   exact ⟨fun h=>⟨by omega,by omega,h⟩,fun h=>h.2.2⟩
theorem plErr_take {l:Int} {ps:List Pr} (h:plErr l ps=0) (k:Nat):plErr l (ps.take k)=0:=by
 obtain ⟨h1,h2,h3⟩:=plErr_zero.1 h
 exact plErr_zero.2 ⟨h1,by rw [List.length_take];omega,fun p hp=>h3 p (List.mem_of_mem_take hp)⟩
def stepT (t:Ty) (p:Pr):Int×Int:=
 if p.1=0∧t.kind=3 then (t.elem,0)
 else if p.1=1∧t.kind=4 then (if 0≤p.2∧p.2 < (t.fields.length:Int) then (t.fields.getD p.2.toNat 0,0) else (0,3))
 else (0,22)
theorem stepT_ref {t:Ty} {p:Pr} (h0:p.1=0) (h3:t.kind=3):stepT t p=(t.elem,0):=if_pos ⟨h0,h3⟩
theorem stepT_tup {t:Ty} {p:Pr} (h1:p.1=1) (h4:t.kind=4) {k:Nat} {x:Int} (hk:p.2=(k:Int)) (hx:t.fields[k]?=some x):stepT t p=(x,0):=by
 have hl:=(List.getElem?_eq_some_iff.1 hx).1
 unfold stepT
 rw [if_neg (by omega),if_pos ⟨h1,h4⟩,if_pos (by omega),hk,Int.toNat_natCast,List.getD_eq_getElem?_getD,hx]
 rfl
theorem stepT_out {t:Ty} {p:Pr} (h1:p.1=1) (h4:t.kind=4) (h:¬(0≤p.2∧p.2 < (t.fields.length:Int))):stepT t p=(0,3):=by
 unfold stepT
 rw [if_neg (by omega),if_pos ⟨h1,h4⟩,if_neg h]
theorem stepT_bad {t:Ty} {p:Pr} (h:¬(p.1=0∧t.kind=3)) (h':¬(p.1=1∧t.kind=4)):stepT t p=(0,22):=by
 unfold stepT
 rw [if_neg h,if_neg h']
theorem stepT_cases (t:Ty) (p:Pr):(p.1=0∧t.kind=3∧stepT t p=(t.elem,0))∨(p.1=1∧t.kind=4∧∃ (k:Nat) (x:Int),p.2=(k:Int)∧t.fields[k]?=some x∧stepT t p=(x,0))∨(p.1=1∧t.kind=4∧¬(0≤p.2∧p.2 < (t.fields.length:Int))∧stepT t p=(0,3))∨(¬(p.1=0∧t.kind=3)∧¬(p.1=1∧t.kind=4)∧stepT t p=(0,22)):=by
 by_cases h:p.1=0∧t.kind=3
 ·
  exact .inl ⟨h.1,h.2,stepT_ref h.1 h.2⟩
 by_cases h':p.1=1∧t.kind=4
 ·
  by_cases h2:0≤p.2∧p.2 < (t.fields.length:Int)
  ·
   have hx:t.fields[p.2.toNat]?=some (t.fields[p.2.toNat]'(by omega)):=List.getElem?_eq_getElem (by omega)
   exact .inr (.inl ⟨h'.1,h'.2,p.2.toNat,_,by omega,hx,stepT_tup h'.1 h'.2 (by omega) hx⟩)
  ·
   exact .inr (.inr (.inl ⟨h'.1,h'.2,h2,stepT_out h'.1 h'.2 h2⟩))
 ·
  exact .inr (.inr (.inr ⟨h,h',stepT_bad h h'⟩))
theorem stepT_err {t:Ty} {p:Pr} (h:(stepT t p).2≠0):stepT t p=(0,(stepT t p).2):=by
 rcases stepT_cases t p with ⟨_,_,e⟩ | ⟨_,_,_,_,_,_,e⟩ | ⟨_,_,_,e⟩ | ⟨_,_,e⟩ <;> rw [e] at h ⊢ <;> first | rfl | exact absurd rfl h
theorem stepT_part {t:Ty} {p:Pr} (h:(stepT t p).2=0):(stepT t p).1∈tyParts t:=by
 rcases stepT_cases t p with ⟨_,k,e⟩ | ⟨_,k,_,_,_,hx,e⟩ | ⟨_,_,_,e⟩ | ⟨_,_,e⟩
 ·
  rw [e,tyParts_ref k];simp
 ·
  rw [e,tyParts_tup k];exact List.mem_of_getElem? hx
 ·
  rw [e] at h;cases h
 ·
  rw [e] at h;cases h
def tyGet (T:List Ty) (i:Int):Ty:=T.getD i.toNat ⟨0,false,0,0,[]⟩
theorem tyGet_at {T:List Ty} {i:Nat} {t:Ty} (h:T[i]?=some t):tyGet T (i:Int)=t:=by
 unfold tyGet
 rw [Int.toNat_natCast,List.getD_eq_getElem?_getD,h]
 rfl
def goL (T:List Ty):Int→List Pr→Int×Int
 | t,[]=>(t,0)
 | t,p :: ps=>if (stepT (tyGet T t) p).2=0 then goL T (stepT (tyGet T t) p).1 ps else (0,(stepT (tyGet T t) p).2)
theorem goL_snoc (T:List Ty):∀ (ps:List Pr) (t:Int) (p:Pr),goL T t (ps++[p])=if (goL T t ps).2=0 then stepT (tyGet T (goL T t ps).1) p else (0,(goL T t ps).2)
 | [],t,p=>by
  show (if (stepT (tyGet T t) p).2=0 then ((stepT (tyGet T t) p).1,0) else (0,(stepT (tyGet T t) p).2))=if (0:Int)=0 then stepT (tyGet T t) p else _
  rw [if_pos rfl]
  by_cases h:(stepT (tyGet T t) p).2=0
  ·
   rw [if_pos h,← h]
  ·
   rw [if_neg h];exact (stepT_err h).symm
 | q :: ps,t,p=>by
  show (if (stepT (tyGet T t) q).2=0 then goL T (stepT (tyGet T t) q).1 (ps++[p]) else (0,(stepT (tyGet T t) q).2))=_
  by_cases h:(stepT (tyGet T t) q).2=0
  ·
   have e:goL T t (q :: ps)=goL T (stepT (tyGet T t) q).1 ps:=if_pos h
   rw [if_pos h,e,goL_snoc T ps]
  ·
   have e:goL T t (q :: ps)=(0,(stepT (tyGet T t) q).2):=if_neg h
   rw [if_neg h,e,if_neg h]
def tyA (T:List Ty) (t:Int) (ps:List Pr) (n:Nat):Int:=(goL T t (ps.take n)).1
def erA (T:List Ty) (t:Int) (ps:List Pr) (n:Nat):Int:=(goL T t (ps.take n)).2
theorem tyA_zero (T:List Ty) (t:Int) (ps:List Pr):tyA T t ps 0=t:=rfl
theorem erA_zero (T:List Ty) (t:Int) (ps:List Pr):erA T t ps 0=0:=rfl
theorem plTake_snoc {l:List Pr} {k:Nat} {p:Pr} (h:l[k]?=some p):l.take (k+1)=l.take k++[p]:=by
 rw [List.take_add_one,h];rfl
theorem goA_up {T:List Ty} {t:Int} {ps:List Pr} {n:Nat} {p:Pr} (h:ps[n]?=some p):goL T t (ps.take (n+1))=if erA T t ps n=0 then stepT (tyGet T (tyA T t ps n)) p else (0,erA T t ps n):=by
 rw [plTake_snoc h,goL_snoc];rfl
theorem erA_up {T:List Ty} {t:Int} {ps:List Pr} {n:Nat} {p:Pr} (h:ps[n]?=some p) (h0:erA T t ps n=0):tyA T t ps (n+1)=(stepT (tyGet T (tyA T t ps n)) p).1∧erA T t ps (n+1)=(stepT (tyGet T (tyA T t ps n)) p).2:=by
 unfold tyA
 rw [show erA T t ps (n+1)=(goL T t (ps.take (n+1))).2 from rfl,goA_up h,if_pos h0]
 exact ⟨rfl,rfl⟩
theorem erA_stays {T:List Ty} {t:Int} {ps:List Pr} {n:Nat} (h:erA T t ps n≠0):∀ m,n≤m→goL T t (ps.take m)=(0,erA T t ps n)
 | 0,hm=>by
  obtain rfl:n=0:=by omega
  exact absurd (erA_zero T t ps) h
 | m+1,hm=>by
  have key:∀ k,n=k+1→goL T t (ps.take n)=(0,erA T t ps n):=by
   intro k hk
   subst hk
   cases hp:ps[k]? with
   | none=>
    have e:ps.take (k+1)=ps.take k:=by rw [List.take_of_length_le (by have:=List.getElem?_eq_none_iff.1 hp;omega),List.take_of_length_le (by have:=List.getElem?_eq_none_iff.1 hp;omega)]
    have e1:erA T t ps (k+1)=erA T t ps k:=by unfold erA;rw [e]
    have e2:=erA_stays (n:=k) (by rw [←e1];exact h) k (Nat.le_refl _)
    rw [e,e2,e1]
   | some p=>
    have e:=goA_up (T:=T) (t:=t) hp
    by_cases h0:erA T t ps k=0
    ·
     rw [if_pos h0] at e
     have e1:erA T t ps (k+1)=(stepT (tyGet T (tyA T t ps k)) p).2:=(erA_up hp h0).2
     rw [e,e1]
     exact stepT_err (by rw [←e1];exact h)
    ·
     rw [if_neg h0] at e
     have e1:erA T t ps (k+1)=erA T t ps k:=by show (goL T t (ps.take (k+1))).2=_;rw [e]
     rw [e,e1]
  rcases Nat.eq_or_lt_of_le hm with e | hlt
  ·
   exact e ▸ key m e
  ·
   have ih:=erA_stays h m (by omega)
   cases hp:ps[m]? with
   | none=>
    have e:ps.take (m+1)=ps.take m:=by rw [List.take_of_length_le (by have:=List.getElem?_eq_none_iff.1 hp;omega),List.take_of_length_le (by have:=List.getElem?_eq_none_iff.1 hp;omega)]
    rw [e,ih]
   | some p=>
    have e0:erA T t ps m=erA T t ps n:=by show (goL T t (ps.take m)).2=_;rw [ih]
    rw [goA_up hp,if_neg (by rw [e0];exact h),e0]
theorem goL_take_all (T:List Ty) (t:Int) (ps:List Pr):goL T t (ps.take ps.length)=goL T t ps:=by rw [List.take_length]
structure Stp (T:List Ty) (t:Int) (ps:List Pr) (n:Nat):Prop where
 le:n≤ps.length
 ok:erA T t ps n=0
theorem Stp.zero (T:List Ty) (t:Int) (ps:List Pr):Stp T t ps 0:=⟨Nat.zero_le _,erA_zero T t ps⟩
theorem Stp.down {T:List Ty} {t:Int} {ps:List Pr} {n m:Nat} (h:Stp T t ps n) (hm:m≤n):Stp T t ps m:=⟨by have:=h.le;omega,by
 by_cases h0:erA T t ps m=0
 ·
  exact h0
 ·
  have e:=erA_stays h0 n hm
  have:=h.ok
  unfold erA at this
  rw [e] at this
  exact absurd this h0⟩
theorem Stp.lt {T:List Ty} {r t:Int} {ps:List Pr} (hT:TyOk T r) (h0:0≤t) (h1:t < (T.length:Int)):∀ {n:Nat},Stp T t ps n→∃ (i:Nat) (u:Ty),tyA T t ps n=(i:Int)∧T[i]?=some u
 | 0,_=>⟨t.toNat,_,by rw [tyA_zero];omega,List.getElem?_eq_getElem (by omega)⟩
 | n+1,h=>by
  obtain ⟨i,u,hi,hu⟩:=Stp.lt hT h0 h1 (h.down (Nat.le_succ n))
  have hn:=h.le
  have hp:ps[n]?=some (ps[n]'(by omega)):=List.getElem?_eq_getElem (by omega)
  obtain ⟨e1,e2⟩:=erA_up (T:=T) (t:=t) hp (h.down (Nat.le_succ n)).ok
  rw [hi,tyGet_at hu] at e1 e2
  have hm:=stepT_part (t:=u) (p:=ps[n]'(by omega)) (by rw [←e2];exact h.ok)
  obtain ⟨q,v,hq,_,hv⟩:=hT.elem hu hm
  exact ⟨q,v,by rw [e1,hq],hv⟩
def refAt {α:Type} (G:List α) (T:List Ty) (t:Int) (ps:List Pr) (n:Nat):Option α:=match ps[n]? with
 | some p=>if p.1=0 then G[(tyA T t ps n).toNat]? else none
 | none=>none
def refTo {α:Type} (G:List α) (T:List Ty) (t:Int) (ps:List Pr) (n:Nat):List α:=(List.range n).filterMap (refAt G T t ps)
theorem refTo_up {α:Type} (G:List α) (T:List Ty) (t:Int) (ps:List Pr) (n:Nat):refTo G T t ps (n+1)=refTo G T t ps n++(refAt G T t ps n).toList:=by
 unfold refTo
 rw [List.range_succ,List.filterMap_append]
 congr 1
theorem refTo_yes {α:Type} {G:List α} {T:List Ty} {t:Int} {ps:List Pr} {n:Nat} {p:Pr} {x:α} (hp:ps[n]?=some p) (h0:p.1=0) {i:Nat} (hi:tyA T t ps n=(i:Int)) (hx:G[i]?=some x):refTo G T t ps (n+1)=refTo G T t ps n++[x]:=by
 rw [refTo_up]
 unfold refAt
 rw [hp]
 simp only [h0,if_true]
 rw [hi,Int.toNat_natCast,hx]
 rfl
theorem refTo_no {α:Type} {G:List α} {T:List Ty} {t:Int} {ps:List Pr} {n:Nat} (h:∀ p,ps[n]?=some p→p.1≠0):refTo G T t ps (n+1)=refTo G T t ps n:=by
 rw [refTo_up]
 unfold refAt
 cases hp:ps[n]? with
 | none=>simp
 | some p=>simp [h p hp]
theorem refTo_len {α:Type} (G:List α) (T:List Ty) (t:Int) (ps:List Pr) (n:Nat):(refTo G T t ps n).length≤n:=by
 unfold refTo
 have:=List.length_filterMap_le (refAt G T t ps) (List.range n)
 rwa [List.length_range] at this
theorem refTo_map {α:Type} (f:α→Ty) (G:List α) (t:Int) (ps:List Pr) (n:Nat):(refTo G (G.map f) t ps n).map f=refTo (G.map f) (G.map f) t ps n:=by
 unfold refTo
 rw [List.map_filterMap]
 congr 1
 funext k
 unfold refAt
 cases ps[k]? with
 | none=>rfl
 | some p=>by_cases h:p.1=0 <;> simp [h]
theorem refTo_mem {α:Type} {G:List α} {T:List Ty} {t:Int} {ps:List Pr} {n:Nat} {x:α} (h:x∈refTo G T t ps n):x∈G:=by
 unfold refTo at h
 obtain ⟨k,_,hk⟩:=List.mem_filterMap.1 h
 unfold refAt at hk
 split at hk
 ·
  split at hk
  ·
   exact List.mem_of_getElem? hk
  ·
   cases hk
 ·
  cases hk
def tyOfP (T:List Ty) (lc:List Int) (l:Int) (ps:List Pr):Int×Int:=
 if plErr l ps≠0 then (0,plErr l ps) else if l < (lc.length:Int) then goL T (lc.getD l.toNat 0) ps else (0,3)
theorem tyOfP_err {T:List Ty} {lc:List Int} {l:Int} {ps:List Pr} {e:Int} (h:plErr l ps=e) (he:e≠0):tyOfP T lc l ps=(0,e):=by
 unfold tyOfP;rw [h,if_pos he]
theorem tyOfP_out {T:List Ty} {lc:List Int} {l:Int} {ps:List Pr} (h:plErr l ps=0) (hl:¬l < (lc.length:Int)):tyOfP T lc l ps=(0,3):=by
 unfold tyOfP;rw [h,if_neg (by simp),if_neg hl]
theorem tyOfP_in {T:List Ty} {lc:List Int} {l:Int} {ps:List Pr} {k:Nat} {t:Int} (h:plErr l ps=0) (hk:l=(k:Int)) (ht:lc[k]?=some t):tyOfP T lc l ps=goL T t ps:=by
 have:=(List.getElem?_eq_some_iff.1 ht).1
 unfold tyOfP;rw [h,if_neg (by simp),if_pos (by omega),hk,Int.toNat_natCast,List.getD_eq_getElem?_getD,ht];rfl
def refP (T:List Ty) (lc:List Int) (l:Int) (ps:List Pr):List Ty:=if (tyOfP T lc l ps).2=0 then refTo T T (lc.getD l.toNat 0) ps ps.length else []
def mutP (T:List Ty) (lc:List Int) (l:Int) (ps:List Pr):Bool:=decide ((tyOfP T lc l ps).2=0) && (refP T lc l ps).all Ty.mut_
def regP (T:List Ty) (lc:List Int) (l:Int) (ps:List Pr):List Int:=(refP T lc l ps).map Ty.region
def LcOk (T:List Ty) (lc:List Int):Prop:=∀ t∈lc,0≤t∧t < (T.length:Int)
theorem tyOfP_zero {T:List Ty} {lc:List Int} {l:Int} {ps:List Pr} (h:(tyOfP T lc l ps).2=0):plErr l ps=0∧∃ (k:Nat) (t:Int),l=(k:Int)∧lc[k]?=some t∧tyOfP T lc l ps=goL T t ps:=by
 have h0:plErr l ps=0:=by
  by_cases h0:plErr l ps=0
  ·
   exact h0
  ·
   rw [tyOfP_err rfl h0] at h;exact absurd h h0
 have hl:l < (lc.length:Int):=by
  by_cases hl:l < (lc.length:Int)
  ·
   exact hl
  ·
   rw [tyOfP_out h0 hl] at h;cases h
 have:=(plErr_zero.1 h0).1
 have ht:lc[l.toNat]?=some (lc[l.toNat]'(by omega)):=List.getElem?_eq_getElem (by omega)
 exact ⟨h0,l.toNat,_,by omega,ht,tyOfP_in h0 (by omega) ht⟩
theorem hide {p:Prop} (h:p):Hid p:=h
def Rd (w:World) (B:Nat) (A:Option Addr) (n:Nat) (xs:List Value):Prop:=
 xs.length=n∧(0 < n→∃ b o,A=some ⟨b,o,none⟩∧b < B∧∀ j u,xs[j]?=some u→w.cell? ⟨b,o+j,none⟩=some u)
section
variable {w w':World} {B B' n:Nat} {A:Option Addr} {xs:List Value}
theorem Rd.nil (w:World) (B:Nat) (A:Option Addr):Rd w B A 0 []:=⟨rfl,fun h=>absurd h (by omega)⟩
theorem Rd.len (h:Rd w B A n xs):xs.length=n:=h.1
theorem Rd.cell (h:Rd w B A n xs) {k:Nat} {u:Value} (hu:xs[k]?=some u):∃ b o,A=some ⟨b,o,none⟩∧b < B∧w.cell? ⟨b,o+k,none⟩=some u:=by
 have hk:k < xs.length:=by
  rcases Nat.lt_or_ge k xs.length with h' | h'
  ·
   exact h'
  ·
   rw [List.getElem?_eq_none h'] at hu;cases hu
 obtain ⟨b,o,e,hb,hc⟩:=h.2 (by have:=h.1;omega)
 exact ⟨b,o,e,hb,hc k u hu⟩
theorem Rd.keep (h:Rd w B A n xs) (hk:∀ p:Addr,p.block < B→w'.cell? p=w.cell? p):Rd w' B A n xs:=
 ⟨h.1,fun hn=>by
  obtain ⟨b,o,e,hb,hc⟩:=h.2 hn
  exact ⟨b,o,e,hb,fun j u hu=>(hk _ hb).trans (hc j u hu)⟩⟩
theorem Rd.more (h:Rd w B A n xs) (hB:B≤B'):Rd w B' A n xs:=
 ⟨h.1,fun hn=>by
  obtain ⟨b,o,e,hb,hc⟩:=h.2 hn
  exact ⟨b,o,e,by omega,hc⟩⟩
theorem Rd.below (h:Rd w B A n xs) (hb:Below B w w'):Rd w' B A n xs:=h.keep fun _ hp=>hb.cell hp
theorem Rd.alloc (h:Rd w B A n xs) (hB:B≤w.heap.size) (o:Obj):Rd (w.alloc o) B A n xs:=h.keep fun p hp=>World.cell?_alloc_lt w o p (by omega)
theorem Rd.of_own {base:Nat} {e:TypeId} {c:Nat} (h:w.ownsRow base e 1 (.slice A n c) n xs):Rd w w.heap.size A n xs:=by
 have hl:xs.length=n:=by have:=h.1;omega
 refine ⟨hl,fun hn=>?_⟩
 obtain ⟨g,cap,hv,_,hlt⟩:=h.form hn
 have hA:A=some ⟨g,0,none⟩:=by injection hv
 subst hA
 refine ⟨g,0,rfl,hlt,fun j u hu=>?_⟩
 have:=h.cells (g:=g) rfl j u hu
 unfold Addr.add at this
 split at this <;> simp_all
theorem Rd.to_ (h:Rd w B A n xs) {k:Nat} (hk:k≤n):Rd w B A k (xs.take k):=by
 refine ⟨by rw [List.length_take,h.1];omega,fun hn=>?_⟩
 obtain ⟨b,o,rfl,hb,hcell⟩:=h.2 (by omega)
 refine ⟨b,o,rfl,hb,fun j u hu=>hcell j u ?_⟩
 rw [List.getElem?_take] at hu
 split at hu
 ·
  exact hu
 ·
  cases hu
end
theorem ownsRow_below {w w':World} {base:Nat} {e:TypeId} {size n:Nat} {v:Value} {xs:List Value} (h:w.ownsRow base e size v n xs) (hb:Below w.heap.size w w'):w'.ownsRow base e size v n xs:=by
 refine h.kept (row:=none) ⟨hb.os,hb.tape,hb.output,hb.size,fun i hi _=>hb.block i hi⟩ ?_
 rcases v.ownBlock with _ | k
 ·
  exact .inl rfl
 ·
  exact .inr (by simp)
theorem ownsRow_base {w:World} {base base':Nat} {e:TypeId} {size n:Nat} {v:Value} {xs:List Value} (h:w.ownsRow base e size v n xs) (hb:base'≤base):w.ownsRow base' e size v n xs:=by
 obtain ⟨h1,h2⟩:=h
 refine ⟨h1,?_⟩
 rcases h2 with h2 | ⟨g,cap,cur,hv,hg,r⟩
 ·
  exact .inl h2
 ·
  exact .inr ⟨g,cap,cur,hv,by omega,r⟩
abbrev u8s (xs:List Int):List Value:=xs.map (Value.int .u8)
def Byt (xs:List Int):Prop:=∀ x∈xs,0≤x∧x < 256
theorem Byt.nil:Byt []:=fun _ h=>by cases h
theorem Byt.cons {x:Int} {xs:List Int} (h0:0≤x) (h1:x < 256) (h:Byt xs):Byt (x :: xs):=fun y hy=>by
 rcases List.mem_cons.1 hy with rfl | hy
 ·
  exact ⟨h0,h1⟩
 ·
  exact h y hy
theorem Byt.append {xs ys:List Int} (h:Byt xs) (k:Byt ys):Byt (xs++ys):=fun y hy=>by
 rcases List.mem_append.1 hy with hy | hy
 ·
  exact h y hy
 ·
  exact k y hy
theorem Byt.at {xs:List Int} (h:Byt xs) {k:Nat} {x:Int} (hx:xs[k]?=some x):0≤x∧x < 256:=h x (List.mem_of_getElem? hx)
theorem Byt.take {xs:List Int} (h:Byt xs) (k:Nat):Byt (xs.take k):=fun y hy=>h y (List.mem_of_mem_take hy)
theorem Byt.drop {xs:List Int} (h:Byt xs) (k:Nat):Byt (xs.drop k):=fun y hy=>h y (List.mem_of_mem_drop hy)
theorem strOfNums_inj:∀ {xs ys:List Int},Byt xs→Byt ys→strOfNums xs=strOfNums ys→xs=ys:=by
 intro xs ys hx hy h
 have h1:xs.map (fun n=>UInt8.ofNat n.toNat)=ys.map (fun n=>UInt8.ofNat n.toNat):=by
  have:=congrArg (fun b:ByteArray=>b.data.toList) h
  simpa [strOfNums] using this
 clear h
 induction xs generalizing ys with
 | nil=>cases ys with
  | nil=>rfl
  | cons y ys=>simp at h1
 | cons x xs ih=>cases ys with
  | nil=>simp at h1
  | cons y ys=>
   simp only [List.map_cons,List.cons.injEq] at h1
   have a:=hx x (by simp)
   have b:=hy y (by simp)
   have e:x=y:=by
    have:=congrArg UInt8.toNat h1.1
    simp at this
    omega
   rw [e,ih (fun z hz=>hx z (by simp [hz])) (fun z hz=>hy z (by simp [hz])) h1.2]
def Cells {α:Type} (w:World) (B:Nat) (k:Nat) (f:α→List Value) (A:Option Addr) (n:Nat) (L:List α):Prop:=
 L.length=n∧(0 < n→∃ b o,A=some ⟨b,o,none⟩∧b < B∧∀ (i:Nat) (x:α),L[i]?=some x→∀ j u,(f x)[j]?=some u→w.cell? ⟨b,o+i*k+j,none⟩=some u)
theorem Cells.below {α:Type} {w w':World} {B k:Nat} {f:α→List Value} {A:Option Addr} {n:Nat} {L:List α} (h:Cells w B k f A n L) (hb:Below B w w'):Cells w' B k f A n L:=
 ⟨h.1,fun hn=>by
  obtain ⟨b,o,h1,h2,h3⟩:=h.2 hn
  exact ⟨b,o,h1,h2,fun i x hx j u hu=>(hb.cell (p:=⟨b,o+i*k+j,none⟩) h2).trans (h3 i x hx j u hu)⟩⟩
theorem Cells.more {α:Type} {w:World} {B B' k:Nat} {f:α→List Value} {A:Option Addr} {n:Nat} {L:List α} (h:Cells w B k f A n L) (hb:B≤B'):Cells w B' k f A n L:=
 ⟨h.1,fun hn=>by
  obtain ⟨b,o,h1,h2,h3⟩:=h.2 hn
  exact ⟨b,o,h1,by omega,h3⟩⟩
theorem Cells.at_ {α:Type} {w:World} {B k:Nat} {f:α→List Value} {A:Option Addr} {n:Nat} {L:List α} (h:Cells w B k f A n L) {i:Nat} {x:α} (hx:L[i]?=some x) :
  ∃ b o,A=some ⟨b,o,none⟩∧b < B∧∀ j u,(f x)[j]?=some u→w.cell? ⟨b,o+i*k+j,none⟩=some u:=by
 have hi:i < L.length:=by
  rcases Nat.lt_or_ge i L.length with h' | h'
  ·
   exact h'
  ·
   rw [List.getElem?_eq_none h'] at hx;cases hx
 obtain ⟨b,o,h1,h2,h3⟩:=h.2 (by have:=h.1;omega)
 exact ⟨b,o,h1,h2,h3 i x hx⟩
theorem flatMap_at {α:Type} {f:α→List Value} {k:Nat} (hk:∀ x,(f x).length=k):∀ {L:List α} {i:Nat} {x:α} {j:Nat},L[i]?=some x→j < k→(L.flatMap f)[i*k+j]?=(f x)[j]?
 | [],i,x,j,h,_=>by simp at h
 | y :: L,0,x,j,h,hj=>by
  simp at h
  subst h
  rw [List.flatMap_cons,Nat.zero_mul,Nat.zero_add,List.getElem?_append_left (by rw [hk];exact hj)]
 | y :: L,i+1,x,j,h,hj=>by
  have h':L[i]?=some x:=by simpa using h
  have ih:=flatMap_at hk h' hj
  have e:(i+1)*k+j=k+(i*k+j):=by rw [Nat.add_mul];omega
  rw [List.flatMap_cons,e,List.getElem?_append_right (by rw [hk];omega),hk,Nat.add_sub_cancel_left,ih]
theorem flatMap_len {α:Type} {f:α→List Value} {k:Nat} (hk:∀ x,(f x).length=k) (L:List α):(L.flatMap f).length=L.length*k:=by
 induction L with
 | nil=>simp
 | cons y L ih=>rw [List.flatMap_cons,List.length_append,ih,hk,List.length_cons,Nat.add_mul];omega
theorem Cells.of_own {α:Type} {w:World} {base k:Nat} {e:TypeId} {f:α→List Value} (hk:∀ x,(f x).length=k) (h0:0 < k) {A:Option Addr} {n c:Nat} {L:List α} (h:w.ownsRow base e k (.slice A n c) n (L.flatMap f)):Cells w w.heap.size k f A n L:=by
 have hl:L.length=n:=by
  have:=h.1
  rw [flatMap_len hk] at this
  exact Nat.eq_of_mul_eq_mul_right h0 this
 refine ⟨hl,fun hn=>?_⟩
 obtain ⟨g,cap,hv,_,hlt⟩:=h.form hn
 have hA:A=some ⟨g,0,none⟩:=by injection hv
 subst hA
 refine ⟨g,0,rfl,hlt,fun i x hx j u hu=>?_⟩
 have hj:j < k:=by
  rcases Nat.lt_or_ge j k with h' | h'
  ·
   exact h'
  ·
   rw [List.getElem?_eq_none (by rw [hk];exact h')] at hu;cases hu
 have:=h.cells (g:=g) rfl (i*k+j) u (by rw [flatMap_at hk hx hj];exact hu)
 unfold Addr.add at this
 split at this <;> simp_all
end Go.Proofs.YteeemjmohjkdpaaGreatDoor
