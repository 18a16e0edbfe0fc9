import Derived.WalkKit
import Derived.Below
import Derived.Laws.OwnMore
import Derived.Deep.AppendLies
import Derived.Deep.Draws
import Derived.Laws.BytesArg
import Derived.Lib.Bytes
import Derived.Laws.BitsLemmas
import Derived.RangeFuncBox
import Derived.OwnWalk
import Derived.Test.YtnkjbjkoffgocaaGreatDoorProg
import Derived.Laws.Rows
import Derived.Outline
import Derived.Deep.QuietTactic
import Derived.BigQuiet
import Derived.RangeFuncNested
import Derived.RangeFuncBound
import Derived.RangeFuncCalls
import Derived.RangeFuncLeaves
import Derived.RangeFuncWrites
import Derived.Deep.RegionHeld3
import Derived.OwnWalkIn
import Derived.OrdersIn
import Derived.Maps.OwnSet
set_option linter.unusedVariables false
set_option linter.unusedSimpArgs false
set_option maxRecDepth 100000
set_option maxHeartbeats 2000000
namespace Go.Proofs.YtnkjbjkoffgocaaGreatDoor
open Tryz Go.RowKit
theorem bB {P:Prop} (h:P:=by omega):P:=h
theorem eW {P:Prop} (h:P:=by decide):P:=h
theorem fL {P:Prop} (h:P:=by kernel_rfl):P:=h
theorem nF {P:Prop} (h:P:=by simp):P:=h
theorem Aa {a b c:World} (x:Below a.heap.size a b) (y:Below b.heap.size b c):Below a.heap.size a c:=x.trans (y.mono x.size)
abbrev Ab (a b:World):Prop:=Below a.heap.size a b
theorem Ac:(∀ (a:Act) (d:Tmp) (v:Value),a.put (some d) v={ a with tmps:=a.tmps.setIfInBounds d v })∧(∀ (a:Act) (v:Value),a.put none v=a)∧(∀ (l:List Value) (i:Nat) (x:Value),l.toArray.setIfInBounds i x=(l.set i x).toArray)∧(∀ (x y:Value) (l:List Value),(x::l).set 0 y=y::l)∧∀ (x y:Value) (l:List Value) (n:Nat),(x::l).set (n+1) y=x::l.set n y:=⟨fun _ _ _=>rfl,fun _ _=>rfl,fun _ _ _=>by simp,fun _ _ _=>rfl,fun _ _ _ _=>rfl⟩
abbrev Ad:=@List.getElem?_eq_getElem
abbrev Ae:=@Nat.le_refl
abbrev Ag:=@Array.getElem?_eq_some_iff
abbrev Ah:=@List.getElem?_eq_some_iff
abbrev Ai:=@Nat.le_trans
abbrev Aj:=@List.mem_of_getElem?
abbrev Ak:=@Go.World.size_alloc
abbrev Am:=@Nat.zero_le
abbrev An:=@List.mem_singleton
abbrev Ao:=@List.length_map
abbrev Ap:=@Nat.lt_of_lt_of_le
abbrev Aq:=@List.mem_append
abbrev Ar:=@List.getElem?_map
abbrev As:=@List.length_cons
abbrev Au:=@List.take_of_length_le
abbrev Av:=@List.mem_cons
abbrev Aw:=@List.length_append
abbrev Ay:=@Array.replicate_succ
abbrev Az:=@Array.replicate_zero
abbrev A3:=@Int.toNat_natCast
abbrev Ba:=@List.append_toArray
abbrev Bc:=@List.size_toArray
abbrev Bd:=@Go.World.news_of_block
abbrev Be:=@List.push_toArray
abbrev Bg:=@List.cons_append
abbrev Bh:=@List.getElem?_eq_none
abbrev Bj:=@List.nil_append
abbrev Bk:=@List.flatMap_append
abbrev Bm:=@List.take_add_one
abbrev Bn:=@List.getD_eq_getElem?_getD
abbrev Br:=@List.length_nil
abbrev Bs:=@Nat.lt_or_ge
abbrev Bu:=@List.eq_nil_of_length_eq_zero
abbrev Bv:=@Go.World.ownsRow_nil
abbrev Bw:=@List.mem_map
abbrev By:=@List.map_append
abbrev Bz:=@Go.KeepsOthers.setCell
abbrev B1:=@List.mem_range
abbrev B2:=@List.getElem?_of_mem
abbrev B3:=@Go.World.cell?_setCell_other
abbrev B4:=@List.getElem?_append_right
abbrev B5:=@List.append_nil
abbrev B7:=@Go.Maps.has_put_other
abbrev B8:=@Option.some.inj
abbrev B9:=@List.length_take
abbrev Ca:=@Nat.eq_zero_or_pos
abbrev Cb:=@List.all_eq_true
abbrev Cc:=@Nat.le_succ
abbrev Cd:=@List.not_mem_nil
abbrev Ce:=@Go.World.cell?_of_block
abbrev Cf:=@Go.World.putObj_heap_other
abbrev Cg:=@Nat.lt_irrefl
abbrev Ch:=@Int.natCast_nonneg
abbrev Ci:=@Go.Maps.atKey_put_other
abbrev Cj:=@List.mem_cons_of_mem
abbrev Cl:=@Nat.lt_trichotomy
abbrev Cm:=@Go.Maps.atKey_of_not_has
abbrev Cn:=@Go.Maps.atKey_put_same
abbrev Co:=@Nat.le_of_lt
abbrev Cp:=@List.getElem?_set
abbrev Cq:=@List.drop_eq_getElem_cons
abbrev Cr:=@List.getElem?_append_left
abbrev Cs:=@List.drop_of_length_le
abbrev Ct:=@List.flatMap_cons
abbrev Cu:=@Go.World.ownsMap_made
abbrev Cv:=@List.length_singleton
abbrev Cw:=@Nat.le_of_eq
abbrev Cx:=@List.mem_filter
abbrev Cy:=@Go.World.block_lt_of_cell?
abbrev Cz:=@Int.eq_ofNat_of_zero_le
abbrev C0:=@List.length_range
abbrev C2:=@List.append_assoc
abbrev C4:=@List.pairwise_iff_getElem
abbrev C6:=@List.map_cons
abbrev C7:=@Nat.le_add_right
abbrev C9:=@List.getElem?_toArray
abbrev Da:=@Go.Maps.has_put_same
abbrev Db:=@Go.World.size_setCell
abbrev Dc:=@List.countP_cons
abbrev Dd:=@Array.getElem?_eq_none
abbrev De:=@Go.IntKind.wrap_i64
abbrev Df:=@Decidable.byContradiction
abbrev Dg:=@Go.OwnFrom.and
abbrev Dh:=@List.filterMap_append
abbrev Di:=@Array.getElem?_modify
abbrev Dj:=@List.length_filterMap_le
abbrev Dk:=@Go.World.cell?_setCell_same
abbrev Dl:=@Nat.add_zero
abbrev Do:=@Go.Exit.noGoto_ret
abbrev Dp:=@List.getElem?_take
abbrev Dq:=@List.pairwise_cons
abbrev Dr:=@Nat.lt_succ_self
abbrev Dt:=@List.mem_flatMap
abbrev Du:=@Go.Boxed.new
abbrev Dv:=@Int.toNat_of_nonneg
abbrev Dw:=@Decidable.by_contra
abbrev Dx:=@List.range_succ
abbrev Dy:=@Array.getElem?_eq_getElem
abbrev Dz:=@List.take_length
abbrev D2:=@List.map_nil
abbrev D3:=@Nat.sub_self
abbrev D4:=@List.take_append_of_le_length
abbrev D5:=@Go.DataW.weights_mem_each
abbrev D6:=@List.length_filter_le
abbrev D7:=@List.getElem?_eq_none_iff
abbrev D8:=@Bool.eq_iff_iff
abbrev D9:=@List.length_set
abbrev Ea:=@Nat.zero_add
abbrev Eb:=@List.ext_getElem?
abbrev Ec:=@List.pairwise_map
abbrev Ed:=@Go.Own.from
abbrev Ee:=@List.mem_append_left
abbrev Ef:=@Go.World.cell?_alloc_lt
abbrev Eg:=@Nat.mul_le_mul_right
abbrev Eh:=@Prod.mk.injEq
abbrev Ei:=@List.eq_of_mem_replicate
abbrev Ej:=@List.getElem?_take_of_lt
abbrev Ek:=@List.countP_eq_zero
abbrev El:=@List.filterMap_cons
abbrev Em:=@List.any_eq_true
abbrev En:=@Bool.and_eq_true
abbrev Eo:=@Nat.mul_le_mul
abbrev Ep:=@Nat.exists_eq_add_of_le
abbrev Er:=@List.mem_filterMap
abbrev Es:=@Go.World.putObj_heap_same
abbrev Et:=@Array.getElem?_toList
abbrev Eu:=@List.set_append_right
abbrev Ev:=@Go.World.frozen?_setCell
abbrev Ew:=@Go.Result.andThen_ok
abbrev Ex:=@List.mem_of_mem_take
abbrev Ey:=@Nat.mul_one
abbrev Ez:=@Std.Legacy.Range.forIn_eq_forIn_range'
abbrev E0:=@Go.World.alloc_heap_new
abbrev E1:=@Classical.byContradiction
abbrev E2:=@List.mergeSort_perm
abbrev E3:=@Bool.true_and
abbrev E4:=@List.foldl_cons
abbrev E5:=@Nat.min_eq_left
abbrev E6:=@List.nodup_cons
abbrev E7:=@List.cons.injEq
abbrev E8:=@Nat.not_lt_zero
abbrev E9:=@Nat.add_mul
abbrev Fa:=@List.length_eq_zero_iff
abbrev Fb:=@List.foldl_append
abbrev Fc:=@Nat.zero_mul
abbrev Fd:=@Go.Sem.run_bind
abbrev Fe:=@List.pairwise_lt_range
abbrev Ff:=@List.nodup_nil
abbrev Fg:=@List.nodup_append
abbrev Fh:=@List.length_eq_one_iff
abbrev Fi:=@List.drop_eq_nil_of_le
abbrev Fj:=@List.take_append_drop
abbrev Fk:=@List.contains_iff_mem
abbrev Fl:=@Array.mem_of_getElem?
abbrev Fm:=@List.eq_nil_iff_forall_not_mem
abbrev Fn:=@Int.le_refl
abbrev Fo:=@Go.Maps.Keyed.of_law
abbrev Fp:=@Prod.ext
abbrev Fq:=@List.range_eq_range'
abbrev Fr:=@Int.natCast_mul
abbrev Fs:=@List.dropLast_concat_getLast
abbrev Ft:=@List.sum_append
abbrev Fu:=@Array.getElem?_setIfInBounds
abbrev Fv:=@Array.length_toList
abbrev Fw:=@List.map_map
abbrev Fx:=@List.map_set
abbrev Fy:=@List.take_take
abbrev Fz:=@Nat.eq_of_mul_eq_mul_right
abbrev F0:=@Nat.add_sub_cancel
abbrev F1:=@List.length_range'
abbrev F2:=@List.mem_cons_self
abbrev F3:=@List.getElem_range
abbrev F4:=@Option.isNone_none
abbrev F5:=@Option.isNone_some
abbrev F6:=@Go.DataW.trod_int
abbrev F7:=@Array.ext'
abbrev F8:=@List.take_zero
abbrev Ga:=@Array.toList_setIfInBounds
abbrev Gb:=@Go.World.grownBy.refl
abbrev Gc:=@Go.World.cell?_setCell_same'
abbrev Gd:=@List.getElem?_zip_eq_some
abbrev Ge:=@Decidable.not_not
abbrev Gf:=@Nat.le_succ_of_le
abbrev Gg:=@List.Pairwise.imp_of_mem
abbrev Gh:=@List.sum_cons
abbrev Gi:=@Go.DataW.trod_lt
abbrev Gj:=@List.getElem?_replicate
abbrev Gk:=@Bool.not_eq_true
abbrev Gl:=@List.map_toArray
abbrev Gm:=@List.pairwise_mergeSort
abbrev Gn:=@Nat.succ_le_succ
abbrev Gp:=@List.getElem?_set_self
abbrev Gq:=@Nat.lt_trans
abbrev Gr:=@Option.map_eq_some_iff
abbrev Gs:=@List.append_eq_nil_iff
abbrev Gt:=@Go.Value.int.injEq
abbrev Gu:=@List.countP_nil
abbrev Gv:=@Option.map_some
abbrev Gw:=@List.Pairwise.sublist
abbrev Gx:=@List.mem_append_right
abbrev Gy:=@List.take_left
abbrev Gz:=@Go.KeepsFrom.refl
abbrev G0:=@List.mapM_cons
abbrev G1:=@Bool.false_and
abbrev G2:=@Array.ext
abbrev G3:=@List.all_cons
abbrev G4:=@List.mapM_nil
abbrev G6:=@Ne.symm
abbrev G8:=@Nat.succ_pos
abbrev G9:=@Nat.succ_mul
abbrev Ha:=@Int.add_zero
structure Ty where
 kind:Int
 mut_:Bool
 region:Int
 elem:Int
 fields:List Int
theorem Ty.ext' {a b:Ty} (c:a.kind=b.kind) (d:a.mut_=b.mut_) (e:a.region=b.region) (f:a.elem=b.elem) (g:a.fields=b.fields):a=b:=by
 cases a;cases b;simp_all
instance instDecEqTy:DecidableEq Ty:=fun a b=>
 if h:a.kind=b.kind/\a.mut_=b.mut_/\a.region=b.region/\a.elem=b.elem/\a.fields=b.fields then .isTrue (Ty.ext' h.1 h.2.1 h.2.2.1 h.2.2.2.1 h.2.2.2.2)
 else .isFalse fun e=>h (by subst e;exact ⟨rfl,rfl,rfl,rfl,rfl⟩)
def EB (a b:Ty):Bool:=decide (a=b)
theorem WI {a b:Ty}:EB a b=true↔a=b:=by simp [EB]
def uG (t:Ty):List Int:=if t.kind=3 then [t.elem] else if t.kind=4 then t.fields else []
theorem xN {t:Ty} (h:t.kind=3):uG t=[t.elem]:=by unfold uG;rw [if_pos h]
theorem vY {t:Ty} (h:t.kind=4):uG t=t.fields:=by unfold uG;rw [if_neg bB,if_pos h]
theorem yP {t:Ty} (a:t.kind≠3) (b:t.kind≠4):uG t=[]:=by unfold uG;rw [if_neg a,if_neg b]
section
variable {α:Type}
def yT (f:List α->Ty->α) (l:List Ty):List α:=l.foldl (fun d t=>d++[f d t]) []
theorem rE (f:List α->Ty->α) (l:List Ty) (t:Ty):yT f (l++[t])=yT f l++[f (yT f l) t]:=by
 unfold yT;rw [Fb];rfl
theorem lZ (f:List α->Ty->α):∀ (l:List Ty) (d:List α),(l.foldl (fun d t=>d++[f d t]) d).length=d.length+l.length
 | [],d=>by simp
 | t :: l,d=>by rw [E4,lZ f l];simp;omega
theorem zN (f:List α->Ty->α) (l:List Ty):(yT f l).length=l.length:=by unfold yT;rw [lZ];simp
theorem cO {l:List Ty} {k:Nat} {t:Ty} (h:l[k]?=some t):l.take (k+1)=l.take k++[t]:=by
 rw [Bm,h];rfl
theorem fO (f:List α->Ty->α) (l:List Ty):∀ k,k<=l.length->yT f (l.take k)=(yT f l).take k:=by
 have a:∀ (m:List Ty) (d:List α),(m.foldl (fun d t=>d++[f d t]) d).take d.length=d:=by
  intro m
  induction m with
  | nil=>intro d;simp
  | cons t m c=>
    intro d;have:=congrArg (List.take d.length) (c (d++[f d t]));rw [Fy,E5 nF,Gy] at this;exact this
 have b:∀ (l m:List Ty),(yT f (l++m)).take l.length=yT f l:=by
  intro l m;have:=a m (yT f l);rw [zN] at this;unfold yT at this ⊢;rw [Fb];exact this
 intro k e;have:=b (l.take k) (l.drop k);rw [Fj,B9,E5 e] at this;exact this.symm
theorem sK (f:List α->Ty->α) {l:List Ty} {k:Nat} {t:Ty} (h:l[k]?=some t):(yT f l)[k]?=some (f (yT f (l.take k)) t):=by
 have b:k < l.length:=(Ah.1 h).1;have a:=fO f l (k+1) b;rw [cO h,rE] at a;have c:((yT f l).take (k+1))[k]?=(yT f l)[k]?:=by rw [Dp,if_pos bB]
 rw [<-c,<- a,B4 (by rw [zN];simp;omega)];rw [zN,B9,E5 bB];simp
theorem BB {d:List α} {k:Nat} {z:α} {p:Int} (a:0<=p) (b:p < (k:Int)):(d.take k).getD p.toNat z=d.getD p.toNat z:=by
 rw [Bn,Bn,Dp,if_pos bB]
end
def pO (d:List Int) (t:Ty):Int:=((uG t).map fun p=>d.getD p.toNat 0).foldl max 0+1
def wT (l:List Ty):List Int:=yT pO l
def JR (d:List Bool) (t:Ty):Bool:=if t.kind=3 then !t.mut_ else (uG t).all fun p=>d.getD p.toNat false
def XF (l:List Ty):List Bool:=yT JR l
def mK (l:List Ty) (i:Int):Int:=(wT l).getD i.toNat 0
def mF (l:List Ty) (i:Int):Bool:=(XF l).getD i.toNat false
inductive wO (l:List Ty):Int->Int->Prop
 | here (i:Nat) (t:Ty):l[i]?=some t->t.kind=3->wO l (i:Int) t.region
 | part (i:Nat) (t:Ty) (p r:Int):l[i]?=some t->p∈uG t->wO l p r->wO l (i:Int) r
def vD (i n:Int):Bool:=decide (0<=i) && decide (i < n)
theorem uW {i n:Int}:vD i n=true↔0<=i/\i < n:=by simp [vD]
theorem wP {i n:Int}:vD i n=false↔¬(0<=i/\i < n):=by rw [<-uW];simp
def wX (xs:List Int) (n:Int):Bool:=xs.all fun i=>vD i n
theorem mX {xs:List Int} {n:Int}:wX xs n=true↔∀ i∈xs,0<=i/\i < n:=by
 unfold wX;rw [Cb];exact ⟨fun h i a=>uW.1 (h i a),fun h i a=>uW.2 (h i a)⟩
def yB (t:Ty) (a b:Int):Int:=
 if t.kind < 0\/4 < t.kind then 14
 else if (t.kind≠3/\(t.mut_=true\/t.region≠0\/t.elem≠0))\/(t.kind≠4/\0 < t.fields.length) then 2
 else if (t.kind=3/\vD t.region b=false)\/wX (uG t) a=false then 3
 else if t.kind=4/\(t.fields.length=0\/65535 < t.fields.length) then 15
 else 0
def mA (pre:List Ty) (t:Ty) (a:Int):Int:=
 if yB t (pre.length:Int) a≠0 then yB t (pre.length:Int) a
 else if 32 < pO (wT pre) t then 19
 else if t∈pre then 21
 else 0
def aC (a:Int):List Ty->List Ty->Int
 | _,[]=>0
 | pre,t :: b=>if mA pre t a=0 then aC a (pre++[t]) b else mA pre t a
def xY (l:List Ty) (a:Int):Int:=if 65535 < l.length then 15 else aC a [] l
theorem AZ {l:List Ty} (h:65535 < l.length) (r:Int):xY l r=15:=by unfold xY;rw [if_pos h]
theorem rU {l:List Ty} (h:l.length<=65535) (r:Int):xY l r=aC r (l.take 0) (l.drop 0):=by unfold xY;rw [if_neg bB];simp
theorem jI {l:List Ty} {r:Int} {k:Nat} {t:Ty} (h:l[k]?=some t):aC r (l.take k) (l.drop k)=if mA (l.take k) t r=0 then aC r (l.take (k+1)) (l.drop (k+1)) else mA (l.take k) t r:=by
 have a:k < l.length:=(Ah.1 h).1;have e:l.drop k=t :: l.drop (k+1):=by
  rw [Cq a];rw [Ad a] at h;injection h with h;rw [h]
 rw [e,cO h];rfl
theorem rC {l:List Ty} {r:Int} {k:Nat} (h:l.length<=k):aC r (l.take k) (l.drop k)=0:=by
 rw [Cs h];cases l.take k <;> rfl
theorem CN {l:List Ty} {r:Int}:∀ (n k:Nat),l.length - k=n->k<=l.length->aC r (l.take k) (l.drop k)=0->∀ j t,k<=j->l[j]?=some t->mA (l.take j) t r=0
 | 0,k,f,g,_,j,t,i,a=>by
   have:=(Ah.1 a).1;omega
 | n+1,k,f,g,h,j,t,i,a=>by
   have c:∃ u,l[k]?=some u:=⟨_,Ad bB⟩;obtain ⟨u,e⟩:=c;rw [jI e] at h;by_cases b:mA (l.take k) u r=0
   ·rw [if_pos b] at h;rcases Bs k j with d | hge
    ·exact CN n (k+1) bB bB h j t d a
    ·obtain rfl:k=j:=by omega
     rw [e] at a;injection a with a;subst a;exact b
   ·rw [if_neg b] at h;exact absurd h b
theorem BH {l:List Ty} {r:Int}:∀ (n k:Nat),l.length - k=n->k<=l.length->(∀ j t,k<=j->l[j]?=some t->mA (l.take j) t r=0)->aC r (l.take k) (l.drop k)=0
 | 0,k,c,d,_=>rC bB
 | n+1,k,c,d,h=>by
   have a:∃ u,l[k]?=some u:=⟨_,Ad bB⟩;obtain ⟨u,b⟩:=a;rw [jI b,if_pos (h k u (Ae _) b)];exact BH n (k+1) bB bB fun j t e=>h j t bB
structure TyOk (l:List Ty) (r:Int):Prop where
 len:l.length<=65535
 err:∀ j t,l[j]?=some t->mA (l.take j) t r=0
theorem yM {l:List Ty} {r:Int}:xY l r=0↔TyOk l r:=by
 constructor
 ·intro h;have a:l.length<=65535:=by
   rcases Bs 65535 l.length with h' | h'
   ·rw [AZ h'] at h;cases h
   ·exact h'
  rw [rU a] at h;exact ⟨a,fun j t b=>CN _ 0 rfl (Am _) h j t (Am _) b⟩
 ·intro h;rw [rU h.len];exact BH _ 0 rfl (Am _) fun j t _=>h.err j t
theorem fE {t:Ty} {e r:Int}:yB t e r=0↔(0<=t.kind/\t.kind<=4)/\(t.kind≠3->t.mut_=false/\t.region=0/\t.elem=0)/\(t.kind≠4->t.fields=[])/\(t.kind=3->0<=t.region/\t.region < r)/\(∀ p∈uG t,0<=p/\p < e)/\(t.kind=4->1<=t.fields.length/\t.fields.length<=65535):=by
 unfold yB;by_cases o:t.kind < 0\/4 < t.kind
 ·rw [if_pos o];exact ⟨(fun h=>by cases h),fun h=>by have:=h.1;omega⟩
 rw [if_neg o];by_cases d:(t.kind≠3/\(t.mut_=true\/t.region≠0\/t.elem≠0))\/(t.kind≠4/\0 < t.fields.length)
 ·rw [if_pos d];refine ⟨(fun h=>by cases h),fun h=>?_⟩;obtain ⟨_,v,y,_⟩:=h;rcases d with ⟨f,h⟩ | ⟨i,h⟩
  ·obtain ⟨a,b,c⟩:=v f;rcases h with h | h | h
   ·rw [a] at h;cases h
   ·exact absurd b h
   ·exact absurd c h
  ·rw [y i] at h;cases h
 rw [if_neg d];have q:(t.kind≠3->t.mut_=false/\t.region=0/\t.elem=0)/\(t.kind≠4->t.fields=[]):=by
  refine ⟨fun f=>⟨?_,?_,?_⟩,fun i=>?_⟩
  ·cases hm:t.mut_
   ·rfl
   ·exact absurd (.inl ⟨f,.inl hm⟩) d
  ·by_cases h:t.region=0
   ·exact h
   ·exact absurd (.inl ⟨f,.inr (.inl h)⟩) d
  ·by_cases h:t.elem=0
   ·exact h
   ·exact absurd (.inl ⟨f,.inr (.inr h)⟩) d
  ·cases hf:t.fields with
   | nil=>rfl
   | cons x xs=>exact absurd (.inr ⟨i,by rw [hf];simp⟩) d
 by_cases g:(t.kind=3/\vD t.region r=false)\/wX (uG t) e=false
 ·rw [if_pos g];refine ⟨(fun h=>by cases h),fun h=>?_⟩;obtain ⟨_,_,_,s,z,_⟩:=h;rcases g with ⟨k,h⟩ | h
  ·exact absurd (s k) (wP.1 h)
  ·rw [mX.2 z] at h;cases h
 rw [if_neg g];have u:(t.kind=3->0<=t.region/\t.region < r)/\∀ p∈uG t,0<=p/\p < e:=by
  refine ⟨fun k=>?_,mX.1 ?_⟩
  ·cases h:vD t.region r
   ·exact absurd (.inl ⟨k,h⟩) g
   ·exact uW.1 h
  ·cases h:wX (uG t) e
   ·exact absurd (.inr h) g
   ·rfl
 by_cases m:t.kind=4/\(t.fields.length=0\/65535 < t.fields.length)
 ·rw [if_pos m];exact ⟨(fun h=>by cases h),fun h=>by have:=h.2.2.2.2.2 m.1;omega⟩
 rw [if_neg m];exact ⟨fun _=>⟨bB,q.1,q.2,u.1,u.2,fun s=>by omega⟩,fun _=>rfl⟩
theorem tN {pre:List Ty} {t:Ty} {r:Int}:mA pre t r=0↔yB t (pre.length:Int) r=0/\pO (wT pre) t<=32/\t∉pre:=by
 unfold mA;by_cases a:yB t (pre.length:Int) r=0
 ·rw [if_neg (by simp [a])];by_cases c:32 < pO (wT pre) t
  ·rw [if_pos c];exact ⟨(fun h=>by cases h),fun h=>by omega⟩
  ·rw [if_neg c];by_cases b:t∈pre
   ·rw [if_pos b];exact ⟨(fun h=>by cases h),fun h=>absurd b h.2.2⟩
   ·rw [if_neg b];exact ⟨fun _=>⟨a,bB,b⟩,fun _=>rfl⟩
 ·rw [if_pos a];exact ⟨fun h=>absurd h a,fun h=>absurd h.1 a⟩
namespace TyOk
variable {l:List Ty} {r:Int} (h:TyOk l r) {j:Nat} {t:Ty}
include h
theorem own (a:l[j]?=some t):(0<=t.kind/\t.kind<=4)/\(t.kind≠3->t.mut_=false/\t.region=0/\t.elem=0)/\(t.kind≠4->t.fields=[])/\(t.kind=3->0<=t.region/\t.region < r)/\(∀ p∈uG t,0<=p/\p < (j:Int))/\(t.kind=4->1<=t.fields.length/\t.fields.length<=65535):=by
 have b:=fE.1 (tN.1 (h.err j t a)).1;rw [B9,E5 (Co (Ah.1 a).1)] at b;exact b
theorem part (a:l[j]?=some t) {p:Int} (b:p∈uG t):0<=p/\p < (j:Int):=(h.own a).2.2.2.2.1 p b
theorem elem (a:l[j]?=some t) {p:Int} (b:p∈uG t):∃ (q:Nat) (u:Ty),p=(q:Int)/\q < j/\l[q]?=some u:=by
 obtain ⟨c,d⟩:=h.part a b;have e:=(Ah.1 a).1;exact ⟨p.toNat,_,bB,bB,Ad bB⟩
theorem fields (b:l[j]?=some t) (c:t.kind≠3):uG t=t.fields:=by
 by_cases a:t.kind=4
 ·exact vY a
 ·rw [yP c a,(h.own b).2.2.1 a]
theorem dep_at (a:l[j]?=some t):mK l (j:Int)=((uG t).map (mK l)).foldl max 0+1:=by
 have e:=sK pO a;unfold mK wT;rw [A3,Bn,e,Option.getD_some];unfold pO;congr 2;refine List.map_congr_left fun p b=>?_
 obtain ⟨c,d⟩:=h.part a b;rw [fO _ _ _ (Co (Ah.1 a).1),BB c d]
theorem cop_at (f:l[j]?=some t):mF l (j:Int)=if t.kind=3 then !t.mut_ else (uG t).all (mF l):=by
 have e:=sK JR f;unfold mF XF;rw [A3,Bn,e,Option.getD_some];have g:∀ d,JR d t=if t.kind=3 then !t.mut_ else (uG t).all fun p=>d.getD p.toNat false:=fun _=>rfl
 rw [g];by_cases b:t.kind=3
 ·rw [if_pos b,if_pos b]
 ·rw [if_neg b,if_neg b];rw [D8,Cb,Cb];have c:∀ p∈uG t,(yT JR (l.take j)).getD p.toNat false=(yT JR l).getD p.toNat false:=fun p c=>by
   obtain ⟨i,m⟩:=h.part f c;rw [fO _ _ _ (Co (Ah.1 f).1),BB i m]
  exact ⟨fun k p a=>by rw [<-c p a];exact k p a,fun k p a=>by rw [c p a];exact k p a⟩
end TyOk
theorem fH:∀ (xs:List Int) (m:Int),m<=xs.foldl max m/\(∀ x∈xs,x<=xs.foldl max m)/\(xs.foldl max m=m\/xs.foldl max m∈xs)
 | [],m=>⟨Fn _,(fun x hx=>by cases hx),.inl rfl⟩
 | y :: xs,m=>by
   obtain ⟨b,a,h3⟩:=fH xs (max m y);rw [E4];refine ⟨bB,fun x hx=>?_,?_⟩
   ·rcases Av.1 hx with rfl | hx
    ·omega
    ·exact a x hx
   ·rcases h3 with h3 | h3
    ·rw [h3];rcases Int.le_total m y with h | h
     ·right;rw [Int.max_eq_right h];simp
     ·left;rw [Int.max_eq_left h]
    ·right;simp [h3]
theorem TyOk.dep_pos {l:List Ty} {r:Int} (h:TyOk l r) {j:Nat} {t:Ty} (a:l[j]?=some t):1<=mK l (j:Int)/\mK l (j:Int)<=32/\∀ p∈uG t,mK l p+1<=mK l (j:Int):=by
 have e:=h.dep_at a;obtain ⟨f,b,_⟩:=fH ((uG t).map (mK l)) 0;refine ⟨bB,?_,fun p c=>by have:=b _ (List.mem_map_of_mem c);omega⟩;have g:=(tN.1 (h.err j t a)).2.1;have d:=sK pO a;have i:mK l (j:Int)=pO (wT (l.take j)) t:=by
  show (yT pO l).getD (j:Int).toNat 0=_;rw [A3,Bn,d];rfl
 omega
theorem TyOk.men_at {l:List Ty} {r:Int} (f:TyOk l r) {j:Nat} {t:Ty} (c:l[j]?=some t) (q:Int):wO l (j:Int) q↔(t.kind=3/\q=t.region)\/∃ p∈uG t,wO l p q:=by
 constructor
 ·intro b;generalize g:(j:Int)=z at b;cases b with
  | here i u a d=>
    obtain rfl:j=i:=by omega
    rw [c] at a;injection a with a;subst a;exact .inl ⟨d,rfl⟩
  | part i u p _ a e b=>
    obtain rfl:j=i:=by omega
    rw [c] at a;injection a with a;subst a;exact .inr ⟨p,e,b⟩
 ·rintro (⟨d,rfl⟩ | ⟨p,e,b⟩)
  ·exact .here j t c d
  ·exact .part j t p q c e b
theorem wO.bd {l:List Ty} {r:Int} (h:TyOk l r) {i q:Int} (b:wO l i q):0<=q/\q < r/\∃ t∈l,t.region=q:=by
 induction b with
 | here i t a c=>
   have:=(h.own a).2.2.2.1 c;exact ⟨this.1,this.2,t,Aj a,rfl⟩
 | part _ _ _ _ _ _ _ d=>exact d
def uHm (xs:List Int):Prop:=xs.Pairwise (· < ·)
theorem sT {xs:List Int} (h:xs.Pairwise (·<=·)) (c:xs.Nodup):uHm xs:=by
 refine (List.pairwise_and_iff.2 ⟨h,c⟩).imp ?_;rintro a b ⟨d,e⟩;omega
theorem pP {α:Type} [DecidableEq α]:∀ {l m:List α},l.Nodup->(∀ x∈l,x∈m)->l.length<=m.length
 | [],_,_,_=>Am _
 | x :: l,m,f,b=>by
   obtain ⟨g,a⟩:=E6.1 f;have c:=b x nF;have i:=pP (l:=l) (m:=m.erase x) a fun y d=>(List.mem_erase_of_ne (fun e=>by subst e;exact g d)).2 (b y (by simp [d]))
   rw [List.length_erase_of_mem c] at i;have:=List.length_pos_of_mem c;rw [As];omega
def Hdd (p:Prop):Prop:=p
theorem Hdd.o {p:Prop} (h:Hdd p):p:=h
theorem uA {p:Prop} (h:p):Hdd p:=h
def Rd (w:World) (B:Nat) (A:Option Addr) (n:Nat) (xs:List Value):Prop:=
 xs.length=n/\(0 < n->∃ b o,A=some ⟨b,o,none⟩/\b < B/\∀ j u,xs[j]?=some u->w.cell? ⟨b,o+j,none⟩=some u)
section
variable {w w':World} {B B' n:Nat} {A:Option Addr} {xs:List Value}
theorem Rd.nil (w:World) (B:Nat) (A:Option Addr):Rd w B A 0 []:=⟨rfl,fun h=>absurd h bB⟩
theorem Rd.len (h:Rd w B A n xs):xs.length=n:=h.1
theorem Rd.cell (h:Rd w B A n xs) {k:Nat} {u:Value} (a:xs[k]?=some u):∃ b o,A=some ⟨b,o,none⟩/\b < B/\w.cell? ⟨b,o+k,none⟩=some u:=by
 have f:k < xs.length:=by
  rcases Bs k xs.length with h' | h'
  ·exact h'
  ·rw [Bh h'] at a;cases a
 obtain ⟨b,o,e,c,d⟩:=h.2 (by have:=h.1;omega);exact ⟨b,o,e,c,d k u a⟩
theorem Rd.q (h:Rd w B A n xs) (k:Nat) {u:Value} (a:xs[k]?=some u):∃ b o,A=some ⟨b,o,none⟩/\b < B/\w.cell? ⟨b,o+k,none⟩=some u:=h.cell a
theorem Rd.keep (h:Rd w B A n xs) (c:∀ p:Addr,p.block < B->w'.cell? p=w.cell? p):Rd w' B A n xs:=
 ⟨h.1,fun d=>by
  obtain ⟨b,o,e,a,f⟩:=h.2 d;exact ⟨b,o,e,a,fun j u g=>(c _ a).trans (f j u g)⟩⟩
theorem Rd.more (h:Rd w B A n xs) (d:B<=B'):Rd w B' A n xs:=
 ⟨h.1,fun a=>by
  obtain ⟨b,o,e,f,c⟩:=h.2 a;exact ⟨b,o,e,bB,c⟩⟩
theorem Rd.below (h:Rd w B A n xs) (a:Below B w w'):Rd w' B A n xs:=h.keep fun _ b=>a.cell b
theorem Rd.of_own {base:Nat} {e:TypeId} {c:Nat} (h:w.ownsRow base e 1 (.slice A n c) n xs):Rd w w.heap.size A n xs:=by
 have b:xs.length=n:=by have:=h.1;omega
 refine ⟨b,fun d=>?_⟩;obtain ⟨g,f,i,_,a⟩:=h.form d;have k:A=some ⟨g,0,none⟩:=by injection i
 subst k;refine ⟨g,0,rfl,a,fun j u m=>?_⟩;have:=h.cells (g:=g) rfl j u m;unfold Addr.add at this
 split at this <;> simp_all
end
theorem uC {w w':World} {base:Nat} {e:TypeId} {a n:Nat} {v:Value} {xs:List Value} (h:w.ownsRow base e a v n xs) (b:Ab w w'):w'.ownsRow base e a v n xs:=by
 refine h.kept (row:=none) ⟨b.os,b.tape,b.output,b.size,fun i c _=>b.block i c⟩ ?_;rcases v.ownBlock with _ | k
 ·exact .inl rfl
 ·exact .inr nF
theorem uI {w:World} {base base':Nat} {e:TypeId} {a n:Nat} {v:Value} {xs:List Value} (h:w.ownsRow base e a v n xs) (k:base'<=base):w.ownsRow base' e a v n xs:=by
 obtain ⟨f,b⟩:=h;refine ⟨f,?_⟩;rcases b with b | ⟨g,c,d,i,m,r⟩
 ·exact .inl b
 ·exact .inr ⟨g,c,d,i,bB,r⟩
abbrev u8s (xs:List Int):List Value:=xs.map (Value.int .u8)
def Byt (xs:List Int):Prop:=∀ x∈xs,0<=x/\x < 256
theorem AI:∀ {xs c:List Int},Byt xs->Byt c->strOfNums xs=strOfNums c->xs=c:=by
 intro xs c g i h;have d:xs.map (fun n=>UInt8.ofNat n.toNat)=c.map (fun n=>UInt8.ofNat n.toNat):=by
  have:=congrArg (fun b:ByteArray=>b.data.toList) h;simpa [strOfNums] using this
 clear h
 induction xs generalizing c with
 | nil=>cases c with
   | nil=>rfl
   | cons y c=>simp at d
 | cons x xs k=>cases c with
   | nil=>simp at d
   | cons y c=>
     simp only [C6,E7] at d;have a:=g x nF;have b:=i y nF;have e:x=y:=by
      have:=congrArg UInt8.toNat d.1;simp at this;omega
     rw [e,k (fun z f=>g z (by simp [f])) (fun z f=>i z (by simp [f])) d.2]
theorem Rd.convert {P:Program} {w:World} {B n c:Nat} {A:Option Addr} {xs:List Int} (h:Rd w B A n (u8s xs)) (a e d:TypeId) (f:P.underlying a=some (.slice e)) (g:P.underlying e=some (.int .u8)) (k:P.underlying d=some .string) :
 (convert a d (.slice A n c)).run P w=.ok (.string (strOfNums xs)) w:=by
 have m:xs.length=n:=by simpa using h.1
 rcases Ca n with hn | hn
 ·subst hn;obtain rfl:xs=[]:=Bu m;rw [run_convert_bytes_string w a d e _ 0 c f g k];cases A <;> simp [Conv.bytesToString,loadCells];all_goals rfl
 ·obtain ⟨b,o,rfl,_,p⟩:=h.2 hn;refine run_convert_bytes_arg (P:=P) w a e f g b o n c xs m (fun i q=>p i _ ?_) d k;simp [List.getD,Ad (show i < xs.length by omega)]
def uM {α:Type} (w:World) (B:Nat) (k:Nat) (f:α->List Value) (A:Option Addr) (n:Nat) (L:List α):Prop:=
 L.length=n/\(0 < n->∃ b o,A=some ⟨b,o,none⟩/\b < B/\∀ (i:Nat) (x:α),L[i]?=some x->∀ j u,(f x)[j]?=some u->w.cell? ⟨b,o+i*k+j,none⟩=some u)
theorem uM.below {α:Type} {w w':World} {B k:Nat} {f:α->List Value} {A:Option Addr} {n:Nat} {L:List α} (h:uM w B k f A n L) (c:Below B w w'):uM w' B k f A n L:=
 ⟨h.1,fun d=>by
  obtain ⟨b,o,e,a,g⟩:=h.2 d;exact ⟨b,o,e,a,fun i x m j u q=>(c.cell (p:=⟨b,o+i*k+j,none⟩) a).trans (g i x m j u q)⟩⟩
theorem uM.more {α:Type} {w:World} {B B' k:Nat} {f:α->List Value} {A:Option Addr} {n:Nat} {L:List α} (h:uM w B k f A n L) (e:B<=B'):uM w B' k f A n L:=
 ⟨h.1,fun a=>by
  obtain ⟨b,o,c,g,d⟩:=h.2 a;exact ⟨b,o,c,bB,d⟩⟩
theorem uM.at_ {α:Type} {w:World} {B k:Nat} {f:α->List Value} {A:Option Addr} {n:Nat} {L:List α} (h:uM w B k f A n L) {i:Nat} {x:α} (a:L[i]?=some x) :
 ∃ b o,A=some ⟨b,o,none⟩/\b < B/\∀ j u,(f x)[j]?=some u->w.cell? ⟨b,o+i*k+j,none⟩=some u:=by
 have g:i < L.length:=by
  rcases Bs i L.length with h' | h'
  ·exact h'
  ·rw [Bh h'] at a;cases a
 obtain ⟨b,o,c,d,e⟩:=h.2 (by have:=h.1;omega);exact ⟨b,o,c,d,e i x a⟩
theorem zG {α:Type} {f:α->List Value} {k:Nat} (a:∀ x,(f x).length=k):∀ {L:List α} {i:Nat} {x:α} {j:Nat},L[i]?=some x->j < k->(L.flatMap f)[i*k+j]?=(f x)[j]?
 | [],i,x,j,h,_=>by simp at h
 | y :: L,0,x,j,h,b=>by
   simp at h;subst h;rw [Ct,Fc,Ea,Cr (by rw [a];exact b)]
 | y :: L,i+1,x,j,h,b=>by
   have c:L[i]?=some x:=(by simpa using h);have d:=zG a c b;have e:(i+1)*k+j=k+(i*k+j):=by rw [E9];omega
   rw [Ct,e,B4 (by rw [a];omega),a,Nat.add_sub_cancel_left,d]
theorem uU {α:Type} {f:α->List Value} {k:Nat} (a:∀ x,(f x).length=k) (L:List α):(L.flatMap f).length=L.length*k:=by
 induction L with
 | nil=>simp
 | cons y L b=>rw [Ct,Aw,b,a,As,E9];omega
theorem uM.of_own {α:Type} {w:World} {base k:Nat} {e:TypeId} {f:α->List Value} (a:∀ x,(f x).length=k) (m:0 < k) {A:Option Addr} {n c:Nat} {L:List α} (h:w.ownsRow base e k (.slice A n c) n (L.flatMap f)):uM w w.heap.size k f A n L:=by
 have o:L.length=n:=by
  have:=h.1;rw [uU a] at this;exact Fz m this
 refine ⟨o,fun p=>?_⟩;obtain ⟨g,q,s,_,b⟩:=h.form p;have v:A=some ⟨g,0,none⟩:=by injection s
 subst v;refine ⟨g,0,rfl,b,fun i x y j u d=>?_⟩;have z:j < k:=by
  rcases Bs j k with h' | h'
  ·exact h'
  ·rw [Bh (by rw [a];exact h')] at d;cases d
 have:=h.cells (g:=g) rfl (i*k+j) u (by rw [zG a y z];exact d);unfold Addr.add at this
 split at this <;> simp_all
abbrev vC (xs:List Int):List Value:=xs.map (Value.int .i64)
def uH (x:Int):Prop:=-9223372036854775808<=x/\x<=9223372036854775807
theorem aW {x:Int} (h:uH x):(Lit.int .i64 x).wf=true:=by
 simp [Lit.wf,IntKind.min,IntKind.max,IntKind.signed,IntKind.bits];exact h
theorem qY:(prog.info? 3).map (fun i=>(i.zero,i.size,i.bytes))=some (some (.int .i64 0),1,8):=by kernel_rfl
structure TyW where
 t:Ty
 A:Option Addr
 n:Nat
 c:Nat
structure TyW.ok (x:TyW):Prop where
 nc:x.n<=x.c
 cm:x.c<=maxLen
 len:x.t.fields.length=x.n
 k:uH x.t.kind
 r:uH x.t.region
 e:uH x.t.elem
 f:∀ y∈x.t.fields,uH y
def c5 (x:TyW):List Value:=[.int .i64 x.t.kind,.bool x.t.mut_,.int .i64 x.t.region,.int .i64 x.t.elem,.slice x.A x.n x.c]
abbrev xU (x:TyW):Value:=.agg #[.int .i64 x.t.kind,.bool x.t.mut_,.int .i64 x.t.region,.int .i64 x.t.elem,.slice x.A x.n x.c]
theorem VJ (x:TyW):(c5 x).length=5:=rfl
theorem uHq (x:TyW):∀ u∈c5 x,u.oneCell'=true:=by intro u a;simp only [c5,Av,Cd,or_false] at a;rcases a with rfl | rfl | rfl | rfl | rfl <;> rfl
structure wF (w:World) (B:Nat) (x:TyW):Prop where
 ok:x.ok
 rd:Rd w B x.A x.n (vC x.t.fields)
theorem wF.below {w w':World} {B:Nat} {x:TyW} (h:wF w B x) (a:Below B w w'):wF w' B x:=⟨h.ok,h.rd.below a⟩
theorem wF.more {w:World} {B B':Nat} {x:TyW} (h:wF w B x) (a:B<=B'):wF w B' x:=⟨h.ok,h.rd.more a⟩
structure yH (w:World) (B:Nat) (A:Option Addr) (n:Nat) (L:List TyW):Prop where
 cells:uM w B 5 c5 A n L
 one:∀ x∈L,wF w B x
theorem yH.below {w w':World} {B:Nat} {A:Option Addr} {n:Nat} {L:List TyW} (h:yH w B A n L) (a:Below B w w'):yH w' B A n L:=⟨h.cells.below a,fun x b=>(h.one x b).below a⟩
theorem yH.more {w:World} {B B':Nat} {A:Option Addr} {n:Nat} {L:List TyW} (h:yH w B A n L) (a:B<=B'):yH w B' A n L:=⟨h.cells.more a,fun x b=>(h.one x b).more a⟩
theorem yH.len {w:World} {B:Nat} {A:Option Addr} {n:Nat} {L:List TyW} (h:yH w B A n L):L.length=n:=h.cells.1
theorem yH.at_ {w:World} {B:Nat} {A:Option Addr} {n:Nat} {L:List TyW} (h:yH w B A n L) {i:Nat} {x:TyW} (c:L[i]?=some x) :
 ∃ b o,A=some ⟨b,o,none⟩/\b < B/\wF w B x/\w.cell? ⟨b,o+i*5,none⟩=some (.int .i64 x.t.kind)/\w.cell? ⟨b,o+i*5+1,none⟩=some (.bool x.t.mut_) /\
   w.cell? ⟨b,o+i*5+2,none⟩=some (.int .i64 x.t.region)/\w.cell? ⟨b,o+i*5+3,none⟩=some (.int .i64 x.t.elem)/\w.cell? ⟨b,o+i*5+4,none⟩=some (.slice x.A x.n x.c):=by
 obtain ⟨b,o,d,e,a⟩:=h.cells.at_ c;exact ⟨b,o,d,e,h.one x (Aj c),a 0 _ rfl,a 1 _ rfl,a 2 _ rfl,a 3 _ rfl,a 4 _ rfl⟩
abbrev tys (L:List TyW):List Ty:=L.map TyW.t
theorem nK {L:List TyW} {k:Nat} {x:TyW} (h:L[k]?=some x):(tys L)[k]?=some x.t:=by rw [Ar,h];rfl
theorem zE (L:List TyW):(tys L).length=L.length:=Ao _
theorem bH {L:List TyW} {k:Nat} {t:Ty} (h:(tys L)[k]?=some t):∃ x,L[k]?=some x/\x.t=t:=by
 rw [Ar] at h;cases hx:L[k]? with
 | none=>rw [hx] at h;cases h
 | some x=>rw [hx] at h;exact ⟨x,rfl,by injection h⟩
theorem Rd.int {w:World} {B n:Nat} {A:Option Addr} {xs:List Int} (h:Rd w B A n (vC xs)) {k:Nat} {x:Int} (a:xs[k]?=some x):∃ b o,A=some ⟨b,o,none⟩/\b < B/\w.cell? ⟨b,o+k,none⟩=some (.int .i64 x):=
 h.cell (by rw [Ar,a];rfl)
theorem Rd.ilen {w:World} {B n:Nat} {A:Option Addr} {xs:List Int} (h:Rd w B A n (vC xs)):xs.length=n:=by have:=h.len;simpa using this
theorem tyN {B:Nat} {w w':World} (h:Below B w w') (n:Nat):Below B w (w'.drewN n):=⟨h.os,h.tape,h.output,h.size,h.block⟩
def FL (xs ys:List Int):Bool:=decide (xs=ys)
theorem gX {xs ys:List Int}:FL xs ys=true↔xs=ys:=by simp [FL]
def uAv (xs ys:List Int) (k:Nat):Prop:=∀ j,j < k->xs[j]?=ys[j]?
theorem uCx (A B:Option Addr) (n m c d:Nat) (xs ys:List Int) (w:World) (k l:Nat) (G:Rd w k A n (vC xs)) (H:Rd w l B m (vC ys)) (U:n<=maxLen) (V:m<=maxLen) :
 Calls prog 271 #[.slice A n c,.slice B m d] w fun e w'=>e=.returned (.bool (FL xs ys))/\Ab w w':=by
 have q:=G.ilen;have s:=H.ilen;have X:=uA G;have Y:=uA H;have y:=uA q;have z:=uA s;unfold maxLen at U V;clear G H;by_cases I:n=m
 ·subst I;clear q s;go_enter func271,ntmps271
  go_wp2;go_loopw [13] (fun i wr=>∃ j:Nat,i=.int .i64 (j:Int)/\j<=n/\Hdd (uAv xs ys j)/\Ab w wr/\(∀ p,wr.cell? p=w.cell? p)) (fun i _=>n - (intOf i).toNat)
  case atStart=>exact ⟨0,rfl,Am _,fun j h=>absurd h bB,Below.refl _ _,fun _=>rfl⟩
  case round=>
   obtain ⟨j,rfl,hj,M,x,N⟩:=hrel;have J:=uA x;have O:=uA N;clear x N;by_cases Z:j < n
   ·have u:∃ a,xs[j]?=some a:=⟨_,Ad (by have:=y.o;omega)⟩;obtain ⟨a,K⟩:=u;have u:∃ a,ys[j]?=some a:=⟨_,Ad (by have:=z.o;omega)⟩;obtain ⟨b,x⟩:=u;obtain ⟨g,o,rfl,_,c0⟩:=X.o.int K;obtain ⟨g',o',rfl,_,c1⟩:=Y.o.int x;rw [<-O.o] at c0 c1;have R:(j:Int) < (n:Int):=bB;have C:=uA K;have D:=uA x;clear K x;by_cases f:a=b
    ·subst f;have T:((a:Int) != (a:Int))=false:=nF;have L:Hdd (uAv xs ys (j+1)):=fun i hi=>by
      rcases Bs i j with h | h
      ·exact M.o i h
      ·obtain rfl:i=j:=by omega
       rw [C.o,D.o]
     go_wp2;go_quiet (fail)
     go_wp2;go_roundw
     case rel=>exact ⟨j+1,by go_num,bB,L.o,tyN J.o _,O.o⟩
     case measure=>simp [intOf];omega
    ·have T:((a:Int) != (b:Int))=true:=(by simp [f]);have E:=uA (show FL xs ys=false by
      cases h:FL xs ys
      ·rfl
      ·rw [gX] at h;subst h;have F:=C.o;rw [D.o] at F;injection F with F;exact absurd F.symm f)
     clear f;go_wp2;go_quiet (fail)
     go_wp2;go_ret;exact ⟨congrArg (fun v=>Ending.returned (.bool v)) E.o.symm,tyN J.o _⟩
   ·obtain rfl:j=n:=by omega
    have E:=uA (show FL xs ys=true by
     rw [gX];refine Eb fun i=>?_
     rcases Bs i j with h | h
     ·exact M.o i h
     ·rw [Bh (by have:=y.o;omega),Bh (by have:=z.o;omega)])
    go_wp2;go_ret;exact ⟨congrArg (fun v=>Ending.returned (.bool v)) E.o.symm,J.o⟩
 ·have T:((n:Int) != (m:Int))=true:=by simp;omega
  have E:=uA (show FL xs ys=false by
   cases h:FL xs ys
   ·rfl
   ·rw [gX] at h;subst h;omega)
  clear q s;go_enter func271,ntmps271
  go_wp2;go_ret;exact ⟨congrArg (fun v=>Ending.returned (.bool v)) E.o.symm,Below.refl _ _⟩
def vQ (n₀:Nat) (Ts:List TypeId) (W W':World):Prop:=Below n₀ W W'/\∀ (t:TypeId) (B:Nat) (a:Array Value) (b:Nat×Nat),t∈Ts->W.heap[B]?=some (.cells a t b)->W'.heap[B]?=some (.cells a t b)
section
variable {n₀:Nat} {Ts:List TypeId} {W W' W'':World}
theorem vQ.refl (n₀:Nat) (Ts:List TypeId) (W:World):vQ n₀ Ts W W:=⟨Below.refl _ _,fun _ _ _ _ _ h=>h⟩
theorem vQ.trans (h:vQ n₀ Ts W W') (k:vQ n₀ Ts W' W''):vQ n₀ Ts W W'':=⟨h.1.trans k.1,fun t B a b c d=>k.2 t B a b c (h.2 t B a b c d)⟩
theorem vQ.of_below (h:Ab W W') (b:n₀<=W.heap.size):vQ n₀ Ts W W':=⟨h.mono b,fun t B c d _ a=>(h.block B (Ag.1 a).1).trans a⟩
theorem vQ.grown {row:Option Nat} (d:W.grownBy W' row) (i:n₀<=W.heap.size) (a:∀ k,row=some k->n₀<=k/\∃ f t g,W.heap[k]?=some (.cells f t g)/\t∉Ts):vQ n₀ Ts W W':=
 ⟨(Below.refl n₀ W).grown d i (fun k e=>(a k e).1),fun t B f g m c=>(d.block B (Ag.1 c).1 (fun e=>by
   obtain ⟨_,o,s,p,b,q⟩:=a B e.symm;rw [c] at b;injection b with b;injection b with _ b _;exact q (b ▸ m))).trans c⟩
theorem vQ.box {B:Nat} {t:TypeId} {v:Value} (h:Boxed W B t v) (a:n₀<=B) (c:t∉Ts) (b:Value):vQ n₀ Ts W (W.setCell ⟨B,0,none⟩ b):=
 vQ.grown (grownBy_setCell' W B b) (Ai a (Co h.lt)) (fun k e=>by cases e;exact ⟨a,_,_,_,h,c⟩)
theorem vQ.row {base k n:Nat} {e:TypeId} {v:Value} {xs:List Value} (d:W.grownBy W' v.ownBlock) (a:W.ownsRow base e k v n xs) (f:n₀<=base) (i:n₀<=W.heap.size) (m:e∉Ts):vQ n₀ Ts W W':=
 vQ.grown d i (fun q b=>by
  refine ⟨Ai f (a.lt q b).1,?_⟩;rcases a.2 with ⟨rfl,_⟩ | ⟨g,o,p,rfl,_,c,_⟩
  ·cases b
  ·have:g=q:=by simpa [Value.ownBlock] using b
   subst this;exact ⟨_,_,_,c,m⟩)
theorem QA {A B C:World} (h:vQ n₀ Ts A B) (k:vQ n₀ Ts B C):vQ n₀ Ts A C:=h.trans k
theorem FT {w:World} (d:n₀<=w.heap.size) (W:World) (l:Nat) (o b:Obj) (f:w.heap.size<=l) (h:W.heap[l]?=some o) (c:o.isCells=false) (g:o.isWalk=false):vQ n₀ Ts W (W.putObj l b):=
 ⟨belowK_b d W l o b f h c g,fun t B i k m a=>((grownBy_putObj' W l b).block B (Ag.1 a).1 (fun e=>by
  injection e with e;subst e;rw [h] at a;injection a with a;subst a;cases c)).trans a⟩
end
theorem bY {W W':World} (h:Ab W W'):W.grownBy W' none:=⟨h.os,h.tape,h.output,h.size,fun k a _=>h.block k a⟩
theorem uE {W:World} {B:Nat} {cs:Array Value} {t:TypeId} {a:Nat×Nat} (h:W.heap[B]?=some (.cells cs t a)) (j:Nat):W.cell? ⟨B,j,none⟩=cs[j]?:=cell_of_row W B j cs t a h
section
variable {P:Program} {l n:Nat} {Q:Exit->Act->World->Prop}
theorem uC6 {row:String} {args:Array Value} {w:World} {R:Value->World->Prop} (h:Rows P row args w R):RowsIn (Fence.wide.inRound l) n P row args w R:=fun c a _=>by
 obtain ⟨v,w',b,d⟩:=h c a;exact ⟨v,w',b,stepsIn_wide.2 d⟩
theorem uB2 {o:Oper} {a:Act} {w:World} {K:Act->World->Prop} (e:∀ c,o.op≠.defer c) (h:o.wp P a w K Q):o.wpIn (Fence.wide.inRound l) n P a w K Q:=by
 refine ⟨fun _ _=>trivial,?_⟩;rw [Oper.semAt_plain _ _ _ e];unfold Oper.wp at h;generalize (execOp a.eval o).run P w=r at *;rcases r with ⟨x,w'⟩ | ⟨x,w'⟩
 ·cases x with
  | value v=>exact h
  | skip=>exact h
  | defer d=>exact h
  | enter f b=>exact ⟨(fun g=>by cases g),CallsIn.inRound l (callsIn_wide.2 h)⟩
  | row r b=>exact ⟨(fun g=>by cases g),uC6 h⟩
  | round l f tmps assign body=>exact (h:False).elim
  | _=>exact (h:False).elim
 ·cases x with
  | panic v=>exact h
  | _=>exact (h:False).elim
def lE (a:Array Oper):Bool:=a.all fun o=>match o.op with | .defer _=>false | _=>true
theorem NG {a:Array Oper} (h:lE a=true) {i:Nat} {o:Oper} (d:a[i]?=some o):∀ c,o.op≠.defer c:=by
 intro c e;unfold lE at h;rw [Array.all_eq_true] at h;obtain ⟨b,f⟩:=Ag.1 d;have:=h i b;rw [f,e] at this;cases this
theorem fX {k:Region.Mode} {d:Array Oper} (e:lE d=true) (f:¬LetsOut Q):∀ (fuel:Nat) (b:Array Bool) (a:Act) (w:World),wpAny P k d Q fuel b a w->wpAnyIn (Fence.wide.inRound l) n P k d Q fuel b a w
 | 0,_,_,_,h=>h
 | fuel+1,b,a,w,h=>⟨h.1,fun i m=>by
   have c:=h.2 i m;unfold wpOp at c;unfold wpOpIn;rcases ho:d[i]? with _ | o
   ·rw [ho] at c;exact fX e f fuel _ _ _ c
   ·rw [ho] at c;simp only [] at c ⊢
    split
    ·rename_i g;rw [if_pos g] at c;rcases c with c | ⟨_,c⟩
     ·exact uB2 (NG e ho) (Oper.wp_mono (fun p w' q=>fX e f fuel _ p w' q) c)
     ·exact absurd c f
    ·rename_i g;rw [if_neg g] at c;exact ⟨fun _ _=>trivial,fX e f fuel _ _ _ c⟩⟩
theorem nZ {S:World->Prop} {id:Nat} {b:Array Oper} {a:Act} {w:World} (d:P.follows .mixedOrders=true) (c:lE b=true) (e:¬LetsOut Q) (f:S w.drew)
 (h:S w.drew->wpAnyH P .any b Q S b.size (Array.replicate b.size false) a w.drew):(Code.region id b true).wpIn (Fence.wide.inRound l) n P Q a w:=
 wpIn_region_any d (fX c e _ _ _ _ (wpAny_of_held _ _ _ _ (h f)))
end
theorem uB (w:World) (o:Obj):Ab w (w.alloc o):=(Below.refl w.heap.size w).alloc (Ae _) o
theorem wR {w w':World} {cs:List Value} {T:TypeId} (h:Ab (w.alloc (.cells cs.toArray T)) w'):∀ (j:Nat) (u:Value),cs[j]?=some u->w'.cell? ⟨w.heap.size,j,none⟩=some u:=fun j u a=>by
 have b:=(h.block w.heap.size nF).trans (heap_alloc_new w (.cells cs.toArray T));exact (uE b j).trans (by rw [C9];exact a)
theorem PN {w w':World} {a b:Value} {T:TypeId} (h:Ab (w.alloc (.cells #[a,b] T)) w'):w'.cell? ⟨w.heap.size,0,none⟩=some a/\w'.cell? ⟨w.heap.size,1,none⟩=some b:=by
 have c:=wR (cs:=[a,b]) h;exact ⟨c 0 _ rfl,c 1 _ rfl⟩
theorem uAg {w w':World} {a b d e f g:Value} {T:TypeId} (h:Ab (w.alloc (.cells #[a,b,d,e,f,g] T)) w'):w'.cell? ⟨w.heap.size,0,none⟩=some a/\w'.cell? ⟨w.heap.size,1,none⟩=some b/\w'.cell? ⟨w.heap.size,2,none⟩=some d/\w'.cell? ⟨w.heap.size,3,none⟩=some e/\w'.cell? ⟨w.heap.size,4,none⟩=some f/\w'.cell? ⟨w.heap.size,5,none⟩=some g:=by
 have c:=wR (cs:=[a,b,d,e,f,g]) h;exact ⟨c 0 _ rfl,c 1 _ rfl,c 2 _ rfl,c 3 _ rfl,c 4 _ rfl,c 5 _ rfl⟩
theorem xB {w w':World} {a b d e f g i:Value} {T:TypeId} (h:Ab (w.alloc (.cells #[a,b,d,e,f,g,i] T)) w'):w'.cell? ⟨w.heap.size,0,none⟩=some a/\w'.cell? ⟨w.heap.size,1,none⟩=some b/\w'.cell? ⟨w.heap.size,2,none⟩=some d/\w'.cell? ⟨w.heap.size,3,none⟩=some e/\w'.cell? ⟨w.heap.size,4,none⟩=some f/\w'.cell? ⟨w.heap.size,5,none⟩=some g/\w'.cell? ⟨w.heap.size,6,none⟩=some i:=by
 have c:=wR (cs:=[a,b,d,e,f,g,i]) h;exact ⟨c 0 _ rfl,c 1 _ rfl,c 2 _ rfl,c 3 _ rfl,c 4 _ rfl,c 5 _ rfl,c 6 _ rfl⟩
theorem rJ (w:World) (a b c d e f:Value) (T:TypeId):(w.alloc (.cells #[a,b,c,d,e,f] T)).cell? ⟨w.heap.size,0,none⟩=some a/\(w.alloc (.cells #[a,b,c,d,e,f] T)).cell? ⟨w.heap.size,1,none⟩=some b/\(w.alloc (.cells #[a,b,c,d,e,f] T)).cell? ⟨w.heap.size,2,none⟩=some c/\(w.alloc (.cells #[a,b,c,d,e,f] T)).cell? ⟨w.heap.size,3,none⟩=some d/\(w.alloc (.cells #[a,b,c,d,e,f] T)).cell? ⟨w.heap.size,4,none⟩=some e/\(w.alloc (.cells #[a,b,c,d,e,f] T)).cell? ⟨w.heap.size,5,none⟩=some f:=uAg (Below.refl _ _)
theorem BA (w:World) (o p:Obj):Ab w ((w.alloc o).alloc p):=((Below.refl _ _).alloc (Ae _) _).alloc nF _
theorem lJ {a b:Ty} (h:a≠b):EB a b=false:=by simp [EB,h]
theorem uEk (x y:TyW) (w:World) (H:wF w w.heap.size x) (I:wF w w.heap.size y) :
 Calls prog 254 #[xU x,xU y] w fun e w'=>e=.returned (.bool (EB x.t y.t))/\Ab w w':=by
 obtain ⟨⟨k,m,r,o,E⟩,A,n,c⟩:=x;obtain ⟨⟨p,q,s,d,f⟩,L,J,M⟩:=y;have C:=uA (BA w (.cells #[.int .i64 k,.bool m,.int .i64 r,.int .i64 o,.slice A n c] 123) (.cells #[.int .i64 p,.bool q,.int .i64 s,.int .i64 d,.slice L J M] 123));have O:=uA (H.rd.below C.o);have R:=uA (I.rd.below C.o);have g:n<=maxLen:=Ai H.ok.nc H.ok.cm;have i:J<=maxLen:=Ai I.ok.nc I.ok.cm;clear H I;by_cases u:k=p
 ·have T:(k == p)=true:=beq_iff_eq.2 u;by_cases D:m=q
  ·have U:(m == q)=true:=beq_iff_eq.2 D;by_cases F:r=s
   ·have V:(r == s)=true:=beq_iff_eq.2 F;by_cases G:o=d
    ·have X:(o == d)=true:=beq_iff_eq.2 G;have z:Hdd (EB ⟨k,m,r,o,E⟩ ⟨p,q,s,d,f⟩=FL E f):=by
      show _=_;rw [D8,WI,gX,u,D,F,G];simp
     have Y:=uA (uCx A L n J c M E f _ _ _ O.o R.o g i);clear u D F G g i;go_enter func254,ntmps254
     go_wp2_with fail
     refine Y.o.mono ?_;rintro e Z ⟨rfl,N⟩;have K:=uA (Aa C.o N);clear N;go_wp2_with fail
     go_ret;exact ⟨congrArg (fun v=>Ending.returned (.bool v)) z.o.symm,K.o⟩
    ·have X:(o == d)=false:=beq_eq_false_iff_ne.2 G;have z:=uA (lJ (a:=⟨k,m,r,o,E⟩) (b:=⟨p,q,s,d,f⟩) fun e=>G (congrArg Ty.elem e));clear u D F G g i;go_enter func254,ntmps254
     go_wp2;go_ret;exact ⟨congrArg (fun v=>Ending.returned (.bool v)) z.o.symm,C.o⟩
   ·have V:(r == s)=false:=beq_eq_false_iff_ne.2 F;have z:=uA (lJ (a:=⟨k,m,r,o,E⟩) (b:=⟨p,q,s,d,f⟩) fun e=>F (congrArg Ty.region e));clear u D F g i;go_enter func254,ntmps254
    go_wp2;go_ret;exact ⟨congrArg (fun v=>Ending.returned (.bool v)) z.o.symm,C.o⟩
  ·have U:(m == q)=false:=beq_eq_false_iff_ne.2 D;have z:=uA (lJ (a:=⟨k,m,r,o,E⟩) (b:=⟨p,q,s,d,f⟩) fun e=>D (congrArg Ty.mut_ e));clear u D g i;go_enter func254,ntmps254
   go_wp2;go_ret;exact ⟨congrArg (fun v=>Ending.returned (.bool v)) z.o.symm,C.o⟩
 ·have T:(k == p)=false:=beq_eq_false_iff_ne.2 u;have z:=uA (lJ (a:=⟨k,m,r,o,E⟩) (b:=⟨p,q,s,d,f⟩) fun e=>u (congrArg Ty.kind e));clear u g i;go_enter func254,ntmps254
  go_wp2;go_ret;exact ⟨congrArg (fun v=>Ending.returned (.bool v)) z.o.symm,C.o⟩
theorem PC {x y:TyW} {b:Bool} (h:EB x.t y.t=b) (w:World) (a:wF w w.heap.size x) (c:wF w w.heap.size y) :
 Calls prog 254 #[xU x,xU y] w fun e w'=>e=.returned (.bool b)/\Ab w w':=h ▸ uEk x y w a c
theorem NI (i n:Int) (w:World):Calls prog 221 #[.int .i64 i,.int .i64 n] w fun e w'=>e=.returned (.bool (vD i n))/\w=w':=by
 by_cases a:0<=i
 ·by_cases b:i < n
  ·have e:Hdd (vD i n=true):=uW.2 ⟨a,b⟩;go_enter func221,ntmps221
   go_wp2;go_ret;exact ⟨congrArg (fun v=>Ending.returned (.bool v)) e.o.symm,rfl⟩
  ·have e:Hdd (vD i n=false):=wP.2 bB;have c:decide (i < n)=false:=(by simpa using b);go_enter func221,ntmps221
   go_wp2;go_ret;exact ⟨congrArg (fun v=>Ending.returned (.bool v)) e.o.symm,rfl⟩
 ·have e:Hdd (vD i n=false):=wP.2 bB;have c:decide (0<=i)=false:=by simpa using a
  go_enter func221,ntmps221
  go_wp2;go_ret;exact ⟨congrArg (fun v=>Ending.returned (.bool v)) e.o.symm,rfl⟩
theorem qC {i n:Int} {b:Bool} (h:vD i n=b) (w:World):Calls prog 221 #[.int .i64 i,.int .i64 n] w fun e w'=>e=.returned (.bool b)/\w=w':=h ▸ NI i n w
theorem QL (w:World) (x:Int) (t:TypeId):Rd (w.alloc (.cells #[.int .i64 x] t)) (w.heap.size+1) (some ⟨w.heap.size,0,none⟩) 1 (vC [x]):=
 ⟨rfl,fun _=>⟨w.heap.size,0,rfl,bB,fun j u a=>by
  rw [cell_of_row (w.alloc (.cells #[.int .i64 x] t)) w.heap.size (0+j) _ t (0,0) (heap_alloc_new w _)];simpa using a⟩⟩
def DU (w:World) (x:TyW) (e:Ending) (w':World):Prop:=∃ A n c,e=.returned (.slice A n c)/\n<=c/\c<=maxLen/\(uG x.t).length=n/\Rd w' w'.heap.size A n (vC (uG x.t))/\Ab w w'
theorem CR (x:TyW) (w:World) (c:wF w w.heap.size x):Calls prog 167 #[xU x] w (DU w x):=by
 have e:=uA ((Below.refl w.heap.size w).alloc (Ae _) (.cells (c5 x).toArray 123));have k:=uA ((c.below e.o).more (B':=(w.alloc (.cells (c5 x).toArray 123)).heap.size) nF);have f:=uA c.ok;by_cases a:x.t.kind=3
 ·have m:(x.t.kind == 3)=true:=beq_iff_eq.2 a;have g:=uA (e.o.alloc nF (.cells #[.int .i64 x.t.elem] 3));have i:DU w x (.returned (.slice (some ⟨w.heap.size+1,0,none⟩) 1 1)) ((w.alloc (.cells (c5 x).toArray 123)).alloc (.cells #[.int .i64 x.t.elem] 3)):=by
   refine ⟨_,1,1,rfl,Ae _,eW,by rw [xN a];rfl,?_,g.o⟩;have h:=QL (w.alloc (.cells (c5 x).toArray 123)) x.t.elem 3;rw [xN a];rw [Ak] at h;exact h.more nF
  have d:=uA i;clear c a i;go_enter func167,ntmps167
  go_wp2;go_ret;exact d.o
 ·have m:(x.t.kind == 3)=false:=beq_eq_false_iff_ne.2 a;by_cases b:x.t.kind=4
  ·have o:(x.t.kind == 4)=true:=beq_iff_eq.2 b;have d:Hdd (DU w x (.returned (.slice x.A x.n x.c)) (w.alloc (.cells (c5 x).toArray 123))):=⟨_,_,_,rfl,f.o.nc,f.o.cm,by rw [vY b];exact f.o.len,by rw [vY b];exact k.o.rd,e.o⟩;clear c a b;go_enter func167,ntmps167
   go_wp2;go_ret;exact d.o
  ·have o:(x.t.kind == 4)=false:=beq_eq_false_iff_ne.2 b;have d:Hdd (DU w x (.returned (.slice none 0 0)) (w.alloc (.cells (c5 x).toArray 123))):=⟨_,_,_,rfl,Ae _,Am _,by rw [yP a b];rfl,by rw [yP a b];exact Rd.nil _ _ _,e.o⟩;clear c a b;go_enter func167,ntmps167
   go_wp2;go_ret;exact d.o
theorem AE (A:Option Addr) (n c:Nat) (xs:List Int) (m:Int) (w:World) (B:Nat) (d:Rd w B A n (vC xs)) (z:n<=maxLen) :
 Calls prog 233 #[.slice A n c,.int .i64 m] w fun e w'=>e=.returned (.bool (wX xs m))/\w=w':=by
 have C:=uA d;have s:=uA d.ilen;unfold maxLen at z;clear d;go_enter func233,ntmps233
 go_wp2;go_loop [9] (fun i=>∃ j:Nat,i=.int .i64 (j:Int)/\j<=n/\Hdd (wX (xs.take j) m=true)) (fun i=>n - (intOf i).toNat)
 case atStart=>exact ⟨0,rfl,Am _,rfl⟩
 case round=>
  obtain ⟨j,rfl,F,u⟩:=hrel;by_cases D:j < n
  ·have f:∃ a,xs[j]?=some a:=⟨_,Ad (by have:=s.o;omega)⟩;obtain ⟨a,k⟩:=f;obtain ⟨g,o,rfl,_,G⟩:=C.o.int k;have x:(j:Int) < (n:Int):=bB;have y:=uA k;clear k;cases hin:vD a m
   ·have p:=uA hin;have b:=uA (show wX xs m=false by
     cases h:wX xs m
     ·rfl
     ·have:=mX.1 h a (Aj y.o);rw [uW.2 this] at hin;cases hin)
    clear hin;go_wp2_with (go_at_call 221;refine (qC p.o _).mono ?_;rintro e E ⟨rfl,rfl⟩)
    go_ret;exact ⟨congrArg (fun v=>Ending.returned (.bool v)) b.o.symm,rfl⟩
   ·have p:=uA hin;have b:=uA (show wX (xs.take (j+1)) m=true by
     rw [mX];intro i hi;rw [Bm,y.o] at hi;rcases Aq.1 hi with hi | hi
     ·exact mX.1 u.o i hi
     ·obtain rfl:i=a:=by simpa using hi
      exact uW.1 hin)
    clear hin;go_wp2_with (go_at_call 221;refine (qC p.o _).mono ?_;rintro e E ⟨rfl,rfl⟩)
    go_round
    case rel=>exact ⟨j+1,by go_num,bB,b.o⟩
    case measure=>simp [intOf];omega
  ·obtain rfl:j=n:=by omega
   have q:=u.o;rw [Au (by have:=s.o;omega)] at q;have b:=uA q;clear q;go_wp2;go_ret;exact ⟨congrArg (fun v=>Ending.returned (.bool v)) b.o.symm,rfl⟩
theorem gQ {A:Option Addr} {n c:Nat} {xs:List Int} {m:Int} {w:World} {B:Nat} {b:Bool} (h:wX xs m=b) (a:Rd w B A n (vC xs)) (d:n<=maxLen) :
 Calls prog 233 #[.slice A n c,.int .i64 m] w fun e w'=>e=.returned (.bool b)/\w=w':=h ▸ AE A n c xs m w B a d
structure Turn (S:Nat->Prop) (w w':World):Prop where
 os:w'.os=w.os
 tape:w'.tape=w.tape
 output:w'.output=w.output
 size:w.heap.size<=w'.heap.size
 block:∀ k,k < w.heap.size->¬S k->w'.heap[k]?=w.heap[k]?
namespace Turn
variable {S S':Nat->Prop} {w w' w'':World}
theorem refl (S:Nat->Prop) (w:World):Turn S w w:=⟨rfl,rfl,rfl,Ae _,fun _ _ _=>rfl⟩
theorem trans (h:Turn S w w') (k:Turn S w' w''):Turn S w w'':=
 ⟨k.os.trans h.os,k.tape.trans h.tape,k.output.trans h.output,Ai h.size k.size,fun i a b=>(k.block i (Ap a h.size) b).trans (h.block i a b)⟩
theorem of_below (h:Ab w w'):Turn S w w':=⟨h.os,h.tape,h.output,h.size,fun k a _=>h.block k a⟩
theorem weak (h:Turn S w w') (b:∀ k,S k->S' k):Turn S' w w':=⟨h.os,h.tape,h.output,h.size,fun k c d=>h.block k c fun a=>d (b k a)⟩
theorem alloc (h:Turn S w w') (o:Obj):Turn S w (w'.alloc o):=h.trans (of_below ((Below.refl _ _).alloc (Ae _) o))
theorem drew (h:Turn S w w'):Turn S w w'.drew:=⟨h.os,h.tape,h.output,h.size,h.block⟩
theorem grown (h:Turn S w w') {row:Option Nat} (a:w'.grownBy w'' row) (d:∀ k,row=some k->S k\/w.heap.size<=k):Turn S w w'':=
 ⟨a.os.trans h.os,a.tape.trans h.tape,a.output.trans h.output,Ai h.size a.size,fun k b c=>
  (a.block k (Ap b h.size) (fun e=>by rcases d k e.symm with h' | h' <;> first | exact c h' | omega)).trans (h.block k b c)⟩
theorem setCell (h:Turn S w w') {a:Addr} (c:S a.block\/w.heap.size<=a.block) (v:Value):Turn S w (w'.setCell a v):=
 ⟨h.os,h.tape,h.output,Ai h.size (by simp [World.setCell]),fun k d b=>(Below.heap_setCell w' a v k (fun e=>by subst e;rcases c with h' | h' <;> first | exact b h' | omega)).trans (h.block k d b)⟩
theorem cell (h:Turn S w w') {p:Addr} (a:p.block < w.heap.size) (b:¬S p.block):w'.cell? p=w.cell? p:=Ce (w:=w) (h.block p.block a b)
theorem below (h:Turn S w w') {B:Nat} (c:B<=w.heap.size) (a:∀ k,S k->B<=k):Below B w w':=
 ⟨h.os,h.tape,h.output,h.size,fun k d=>h.block k bB fun b=>by have:=a k b;omega⟩
end Turn
theorem Rd.turn {S:Nat->Prop} {w w':World} {B:Nat} {A:Option Addr} {n:Nat} {xs:List Value} (h:Rd w B A n xs) (c:Turn S w w') (k:B<=w.heap.size) (d:0 < n->∀ b o,A=some ⟨b,o,none⟩->¬S b):Rd w' B A n xs:=
 ⟨h.1,fun a=>by
  obtain ⟨b,o,e,f,g⟩:=h.2 a;exact ⟨b,o,e,f,fun j u i=>(c.cell (p:=⟨b,o+j,none⟩) (by simp;omega) (d a b o e)).trans (g j u i)⟩⟩
end Go.Proofs.YtnkjbjkoffgocaaGreatDoor
