/- Part 1 of the contracts and their mathematics. -/
import Derived.Below
import Derived.Laws.OwnMore
import Derived.Deep.AppendLies
import Derived.Deep.Draws
import Derived.Laws.BytesArg
import Derived.Lib.Bytes
import Derived.Laws.BitsLemmas
import Derived.RangeFuncBox
import Derived.WalkKit
import Derived.RangeFuncNested
import Derived.RangeFuncBound
import Derived.RangeFuncCalls
import Derived.RangeFuncLeaves
import Derived.RangeFuncWrites
import Derived.Deep.RegionHeld3
import Derived.OwnWalkIn
import Derived.OrdersIn
import Derived.OwnWalk
import Derived.Test.YtlbopbjdiehecaaProg
import Derived.Laws.Rows
import Derived.Outline
import Derived.Deep.QuietTactic
import Derived.BigQuiet
set_option linter.unusedVariables false
set_option linter.unusedSimpArgs false
set_option maxHeartbeats 1000000
namespace Go.Proofs.Ytlbopbjdiehecaa
open Go.RowKit
theorem hide {p:Prop} (h:p):Hid p:=h
def Rd (w:World) (B:Nat) (A:Option Addr) (n:Nat) (xs:List Value):Prop:=
 xs.length=n∧(0 < n→∃ b o,A=some ⟨b,o,none⟩∧b < B∧∀ j u,xs[j]?=some u→w.cell? ⟨b,o+j,none⟩=some u)
section
variable {w w':World} {B B' n:Nat} {A:Option Addr} {xs:List Value}
theorem Rd.nil (w:World) (B:Nat) (A:Option Addr):Rd w B A 0 []:=⟨rfl,fun h=>absurd h (by omega)⟩
theorem Rd.len (h:Rd w B A n xs):xs.length=n:=h.1
theorem Rd.cell (h:Rd w B A n xs) {k:Nat} {u:Value} (hu:xs[k]?=some u):∃ b o,A=some ⟨b,o,none⟩∧b < B∧w.cell? ⟨b,o+k,none⟩=some u:=by
 have hk:k < xs.length:=by
  rcases Nat.lt_or_ge k xs.length with h' | h'
  ·
   exact h'
  ·
   rw [List.getElem?_eq_none h'] at hu;cases hu
 obtain ⟨b,o,e,hb,hc⟩:=h.2 (by have:=h.1;omega)
 exact ⟨b,o,e,hb,hc k u hu⟩
theorem Rd.keep (h:Rd w B A n xs) (hk:∀ p:Addr,p.block < B→w'.cell? p=w.cell? p):Rd w' B A n xs:=
 ⟨h.1,fun hn=>by
  obtain ⟨b,o,e,hb,hc⟩:=h.2 hn
  exact ⟨b,o,e,hb,fun j u hu=>(hk _ hb).trans (hc j u hu)⟩⟩
theorem Rd.more (h:Rd w B A n xs) (hB:B≤B'):Rd w B' A n xs:=
 ⟨h.1,fun hn=>by
  obtain ⟨b,o,e,hb,hc⟩:=h.2 hn
  exact ⟨b,o,e,by omega,hc⟩⟩
theorem Rd.below (h:Rd w B A n xs) (hb:Below B w w'):Rd w' B A n xs:=h.keep fun _ hp=>hb.cell hp
theorem Rd.alloc (h:Rd w B A n xs) (hB:B≤w.heap.size) (o:Obj):Rd (w.alloc o) B A n xs:=h.keep fun p hp=>World.cell?_alloc_lt w o p (by omega)
theorem Rd.of_own {base:Nat} {e:TypeId} {c:Nat} (h:w.ownsRow base e 1 (.slice A n c) n xs):Rd w w.heap.size A n xs:=by
 have hl:xs.length=n:=by have:=h.1;omega
 refine ⟨hl,fun hn=>?_⟩
 obtain ⟨g,cap,hv,_,hlt⟩:=h.form hn
 have hA:A=some ⟨g,0,none⟩:=by injection hv
 subst hA
 refine ⟨g,0,rfl,hlt,fun j u hu=>?_⟩
 have:=h.cells (g:=g) rfl j u hu
 unfold Addr.add at this
 split at this <;> simp_all
end
theorem ownsRow_below {w w':World} {base:Nat} {e:TypeId} {size n:Nat} {v:Value} {xs:List Value} (h:w.ownsRow base e size v n xs) (hb:Below w.heap.size w w'):w'.ownsRow base e size v n xs:=by
 refine h.kept (row:=none) ⟨hb.os,hb.tape,hb.output,hb.size,fun i hi _=>hb.block i hi⟩ ?_
 rcases v.ownBlock with _ | k
 ·
  exact .inl rfl
 ·
  exact .inr (by simp)
theorem ownsRow_base {w:World} {base base':Nat} {e:TypeId} {size n:Nat} {v:Value} {xs:List Value} (h:w.ownsRow base e size v n xs) (hb:base'≤base):w.ownsRow base' e size v n xs:=by
 obtain ⟨h1,h2⟩:=h
 refine ⟨h1,?_⟩
 rcases h2 with h2 | ⟨g,cap,cur,hv,hg,r⟩
 ·
  exact .inl h2
 ·
  exact .inr ⟨g,cap,cur,hv,by omega,r⟩
abbrev u8s (xs:List Int):List Value:=xs.map (Value.int .u8)
def Byt (xs:List Int):Prop:=∀ x∈xs,0≤x∧x < 256
theorem Byt.nil:Byt []:=fun _ h=>by cases h
theorem Byt.cons {x:Int} {xs:List Int} (h0:0≤x) (h1:x < 256) (h:Byt xs):Byt (x :: xs):=fun y hy=>by
 rcases List.mem_cons.1 hy with rfl | hy
 ·
  exact ⟨h0,h1⟩
 ·
  exact h y hy
theorem Byt.append {xs ys:List Int} (h:Byt xs) (k:Byt ys):Byt (xs++ys):=fun y hy=>by
 rcases List.mem_append.1 hy with hy | hy
 ·
  exact h y hy
 ·
  exact k y hy
theorem Byt.at {xs:List Int} (h:Byt xs) {k:Nat} {x:Int} (hx:xs[k]?=some x):0≤x∧x < 256:=h x (List.mem_of_getElem? hx)
theorem Byt.take {xs:List Int} (h:Byt xs) (k:Nat):Byt (xs.take k):=fun y hy=>h y (List.mem_of_mem_take hy)
theorem Byt.drop {xs:List Int} (h:Byt xs) (k:Nat):Byt (xs.drop k):=fun y hy=>h y (List.mem_of_mem_drop hy)
def KeepT (n₀:Nat) (Ts:List TypeId) (W W':World):Prop:=Below n₀ W W'∧∀ (t:TypeId) (B:Nat) (cs:Array Value) (fr:Nat×Nat),t∈Ts→W.heap[B]?=some (.cells cs t fr)→W'.heap[B]?=some (.cells cs t fr)
section
variable {n₀:Nat} {Ts:List TypeId} {W W' W'':World}
theorem KeepT.refl (n₀:Nat) (Ts:List TypeId) (W:World):KeepT n₀ Ts W W:=⟨Below.refl _ _,fun _ _ _ _ _ h=>h⟩
theorem KeepT.trans (h:KeepT n₀ Ts W W') (k:KeepT n₀ Ts W' W''):KeepT n₀ Ts W W'':=⟨h.1.trans k.1,fun t B cs fr ht hB=>k.2 t B cs fr ht (h.2 t B cs fr ht hB)⟩
theorem KeepT.of_below (h:Below W.heap.size W W') (hn:n₀≤W.heap.size):KeepT n₀ Ts W W':=⟨h.mono hn,fun t B cs fr _ hB=>(h.block B (Array.getElem?_eq_some_iff.1 hB).1).trans hB⟩
theorem KeepT.grown {row:Option Nat} (hg:W.grownBy W' row) (hn:n₀≤W.heap.size) (hrow:∀ k,row=some k→n₀≤k∧∃ cs t fr,W.heap[k]?=some (.cells cs t fr)∧t∉Ts):KeepT n₀ Ts W W':=
 ⟨(Below.refl n₀ W).grown hg hn (fun k e=>(hrow k e).1),fun t B cs fr ht hB=>(hg.block B (Array.getElem?_eq_some_iff.1 hB).1 (fun e=>by
  obtain ⟨_,cs',t',fr',h1,h2⟩:=hrow B e.symm
  rw [hB] at h1
  injection h1 with h1
  injection h1 with _ h1 _
  exact h2 (h1 ▸ ht))).trans hB⟩
theorem KeepT.box {B:Nat} {t:TypeId} {v:Value} (h:Boxed W B t v) (hB:n₀≤B) (ht:t∉Ts) (v':Value):KeepT n₀ Ts W (W.setCell ⟨B,0,none⟩ v'):=
 KeepT.grown (grownBy_setCell' W B v') (Nat.le_trans hB (Nat.le_of_lt h.lt)) (fun k e=>by cases e;exact ⟨hB,_,_,_,h,ht⟩)
theorem KeepT.row {base k n:Nat} {e:TypeId} {v:Value} {xs:List Value} (hg:W.grownBy W' v.ownBlock) (hown:W.ownsRow base e k v n xs) (hb:n₀≤base) (hn:n₀≤W.heap.size) (ht:e∉Ts):KeepT n₀ Ts W W':=
 KeepT.grown hg hn (fun q hq=>by
  refine ⟨Nat.le_trans hb (hown.lt q hq).1,?_⟩
  rcases hown.2 with ⟨rfl,_⟩ | ⟨g,cap,cur,rfl,_,hgg,_⟩
  ·
   cases hq
  ·
   have:g=q:=by simpa [Value.ownBlock] using hq
   subst this
   exact ⟨_,_,_,hgg,ht⟩)
theorem keepT_t {A B C:World} (h:KeepT n₀ Ts A B) (k:KeepT n₀ Ts B C):KeepT n₀ Ts A C:=h.trans k
theorem keepT_b {w:World} (hn:n₀≤w.heap.size) (W:World) (l:Nat) (o o':Obj) (hl:w.heap.size≤l) (h:W.heap[l]?=some o) (hc:o.isCells=false) (hw:o.isWalk=false):KeepT n₀ Ts W (W.putObj l o'):=
 ⟨belowK_b hn W l o o' hl h hc hw,fun t B cs fr ht hB=>((grownBy_putObj' W l o').block B (Array.getElem?_eq_some_iff.1 hB).1 (fun e=>by
  injection e with e
  subst e
  rw [h] at hB
  injection hB with hB
  subst hB
  cases hc)).trans hB⟩
end
theorem grown_of_below {W W':World} (h:Below W.heap.size W W'):W.grownBy W' none:=⟨h.os,h.tape,h.output,h.size,fun k hk _=>h.block k hk⟩
theorem cell_of_heap {W:World} {B:Nat} {cs:Array Value} {t:TypeId} {fr:Nat×Nat} (h:W.heap[B]?=some (.cells cs t fr)) (j:Nat):W.cell? ⟨B,j,none⟩=cs[j]?:=cell_of_row W B j cs t fr h
section
variable {P:Program} {l n:Nat} {Q:Exit→Act→World→Prop}
end
theorem below1 (w:World) (o:Obj):Below w.heap.size w (w.alloc o):=(Below.refl w.heap.size w).alloc (Nat.le_refl _) o
theorem one_cells {w w':World} {cs:List Value} {T:TypeId} (h:Below (w.alloc (.cells cs.toArray T)).heap.size (w.alloc (.cells cs.toArray T)) w'):∀ (j:Nat) (u:Value),cs[j]?=some u→w'.cell? ⟨w.heap.size,j,none⟩=some u:=fun j u hu=>by
 have b1:=(h.block w.heap.size (by simp)).trans (heap_alloc_new w (.cells cs.toArray T))
 exact (cell_of_heap b1 j).trans (by rw [List.getElem?_toArray];exact hu)
theorem cells7 {w w':World} {a0 a1 a2 a3 a4 a5 a6:Value} {T:TypeId} (h:Below (w.alloc (.cells #[a0,a1,a2,a3,a4,a5,a6] T)).heap.size (w.alloc (.cells #[a0,a1,a2,a3,a4,a5,a6] T)) w'):w'.cell? ⟨w.heap.size,0,none⟩=some a0∧w'.cell? ⟨w.heap.size,1,none⟩=some a1∧w'.cell? ⟨w.heap.size,2,none⟩=some a2∧w'.cell? ⟨w.heap.size,3,none⟩=some a3∧w'.cell? ⟨w.heap.size,4,none⟩=some a4∧w'.cell? ⟨w.heap.size,5,none⟩=some a5∧w'.cell? ⟨w.heap.size,6,none⟩=some a6:=by
 have c:=one_cells (cs:=[a0,a1,a2,a3,a4,a5,a6]) h
 exact ⟨c 0 _ rfl,c 1 _ rfl,c 2 _ rfl,c 3 _ rfl,c 4 _ rfl,c 5 _ rfl,c 6 _ rfl⟩
end Go.Proofs.Ytlbopbjdiehecaa
namespace Go.Proofs.Ytlbopbjdiehecaa
open Go.RowKit
structure Ty where
 kind:Int
 mut_:Bool
 region:Int
 elem:Int
 fields:List Int
theorem Ty.ext' {a b:Ty} (h1:a.kind=b.kind) (h2:a.mut_=b.mut_) (h3:a.region=b.region) (h4:a.elem=b.elem) (h5:a.fields=b.fields):a=b:=by
 cases a;cases b;simp_all
instance instDecEqTy:DecidableEq Ty:=fun a b=>
 if h:a.kind=b.kind∧a.mut_=b.mut_∧a.region=b.region∧a.elem=b.elem∧a.fields=b.fields then .isTrue (Ty.ext' h.1 h.2.1 h.2.2.1 h.2.2.2.1 h.2.2.2.2)
 else .isFalse fun e=>h (by subst e;exact ⟨rfl,rfl,rfl,rfl,rfl⟩)
def tyParts (t:Ty):List Int:=if t.kind=3 then [t.elem] else if t.kind=4 then t.fields else []
theorem tyParts_ref {t:Ty} (h:t.kind=3):tyParts t=[t.elem]:=by unfold tyParts;rw [if_pos h]
theorem tyParts_tup {t:Ty} (h:t.kind=4):tyParts t=t.fields:=by unfold tyParts;rw [if_neg (by omega),if_pos h]
theorem tyParts_none {t:Ty} (h3:t.kind≠3) (h4:t.kind≠4):tyParts t=[]:=by unfold tyParts;rw [if_neg h3,if_neg h4]
section
variable {α:Type}
def tyTab (f:List α→Ty→α) (l:List Ty):List α:=l.foldl (fun d t=>d++[f d t]) []
end
def tyDpt (d:List Int) (t:Ty):Int:=((tyParts t).map fun p=>d.getD p.toNat 0).foldl max 0+1
def tyDeps (l:List Ty):List Int:=tyTab tyDpt l
inductive TyMen (l:List Ty):Int→Int→Prop
 | here (i:Nat) (t:Ty):l[i]?=some t→t.kind=3→TyMen l (i:Int) t.region
 | part (i:Nat) (t:Ty) (p r:Int):l[i]?=some t→p∈tyParts t→TyMen l p r→TyMen l (i:Int) r
def tyIn (i n:Int):Bool:=decide (0≤i) && decide (i < n)
theorem tyIn_iff {i n:Int}:tyIn i n=true↔0≤i∧i < n:=by simp [tyIn]
theorem tyIn_not {i n:Int}:tyIn i n=false↔¬(0≤i∧i < n):=by rw [←tyIn_iff];simp
def tyAllIn (xs:List Int) (n:Int):Bool:=xs.all fun i=>tyIn i n
theorem tyAllIn_iff {xs:List Int} {n:Int}:tyAllIn xs n=true↔∀ i∈xs,0≤i∧i < n:=by
 unfold tyAllIn
 rw [List.all_eq_true]
 exact ⟨fun h i hi=>tyIn_iff.1 (h i hi),fun h i hi=>tyIn_iff.2 (h i hi)⟩
def tyOwn (t:Ty) (earlier regions:Int):Int:=
 if t.kind < 0∨4 < t.kind then 14
 else if (t.kind≠3∧(t.mut_=true∨t.region≠0∨t.elem≠0))∨(t.kind≠4∧0 < t.fields.length) then 2
 else if (t.kind=3∧tyIn t.region regions=false)∨tyAllIn (tyParts t) earlier=false then 3
 else if t.kind=4∧(t.fields.length=0∨65535 < t.fields.length) then 15
 else 0
def tyErr (pre:List Ty) (t:Ty) (regions:Int):Int:=
 if tyOwn t (pre.length:Int) regions≠0 then tyOwn t (pre.length:Int) regions
 else if 32 < tyDpt (tyDeps pre) t then 19
 else if t∈pre then 21
 else 0
structure TyOk (l:List Ty) (r:Int):Prop where
 len:l.length≤65535
 err:∀ j t,l[j]?=some t→tyErr (l.take j) t r=0
theorem tyOwn_zero {t:Ty} {e r:Int}:tyOwn t e r=0↔(0≤t.kind∧t.kind≤4)∧(t.kind≠3→t.mut_=false∧t.region=0∧t.elem=0)∧(t.kind≠4→t.fields=[])∧(t.kind=3→0≤t.region∧t.region < r)∧(∀ p∈tyParts t,0≤p∧p < e)∧(t.kind=4→1≤t.fields.length∧t.fields.length≤65535):=by
 unfold tyOwn
 by_cases c1:t.kind < 0∨4 < t.kind
 ·
  rw [if_pos c1]
  exact ⟨(fun h=>by cases h),fun h=>by have:=h.1;omega⟩
 rw [if_neg c1]
 by_cases c2:(t.kind≠3∧(t.mut_=true∨t.region≠0∨t.elem≠0))∨(t.kind≠4∧0 < t.fields.length)
 ·
  rw [if_pos c2]
  refine ⟨(fun h=>by cases h),fun h=>?_⟩
  obtain ⟨_,h2,h3,_⟩:=h
  rcases c2 with ⟨n3,h⟩ | ⟨n4,h⟩
  ·
   obtain ⟨a,b,c⟩:=h2 n3
   rcases h with h | h | h
   ·
    rw [a] at h;cases h
   ·
    exact absurd b h
   ·
    exact absurd c h
  ·
   rw [h3 n4] at h
   cases h
 rw [if_neg c2]
 have d2:(t.kind≠3→t.mut_=false∧t.region=0∧t.elem=0)∧(t.kind≠4→t.fields=[]):=by
  refine ⟨fun n3=>⟨?_,?_,?_⟩,fun n4=>?_⟩
  ·
   cases hm:t.mut_
   ·
    rfl
   ·
    exact absurd (.inl ⟨n3,.inl hm⟩) c2
  ·
   by_cases h:t.region=0
   ·
    exact h
   ·
    exact absurd (.inl ⟨n3,.inr (.inl h)⟩) c2
  ·
   by_cases h:t.elem=0
   ·
    exact h
   ·
    exact absurd (.inl ⟨n3,.inr (.inr h)⟩) c2
  ·
   cases hf:t.fields with
   | nil=>rfl
   | cons x xs=>exact absurd (.inr ⟨n4,by rw [hf];simp⟩) c2
 by_cases c3:(t.kind=3∧tyIn t.region r=false)∨tyAllIn (tyParts t) e=false
 ·
  rw [if_pos c3]
  refine ⟨(fun h=>by cases h),fun h=>?_⟩
  obtain ⟨_,_,_,h4,h5,_⟩:=h
  rcases c3 with ⟨e3,h⟩ | h
  ·
   exact absurd (h4 e3) (tyIn_not.1 h)
  ·
   rw [tyAllIn_iff.2 h5] at h;cases h
 rw [if_neg c3]
 have d3:(t.kind=3→0≤t.region∧t.region < r)∧∀ p∈tyParts t,0≤p∧p < e:=by
  refine ⟨fun e3=>?_,tyAllIn_iff.1 ?_⟩
  ·
   cases h:tyIn t.region r
   ·
    exact absurd (.inl ⟨e3,h⟩) c3
   ·
    exact tyIn_iff.1 h
  ·
   cases h:tyAllIn (tyParts t) e
   ·
    exact absurd (.inr h) c3
   ·
    rfl
 by_cases c4:t.kind=4∧(t.fields.length=0∨65535 < t.fields.length)
 ·
  rw [if_pos c4]
  exact ⟨(fun h=>by cases h),fun h=>by have:=h.2.2.2.2.2 c4.1;omega⟩
 rw [if_neg c4]
 exact ⟨fun _=>⟨by omega,d2.1,d2.2,d3.1,d3.2,fun h4=>by omega⟩,fun _=>rfl⟩
theorem tyErr_zero {pre:List Ty} {t:Ty} {r:Int}:tyErr pre t r=0↔tyOwn t (pre.length:Int) r=0∧tyDpt (tyDeps pre) t≤32∧t∉pre:=by
 unfold tyErr
 by_cases c1:tyOwn t (pre.length:Int) r=0
 ·
  rw [if_neg (by simp [c1])]
  by_cases c2:32 < tyDpt (tyDeps pre) t
  ·
   rw [if_pos c2]
   exact ⟨(fun h=>by cases h),fun h=>by omega⟩
  ·
   rw [if_neg c2]
   by_cases c3:t∈pre
   ·
    rw [if_pos c3]
    exact ⟨(fun h=>by cases h),fun h=>absurd c3 h.2.2⟩
   ·
    rw [if_neg c3]
    exact ⟨fun _=>⟨c1,by omega,c3⟩,fun _=>rfl⟩
 ·
  rw [if_pos c1]
  exact ⟨fun h=>absurd h c1,fun h=>absurd h.1 c1⟩
namespace TyOk
variable {l:List Ty} {r:Int} (h:TyOk l r) {j:Nat} {t:Ty}
include h
theorem own (ht:l[j]?=some t):(0≤t.kind∧t.kind≤4)∧(t.kind≠3→t.mut_=false∧t.region=0∧t.elem=0)∧(t.kind≠4→t.fields=[])∧(t.kind=3→0≤t.region∧t.region < r)∧(∀ p∈tyParts t,0≤p∧p < (j:Int))∧(t.kind=4→1≤t.fields.length∧t.fields.length≤65535):=by
 have h1:=tyOwn_zero.1 (tyErr_zero.1 (h.err j t ht)).1
 rw [List.length_take,Nat.min_eq_left (Nat.le_of_lt (List.getElem?_eq_some_iff.1 ht).1)] at h1
 exact h1
theorem part (ht:l[j]?=some t) {p:Int} (hp:p∈tyParts t):0≤p∧p < (j:Int):=(h.own ht).2.2.2.2.1 p hp
theorem elem (ht:l[j]?=some t) {p:Int} (hp:p∈tyParts t):∃ (q:Nat) (u:Ty),p=(q:Int)∧q < j∧l[q]?=some u:=by
 obtain ⟨h0,h1⟩:=h.part ht hp
 have hj:=(List.getElem?_eq_some_iff.1 ht).1
 exact ⟨p.toNat,_,by omega,by omega,List.getElem?_eq_getElem (by omega)⟩
theorem fields (ht:l[j]?=some t) (h3:t.kind≠3):tyParts t=t.fields:=by
 by_cases h4:t.kind=4
 ·
  exact tyParts_tup h4
 ·
  rw [tyParts_none h3 h4,(h.own ht).2.2.1 h4]
end TyOk
theorem TyOk.take {l:List Ty} {r:Int} (h:TyOk l r) (k:Nat):TyOk (l.take k) r:=by
 refine ⟨by have:=h.len;rw [List.length_take];omega,fun j t ht=>?_⟩
 rw [List.getElem?_take] at ht
 by_cases hj:j < k
 ·
  rw [if_pos hj] at ht
  rw [List.take_take,Nat.min_eq_left (by omega)]
  exact h.err j t ht
 ·
  rw [if_neg hj] at ht
  cases ht
theorem TyOk.more {l:List Ty} {r r':Int} (h:TyOk l r) (hr:r≤r'):TyOk l r':=by
 refine ⟨h.len,fun j t ht=>?_⟩
 obtain ⟨h1,h2,h3⟩:=tyErr_zero.1 (h.err j t ht)
 obtain ⟨a,b,c,d,e,f⟩:=tyOwn_zero.1 h1
 exact tyErr_zero.2 ⟨tyOwn_zero.2 ⟨a,b,c,fun h3=>by have:=d h3;omega,e,f⟩,h2,h3⟩
theorem TyMen.lt {l:List Ty} {i q:Int} (hm:TyMen l i q):0≤i∧i < (l.length:Int):=by
 cases hm with
 | here i t ht hk=>have:=(List.getElem?_eq_some_iff.1 ht).1;omega
 | part i t p q ht hp hm=>have:=(List.getElem?_eq_some_iff.1 ht).1;omega
end Go.Proofs.Ytlbopbjdiehecaa
namespace Go.Proofs.Ytlbopbjdiehecaa
open Go.RowKit
abbrev Pr:=Int×Int
inductive Way (ps:List Pr):Int→Int→Prop
 | refl (a:Int):Way ps a a
 | step {a b c:Int}:(a,b)∈ps→Way ps b c→Way ps a c
theorem Way.trans {ps:List Pr} {a b c:Int} (h:Way ps a b) (k:Way ps b c):Way ps a c:=by
 induction h with
 | refl=>exact k
 | step m _ ih=>exact .step m (ih k)
theorem Way.one {ps:List Pr} {a b:Int} (h:(a,b)∈ps):Way ps a b:=.step h (.refl _)
def Out (ps:List Pr) (n a b:Int):Prop:=(0≤a∧a < n)∧(0≤b∧b < n)∧Way ps a b
noncomputable def out (ps:List Pr) (n a b:Int):Bool:=@decide (Out ps n a b) (Classical.propDecidable _)
theorem Out.trans {ps:List Pr} {n a b c:Int} (h:Out ps n a b) (k:Out ps n b c):Out ps n a c:=⟨h.1,k.2.1,h.2.2.trans k.2.2⟩
theorem Out.refl {ps:List Pr} {n a:Int} (h:0≤a∧a < n):Out ps n a a:=⟨h,h,.refl _⟩
def Fnd (F:List Bool) (x:Int):Prop:=F[x.toNat]?=some true
structure Sr (D:List Int) (ab:List (List Int)) (G:Int→Prop) (S Ix W:List Int) (F:List Bool) (ys:List Int):Prop where
 len:F.length=D.length
 start:∀ s∈S,Fnd F s∨s∈Ix
 front:∀ (i:Nat),F[i]?=some true→(i:Int)∈W∨∀ xs,ab[i]?=some xs→∀ x∈xs,Fnd F x∨x∈Ix
 wait:∀ x∈W,Fnd F x∧0≤x
 ix:∀ x∈Ix,(0≤x∧x < (D.length:Int))∧∀ a,D[x.toNat]?=some a→G a
 come:∀ a,a∈ys↔∃ i:Nat,F[i]?=some true∧D[i]?=some a
 good:∀ a∈ys,G a
theorem Fnd.set {F:List Bool} {x:Int} {k:Nat} (h:Fnd F x):Fnd (F.set k true) x:=by
 unfold Fnd at h ⊢
 rw [List.getElem?_set]
 split
 ·
  rename_i e
  subst e
  rw [if_pos ((List.getElem?_eq_some_iff.1 h).1)]
 ·
  exact h
theorem fnd_set {F:List Bool} {x:Int} (h:x.toNat < F.length):Fnd (F.set x.toNat true) x:=by
 unfold Fnd
 rw [List.getElem?_set_self h]
theorem set_back {F:List Bool} {i k:Nat} (h:(F.set k true)[i]?=some true):i=k∨F[i]?=some true:=by
 rw [List.getElem?_set] at h
 split at h
 ·
  rename_i e;exact .inl e.symm
 ·
  exact .inr h
section
variable {D:List Int} {ab:List (List Int)} {G:Int→Prop} {S Ix W:List Int} {F:List Bool} {ys:List Int}
theorem Sr.skip {x:Int} (h:Sr D ab G S (x :: Ix) W F ys) (hx:Fnd F x):Sr D ab G S Ix W F ys:=by
 refine ⟨h.len,fun s hs=>?_,fun i hi=>?_,h.wait,fun y hy=>h.ix y (by simp [hy]),h.come,h.good⟩
 ·
  rcases h.start s hs with h1 | h1
  ·
   exact .inl h1
  ·
   rcases List.mem_cons.1 h1 with rfl | h1
   ·
    exact .inl hx
   ·
    exact .inr h1
 ·
  rcases h.front i hi with h1 | h1
  ·
   exact .inl h1
  ·
   refine .inr fun xs hxs y hy=>?_
   rcases h1 xs hxs y hy with h2 | h2
   ·
    exact .inl h2
   ·
    rcases List.mem_cons.1 h2 with rfl | h2
    ·
     exact .inl hx
    ·
     exact .inr h2
theorem Sr.take {x a:Int} (h:Sr D ab G S (x :: Ix) W F ys) (ha:D[x.toNat]?=some a):Sr D ab G S Ix (W++[x]) (F.set x.toNat true) (ys++[a]):=by
 obtain ⟨⟨hx0,hx1⟩,hg⟩:=h.ix x (by simp)
 have hl:x.toNat < F.length:=by rw [h.len];omega
 refine ⟨by rw [List.length_set,h.len],fun s hs=>?_,fun i hi=>?_,fun y hy=>?_,fun y hy=>h.ix y (by simp [hy]),fun b=>?_,fun b hb=>?_⟩
 ·
  rcases h.start s hs with h1 | h1
  ·
   exact .inl h1.set
  ·
   rcases List.mem_cons.1 h1 with rfl | h1
   ·
    exact .inl (fnd_set hl)
   ·
    exact .inr h1
 ·
  rcases set_back hi with rfl | hi
  ·
   exact .inl (by simp;right;omega)
  ·
   rcases h.front i hi with h1 | h1
   ·
    exact .inl (by simp [h1])
   ·
    refine .inr fun xs hxs y hy=>?_
    rcases h1 xs hxs y hy with h2 | h2
    ·
     exact .inl h2.set
    ·
     rcases List.mem_cons.1 h2 with rfl | h2
     ·
      exact .inl (fnd_set hl)
     ·
      exact .inr h2
 ·
  rcases List.mem_append.1 hy with hy | hy
  ·
   exact ⟨(h.wait y hy).1.set,(h.wait y hy).2⟩
  ·
   obtain rfl:y=x:=by simpa using hy
   exact ⟨fnd_set hl,hx0⟩
 ·
  rw [List.mem_append,h.come]
  constructor
  ·
   rintro (⟨i,h1,h2⟩ | h1)
   ·
    exact ⟨i,by have:=Fnd.set (k:=x.toNat) (show Fnd F (i:Int) from h1);exact this,h2⟩
   ·
    obtain rfl:b=a:=by simpa using h1
    exact ⟨x.toNat,fnd_set hl,ha⟩
  ·
   rintro ⟨i,h1,h2⟩
   rcases set_back h1 with rfl | h1
   ·
    rw [ha] at h2
    injection h2 with h2
    exact .inr (by simp [h2])
   ·
    exact .inl ⟨i,h1,h2⟩
 ·
  rcases List.mem_append.1 hb with hb | hb
  ·
   exact h.good b hb
  ·
   obtain rfl:b=a:=by simpa using hb
   exact hg _ ha
theorem Sr.pop {x:Int} {xs:List Int} (h:Sr D ab G S [] (W++[x]) F ys) (hxs:ab[x.toNat]?=some xs) (hr:∀ i∈xs,0≤i∧i < (D.length:Int)) (hG:∀ i∈xs,∀ a,D[i.toNat]?=some a→G a):Sr D ab G S xs W F ys:=by
 refine ⟨h.len,fun s hs=>?_,fun i hi=>?_,fun y hy=>h.wait y (by simp [hy]),fun y hy=>⟨hr y hy,hG y hy⟩,h.come,h.good⟩
 ·
  rcases h.start s hs with h1 | h1
  ·
   exact .inl h1
  ·
   cases h1
 ·
  rcases h.front i hi with h1 | h1
  ·
   rcases List.mem_append.1 h1 with h1 | h1
   ·
    exact .inl h1
   ·
    have e:(i:Int)=x:=by simpa using h1
    subst e
    refine .inr fun zs hzs y hy=>.inr ?_
    rw [Int.toNat_natCast] at hxs
    rw [hxs] at hzs
    injection hzs with hzs
    rw [hzs];exact hy
  ·
   refine .inr fun zs hzs y hy=>?_
   rcases h1 zs hzs y hy with h2 | h2
   ·
    exact .inl h2
   ·
    cases h2
end
def stepT (t:Ty) (p:Pr):Int×Int:=
 if p.1=0∧t.kind=3 then (t.elem,0)
 else if p.1=1∧t.kind=4 then (if 0≤p.2∧p.2 < (t.fields.length:Int) then (t.fields.getD p.2.toNat 0,0) else (0,3))
 else (0,22)
theorem stepT_ref {t:Ty} {p:Pr} (h0:p.1=0) (h3:t.kind=3):stepT t p=(t.elem,0):=if_pos ⟨h0,h3⟩
theorem stepT_tup {t:Ty} {p:Pr} (h1:p.1=1) (h4:t.kind=4) {k:Nat} {x:Int} (hk:p.2=(k:Int)) (hx:t.fields[k]?=some x):stepT t p=(x,0):=by
 have hl:=(List.getElem?_eq_some_iff.1 hx).1
 unfold stepT
 rw [if_neg (by omega),if_pos ⟨h1,h4⟩,if_pos (by omega),hk,Int.toNat_natCast,List.getD_eq_getElem?_getD,hx]
 rfl
theorem stepT_out {t:Ty} {p:Pr} (h1:p.1=1) (h4:t.kind=4) (h:¬(0≤p.2∧p.2 < (t.fields.length:Int))):stepT t p=(0,3):=by
 unfold stepT
 rw [if_neg (by omega),if_pos ⟨h1,h4⟩,if_neg h]
theorem stepT_bad {t:Ty} {p:Pr} (h:¬(p.1=0∧t.kind=3)) (h':¬(p.1=1∧t.kind=4)):stepT t p=(0,22):=by
 unfold stepT
 rw [if_neg h,if_neg h']
theorem stepT_cases (t:Ty) (p:Pr):(p.1=0∧t.kind=3∧stepT t p=(t.elem,0))∨(p.1=1∧t.kind=4∧∃ (k:Nat) (x:Int),p.2=(k:Int)∧t.fields[k]?=some x∧stepT t p=(x,0))∨(p.1=1∧t.kind=4∧¬(0≤p.2∧p.2 < (t.fields.length:Int))∧stepT t p=(0,3))∨(¬(p.1=0∧t.kind=3)∧¬(p.1=1∧t.kind=4)∧stepT t p=(0,22)):=by
 by_cases h:p.1=0∧t.kind=3
 ·
  exact .inl ⟨h.1,h.2,stepT_ref h.1 h.2⟩
 by_cases h':p.1=1∧t.kind=4
 ·
  by_cases h2:0≤p.2∧p.2 < (t.fields.length:Int)
  ·
   have hx:t.fields[p.2.toNat]?=some (t.fields[p.2.toNat]'(by omega)):=List.getElem?_eq_getElem (by omega)
   exact .inr (.inl ⟨h'.1,h'.2,p.2.toNat,_,by omega,hx,stepT_tup h'.1 h'.2 (by omega) hx⟩)
  ·
   exact .inr (.inr (.inl ⟨h'.1,h'.2,h2,stepT_out h'.1 h'.2 h2⟩))
 ·
  exact .inr (.inr (.inr ⟨h,h',stepT_bad h h'⟩))
theorem stepT_err {t:Ty} {p:Pr} (h:(stepT t p).2≠0):stepT t p=(0,(stepT t p).2):=by
 rcases stepT_cases t p with ⟨_,_,e⟩ | ⟨_,_,_,_,_,_,e⟩ | ⟨_,_,_,e⟩ | ⟨_,_,e⟩ <;> rw [e] at h ⊢ <;> first | rfl | exact absurd rfl h
theorem stepT_part {t:Ty} {p:Pr} (h:(stepT t p).2=0):(stepT t p).1∈tyParts t:=by
 rcases stepT_cases t p with ⟨_,k,e⟩ | ⟨_,k,_,_,_,hx,e⟩ | ⟨_,_,_,e⟩ | ⟨_,_,e⟩
 ·
  rw [e,tyParts_ref k];simp
 ·
  rw [e,tyParts_tup k];exact List.mem_of_getElem? hx
 ·
  rw [e] at h;cases h
 ·
  rw [e] at h;cases h
def tyGet (T:List Ty) (i:Int):Ty:=T.getD i.toNat ⟨0,false,0,0,[]⟩
theorem tyGet_at {T:List Ty} {i:Nat} {t:Ty} (h:T[i]?=some t):tyGet T (i:Int)=t:=by
 unfold tyGet
 rw [Int.toNat_natCast,List.getD_eq_getElem?_getD,h]
 rfl
def goL (T:List Ty):Int→List Pr→Int×Int
 | t,[]=>(t,0)
 | t,p :: ps=>if (stepT (tyGet T t) p).2=0 then goL T (stepT (tyGet T t) p).1 ps else (0,(stepT (tyGet T t) p).2)
theorem goL_snoc (T:List Ty):∀ (ps:List Pr) (t:Int) (p:Pr),goL T t (ps++[p])=if (goL T t ps).2=0 then stepT (tyGet T (goL T t ps).1) p else (0,(goL T t ps).2)
 | [],t,p=>by
  show (if (stepT (tyGet T t) p).2=0 then ((stepT (tyGet T t) p).1,0) else (0,(stepT (tyGet T t) p).2))=if (0:Int)=0 then stepT (tyGet T t) p else _
  rw [if_pos rfl]
  by_cases h:(stepT (tyGet T t) p).2=0
  ·
   rw [if_pos h,← h]
  ·
   rw [if_neg h];exact (stepT_err h).symm
 | q :: ps,t,p=>by
  show (if (stepT (tyGet T t) q).2=0 then goL T (stepT (tyGet T t) q).1 (ps++[p]) else (0,(stepT (tyGet T t) q).2))=_
  by_cases h:(stepT (tyGet T t) q).2=0
  ·
   have e:goL T t (q :: ps)=goL T (stepT (tyGet T t) q).1 ps:=if_pos h
   rw [if_pos h,e,goL_snoc T ps]
  ·
   have e:goL T t (q :: ps)=(0,(stepT (tyGet T t) q).2):=if_neg h
   rw [if_neg h,e,if_neg h]
def tyA (T:List Ty) (t:Int) (ps:List Pr) (n:Nat):Int:=(goL T t (ps.take n)).1
def erA (T:List Ty) (t:Int) (ps:List Pr) (n:Nat):Int:=(goL T t (ps.take n)).2
theorem tyA_zero (T:List Ty) (t:Int) (ps:List Pr):tyA T t ps 0=t:=rfl
theorem erA_zero (T:List Ty) (t:Int) (ps:List Pr):erA T t ps 0=0:=rfl
theorem plTake_snoc {l:List Pr} {k:Nat} {p:Pr} (h:l[k]?=some p):l.take (k+1)=l.take k++[p]:=by
 rw [List.take_add_one,h];rfl
theorem goA_up {T:List Ty} {t:Int} {ps:List Pr} {n:Nat} {p:Pr} (h:ps[n]?=some p):goL T t (ps.take (n+1))=if erA T t ps n=0 then stepT (tyGet T (tyA T t ps n)) p else (0,erA T t ps n):=by
 rw [plTake_snoc h,goL_snoc];rfl
theorem erA_up {T:List Ty} {t:Int} {ps:List Pr} {n:Nat} {p:Pr} (h:ps[n]?=some p) (h0:erA T t ps n=0):tyA T t ps (n+1)=(stepT (tyGet T (tyA T t ps n)) p).1∧erA T t ps (n+1)=(stepT (tyGet T (tyA T t ps n)) p).2:=by
 unfold tyA
 rw [show erA T t ps (n+1)=(goL T t (ps.take (n+1))).2 from rfl,goA_up h,if_pos h0]
 exact ⟨rfl,rfl⟩
theorem erA_stays {T:List Ty} {t:Int} {ps:List Pr} {n:Nat} (h:erA T t ps n≠0):∀ m,n≤m→goL T t (ps.take m)=(0,erA T t ps n)
 | 0,hm=>by
  obtain rfl:n=0:=by omega
  exact absurd (erA_zero T t ps) h
 | m+1,hm=>by
  have key:∀ k,n=k+1→goL T t (ps.take n)=(0,erA T t ps n):=by
   intro k hk
   subst hk
   cases hp:ps[k]? with
   | none=>
    have e:ps.take (k+1)=ps.take k:=by rw [List.take_of_length_le (by have:=List.getElem?_eq_none_iff.1 hp;omega),List.take_of_length_le (by have:=List.getElem?_eq_none_iff.1 hp;omega)]
    have e1:erA T t ps (k+1)=erA T t ps k:=by unfold erA;rw [e]
    have e2:=erA_stays (n:=k) (by rw [←e1];exact h) k (Nat.le_refl _)
    rw [e,e2,e1]
   | some p=>
    have e:=goA_up (T:=T) (t:=t) hp
    by_cases h0:erA T t ps k=0
    ·
     rw [if_pos h0] at e
     have e1:erA T t ps (k+1)=(stepT (tyGet T (tyA T t ps k)) p).2:=(erA_up hp h0).2
     rw [e,e1]
     exact stepT_err (by rw [←e1];exact h)
    ·
     rw [if_neg h0] at e
     have e1:erA T t ps (k+1)=erA T t ps k:=by show (goL T t (ps.take (k+1))).2=_;rw [e]
     rw [e,e1]
  rcases Nat.eq_or_lt_of_le hm with e | hlt
  ·
   exact e ▸ key m e
  ·
   have ih:=erA_stays h m (by omega)
   cases hp:ps[m]? with
   | none=>
    have e:ps.take (m+1)=ps.take m:=by rw [List.take_of_length_le (by have:=List.getElem?_eq_none_iff.1 hp;omega),List.take_of_length_le (by have:=List.getElem?_eq_none_iff.1 hp;omega)]
    rw [e,ih]
   | some p=>
    have e0:erA T t ps m=erA T t ps n:=by show (goL T t (ps.take m)).2=_;rw [ih]
    rw [goA_up hp,if_neg (by rw [e0];exact h),e0]
structure Stp (T:List Ty) (t:Int) (ps:List Pr) (n:Nat):Prop where
 le:n≤ps.length
 ok:erA T t ps n=0
theorem Stp.zero (T:List Ty) (t:Int) (ps:List Pr):Stp T t ps 0:=⟨Nat.zero_le _,erA_zero T t ps⟩
theorem Stp.down {T:List Ty} {t:Int} {ps:List Pr} {n m:Nat} (h:Stp T t ps n) (hm:m≤n):Stp T t ps m:=⟨by have:=h.le;omega,by
 by_cases h0:erA T t ps m=0
 ·
  exact h0
 ·
  have e:=erA_stays h0 n hm
  have:=h.ok
  unfold erA at this
  rw [e] at this
  exact absurd this h0⟩
theorem Stp.lt {T:List Ty} {r t:Int} {ps:List Pr} (hT:TyOk T r) (h0:0≤t) (h1:t < (T.length:Int)):∀ {n:Nat},Stp T t ps n→∃ (i:Nat) (u:Ty),tyA T t ps n=(i:Int)∧T[i]?=some u
 | 0,_=>⟨t.toNat,_,by rw [tyA_zero];omega,List.getElem?_eq_getElem (by omega)⟩
 | n+1,h=>by
  obtain ⟨i,u,hi,hu⟩:=Stp.lt hT h0 h1 (h.down (Nat.le_succ n))
  have hn:=h.le
  have hp:ps[n]?=some (ps[n]'(by omega)):=List.getElem?_eq_getElem (by omega)
  obtain ⟨e1,e2⟩:=erA_up (T:=T) (t:=t) hp (h.down (Nat.le_succ n)).ok
  rw [hi,tyGet_at hu] at e1 e2
  have hm:=stepT_part (t:=u) (p:=ps[n]'(by omega)) (by rw [←e2];exact h.ok)
  obtain ⟨q,v,hq,_,hv⟩:=hT.elem hu hm
  exact ⟨q,v,by rw [e1,hq],hv⟩
def Cells {α:Type} (w:World) (B:Nat) (k:Nat) (f:α→List Value) (A:Option Addr) (n:Nat) (L:List α):Prop:=
 L.length=n∧(0 < n→∃ b o,A=some ⟨b,o,none⟩∧b < B∧∀ (i:Nat) (x:α),L[i]?=some x→∀ j u,(f x)[j]?=some u→w.cell? ⟨b,o+i*k+j,none⟩=some u)
theorem Cells.below {α:Type} {w w':World} {B k:Nat} {f:α→List Value} {A:Option Addr} {n:Nat} {L:List α} (h:Cells w B k f A n L) (hb:Below B w w'):Cells w' B k f A n L:=
 ⟨h.1,fun hn=>by
  obtain ⟨b,o,h1,h2,h3⟩:=h.2 hn
  exact ⟨b,o,h1,h2,fun i x hx j u hu=>(hb.cell (p:=⟨b,o+i*k+j,none⟩) h2).trans (h3 i x hx j u hu)⟩⟩
theorem Cells.more {α:Type} {w:World} {B B' k:Nat} {f:α→List Value} {A:Option Addr} {n:Nat} {L:List α} (h:Cells w B k f A n L) (hb:B≤B'):Cells w B' k f A n L:=
 ⟨h.1,fun hn=>by
  obtain ⟨b,o,h1,h2,h3⟩:=h.2 hn
  exact ⟨b,o,h1,by omega,h3⟩⟩
theorem Cells.at_ {α:Type} {w:World} {B k:Nat} {f:α→List Value} {A:Option Addr} {n:Nat} {L:List α} (h:Cells w B k f A n L) {i:Nat} {x:α} (hx:L[i]?=some x) :
  ∃ b o,A=some ⟨b,o,none⟩∧b < B∧∀ j u,(f x)[j]?=some u→w.cell? ⟨b,o+i*k+j,none⟩=some u:=by
 have hi:i < L.length:=by
  rcases Nat.lt_or_ge i L.length with h' | h'
  ·
   exact h'
  ·
   rw [List.getElem?_eq_none h'] at hx;cases hx
 obtain ⟨b,o,h1,h2,h3⟩:=h.2 (by have:=h.1;omega)
 exact ⟨b,o,h1,h2,h3 i x hx⟩
theorem flatMap_at {α:Type} {f:α→List Value} {k:Nat} (hk:∀ x,(f x).length=k):∀ {L:List α} {i:Nat} {x:α} {j:Nat},L[i]?=some x→j < k→(L.flatMap f)[i*k+j]?=(f x)[j]?
 | [],i,x,j,h,_=>by simp at h
 | y :: L,0,x,j,h,hj=>by
  simp at h
  subst h
  rw [List.flatMap_cons,Nat.zero_mul,Nat.zero_add,List.getElem?_append_left (by rw [hk];exact hj)]
 | y :: L,i+1,x,j,h,hj=>by
  have h':L[i]?=some x:=by simpa using h
  have ih:=flatMap_at hk h' hj
  have e:(i+1)*k+j=k+(i*k+j):=by rw [Nat.add_mul];omega
  rw [List.flatMap_cons,e,List.getElem?_append_right (by rw [hk];omega),hk,Nat.add_sub_cancel_left,ih]
theorem flatMap_len {α:Type} {f:α→List Value} {k:Nat} (hk:∀ x,(f x).length=k) (L:List α):(L.flatMap f).length=L.length*k:=by
 induction L with
 | nil=>simp
 | cons y L ih=>rw [List.flatMap_cons,List.length_append,ih,hk,List.length_cons,Nat.add_mul];omega
theorem Cells.of_own {α:Type} {w:World} {base k:Nat} {e:TypeId} {f:α→List Value} (hk:∀ x,(f x).length=k) (h0:0 < k) {A:Option Addr} {n c:Nat} {L:List α} (h:w.ownsRow base e k (.slice A n c) n (L.flatMap f)):Cells w w.heap.size k f A n L:=by
 have hl:L.length=n:=by
  have:=h.1
  rw [flatMap_len hk] at this
  exact Nat.eq_of_mul_eq_mul_right h0 this
 refine ⟨hl,fun hn=>?_⟩
 obtain ⟨g,cap,hv,_,hlt⟩:=h.form hn
 have hA:A=some ⟨g,0,none⟩:=by injection hv
 subst hA
 refine ⟨g,0,rfl,hlt,fun i x hx j u hu=>?_⟩
 have hj:j < k:=by
  rcases Nat.lt_or_ge j k with h' | h'
  ·
   exact h'
  ·
   rw [List.getElem?_eq_none (by rw [hk];exact h')] at hu;cases hu
 have:=h.cells (g:=g) rfl (i*k+j) u (by rw [flatMap_at hk hx hj];exact hu)
 unfold Addr.add at this
 split at this <;> simp_all
abbrev i64s (xs:List Int):List Value:=xs.map (Value.int .i64)
def IntR (x:Int):Prop:=-9223372036854775808≤x∧x≤9223372036854775807
structure TyW where
 t:Ty
 A:Option Addr
 n:Nat
 c:Nat
structure TyW.ok (x:TyW):Prop where
 nc:x.n≤x.c
 cm:x.c≤maxLen
 len:x.t.fields.length=x.n
 k:IntR x.t.kind
 r:IntR x.t.region
 e:IntR x.t.elem
 f:∀ y∈x.t.fields,IntR y
def c5 (x:TyW):List Value:=[.int .i64 x.t.kind,.bool x.t.mut_,.int .i64 x.t.region,.int .i64 x.t.elem,.slice x.A x.n x.c]
theorem c5_len (x:TyW):(c5 x).length=5:=rfl
structure OneT (w:World) (B:Nat) (x:TyW):Prop where
 ok:x.ok
 rd:Rd w B x.A x.n (i64s x.t.fields)
theorem OneT.below {w w':World} {B:Nat} {x:TyW} (h:OneT w B x) (hb:Below B w w'):OneT w' B x:=⟨h.ok,h.rd.below hb⟩
theorem OneT.more {w:World} {B B':Nat} {x:TyW} (h:OneT w B x) (hb:B≤B'):OneT w B' x:=⟨h.ok,h.rd.more hb⟩
structure Typs (w:World) (B:Nat) (A:Option Addr) (n:Nat) (L:List TyW):Prop where
 cells:Cells w B 5 c5 A n L
 one:∀ x∈L,OneT w B x
theorem Typs.below {w w':World} {B:Nat} {A:Option Addr} {n:Nat} {L:List TyW} (h:Typs w B A n L) (hb:Below B w w'):Typs w' B A n L:=⟨h.cells.below hb,fun x hx=>(h.one x hx).below hb⟩
theorem Typs.more {w:World} {B B':Nat} {A:Option Addr} {n:Nat} {L:List TyW} (h:Typs w B A n L) (hb:B≤B'):Typs w B' A n L:=⟨h.cells.more hb,fun x hx=>(h.one x hx).more hb⟩
theorem Typs.len {w:World} {B:Nat} {A:Option Addr} {n:Nat} {L:List TyW} (h:Typs w B A n L):L.length=n:=h.cells.1
theorem Typs.nil (w:World) (B:Nat) (A:Option Addr):Typs w B A 0 []:=⟨⟨rfl,fun h=>absurd h (by omega)⟩,fun x hx=>by cases hx⟩
theorem Typs.at_ {w:World} {B:Nat} {A:Option Addr} {n:Nat} {L:List TyW} (h:Typs w B A n L) {i:Nat} {x:TyW} (hx:L[i]?=some x) :
  ∃ b o,A=some ⟨b,o,none⟩∧b < B∧OneT w B x∧w.cell? ⟨b,o+i*5,none⟩=some (.int .i64 x.t.kind)∧w.cell? ⟨b,o+i*5+1,none⟩=some (.bool x.t.mut_) ∧
   w.cell? ⟨b,o+i*5+2,none⟩=some (.int .i64 x.t.region)∧w.cell? ⟨b,o+i*5+3,none⟩=some (.int .i64 x.t.elem)∧w.cell? ⟨b,o+i*5+4,none⟩=some (.slice x.A x.n x.c):=by
 obtain ⟨b,o,h1,h2,h3⟩:=h.cells.at_ hx
 exact ⟨b,o,h1,h2,h.one x (List.mem_of_getElem? hx),h3 0 _ rfl,h3 1 _ rfl,h3 2 _ rfl,h3 3 _ rfl,h3 4 _ rfl⟩
theorem Typs.take {w:World} {B:Nat} {A:Option Addr} {n:Nat} {L:List TyW} (h:Typs w B A n L) {k:Nat} (hk:k≤n):Typs w B A k (L.take k):=by
 have hl:=h.len
 refine ⟨⟨by rw [List.length_take];omega,fun h0=>?_⟩,fun x hx=>h.one x (List.mem_of_mem_take hx)⟩
 obtain ⟨b,o,h1,h2,h3⟩:=h.cells.2 (by omega)
 refine ⟨b,o,h1,h2,fun i x hx=>h3 i x ?_⟩
 rw [List.getElem?_take] at hx
 split at hx
 ·
  exact hx
 ·
  cases hx
abbrev tys (L:List TyW):List Ty:=L.map TyW.t
theorem Rd.int {w:World} {B n:Nat} {A:Option Addr} {xs:List Int} (h:Rd w B A n (i64s xs)) {k:Nat} {x:Int} (hx:xs[k]?=some x):∃ b o,A=some ⟨b,o,none⟩∧b < B∧w.cell? ⟨b,o+k,none⟩=some (.int .i64 x):=
 h.cell (by rw [List.getElem?_map,hx];rfl)
theorem Rd.ilen {w:World} {B n:Nat} {A:Option Addr} {xs:List Int} (h:Rd w B A n (i64s xs)):xs.length=n:=by have:=h.len;simpa using this
theorem tyN {B:Nat} {w w':World} (h:Below B w w') (n:Nat):Below B w (w'.drewN n):=⟨h.os,h.tape,h.output,h.size,h.block⟩
def eqIs (xs ys:List Int):Bool:=decide (xs=ys)
theorem eqIs_iff {xs ys:List Int}:eqIs xs ys=true↔xs=ys:=by simp [eqIs]
def eqUpto (xs ys:List Int) (k:Nat):Prop:=∀ j,j < k→xs[j]?=ys[j]?
theorem EqI_any (A B:Option Addr) (n m c d:Nat) (xs ys:List Int) (w:World) (k l:Nat) (hx:Rd w k A n (i64s xs)) (hy:Rd w l B m (i64s ys)) (hn:n≤maxLen) (hm:m≤maxLen) :
  Calls Try.prog 17 #[.slice A n c,.slice B m d] w fun e w'=>e=.returned (.bool (eqIs xs ys))∧Below w.heap.size w w':=by
 have hxl:=hx.ilen
 have hyl:=hy.ilen
 have HX:=hide hx
 have HY:=hide hy
 have HXL:=hide hxl
 have HYL:=hide hyl
 unfold maxLen at hn hm
 clear hx hy
 by_cases hnm:n=m
 ·
  subst hnm
  clear hxl hyl
  go_enter Try.func17,Try.ntmps17
  go_wp2
  go_loopw [13] (fun i wr=>∃ j:Nat,i=.int .i64 (j:Int)∧j≤n∧Hid (eqUpto xs ys j)∧Below w.heap.size w wr∧(∀ p,wr.cell? p=w.cell? p)) (fun i _=>n - (intOf i).toNat)
  case atStart=>exact ⟨0,rfl,Nat.zero_le _,fun j h=>absurd h (by omega),Below.refl _ _,fun _=>rfl⟩
  case round=>
   obtain ⟨j,rfl,hj,HE,hb,hc⟩:=hrel
   have HB:=hide hb
   have HC:=hide hc
   clear hb hc
   by_cases hlt:j < n
   ·
    have hex:∃ a,xs[j]?=some a:=⟨_,List.getElem?_eq_getElem (by have:=HXL.out;omega)⟩
    obtain ⟨a,ha⟩:=hex
    have hex:∃ a,ys[j]?=some a:=⟨_,List.getElem?_eq_getElem (by have:=HYL.out;omega)⟩
    obtain ⟨b,hb⟩:=hex
    obtain ⟨g,o,rfl,_,c0⟩:=HX.out.int ha
    obtain ⟨g',o',rfl,_,c1⟩:=HY.out.int hb
    rw [←HC.out] at c0 c1
    have hlt':(j:Int) < (n:Int):=by omega
    have HA':=hide ha
    have HB':=hide hb
    clear ha hb
    by_cases hab:a=b
    ·
     subst hab
     have e1:((a:Int) != (a:Int))=false:=by simp
     have HE2:=hide (show eqUpto xs ys (j+1) from fun i hi=>by
      rcases Nat.lt_or_ge i j with h | h
      ·
       exact HE.out i h
      ·
       obtain rfl:i=j:=by omega
       rw [HA'.out,HB'.out])
     go_wp2
     go_quiet (fail)
     go_wp2
     go_roundw
     case rel=>exact ⟨j+1,by go_num,by omega,HE2.out,tyN HB.out _,HC.out⟩
     case measure=>simp [intOf];omega
    ·
     have e1:((a:Int) != (b:Int))=true:=by simp [hab]
     have HF:=hide (show eqIs xs ys=false by
      cases h:eqIs xs ys
      ·
       rfl
      ·
       rw [eqIs_iff] at h
       subst h
       have h1:=HA'.out
       rw [HB'.out] at h1
       injection h1 with h1
       exact absurd h1.symm hab)
     clear hab
     go_wp2
     go_quiet (fail)
     go_wp2
     go_ret
     exact ⟨congrArg (fun v=>Ending.returned (.bool v)) HF.out.symm,tyN HB.out _⟩
   ·
    obtain rfl:j=n:=by omega
    have HF:=hide (show eqIs xs ys=true by
     rw [eqIs_iff]
     refine List.ext_getElem? fun i=>?_
     rcases Nat.lt_or_ge i j with h | h
     ·
      exact HE.out i h
     ·
      rw [List.getElem?_eq_none (by have:=HXL.out;omega),List.getElem?_eq_none (by have:=HYL.out;omega)])
    go_wp2
    go_ret
    exact ⟨congrArg (fun v=>Ending.returned (.bool v)) HF.out.symm,HB.out⟩
 ·
  have e1:((n:Int) != (m:Int))=true:=by simp;omega
  have HF:=hide (show eqIs xs ys=false by
   cases h:eqIs xs ys
   ·
    rfl
   ·
    rw [eqIs_iff] at h
    subst h
    omega)
  clear hxl hyl
  go_enter Try.func17,Try.ntmps17
  go_wp2
  go_ret
  exact ⟨congrArg (fun v=>Ending.returned (.bool v)) HF.out.symm,Below.refl _ _⟩
def pV (p:Pr):List Value:=[.int .i64 p.1,.int .i64 p.2]
theorem pV_len (p:Pr):(pV p).length=2:=rfl
def IntP (p:Pr):Prop:=IntR p.1∧IntR p.2
structure Prs (w:World) (B:Nat) (A:Option Addr) (n:Nat) (L:List Pr):Prop where
 cells:Cells w B 2 pV A n L
 int:∀ p∈L,IntP p
theorem Prs.below {w w':World} {B:Nat} {A:Option Addr} {n:Nat} {L:List Pr} (h:Prs w B A n L) (hb:Below B w w'):Prs w' B A n L:=⟨h.cells.below hb,h.int⟩
theorem Prs.more {w:World} {B B':Nat} {A:Option Addr} {n:Nat} {L:List Pr} (h:Prs w B A n L) (hb:B≤B'):Prs w B' A n L:=⟨h.cells.more hb,h.int⟩
theorem Prs.len {w:World} {B:Nat} {A:Option Addr} {n:Nat} {L:List Pr} (h:Prs w B A n L):L.length=n:=h.cells.1
theorem Prs.at_ {w:World} {B:Nat} {A:Option Addr} {n:Nat} {L:List Pr} (h:Prs w B A n L) {i:Nat} {p:Pr} (hp:L[i]?=some p) :
  ∃ b o,A=some ⟨b,o,none⟩∧b < B∧IntP p∧w.cell? ⟨b,o+i*2,none⟩=some (.int .i64 p.1)∧w.cell? ⟨b,o+i*2+1,none⟩=some (.int .i64 p.2):=by
 obtain ⟨b,o,h1,h2,h3⟩:=h.cells.at_ hp
 exact ⟨b,o,h1,h2,h.int p (List.mem_of_getElem? hp),h3 0 _ rfl,h3 1 _ rfl⟩
theorem Prs.get {w:World} {B:Nat} {A:Option Addr} {n:Nat} {L:List Pr} (h:Prs w B A n L) {i:Nat} (hi:i < n):∃ p,L[i]?=some p:=⟨_,List.getElem?_eq_getElem (by have:=h.len;omega)⟩
structure LcW where
 name:ByteArray
 ty:Int
def cLc (x:LcW):List Value:=[.string x.name,.int .i64 x.ty]
theorem cLc_len (x:LcW):(cLc x).length=2:=rfl
structure Locs (w:World) (B:Nat) (A:Option Addr) (n:Nat) (L:List LcW):Prop where
 cells:Cells w B 2 cLc A n L
 int:∀ x∈L,IntR x.ty
theorem Locs.below {w w':World} {B:Nat} {A:Option Addr} {n:Nat} {L:List LcW} (h:Locs w B A n L) (hb:Below B w w'):Locs w' B A n L:=⟨h.cells.below hb,h.int⟩
theorem Locs.more {w:World} {B B':Nat} {A:Option Addr} {n:Nat} {L:List LcW} (h:Locs w B A n L) (hb:B≤B'):Locs w B' A n L:=⟨h.cells.more hb,h.int⟩
theorem Locs.len {w:World} {B:Nat} {A:Option Addr} {n:Nat} {L:List LcW} (h:Locs w B A n L):L.length=n:=h.cells.1
theorem Locs.at_ {w:World} {B:Nat} {A:Option Addr} {n:Nat} {L:List LcW} (h:Locs w B A n L) {i:Nat} {x:LcW} (hp:L[i]?=some x) :
 ∃ b o,A=some ⟨b,o,none⟩∧b < B∧w.cell? ⟨b,o+i*2,none⟩=some (.string x.name)∧w.cell? ⟨b,o+i*2+1,none⟩=some (.int .i64 x.ty):=by
 obtain ⟨b,o,h1,h2,h3⟩:=h.cells.at_ hp
 exact ⟨b,o,h1,h2,h3 0 _ rfl,h3 1 _ rfl⟩
structure PlW where
 l:Int
 A:Option Addr
 n:Nat
 c:Nat
 ps:List Pr
structure OnePl (w:World) (B:Nat) (x:PlW):Prop where
 nc:x.n≤x.c
 cm:x.c≤maxLen
 l:IntR x.l
 prs:Prs w B x.A x.n x.ps
theorem OnePl.below {w w':World} {B:Nat} {x:PlW} (h:OnePl w B x) (hb:Below B w w'):OnePl w' B x:=⟨h.nc,h.cm,h.l,h.prs.below hb⟩
theorem OnePl.more {w:World} {B B':Nat} {x:PlW} (h:OnePl w B x) (hb:B≤B'):OnePl w B' x:=⟨h.nc,h.cm,h.l,h.prs.more hb⟩
theorem OnePl.up {w w':World} {x:PlW} (h:OnePl w w.heap.size x) (hb:Below w.heap.size w w'):OnePl w' w'.heap.size x:=(h.below hb).more hb.size
theorem Typs.up {w w':World} {A:Option Addr} {n:Nat} {L:List TyW} (h:Typs w w.heap.size A n L) (hb:Below w.heap.size w w'):Typs w' w'.heap.size A n L:=(h.below hb).more hb.size
theorem Locs.up {w w':World} {A:Option Addr} {n:Nat} {L:List LcW} (h:Locs w w.heap.size A n L) (hb:Below w.heap.size w w'):Locs w' w'.heap.size A n L:=(h.below hb).more hb.size
def PlW.take (x:PlW) (k:Nat):PlW:=⟨x.l,x.A,k,x.c,x.ps.take k⟩
theorem Prs.take {w:World} {B:Nat} {A:Option Addr} {n:Nat} {L:List Pr} (h:Prs w B A n L) {k:Nat} (hk:k≤n):Prs w B A k (L.take k):=by
 have hl:=h.len
 refine ⟨⟨by rw [List.length_take];omega,fun h0=>?_⟩,fun p hp=>h.int p (List.mem_of_mem_take hp)⟩
 obtain ⟨b,o,h1,h2,h3⟩:=h.cells.2 (by omega)
 refine ⟨b,o,h1,h2,fun i x hx=>h3 i x ?_⟩
 rw [List.getElem?_take] at hx
 split at hx
 ·
  exact hx
 ·
  cases hx
theorem OnePl.take {w:World} {B:Nat} {x:PlW} (h:OnePl w B x) {k:Nat} (hk:k≤x.n):OnePl w B (x.take k):=⟨Nat.le_trans hk h.nc,h.cm,h.l,h.prs.take hk⟩
structure SlW (α:Type) where
 A:Option Addr
 n:Nat
 c:Nat
 L:List α
abbrev SlW.val {α:Type} (s:SlW α):Value:=.slice s.A s.n s.c
structure SlH {α:Type} (w:World) (B:Nat) (k:Nat) (f:α→List Value) (Q:α→Prop) (s:SlW α):Prop where
 nc:s.n≤s.c
 cm:s.c≤maxLen
 cells:Cells w B k f s.A s.n s.L
 all:∀ x∈s.L,Q x
section
variable {α:Type} {w w':World} {B B' k:Nat} {f:α→List Value} {Q Q':α→Prop} {s:SlW α}
theorem SlH.below (h:SlH w B k f Q s) (hb:Below B w w') (hQ:∀ x,Q x→Q' x):SlH w' B k f Q' s:=⟨h.nc,h.cm,h.cells.below hb,fun x hx=>hQ x (h.all x hx)⟩
theorem SlH.more (h:SlH w B k f Q s) (hb:B≤B') (hQ:∀ x,Q x→Q' x):SlH w B' k f Q' s:=⟨h.nc,h.cm,h.cells.more hb,fun x hx=>hQ x (h.all x hx)⟩
theorem SlH.len (h:SlH w B k f Q s):s.L.length=s.n:=h.cells.1
theorem SlH.nm (h:SlH w B k f Q s):s.n≤maxLen:=Nat.le_trans h.nc h.cm
theorem SlH.get (h:SlH w B k f Q s) {i:Nat} (hi:i < s.n):∃ x,s.L[i]?=some x:=⟨_,List.getElem?_eq_getElem (by have:=h.len;omega)⟩
theorem SlH.at_ (h:SlH w B k f Q s) {i:Nat} {x:α} (hx:s.L[i]?=some x):∃ b o,s.A=some ⟨b,o,none⟩∧b < B∧Q x∧∀ j u,(f x)[j]?=some u→w.cell? ⟨b,o+i*k+j,none⟩=some u:=by
 obtain ⟨b,o,h1,h2,h3⟩:=h.cells.at_ hx
 exact ⟨b,o,h1,h2,h.all x (List.mem_of_getElem? hx),h3⟩
end
def cInt (x:Int):List Value:=[.int .i64 x]
def cStr (s:ByteArray):List Value:=[.string s]
abbrev Ints (w:World) (B:Nat) (s:SlW Int):Prop:=SlH w B 1 cInt IntR s
abbrev Strs (w:World) (B:Nat) (s:SlW ByteArray):Prop:=SlH w B 1 cStr (fun x=>x.size≤maxLen) s
theorem Ints.rd {w:World} {B:Nat} {s:SlW Int} (h:Ints w B s):Rd w B s.A s.n (i64s s.L):=by
 refine ⟨by rw [List.length_map];exact h.len,fun hn=>?_⟩
 obtain ⟨b,o,h1,h2,h3⟩:=h.cells.2 hn
 refine ⟨b,o,h1,h2,fun j u hu=>?_⟩
 rw [List.getElem?_map] at hu
 cases hx:s.L[j]? with
 | none=>rw [hx] at hu;cases hu
 | some x=>
  rw [hx] at hu
  injection hu with hu
  have:=h3 j x hx 0 (.int .i64 x) rfl
  rw [←hu]
  simpa using this
structure PlV where
 l:Int
 ps:List Pr
structure OpV where
 kind:Int
 pl:PlV
 n:Int
structure RvV where
 kind:Int
 op:Int
 region:Int
 mut_:Bool
 pl:PlV
 args:List OpV
structure StV where
 kind:Int
 pl:PlV
 rv:RvV
 loc:Int
structure TmV where
 kind:Int
 targets:List Int
 args:List OpV
 pl:PlV
 name:ByteArray
structure BkV where
 stmts:List StV
 term:TmV
structure LcV where
 name:ByteArray
 ty:Int
structure BdV where
 name:ByteArray
 regions:List ByteArray
 outl:List Pr
 types:List Ty
 locals:List LcV
 args:Int
 blocks:List BkV
structure OpW where
 kind:Int
 pl:PlW
 n:Int
structure RvW where
 kind:Int
 op:Int
 region:Int
 mut_:Bool
 pl:PlW
 args:SlW OpW
structure StW where
 kind:Int
 pl:PlW
 rv:RvW
 loc:Int
structure TmW where
 kind:Int
 targets:SlW Int
 args:SlW OpW
 pl:PlW
 name:ByteArray
structure BkW where
 stmts:SlW StW
 term:TmW
structure BdW where
 name:ByteArray
 regions:SlW ByteArray
 outl:SlW Pr
 types:SlW TyW
 locals:SlW LcW
 args:Int
 blocks:SlW BkW
def PlW.v (x:PlW):PlV:=⟨x.l,x.ps⟩
def OpW.v (x:OpW):OpV:=⟨x.kind,x.pl.v,x.n⟩
def RvW.v (x:RvW):RvV:=⟨x.kind,x.op,x.region,x.mut_,x.pl.v,x.args.L.map OpW.v⟩
def StW.v (x:StW):StV:=⟨x.kind,x.pl.v,x.rv.v,x.loc⟩
def TmW.v (x:TmW):TmV:=⟨x.kind,x.targets.L,x.args.L.map OpW.v,x.pl.v,x.name⟩
def BkW.v (x:BkW):BkV:=⟨x.stmts.L.map StW.v,x.term.v⟩
def LcW.v (x:LcW):LcV:=⟨x.name,x.ty⟩
def BdW.v (x:BdW):BdV:=⟨x.name,x.regions.L,x.outl.L,tys x.types.L,x.locals.L.map LcW.v,x.args,x.blocks.L.map BkW.v⟩
def cOp (x:OpW):List Value:=[.int .i64 x.kind,.int .i64 x.pl.l,.slice x.pl.A x.pl.n x.pl.c,.int .i64 x.n]
def cSt (x:StW):List Value:=[.int .i64 x.kind,.int .i64 x.pl.l,.slice x.pl.A x.pl.n x.pl.c,.int .i64 x.rv.kind,.int .i64 x.rv.op,.int .i64 x.rv.region,.bool x.rv.mut_,.int .i64 x.rv.pl.l,.slice x.rv.pl.A x.rv.pl.n x.rv.pl.c,.slice x.rv.args.A x.rv.args.n x.rv.args.c,.int .i64 x.loc]
def cTm (x:TmW):List Value:=[.int .i64 x.kind,.slice x.targets.A x.targets.n x.targets.c,.slice x.args.A x.args.n x.args.c,.int .i64 x.pl.l,.slice x.pl.A x.pl.n x.pl.c,.string x.name]
def cBk (x:BkW):List Value:=[.slice x.stmts.A x.stmts.n x.stmts.c,.int .i64 x.term.kind,.slice x.term.targets.A x.term.targets.n x.term.targets.c,.slice x.term.args.A x.term.args.n x.term.args.c,.int .i64 x.term.pl.l,.slice x.term.pl.A x.term.pl.n x.term.pl.c,.string x.term.name]
def cBd (x:BdW):List Value:=[.string x.name,.slice x.regions.A x.regions.n x.regions.c,.slice x.outl.A x.outl.n x.outl.c,.slice x.types.A x.types.n x.types.c,.slice x.locals.A x.locals.n x.locals.c,.int .i64 x.args,.slice x.blocks.A x.blocks.n x.blocks.c]
theorem cOp_len (x:OpW):(cOp x).length=4:=rfl
theorem cSt_len (x:StW):(cSt x).length=11:=rfl
theorem cBk_len (x:BkW):(cBk x).length=7:=rfl
theorem cInt_len (x:Int):(cInt x).length=1:=rfl
theorem cStr_len (x:ByteArray):(cStr x).length=1:=rfl
abbrev aggTm (x:TmW):Value:=.agg #[.int .i64 x.kind,.slice x.targets.A x.targets.n x.targets.c,.slice x.args.A x.args.n x.args.c,.int .i64 x.pl.l,.slice x.pl.A x.pl.n x.pl.c,.string x.name]
abbrev aggBk (x:BkW):Value:=.agg #[.slice x.stmts.A x.stmts.n x.stmts.c,.int .i64 x.term.kind,.slice x.term.targets.A x.term.targets.n x.term.targets.c,.slice x.term.args.A x.term.args.n x.term.args.c,.int .i64 x.term.pl.l,.slice x.term.pl.A x.term.pl.n x.term.pl.c,.string x.term.name]
abbrev aggBd (x:BdW):Value:=.agg #[.string x.name,.slice x.regions.A x.regions.n x.regions.c,.slice x.outl.A x.outl.n x.outl.c,.slice x.types.A x.types.n x.types.c,.slice x.locals.A x.locals.n x.locals.c,.int .i64 x.args,.slice x.blocks.A x.blocks.n x.blocks.c]
structure OneOp (w:World) (B:Nat) (x:OpW):Prop where
 kind:IntR x.kind
 pl:OnePl w B x.pl
 n:IntR x.n
abbrev Ops (w:World) (B:Nat) (s:SlW OpW):Prop:=SlH w B 4 cOp (OneOp w B) s
structure OneRv (w:World) (B:Nat) (x:RvW):Prop where
 kind:IntR x.kind
 op:IntR x.op
 region:IntR x.region
 pl:OnePl w B x.pl
 args:Ops w B x.args
structure OneSt (w:World) (B:Nat) (x:StW):Prop where
 kind:IntR x.kind
 pl:OnePl w B x.pl
 rv:OneRv w B x.rv
 loc:IntR x.loc
structure OneTm (w:World) (B:Nat) (x:TmW):Prop where
 kind:IntR x.kind
 targets:Ints w B x.targets
 args:Ops w B x.args
 pl:OnePl w B x.pl
 name:x.name.size≤maxLen
structure OneBk (w:World) (B:Nat) (x:BkW):Prop where
 stmts:SlH w B 11 cSt (OneSt w B) x.stmts
 term:OneTm w B x.term
structure OneBd (w:World) (B:Nat) (x:BdW):Prop where
 name:x.name.size≤maxLen
 regions:Strs w B x.regions
 outl:SlH w B 2 pV IntP x.outl
 types:SlH w B 5 c5 (OneT w B) x.types
 locals:SlH w B 2 cLc (fun y=>IntR y.ty∧y.name.size≤maxLen) x.locals
 args:IntR x.args
 blocks:SlH w B 7 cBk (OneBk w B) x.blocks
section
variable {w w':World} {B B':Nat} (hb:Below B w w')
include hb
theorem OneOp.below {x:OpW} (h:OneOp w B x):OneOp w' B x:=⟨h.kind,h.pl.below hb,h.n⟩
theorem Ops.below {s:SlW OpW} (h:Ops w B s):Ops w' B s:=SlH.below h hb fun _ h=>h.below hb
theorem OneRv.below {x:RvW} (h:OneRv w B x):OneRv w' B x:=⟨h.kind,h.op,h.region,h.pl.below hb,Ops.below hb h.args⟩
theorem OneSt.below {x:StW} (h:OneSt w B x):OneSt w' B x:=⟨h.kind,h.pl.below hb,h.rv.below hb,h.loc⟩
theorem OneTm.below {x:TmW} (h:OneTm w B x):OneTm w' B x:=⟨h.kind,SlH.below h.targets hb fun _ h=>h,Ops.below hb h.args,h.pl.below hb,h.name⟩
theorem OneBk.below {x:BkW} (h:OneBk w B x):OneBk w' B x:=⟨SlH.below h.stmts hb fun _ h=>h.below hb,h.term.below hb⟩
theorem OneBd.below {x:BdW} (h:OneBd w B x):OneBd w' B x:=⟨h.name,SlH.below h.regions hb fun _ h=>h,SlH.below h.outl hb fun _ h=>h,SlH.below h.types hb fun _ h=>OneT.below h hb,SlH.below h.locals hb fun _ h=>h,h.args,SlH.below h.blocks hb fun _ h=>h.below hb⟩
end
section
variable {w:World} {B B':Nat} (hb:B≤B')
include hb
theorem OneOp.more {x:OpW} (h:OneOp w B x):OneOp w B' x:=⟨h.kind,h.pl.more hb,h.n⟩
theorem Ops.more {s:SlW OpW} (h:Ops w B s):Ops w B' s:=SlH.more h hb fun _ h=>h.more hb
theorem OneRv.more {x:RvW} (h:OneRv w B x):OneRv w B' x:=⟨h.kind,h.op,h.region,h.pl.more hb,Ops.more hb h.args⟩
theorem OneSt.more {x:StW} (h:OneSt w B x):OneSt w B' x:=⟨h.kind,h.pl.more hb,h.rv.more hb,h.loc⟩
theorem OneTm.more {x:TmW} (h:OneTm w B x):OneTm w B' x:=⟨h.kind,SlH.more h.targets hb fun _ h=>h,Ops.more hb h.args,h.pl.more hb,h.name⟩
theorem OneBk.more {x:BkW} (h:OneBk w B x):OneBk w B' x:=⟨SlH.more h.stmts hb fun _ h=>h.more hb,h.term.more hb⟩
theorem OneBd.more {x:BdW} (h:OneBd w B x):OneBd w B' x:=⟨h.name,SlH.more h.regions hb fun _ h=>h,SlH.more h.outl hb fun _ h=>h,SlH.more h.types hb fun _ h=>OneT.more h hb,SlH.more h.locals hb fun _ h=>h,h.args,SlH.more h.blocks hb fun _ h=>h.more hb⟩
end
theorem OneBd.up {w w':World} {x:BdW} (h:OneBd w w.heap.size x) (hb:Below w.heap.size w w'):OneBd w' w'.heap.size x:=(h.below hb).more hb.size
theorem OneBk.up {w w':World} {x:BkW} (h:OneBk w w.heap.size x) (hb:Below w.heap.size w w'):OneBk w' w'.heap.size x:=(h.below hb).more hb.size
theorem OneTm.up {w w':World} {x:TmW} (h:OneTm w w.heap.size x) (hb:Below w.heap.size w w'):OneTm w' w'.heap.size x:=(h.below hb).more hb.size
theorem OneSt.up {w w':World} {x:StW} (h:OneSt w w.heap.size x) (hb:Below w.heap.size w w'):OneSt w' w'.heap.size x:=(h.below hb).more hb.size
theorem OneRv.up {w w':World} {x:RvW} (h:OneRv w w.heap.size x) (hb:Below w.heap.size w w'):OneRv w' w'.heap.size x:=(h.below hb).more hb.size
theorem OneOp.up {w w':World} {x:OpW} (h:OneOp w w.heap.size x) (hb:Below w.heap.size w w'):OneOp w' w'.heap.size x:=(h.below hb).more hb.size
theorem Ops.up {w w':World} {s:SlW OpW} (h:Ops w w.heap.size s) (hb:Below w.heap.size w w'):Ops w' w'.heap.size s:=Ops.more hb.size (Ops.below hb h)
theorem OneBd.prs {w:World} {B:Nat} {x:BdW} (h:OneBd w B x):Prs w B x.outl.A x.outl.n x.outl.L:=⟨h.outl.cells,h.outl.all⟩
section
variable {α:Type}
def sumN (f:α→Nat) (l:List α):Nat:=(l.map f).sum
theorem sumN_nil (f:α→Nat):sumN f []=0:=rfl
theorem sumN_cons (f:α→Nat) (x:α) (l:List α):sumN f (x :: l)=f x+sumN f l:=by simp [sumN]
theorem sumN_append (f:α→Nat) (l m:List α):sumN f (l++m)=sumN f l+sumN f m:=by simp [sumN]
theorem sumN_up {f:α→Nat} {l:List α} {j:Nat} {p:α} (h:l[j]?=some p):sumN f (l.take (j+1))=sumN f (l.take j)+f p:=by
 rw [List.take_add_one,h,sumN_append]
 simp [sumN]
end
theorem wrapI9 (n:Int) (h0:-9223372036854775808≤n) (h1:n≤9223372036854775807):IntKind.i64.wrap n=n:=by
 simp [IntKind.wrap,IntKind.bits,IntKind.signed]
 omega
end Go.Proofs.Ytlbopbjdiehecaa
