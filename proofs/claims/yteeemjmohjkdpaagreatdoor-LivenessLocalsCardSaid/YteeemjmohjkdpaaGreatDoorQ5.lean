/- Part 6 of the contracts and their mathematics. -/
import Derived.Test.YteeemjmohjkdpaaGreatDoorQ4
import Derived.Lib.SlicesCompact
import Derived.Lib.Strings
import Derived.RangeFuncNested
import Derived.RangeFuncBound
import Derived.RangeFuncCalls
import Derived.RangeFuncLeaves
import Derived.RangeFuncWrites
import Derived.OwnWalkIn
import Derived.OrdersIn
import Derived.Shelf.Abstract
import Derived.TacticsInMore
import Derived.LoopNIn
import Derived.LoopIn
import Derived.Sort.QuietIn
import Derived.Stop.RegionWithIn
import Derived.Deep.RegionLaw
set_option linter.unusedVariables false
set_option linter.unusedSimpArgs false
set_option maxRecDepth 100000
set_option maxHeartbeats 4000000
namespace Go.Proofs.YteeemjmohjkdpaaGreatDoor
open Go.RowKit
def key (s:ByteArray):List UInt8:=s.data.toList
theorem key_inj {a b:ByteArray} (h:key a=key b):a=b:=by
 apply ByteArray.ext
 exact Array.ext' h
def ltS (a b:ByteArray):Bool:=Op.bytesLess (key a) (key b)
theorem bl_trans:∀ x y z:List UInt8,Op.bytesLess x y=true→Op.bytesLess y z=true→Op.bytesLess x z=true
 | _,[],_,h,_=>by simp [Op.bytesLess] at h
 | _,_ :: _,[],_,h=>by simp [Op.bytesLess] at h
 | [],_ :: _,_ :: _,_,_=>rfl
 | a :: x,b :: y,c :: z,h,k=>by
  simp only [Op.bytesLess,Bool.or_eq_true,Bool.and_eq_true,decide_eq_true_eq,beq_iff_eq] at h k ⊢
  rcases h with h | ⟨rfl,h⟩
  ·
   rcases k with k | ⟨rfl,k⟩
   ·
    exact .inl (UInt8.lt_trans h k)
   ·
    exact .inl h
  ·
   rcases k with k | ⟨rfl,k⟩
   ·
    exact .inl k
   ·
    exact .inr ⟨rfl,bl_trans x y z h k⟩
theorem bl_tri:∀ x y:List UInt8,Op.bytesLess x y=false→Op.bytesLess y x=false→x=y
 | [],[],_,_=>rfl
 | [],_ :: _,h,_=>by simp [Op.bytesLess] at h
 | _ :: _,[],_,h=>by simp [Op.bytesLess] at h
 | a :: x,b :: y,h,k=>by
  simp only [Op.bytesLess,Bool.or_eq_false_iff,Bool.and_eq_false_iff,decide_eq_false_iff_not,beq_eq_false_iff_ne] at h k
  have e:a=b:=by
   apply UInt8.le_antisymm
   ·
    exact UInt8.not_lt.1 k.1
   ·
    exact UInt8.not_lt.1 h.1
  subst e
  rw [bl_tri x y (h.2.resolve_left (by simp)) (k.2.resolve_left (by simp))]
theorem ltS_trans {a b c:ByteArray} (h:ltS a b=true) (k:ltS b c=true):ltS a c=true:=bl_trans _ _ _ h k
theorem ltS_tri {a b:ByteArray} (h:ltS a b=false) (k:ltS b a=false):a=b:=key_inj (bl_tri _ _ h k)
def Asc (L:List ByteArray):Prop:=L.Pairwise fun a b=>ltS a b=true
def insS:List ByteArray→ByteArray→List ByteArray
 | [],s=>[s]
 | x :: L,s=>if ltS s x then s :: x :: L else if s=x then x :: L else x :: insS L s
theorem insS_mem {s z:ByteArray}:∀ {L:List ByteArray},z∈insS L s↔z=s∨z∈L
 | []=>by simp [insS]
 | x :: L=>by
  unfold insS
  split
  ·
   simp
  ·
   split
   ·
    rename_i e;subst e;simp
   ·
    rw [List.mem_cons,insS_mem,List.mem_cons]
    constructor <;> (rintro (h | h | h) <;> simp [h])
theorem insS_asc {s:ByteArray}:∀ {L:List ByteArray},Asc L→Asc (insS L s)
 | [],_=>by simp [insS,Asc]
 | x :: L,h=>by
  obtain ⟨hx,hL⟩:=List.pairwise_cons.1 h
  unfold insS
  split
  ·
   rename_i hs
   refine List.pairwise_cons.2 ⟨fun y hy=>?_,h⟩
   rcases List.mem_cons.1 hy with rfl | hy
   ·
    exact hs
   ·
    exact ltS_trans hs (hx y hy)
  ·
   split
   ·
    exact h
   ·
    rename_i h1 h2
    refine List.pairwise_cons.2 ⟨fun y hy=>?_,insS_asc hL⟩
    rcases insS_mem.1 hy with rfl | hy
    ·
     cases hc:ltS x y
     ·
      exact absurd (ltS_tri (by simpa using h1) hc) h2
     ·
      rfl
    ·
     exact hx y hy
theorem insS_len {s:ByteArray}:∀ {L:List ByteArray},(insS L s).length≤L.length+1
 | []=>by simp [insS]
 | x :: L=>by
  unfold insS
  split
  ·
   simp
  ·
   split
   ·
    simp
   ·
    have:=insS_len (s:=s) (L:=L);simp;omega
def tab (names:List ByteArray):List ByteArray:=names.foldl insS []
theorem tab_all {names:List ByteArray}:∀ {L:List ByteArray},Asc L→Asc (names.foldl insS L)∧(∀ z,z∈names.foldl insS L↔z∈L∨z∈names)∧(names.foldl insS L).length≤L.length+names.length:=by
 induction names with
 | nil=>intro L h;exact ⟨h,by simp,by simp⟩
 | cons s names ih=>
  intro L h
  obtain ⟨h1,h2,h3⟩:=ih (insS_asc (s:=s) h)
  refine ⟨h1,fun z=>?_,?_⟩
  ·
   rw [List.foldl_cons,h2,insS_mem,List.mem_cons]
   constructor
   ·
    rintro ((h | h) | h) <;> simp [h]
   ·
    rintro (h | h | h) <;> simp [h]
  ·
   rw [List.foldl_cons]
   have:=insS_len (s:=s) (L:=L)
   simp only [List.length_cons]
   omega
theorem tab_mem {names:List ByteArray} {z:ByteArray}:z∈tab names↔z∈names:=by
 have:=(tab_all (names:=names) (L:=[]) List.Pairwise.nil).2.1 z
 unfold tab
 simpa using this
def letB (c:Int):Bool:=decide (c=95∨(65≤c∧c≤90)∨(97≤c∧c≤122))
def digB (c:Int):Bool:=decide (48≤c∧c≤57)
theorem letB_yes {c:Int} (h:c=95∨(65≤c∧c≤90)∨(97≤c∧c≤122)):letB c=true:=decide_eq_true h
theorem letB_no {c:Int} (h:¬(c=95∨(65≤c∧c≤90)∨(97≤c∧c≤122))):letB c=false:=decide_eq_false h
theorem digB_yes {c:Int} (h:48≤c∧c≤57):digB c=true:=decide_eq_true h
theorem digB_no {c:Int} (h:¬(48≤c∧c≤57)):digB c=false:=decide_eq_false h
def headOk (xs:List Int) (k:Nat):Prop:=∀ j,j < k→∀ c,xs[j]?=some c→letB c=true∨(j≠0∧digB c=true)
noncomputable instance (xs:List Int) (k:Nat):Decidable (headOk xs k):=Classical.propDecidable _
noncomputable def identB (s:ByteArray):Bool:=decide (1≤s.size∧s.size≤255∧headOk (sB s) s.size)
theorem headOk_zero (xs:List Int):headOk xs 0:=fun _ h=>absurd h (by omega)
theorem headOk_succ {xs:List Int} {k:Nat} {c:Int} (h:headOk xs k) (hc:xs[k]?=some c) (hl:letB c=true∨(k≠0∧digB c=true)):headOk xs (k+1):=fun j hj c' hc'=>by
 rcases Nat.lt_or_ge j k with h' | h'
 ·
  exact h j h' c' hc'
 ·
  obtain rfl:j=k:=by omega
  rw [hc] at hc'
  injection hc' with e
  subst e
  exact hl
theorem identB_yes {s:ByteArray} (h1:1≤s.size) (h2:s.size≤255) (h:headOk (sB s) s.size):identB s=true:=by unfold identB;exact decide_eq_true ⟨h1,h2,h⟩
theorem identB_long {s:ByteArray} (h:s.size < 1∨255 < s.size):identB s=false:=by unfold identB;exact decide_eq_false fun k=>by have:=k.1;have:=k.2.1;omega
theorem identB_no {s:ByteArray} {k:Nat} {c:Int} (hc:(sB s)[k]?=some c) (hl:letB c=false) (hd:k=0∨digB c=false):identB s=false:=by
 unfold identB
 refine decide_eq_false fun h=>?_
 have hk:k < s.size:=by
  rw [←sB_length]
  exact (List.getElem?_eq_some_iff.1 hc).1
 rcases h.2.2 k hk c hc with e | ⟨e,e'⟩
 ·
  rw [hl] at e;cases e
 ·
  rcases hd with h0 | h0
  ·
   exact e h0
  ·
   rw [h0] at e';cases e'
def Idents (L:List ByteArray):Prop:=∀ s∈L,identB s=true
theorem Idents.tab {L:List ByteArray} (h:Idents L):Idents (tab L):=fun s hs=>h s (tab_mem.1 hs)
structure Env where
 T:List Ty
 lc:List Int
 ps:List Pr
 rg:Nat
 nb:Nat
def BdV.env (b:BdV):Env:=⟨b.types,b.locals.map LcV.ty,b.outl,b.regions.length,b.blocks.length⟩
section
variable (E:Env)
def tyV (p:PlV):Int×Int:=tyOfP E.T E.lc p.l p.ps
def muV (p:PlV):Bool:=mutP E.T E.lc p.l p.ps
def noP (p:PlV):Bool:=decide (p.l=0) && decide (p.ps.length=0)
def opErr (o:OpV):Int:=
 if o.kind < 0∨4 < o.kind then 14
 else if (o.n≠0∧o.kind≠2∧o.kind≠3)∨(1 < o.kind∧noP o.pl=false) then 2
 else if o.kind=3∧o.n≠0∧o.n≠1 then 3
 else if 1 < o.kind then 0
 else if (tyV E o.pl).2≠0 then (tyV E o.pl).2
 else if (o.kind=0∧tyCop E.T (tyV E o.pl).1=false)∨(o.kind=1∧hasD o.pl.ps 0=true) then 22
 else 0
def conK (k:Int) (kind:Int):Bool:=decide ((k=2∧kind=2)∨(k=3∧kind=1)∨(k=4∧kind=0))
def fitK (o:OpV) (kind:Int):Bool:=if 1 < o.kind then conK o.kind kind else decide ((tyGet E.T (tyV E o.pl).1).kind=kind)
noncomputable def fitT (o:OpV) (t:Int):Bool:=if 1 < o.kind then conK o.kind (tyGet E.T t).kind else sub (out E.ps E.rg) E.T (tyV E o.pl).1 t
def noR (r:RvV):Bool:=decide (r.kind=0) && decide (r.op=0) && decide (r.region=0) && !r.mut_ && noP r.pl && decide (r.args.length=0)
def shErr (r:RvV):Int:=
 if r.kind < 0∨4 < r.kind then 14
 else if (r.kind≠2∧r.kind≠3∧r.op≠0)∨(r.kind≠1∧(r.region≠0∨r.mut_=true∨noP r.pl=false))∨(r.kind=1∧0 < r.args.length) then 2
 else if ((r.kind=0∨r.kind=2)∧r.args.length≠1)∨(r.kind=3∧r.args.length≠2) then 2
 else 0
noncomputable def boErr (r:RvV) (t:Int):Int:=
 if (tyV E r.pl).2≠0 then (tyV E r.pl).2
 else if r.region < 0∨(E.rg:Int)≤r.region then 3
 else if (tyGet E.T t).kind≠3∨(tyGet E.T t).region≠r.region∨(tyGet E.T t).mut_≠r.mut_∨(tyGet E.T t).elem≠(tyV E r.pl).1∨(r.mut_=true∧muV E r.pl=false) then 22
 else if (regP E.T E.lc r.pl.l r.pl.ps).all (fun a=>out E.ps E.rg a r.region) then 0 else 22
def opsErr:List OpV→Int
 | []=>0
 | o :: l=>if opErr E o≠0 then opErr E o else opsErr l
noncomputable def tupErr:List OpV→List Int→Int
 | [],_=>0
 | o :: l,fs=>if opErr E o≠0 then opErr E o else if fitT E o (fs.headD 0)=false then 22 else tupErr l fs.tail
def opFrom (r:RvV):Int:=if (r.kind=2∧r.op=1)∨(r.kind=3∧r.op=5) then 1 else 2
def opTo (r:RvV):Int:=if (r.kind=2∧r.op=1)∨(r.kind=3∧3≤r.op) then 1 else 2
noncomputable def asErr (r:RvV) (t:Int):Int:=
 if shErr r≠0 then shErr r
 else if r.kind=1 then boErr E r t
 else if (r.kind=2∧(r.op < 0∨1 < r.op))∨(r.kind=3∧(r.op < 0∨5 < r.op)) then 14
 else if r.kind=4 then (if (tyGet E.T t).kind≠4∨(tyGet E.T t).fields.length≠r.args.length then 22 else tupErr E r.args (tyGet E.T t).fields)
 else if opsErr E r.args≠0 then opsErr E r.args
 else if r.kind=0 then (if r.args.all (fun o=>fitT E o t) then 0 else 22)
 else if r.args.all (fun o=>fitK E o (opFrom r))∧(tyGet E.T t).kind=opTo r then 0 else 22
noncomputable def stErr (s:StV):Int:=
 if s.kind=0 then (if s.loc≠0 then 2 else if (tyV E s.pl).2≠0 then (tyV E s.pl).2 else if muV E s.pl=false then 22 else asErr E s.rv (tyV E s.pl).1)
 else if s.kind=1 then (if noP s.pl=false∨noR s.rv=false then 2 else if s.loc < 0∨(E.lc.length:Int)≤s.loc then 3 else 0)
 else if s.kind=2 then (if noP s.pl=false∨noR s.rv=false∨s.loc≠0 then 2 else 0)
 else 14
def tmTgs (k:Int):Nat:=if k=0∨k=3∨k=4 then 1 else if k=1 then 2 else 0
def tgErr:List Int→Int
 | []=>0
 | t :: l=>if t < 0∨(E.nb:Int)≤t then 3 else tgErr l
noncomputable def tmErr (t:TmV):Int:=
 if t.kind < 0∨5 < t.kind then 14
 else if t.targets.length≠tmTgs t.kind∨(t.kind≠3∧t.name≠.empty)∨(t.kind≠3∧t.kind≠4∧noP t.pl=false)∨(t.kind=1∧t.args.length≠1)∨(t.kind≠1∧t.kind≠3∧0 < t.args.length) then 2
 else if tgErr E t.targets≠0 then tgErr E t.targets
 else if t.kind=3∧identB t.name=false then 12
 else if 65535 < t.args.length then 15
 else if opsErr E t.args≠0 then opsErr E t.args
 else if t.kind=1∧t.args.all (fun o=>fitK E o 1)=false then 22
 else if t.kind≠3∧t.kind≠4 then 0
 else if (tyV E t.pl).2≠0 then (tyV E t.pl).2
 else if (t.kind=3∧muV E t.pl=false)∨(t.kind=4∧hasD t.pl.ps 0=true) then 22
 else 0
end
noncomputable def hasB (l:List ByteArray) (s:ByteArray):Bool:=@decide (s∈l) (Classical.propDecidable _)
theorem hasB_iff {l:List ByteArray} {s:ByteArray}:hasB l s=true↔s∈l:=by unfold hasB;exact @decide_eq_true_iff _ (Classical.propDecidable _)
theorem hasB_not {l:List ByteArray} {s:ByteArray}:hasB l s=false↔s∉l:=by rw [←hasB_iff];simp
noncomputable def rgErr:List ByteArray→List ByteArray→Int
 | _,[]=>0
 | pre,s :: l=>if identB s=false then 12 else if hasB pre s=true then 21 else rgErr (pre++[s]) l
noncomputable def lcErr (nt:Nat):List ByteArray→List LcV→Int
 | _,[]=>0
 | pre,x :: l=>if identB x.name=false then 12 else if hasB pre x.name=true then 21 else if x.ty < 0∨(nt:Int)≤x.ty then 3 else lcErr nt (pre++[x.name]) l
noncomputable def deErr (b:BdV):Int:=
 if identB b.name=false then 12
 else if 65535 < b.regions.length then 15
 else if rgErr [] b.regions≠0 then rgErr [] b.regions
 else if prChk b.outl b.regions.length≠0 then prChk b.outl b.regions.length
 else if tyChk b.types b.regions.length≠0 then tyChk b.types b.regions.length
 else if 65535 < b.locals.length then 15
 else if lcErr b.types.length [] b.locals≠0 then lcErr b.types.length [] b.locals
 else if b.args < 0∨(b.locals.length:Int) < b.args then 3
 else if b.blocks.length=0∨65535 < b.blocks.length then 15
 else 0
section
variable (E:Env)
noncomputable def stsErr:List StV→Int
 | []=>0
 | s :: l=>if stErr E s≠0 then stErr E s else stsErr l
noncomputable def bkErr (b:BkV):Int:=if 65535 < b.stmts.length then 15 else if stsErr E b.stmts≠0 then stsErr E b.stmts else tmErr E b.term
noncomputable def bksErr:List BkV→Int
 | []=>0
 | b :: l=>if bkErr E b≠0 then bkErr E b else bksErr l
end
noncomputable def bdErr (b:BdV):Int:=if deErr b≠0 then deErr b else bksErr b.env b.blocks
theorem drop_at10 {α:Type} {l:List α} {k:Nat} {x:α} (h:l[k]?=some x):l.drop k=x :: l.drop (k+1):=by
 have hk:=(List.getElem?_eq_some_iff.1 h).1
 rw [List.drop_eq_getElem_cons hk]
 rw [List.getElem?_eq_getElem hk] at h
 injection h with h
 rw [h]
theorem drop_end10 {α:Type} {l:List α} {k:Nat} (h:l.length≤k):l.drop k=[]:=List.drop_eq_nil_of_le h
section
variable {E:Env}
theorem opsErr_at {l:List OpV} {k:Nat} {o:OpV} (h:l[k]?=some o):opsErr E (l.drop k)=if opErr E o≠0 then opErr E o else opsErr E (l.drop (k+1)):=by rw [drop_at10 h];rfl
theorem opsErr_end {l:List OpV} {k:Nat} (h:l.length≤k):opsErr E (l.drop k)=0:=by rw [drop_end10 h];rfl
theorem tupErr_at {l:List OpV} {fs:List Int} {k:Nat} {o:OpV} {f:Int} (h:l[k]?=some o) (hf:fs[k]?=some f):tupErr E (l.drop k) (fs.drop k)=if opErr E o≠0 then opErr E o else if fitT E o f=false then 22 else tupErr E (l.drop (k+1)) (fs.drop (k+1)):=by rw [drop_at10 h,drop_at10 hf];rfl
theorem tupErr_end {l:List OpV} {fs:List Int} {k:Nat} (h:l.length≤k):tupErr E (l.drop k) (fs.drop k)=0:=by rw [drop_end10 h];rfl
theorem tgErr_at {l:List Int} {k:Nat} {t:Int} (h:l[k]?=some t):tgErr E (l.drop k)=if t < 0∨(E.nb:Int)≤t then 3 else tgErr E (l.drop (k+1)):=by rw [drop_at10 h];rfl
theorem tgErr_end {l:List Int} {k:Nat} (h:l.length≤k):tgErr E (l.drop k)=0:=by rw [drop_end10 h];rfl
theorem stsErr_at {l:List StV} {k:Nat} {s:StV} (h:l[k]?=some s):stsErr E (l.drop k)=if stErr E s≠0 then stErr E s else stsErr E (l.drop (k+1)):=by rw [drop_at10 h];rfl
theorem stsErr_end {l:List StV} {k:Nat} (h:l.length≤k):stsErr E (l.drop k)=0:=by rw [drop_end10 h];rfl
theorem bksErr_at {l:List BkV} {k:Nat} {b:BkV} (h:l[k]?=some b):bksErr E (l.drop k)=if bkErr E b≠0 then bkErr E b else bksErr E (l.drop (k+1)):=by rw [drop_at10 h];rfl
theorem bksErr_end {l:List BkV} {k:Nat} (h:l.length≤k):bksErr E (l.drop k)=0:=by rw [drop_end10 h];rfl
end
theorem take_up10 {α:Type} {l:List α} {k:Nat} {x:α} (h:l[k]?=some x):l.take (k+1)=l.take k++[x]:=by rw [List.take_add_one,h];rfl
theorem rgErr_at {l:List ByteArray} {k:Nat} {s:ByteArray} (h:l[k]?=some s):rgErr (l.take k) (l.drop k)=if identB s=false then 12 else if hasB (l.take k) s=true then 21 else rgErr (l.take (k+1)) (l.drop (k+1)):=by rw [drop_at10 h,take_up10 h];rfl
theorem rgErr_end {l:List ByteArray} {k:Nat} (h:l.length≤k):rgErr (l.take k) (l.drop k)=0:=by rw [drop_end10 h];rfl
theorem lcErr_at {nt:Nat} {l:List LcV} {k:Nat} {x:LcV} (h:l[k]?=some x):lcErr nt ((l.take k).map LcV.name) (l.drop k)=if identB x.name=false then 12 else if hasB ((l.take k).map LcV.name) x.name=true then 21 else if x.ty < 0∨(nt:Int)≤x.ty then 3 else lcErr nt ((l.take (k+1)).map LcV.name) (l.drop (k+1)):=by
 rw [drop_at10 h,take_up10 h,List.map_append];rfl
section
variable {E:Env}
theorem opsErr_zero:∀ {l:List OpV},opsErr E l=0↔∀ o∈l,opErr E o=0
 | []=>⟨(fun _ o h=>by cases h),fun _=>rfl⟩
 | o :: l=>by
  show (if opErr E o≠0 then opErr E o else opsErr E l)=0↔_
  by_cases h:opErr E o=0
  ·
   rw [if_neg (by omega),opsErr_zero]
   exact ⟨(fun k q hq=>by rcases List.mem_cons.1 hq with rfl | hq;exact h;exact k q hq),fun k q hq=>k q (by simp [hq])⟩
  ·
   rw [if_pos h]
   exact ⟨fun k=>absurd k h,fun k=>k o (by simp)⟩
theorem stsErr_zero:∀ {l:List StV},stsErr E l=0↔∀ s∈l,stErr E s=0
 | []=>⟨(fun _ o h=>by cases h),fun _=>rfl⟩
 | o :: l=>by
  show (if stErr E o≠0 then stErr E o else stsErr E l)=0↔_
  by_cases h:stErr E o=0
  ·
   rw [if_neg (by omega),stsErr_zero]
   exact ⟨(fun k q hq=>by rcases List.mem_cons.1 hq with rfl | hq;exact h;exact k q hq),fun k q hq=>k q (by simp [hq])⟩
  ·
   rw [if_pos h]
   exact ⟨fun k=>absurd k h,fun k=>k o (by simp)⟩
theorem bksErr_zero:∀ {l:List BkV},bksErr E l=0↔∀ b∈l,bkErr E b=0
 | []=>⟨(fun _ o h=>by cases h),fun _=>rfl⟩
 | o :: l=>by
  show (if bkErr E o≠0 then bkErr E o else bksErr E l)=0↔_
  by_cases h:bkErr E o=0
  ·
   rw [if_neg (by omega),bksErr_zero]
   exact ⟨(fun k q hq=>by rcases List.mem_cons.1 hq with rfl | hq;exact h;exact k q hq),fun k q hq=>k q (by simp [hq])⟩
  ·
   rw [if_pos h]
   exact ⟨fun k=>absurd k h,fun k=>k o (by simp)⟩
theorem bkErr_zero {b:BkV}:bkErr E b=0↔b.stmts.length≤65535∧(∀ s∈b.stmts,stErr E s=0)∧tmErr E b.term=0:=by
 unfold bkErr
 by_cases h:65535 < b.stmts.length
 ·
  rw [if_pos h]
  exact ⟨fun k=>absurd k (by decide),fun k=>by omega⟩
 ·
  rw [if_neg h]
  by_cases h2:stsErr E b.stmts=0
  ·
   rw [if_neg (by omega)]
   exact ⟨fun k=>⟨by omega,stsErr_zero.1 h2,k⟩,fun k=>k.2.2⟩
  ·
   rw [if_pos h2]
   exact ⟨fun k=>absurd k h2,fun k=>absurd (stsErr_zero.2 k.2.1) h2⟩
end
theorem lcErr_ok {nt:Nat}:∀ {l:List LcV} {pre:List ByteArray},lcErr nt pre l=0→∀ x∈l,0≤x.ty∧x.ty < (nt:Int)
 | [],_,_,x,hx=>by cases hx
 | y :: l,pre,h,x,hx=>by
  have h':(if identB y.name=false then (12:Int) else if hasB pre y.name=true then 21 else if y.ty < 0∨(nt:Int)≤y.ty then 3 else lcErr nt (pre++[y.name]) l)=0:=h
  split at h'
  ·
   cases h'
  ·
   split at h'
   ·
    cases h'
   ·
    split at h'
    ·
     cases h'
    ·
     rcases List.mem_cons.1 hx with rfl | hx
     ·
      omega
     ·
      exact lcErr_ok h' x hx
structure DeOk (b:BdV):Prop where
 nr:b.regions.length≤65535
 out:prChk b.outl b.regions.length=0
 ty:tyChk b.types b.regions.length=0
 nl:b.locals.length≤65535
 lc:LcOk b.types (b.locals.map LcV.ty)
 nb:0 < b.blocks.length∧b.blocks.length≤65535
theorem deErr_ok {b:BdV} (h:deErr b=0):DeOk b:=by
 unfold deErr at h
 split at h
 ·
  cases h
 rename_i h1
 split at h
 ·
  cases h
 rename_i h2
 split at h
 ·
  rename_i h3;exact absurd h h3
 rename_i h3
 split at h
 ·
  rename_i h4;exact absurd h h4
 rename_i h4
 split at h
 ·
  rename_i h5;exact absurd h h5
 rename_i h5
 split at h
 ·
  cases h
 rename_i h6
 split at h
 ·
  rename_i h7;exact absurd h h7
 rename_i h7
 split at h
 ·
  cases h
 rename_i h8
 split at h
 ·
  cases h
 rename_i h9
 refine ⟨by omega,by omega,by omega,by omega,fun t ht=>?_,by omega,by omega⟩
 obtain ⟨x,hx,rfl⟩:=List.mem_map.1 ht
 exact lcErr_ok (Decidable.not_not.1 h7) x hx
def KeepT (n₀:Nat) (Ts:List TypeId) (W W':World):Prop:=Below n₀ W W'∧∀ (t:TypeId) (B:Nat) (cs:Array Value) (fr:Nat×Nat),t∈Ts→W.heap[B]?=some (.cells cs t fr)→W'.heap[B]?=some (.cells cs t fr)
section
variable {n₀:Nat} {Ts:List TypeId} {W W' W'':World}
theorem KeepT.refl (n₀:Nat) (Ts:List TypeId) (W:World):KeepT n₀ Ts W W:=⟨Below.refl _ _,fun _ _ _ _ _ h=>h⟩
theorem KeepT.trans (h:KeepT n₀ Ts W W') (k:KeepT n₀ Ts W' W''):KeepT n₀ Ts W W'':=⟨h.1.trans k.1,fun t B cs fr ht hB=>k.2 t B cs fr ht (h.2 t B cs fr ht hB)⟩
theorem KeepT.of_below (h:Below W.heap.size W W') (hn:n₀≤W.heap.size):KeepT n₀ Ts W W':=⟨h.mono hn,fun t B cs fr _ hB=>(h.block B (Array.getElem?_eq_some_iff.1 hB).1).trans hB⟩
theorem KeepT.grown {row:Option Nat} (hg:W.grownBy W' row) (hn:n₀≤W.heap.size) (hrow:∀ k,row=some k→n₀≤k∧∃ cs t fr,W.heap[k]?=some (.cells cs t fr)∧t∉Ts):KeepT n₀ Ts W W':=
 ⟨(Below.refl n₀ W).grown hg hn (fun k e=>(hrow k e).1),fun t B cs fr ht hB=>(hg.block B (Array.getElem?_eq_some_iff.1 hB).1 (fun e=>by
  obtain ⟨_,cs',t',fr',h1,h2⟩:=hrow B e.symm
  rw [hB] at h1
  injection h1 with h1
  injection h1 with _ h1 _
  exact h2 (h1 ▸ ht))).trans hB⟩
theorem KeepT.box {B:Nat} {t:TypeId} {v:Value} (h:Boxed W B t v) (hB:n₀≤B) (ht:t∉Ts) (v':Value):KeepT n₀ Ts W (W.setCell ⟨B,0,none⟩ v'):=
 KeepT.grown (grownBy_setCell' W B v') (Nat.le_trans hB (Nat.le_of_lt h.lt)) (fun k e=>by cases e;exact ⟨hB,_,_,_,h,ht⟩)
theorem KeepT.row {base k n:Nat} {e:TypeId} {v:Value} {xs:List Value} (hg:W.grownBy W' v.ownBlock) (hown:W.ownsRow base e k v n xs) (hb:n₀≤base) (hn:n₀≤W.heap.size) (ht:e∉Ts):KeepT n₀ Ts W W':=
 KeepT.grown hg hn (fun q hq=>by
  refine ⟨Nat.le_trans hb (hown.lt q hq).1,?_⟩
  rcases hown.2 with ⟨rfl,_⟩ | ⟨g,cap,cur,rfl,_,hgg,_⟩
  ·
   cases hq
  ·
   have:g=q:=by simpa [Value.ownBlock] using hq
   subst this
   exact ⟨_,_,_,hgg,ht⟩)
theorem keepT_t {A B C:World} (h:KeepT n₀ Ts A B) (k:KeepT n₀ Ts B C):KeepT n₀ Ts A C:=h.trans k
theorem keepT_b {w:World} (hn:n₀≤w.heap.size) (W:World) (l:Nat) (o o':Obj) (hl:w.heap.size≤l) (h:W.heap[l]?=some o) (hc:o.isCells=false) (hw:o.isWalk=false):KeepT n₀ Ts W (W.putObj l o'):=
 ⟨belowK_b hn W l o o' hl h hc hw,fun t B cs fr ht hB=>((grownBy_putObj' W l o').block B (Array.getElem?_eq_some_iff.1 hB).1 (fun e=>by
  injection e with e
  subst e
  rw [h] at hB
  injection hB with hB
  subst hB
  cases hc)).trans hB⟩
end
theorem grown_of_below {W W':World} (h:Below W.heap.size W W'):W.grownBy W' none:=⟨h.os,h.tape,h.output,h.size,fun k hk _=>h.block k hk⟩
theorem cell_of_heap {W:World} {B:Nat} {cs:Array Value} {t:TypeId} {fr:Nat×Nat} (h:W.heap[B]?=some (.cells cs t fr)) (j:Nat):W.cell? ⟨B,j,none⟩=cs[j]?:=cell_of_row W B j cs t fr h
section
variable {P:Program} {l n:Nat} {Q:Exit→Act→World→Prop}
end
theorem below1 (w:World) (o:Obj):Below w.heap.size w (w.alloc o):=(Below.refl w.heap.size w).alloc (Nat.le_refl _) o
theorem one_cells {w w':World} {cs:List Value} {T:TypeId} (h:Below (w.alloc (.cells cs.toArray T)).heap.size (w.alloc (.cells cs.toArray T)) w'):∀ (j:Nat) (u:Value),cs[j]?=some u→w'.cell? ⟨w.heap.size,j,none⟩=some u:=fun j u hu=>by
 have b1:=(h.block w.heap.size (by simp)).trans (heap_alloc_new w (.cells cs.toArray T))
 exact (cell_of_heap b1 j).trans (by rw [List.getElem?_toArray];exact hu)
theorem cells2 {w w':World} {a0 a1:Value} {T:TypeId} (h:Below (w.alloc (.cells #[a0,a1] T)).heap.size (w.alloc (.cells #[a0,a1] T)) w'):w'.cell? ⟨w.heap.size,0,none⟩=some a0∧w'.cell? ⟨w.heap.size,1,none⟩=some a1:=by
 have c:=one_cells (cs:=[a0,a1]) h
 exact ⟨c 0 _ rfl,c 1 _ rfl⟩
theorem cells7 {w w':World} {a0 a1 a2 a3 a4 a5 a6:Value} {T:TypeId} (h:Below (w.alloc (.cells #[a0,a1,a2,a3,a4,a5,a6] T)).heap.size (w.alloc (.cells #[a0,a1,a2,a3,a4,a5,a6] T)) w'):w'.cell? ⟨w.heap.size,0,none⟩=some a0∧w'.cell? ⟨w.heap.size,1,none⟩=some a1∧w'.cell? ⟨w.heap.size,2,none⟩=some a2∧w'.cell? ⟨w.heap.size,3,none⟩=some a3∧w'.cell? ⟨w.heap.size,4,none⟩=some a4∧w'.cell? ⟨w.heap.size,5,none⟩=some a5∧w'.cell? ⟨w.heap.size,6,none⟩=some a6:=by
 have c:=one_cells (cs:=[a0,a1,a2,a3,a4,a5,a6]) h
 exact ⟨c 0 _ rfl,c 1 _ rfl,c 2 _ rfl,c 3 _ rfl,c 4 _ rfl,c 5 _ rfl,c 6 _ rfl⟩
end Go.Proofs.YteeemjmohjkdpaaGreatDoor
namespace Go.Proofs.YteeemjmohjkdpaaGreatDoor
open Go.RowKit Go.Shelf
attribute [local go_sem] Oper.semAt_some
structure KeepTX (n₀:Nat) (Ts:List TypeId) (X:Nat) (W W':World):Prop where
 low:Below n₀ W W'
 cells:∀ (t:TypeId) (B:Nat) (cs:Array Value) (fr:Nat×Nat),t∈Ts→B≠X→W.heap[B]?=some (.cells cs t fr)→W'.heap[B]?=some (.cells cs t fr)
section
variable {n₀ X:Nat} {Ts:List TypeId} {W W' W'':World}
theorem KeepTX.refl (n₀:Nat) (Ts:List TypeId) (X:Nat) (W:World):KeepTX n₀ Ts X W W:=⟨Below.refl _ _,fun _ _ _ _ _ _ h=>h⟩
theorem KeepTX.trans (h:KeepTX n₀ Ts X W W') (k:KeepTX n₀ Ts X W' W''):KeepTX n₀ Ts X W W'':=⟨h.low.trans k.low,fun t B cs fr ht hX hB=>k.cells t B cs fr ht hX (h.cells t B cs fr ht hX hB)⟩
theorem KeepTX.of_t (h:KeepT n₀ Ts W W'):KeepTX n₀ Ts X W W':=⟨h.1,fun t B cs fr ht _ hB=>h.2 t B cs fr ht hB⟩
theorem KeepTX.of_below (h:Below W.heap.size W W') (hn:n₀≤W.heap.size):KeepTX n₀ Ts X W W':=.of_t (.of_below h hn)
end
structure Way8 (At Al:Option Addr) (nt nl:Nat) (L:List TyW) (LL:List LcW) (x:PlW) (k:Nat) (lc:LcW) (r:Int):Prop where
 ok:TyOk (tys L) r
 nt:nt≤maxLen
 nl:nl≤maxLen
 nc:x.n≤x.c
 cm:x.c≤maxLen
 l:x.l=(k:Int)
 at_:LL[k]?=some lc
 t0:0≤lc.ty
 t1:lc.ty < (L.length:Int)
end Go.Proofs.YteeemjmohjkdpaaGreatDoor
namespace Go.Proofs.YteeemjmohjkdpaaGreatDoor
open Go.RowKit Go.Shelf
attribute [local go_sem] Oper.semAt_some
theorem block_own8 {W W':World} {row:Option Nat} {B:Nat} {cs:Array Value} {t:TypeId} {fr:Nat×Nat} (h:W.heap[B]?=some (.cells cs t fr)) (hg:W.grownBy W' row) (hr:∀ r,row=some r→∃ o:Obj,W.heap[r]?=some o∧o.isCells=false):W'.heap[B]?=some (.cells cs t fr):=
 (hg.block B (Array.getElem?_eq_some_iff.1 h).1 (fun e'=>by
  obtain ⟨o,ho,hc⟩:=hr B e'.symm
  rw [h] at ho
  injection ho with ho
  subst ho
  cases hc)).trans h
theorem boxed_below8 {W W':World} {B:Nat} {t:TypeId} {u:Value} (h:Boxed W B t u) (hb:Below W.heap.size W W'):Boxed W' B t u:=(hb.block B h.lt).trans h
structure Pl8 (w:World) (At Al:Option Addr) (nt nl:Nat) (L:List TyW) (LL:List LcW) (x:PlW) (r:Int):Prop where
 typs:Typs w w.heap.size At nt L
 locs:Locs w w.heap.size Al nl LL
 one:OnePl w w.heap.size x
 nt:nt≤maxLen
 nl:nl≤maxLen
 ok:TyOk (tys L) r
 lc:LcOk (tys L) (lcs LL)
theorem Pl8.up {w w':World} {At Al:Option Addr} {nt nl:Nat} {L:List TyW} {LL:List LcW} {x:PlW} {r:Int} (h:Pl8 w At Al nt nl L LL x r) (hb:Below w.heap.size w w'):Pl8 w' At Al nt nl L LL x r:=⟨h.typs.up hb,h.locs.up hb,h.one.up hb,h.nt,h.nl,h.ok,h.lc⟩
theorem Pl8.take {w:World} {At Al:Option Addr} {nt nl:Nat} {L:List TyW} {LL:List LcW} {x:PlW} {r:Int} (h:Pl8 w At Al nt nl L LL x r) {k:Nat} (hk:k≤x.n):Pl8 w At Al nt nl L LL (x.take k) r:=⟨h.typs,h.locs,h.one.take hk,h.nt,h.nl,h.ok,h.lc⟩
theorem Pl8.way {w:World} {At Al:Option Addr} {nt nl:Nat} {L:List TyW} {LL:List LcW} {x:PlW} {r:Int} (h:Pl8 w At Al nt nl L LL x r) {k:Nat} {lc:LcW} (hk:x.l=(k:Int)) (hl:LL[k]?=some lc):Way8 At Al nt nl L LL x k lc r:=by
 have:=h.lc lc.ty (List.mem_map_of_mem (List.mem_of_getElem? hl))
 exact ⟨h.ok,h.nt,h.nl,h.one.nc,h.one.cm,hk,hl,this.1,by rw [←tys_len];exact this.2⟩
end Go.Proofs.YteeemjmohjkdpaaGreatDoor
namespace Go.Proofs.YteeemjmohjkdpaaGreatDoor
open Go.RowKit Go.Shelf
attribute [local go_sem] Oper.semAt_some
theorem infoTy:(Tryz.prog.info? 65).map (fun i=>(i.zero,i.size,i.bytes))=some (some (.agg #[.int .i64 0,.bool false,.int .i64 0,.int .i64 0,.slice none 0 0]),5,56):=by kernel_rfl
theorem row_own8 {W W':World} {row:Option Nat} {base k n:Nat} {e:TypeId} {v:Value} {xs:List Value} (h:W.ownsRow base e k v n xs) (hg:W.grownBy W' row) (hr:∀ r,row=some r→∃ o:Obj,W.heap[r]?=some o∧o.isCells=false):W'.ownsRow base e k v n xs:=by
 refine h.kept hg ?_
 rcases h.2 with ⟨rfl,_⟩ | ⟨g,cap,cur,rfl,_,hgg,_⟩
 ·
  exact .inl rfl
 ·
  refine .inr fun e'=>?_
  obtain ⟨o,ho,hc⟩:=hr g (by rw [←e'];rfl)
  rw [hgg] at ho
  injection ho with ho
  subst ho
  cases hc
theorem news_new8 (w:World) (cs:List Value) (t:TypeId):∀ j u,cs[j]?=some u→(w.alloc (.cells cs.toArray t)).cell? ((⟨w.heap.size,0,none⟩:Addr).add j)=some u:=
 World.news_of_block (heap_alloc_new w _)
def RefI (R base:Nat) (S:List TyW) (W:World):Prop:=∃ v m,Boxed W R 24 v∧W.ownsRow base 65 5 v m (S.flatMap c5)∧m=S.length
theorem RefI.own {R base:Nat} {S:List TyW} {W W':World} {row:Option Nat} (h:RefI R base S W) (hg:W.grownBy W' row) (hr:∀ r,row=some r→∃ o:Obj,W.heap[r]?=some o∧o.isCells=false):RefI R base S W':=by
 obtain ⟨v,m,h1,h2,h3⟩:=h
 exact ⟨v,m,block_own8 h1 hg hr,row_own8 h2 hg hr,h3⟩
theorem RefI.below {R base:Nat} {S:List TyW} {W W':World} (h:RefI R base S W) (hb:Below W.heap.size W W'):RefI R base S W':=by
 obtain ⟨v,m,h1,h2,h3⟩:=h
 exact ⟨v,m,boxed_below8 h1 hb,ownsRow_below h2 hb,h3⟩
end Go.Proofs.YteeemjmohjkdpaaGreatDoor
namespace Go.Proofs.YteeemjmohjkdpaaGreatDoor
open Go.RowKit
theorem tys_refTo (L:List TyW) (t:Int) (ps:List Pr) (n:Nat):tys (refTo L (tys L) t ps n)=refTo (tys L) (tys L) t ps n:=refTo_map TyW.t L t ps n
def IntsOut (w:World) (xs:List Int) (e:Ending) (w':World):Prop:=∃ A m c,e=.returned (.slice A m c)∧m≤40∧m≤c∧c≤maxLen∧w'.ownsRow w.heap.size 3 1 (.slice A m c) m (i64s xs)∧Below w.heap.size w w'
theorem take_map_up {α β:Type} {l:List α} {f:α→β} {k:Nat} {x:α} (h:l[k]?=some x):(l.take (k+1)).map f=(l.take k).map f++[f x]:=by
 rw [List.take_add_one,h,List.map_append];rfl
theorem cell_int8 (w:World) (x:Int) (t:TypeId):∀ j u,(i64s [x])[j]?=some u→(w.alloc (.cells #[.int .i64 x] t)).cell? ((⟨w.heap.size,0,none⟩:Addr).add j)=some u:=
 World.news_of_block (heap_alloc_new w _)
theorem RCheckP_any (x:PlW) (w:World) (hx:OnePl w w.heap.size x) :
  Calls Tryz.prog 177 #[aggPl x] w fun e w'=>e=.returned (.int .i64 (plErr x.l x.ps))∧Below w.heap.size w w':=by
 obtain ⟨l,A,n,c,ps⟩:=x
 have hcm:=hx.cm
 have hnc:=hx.nc
 simp only [] at hcm hnc
 have HX:=hide hx.prs
 have HL:=hide hx.prs.len
 have HA:=hide ((Below.refl w.heap.size w).alloc (Nat.le_refl _) (.cells #[.int .i64 l,.slice A n c] 58))
 clear hx
 unfold maxLen at hcm
 by_cases hl:l < 0
 ·
  have HF:=hide (show plErr l ps=3 from if_pos hl)
  go_enter Tryz.func177,Tryz.ntmps177
  go_wp2
  go_ret
  exact ⟨congrArg (fun v=>Ending.returned (.int .i64 v)) HF.out.symm,HA.out⟩
 by_cases hn:32 < n
 ·
  have HF:=hide (show plErr l ps=19 from by unfold plErr;rw [if_neg hl,if_pos (by have:ps.length=n:=HL.out;omega)])
  have hn':(32:Int) < (n:Int):=by omega
  go_enter Tryz.func177,Tryz.ntmps177
  go_wp2
  go_ret
  exact ⟨congrArg (fun v=>Ending.returned (.int .i64 v)) HF.out.symm,HA.out⟩
 have HF:=hide (show plErr l ps=pjsErr (ps.drop 0) from by unfold plErr;rw [if_neg hl,if_neg (by have:ps.length=n:=HL.out;omega)];rfl)
 have hn':(n:Int)≤32:=by omega
 have hl':0≤l:=by omega
 clear hl hn
 have HC:=hide fun (w':World) (h:Below (w.alloc (.cells #[.int .i64 l,.slice A n c] 58)).heap.size (w.alloc (.cells #[.int .i64 l,.slice A n c] 58)) w')=>((h.cell (p:=⟨w.heap.size,1,none⟩) (by simp)).trans (by simp [go_sem]):w'.cell? ⟨w.heap.size,1,none⟩=some (.slice A n c))
 go_enter Tryz.func177,Tryz.ntmps177
 go_wp2
 go_loopw [3] (fun i wr=>∃ j:Nat,i=.int .i64 (j:Int)∧j≤n∧Hid (pjsErr (ps.drop j)=pjsErr (ps.drop 0))∧Below (w.alloc (.cells #[.int .i64 l,.slice A n c] 58)).heap.size (w.alloc (.cells #[.int .i64 l,.slice A n c] 58)) wr) (fun i _=>n - (intOf i).toNat)
 case atStart=>exact ⟨0,rfl,Nat.zero_le _,rfl,Below.refl _ _⟩
 case round=>
  obtain ⟨j,rfl,hj,HE,hb⟩:=hrel
  have HB:=hide (HA.out.trans (hb.mono (by simp)))
  have HB0:=hide hb
  have cz:=HC.out _ hb
  clear hb
  by_cases hlt:j < n
  ·
   have hlt':(j:Int) < (n:Int):=by omega
   obtain ⟨p,hp⟩:∃ p,ps[j]?=some p:=⟨_,List.getElem?_eq_getElem (by have:ps.length=n:=HL.out;omega)⟩
   obtain ⟨b,o,rfl,_,hi,c0,c1⟩:=(HX.out.below HB.out).at_ hp
   have HS:=hide (pjsErr_at hp)
   obtain ⟨k,f⟩:=p
   simp only [] at c0 c1
   have HB2:=hide (HB.out.alloc HB.out.size (.cells #[.int .i64 k,.int .i64 f] 205))
   have HB3:=hide (HB0.out.alloc HB0.out.size (.cells #[.int .i64 k,.int .i64 f] 205))
   clear hp hi
   have good:∀ v,pjErr (k,f)=v→v≠0→Hid (plErr l ps=v):=fun v hv hv0=>(show _=_ by rw [HF.out,← HE.out,HS.out,hv,if_neg hv0])
   have next:pjErr (k,f)=0→Hid (pjsErr (ps.drop (j+1))=pjsErr (ps.drop 0)):=fun hv=>(show _=_ by rw [←HE.out,HS.out,if_pos hv])
   by_cases h0:k=0
   ·
    subst h0
    by_cases hf:f=0
    ·
     subst hf
     have HN:=next (by decide)
     clear good next
     go_wp2
     go_roundw
     case rel=>exact ⟨j+1,by go_num,by omega,HN.out,HB3.out⟩
     case measure=>simp [intOf];omega
    ·
     have t1:(f != 0)=true:=by rw [bne_iff_ne];exact hf
     have HN:=good 2 (by unfold pjErr;rw [if_neg (by omega),if_pos ⟨rfl,hf⟩]) (by decide)
     clear good next hf
     go_wp2
     go_ret
     exact ⟨congrArg (fun v=>Ending.returned (.int .i64 v)) HN.out.symm,HB2.out⟩
   ·
    have t0:(k != 0)=true:=by rw [bne_iff_ne];exact h0
    have t00:(k == 0)=false:=by simpa using h0
    by_cases h1:k=1
    ·
     subst h1
     clear h0 t0 t00
     by_cases hf:f < 0
     ·
      have HN:=good 3 (by unfold pjErr;rw [if_neg (by omega),if_neg (by omega),if_pos hf]) (by decide)
      clear good next
      go_wp2
      go_ret
      exact ⟨congrArg (fun v=>Ending.returned (.int .i64 v)) HN.out.symm,HB2.out⟩
     ·
      have HN:=next (by unfold pjErr;rw [if_neg (by omega),if_neg (by omega),if_neg hf])
      clear good next
      have hf':0≤f:=by omega
      go_wp2
      go_roundw
      case rel=>exact ⟨j+1,by go_num,by omega,HN.out,HB3.out⟩
      case measure=>simp [intOf];omega
    ·
     have t1:(k != 1)=true:=by rw [bne_iff_ne];exact h1
     have HN:=good 14 (by unfold pjErr;rw [if_pos ⟨h0,h1⟩]) (by decide)
     clear good next h0 h1
     go_wp2
     go_ret
     exact ⟨congrArg (fun v=>Ending.returned (.int .i64 v)) HN.out.symm,HB2.out⟩
  ·
   obtain rfl:j=n:=by omega
   have HN:=hide (show plErr l ps=0 from by rw [HF.out,← HE.out,List.drop_of_length_le (by have:ps.length=j:=HL.out;omega)];rfl)
   go_wp2
   go_ret
   exact ⟨congrArg (fun v=>Ending.returned (.int .i64 v)) HN.out.symm,HB.out⟩
theorem RCheckP_is {x:PlW} {v:Int} (h:plErr x.l x.ps=v) (w:World) (hx:OnePl w w.heap.size x) :
  Calls Tryz.prog 177 #[aggPl x] w fun e w'=>e=.returned (.int .i64 v)∧Below w.heap.size w w':=h ▸ RCheckP_any x w hx
theorem goL_one {T:List Ty} {t:Int} {ps:List Pr} {m:Nat} {p:Pr} (hl:ps.length=m+1) (hp:ps[m]?=some p):goL T t ps=if erA T t ps m=0 then stepT (tyGet T (tyA T t ps m)) p else (0,erA T t ps m):=by
 rw [←goA_up hp,← hl,List.take_length]
theorem wrapI8 (n:Int) (h0:-9223372036854775808≤n) (h1:n≤9223372036854775807):IntKind.i64.wrap n=n:=by
 simp [IntKind.wrap,IntKind.bits,IntKind.signed]
 omega
def TyE (L:List TyW) (LL:List LcW) (x:PlW) (w:World) (e:Ending) (w':World):Prop:=e=.returned (.tuple #[.int .i64 (tyOfP (tys L) (lcs LL) x.l x.ps).1,.int .i64 (tyOfP (tys L) (lcs LL) x.l x.ps).2])∧Below w.heap.size w w'
theorem tyE_mk {L:List TyW} {LL:List LcW} {x:PlW} {w:World} {e:Ending} {w':World} {u v:Int} (h:tyOfP (tys L) (lcs LL) x.l x.ps=(u,v)) (he:e=.returned (.tuple #[.int .i64 u,.int .i64 v])) (hb:Below w.heap.size w w'):TyE L LL x w e w':=⟨by rw [he,h],hb⟩
theorem RTypeOf_err {At Al:Option Addr} {nt ct nl cl:Nat} {L:List TyW} {LL:List LcW} {r:Int} {x:PlW} {w:World} (h:Pl8 w At Al nt nl L LL x r) {v:Int} (hv:plErr x.l x.ps=v) (hv0:v≠0) :
  Calls Tryz.prog 138 #[.slice At nt ct,.slice Al nl cl,aggPl x] w (TyE L LL x w):=by
 have hB0:=(Below.refl w.heap.size w).alloc (Nat.le_refl _) (.cells #[.int .i64 x.l,.slice x.A x.n x.c] 58)
 have HB0:=hide hB0
 have HC:=hide (RCheckP_is hv _ (h.one.up hB0))
 have tv:(v != 0)=true:=by rw [bne_iff_ne];exact hv0
 have HF:=hide (tyOfP_err (T:=tys L) (lc:=lcs LL) hv hv0)
 obtain ⟨l,A,n,c,ps⟩:=x
 clear h hB0 hv hv0
 go_enter Tryz.func138,Tryz.ntmps138
 go_wp2_with fail
 refine HC.out.mono ?_
 rintro e w1 ⟨rfl,hb1⟩
 have HB1:=hide (HB0.out.trans (hb1.mono HB0.out.size))
 clear hb1
 go_wp2
 go_ret2
 exact tyE_mk HF.out rfl HB1.out
theorem RTypeOf_out {At Al:Option Addr} {nt ct nl cl:Nat} {L:List TyW} {LL:List LcW} {r:Int} {x:PlW} {w:World} (h:Pl8 w At Al nt nl L LL x r) (hv:plErr x.l x.ps=0) (hl:(nl:Int)≤x.l) :
  Calls Tryz.prog 138 #[.slice At nt ct,.slice Al nl cl,aggPl x] w (TyE L LL x w):=by
 have hB0:=(Below.refl w.heap.size w).alloc (Nat.le_refl _) (.cells #[.int .i64 x.l,.slice x.A x.n x.c] 58)
 have HB0:=hide hB0
 have HC:=hide (RCheckP_is hv _ (h.one.up hB0))
 have HBX:=hide (heap_alloc_new w (.cells #[.int .i64 x.l,.slice x.A x.n x.c] 58))
 have HF:=hide (tyOfP_out (T:=tys L) (lc:=lcs LL) hv (by rw [lcs_len,h.locs.len];omega))
 obtain ⟨l,A,n,c,ps⟩:=x
 simp only [] at hl
 clear h hB0 hv
 go_enter Tryz.func138,Tryz.ntmps138
 go_wp2_with fail
 refine HC.out.mono ?_
 rintro e w1 ⟨rfl,hb1⟩
 have HB1:=hide (HB0.out.trans (hb1.mono HB0.out.size))
 have hbX:=(hb1.block w.heap.size (by simp)).trans HBX.out
 have z0:=cell_of_heap hbX 0
 clear hb1 hbX
 go_wp2
 go_ret2
 exact tyE_mk HF.out rfl HB1.out
theorem RTypeOf_zero {At Al:Option Addr} {nt ct nl cl:Nat} {L:List TyW} {LL:List LcW} {r:Int} {x:PlW} {w:World} (h:Pl8 w At Al nt nl L LL x r) (hq:x.n=0) (hv:plErr x.l x.ps=0) {k:Nat} {lc:LcW} (hk:x.l=(k:Int)) (hlc:LL[k]?=some lc) :
  Calls Tryz.prog 138 #[.slice At nt ct,.slice Al nl cl,aggPl x] w (TyE L LL x w):=by
 have hB0:=(Below.refl w.heap.size w).alloc (Nat.le_refl _) (.cells #[.int .i64 x.l,.slice x.A x.n x.c] 58)
 have HB0:=hide hB0
 have HC:=hide (RCheckP_is hv _ (h.one.up hB0))
 have HBX:=hide (heap_alloc_new w (.cells #[.int .i64 x.l,.slice x.A x.n x.c] 58))
 have hnl:=h.locs.len
 have hkl:=(List.getElem?_eq_some_iff.1 hlc).1
 have hkl':(k:Int) < (nl:Int):=by omega
 have hps:x.ps=[]:=List.eq_nil_of_length_eq_zero (by have:=h.one.prs.len;omega)
 have HF:=hide (show tyOfP (tys L) (lcs LL) x.l x.ps=(lc.ty,0) from by rw [tyOfP_in hv hk (lcs_at hlc),hps];rfl)
 obtain ⟨b,o,rfl,hbb,c0,c1⟩:=h.locs.at_ hlc
 have HCC:=hide fun (w':World) (hb:Below w.heap.size w w')=>(hb.cell (p:=⟨b,o+k*2+1,none⟩) hbb).trans c1
 obtain ⟨l,A,n,c,ps⟩:=x
 simp only [] at hq hk
 subst hq hk
 obtain ⟨nm,ty⟩:=lc
 simp only [] at HF HCC
 clear h hB0 hlc hv hps c0 c1 hkl
 go_enter Tryz.func138,Tryz.ntmps138
 go_wp2_with fail
 refine HC.out.mono ?_
 rintro e w1 ⟨rfl,hb1⟩
 have HB1:=hide (HB0.out.trans (hb1.mono HB0.out.size))
 have hbX:=(hb1.block w.heap.size (by simp)).trans HBX.out
 have z0:=cell_of_heap hbX 0
 have z1:=cell_of_heap hbX 1
 have c1:=HCC.out _ HB1.out
 clear hb1 hbX
 go_wp2
 go_ret2
 exact tyE_mk HF.out rfl HB1.out
theorem RTypeOf_step {At Al:Option Addr} {nt ct nl cl:Nat} {L:List TyW} {LL:List LcW} {r:Int} {x:PlW} {w:World} (h:Pl8 w At Al nt nl L LL x r) {m:Nat} (hq:x.n=m+1) (hv:plErr x.l x.ps=0) {k:Nat} {lc:LcW} (hk:x.l=(k:Int)) (hlc:LL[k]?=some lc)
  (ih:∀ w',Below w.heap.size w w'→Calls Tryz.prog 138 #[.slice At nt ct,.slice Al nl cl,.agg #[.int .i64 x.l,.slice x.A m x.c]] w' fun e w''=>e=.returned (.tuple #[.int .i64 (tyA (tys L) lc.ty x.ps m),.int .i64 (erA (tys L) lc.ty x.ps m)])∧Below w'.heap.size w' w'') :
  Calls Tryz.prog 138 #[.slice At nt ct,.slice Al nl cl,aggPl x] w (TyE L LL x w):=by
 obtain ⟨l,A,n,c,ps⟩:=x
 simp only [] at hq hv hk ih
 subst hq
 have hpl:ps.length=m+1:=h.one.prs.len
 obtain ⟨p,hp⟩:∃ p,ps[m]?=some p:=⟨_,List.getElem?_eq_getElem (by omega)⟩
 obtain ⟨b2,o2,hA,hbb2,hint,d0,d1⟩:=h.one.prs.at_ hp
 simp only [] at hA
 subst hA
 have hB0:=(Below.refl w.heap.size w).alloc (Nat.le_refl _) (.cells #[.int .i64 l,.slice (some ⟨b2,o2,none⟩) (m+1) c] 58)
 have HB0:=hide hB0
 have HC:=hide (RCheckP_is (x:=⟨l,some ⟨b2,o2,none⟩,m+1,c,ps⟩) hv _ (h.one.up hB0))
 have HBX:=hide (heap_alloc_new w (.cells #[.int .i64 l,.slice (some ⟨b2,o2,none⟩) (m+1) c] 58))
 have hnl:=h.locs.len
 have hkl:=(List.getElem?_eq_some_iff.1 hlc).1
 have hkl':l < (nl:Int):=by omega
 have hW:=h.way hk hlc
 have hg:=goL_one (T:=tys L) (t:=lc.ty) hpl hp
 have hgx:tyOfP (tys L) (lcs LL) l ps=goL (tys L) lc.ty ps:=tyOfP_in hv hk (lcs_at hlc)
 have H:=hide fun w' (hb:Below w.heap.size w w')=>h.up hb
 have hnc:m+1≤c:=h.one.nc
 have hmc:m≤c:=by omega
 have hxn:m+1≤maxLen:=Nat.le_trans h.one.nc h.one.cm
 have hn0:(((m:Int)+1) == 0)=false:=by simp;omega
 have hwr:IntKind.i64.wrap (m:Int)=(m:Int):=wrapI8 _ (by omega) (by unfold maxLen at hxn;omega)
 have k0:(0:Int)≤(m:Int):=by omega
 have k1:(m:Int)≤(m:Int)+1:=by omega
 have k2:(m:Int)+1≤(c:Int):=by omega
 have k3:(m:Int)≤(c:Int):=by omega
 have k5:(m:Int) < (m:Int)+1:=by omega
 have hxs:m≤40:=by have:=(plErr_zero.1 hv).2.1;omega
 obtain ⟨ev,hev⟩:∃ ev,erA (tys L) lc.ty ps m=ev:=⟨_,rfl⟩
 obtain ⟨tv,htv⟩:∃ tv,tyA (tys L) lc.ty ps m=tv:=⟨_,rfl⟩
 rw [hev,htv] at ih hg
 have HIH:=hide ih
 have HEV:=hide hev
 have HTV:=hide htv
 have HS:=hide fun w' (h:Below (w.alloc (.cells #[.int .i64 l,.slice (some ⟨b2,o2,none⟩) (m+1) c] 58)).heap.size (w.alloc (.cells #[.int .i64 l,.slice (some ⟨b2,o2,none⟩) (m+1) c] 58)) w')=>show Below (w.alloc (.cells #[.int .i64 l,.slice (some ⟨b2,o2,none⟩) (m+1) c] 58)).heap.size (w.alloc (.cells #[.int .i64 l,.slice (some ⟨b2,o2,none⟩) (m+1) c] 58)) w'∧w'.cell? ⟨w.heap.size,0,none⟩=some (.int .i64 l)∧w'.cell? ⟨w.heap.size,1,none⟩=some (.slice (some ⟨b2,o2,none⟩) (m+1) c) from
  ⟨h,cell_of_heap ((h.block w.heap.size (by simp)).trans HBX.out) 0,cell_of_heap ((h.block w.heap.size (by simp)).trans HBX.out) 1⟩
 have HP:=hide hp
 have HGX:=hide (hgx.trans hg)
 have HWW:=hide hW
 have HPL:=hide hpl
 have HPL0:=hide hv
 unfold maxLen at hxn
 clear h hB0 hlc hv hp hg hgx hev hk ih hW hpl HBX hkl htv
 go_enter Tryz.func138,Tryz.ntmps138
 go_wp2_with fail
 refine HC.out.mono ?_
 rintro e w1 ⟨rfl,hb1⟩
 obtain ⟨_,z0,z1⟩:=HS.out _ hb1
 have HB1:=hide hb1
 clear hb1 HC
 go_wp2
 by_cases hev0:ev=0
 rotate_left
 ·
  have tev:(ev != 0)=true:=by rw [bne_iff_ne];exact hev0
  have HF:=hide (show tyOfP (tys L) (lcs LL) l ps=(0,ev) from by rw [HGX.out,if_neg hev0])
  clear hev0
  go_region_held3 (fun w'=>Below (w.alloc (.cells #[.int .i64 l,.slice (some ⟨b2,o2,none⟩) (m+1) c] 58)).heap.size (w.alloc (.cells #[.int .i64 l,.slice (some ⟨b2,o2,none⟩) (m+1) c] 58)) w'∧w'.cell? ⟨w.heap.size,0,none⟩=some (.int .i64 l)∧w'.cell? ⟨w.heap.size,1,none⟩=some (.slice (some ⟨b2,o2,none⟩) (m+1) c))
   (first | exact HS.out _ (by assumption) | exact HS.out _ HB1.out | exact HS.out _ HB1.out.drew)
   (first
    | (go_at_call 138;go_split_ands;refine (HIH.out _ (HB0.out.trans (Below.mono (by assumption:Below (w.alloc (.cells #[.int .i64 l,.slice (some ⟨b2,o2,none⟩) (m+1) c] 58)).heap.size (w.alloc (.cells #[.int .i64 l,.slice (some ⟨b2,o2,none⟩) (m+1) c] 58)) _) HB0.out.size))).mono ?_;rintro e w4 ⟨rfl,hb0⟩;have hb4:=Below.trans (by assumption:Below (w.alloc (.cells #[.int .i64 l,.slice (some ⟨b2,o2,none⟩) (m+1) c] 58)).heap.size (w.alloc (.cells #[.int .i64 l,.slice (some ⟨b2,o2,none⟩) (m+1) c] 58)) _) (hb0.mono (Below.size (by assumption:Below (w.alloc (.cells #[.int .i64 l,.slice (some ⟨b2,o2,none⟩) (m+1) c] 58)).heap.size (w.alloc (.cells #[.int .i64 l,.slice (some ⟨b2,o2,none⟩) (m+1) c] 58)) _)))))
  all_goals
   go_split_ands
   have hb4':=(by assumption:Below (w.alloc (.cells #[.int .i64 l,.slice (some ⟨b2,o2,none⟩) (m+1) c] 58)).heap.size (w.alloc (.cells #[.int .i64 l,.slice (some ⟨b2,o2,none⟩) (m+1) c] 58)) w4)
   go_wp2
   go_ret2
   exact tyE_mk HF.out rfl (HB0.out.trans (hb4'.mono HB0.out.size))
 subst hev0
 obtain ⟨i,u,hti,hu⟩:=Stp.lt HWW.out.ok HWW.out.t0 (by rw [tys_len];exact HWW.out.t1) (show Stp (tys L) lc.ty ps m from ⟨by have:=HPL.out;omega,HEV.out⟩)
 rw [HTV.out] at hti
 subst hti
 obtain ⟨y,hy,hyt⟩:=tys_back hu
 rw [if_pos rfl,tyGet_at hu,← hyt] at HGX
 have HY:=hide hy
 have HCASE:=hide (stepT_cases y.t p)
 have hin:i < nt:=by have:=(List.getElem?_eq_some_iff.1 hy).1;have:=(H.out w (Below.refl _ _)).typs.len;omega
 have hin':(i:Int) < (nt:Int):=by omega
 have hnt:=(H.out w (Below.refl _ _)).nt
 have HTP:=hide (((H.out w (Below.refl _ _)).typs.at_ hy))
 unfold maxLen at hnt
 clear hu hyt hy
 obtain ⟨b,o,rfl,hbb,hone,c0,c1,c2,c3,c4⟩:=HTP.out
 obtain ⟨pk,pf⟩:=p
 have HONE:=hide hone
 obtain ⟨⟨kd,mu,rr,el,fs⟩,Af,nf,cf⟩:=y
 simp only [] at c0 c1 c2 c3 c4 d0 d1
 have HR:=hide fun (w':World) (hb:Below w.heap.size w w')=>show w'.cell? ⟨b,o+i*5,none⟩=some (.int .i64 kd)∧w'.cell? ⟨b,o+i*5+1,none⟩=some (.bool mu)∧w'.cell? ⟨b,o+i*5+2,none⟩=some (.int .i64 rr)∧w'.cell? ⟨b,o+i*5+3,none⟩=some (.int .i64 el)∧w'.cell? ⟨b,o+i*5+4,none⟩=some (.slice Af nf cf)∧w'.cell? ⟨b2,o2+m*2,none⟩=some (.int .i64 pk)∧w'.cell? ⟨b2,o2+m*2+1,none⟩=some (.int .i64 pf) from
  ⟨(hb.cell (p:=⟨b,o+i*5,none⟩) hbb).trans c0,(hb.cell (p:=⟨b,o+i*5+1,none⟩) hbb).trans c1,(hb.cell (p:=⟨b,o+i*5+2,none⟩) hbb).trans c2,(hb.cell (p:=⟨b,o+i*5+3,none⟩) hbb).trans c3,(hb.cell (p:=⟨b,o+i*5+4,none⟩) hbb).trans c4,(hb.cell (p:=⟨b2,o2+m*2,none⟩) hbb2).trans d0,(hb.cell (p:=⟨b2,o2+m*2+1,none⟩) hbb2).trans d1⟩
 have hok:=hone.ok
 have hlen:fs.length=nf:=hok.len
 have hnf:nf≤cf:=hok.nc
 have hcf:cf≤maxLen:=hok.cm
 unfold maxLen at hcf
 clear hone hok c0 c1 c2 c3 c4 d0 d1 hint
 go_region_held3 (fun w'=>Below (w.alloc (.cells #[.int .i64 l,.slice (some ⟨b2,o2,none⟩) (m+1) c] 58)).heap.size (w.alloc (.cells #[.int .i64 l,.slice (some ⟨b2,o2,none⟩) (m+1) c] 58)) w'∧w'.cell? ⟨w.heap.size,0,none⟩=some (.int .i64 l)∧w'.cell? ⟨w.heap.size,1,none⟩=some (.slice (some ⟨b2,o2,none⟩) (m+1) c))
  (first | exact HS.out _ (by assumption) | exact HS.out _ HB1.out | exact HS.out _ HB1.out.drew)
  (first
   | (go_at_call 138;go_split_ands;refine (HIH.out _ (HB0.out.trans (Below.mono (by assumption:Below (w.alloc (.cells #[.int .i64 l,.slice (some ⟨b2,o2,none⟩) (m+1) c] 58)).heap.size (w.alloc (.cells #[.int .i64 l,.slice (some ⟨b2,o2,none⟩) (m+1) c] 58)) _) HB0.out.size))).mono ?_;rintro e w4 ⟨rfl,hb0⟩;have hb4:=Below.trans (by assumption:Below (w.alloc (.cells #[.int .i64 l,.slice (some ⟨b2,o2,none⟩) (m+1) c] 58)).heap.size (w.alloc (.cells #[.int .i64 l,.slice (some ⟨b2,o2,none⟩) (m+1) c] 58)) _) (hb0.mono (Below.size (by assumption:Below (w.alloc (.cells #[.int .i64 l,.slice (some ⟨b2,o2,none⟩) (m+1) c] 58)).heap.size (w.alloc (.cells #[.int .i64 l,.slice (some ⟨b2,o2,none⟩) (m+1) c] 58)) _)))))
 all_goals
  go_split_ands
  have hb4':=(by assumption:Below (w.alloc (.cells #[.int .i64 l,.slice (some ⟨b2,o2,none⟩) (m+1) c] 58)).heap.size (w.alloc (.cells #[.int .i64 l,.slice (some ⟨b2,o2,none⟩) (m+1) c] 58)) w4)
  have HB4:=hide hb4'
  have hbw:=HB0.out.trans (hb4'.mono HB0.out.size)
  have HBW:=hide hbw
  have ha1:=hbw.alloc hbw.size (.cells #[.int .i64 kd,.bool mu,.int .i64 rr,.int .i64 el,.slice Af nf cf] 65)
  have HB5:=hide (ha1.alloc ha1.size (.cells #[.int .i64 pk,.int .i64 pf] 205))
  obtain ⟨r0,r1,r2,r3,r4,r5,r6⟩:=HR.out _ hbw
  obtain ⟨_,_,_,_,_,s5,s6⟩:=HR.out _ ha1
  have z2:=(HS.out _ (hb4'.alloc hb4'.size (.cells #[.int .i64 kd,.bool mu,.int .i64 rr,.int .i64 el,.slice Af nf cf] 65))).2.2
  clear hb4' hbw ha1
  rcases HCASE.out with ⟨h1,h2,h3⟩ | ⟨h1,h2,q,v,hq,hv,h3⟩ | ⟨h1,h2,h4,h3⟩ | ⟨h1,h2,h3⟩
  ·
   subst h1 h2
   have HF:=hide (HGX.out.trans h3)
   clear h3
   go_wp2
   go_ret2
   exact tyE_mk HF.out rfl HB5.out
  ·
   subst h1 h2 hq
   have hql:=(List.getElem?_eq_some_iff.1 hv).1
   have hql':(q:Int) < (nf:Int):=by omega
   have HF:=hide (HGX.out.trans h3)
   obtain ⟨b3,o3,hAf,_,f0⟩:=(HONE.out.below HB5.out).rd.int hv
   simp only [] at hAf
   subst hAf
   clear h3 hv
   go_wp2
   go_ret2
   exact tyE_mk HF.out rfl HB5.out
  ·
   subst h1 h2
   have HF:=hide (HGX.out.trans h3)
   have hpe:=pjErr_zero ((plErr_zero.1 HPL0.out).2.2 _ (List.mem_of_getElem? HP.out))
   simp only [] at hpe
   have hge:(nf:Int)≤pf:=by omega
   clear h3 h4 hpe
   go_wp2
   go_ret2
   exact tyE_mk HF.out rfl HB5.out
  ·
   have HF:=hide (HGX.out.trans h3)
   clear h3
   by_cases p0:pk=0
   ·
    subst p0
    have k3':¬kd=3:=fun h=>h1 ⟨rfl,h⟩
    have t1:(kd == 3)=false:=by simpa using k3'
    clear h1 h2 k3'
    go_wp2
    go_ret2
    exact tyE_mk HF.out rfl HB5.out
   ·
    have t0:(pk == 0)=false:=by simpa using p0
    by_cases p1:pk=1
    ·
     subst p1
     have k4':¬kd=4:=fun h=>h2 ⟨rfl,h⟩
     have t1:(kd == 4)=false:=by simpa using k4'
     clear h1 h2 k4' t0 p0
     go_wp2
     go_ret2
     exact tyE_mk HF.out rfl HB5.out
    ·
     have t2:(pk == 1)=false:=by simpa using p1
     clear h1 h2 p0 p1
     go_wp2
     go_ret2
     exact tyE_mk HF.out rfl HB5.out
theorem RTypeOf_any {At Al:Option Addr} {nt ct nl cl:Nat} {L:List TyW} {LL:List LcW} {r:Int}:∀ (q:Nat) (x:PlW) (w:World),x.n=q→Pl8 w At Al nt nl L LL x r →
  Calls Tryz.prog 138 #[.slice At nt ct,.slice Al nl cl,aggPl x] w (TyE L LL x w)
 | q,x,w,hq,h=>by
  by_cases hv:plErr x.l x.ps=0
  ·
   have h0:=(plErr_zero.1 hv).1
   by_cases hl:x.l < (nl:Int)
   ·
    have hnl:=h.locs.len
    obtain ⟨lc,hlc⟩:∃ lc,LL[x.l.toNat]?=some lc:=⟨_,List.getElem?_eq_getElem (by omega)⟩
    have hk:x.l=((x.l.toNat:Nat):Int):=by omega
    match q,hq with
    | 0,hq=>exact RTypeOf_zero h hq hv hk hlc
    | m+1,hq=>
     refine RTypeOf_step (x:=x) h hq hv hk hlc fun w' hb=>?_
     have h2:=RTypeOf_any (ct:=ct) (cl:=cl) m (x.take m) w' rfl ((h.up hb).take (by omega))
     have e:tyOfP (tys L) (lcs LL) (x.take m).l (x.take m).ps=(tyA (tys L) lc.ty x.ps m,erA (tys L) lc.ty x.ps m):=tyOfP_in (plErr_take hv m) hk (lcs_at hlc)
     unfold TyE at h2
     rw [e] at h2
     exact h2
   ·
    exact RTypeOf_out h hv (by omega)
  ·
   exact RTypeOf_err h rfl hv
theorem RTypeOf_is {At Al:Option Addr} {nt ct nl cl:Nat} {L:List TyW} {LL:List LcW} {x:PlW} {r u v:Int} {w:World} (h:Pl8 w At Al nt nl L LL x r) (hv:tyOfP (tys L) (lcs LL) x.l x.ps=(u,v)) :
  Calls Tryz.prog 138 #[.slice At nt ct,.slice Al nl cl,aggPl x] w fun e w'=>e=.returned (.tuple #[.int .i64 u,.int .i64 v])∧Below w.heap.size w w':=by
 have:=RTypeOf_any (ct:=ct) (cl:=cl) x.n x w rfl h
 unfold TyE at this
 rw [hv] at this
 exact this
end Go.Proofs.YteeemjmohjkdpaaGreatDoor
