/- Part 8 of the contracts and their mathematics. -/
import Derived.Test.YtfgacmgjpikgaaaGreatDoorQ2
import Derived.Lib.BitFns
import Derived.Lib.AppendStr
import Derived.Lib.SlicesCompact
import Derived.Lib.Strings
set_option linter.unusedVariables false
set_option linter.unusedSimpArgs false
set_option maxHeartbeats 2000000
namespace Go.Proofs.YtfgacmgjpikgaaaGreatDoor
open Go.RowKit
def tyAt (L:List Ty) (s:Int):Option Ty:=if 0≤s then L[s.toNat]? else none
theorem tyAt_nat {L:List Ty} {i:Nat}:tyAt L (i:Int)=L[i]?:=by unfold tyAt;rw [if_pos (Int.natCast_nonneg _),Int.toNat_natCast]
theorem tyAt_some {L:List Ty} {s:Int} {a:Ty} (h:tyAt L s=some a):∃ i:Nat,s=(i:Int)∧L[i]?=some a:=by
 unfold tyAt at h
 split at h
 ·
  rename_i h0
  exact ⟨s.toNat,(Int.toNat_of_nonneg h0).symm,h⟩
 ·
  cases h
theorem tyAt_rng {L:List Ty} {s:Int} {a:Ty} (h:tyAt L s=some a):0≤s∧s < (L.length:Int):=by
 obtain ⟨i,rfl,h⟩:=tyAt_some h
 have:=(List.getElem?_eq_some_iff.1 h).1
 omega
def needs (a b:Ty):List Pr:=if a.kind=3 then (a.elem,b.elem) :: (if a.mut_=true then [(b.elem,a.elem)] else []) else if a.kind=4 then a.fields.zip b.fields else []
def poss (O:Int→Int→Bool) (a b:Ty):Bool:=
 if a.kind≠b.kind then false
 else if a.kind=0∨a.kind=1∨a.kind=2 then true
 else if a.kind=3 then (a.mut_ == b.mut_) && O a.region b.region
 else if a.kind=4 then decide (a.fields.length=b.fields.length)
 else false
inductive Sub (O:Int→Int→Bool) (L:List Ty):Int→Int→Prop
 | mk {s t:Int} {a b:Ty}:tyAt L s=some a→tyAt L t=some b→poss O a b=true→(∀ p:Pr,p∈needs a b→Sub O L p.1 p.2)→Sub O L s t
noncomputable def sub (O:Int→Int→Bool) (L:List Ty) (s t:Int):Bool:=@decide (Sub O L s t) (Classical.propDecidable _)
theorem sub_iff {O:Int→Int→Bool} {L:List Ty} {s t:Int}:sub O L s t=true↔Sub O L s t:=by unfold sub;exact @decide_eq_true_iff _ (Classical.propDecidable _)
theorem sub_not {O:Int→Int→Bool} {L:List Ty} {s t:Int}:sub O L s t=false↔¬Sub O L s t:=by rw [←sub_iff];simp
section
variable {O:Int→Int→Bool} {L:List Ty} {r:Int} {s t u:Int} {a b c:Ty}
theorem Sub.inv (h:Sub O L s t):∃ a b,tyAt L s=some a∧tyAt L t=some b∧poss O a b=true∧∀ p:Pr,p∈needs a b→Sub O L p.1 p.2:=by
 cases h with
 | mk h1 h2 h3 h4=>exact ⟨_,_,h1,h2,h3,h4⟩
theorem Sub.at_ (h:Sub O L s t) (ha:tyAt L s=some a) (hb:tyAt L t=some b):poss O a b=true∧∀ p:Pr,p∈needs a b→Sub O L p.1 p.2:=by
 obtain ⟨a',b',h1,h2,h3,h4⟩:=h.inv
 rw [ha] at h1;injection h1 with h1;subst h1
 rw [hb] at h2;injection h2 with h2;subst h2
 exact ⟨h3,h4⟩
theorem poss_kind (h:poss O a b=true):a.kind=b.kind:=by
 unfold poss at h
 by_cases e:a.kind=b.kind
 ·
  exact e
 ·
  rw [if_pos e] at h;cases h
theorem poss_flat (e:a.kind=b.kind) (h:a.kind=0∨a.kind=1∨a.kind=2):poss O a b=true:=by unfold poss;rw [if_neg (fun h=>h e),if_pos h]
theorem poss_mkref (e:a.kind=b.kind) (h3:a.kind=3) (hm:a.mut_=b.mut_) (ho:O a.region b.region=true):poss O a b=true:=by
 unfold poss;rw [if_neg (fun h=>h e),if_neg (by omega),if_pos h3,hm,ho];simp
theorem poss_mktup (e:a.kind=b.kind) (h4:a.kind=4) (hl:a.fields.length=b.fields.length):poss O a b=true:=by
 unfold poss;rw [if_neg (fun h=>h e),if_neg (by omega),if_neg (by omega),if_pos h4];simpa using hl
theorem needs_ref (h3:a.kind=3):needs a b=(a.elem,b.elem) :: (if a.mut_=true then [(b.elem,a.elem)] else []):=by unfold needs;rw [if_pos h3]
theorem needs_tup (h4:a.kind=4):needs a b=a.fields.zip b.fields:=by unfold needs;rw [if_neg (by omega),if_pos h4]
theorem needs_flat (h:a.kind≠3) (h':a.kind≠4):needs a b=[]:=by unfold needs;rw [if_neg h,if_neg h']
theorem zip_at {xs ys:List Int} {p:Pr} (h:p∈xs.zip ys):∃ i:Nat,xs[i]?=some p.1∧ys[i]?=some p.2:=by
 obtain ⟨i,hi⟩:=List.getElem?_of_mem h
 exact ⟨i,List.getElem?_zip_eq_some.1 hi⟩
theorem need_less (h:TyOk L r) (ha:tyAt L s=some a) (hb:tyAt L t=some b) (hp:a.kind=b.kind) {p:Pr} (hn:p∈needs a b):0≤p.1∧0≤p.2∧p.1+p.2 < s+t∧p.1 < (L.length:Int)∧p.2 < (L.length:Int):=by
 obtain ⟨i,rfl,hi⟩:=tyAt_some ha
 obtain ⟨j,rfl,hj⟩:=tyAt_some hb
 have hil:=(List.getElem?_eq_some_iff.1 hi).1
 have hjl:=(List.getElem?_eq_some_iff.1 hj).1
 by_cases h3:a.kind=3
 ·
  rw [needs_ref h3] at hn
  have h1:=h.part hi (p:=a.elem) (by rw [tyParts_ref h3];simp)
  have h2:=h.part hj (p:=b.elem) (by rw [tyParts_ref (by omega)];simp)
  rcases List.mem_cons.1 hn with rfl | hn
  ·
   simp only [];omega
  ·
   split at hn
   ·
    have e:p=(b.elem,a.elem):=by simpa using hn
    subst e
    simp only [];omega
   ·
    cases hn
 ·
  by_cases h4:a.kind=4
  ·
   rw [needs_tup h4] at hn
   obtain ⟨k,hx,hy⟩:=zip_at hn
   have h1:=h.part hi (p:=p.1) (by rw [tyParts_tup h4];exact List.mem_of_getElem? hx)
   have h2:=h.part hj (p:=p.2) (by rw [tyParts_tup (by omega)];exact List.mem_of_getElem? hy)
   omega
  ·
   rw [needs_flat h3 h4] at hn;cases hn
theorem closed_sub (h:TyOk L r) {M:List Pr} (hM:∀ p∈M,∃ a b,tyAt L p.1=some a∧tyAt L p.2=some b∧poss O a b=true∧∀ q∈needs a b,q∈M):∀ p∈M,Sub O L p.1 p.2:=by
 have key:∀ n:Nat,∀ p∈M,(p.1+p.2).toNat < n→Sub O L p.1 p.2:=by
  intro n
  induction n with
  | zero=>intro p _ h;omega
  | succ n ih=>
   intro p hp hlt
   obtain ⟨a,b,h1,h2,h3,h4⟩:=hM p hp
   refine .mk h1 h2 h3 fun q hq=>ih q (h4 q hq) ?_
   have:=need_less h h1 h2 (poss_kind h3) hq
   omega
 intro p hp
 exact key _ p hp (Nat.lt_succ_self _)
theorem sub_refl (h:TyOk L r) (hO:∀ x,0≤x→x < r→O x x=true):∀ (n:Nat) (s:Int) (a:Ty),s.toNat < n→tyAt L s=some a→Sub O L s s
 | 0,s,a,hn,_=>by omega
 | n+1,s,a,hn,ha=>by
  obtain ⟨i,rfl,hi⟩:=tyAt_some ha
  have hil:=(List.getElem?_eq_some_iff.1 hi).1
  have ho:=h.own hi
  have sm:∀ p:Int,p∈tyParts a→Sub O L p p:=fun p hp=>by
   obtain ⟨q,w,rfl,hq,hw⟩:=h.elem hi hp
   exact sub_refl h hO n q w (by omega) (by rw [tyAt_nat];exact hw)
  by_cases h3:a.kind=3
  ·
   have hr:=ho.2.2.2.1 h3
   refine .mk ha ha (poss_mkref rfl h3 rfl (hO _ hr.1 hr.2)) fun p hp=>?_
   rw [needs_ref h3] at hp
   have hp':p=(a.elem,a.elem):=by
    rcases List.mem_cons.1 hp with e | e
    ·
     exact e
    ·
     split at e
     ·
      simpa using e
     ·
      cases e
   subst hp'
   exact sm _ (by rw [tyParts_ref h3];simp)
  ·
   by_cases h4:a.kind=4
   ·
    refine .mk ha ha (poss_mktup rfl h4 rfl) fun p hp=>?_
    rw [needs_tup h4] at hp
    obtain ⟨k,hx,hy⟩:=zip_at hp
    rw [hx] at hy
    injection hy with hy
    rw [←hy]
    exact sm _ (by rw [tyParts_tup h4];exact List.mem_of_getElem? hx)
   ·
    exact .mk ha ha (poss_flat rfl (by omega)) fun p hp=>by rw [needs_flat h3 h4] at hp;cases hp
end
def hasD (ps:List Pr) (f:Int):Bool:=(List.range ps.length).any fun i=>decide (f≤(i:Int)) && (match ps[i]? with | some p=>decide (p.1=0) | none=>false)
def noDTo (ps:List Pr) (f:Int) (k:Nat):Prop:=∀ i p,i < k→f≤(i:Int)→ps[i]?=some p→p.1≠0
theorem noDTo_up {ps:List Pr} {f:Int} {k:Nat} {p:Pr} (h:noDTo ps f k) (hp:ps[k]?=some p) (hn:f≤(k:Int)→p.1≠0):noDTo ps f (k+1):=fun i q hi hf hq=>by
 rcases Nat.lt_or_ge i k with h1 | h1
 ·
  exact h i q h1 hf hq
 ·
  obtain rfl:i=k:=by omega
  rw [hp] at hq
  injection hq with hq
  exact hq ▸ hn hf
theorem hasD_yes {ps:List Pr} {f:Int} {k:Nat} {p:Pr} (hp:ps[k]?=some p) (hf:f≤(k:Int)) (h0:p.1=0):hasD ps f=true:=by
 unfold hasD
 rw [List.any_eq_true]
 refine ⟨k,List.mem_range.2 (List.getElem?_eq_some_iff.1 hp).1,?_⟩
 rw [hp]
 simp [hf,h0]
theorem hasD_no {ps:List Pr} {f:Int} (h:noDTo ps f ps.length):hasD ps f=false:=by
 cases e:hasD ps f with
 | false=>rfl
 | true=>
  unfold hasD at e
  rw [List.any_eq_true] at e
  obtain ⟨i,hi,he⟩:=e
  cases hp:ps[i]? with
  | none=>rw [hp] at he;simp at he
  | some p=>
   rw [hp] at he
   simp at he
   exact absurd he.2 (h i p (List.mem_range.1 hi) he.1 hp)
theorem HasDeref_any (x:PlW) (f:Int) (w:World) (hx:OnePl w w.heap.size x) :
  Calls Tryz.prog 81 #[aggPl x,.int .i64 f] w fun e w'=>e=.returned (.bool (hasD x.ps f))∧Below w.heap.size w w':=by
 obtain ⟨l,A,n,c,ps⟩:=x
 have hn:=Nat.le_trans hx.nc hx.cm
 simp only [] at hn
 have HX:=hide hx.prs
 have HL:=hide hx.prs.len
 have HA:=hide ((Below.refl w.heap.size w).alloc (Nat.le_refl _) (.cells #[.int .i64 l,.slice A n c] 36))
 clear hx
 unfold maxLen at hn
 go_enter Tryz.func81,Tryz.ntmps81
 go_wp2
 go_loopw [10] (fun i wr=>∃ j:Nat,i=.int .i64 (j:Int)∧j≤n∧Hid (noDTo ps f j)∧Below w.heap.size w wr) (fun i _=>n - (intOf i).toNat)
 case atStart=>exact ⟨0,rfl,Nat.zero_le _,fun i p h=>absurd h (Nat.not_lt_zero _),HA.out⟩
 case round=>
  obtain ⟨j,rfl,hj,HE,hb⟩:=hrel
  have HB:=hide hb
  clear hb
  by_cases hlt:j < n
  ·
   have hlt':(j:Int) < (n:Int):=by omega
   obtain ⟨p,hp⟩:∃ p,ps[j]?=some p:=⟨_,List.getElem?_eq_getElem (by have:ps.length=n:=HL.out;omega)⟩
   obtain ⟨b,o,rfl,_,hi,c0,c1⟩:=(HX.out.below HB.out).at_ hp
   obtain ⟨k,fl⟩:=p
   simp only [] at c0 c1
   have HB2:=hide (HB.out.alloc HB.out.size (.cells #[.int .i64 k,.int .i64 fl] 102))
   have HP:=hide hp
   clear hp hi
   by_cases hf:f≤(j:Int)
   ·
    by_cases h0:k=0
    ·
     subst h0
     have HF:=hide (hasD_yes HP.out hf rfl)
     go_wp2
     go_ret
     exact ⟨congrArg (fun v=>Ending.returned (.bool v)) HF.out.symm,HB2.out⟩
    ·
     have t0:(k == 0)=false:=by simpa using h0
     have HN:=hide (noDTo_up HE.out HP.out fun _=>h0)
     clear h0
     go_wp2
     go_roundw
     case rel=>exact ⟨j+1,by go_num,by omega,HN.out,HB2.out⟩
     case measure=>simp [intOf];omega
   ·
    have hf':(j:Int) < f:=by omega
    have HN:=hide (noDTo_up HE.out HP.out fun h=>absurd h hf)
    clear hf
    go_wp2
    go_roundw
    case rel=>exact ⟨j+1,by go_num,by omega,HN.out,HB2.out⟩
    case measure=>simp [intOf];omega
  ·
   obtain rfl:j=n:=by omega
   have HF:=hide (hasD_no (show noDTo ps f ps.length from (show ps.length=j from HL.out) ▸ HE.out))
   go_wp2
   go_ret
   exact ⟨congrArg (fun v=>Ending.returned (.bool v)) HF.out.symm,HB.out⟩
theorem HasDeref_is {x:PlW} {f:Int} {v:Bool} (h:hasD x.ps f=v) (w:World) (hx:OnePl w w.heap.size x) :
  Calls Tryz.prog 81 #[aggPl x,.int .i64 f] w fun e w'=>e=.returned (.bool v)∧Below w.heap.size w w':=h ▸ HasDeref_any x f w hx
theorem RHasDeref_any (x:PlW) (f:Int) (w:World) (hx:OnePl w w.heap.size x) :
  Calls Tryz.prog 36 #[aggPl x,.int .i64 f] w fun e w'=>e=.returned (.bool (hasD x.ps f))∧Below w.heap.size w w':=by
 obtain ⟨l,A,n,c,ps⟩:=x
 have hn:=Nat.le_trans hx.nc hx.cm
 simp only [] at hn
 have HX:=hide hx.prs
 have HL:=hide hx.prs.len
 have HA:=hide ((Below.refl w.heap.size w).alloc (Nat.le_refl _) (.cells #[.int .i64 l,.slice A n c] 36))
 clear hx
 unfold maxLen at hn
 have c1:(w.alloc (.cells #[.int .i64 l,.slice A n c] 36)).cell? ⟨w.heap.size,1,none⟩=some (.slice A n c):=by simp [go_sem]
 have HC1:=hide c1
 clear c1
 go_enter Tryz.func36,Tryz.ntmps36
 go_wp2
 go_loop [5] (fun i=>∃ j:Nat,i=.int .i64 (j:Int)∧j≤n∧Hid (noDTo ps f j)) (fun i=>n - (intOf i).toNat)
 case atStart=>exact ⟨0,rfl,Nat.zero_le _,fun i p h=>absurd h (Nat.not_lt_zero _)⟩
 case round=>
  obtain ⟨j,rfl,hj,HE⟩:=hrel
  by_cases hlt:j < n
  ·
   have hlt':(j:Int) < (n:Int):=by omega
   obtain ⟨p,hp⟩:∃ p,ps[j]?=some p:=⟨_,List.getElem?_eq_getElem (by have:ps.length=n:=HL.out;omega)⟩
   obtain ⟨b,o,rfl,_,hi,c0,c1⟩:=(HX.out.below HA.out).at_ hp
   obtain ⟨k,fl⟩:=p
   simp only [] at c0 c1
   have HP:=hide hp
   clear hp hi
   by_cases hf:f≤(j:Int)
   ·
    by_cases h0:k=0
    ·
     subst h0
     have HF:=hide (hasD_yes HP.out hf rfl)
     go_wp2
     go_ret
     exact ⟨congrArg (fun v=>Ending.returned (.bool v)) HF.out.symm,HA.out⟩
    ·
     have t0:(k == 0)=false:=by simpa using h0
     have HN:=hide (noDTo_up HE.out HP.out fun _=>h0)
     clear h0
     go_wp2
     go_round
     case rel=>exact ⟨j+1,by go_num,by omega,HN.out⟩
     case measure=>simp [intOf];omega
   ·
    have hf':(j:Int) < f:=by omega
    have HN:=hide (noDTo_up HE.out HP.out fun h=>absurd h hf)
    clear hf
    go_wp2
    go_round
    case rel=>exact ⟨j+1,by go_num,by omega,HN.out⟩
    case measure=>simp [intOf];omega
  ·
   obtain rfl:j=n:=by omega
   have HF:=hide (hasD_no (show noDTo ps f ps.length from (show ps.length=j from HL.out) ▸ HE.out))
   go_wp2
   go_ret
   exact ⟨congrArg (fun v=>Ending.returned (.bool v)) HF.out.symm,HA.out⟩
theorem RHasDeref_is {x:PlW} {f:Int} {v:Bool} (h:hasD x.ps f=v) (w:World) (hx:OnePl w w.heap.size x) :
  Calls Tryz.prog 36 #[aggPl x,.int .i64 f] w fun e w'=>e=.returned (.bool v)∧Below w.heap.size w w':=h ▸ RHasDeref_any x f w hx
def sB (s:ByteArray):List Int:=s.data.toList.map fun b=>(b.toNat:Int)
theorem sB_length (s:ByteArray):(sB s).length=s.size:=by
 rw [sB,List.length_map,Array.length_toList];rfl
section
variable {ys:List Int} {e:Int}
end
def Sane (ys:List Int) (e:Int):Prop:=Byt ys∧(e≠0→ys=[])∧-9223372036854775808≤e∧e≤9223372036854775807
theorem Sane.err {e:Int} (h0:-9223372036854775808≤e) (h1:e≤9223372036854775807):Sane [] e:=⟨Byt.nil,fun _=>rfl,h0,h1⟩
structure ActV where
 k:Int
 u:Int
 n:Int
 s:ByteArray
def ActV.ok (a:ActV):Prop:=(-9223372036854775808≤a.k∧a.k≤9223372036854775807)∧(0≤a.u∧a.u≤18446744073709551615)∧(-9223372036854775808≤a.n∧a.n≤9223372036854775807)∧a.s.size≤maxLen
def wt (a:ActV):Nat:=1+min a.s.size 5000
def key (s:ByteArray):List UInt8:=s.data.toList
theorem key_inj {a b:ByteArray} (h:key a=key b):a=b:=by
 apply ByteArray.ext
 exact Array.ext' h
def ltS (a b:ByteArray):Bool:=Op.bytesLess (key a) (key b)
theorem bl_trans:∀ x y z:List UInt8,Op.bytesLess x y=true→Op.bytesLess y z=true→Op.bytesLess x z=true
 | _,[],_,h,_=>by simp [Op.bytesLess] at h
 | _,_ :: _,[],_,h=>by simp [Op.bytesLess] at h
 | [],_ :: _,_ :: _,_,_=>rfl
 | a :: x,b :: y,c :: z,h,k=>by
  simp only [Op.bytesLess,Bool.or_eq_true,Bool.and_eq_true,decide_eq_true_eq,beq_iff_eq] at h k ⊢
  rcases h with h | ⟨rfl,h⟩
  ·
   rcases k with k | ⟨rfl,k⟩
   ·
    exact .inl (UInt8.lt_trans h k)
   ·
    exact .inl h
  ·
   rcases k with k | ⟨rfl,k⟩
   ·
    exact .inl k
   ·
    exact .inr ⟨rfl,bl_trans x y z h k⟩
theorem bl_tri:∀ x y:List UInt8,Op.bytesLess x y=false→Op.bytesLess y x=false→x=y
 | [],[],_,_=>rfl
 | [],_ :: _,h,_=>by simp [Op.bytesLess] at h
 | _ :: _,[],_,h=>by simp [Op.bytesLess] at h
 | a :: x,b :: y,h,k=>by
  simp only [Op.bytesLess,Bool.or_eq_false_iff,Bool.and_eq_false_iff,decide_eq_false_iff_not,beq_eq_false_iff_ne] at h k
  have e:a=b:=by
   apply UInt8.le_antisymm
   ·
    exact UInt8.not_lt.1 k.1
   ·
    exact UInt8.not_lt.1 h.1
  subst e
  rw [bl_tri x y (h.2.resolve_left (by simp)) (k.2.resolve_left (by simp))]
theorem ltS_trans {a b c:ByteArray} (h:ltS a b=true) (k:ltS b c=true):ltS a c=true:=bl_trans _ _ _ h k
theorem ltS_tri {a b:ByteArray} (h:ltS a b=false) (k:ltS b a=false):a=b:=key_inj (bl_tri _ _ h k)
def Asc (L:List ByteArray):Prop:=L.Pairwise fun a b=>ltS a b=true
def insS:List ByteArray→ByteArray→List ByteArray
 | [],s=>[s]
 | x :: L,s=>if ltS s x then s :: x :: L else if s=x then x :: L else x :: insS L s
theorem insS_mem {s z:ByteArray}:∀ {L:List ByteArray},z∈insS L s↔z=s∨z∈L
 | []=>by simp [insS]
 | x :: L=>by
  unfold insS
  split
  ·
   simp
  ·
   split
   ·
    rename_i e;subst e;simp
   ·
    rw [List.mem_cons,insS_mem,List.mem_cons]
    constructor <;> (rintro (h | h | h) <;> simp [h])
theorem insS_asc {s:ByteArray}:∀ {L:List ByteArray},Asc L→Asc (insS L s)
 | [],_=>by simp [insS,Asc]
 | x :: L,h=>by
  obtain ⟨hx,hL⟩:=List.pairwise_cons.1 h
  unfold insS
  split
  ·
   rename_i hs
   refine List.pairwise_cons.2 ⟨fun y hy=>?_,h⟩
   rcases List.mem_cons.1 hy with rfl | hy
   ·
    exact hs
   ·
    exact ltS_trans hs (hx y hy)
  ·
   split
   ·
    exact h
   ·
    rename_i h1 h2
    refine List.pairwise_cons.2 ⟨fun y hy=>?_,insS_asc hL⟩
    rcases insS_mem.1 hy with rfl | hy
    ·
     cases hc:ltS x y
     ·
      exact absurd (ltS_tri (by simpa using h1) hc) h2
     ·
      rfl
    ·
     exact hx y hy
theorem insS_len {s:ByteArray}:∀ {L:List ByteArray},(insS L s).length≤L.length+1
 | []=>by simp [insS]
 | x :: L=>by
  unfold insS
  split
  ·
   simp
  ·
   split
   ·
    simp
   ·
    have:=insS_len (s:=s) (L:=L);simp;omega
def tab (names:List ByteArray):List ByteArray:=names.foldl insS []
theorem tab_all {names:List ByteArray}:∀ {L:List ByteArray},Asc L→Asc (names.foldl insS L)∧(∀ z,z∈names.foldl insS L↔z∈L∨z∈names)∧(names.foldl insS L).length≤L.length+names.length:=by
 induction names with
 | nil=>intro L h;exact ⟨h,by simp,by simp⟩
 | cons s names ih=>
  intro L h
  obtain ⟨h1,h2,h3⟩:=ih (insS_asc (s:=s) h)
  refine ⟨h1,fun z=>?_,?_⟩
  ·
   rw [List.foldl_cons,h2,insS_mem,List.mem_cons]
   constructor
   ·
    rintro ((h | h) | h) <;> simp [h]
   ·
    rintro (h | h | h) <;> simp [h]
  ·
   rw [List.foldl_cons]
   have:=insS_len (s:=s) (L:=L)
   simp only [List.length_cons]
   omega
theorem tab_mem {names:List ByteArray} {z:ByteArray}:z∈tab names↔z∈names:=by
 have:=(tab_all (names:=names) (L:=[]) List.Pairwise.nil).2.1 z
 unfold tab
 simpa using this
def letB (c:Int):Bool:=decide (c=95∨(65≤c∧c≤90)∨(97≤c∧c≤122))
def digB (c:Int):Bool:=decide (48≤c∧c≤57)
theorem letB_yes {c:Int} (h:c=95∨(65≤c∧c≤90)∨(97≤c∧c≤122)):letB c=true:=decide_eq_true h
theorem letB_no {c:Int} (h:¬(c=95∨(65≤c∧c≤90)∨(97≤c∧c≤122))):letB c=false:=decide_eq_false h
theorem digB_yes {c:Int} (h:48≤c∧c≤57):digB c=true:=decide_eq_true h
theorem digB_no {c:Int} (h:¬(48≤c∧c≤57)):digB c=false:=decide_eq_false h
def headOk (xs:List Int) (k:Nat):Prop:=∀ j,j < k→∀ c,xs[j]?=some c→letB c=true∨(j≠0∧digB c=true)
noncomputable instance (xs:List Int) (k:Nat):Decidable (headOk xs k):=Classical.propDecidable _
noncomputable def identB (s:ByteArray):Bool:=decide (1≤s.size∧s.size≤255∧headOk (sB s) s.size)
theorem headOk_zero (xs:List Int):headOk xs 0:=fun _ h=>absurd h (by omega)
theorem headOk_succ {xs:List Int} {k:Nat} {c:Int} (h:headOk xs k) (hc:xs[k]?=some c) (hl:letB c=true∨(k≠0∧digB c=true)):headOk xs (k+1):=fun j hj c' hc'=>by
 rcases Nat.lt_or_ge j k with h' | h'
 ·
  exact h j h' c' hc'
 ·
  obtain rfl:j=k:=by omega
  rw [hc] at hc'
  injection hc' with e
  subst e
  exact hl
theorem identB_yes {s:ByteArray} (h1:1≤s.size) (h2:s.size≤255) (h:headOk (sB s) s.size):identB s=true:=by unfold identB;exact decide_eq_true ⟨h1,h2,h⟩
theorem identB_long {s:ByteArray} (h:s.size < 1∨255 < s.size):identB s=false:=by unfold identB;exact decide_eq_false fun k=>by have:=k.1;have:=k.2.1;omega
theorem identB_no {s:ByteArray} {k:Nat} {c:Int} (hc:(sB s)[k]?=some c) (hl:letB c=false) (hd:k=0∨digB c=false):identB s=false:=by
 unfold identB
 refine decide_eq_false fun h=>?_
 have hk:k < s.size:=by
  rw [←sB_length]
  exact (List.getElem?_eq_some_iff.1 hc).1
 rcases h.2.2 k hk c hc with e | ⟨e,e'⟩
 ·
  rw [hl] at e;cases e
 ·
  rcases hd with h0 | h0
  ·
   exact e h0
  ·
   rw [h0] at e';cases e'
def Idents (L:List ByteArray):Prop:=∀ s∈L,identB s=true
theorem Idents.tab {L:List ByteArray} (h:Idents L):Idents (tab L):=fun s hs=>h s (tab_mem.1 hs)
structure Env where
 T:List Ty
 lc:List Int
 ps:List Pr
 rg:Nat
 nb:Nat
def BdV.env (b:BdV):Env:=⟨b.types,b.locals.map LcV.ty,b.outl,b.regions.length,b.blocks.length⟩
section
variable (E:Env)
def tyV (p:PlV):Int×Int:=tyOfP E.T E.lc p.l p.ps
def muV (p:PlV):Bool:=mutP E.T E.lc p.l p.ps
def noP (p:PlV):Bool:=decide (p.l=0) && decide (p.ps.length=0)
def opErr (o:OpV):Int:=
 if o.kind < 0∨4 < o.kind then 14
 else if (o.n≠0∧o.kind≠2∧o.kind≠3)∨(1 < o.kind∧noP o.pl=false) then 2
 else if o.kind=3∧o.n≠0∧o.n≠1 then 3
 else if 1 < o.kind then 0
 else if (tyV E o.pl).2≠0 then (tyV E o.pl).2
 else if (o.kind=0∧tyCop E.T (tyV E o.pl).1=false)∨(o.kind=1∧hasD o.pl.ps 0=true) then 22
 else 0
def conK (k:Int) (kind:Int):Bool:=decide ((k=2∧kind=2)∨(k=3∧kind=1)∨(k=4∧kind=0))
def fitK (o:OpV) (kind:Int):Bool:=if 1 < o.kind then conK o.kind kind else decide ((tyGet E.T (tyV E o.pl).1).kind=kind)
noncomputable def fitT (o:OpV) (t:Int):Bool:=if 1 < o.kind then conK o.kind (tyGet E.T t).kind else sub (out E.ps E.rg) E.T (tyV E o.pl).1 t
def noR (r:RvV):Bool:=decide (r.kind=0) && decide (r.op=0) && decide (r.region=0) && !r.mut_ && noP r.pl && decide (r.args.length=0)
def shErr (r:RvV):Int:=
 if r.kind < 0∨4 < r.kind then 14
 else if (r.kind≠2∧r.kind≠3∧r.op≠0)∨(r.kind≠1∧(r.region≠0∨r.mut_=true∨noP r.pl=false))∨(r.kind=1∧0 < r.args.length) then 2
 else if ((r.kind=0∨r.kind=2)∧r.args.length≠1)∨(r.kind=3∧r.args.length≠2) then 2
 else 0
noncomputable def boErr (r:RvV) (t:Int):Int:=
 if (tyV E r.pl).2≠0 then (tyV E r.pl).2
 else if r.region < 0∨(E.rg:Int)≤r.region then 3
 else if (tyGet E.T t).kind≠3∨(tyGet E.T t).region≠r.region∨(tyGet E.T t).mut_≠r.mut_∨(tyGet E.T t).elem≠(tyV E r.pl).1∨(r.mut_=true∧muV E r.pl=false) then 22
 else if (regP E.T E.lc r.pl.l r.pl.ps).all (fun a=>out E.ps E.rg a r.region) then 0 else 22
def opsErr:List OpV→Int
 | []=>0
 | o :: l=>if opErr E o≠0 then opErr E o else opsErr l
noncomputable def tupErr:List OpV→List Int→Int
 | [],_=>0
 | o :: l,fs=>if opErr E o≠0 then opErr E o else if fitT E o (fs.headD 0)=false then 22 else tupErr l fs.tail
def opFrom (r:RvV):Int:=if (r.kind=2∧r.op=1)∨(r.kind=3∧r.op=5) then 1 else 2
def opTo (r:RvV):Int:=if (r.kind=2∧r.op=1)∨(r.kind=3∧3≤r.op) then 1 else 2
noncomputable def asErr (r:RvV) (t:Int):Int:=
 if shErr r≠0 then shErr r
 else if r.kind=1 then boErr E r t
 else if (r.kind=2∧(r.op < 0∨1 < r.op))∨(r.kind=3∧(r.op < 0∨5 < r.op)) then 14
 else if r.kind=4 then (if (tyGet E.T t).kind≠4∨(tyGet E.T t).fields.length≠r.args.length then 22 else tupErr E r.args (tyGet E.T t).fields)
 else if opsErr E r.args≠0 then opsErr E r.args
 else if r.kind=0 then (if r.args.all (fun o=>fitT E o t) then 0 else 22)
 else if r.args.all (fun o=>fitK E o (opFrom r))∧(tyGet E.T t).kind=opTo r then 0 else 22
noncomputable def stErr (s:StV):Int:=
 if s.kind=0 then (if s.loc≠0 then 2 else if (tyV E s.pl).2≠0 then (tyV E s.pl).2 else if muV E s.pl=false then 22 else asErr E s.rv (tyV E s.pl).1)
 else if s.kind=1 then (if noP s.pl=false∨noR s.rv=false then 2 else if s.loc < 0∨(E.lc.length:Int)≤s.loc then 3 else 0)
 else if s.kind=2 then (if noP s.pl=false∨noR s.rv=false∨s.loc≠0 then 2 else 0)
 else 14
def tmTgs (k:Int):Nat:=if k=0∨k=3∨k=4 then 1 else if k=1 then 2 else 0
def tgErr:List Int→Int
 | []=>0
 | t :: l=>if t < 0∨(E.nb:Int)≤t then 3 else tgErr l
noncomputable def tmErr (t:TmV):Int:=
 if t.kind < 0∨5 < t.kind then 14
 else if t.targets.length≠tmTgs t.kind∨(t.kind≠3∧t.name≠.empty)∨(t.kind≠3∧t.kind≠4∧noP t.pl=false)∨(t.kind=1∧t.args.length≠1)∨(t.kind≠1∧t.kind≠3∧0 < t.args.length) then 2
 else if tgErr E t.targets≠0 then tgErr E t.targets
 else if t.kind=3∧identB t.name=false then 12
 else if 65535 < t.args.length then 15
 else if opsErr E t.args≠0 then opsErr E t.args
 else if t.kind=1∧t.args.all (fun o=>fitK E o 1)=false then 22
 else if t.kind≠3∧t.kind≠4 then 0
 else if (tyV E t.pl).2≠0 then (tyV E t.pl).2
 else if (t.kind=3∧muV E t.pl=false)∨(t.kind=4∧hasD t.pl.ps 0=true) then 22
 else 0
end
noncomputable def hasB (l:List ByteArray) (s:ByteArray):Bool:=@decide (s∈l) (Classical.propDecidable _)
theorem hasB_iff {l:List ByteArray} {s:ByteArray}:hasB l s=true↔s∈l:=by unfold hasB;exact @decide_eq_true_iff _ (Classical.propDecidable _)
theorem hasB_not {l:List ByteArray} {s:ByteArray}:hasB l s=false↔s∉l:=by rw [←hasB_iff];simp
noncomputable def rgErr:List ByteArray→List ByteArray→Int
 | _,[]=>0
 | pre,s :: l=>if identB s=false then 12 else if hasB pre s=true then 21 else rgErr (pre++[s]) l
noncomputable def lcErr (nt:Nat):List ByteArray→List LcV→Int
 | _,[]=>0
 | pre,x :: l=>if identB x.name=false then 12 else if hasB pre x.name=true then 21 else if x.ty < 0∨(nt:Int)≤x.ty then 3 else lcErr nt (pre++[x.name]) l
noncomputable def deErr (b:BdV):Int:=
 if identB b.name=false then 12
 else if 65535 < b.regions.length then 15
 else if rgErr [] b.regions≠0 then rgErr [] b.regions
 else if prChk b.outl b.regions.length≠0 then prChk b.outl b.regions.length
 else if tyChk b.types b.regions.length≠0 then tyChk b.types b.regions.length
 else if 65535 < b.locals.length then 15
 else if lcErr b.types.length [] b.locals≠0 then lcErr b.types.length [] b.locals
 else if b.args < 0∨(b.locals.length:Int) < b.args then 3
 else if b.blocks.length=0∨65535 < b.blocks.length then 15
 else 0
section
variable (E:Env)
noncomputable def stsErr:List StV→Int
 | []=>0
 | s :: l=>if stErr E s≠0 then stErr E s else stsErr l
noncomputable def bkErr (b:BkV):Int:=if 65535 < b.stmts.length then 15 else if stsErr E b.stmts≠0 then stsErr E b.stmts else tmErr E b.term
noncomputable def bksErr:List BkV→Int
 | []=>0
 | b :: l=>if bkErr E b≠0 then bkErr E b else bksErr l
end
noncomputable def bdErr (b:BdV):Int:=if deErr b≠0 then deErr b else bksErr b.env b.blocks
theorem drop_at10 {α:Type} {l:List α} {k:Nat} {x:α} (h:l[k]?=some x):l.drop k=x :: l.drop (k+1):=by
 have hk:=(List.getElem?_eq_some_iff.1 h).1
 rw [List.drop_eq_getElem_cons hk]
 rw [List.getElem?_eq_getElem hk] at h
 injection h with h
 rw [h]
theorem drop_end10 {α:Type} {l:List α} {k:Nat} (h:l.length≤k):l.drop k=[]:=List.drop_eq_nil_of_le h
section
variable {E:Env}
theorem opsErr_at {l:List OpV} {k:Nat} {o:OpV} (h:l[k]?=some o):opsErr E (l.drop k)=if opErr E o≠0 then opErr E o else opsErr E (l.drop (k+1)):=by rw [drop_at10 h];rfl
theorem opsErr_end {l:List OpV} {k:Nat} (h:l.length≤k):opsErr E (l.drop k)=0:=by rw [drop_end10 h];rfl
theorem tupErr_at {l:List OpV} {fs:List Int} {k:Nat} {o:OpV} {f:Int} (h:l[k]?=some o) (hf:fs[k]?=some f):tupErr E (l.drop k) (fs.drop k)=if opErr E o≠0 then opErr E o else if fitT E o f=false then 22 else tupErr E (l.drop (k+1)) (fs.drop (k+1)):=by rw [drop_at10 h,drop_at10 hf];rfl
theorem tupErr_end {l:List OpV} {fs:List Int} {k:Nat} (h:l.length≤k):tupErr E (l.drop k) (fs.drop k)=0:=by rw [drop_end10 h];rfl
theorem tgErr_at {l:List Int} {k:Nat} {t:Int} (h:l[k]?=some t):tgErr E (l.drop k)=if t < 0∨(E.nb:Int)≤t then 3 else tgErr E (l.drop (k+1)):=by rw [drop_at10 h];rfl
theorem tgErr_end {l:List Int} {k:Nat} (h:l.length≤k):tgErr E (l.drop k)=0:=by rw [drop_end10 h];rfl
theorem stsErr_at {l:List StV} {k:Nat} {s:StV} (h:l[k]?=some s):stsErr E (l.drop k)=if stErr E s≠0 then stErr E s else stsErr E (l.drop (k+1)):=by rw [drop_at10 h];rfl
theorem stsErr_end {l:List StV} {k:Nat} (h:l.length≤k):stsErr E (l.drop k)=0:=by rw [drop_end10 h];rfl
theorem bksErr_at {l:List BkV} {k:Nat} {b:BkV} (h:l[k]?=some b):bksErr E (l.drop k)=if bkErr E b≠0 then bkErr E b else bksErr E (l.drop (k+1)):=by rw [drop_at10 h];rfl
theorem bksErr_end {l:List BkV} {k:Nat} (h:l.length≤k):bksErr E (l.drop k)=0:=by rw [drop_end10 h];rfl
end
theorem take_up10 {α:Type} {l:List α} {k:Nat} {x:α} (h:l[k]?=some x):l.take (k+1)=l.take k++[x]:=by rw [List.take_add_one,h];rfl
theorem rgErr_at {l:List ByteArray} {k:Nat} {s:ByteArray} (h:l[k]?=some s):rgErr (l.take k) (l.drop k)=if identB s=false then 12 else if hasB (l.take k) s=true then 21 else rgErr (l.take (k+1)) (l.drop (k+1)):=by rw [drop_at10 h,take_up10 h];rfl
theorem rgErr_end {l:List ByteArray} {k:Nat} (h:l.length≤k):rgErr (l.take k) (l.drop k)=0:=by rw [drop_end10 h];rfl
theorem lcErr_at {nt:Nat} {l:List LcV} {k:Nat} {x:LcV} (h:l[k]?=some x):lcErr nt ((l.take k).map LcV.name) (l.drop k)=if identB x.name=false then 12 else if hasB ((l.take k).map LcV.name) x.name=true then 21 else if x.ty < 0∨(nt:Int)≤x.ty then 3 else lcErr nt ((l.take (k+1)).map LcV.name) (l.drop (k+1)):=by
 rw [drop_at10 h,take_up10 h,List.map_append];rfl
theorem lcErr_end {nt:Nat} {l:List LcV} {k:Nat} (h:l.length≤k):lcErr nt ((l.take k).map LcV.name) (l.drop k)=0:=by rw [drop_end10 h];rfl
section
variable {E:Env}
theorem opsErr_zero:∀ {l:List OpV},opsErr E l=0↔∀ o∈l,opErr E o=0
 | []=>⟨(fun _ o h=>by cases h),fun _=>rfl⟩
 | o :: l=>by
  show (if opErr E o≠0 then opErr E o else opsErr E l)=0↔_
  by_cases h:opErr E o=0
  ·
   rw [if_neg (by omega),opsErr_zero]
   exact ⟨(fun k q hq=>by rcases List.mem_cons.1 hq with rfl | hq;exact h;exact k q hq),fun k q hq=>k q (by simp [hq])⟩
  ·
   rw [if_pos h]
   exact ⟨fun k=>absurd k h,fun k=>k o (by simp)⟩
theorem stsErr_zero:∀ {l:List StV},stsErr E l=0↔∀ s∈l,stErr E s=0
 | []=>⟨(fun _ o h=>by cases h),fun _=>rfl⟩
 | o :: l=>by
  show (if stErr E o≠0 then stErr E o else stsErr E l)=0↔_
  by_cases h:stErr E o=0
  ·
   rw [if_neg (by omega),stsErr_zero]
   exact ⟨(fun k q hq=>by rcases List.mem_cons.1 hq with rfl | hq;exact h;exact k q hq),fun k q hq=>k q (by simp [hq])⟩
  ·
   rw [if_pos h]
   exact ⟨fun k=>absurd k h,fun k=>k o (by simp)⟩
theorem bksErr_zero:∀ {l:List BkV},bksErr E l=0↔∀ b∈l,bkErr E b=0
 | []=>⟨(fun _ o h=>by cases h),fun _=>rfl⟩
 | o :: l=>by
  show (if bkErr E o≠0 then bkErr E o else bksErr E l)=0↔_
  by_cases h:bkErr E o=0
  ·
   rw [if_neg (by omega),bksErr_zero]
   exact ⟨(fun k q hq=>by rcases List.mem_cons.1 hq with rfl | hq;exact h;exact k q hq),fun k q hq=>k q (by simp [hq])⟩
  ·
   rw [if_pos h]
   exact ⟨fun k=>absurd k h,fun k=>k o (by simp)⟩
theorem bkErr_zero {b:BkV}:bkErr E b=0↔b.stmts.length≤65535∧(∀ s∈b.stmts,stErr E s=0)∧tmErr E b.term=0:=by
 unfold bkErr
 by_cases h:65535 < b.stmts.length
 ·
  rw [if_pos h]
  exact ⟨fun k=>absurd k (by decide),fun k=>by omega⟩
 ·
  rw [if_neg h]
  by_cases h2:stsErr E b.stmts=0
  ·
   rw [if_neg (by omega)]
   exact ⟨fun k=>⟨by omega,stsErr_zero.1 h2,k⟩,fun k=>k.2.2⟩
  ·
   rw [if_pos h2]
   exact ⟨fun k=>absurd k h2,fun k=>absurd (stsErr_zero.2 k.2.1) h2⟩
end
theorem lcErr_ok {nt:Nat}:∀ {l:List LcV} {pre:List ByteArray},lcErr nt pre l=0→∀ x∈l,0≤x.ty∧x.ty < (nt:Int)
 | [],_,_,x,hx=>by cases hx
 | y :: l,pre,h,x,hx=>by
  have h':(if identB y.name=false then (12:Int) else if hasB pre y.name=true then 21 else if y.ty < 0∨(nt:Int)≤y.ty then 3 else lcErr nt (pre++[y.name]) l)=0:=h
  split at h'
  ·
   cases h'
  ·
   split at h'
   ·
    cases h'
   ·
    split at h'
    ·
     cases h'
    ·
     rcases List.mem_cons.1 hx with rfl | hx
     ·
      omega
     ·
      exact lcErr_ok h' x hx
structure DeOk (b:BdV):Prop where
 nr:b.regions.length≤65535
 out:prChk b.outl b.regions.length=0
 ty:tyChk b.types b.regions.length=0
 nl:b.locals.length≤65535
 lc:LcOk b.types (b.locals.map LcV.ty)
 nb:0 < b.blocks.length∧b.blocks.length≤65535
theorem deErr_ok {b:BdV} (h:deErr b=0):DeOk b:=by
 unfold deErr at h
 split at h
 ·
  cases h
 rename_i h1
 split at h
 ·
  cases h
 rename_i h2
 split at h
 ·
  rename_i h3;exact absurd h h3
 rename_i h3
 split at h
 ·
  rename_i h4;exact absurd h h4
 rename_i h4
 split at h
 ·
  rename_i h5;exact absurd h h5
 rename_i h5
 split at h
 ·
  cases h
 rename_i h6
 split at h
 ·
  rename_i h7;exact absurd h h7
 rename_i h7
 split at h
 ·
  cases h
 rename_i h8
 split at h
 ·
  cases h
 rename_i h9
 refine ⟨by omega,by omega,by omega,by omega,fun t ht=>?_,by omega,by omega⟩
 obtain ⟨x,hx,rfl⟩:=List.mem_map.1 ht
 exact lcErr_ok (Decidable.not_not.1 h7) x hx
theorem TypeAt_any {A:Option Addr} {n c:Nat} {L:List TyW} {i:Nat} {x:TyW} (hx:L[i]?=some x) (w:World) (hA:Typs w w.heap.size A n L) (hn:n≤maxLen) :
  Calls Tryz.prog 126 #[.slice A n c,.int .i64 (i:Int)] w fun e w'=>e=.returned (aggT x)∧Below w.heap.size w w':=by
 obtain ⟨⟨k,mu,r,el,fs⟩,Af,nf,cf⟩:=x
 have hi:i < n:=by have:=(List.getElem?_eq_some_iff.1 hx).1;have:=hA.len;omega
 have hi':(i:Int) < (n:Int):=by omega
 have HZ:=hide ((Below.refl w.heap.size w).alloc (Nat.le_refl _) (.cells #[.int .i64 0,.bool false,.int .i64 0,.int .i64 0,.slice none 0 0] 62))
 have HIN:=hide (show tyIn (i:Int) (n:Int)=true from tyIn_iff.2 ⟨by omega,hi'⟩)
 obtain ⟨b,o,rfl,hbB,_,c0,c1,c2,c3,c4⟩:=(hA.below HZ.out).at_ hx
 unfold maxLen at hn
 clear hA hx
 go_enter Tryz.func126,Tryz.ntmps126
 go_wp2_with fail
 refine (Within_is HIN.out _).mono ?_
 rintro e w1 ⟨rfl,rfl⟩
 go_wp2_with fail
 refine bodyPost_ret (results_cell_row rfl _ _ w.heap.size _ #[.int .i64 k,.bool mu,.int .i64 r,.int .i64 el,.slice Af nf cf] (0,0) _ rfl (heap_alloc_new w _) Tryz.underlying62 rfl (by kernel_rfl)) rfl ⟨rfl,(Below.refl w.heap.size w).alloc (Nat.le_refl _) _⟩
theorem Project_any {A:Option Addr} {n c:Nat} {L:List TyW} {i:Nat} {x:TyW} (hx:L[i]?=some x) (p:Pr) (w:World) (hA:Typs w w.heap.size A n L) (hn:n≤maxLen) :
  Calls Tryz.prog 113 #[.slice A n c,.int .i64 (i:Int),aggP p] w fun e w'=>e=.returned (.tuple #[.int .i64 (stepT x.t p).1,.int .i64 (stepT x.t p).2])∧Below w.heap.size w w':=by
 obtain ⟨pk,pf⟩:=p
 have HZ:=hide ((Below.refl w.heap.size w).alloc (Nat.le_refl _) (.cells #[.int .i64 pk,.int .i64 pf] 102))
 have HA:=hide (hA.up HZ.out)
 have hO:=hA.one x (List.mem_of_getElem? hx)
 have HO:=hide hO
 have hok:=hO.ok
 have HC:=hide fun (w':World) (h:Below (w.alloc (.cells #[.int .i64 pk,.int .i64 pf] 102)).heap.size (w.alloc (.cells #[.int .i64 pk,.int .i64 pf] 102)) w')=>show w'.cell? ⟨w.heap.size,0,none⟩=some (.int .i64 pk)∧w'.cell? ⟨w.heap.size,1,none⟩=some (.int .i64 pf) from
  ⟨(h.cell (p:=⟨w.heap.size,0,none⟩) (by simp)).trans (by simp [go_sem]),(h.cell (p:=⟨w.heap.size,1,none⟩) (by simp)).trans (by simp [go_sem])⟩
 have HS:=hide (stepT_cases x.t (pk,pf))
 have HT:=hide fun w' hA'=>TypeAt_any (A:=A) (n:=n) (c:=c) hx w' hA' hn
 obtain ⟨⟨k,mu,r,el,fs⟩,Af,nf,cf⟩:=x
 have hlen:fs.length=nf:=hok.len
 have hnf:nf≤cf:=hok.nc
 have hcf:cf≤maxLen:=hok.cm
 have HW:=hide (Nat.le_of_lt (Nat.lt_succ_self w.heap.size))
 unfold maxLen at hn hcf
 clear hA hx hO hok
 go_enter Tryz.func113,Tryz.ntmps113
 go_wp2_with fail
 refine (HT.out _ HA.out).mono ?_
 rintro e w1 ⟨rfl,hb⟩
 obtain ⟨c0,c1⟩:=HC.out _ (hb.alloc hb.size (.cells #[.int .i64 k,.bool mu,.int .i64 r,.int .i64 el,.slice Af nf cf] 62))
 have HB:=hide (HZ.out.trans (hb.mono HZ.out.size))
 have HB2:=hide (HB.out.alloc HB.out.size (.cells #[.int .i64 k,.bool mu,.int .i64 r,.int .i64 el,.slice Af nf cf] 62))
 clear hb HT HC HA
 rcases HS.out with ⟨h1,h2,h3⟩ | ⟨h1,h2,q,v,hq,hv,h3⟩ | ⟨h1,h2,h4,h3⟩ | ⟨h1,h2,h3⟩
 ·
  subst h1 h2
  have HF:=hide h3
  clear h3
  go_wp2
  refine bodyPost_ret (results_tmp2 rfl _ _ _) rfl ?_
  exact ⟨congrArg (fun z:Int×Int=>Ending.returned (.tuple #[.int .i64 z.1,.int .i64 z.2])) HF.out.symm,HB2.out⟩
 ·
  subst h1 h2 hq
  have hql:=(List.getElem?_eq_some_iff.1 hv).1
  have hql':(q:Int) < (nf:Int):=by omega
  have HIN:=hide (show tyIn (q:Int) (nf:Int)=true from tyIn_iff.2 ⟨by omega,hql'⟩)
  have HF:=hide h3
  obtain ⟨b,o,hAf,_,d0⟩:=(HO.out.below HB2.out).rd.int hv
  simp only [] at hAf
  subst hAf
  clear h3 hv
  go_wp2_with fail
  refine (Within_is HIN.out _).mono ?_
  rintro e w2 ⟨rfl,rfl⟩
  go_wp2
  refine bodyPost_ret (results_tmp2 rfl _ _ _) rfl ?_
  exact ⟨congrArg (fun z:Int×Int=>Ending.returned (.tuple #[.int .i64 z.1,.int .i64 z.2])) HF.out.symm,HB2.out⟩
 ·
  subst h1 h2
  have HIN:=hide (show tyIn pf (nf:Int)=false from tyIn_not.2 (hlen ▸ h4))
  have HF:=hide h3
  clear h3 h4
  go_wp2_with fail
  refine (Within_is HIN.out _).mono ?_
  rintro e w2 ⟨rfl,rfl⟩
  go_wp2
  refine bodyPost_ret (results_tmp2 rfl _ _ _) rfl ?_
  exact ⟨congrArg (fun z:Int×Int=>Ending.returned (.tuple #[.int .i64 z.1,.int .i64 z.2])) HF.out.symm,HB2.out⟩
 ·
  have HF:=hide h3
  clear h3
  by_cases p0:pk=0
  ·
   subst p0
   have k3:¬k=3:=fun h=>h1 ⟨rfl,h⟩
   have t1:(k == 3)=false:=by simpa using k3
   clear h1 h2 k3
   go_wp2
   refine bodyPost_ret (results_tmp2 rfl _ _ _) rfl ?_
   exact ⟨congrArg (fun z:Int×Int=>Ending.returned (.tuple #[.int .i64 z.1,.int .i64 z.2])) HF.out.symm,HB2.out⟩
  ·
   have t0:(pk == 0)=false:=by simpa using p0
   by_cases p1:pk=1
   ·
    subst p1
    have k4:¬k=4:=fun h=>h2 ⟨rfl,h⟩
    have t1:(k != 4)=true:=by rw [bne_iff_ne];exact k4
    clear h1 h2 k4 t0 p0
    go_wp2
    refine bodyPost_ret (results_tmp2 rfl _ _ _) rfl ?_
    exact ⟨congrArg (fun z:Int×Int=>Ending.returned (.tuple #[.int .i64 z.1,.int .i64 z.2])) HF.out.symm,HB2.out⟩
   ·
    have t2:(pk != 1)=true:=by rw [bne_iff_ne];exact p1
    clear h1 h2 p0 p1
    go_wp2
    refine bodyPost_ret (results_tmp2 rfl _ _ _) rfl ?_
    exact ⟨congrArg (fun z:Int×Int=>Ending.returned (.tuple #[.int .i64 z.1,.int .i64 z.2])) HF.out.symm,HB2.out⟩
end Go.Proofs.YtfgacmgjpikgaaaGreatDoor
