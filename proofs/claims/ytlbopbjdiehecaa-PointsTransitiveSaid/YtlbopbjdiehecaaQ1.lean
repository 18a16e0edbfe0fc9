/- Part 2 of the contracts and their mathematics. -/
import Derived.Test.YtlbopbjdiehecaaQ0
import Derived.Maps.AppendAt
import Derived.Laws.EntriesVeiled
import Derived.Shelf.Abstract
import Derived.Lib.LazyBuf
import Derived.Deep.MidRow
set_option linter.unusedVariables false
set_option linter.unusedSimpArgs false
set_option maxRecDepth 100000
set_option maxHeartbeats 8000000
namespace Go.Proofs.Ytlbopbjdiehecaa
open Go.RowKit
def ptN (b:BkV):Nat:=b.stmts.length+1
def ptFirst (l:List BkV) (i:Nat):Nat:=sumN ptN (l.take i)
def ptCount (l:List BkV):Nat:=sumN ptN l
theorem ptFirst_zero (l:List BkV):ptFirst l 0=0:=by simp [ptFirst,sumN_nil]
theorem ptFirst_all {l:List BkV} {i:Nat} (h:l.length≤i):ptFirst l i=ptCount l:=by unfold ptFirst ptCount;rw [List.take_of_length_le h]
theorem ptFirst_up {l:List BkV} {i:Nat} {b:BkV} (h:l[i]?=some b):ptFirst l (i+1)=ptFirst l i+ptN b:=sumN_up h
theorem ptFirst_add (l:List BkV) (i d:Nat):ptFirst l i≤ptFirst l (i+d):=by
 unfold ptFirst
 rw [List.take_add,sumN_append]
 omega
theorem ptFirst_mono (l:List BkV) {i j:Nat} (h:i≤j):ptFirst l i≤ptFirst l j:=by
 obtain ⟨d,rfl⟩:=Nat.exists_eq_add_of_le h
 exact ptFirst_add l i d
theorem ptFirst_le (l:List BkV) (i:Nat):ptFirst l i≤ptCount l:=by
 rw [←ptFirst_all (Nat.le_add_left l.length i)]
 exact ptFirst_add l i l.length
theorem pt_one {l:List BkV} {i j k m:Nat} {a b:BkV} (ha:l[i]?=some a) (hb:l[j]?=some b) (hk:k≤a.stmts.length) (hm:m≤b.stmts.length) (e:ptFirst l i+k=ptFirst l j+m):i=j∧k=m:=by
 have h1:=ptFirst_up ha
 have h2:=ptFirst_up hb
 unfold ptN at h1 h2
 rcases Nat.lt_trichotomy i j with h | h | h
 ·
  have:=ptFirst_mono l (show i+1≤j from h)
  omega
 ·
  subst h
  exact ⟨rfl,by omega⟩
 ·
  have:=ptFirst_mono l (show j+1≤i from h)
  omega
theorem pt_lt {l:List BkV} {i k:Nat} {a:BkV} (ha:l[i]?=some a) (hk:k≤a.stmts.length):ptFirst l i+k < ptCount l:=by
 have h1:=ptFirst_up ha
 have h2:=ptFirst_le l (i+1)
 unfold ptN at h1
 omega
def ptLoc:List BkV→Nat→Option (Nat×Nat)
 | [],_=>none
 | b :: l,p=>if p≤b.stmts.length then some (0,p) else (ptLoc l (p - (b.stmts.length+1))).map fun x=>(x.1+1,x.2)
theorem ptFirst_cons (b:BkV) (l:List BkV) (i:Nat):ptFirst (b :: l) (i+1)=b.stmts.length+1+ptFirst l i:=by
 unfold ptFirst
 rw [List.take_succ_cons,sumN_cons]
 rfl
theorem ptLoc_some:∀ {l:List BkV} {p i k:Nat},ptLoc l p=some (i,k)→∃ b,l[i]?=some b∧k≤b.stmts.length∧p=ptFirst l i+k
 | [],p,i,k,h=>by cases h
 | b :: l,p,i,k,h=>by
  have e:(if p≤b.stmts.length then some (0,p) else (ptLoc l (p - (b.stmts.length+1))).map fun x=>(x.1+1,x.2))=some (i,k):=h
  by_cases hp:p≤b.stmts.length
  ·
   rw [if_pos hp] at e
   injection e with e
   injection e with e1 e2
   subst e1 e2
   exact ⟨b,rfl,hp,by rw [ptFirst_zero];omega⟩
  ·
   rw [if_neg hp] at e
   cases hq:ptLoc l (p - (b.stmts.length+1)) with
   | none=>rw [hq] at e;cases e
   | some x=>
    obtain ⟨i',k'⟩:=x
    rw [hq] at e
    injection e with e
    injection e with e1 e2
    subst e1 e2
    obtain ⟨c,h1,h2,h3⟩:=ptLoc_some hq
    have e3:p=ptFirst (b :: l) (i'+1)+k':=by rw [ptFirst_cons];omega
    exact ⟨c,by simpa using h1,h2,e3⟩
theorem ptLoc_none:∀ {l:List BkV} {p:Nat},ptLoc l p=none→ptCount l≤p
 | [],p,h=>by simp [ptCount,sumN_nil]
 | b :: l,p,h=>by
  have e:(if p≤b.stmts.length then some (0,p) else (ptLoc l (p - (b.stmts.length+1))).map fun x=>(x.1+1,x.2))=none:=h
  by_cases hp:p≤b.stmts.length
  ·
   rw [if_pos hp] at e;cases e
  ·
   rw [if_neg hp] at e
   have h1:=ptLoc_none (Option.map_eq_none_iff.1 e)
   have h2:ptCount (b :: l)=b.stmts.length+1+ptCount l:=by unfold ptCount;rw [sumN_cons];rfl
   omega
theorem ptLoc_iff {l:List BkV} {p i k:Nat}:ptLoc l p=some (i,k)↔∃ b,l[i]?=some b∧k≤b.stmts.length∧p=ptFirst l i+k:=by
 refine ⟨ptLoc_some,?_⟩
 rintro ⟨b,hb,hk,rfl⟩
 cases h:ptLoc l (ptFirst l i+k) with
 | none=>exact absurd (ptLoc_none h) (by have:=pt_lt hb hk;omega)
 | some x=>
  obtain ⟨j,m⟩:=x
  obtain ⟨c,hc,hm,e⟩:=ptLoc_some h
  obtain ⟨rfl,rfl⟩:=pt_one hb hc hk hm e
  rfl
theorem ptLoc_none_iff {l:List BkV} {p:Nat}:ptLoc l p=none↔ptCount l≤p:=by
 refine ⟨ptLoc_none,fun h=>?_⟩
 cases e:ptLoc l p with
 | none=>rfl
 | some x=>
  obtain ⟨i,k⟩:=x
  obtain ⟨b,hb,hk,rfl⟩:=ptLoc_some e
  have:=pt_lt hb hk
  omega
theorem bk_at {w:World} {B:Nat} {x:BdW} (h:OneBd w B x) {j:Nat} (hj:j < x.blocks.n):∃ p b o,x.blocks.L[j]?=some p∧x.v.blocks[j]?=some p.v∧p.v.stmts.length=p.stmts.n∧p.stmts.n≤maxLen∧x.blocks.A=some ⟨b,o,none⟩∧b < B∧OneBk w B p∧∀ i u,(cBk p)[i]?=some u→w.cell? ⟨b,o+j*7+i,none⟩=some u:=by
 obtain ⟨p,hp⟩:=h.blocks.get hj
 obtain ⟨b,o,hA,hb,h1,hc⟩:=h.blocks.at_ hp
 refine ⟨p,b,o,hp,?_,?_,h1.stmts.nm,hA,hb,h1,hc⟩
 ·
  show (x.blocks.L.map BkW.v)[j]?=some p.v
  rw [List.getElem?_map,hp];rfl
 ·
  show (p.stmts.L.map StW.v).length=p.stmts.n
  rw [List.length_map];exact h1.stmts.len
theorem bk_len {w:World} {B:Nat} {x:BdW} (h:OneBd w B x):x.v.blocks.length=x.blocks.n:=(List.length_map _).trans h.blocks.len
theorem RFirst_any (x:BdW) (k:Int) (w:World) (hx:OneBd w w.heap.size x) (hN:ptCount x.v.blocks≤2 ^ 62) :
  Calls Try.prog 27 #[aggBd x,.int .i64 k] w fun e w'=>e=.returned (.int .i64 (ptFirst x.v.blocks k.toNat:Nat))∧Below w.heap.size w w':=by
 obtain ⟨BL,hBL⟩:∃ l,x.v.blocks=l:=⟨_,rfl⟩
 have hbl:=bk_len hx
 have hbm:=hx.blocks.nm
 unfold maxLen at hbm
 rw [hBL] at hN hbl ⊢
 have HBV:=hide hBL
 have HN:=hide hN
 obtain ⟨nm,⟨rA,rn,rc,rL⟩,⟨oA,on,oc,oL⟩,⟨tA,tm,tc,tL⟩,⟨lA,ln,lc,lL⟩,ar,⟨bA,bn,bc,bL⟩⟩:=x
 have HBL:=hide hbl
 have hbm:bn≤2 ^ 63 - 1:=hbm
 have HB:=hide (below1 w (.cells #[.string nm,.slice rA rn rc,.slice oA on oc,.slice tA tm tc,.slice lA ln lc,.int .i64 ar,.slice bA bn bc] 32))
 have HX:=hide (hx.up HB.out)
 have HC:=hide fun (w':World) (y:Below (w.alloc (.cells #[.string nm,.slice rA rn rc,.slice oA on oc,.slice tA tm tc,.slice lA ln lc,.int .i64 ar,.slice bA bn bc] 32)).heap.size (w.alloc (.cells #[.string nm,.slice rA rn rc,.slice oA on oc,.slice tA tm tc,.slice lA ln lc,.int .i64 ar,.slice bA bn bc] 32)) w')=>cells7 y
 clear hBL hbl hN hx
 go_enter Try.func27,Try.ntmps27
 go_wp2
 go_loopw [5,6] (fun n i wr=>∃ j:Nat,i=.int .i64 (j:Int)∧n=.int .i64 (ptFirst BL j:Nat)∧j≤bn∧j≤k.toNat∧Hid (Below (w.alloc (.cells #[.string nm,.slice rA rn rc,.slice oA on oc,.slice tA tm tc,.slice lA ln lc,.int .i64 ar,.slice bA bn bc] 32)).heap.size (w.alloc (.cells #[.string nm,.slice rA rn rc,.slice oA on oc,.slice tA tm tc,.slice lA ln lc,.int .i64 ar,.slice bA bn bc] 32)) wr)) (fun _ i _=>bn - (intOf i).toNat)
 case atStart=>exact ⟨0,rfl,by rw [ptFirst_zero];rfl,Nat.zero_le _,Nat.zero_le _,hide (Below.refl _ _)⟩
 case round=>
  obtain ⟨j,rfl,rfl,hj,hjk,HW⟩:=hrel
  obtain ⟨x0,x1,x2,x3,x4,x5,x6⟩:=HC.out _ HW.out
  by_cases hk:(j:Int) < k
  ·
   by_cases hlt:j < bn
   ·
    have hlt':(j:Int) < (bn:Int):=by omega
    obtain ⟨p,b,o,_,hpv,hps,hpm,hA,hb,_,hc⟩:=bk_at (HX.out.up HW.out) hlt
    have hA:bA=some ⟨b,o,none⟩:=hA
    subst hA
    have hpv:BL[j]?=some p.v:=HBV.out ▸ hpv
    have c0:wr.cell? ⟨b,o+j*7,none⟩=some (.slice p.stmts.A p.stmts.n p.stmts.c):=hc 0 _ rfl
    have hu:=ptFirst_up hpv
    unfold ptN at hu
    rw [hps] at hu
    have hle:=ptFirst_le BL (j+1)
    obtain ⟨m,hm⟩:∃ m,ptFirst BL j=m:=⟨_,rfl⟩
    obtain ⟨q,hq⟩:∃ q,p.stmts.n=q:=⟨_,rfl⟩
    have h62:m+(q+1)≤2 ^ 62:=by
     have:=HN.out
     omega
    have HU:=hide (show ptFirst BL (j+1)=m+(q+1) by omega)
    rw [hm]
    rw [hq] at c0
    clear hpv hps hpm hc hu hle hm hq
    have s1:IntKind.i64.wrap ((q:Int)+1)=(q:Int)+1:=wrapI9 _ (by omega) (by omega)
    have s2:IntKind.i64.wrap ((m:Int)+((q:Int)+1))=(m:Int)+((q:Int)+1):=wrapI9 _ (by omega) (by omega)
    go_wp2
    go_roundw
    case rel=>exact ⟨j+1,by go_num,by rw [HU.out];exact congrArg (fun z:Int=>Value.int .i64 z) (by omega),by omega,by omega,HW⟩
    case measure=>simp [intOf];omega
   ·
    have hlt':¬(j:Int) < (bn:Int):=by omega
    have HF:=hide (show ptFirst BL j=ptFirst BL k.toNat by rw [ptFirst_all (by rw [HBL.out];omega),ptFirst_all (by rw [HBL.out];omega)])
    go_wp2
    go_ret
    exact ⟨congrArg (fun z:Nat=>Ending.returned (.int .i64 (z:Int))) HF.out,HB.out.trans (HW.out.mono HB.out.size)⟩
  ·
   have hjk2:j=k.toNat:=by omega
   have HF:=hide (congrArg (ptFirst BL) hjk2)
   clear hjk2
   go_wp2
   go_ret
   exact ⟨congrArg (fun z:Nat=>Ending.returned (.int .i64 (z:Int))) HF.out,HB.out.trans (HW.out.mono HB.out.size)⟩
theorem RFirst_is {x:BdW} {k:Int} {m:Nat} {w:World} (hx:OneBd w w.heap.size x) (hm:ptFirst x.v.blocks k.toNat=m) (hN:ptCount x.v.blocks≤2 ^ 62) :
  Calls Try.prog 27 #[aggBd x,.int .i64 k] w fun e w'=>e=.returned (.int .i64 (m:Int))∧Below w.heap.size w w':=hm ▸ RFirst_any x k w hx hN
theorem RCount_is {x:BdW} {m:Nat} {w:World} (hx:OneBd w w.heap.size x) (hm:ptCount x.v.blocks=m) (hN:m≤2 ^ 62) :
  Calls Try.prog 16 #[aggBd x] w fun e w'=>e=.returned (.int .i64 (m:Int))∧Below w.heap.size w w':=by
 have hbl:=bk_len hx
 have hF:=ptFirst_all (l:=x.v.blocks) (Nat.le_of_eq hbl)
 have hbm:=hx.blocks.nm
 have HC:=hide fun (w':World) (y:Below w.heap.size w w')=>RFirst_is (k:=(x.blocks.n:Int)) (hx.up y) (show ptFirst x.v.blocks (x.blocks.n:Int).toNat=m by rw [Int.toNat_natCast,hF,hm]) (by rw [hm];exact hN)
 obtain ⟨nm,⟨rA,rn,rc,rL⟩,⟨oA,on,oc,oL⟩,⟨tA,tm,tc,tL⟩,⟨lA,ln,lc,lL⟩,ar,⟨bA,bn,bc,bL⟩⟩:=x
 have HB:=hide (below1 w (.cells #[.string nm,.slice rA rn rc,.slice oA on oc,.slice tA tm tc,.slice lA ln lc,.int .i64 ar,.slice bA bn bc] 32))
 clear hbl hF hx hm hbm
 go_enter Try.func16,Try.ntmps16
 go_wp2_with fail
 refine (HC.out _ HB.out).mono ?_
 rintro e w1 ⟨rfl,hb⟩
 have HB2:=hide (HB.out.trans (hb.mono HB.out.size))
 clear hb
 go_wp2
 go_ret
 exact ⟨rfl,HB2.out⟩
def ptIdx (l:List BkV) (i k:Int):Option Int:=match l[i.toNat]? with
 | some b=>if 0≤i∧0≤k∧k≤(b.stmts.length:Int) then some (ptFirst l i.toNat+k) else none
 | none=>none
def vIdx:Option Int→Value
 | some p=>.tuple #[.int .i64 p,.bool true]
 | none=>.tuple #[.int .i64 0,.bool false]
theorem ptIdx_yes {l:List BkV} {i k:Int} {b:BkV} (hb:l[i.toNat]?=some b) (h:0≤i∧0≤k∧k≤(b.stmts.length:Int)):ptIdx l i k=some (ptFirst l i.toNat+k):=by
 unfold ptIdx;rw [hb];exact if_pos h
theorem ptIdx_no {l:List BkV} {i k:Int} (h:∀ b,l[i.toNat]?=some b→¬(0≤i∧0≤k∧k≤(b.stmts.length:Int))):ptIdx l i k=none:=by
 unfold ptIdx
 cases hb:l[i.toNat]? with
 | none=>rfl
 | some b=>exact if_neg (h b hb)
def eqPs (xs ys:List Pr):Bool:=decide (xs=ys)
theorem eqPs_iff {xs ys:List Pr}:eqPs xs ys=true↔xs=ys:=by simp [eqPs]
def eqPUpto (xs ys:List Pr) (k:Nat):Prop:=∀ j,j < k→xs[j]?=ys[j]?
theorem eqPUpto_up {xs ys:List Pr} {k:Nat} {p:Pr} (h:eqPUpto xs ys k) (hx:xs[k]?=some p) (hy:ys[k]?=some p):eqPUpto xs ys (k+1):=fun i hi=>by
 rcases Nat.lt_or_ge i k with h1 | h1
 ·
  exact h i h1
 ·
  obtain rfl:i=k:=by omega
  rw [hx,hy]
theorem eqPs_no {xs ys:List Pr} {k:Nat} {p q:Pr} (hx:xs[k]?=some p) (hy:ys[k]?=some q) (h:p≠q):eqPs xs ys=false:=by
 cases e:eqPs xs ys
 ·
  rfl
 ·
  rw [eqPs_iff] at e
  subst e
  rw [hx] at hy
  injection hy with hy
  exact absurd hy h
theorem eqPs_yes {xs ys:List Pr} {n:Nat} (h:eqPUpto xs ys n) (hx:xs.length=n) (hy:ys.length=n):eqPs xs ys=true:=by
 rw [eqPs_iff]
 refine List.ext_getElem? fun i=>?_
 rcases Nat.lt_or_ge i n with h1 | h1
 ·
  exact h i h1
 ·
  rw [List.getElem?_eq_none (by omega),List.getElem?_eq_none (by omega)]
section
variable {P:Program} (w:World)
theorem run_append_nil (base:Nat) (t ty e:TypeId) (i:TypeInfo) (size:Nat) (ht:P.underlying t=some (.slice e)) (hi:P.info? e=some i)
  (v:Value) (n:Nat) (xs:List Value) (hown:w.ownsRow base e size v n xs) (c:Nat):(Builtin.append_ #[t,t] ty #[v,.slice none 0 c]).run P w=.ok v w:=by
 rcases hown.2 with ⟨rfl,rfl⟩ | ⟨g,cap,cur,rfl,_,_,hnc,_⟩
 ·
  simp [Builtin.append_,run_underlying ht,sizeOf,typeInfo,hi,Builtin.lenOf,Builtin.firstCells]
 ·
  simp [Builtin.append_,run_underlying ht,sizeOf,typeInfo,hi,Builtin.lenOf,Builtin.firstCells,hnc,storeCells]
end
theorem below_app {w w0 w1:World} {base:Nat} {e:TypeId} {size n:Nat} {v:Value} {xs:List Value} (hb:Below base w0 w) (hown:w.ownsRow base e size v n xs) (hle:base≤w.heap.size) (hg:w.grownBy w1 v.ownBlock):Below base w0 w1:=
 hb.grown hg hle (fun k hk=>(hown.lt k hk).1)
def Part (w:World) (B:Nat) (v:Value) (xs:List Int):Prop:=∃ A c,v=.slice A xs.length c∧Rd w B A xs.length (u8s xs)
theorem Part.below {w w':World} {B:Nat} {v:Value} {xs:List Int} (h:Part w B v xs) (hb:Below B w w'):Part w' B v xs:=by
 obtain ⟨A,c,e,hr⟩:=h
 exact ⟨A,c,e,hr.below hb⟩
def Parts (w:World) (B:Nat):List Value→List (List Int)→Prop
 | [],[]=>True
 | v :: vs,xs :: xss=>Part w B v xs∧Parts w B vs xss
 | _,_=>False
theorem Parts.below {w w':World} {B:Nat} (hb:Below B w w'):∀ {vs:List Value} {xss:List (List Int)},Parts w B vs xss→Parts w' B vs xss
 | [],[],h=>h
 | _ :: _,_ :: _,h=>⟨h.1.below hb,Parts.below hb h.2⟩
theorem Parts.len {w:World} {B:Nat}:∀ {vs:List Value} {xss:List (List Int)},Parts w B vs xss→vs.length=xss.length
 | [],[],_=>rfl
 | _ :: _,_ :: _,h=>by simp [h.2.len]
theorem Parts.at_ {w:World} {B:Nat}:∀ {vs:List Value} {xss:List (List Int)},Parts w B vs xss→∀ k,k < vs.length→∃ v xs,vs[k]?=some v∧xss[k]?=some xs∧Part w B v xs
 | _ :: _,_ :: _,h,0,_=>⟨_,_,rfl,rfl,h.1⟩
 | _ :: _,_ :: _,h,k+1,hk=>by simpa using h.2.at_ k (by simpa using hk)
section
variable {P:Program} (w:World) {α:Type} {f:α→List Value} {k:Nat}
theorem run_append_cells (hk:∀ x,(f x).length=k) (h0:0 < k) (hone:∀ x,∀ u∈f x,u.oneCell'=true) (base:Nat) (t ty e:TypeId) (i:TypeInfo) (z:Value) (bytes:Nat) (ht:P.underlying t=some (.slice e)) (hi:P.info? e=some i) (hz:i.zero=some z)
    (hsize:i.size=k) (hby:i.bytes=bytes) (hzs:z.cells.size=k)
    (v:Value) (n:Nat) (xs:List Value) (hown:w.ownsRow base e k v n xs)
    (B:Nat) (A:Option Addr) (m c:Nat) (L:List α) (hr:Cells w B k f A m L)
    (h63:n+m≤maxLen) (hbytes:(n+m)*bytes≤140737488355328) (hbase:base≤w.heap.size) :
    ∃ v' w',(Builtin.append_ #[t,t] ty #[v,.slice A m c]).run P w=.ok v' w'∧w'.ownsRow base e k v' (n+m) (xs++L.flatMap f)∧w.grownBy w' v.ownBlock ∧
      (v'.ownBlock=v.ownBlock∨v'.ownBlock=some w.heap.size):=by
  rcases A with _ | ad
  · have hm : m = 0 := by
      rcases Nat.eq_zero_or_pos m with h | h
      · exact h
      · obtain ⟨b,o,h,_⟩:=hr.2 h
        cases h
    subst hm
    have hn:L=[]:=List.eq_nil_of_length_eq_zero hr.1
    subst hn
    exact ⟨v,w,run_append_nil w base t ty e i k ht hi v n xs hown c,by simpa using hown,World.grownBy.refl w _,.inl rfl⟩
  · have hcells : ∀ j u, (L.flatMap f)[j]? = some u → w.cell? (ad.add j) = some u := by
      intro j u hu
      have hj:j < (L.flatMap f).length:=by
        rcases Nat.lt_or_ge j (L.flatMap f).length with h' | h'
        · exact h'
        · rw [List.getElem?_eq_none h'] at hu;cases hu
      rw [flatMap_len hk] at hj
      have hi':j / k < L.length:=Nat.div_lt_of_lt_mul (by rw [Nat.mul_comm];exact hj)
      have hr':j % k < k:=Nat.mod_lt _ h0
      have hx:L[j / k]?=some L[j / k]:=List.getElem?_eq_getElem hi'
      have hjj:j / k*k+j % k=j:=by rw [Nat.mul_comm];exact Nat.div_add_mod j k
      obtain ⟨b,o,h,_,hc⟩:=hr.at_ hx
      injection h with h
      subst h
      have hadd:(⟨b,o,none⟩:Addr).add j=⟨b,o+j,none⟩:=by unfold Addr.add;split <;> simp_all
      rw [hadd]
      have:=hc (j % k) u (by rw [←flatMap_at hk hx hr',hjj];exact hu)
      rwa [Nat.add_assoc,hjj] at this
    obtain ⟨v',w',hrun,h2,h3,_,h5⟩:=run_append_own_at (P:=P) w base t ty e i z k bytes ht hi hz hsize hby hzs h0 v n xs hown ad m c (L.flatMap f) (by rw [flatMap_len hk,hr.1]) hcells (fun u hu=>by
      obtain ⟨x,_,hx⟩:=List.mem_flatMap.1 hu
      exact hone x u hx) h63 hbytes hbase
    exact ⟨v',w',hrun,h2,h3,h5⟩
theorem wpList_append_cells {ops:Array Oper} {rest:List Oper} {o:Oper} {a:Act} {Q:Exit→Act→World→Prop} (hgd:o.guard=none) (s x:Operand) (t:TypeId)
  (ho:o.op=.call { callee:=.builtin .append,args:=#[s,x],argTypes:=#[t,t] })
  (hk:∀ x,(f x).length=k) (h0:0 < k) (hone:∀ x,∀ u∈f x,u.oneCell'=true)
  (base:Nat) (e:TypeId) (i:TypeInfo) (z:Value) (bytes:Nat) (ht:P.underlying t=some (.slice e)) (hi:P.info? e=some i) (hz:i.zero=some z)
  (hsize:i.size=k) (hby:i.bytes=bytes) (hzs:z.cells.size=k)
  (v:Value) (n:Nat) (xs:List Value) (hs:a.eval s=v) (hown:w.ownsRow base e k v n xs)
  (B:Nat) (A:Option Addr) (m c:Nat) (L:List α) (hx:a.eval x=.slice A m c) (hr:Cells w B k f A m L)
  (h63:n+m≤maxLen) (hbytes:(n+m)*bytes≤140737488355328) (hbase:base≤w.heap.size)
  (h:∀ v' w',w'.ownsRow base e k v' (n+m) (xs++L.flatMap f)→w.grownBy w' v.ownBlock→(v'.ownBlock=v.ownBlock∨v'.ownBlock=some w.heap.size)→wpList P ops Q rest (a.put o.dst v') w'):wpList P ops Q (o :: rest) a w:=
 wpList_plain hgd fun K hK=>by
  obtain ⟨v',w',hrun,h2,h3,h4⟩:=run_append_cells (P:=P) w hk h0 hone base t o.type e i z bytes ht hi hz hsize hby hzs v n xs hown B A m c L hr h63 hbytes hbase
  unfold Oper.wp execOp
  simp only [ho,resolve,invoke,builtin,Sem.run_bind,Sem.run_pure,Result.andThen_ok,List.map_toArray,List.map_cons,List.map_nil,hs,hx,hrun]
  exact hK _ _ (h v' w' h2 h3 h4)
end
section
variable {P:Program} {md:Region.Mode} {ops:Array Oper} {Q:Exit→Act→World→Prop} {S:World→Prop}
theorem takeY {i:Nat} {oi:Oper} {d:Option Tmp} {v:Value} {fuel:Nat} {listed:Array Bool} {a:Act} {w:World} (hi:ops[i]?=some oi) (hd:oi.dst=d)
  (hs:Region.noSelect ops=true) (hf:Region.free md ops listed i=true) (hr:(Region.ready md ops listed).contains i=true)
  (hQ:∀ c a w,Q (.panic c) (a.put d v) w→Q (.panic c) a w) (hw:Region.wanted oi (yielded ops a.tmps)=true) (hy:∀ w,S w→(execOp a.eval oi).run P w=.ok (.value v) w) (hS:S w)
  (h:wpAnyH P md ops Q S fuel (listed.setIfInBounds i true) (a.put d v) w):wpAnyH P md ops Q S (fuel+1) listed a w:=by
 subst hd
 exact wpAnyH_take hi hs hf hr hQ (Or.inl ⟨hw,hy⟩) hS h
theorem takeN {i:Nat} {oi:Oper} {d:Option Tmp} {fuel:Nat} {listed:Array Bool} {a:Act} {w:World} (hi:ops[i]?=some oi) (hd:oi.dst=d)
  (hs:Region.noSelect ops=true) (hf:Region.free md ops listed i=true) (hr:(Region.ready md ops listed).contains i=true)
  (hQ:∀ c a w,Q (.panic c) (a.put d undef) w→Q (.panic c) a w) (hw:Region.wanted oi (yielded ops a.tmps)=false) (hS:S w)
  (h:wpAnyH P md ops Q S fuel (listed.setIfInBounds i true) (a.put d undef) w):wpAnyH P md ops Q S (fuel+1) listed a w:=by
 subst hd
 exact wpAnyH_take hi hs hf hr hQ (Or.inr ⟨hw,rfl⟩) hS h
end
end Go.Proofs.Ytlbopbjdiehecaa
namespace Go.Proofs.Ytlbopbjdiehecaa
open Go.RowKit Go.Shelf
theorem Ints.up {w w':World} {s:SlW Int} (h:Ints w w.heap.size s) (hb:Below w.heap.size w w'):Ints w' w'.heap.size s:=SlH.more (SlH.below h hb fun _ h=>h) hb.size fun _ h=>h
theorem Strs.up {w w':World} {s:SlW ByteArray} (h:Strs w w.heap.size s) (hb:Below w.heap.size w w'):Strs w' w'.heap.size s:=SlH.more (SlH.below h hb fun _ h=>h) hb.size fun _ h=>h
theorem Prs2.up {w w':World} {s:SlW Pr} (h:SlH w w.heap.size 2 pV IntP s) (hb:Below w.heap.size w w'):SlH w' w'.heap.size 2 pV IntP s:=SlH.more (SlH.below h hb fun _ h=>h) hb.size fun _ h=>h
theorem Lcs2.up {w w':World} {s:SlW LcW} (h:SlH w w.heap.size 2 cLc (fun y=>IntR y.ty∧y.name.size≤maxLen) s) (hb:Below w.heap.size w w'):SlH w' w'.heap.size 2 cLc (fun y=>IntR y.ty∧y.name.size≤maxLen) s:=SlH.more (SlH.below h hb fun _ h=>h) hb.size fun _ h=>h
theorem Tys2.up {w w':World} {s:SlW TyW} (h:SlH w w.heap.size 5 c5 (OneT w w.heap.size) s) (hb:Below w.heap.size w w'):SlH w' w'.heap.size 5 c5 (OneT w' w'.heap.size) s:=SlH.more (SlH.below h hb fun _ h=>OneT.below h hb) hb.size fun _ h=>OneT.more h hb.size
theorem Sts.up {w w':World} {s:SlW StW} (h:SlH w w.heap.size 11 cSt (OneSt w w.heap.size) s) (hb:Below w.heap.size w w'):SlH w' w'.heap.size 11 cSt (OneSt w' w'.heap.size) s:=SlH.more (SlH.below h hb fun _ h=>h.below hb) hb.size fun _ h=>h.more hb.size
theorem Bks2.up {w w':World} {s:SlW BkW} (h:SlH w w.heap.size 7 cBk (OneBk w w.heap.size) s) (hb:Below w.heap.size w w'):SlH w' w'.heap.size 7 cBk (OneBk w' w'.heap.size) s:=SlH.more (SlH.below h hb fun _ h=>h.below hb) hb.size fun _ h=>h.more hb.size
end Go.Proofs.Ytlbopbjdiehecaa
namespace Go.Proofs.Ytlbopbjdiehecaa
open Go.RowKit Go.Shelf
end Go.Proofs.Ytlbopbjdiehecaa
namespace Go.Proofs.Ytlbopbjdiehecaa
open Go.RowKit Go.Shelf
end Go.Proofs.Ytlbopbjdiehecaa
namespace Go.Proofs.Ytlbopbjdiehecaa
open Go.RowKit Go.Shelf
end Go.Proofs.Ytlbopbjdiehecaa
namespace Go.Proofs.Ytlbopbjdiehecaa
open Go.RowKit
theorem own_new9 (w:World) (e:TypeId) (k:Nat):(w.alloc (.cells #[] e)).ownsRow w.heap.size e k (.slice (some ⟨w.heap.size,0,none⟩) 0 0) 0 []:=
 ⟨by simp,.inr ⟨w.heap.size,0,#[],rfl,Nat.le_refl _,heap_alloc_new w _,Nat.le_refl _,Nat.zero_le _,by simp,by simp⟩⟩
theorem own_slice9 {w:World} {base:Nat} {e:TypeId} {size n:Nat} {v:Value} {xs:List Value} (h:w.ownsRow base e size v n xs):∃ A c,v=.slice A n c:=by
 obtain ⟨h1,h2⟩:=h
 rcases h2 with ⟨rfl,rfl⟩ | ⟨g,cap,cur,rfl,_⟩
 ·
  exact ⟨_,_,rfl⟩
 ·
  exact ⟨_,_,rfl⟩
theorem cInt_one (x:Int):∀ u∈cInt x,u.oneCell'=true:=by intro u hu;simp only [cInt,List.mem_cons,List.not_mem_nil,or_false] at hu;subst hu;rfl
theorem pV_one9 (x:Pr):∀ u∈pV x,u.oneCell'=true:=by intro u hu;simp only [pV,List.mem_cons,List.not_mem_nil,or_false] at hu;rcases hu with rfl | rfl <;> rfl
theorem cBk_one (x:BkW):∀ u∈cBk x,u.oneCell'=true:=by intro u hu;simp only [cBk,List.mem_cons,List.not_mem_nil,or_false] at hu;rcases hu with rfl | rfl | rfl | rfl | rfl | rfl | rfl <;> rfl
theorem info9Int:(Try.prog.info? 3).map (fun i=>(i.zero,i.size,i.bytes))=some (some (.int .i64 0),1,8):=by kernel_rfl
theorem info9Pr:(Try.prog.info? 25).map (fun i=>(i.zero,i.size,i.bytes))=some (some (.agg #[.int .i64 0,.int .i64 0]),2,16):=by kernel_rfl
theorem info9St:(Try.prog.info? 67).map (fun i=>(i.zero,i.size,i.bytes))=some (some (.agg #[.int .i64 0,.int .i64 0,.slice none 0 0,.int .i64 0,.int .i64 0,.int .i64 0,.bool false,.int .i64 0,.slice none 0 0,.slice none 0 0,.int .i64 0]),11,136):=by kernel_rfl
theorem info9Bk:(Try.prog.info? 58).map (fun i=>(i.zero,i.size,i.bytes))=some (some (.agg #[.slice none 0 0,.int .i64 0,.slice none 0 0,.slice none 0 0,.int .i64 0,.slice none 0 0,.string .empty]),7,128):=by kernel_rfl
def Bx (w:World) (g:Nat) (cs:List Value) (T:TypeId):Prop:=w.heap[g]?=some (.cells cs.toArray T (0,0))
section
variable {w w':World} {g:Nat} {cs:List Value} {T:TypeId}
theorem Bx.lt (h:Bx w g cs T):g < w.heap.size:=(Array.getElem?_eq_some_iff.1 h).1
theorem Bx.cell (h:Bx w g cs T) {j:Nat} {u:Value} (hj:cs[j]?=some u):w.cell? ⟨g,j,none⟩=some u:=by
 rw [cell_of_row w g j cs.toArray T (0,0) h]
 simpa using hj
theorem Bx.frozen (h:Bx w g cs T) (j:Nat):w.frozen? ⟨g,j,none⟩=false:=by
 unfold Bx at h
 simp [World.frozen?,h]
theorem Bx.below (h:Bx w g cs T) (hb:Below w.heap.size w w'):Bx w' g cs T:=(hb.block g h.lt).trans h
theorem Bx.set (h:Bx w g cs T) (j:Nat) (v:Value):Bx (w.setCell ⟨g,j,none⟩ v) g (cs.set j v) T:=by
 have h':=h
 unfold Bx at *
 rw [setCell_eq_setRow w g j _ _ _ v h',setRow_heap _ _ _ _ _ _ h']
 simp
theorem Bx.other (h:Bx w g cs T) {a:Addr} (ha:a.block≠g) (v:Value):Bx (w.setCell a v) g cs T:=(Below.heap_setCell w a v g ha.symm).trans h
theorem Bx.new (w:World) (cs:List Value) (T:TypeId):Bx (w.alloc (.cells cs.toArray T)) w.heap.size cs T:=heap_alloc_new w _
end
structure Keep (lo:Nat) (w w':World):Prop where
 size:w.heap.size≤w'.heap.size
 block:∀ k,lo≤k→k < w.heap.size→w'.heap[k]?=w.heap[k]?
section
variable {lo:Nat} {w w' w'':World}
theorem Keep.refl (lo:Nat) (w:World):Keep lo w w:=⟨Nat.le_refl _,fun _ _ _=>rfl⟩
theorem Keep.of_below (h:Below w.heap.size w w'):Keep lo w w':=⟨h.size,fun k _ hk=>h.block k hk⟩
theorem Keep.trans (h:Keep lo w w') (h':Keep lo w' w''):Keep lo w w'':=⟨Nat.le_trans h.size h'.size,fun k hk hl=>(h'.block k hk (Nat.lt_of_lt_of_le hl h.size)).trans (h.block k hk hl)⟩
theorem Keep.setCell {a:Addr} (ha:a.block < lo) (v:Value):Keep lo w (w.setCell a v):=⟨by simp,fun k hk _=>Below.heap_setCell w a v k (by omega)⟩
theorem Keep.setCells {g:Nat} (hg:g < lo):∀ (vs:List Value) (o:Nat) (w:World),Keep lo w (w.setCells g o vs)
 | [],_,_=>Keep.refl _ _
 | v :: vs,o,w=>by
  rw [World.setCells]
  exact (Keep.setCell (a:=⟨g,o,none⟩) hg v).trans (Keep.setCells hg vs (o+1) _)
theorem own_keep {e:TypeId} {size n:Nat} {v:Value} {xs:List Value} (h:w.ownsRow lo e size v n xs) (hk:Keep lo w w'):w'.ownsRow lo e size v n xs:=by
 obtain ⟨h1,h2⟩:=h
 refine ⟨h1,?_⟩
 rcases h2 with h2 | ⟨g,cap,cur,hv,hb,hg,r⟩
 ·
  exact .inl h2
 ·
  exact .inr ⟨g,cap,cur,hv,hb,(hk.block g hb (Array.getElem?_eq_some_iff.1 hg).1).trans hg,r⟩
end
theorem heap_setCells_same (g:Nat) (e:TypeId):∀ (vs:List Value) (o:Nat) (w:World) (cur:Array Value),w.heap[g]?=some (.cells cur e (0,0))→o+vs.length≤cur.size →
  ∃ cur',(w.setCells g o vs).heap[g]?=some (.cells cur' e (0,0))∧cur'.size=cur.size∧∀ j,cur'[j]?=if o≤j∧j < o+vs.length then vs[j - o]? else cur[j]?
 | [],o,w,cur,h,_=>⟨cur,h,rfl,fun j=>by rw [if_neg (by simp <;> omega)]⟩
 | v :: vs,o,w,cur,h,hl=>by
  rw [List.length_cons] at hl
  have h':(w.setCell ⟨g,o,none⟩ v).heap[g]?=some (.cells (cur.setIfInBounds o v) e (0,0)):=by rw [setCell_eq_setRow w g o cur e (0,0) v h,setRow_heap _ _ _ _ _ _ h]
  obtain ⟨cur',h1,h2,h3⟩:=heap_setCells_same g e vs (o+1) _ _ h' (by simp;omega)
  refine ⟨cur',by rw [World.setCells];exact h1,by simpa using h2,fun j=>?_⟩
  rw [h3 j,List.length_cons]
  by_cases hj:j=o
  ·
   subst hj
   rw [if_neg (by omega),if_pos (by omega),Array.getElem?_setIfInBounds]
   simp
   omega
  ·
   by_cases hk:o≤j∧j < o+(vs.length+1)
   ·
    rw [if_pos (by omega),if_pos hk,show j - o=(j - (o+1))+1 by omega,List.getElem?_cons_succ]
   ·
    rw [if_neg (by omega),if_neg hk,Array.getElem?_setIfInBounds,if_neg (by omega)]
theorem own_set {α:Type} {f:α→List Value} {k:Nat} (hk:∀ x,(f x).length=k) {w:World} {lo:Nat} {e:TypeId} {g n c:Nat} {M R:List α} {p q:α} (h:w.ownsRow lo e k (.slice (some ⟨g,0,none⟩) n c) n ((M++p :: R).flatMap f)) :
    (w.setCells g (M.length*k) (f q)).ownsRow lo e k (.slice (some ⟨g,0,none⟩) n c) n ((M++q :: R).flatMap f):=by
  obtain ⟨h1,h2⟩:=h
  have e1:((M++p :: R).flatMap f).length=(M++p :: R).length*k:=flatMap_len hk _
  have e2:((M++q :: R).flatMap f).length=(M++q :: R).length*k:=flatMap_len hk _
  have e3:(M++p :: R).length=(M++q :: R).length:=by simp
  have hlen:(M++p :: R).length=M.length+(R.length+1):=by simp
  refine ⟨by rw [e2,← e3,← e1,h1],?_⟩
  rcases h2 with ⟨h2,_⟩ | ⟨g',cap,cur,hv,hb,hg,hnc,hcm,hcs,htk⟩
  · cases h2
  · injection hv with hv hn' hc'
    injection hv with hv
    injection hv with hv
    subst hv hc'
    have hnk:(M++p :: R).length*k=n*k:=by rw [←e1,h1]
    have hle:M.length*k+k≤n*k:=by
      rw [←hnk,hlen]
      have:(M.length+(R.length+1))*k=M.length*k+k+R.length*k:=by rw [Nat.add_mul,Nat.add_mul,Nat.one_mul];omega
      omega
    have hcc:n*k≤c*k:=Nat.mul_le_mul_right _ hnc
    obtain ⟨cur',k1,k2,k3⟩:=heap_setCells_same g e (f q) (M.length*k) w cur hg (by rw [hk,hcs];omega)
    refine .inr ⟨g,c,cur',rfl,hb,k1,hnc,hcm,by rw [k2,hcs],?_⟩
    refine List.ext_getElem? fun j=>?_
    have a1:((M++p :: R).flatMap f)[j]?=(M.flatMap f++(f p++R.flatMap f))[j]?:=by simp
    have a2:((M++q :: R).flatMap f)[j]?=(M.flatMap f++(f q++R.flatMap f))[j]?:=by simp
    have hMl:(M.flatMap f).length=M.length*k:=flatMap_len hk _
    rw [a2]
    have b1:(cur'.toList.take (n*k))[j]?=if j < n*k then cur'[j]? else none:=by rw [List.getElem?_take];simp
    have b2:(cur.toList.take (n*k))[j]?=if j < n*k then cur[j]? else none:=by rw [List.getElem?_take];simp
    rw [b1]
    have b3:=congrArg (fun l=>l[j]?) htk
    rw [b2,a1] at b3
    rw [k3 j,hk]
    by_cases hj:j < n*k
    · rw [if_pos hj] at b3 ⊢
      by_cases hin:M.length*k≤j∧j < M.length*k+k
      · rw [if_pos hin,List.getElem?_append_right (by omega),hMl,List.getElem?_append_left (by rw [hk];omega)]
      · rw [if_neg hin,b3]
        by_cases hlo:j < M.length*k
        · rw [List.getElem?_append_left (by omega),List.getElem?_append_left (by omega)]
        · have hA : ∀ u, (M.flatMap f ++ (f u ++ R.flatMap f))[j]? = (R.flatMap f)[j - M.length * k - k]? := fun u => by
            have hu:=hk u
            rw [List.getElem?_append_right (by omega),List.getElem?_append_right (by omega),hMl,hu]
          rw [hA,hA]
    · rw [if_neg hj,List.getElem?_eq_none]
      have:(M.flatMap f++(f q++R.flatMap f)).length=(M++q :: R).length*k:=by rw [←e2];simp
      rw [this,← e3,hnk]
      omega
theorem own_there {w:World} {lo:Nat} {e:TypeId} {g n c k:Nat} {xs:List Value} (h:w.ownsRow lo e k (.slice (some ⟨g,0,none⟩) n c) n xs) {i:Nat} (hi:i < n):w.there g (i*k) k:=by
 obtain ⟨h1,h2⟩:=h
 rcases h2 with ⟨h2,_⟩ | ⟨g',cap,cur,hv,hb,hg,hnc,hcm,hcs,htk⟩
 ·
  cases h2
 ·
  injection hv with hv hn' hc'
  injection hv with hv
  injection hv with hv
  subst hv hc'
  intro j hj
  have hle:i*k+k≤n*k:=by
   have:(i+1)*k≤n*k:=Nat.mul_le_mul_right _ hi
   rw [Nat.add_mul,Nat.one_mul] at this
   exact this
  have hcc:n*k≤c*k:=Nat.mul_le_mul_right _ hnc
  refine ⟨?_,by simp [World.frozen?,hg]⟩
  rw [cell_of_row w g (i*k+j) cur e (0,0) hg,Array.getElem?_eq_getElem (by omega)]
  rfl
theorem own_form {w:World} {lo:Nat} {e:TypeId} {n c k:Nat} {A:Option Addr} {xs:List Value} (h:w.ownsRow lo e k (.slice A n c) n xs) (hn:0 < n):∃ g,A=some ⟨g,0,none⟩∧lo≤g∧g < w.heap.size:=by
 obtain ⟨g,cap,hv,h1,h2⟩:=h.form hn
 injection hv with hv
 exact ⟨g,hv,h1,h2⟩
structure OwSl {α:Type} (w:World) (lo:Nat) (e:TypeId) (k:Nat) (f:α→List Value) (R:α→Prop) (s:SlW α):Prop where
 row:w.ownsRow lo e k s.val s.n (s.L.flatMap f)
 all:∀ x∈s.L,R x
section
variable {α β:Type} {w w':World} {lo lo':Nat} {e:TypeId} {k:Nat} {f:α→List Value} {R R' Q:α→Prop} {s s':SlW α} {v:α→β}
theorem OwSl.keep (h:OwSl w lo e k f R s) (hk:Keep lo w w') (hR:∀ x,R x→R' x):OwSl w' lo e k f R' s:=⟨own_keep h.row hk,fun x hx=>hR x (h.all x hx)⟩
theorem OwSl.base (h:OwSl w lo e k f R s) (hl:lo'≤lo) (hR:∀ x,R x→R' x):OwSl w lo' e k f R' s:=⟨ownsRow_base h.row hl,fun x hx=>hR x (h.all x hx)⟩
theorem own_sl (hk:∀ x,(f x).length=k) (h0:0 < k) (h:w.ownsRow lo e k s.val s.n (s.L.flatMap f)) (hQ:∀ x∈s.L,Q x):SlH w w.heap.size k f Q s:=by
 obtain ⟨A,n,c,L⟩:=s
 have hc:n≤c∧c≤maxLen:=by
  rcases h.2 with ⟨h2,rfl⟩ | ⟨g,cap,cur,hv,_,_,h3,h4,_⟩
  ·
   injection h2 with _ _ h2
   subst h2
   exact ⟨Nat.le_refl _,Nat.zero_le _⟩
  ·
   injection hv with _ _ hv
   subst hv
   exact ⟨h3,h4⟩
 exact ⟨hc.1,hc.2,Cells.of_own hk h0 h,hQ⟩
theorem all_of_map {Q':α→Prop} {L L':List α} (he:L'.map v=L.map v) (hR:∀ x∈L',R x) (hQ:∀ x∈L,Q x) (hall:∀ x x',v x'=v x→R x'→Q x→Q' x'):∀ x'∈L',Q' x':=fun x' hx'=>by
 have:v x'∈L.map v:=he ▸ List.mem_map.2 ⟨x',hx',rfl⟩
 obtain ⟨x,hx,e⟩:=List.mem_map.1 this
 exact hall x x' e.symm (hR x' hx') (hQ x hx)
end
abbrev OwPl (w:World) (lo:Nat) (x:PlW):Prop:=w.ownsRow lo 132 2 (.slice x.A x.n x.c) x.n (x.ps.flatMap pV)
abbrev OwOp (w:World) (lo:Nat) (x:OpW):Prop:=OwPl w lo x.pl
abbrev OwOps (w:World) (lo:Nat) (s:SlW OpW):Prop:=OwSl w lo 130 4 cOp (OwOp w lo) s
abbrev OwInts (w:World) (lo:Nat) (s:SlW Int):Prop:=w.ownsRow lo 3 1 s.val s.n (s.L.flatMap cInt)
structure OwRv (w:World) (lo:Nat) (x:RvW):Prop where
 pl:OwPl w lo x.pl
 args:OwOps w lo x.args
structure OwSt (w:World) (lo:Nat) (x:StW):Prop where
 pl:OwPl w lo x.pl
 rv:OwRv w lo x.rv
structure OwTm (w:World) (lo:Nat) (x:TmW):Prop where
 targets:OwInts w lo x.targets
 args:OwOps w lo x.args
 pl:OwPl w lo x.pl
abbrev OwSts (w:World) (lo:Nat) (s:SlW StW):Prop:=OwSl w lo 67 11 cSt (OwSt w lo) s
structure OwBk (w:World) (lo:Nat) (x:BkW):Prop where
 stmts:OwSts w lo x.stmts
 term:OwTm w lo x.term
abbrev OwTy (w:World) (lo:Nat) (x:TyW):Prop:=w.ownsRow lo 3 1 (.slice x.A x.n x.c) x.n (x.t.fields.flatMap cInt)
structure OwBd (w:World) (lo:Nat) (x:BdW):Prop where
 regions:w.ownsRow lo 9 1 x.regions.val x.regions.n (x.regions.L.flatMap cStr)
 outl:w.ownsRow lo 25 2 x.outl.val x.outl.n (x.outl.L.flatMap pV)
 types:OwSl w lo 126 5 c5 (OwTy w lo) x.types
 locals:w.ownsRow lo 128 2 x.locals.val x.locals.n (x.locals.L.flatMap cLc)
 blocks:OwSl w lo 58 7 cBk (OwBk w lo) x.blocks
section
variable {w w':World} {lo lo':Nat}
theorem OwOps.keep {s:SlW OpW} (h:OwOps w lo s) (hk:Keep lo w w'):OwOps w' lo s:=OwSl.keep h hk fun _ h=>own_keep h hk
theorem OwRv.keep {x:RvW} (h:OwRv w lo x) (hk:Keep lo w w'):OwRv w' lo x:=⟨own_keep h.pl hk,OwOps.keep h.args hk⟩
theorem OwSt.keep {x:StW} (h:OwSt w lo x) (hk:Keep lo w w'):OwSt w' lo x:=⟨own_keep h.pl hk,h.rv.keep hk⟩
theorem OwTm.keep {x:TmW} (h:OwTm w lo x) (hk:Keep lo w w'):OwTm w' lo x:=⟨own_keep h.targets hk,OwOps.keep h.args hk,own_keep h.pl hk⟩
theorem OwSts.keep {s:SlW StW} (h:OwSts w lo s) (hk:Keep lo w w'):OwSts w' lo s:=OwSl.keep h hk fun _ h=>h.keep hk
theorem OwBk.keep {x:BkW} (h:OwBk w lo x) (hk:Keep lo w w'):OwBk w' lo x:=⟨OwSts.keep h.stmts hk,h.term.keep hk⟩
theorem OwBd.keep {x:BdW} (h:OwBd w lo x) (hk:Keep lo w w'):OwBd w' lo x:=⟨own_keep h.regions hk,own_keep h.outl hk,OwSl.keep h.types hk fun _ h=>own_keep h hk,own_keep h.locals hk,OwSl.keep h.blocks hk fun _ h=>h.keep hk⟩
theorem OwOps.base {s:SlW OpW} (h:OwOps w lo s) (hk:lo'≤lo):OwOps w lo' s:=OwSl.base h hk fun _ h=>ownsRow_base h hk
theorem OwRv.base {x:RvW} (h:OwRv w lo x) (hk:lo'≤lo):OwRv w lo' x:=⟨ownsRow_base h.pl hk,OwOps.base h.args hk⟩
theorem OwSt.base {x:StW} (h:OwSt w lo x) (hk:lo'≤lo):OwSt w lo' x:=⟨ownsRow_base h.pl hk,h.rv.base hk⟩
theorem OwTm.base {x:TmW} (h:OwTm w lo x) (hk:lo'≤lo):OwTm w lo' x:=⟨ownsRow_base h.targets hk,OwOps.base h.args hk,ownsRow_base h.pl hk⟩
theorem OwSts.base {s:SlW StW} (h:OwSts w lo s) (hk:lo'≤lo):OwSts w lo' s:=OwSl.base h hk fun _ h=>h.base hk
theorem OwBk.base {x:BkW} (h:OwBk w lo x) (hk:lo'≤lo):OwBk w lo' x:=⟨OwSts.base h.stmts hk,h.term.base hk⟩
end
section
variable {w w':World} {lo B:Nat}
theorem OnePl.of_own {x x':PlW} (h:OnePl w B x) (e:x'.v=x.v) (o:OwPl w' lo x'):OnePl w' w'.heap.size x':=by
 obtain ⟨l,A,n,c,ps⟩:=x
 obtain ⟨l',A',n',c',ps'⟩:=x'
 simp only [PlW.v,PlV.mk.injEq] at e
 obtain ⟨rfl,rfl⟩:=e
 have hs:SlH w' w'.heap.size 2 pV IntP ⟨A',n',c',ps'⟩:=own_sl (s:=⟨A',n',c',ps'⟩) pV_len (by decide) o h.prs.int
 exact ⟨hs.nc,hs.cm,h.l,⟨hs.cells,hs.all⟩⟩
theorem OneOp.of_own {x x':OpW} (h:OneOp w B x) (e:x'.v=x.v) (o:OwOp w' lo x'):OneOp w' w'.heap.size x':=by
 obtain ⟨k,p,z⟩:=x
 obtain ⟨k',p',z'⟩:=x'
 simp only [OpW.v,OpV.mk.injEq] at e
 obtain ⟨rfl,e2,rfl⟩:=e
 exact ⟨h.kind,h.pl.of_own e2 o,h.n⟩
theorem Ops.of_own {s s':SlW OpW} (h:Ops w B s) (e:s'.L.map OpW.v=s.L.map OpW.v) (o:OwOps w' lo s'):Ops w' w'.heap.size s':=
 own_sl cOp_len (by decide) o.row (all_of_map e o.all h.all fun _ _ e' o' h'=>h'.of_own e' o')
theorem OneRv.of_own {x x':RvW} (h:OneRv w B x) (e:x'.v=x.v) (o:OwRv w' lo x'):OneRv w' w'.heap.size x':=by
 obtain ⟨k,op,r,m,p,a⟩:=x
 obtain ⟨k',op',r',m',p',a'⟩:=x'
 simp only [RvW.v,RvV.mk.injEq] at e
 obtain ⟨rfl,rfl,rfl,rfl,e2,e3⟩:=e
 exact ⟨h.kind,h.op,h.region,h.pl.of_own e2 o.pl,Ops.of_own h.args e3 o.args⟩
theorem OneSt.of_own {x x':StW} (h:OneSt w B x) (e:x'.v=x.v) (o:OwSt w' lo x'):OneSt w' w'.heap.size x':=by
 obtain ⟨k,p,r,z⟩:=x
 obtain ⟨k',p',r',z'⟩:=x'
 simp only [StW.v,StV.mk.injEq] at e
 obtain ⟨rfl,e2,e3,rfl⟩:=e
 exact ⟨h.kind,h.pl.of_own e2 o.pl,h.rv.of_own e3 o.rv,h.loc⟩
theorem Ints.of_own {s s':SlW Int} (h:Ints w B s) (e:s'.L=s.L) (o:OwInts w' lo s'):Ints w' w'.heap.size s':=own_sl cInt_len (by decide) o (e ▸ h.all)
theorem OneTm.of_own {x x':TmW} (h:OneTm w B x) (e:x'.v=x.v) (o:OwTm w' lo x'):OneTm w' w'.heap.size x':=by
 obtain ⟨k,t,a,p,nm⟩:=x
 obtain ⟨k',t',a',p',nm'⟩:=x'
 simp only [TmW.v,TmV.mk.injEq] at e
 obtain ⟨rfl,e1,e2,e3,rfl⟩:=e
 exact ⟨h.kind,Ints.of_own h.targets e1 o.targets,Ops.of_own h.args e2 o.args,h.pl.of_own e3 o.pl,h.name⟩
theorem OneBk.of_own {x x':BkW} (h:OneBk w B x) (e:x'.v=x.v) (o:OwBk w' lo x'):OneBk w' w'.heap.size x':=by
 obtain ⟨s,t⟩:=x
 obtain ⟨s',t'⟩:=x'
 simp only [BkW.v,BkV.mk.injEq] at e
 exact ⟨own_sl cSt_len (by decide) o.stmts.row (all_of_map e.1 o.stmts.all h.stmts.all fun _ _ e' o' h'=>h'.of_own e' o'),h.term.of_own e.2 o.term⟩
theorem OneT.of_own {x x':TyW} (h:OneT w B x) (e:x'.t=x.t) (o:OwTy w' lo x'):OneT w' w'.heap.size x':=by
 obtain ⟨t,A,n,c⟩:=x
 obtain ⟨t',A',n',c'⟩:=x'
 simp only [] at e
 subst e
 have hs:Ints w' w'.heap.size ⟨A',n',c',t'.fields⟩:=own_sl (s:=⟨A',n',c',t'.fields⟩) cInt_len (by decide) o h.ok.f
 exact ⟨⟨hs.nc,hs.cm,hs.len,h.ok.k,h.ok.r,h.ok.e,hs.all⟩,hs.rd⟩
theorem OneBd.of_own {x x':BdW} (h:OneBd w B x) (e:x'.v=x.v) (o:OwBd w' lo x'):OneBd w' w'.heap.size x':=by
 obtain ⟨nm,r,ol,t,l,a,b⟩:=x
 obtain ⟨nm',r',ol',t',l',a',b'⟩:=x'
 simp only [BdW.v,BdV.mk.injEq,tys] at e
 obtain ⟨rfl,e1,e2,e3,e4,rfl,e5⟩:=e
 refine ⟨h.name,own_sl cStr_len (by decide) o.regions (e1 ▸ h.regions.all),own_sl pV_len (by decide) o.outl (e2 ▸ h.outl.all),own_sl c5_len (by decide) o.types.row (all_of_map (v:=TyW.t) e3 o.types.all h.types.all fun _ _ e' o' h'=>h'.of_own e' o'),
  own_sl cLc_len (by decide) o.locals (all_of_map (v:=LcW.v) (R:=fun _=>True) e4 (fun _ _=>trivial) h.locals.all fun y y' e' _ h'=>?_),h.args,own_sl cBk_len (by decide) o.blocks.row (all_of_map e5 o.blocks.all h.blocks.all fun _ _ e' o' h'=>h'.of_own e' o')⟩
 simp only [LcW.v,LcV.mk.injEq] at e'
 rw [e'.1,e'.2]
 exact h'
end
end Go.Proofs.Ytlbopbjdiehecaa
namespace Go.Proofs.Ytlbopbjdiehecaa
open Go.RowKit Go.Shelf
end Go.Proofs.Ytlbopbjdiehecaa
namespace Go.Proofs.Ytlbopbjdiehecaa
open Go.RowKit Go.Shelf
theorem below_setRow9 {B g:Nat} {w0 w:World} (hb:Below B w0 w) (hBg:B≤g) (cs:Array Value):Below B w0 (w.setRow g cs):=
 ⟨hb.os,hb.tape,hb.output,by simpa using hb.size,fun k hk=>by
  refine Eq.trans ?_ (hb.block k hk)
  unfold World.setRow
  rcases Nat.lt_or_ge k w.heap.size with hl | hl
  ·
   rw [Array.getElem?_eq_getElem (by simpa using hl),Array.getElem_modify,if_neg (by omega),Array.getElem?_eq_getElem hl]
  ·
   rw [Array.getElem?_eq_none (by simpa using hl),Array.getElem?_eq_none hl]⟩
end Go.Proofs.Ytlbopbjdiehecaa
namespace Go.Proofs.Ytlbopbjdiehecaa
open Go.RowKit Go.Shelf
end Go.Proofs.Ytlbopbjdiehecaa
namespace Go.Proofs.Ytlbopbjdiehecaa
open Go.RowKit Go.Shelf
end Go.Proofs.Ytlbopbjdiehecaa
namespace Go.Proofs.Ytlbopbjdiehecaa
open Go.RowKit
theorem lit_cells {α:Type} (w:World) (f:α→List Value) {k:Nat} (hk:∀ x,(f x).length=k) (z:α) (t:TypeId):Cells (w.alloc (.cells (f z).toArray t)) (w.heap.size+1) k f (some ⟨w.heap.size,0,none⟩) 1 [z]:=by
 refine ⟨rfl,fun _=>⟨w.heap.size,0,rfl,by omega,fun i x hx j u hu=>?_⟩⟩
 have hj:j < k:=by have:=(List.getElem?_eq_some_iff.1 hu).1;rwa [hk] at this
 have hi:i=0:=by
  have:=(List.getElem?_eq_some_iff.1 hx).1
  simpa using this
 subst hi
 obtain rfl:z=x:=by simpa using hx
 rw [cell_of_row (w.alloc (.cells (f z).toArray t)) w.heap.size _ (f z).toArray t (0,0) (heap_alloc_new w _)]
 rw [List.getElem?_toArray]
 simpa using hu
theorem lit_own {α:Type} (w:World) (base:Nat) (f:α→List Value) {k:Nat} (hk:∀ x,(f x).length=k) (z:α) (t:TypeId) (hb:base≤w.heap.size):(w.alloc (.cells (f z).toArray t)).ownsRow base t k (.slice (some ⟨w.heap.size,0,none⟩) 1 1) 1 ([z].flatMap f):=by
 have h:=World.ownsRow_lit (base:=base) (size:=k) (e:=t) w (f z).toArray 1 hb (by decide) (by simp [hk])
 simpa using h
section
variable {P:Program} {w:World} {α:Type} {f:α→List Value} {k:Nat}
theorem step_append_cells {ops:Array Oper} {o:Oper} {a:Act} {K:Act→World→Prop} {Q:Exit→Act→World→Prop} {E:Prop} (hgd:o.guard=none) (s x:Operand) (t:TypeId)
  (ho:o.op=.call { callee:=.builtin .append,args:=#[s,x],argTypes:=#[t,t] })
  (hk:∀ x,(f x).length=k) (h0:0 < k) (hone:∀ x,∀ u∈f x,u.oneCell'=true)
  (base:Nat) (e:TypeId) (i:TypeInfo) (z:Value) (bytes:Nat) (ht:P.underlying t=some (.slice e)) (hi:P.info? e=some i) (hz:i.zero=some z)
  (hsize:i.size=k) (hby:i.bytes=bytes) (hzs:z.cells.size=k)
  (v:Value) (n:Nat) (xs:List Value) (hs:a.eval s=v) (hown:w.ownsRow base e k v n xs)
  (B:Nat) (A:Option Addr) (m c:Nat) (L:List α) (hx:a.eval x=.slice A m c) (hr:Cells w B k f A m L)
  (h63:n+m≤maxLen) (hbytes:(n+m)*bytes≤140737488355328) (hbase:base≤w.heap.size)
  (h:∀ v' w',w'.ownsRow base e k v' (n+m) (xs++L.flatMap f)→w.grownBy w' v.ownBlock→(v'.ownBlock=v.ownBlock∨v'.ownBlock=some w.heap.size)→K (a.put o.dst v') w') :
  if Region.wanted o (yielded ops a.tmps)=true then Oper.wp P o a w K Q else E:=by
 have hw:Region.wanted o (yielded ops a.tmps)=true:=by simp [Region.wanted,hgd]
 rw [if_pos hw]
 obtain ⟨v',w',hrun,h2,h3,h4⟩:=run_append_cells (P:=P) w hk h0 hone base t o.type e i z bytes ht hi hz hsize hby hzs v n xs hown B A m c L hr h63 hbytes hbase
 unfold Oper.wp execOp
 simp only [ho,resolve,invoke,builtin,Sem.run_bind,Sem.run_pure,Result.andThen_ok,List.map_toArray,List.map_cons,List.map_nil,hs,hx,hrun]
 exact h _ _ h2 h3 h4
end
theorem made1 (z:Value) (hz:z.cells=#[z]) (k:Nat):madeCells z.cells k=(List.replicate k z).toArray:=by
 apply Array.ext
 ·
  rw [size_madeCells];simp
 ·
  intro i h1 h2
  simp [madeCells,hz,Nat.mod_one]
theorem wpList_make1 {P:Program} (w:World) {ops:Array Oper} {rest:List Oper} {o:Oper} {a:Act} {Q:Exit→Act→World→Prop}
  (hg:o.guard=none) (l c:Operand) (t:TypeId) (hop:o.op=Op.makeSlice t l c)
  (e:TypeId) (i:TypeInfo) (z:Value) (h1:P.underlying t=some (.slice e)) (h2:P.info? e=some i) (h3:i.zero=some z) (h4:i.size=1) (hz:z.cells=#[z])
  (n:Nat) (hl:a.eval l=.int .i64 (n:Int)) (hc:a.eval c=.int .i64 (n:Int)) (b2:i.bytes*n≤281474976710656) (b3:n≤1000000)
  (hK:wpList P ops Q rest (a.put o.dst (.slice (some ⟨w.heap.size,0,none⟩) n n)) (w.alloc (.cells (List.replicate n z).toArray e))) :
  wpList P ops Q (o :: rest) a w:=by
 have hb':(i.bytes:Int)*(n:Int)≤281474976710656:=by
  have h:((i.bytes*n:Nat):Int)≤281474976710656:=by omega
  rwa [Int.natCast_mul] at h
 have hr:=run_make (P:=P) w t e i z h1 h2 h3 .i64 .i64 n n (by omega) (Int.le_refl _) hb' (by omega)
 simp only [Int.toNat_natCast,h4,Nat.mul_one,made1 z hz] at hr
 refine wpList_plain hg fun K hK'=>?_
 unfold Oper.wp
 simp [execOp,hop,hl,hc,hr,Result.andThen]
 exact hK' _ _ hK
theorem info9Bool:(Try.prog.info? 4).map (fun i=>(i.zero,i.size,i.bytes))=some (some (.bool false),1,1):=by kernel_rfl
def inR (i n:Int):Bool:=decide (0≤i∧i < n)
theorem inR_yes {i n:Int} (h:0≤i∧i < n):inR i n=true:=decide_eq_true h
theorem inR_no {i n:Int} (h:¬(0≤i∧i < n)):inR i n=false:=decide_eq_false h
theorem PWithin_any (i n:Int) (w:World):Calls Try.prog 25 #[.int .i64 i,.int .i64 n] w fun e w'=>e=.returned (.bool (inR i n))∧w'=w:=by
 by_cases h0:0≤i
 ·
  by_cases h1:i < n
  ·
   rw [inR_yes ⟨h0,h1⟩]
   go_enter Try.func25,Try.ntmps25
   go_wp2
   go_ret
   exact ⟨rfl,rfl⟩
  ·
   rw [inR_no (fun h=>h1 h.2)]
   go_enter Try.func25,Try.ntmps25
   go_wp2
   go_ret
   exact ⟨rfl,rfl⟩
 ·
  rw [inR_no (fun h=>h0 h.1)]
  go_enter Try.func25,Try.ntmps25
  go_wp2
  go_ret
  exact ⟨rfl,rfl⟩
theorem PWithin_is {i n:Int} {v:Bool} (h:inR i n=v) (w:World):Calls Try.prog 25 #[.int .i64 i,.int .i64 n] w fun e w'=>e=.returned (.bool v)∧w'=w:=h ▸ PWithin_any i n w
theorem PSize_any (p:BkW) (w:World) (hm:p.stmts.n≤2 ^ 62):Calls Try.prog 26 #[aggBk p] w fun e w'=>e=.returned (.int .i64 ((p.stmts.n+1:Nat):Int))∧Below w.heap.size w w':=by
 obtain ⟨⟨sA,sn,sc,sL⟩,⟨bk,⟨xA,xn,xc,xL⟩,⟨gA,gn,gc,gL⟩,⟨l,pA,pn,pc,ps⟩,tnm⟩⟩:=p
 have hm:sn≤2 ^ 62:=hm
 have HB:=hide (below1 w (.cells #[.slice sA sn sc,.int .i64 bk,.slice xA xn xc,.slice gA gn gc,.int .i64 l,.slice pA pn pc,.string tnm] 58))
 obtain ⟨x0,x1,x2,x3,x4,x5,x6⟩:=cells7 (Below.refl (w.alloc (.cells #[.slice sA sn sc,.int .i64 bk,.slice xA xn xc,.slice gA gn gc,.int .i64 l,.slice pA pn pc,.string tnm] 58)).heap.size (w.alloc (.cells #[.slice sA sn sc,.int .i64 bk,.slice xA xn xc,.slice gA gn gc,.int .i64 l,.slice pA pn pc,.string tnm] 58)))
 have s1:IntKind.i64.wrap ((sn:Int)+1)=(sn:Int)+1:=wrapI9 _ (by omega) (by omega)
 go_enter Try.func26,Try.ntmps26
 go_wp2
 go_ret
 exact ⟨rfl,HB.out⟩
theorem bk_all {w:World} {B:Nat} {x:BdW} (h:OneBd w B x) {j:Nat} (hj:j < x.blocks.n):∃ p b o,x.blocks.L[j]?=some p∧x.v.blocks[j]?=some p.v∧p.v.stmts.length=p.stmts.n∧x.blocks.A=some ⟨b,o,none⟩∧b < B∧OneBk w B p∧∀ i u,(cBk p)[i]?=some u→w.cell? ⟨b,o+j*7+i,none⟩=some u:=by
 obtain ⟨p,b,o,h1,h2,h3,_,h5,h6,h7,h8⟩:=bk_at h hj
 exact ⟨p,b,o,h1,h2,h3,h5,h6,h7,h8⟩
theorem PCount_any (x:BdW) (w:World) (hx:OneBd w w.heap.size x) (hN:ptCount x.v.blocks≤2 ^ 62) :
  Calls Try.prog 15 #[aggBd x] w fun e w'=>e=.returned (.int .i64 (ptCount x.v.blocks:Nat))∧Below w.heap.size w w':=by
 obtain ⟨BL,hBL⟩:∃ l,x.v.blocks=l:=⟨_,rfl⟩
 have hbl:=bk_len hx
 have hbm:=hx.blocks.nm
 unfold maxLen at hbm
 rw [hBL] at hN hbl ⊢
 have HBV:=hide hBL
 have HN:=hide hN
 obtain ⟨nm,⟨rA,rn,rc,rL⟩,⟨oA,on,oc,oL⟩,⟨tA,tm,tc,tL⟩,⟨lA,ln,lc,lL⟩,ar,⟨bA,bn,bc,bL⟩⟩:=x
 have HBL:=hide hbl
 have hbm:bn≤2 ^ 63 - 1:=hbm
 have HB:=hide (below1 w (.cells #[.string nm,.slice rA rn rc,.slice oA on oc,.slice tA tm tc,.slice lA ln lc,.int .i64 ar,.slice bA bn bc] 32))
 have HX:=hide (hx.up HB.out)
 have HC:=hide fun (w':World) (y:Below (w.alloc (.cells #[.string nm,.slice rA rn rc,.slice oA on oc,.slice tA tm tc,.slice lA ln lc,.int .i64 ar,.slice bA bn bc] 32)).heap.size (w.alloc (.cells #[.string nm,.slice rA rn rc,.slice oA on oc,.slice tA tm tc,.slice lA ln lc,.int .i64 ar,.slice bA bn bc] 32)) w')=>cells7 y
 obtain ⟨x0,x1,x2,x3,x4,x5,x6⟩:=HC.out _ (Below.refl _ _)
 clear hBL hbl hN hx
 go_enter Try.func15,Try.ntmps15
 go_wp2
 clear x0 x1 x2 x3 x4 x5 x6
 go_loopw [3,9] (fun n i wr=>∃ j:Nat,i=.int .i64 (j:Int)∧n=.int .i64 (ptFirst BL j:Nat)∧j≤bn∧Hid (Below (w.alloc (.cells #[.string nm,.slice rA rn rc,.slice oA on oc,.slice tA tm tc,.slice lA ln lc,.int .i64 ar,.slice bA bn bc] 32)).heap.size (w.alloc (.cells #[.string nm,.slice rA rn rc,.slice oA on oc,.slice tA tm tc,.slice lA ln lc,.int .i64 ar,.slice bA bn bc] 32)) wr)) (fun _ i _=>bn - (intOf i).toNat)
 case atStart=>exact ⟨0,rfl,by rw [ptFirst_zero];rfl,Nat.zero_le _,hide (Below.refl _ _)⟩
 case round=>
  obtain ⟨j,rfl,rfl,hj,HW⟩:=hrel
  by_cases hlt:j < bn
  ·
   have hlt':(j:Int) < (bn:Int):=by omega
   obtain ⟨p,b,o,_,hpv,hps,hA,hb,hob,hc⟩:=bk_all (HX.out.up HW.out) hlt
   have hA:bA=some ⟨b,o,none⟩:=hA
   subst hA
   have hpv:BL[j]?=some p.v:=HBV.out ▸ hpv
   have hu:=ptFirst_up hpv
   unfold ptN at hu
   rw [hps] at hu
   have hle:=ptFirst_le BL (j+1)
   obtain ⟨m,hm⟩:∃ m,ptFirst BL j=m:=⟨_,rfl⟩
   have h62:m+(p.stmts.n+1)≤2 ^ 62:=by
    have:=HN.out
    omega
   have HU:=hide (show ptFirst BL (j+1)=m+(p.stmts.n+1) by omega)
   have HSZ:=hide fun (w':World)=>PSize_any p w' (by omega)
   rw [hm]
   obtain ⟨⟨sA,sn,sc,sL⟩,⟨bk,⟨xA,xn,xc,xL⟩,⟨gA,gn,gc,gL⟩,⟨l,pA,pn,pc,ps⟩,tnm⟩⟩:=p
   have h62:m+(sn+1)≤2 ^ 62:=h62
   have c0:wr.cell? ⟨b,o+j*7,none⟩=some (.slice sA sn sc):=hc 0 _ rfl
   have c1:wr.cell? ⟨b,o+j*7+1,none⟩=some (.int .i64 bk):=hc 1 _ rfl
   have c2:wr.cell? ⟨b,o+j*7+2,none⟩=some (.slice xA xn xc):=hc 2 _ rfl
   have c3:wr.cell? ⟨b,o+j*7+3,none⟩=some (.slice gA gn gc):=hc 3 _ rfl
   have c4:wr.cell? ⟨b,o+j*7+4,none⟩=some (.int .i64 l):=hc 4 _ rfl
   have c5:wr.cell? ⟨b,o+j*7+5,none⟩=some (.slice pA pn pc):=hc 5 _ rfl
   have c6:wr.cell? ⟨b,o+j*7+6,none⟩=some (.string tnm):=hc 6 _ rfl
   have HB3:=hide (below1 wr (.cells #[.slice sA sn sc,.int .i64 bk,.slice xA xn xc,.slice gA gn gc,.int .i64 l,.slice pA pn pc,.string tnm] 58))
   have HW3:=hide (HW.out.trans (HB3.out.mono HW.out.size))
   obtain ⟨y0,y1,y2,y3,y4,y5,y6⟩:=cells7 (Below.refl (wr.alloc (.cells #[.slice sA sn sc,.int .i64 bk,.slice xA xn xc,.slice gA gn gc,.int .i64 l,.slice pA pn pc,.string tnm] 58)).heap.size (wr.alloc (.cells #[.slice sA sn sc,.int .i64 bk,.slice xA xn xc,.slice gA gn gc,.int .i64 l,.slice pA pn pc,.string tnm] 58)))
   clear hpv hps hc hu hle hm hob
   have s2:IntKind.i64.wrap ((m:Int)+((sn+1:Nat):Int))=(m:Int)+((sn+1:Nat):Int):=wrapI9 _ (by omega) (by omega)
   have e2:(((sn:Nat)+1:Nat):Int)=(sn:Int)+1:=by omega
   go_wp2_with fail
   refine (HSZ.out _).mono ?_
   rintro e w1 ⟨rfl,hb1⟩
   have HW1:=hide (HW3.out.trans (hb1.mono HW3.out.size))
   clear hb1 c0 c1 c2 c3 c4 c5 c6 y0 y1 y2 y3 y4 y5 y6
   have s3:IntKind.i64.wrap ((m:Int)+((sn:Int)+1))=(m:Int)+((sn:Int)+1):=wrapI9 _ (by omega) (by omega)
   go_wp2
   go_roundw
   case rel=>exact ⟨j+1,by go_num,by rw [HU.out];exact congrArg (fun z:Int=>Value.int .i64 z) (by omega),by omega,HW1⟩
   case measure=>simp [intOf];omega
  ·
   have hlt':¬(j:Int) < (bn:Int):=by omega
   have HF:=hide (show ptFirst BL j=ptCount BL from ptFirst_all (by rw [HBL.out];omega))
   go_wp2
   go_ret
   exact ⟨congrArg (fun z:Nat=>Ending.returned (.int .i64 (z:Int))) HF.out,HB.out.trans (HW.out.mono HB.out.size)⟩
theorem PCount_is {x:BdW} {m:Nat} {w:World} (hx:OneBd w w.heap.size x) (hm:ptCount x.v.blocks=m) (hN:m≤2 ^ 62) :
  Calls Try.prog 15 #[aggBd x] w fun e w'=>e=.returned (.int .i64 (m:Int))∧Below w.heap.size w w':=hm ▸ PCount_any x w hx (hm ▸ hN)
def ptLocI (l:List BkV) (p:Int):Option (Nat×Nat):=if p < 0 then none else ptLoc l p.toNat
def vLoc:Option (Nat×Nat)→Value
 | some x=>.tuple #[.int .i64 (x.1:Int),.int .i64 (x.2:Int),.bool true]
 | none=>.tuple #[.int .i64 0,.int .i64 0,.bool false]
theorem ptLocI_some {l:List BkV} {p:Int} {i k:Nat} (h:ptLocI l p=some (i,k)):0≤p∧∃ b,l[i]?=some b∧k≤b.stmts.length∧p=(ptFirst l i:Int)+k:=by
 unfold ptLocI at h
 split at h
 ·
  cases h
 ·
  obtain ⟨b,h1,h2,h3⟩:=ptLoc_some h
  exact ⟨by omega,b,h1,h2,by omega⟩
theorem ptLocI_at {l:List BkV} {p:Int} {i k:Nat} {b:BkV} (hb:l[i]?=some b) (hk:k≤b.stmts.length) (e:p=(ptFirst l i:Int)+k):ptLocI l p=some (i,k):=by
 unfold ptLocI
 rw [if_neg (by omega)]
 exact ptLoc_iff.2 ⟨b,hb,hk,by omega⟩
theorem ptLocI_lt {l:List BkV} {p:Int} {i k:Nat} (h:ptLocI l p=some (i,k)):i < l.length:=by
 obtain ⟨_,b,h1,_⟩:=ptLocI_some h
 exact (List.getElem?_eq_some_iff.1 h1).1
end Go.Proofs.Ytlbopbjdiehecaa
