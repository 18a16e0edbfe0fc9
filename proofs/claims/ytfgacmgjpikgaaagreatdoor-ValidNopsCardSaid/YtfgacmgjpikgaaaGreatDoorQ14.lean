/- Part 15 of the contracts and their mathematics. -/
import Derived.Test.YtfgacmgjpikgaaaGreatDoorQ13
import Derived.Test.YtfgacmgjpikgaaaGreatDoorShelf
import Derived.Lib.OwnBridge
import Derived.Sort.OwnSortedInts
set_option linter.unusedVariables false
set_option linter.unusedSimpArgs false
set_option maxRecDepth 100000
set_option maxHeartbeats 1000000
namespace Go.Proofs.YtfgacmgjpikgaaaGreatDoor
open Go.RowKit
theorem keyTypeP:Tryz.prog.keyType 99=true:=by kernel_rfl
theorem pair_law:Go.Maps.Keyed Tryz.prog 99:=Go.Maps.Keyed.of_law (deep_law_gate (by kernel_rfl) (of_decide_eq_true (by kernel_rfl)) (of_decide_eq_true (by kernel_rfl)) keyTypeP (by rw [Tryz.underlying99]))
theorem mapPair:Tryz.prog.underlying 95=some (.map 99 4):=Tryz.underlying95
def keyP (p:Pr):Lit:=.string (keyBytes [.int .i64 p.1,.int .i64 p.2])
section
variable {P:Program} {d:Nat} {t:TypeId}
theorem keyOf_arr {k:TypeId} {n:Nat} {e:TypeId} {cs:List Value} {ls:List Lit} (hu:P.underlying k=some (.array n e)) (hk:P.keyType k=true) (hsz:cs.length=P.cellsOf k) (hl:P.keyLits (P.types.size+1) k cs=some ls):keyOf P k (.agg cs.toArray)=some (.string (keyBytes ls)):=by
 simp [keyOf,hu,hk,Value.formed,hsz,Value.cells,hl]
theorem keyLits_arr {n:Nat} {e:TypeId} {cs:List Value} (hu:P.underlying t=some (.array n e)) (hsz:cs.length=P.cellsOf t):P.keyLits (d+1) t cs=((List.range n).mapM fun i=>P.keyLits d e ((cs.drop (i*P.cellsOf e)).take (P.cellsOf e))).map List.flatten:=by
 conv=>lhs;unfold Program.keyLits
 simp only [hu]
 rw [if_pos hsz]
theorem keyLits_num {q:IntKind} (hu:P.underlying t=some (.int q)) {n:Int} (hw:(Lit.int q n).wf=true):P.keyLits (d+1) t [.int q n]=some [.int q n]:=by
 simp [Program.keyLits,hu,hw]
end
theorem keyOf_pair {p:Pr} (h:IntP p):keyOf Tryz.prog 99 (aggP p)=some (keyP p):=by
 have c1:Tryz.prog.cellsOf 3=1:=by kernel_rfl
 have c4:Tryz.prog.cellsOf 99=2:=by kernel_rfl
 have hp:∃ d,Tryz.prog.types.size=d+1:=⟨Tryz.prog.types.size - 1,by have h:0 < Tryz.prog.types.size:=of_decide_eq_true (by kernel_rfl);omega⟩
 obtain ⟨d,hd⟩:=hp
 refine keyOf_arr (cs:=[.int .i64 p.1,.int .i64 p.2]) Tryz.underlying99 keyTypeP (by rw [c4];rfl) ?_
 rw [keyLits_arr Tryz.underlying99 (by rw [c4];rfl),hd]
 simp only [show List.range 2=[0,1] from rfl,List.mapM_cons,List.mapM_nil,c1]
 simp [keyLits_num Tryz.underlying3 (wf_i64 h.1),keyLits_num Tryz.underlying3 (wf_i64 h.2)]
theorem keyP_inj {p q:Pr} (hp:IntP p) (hq:IntP q) (h:keyP p=keyP q):p=q:=by
 have h1:=keyOf_pair hp
 rw [h] at h1
 have h2:=pair_law.inj h1 (keyOf_pair hq)
 injection h2 with h2
 have h3:=congrArg Array.toList h2
 simp only [List.cons.injEq,and_true,Value.int.injEq,true_and] at h3
 exact Prod.ext h3.1 h3.2
theorem keyP_key {p:Pr}:Go.WideAt.IsKeyLit (keyP p):=trivial
def PrM (b:Nat) (M:List Pr) (w:World):Prop:=∃ m Dm,w.ownsMap (H:=Unit) Tryz.prog 99 (plainElem Tryz.prog 4) b m Dm∧m≤M.length ∧
 (∀ p,IntP p→(Maps.has Dm (keyP p)=true↔p∈M))∧∀ p,Maps.has Dm (keyP p)=true→∀ z,Dm.atKey (keyP p) z=.lit (.bool true)
theorem PrM.block {b:Nat} {M:List Pr} {w w':World} (h:PrM b M w) (hb:w'.heap[b]?=w.heap[b]?):PrM b M w':=by
 obtain ⟨m,Dm,h1,h2⟩:=h
 exact ⟨m,Dm,owns_block h1 hb,h2⟩
theorem PrM.look {b:Nat} {M:List Pr} {w:World} (h:PrM b M w) {p:Pr} (hp:IntP p) {v:Bool} (hv0:decide (p∈M)=v):(Instr.lookup 95 (.map (some b)) (aggP p) false).run Tryz.prog w=.ok (.bool v) w:=by
 obtain ⟨m,Dm,h1,_,h3,h4⟩:=h
 obtain ⟨u,ps,hrun,hv⟩:=h1.lookup pair_law mapPair (zeroB w) (zd:=.lit (.bool false)) (zp:=[]) (plainElem_bool Tryz.underlying4 false) (keyOf_pair hp)
 rw [hrun,← hv0]
 cases hh:Maps.has Dm (keyP p)
 ·
  rw [Maps.atKey_of_not_has hh] at hv
  obtain ⟨c,rfl,hc⟩:=plainElem_bool_inv Tryz.underlying4 hv
  injection hc with hc _
  injection hc with hc
  injection hc with hc
  have hn:¬p∈M:=fun h=>by rw [(h3 p hp).2 h] at hh;cases hh
  rw [decide_eq_false hn,hc]
 ·
  rw [h4 p hh] at hv
  obtain ⟨c,rfl,hc⟩:=plainElem_bool_inv Tryz.underlying4 hv
  injection hc with hc _
  injection hc with hc
  injection hc with hc
  rw [decide_eq_true ((h3 p hp).1 hh),hc]
theorem PrM.put {b:Nat} {M:List Pr} {w w':World} {m:Nat} {Dm:DataW Unit} {p:Pr} (hbd:∀ q∈M,IntP q) (h1:w.ownsMap (H:=Unit) Tryz.prog 99 (plainElem Tryz.prog 4) b m Dm) (h2:m≤M.length)
  (h3:∀ p,IntP p→(Maps.has Dm (keyP p)=true↔p∈M)) (h4:∀ p,Maps.has Dm (keyP p)=true→∀ z,Dm.atKey (keyP p) z=.lit (.bool true)) (hp:IntP p)
  (hw:w'.ownsMap (H:=Unit) Tryz.prog 99 (plainElem Tryz.prog 4) b (m+1) (Dm.put (keyP p) (.lit (.bool true)))):PrM b (M++[p]) w':=by
 have hm:Maps.IsMap Dm:=⟨_,(h1.entries pair_law).choose_spec.1⟩
 refine ⟨m+1,_,hw,by simp;omega,fun u hu=>?_,fun u hh z=>?_⟩
 ·
  by_cases hut:u=p
  ·
   subst hut
   rw [Maps.has_put_same hm keyP_key]
   simp
  ·
   have hne:keyP u≠keyP p:=fun e=>hut (keyP_inj hu hp e)
   rw [Maps.has_put_other hne,h3 u hu]
   simp [hut]
 ·
  by_cases hut:keyP u=keyP p
  ·
   rw [hut]
   exact Maps.atKey_put_same hm keyP_key _ z
  ·
   rw [Maps.has_put_other hut] at hh
   exact (Maps.atKey_put_other hut _ z).trans (h4 u hh z)
theorem PrM.made (w:World):PrM w.heap.size [] (w.alloc (.map #[] 0)):=
 ⟨0,.map [],World.ownsMap_made (H:=Unit) w Tryz.prog 99 (plainElem Tryz.prog 4),Nat.le_refl _,fun p _=>by simp [Maps.has],fun p h=>by simp [Maps.has] at h⟩
theorem icompact_mem {zs:List Int} {x:Int}:x∈Lib.compact zs↔x∈zs:=by
 unfold Lib.compact Lib.compactUpTo
 constructor
 ·
  intro h
  obtain ⟨i,hi,rfl⟩:=List.mem_map.1 h
  have hi':i < zs.length:=List.mem_range.1 (List.mem_filter.1 hi).1
  simp [getElem!_pos,hi']
 ·
  intro h
  obtain ⟨i,hi,rfl⟩:=List.mem_iff_getElem.1 h
  have key:∀ n,∀ i (hi:i < zs.length),i≤n→∃ j,j < zs.length∧Lib.keeps zs.toArray j=true∧zs.toArray[j]! = zs[i]:=by
   intro n
   induction n with
   | zero=>
    intro i hi h0
    obtain rfl:i=0:=by omega
    exact ⟨0,hi,by simp [Lib.keeps],by simp [getElem!_pos,hi]⟩
   | succ n ih=>
    intro i hi hn
    by_cases hk:Lib.keeps zs.toArray i=true
    ·
     exact ⟨i,hi,hk,by simp [getElem!_pos,hi]⟩
    ·
     have hk':¬(i=0∨zs.toArray[i]!≠zs.toArray[i - 1]!):=by simpa [Lib.keeps] using hk
     have h0:i≠0:=fun e=>hk' (.inl e)
     have he:zs.toArray[i]! = zs.toArray[i - 1]!:=Classical.byContradiction fun e=>hk' (.inr e)
     obtain ⟨j,h1,h2,h3⟩:=ih (i - 1) (by omega) (by omega)
     refine ⟨j,h1,h2,h3.trans ?_⟩
     simp only [getElem!_pos,hi,show i - 1 < zs.length by omega,List.size_toArray,List.getElem_toArray] at he
     exact he.symm
  obtain ⟨j,h1,h2,h3⟩:=key i i hi (Nat.le_refl _)
  exact List.mem_map.2 ⟨j,List.mem_filter.2 ⟨List.mem_range.2 h1,h2⟩,h3⟩
theorem icompact_asc {zs:List Int} (h:zs.Pairwise (·≤·)):(Lib.compact zs).Pairwise (· < ·):=by
 unfold Lib.compact Lib.compactUpTo
 refine List.pairwise_map.2 ?_
 have hr:((List.range zs.length).filter (Lib.keeps zs.toArray)).Pairwise (· < ·):=List.Pairwise.sublist List.filter_sublist List.pairwise_lt_range
 refine List.Pairwise.imp_of_mem ?_ hr
 intro i j hi hj hij
 obtain ⟨hi1,hi2⟩:=List.mem_filter.1 hi
 obtain ⟨hj1,hj2⟩:=List.mem_filter.1 hj
 have hjl:=List.mem_range.1 hj1
 have hil:=List.mem_range.1 hi1
 have hne:zs.toArray[j]!≠zs.toArray[j - 1]!:=by
  have:j=0∨zs.toArray[j]!≠zs.toArray[j - 1]!:=by simpa [Lib.keeps] using hj2
  rcases this with h | h
  ·
   omega
  ·
   exact h
 simp only [getElem!_pos,hjl,hil,show j - 1 < zs.length by omega,List.size_toArray,List.getElem_toArray] at hne ⊢
 have hp:=List.pairwise_iff_getElem.1 h
 have h1:zs[j - 1]≤zs[j]:=hp (j - 1) j (by omega) hjl (by omega)
 rcases Nat.lt_or_ge i (j - 1) with c | c
 ·
  have h3:zs[i]≤zs[j - 1]:=hp i (j - 1) hil (by omega) c
  omega
 ·
  obtain rfl:i=j - 1:=by omega
  omega
theorem isort_le (zs:List Int):(zs.mergeSort fun x y=>decide (x≤y)).Pairwise (·≤·):=by
 have hs:=List.pairwise_mergeSort (le:=fun x y:Int=>decide (x≤y)) (fun a b c h1 h2=>by simp at h1 h2 ⊢;omega) (fun a b=>by simp;omega) zs
 exact hs.imp fun h=>by simpa using h
def idedup (zs:List Int):List Int:=Lib.compact (zs.mergeSort fun x y=>decide (x≤y))
theorem idedup_mem {zs:List Int} {x:Int}:x∈idedup zs↔x∈zs:=by unfold idedup;rw [icompact_mem,(List.mergeSort_perm _ _).mem_iff]
theorem idedup_asc (zs:List Int):(idedup zs).Pairwise (· < ·):=icompact_asc (isort_le zs)
theorem idedup_len (zs:List Int):(idedup zs).length≤zs.length:=by
 have h:=Lib.compact_length_le (zs.mergeSort fun x y=>decide (x≤y))
 rw [List.length_mergeSort] at h
 exact h
theorem SortRowI {w:World} {base n:Nat} {v:Value} {zs:List Int} (h:w.ownsRow base 3 1 v n (i64s zs)) (hn:n≤4611686018427387903) :
  Calls Tryz.prog 137 #[v] w fun e w'=>e=.returned (.tuple #[])∧w'.ownsRow base 3 1 v n (i64s (zs.mergeSort fun x y=>decide (x≤y)))∧(base≤w.heap.size→Below base w w'):=by
 have hl:zs.length=n:=by simpa using h.1
 rcases h.2 with ⟨rfl,hx⟩ | ⟨g,cap,cur,rfl,hbase,hb,h1,h2,h3,h4⟩
 ·
  subst hx
  obtain rfl:zs=[]:=List.eq_nil_of_length_eq_zero hl
  refine (Tryz.slices_Sort_int_none none 0 w).mono ?_
  rintro e w' ⟨rfl,rfl⟩
  exact ⟨rfl,by simpa using h,fun _=>Below.refl _ _⟩
 ·
  subst hl
  have hH:=Go.holds_of_blockI hb (by simpa using h4)
  have hg:g < w.heap.size:=(Array.getElem?_eq_some_iff.1 hb).1
  refine (Tryz.slices_Sort_int g 0 cap zs w hH hg (by omega)).mono ?_
  rintro e w' ⟨rfl,m,os,rfl⟩
  refine ⟨rfl,Go.ownsRow_sortedI (by simp) hbase hb h1 h2 h3,fun hs=>?_⟩
  exact (Below.refl base w).grown (Go.grownBy_sortedI _) hs (fun j hj=>by cases hj;exact hbase)
theorem CompactRowI {w:World} {base n:Nat} {v:Value} {zs:List Int} (h:w.ownsRow base 3 1 v n (i64s zs)) (hn:n≤4611686018427387903) :
  Calls Tryz.prog 138 #[v] w fun e w'=>∃ A m c,e=.returned (.slice A m c)∧m≤c∧c≤maxLen∧w'.ownsRow base 3 1 (.slice A m c) m (i64s (Lib.compact zs))∧Below base w w':=by
 have hl:zs.length=n:=by simpa using h.1
 by_cases hv:v=.slice none 0 0
 ·
  subst hv
  have hz:n=0:=by
   rcases h.2 with ⟨_,hx⟩ | ⟨g,cap,cur,h0,_⟩
   ·
    exact hx
   ·
    cases h0
  subst hz
  obtain rfl:zs=[]:=List.eq_nil_of_length_eq_zero hl
  refine (Tryz.slices_Compact_int_empty none 0 w).mono ?_
  rintro e w' ⟨rfl,rfl⟩
  refine ⟨none,0,0,rfl,Nat.le_refl _,Nat.zero_le _,?_,Below.refl _ _⟩
  have e:Lib.compact ([]:List Int)=[]:=rfl
  rw [e]
  exact h
 ·
  obtain ⟨g,cap,rfl,hbg,hgl,hncap,hcm,_,hH⟩:=Lib.holds_of_ownsRow h hv
  subst hl
  refine (Tryz.slices_Compact_int g 0 cap zs w hH (by omega) hncap).mono ?_
  rintro e w' ⟨rfl,q,rfl⟩
  have hle:=Lib.compact_length_le zs
  have hc:=Lib.ownsRow_putRow (q:=q) (k:=(Lib.compact zs).length) (ys:=Lib.compact zs++List.replicate (zs.length - (Lib.compact zs).length) 0) h (by simp;omega) hle
  rw [List.take_left] at hc
  exact ⟨_,_,_,rfl,by omega,hcm,hc,Lib.below_putRow (Below.refl _ _) hbg⟩
theorem BSearch_none (A:Option Addr) (c:Nat) (x:Int) (w:World):Calls Tryz.prog 145 #[.slice A 0 c,.int .i64 x] w fun e w'=>e=.returned (.tuple #[.int .i64 0,.bool false])∧∃ q,w'=w.drewN q:=by
 go_enter Tryz.func145,Tryz.ntmps145
 go_wp2
 go_loop [7,8] (fun i j=>i=.int .i64 0∧j=.int .i64 0) (fun _ _=>0)
 case atStart=>exact ⟨rfl,rfl⟩
 case round=>
  obtain ⟨rfl,rfl⟩:=hrel
  go_wp2
  go_ret2
  exact ⟨rfl,0,rfl⟩
theorem BSearch_any {A:Option Addr} {n c:Nat} {D:List Int} (x:Int) (w:World) {B:Nat} (hD:Rd w B A n (i64s D)) (hs:D.Pairwise (· < ·)) (hn:n≤1000000) :
  Calls Tryz.prog 145 #[.slice A n c,.int .i64 x] w fun e w'=>e=.returned (.tuple #[.int .i64 ((D.countP (· < x):Nat):Int),.bool (D.contains x)])∧∃ q,w'=w.drewN q:=by
 have hl:=hD.ilen
 rcases Nat.eq_zero_or_pos n with h0 | h0
 ·
  subst h0
  obtain rfl:D=[]:=List.eq_nil_of_length_eq_zero hl
  exact BSearch_none A c x w
 ·
  obtain ⟨b,o,rfl,hb,hc⟩:=hD.2 h0
  have h:=Tryz.slices_BinarySearch_int b o n c D x w (by omega) (by omega) (fun j hj=>hc j _ (by rw [List.getElem?_map,List.getElem?_eq_getElem hj,List.getD_eq_getElem?_getD,List.getElem?_eq_getElem hj];rfl)) (by rw [←hl,List.take_length];exact asc_le hs)
  rw [←hl,List.take_length,hl] at h
  exact h
structure RowW where
 xs:List Int
 A:Option Addr
 n:Nat
 c:Nat
abbrev rowV (x:RowW):Value:=.slice x.A x.n x.c
structure RelW (w:World) (B r:Nat) (ps:List Pr) (rg:Int) (A1:Option Addr) (nD cD:Nat) (D:List Int) (A2:Option Addr) (c2:Nat) (L:List RowW):Prop where
 lt:r < B
 d0:w.cell? ⟨r,0,none⟩=some (.int .i64 rg)
 d1:w.cell? ⟨r,1,none⟩=some (.slice A1 nD cD)
 d2:w.cell? ⟨r,2,none⟩=some (.slice A2 nD c2)
 nc:nD≤cD
 nc2:nD≤c2
 dec:Rd w B A1 nD (i64s D)
 above:Rd w B A2 nD (L.map rowV)
 rows:∀ x∈L,Rd w B x.A x.n (i64s x.xs)∧x.n≤x.c∧x.n≤140737488355327
 rel:RelD ps rg D (L.map RowW.xs)
 few:nD≤200000
 ok:PrOk ps rg
theorem RelW.below {w w':World} {B r:Nat} {ps:List Pr} {rg:Int} {A1:Option Addr} {nD cD:Nat} {D:List Int} {A2:Option Addr} {c2:Nat} {L:List RowW} (h:RelW w B r ps rg A1 nD cD D A2 c2 L) (hb:Below B w w'):RelW w' B r ps rg A1 nD cD D A2 c2 L:=
 ⟨h.lt,(hb.cell (p:=⟨r,0,none⟩) h.lt).trans h.d0,(hb.cell (p:=⟨r,1,none⟩) h.lt).trans h.d1,(hb.cell (p:=⟨r,2,none⟩) h.lt).trans h.d2,h.nc,h.nc2,h.dec.below hb,h.above.below hb,fun x hx=>⟨(h.rows x hx).1.below hb,(h.rows x hx).2⟩,h.rel,h.few,h.ok⟩
theorem RelW.more {w:World} {B B' r:Nat} {ps:List Pr} {rg:Int} {A1:Option Addr} {nD cD:Nat} {D:List Int} {A2:Option Addr} {c2:Nat} {L:List RowW} (h:RelW w B r ps rg A1 nD cD D A2 c2 L) (hb:B≤B'):RelW w B' r ps rg A1 nD cD D A2 c2 L:=
 ⟨Nat.lt_of_lt_of_le h.lt hb,h.d0,h.d1,h.d2,h.nc,h.nc2,h.dec.more hb,h.above.more hb,fun x hx=>⟨(h.rows x hx).1.more hb,(h.rows x hx).2⟩,h.rel,h.few,h.ok⟩
def Rel (w:World) (B r:Nat) (ps:List Pr) (rg:Int):Prop:=∃ A1 nD cD D A2 c2 L,RelW w B r ps rg A1 nD cD D A2 c2 L
theorem Rel.below {w w':World} {B r:Nat} {ps:List Pr} {rg:Int} (h:Rel w B r ps rg) (hb:Below B w w'):Rel w' B r ps rg:=by
 obtain ⟨A1,nD,cD,D,A2,c2,L,h⟩:=h
 exact ⟨A1,nD,cD,D,A2,c2,L,h.below hb⟩
theorem Rel.more {w:World} {B B' r:Nat} {ps:List Pr} {rg:Int} (h:Rel w B r ps rg) (hb:B≤B'):Rel w B' r ps rg:=by
 obtain ⟨A1,nD,cD,D,A2,c2,L,h⟩:=h
 exact ⟨A1,nD,cD,D,A2,c2,L,h.more hb⟩
theorem index_raw {A1:Option Addr} {nD cD:Nat} {D:List Int} {r:Nat} (x:Int) (w:World) {B:Nat} (h1:w.cell? ⟨r,1,none⟩=some (.slice A1 nD cD)) (hD:Rd w B A1 nD (i64s D)) (hs:D.Pairwise (· < ·)) (hn:nD≤1000000) :
  Calls Tryz.prog 139 #[.pointer (some ⟨r,0,none⟩),.int .i64 x] w fun e w'=>e=.returned (.tuple #[.int .i64 ((D.countP (· < x):Nat):Int),.bool (D.contains x)])∧∃ q,w'=w.drewN q:=by
 have HS:=hide (BSearch_any (c:=cD) x w hD hs hn)
 clear hD hs
 generalize D.countP (· < x)=k at *
 generalize D.contains x=b at *
 go_enter Tryz.func139,Tryz.ntmps139
 go_wp2_with (go_at_call 145;refine HS.out.mono ?_;rintro e w1 ⟨rfl,q,rfl⟩)
 go_ret2
 exact ⟨rfl,q,rfl⟩
theorem index_yes {A1:Option Addr} {nD cD:Nat} {D:List Int} {r:Nat} {x:Int} {i:Nat} (hi:D[i]?=some x) (w:World) {B:Nat} (h1:w.cell? ⟨r,1,none⟩=some (.slice A1 nD cD)) (hD:Rd w B A1 nD (i64s D)) (hs:D.Pairwise (· < ·)) (hn:nD≤1000000) :
  Calls Tryz.prog 139 #[.pointer (some ⟨r,0,none⟩),.int .i64 x] w fun e w'=>e=.returned (.tuple #[.int .i64 (i:Int),.bool true])∧∃ q,w'=w.drewN q:=by
 have h:=index_raw (cD:=cD) x w h1 hD hs hn
 rw [asc_count hs hi,show D.contains x=true by simpa using List.mem_of_getElem? hi] at h
 exact h
theorem index_no {A1:Option Addr} {nD cD:Nat} {D:List Int} {r:Nat} {x:Int} (hi:x∉D) (w:World) {B:Nat} (h1:w.cell? ⟨r,1,none⟩=some (.slice A1 nD cD)) (hD:Rd w B A1 nD (i64s D)) (hs:D.Pairwise (· < ·)) (hn:nD≤1000000) :
  Calls Tryz.prog 139 #[.pointer (some ⟨r,0,none⟩),.int .i64 x] w fun e w'=>(∃ k:Nat,e=.returned (.tuple #[.int .i64 (k:Int),.bool false]))∧∃ q,w'=w.drewN q:=by
 refine (index_raw (cD:=cD) x w h1 hD hs hn).mono ?_
 rintro e w' ⟨rfl,q,rfl⟩
 exact ⟨⟨_,by rw [show D.contains x=false by simpa using hi]⟩,q,rfl⟩
def opRows:List (List Int):=[[2,0,2,2],[2,1,1,1],[3,0,2,2],[3,1,2,2],[3,2,2,2],[3,3,2,1],[3,4,2,1],[3,5,1,1]]
def opCells:List Value:=opRows.flatten.map fun k=>.int .i64 k
def OpsT (w:World):Prop:=∀ (j:Nat) (u:Value),opCells[j]?=some u→w.cell? ⟨0,j,none⟩=some u
theorem OpsT.lt {w:World} (h:OpsT w):0 < w.heap.size:=by
 have h1:=h 0 (.int .i64 2) rfl
 apply Nat.pos_of_ne_zero
 intro e
 have h2:w.heap[0]?=none:=Array.getElem?_eq_none (by omega)
 simp [World.cell?,h2] at h1
theorem OpsT.keep {w w':World} (h:OpsT w) (hb:w'.heap[0]?=w.heap[0]?):OpsT w':=fun j u hu=>(World.cell?_of_block (w:=w) (a:=⟨0,j,none⟩) hb).trans (h j u hu)
theorem OpsT.up {w w':World} (h:OpsT w) (hb:Below w.heap.size w w'):OpsT w':=h.keep (hb.block 0 h.lt)
def MapI (b N:Nat) (f:Int→Bool) (w:World):Prop:=∃ m Dm,w.ownsMap (H:=Unit) Tryz.prog 3 (plainElem Tryz.prog 4) b m Dm ∧
 ∀ q,IntR q→Maps.has Dm (.int .i64 q)=true→0≤q∧q < (N:Int)∧∀ z,Dm.atKey (.int .i64 q) z=.lit (.bool (f q))
def MapP (b N:Nat) (f:Int→Int→Bool) (w:World):Prop:=∃ (M:List Pr) (m:Nat) (Dm:DataW Unit),w.ownsMap (H:=Unit) Tryz.prog 99 (plainElem Tryz.prog 4) b m Dm∧m≤M.length∧M.Nodup ∧
 (∀ p∈M,(0≤p.1∧p.1 < (N:Int))∧0≤p.2∧p.2 < (N:Int))∧(∀ p,IntP p→(Maps.has Dm (keyP p)=true↔p∈M))∧∀ p∈M,∀ z,Dm.atKey (keyP p) z=.lit (.bool (f p.1 p.2))
section
variable {b N:Nat} {w w':World}
theorem MapI.block {f:Int→Bool} (h:MapI b N f w) (hb:w'.heap[b]?=w.heap[b]?):MapI b N f w':=by
 obtain ⟨m,Dm,h1,h2⟩:=h
 exact ⟨m,Dm,owns_block h1 hb,h2⟩
theorem MapP.block {f:Int→Int→Bool} (h:MapP b N f w) (hb:w'.heap[b]?=w.heap[b]?):MapP b N f w':=by
 obtain ⟨M,m,Dm,h1,h2⟩:=h
 exact ⟨M,m,Dm,owns_block h1 hb,h2⟩
theorem MapI.lt {f:Int→Bool} (h:MapI b N f w):b < w.heap.size:=by
 obtain ⟨m,Dm,h1,_⟩:=h
 exact owns_lt h1
theorem MapP.lt {f:Int→Int→Bool} (h:MapP b N f w):b < w.heap.size:=by
 obtain ⟨M,m,Dm,h1,_⟩:=h
 exact owns_lt h1
theorem owns_nocell {H:Type} {P:Program} {k:TypeId} {R:Value→Option (DataW H×List MemPlace)} {m:Nat} {D:DataW H} (h:w.ownsMap P k R b m D) (o:Nat):w.cell? ⟨b,o,none⟩=none:=by
 obtain ⟨es,clock,h1,_⟩:=h
 simp [World.cell?,h1]
theorem MapI.nocell {f:Int→Bool} (h:MapI b N f w) (o:Nat):w.cell? ⟨b,o,none⟩=none:=by
 obtain ⟨m,Dm,h1,_⟩:=h
 exact owns_nocell h1 o
theorem MapP.nocell {f:Int→Int→Bool} (h:MapP b N f w) (o:Nat):w.cell? ⟨b,o,none⟩=none:=by
 obtain ⟨M,m,Dm,h1,_⟩:=h
 exact owns_nocell h1 o
end
theorem MapI.made (w:World) (N:Nat) (f:Int→Bool):MapI w.heap.size N f (w.alloc (.map #[] 0)):=
 ⟨0,.map [],World.ownsMap_made (H:=Unit) w Tryz.prog 3 (plainElem Tryz.prog 4),fun q _ h=>by simp [Maps.has] at h⟩
theorem MapP.made (w:World) (N:Nat) (f:Int→Int→Bool):MapP w.heap.size N f (w.alloc (.map #[] 0)):=
 ⟨[],0,.map [],World.ownsMap_made (H:=Unit) w Tryz.prog 99 (plainElem Tryz.prog 4),Nat.le_refl _,List.nodup_nil,(fun p hp=>by cases hp),(fun p _=>by simp [Maps.has]),(fun p h=>by cases h)⟩
def NoPtr (w w':World):Prop:=w.heap.size≤w'.heap.size∧∀ (b o:Nat) (v:Value),w.cell? ⟨b,o,none⟩=some v→(∀ p,v≠.pointer p)→w'.cell? ⟨b,o,none⟩=some v
theorem Rd.noptr {w w':World} {B n:Nat} {A:Option Addr} {xs:List Value} (h:Rd w B A n xs) (hk:NoPtr w w') (hx:∀ u∈xs,∀ p,u≠.pointer p):Rd w' B A n xs:=
 ⟨h.1,fun hn=>by
  obtain ⟨b,o,e,hb,hc⟩:=h.2 hn
  exact ⟨b,o,e,hb,fun j u hu=>hk.2 _ _ _ (hc j u hu) (hx u (List.mem_of_getElem? hu))⟩⟩
theorem Rel.noptr {w w':World} {B r:Nat} {ps:List Pr} {rg:Int} (h:Rel w B r ps rg) (hk:NoPtr w w'):Rel w' B r ps rg:=by
 obtain ⟨A1,nD,cD,D,A2,c2,L,h⟩:=h
 have hi:∀ (xs:List Int),∀ u∈i64s xs,∀ p,u≠.pointer p:=by
  intro xs u hu p e
  obtain ⟨x,_,rfl⟩:=List.mem_map.1 hu
  cases e
 exact ⟨A1,nD,cD,D,A2,c2,L,h.lt,hk.2 _ _ _ h.d0 (fun p e=>by cases e),hk.2 _ _ _ h.d1 (fun p e=>by cases e),hk.2 _ _ _ h.d2 (fun p e=>by cases e),h.nc,h.nc2,h.dec.noptr hk (hi _),
  h.above.noptr hk (by
   intro u hu p e
   obtain ⟨x,_,rfl⟩:=List.mem_map.1 hu
   cases e),fun x hx=>⟨(h.rows x hx).1.noptr hk (hi _),(h.rows x hx).2⟩,h.rel,h.few,h.ok⟩
theorem NoPtr.of_block {w w':World} {b:Nat} (hs:w.heap.size≤w'.heap.size) (hn:∀ o,w.cell? ⟨b,o,none⟩=none) (hk:∀ k,k < w.heap.size→k≠b→w'.heap[k]?=w.heap[k]?):NoPtr w w':=
 ⟨hs,fun c o v hv _=>by
  have hc:c < w.heap.size:=by
   apply Decidable.byContradiction
   intro hge
   have h2:w.heap[c]?=none:=Array.getElem?_eq_none (by omega)
   simp [World.cell?,h2] at hv
  have hne:c≠b:=fun e=>by subst e;rw [hn o] at hv;cases hv
  exact (World.cell?_of_block (w:=w) (a:=⟨c,o,none⟩) (hk c hc hne)).trans hv⟩
theorem NoPtr.of_set {w:World} {b o:Nat} {p:Option Addr} (h:w.cell? ⟨b,o,none⟩=some (.pointer p)) (q:Option Addr):NoPtr w (w.setCell ⟨b,o,none⟩ (.pointer q)):=
 ⟨by simp [World.setCell],fun c j v hv hp=>by
  have hne:(⟨b,o,none⟩:Addr)≠⟨c,j,none⟩:=fun e=>by rw [←e,h] at hv;injection hv with hv;exact hp _ hv.symm
  exact (World.cell?_setCell_other _ _ _ _ hne).trans hv⟩
structure CkW where
 B:Nat
 g:Nat
 m1:Nat
 m2:Nat
 m3:Nat
 x:BdW
def CkW.S (K:CkW):Nat→Prop:=fun k=>k=K.g∨k=K.m1∨k=K.m2∨k=K.m3
abbrev CkW.E (K:CkW):Env:=wE K.x
abbrev CkW.ptr (K:CkW):Value:=.pointer (some ⟨K.g,0,none⟩)
def RelC (K:CkW) (w:World):Prop:=w.cell? ⟨K.g,7,none⟩=some (.pointer none)∨∃ r,w.cell? ⟨K.g,7,none⟩=some (.pointer (some ⟨r,0,none⟩))∧Rel w w.heap.size r K.x.outl.L ((K.x.regions.L.length:Nat):Int)
structure Ck (K:CkW) (w:World):Prop where
 b0:0 < K.B
 hB:K.B≤K.g∧K.B≤K.m1∧K.B≤K.m2∧K.B≤K.m3
 lt:K.g < w.heap.size
 one:OneBd w K.B K.x
 ok:DeOk K.x.v
 few:K.x.types.n≤1000
 cells:∀ (j:Nat) (u:Value),(cBd K.x)[j]?=some u→w.cell? ⟨K.g,j,none⟩=some u
 c8:w.cell? ⟨K.g,8,none⟩=some (.map (some K.m1))
 c9:w.cell? ⟨K.g,9,none⟩=some (.map (some K.m2))
 c10:w.cell? ⟨K.g,10,none⟩=some (.map (some K.m3))
 fr:∀ j,w.frozen? ⟨K.g,j,none⟩=false
 rel:RelC K w
 cop:MapI K.m1 K.x.types.n (fun t=>tyCop (tys K.x.types.L) t) w
 subt:MapP K.m2 K.x.types.n (fun s t=>sub (out K.x.outl.L ((K.x.regions.L.length:Nat):Int)) (tys K.x.types.L) s t) w
 outl:MapP K.m3 K.x.regions.n (fun a b=>out K.x.outl.L ((K.x.regions.L.length:Nat):Int) a b) w
 m12:K.m1≠K.m2
 m13:K.m1≠K.m3
 m23:K.m2≠K.m3
 tab:OpsT w
theorem Ck.vb {K:CkW} {w:World} (h:Ck K w):VB w K.x:=⟨h.one.more (Nat.le_trans h.hB.1 (Nat.le_of_lt h.lt)),h.ok⟩
theorem Ck.bs {K:CkW} {w:World} (h:Ck K w):K.B≤w.heap.size:=Nat.le_trans h.hB.1 (Nat.le_of_lt h.lt)
theorem Ck.g1 {K:CkW} {w:World} (h:Ck K w):K.g≠K.m1:=fun e=>by have:=h.cop.nocell 8;rw [←e,h.c8] at this;cases this
theorem Ck.g2 {K:CkW} {w:World} (h:Ck K w):K.g≠K.m2:=fun e=>by have:=h.subt.nocell 8;rw [←e,h.c8] at this;cases this
theorem Ck.g3 {K:CkW} {w:World} (h:Ck K w):K.g≠K.m3:=fun e=>by have:=h.outl.nocell 8;rw [←e,h.c8] at this;cases this
theorem Ck.sLt {K:CkW} {w:World} (h:Ck K w):∀ k,K.S k→k < w.heap.size:=by
 rintro k (rfl | rfl | rfl | rfl)
 ·
  exact h.lt
 ·
  exact h.cop.lt
 ·
  exact h.subt.lt
 ·
  exact h.outl.lt
theorem Ck.sB {K:CkW} {w:World} (h:Ck K w):∀ k,K.S k→K.B≤k:=by
 rintro k (rfl | rfl | rfl | rfl)
 ·
  exact h.hB.1
 ·
  exact h.hB.2.1
 ·
  exact h.hB.2.2.1
 ·
  exact h.hB.2.2.2
theorem Ck.up {K:CkW} {w w':World} (h:Ck K w) (hb:Below w.heap.size w w'):Ck K w':=
 ⟨h.b0,h.hB,Nat.lt_of_lt_of_le h.lt hb.size,h.one.below (hb.mono h.bs),h.ok,h.few,fun j u hu=>(hb.cell (p:=⟨K.g,j,none⟩) h.lt).trans (h.cells j u hu),
  (hb.cell (p:=⟨K.g,8,none⟩) h.lt).trans h.c8,(hb.cell (p:=⟨K.g,9,none⟩) h.lt).trans h.c9,(hb.cell (p:=⟨K.g,10,none⟩) h.lt).trans h.c10,
  fun j=>(hb.frozen (p:=⟨K.g,j,none⟩) h.lt).trans (h.fr j),(by
   rcases h.rel with e | ⟨r,e,hr⟩
   ·
    exact .inl ((hb.cell (p:=⟨K.g,7,none⟩) h.lt).trans e)
   ·
    exact .inr ⟨r,(hb.cell (p:=⟨K.g,7,none⟩) h.lt).trans e,(hr.below hb).more hb.size⟩),
  h.cop.block (hb.block _ h.cop.lt),h.subt.block (hb.block _ h.subt.lt),h.outl.block (hb.block _ h.outl.lt),h.m12,h.m13,h.m23,h.tab.up hb⟩
theorem Ck.map {K:CkW} {w w':World} (h:Ck K w) {m:Nat} (hm:m=K.m1∨m=K.m2∨m=K.m3) (hg:w.grownBy w' (some m))
  (h1:m=K.m1→MapI K.m1 K.x.types.n (fun t=>tyCop (tys K.x.types.L) t) w')
  (h2:m=K.m2→MapP K.m2 K.x.types.n (fun s t=>sub (out K.x.outl.L ((K.x.regions.L.length:Nat):Int)) (tys K.x.types.L) s t) w')
  (h3:m=K.m3→MapP K.m3 K.x.regions.n (fun a b=>out K.x.outl.L ((K.x.regions.L.length:Nat):Int) a b) w'):Ck K w':=by
 have hgm:K.g≠m:=by rcases hm with rfl | rfl | rfl;exact h.g1;exact h.g2;exact h.g3
 have hBm:K.B≤m:=by rcases hm with rfl | rfl | rfl;exact h.hB.2.1;exact h.hB.2.2.1;exact h.hB.2.2.2
 have hno:∀ o,w.cell? ⟨m,o,none⟩=none:=by rcases hm with rfl | rfl | rfl;exact h.cop.nocell;exact h.subt.nocell;exact h.outl.nocell
 have hk:∀ k,k < w.heap.size→k≠m→w'.heap[k]?=w.heap[k]?:=fun k hk hn=>hg.block k hk (fun e=>hn (by injection e))
 have hc:∀ j,w'.cell? ⟨K.g,j,none⟩=w.cell? ⟨K.g,j,none⟩:=fun j=>World.cell?_of_block (w:=w) (a:=⟨K.g,j,none⟩) (hk _ h.lt hgm)
 have hf:∀ j,w'.frozen? ⟨K.g,j,none⟩=w.frozen? ⟨K.g,j,none⟩:=fun j=>World.frozen?_of_block (w:=w) (a:=⟨K.g,j,none⟩) (hk _ h.lt hgm)
 have hbl:Below K.B w w':=(Below.refl K.B w).grown hg h.bs (fun k e=>by injection e with e;omega)
 have hnp:NoPtr w w':=NoPtr.of_block hg.size hno hk
 refine ⟨h.b0,h.hB,Nat.lt_of_lt_of_le h.lt hg.size,h.one.below hbl,h.ok,h.few,fun j u hu=>(hc j).trans (h.cells j u hu),(hc 8).trans h.c8,(hc 9).trans h.c9,(hc 10).trans h.c10,fun j=>(hf j).trans (h.fr j),?_,?_,?_,?_,h.m12,h.m13,h.m23,h.tab.keep (hk 0 h.tab.lt (by have:=h.b0;omega))⟩
 ·
  rcases h.rel with e | ⟨r,e,hr⟩
  ·
   exact .inl ((hc 7).trans e)
  ·
   exact .inr ⟨r,(hc 7).trans e,(hr.noptr hnp).more hg.size⟩
 ·
  by_cases e:m=K.m1
  ·
   exact h1 e
  ·
   exact h.cop.block (hk _ h.cop.lt (fun e'=>e e'.symm))
 ·
  by_cases e:m=K.m2
  ·
   exact h2 e
  ·
   exact h.subt.block (hk _ h.subt.lt (fun e'=>e e'.symm))
 ·
  by_cases e:m=K.m3
  ·
   exact h3 e
  ·
   exact h.outl.block (hk _ h.outl.lt (fun e'=>e e'.symm))
theorem Ck.stored {K:CkW} {w:World} (h:Ck K w) {r:Nat} (hr:Rel w w.heap.size r K.x.outl.L ((K.x.regions.L.length:Nat):Int)):Ck K (w.setCell ⟨K.g,7,none⟩ (.pointer (some ⟨r,0,none⟩))):=by
 obtain ⟨p,hp⟩:∃ p,w.cell? ⟨K.g,7,none⟩=some (.pointer p):=by
  rcases h.rel with e | ⟨r,e,_⟩
  ·
   exact ⟨_,e⟩
  ·
   exact ⟨_,e⟩
 have hs:(w.setCell ⟨K.g,7,none⟩ (.pointer (some ⟨r,0,none⟩))).heap.size=w.heap.size:=by simp [World.setCell]
 have hk:∀ k,k≠K.g→(w.setCell ⟨K.g,7,none⟩ (.pointer (some ⟨r,0,none⟩))).heap[k]?=w.heap[k]?:=fun k hk=>Below.heap_setCell w _ _ k hk
 have ho:∀ (b j:Nat) (u:Value),(⟨K.g,7,none⟩:Addr)≠⟨b,j,none⟩→w.cell? ⟨b,j,none⟩=some u→(w.setCell ⟨K.g,7,none⟩ (.pointer (some ⟨r,0,none⟩))).cell? ⟨b,j,none⟩=some u:=fun b j u hn hu=>(World.cell?_setCell_other _ _ _ _ hn).trans hu
 refine ⟨h.b0,h.hB,hs.symm ▸ h.lt,h.one.below ((Below.refl K.B w).setCell (p:=⟨K.g,7,none⟩) h.hB.1 _),h.ok,h.few,fun j u hu=>ho _ _ _ (fun e=>?_) (h.cells j u hu),ho _ _ _ (fun e=>by injection e with _ e;cases e) h.c8,ho _ _ _ (fun e=>by injection e with _ e;cases e) h.c9,ho _ _ _ (fun e=>by injection e with _ e;cases e) h.c10,fun j=>(World.frozen?_setCell _ _ _ _).trans (h.fr j),.inr ⟨r,World.cell?_setCell_same _ _ _ hp,?_⟩,h.cop.block (hk _ (Ne.symm h.g1)),h.subt.block (hk _ (Ne.symm h.g2)),h.outl.block (hk _ (Ne.symm h.g3)),h.m12,h.m13,h.m23,h.tab.keep (hk 0 (by have:=h.b0;have:=h.hB.1;omega))⟩
 ·
  injection e with _ e
  have hj:j < (cBd K.x).length:=(List.getElem?_eq_some_iff.1 hu).1
  rw [cBd_len] at hj
  omega
 ·
  rw [hs]
  exact hr.noptr (NoPtr.of_set hp _)
structure Wy (K:CkW) (w w':World):Prop where
 turn:Turn K.S w w'
 ck:Ck K w'
theorem Wy.refl {K:CkW} {w:World} (h:Ck K w):Wy K w w:=⟨Turn.refl _ _,h⟩
theorem Wy.trans {K:CkW} {w w' w'':World} (h:Wy K w w') (k:Wy K w' w''):Wy K w w'':=⟨h.turn.trans k.turn,k.ck⟩
theorem Wy.up {K:CkW} {w w' w'':World} (h:Wy K w w') (hb:Below w'.heap.size w' w''):Wy K w w'':=⟨h.turn.trans (Turn.of_below hb),h.ck.up hb⟩
theorem Wy.new {K:CkW} {w w':World} (h:Ck K w) (hb:Below w.heap.size w w'):Wy K w w':=⟨Turn.of_below hb,h.up hb⟩
theorem Wy.low {K:CkW} {w w':World} (h0:Ck K w) (h:Wy K w w'):Below K.B w w':=h.turn.below h0.bs h0.sB
theorem Wy.box {K:CkW} {w w':World} {cs:List Value} {T:TypeId} (h0:Ck K w) (h:Wy K (w.alloc (.cells cs.toArray T)) w'):∀ (j:Nat) (u:Value),cs[j]?=some u→w'.cell? ⟨w.heap.size,j,none⟩=some u:=fun j u hu=>
 (h.turn.cell (p:=⟨w.heap.size,j,none⟩) (by simp) (fun hs=>Nat.lt_irrefl _ (h0.sLt _ hs))).trans ((cell_of_heap (heap_alloc_new w _) j).trans (by rw [List.getElem?_toArray];exact hu))
theorem wy4 {K:CkW} {w w':World} {a0 a1 a2 a3:Value} {T:TypeId} (h0:Ck K w) (h:Wy K (w.alloc (.cells #[a0,a1,a2,a3] T)) w'):w'.cell? ⟨w.heap.size,0,none⟩=some a0∧w'.cell? ⟨w.heap.size,1,none⟩=some a1∧w'.cell? ⟨w.heap.size,2,none⟩=some a2∧w'.cell? ⟨w.heap.size,3,none⟩=some a3:=by
 have c:=Wy.box (cs:=[a0,a1,a2,a3]) h0 h
 exact ⟨c 0 _ rfl,c 1 _ rfl,c 2 _ rfl,c 3 _ rfl⟩
theorem wy6 {K:CkW} {w w':World} {a0 a1 a2 a3 a4 a5:Value} {T:TypeId} (h0:Ck K w) (h:Wy K (w.alloc (.cells #[a0,a1,a2,a3,a4,a5] T)) w'):w'.cell? ⟨w.heap.size,0,none⟩=some a0∧w'.cell? ⟨w.heap.size,1,none⟩=some a1∧w'.cell? ⟨w.heap.size,2,none⟩=some a2∧w'.cell? ⟨w.heap.size,3,none⟩=some a3∧w'.cell? ⟨w.heap.size,4,none⟩=some a4∧w'.cell? ⟨w.heap.size,5,none⟩=some a5:=by
 have c:=Wy.box (cs:=[a0,a1,a2,a3,a4,a5]) h0 h
 exact ⟨c 0 _ rfl,c 1 _ rfl,c 2 _ rfl,c 3 _ rfl,c 4 _ rfl,c 5 _ rfl⟩
theorem wy7 {K:CkW} {w w':World} {a0 a1 a2 a3 a4 a5 a6:Value} {T:TypeId} (h0:Ck K w) (h:Wy K (w.alloc (.cells #[a0,a1,a2,a3,a4,a5,a6] T)) w'):w'.cell? ⟨w.heap.size,0,none⟩=some a0∧w'.cell? ⟨w.heap.size,1,none⟩=some a1∧w'.cell? ⟨w.heap.size,2,none⟩=some a2∧w'.cell? ⟨w.heap.size,3,none⟩=some a3∧w'.cell? ⟨w.heap.size,4,none⟩=some a4∧w'.cell? ⟨w.heap.size,5,none⟩=some a5∧w'.cell? ⟨w.heap.size,6,none⟩=some a6:=by
 have c:=Wy.box (cs:=[a0,a1,a2,a3,a4,a5,a6]) h0 h
 exact ⟨c 0 _ rfl,c 1 _ rfl,c 2 _ rfl,c 3 _ rfl,c 4 _ rfl,c 5 _ rfl,c 6 _ rfl⟩
theorem wy11 {K:CkW} {w w':World} {a0 a1 a2 a3 a4 a5 a6 a7 a8 a9 a10:Value} {T:TypeId} (h0:Ck K w) (h:Wy K (w.alloc (.cells #[a0,a1,a2,a3,a4,a5,a6,a7,a8,a9,a10] T)) w'):w'.cell? ⟨w.heap.size,0,none⟩=some a0∧w'.cell? ⟨w.heap.size,1,none⟩=some a1∧w'.cell? ⟨w.heap.size,2,none⟩=some a2∧w'.cell? ⟨w.heap.size,3,none⟩=some a3∧w'.cell? ⟨w.heap.size,4,none⟩=some a4∧w'.cell? ⟨w.heap.size,5,none⟩=some a5∧w'.cell? ⟨w.heap.size,6,none⟩=some a6∧w'.cell? ⟨w.heap.size,7,none⟩=some a7∧w'.cell? ⟨w.heap.size,8,none⟩=some a8∧w'.cell? ⟨w.heap.size,9,none⟩=some a9∧w'.cell? ⟨w.heap.size,10,none⟩=some a10:=by
 have c:=Wy.box (cs:=[a0,a1,a2,a3,a4,a5,a6,a7,a8,a9,a10]) h0 h
 exact ⟨c 0 _ rfl,c 1 _ rfl,c 2 _ rfl,c 3 _ rfl,c 4 _ rfl,c 5 _ rfl,c 6 _ rfl,c 7 _ rfl,c 8 _ rfl,c 9 _ rfl,c 10 _ rfl⟩
theorem Wy.drew {K:CkW} {w w':World} (h:Wy K w w'):Wy K w w'.drew:=⟨h.turn.drew,h.ck.up (Below.refl _ _).drew⟩
end Go.Proofs.YtfgacmgjpikgaaaGreatDoor
