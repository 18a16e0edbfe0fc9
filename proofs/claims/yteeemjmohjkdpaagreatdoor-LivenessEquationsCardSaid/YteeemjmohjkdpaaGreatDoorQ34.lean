/- Part 35 of the contracts and their mathematics. -/
import Derived.Test.YteeemjmohjkdpaaGreatDoorQ10
import Derived.Test.YteeemjmohjkdpaaGreatDoorQ12
import Derived.Test.YteeemjmohjkdpaaGreatDoorQ29
import Derived.Test.YteeemjmohjkdpaaGreatDoorQ31
import Derived.Test.YteeemjmohjkdpaaGreatDoorQ33
set_option linter.unusedVariables false
set_option linter.unusedSectionVars false
set_option linter.unusedSimpArgs false
set_option maxRecDepth 100000
set_option maxHeartbeats 8000000
namespace Go.Proofs.YteeemjmohjkdpaaGreatDoor
open Go.RowKit
theorem IndexI12_any (A:Option Addr) (n c:Nat) (xs:List Int) (x:Int) (w:World) (B:Nat) (hx:Rd w B A n (i64s xs)) (hn:n≤maxLen) :
  Calls Tryz.prog 56 #[.slice A n c,.int .i64 x] w fun e w'=>(∃ v:Int,e=.returned (.int .i64 v)∧(0≤v↔x∈xs))∧Below w.heap.size w w':=by
 have HX:=hide hx
 have HL:=hide hx.ilen
 unfold maxLen at hn
 clear hx
 go_enter Tryz.func56,Tryz.ntmps56
 go_wp2
 go_loopw [8] (fun i wr=>∃ j:Nat,i=.int .i64 (j:Int)∧j≤n∧Hid (∀ t y,t < j→xs[t]?=some y→y≠x)∧Hid (Below w.heap.size w wr)∧Hid (∀ p,wr.cell? p=w.cell? p)) (fun i _=>n - (intOf i).toNat)
 case atStart=>exact ⟨0,rfl,Nat.zero_le _,hide fun t y h=>absurd h (Nat.not_lt_zero _),hide (Below.refl _ _),hide fun _=>rfl⟩
 case round=>
  obtain ⟨j,rfl,hj,HT,HB,HC⟩:=hrel
  by_cases hlt:j < n
  ·
   obtain ⟨a,ha⟩:∃ a,xs[j]?=some a:=⟨_,List.getElem?_eq_getElem (by have:=HL.out;omega)⟩
   have hlt':(j:Int) < (n:Int):=by omega
   have hj0:(0:Int)≤(j:Int):=by omega
   obtain ⟨b,o,rfl,hbB,c0⟩:=HX.out.int ha
   rw [←HC.out] at c0
   by_cases hax:x=a
   ·
    subst hax
    have HF:=hide (List.mem_of_getElem? ha)
    clear ha
    go_wp2
    go_ret
    exact ⟨⟨_,rfl,fun _=>HF.out,fun _=>by omega⟩,HB.out⟩
   ·
    have t1:(x == a)=false:=by simpa using hax
    have HN:=hide (show ∀ t y,t < j+1→xs[t]?=some y→y≠x from fun t y ht hy=>by
     rcases Nat.lt_or_ge t j with h | h
     ·
      exact HT.out t y h hy
     ·
      obtain rfl:j=t:=by omega
      rw [ha] at hy
      injection hy with hy
      exact fun e=>hax (hy.trans e).symm)
    clear ha hax
    go_wp2
    go_roundw
    case rel=>exact ⟨j+1,by go_num,by omega,HN,HB,HC⟩
    case measure=>simp [intOf];omega
  ·
   obtain rfl:j=n:=by omega
   have HF:=hide (show ¬x∈xs from fun h=>by
    obtain ⟨t,ht⟩:=List.getElem?_of_mem h
    exact HT.out t x (by have:=(List.getElem?_eq_some_iff.1 ht).1;have:=HL.out;omega) ht rfl)
   go_wp2
   go_ret
   exact ⟨⟨-1,rfl,fun h=>absurd h (by decide),fun h=>absurd h HF.out⟩,HB.out⟩
theorem ContI_is {A:Option Addr} {n c:Nat} {xs:List Int} {x:Int} {v:Bool} (hv:v=true↔x∈xs) (w:World) {B:Nat} (hx:Rd w B A n (i64s xs)) (hn:n≤maxLen) :
  Calls Tryz.prog 26 #[.slice A n c,.int .i64 x] w fun e w'=>e=.returned (.bool v)∧Below w.heap.size w w':=by
 have HI:=hide (IndexI12_any A n c xs x w B hx hn)
 have HV:=hide hv
 clear hx hn hv
 go_enter Tryz.func26,Tryz.ntmps26
 go_wp2_with fail
 refine HI.out.mono ?_
 rintro e w1 ⟨⟨u,rfl,hu⟩,hb⟩
 have HB:=hide hb
 have HF:=hide (show decide (0≤u)=v from by rw [Bool.eq_iff_iff,decide_eq_true_iff,HV.out];exact hu)
 clear hb hu
 go_wp2
 go_ret
 exact ⟨congrArg (fun v=>Ending.returned (.bool v)) HF.out,HB.out⟩
theorem eq12 {l:List BkV} {m:Int} {p:Nat} {D:Option Int} (hD:defI l (p:Int)=D) {d:Int} {b uv av:Bool} (hdb:vDef D=.tuple #[.int .i64 d,.bool b]) (hu:uv=true↔m∈usesI l (p:Int)) (ha:av=true↔∃ q∈nxN l (p:Int),LiveP l m q):lvB l m p=(uv || (av && (!b || (d != m)))):=by
 rw [Bool.eq_iff_iff,lvB_iff,live_eq,hD,Bool.or_eq_true,Bool.and_eq_true,Bool.or_eq_true,hu,ha]
 cases D with
 | none=>
  have e:(0:Int)=d∧false=b:=by
   unfold vDef at hdb
   injection hdb with hdb
   simp at hdb
   exact ⟨hdb.1,hdb.2.symm⟩
  obtain ⟨_,rfl⟩:=e
  simp
 | some z=>
  have e:z=d∧true=b:=by
   unfold vDef at hdb
   injection hdb with hdb
   simp at hdb
   exact ⟨hdb.1,hdb.2.symm⟩
  obtain ⟨rfl,rfl⟩:=e
  simp
  constructor
  ·
   rintro (h | ⟨h1,h2⟩)
   ·
    exact .inl h
   ·
    exact .inr ⟨h2,h1⟩
  ·
   rintro (h | ⟨h1,h2⟩)
   ·
    exact .inl h
   ·
    exact .inr ⟨h2,h1⟩
noncomputable def aft12 (l:List BkV) (m:Int) (K:List Int) (k:Nat):Bool:=(K.take k).any fun q=>lvB l m q.toNat
theorem aft12_up {l:List BkV} {m:Int} {K:List Int} {k:Nat} {q:Int} (h:K[k]?=some q):aft12 l m K (k+1)=(aft12 l m K k || lvB l m q.toNat):=by
 unfold aft12
 rw [List.take_add_one,h,List.any_append]
 simp
theorem aft12_all {l:List BkV} {m:Int} {p:Nat} {K:List Int} {n:Nat} (hK:nextI l (p:Int)=K) (hn:K.length=n):aft12 l m K n=true↔∃ q∈nxN l (p:Int),LiveP l m q:=by
 unfold aft12
 rw [List.take_of_length_le (by omega),List.any_eq_true,← hK,nextI_cast]
 unfold castL
 constructor
 ·
  rintro ⟨z,hz,h⟩
  obtain ⟨q,hq,rfl⟩:=List.mem_map.1 hz
  exact ⟨q,hq,lvB_iff.1 (by simpa using h)⟩
 ·
  rintro ⟨q,hq,h⟩
  exact ⟨(q:Int),List.mem_map.2 ⟨q,hq,rfl⟩,by simpa using lvB_iff.2 h⟩
theorem next12_in {l:List BkV} {p:Nat} {q:Int} (h:q∈nextI l (p:Int)):0≤q∧q.toNat < ptCount l:=by
 rw [nextI_cast] at h
 unfold castL at h
 obtain ⟨k,hk,rfl⟩:=List.mem_map.1 h
 have:=nxN_lt k hk
 exact ⟨by omega,by simpa using this⟩
theorem W12Equations (x0:BdW) (w:World) (h0:OneBd w w.heap.size x0) (s0:FitBd x0) (hT:Pre12 w) :
  Calls Tryz.prog 6 #[aggBd x0] w fun e w'=>e=.returned (.bool true)∧Below w.heap.size w w':=by
 have HAL:=hide fun (w':World) (y:Below w.heap.size w w')=>alive12_any w' (hT.up y)
 have HSK:=hide fun (w':World) (y:Below w.heap.size w w')=>Skip12_any x0 w' (h0.up y) s0
 obtain ⟨LL,hLL⟩:∃ l,locsI x0.v.blocks x0.locals.n=l:=⟨_,rfl⟩
 obtain ⟨BL,hBL⟩:∃ l,x0.v.blocks=l:=⟨_,rfl⟩
 obtain ⟨C,hC⟩:∃ n,ptCount BL=n:=⟨_,rfl⟩
 have HN:=hide fun (h:Ok12 x0)=>(show C≤60∧x0.locals.n≤20 from ⟨hC ▸ hBL ▸ h.sm.cnt,h.sm.nl⟩)
 have HCR:=hide fun (h:Ok12 x0) (w':World) (y:Below w.heap.size w w')=>hLL ▸ CRows hT h0 h w' y
 have HCO:=hide fun (h:Ok12 x0) (w':World) (y:Below w.heap.size w w')=>RCount_is (m:=C) (h0.up y) (by rw [hBL];exact hC) (Nat.le_trans (show C≤60 from hC ▸ hBL ▸ h.sm.cnt) (by decide))
 have HUS:=hide fun (h:Ok12 x0) (w':World) (p:Nat) (hp:IntR (p:Int)) (U:List Int) (hU:usesI BL (p:Int)=U) (y:Below w.heap.size w w')=>(show Calls Tryz.prog 15 #[aggBd x0,.int .i64 (p:Int)] w' (IntsOut9 w' U) from hU ▸ hBL ▸ sm12uses h0 h.sm hp w' y)
 have HDE:=hide fun (h:Ok12 x0) (w':World) (p:Nat) (hp:IntR (p:Int)) (D:Option Int) (hD:defI BL (p:Int)=D) (y:Below w.heap.size w w')=>(show Calls Tryz.prog 12 #[aggBd x0,.int .i64 (p:Int)] w' fun e w2=>e=.returned (vDef D)∧Below w'.heap.size w' w2 from hD ▸ hBL ▸ sm12defs h0 h.sm hp w' y)
 have HNX:=hide fun (h:Ok12 x0) (w':World) (p:Nat) (hp:IntR (p:Int)) (K:List Int) (hK:nextI BL (p:Int)=K) (y:Below w.heap.size w w')=>(show Calls Tryz.prog 25 #[aggBd x0,.int .i64 (p:Int)] w' (IntsOut9 w' K) from hK ▸ hBL ▸ RNext_any x0 (p:Int) w' (h0.up y) (Nat.le_trans h.sm.cnt (by decide)) hp)
 have HQ:=hide (show ∀ q,q < C→LL[q]?=some (lvI BL q x0.locals.n) from fun q hq=>by
  rw [←hLL,hBL]
  unfold locsI
  exact lvLL_at _ _ (by rw [hC];exact hq))
 have HLC:=hide (show LL.length=C from by rw [←hLL,hBL];unfold locsI;rw [lvLL_len];exact hC)
 have HNI:=hide fun (p:Nat) (q:Int) (h:q∈nextI BL (p:Int))=>(show 0≤q∧q.toNat < C from hC ▸ next12_in h)
 have HNL:=hide fun (p:Nat) (K:List Int) (hK:nextI BL (p:Int)=K)=>(show K.length≤C from by rw [←hK,nextI_cast];unfold castL;rw [List.length_map,← hC];exact nxN_len _ _)
 clear hLL hC hBL
 obtain ⟨nm,⟨rA,rn,rc,rL⟩,⟨oA,on,oc,oL⟩,⟨tA,tm,tc,tL⟩,⟨lA,ln,lc,lL⟩,ar,⟨bA,bn,bc,bL⟩⟩:=x0
 have HQ:=hide (show ∀ q,q < C→LL[q]?=some (lvI BL q ln) from HQ.out)
 have HN:=hide fun h=>(show C≤60∧ln≤20 from HN.out h)
 have HM:=hide fun (q m:Nat) (hm:m < ln) (v:Bool) (hv:lvB BL (m:Int) q=v)=>(show v=true↔(m:Int)∈lvI BL q ln from by
  rw [←hv,lvB_iff,lvI_mem]
  exact ⟨fun h=>⟨⟨by omega,by omega⟩,h⟩,fun h=>h.2⟩)
 have HB:=hide (below1 w (.cells #[.string nm,.slice rA rn rc,.slice oA on oc,.slice tA tm tc,.slice lA ln lc,.int .i64 ar,.slice bA bn bc] 28))
 have hcx:=hide fun (w':World) (y:Below (w.alloc (.cells #[.string nm,.slice rA rn rc,.slice oA on oc,.slice tA tm tc,.slice lA ln lc,.int .i64 ar,.slice bA bn bc] 28)).heap.size (w.alloc (.cells #[.string nm,.slice rA rn rc,.slice oA on oc,.slice tA tm tc,.slice lA ln lc,.int .i64 ar,.slice bA bn bc] 28)) w')=>cells7 y
 clear h0 s0 hT
 go_enter Tryz.func6,Tryz.ntmps6
 go_wp2_with fail
 refine (HSK.out _ HB.out).mono ?_
 rintro e1 w1 ⟨h1,hb1⟩
 have HW1:=hide hb1
 have HC1:=hide (HB.out.trans (hb1.mono HB.out.size))
 clear hb1
 rcases h1 with rfl | ⟨rfl,hok⟩
 case inl=>
  go_wp2_with fail
  refine (HAL.out _ HC1.out).mono ?_
  rintro e9 w9 ⟨rfl,hb9⟩
  have HC9:=hide (HC1.out.trans (hb9.mono HC1.out.size))
  clear hb9
  go_wp2
  go_ret
  exact ⟨rfl,HC9.out⟩
 have HOK:=hide hok
 clear hok
 have HCR2:=hide (HCR.out HOK.out)
 have HCO2:=hide (HCO.out HOK.out)
 have HUS2:=hide (HUS.out HOK.out)
 have HDE2:=hide (HDE.out HOK.out)
 have HNX2:=hide (HNX.out HOK.out)
 obtain ⟨hC60,hl20⟩:=HN.out HOK.out
 clear HCR HCO HUS HDE HNX HN HOK HSK
 obtain ⟨x0,x1,x2,x3,x4,x5,x6⟩:=hcx.out _ HW1.out
 go_wp2_with fail
 refine (HCR2.out _ HC1.out).mono ?_
 rintro e2 w2 ⟨A,c,S,rfl,hrw,hb0⟩
 have HR:=hide hrw
 have HW2:=hide (HW1.out.trans (hb0.mono HW1.out.size))
 have HC2:=hide (HC1.out.trans (hb0.mono HC1.out.size))
 rw [HLC.out]
 have hee:((C:Int) != (C:Int))=false:=by simp
 clear hrw hb0 x0 x1 x2 x3 x4 x5 x6
 obtain ⟨x0,x1,x2,x3,x4,x5,x6⟩:=hcx.out _ HW2.out
 go_wp2_with fail
 refine (HCO2.out _ HC2.out).mono ?_
 rintro e3 w3 ⟨rfl,hb0⟩
 have HW3:=hide (HW2.out.trans (hb0.mono HW2.out.size))
 have HC3:=hide (HC2.out.trans (hb0.mono HC2.out.size))
 have HR3:=hide (HR.out.below hb0)
 clear hb0 x0 x1 x2 x3 x4 x5 x6 HR
 obtain ⟨x0,x1,x2,x3,x4,x5,x6⟩:=hcx.out _ HW3.out
 have HB0:=hide (Below.refl w3.heap.size w3)
 have HUP:=hide fun (w':World) (y:Below w3.heap.size w3 w')=>HC3.out.trans (y.mono HC3.out.size)
 have HBX:=hide fun (w':World) (y:Below w3.heap.size w3 w')=>hcx.out _ (HW3.out.trans (y.mono HW3.out.size))
 have HRO:=hide fun (w':World) (y:Below w3.heap.size w3 w') (q:Nat) (hq:q < C)=>(show ∃ g z B d,A=some ⟨g,z,none⟩∧w'.cell? ⟨g,z+q,none⟩=some (.slice B (lvI BL q ln).length d)∧Cells w' w3.heap.size 1 cInt B (lvI BL q ln).length (lvI BL q ln) from by
  obtain ⟨g,z,B,d,h1,h2,h3,h4⟩:=HR3.out.at_ (HQ.out q hq)
  exact ⟨g,z,B,d,h1,(y.cell (p:=⟨g,z+q,none⟩) h2).trans h3,(Cells.of_own cInt_len (by decide) h4).below y⟩)
 go_wp2
 go_loopw [25] (fun i wr=>∃ j:Nat,i=.int .i64 (j:Int)∧j≤C∧Hid (Below w3.heap.size w3 wr)) (fun i _=>C - (intOf i).toNat)
 case atStart=>exact ⟨0,rfl,Nat.zero_le _,HB0⟩
 case round=>
  obtain ⟨j,rfl,hj,HY⟩:=hrel
  generalize wr=wq at *
  clear x0 x1 x2 x3 x4 x5 x6
  by_cases hlt:j < C
  ·
   have hlt':(j:Int) < (C:Int):=by omega
   have hj0:(0:Int)≤(j:Int):=by omega
   have hIR:IntR (j:Int):=⟨by omega,by omega⟩
   obtain ⟨D,hD⟩:∃ D,defI BL (j:Int)=D:=⟨_,rfl⟩
   obtain ⟨U,hU⟩:∃ D,usesI BL (j:Int)=D:=⟨_,rfl⟩
   obtain ⟨K,hK⟩:∃ D,nextI BL (j:Int)=D:=⟨_,rfl⟩
   obtain ⟨kn,hkn⟩:∃ n,K.length=n:=⟨_,rfl⟩
   have hkC:kn≤C:=hkn ▸ HNL.out j K hK
   obtain ⟨d,b,hdb⟩:∃ d b,vDef D=.tuple #[.int .i64 d,.bool b]:=by
    cases D with
    | none=>exact ⟨_,_,rfl⟩
    | some z=>exact ⟨_,_,rfl⟩
   have HD1:=hide fun (w':World) (y:Below w3.heap.size w3 w')=>hdb ▸ HDE2.out w' j hIR D hD (HUP.out w' y)
   have HU1:=hide fun (w':World) (y:Below w3.heap.size w3 w')=>HUS2.out w' j hIR U hU (HUP.out w' y)
   have HN1:=hide fun (w':World) (y:Below w3.heap.size w3 w')=>HNX2.out w' j hIR K hK (HUP.out w' y)
   have HEQ:=hide fun (m:Nat) (uv av ne:Bool) (hu:uv=true↔(m:Int)∈U) (ha:aft12 BL (m:Int) K kn=av) (hne:(d != (m:Int))=ne)=>(show lvB BL (m:Int) j=(uv || (av && (!b || ne))) from hne ▸ eq12 hD hdb (hU ▸ hu) (ha ▸ aft12_all hK hkn))
   have HKI:=hide fun (k:Nat) (q:Int) (h:K[k]?=some q)=>HNI.out j q (hK ▸ List.mem_of_getElem? h)
   have HKN:=hide hkn
   clear hD hU hK hkn hdb hIR
   obtain ⟨x0,x1,x2,x3,x4,x5,x6⟩:=HBX.out _ HY.out
   go_wp2_with fail
   refine (HD1.out _ HY.out).mono ?_
   rintro e4 w4 ⟨rfl,hb0⟩
   have HY4:=hide (HY.out.trans (hb0.mono HY.out.size))
   clear hb0 x0 x1 x2 x3 x4 x5 x6
   obtain ⟨x0,x1,x2,x3,x4,x5,x6⟩:=HBX.out _ HY4.out
   go_wp2
   go_loopw [37] (fun i wr=>∃ m:Nat,i=.int .i64 (m:Int)∧m≤ln∧Hid (Below w3.heap.size w3 wr)) (fun i _=>ln - (intOf i).toNat)
   case atStart=>exact ⟨0,rfl,Nat.zero_le _,HY4⟩
   case round=>
    obtain ⟨m,rfl,hm,HZ⟩:=hrel
    generalize wr=wv at *
    clear x0 x1 x2 x3 x4 x5 x6
    by_cases hlm:m < ln
    ·
     have hlm':(m:Int) < (ln:Int):=by omega
     have hm0:(0:Int)≤(m:Int):=by omega
     obtain ⟨x0,x1,x2,x3,x4,x5,x6⟩:=HBX.out _ HZ.out
     go_wp2_with fail
     refine (HN1.out _ HZ.out).mono ?_
     rintro e5 w5 ⟨A7,c7,rfl,ho7,hb0⟩
     have HZ5:=hide (HZ.out.trans (hb0.mono HZ.out.size))
     rw [HKN.out] at ho7 ⊢
     have HKC:=hide fun (w':World) (y:Below w5.heap.size w5 w')=>(show Cells w' w5.heap.size 1 cInt A7 kn K from (Cells.of_own cInt_len (by decide) ho7).below y)
     have HB5:=hide (Below.refl w5.heap.size w5)
     clear hb0 ho7 x0 x1 x2 x3 x4 x5 x6
     go_wp2
     go_loopw [8,44] (fun v i wr=>∃ k:Nat,i=.int .i64 (k:Int)∧v=.bool (aft12 BL (m:Int) K k)∧k≤kn∧Hid (Below w5.heap.size w5 wr)) (fun _ i _=>kn - (intOf i).toNat)
     case atStart=>exact ⟨0,rfl,rfl,Nat.zero_le _,HB5⟩
     case round=>
      obtain ⟨k,rfl,rfl,hk,HV⟩:=hrel
      obtain ⟨av,hav⟩:∃ v,aft12 BL (m:Int) K k=v:=⟨_,rfl⟩
      have HAV:=hide hav
      rw [hav]
      clear hav
      have HV3:=hide (HZ5.out.trans (HV.out.mono HZ5.out.size))
      by_cases hlk:k < kn
      ·
       have hlk':(k:Int) < (kn:Int):=by omega
       have hk0:(0:Int)≤(k:Int):=by omega
       obtain ⟨q,hq⟩:∃ q,K[k]?=some q:=⟨_,List.getElem?_eq_getElem (by rw [HKN.out];exact hlk)⟩
       obtain ⟨hq0,hq1⟩:=HKI.out k q hq
       obtain ⟨t,rfl⟩:∃ t:Nat,q=(t:Int):=⟨q.toNat,by omega⟩
       have htC:(t:Int) < (C:Int):=by omega
       have ht0:(0:Int)≤(t:Int):=by omega
       have HUPK:=hide (aft12_up (l:=BL) (m:=(m:Int)) hq)
       obtain ⟨g,z,hgA,hgB,hgc⟩:=(HKC.out _ HV.out).at_ hq
       subst hgA
       have k0:=hgc 0 _ rfl
       simp only [Nat.add_zero,Nat.mul_one] at k0
       obtain ⟨g2,z2,B2,d2,hA2,hcl,hce⟩:=HRO.out _ HV3.out t (by omega)
       subst hA2
       obtain ⟨lv,hlv⟩:∃ v,lvB BL (m:Int) t=v:=⟨_,rfl⟩
       obtain ⟨n2,hn2⟩:∃ n,(lvI BL t ln).length=n:=⟨_,rfl⟩
       have hmx:n2≤maxLen:=by
        have h1:=lvI_len BL t ln
        unfold maxLen
        omega
       rw [hn2] at hcl hce
       have HCT:=hide (ContI_is (HM.out t m hlm lv hlv) wr (c:=d2) (rd11 hce) hmx)
       have HUQ:=hide (show aft12 BL (m:Int) K (k+1)=(av || lv) from by rw [HUPK.out,HAV.out,Int.toNat_natCast,hlv])
       clear hq hq0 hq1 hgB hgc hce hlv hn2 hmx
       cases av
       ·
        go_wp2_with fail
        refine HCT.out.mono ?_
        rintro e6 w6 ⟨rfl,hb0⟩
        have HV6:=hide (HV.out.trans (hb0.mono HV.out.size))
        clear hb0 k0 hcl
        go_wp2
        go_roundw
        case rel=>exact ⟨k+1,by go_num,by rw [HUQ.out];simp,by omega,HV6⟩
        case measure=>simp [intOf];omega
       ·
        go_wp2
        go_roundw
        case rel=>exact ⟨k+1,by go_num,by rw [HUQ.out];simp,by omega,HV⟩
        case measure=>simp [intOf];omega
      ·
       have hlk':¬(k:Int) < (kn:Int):=by omega
       obtain rfl:kn=k:=by omega
       obtain ⟨uv,huv⟩:∃ v,decide ((m:Int)∈U)=v:=⟨_,rfl⟩
       have HUV:=hide (show uv=true↔(m:Int)∈U from by rw [←huv,decide_eq_true_iff])
       obtain ⟨ne,hne⟩:∃ v,(d != (m:Int))=v:=⟨_,rfl⟩
       have HE:=hide (HEQ.out m uv av ne HUV.out HAV.out hne)
       clear huv
       obtain ⟨x0,x1,x2,x3,x4,x5,x6⟩:=HBX.out _ HV3.out
       go_wp2_with fail
       refine (HU1.out _ HV3.out).mono ?_
       rintro e6 w6 ⟨A8,c8,rfl,ho8,hb0⟩
       have HV6:=hide (HV3.out.trans (hb0.mono HV3.out.size))
       obtain ⟨un,hun⟩:∃ n,U.length=n:=⟨_,rfl⟩
       rw [hun] at ho8 ⊢
       have HCU:=hide (ContI_is HUV.out w6 (c:=c8) (rd11 (Cells.of_own cInt_len (by decide) ho8)) (own_max11 ho8))
       clear hb0 ho8 hun x0 x1 x2 x3 x4 x5 x6
       go_wp2_with fail
       refine HCU.out.mono ?_
       rintro e7 w7 ⟨rfl,hb0⟩
       have HV7:=hide (HV6.out.trans (hb0.mono HV6.out.size))
       clear hb0
       obtain ⟨g2,z2,B2,d2,hA2,hcl,hce⟩:=HRO.out _ HV7.out j hlt
       subst hA2
       obtain ⟨n2,hn2⟩:∃ n,(lvI BL j ln).length=n:=⟨_,rfl⟩
       have hmx:n2≤maxLen:=by
        have h1:=lvI_len BL j ln
        unfold maxLen
        omega
       rw [hn2] at hcl hce
       obtain ⟨W,hW⟩:∃ W,lvB BL (m:Int) j=W:=⟨_,rfl⟩
       have HCT:=hide (ContI_is (HM.out j m hlm W hW) w7 (c:=d2) (rd11 hce) hmx)
       have HE:=hide (hW.symm.trans HE.out)
       clear hce hn2 hmx hW
       have hbb:(W != W)=false:=by simp
       cases uv <;> cases av <;> cases b <;> cases ne
       all_goals
        have hWv:=HE.out
        simp only [Bool.true_or,Bool.false_or,Bool.true_and,Bool.false_and,Bool.not_true,Bool.not_false] at hWv
        subst hWv
        go_wp2_with fail
        refine HCT.out.mono ?_
        rintro e8 w8 ⟨rfl,hb0⟩
        have HV8:=hide (HV7.out.trans (hb0.mono HV7.out.size))
        clear hb0 hcl
        go_wp2
        go_roundw
        case rel=>exact ⟨m+1,by go_num,by omega,HV8⟩
        case measure=>simp [intOf];omega
    ·
     have hlm':¬(m:Int) < (ln:Int):=by omega
     go_wp2
     go_roundw
     case rel=>exact ⟨j+1,by go_num,by omega,HZ⟩
     case measure=>simp [intOf];omega
  ·
   have hlt':¬(j:Int) < (C:Int):=by omega
   go_wp2_with fail
   refine (HAL.out _ (HUP.out _ HY.out)).mono ?_
   rintro e9 w9 ⟨rfl,hb9⟩
   have HC9:=hide ((HUP.out _ HY.out).trans (hb9.mono (HUP.out _ HY.out).size))
   clear hb9
   go_wp2
   go_ret
   exact ⟨rfl,HC9.out⟩
end Go.Proofs.YteeemjmohjkdpaaGreatDoor
