/- Part 23 of the contracts and their mathematics. -/
import Derived.Test.YteeemjmohjkdpaaGreatDoorQ21
import Derived.Test.YteeemjmohjkdpaaGreatDoorSortf
set_option linter.unusedVariables false
set_option linter.unusedSimpArgs false
set_option maxRecDepth 100000
set_option maxHeartbeats 8000000
namespace Go.Proofs.YteeemjmohjkdpaaGreatDoor
open Go.RowKit
def tgF (n:Nat) (L:List Int):List Int:=L.filter fun z=>inR z (n:Int)
def tgI (n:Nat) (L:List Int):List Int:=idedup (tgF n L)
theorem tgF_up {n:Nat} {L:List Int} {j:Nat} {t:Int} (h:L[j]?=some t):tgF n (L.take (j+1))=tgF n (L.take j)++if inR t (n:Int)=true then [t] else []:=by
 unfold tgF
 rw [List.take_add_one,h,List.filter_append]
 congr 1
 by_cases ht:inR t (n:Int)=true
 ·
  simp [ht]
 ·
  simp [ht]
theorem tgF_len (n:Nat) (L:List Int) (j:Nat):(tgF n (L.take j)).length≤j:=by
 unfold tgF
 refine Nat.le_trans (List.length_filter_le _ _) ?_
 rw [List.length_take]
 exact Nat.min_le_left _ _
theorem tgI_mem {n:Nat} {L:List Int} {z:Int}:z∈tgI n L↔z∈L∧0≤z∧z < (n:Int):=by
 unfold tgI tgF
 rw [idedup_mem,List.mem_filter]
 unfold inR
 rw [decide_eq_true_iff]
theorem tgI_len (n:Nat) (L:List Int):(tgI n L).length≤L.length:=by
 unfold tgI
 refine Nat.le_trans (idedup_len _) ?_
 have h:=tgF_len n L L.length
 rw [List.take_length] at h
 exact h
def jmI (l:List BkV) (n:Nat) (L:List Int):List Int:=(tgI n L).map fun z=>(ptFirst l z.toNat:Int)
theorem PTargets_any (x:BdW) (t:TmW) (w:World) (hx:OneBd w w.heap.size x) (ht:OneTm w w.heap.size t) (hn:t.targets.n≤1000000) :
  Calls Tryz.prog 146 #[aggBd x,aggTm t] w (IntsOut9 w (tgI x.blocks.n t.targets.L)):=by
 obtain ⟨nm,⟨rA,rn,rc,rL⟩,⟨oA,on,oc,oL⟩,⟨tA,tm,tc,tL⟩,⟨lA,ln,lc,lL⟩,ar,⟨bA,bn,bc,bL⟩⟩:=x
 obtain ⟨bk,⟨xA,xn,xc,xL⟩,⟨gA,gn,gc,gL⟩,⟨l,pA,pn,pc,ps⟩,tnm⟩:=t
 have hxn:xn≤1000000:=hn
 have HT:=hide (show Ints w w.heap.size ⟨xA,xn,xc,xL⟩ from ht.targets)
 have HWI:=hide fun (z:Int) (v:Bool) (h:inR z (bn:Int)=v) (w':World)=>PWithin_is h w'
 have hws1:(w.alloc (.cells #[.string nm,.slice rA rn rc,.slice oA on oc,.slice tA tm tc,.slice lA ln lc,.int .i64 ar,.slice bA bn bc] 28)).heap.size=w.heap.size+1:=by simp
 have hx7:=Bx.new w [.string nm,.slice rA rn rc,.slice oA on oc,.slice tA tm tc,.slice lA ln lc,.int .i64 ar,.slice bA bn bc] 28
 have b2:=below1 (w.alloc (.cells #[.string nm,.slice rA rn rc,.slice oA on oc,.slice tA tm tc,.slice lA ln lc,.int .i64 ar,.slice bA bn bc] 28)) (.cells #[.int .i64 bk,.slice xA xn xc,.slice gA gn gc,.int .i64 l,.slice pA pn pc,.string tnm] 60)
 have hx7:=hx7.below b2
 have ht6:=Bx.new (w.alloc (.cells #[.string nm,.slice rA rn rc,.slice oA on oc,.slice tA tm tc,.slice lA ln lc,.int .i64 ar,.slice bA bn bc] 28)) [.int .i64 bk,.slice xA xn xc,.slice gA gn gc,.int .i64 l,.slice pA pn pc,.string tnm] 60
 rw [hws1] at ht6
 obtain ⟨W1,hW1⟩:∃ W1,W1=(w.alloc (.cells #[.string nm,.slice rA rn rc,.slice oA on oc,.slice tA tm tc,.slice lA ln lc,.int .i64 ar,.slice bA bn bc] 28)).alloc (.cells #[.int .i64 bk,.slice xA xn xc,.slice gA gn gc,.int .i64 l,.slice pA pn pc,.string tnm] 60):=⟨_,rfl⟩
 have hs2:W1.heap.size=w.heap.size+2:=by rw [hW1];simp
 have hb1:Below w.heap.size w W1:=by rw [hW1];exact (below1 w _).trans (b2.mono (below1 w _).size)
 have hx7:Bx W1 w.heap.size [.string nm,.slice rA rn rc,.slice oA on oc,.slice tA tm tc,.slice lA ln lc,.int .i64 ar,.slice bA bn bc] 28:=hW1 ▸ hx7
 have ht6:Bx W1 (w.heap.size+1) [.int .i64 bk,.slice xA xn xc,.slice gA gn gc,.int .i64 l,.slice pA pn pc,.string tnm] 60:=hW1 ▸ ht6
 have b3:=below1 W1 (.cells #[] 3)
 have HX7:=hide fun (w':World) (y:Below W1.heap.size W1 w')=>(hx7.below y).cell (j:=6) rfl
 have HX8:=hide fun (w':World) (y:Below W1.heap.size W1 w')=>(ht6.below y).cell (j:=1) rfl
 have HB1:=hide hb1
 have HS2:=hide hs2
 have HW1:=hide hW1
 have HB3:=hide b3
 have HO3:=hide (show (W1.alloc (.cells #[] 3)).ownsRow (w.heap.size+2) 3 1 (.slice (some ⟨w.heap.size+2,0,none⟩) 0 0) 0 ((tgF bn (xL.take 0)).flatMap cInt) from by
  have h:=own_new9 W1 3 1
  rw [hs2] at h
  exact h)
 have q0:=HX8.out _ b3
 clear hx7 ht6 b2 b3 hb1 hs2 hW1 hws1 hx ht hn
 go_enter Tryz.func146,Tryz.ntmps146
 go_wp2
 rw [←HW1.out]
 clear q0
 go_loopw [5,12] (fun v i wr=>∃ j:Nat,∃ A c,i=.int .i64 (j:Int)∧v=.slice A (tgF bn (xL.take j)).length c∧j≤xn∧Hid (wr.ownsRow (w.heap.size+2) 3 1 (.slice A (tgF bn (xL.take j)).length c) (tgF bn (xL.take j)).length ((tgF bn (xL.take j)).flatMap cInt))∧Hid (Below W1.heap.size W1 wr)) (fun _ i _=>xn - (intOf i).toNat)
 case atStart=>exact ⟨0,some ⟨w.heap.size+2,0,none⟩,0,rfl,rfl,Nat.zero_le _,HO3,HB3⟩
 case round=>
  obtain ⟨j,A,c,rfl,rfl,hj,HO,HW⟩:=hrel
  have hln:=tgF_len bn xL j
  obtain ⟨M,hM⟩:∃ M,tgF bn (xL.take j)=M:=⟨_,rfl⟩
  rw [hM] at hln
  have HM:=hide hM
  have HO1:=hide (hM ▸ HO.out)
  rw [hM]
  clear hM HO
  obtain ⟨n,hn⟩:∃ n,M.length=n:=⟨_,rfl⟩
  have HO2:=hide (show wr.ownsRow (w.heap.size+2) 3 1 (.slice A n c) n (M.flatMap cInt) from hn ▸ HO1.out)
  have HN:=hide hn
  rw [hn] at hln ⊢
  clear HO1 hn
  by_cases hlt:j < xn
  ·
   have hlt':(j:Int) < (xn:Int):=by omega
   obtain ⟨t,ht⟩:=HT.out.get hlt
   obtain ⟨g,z,hgA,hgB,_,hgc⟩:=HT.out.at_ ht
   have hgA:xA=some ⟨g,z,none⟩:=hgA
   subst hgA
   have HUP:=hide (tgF_up (n:=bn) (show xL[j]?=some t from ht))
   have c0:wr.cell? ⟨g,z+j,none⟩=some (.int .i64 t):=(HW.out.cell (p:=⟨g,z+j,none⟩) (by have:=HS2.out;show g < W1.heap.size;omega)).trans ((HB1.out.cell (p:=⟨g,z+j,none⟩) hgB).trans (by simpa using hgc 0 _ rfl))
   have c6:=HX7.out _ HW.out
   obtain ⟨bv,hbv⟩:∃ b,inR t (bn:Int)=b:=⟨_,rfl⟩
   have HBV:=hide hbv
   clear ht hgc hbv
   go_wp2_with fail
   refine (HWI.out t bv HBV.out _).mono ?_
   rintro e w1 ⟨rfl,rfl⟩
   clear c0 c6
   cases bv
   ·
    have HU:=hide (show tgF bn (xL.take (j+1))=M by rw [HUP.out,HM.out,HBV.out];simp)
    go_wp2
    go_roundw
    case rel=>exact ⟨j+1,A,c,by go_num,by rw [HU.out,HN.out],by omega,hide (by rw [HU.out,HN.out];exact HO2.out),HW⟩
    case measure=>simp [intOf];omega
   ·
    have HU:=hide (show tgF bn (xL.take (j+1))=M++[t] by rw [HUP.out,HM.out,HBV.out];simp)
    obtain ⟨i0,hi,hz0,hz1,hz2⟩:=info_parts info9Int
    have hb3:=below1 w1 (.cells #[.int .i64 t] 3)
    have HO5:=hide (ownsRow_below HO2.out hb3)
    have HL5:=hide (show Cells (w1.alloc (.cells #[.int .i64 t] 3)) (w1.heap.size+1) 1 cInt (some ⟨w1.heap.size,0,none⟩) 1 [t] from lit_cells w1 cInt cInt_len t 3)
    have HW5:=hide (HW.out.trans (hb3.mono HW.out.size))
    have hs5:w.heap.size+2≤(w1.alloc (.cells #[.int .i64 t] 3)).heap.size:=by
     have h1:=HW5.out.size
     have h2:=HS2.out
     omega
    clear hb3
    go_wp2_with (at_builtin;refine wpList_append_cells (w1.alloc (.cells #[.int .i64 t] 3)) rfl (.tmp 21) (.tmp 23) 34 rfl cInt_len (by decide) cInt_one (w.heap.size+2) 3 i0 _ 8 Tryz.underlying34 hi hz0 hz1 hz2 rfl _ n (M.flatMap cInt) rfl HO5.out _ (some ⟨w1.heap.size,0,none⟩) 1 1 [t] rfl HL5.out (by unfold maxLen;omega) (by omega) hs5 ?_;intro v5 w5 hown5 hg5 _;obtain ⟨A5,k5,rfl⟩:=own_slice9 hown5;have HO6:=hide hown5;have HW6:=hide (below_app HW5.out (ownsRow_base HO5.out (Nat.le_of_eq HS2.out)) (Nat.le_trans (Nat.le_of_eq HS2.out) hs5) hg5);clear hown5 hg5)
    go_roundw
    case rel=>
     refine ⟨j+1,A5,k5,by go_num,?_,by omega,hide ?_,HW6⟩
     ·
      rw [HU.out,List.length_append,HN.out];rfl
     ·
      rw [HU.out,List.length_append,HN.out,List.flatMap_append];exact HO6.out
    case measure=>simp [intOf];omega
  ·
   have hlt':¬(j:Int) < (xn:Int):=by omega
   obtain rfl:xn=j:=by omega
   have HF:=hide (show M=tgF bn xL by rw [←HM.out,List.take_of_length_le (by rw [show xL.length=xn from HT.out.len];exact Nat.le_refl _)])
   have HSR:=hide (SortRowI (zs:=M) (base:=w.heap.size+2) (n:=n) (by have h:=HO2.out;rw [int_flat] at h;exact h) (by omega))
   go_wp2_with fail
   refine HSR.out.mono ?_
   rintro e w1 ⟨rfl,hs1,hb1⟩
   have hsz:=HW.out.size
   have HB4:=hide (hb1 (by rw [←HS2.out];exact hsz))
   have HCR:=hide (CompactRowI hs1 (by omega))
   clear hs1 hb1 hsz
   go_wp2_with fail
   refine HCR.out.mono ?_
   rintro e w2 ⟨A2,m2,c2,rfl,hm2,hc2,ho2,hb2⟩
   have hml:(tgI bn xL).length=m2:=by
    have h:=ho2.1
    unfold tgI idedup
    rw [←HF.out]
    simpa using h
   have HML:=hide hml
   have HO7:=hide (show w2.ownsRow w.heap.size 3 1 (.slice A2 m2 c2) m2 ((tgI bn xL).flatMap cInt) from by
    have h:=ownsRow_base ho2 (show w.heap.size≤w.heap.size+2 by omega)
    rw [int_flat]
    unfold tgI idedup
    rw [←HF.out]
    exact h)
   have HB7:=hide (show Below w.heap.size w w2 from (HB1.out.trans ((HW.out.trans ((HS2.out ▸ (HB4.out.trans hb2):Below W1.heap.size wr w2))).mono HB1.out.size)))
   clear hml ho2 hb2 hm2 hc2
   go_wp2
   go_ret
   refine ⟨A2,c2,?_,?_,HB7.out⟩
   ·
    rw [HML.out];rfl
   ·
    rw [HML.out];exact HO7.out
theorem asc_eq11:∀ {a b:List Int},a.Pairwise (· < ·)→b.Pairwise (· < ·)→(∀ z,z∈a↔z∈b)→a=b
 | [],[],_,_,_=>rfl
 | [],y :: b,_,_,h=>by have:=(h y).2 (by simp);cases this
 | x :: a,[],_,_,h=>by have:=(h x).1 (by simp);cases this
 | x :: a,y :: b,ha,hb,h=>by
  rw [List.pairwise_cons] at ha hb
  have e:x=y:=by
   rcases List.mem_cons.1 ((h x).1 (by simp)) with e | hx
   ·
    exact e
   ·
    rcases List.mem_cons.1 ((h y).2 (by simp)) with e | hy
    ·
     exact e.symm
    ·
     have h1:=hb.1 x hx
     have h2:=ha.1 y hy
     omega
  subst e
  congr 1
  refine asc_eq11 ha.2 hb.2 fun z=>⟨fun hz=>?_,fun hz=>?_⟩
  ·
   rcases List.mem_cons.1 ((h z).1 (List.mem_cons_of_mem _ hz)) with e | hz'
   ·
    have:=ha.1 z hz
    omega
   ·
    exact hz'
  ·
   rcases List.mem_cons.1 ((h z).2 (List.mem_cons_of_mem _ hz)) with e | hz'
   ·
    have:=hb.1 z hz
    omega
   ·
    exact hz'
theorem nextI_asc (l:List BkV) (p:Int):(nextI l p).Pairwise (· < ·):=by
 unfold nextI nxI
 refine List.Pairwise.sublist List.filter_sublist ?_
 rw [List.pairwise_map]
 exact List.Pairwise.imp (fun h=>by omega) List.pairwise_lt_range
theorem nextI_mem {l:List BkV} {p z:Int}:z∈nextI l p↔(0≤z∧z < (ptCount l:Int))∧ptFolI l p z=true:=by
 unfold nextI nxI
 rw [List.mem_filter,List.mem_map]
 refine ⟨fun ⟨⟨k,hk,e⟩,h⟩=>⟨?_,h⟩,fun ⟨h1,h⟩=>⟨⟨z.toNat,List.mem_range.2 (by omega),by omega⟩,h⟩⟩
 have:=List.mem_range.1 hk
 omega
theorem ptFirst_lt {l:List BkV} {i j:Nat} (h:i < j) (hj:j≤l.length):ptFirst l i < ptFirst l j:=by
 have h1:=ptFirst_up (show l[i]?=some (l[i]'(by omega)) from List.getElem?_eq_getElem _)
 have h2:=ptFirst_mono l (show i+1≤j from h)
 unfold ptN at h1
 omega
theorem ptFirst_low {l:List BkV} {i:Nat} (h:i < l.length):ptFirst l i < ptCount l:=by
 rw [←ptFirst_all (Nat.le_refl l.length)]
 exact ptFirst_lt h (Nat.le_refl _)
theorem next_none {l:List BkV} {p:Int} (h:ptLocI l p=none):nextI l p=[]:=by
 refine List.eq_nil_iff_forall_not_mem.2 fun z hz=>?_
 have:=(nextI_mem.1 hz).2
 rw [ptFolI_none h] at this
 cases this
theorem next_stmt {l:List BkV} {p:Int} {i k:Nat} {b:BkV} (h:ptLocI l p=some (i,k)) (hb:l[i]?=some b) (hk:k < b.stmts.length):nextI l p=[p+1]:=by
 refine asc_eq11 (nextI_asc _ _) (List.pairwise_singleton _ _) fun z=>?_
 rw [nextI_mem,ptFolI_at h hb,if_pos hk,decide_eq_true_iff,List.mem_singleton]
 refine ⟨fun h=>h.2,fun e=>⟨?_,e⟩⟩
 obtain ⟨hp0,b',hb',_,hpk⟩:=ptLocI_some h
 have h1:=pt_lt hb (show k+1≤b.stmts.length from hk)
 omega
theorem jmI_asc {l:List BkV} {L:List Int}:(jmI l l.length L).Pairwise (· < ·):=by
 unfold jmI
 rw [List.pairwise_map]
 refine List.Pairwise.imp_of_mem ?_ (show (tgI l.length L).Pairwise (· < ·) from idedup_asc _)
 intro a b ha hb hab
 have h1:=tgI_mem.1 ha
 have h2:=tgI_mem.1 hb
 have:=ptFirst_lt (l:=l) (show a.toNat < b.toNat by omega) (by omega)
 omega
theorem next_term {l:List BkV} {p:Int} {i k:Nat} {b:BkV} (h:ptLocI l p=some (i,k)) (hb:l[i]?=some b) (hk:¬k < b.stmts.length):nextI l p=jmI l l.length b.term.targets:=by
 refine asc_eq11 (nextI_asc _ _) jmI_asc fun z=>?_
 rw [nextI_mem,ptFolI_at h hb,if_neg hk,List.any_eq_true]
 unfold jmI
 rw [List.mem_map]
 constructor
 ·
  rintro ⟨_,t,ht,hz⟩
  obtain ⟨h0,h1,h2⟩:=of_decide_eq_true hz
  exact ⟨t,tgI_mem.2 ⟨ht,h0,h1⟩,h2⟩
 ·
  rintro ⟨t,ht,rfl⟩
  obtain ⟨h0,h1,h2⟩:=tgI_mem.1 ht
  have h3:=ptFirst_low (l:=l) (show t.toNat < l.length by omega)
  exact ⟨⟨by omega,by omega⟩,t,h0,decide_eq_true ⟨h1,h2,rfl⟩⟩
def bN (l:List BkV) (i:Nat):List Nat:=match l[i]? with
 | none=>[]
 | some b=>(tgF l.length b.term.targets).map Int.toNat
theorem bN_mem {l:List BkV} {i y:Nat} {b:BkV} (h:l[i]?=some b):y∈bN l i↔(y:Int)∈b.term.targets∧y < l.length:=by
 unfold bN tgF
 rw [h]
 show y∈(b.term.targets.filter fun z=>inR z (l.length:Int)).map Int.toNat↔_
 rw [List.mem_map]
 constructor
 ·
  rintro ⟨t,ht,rfl⟩
  obtain ⟨h1,h2⟩:=List.mem_filter.1 ht
  obtain ⟨h3,h4⟩:=of_decide_eq_true h2
  rw [Int.toNat_of_nonneg h3]
  exact ⟨h1,by omega⟩
 ·
  rintro ⟨h1,h2⟩
  exact ⟨(y:Int),List.mem_filter.2 ⟨h1,decide_eq_true ⟨by omega,by omega⟩⟩,by simp⟩
theorem bN_lt {l:List BkV} {i y:Nat} (h:y∈bN l i):y < l.length:=by
 cases hb:l[i]? with
 | none=>unfold bN at h;rw [hb] at h;cases h
 | some b=>exact ((bN_mem hb).1 h).2
def Lead (l:List BkV) (i j:Nat):Prop:=RchL (bN l) (bN l i) j
theorem nxN_mem {l:List BkV} {p:Int} {y:Nat}:y∈nxN l p↔(y:Int)∈nextI l p:=by
 rw [nextI_cast]
 unfold castL
 rw [List.mem_map]
 exact ⟨fun h=>⟨y,h,rfl⟩,fun ⟨z,h,e⟩=>by
  have:z=y:=by omega
  exact this ▸ h⟩
theorem ptLocI_nat {l:List BkV} {p:Nat} {r:Nat×Nat} (h:ptLoc l p=some r):ptLocI l (p:Int)=some r:=by
 unfold ptLocI
 rw [if_neg (by omega),Int.toNat_natCast]
 exact h
theorem nx_stmt {l:List BkV} {p i k y:Nat} {b:BkV} (h:ptLoc l p=some (i,k)) (hb:l[i]?=some b) (hk:k < b.stmts.length):y∈nxN l (p:Int)↔y=p+1:=by
 rw [nxN_mem,next_stmt (ptLocI_nat h) hb hk,List.mem_singleton]
 omega
theorem nx_term {l:List BkV} {p i k y:Nat} {b:BkV} (h:ptLoc l p=some (i,k)) (hb:l[i]?=some b) (hk:¬k < b.stmts.length):y∈nxN l (p:Int)↔∃ j∈bN l i,y=ptFirst l j:=by
 rw [nxN_mem,next_term (ptLocI_nat h) hb hk]
 unfold jmI
 rw [List.mem_map]
 constructor
 ·
  rintro ⟨t,ht,e⟩
  obtain ⟨h0,h1,h2⟩:=tgI_mem.1 ht
  refine ⟨t.toNat,(bN_mem hb).2 ⟨?_,by omega⟩,by omega⟩
  rw [Int.toNat_of_nonneg h1]
  exact h0
 ·
  rintro ⟨j,hj,rfl⟩
  obtain ⟨h1,h2⟩:=(bN_mem hb).1 hj
  exact ⟨(j:Int),tgI_mem.2 ⟨h1,by omega,by omega⟩,by rw [Int.toNat_natCast]⟩
structure Srch (l:List BkV) (a b:Nat) (seen:List Bool) (work:List Nat):Prop where
 len:seen.length=l.length
 wlt:∀ x∈work,x < l.length∧(x=a∨Lead l a x)
 not:seen[b]?≠some true
 snd:∀ x,seen[x]?=some true→Lead l a x
 cls:∀ x,(x=a∨seen[x]?=some true)→x∈work∨∀ y∈bN l x,seen[y]?=some true
structure SrchX (l:List BkV) (a b:Nat) (seen:List Bool) (work:List Nat) (x:Nat) (done:List Int):Prop where
 len:seen.length=l.length
 wlt:∀ x∈work,x < l.length∧(x=a∨Lead l a x)
 not:seen[b]?≠some true
 snd:∀ x,seen[x]?=some true→Lead l a x
 cls:∀ z,(z=a∨seen[z]?=some true)→z∈work∨z=x∨∀ y∈bN l z,seen[y]?=some true
 this:x=a∨Lead l a x
 tgs:∀ t∈done,∀ y:Nat,t=(y:Int)→y < l.length→seen[y]?=some true
section
variable {l:List BkV} {a b x:Nat} {seen:List Bool} {work:List Nat} {done:List Int}
theorem Srch.start (ha:a < l.length):Srch l a b (List.replicate l.length false) [a]:=by
 have hno:∀ x,(List.replicate l.length false)[x]?≠some true:=fun x h=>by
  rw [List.getElem?_replicate] at h
  split at h <;> cases h
 refine ⟨List.length_replicate,fun x hx=>?_,hno b,fun x hx=>absurd hx (hno x),fun x hx=>?_⟩
 ·
  obtain rfl:x=a:=by simpa using hx
  exact ⟨ha,.inl rfl⟩
 ·
  rcases hx with rfl | hx
  ·
   exact .inl (by simp)
  ·
   exact absurd hx (hno x)
theorem Srch.pop (h:Srch l a b seen (work++[x])):SrchX l a b seen work x []:=
 ⟨h.len,fun y hy=>h.wlt y (List.mem_append_left _ hy),h.not,h.snd,fun z hz=>(h.cls z hz).elim (fun hz=>(List.mem_append.1 hz).elim .inl fun e=>.inr (.inl (by simpa using e))) fun hz=>.inr (.inr hz),(h.wlt x (by simp)).2,fun t ht=>by cases ht⟩
theorem SrchX.skip {t:Int} (h:SrchX l a b seen work x done) (ht:inR t (l.length:Int)=false∨seen[t.toNat]?=some true):SrchX l a b seen work x (done++[t]):=
 ⟨h.len,h.wlt,h.not,h.snd,h.cls,h.this,fun u hu y e hy=>by
  rcases List.mem_append.1 hu with hu | hu
  ·
   exact h.tgs u hu y e hy
  ·
   obtain rfl:u=t:=by simpa using hu
   rcases ht with ht | ht
   ·
    exact absurd (show 0≤u∧u < (l.length:Int) by omega) (of_decide_eq_false ht)
   ·
    rw [e,Int.toNat_natCast] at ht
    exact ht⟩
theorem SrchX.lead {c:BkV} {t:Nat} (h:SrchX l a b seen work x done) (hc:l[x]?=some c) (ht:(t:Int)∈c.term.targets) (hl:t < l.length):Lead l a t:=by
 have hm:=(bN_mem hc).2 ⟨ht,hl⟩
 rcases h.this with e | hx
 ·
  rw [e] at hm
  exact .base hm
 ·
  exact .step hx hm
theorem SrchX.push {c:BkV} {t:Nat} (h:SrchX l a b seen work x done) (hc:l[x]?=some c) (ht:(t:Int)∈c.term.targets) (hl:t < l.length) (hb:t≠b):SrchX l a b (seen.set t true) (work++[t]) x (done++[(t:Int)]):=by
  have hld:=h.lead hc ht hl
  have hset:∀ y,(seen.set t true)[y]?=some true↔y=t∨seen[y]?=some true:=by
    intro y
    rw [List.getElem?_set]
    by_cases hy:t=y
    · subst hy
      simp [h.len,hl]
    · rw [if_neg hy]
      exact ⟨fun h=>.inr h,fun h=>h.elim (fun e=>absurd e.symm hy) id⟩
  refine ⟨by rw [List.length_set];exact h.len,fun y hy=>?_,fun e=>?_,fun y hy=>?_,fun z hz=>?_,h.this,fun u hu y e hy=>?_⟩
  · rcases List.mem_append.1 hy with hy | hy
    · exact h.wlt y hy
    · obtain rfl:y=t:=by simpa using hy
      exact ⟨hl,.inr hld⟩
  · rcases (hset b).1 e with e | e
    · exact hb e.symm
    · exact h.not e
  · rcases (hset y).1 hy with rfl | hy
    · exact hld
    · exact h.snd y hy
  · have hz' : z = t ∨ (z = a ∨ seen[z]? = some true) := by
      rcases hz with hz | hz
      · exact .inr (.inl hz)
      · exact ((hset z).1 hz).imp id .inr
    rcases hz' with rfl | hz'
    · exact .inl (by simp)
    · rcases h.cls z hz' with h1 | h1 | h1
      · exact .inl (List.mem_append_left _ h1)
      · exact .inr (.inl h1)
      · exact .inr (.inr fun y hy=>(hset y).2 (.inr (h1 y hy)))
  · rcases List.mem_append.1 hu with hu | hu
    · exact (hset y).2 (.inr (h.tgs u hu y e hy))
    · obtain rfl:u=(t:Int):=by simpa using hu
      exact (hset y).2 (.inl (by omega))
theorem SrchX.fin {c:BkV} (h:SrchX l a b seen work x c.term.targets) (hc:l[x]?=some c):Srch l a b seen work:=
 ⟨h.len,h.wlt,h.not,h.snd,fun z hz=>by
  rcases h.cls z hz with h1 | rfl | h1
  ·
   exact .inl h1
  ·
   refine .inr fun y hy=>?_
   obtain ⟨h2,h3⟩:=(bN_mem hc).1 hy
   exact h.tgs _ h2 y rfl h3
  ·
   exact .inr h1⟩
theorem Srch.none (h:Srch l a b seen []):¬Lead l a b:=by
 intro hl
 refine h.not ?_
 have hcl:∀ z,(z=a∨seen[z]?=some true)→∀ y∈bN l z,seen[y]?=some true:=fun z hz=>(h.cls z hz).elim (fun h=>by cases h) id
 exact RchL.closed (S:=fun y=>seen[y]?=some true) (hcl a (.inl rfl)) (fun x hx=>hcl x (.inr hx)) hl
end
def siteW (l:List BkV) (x:Int) (p:Nat):Option Bool:=if x∈usesI l (p:Int) then some true else if defI l (p:Int)=some x then some false else none
theorem siteW_yes {l:List BkV} {x:Int} {p:Nat} (h:x∈usesI l (p:Int)):siteW l x p=some true:=by unfold siteW;rw [if_pos h]
theorem siteW_true {l:List BkV} {x:Int} {p:Nat} (h:siteW l x p=some true):x∈usesI l (p:Int):=by
 unfold siteW at h
 split at h
 ·
  assumption
 ·
  split at h <;> cases h
theorem siteW_none {l:List BkV} {x:Int} {p:Nat} (h:siteW l x p=none):x∉usesI l (p:Int)∧defI l (p:Int)≠some x:=by
 unfold siteW at h
 split at h
 ·
  cases h
 ·
  rename_i h1
  split at h
  ·
   cases h
  ·
   rename_i h2
   exact ⟨h1,h2⟩
def sitesW (l:List BkV) (x:Int) (m:Nat):List (Nat×Bool):=(List.range m).filterMap fun p=>(siteW l x p).map fun u=>(p,u)
theorem sitesW_up (l:List BkV) (x:Int) (m:Nat):sitesW l x (m+1)=sitesW l x m++(match siteW l x m with | none=>[] | some u=>[(m,u)]):=by
 unfold sitesW
 rw [List.range_succ,List.filterMap_append]
 congr 1
 cases h:siteW l x m <;> simp [List.filterMap_cons,h]
theorem sitesW_mem {l:List BkV} {x:Int} {m p:Nat} {u:Bool}:(p,u)∈sitesW l x m↔p < m∧siteW l x p=some u:=by
 unfold sitesW
 rw [List.mem_filterMap]
 constructor
 ·
  rintro ⟨q,hq,h⟩
  rw [Option.map_eq_some_iff] at h
  obtain ⟨v,hv,e⟩:=h
  injection e with e1 e2
  subst e1 e2
  exact ⟨List.mem_range.1 hq,hv⟩
 ·
  rintro ⟨h1,h2⟩
  exact ⟨p,List.mem_range.2 h1,by rw [h2];rfl⟩
theorem sitesW_asc (l:List BkV) (x:Int) (m:Nat):(sitesW l x m).Pairwise fun a b=>a.1 < b.1:=by
 induction m with
 | zero=>exact List.Pairwise.nil
 | succ m ih=>
  rw [sitesW_up,List.pairwise_append]
  refine ⟨ih,?_,fun a ha b hb=>?_⟩
  ·
   cases siteW l x m <;> simp
  ·
   obtain ⟨q,u⟩:=a
   have h1:=(sitesW_mem.1 ha).1
   cases h:siteW l x m with
   | none=>rw [h] at hb;cases hb
   | some v=>
    rw [h] at hb
    rw [List.mem_singleton.1 hb]
    exact h1
theorem sitesW_len (l:List BkV) (x:Int) (m:Nat):(sitesW l x m).length≤m:=by
 unfold sitesW
 refine Nat.le_trans (List.length_filterMap_le _ _) ?_
 rw [List.length_range]
 exact Nat.le_refl _
abbrev RunW:=Nat×Nat
def covW (R:List RunW) (p:Nat):Nat:=R.countP fun r=>decide (r.1≤p∧p < r.2)
theorem covW_perm {R S:List RunW} (h:R.Perm S) (p:Nat):covW R p=covW S p:=h.countP_eq _
theorem covW_app (R S:List RunW) (p:Nat):covW (R++S) p=covW R p+covW S p:=List.countP_append
theorem covW_one (a b p:Nat):covW [(a,b)] p=if a≤p∧p < b then 1 else 0:=by
 unfold covW
 rw [List.countP_cons,List.countP_nil]
 by_cases h:a≤p∧p < b
 ·
  rw [if_pos h,if_pos (decide_eq_true h)]
 ·
  rw [if_neg h,if_neg (by rw [decide_eq_false h];decide)]
theorem covW_join {R:List RunW} {a b c p:Nat} (h1:a≤b) (h2:b≤c):covW (R++[(a,b)]++[(b,c)]) p=covW (R++[(a,c)]) p:=by
 rw [covW_app,covW_app,covW_app,covW_one,covW_one,covW_one]
 by_cases k1:a≤p <;> by_cases k2:p < b <;> by_cases k3:b≤p <;> by_cases k4:p < c <;> simp [k1,k2,k3,k4] <;> omega
def RunsIn (C:Nat) (R:List RunW):Prop:=∀ r∈R,r.1 < r.2∧r.2≤C
structure BackW (s:List (Nat×Bool)) (f a b:Nat):Prop where
 low:f≤b
 all:∀ z∈s,z.1 < a→z.1 < b
 one:b=f∨∃ z∈s,z.1 < a∧b=z.1+1
def blkW (l:List BkV) (p:Int):Nat:=((ptLocI l p).getD (0,0)).1
theorem blkW_at {l:List BkV} {p i k:Nat} (h:ptLoc l p=some (i,k)):blkW l (p:Int)=i:=by
 unfold blkW
 rw [ptLocI_nat h]
 rfl
def befW (l:List BkV) (E:List Pr) (j:Nat):List Nat:=E.filterMap fun e=>if e.2=(ptFirst l j:Int) then some (blkW l e.1) else none
theorem befW_up (l:List BkV) (E:List Pr) (e:Pr) (j:Nat):befW l (E++[e]) j=befW l E j++if e.2=(ptFirst l j:Int) then [blkW l e.1] else []:=by
 unfold befW
 rw [List.filterMap_append]
 congr 1
 by_cases h:e.2=(ptFirst l j:Int) <;> simp [List.filterMap_cons,h]
theorem befW_len (l:List BkV) (E:List Pr) (j:Nat):(befW l E j).length≤E.length:=List.length_filterMap_le _ _
theorem edges_mem {l:List BkV} {p q:Int}:(p,q)∈edgesI l↔∃ n y:Nat,p=(n:Int)∧q=(y:Int)∧n < ptCount l∧y∈nxN l (n:Int):=by
 unfold edgesI edI
 rw [List.mem_flatMap]
 constructor
 ·
  rintro ⟨n,hn,h⟩
  obtain ⟨z,hz,e⟩:=List.mem_map.1 h
  injection e with e1 e2
  have h0:=(nextI_mem.1 hz).1
  refine ⟨n,z.toNat,e1.symm,by omega,List.mem_range.1 hn,nxN_mem.2 ?_⟩
  rw [Int.toNat_of_nonneg h0.1]
  exact hz
 ·
  rintro ⟨n,y,rfl,rfl,hn,hy⟩
  exact ⟨n,List.mem_range.2 hn,List.mem_map.2 ⟨_,nxN_mem.1 hy,rfl⟩⟩
theorem first_injW {l:List BkV} {i j:Nat} (hi:i < l.length) (hj:j < l.length) (h:ptFirst l i=ptFirst l j):i=j:=by
 rcases Nat.lt_trichotomy i j with h1 | h1 | h1
 ·
  have:=ptFirst_lt h1 (Nat.le_of_lt hj);omega
 ·
  exact h1
 ·
  have:=ptFirst_lt h1 (Nat.le_of_lt hi);omega
theorem befW_mem {l:List BkV} {i j:Nat} (hj:j < l.length):i∈befW l (edgesI l) j↔i < l.length∧j∈bN l i:=by
 unfold befW
 rw [List.mem_filterMap]
 constructor
 ·
  rintro ⟨⟨p,q⟩,he,h⟩
  obtain ⟨n,y,rfl,rfl,hn,hy⟩:=edges_mem.1 he
  split at h
  ·
   rename_i hq
   have hq:y=ptFirst l j:=by have:(y:Int)=(ptFirst l j:Int):=hq;omega
   injection h with h
   cases hl:ptLoc l n with
   | none=>have:=ptLoc_none hl;omega
   | some z=>
    obtain ⟨i',k⟩:=z
    have e:blkW l (n:Int)=i:=h
    rw [blkW_at hl] at e
    subst e
    obtain ⟨b,hb,hk,rfl⟩:=ptLoc_some hl
    have hil:=(List.getElem?_eq_some_iff.1 hb).1
    by_cases hks:k < b.stmts.length
    ·
     rw [nx_stmt hl hb hks] at hy
     obtain ⟨_,h2⟩:=pt_one (k:=0) (m:=k+1) (List.getElem?_eq_getElem hj) hb (Nat.zero_le _) hks (by omega)
     omega
    ·
     obtain ⟨j',hj',e⟩:=(nx_term hl hb hks).1 hy
     have:j'=j:=first_injW (bN_lt hj') hj (by omega)
     exact ⟨hil,this ▸ hj'⟩
  ·
   cases h
 ·
  rintro ⟨hi,hij⟩
  obtain ⟨b,hb⟩:∃ b,l[i]?=some b:=⟨_,List.getElem?_eq_getElem hi⟩
  have hl:ptLoc l (ptFirst l i+b.stmts.length)=some (i,b.stmts.length):=ptLoc_iff.2 ⟨b,hb,Nat.le_refl _,rfl⟩
  refine ⟨(((ptFirst l i+b.stmts.length:Nat):Int),(ptFirst l j:Int)),edges_mem.2 ⟨_,_,rfl,rfl,pt_lt hb (Nat.le_refl _),(nx_term hl hb (Nat.lt_irrefl _)).2 ⟨j,hij,rfl⟩⟩,?_⟩
  show (if (ptFirst l j:Int)=(ptFirst l j:Int) then some (blkW l ((ptFirst l i+b.stmts.length:Nat):Int)) else none)=some i
  rw [if_pos rfl,blkW_at hl]
section
variable {l:List BkV} {x:Int}
theorem live_useW {p:Nat} (h:x∈usesI l (p:Int)):LiveP l x p:=live_eq.2 (.inl h)
theorem live_downW {i:Nat} {b:BkV} (hb:l[i]?=some b):∀ (d k:Nat),k+d≤b.stmts.length→LiveP l x (ptFirst l i+(k+d))→(∀ m,k≤m→m < k+d→siteW l x (ptFirst l i+m)=none)→LiveP l x (ptFirst l i+k)
 | 0,k,_,h,_=>h
 | d+1,k,hk,h,hn=>by
  have h1:LiveP l x (ptFirst l i+(k+1)):=live_downW hb d (k+1) (by omega) (by rw [show k+1+d=k+(d+1) by omega];exact h) fun m h1 h2=>hn m (by omega) (by omega)
  have hl:ptLoc l (ptFirst l i+k)=some (i,k):=ptLoc_iff.2 ⟨b,hb,by omega,rfl⟩
  refine live_eq.2 (.inr ⟨(siteW_none (hn k (Nat.le_refl _) (by omega))).2,_,(nx_stmt hl hb (by omega)).2 rfl,?_⟩)
  rw [show ptFirst l i+k+1=ptFirst l i+(k+1) by omega]
  exact h1
theorem no_siteW {C f a b:Nat} (h:BackW (sitesW l x C) f a b) {p:Nat} (hp:b≤p) (hpa:p < a) (hC:p < C):siteW l x p=none:=by
 cases e:siteW l x p with
 | none=>rfl
 | some u=>have:=h.all (p,u) (sitesW_mem.2 ⟨hC,e⟩) hpa;exact absurd this (by show ¬p < b;omega)
theorem run_useW {i k b:Nat} {c:BkV} (hc:l[i]?=some c) (hk:k≤c.stmts.length) (hu:x∈usesI l ((ptFirst l i+k:Nat):Int)) (h:BackW (sitesW l x (ptCount l)) (ptFirst l i) (ptFirst l i+k) b) :
  ∀ p,b≤p→p < ptFirst l i+k+1→LiveP l x p:=fun p h1 h2=>by
 have h0:=h.low
 have hlt:=pt_lt hc hk
 have e:p=ptFirst l i+(p - ptFirst l i):=by omega
 rw [e]
 refine live_downW hc (k - (p - ptFirst l i)) (p - ptFirst l i) (by omega) ?_ fun m h3 h4=>no_siteW h (by omega) (by omega) (by omega)
 rw [show p - ptFirst l i+(k - (p - ptFirst l i))=k by omega]
 exact live_useW hu
theorem run_exitW {i j b:Nat} {c:BkV} (hc:l[i]?=some c) (hj:j∈bN l i) (hL:LiveP l x (ptFirst l j)) (h:BackW (sitesW l x (ptCount l)) (ptFirst l i) (ptFirst l (i+1)) b) :
  ∀ p,b≤p→p < ptFirst l (i+1)→LiveP l x p:=fun p h1 h2=>by
 have h0:=h.low
 have hup:=ptFirst_up hc
 unfold ptN at hup
 have hlt:=pt_lt hc (Nat.le_refl c.stmts.length)
 have hl:ptLoc l (ptFirst l i+c.stmts.length)=some (i,c.stmts.length):=ptLoc_iff.2 ⟨c,hc,Nat.le_refl _,rfl⟩
 have e:p=ptFirst l i+(p - ptFirst l i):=by omega
 rw [e]
 refine live_downW hc (c.stmts.length - (p - ptFirst l i)) (p - ptFirst l i) (by omega) ?_ fun m h3 h4=>no_siteW h (by omega) (by omega) (by omega)
 rw [show p - ptFirst l i+(c.stmts.length - (p - ptFirst l i))=c.stmts.length by omega]
 exact live_eq.2 (.inr ⟨(siteW_none (no_siteW h (by omega) (by omega) hlt)).2,_,(nx_term hl hc (Nat.lt_irrefl _)).2 ⟨j,hj,rfl⟩,hL⟩)
end
def ItemW (l:List BkV) (x:Int) (X:List Nat) (r:RunW):Prop:=(∃ q,q < ptCount l∧x∈usesI l (q:Int)∧r=(q,q+1))∨∃ i∈X,r=(ptFirst l (i+1),ptFirst l (i+1))
structure SeekW (l:List BkV) (x:Int) (u:Nat) (X:List Nat) (W:List RunW) (Dn:List (RunW×Nat)) (Pd:List Nat):Prop where
 all:∀ r,(r∈W∨r∈Dn.map Prod.fst)↔ItemW l x X r
 nd:(W++Dn.map Prod.fst).Nodup
 xnd:X.Nodup
 xok:∀ i∈X,i < l.length∧∃ j∈bN l i,LiveP l x (ptFirst l j)
 pok:∀ i∈Pd,i < l.length∧∃ j∈bN l i,LiveP l x (ptFirst l j)
 dn:∀ d∈Dn,∃ j,j < l.length∧ptFirst l j < d.1.2∧d.1.2≤ptFirst l (j+1)∧BackW (sitesW l x (ptCount l)) (ptFirst l j) d.1.1 d.2∧(d.2=ptFirst l j→∀ i,i < l.length→j∈bN l i→i∈X∨i∈Pd)
 len:W.length+Dn.length=u+X.length
def runsW (Dn:List (RunW×Nat)):List RunW:=Dn.filterMap fun d=>if d.2 < d.1.2 then some (d.2,d.1.2) else none
theorem runsW_up (Dn:List (RunW×Nat)) (d:RunW×Nat):runsW (Dn++[d])=runsW Dn++if d.2 < d.1.2 then [(d.2,d.1.2)] else []:=by
 unfold runsW
 rw [List.filterMap_append]
 congr 1
 by_cases h:d.2 < d.1.2 <;> simp [List.filterMap_cons,h]
theorem runsW_len (Dn:List (RunW×Nat)):(runsW Dn).length≤Dn.length:=List.length_filterMap_le _ _
theorem covW_runs (Dn:List (RunW×Nat)) (p:Nat):covW (runsW Dn) p=Dn.countP fun d=>decide (d.2≤p∧p < d.1.2):=by
 induction Dn with
 | nil=>rfl
 | cons d Dn ih=>
  have e:covW (runsW (d :: Dn)) p=(if d.2≤p∧p < d.1.2 then 1 else 0)+covW (runsW Dn) p:=by
   have e1:runsW (d :: Dn)=(if d.2 < d.1.2 then [(d.2,d.1.2)] else [])++runsW Dn:=by
    unfold runsW
    by_cases h:d.2 < d.1.2 <;> simp [List.filterMap_cons,h]
   rw [e1,covW_app]
   congr 1
   by_cases h:d.2 < d.1.2
   ·
    rw [if_pos h,covW_one]
   ·
    rw [if_neg h,if_neg (by omega)]
    rfl
  rw [e,ih,List.countP_cons]
  by_cases h:d.2≤p∧p < d.1.2
  ·
   rw [if_pos h,if_pos (decide_eq_true h)];omega
  ·
   rw [if_neg h,if_neg (by rw [decide_eq_false h];decide)];omega
section
variable {l:List BkV} {x:Int} {u:Nat} {X:List Nat} {W:List RunW} {Dn:List (RunW×Nat)} {Pd:List Nat}
def useRuns (s:List (Nat×Bool)):List RunW:=s.filterMap fun z=>if z.2=true then some (z.1,z.1+1) else none
theorem useRuns_up (s:List (Nat×Bool)) (z:Nat×Bool):useRuns (s++[z])=useRuns s++if z.2=true then [(z.1,z.1+1)] else []:=by
 unfold useRuns
 rw [List.filterMap_append]
 congr 1
 by_cases h:z.2=true <;> simp [List.filterMap_cons,h]
theorem useRuns_len (s:List (Nat×Bool)):(useRuns s).length≤s.length:=List.length_filterMap_le _ _
theorem useRuns_mem {l:List BkV} {x:Int} {r:RunW}:r∈useRuns (sitesW l x (ptCount l))↔∃ q,q < ptCount l∧x∈usesI l (q:Int)∧r=(q,q+1):=by
 unfold useRuns
 rw [List.mem_filterMap]
 constructor
 ·
  rintro ⟨⟨q,v⟩,hz,h⟩
  split at h
  ·
   rename_i hv
   have hv:v=true:=hv
   subst hv
   obtain ⟨h1,h2⟩:=sitesW_mem.1 hz
   injection h with h
   exact ⟨q,h1,siteW_true h2,h.symm⟩
  ·
   cases h
 ·
  rintro ⟨q,h1,h2,rfl⟩
  exact ⟨(q,true),sitesW_mem.2 ⟨h1,siteW_yes h2⟩,rfl⟩
theorem useRuns_nd (l:List BkV) (x:Int) (m:Nat):(useRuns (sitesW l x m)).Nodup:=by
 unfold useRuns
 refine List.Pairwise.filterMap _ ?_ (sitesW_asc l x m)
 intro a b h c hc d hd
 split at hc
 ·
  split at hd
  ·
   injection hc with hc
   injection hd with hd
   subst hc hd
   intro e
   injection e with e
   omega
  ·
   cases hd
 ·
  cases hc
theorem SeekW.start (l:List BkV) (x:Int):SeekW l x (useRuns (sitesW l x (ptCount l))).length [] (useRuns (sitesW l x (ptCount l))) [] []:=by
 refine ⟨fun r=>?_,by simpa using useRuns_nd l x _,List.nodup_nil,(fun i h=>by cases h),(fun i h=>by cases h),(fun d h=>by cases h),by simp⟩
 unfold ItemW
 rw [useRuns_mem]
 simp
theorem ItemW.block {r:RunW} (h:ItemW l x X r) (hX:∀ i∈X,i < l.length):∃ j k,ptLoc l (r.2 - 1)=some (j,k)∧0 < r.2∧j < l.length∧ptFirst l j < r.2∧r.2≤ptFirst l (j+1)∧r.2≤ptCount l:=by
 rcases h with ⟨q,hq,_,rfl⟩ | ⟨i,hi,rfl⟩
 ·
  cases hl:ptLoc l q with
  | none=>have:=ptLoc_none hl;omega
  | some z=>
   obtain ⟨j,k⟩:=z
   obtain ⟨b,hb,hk,rfl⟩:=ptLoc_some hl
   have h1:=ptFirst_up hb
   have h2:=pt_lt hb hk
   unfold ptN at h1
   refine ⟨j,k,?_,?_,(List.getElem?_eq_some_iff.1 hb).1,?_,?_,?_⟩
   ·
    exact hl
   all_goals (show _;simp only [];omega)
 ·
  have hil:=hX i hi
  obtain ⟨b,hb⟩:∃ b,l[i]?=some b:=⟨_,List.getElem?_eq_getElem hil⟩
  have h1:=ptFirst_up hb
  have h2:=ptFirst_le l (i+1)
  unfold ptN at h1
  refine ⟨i,b.stmts.length,ptLoc_iff.2 ⟨b,hb,Nat.le_refl _,?_⟩,?_,hil,?_,?_,?_⟩
  all_goals (show _;simp only [];omega)
theorem SeekW.live {r:RunW} {j b:Nat} (h:SeekW l x u X W Dn Pd) (hi:ItemW l x X r) (hj:j < l.length) (h1:ptFirst l j < r.2) (h2:r.2≤ptFirst l (j+1)) (hb:BackW (sitesW l x (ptCount l)) (ptFirst l j) r.1 b) :
  ∀ p,b≤p→p < r.2→LiveP l x p:=by
 obtain ⟨c,hc⟩:∃ c,l[j]?=some c:=⟨_,List.getElem?_eq_getElem hj⟩
 have hup:=ptFirst_up hc
 unfold ptN at hup
 rcases hi with ⟨q,hq,hu,rfl⟩ | ⟨i,hi,rfl⟩
 ·
  have h1:ptFirst l j < q+1:=h1
  have h2:q+1≤ptFirst l (j+1):=h2
  obtain ⟨k,rfl⟩:∃ k,q=ptFirst l j+k:=⟨q - ptFirst l j,by omega⟩
  exact run_useW hc (by omega) hu hb
 ·
  obtain ⟨hil,j',hj',hL⟩:=h.xok i hi
  have h1:ptFirst l j < ptFirst l (i+1):=h1
  have h2:ptFirst l (i+1)≤ptFirst l (j+1):=h2
  have e:i=j:=by
   rcases Nat.lt_trichotomy i j with h3 | h3 | h3
   ·
    have:=ptFirst_mono l (show i+1≤j from h3);omega
   ·
    exact h3
   ·
    have:=ptFirst_lt (l:=l) (show j+1 < i+1 by omega) (by omega);omega
  subst e
  exact run_exitW hc hj' hL hb
theorem SeekW.pop {r:RunW} {j b:Nat} (h:SeekW l x u X (W++[r]) Dn []) (hj:j < l.length) (h1:ptFirst l j < r.2) (h2:r.2≤ptFirst l (j+1)) (hb:BackW (sitesW l x (ptCount l)) (ptFirst l j) r.1 b) {Pd:List Nat}
  (hp1:∀ i∈Pd,i < l.length∧j∈bN l i) (hp2:b=ptFirst l j→∀ i,i < l.length→j∈bN l i→i∈Pd) (hp3:b≠ptFirst l j→Pd=[]):SeekW l x u X W (Dn++[(r,b)]) Pd:=by
 have hi:ItemW l x X r:=(h.all r).1 (.inl (by simp))
 have hlv:=h.live hi hj h1 h2 hb
 refine ⟨fun s=>?_,?_,h.xnd,h.xok,fun i hi=>?_,fun d hd=>?_,?_⟩
 ·
  rw [←h.all s,List.map_append,List.mem_append,List.mem_append]
  simp only [List.map_cons,List.map_nil]
  exact ⟨fun k=>k.elim (fun k=>.inl (.inl k)) fun k=>k.elim .inr fun k=>.inl (.inr k),fun k=>k.elim (fun k=>k.elim .inl fun k=>.inr (.inr k)) fun k=>.inr (.inl k)⟩
 ·
  have h3:=h.nd
  rw [List.map_append]
  simp only [List.map_cons,List.map_nil]
  refine (List.Perm.nodup_iff ?_).1 h3
  rw [List.append_assoc]
  exact List.Perm.append_left _ (List.perm_append_comm)
 ·
  by_cases e:b=ptFirst l j
  ·
   have:=hp1 i hi
   exact ⟨this.1,j,this.2,hlv _ (Nat.le_of_eq e) h1⟩
  ·
   rw [hp3 e] at hi;cases hi
 ·
  rcases List.mem_append.1 hd with hd | hd
  ·
   obtain ⟨j',k1,k2,k3,k4,k5⟩:=h.dn d hd
   exact ⟨j',k1,k2,k3,k4,fun e i hi k=>(k5 e i hi k).elim .inl fun k=>by cases k⟩
  ·
   rw [List.mem_singleton.1 hd]
   exact ⟨j,hj,h1,h2,hb,fun e i hi k=>.inr (hp2 e i hi k)⟩
 ·
  have:=h.len
  simp at this ⊢
  omega
theorem SeekW.skip {i:Nat} (h:SeekW l x u X W Dn (i :: Pd)) (hi:i∈X):SeekW l x u X W Dn Pd:=
 ⟨h.all,h.nd,h.xnd,h.xok,fun k hk=>h.pok k (List.mem_cons_of_mem _ hk),fun d hd=>by
  obtain ⟨j',k1,k2,k3,k4,k5⟩:=h.dn d hd
  exact ⟨j',k1,k2,k3,k4,fun e k hk q=>(k5 e k hk q).elim .inl fun q=>(List.mem_cons.1 q).elim (fun q=>.inl (q ▸ hi)) .inr⟩,h.len⟩
theorem SeekW.push {i:Nat} (h:SeekW l x u X W Dn (i :: Pd)) (hi:i∉X):SeekW l x u (X++[i]) (W++[(ptFirst l (i+1),ptFirst l (i+1))]) Dn Pd:=by
 have hil:=(h.pok i (by simp)).1
 have hnew:¬ItemW l x X (ptFirst l (i+1),ptFirst l (i+1)):=by
  rintro (⟨q,_,_,e⟩ | ⟨k,hk,e⟩)
  ·
   injection e with e1 e2;omega
  ·
   injection e with e1 _
   have hkl:=(h.xok k hk).1
   have:i=k:=by
    rcases Nat.lt_trichotomy i k with h3 | h3 | h3
    ·
     have:=ptFirst_lt (l:=l) (show i+1 < k+1 by omega) (by omega);omega
    ·
     exact h3
    ·
     have:=ptFirst_lt (l:=l) (show k+1 < i+1 by omega) (by omega);omega
   exact hi (this ▸ hk)
 refine ⟨fun s=>?_,?_,?_,fun k hk=>?_,fun k hk=>h.pok k (List.mem_cons_of_mem _ hk),fun d hd=>?_,?_⟩
 ·
  unfold ItemW
  rw [List.mem_append,List.mem_singleton]
  have h1:=h.all s
  unfold ItemW at h1
  constructor
  ·
   rintro ((k | k) | k)
   ·
    exact (h1.1 (.inl k)).imp id fun ⟨m,hm,e⟩=>⟨m,List.mem_append.2 (.inl hm),e⟩
   ·
    exact .inr ⟨i,by simp,k⟩
   ·
    exact (h1.1 (.inr k)).imp id fun ⟨m,hm,e⟩=>⟨m,List.mem_append.2 (.inl hm),e⟩
  ·
   rintro (k | ⟨m,hm,e⟩)
   ·
    exact (h1.2 (.inl k)).imp .inl id
   ·
    rcases List.mem_append.1 hm with hm | hm
    ·
     exact (h1.2 (.inr ⟨m,hm,e⟩)).imp .inl id
    ·
     rw [List.mem_singleton.1 hm] at e
     exact .inl (.inr e)
 ·
  have h2:(ptFirst l (i+1),ptFirst l (i+1))∉W++Dn.map Prod.fst:=fun k=>hnew ((h.all _).1 (List.mem_append.1 k))
  refine (List.Perm.nodup_iff ?_).2 (List.nodup_cons.2 ⟨h2,h.nd⟩)
  rw [List.append_assoc]
  exact List.perm_middle
 ·
  refine List.nodup_append.2 ⟨h.xnd,by simp,fun a ha b hb=>?_⟩
  rw [List.mem_singleton.1 hb]
  exact fun e=>hi (e ▸ ha)
 ·
  rcases List.mem_append.1 hk with hk | hk
  ·
   exact h.xok k hk
  ·
   rw [List.mem_singleton.1 hk]
   exact h.pok i (by simp)
 ·
  obtain ⟨j',k1,k2,k3,k4,k5⟩:=h.dn d hd
  exact ⟨j',k1,k2,k3,k4,fun e k hk q=>(k5 e k hk q).elim (fun q=>.inl (List.mem_append.2 (.inl q))) fun q=>(List.mem_cons.1 q).elim (fun q=>.inl (List.mem_append.2 (.inr (by simp [q])))) .inr⟩
 ·
  have:=h.len
  simp
  omega
theorem SeekW.xlen (h:SeekW l x u X W Dn Pd):X.length≤l.length:=by
 have:=nodup_sub (m:=List.range l.length) h.xnd fun i hi=>List.mem_range.2 (h.xok i hi).1
 rwa [List.length_range] at this
theorem one_countW {α β:Type} {P:α→Bool} {f:α→β}:∀ {L:List α},(L.map f).Nodup→(∃ z∈L,P z=true)→(∀ a∈L,∀ b∈L,P a=true→P b=true→f a=f b)→L.countP P=1
 | [],_,⟨z,hz,_⟩,_=>by cases hz
 | a :: L,hn,⟨z,hz,hP⟩,hu=>by
  rw [List.map_cons,List.nodup_cons] at hn
  rw [List.countP_cons]
  by_cases ha:P a=true
  ·
   have h0:L.countP P=0:=List.countP_eq_zero.2 fun b hb hPb=>hn.1 (List.mem_map.2 ⟨b,hb,(hu a (by simp) b (List.mem_cons_of_mem _ hb) ha hPb).symm⟩)
   rw [h0,if_pos ha]
  ·
   rw [if_neg ha]
   have hzL:z∈L:=(List.mem_cons.1 hz).elim (fun e=>absurd (e ▸ hP) ha) id
   exact one_countW hn.2 ⟨z,hzL,hP⟩ fun b hb c hc=>hu b (List.mem_cons_of_mem _ hb) c (List.mem_cons_of_mem _ hc)
theorem SeekW.fin (h:SeekW l x u X [] Dn []) {p:Nat} (hp:p < ptCount l):covW (runsW Dn) p=if lvB l x p=true then 1 else 0:=by
  have hit:∀ d∈Dn,ItemW l x X d.1:=fun d hd=>(h.all _).1 (.inr (List.mem_map.2 ⟨d,hd,rfl⟩))
  have hnd:(Dn.map Prod.fst).Nodup:=by simpa using h.nd
  rw [covW_runs]
  -- a run that a point lies in,by its block
  have hcl:∀ y,y < ptCount l→LiveP l x y→∃ d∈Dn,d.2≤y∧y < d.1.2:=fun y hy hL=>by
    obtain ⟨q,hq,hu⟩:=hL
    have back:∀ a z,z∈lvN l x a→(∃ d∈Dn,d.2≤z∧z < d.1.2)→∃ d∈Dn,d.2≤a∧a < d.1.2:=fun a z hz ⟨d,hd,k1,k2⟩=>by
      by_cases hua:x∈usesI l (a:Int)
      · have haC : a < ptCount l := by
          cases e:ptLoc l a with
          | none=>
            exfalso
            have e2:ptLocI l (a:Int)=none:=by unfold ptLocI;rw [if_neg (by omega),Int.toNat_natCast];exact e
            unfold usesI at hua
            rw [atI_none e2] at hua
            cases hua
          | some r=>
            obtain ⟨i,k⟩:=r
            obtain ⟨b,hb,hk,rfl⟩:=ptLoc_some e
            exact pt_lt hb hk
        have h1:=(h.all (a,a+1)).2 (.inl ⟨a,haC,hua,rfl⟩)
        have h1:=h1.elim (fun k=>by cases k) id
        obtain ⟨d',hd',e⟩:=List.mem_map.1 h1
        obtain ⟨j,_,_,_,k4,_⟩:=h.dn d' hd'
        rw [e] at k4
        refine ⟨d',hd',?_,by rw [e];exact Nat.lt_succ_self _⟩
        rcases k4.one with e2 | ⟨z',_,hz',e2⟩
        · rename_i k5 k6 _
          have k5:ptFirst l j < d'.1.2:=k5
          rw [e] at k5
          have:ptFirst l j < a+1:=k5
          omega
        · have:z'.1 < a:=hz'
          omega
      · unfold lvN at hz
        split at hz
        · cases hz
        · rename_i hda
          have hs:siteW l x a=none:=by unfold siteW;rw [if_neg hua,if_neg hda]
          obtain ⟨j,hj,k5,k6,k4,k7⟩:=h.dn d hd
          cases e:ptLoc l a with
          | none=>
            exfalso
            have e2:ptLocI l (a:Int)=none:=by unfold ptLocI;rw [if_neg (by omega),Int.toNat_natCast];exact e
            rw [nxN_mem,next_none e2] at hz
            cases hz
          | some r=>
            obtain ⟨i,k⟩:=r
            obtain ⟨b,hb,hk,rfl⟩:=ptLoc_some e
            have hil:=(List.getElem?_eq_some_iff.1 hb).1
            have hup:=ptFirst_up hb
            unfold ptN at hup
            have hlow:=k4.low
            by_cases hks:k < b.stmts.length
            · have hz1:=(nx_stmt e hb hks).1 hz
              subst hz1
              have eij:i=j:=by
                rcases Nat.lt_trichotomy i j with h3 | h3 | h3
                · have:=ptFirst_mono l (show i+1≤j from h3);omega
                · exact h3
                · have:=ptFirst_mono l (show j+1≤i from h3);omega
              subst eij
              refine ⟨d,hd,?_,by omega⟩
              rcases k4.one with e2 | ⟨z',hz',_,e2⟩
              · omega
              · refine Decidable.by_contra fun hn=>?_
                have e3:z'.1=ptFirst l i+k:=by omega
                obtain ⟨zp,zu⟩:=z'
                have e3:zp=ptFirst l i+k:=e3
                subst e3
                rw [(sitesW_mem.1 hz').2] at hs
                cases hs
            · obtain ⟨j',hj',e2⟩:=(nx_term e hb hks).1 hz
              subst e2
              have hjl:=bN_lt hj'
              have ejj:j'=j:=by
                rcases Nat.lt_trichotomy j' j with h3 | h3 | h3
                · have:=ptFirst_lt (l:=l) h3 (Nat.le_of_lt hj);omega
                · exact h3
                · have:=ptFirst_mono l (show j+1≤j' from h3);omega
              subst ejj
              have hX:=(k7 (by omega) i hil hj').elim id fun k=>by cases k
              have h1:=(h.all (ptFirst l (i+1),ptFirst l (i+1))).2 (.inr ⟨i,hX,rfl⟩)
              have h1:=h1.elim (fun k=>by cases k) id
              obtain ⟨d',hd',e4⟩:=List.mem_map.1 h1
              obtain ⟨j2,hj2,m5,m6,m4,_⟩:=h.dn d' hd'
              rw [e4] at m4 m5 m6
              have m5:ptFirst l j2 < ptFirst l (i+1):=m5
              refine ⟨d',hd',?_,by rw [e4];show ptFirst l i+k < ptFirst l (i+1);omega⟩
              rcases m4.one with e2 | ⟨z',hz',hz2,e2⟩
              · have : j2 ≤ i := by
                  refine Decidable.by_contra fun hn=>?_
                  have:=ptFirst_mono l (show i+1≤j2 by omega)
                  omega
                have:=ptFirst_mono l this
                omega
              · refine Decidable.by_contra fun hn=>?_
                obtain ⟨zp,zu⟩:=z'
                have hz2:zp < ptFirst l (i+1):=hz2
                have e2:d'.2=zp+1:=e2
                have e3:zp=ptFirst l i+k:=by omega
                subst e3
                rw [(sitesW_mem.1 hz').2] at hs
                cases hs
    have fwd:∀ q,RchL (lvN l x) [y] q→(∃ d∈Dn,d.2≤q∧q < d.1.2)→∃ d∈Dn,d.2≤y∧y < d.1.2:=fun q hq=>by
      induction hq with
      | base h0=>rw [List.mem_singleton.1 h0];exact id
      | step _ k ih=>exact fun hz=>ih (back _ _ k hz)
    refine fwd q hq ?_
    have hqC:q < ptCount l:=by
      cases e:ptLoc l q with
      | none=>
        exfalso
        have e2:ptLocI l (q:Int)=none:=by unfold ptLocI;rw [if_neg (by omega),Int.toNat_natCast];exact e
        unfold usesI at hu
        rw [atI_none e2] at hu
        cases hu
      | some r=>
        obtain ⟨i,k⟩:=r
        obtain ⟨b,hb,hk,rfl⟩:=ptLoc_some e
        exact pt_lt hb hk
    have h1:=((h.all (q,q+1)).2 (.inl ⟨q,hqC,hu,rfl⟩)).elim (fun k=>by cases k) id
    obtain ⟨d',hd',e⟩:=List.mem_map.1 h1
    obtain ⟨j,_,k5,_,k4,_⟩:=h.dn d' hd'
    rw [e] at k4 k5
    have k5:ptFirst l j < q+1:=k5
    refine ⟨d',hd',?_,by rw [e];exact Nat.lt_succ_self _⟩
    rcases k4.one with e2 | ⟨z',_,hz',e2⟩
    · omega
    · have:z'.1 < q:=hz'
      omega
  by_cases hL:LiveP l x p
  · rw [if_pos (lvB_iff.2 hL)]
    obtain ⟨d,hd,h1,h2⟩:=hcl p hp hL
    refine one_countW hnd ⟨d,hd,decide_eq_true ⟨h1,h2⟩⟩ fun a ha b hb hPa hPb=>?_
    obtain ⟨a1,a2⟩:=of_decide_eq_true hPa
    obtain ⟨b1,b2⟩:=of_decide_eq_true hPb
    obtain ⟨j,hj,k5,k6,k4,_⟩:=h.dn a ha
    obtain ⟨j',hj',m5,m6,m4,_⟩:=h.dn b hb
    have l1:=k4.low
    have l2:=m4.low
    have ejj:j'=j:=by
      rcases Nat.lt_trichotomy j' j with h3 | h3 | h3
      · have:=ptFirst_mono l (show j'+1≤j from h3);omega
      · exact h3
      · have:=ptFirst_mono l (show j+1≤j' from h3);omega
    subst ejj
    -- no site from p up to the run's raw start
    have ns:∀ (d:RunW×Nat),BackW (sitesW l x (ptCount l)) (ptFirst l j') d.1.1 d.2→d.2≤p→∀ q,p≤q→q < d.1.1→q < ptCount l→siteW l x q=none:=fun d k h1 q h2 h3 h4=>no_siteW k (by omega) h3 h4
    have n1:=ns a k4 a1
    have n2:=ns b m4 b1
    have hF:=ptFirst_le l (j'+1)
    rcases hit a ha with ⟨q,hq,hu,ea⟩ | ⟨i,hi,ea⟩ <;> rcases hit b hb with ⟨q',hq',hu',eb⟩ | ⟨i',hi',eb⟩ <;> rw [ea] at a2 n1 k5 k6 <;> rw [eb] at b2 n2 m5 m6 <;> rw [ea,eb] <;> simp only [] at a2 b2 n1 n2 k5 k6 m5 m6
    · rcases Nat.lt_trichotomy q q' with h3 | h3 | h3
      · have:=n2 q (by omega) h3 hq
        rw [siteW_yes hu] at this
        cases this
      · rw [h3]
      · have:=n1 q' (by omega) h3 hq'
        rw [siteW_yes hu'] at this
        cases this
    · have e1 : i' = j' := by
        have:=(h.xok i' hi').1
        rcases Nat.lt_trichotomy i' j' with h3 | h3 | h3
        · have:=ptFirst_mono l (show i'+1≤j' from h3);omega
        · exact h3
        · have:=ptFirst_lt (l:=l) (show j'+1 < i'+1 by omega) (by omega);omega
      subst e1
      have:=n2 q (by omega) (by omega) hq
      rw [siteW_yes hu] at this
      cases this
    · have e1 : i = j' := by
        have:=(h.xok i hi).1
        rcases Nat.lt_trichotomy i j' with h3 | h3 | h3
        · have:=ptFirst_mono l (show i+1≤j' from h3);omega
        · exact h3
        · have:=ptFirst_lt (l:=l) (show j'+1 < i+1 by omega) (by omega);omega
      subst e1
      have:=n1 q' (by omega) (by omega) hq'
      rw [siteW_yes hu'] at this
      cases this
    · have e1 : i = j' := by
        have:=(h.xok i hi).1
        rcases Nat.lt_trichotomy i j' with h3 | h3 | h3
        · have:=ptFirst_mono l (show i+1≤j' from h3);omega
        · exact h3
        · have:=ptFirst_lt (l:=l) (show j'+1 < i+1 by omega) (by omega);omega
      have e2:i'=j':=by
        have:=(h.xok i' hi').1
        rcases Nat.lt_trichotomy i' j' with h3 | h3 | h3
        · have:=ptFirst_mono l (show i'+1≤j' from h3);omega
        · exact h3
        · have:=ptFirst_lt (l:=l) (show j'+1 < i'+1 by omega) (by omega);omega
      rw [e1,e2]
  · rw [if_neg (fun k=>hL (lvB_iff.1 k))]
    refine List.countP_eq_zero.2 fun d hd hP=>hL ?_
    obtain ⟨h1,h2⟩:=of_decide_eq_true hP
    obtain ⟨j,hj,k5,k6,k4,_⟩:=h.dn d hd
    exact h.live (hit d hd) hj k5 k6 k4 p h1 h2
theorem SeekW.runs (h:SeekW l x u X W Dn Pd):RunsIn (ptCount l) (runsW Dn):=fun r hr=>by
 unfold runsW at hr
 obtain ⟨d,hd,e⟩:=List.mem_filterMap.1 hr
 split at e
 ·
  injection e with e
  subst e
  obtain ⟨j,_,_,k6,_,_⟩:=h.dn d hd
  have:=ptFirst_le l (j+1)
  exact ⟨by assumption,by show d.1.2≤_;omega⟩
 ·
  cases e
end
end Go.Proofs.YteeemjmohjkdpaaGreatDoor
namespace Go.Proofs.YteeemjmohjkdpaaGreatDoor
open Go.RowKit Go.Shelf Go.Sort
def cRun (r:RunW):List Value:=[.int .i64 (r.1:Int),.int .i64 (r.2:Int)]
theorem cRun_len (r:RunW):(cRun r).length=2:=rfl
theorem cRun_one (r:RunW):∀ u∈cRun r,u.oneCell'=true:=by intro u hu;simp only [cRun,List.mem_cons,List.not_mem_nil,or_false] at hu;rcases hu with rfl | rfl <;> rfl
theorem flat_run (R:List RunW):flatK cRun 2 R.toArray=(R.flatMap cRun).toArray:=by
 refine Array.ext (by simp [flatMap_len cRun_len]) fun t h1 h2=>?_
 have h1':t < R.length*2:=by simpa using h1
 have hi:t / 2 < R.length:=by omega
 have h3:=flatMap_at (f:=cRun) cRun_len (L:=R) (i:=t / 2) (x:=R[t / 2]) (j:=t % 2) (List.getElem?_eq_getElem hi) (by omega)
 rw [show t / 2*2+t % 2=t by omega] at h3
 have h4:=get_flatK cRun 2 R.toArray t (by simpa using h1')
 rw [getElem!_pos _ t h1] at h4
 rw [h4]
 have e1:R.toArray[t / 2]! = R[t / 2]:=by simp [hi]
 rw [e1]
 have e2:(R.flatMap cRun).toArray[t]=(R.flatMap cRun)[t]'(by simpa using h2):=by simp
 rw [e2]
 have h5:=List.getElem?_eq_getElem (l:=R.flatMap cRun) (i:=t) (by simpa using h2)
 rw [h5] at h3
 have h6:(cRun R[t / 2])[t % 2]?=some ((cRun R[t / 2])[t % 2]!):=by
  rcases (show t % 2=0∨t % 2=1 by omega) with h | h <;> rw [h] <;> rfl
 rw [h6] at h3
 injection h3 with h3
 exact h3.symm
theorem cmpI_lt (x y:RunW):ltOf (fun x y:RunW=>cmpI (x.1:Int) (y.1:Int)) x y=decide (x.1 < y.1):=by
 show decide ((if (x.1:Int) < (y.1:Int) then (-1:Int) else if (y.1:Int) < (x.1:Int) then 1 else 0) < 0)=_
 by_cases h1:(x.1:Int) < (y.1:Int)
 ·
  rw [if_pos h1];have:x.1 < y.1:=by omega
  simp [this]
 ·
  rw [if_neg h1];have:¬x.1 < y.1:=by omega
  by_cases h2:(y.1:Int) < (x.1:Int) <;> simp [h2,this]
theorem swoR:SWO (ltOf fun x y:RunW=>cmpI (x.1:Int) (y.1:Int)) where
 irrefl x:=by rw [cmpI_lt];simp
 trans x y z h1 h2:=by rw [cmpI_lt] at *;simp at *;omega
 ntrans x y z h1 h2:=by rw [cmpI_lt] at *;simp at *;omega
theorem RCmp_any (x y:RunW) (w:World):Calls Tryz.prog 120 #[.agg #[.int .i64 (x.1:Int),.int .i64 (x.2:Int)],.agg #[.int .i64 (y.1:Int),.int .i64 (y.2:Int)]] w fun e w'=>e=.returned (.int .i64 (cmpI (x.1:Int) (y.1:Int)))∧∃ q os',w'=grow (w.drewN q) os':=by
 obtain ⟨x1,x2⟩:=x
 obtain ⟨y1,y2⟩:=y
 have hc:=fun w'=>cmp12e (x1:Int) (y1:Int) w'
 generalize cmpI (x1:Int) (y1:Int)=v at *
 go_enter Tryz.func120,Tryz.ntmps120
 go_wp2_with fail
 refine (hc _).mono ?_
 rintro e w1 ⟨rfl,rfl⟩
 go_wp2
 go_ret
 exact ⟨rfl,0,_,by rw [alloc_eq_grow,alloc_eq_grow,grow_grow];rfl⟩
theorem run_agg (w:World):(isAgg 94).run Tryz.prog w=.ok true w:=Tryz.isAgg94 w
theorem run_sz (w:World):(Go.sizeOf 94).run Tryz.prog w=.ok 2 w:=Tryz.sizeOf94 w
theorem SortRuns_any {w:World} {base n c:Nat} {A:Option Addr} {R:List RunW} (h:w.ownsRow base 94 2 (.slice A n c) n (R.flatMap cRun)) (hn:n≤1000000000) :
  Calls Tryz.prog 119 #[.slice A n c,.func (.func 120) #[] #[]] w fun e w'=>e=.returned (.tuple #[])∧(∃ R',R.Perm R'∧w'.ownsRow base 94 2 (.slice A n c) n (R'.flatMap cRun))∧(base≤w.heap.size→Below base w w'):=by
 have hl:R.length=n:=by
  have h1:=h.1
  rw [flatMap_len cRun_len] at h1
  omega
 rcases h.2 with ⟨h0,hx⟩ | ⟨g,cap,cur,hv,hbase,hb,h1,h2,h3,h4⟩
 ·
  injection h0 with e1 e2 e3
  subst e1 e2 e3
  refine (AnyF.slices_SortFunc_none Tryz.sortRun none 0 _ w).mono ?_
  rintro e w' ⟨rfl,rfl⟩
  exact ⟨rfl,⟨R,List.Perm.refl _,h⟩,fun _=>Go.RowKit.Below.refl _ _⟩
 ·
  injection hv with e1 e2 e3
  subst e1 e3
  subst hl
  have hg:g < w.heap.size:=(Array.getElem?_eq_some_iff.1 hb).1
  have hf:(R.flatMap cRun).length=R.length*2:=flatMap_len cRun_len R
  have hH:HoldsK cRun 2 w g 0 R.toArray:=by
   unfold HoldsK
   rw [flat_run]
   intro j hj
   have hj':j < (R.flatMap cRun).length:=by simpa using hj
   refine ⟨?_,by simp [World.frozen?,hb]⟩
   have h5:(cur.toList.take (R.length*2))[j]?=(R.flatMap cRun)[j]?:=by rw [h4]
   rw [List.getElem?_take_of_lt (by omega)] at h5
   simp only [World.cell?,hb,Nat.zero_add]
   simp only [Option.isSome_none,Bool.false_eq_true,if_false]
   rw [←Array.getElem?_toList,h5]
   simp [List.getElem?_eq_getElem hj',hj']
  have hcon:=AnyQ.slices_SortFunc Tryz.sortRun 2 run_agg run_sz cRun (fun _=>rfl) (fun x v hv=>cRun_one x v hv) (fun x y:RunW=>cmpI (x.1:Int) (y.1:Int)) swoR 120 #[] g 0 c R.toArray w (enters_of Tryz.func120 (by kernel_rfl) rfl) (fun _ _ _ _ x y=>RCmp_any x y _) hH hg (by simp;omega)
  change Calls Tryz.prog 119 _ _ _ at hcon
  have hsz:R.toArray.size=R.length:=by simp
  rw [hsz] at hcon
  refine hcon.mono ?_
  rintro e w' ⟨rfl,d',m,os,hp,_,rfl⟩
  obtain ⟨R',rfl⟩:∃ R':List RunW,d'=R'.toArray:=⟨d'.toList,by simp⟩
  have hpl:R'.length=R.length:=by have:=hp.1;simpa using this
  have hpm:R.Perm R':=by
   have h5:=hp.2.2
   simp at h5
   have h6:=h5.symm
   rwa [List.take_of_length_le (by omega)] at h6
  have hf':(R'.flatMap cRun).length=R.length*2:=by rw [flatMap_len cRun_len,hpl]
  have hw:sortWorldK cRun 2 w g 0 m R'.toArray os=grow (putRow id (Sort.ahead w m) g 0 (R'.flatMap cRun).toArray) os:=by
   unfold sortWorldK putRowK
   rw [flat_run]
  rw [hw]
  have hheap:(grow (putRow id (Sort.ahead w m) g 0 (R'.flatMap cRun).toArray) os).heap[g]?=some (.cells (putCells id 0 (R'.flatMap cRun).toArray cur) 94 (0,0)):=by
   rw [heap_grow_old _ _ (by simpa using hg)]
   simp [putRow,mapBlock,Sort.ahead,Array.getElem?_modify,hb,onCells]
  have hgr:w.grownBy (grow (putRow id (Sort.ahead w m) g 0 (R'.flatMap cRun).toArray) os) (some g):=by
   refine ⟨rfl,rfl,rfl,by simp,fun k hk hne=>?_⟩
   rw [heap_grow_old _ _ (by simpa using hk)]
   have:g≠k:=fun e=>hne (by rw [e])
   simp [putRow,mapBlock,Sort.ahead,Array.getElem?_modify,this]
  refine ⟨rfl,⟨R',hpm,⟨hf',.inr ⟨g,c,_,rfl,hbase,hheap,h1,h2,by simp [putCells,h3],?_⟩⟩⟩,fun hs=>(Go.RowKit.Below.refl base w).grown hgr hs (fun j hj=>by cases hj;exact hbase)⟩
  apply List.ext_getElem?
  intro j
  by_cases hj:j < R.length*2
  ·
   rw [List.getElem?_take_of_lt hj,Array.getElem?_toList]
   have:j < (R'.flatMap cRun).length:=by omega
   simp [putCells,this,show j < cur.size by omega,hj,hf']
  ·
   rw [List.getElem?_take_eq_none (by omega),List.getElem?_eq_none (by omega)]
end Go.Proofs.YteeemjmohjkdpaaGreatDoor
