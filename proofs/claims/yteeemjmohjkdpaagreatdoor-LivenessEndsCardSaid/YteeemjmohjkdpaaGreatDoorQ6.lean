/- Part 7 of the contracts and their mathematics. -/
import Derived.Test.YteeemjmohjkdpaaGreatDoorQ5
set_option linter.unusedVariables false
set_option linter.unusedSimpArgs false
set_option maxRecDepth 100000
set_option maxHeartbeats 4000000
namespace Go.Proofs.YteeemjmohjkdpaaGreatDoor
open Go.RowKit
def RowE (w:World) (R:List TyW) (e:Ending) (w':World):Prop:=∃ A m c,e=.returned (.slice A m c)∧m≤c∧c≤maxLen∧w'.ownsRow w.heap.size 65 5 (.slice A m c) m (R.flatMap c5)∧m=R.length∧Below w.heap.size w w'
theorem RReferences_any {At Al:Option Addr} {nt ct nl cl:Nat} {L:List TyW} {LL:List LcW} {x:PlW} {r:Int} {w:World} (h:Pl8 w At Al nt nl L LL x r) {k:Nat} {lc:LcW} (hk:x.l=(k:Int)) (hlc:LL[k]?=some lc) (hp0:plErr x.l x.ps=0) (he:(goL (tys L) lc.ty x.ps).2=0) :
  Calls Tryz.prog 178 #[.slice At nt ct,.slice Al nl cl,aggPl x] w (RowE w (refTo L (tys L) lc.ty x.ps x.ps.length)):=by
 obtain ⟨i0,hi,hz0,hz1,hz2⟩:=info_parts infoTy
 have hB0:=(Below.refl w.heap.size w).alloc (Nat.le_refl _) (.cells #[.int .i64 x.l,.slice x.A x.n x.c] 58)
 have HB0:=hide hB0
 have HBX:=hide (heap_alloc_new w (.cells #[.int .i64 x.l,.slice x.A x.n x.c] 58))
 have H:=hide fun w' (hb:Below w.heap.size w w')=>h.up hb
 have HWW:=hide (h.way hk hlc)
 have hpl:x.ps.length=x.n:=h.one.prs.len
 have HST:=hide fun (j:Nat) (hj:j≤x.n)=>(show Stp (tys L) lc.ty x.ps x.ps.length from ⟨Nat.le_refl _,by unfold erA;rw [goL_take_all];exact he⟩).down (show j≤x.ps.length by omega)
 have HTY:=hide fun (j:Nat) (hj:j≤x.n)=>(show tyOfP (tys L) (lcs LL) x.l (x.ps.take j)=(tyA (tys L) lc.ty x.ps j,erA (tys L) lc.ty x.ps j) from tyOfP_in (plErr_take hp0 j) hk (lcs_at hlc))
 have hp32:=(plErr_zero.1 hp0).2.1
 have HRT:=hide fun (j:Nat) (w':World) (hj:j≤x.n) (hb:Below w.heap.size w w')=>(show Calls Tryz.prog 138 #[.slice At nt ct,.slice Al nl cl,.agg #[.int .i64 x.l,.slice x.A j x.c]] w' fun e w''=>e=.returned (.tuple #[.int .i64 (tyA (tys L) lc.ty x.ps j),.int .i64 0])∧Below w'.heap.size w' w'' from by
  have h2:=RTypeOf_is (ct:=ct) (cl:=cl) ((h.up hb).take hj) (HTY.out j hj)
  rw [(HST.out j hj).ok] at h2
  exact h2)
 have hnc:=h.one.nc
 have hcm:=h.one.cm
 have hntm:=h.nt
 obtain ⟨l,A,n,c,ps⟩:=x
 simp only [] at hpl hp32 hnc hcm HRT HST HBX
 have HS:=hide fun w' (h:Below (w.alloc (.cells #[.int .i64 l,.slice A n c] 58)).heap.size (w.alloc (.cells #[.int .i64 l,.slice A n c] 58)) w')=>show Below (w.alloc (.cells #[.int .i64 l,.slice A n c] 58)).heap.size (w.alloc (.cells #[.int .i64 l,.slice A n c] 58)) w'∧w'.cell? ⟨w.heap.size,0,none⟩=some (.int .i64 l)∧w'.cell? ⟨w.heap.size,1,none⟩=some (.slice A n c) from
  ⟨h,cell_of_heap ((h.block w.heap.size (by simp)).trans HBX.out) 0,cell_of_heap ((h.block w.heap.size (by simp)).trans HBX.out) 1⟩
 have HPL:=hide hpl
 unfold maxLen at hcm hntm
 have hB1:=hide (show (w.alloc (.cells #[.int .i64 l,.slice A n c] 58)).heap.size=w.heap.size+1 by simp)
 clear h hB0 hlc hp0 he hpl HBX HTY hk
 go_enter Tryz.func178,Tryz.ntmps178
 go_wp2
 go_loopw [7,8] (fun v i wr=>∃ (j m:Nat),i=.int .i64 (j:Int)∧j≤n∧wr.ownsRow (w.heap.size+1) 65 5 v m ((refTo L (tys L) lc.ty ps j).flatMap c5)∧Hid (m=(refTo L (tys L) lc.ty ps j).length)∧Below (w.alloc (.cells #[.int .i64 l,.slice A n c] 58)).heap.size (w.alloc (.cells #[.int .i64 l,.slice A n c] 58)) wr) (fun _ i _=>n - (intOf i).toNat)
 case atStart=>exact ⟨0,0,rfl,Nat.zero_le _,World.ownsRow_nil _ _ _ _,rfl,Below.refl _ _⟩
 case round=>
  obtain ⟨j,m,rfl,hj,hown,HM,hb⟩:=hrel
  obtain ⟨A2,c2,rfl,hm1,hc1⟩:=ownsRow_shape3 hown
  have HO:=hide hown
  have HB:=hide hb
  obtain ⟨_,z0,z1⟩:=HS.out _ hb
  have hsz:w.heap.size+1≤wr.heap.size:=by have:=hb.size;simpa using this
  have HBW:=hide (HB0.out.trans (hb.mono HB0.out.size))
  have hm40:m≤40:=by
   have h1:=HM.out
   have h2:=refTo_len L (tys L) lc.ty ps j
   have h3:=HPL.out
   omega
  unfold maxLen at hc1
  clear hown hb
  by_cases hlt:j < n
  ·
   have hlt':(j:Int) < (n:Int):=by omega
   have hjc:j≤c:=by omega
   have hjc':(j:Int)≤(c:Int):=by omega
   have hj0:(0:Int)≤(j:Int):=by omega
   obtain ⟨p,hp⟩:∃ p,ps[j]?=some p:=⟨_,List.getElem?_eq_getElem (by have:=HPL.out;omega)⟩
   obtain ⟨b2,o2,hA,_,_,d0,d1⟩:=(H.out wr HBW.out).one.prs.at_ hp
   simp only [] at hA
   subst hA
   obtain ⟨pk,pf⟩:=p
   simp only [] at d0 d1
   by_cases h0:pk=0
   ·
    subst h0
    obtain ⟨i,u,hti,hu⟩:=(HST.out j (by omega)).lt HWW.out.ok HWW.out.t0 (by rw [tys_len];exact HWW.out.t1)
    obtain ⟨y,hy,hyt⟩:=tys_back hu
    have HN:=hide (refTo_yes (G:=L) hp rfl hti hy)
    have HRJ:=hide fun w' hb=>HRT.out j w' (by omega) hb
    rw [hti] at HRJ
    have hin:i < nt:=by have:=(List.getElem?_eq_some_iff.1 hy).1;have:=(H.out w (Below.refl _ _)).typs.len;omega
    have hin':(i:Int) < (nt:Int):=by omega
    obtain ⟨b,o,rfl,hbb,_,e0,e1,e2,e3,e4⟩:=(H.out wr HBW.out).typs.at_ hy
    obtain ⟨⟨k0,mu,r0,el,fs⟩,Af,nf,cf⟩:=y
    simp only [] at e0 e1 e2 e3 e4
    have HR:=hide fun (w':World) (hb:Below wr.heap.size wr w')=>show w'.cell? ⟨b,o+i*5,none⟩=some (.int .i64 k0)∧w'.cell? ⟨b,o+i*5+1,none⟩=some (.bool mu)∧w'.cell? ⟨b,o+i*5+2,none⟩=some (.int .i64 r0)∧w'.cell? ⟨b,o+i*5+3,none⟩=some (.int .i64 el)∧w'.cell? ⟨b,o+i*5+4,none⟩=some (.slice Af nf cf) from
     ⟨(hb.cell (p:=⟨b,o+i*5,none⟩) hbb).trans e0,(hb.cell (p:=⟨b,o+i*5+1,none⟩) hbb).trans e1,(hb.cell (p:=⟨b,o+i*5+2,none⟩) hbb).trans e2,(hb.cell (p:=⟨b,o+i*5+3,none⟩) hbb).trans e3,(hb.cell (p:=⟨b,o+i*5+4,none⟩) hbb).trans e4⟩
    have HSR:=hide fun (w':World) (hb:Below wr.heap.size wr w')=>show Below wr.heap.size wr w'∧w'.cell? ⟨w.heap.size,0,none⟩=some (.int .i64 l)∧w'.cell? ⟨w.heap.size,1,none⟩=some (.slice (some ⟨b2,o2,none⟩) n c) from ⟨hb,(HS.out _ (HB.out.trans (hb.mono HB.out.size))).2⟩
    clear hp hti hu hy hyt e0 e1 e2 e3 e4
    go_wp2
    go_region_held3 (fun w'=>Below wr.heap.size wr w'∧w'.cell? ⟨w.heap.size,0,none⟩=some (.int .i64 l)∧w'.cell? ⟨w.heap.size,1,none⟩=some (.slice (some ⟨b2,o2,none⟩) n c))
     (first | exact HSR.out _ (by assumption) | exact HSR.out _ (Below.refl _ _) | exact HSR.out _ (Below.refl _ _).drew)
     (first
      | (go_at_call 138;go_split_ands;refine (HRJ.out _ (HBW.out.trans (Below.mono (by assumption:Below wr.heap.size wr _) HBW.out.size))).mono ?_;rintro e w4 ⟨rfl,hb0⟩;have hb4:=Below.trans (by assumption:Below wr.heap.size wr _) (hb0.mono (Below.size (by assumption:Below wr.heap.size wr _)))))
    all_goals
     go_split_ands
     have hb4':=(by assumption:Below wr.heap.size wr w4)
     have HB4:=hide hb4'
     have hs4:=hb4'.size
     obtain ⟨r0',r1,r2,r3,r4⟩:=HR.out _ hb4'
     have HO4:=hide (ownsRow_below HO.out hb4')
     have HBT:=hide (HB.out.trans (hb4'.mono HB.out.size))
     clear hb4'
     go_wp2_with (at_builtin;refine wpList_append_own_at _ rfl (.tmp 38) (.tmp 43) 24 rfl (w.heap.size+1) 65 i0 (.agg #[.int .i64 0,.bool false,.int .i64 0,.int .i64 0,.slice none 0 0]) 5 56 Tryz.underlying24 hi hz0 hz1 hz2 rfl (by decide) _ m _ rfl (HO4.out.alloc _) ⟨w4.heap.size,0,none⟩ 1 1 (c5 ⟨⟨k0,mu,r0,el,fs⟩,Af,nf,cf⟩) rfl rfl (news_new8 w4 [.int .i64 k0,.bool mu,.int .i64 r0,.int .i64 el,.slice Af nf cf] 65) (c5_one _) (by unfold maxLen;omega) (by omega) (by simp;omega) ?_;intro v5 w5 hown5 hg5 _ hat5;have HO5:=hide hown5;have HB5:=hide (below_app (base:=w.heap.size+1) (show Below (w.heap.size+1) _ _ from hB1.out ▸ HBT.out.alloc HBT.out.size _) (HO4.out.alloc _) (by simp;omega) hg5);clear hown5 hg5 hat5)
     go_roundw
     case rel=>
      refine ⟨j+1,m+1,by go_num,by omega,?_,(show m+1=_ by rw [HN.out,List.length_append,List.length_singleton,← HM.out]),hB1.out ▸ HB5.out⟩
      rw [HN.out,List.flatMap_append,List.flatMap_cons,List.flatMap_nil,List.append_nil]
      exact HO5.out
     case measure=>simp [intOf];omega
   ·
    have tp:(pk == 0)=false:=by simpa using h0
    have HN:=hide (show refTo L (tys L) lc.ty ps (j+1)=refTo L (tys L) lc.ty ps j from refTo_no fun q hq=>by
     rw [hp] at hq
     injection hq with hq
     rw [←hq]
     exact h0)
    clear hp h0
    go_wp2
    go_roundw
    case rel=>exact ⟨j+1,m,by go_num,by omega,by rw [HN.out];exact HO.out,(show m=_ by rw [HN.out,← HM.out]),HB.out⟩
    case measure=>simp [intOf];omega
  ·
   obtain rfl:j=n:=by omega
   have HF:=hide (show wr.ownsRow w.heap.size 65 5 (.slice A2 m c2) m ((refTo L (tys L) lc.ty ps ps.length).flatMap c5)∧m=(refTo L (tys L) lc.ty ps ps.length).length from by
    rw [HPL.out]
    exact ⟨ownsRow_base HO.out (by omega),HM.out⟩)
   go_wp2
   go_ret
   exact ⟨A2,m,c2,rfl,hm1,hc1,HF.out.1,HF.out.2,HBW.out⟩
theorem RRefs_typs {At Al:Option Addr} {nt ct nl cl:Nat} {L:List TyW} {LL:List LcW} {x:PlW} {r:Int} {w:World} (h:Pl8 w At Al nt nl L LL x r) (hv:(tyOfP (tys L) (lcs LL) x.l x.ps).2=0) :
  Calls Tryz.prog 178 #[.slice At nt ct,.slice Al nl cl,aggPl x] w fun e w'=>∃ A m c R,e=.returned (.slice A m c)∧tys R=refP (tys L) (lcs LL) x.l x.ps∧m≤40∧Typs w' w'.heap.size A m R∧Below w.heap.size w w':=by
 obtain ⟨hp0,k,t,hk,ht,hg⟩:=tyOfP_zero hv
 have hkl:=(List.getElem?_eq_some_iff.1 ht).1
 rw [lcs_len] at hkl
 obtain ⟨lc,hlc⟩:∃ lc,LL[k]?=some lc:=⟨_,List.getElem?_eq_getElem hkl⟩
 have ht2:=lcs_at hlc
 rw [ht] at ht2
 injection ht2 with ht2
 subst ht2
 rw [hg] at hv
 refine (RReferences_any (ct:=ct) (cl:=cl) h hk hlc hp0 hv).mono ?_
 rintro e w' ⟨A,m,c,rfl,_,_,hrow,hm,hb⟩
 refine ⟨A,m,c,refTo L (tys L) lc.ty x.ps x.ps.length,rfl,?_,?_,⟨Cells.of_own c5_len (by decide) hrow,fun y hy=>?_⟩,hb⟩
 ·
  rw [tys_refTo]
  unfold refP
  rw [hg,if_pos hv,hk,Int.toNat_natCast,List.getD_eq_getElem?_getD,ht]
  rfl
 ·
  have h1:=refTo_len L (tys L) lc.ty x.ps x.ps.length
  have h2:=(plErr_zero.1 hp0).2.1
  omega
 ·
  exact ((h.typs.one y (refTo_mem hy)).below hb).more hb.size
theorem RMutable_any {At Al:Option Addr} {nt ct nl cl:Nat} {L:List TyW} {LL:List LcW} {x:PlW} {r:Int} {w:World} (h:Pl8 w At Al nt nl L LL x r) :
    Calls Tryz.prog 139 #[.slice At nt ct,.slice Al nl cl,aggPl x] w fun e w'=>e=.returned (.bool (mutP (tys L) (lcs LL) x.l x.ps))∧Below w.heap.size w w':=by
  have hB0:=(Below.refl w.heap.size w).alloc (Nat.le_refl _) (.cells #[.int .i64 x.l,.slice x.A x.n x.c] 58)
  have HB0:=hide hB0
  obtain ⟨u,v,hv⟩:∃ u v,tyOfP (tys L) (lcs LL) x.l x.ps=(u,v):=⟨_,_,rfl⟩
  have HC:=hide (RTypeOf_is (ct:=ct) (cl:=cl) (h.up hB0) hv)
  have HBX:=hide (heap_alloc_new w (.cells #[.int .i64 x.l,.slice x.A x.n x.c] 58))
  obtain ⟨mm,hmm⟩:∃ mm,mutP (tys L) (lcs LL) x.l x.ps=mm:=⟨_,rfl⟩
  rw [hmm]
  by_cases hv0:v=0
  · subst hv0
    have HR:=hide fun w' (hb:Below w.heap.size w w')=>RRefs_typs (ct:=ct) (cl:=cl) (h.up hb) (by rw [hv])
    have HMM:=hide (show ∀ R:List TyW,tys R=refP (tys L) (lcs LL) x.l x.ps→R.all (fun y=>y.t.mut_)=mm from fun R hR=>by
      rw [←hmm]
      unfold mutP
      rw [hv,← hR,List.all_map]
      simp
      rfl)
    obtain ⟨l,A,n,c,ps⟩:=x
    clear h hB0 hv hmm
    go_enter Tryz.func139,Tryz.ntmps139
    go_wp2_with fail
    refine HC.out.mono ?_
    rintro e w1 ⟨rfl,hb1⟩
    have HB1:=hide (HB0.out.trans (hb1.mono HB0.out.size))
    have hbX:=(hb1.block w.heap.size (by simp)).trans HBX.out
    have z0:=cell_of_heap hbX 0
    have z1:=cell_of_heap hbX 1
    clear hb1 hbX
    go_wp2_with fail
    refine (HR.out _ HB1.out).mono ?_
    rintro e w2 ⟨A1,m,c1,R,rfl,hR,hm,hT,hb2⟩
    have HB2:=hide (HB1.out.trans (hb2.mono HB1.out.size))
    have HF:=hide (HMM.out R hR)
    have HT:=hide hT
    have HL:=hide hT.len
    clear hb2 hR hT
    go_wp2
    go_loop [10] (fun i=>∃ j:Nat,i=.int .i64 (j:Int)∧j≤m∧Hid (∀ t x,t < j→R[t]?=some x→x.t.mut_=true)) (fun i=>m - (intOf i).toNat)
    case atStart=>exact ⟨0,rfl,Nat.zero_le _,fun t x h=>absurd h (Nat.not_lt_zero _)⟩
    case round=>
      obtain ⟨j,rfl,hj,HE⟩:=hrel
      by_cases hlt:j < m
      · have hlt':(j:Int) < (m:Int):=by omega
        obtain ⟨y,hy⟩:∃ y,R[j]?=some y:=⟨_,List.getElem?_eq_getElem (by have:=HL.out;omega)⟩
        obtain ⟨b,o,rfl,_,_,d0,d1,d2,d3,d4⟩:=HT.out.at_ hy
        have HY:=hide hy
        obtain ⟨⟨k0,mu,r0,el,fs⟩,Af,nf,cf⟩:=y
        simp only [] at d0 d1 d2 d3 d4
        clear hy
        cases mu
        · have HF2 := hide (show mm = false from by
            rw [←HF.out,← Bool.not_eq_true,List.all_eq_true]
            exact fun h=>by cases h _ (List.mem_of_getElem? HY.out))
          go_wp2
          go_ret
          exact ⟨congrArg (fun v=>Ending.returned (.bool v)) HF2.out.symm,HB2.out⟩
        · have HN := hide (show ∀ t x, t < j + 1 → R[t]? = some x → x.t.mut_ = true from fun t x ht hx => by
            rcases Nat.lt_or_ge t j with h1 | h1
            · exact HE.out t x h1 hx
            · obtain rfl:t=j:=by omega
              rw [HY.out] at hx
              injection hx with hx
              rw [←hx])
          go_wp2
          go_round
          case rel=>exact ⟨j+1,by go_num,by omega,HN.out⟩
          case measure=>simp [intOf];omega
      · obtain rfl:j=m:=by omega
        have HF2:=hide (show mm=true from by
          rw [←HF.out,List.all_eq_true]
          intro y hy
          obtain ⟨t,ht⟩:=List.getElem?_of_mem hy
          exact HE.out t y (by have:=(List.getElem?_eq_some_iff.1 ht).1;have:=HL.out;omega) ht)
        go_wp2
        go_ret
        exact ⟨congrArg (fun v=>Ending.returned (.bool v)) HF2.out.symm,HB2.out⟩
  · have tv:(v != 0)=true:=by rw [bne_iff_ne];exact hv0
    have HF:=hide (show mm=false from by
      rw [←hmm]
      unfold mutP
      simp [hv,hv0])
    obtain ⟨l,A,n,c,ps⟩:=x
    clear h hB0 hv hmm hv0
    go_enter Tryz.func139,Tryz.ntmps139
    go_wp2_with fail
    refine HC.out.mono ?_
    rintro e w1 ⟨rfl,hb1⟩
    have HB1:=hide (HB0.out.trans (hb1.mono HB0.out.size))
    clear hb1
    go_wp2
    go_ret
    exact ⟨congrArg (fun v=>Ending.returned (.bool v)) HF.out.symm,HB1.out⟩
theorem RMutable_is {At Al:Option Addr} {nt ct nl cl:Nat} {L:List TyW} {LL:List LcW} {x:PlW} {r:Int} {v:Bool} {w:World} (h:Pl8 w At Al nt nl L LL x r) (hv:mutP (tys L) (lcs LL) x.l x.ps=v) :
  Calls Tryz.prog 139 #[.slice At nt ct,.slice Al nl cl,aggPl x] w fun e w'=>e=.returned (.bool v)∧Below w.heap.size w w':=hv ▸ RMutable_any h
theorem RRegionsP_any {At Al:Option Addr} {nt ct nl cl:Nat} {L:List TyW} {LL:List LcW} {x:PlW} {r:Int} {w:World} (h:Pl8 w At Al nt nl L LL x r) :
  Calls Tryz.prog 179 #[.slice At nt ct,.slice Al nl cl,aggPl x] w (IntsOut w (regP (tys L) (lcs LL) x.l x.ps)):=by
 obtain ⟨i0,hi,hz0,hz1,hz2⟩:=info_parts infoInt
 have hB0:=(Below.refl w.heap.size w).alloc (Nat.le_refl _) (.cells #[.int .i64 x.l,.slice x.A x.n x.c] 58)
 have HB0:=hide hB0
 obtain ⟨u,v,hv⟩:∃ u v,tyOfP (tys L) (lcs LL) x.l x.ps=(u,v):=⟨_,_,rfl⟩
 have HC:=hide (RTypeOf_is (ct:=ct) (cl:=cl) (h.up hB0) hv)
 have HBX:=hide (heap_alloc_new w (.cells #[.int .i64 x.l,.slice x.A x.n x.c] 58))
 obtain ⟨rg,hrg⟩:∃ rg,regP (tys L) (lcs LL) x.l x.ps=rg:=⟨_,rfl⟩
 rw [hrg]
 by_cases hv0:v=0
 ·
  subst hv0
  have HR:=hide fun w' (hb:Below w.heap.size w w')=>RRefs_typs (ct:=ct) (cl:=cl) (h.up hb) (by rw [hv])
  have HRG:=hide (show ∀ R:List TyW,tys R=refP (tys L) (lcs LL) x.l x.ps→R.map (fun y=>y.t.region)=rg from fun R hR=>by
   rw [←hrg]
   unfold regP
   rw [←hR,List.map_map]
   rfl)
  obtain ⟨l,A,n,c,ps⟩:=x
  clear h hB0 hv hrg
  go_enter Tryz.func179,Tryz.ntmps179
  go_wp2_with fail
  refine HC.out.mono ?_
  rintro e w1 ⟨rfl,hb1⟩
  have HB1:=hide (HB0.out.trans (hb1.mono HB0.out.size))
  have hbX:=(hb1.block w.heap.size (by simp)).trans HBX.out
  have z0:=cell_of_heap hbX 0
  have z1:=cell_of_heap hbX 1
  clear hb1 hbX
  go_wp2_with fail
  refine (HR.out _ HB1.out).mono ?_
  rintro e w2 ⟨A1,m,c1,R,rfl,hR,hm,hT,hb2⟩
  have HB2:=hide (HB1.out.trans (hb2.mono HB1.out.size))
  have HF:=hide (HRG.out R hR)
  have HT:=hide hT
  have HL:=hide hT.len
  clear hb2 hR hT
  go_wp2
  go_loopw [7,11] (fun v i wr=>∃ j:Nat,i=.int .i64 (j:Int)∧j≤m∧wr.ownsRow w2.heap.size 3 1 v j (i64s ((R.take j).map fun x=>x.t.region))∧Below w2.heap.size w2 wr) (fun _ i _=>m - (intOf i).toNat)
  case atStart=>exact ⟨0,rfl,Nat.zero_le _,World.ownsRow_nil _ _ _ _,Below.refl _ _⟩
  case round=>
   obtain ⟨j,rfl,hj,hown,hb⟩:=hrel
   obtain ⟨A2,c2,rfl,hj1,hc1⟩:=ownsRow_shape3 hown
   have HO:=hide hown
   have HB:=hide hb
   have HBW:=hide (HB2.out.trans (hb.mono HB2.out.size))
   have hsz:=hb.size
   unfold maxLen at hc1
   clear hown hb
   by_cases hlt:j < m
   ·
    have hlt':(j:Int) < (m:Int):=by omega
    obtain ⟨y,hy⟩:∃ y,R[j]?=some y:=⟨_,List.getElem?_eq_getElem (by have:=HL.out;omega)⟩
    obtain ⟨b,o,rfl,_,_,d0,d1,d2,d3,d4⟩:=(HT.out.below HB.out).at_ hy
    have HUP:=hide (take_map_up (f:=fun x:TyW=>x.t.region) hy)
    obtain ⟨⟨k0,mu,rr,el,fs⟩,Af,nf,cf⟩:=y
    simp only [] at d0 d1 d2 d3 d4 HUP
    clear hy
    go_wp2_with (at_builtin;refine wpList_append_own_at _ rfl (.tmp 32) (.tmp 38) 34 rfl w2.heap.size 3 i0 (.int .i64 0) 1 8 Tryz.underlying34 hi hz0 hz1 hz2 rfl (by decide) _ j _ rfl (HO.out.alloc _) ⟨wr.heap.size,0,none⟩ 1 1 (i64s [rr]) rfl rfl (cell_int8 wr rr 3) (ints_oneCell _ _) (by unfold maxLen;omega) (by omega) (by simp;omega) ?_;intro v5 w5 hown5 hg5 _ hat5;have HO5:=hide hown5;have HB5:=hide (below_app (HB.out.alloc hsz (.cells #[.int .i64 rr] 3)) (HO.out.alloc _) (by simp;omega) hg5);clear hown5 hg5 hat5)
    go_roundw
    case rel=>
     refine ⟨j+1,by go_num,by omega,?_,HB5.out⟩
     rw [HUP.out]
     have h:=HO5.out
     rw [←List.map_append] at h
     exact h
    case measure=>simp [intOf];omega
   ·
    obtain rfl:j=m:=by omega
    have HE:=hide (show wr.ownsRow w.heap.size 3 1 (.slice A2 j c2) j (i64s rg) from by
     rw [←HF.out]
     have h:=HO.out
     rw [List.take_of_length_le (by have:=HL.out;omega)] at h
     exact ownsRow_base h (by have:=HB2.out.size;omega))
    go_wp2
    go_ret
    exact ⟨A2,j,c2,rfl,by omega,hj1,hc1,HE.out,HBW.out⟩
 ·
  have tv:(v != 0)=true:=by rw [bne_iff_ne];exact hv0
  have HF:=hide (show rg=[] from by
   rw [←hrg]
   unfold regP refP
   rw [hv,if_neg hv0]
   rfl)
  obtain ⟨l,A,n,c,ps⟩:=x
  clear h hB0 hv hrg hv0
  go_enter Tryz.func179,Tryz.ntmps179
  go_wp2_with fail
  refine HC.out.mono ?_
  rintro e w1 ⟨rfl,hb1⟩
  have HB1:=hide (HB0.out.trans (hb1.mono HB0.out.size))
  clear hb1
  go_wp2
  go_ret
  exact ⟨none,0,0,rfl,by omega,Nat.le_refl _,Nat.zero_le _,by rw [HF.out];exact World.ownsRow_nil _ _ _ _,HB1.out⟩
def wE (x:BdW):Env:=⟨tys x.types.L,lcs x.locals.L,x.outl.L,x.regions.L.length,x.blocks.L.length⟩
theorem wE_v (x:BdW):x.v.env=wE x:=by
 unfold BdV.env wE BdW.v lcs
 simp only [List.map_map,List.length_map]
 rfl
structure VB (w:World) (x:BdW):Prop where
 one:OneBd w w.heap.size x
 ok:DeOk x.v
theorem VB.up {w w':World} {x:BdW} (h:VB w x) (hb:Below w.heap.size w w'):VB w' x:=⟨h.one.up hb,h.ok⟩
theorem VB.pl8 {w:World} {x:BdW} (h:VB w x) {p:PlW} (hp:OnePl w w.heap.size p):Pl8 w x.types.A x.locals.A x.types.n x.locals.n x.types.L x.locals.L p (x.regions.L.length:Nat):=
 ⟨h.one.typs,h.one.locs,hp,h.one.types.nm,h.one.locals.nm,tyChk_iff.1 h.ok.ty,by
  have e:lcs x.locals.L=(x.v.locals.map LcV.ty):=by
   unfold lcs BdW.v
   rw [List.map_map]
   rfl
  rw [e]
  exact h.ok.lc⟩
theorem VB.nt65 {w:World} {x:BdW} (h:VB w x):x.types.n≤65535:=by
 have h1:=h.one.types.len
 have h2:=h.ok.ty
 unfold tyChk at h2
 split at h2
 ·
  cases h2
 ·
  rename_i h3
  have h4:x.v.types.length=x.types.L.length:=tys_len _
  omega
theorem VB.ty {w:World} {x:BdW} (h:VB w x) {p:PlV} (he:(tyV (wE x) p).2=0):∃ (i:Nat) (u:TyW),(tyV (wE x) p).1=(i:Int)∧x.types.L[i]?=some u:=by
 have hok:=tyChk_iff.1 h.ok.ty
 obtain ⟨h0,k,t,hk,ht,hg⟩:=tyOfP_zero (T:=tys x.types.L) (lc:=lcs x.locals.L) (l:=p.l) (ps:=p.ps) he
 have hlc:0≤t∧t < ((tys x.types.L).length:Int):=by
  have e:lcs x.locals.L=(x.v.locals.map LcV.ty):=by
   unfold lcs BdW.v
   rw [List.map_map]
   rfl
  exact h.ok.lc t (e ▸ List.mem_of_getElem? ht)
 have e1:(tyV (wE x) p)=goL (tys x.types.L) t p.ps:=hg
 have hS:Stp (tys x.types.L) t p.ps p.ps.length:=⟨Nat.le_refl _,by
  unfold erA
  rw [goL_take_all,← e1]
  exact he⟩
 obtain ⟨i,u,hi,hu⟩:=Stp.lt hok hlc.1 hlc.2 hS
 unfold tyA at hi
 rw [goL_take_all] at hi
 have hu':(x.types.L.map TyW.t)[i]?=some u:=hu
 rw [List.getElem?_map,Option.map_eq_some_iff] at hu'
 obtain ⟨y,hy,_⟩:=hu'
 exact ⟨i,y,by rw [e1];exact hi,hy⟩
theorem ty5 {w:World} {B g q n i n':Nat} {A:Option Addr} {L:List TyW} {k r e:Int} {m:Bool} {fs:List Int} {c:Nat} (h:Typs w B (some ⟨g,q,none⟩) n L) (hx:L[i]?=some ⟨⟨k,m,r,e,fs⟩,A,n',c⟩) :
  w.cell? ⟨g,q+i*5,none⟩=some (.int .i64 k)∧w.cell? ⟨g,q+i*5+1,none⟩=some (.bool m)∧w.cell? ⟨g,q+i*5+2,none⟩=some (.int .i64 r)∧w.cell? ⟨g,q+i*5+3,none⟩=some (.int .i64 e)∧w.cell? ⟨g,q+i*5+4,none⟩=some (.slice A n' c):=by
 obtain ⟨b',q',hg',_,_,c0,c1,c2,c3,c4⟩:=h.at_ hx
 injection hg' with hg'
 injection hg' with hga hgb
 subst hga hgb
 exact ⟨c0,c1,c2,c3,c4⟩
def two (w:World) (cs:List Value) (T:TypeId) (ds:List Value) (U:TypeId):World:=(w.alloc (.cells cs.toArray T)).alloc (.cells ds.toArray U)
theorem two_below (w:World) (cs:List Value) (T:TypeId) (ds:List Value) (U:TypeId):Below w.heap.size w (two w cs T ds U):=((Below.refl _ w).alloc (Nat.le_refl _) _).alloc (by simp) _
theorem two_cells {w w':World} {cs ds:List Value} {T U:TypeId} (h:Below (two w cs T ds U).heap.size (two w cs T ds U) w'):(∀ (j:Nat) (u:Value),cs[j]?=some u→w'.cell? ⟨w.heap.size,j,none⟩=some u)∧(∀ (j:Nat) (u:Value),ds[j]?=some u→w'.cell? ⟨w.heap.size+1,j,none⟩=some u):=by
 have hs:(two w cs T ds U).heap.size=w.heap.size+2:=by simp [two]
 have e1:(w.alloc (.cells cs.toArray T)).heap.size=w.heap.size+1:=by simp
 have b1:w'.heap[w.heap.size]?=_:=(h.block w.heap.size (by omega)).trans ((((Below.refl (w.heap.size+1) _).alloc (by rw [e1];exact Nat.le_refl _) _).block w.heap.size (by omega)).trans (heap_alloc_new w _))
 have b3:=heap_alloc_new (w.alloc (.cells cs.toArray T)) (.cells ds.toArray U)
 rw [e1] at b3
 have b2:=(h.block (w.heap.size+1) (by omega)).trans b3
 exact ⟨fun j u hu=>(cell_of_heap b1 j).trans (by rw [List.getElem?_toArray];exact hu),fun j u hu=>(cell_of_heap b2 j).trans (by rw [List.getElem?_toArray];exact hu)⟩
theorem tw74 {w w':World} {a0 a1 a2 a3 a4 a5 a6 b0 b1 b2 b3:Value} {T U:TypeId} (h:Below ((w.alloc (.cells #[a0,a1,a2,a3,a4,a5,a6] T)).alloc (.cells #[b0,b1,b2,b3] U)).heap.size ((w.alloc (.cells #[a0,a1,a2,a3,a4,a5,a6] T)).alloc (.cells #[b0,b1,b2,b3] U)) w'):w'.cell? ⟨w.heap.size,0,none⟩=some a0∧w'.cell? ⟨w.heap.size,1,none⟩=some a1∧w'.cell? ⟨w.heap.size,2,none⟩=some a2∧w'.cell? ⟨w.heap.size,3,none⟩=some a3∧w'.cell? ⟨w.heap.size,4,none⟩=some a4∧w'.cell? ⟨w.heap.size,5,none⟩=some a5∧w'.cell? ⟨w.heap.size,6,none⟩=some a6∧w'.cell? ⟨w.heap.size+1,0,none⟩=some b0∧w'.cell? ⟨w.heap.size+1,1,none⟩=some b1∧w'.cell? ⟨w.heap.size+1,2,none⟩=some b2∧w'.cell? ⟨w.heap.size+1,3,none⟩=some b3:=by
 obtain ⟨c,d⟩:=two_cells (cs:=[a0,a1,a2,a3,a4,a5,a6]) (ds:=[b0,b1,b2,b3]) h
 exact ⟨c 0 _ rfl,c 1 _ rfl,c 2 _ rfl,c 3 _ rfl,c 4 _ rfl,c 5 _ rfl,c 6 _ rfl,d 0 _ rfl,d 1 _ rfl,d 2 _ rfl,d 3 _ rfl⟩
theorem tw77 {w w':World} {a0 a1 a2 a3 a4 a5 a6 b0 b1 b2 b3 b4 b5 b6:Value} {T U:TypeId} (h:Below ((w.alloc (.cells #[a0,a1,a2,a3,a4,a5,a6] T)).alloc (.cells #[b0,b1,b2,b3,b4,b5,b6] U)).heap.size ((w.alloc (.cells #[a0,a1,a2,a3,a4,a5,a6] T)).alloc (.cells #[b0,b1,b2,b3,b4,b5,b6] U)) w'):w'.cell? ⟨w.heap.size,0,none⟩=some a0∧w'.cell? ⟨w.heap.size,1,none⟩=some a1∧w'.cell? ⟨w.heap.size,2,none⟩=some a2∧w'.cell? ⟨w.heap.size,3,none⟩=some a3∧w'.cell? ⟨w.heap.size,4,none⟩=some a4∧w'.cell? ⟨w.heap.size,5,none⟩=some a5∧w'.cell? ⟨w.heap.size,6,none⟩=some a6∧w'.cell? ⟨w.heap.size+1,0,none⟩=some b0∧w'.cell? ⟨w.heap.size+1,1,none⟩=some b1∧w'.cell? ⟨w.heap.size+1,2,none⟩=some b2∧w'.cell? ⟨w.heap.size+1,3,none⟩=some b3∧w'.cell? ⟨w.heap.size+1,4,none⟩=some b4∧w'.cell? ⟨w.heap.size+1,5,none⟩=some b5∧w'.cell? ⟨w.heap.size+1,6,none⟩=some b6:=by
 obtain ⟨c,d⟩:=two_cells (cs:=[a0,a1,a2,a3,a4,a5,a6]) (ds:=[b0,b1,b2,b3,b4,b5,b6]) h
 exact ⟨c 0 _ rfl,c 1 _ rfl,c 2 _ rfl,c 3 _ rfl,c 4 _ rfl,c 5 _ rfl,c 6 _ rfl,d 0 _ rfl,d 1 _ rfl,d 2 _ rfl,d 3 _ rfl,d 4 _ rfl,d 5 _ rfl,d 6 _ rfl⟩
theorem tw711 {w w':World} {a0 a1 a2 a3 a4 a5 a6 b0 b1 b2 b3 b4 b5 b6 b7 b8 b9 b10:Value} {T U:TypeId} (h:Below ((w.alloc (.cells #[a0,a1,a2,a3,a4,a5,a6] T)).alloc (.cells #[b0,b1,b2,b3,b4,b5,b6,b7,b8,b9,b10] U)).heap.size ((w.alloc (.cells #[a0,a1,a2,a3,a4,a5,a6] T)).alloc (.cells #[b0,b1,b2,b3,b4,b5,b6,b7,b8,b9,b10] U)) w'):w'.cell? ⟨w.heap.size,0,none⟩=some a0∧w'.cell? ⟨w.heap.size,1,none⟩=some a1∧w'.cell? ⟨w.heap.size,2,none⟩=some a2∧w'.cell? ⟨w.heap.size,3,none⟩=some a3∧w'.cell? ⟨w.heap.size,4,none⟩=some a4∧w'.cell? ⟨w.heap.size,5,none⟩=some a5∧w'.cell? ⟨w.heap.size,6,none⟩=some a6∧w'.cell? ⟨w.heap.size+1,0,none⟩=some b0∧w'.cell? ⟨w.heap.size+1,1,none⟩=some b1∧w'.cell? ⟨w.heap.size+1,2,none⟩=some b2∧w'.cell? ⟨w.heap.size+1,3,none⟩=some b3∧w'.cell? ⟨w.heap.size+1,4,none⟩=some b4∧w'.cell? ⟨w.heap.size+1,5,none⟩=some b5∧w'.cell? ⟨w.heap.size+1,6,none⟩=some b6∧w'.cell? ⟨w.heap.size+1,7,none⟩=some b7∧w'.cell? ⟨w.heap.size+1,8,none⟩=some b8∧w'.cell? ⟨w.heap.size+1,9,none⟩=some b9∧w'.cell? ⟨w.heap.size+1,10,none⟩=some b10:=by
 obtain ⟨c,d⟩:=two_cells (cs:=[a0,a1,a2,a3,a4,a5,a6]) (ds:=[b0,b1,b2,b3,b4,b5,b6,b7,b8,b9,b10]) h
 exact ⟨c 0 _ rfl,c 1 _ rfl,c 2 _ rfl,c 3 _ rfl,c 4 _ rfl,c 5 _ rfl,c 6 _ rfl,d 0 _ rfl,d 1 _ rfl,d 2 _ rfl,d 3 _ rfl,d 4 _ rfl,d 5 _ rfl,d 6 _ rfl,d 7 _ rfl,d 8 _ rfl,d 9 _ rfl,d 10 _ rfl⟩
abbrev bp1 (w:World) (x:BdW) (p:PlW):World:=two w (cBd x) 28 [.int .i64 p.l,.slice p.A p.n p.c] 58
theorem Rnone_any (x:PlW) (w:World) (hx:OnePl w w.heap.size x) :
  Calls Tryz.prog 100 #[aggPl x] w fun e w'=>e=.returned (.bool (noP x.v))∧Below w.heap.size w w':=by
 obtain ⟨l,A,n,c,ps⟩:=x
 have hl:ps.length=n:=hx.prs.len
 have HB:=hide ((Below.refl w.heap.size w).alloc (Nat.le_refl _) (.cells #[.int .i64 l,.slice A n c] 58))
 have hv:noP (PlW.v ⟨l,A,n,c,ps⟩)=(decide (l=0) && decide (n=0)):=by
  unfold noP PlW.v
  simp only []
  rw [hl]
 rw [hv]
 clear hv hl hx
 by_cases h0:l=0
 ·
  have t0:(l == 0)=true:=by simpa using h0
  by_cases h1:n=0
  ·
   have t1:((n:Int) == 0)=true:=by simp [h1]
   have e:(decide (l=0) && decide (n=0))=true:=by simp [h0,h1]
   rw [e]
   clear e h0 h1
   go_enter Tryz.func100,Tryz.ntmps100
   go_wp2
   go_ret
   exact ⟨rfl,HB.out⟩
  ·
   have t1:((n:Int) == 0)=false:=by rw [beq_eq_false_iff_ne];omega
   have e:(decide (l=0) && decide (n=0))=false:=by simp [h1]
   rw [e]
   clear e h0 h1
   go_enter Tryz.func100,Tryz.ntmps100
   go_wp2
   go_ret
   exact ⟨rfl,HB.out⟩
 ·
  have t0:(l == 0)=false:=by simpa using h0
  have e:(decide (l=0) && decide (n=0))=false:=by simp [h0]
  rw [e]
  clear e h0
  go_enter Tryz.func100,Tryz.ntmps100
  go_wp2
  go_ret
  exact ⟨rfl,HB.out⟩
theorem Rnone_is {x:PlW} {v:Bool} (h:noP x.v=v) (w:World) (hx:OnePl w w.heap.size x) :
  Calls Tryz.prog 100 #[aggPl x] w fun e w'=>e=.returned (.bool v)∧Below w.heap.size w w':=h ▸ Rnone_any x w hx
theorem RtypeOf_is {x:BdW} {p:PlW} {u v:Int} {w:World} (h:VB w x) (hp:OnePl w w.heap.size p) (hv:tyV (wE x) p.v=(u,v)) :
  Calls Tryz.prog 97 #[aggBd x,aggPl p] w fun e w'=>e=.returned (.tuple #[.int .i64 u,.int .i64 v])∧Below w.heap.size w w':=by
 have HB:=hide (two_below w (cBd x) 28 [.int .i64 p.l,.slice p.A p.n p.c] 58)
 have HC:=hide (RTypeOf_is (ct:=x.types.c) (cl:=x.locals.c) ((h.pl8 hp).up HB.out) hv)
 obtain ⟨hcx,hco⟩:=two_cells (Below.refl (bp1 w x p).heap.size (bp1 w x p))
 have z3:=hcx 3 _ rfl
 have z4:=hcx 4 _ rfl
 have p0:=hco 0 _ rfl
 have p1:=hco 1 _ rfl
 clear h hp hv hcx hco
 obtain ⟨nm,⟨rA,rn,rc,rL⟩,⟨oA,on,oc,oL⟩,⟨tA,tn,tc,tL⟩,⟨lA,ln,lc,lL⟩,ar,⟨bA,bn,bc,bL⟩⟩:=x
 obtain ⟨l,A,n,c,ps⟩:=p
 simp only [] at z3 z4 p0 p1
 go_enter Tryz.func97,Tryz.ntmps97
 go_wp2_with fail
 refine HC.out.mono ?_
 rintro e w1 ⟨rfl,hb1⟩
 have HB1:=hide (HB.out.trans (hb1.mono HB.out.size))
 clear hb1
 go_wp2
 go_ret2
 exact ⟨rfl,HB1.out⟩
theorem Rmutable_is {x:BdW} {p:PlW} {v:Bool} {w:World} (h:VB w x) (hp:OnePl w w.heap.size p) (hv:muV (wE x) p.v=v) :
  Calls Tryz.prog 98 #[aggBd x,aggPl p] w fun e w'=>e=.returned (.bool v)∧Below w.heap.size w w':=by
 have HB:=hide (two_below w (cBd x) 28 [.int .i64 p.l,.slice p.A p.n p.c] 58)
 have HC:=hide (RMutable_is (ct:=x.types.c) (cl:=x.locals.c) ((h.pl8 hp).up HB.out) hv)
 obtain ⟨hcx,hco⟩:=two_cells (Below.refl (bp1 w x p).heap.size (bp1 w x p))
 have z3:=hcx 3 _ rfl
 have z4:=hcx 4 _ rfl
 have p0:=hco 0 _ rfl
 have p1:=hco 1 _ rfl
 clear h hp hv hcx hco
 obtain ⟨nm,⟨rA,rn,rc,rL⟩,⟨oA,on,oc,oL⟩,⟨tA,tn,tc,tL⟩,⟨lA,ln,lc,lL⟩,ar,⟨bA,bn,bc,bL⟩⟩:=x
 obtain ⟨l,A,n,c,ps⟩:=p
 simp only [] at z3 z4 p0 p1
 go_enter Tryz.func98,Tryz.ntmps98
 go_wp2_with fail
 refine HC.out.mono ?_
 rintro e w1 ⟨rfl,hb1⟩
 have HB1:=hide (HB.out.trans (hb1.mono HB.out.size))
 clear hb1
 go_wp2
 go_ret
 exact ⟨rfl,HB1.out⟩
theorem ValFz2 {P:Prop} (h:P:=by
 refine (Rnone_is (x:=⟨l,pA,pn,pc,ps⟩) hz _ HX.out.pl).mono ?_
 rintro e w1 ⟨rfl,hb1⟩
 have HW1:=hide hb1
 clear hb1
 have HE1:=hide (HB.out.trans (HW1.out.mono HB.out.size))
 obtain ⟨x0,x1,x2,x3,x4,x5,x6⟩:=cells7 HW1.out
 go_wp2
 go_ret
 exact ⟨rfl,HE1.out⟩):P:=h
theorem ValFz3 {P:Prop} (h:P:=by
 go_enter Tryz.func101,Tryz.ntmps101
 go_wp2
 go_ret
 exact ⟨rfl,HB.out⟩):P:=h
theorem ValFz4 {P:Prop} (h:P:=by
 go_enter Tryz.func101,Tryz.ntmps101
 go_wp2_with fail
 exact ValFz2):P:=h
theorem Rblank_any (x:RvW) (w:World) (h:OneRv w w.heap.size x) :
 Calls Tryz.prog 101 #[aggRv x] w fun e w'=>e=.returned (.bool (noR x.v))∧Below w.heap.size w w':=by
 obtain ⟨k,op,rg,mu,⟨l,pA,pn,pc,ps⟩,⟨gA,gn,gc,gL⟩⟩:=x
 have hgn:gL.length=gn:=h.args.len
 obtain ⟨v,hv⟩:∃ v,noR (RvW.v ⟨k,op,rg,mu,⟨l,pA,pn,pc,ps⟩,⟨gA,gn,gc,gL⟩⟩)=v:=⟨_,rfl⟩
 rw [hv]
 unfold noR at hv
 simp only [RvW.v,List.length_map,hgn] at hv
 have HB:=hide (below1 w (.cells (cRv ⟨k,op,rg,mu,⟨l,pA,pn,pc,ps⟩,⟨gA,gn,gc,gL⟩⟩).toArray 71))
 have HX:=hide (h.up HB.out)
 clear h
 by_cases h0:k=0
 ·
  have t0:(k == 0)=true:=by simp [h0]
  by_cases h1:op=0
  ·
   have t1:(op == 0)=true:=by simp [h1]
   by_cases h2:rg=0
   ·
    have t2:(rg == 0)=true:=by simp [h2]
    cases mu
    ·
     by_cases hz:noP (PlW.v ⟨l,pA,pn,pc,ps⟩)=true
     ·
      by_cases hl:gn=0
      ·
       have tl:((gn:Int) == 0)=true:=by simp [hl]
       obtain rfl:v=true:=by
        rw [←hv]
        simp [h0,h1,h2,hz,hl]
       clear h0 h1 h2 hl hv
       exact ValFz4
      ·
       have tl:((gn:Int) == 0)=false:=by rw [beq_eq_false_iff_ne];omega
       obtain rfl:v=false:=by
        rw [←hv]
        simp [hl]
       clear h0 h1 h2 hl hv
       exact ValFz4
     ·
      have hz:noP (PlW.v ⟨l,pA,pn,pc,ps⟩)=false:=by simpa using hz
      obtain rfl:v=false:=by
       rw [←hv]
       simp [hz]
      clear h0 h1 h2 hv
      exact ValFz4
    ·
     obtain rfl:v=false:=by
      rw [←hv]
      simp []
     clear h0 h1 h2 hv
     exact ValFz3
   ·
    have t2:(rg == 0)=false:=by simp [h2]
    obtain rfl:v=false:=by
     rw [←hv]
     simp [h2]
    clear h0 h1 h2 hv
    exact ValFz3
  ·
   have t1:(op == 0)=false:=by simp [h1]
   obtain rfl:v=false:=by
    rw [←hv]
    simp [h1]
   clear h0 h1 hv
   exact ValFz3
 ·
  have t0:(k == 0)=false:=by simp [h0]
  obtain rfl:v=false:=by
   rw [←hv]
   simp [h0]
  clear h0 hv
  exact ValFz3
theorem ValFz0 {P:Prop} (h:P:=by
 go_enter Tryz.func140,Tryz.ntmps140
 go_wp2_with fail
 exact ValFz2):P:=h
theorem ValFz1 {P:Prop} (h:P:=by
 go_enter Tryz.func140,Tryz.ntmps140
 go_wp2
 go_ret
 exact ⟨rfl,HB.out⟩):P:=h
theorem ValFz5 {P:Prop} (h:P:=by
 have top:(op != 0)=true:=by simp [hop]
 obtain rfl:v=2:=by
  rw [←hv]
  simp [hop]
 clear hop hv
 exact ValFz1):P:=h
theorem ValFz6 {P:Prop} (h:P:=by
 subst hv
 have HB:=hide (below1 w (.cells (cRv ⟨k,op,rg,mu,⟨l,pA,pn,pc,ps⟩,⟨gA,gn,gc,gL⟩⟩).toArray 71))
 have HX:=hide (h.up HB.out)
 clear h
 exact ValFz1):P:=h
theorem ValFz7 {P:Prop} (h:P:=by
 have hz:noP (PlW.v ⟨l,pA,pn,pc,ps⟩)=false:=by simpa using hz
 obtain rfl:v=2:=by
  rw [←hv]
  simp [hz]
 clear hrg hop hv
 exact ValFz0):P:=h
theorem ValFz8 {P:Prop} (h:P:=by
 have hz:noP (PlW.v ⟨l,pA,pn,pc,ps⟩)=false:=by simpa using hz
 obtain rfl:v=2:=by
  rw [←hv]
  simp [hz]
 clear hrg hv
 exact ValFz0):P:=h
theorem Rshape_any (x:RvW) (w:World) (h:OneRv w w.heap.size x) :
 Calls Tryz.prog 140 #[aggRv x] w fun e w'=>e=.returned (.int .i64 (shErr x.v))∧Below w.heap.size w w':=by
 obtain ⟨k,op,rg,mu,⟨l,pA,pn,pc,ps⟩,⟨gA,gn,gc,gL⟩⟩:=x
 have hgn:gL.length=gn:=h.args.len
 obtain ⟨v,hv⟩:∃ v,shErr (RvW.v ⟨k,op,rg,mu,⟨l,pA,pn,pc,ps⟩,⟨gA,gn,gc,gL⟩⟩)=v:=⟨_,rfl⟩
 rw [hv]
 unfold shErr at hv
 simp only [RvW.v,List.length_map,hgn] at hv
 by_cases h14:k < 0
 ·
  rw [if_pos (.inl h14)] at hv
  exact ValFz6
 by_cases h15:4 < k
 ·
  rw [if_pos (.inr h15)] at hv
  exact ValFz6
 rw [if_neg (by omega)] at hv
 have hk:k=0∨k=1∨k=2∨k=3∨k=4:=by omega
 clear h14 h15
 rcases hk with rfl | rfl | rfl | rfl | rfl
 ·
  -- kind 0
  have HB:=hide (below1 w (.cells (cRv ⟨0,op,rg,mu,⟨l,pA,pn,pc,ps⟩,⟨gA,gn,gc,gL⟩⟩).toArray 71))
  have HX:=hide (h.up HB.out)
  clear h
  by_cases hop:op=0
  ·
   have top:(op != 0)=false:=by simp [hop]
   by_cases hrg:rg=0
   ·
    have trg:(rg != 0)=false:=by simp [hrg]
    cases mu
    ·
     by_cases hz:noP (PlW.v ⟨l,pA,pn,pc,ps⟩)=true
     ·
      by_cases hl:gn=1
      ·
       have tl:((gn:Int) != 1)=false:=by simp [hl]
       obtain rfl:v=0:=by
        rw [←hv]
        simp [hop,hrg,hz,hl]
       clear hl hrg hop hv
       exact ValFz0
      ·
       have tl:((gn:Int) != 1)=true:=by rw [bne_iff_ne];omega
       obtain rfl:v=2:=by
        rw [←hv]
        simp [hop,hrg,hz,hl]
       clear hl hrg hop hv
       exact ValFz0
     ·
      exact ValFz7
    ·
     obtain rfl:v=2:=by
      rw [←hv]
      simp []
     clear hrg hop hv
     exact ValFz1
   ·
    have trg:(rg != 0)=true:=by simp [hrg]
    obtain rfl:v=2:=by
     rw [←hv]
     simp [hrg]
    clear hrg hop hv
    exact ValFz1
  ·
   exact ValFz5
 ·
  -- kind 1
  have HB:=hide (below1 w (.cells (cRv ⟨1,op,rg,mu,⟨l,pA,pn,pc,ps⟩,⟨gA,gn,gc,gL⟩⟩).toArray 71))
  have HX:=hide (h.up HB.out)
  clear h
  by_cases hop:op=0
  ·
   have top:(op != 0)=false:=by simp [hop]
   by_cases hl:0 < gn
   ·
    have tl:(0:Int) < (gn:Int):=by omega
    obtain rfl:v=2:=by
     rw [←hv]
     simp [hl]
    clear hl hop hv
    exact ValFz1
   ·
    have tl:¬(0:Int) < (gn:Int):=by omega
    obtain rfl:v=0:=by
     rw [←hv]
     simp [hop,hl]
    clear hl hop hv
    exact ValFz1
  ·
   exact ValFz5
 ·
  -- kind 2
  have HB:=hide (below1 w (.cells (cRv ⟨2,op,rg,mu,⟨l,pA,pn,pc,ps⟩,⟨gA,gn,gc,gL⟩⟩).toArray 71))
  have HX:=hide (h.up HB.out)
  clear h
  by_cases hrg:rg=0
  ·
   have trg:(rg != 0)=false:=by simp [hrg]
   cases mu
   ·
    by_cases hz:noP (PlW.v ⟨l,pA,pn,pc,ps⟩)=true
    ·
     by_cases hl:gn=1
     ·
      have tl:((gn:Int) != 1)=false:=by simp [hl]
      obtain rfl:v=0:=by
       rw [←hv]
       simp [hrg,hz,hl]
      clear hl hrg hv
      exact ValFz0
     ·
      have tl:((gn:Int) != 1)=true:=by rw [bne_iff_ne];omega
      obtain rfl:v=2:=by
       rw [←hv]
       simp [hrg,hz,hl]
      clear hl hrg hv
      exact ValFz0
    ·
     exact ValFz8
   ·
    obtain rfl:v=2:=by
     rw [←hv]
     simp []
    clear hrg hv
    exact ValFz1
  ·
   have trg:(rg != 0)=true:=by simp [hrg]
   obtain rfl:v=2:=by
    rw [←hv]
    simp [hrg]
   clear hrg hv
   exact ValFz1
 ·
  -- kind 3
  have HB:=hide (below1 w (.cells (cRv ⟨3,op,rg,mu,⟨l,pA,pn,pc,ps⟩,⟨gA,gn,gc,gL⟩⟩).toArray 71))
  have HX:=hide (h.up HB.out)
  clear h
  by_cases hrg:rg=0
  ·
   have trg:(rg != 0)=false:=by simp [hrg]
   cases mu
   ·
    by_cases hz:noP (PlW.v ⟨l,pA,pn,pc,ps⟩)=true
    ·
     by_cases hl:gn=2
     ·
      have tl:((gn:Int) != 2)=false:=by simp [hl]
      obtain rfl:v=0:=by
       rw [←hv]
       simp [hrg,hz,hl]
      clear hl hrg hv
      exact ValFz0
     ·
      have tl:((gn:Int) != 2)=true:=by rw [bne_iff_ne];omega
      obtain rfl:v=2:=by
       rw [←hv]
       simp [hrg,hz,hl]
      clear hl hrg hv
      exact ValFz0
    ·
     exact ValFz8
   ·
    obtain rfl:v=2:=by
     rw [←hv]
     simp []
    clear hrg hv
    exact ValFz1
  ·
   have trg:(rg != 0)=true:=by simp [hrg]
   obtain rfl:v=2:=by
    rw [←hv]
    simp [hrg]
   clear hrg hv
   exact ValFz1
 ·
  -- kind 4
  have HB:=hide (below1 w (.cells (cRv ⟨4,op,rg,mu,⟨l,pA,pn,pc,ps⟩,⟨gA,gn,gc,gL⟩⟩).toArray 71))
  have HX:=hide (h.up HB.out)
  clear h
  by_cases hop:op=0
  ·
   have top:(op != 0)=false:=by simp [hop]
   by_cases hrg:rg=0
   ·
    have trg:(rg != 0)=false:=by simp [hrg]
    cases mu
    ·
     by_cases hz:noP (PlW.v ⟨l,pA,pn,pc,ps⟩)=true
     ·
      obtain rfl:v=0:=by
       rw [←hv]
       simp [hop,hrg,hz]
      clear hrg hop hv
      exact ValFz0
     ·
      exact ValFz7
    ·
     obtain rfl:v=2:=by
      rw [←hv]
      simp []
     clear hrg hop hv
     exact ValFz1
   ·
    have trg:(rg != 0)=true:=by simp [hrg]
    obtain rfl:v=2:=by
     rw [←hv]
     simp [hrg]
    clear hrg hop hv
    exact ValFz1
  ·
   exact ValFz5
def Skip10 (x:BdW) (e:Ending):Prop:=e=.returned (.int .i64 1)∨e=.returned (.int .i64 0)∧x.types.n≤1000∧szB x≤3000∧x.blocks.n≤200
theorem Skip10_any (x:BdW) (w:World) (hx:OneBd w w.heap.size x) (hF:FitBd x) :
  Calls Tryz.prog 20 #[aggBd x] w fun e w'=>Skip10 x e∧Below w.heap.size w w':=by
 have htm:=hx.types.nm
 have htc:=hx.types.nc
 have htl:=hx.types.len
 obtain ⟨nm,⟨rA,rn,rc,rL⟩,⟨oA,on,oc,oL⟩,⟨tA,tm,tc,tL⟩,⟨lA,ln,lc,lL⟩,ar,⟨bA,bn,bc,bL⟩⟩:=x
 have htl:tL.length=tm:=htl
 obtain ⟨e3,he3⟩:∃ u,tyChk (tys tL) (rn:Int)=u:=⟨_,rfl⟩
 have HB:=hide (show Below w.heap.size w (w.alloc (.cells #[.string nm,.slice rA rn rc,.slice oA on oc,.slice tA tm tc,.slice lA ln lc,.int .i64 ar,.slice bA bn bc] 28)) from (Below.refl w.heap.size w).alloc (Nat.le_refl _) _)
 have HX:=hide (hx.up HB.out)
 have HF:=hide hF
 have hcs:=hide fun (w':World) (y:Below (w.alloc (.cells #[.string nm,.slice rA rn rc,.slice oA on oc,.slice tA tm tc,.slice lA ln lc,.int .i64 ar,.slice bA bn bc] 28)).heap.size (w.alloc (.cells #[.string nm,.slice rA rn rc,.slice oA on oc,.slice tA tm tc,.slice lA ln lc,.int .i64 ar,.slice bA bn bc] 28)) w')=>cells7 y
 have HTM:=hide htm
 have HTC:=hide htc
 have HTL:=hide htl
 have HE3:=hide he3
 clear hx hF htm htc htl he3
 go_enter Tryz.func20,Tryz.ntmps20
 go_wp2_with fail
 refine (Large_any ⟨nm,⟨rA,rn,rc,rL⟩,⟨oA,on,oc,oL⟩,⟨tA,tm,tc,tL⟩,⟨lA,ln,lc,lL⟩,ar,⟨bA,bn,bc,bL⟩⟩ _ HX.out HF.out).mono ?_
 rintro e1 w1 ⟨h1,hb1⟩
 have HW1:=hide hb1
 clear hb1
 obtain ⟨c0,c1,c2,c3,c4,c5,c6⟩:=hcs.out _ HW1.out
 rcases h1 with rfl | ⟨rfl,hsz⟩
 case inl=>
  go_wp2
  go_ret
  exact ⟨.inl rfl,HB.out.trans (HW1.out.mono HB.out.size)⟩
 have HSZ:=hide hsz
 clear hsz
 go_wp2_with fail
 refine (Skip_any tA tm tc tL _ ((HX.out.up HW1.out).typs) HTM.out).mono ?_
 rintro e2 w2 ⟨⟨v,rfl,hv,hv01⟩,hb2⟩
 have HW2:=hide (HW1.out.trans (hb2.mono HW1.out.size))
 clear hb2
 obtain ⟨d0,d1,d2,d3,d4,d5,d6⟩:=hcs.out _ HW2.out
 rcases hv01 with rfl | rfl
 case inr=>
  clear hv
  go_wp2
  go_ret
  exact ⟨.inl rfl,HB.out.trans (HW2.out.mono HB.out.size)⟩
 have hlg:tyLarge (tys tL)=false:=by cases hq:tyLarge (tys tL);rfl;exact absurd (hv hq) (by decide)
 have hsm:tm≤200:=by have h9:=(tyBig_small (n:=0) (by omega) hlg).1;have h8:(tys tL).length=tL.length:=List.length_map _;have h7:=HTL.out;omega
 have HSM:=hide hsm
 clear hv hlg
 by_cases q1:200 < on
 case pos=>
  have q1i:(200:Int) < (on:Int):=by omega
  go_wp2
  go_ret
  exact ⟨.inl rfl,HB.out.trans (HW2.out.mono HB.out.size)⟩
 have q1i:¬(200:Int) < (on:Int):=by omega
 by_cases q2:200 < rn
 case pos=>
  have q2i:(200:Int) < (rn:Int):=by omega
  go_wp2
  go_ret
  exact ⟨.inl rfl,HB.out.trans (HW2.out.mono HB.out.size)⟩
 have q2i:¬(200:Int) < (rn:Int):=by omega
 by_cases q3:200 < bn
 case pos=>
  have q3i:(200:Int) < (bn:Int):=by omega
  go_wp2
  go_ret
  exact ⟨.inl rfl,HB.out.trans (HW2.out.mono HB.out.size)⟩
 have q3i:¬(200:Int) < (bn:Int):=by omega
 have HBN:=hide (show bn≤200 by omega)
 have HCK:=hide (RCheckT_is (c:=tc) HE3.out w2 ((HX.out.up HW2.out).typs) HTM.out HTC.out)
 by_cases q4:e3=0
 case neg=>
  have t4:(e3 != 0)=true:=by simp [q4]
  clear q4
  go_wp2_with fail
  refine HCK.out.mono ?_
  rintro e4 w4 ⟨rfl,hb4⟩
  have HW4:=hide (HW2.out.trans (hb4.mono HW2.out.size))
  clear hb4
  go_wp2
  go_ret
  exact ⟨.inr ⟨rfl,(Nat.le_trans HSM.out (by decide)),HSZ.out,HBN.out⟩,HB.out.trans (HW4.out.mono HB.out.size)⟩
 have HOK:=hide (tyChk_iff.1 (HE3.out.trans q4))
 have t4:(e3 != 0)=false:=by simp [q4]
 clear q4
 go_wp2_with fail
 refine HCK.out.mono ?_
 rintro e4 w4 ⟨rfl,hb4⟩
 have HW4:=hide (HW2.out.trans (hb4.mono HW2.out.size))
 clear hb4
 obtain ⟨f0,f1,f2,f3,f4,f5,f6⟩:=hcs.out _ HW4.out
 go_wp2
 go_loopw [41] (fun i wr=>∃ j:Nat,i=.int .i64 (j:Int)∧j≤tm∧Hid (Below (w.alloc (.cells #[.string nm,.slice rA rn rc,.slice oA on oc,.slice tA tm tc,.slice lA ln lc,.int .i64 ar,.slice bA bn bc] 28)).heap.size (w.alloc (.cells #[.string nm,.slice rA rn rc,.slice oA on oc,.slice tA tm tc,.slice lA ln lc,.int .i64 ar,.slice bA bn bc] 28)) wr)) (fun i _=>tm - (intOf i).toNat)
 case atStart=>exact ⟨0,rfl,Nat.zero_le _,hide HW4.out⟩
 case round=>
  obtain ⟨j,rfl,hj,HW⟩:=hrel
  obtain ⟨g0,g1,g2,g3,g4,g5,g6⟩:=hcs.out _ HW.out
  by_cases hlt:j < tm
  ·
   have hlt':(j:Int) < (tm:Int):=by omega
   obtain ⟨dd,hd⟩:∃ u,tyDep (tys tL) (j:Int)=u:=⟨_,rfl⟩
   have HDP:=hide (show Calls Tryz.prog 47 #[.slice tA tm tc,.int .i64 (j:Int)] wr (fun e w'=>e=.returned (.int .i64 dd)∧Below wr.heap.size wr w') from hd ▸ RDepth_in (c:=tc) ((HX.out.up HW.out).typs) (Nat.le_trans HSM.out (by decide)) HOK.out j hlt)
   clear hd
   by_cases q5:8 < dd
   case pos=>
    go_wp2_with fail
    refine HDP.out.mono ?_
    rintro e6 w6 ⟨rfl,hb6⟩
    have HW6:=hide (HW.out.trans (hb6.mono HW.out.size))
    clear hb6
    go_wp2
    go_ret
    exact ⟨.inl rfl,HB.out.trans (HW6.out.mono HB.out.size)⟩
   have q5n:dd≤8:=by omega
   go_wp2_with fail
   refine HDP.out.mono ?_
   rintro e6 w6 ⟨rfl,hb6⟩
   have HW6:=hide (HW.out.trans (hb6.mono HW.out.size))
   clear hb6
   go_wp2
   go_roundw
   case rel=>exact ⟨j+1,by go_num,by omega,hide HW6.out⟩
   case measure=>simp [intOf];omega
  ·
   obtain rfl:tm=j:=by omega
   go_wp2
   go_ret
   exact ⟨.inr ⟨rfl,(Nat.le_trans HSM.out (by decide)),HSZ.out,HBN.out⟩,HB.out.trans (HW.out.mono HB.out.size)⟩
def ptN (b:BkV):Nat:=b.stmts.length+1
def ptFirst (l:List BkV) (i:Nat):Nat:=sumN ptN (l.take i)
def ptCount (l:List BkV):Nat:=sumN ptN l
theorem ptFirst_zero (l:List BkV):ptFirst l 0=0:=by simp [ptFirst,sumN_nil]
theorem ptFirst_all {l:List BkV} {i:Nat} (h:l.length≤i):ptFirst l i=ptCount l:=by unfold ptFirst ptCount;rw [List.take_of_length_le h]
theorem ptFirst_up {l:List BkV} {i:Nat} {b:BkV} (h:l[i]?=some b):ptFirst l (i+1)=ptFirst l i+ptN b:=sumN_up h
theorem ptFirst_add (l:List BkV) (i d:Nat):ptFirst l i≤ptFirst l (i+d):=by
 unfold ptFirst
 rw [List.take_add,sumN_append]
 omega
theorem ptFirst_mono (l:List BkV) {i j:Nat} (h:i≤j):ptFirst l i≤ptFirst l j:=by
 obtain ⟨d,rfl⟩:=Nat.exists_eq_add_of_le h
 exact ptFirst_add l i d
theorem ptFirst_le (l:List BkV) (i:Nat):ptFirst l i≤ptCount l:=by
 rw [←ptFirst_all (Nat.le_add_left l.length i)]
 exact ptFirst_add l i l.length
theorem pt_one {l:List BkV} {i j k m:Nat} {a b:BkV} (ha:l[i]?=some a) (hb:l[j]?=some b) (hk:k≤a.stmts.length) (hm:m≤b.stmts.length) (e:ptFirst l i+k=ptFirst l j+m):i=j∧k=m:=by
 have h1:=ptFirst_up ha
 have h2:=ptFirst_up hb
 unfold ptN at h1 h2
 rcases Nat.lt_trichotomy i j with h | h | h
 ·
  have:=ptFirst_mono l (show i+1≤j from h)
  omega
 ·
  subst h
  exact ⟨rfl,by omega⟩
 ·
  have:=ptFirst_mono l (show j+1≤i from h)
  omega
theorem pt_lt {l:List BkV} {i k:Nat} {a:BkV} (ha:l[i]?=some a) (hk:k≤a.stmts.length):ptFirst l i+k < ptCount l:=by
 have h1:=ptFirst_up ha
 have h2:=ptFirst_le l (i+1)
 unfold ptN at h1
 omega
def ptLoc:List BkV→Nat→Option (Nat×Nat)
 | [],_=>none
 | b :: l,p=>if p≤b.stmts.length then some (0,p) else (ptLoc l (p - (b.stmts.length+1))).map fun x=>(x.1+1,x.2)
theorem ptFirst_cons (b:BkV) (l:List BkV) (i:Nat):ptFirst (b :: l) (i+1)=b.stmts.length+1+ptFirst l i:=by
 unfold ptFirst
 rw [List.take_succ_cons,sumN_cons]
 rfl
theorem ptLoc_some:∀ {l:List BkV} {p i k:Nat},ptLoc l p=some (i,k)→∃ b,l[i]?=some b∧k≤b.stmts.length∧p=ptFirst l i+k
 | [],p,i,k,h=>by cases h
 | b :: l,p,i,k,h=>by
  have e:(if p≤b.stmts.length then some (0,p) else (ptLoc l (p - (b.stmts.length+1))).map fun x=>(x.1+1,x.2))=some (i,k):=h
  by_cases hp:p≤b.stmts.length
  ·
   rw [if_pos hp] at e
   injection e with e
   injection e with e1 e2
   subst e1 e2
   exact ⟨b,rfl,hp,by rw [ptFirst_zero];omega⟩
  ·
   rw [if_neg hp] at e
   cases hq:ptLoc l (p - (b.stmts.length+1)) with
   | none=>rw [hq] at e;cases e
   | some x=>
    obtain ⟨i',k'⟩:=x
    rw [hq] at e
    injection e with e
    injection e with e1 e2
    subst e1 e2
    obtain ⟨c,h1,h2,h3⟩:=ptLoc_some hq
    have e3:p=ptFirst (b :: l) (i'+1)+k':=by rw [ptFirst_cons];omega
    exact ⟨c,by simpa using h1,h2,e3⟩
theorem ptLoc_none:∀ {l:List BkV} {p:Nat},ptLoc l p=none→ptCount l≤p
 | [],p,h=>by simp [ptCount,sumN_nil]
 | b :: l,p,h=>by
  have e:(if p≤b.stmts.length then some (0,p) else (ptLoc l (p - (b.stmts.length+1))).map fun x=>(x.1+1,x.2))=none:=h
  by_cases hp:p≤b.stmts.length
  ·
   rw [if_pos hp] at e;cases e
  ·
   rw [if_neg hp] at e
   have h1:=ptLoc_none (Option.map_eq_none_iff.1 e)
   have h2:ptCount (b :: l)=b.stmts.length+1+ptCount l:=by unfold ptCount;rw [sumN_cons];rfl
   omega
theorem ptLoc_iff {l:List BkV} {p i k:Nat}:ptLoc l p=some (i,k)↔∃ b,l[i]?=some b∧k≤b.stmts.length∧p=ptFirst l i+k:=by
 refine ⟨ptLoc_some,?_⟩
 rintro ⟨b,hb,hk,rfl⟩
 cases h:ptLoc l (ptFirst l i+k) with
 | none=>exact absurd (ptLoc_none h) (by have:=pt_lt hb hk;omega)
 | some x=>
  obtain ⟨j,m⟩:=x
  obtain ⟨c,hc,hm,e⟩:=ptLoc_some h
  obtain ⟨rfl,rfl⟩:=pt_one hb hc hk hm e
  rfl
theorem ptLoc_none_iff {l:List BkV} {p:Nat}:ptLoc l p=none↔ptCount l≤p:=by
 refine ⟨ptLoc_none,fun h=>?_⟩
 cases e:ptLoc l p with
 | none=>rfl
 | some x=>
  obtain ⟨i,k⟩:=x
  obtain ⟨b,hb,hk,rfl⟩:=ptLoc_some e
  have:=pt_lt hb hk
  omega
theorem bk_at {w:World} {B:Nat} {x:BdW} (h:OneBd w B x) {j:Nat} (hj:j < x.blocks.n):∃ p b o,x.blocks.L[j]?=some p∧x.v.blocks[j]?=some p.v∧p.v.stmts.length=p.stmts.n∧p.stmts.n≤maxLen∧x.blocks.A=some ⟨b,o,none⟩∧b < B∧OneBk w B p∧∀ i u,(cBk p)[i]?=some u→w.cell? ⟨b,o+j*7+i,none⟩=some u:=by
 obtain ⟨p,hp⟩:=h.blocks.get hj
 obtain ⟨b,o,hA,hb,h1,hc⟩:=h.blocks.at_ hp
 refine ⟨p,b,o,hp,?_,?_,h1.stmts.nm,hA,hb,h1,hc⟩
 ·
  show (x.blocks.L.map BkW.v)[j]?=some p.v
  rw [List.getElem?_map,hp];rfl
 ·
  show (p.stmts.L.map StW.v).length=p.stmts.n
  rw [List.length_map];exact h1.stmts.len
theorem bk_len {w:World} {B:Nat} {x:BdW} (h:OneBd w B x):x.v.blocks.length=x.blocks.n:=(List.length_map _).trans h.blocks.len
theorem RFirst_any (x:BdW) (k:Int) (w:World) (hx:OneBd w w.heap.size x) (hN:ptCount x.v.blocks≤2 ^ 62) :
  Calls Tryz.prog 32 #[aggBd x,.int .i64 k] w fun e w'=>e=.returned (.int .i64 (ptFirst x.v.blocks k.toNat:Nat))∧Below w.heap.size w w':=by
 obtain ⟨BL,hBL⟩:∃ l,x.v.blocks=l:=⟨_,rfl⟩
 have hbl:=bk_len hx
 have hbm:=hx.blocks.nm
 unfold maxLen at hbm
 rw [hBL] at hN hbl ⊢
 have HBV:=hide hBL
 have HN:=hide hN
 obtain ⟨nm,⟨rA,rn,rc,rL⟩,⟨oA,on,oc,oL⟩,⟨tA,tm,tc,tL⟩,⟨lA,ln,lc,lL⟩,ar,⟨bA,bn,bc,bL⟩⟩:=x
 have HBL:=hide hbl
 have hbm:bn≤2 ^ 63 - 1:=hbm
 have HB:=hide (below1 w (.cells #[.string nm,.slice rA rn rc,.slice oA on oc,.slice tA tm tc,.slice lA ln lc,.int .i64 ar,.slice bA bn bc] 28))
 have HX:=hide (hx.up HB.out)
 have HC:=hide fun (w':World) (y:Below (w.alloc (.cells #[.string nm,.slice rA rn rc,.slice oA on oc,.slice tA tm tc,.slice lA ln lc,.int .i64 ar,.slice bA bn bc] 28)).heap.size (w.alloc (.cells #[.string nm,.slice rA rn rc,.slice oA on oc,.slice tA tm tc,.slice lA ln lc,.int .i64 ar,.slice bA bn bc] 28)) w')=>cells7 y
 clear hBL hbl hN hx
 go_enter Tryz.func32,Tryz.ntmps32
 go_wp2
 go_loopw [5,6] (fun n i wr=>∃ j:Nat,i=.int .i64 (j:Int)∧n=.int .i64 (ptFirst BL j:Nat)∧j≤bn∧j≤k.toNat∧Hid (Below (w.alloc (.cells #[.string nm,.slice rA rn rc,.slice oA on oc,.slice tA tm tc,.slice lA ln lc,.int .i64 ar,.slice bA bn bc] 28)).heap.size (w.alloc (.cells #[.string nm,.slice rA rn rc,.slice oA on oc,.slice tA tm tc,.slice lA ln lc,.int .i64 ar,.slice bA bn bc] 28)) wr)) (fun _ i _=>bn - (intOf i).toNat)
 case atStart=>exact ⟨0,rfl,by rw [ptFirst_zero];rfl,Nat.zero_le _,Nat.zero_le _,hide (Below.refl _ _)⟩
 case round=>
  obtain ⟨j,rfl,rfl,hj,hjk,HW⟩:=hrel
  obtain ⟨x0,x1,x2,x3,x4,x5,x6⟩:=HC.out _ HW.out
  by_cases hk:(j:Int) < k
  ·
   by_cases hlt:j < bn
   ·
    have hlt':(j:Int) < (bn:Int):=by omega
    obtain ⟨p,b,o,_,hpv,hps,hpm,hA,hb,_,hc⟩:=bk_at (HX.out.up HW.out) hlt
    have hA:bA=some ⟨b,o,none⟩:=hA
    subst hA
    have hpv:BL[j]?=some p.v:=HBV.out ▸ hpv
    have c0:wr.cell? ⟨b,o+j*7,none⟩=some (.slice p.stmts.A p.stmts.n p.stmts.c):=hc 0 _ rfl
    have hu:=ptFirst_up hpv
    unfold ptN at hu
    rw [hps] at hu
    have hle:=ptFirst_le BL (j+1)
    obtain ⟨m,hm⟩:∃ m,ptFirst BL j=m:=⟨_,rfl⟩
    obtain ⟨q,hq⟩:∃ q,p.stmts.n=q:=⟨_,rfl⟩
    have h62:m+(q+1)≤2 ^ 62:=by
     have:=HN.out
     omega
    have HU:=hide (show ptFirst BL (j+1)=m+(q+1) by omega)
    rw [hm]
    rw [hq] at c0
    clear hpv hps hpm hc hu hle hm hq
    have s1:IntKind.i64.wrap ((q:Int)+1)=(q:Int)+1:=wrapI9 _ (by omega) (by omega)
    have s2:IntKind.i64.wrap ((m:Int)+((q:Int)+1))=(m:Int)+((q:Int)+1):=wrapI9 _ (by omega) (by omega)
    go_wp2
    go_roundw
    case rel=>exact ⟨j+1,by go_num,by rw [HU.out];exact congrArg (fun z:Int=>Value.int .i64 z) (by omega),by omega,by omega,HW⟩
    case measure=>simp [intOf];omega
   ·
    have hlt':¬(j:Int) < (bn:Int):=by omega
    have HF:=hide (show ptFirst BL j=ptFirst BL k.toNat by rw [ptFirst_all (by rw [HBL.out];omega),ptFirst_all (by rw [HBL.out];omega)])
    go_wp2
    go_ret
    exact ⟨congrArg (fun z:Nat=>Ending.returned (.int .i64 (z:Int))) HF.out,HB.out.trans (HW.out.mono HB.out.size)⟩
  ·
   have hjk2:j=k.toNat:=by omega
   have HF:=hide (congrArg (ptFirst BL) hjk2)
   clear hjk2
   go_wp2
   go_ret
   exact ⟨congrArg (fun z:Nat=>Ending.returned (.int .i64 (z:Int))) HF.out,HB.out.trans (HW.out.mono HB.out.size)⟩
theorem RFirst_is {x:BdW} {k:Int} {m:Nat} {w:World} (hx:OneBd w w.heap.size x) (hm:ptFirst x.v.blocks k.toNat=m) (hN:ptCount x.v.blocks≤2 ^ 62) :
  Calls Tryz.prog 32 #[aggBd x,.int .i64 k] w fun e w'=>e=.returned (.int .i64 (m:Int))∧Below w.heap.size w w':=hm ▸ RFirst_any x k w hx hN
theorem RCount_is {x:BdW} {m:Nat} {w:World} (hx:OneBd w w.heap.size x) (hm:ptCount x.v.blocks=m) (hN:m≤2 ^ 62) :
  Calls Tryz.prog 21 #[aggBd x] w fun e w'=>e=.returned (.int .i64 (m:Int))∧Below w.heap.size w w':=by
 have hbl:=bk_len hx
 have hF:=ptFirst_all (l:=x.v.blocks) (Nat.le_of_eq hbl)
 have hbm:=hx.blocks.nm
 have HC:=hide fun (w':World) (y:Below w.heap.size w w')=>RFirst_is (k:=(x.blocks.n:Int)) (hx.up y) (show ptFirst x.v.blocks (x.blocks.n:Int).toNat=m by rw [Int.toNat_natCast,hF,hm]) (by rw [hm];exact hN)
 obtain ⟨nm,⟨rA,rn,rc,rL⟩,⟨oA,on,oc,oL⟩,⟨tA,tm,tc,tL⟩,⟨lA,ln,lc,lL⟩,ar,⟨bA,bn,bc,bL⟩⟩:=x
 have HB:=hide (below1 w (.cells #[.string nm,.slice rA rn rc,.slice oA on oc,.slice tA tm tc,.slice lA ln lc,.int .i64 ar,.slice bA bn bc] 28))
 clear hbl hF hx hm hbm
 go_enter Tryz.func21,Tryz.ntmps21
 go_wp2_with fail
 refine (HC.out _ HB.out).mono ?_
 rintro e w1 ⟨rfl,hb⟩
 have HB2:=hide (HB.out.trans (hb.mono HB.out.size))
 clear hb
 go_wp2
 go_ret
 exact ⟨rfl,HB2.out⟩
end Go.Proofs.YteeemjmohjkdpaaGreatDoor
