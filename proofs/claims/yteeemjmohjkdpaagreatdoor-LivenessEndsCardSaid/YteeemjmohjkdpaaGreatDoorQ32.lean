/- Part 33 of the contracts and their mathematics. -/
import Derived.Test.YteeemjmohjkdpaaGreatDoorQ12
import Derived.Test.YteeemjmohjkdpaaGreatDoorQ29
import Derived.Test.YteeemjmohjkdpaaGreatDoorQ31
set_option linter.unusedVariables false
set_option linter.unusedSectionVars false
set_option linter.unusedSimpArgs false
set_option maxRecDepth 100000
set_option maxHeartbeats 8000000
namespace Go.Proofs.YteeemjmohjkdpaaGreatDoor
open Go.RowKit
theorem usesI_asc (l:List BkV) (p:Int):(usesI l p).Pairwise (· < ·):=by
 cases h:ptLocI l p with
 | none=>unfold usesI;rw [atI_none h];exact List.Pairwise.nil
 | some x=>
  obtain ⟨i,k⟩:=x
  obtain ⟨_,b,hb,_⟩:=ptLocI_some h
  unfold usesI
  rw [atI_some h hb]
  exact setI_asc _
theorem nxN_mem12 {l:List BkV} {p:Int} {y:Nat}:y∈nxN l p↔y < ptCount l∧ptFolI l p (y:Int)=true:=by
 unfold nxN
 rw [List.mem_filter,List.mem_range]
section
variable {l:List BkV} {i k:Nat} {b:BkV} {x:Int}
theorem nx12_stmt (hb:l[i]?=some b) (hk:k < b.stmts.length) {y:Nat} (hy:y∈nxN l ((ptFirst l i+k:Nat):Int)):y=ptFirst l i+k+1:=by
 have h:=(nxN_mem12.1 hy).2
 rw [ptFolI_at (ptLocI_at (k:=k) hb (Nat.le_of_lt hk) (by push_cast;omega)) hb,if_pos hk,decide_eq_true_iff] at h
 omega
theorem nx12_end (hb:l[i]?=some b) (ht:b.term.targets=[]) {y:Nat}:¬y∈nxN l ((ptFirst l i+b.stmts.length:Nat):Int):=fun hy=>by
 have h:=(nxN_mem12.1 hy).2
 rw [ptFolI_at (ptLocI_at (k:=b.stmts.length) hb (Nat.le_refl _) (by push_cast;omega)) hb,if_neg (Nat.lt_irrefl _),ht] at h
 cases h
theorem uses12 (hb:l[i]?=some b) (hk:k≤b.stmts.length):usesI l ((ptFirst l i+k:Nat):Int)=setI (useAt b k):=by
 unfold usesI
 exact atI_some (ptLocI_at (k:=k) hb hk (by push_cast;omega)) hb
theorem uses12_end (hb:l[i]?=some b) (hu:tmU b.term=[]):usesI l ((ptFirst l i+b.stmts.length:Nat):Int)=[]:=by
 rw [uses12 hb (Nat.le_refl _)]
 unfold useAt
 rw [List.getElem?_eq_none (Nat.le_refl _)]
 show setI (tmU b.term)=[]
 rw [hu]
 rfl
theorem live_end (hb:l[i]?=some b) (hu:tmU b.term=[]) (ht:b.term.targets=[]):¬LiveP l x (ptFirst l i+b.stmts.length):=fun h=>by
 rcases live_eq.1 h with h | ⟨_,q,hq,_⟩
 ·
  rw [uses12_end hb hu] at h
  cases h
 ·
  exact nx12_end hb ht hq
theorem live_last (hb:l[i]?=some b) (hu:tmU b.term=[]) (ht:b.term.targets=[]) (hk:k+1=b.stmts.length):LiveP l x (ptFirst l i+k)↔x∈usesI l ((ptFirst l i+k:Nat):Int):=by
 rw [live_eq]
 refine ⟨fun h=>h.elim id fun ⟨_,q,hq,h⟩=>?_,.inl⟩
 have:=nx12_stmt hb (by omega) hq
 subst this
 refine absurd h ?_
 rw [show ptFirst l i+k+1=ptFirst l i+b.stmts.length by omega]
 exact live_end hb hu ht
theorem lv_end (hb:l[i]?=some b) (hu:tmU b.term=[]) (ht:b.term.targets=[]) (n:Nat):lvI l (ptFirst l i+b.stmts.length) n=[]:=
 List.eq_nil_iff_forall_not_mem.2 fun z hz=>live_end hb hu ht (lvI_mem.1 hz).2
theorem lv_last (hb:l[i]?=some b) (hu:tmU b.term=[]) (ht:b.term.targets=[]) (hk:k+1=b.stmts.length) {n:Nat} (hr:∀ s∈b.stmts,∀ z∈stU s,0≤z∧z < (n:Int)):lvI l (ptFirst l i+k) n=usesI l ((ptFirst l i+k:Nat):Int):=by
 refine asc_eq12 (lvI_asc _ _ _) (usesI_asc _ _) fun z=>?_
 rw [lvI_mem,live_last hb hu ht hk]
 refine ⟨fun h=>h.2,fun h=>⟨?_,h⟩⟩
 rw [uses12 hb (by omega),setI_mem] at h
 unfold useAt at h
 obtain ⟨s,hs⟩:∃ s,b.stmts[k]?=some s:=⟨_,List.getElem?_eq_getElem (by omega)⟩
 rw [hs] at h
 exact hr s (List.mem_of_getElem? hs) z h
end
section
variable {E:Env}
theorem tm_ends {t:TmV} (h:tmErr E t=0) (hk:t.kind=2∨t.kind=5):tmU t=[]∧t.targets=[]:=by
 unfold tmErr at h
 split at h
 ·
  cases h
 ·
  split at h
  ·
   cases h
  ·
   rename_i h1
   have e1:t.targets.length=0:=by
    have e:tmTgs t.kind=0:=by rcases hk with e | e <;> rw [e] <;> rfl
    rw [e] at h1
    omega
   have e2:t.args.length=0:=by omega
   refine ⟨?_,List.eq_nil_of_length_eq_zero e1⟩
   unfold tmU
   rw [List.eq_nil_of_length_eq_zero e2,if_neg (by omega)]
   rfl
end
section
variable {w:World} {B:Nat} {x:BdW} (hx:OneBd w B x)
include hx
theorem lcs12:x.v.env.lc.length=x.locals.n:=by
 show ((x.locals.L.map LcW.v).map LcV.ty).length=_
 rw [List.length_map,List.length_map,hx.locals.len]
end
section
variable {w:World} {x:BdW} (hx:OneBd w w.heap.size x)
include hx
end
theorem ends12 {x:BdW} {w:World} (hx:OneBd w w.heap.size x) (h:Ok12 x) {j:Nat} {b:BkV} (hb:x.v.blocks[j]?=some b) (hk:b.term.kind=2∨b.term.kind=5) :
  (locsI x.v.blocks x.locals.n)[ptFirst x.v.blocks j+b.stmts.length]?=some []∧∀ k,k+1=b.stmts.length→(locsI x.v.blocks x.locals.n)[ptFirst x.v.blocks j+k]?=some (usesI x.v.blocks ((ptFirst x.v.blocks j+k:Nat):Int)):=by
 obtain ⟨hs,ht⟩:=(bd_in h.err).2 b (List.mem_of_getElem? hb)
 obtain ⟨hu,hg⟩:=tm_ends ht hk
 unfold locsI
 refine ⟨?_,fun k hk=>?_⟩
 ·
  rw [lvLL_at _ _ (pt_lt hb (Nat.le_refl _)),lv_end hb hu hg]
 ·
  rw [lvLL_at _ _ (pt_lt hb (by omega)),lv_last hb hu hg hk]
  intro s hs' z hz
  have h1:=stU_in (hs s hs') z hz
  have h2:=lcs12 hx
  omega
theorem W12Ends (x0:BdW) (w:World) (h0:OneBd w w.heap.size x0) (s0:FitBd x0) (hT:Pre12 w) :
  Calls Tryz.prog 8 #[aggBd x0] w fun e w'=>e=.returned (.bool true)∧Below w.heap.size w w':=by
 have HAL:=hide fun (w':World) (y:Below w.heap.size w w')=>alive12_any w' (hT.up y)
 have HSK:=hide fun (w':World) (y:Below w.heap.size w w')=>Skip12_any x0 w' (h0.up y) s0
 obtain ⟨LL,hLL⟩:∃ l,locsI x0.v.blocks x0.locals.n=l:=⟨_,rfl⟩
 obtain ⟨BL,hBL⟩:∃ l,x0.v.blocks=l:=⟨_,rfl⟩
 obtain ⟨C,hC⟩:∃ n,ptCount BL=n:=⟨_,rfl⟩
 have HN:=hide fun (h:Ok12 x0)=>(show C≤60 from hC ▸ hBL ▸ h.sm.cnt)
 have HCR:=hide fun (h:Ok12 x0) (w':World) (y:Below w.heap.size w w')=>hLL ▸ CRows hT h0 h w' y
 have HCO:=hide fun (h:Ok12 x0) (w':World) (y:Below w.heap.size w w')=>RCount_is (m:=C) (h0.up y) (by rw [hBL];exact hC) (Nat.le_trans (show C≤60 from hC ▸ hBL ▸ h.sm.cnt) (by decide))
 have HFI:=hide fun (h:Ok12 x0) (w':World) (j F:Nat) (hF:ptFirst BL j=F) (y:Below w.heap.size w w')=>RFirst_is (k:=(j:Int)) (m:=F) (h0.up y) (by rw [Int.toNat_natCast,hBL];exact hF) (Nat.le_trans h.sm.cnt (by decide))
 have HUS:=hide fun (h:Ok12 x0) (w':World) (p:Int) (hp:IntR p) (y:Below w.heap.size w w')=>(show Calls Tryz.prog 15 #[aggBd x0,.int .i64 p] w' (IntsOut9 w' (usesI BL p)) from hBL ▸ sm12uses h0 h.sm hp w' y)
 have HEN:=hide fun (h:Ok12 x0) (j:Nat) (b:BkV) (hb:BL[j]?=some b) (hk:b.term.kind=2∨b.term.kind=5)=>(show LL[ptFirst BL j+b.stmts.length]?=some []∧∀ k,k+1=b.stmts.length→LL[ptFirst BL j+k]?=some (usesI BL ((ptFirst BL j+k:Nat):Int)) from by
  have e:=ends12 h0 h (by rw [hBL];exact hb) hk
  rw [hBL] at e hLL
  rw [hLL] at e
  exact e)
 have HLT:=hide fun (j:Nat) (b:BkV) (hb:BL[j]?=some b)=>(show ptFirst BL j+b.stmts.length < C from hC ▸ pt_lt hb (Nat.le_refl _))
 have HLC:=hide (show LL.length=C from by rw [←hLL,hBL];unfold locsI;rw [lvLL_len];exact hC)
 have HX0:=hide h0
 have hbm:=h0.blocks.nm
 unfold maxLen at hbm
 have HBV:=hide hBL
 clear hLL hC hBL
 obtain ⟨nm,⟨rA,rn,rc,rL⟩,⟨oA,on,oc,oL⟩,⟨tA,tm,tc,tL⟩,⟨lA,ln,lc,lL⟩,ar,⟨bA,bn,bc,bL⟩⟩:=x0
 have hbm:bn≤2 ^ 63 - 1:=hbm
 have HB:=hide (below1 w (.cells #[.string nm,.slice rA rn rc,.slice oA on oc,.slice tA tm tc,.slice lA ln lc,.int .i64 ar,.slice bA bn bc] 28))
 have hcx:=hide fun (w':World) (y:Below (w.alloc (.cells #[.string nm,.slice rA rn rc,.slice oA on oc,.slice tA tm tc,.slice lA ln lc,.int .i64 ar,.slice bA bn bc] 28)).heap.size (w.alloc (.cells #[.string nm,.slice rA rn rc,.slice oA on oc,.slice tA tm tc,.slice lA ln lc,.int .i64 ar,.slice bA bn bc] 28)) w')=>cells7 y
 clear h0 s0 hT
 go_enter Tryz.func8,Tryz.ntmps8
 go_wp2_with fail
 refine (HSK.out _ HB.out).mono ?_
 rintro e1 w1 ⟨h1,hb1⟩
 have HW1:=hide hb1
 have HC1:=hide (HB.out.trans (hb1.mono HB.out.size))
 clear hb1
 rcases h1 with rfl | ⟨rfl,hok⟩
 case inl=>
  go_wp2_with fail
  refine (HAL.out _ HC1.out).mono ?_
  rintro e9 w9 ⟨rfl,hb9⟩
  have HC9:=hide (HC1.out.trans (hb9.mono HC1.out.size))
  clear hb9
  go_wp2
  go_ret
  exact ⟨rfl,HC9.out⟩
 have HOK:=hide hok
 clear hok
 have HCR2:=hide (HCR.out HOK.out)
 have HCO2:=hide (HCO.out HOK.out)
 have HFI2:=hide (HFI.out HOK.out)
 have HUS2:=hide (HUS.out HOK.out)
 have HEN2:=hide (HEN.out HOK.out)
 have hC60:=HN.out HOK.out
 clear HCR HCO HFI HUS HEN HN HOK HSK
 obtain ⟨x0,x1,x2,x3,x4,x5,x6⟩:=hcx.out _ HW1.out
 go_wp2_with fail
 refine (HCR2.out _ HC1.out).mono ?_
 rintro e2 w2 ⟨A,c,S,rfl,hrw,hb0⟩
 have HR:=hide hrw
 have HW2:=hide (HW1.out.trans (hb0.mono HW1.out.size))
 have HC2:=hide (HC1.out.trans (hb0.mono HC1.out.size))
 rw [HLC.out]
 have hee:((C:Int) != (C:Int))=false:=by simp
 clear hrw hb0 x0 x1 x2 x3 x4 x5 x6
 obtain ⟨x0,x1,x2,x3,x4,x5,x6⟩:=hcx.out _ HW2.out
 go_wp2_with fail
 refine (HCO2.out _ HC2.out).mono ?_
 rintro e3 w3 ⟨rfl,hb0⟩
 have HW3:=hide (HW2.out.trans (hb0.mono HW2.out.size))
 have HR3:=hide (HR.out.below hb0)
 clear hb0 x0 x1 x2 x3 x4 x5 x6 HR
 obtain ⟨x0,x1,x2,x3,x4,x5,x6⟩:=hcx.out _ HW3.out
 have HB0:=hide (Below.refl w3.heap.size w3)
 go_wp2
 go_loopw [22] (fun i wr=>∃ j:Nat,i=.int .i64 (j:Int)∧j≤bn∧Hid (Below w3.heap.size w3 wr)) (fun i _=>bn - (intOf i).toNat)
 case atStart=>exact ⟨0,rfl,Nat.zero_le _,HB0⟩
 case round=>
  obtain ⟨j,rfl,hj,HY⟩:=hrel
  clear x0 x1 x2 x3 x4 x5 x6
  have HY1:=hide (HW3.out.trans (HY.out.mono HW3.out.size))
  have HZ:=hide (HB.out.trans (HY1.out.mono HB.out.size))
  obtain ⟨x0,x1,x2,x3,x4,x5,x6⟩:=hcx.out _ HY1.out
  by_cases hlt:j < bn
  ·
   have hlt':(j:Int) < (bn:Int):=by omega
   have hj0:(0:Int)≤(j:Int):=by omega
   obtain ⟨pb,b,o,_,hpv,hps,hpm,hA,hb,h1b,hc⟩:=bk_at HX0.out hlt
   have hA:bA=some ⟨b,o,none⟩:=hA
   subst hA
   have hpv:BL[j]?=some pb.v:=HBV.out ▸ hpv
   have HEND:=hide (fun hk=>HEN2.out j pb.v hpv hk)
   have hflt:=HLT.out j pb.v hpv
   rw [hps] at HEND hflt
   obtain ⟨⟨sA,sn,sc,sL⟩,⟨tk,⟨xA,xn,xc,xL⟩,⟨gA,gn,gc,gL⟩,⟨l,pA,pn,pc,ps⟩,tnm⟩⟩:=pb
   have hpm:sn≤maxLen:=hpm
   unfold maxLen at hpm
   obtain ⟨F,hF⟩:∃ F,ptFirst BL j=F:=⟨_,rfl⟩
   have HFJ:=hide fun (w':World) (y:Below w.heap.size w w')=>HFI2.out w' j F hF y
   rw [hF] at HEND hflt
   have hflt:F+sn < C:=hflt
   have HEND:=hide (show (tk=2∨tk=5)→LL[F+sn]?=some []∧∀ k,k+1=sn→LL[F+k]?=some (usesI BL ((F+k:Nat):Int)) from HEND.out)
   have k0:=(HZ.out.cell (p:=⟨b,o+j*7,none⟩) hb).trans (hc 0 _ rfl)
   have k1:=(HZ.out.cell (p:=⟨b,o+j*7+1,none⟩) hb).trans (hc 1 _ rfl)
   have k2:=(HZ.out.cell (p:=⟨b,o+j*7+2,none⟩) hb).trans (hc 2 _ rfl)
   have k3:=(HZ.out.cell (p:=⟨b,o+j*7+3,none⟩) hb).trans (hc 3 _ rfl)
   have k4:=(HZ.out.cell (p:=⟨b,o+j*7+4,none⟩) hb).trans (hc 4 _ rfl)
   have k5:=(HZ.out.cell (p:=⟨b,o+j*7+5,none⟩) hb).trans (hc 5 _ rfl)
   have k6:=(HZ.out.cell (p:=⟨b,o+j*7+6,none⟩) hb).trans (hc 6 _ rfl)
   clear hpv hps hb h1b hc hF
   have hb5:=below1 wr (.cells #[.slice sA sn sc,.int .i64 tk,.slice xA xn xc,.slice gA gn gc,.int .i64 l,.slice pA pn pc,.string tnm] 62)
   have HY5:=hide (HY.out.trans (hb5.mono HY.out.size))
   have HW5:=hide (HW3.out.trans (HY5.out.mono HW3.out.size))
   have hbx:=hide (Bx.new wr [.slice sA sn sc,.int .i64 tk,.slice xA xn xc,.slice gA gn gc,.int .i64 l,.slice pA pn pc,.string tnm] 62)
   clear hb5
   by_cases hk:tk=2∨tk=5
   ·
    obtain ⟨hl1,hl2⟩:=HEND.out hk
    have HL2:=hide hl2
    have hF0:(0:Int)≤(F:Int)+(sn:Int):=by omega
    have hFC:(F:Int)+(sn:Int) < (C:Int):=by omega
    have hw1:IntKind.i64.wrap ((F:Int)+(sn:Int))=((F+sn:Nat):Int):=by rw [wrapI9 _ (by omega) (by omega)];push_cast;rfl
    have hFC2:((F+sn:Nat):Int) < (C:Int):=by omega
    have hF02:(0:Int)≤((F+sn:Nat):Int):=by omega
    obtain ⟨G,hG⟩:∃ G,F+sn=G:=⟨_,rfl⟩
    rw [hG] at hw1 hFC2 hF02 hl1
    have HGE:=hide hG
    obtain ⟨g,z,Q,d,hQA,hg,hcl,_⟩:=HR3.out.at_ hl1
    subst hQA
    have hcl:w3.cell? ⟨g,z+G,none⟩=some (.slice Q 0 d):=hcl
    have HCL:=hide fun (w':World) (y:Below w3.heap.size w3 w')=>(y.cell (p:=⟨g,z+G,none⟩) hg).trans hcl
    clear hcl hg hl1 hl2 hG hF0 hFC
    have hor:(tk != 2)=false∨((tk != 2)=true∧(tk != 5)=false):=by
     rcases hk with e | e
     ·
      exact .inl (by rw [e];rfl)
     ·
      exact .inr ⟨by rw [e];rfl,by rw [e];rfl⟩
    clear hk
    obtain ⟨y0,y1,y2,y3,y4,y5,y6⟩:=hcx.out _ HW5.out
    rcases hor with ht | ⟨ht,ht2⟩
    all_goals
     go_wp2_with fail
     refine (HFJ.out _ (HB.out.trans (HW5.out.mono HB.out.size))).mono ?_
     rintro e6 w6 ⟨rfl,hb0⟩
     have HY6:=hide (HY5.out.trans (hb0.mono HY5.out.size))
     have hbx6:=hide (hbx.out.below hb0)
     clear hb0 x0 x1 x2 x3 x4 x5 x6 y0 y1 y2 y3 y4 y5 y6 k0 k1 k2 k3 k4 k5 k6
     have HW6:=hide (HW3.out.trans (HY6.out.mono HW3.out.size))
     have hcl:=HCL.out _ HY6.out
     have d0:=hbx6.out.cell (j:=0) rfl
     go_wp2
     have HD:=hide (HY6.out.drew)
     by_cases hsn:0 < sn
     ·
      obtain ⟨k,hk⟩:∃ k,k+1=sn:=⟨sn - 1,by omega⟩
      have hl2:=HL2.out k hk
      have hsn':(sn:Int) > 0:=by omega
      have hs1:decide ((0:Int) < (sn:Int))=true:=decide_eq_true (by omega)
      have hs2:decide (0 < sn)=true:=decide_eq_true (by omega)
      have hgg:=HGE.out
      have hw2:IntKind.i64.wrap ((G:Int) - 1)=((F+k:Nat):Int):=by rw [wrapI9 _ (by omega) (by omega)];omega
      have hHC:((F+k:Nat):Int) < (C:Int):=by omega
      have hH0:(0:Int)≤((F+k:Nat):Int):=by omega
      obtain ⟨H,hH⟩:∃ H,F+k=H:=⟨_,rfl⟩
      rw [hH] at hw2 hHC hH0 hl2
      have hIR:IntR (H:Int):=⟨by omega,by omega⟩
      obtain ⟨U,hU⟩:∃ U,usesI BL (H:Int)=U:=⟨_,rfl⟩
      have HUU:=hide fun (w':World) (y:Below w.heap.size w w')=>(show Calls Tryz.prog 15 _ w' (IntsOut9 w' U) from hU ▸ HUS2.out w' (H:Int) hIR y)
      rw [hU] at hl2
      obtain ⟨g2,z2,Q2,d2,hQA,hg2,hcl2,hown⟩:=HR3.out.at_ hl2
      injection hQA with hQA
      injection hQA with e1 e2
      subst e1 e2
      obtain ⟨m,hm⟩:∃ m,U.length=m:=⟨_,rfl⟩
      rw [hm] at hcl2 hown
      have HMM:=hide hm
      have HOW:=hide hown
      have hel:=hide fun (w':World) (y:Below w3.heap.size w3 w')=>(y.cell (p:=⟨g,z+H,none⟩) hg2).trans hcl2
      have hcx:=hide fun (w':World) (u:Below w3.heap.size w3 w')=>hcx.out w' (HW3.out.trans (u.mono HW3.out.size))
      clear hk hl2 hgg hH hIR hU hm hcl2 hown hg2 hcl d0 hbx6 hsn
      refine wp_region_held_drew (S:=(fun w'=>Below w3.heap.size w3 w')) (by kernel_rfl) HD.out (fun hHeld=>?_)
      refine planS [0,1,2,3,4,5,6,7,8,9,10,11,12,13,14] ?_
      repeat' (first | refine pT hHeld rfl ?_ | refine pS hHeld rfl ?_)
      refine pC 15 rfl (fun KZ hK=>?_)
      go_simp
      refine (HUU.out _ (HB.out.trans ((HW3.out.trans (HD.out.mono HW3.out.size)).mono HB.out.size))).mono ?_
      rintro e5 w7 ⟨A7,c7,rfl,ho7,hb0⟩
      have H7:=hide (HD.out.trans (hb0.mono HD.out.size))
      have HO7:=hide ho7
      clear hb0 ho7
      rw [HMM.out]
      refine hK.out _ _ H7.out (fun hHeld=>?_)
      refine pC 16 rfl (fun KZ hK=>?_)
      go_simp
      refine (EqI11 (eqIs_iff.2 rfl) _ (ownsRow_below HOW.out H7.out) (show World.ownsRow _ _ _ _ (.slice A7 m c7) m _ from HMM.out ▸ HO7.out)).mono ?_
      rintro e5 w8 ⟨rfl,hb0⟩
      have H8:=hide (H7.out.trans (hb0.mono H7.out.size))
      clear hb0
      refine hK.out _ _ H8.out (fun hHeld=>?_)
      refine planS [17,18] ?_
      repeat' (first | refine pT hHeld rfl ?_ | refine pS hHeld rfl ?_)
      refine wpAnyH_done (by kernel_rfl) ?_ _
      go_wp2
      go_roundw
      case rel=>exact ⟨j+1,by go_num,by omega,H8⟩
      case measure=>simp [intOf];omega
     ·
      have hsn':¬(sn:Int) > 0:=by omega
      have hs1:decide ((0:Int) < (sn:Int))=false:=decide_eq_false (by omega)
      have hs2:decide (0 < sn)=false:=decide_eq_false (by omega)
      clear hsn hcl d0
      refine wp_region_held_drew (S:=(fun w'=>Below w3.heap.size w3 w')) (by kernel_rfl) HD.out (fun hHeld=>?_)
      refine planS [0,1,2,3,4,5,6,7,8,9,10,11,12,13,14,15,16,17,18] ?_
      repeat' (first | refine pT hHeld rfl ?_ | refine pS hHeld rfl ?_)
      refine wpAnyH_done (by kernel_rfl) ?_ _
      go_wp2
      go_roundw
      case rel=>exact ⟨j+1,by go_num,by omega,HD⟩
      case measure=>simp [intOf];omega
   ·
    have ht1:(tk != 2)=true:=by rw [bne_iff_ne];exact fun e=>hk (.inl e)
    have ht2:(tk != 5)=true:=by rw [bne_iff_ne];exact fun e=>hk (.inr e)
    clear hk
    go_wp2
    go_roundw
    case rel=>exact ⟨j+1,by go_num,by omega,HY5⟩
    case measure=>simp [intOf];omega
  ·
   have hlt':¬(j:Int) < (bn:Int):=by omega
   go_wp2_with fail
   refine (HAL.out _ HZ.out).mono ?_
   rintro e9 w9 ⟨rfl,hb9⟩
   have HC9:=hide (HZ.out.trans (hb9.mono HZ.out.size))
   clear hb9
   go_wp2
   go_ret
   exact ⟨rfl,HC9.out⟩
end Go.Proofs.YteeemjmohjkdpaaGreatDoor
