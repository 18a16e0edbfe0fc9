/- Part 11 of the contracts and their mathematics. -/
import Derived.Test.YteeemjmohjkdpaaGreatDoorQ9
set_option linter.unusedVariables false
set_option linter.unusedSimpArgs false
set_option maxRecDepth 100000
set_option maxHeartbeats 8000000
namespace Go.Proofs.YteeemjmohjkdpaaGreatDoor
open Go.RowKit
theorem any_up {α:Type} (p:α→Bool) {l:List α} {j:Nat} {x:α} (h:l[j]?=some x):(l.take (j+1)).any p=((l.take j).any p || p x):=by
 rw [List.take_add_one,h,List.any_append]
 simp
theorem RFollows_any (x:BdW) (p q:Int) (w:World) (hx:OneBd w w.heap.size x) (hN:ptCount x.v.blocks≤2 ^ 62) (hI:IntR p) :
  Calls Tryz.prog 55 #[aggBd x,.int .i64 p,.int .i64 q] w fun e w'=>e=.returned (.bool (ptFolI x.v.blocks p q))∧Below w.heap.size w w':=by
 obtain ⟨BL,hBL⟩:∃ l,x.v.blocks=l:=⟨_,rfl⟩
 have hbl:=bk_len hx
 have hbm:=hx.blocks.nm
 unfold maxLen at hbm
 obtain ⟨r,hr⟩:∃ r,ptLocI BL p=r:=⟨_,rfl⟩
 have HLO:=hide fun (w':World) (y:Below w.heap.size w w')=>(show Calls Tryz.prog 35 #[aggBd x,.int .i64 p] w' fun e w2=>e=.returned (vLoc r)∧Below w'.heap.size w' w2 from by
  have h:=RLocate_any x p w' (hx.up y) hN hI
  rw [hBL,hr] at h
  exact h)
 have HFI:=hide fun (w':World) (m:Nat) (t:Int) (hm:ptFirst BL t.toNat=m) (y:Below w.heap.size w w')=>RFirst_is (k:=t) (m:=m) (hx.up y) (by rw [hBL];exact hm) hN
 rw [hBL] at hN hbl ⊢
 have HBV:=hide hBL
 have HN:=hide hN
 obtain ⟨v,hv⟩:∃ v,ptFolI BL p q=v:=⟨_,rfl⟩
 rw [hv]
 have HV:=hide hv
 have HR:=hide hr
 obtain ⟨nm,⟨rA,rn,rc,rL⟩,⟨oA,on,oc,oL⟩,⟨tA,tm,tc,tL⟩,⟨lA,ln,lc,lL⟩,ar,⟨bA,bn,bc,bL⟩⟩:=x
 have HBL:=hide (show BL.length=bn from hbl)
 have hbm:bn≤2 ^ 63 - 1:=hbm
 have HB:=hide (below1 w (.cells #[.string nm,.slice rA rn rc,.slice oA on oc,.slice tA tm tc,.slice lA ln lc,.int .i64 ar,.slice bA bn bc] 28))
 have HX:=hide (hx.up HB.out)
 have HC:=hide fun (w':World) (y:Below (w.alloc (.cells #[.string nm,.slice rA rn rc,.slice oA on oc,.slice tA tm tc,.slice lA ln lc,.int .i64 ar,.slice bA bn bc] 28)).heap.size (w.alloc (.cells #[.string nm,.slice rA rn rc,.slice oA on oc,.slice tA tm tc,.slice lA ln lc,.int .i64 ar,.slice bA bn bc] 28)) w')=>cells7 y
 obtain ⟨x0,x1,x2,x3,x4,x5,x6⟩:=HC.out _ (Below.refl _ _)
 clear hBL hbl hN hx hv hr
 cases r with
 | none=>
  obtain rfl:v=false:=by rw [←HV.out];exact ptFolI_none HR.out
  go_enter Tryz.func55,Tryz.ntmps55
  go_wp2_with fail
  refine (HLO.out _ HB.out).mono ?_
  rintro e w1 ⟨rfl,hb1⟩
  have HW1:=hide hb1
  clear hb1
  unfold vLoc
  go_wp2
  go_ret
  exact ⟨rfl,HB.out.trans (HW1.out.mono HB.out.size)⟩
 | some z=>
 obtain ⟨i,k⟩:=z
 have hi:i < bn:=by
  have h1:=ptLocI_lt HR.out
  have h2:BL.length=bn:=HBL.out
  omega
 obtain ⟨pb,b,o,_,hpv,hps,hpm,hA,hb,h1b,hc⟩:=bk_at HX.out hi
 have hA:bA=some ⟨b,o,none⟩:=hA
 subst hA
 have hpv:BL[i]?=some pb.v:=HBV.out ▸ hpv
 have HFO:=hide (ptFolI_at (q:=q) HR.out hpv)
 obtain ⟨hp0,b',hb',hk,hpk⟩:=ptLocI_some HR.out
 have e':some pb.v=some b':=hpv.symm.trans hb'
 injection e' with e'
 subst e'
 have hcnt:=pt_lt hpv hk
 have hp62:p < 2 ^ 62:=by
  have:=HN.out
  omega
 rw [hps] at hk
 obtain ⟨⟨sA,sn,sc,sL⟩,⟨bk,⟨xA,xn,xc,xL⟩,⟨gA,gn,gc,gL⟩,⟨l,pA,pn,pc,ps⟩,tnm⟩⟩:=pb
 have hk:k≤sn:=hk
 have HSN:=hide (show (BkV.stmts (BkW.v ⟨⟨sA,sn,sc,sL⟩,⟨bk,⟨xA,xn,xc,xL⟩,⟨gA,gn,gc,gL⟩,⟨l,pA,pn,pc,ps⟩,tnm⟩⟩)).length=sn from hps)
 have HCB:=hide fun (w':World) (y:Below (w.alloc (.cells #[.string nm,.slice rA rn rc,.slice oA on oc,.slice tA tm tc,.slice lA ln lc,.int .i64 ar,.slice (some ⟨b,o,none⟩) bn bc] 28)).heap.size (w.alloc (.cells #[.string nm,.slice rA rn rc,.slice oA on oc,.slice tA tm tc,.slice lA ln lc,.int .i64 ar,.slice (some ⟨b,o,none⟩) bn bc] 28)) w')=>(show w'.cell? ⟨b,o+i*7,none⟩=some (.slice sA sn sc)∧w'.cell? ⟨b,o+i*7+2,none⟩=some (.slice xA xn xc) from ⟨(y.cell (p:=⟨b,o+i*7,none⟩) hb).trans (hc 0 _ rfl),(y.cell (p:=⟨b,o+i*7+2,none⟩) hb).trans (hc 2 _ rfl)⟩)
 have HTG:=hide h1b.term.targets
 have hi':(i:Int) < (bn:Int):=by omega
 have hi0:(0:Int)≤(i:Int):=by omega
 clear hpv hps hpm hb hc hb' hpk hcnt h1b
 go_enter Tryz.func55,Tryz.ntmps55
 go_wp2_with fail
 refine (HLO.out _ HB.out).mono ?_
 rintro e w1 ⟨rfl,hb1⟩
 have HW1:=hide hb1
 clear hb1 x0 x1 x2 x3 x4 x5 x6
 unfold vLoc
 obtain ⟨y0,y1,y2,y3,y4,y5,y6⟩:=HC.out _ HW1.out
 obtain ⟨c0,c2⟩:=HCB.out _ HW1.out
 by_cases hks:k < sn
 ·
  have hks':(k:Int) < (sn:Int):=by omega
  obtain rfl:v=decide (q=p+1):=by
   rw [←HV.out,HFO.out,HSN.out,if_pos hks]
  have s1:IntKind.i64.wrap (p+1)=p+1:=wrapI9 _ (by omega) (by omega)
  go_wp2
  go_ret
  exact ⟨rfl,HB.out.trans (HW1.out.mono HB.out.size)⟩
 have hks':decide ((k:Int) < (sn:Int))=false:=by simp;omega
 have hks2:decide (k < sn)=false:=by simp;omega
 have HVT:=hide (show xL.any (tgP BL q)=v from by rw [←HV.out,HFO.out,HSN.out,if_neg hks];rfl)
 clear hks
 go_wp2
 clear hks' hks2
 go_loopw [11] (fun i wr=>∃ j:Nat,i=.int .i64 (j:Int)∧j≤xn∧Hid ((xL.take j).any (tgP BL q)=false)∧Hid (Below (w.alloc (.cells #[.string nm,.slice rA rn rc,.slice oA on oc,.slice tA tm tc,.slice lA ln lc,.int .i64 ar,.slice (some ⟨b,o,none⟩) bn bc] 28)).heap.size (w.alloc (.cells #[.string nm,.slice rA rn rc,.slice oA on oc,.slice tA tm tc,.slice lA ln lc,.int .i64 ar,.slice (some ⟨b,o,none⟩) bn bc] 28)) wr)) (fun i _=>xn - (intOf i).toNat)
 case atStart=>exact ⟨0,rfl,Nat.zero_le _,hide rfl,HW1⟩
 case round=>
  obtain ⟨j,rfl,hj,HE,HW⟩:=hrel
  have hxm:xn≤maxLen:=HTG.out.nm
  unfold maxLen at hxm
  by_cases hlt:j < xn
  ·
   have hlt':(j:Int) < (xn:Int):=by omega
   obtain ⟨t,ht⟩:=HTG.out.get hlt
   obtain ⟨g,z,hgA,hgB,_,hgc⟩:=HTG.out.at_ ht
   have hgA:xA=some ⟨g,z,none⟩:=hgA
   subst hgA
   have HT:=hide (show xL[j]?=some t from ht)
   have HGC:=hide (show (w.alloc (.cells #[.string nm,.slice rA rn rc,.slice oA on oc,.slice tA tm tc,.slice lA ln lc,.int .i64 ar,.slice (some ⟨b,o,none⟩) bn bc] 28)).cell? ⟨g,z+j,none⟩=some (.int .i64 t) from by simpa using hgc 0 _ rfl)
   have hcx:=hide fun (w':World) (y:Below wr.heap.size wr w')=>HC.out w' (HW.out.trans (y.mono HW.out.size))
   have hel:=hide fun (w':World) (y:Below wr.heap.size wr w')=>((HW.out.trans (y.mono HW.out.size)).cell (p:=⟨g,z+j,none⟩) hgB).trans HGC.out
   have HD:=hide ((Below.refl wr.heap.size wr).drew)
   clear ht hgc hgB y0 y1 y2 y3 y4 y5 y6 c0 c2
   by_cases h0:0≤t
   case neg=>
    have d1:decide (0≤t)=false:=by simp [h0]
    have HP:=hide (show tgP BL q t=false from by unfold tgP;exact decide_eq_false fun h=>h0 h.1)
    have HZ:=hide (HW.out.trans (HD.out.mono HW.out.size))
    clear h0
    go_wp2
    refine wp_region_held_drew (S:=(fun w'=>Below wr.heap.size wr w')) (by kernel_rfl) HD.out (fun hHeld=>?_)
    refine planS [0,1,2,3,4,5,6,7,8,9,10,11,12,13,14,15,16,17,18,19,20,21,22,23,24] ?_
    repeat' (first | refine pT hHeld rfl ?_ | refine pS hHeld rfl ?_)
    refine planE ?_
    refine wpAnyH_done (by kernel_rfl) ?_ _
    go_wp2
    go_roundw
    case rel=>exact ⟨j+1,by go_num,by omega,hide (by rw [any_up _ HT.out,HE.out,HP.out];rfl),HZ⟩
    case measure=>simp [intOf];omega
   by_cases h1:t < (bn:Int)
   case neg=>
    have d1:decide (0≤t)=true:=by simp [h0]
    have d2:decide (t < (bn:Int))=false:=by simp [h1]
    have HP:=hide (show tgP BL q t=false from by unfold tgP;exact decide_eq_false fun h=>h1 (by have:=h.2.1;rw [HBL.out] at this;exact this))
    have HZ:=hide (HW.out.trans (HD.out.mono HW.out.size))
    clear h0 h1
    go_wp2
    refine wp_region_held_drew (S:=(fun w'=>Below wr.heap.size wr w')) (by kernel_rfl) HD.out (fun hHeld=>?_)
    refine planS [0,1,2,3,4,5,6,7,8,9,10,11,12,13,14,15,16,17,18,19,20,21,22,23,24] ?_
    repeat' (first | refine pT hHeld rfl ?_ | refine pS hHeld rfl ?_)
    refine planE ?_
    refine wpAnyH_done (by kernel_rfl) ?_ _
    go_wp2
    go_roundw
    case rel=>exact ⟨j+1,by go_num,by omega,hide (by rw [any_up _ HT.out,HE.out,HP.out];rfl),HZ⟩
    case measure=>simp [intOf];omega
   have d1:decide (0≤t)=true:=by simp [h0]
   have d2:decide (t < (bn:Int))=true:=by simp [h1]
   obtain ⟨m,hm⟩:∃ m,ptFirst BL t.toNat=m:=⟨_,rfl⟩
   have HM:=hide hm
   have HPT:=hide (show tgP BL q t=decide ((m:Int)=q) from by
    unfold tgP
    rw [HM.out,decide_eq_decide]
    exact ⟨fun h=>h.2.2,fun h=>⟨h0,by rw [HBL.out];exact h1,h⟩⟩)
   clear h0 h1 hm
   by_cases h2:(m:Int)=q
   ·
    have e3:((m:Int) == q)=true:=by simp [h2]
    have HP:=hide (show tgP BL q t=true from by rw [HPT.out];exact decide_eq_true h2)
    clear h2
    go_wp2
    refine wp_region_held_drew (S:=(fun w'=>Below wr.heap.size wr w')) (by kernel_rfl) HD.out (fun hHeld=>?_)
    refine planS [0,1,2,3,4,5,6,7,8,9,10,11,12,13,14,15,16,17,18,19,20,22] ?_
    repeat' (first | refine pT hHeld rfl ?_ | refine pS hHeld rfl ?_)
    refine planE ?_
    refine wpAnyH_ready (rs:=[21]) (by kernel_rfl) (by simp) ?_
    refine AllReadyH.cons rfl (fun KZ hK=>?_) AllReadyH.nil
    go_simp
    refine (HFI.out _ m t HM.out (HB.out.trans ((HW.out.trans (HD.out.mono HW.out.size)).mono HB.out.size))).mono ?_
    rintro e5 w5 ⟨rfl,hb0⟩
    have HY:=hide (HD.out.trans (hb0.mono HD.out.size))
    clear hb0
    refine hK.out _ _ HY.out (fun hHeld=>?_)
    clear hK KZ
    try simp only [Act.put,List.setIfInBounds_toArray,List.set_cons_zero,List.set_cons_succ]
    refine planS [23,24] ?_
    repeat' (first | refine pT hHeld rfl ?_ | refine pS hHeld rfl ?_)
    refine planE ?_
    refine wpAnyH_done (by kernel_rfl) ?_ _
    obtain rfl:v=true:=by
     rw [←HVT.out,List.any_eq_true]
     exact ⟨t,List.mem_of_getElem? HT.out,HP.out⟩
    go_wp2
    go_ret
    exact ⟨rfl,HB.out.trans ((HW.out.trans (HY.out.mono HW.out.size)).mono HB.out.size)⟩
   have e3:((m:Int) == q)=false:=by simp [h2]
   have HP:=hide (show tgP BL q t=false from by rw [HPT.out];exact decide_eq_false h2)
   clear h2
   go_wp2
   refine wp_region_held_drew (S:=(fun w'=>Below wr.heap.size wr w')) (by kernel_rfl) HD.out (fun hHeld=>?_)
   refine planS [0,1,2,3,4,5,6,7,8,9,10,11,12,13,14,15,16,17,18,19,20,22] ?_
   repeat' (first | refine pT hHeld rfl ?_ | refine pS hHeld rfl ?_)
   refine planE ?_
   refine wpAnyH_ready (rs:=[21]) (by kernel_rfl) (by simp) ?_
   refine AllReadyH.cons rfl (fun KZ hK=>?_) AllReadyH.nil
   go_simp
   refine (HFI.out _ m t HM.out (HB.out.trans ((HW.out.trans (HD.out.mono HW.out.size)).mono HB.out.size))).mono ?_
   rintro e5 w5 ⟨rfl,hb0⟩
   have HY:=hide (HD.out.trans (hb0.mono HD.out.size))
   clear hb0
   refine hK.out _ _ HY.out (fun hHeld=>?_)
   clear hK KZ
   try simp only [Act.put,List.setIfInBounds_toArray,List.set_cons_zero,List.set_cons_succ]
   refine planS [23,24] ?_
   repeat' (first | refine pT hHeld rfl ?_ | refine pS hHeld rfl ?_)
   refine planE ?_
   have HZ:=hide (HW.out.trans (HY.out.mono HW.out.size))
   refine wpAnyH_done (by kernel_rfl) ?_ _
   go_wp2
   go_roundw
   case rel=>exact ⟨j+1,by go_num,by omega,hide (by rw [any_up _ HT.out,HE.out,HP.out];rfl),HZ⟩
   case measure=>simp [intOf];omega
  ·
   have hlt':¬(j:Int) < (xn:Int):=by omega
   obtain rfl:v=false:=by
    have h3:xL.length=xn:=HTG.out.len
    rw [←HVT.out,← HE.out,List.take_of_length_le (by omega)]
   go_wp2
   go_ret
   exact ⟨rfl,HB.out.trans (HW.out.mono HB.out.size)⟩
theorem nxI_up (l:List BkV) (p:Int) (j:Nat):nxI l p (j+1)=nxI l p j++if ptFolI l p (j:Int)=true then [(j:Int)] else []:=by
 unfold nxI
 rw [List.range_succ,List.map_append,List.filter_append,List.map_singleton,List.filter_cons,List.filter_nil]
theorem RNext_any (x:BdW) (p:Int) (w:World) (hx:OneBd w w.heap.size x) (hN:ptCount x.v.blocks≤1000000) (hI:IntR p) :
  Calls Tryz.prog 25 #[aggBd x,.int .i64 p] w (IntsOut9 w (nextI x.v.blocks p)):=by
 obtain ⟨BL,hBL⟩:∃ l,x.v.blocks=l:=⟨_,rfl⟩
 obtain ⟨C,hC⟩:∃ n,ptCount BL=n:=⟨_,rfl⟩
 have hN2:ptCount x.v.blocks≤2 ^ 62:=Nat.le_trans hN (by decide)
 have HCO:=hide fun (w':World) (y:Below w.heap.size w w')=>RCount_is (m:=C) (hx.up y) (by rw [hBL];exact hC) (by rw [←hC,← hBL];exact hN2)
 have HFO:=hide fun (w':World) (q:Int) (v:Bool) (hv:ptFolI BL p q=v) (y:Below w.heap.size w w')=>(show Calls Tryz.prog 55 #[aggBd x,.int .i64 p,.int .i64 q] w' fun e w2=>e=.returned (.bool v)∧Below w'.heap.size w' w2 from by
  have h:=RFollows_any x p q w' (hx.up y) hN2 hI
  rw [hBL,hv] at h
  exact h)
 rw [hBL] at hN ⊢
 rw [hC] at hN
 have HL:=hide (show nextI BL p=nxI BL p C from by unfold nextI;rw [hC])
 obtain ⟨nm,⟨rA,rn,rc,rL⟩,⟨oA,on,oc,oL⟩,⟨tA,tm,tc,tL⟩,⟨lA,ln,lc,lL⟩,ar,⟨bA,bn,bc,bL⟩⟩:=x
 have HB:=hide (below1 w (.cells #[.string nm,.slice rA rn rc,.slice oA on oc,.slice tA tm tc,.slice lA ln lc,.int .i64 ar,.slice bA bn bc] 28))
 have hws:(w.alloc (.cells #[.string nm,.slice rA rn rc,.slice oA on oc,.slice tA tm tc,.slice lA ln lc,.int .i64 ar,.slice bA bn bc] 28)).heap.size=w.heap.size+1:=by simp
 have HWS:=hide hws
 have HCX:=hide fun (w':World) (y:Below (w.alloc (.cells #[.string nm,.slice rA rn rc,.slice oA on oc,.slice tA tm tc,.slice lA ln lc,.int .i64 ar,.slice bA bn bc] 28)).heap.size (w.alloc (.cells #[.string nm,.slice rA rn rc,.slice oA on oc,.slice tA tm tc,.slice lA ln lc,.int .i64 ar,.slice bA bn bc] 28)) w')=>cells7 y
 clear hBL hC hN2 hx hws hI
 go_enter Tryz.func25,Tryz.ntmps25
 go_wp2
 go_loopw [5,6] (fun v i wr=>∃ j:Nat,∃ A c,i=.int .i64 (j:Int)∧v=.slice A (nxI BL p j).length c∧j≤C∧Hid (wr.ownsRow (w.heap.size+1) 3 1 (.slice A (nxI BL p j).length c) (nxI BL p j).length ((nxI BL p j).flatMap cInt))∧Hid (Below (w.alloc (.cells #[.string nm,.slice rA rn rc,.slice oA on oc,.slice tA tm tc,.slice lA ln lc,.int .i64 ar,.slice bA bn bc] 28)).heap.size (w.alloc (.cells #[.string nm,.slice rA rn rc,.slice oA on oc,.slice tA tm tc,.slice lA ln lc,.int .i64 ar,.slice bA bn bc] 28)) wr)) (fun _ i _=>C - (intOf i).toNat)
 case atStart=>exact ⟨0,none,0,rfl,rfl,Nat.zero_le _,hide (World.ownsRow_nil _ _ _ _),hide (Below.refl _ _)⟩
 case round=>
  obtain ⟨j,A,c,rfl,rfl,hj,HO,HW⟩:=hrel
  have HUP:=hide (nxI_up BL p j)
  have hln:=nxI_len BL p j
  obtain ⟨M,hM⟩:∃ M,nxI BL p j=M:=⟨_,rfl⟩
  rw [hM] at hln
  have HM:=hide hM
  have HO1:=hide (hM ▸ HO.out)
  rw [hM]
  clear hM HO
  obtain ⟨n,hn⟩:∃ n,M.length=n:=⟨_,rfl⟩
  have HO2:=hide (show wr.ownsRow (w.heap.size+1) 3 1 (.slice A n c) n (M.flatMap cInt) from hn ▸ HO1.out)
  have HN:=hide hn
  rw [hn] at hln ⊢
  clear HO1 hn
  obtain ⟨x0,x1,x2,x3,x4,x5,x6⟩:=HCX.out _ HW.out
  go_wp2_with fail
  refine (HCO.out _ (HB.out.trans (HW.out.mono HB.out.size))).mono ?_
  rintro e1 w1 ⟨rfl,hb1⟩
  have HW1:=hide (HW.out.trans (hb1.mono HW.out.size))
  have HO3:=hide (ownsRow_below HO2.out hb1)
  clear hb1 HO2 x0 x1 x2 x3 x4 x5 x6
  obtain ⟨x0,x1,x2,x3,x4,x5,x6⟩:=HCX.out _ HW1.out
  by_cases hlt:j < C
  ·
   have hlt':(j:Int) < (C:Int):=by omega
   obtain ⟨bv,hbv⟩:∃ b,ptFolI BL p (j:Int)=b:=⟨_,rfl⟩
   have HBV:=hide hbv
   go_wp2_with fail
   refine (HFO.out _ _ bv HBV.out (HB.out.trans (HW1.out.mono HB.out.size))).mono ?_
   rintro e2 w2 ⟨rfl,hb2⟩
   have HW2:=hide (HW1.out.trans (hb2.mono HW1.out.size))
   have HO4:=hide (ownsRow_below HO3.out hb2)
   clear hb2 HO3 x0 x1 x2 x3 x4 x5 x6 hbv
   cases bv
   ·
    have HU:=hide (show nxI BL p (j+1)=M by rw [HUP.out,HM.out,HBV.out];simp)
    go_wp2
    go_roundw
    case rel=>exact ⟨j+1,A,c,by go_num,by rw [HU.out,HN.out],by omega,hide (by rw [HU.out,HN.out];exact HO4.out),HW2⟩
    case measure=>simp [intOf];omega
   ·
    have HU:=hide (show nxI BL p (j+1)=M++[(j:Int)] by rw [HUP.out,HM.out,HBV.out];simp)
    obtain ⟨i0,hi,hz0,hz1,hz2⟩:=info_parts info9Int
    have hb3:=below1 w2 (.cells #[.int .i64 (j:Int)] 3)
    have HO5:=hide (ownsRow_below HO4.out hb3)
    have HL5:=hide (show Cells (w2.alloc (.cells #[.int .i64 (j:Int)] 3)) (w2.heap.size+1) 1 cInt (some ⟨w2.heap.size,0,none⟩) 1 [(j:Int)] from lit_cells w2 cInt cInt_len (j:Int) 3)
    have HW5:=hide (HW2.out.trans (hb3.mono HW2.out.size))
    have hs5:w.heap.size+1≤(w2.alloc (.cells #[.int .i64 (j:Int)] 3)).heap.size:=by
     have h1:=HW5.out.size
     have h2:=HWS.out
     omega
    clear hb3
    go_wp2_with (at_builtin;refine wpList_append_cells (w2.alloc (.cells #[.int .i64 (j:Int)] 3)) rfl (.tmp 17) (.tmp 19) 34 rfl cInt_len (by decide) cInt_one (w.heap.size+1) 3 i0 _ 8 Tryz.underlying34 hi hz0 hz1 hz2 rfl _ n (M.flatMap cInt) rfl HO5.out _ (some ⟨w2.heap.size,0,none⟩) 1 1 [(j:Int)] rfl HL5.out (by unfold maxLen;omega) (by omega) hs5 ?_;intro v5 w5 hown5 hg5 _;obtain ⟨A5,k5,rfl⟩:=own_slice9 hown5;have HO6:=hide hown5;have HW6:=hide (below_app HW5.out (ownsRow_base HO5.out (Nat.le_of_eq HWS.out)) (Nat.le_trans (Nat.le_of_eq HWS.out) hs5) hg5);clear hown5 hg5)
    go_roundw
    case rel=>
     refine ⟨j+1,A5,k5,by go_num,?_,by omega,hide ?_,HW6⟩
     ·
      rw [HU.out,List.length_append,HN.out];rfl
     ·
      rw [HU.out,List.length_append,HN.out,List.flatMap_append];exact HO6.out
    case measure=>simp [intOf];omega
  ·
   have hlt':¬(j:Int) < (C:Int):=by omega
   obtain rfl:C=j:=by omega
   go_wp2
   go_ret
   have hl:nextI BL p=M:=HL.out.trans HM.out
   refine ⟨A,c,?_,?_,HB.out.trans (HW1.out.mono HB.out.size)⟩
   ·
    show Ending.returned (.slice A n c)=_
    rw [hl,HN.out]
   ·
    rw [hl,HN.out]
    exact ownsRow_base HO3.out (by omega)
theorem nxN_lt {l:List BkV} {p:Int}:∀ x∈nxN l p,x < ptCount l:=fun x hx=>by
 unfold nxN at hx
 exact List.mem_range.1 (List.mem_filter.1 hx).1
theorem nxN_len (l:List BkV) (p:Int):(nxN l p).length≤ptCount l:=by
 unfold nxN
 refine Nat.le_trans (List.length_filter_le _ _) ?_
 rw [List.length_range]
 exact Nat.le_refl _
section
variable {w w':World} {lo lo':Nat} {A A':Option Addr} {c c':Nat} {LL:List (List Int)} {S:List SlV} {L:List Int} {s:SlV}
end
theorem lvI_len (l:List BkV) (p j:Nat):(lvI l p j).length≤j:=by
 unfold lvI
 refine Nat.le_trans (List.length_filter_le _ _) ?_
 rw [List.length_map,List.length_range]
 exact Nat.le_refl _
end Go.Proofs.YteeemjmohjkdpaaGreatDoor
