/- Part 22 of the contracts and their mathematics. -/
import Derived.Test.YteeemjmohjkdpaaGreatDoorQ18
import Derived.Test.YteeemjmohjkdpaaGreatDoorQ20
set_option linter.unusedVariables false
set_option linter.unusedSimpArgs false
set_option maxRecDepth 100000
set_option maxHeartbeats 16000000
namespace Go.Proofs.YteeemjmohjkdpaaGreatDoor
theorem ValA2z10 {P:Prop} (h:P:=by
 clear h5 hT
 go_wp2
 go_ret
 exact ⟨rfl,HB.out.trans (HW5.out.mono HB.out.size)⟩):P:=h
open Go.RowKit
theorem ValA2z5 {P:Prop} (h:P:=by
 have HN:=hide (show v=22 from by rw [HVK.out,if_neg (by rintro ⟨a,_⟩;rw [←HA.out,HS.out,HCV.out] at a;cases a)])
 go_wp2
 refine wp_region_held_drew (S:=(fun w'=>Below wr.heap.size wr w')) (by kernel_rfl) HYr.out (fun hHeld=>?_)
 refine planS [0,1,2,3,4,5,6] ?_
 repeat' (first | refine pT hHeld rfl ?_ | refine pS hHeld rfl ?_)
 refine planE ?_
 refine wpAnyH_ready (rs:=[7]) (by kernel_rfl) (by simp) ?_
 refine AllReadyH.cons rfl (fun KZ hK=>?_) AllReadyH.nil
 go_simp
 refine (HFK.out _ HYr.out).mono ?_
 rintro e8 w8 ⟨rfl,hb8⟩
 have HY8:=hide (HYr.out.trans (hb8.mono HYr.out.size))
 clear hb8
 refine hK.out _ _ HY8.out (fun hHeld=>?_)
 clear hK KZ
 try simp only [Act.put,List.setIfInBounds_toArray,List.set_cons_zero,List.set_cons_succ]
 refine planS [8] ?_
 repeat' (first | refine pT hHeld rfl ?_ | refine pS hHeld rfl ?_)
 refine planE ?_
 refine wpAnyH_done (by kernel_rfl) ?_ _
 have HZ:=hide (HW5.out.trans (HY8.out.mono HW5.out.size))
 go_wp2
 go_ret
 exact ⟨congrArg (fun v=>Ending.returned (.int .i64 v)) HN.out.symm,HB.out.trans (HZ.out.mono HB.out.size)⟩):P:=h
theorem ValA2z6 {P:Prop} (h:P:=by
 refine wp_region_held_drew (S:=(fun w'=>Below wr.heap.size wr w')) (by kernel_rfl) HYr.out (fun hHeld=>?_)
 refine planS [0,1,2,3,4,5,6] ?_
 repeat' (first | refine pT hHeld rfl ?_ | refine pS hHeld rfl ?_)
 refine planE ?_
 refine wpAnyH_ready (rs:=[7]) (by kernel_rfl) (by simp) ?_
 refine AllReadyH.cons rfl (fun KZ hK=>?_) AllReadyH.nil
 go_simp
 refine (HFK.out _ HYr.out).mono ?_
 rintro e8 w8 ⟨rfl,hb8⟩
 have HY8:=hide (HYr.out.trans (hb8.mono HYr.out.size))
 clear hb8
 refine hK.out _ _ HY8.out (fun hHeld=>?_)
 clear hK KZ
 try simp only [Act.put,List.setIfInBounds_toArray,List.set_cons_zero,List.set_cons_succ]
 refine planS [8] ?_
 repeat' (first | refine pT hHeld rfl ?_ | refine pS hHeld rfl ?_)
 refine planE ?_
 refine wpAnyH_done (by kernel_rfl) ?_ _
 have HZ:=hide (HW5.out.trans (HY8.out.mono HW5.out.size))
 go_wp2
 go_roundw
 case rel=>exact ⟨j+1,by go_num,by omega,hide HN.out,hide HZ.out⟩
 case measure=>simp [intOf];omega):P:=h
theorem ValA2z7 {P:Prop} (h:P:=by
 by_cases h5:tk=1
 ·
  have t5:(tk != 1)=false:=by simp [h5]
  obtain rfl:v=0:=by rw [HVK.out,if_pos ⟨hT,h5⟩]
  exact ValA2z10
 ·
  have t5:(tk != 1)=true:=by simp [h5]
  obtain rfl:v=22:=by rw [HVK.out,if_neg (by rintro ⟨_,a⟩;exact h5 a)]
  exact ValA2z10):P:=h
theorem ValA2z0 {P:Prop} (h:P:=by
 have hlt':(j:Int) < (gn:Int):=by omega
 obtain ⟨p,hp⟩:∃ p,gL[j]?=some p:=⟨_,List.getElem?_eq_getElem (by have:gL.length=gn:=HLen.out;omega)⟩
 have hpv:(gL.map OpW.v)[j]?=some p.v:=by rw [List.getElem?_map,hp];rfl
 obtain ⟨b,o,hA,hb,hone,hc⟩:=((HR.out.up HW5.out).args).at_ hp
 have hA:gA=some ⟨b,o,none⟩:=hA
 subst hA
 obtain ⟨kq,⟨lq,zA,zn,zc,zs⟩,nq⟩:=p
 have hel:=hide fun (w':World) (y:Below wr.heap.size wr w')=>(show w'.cell? ⟨b,o+j*4,none⟩=some (.int .i64 kq)∧w'.cell? ⟨b,o+j*4+1,none⟩=some (.int .i64 lq)∧w'.cell? ⟨b,o+j*4+2,none⟩=some (.slice zA zn zc)∧w'.cell? ⟨b,o+j*4+3,none⟩=some (.int .i64 nq) from ⟨(y.cell (p:=⟨b,o+j*4,none⟩) hb).trans (hc 0 _ rfl),(y.cell (p:=⟨b,o+j*4+1,none⟩) hb).trans (hc 1 _ rfl),(y.cell (p:=⟨b,o+j*4+2,none⟩) hb).trans (hc 2 _ rfl),(y.cell (p:=⟨b,o+j*4+3,none⟩) hb).trans (hc 3 _ rfl)⟩)
 obtain ⟨c,hcv⟩:∃ c,fitK E (OpW.v ⟨kq,⟨lq,zA,zn,zc,zs⟩,nq⟩) 2=c:=⟨_,rfl⟩
 clear hp hc
 have HS:=hide (show ((gL.map OpW.v).drop j).all (fun o=>fitK E o 2)=(fitK E (OpW.v ⟨kq,⟨lq,zA,zn,zc,zs⟩,nq⟩) 2 && ((gL.map OpW.v).drop (j+1)).all (fun o=>fitK E o 2)) from by rw [drop_at10 hpv,List.all_cons])
 have HCV:=hide hcv
 have HFK:=hide fun (w':World) (y:Below wr.heap.size wr w')=>RfitsKind_is (v:=c) (HX.out.up (HW5.out.trans (y.mono HW5.out.size))) (hone.up y) (by rw [HEE.out];exact HZ0.out _ (List.mem_of_getElem? hpv)) (by rw [HEE.out];exact hcv)
 clear hpv hone hcv
 have HYr:=hide (Below.refl wr.heap.size wr).drew
 cases c
 ·
  exact ValA2z5
 ·
  have HN:=hide (show ((gL.map OpW.v).drop (j+1)).all (fun o=>fitK E o 2)=((gL.map OpW.v).all (fun o=>fitK E o 2)) from by rw [←HA.out,HS.out,HCV.out,Bool.true_and])
  go_wp2
  exact ValA2z6):P:=h
theorem ValA2z3 {P:Prop} (h:P:=by
 have HWW:=hide hWW
 clear hWW
 have HB:=hide hB9
 clear hB9
 have hcx:=hide hcx9
 clear hcx9
 have HX:=hide (H0.out.up HB.out)
 have HR:=hide (HRV.out.up HB.out)
 have hty:=hide fun (w':World) (y:Below WW.heap.size WW w')=>(show w'.cell? ⟨g,q+i*5,none⟩=some (.int .i64 tk)∧w'.cell? ⟨g,q+i*5+4,none⟩=some (.slice fA fn fc) from by
  obtain ⟨b',q',hg',_,_,c0,c1,c2,c3,c4⟩:=(HX.out.up y).one.typs.at_ HTY.out
  injection hg' with hg'
  injection hg' with hga hgb
  subst hga hgb
  exact ⟨c0,c4⟩)
 clear hgn hfn hET hEl hsh hv
 go_enter Tryz.func99,Tryz.ntmps99
 go_wp2_with fail
 rw [←HWW.out]
 refine (Rshape_is HSH.out _ HR.out).mono ?_
 rintro e1 w1 ⟨rfl,hb1⟩
 have HW1:=hide hb1
 clear hb1
 obtain ⟨b0,b1,b2,b3,b4,b5,b6,r0,r1,r2,r3,r4,r5,r6⟩:=hcx.out _ HW1.out
 obtain ⟨y0,y4⟩:=hty.out _ HW1.out
 go_wp2
 go_ret
 exact ⟨rfl,HB.out.trans (HW1.out.mono HB.out.size)⟩):P:=h
theorem ValA2z1 {P:Prop} (h:P:=by
 rw [hof,hot] at hvk
 clear hof hot a1
 have HVK:=hide hvk
 clear hvk
 go_wp2
 clear b0 b1 b2 b3 b4 b5 b6 r0 r1 r2 r3 r4 r5 r6
 go_loopw [13] (fun i wr=>∃ j:Nat,i=.int .i64 (j:Int)∧j≤gn∧Hid (((gL.map OpW.v).drop j).all (fun o=>fitK E o 1)=((gL.map OpW.v).all (fun o=>fitK E o 1)))∧Hid (Below WW.heap.size WW wr)) (fun i _=>gn - (intOf i).toNat)
 case atStart=>exact ⟨0,rfl,Nat.zero_le _,hide rfl,hide HW.out⟩
 case round=>
  obtain ⟨j,rfl,hj,HA,HW5⟩:=hrel
  obtain ⟨b0,b1,b2,b3,b4,b5,b6,r0,r1,r2,r3,r4,r5,r6⟩:=hcx.out _ HW5.out
  by_cases hlt:j < gn
  ·
   have hlt':(j:Int) < (gn:Int):=by omega
   obtain ⟨p,hp⟩:∃ p,gL[j]?=some p:=⟨_,List.getElem?_eq_getElem (by have:gL.length=gn:=HLen.out;omega)⟩
   have hpv:(gL.map OpW.v)[j]?=some p.v:=by rw [List.getElem?_map,hp];rfl
   obtain ⟨b,o,hA,hb,hone,hc⟩:=((HR.out.up HW5.out).args).at_ hp
   have hA:gA=some ⟨b,o,none⟩:=hA
   subst hA
   obtain ⟨kq,⟨lq,zA,zn,zc,zs⟩,nq⟩:=p
   have hel:=hide fun (w':World) (y:Below wr.heap.size wr w')=>(show w'.cell? ⟨b,o+j*4,none⟩=some (.int .i64 kq)∧w'.cell? ⟨b,o+j*4+1,none⟩=some (.int .i64 lq)∧w'.cell? ⟨b,o+j*4+2,none⟩=some (.slice zA zn zc)∧w'.cell? ⟨b,o+j*4+3,none⟩=some (.int .i64 nq) from ⟨(y.cell (p:=⟨b,o+j*4,none⟩) hb).trans (hc 0 _ rfl),(y.cell (p:=⟨b,o+j*4+1,none⟩) hb).trans (hc 1 _ rfl),(y.cell (p:=⟨b,o+j*4+2,none⟩) hb).trans (hc 2 _ rfl),(y.cell (p:=⟨b,o+j*4+3,none⟩) hb).trans (hc 3 _ rfl)⟩)
   obtain ⟨c,hcv⟩:∃ c,fitK E (OpW.v ⟨kq,⟨lq,zA,zn,zc,zs⟩,nq⟩) 1=c:=⟨_,rfl⟩
   clear hp hc
   have HS:=hide (show ((gL.map OpW.v).drop j).all (fun o=>fitK E o 1)=(fitK E (OpW.v ⟨kq,⟨lq,zA,zn,zc,zs⟩,nq⟩) 1 && ((gL.map OpW.v).drop (j+1)).all (fun o=>fitK E o 1)) from by rw [drop_at10 hpv,List.all_cons])
   have HCV:=hide hcv
   have HFK:=hide fun (w':World) (y:Below wr.heap.size wr w')=>RfitsKind_is (v:=c) (HX.out.up (HW5.out.trans (y.mono HW5.out.size))) (hone.up y) (by rw [HEE.out];exact HZ0.out _ (List.mem_of_getElem? hpv)) (by rw [HEE.out];exact hcv)
   clear hpv hone hcv
   have HYr:=hide (Below.refl wr.heap.size wr).drew
   cases c
   ·
    exact ValA2z5
   ·
    have HN:=hide (show ((gL.map OpW.v).drop (j+1)).all (fun o=>fitK E o 1)=((gL.map OpW.v).all (fun o=>fitK E o 1)) from by rw [←HA.out,HS.out,HCV.out,Bool.true_and])
    go_wp2
    exact ValA2z6
  ·
   obtain rfl:gn=j:=by omega
   have hT:((gL.map OpW.v).all (fun o=>fitK E o 1))=true:=by rw [←HA.out,List.drop_of_length_le (by rw [List.length_map];have:gL.length=gn:=HLen.out;omega)];rfl
   exact ValA2z7):P:=h
theorem ValA2z2 {P:Prop} (h:P:=by
 have hlt':(j:Int) < (gn:Int):=by omega
 obtain ⟨p,hp⟩:∃ p,gL[j]?=some p:=⟨_,List.getElem?_eq_getElem (by have:gL.length=gn:=HLen.out;omega)⟩
 have hpv:(gL.map OpW.v)[j]?=some p.v:=by rw [List.getElem?_map,hp];rfl
 obtain ⟨b,o,hA,hb,hone,hc⟩:=((HR.out.up HW.out).args).at_ hp
 have hA:gA=some ⟨b,o,none⟩:=hA
 subst hA
 obtain ⟨kq,⟨lq,zA,zn,zc,zs⟩,nq⟩:=p
 have hel:=hide fun (w':World) (y:Below wr.heap.size wr w')=>(show w'.cell? ⟨b,o+j*4,none⟩=some (.int .i64 kq)∧w'.cell? ⟨b,o+j*4+1,none⟩=some (.int .i64 lq)∧w'.cell? ⟨b,o+j*4+2,none⟩=some (.slice zA zn zc)∧w'.cell? ⟨b,o+j*4+3,none⟩=some (.int .i64 nq) from ⟨(y.cell (p:=⟨b,o+j*4,none⟩) hb).trans (hc 0 _ rfl),(y.cell (p:=⟨b,o+j*4+1,none⟩) hb).trans (hc 1 _ rfl),(y.cell (p:=⟨b,o+j*4+2,none⟩) hb).trans (hc 2 _ rfl),(y.cell (p:=⟨b,o+j*4+3,none⟩) hb).trans (hc 3 _ rfl)⟩)
 obtain ⟨oe,hoe⟩:∃ z,opErr E (OpW.v ⟨kq,⟨lq,zA,zn,zc,zs⟩,nq⟩)=z:=⟨_,rfl⟩
 clear hp hc
 have HSo:=hide (opsErr_at (E:=E) hpv)
 clear hpv
 have HOE:=hide hoe
 have HO:=hide fun (w':World) (y:Below wr.heap.size wr w')=>ROperand_is (v:=oe) (HX.out.up (HW.out.trans (y.mono HW.out.size))) (hone.up y) (by rw [HEE.out];exact hoe)
 clear hone hoe
 have HYr:=hide (Below.refl wr.heap.size wr).drew
 by_cases h0:oe=0
 case neg=>
  have t7:(oe != 0)=true:=by simp [h0]
  have HN:=hide (show v=oe from by rw [←HV.out,if_pos (by rw [←HE.out,HSo.out,HOE.out,if_pos h0];exact h0),← HE.out,HSo.out,HOE.out,if_pos h0])
  clear h0
  go_wp2
  refine wp_region_held_drew (S:=(fun w'=>Below wr.heap.size wr w')) (by kernel_rfl) HYr.out (fun hHeld=>?_)
  refine planS [0,1,2,3,4,5] ?_
  repeat' (first | refine pT hHeld rfl ?_ | refine pS hHeld rfl ?_)
  refine planE ?_
  refine wpAnyH_ready (rs:=[6]) (by kernel_rfl) (by simp) ?_
  refine AllReadyH.cons rfl (fun KZ hK=>?_) AllReadyH.nil
  go_simp
  refine (HO.out _ HYr.out).mono ?_
  rintro e7 w7 ⟨rfl,hb7⟩
  have HY7:=hide (HYr.out.trans (hb7.mono HYr.out.size))
  clear hb7
  refine hK.out _ _ HY7.out (fun hHeld=>?_)
  clear hK KZ
  try simp only [Act.put,List.setIfInBounds_toArray,List.set_cons_zero,List.set_cons_succ]
  refine planS [7] ?_
  repeat' (first | refine pT hHeld rfl ?_ | refine pS hHeld rfl ?_)
  refine planE ?_
  refine wpAnyH_done (by kernel_rfl) ?_ _
  have HZ:=hide (HW.out.trans (HY7.out.mono HW.out.size))
  go_wp2
  go_ret
  exact ⟨congrArg (fun v=>Ending.returned (.int .i64 v)) HN.out.symm,HB.out.trans (HZ.out.mono HB.out.size)⟩
 have t7:(oe != 0)=false:=by simp [h0]
 subst h0
 have HN:=hide (show opsErr E ((gL.map OpW.v).drop (j+1))=er from by rw [←HE.out,HSo.out,if_neg (by rw [HOE.out];simp)])
 go_wp2
 refine wp_region_held_drew (S:=(fun w'=>Below wr.heap.size wr w')) (by kernel_rfl) HYr.out (fun hHeld=>?_)
 refine planS [0,1,2,3,4,5] ?_
 repeat' (first | refine pT hHeld rfl ?_ | refine pS hHeld rfl ?_)
 refine planE ?_
 refine wpAnyH_ready (rs:=[6]) (by kernel_rfl) (by simp) ?_
 refine AllReadyH.cons rfl (fun KZ hK=>?_) AllReadyH.nil
 go_simp
 refine (HO.out _ HYr.out).mono ?_
 rintro e7 w7 ⟨rfl,hb7⟩
 have HY7:=hide (HYr.out.trans (hb7.mono HYr.out.size))
 clear hb7
 refine hK.out _ _ HY7.out (fun hHeld=>?_)
 clear hK KZ
 try simp only [Act.put,List.setIfInBounds_toArray,List.set_cons_zero,List.set_cons_succ]
 refine planS [7] ?_
 repeat' (first | refine pT hHeld rfl ?_ | refine pS hHeld rfl ?_)
 refine planE ?_
 refine wpAnyH_done (by kernel_rfl) ?_ _
 go_wp2
 have HD17:=hide (HW.out.trans (HY7.out.mono HW.out.size)).drew
 refine wp_region_held_drew (S:=(fun w'=>Below WW.heap.size WW w')) (by kernel_rfl) HD17.out (fun hHeld=>?_)
 refine planS [0,1,2,3,4,5,6,7,8,9,10,11,12,13,14,15,16,17,18] ?_
 repeat' (first | refine pT hHeld rfl ?_ | refine pS hHeld rfl ?_)
 refine planE ?_
 refine wpAnyH_ready (rs:=[19]) (by kernel_rfl) (by simp) ?_
 refine AllReadyH.cons rfl (fun KZ hK=>?_) AllReadyH.nil
 go_simp
 refine hK.out _ _ hHeld (fun hHeld=>?_)
 clear hK KZ
 try simp only [Act.put,List.setIfInBounds_toArray,List.set_cons_zero,List.set_cons_succ]
 refine planS [20,21] ?_
 repeat' (first | refine pT hHeld rfl ?_ | refine pS hHeld rfl ?_)
 refine planE ?_
 refine wpAnyH_done (by kernel_rfl) ?_ _
 go_wp2
 go_roundw
 case rel=>exact ⟨j+1,by go_num,by omega,hide HN.out,hide HD17.out⟩
 case measure=>simp [intOf];omega):P:=h
theorem ValA2z4 {P:Prop} (h:P:=by
 rw [hof,hot] at hvk
 clear hof hot a1
 have HVK:=hide hvk
 clear hvk
 go_wp2
 clear b0 b1 b2 b3 b4 b5 b6 r0 r1 r2 r3 r4 r5 r6
 go_loopw [13] (fun i wr=>∃ j:Nat,i=.int .i64 (j:Int)∧j≤gn∧Hid (((gL.map OpW.v).drop j).all (fun o=>fitK E o 2)=((gL.map OpW.v).all (fun o=>fitK E o 2)))∧Hid (Below WW.heap.size WW wr)) (fun i _=>gn - (intOf i).toNat)
 case atStart=>exact ⟨0,rfl,Nat.zero_le _,hide rfl,hide HW.out⟩
 case round=>
  obtain ⟨j,rfl,hj,HA,HW5⟩:=hrel
  obtain ⟨b0,b1,b2,b3,b4,b5,b6,r0,r1,r2,r3,r4,r5,r6⟩:=hcx.out _ HW5.out
  by_cases hlt:j < gn
  ·
   exact ValA2z0
  ·
   obtain rfl:gn=j:=by omega
   have hT:((gL.map OpW.v).all (fun o=>fitK E o 2))=true:=by rw [←HA.out,List.drop_of_length_le (by rw [List.length_map];have:gL.length=gn:=HLen.out;omega)];rfl
   by_cases h5:tk=2
   ·
    have t5:(tk != 2)=false:=by simp [h5]
    obtain rfl:v=0:=by rw [HVK.out,if_pos ⟨hT,h5⟩]
    exact ValA2z10
   ·
    have t5:(tk != 2)=true:=by simp [h5]
    obtain rfl:v=22:=by rw [HVK.out,if_neg (by rintro ⟨_,a⟩;exact h5 a)]
    exact ValA2z10):P:=h
theorem ValA2z8 {P:Prop} (h:P:=by
 obtain ⟨WW,hWW,hB9,_,hcx9⟩:=boxes77 w (.string nm) (.slice rA rn rc) (.slice oA on oc) (.slice (some ⟨g,q,none⟩) tm tc) (.slice lA ln lc) (.int .i64 ar) (.slice bA bn bc) (.int .i64 (2)) (.int .i64 op) (.int .i64 rg) (.bool mu) (.int .i64 l) (.slice pA pn pc) (.slice gA gn gc) 28 71
 exact ValA2z3):P:=h
theorem ValA2z11 {P:Prop} (h:P:=by
 obtain ⟨u,y,rfl,_,hu⟩:=hok.elem htt (p:=f) (by rw [tyParts_tup h4];exact List.mem_of_getElem? hq)
 obtain ⟨z,hz,_⟩:=tys_back hu
 exact ⟨u,z,rfl,hz⟩):P:=h
theorem Rasg_2 {x:BdW} {r:RvW} {i:Nat} {ty:TyW} {v:Int} {w:World} (h:VB w x) (hr:OneRv w w.heap.size r) (ht:x.types.L[i]?=some ty) (hk:r.kind=2) (hsh:shErr r.v=0) (hv:asErr (wE x) r.v (i:Int)=v) :
 Calls Tryz.prog 99 #[aggBd x,aggRv r,.int .i64 (i:Int)] w fun e w'=>e=.returned (.int .i64 v)∧Below w.heap.size w w':=by
 have htt:(tys x.types.L)[i]?=some ty.t:=by
  show (x.types.L.map TyW.t)[i]?=_
  rw [List.getElem?_map,ht]
  rfl
 have hil:i < x.types.n:=by have h1:=(List.getElem?_eq_some_iff.1 ht).1;have h2:=h.one.types.len;omega
 have hok:=tyChk_iff.1 h.ok.ty
 have hto:OneT w w.heap.size ty:=h.one.types.all ty (List.mem_of_getElem? ht)
 have htm:x.types.n≤65535:=h.nt65
 obtain ⟨E,hE⟩:∃ u,wE x=u:=⟨_,rfl⟩
 have hET:tyGet E.T (i:Int)=ty.t:=by rw [←hE];exact tyGet_at htt
 rw [hE] at hv
 have HEE:=hide hE
 have hgn0:r.args.L.length=r.args.n:=hr.args.len
 have hgm0:=hr.args.nm
 unfold maxLen at hgm0
 have H0:=hide h
 have HRV:=hide hr
 have hEl:∀ (q:Nat) (f:Int),ty.t.kind=4→ty.t.fields[q]?=some f→∃ (u:Nat) (y:TyW),f=(u:Int)∧x.types.L[u]?=some y:=fun q f h4 hq=>by
  exact ValA2z11
 obtain ⟨g,q,hg,_⟩:=h.one.typs.at_ ht
 obtain ⟨nm,⟨rA,rn,rc,rL⟩,⟨oA,on,oc,oL⟩,⟨tA,tm,tc,tL⟩,⟨lA,ln,lc,lL⟩,ar,⟨bA,bn,bc,bL⟩⟩:=x
 obtain ⟨k,op,rg,mu,⟨l,pA,pn,pc,ps⟩,⟨gA,gn,gc,gL⟩⟩:=r
 have hg:tA=some ⟨g,q,none⟩:=hg
 subst hg
 obtain ⟨⟨tk,tmu,trg,tel,fs⟩,fA,fn,fc⟩:=ty
 have hfn:fs.length=fn:=by have:=hto.rd.1;rw [List.length_map] at this;exact this
 have hfm:fn≤maxLen:=Nat.le_trans hto.ok.nc hto.ok.cm
 unfold maxLen at hfm
 have hil:i < tm:=hil
 have hgn:gL.length=gn:=hgn0
 clear hgn0
 have hgm:gn≤2 ^ 63 - 1:=hgm0
 clear hgm0
 have htm:tm≤65535:=htm
 have hilI:(i:Int) < (tm:Int):=by omega
 have hi0:(0:Int)≤(i:Int):=by omega
 have HTY:=hide ht
 have hk:k=2:=hk
 subst hk
 clear h hr ht htt hil hok hto hE htm
 have HSH:=hide hsh
 by_cases hr1:op < 0
 case pos=>
  obtain rfl:v=14:=by rw [←hv];exact asErr_rng (r:=RvW.v ⟨2,op,rg,mu,⟨l,pA,pn,pc,ps⟩,⟨gA,gn,gc,gL⟩⟩) hsh (by show ¬(2:Int)=1;decide) (.inl ⟨rfl,.inl hr1⟩)
  exact ValA2z8
 have op0:0≤op:=by omega
 clear hr1
 by_cases hr1:1 < op
 case pos=>
  obtain rfl:v=14:=by rw [←hv];exact asErr_rng (r:=RvW.v ⟨2,op,rg,mu,⟨l,pA,pn,pc,ps⟩,⟨gA,gn,gc,gL⟩⟩) hsh (by show ¬(2:Int)=1;decide) (.inl ⟨rfl,.inr hr1⟩)
  exact ValA2z8
 have op1:op≤1:=by omega
 clear hr1
 obtain ⟨er,her⟩:∃ u,opsErr E (gL.map OpW.v)=u:=⟨_,rfl⟩
 have hv9:(if er≠0 then er else if ((gL.map OpW.v).all (fun o=>fitK E o (opFrom (RvW.v ⟨2,op,rg,mu,⟨l,pA,pn,pc,ps⟩,⟨gA,gn,gc,gL⟩⟩)))=true)∧tk=opTo (RvW.v ⟨2,op,rg,mu,⟨l,pA,pn,pc,ps⟩,⟨gA,gn,gc,gL⟩⟩) then 0 else 22)=v:=by
  rw [←hv,asErr_op2 (r:=RvW.v ⟨2,op,rg,mu,⟨l,pA,pn,pc,ps⟩,⟨gA,gn,gc,gL⟩⟩) (.inl rfl) hsh (by show ¬(((2:Int)=2∧(op < 0∨1 < op))∨((2:Int)=3∧(op < 0∨5 < op)));omega),← her,hET]
  rfl
 have HV:=hide hv9
 have HEr:=hide her
 have HLen:=hide hgn
 have HZero:=hide fun (e0:er=0)=>opsErr_zero.1 (her.trans e0)
 obtain ⟨WW,hWW,hB9,_,hcx9⟩:=boxes77 w (.string nm) (.slice rA rn rc) (.slice oA on oc) (.slice (some ⟨g,q,none⟩) tm tc) (.slice lA ln lc) (.int .i64 ar) (.slice bA bn bc) (.int .i64 (2)) (.int .i64 op) (.int .i64 rg) (.bool mu) (.int .i64 l) (.slice pA pn pc) (.slice gA gn gc) 28 71
 have HWW:=hide hWW
 clear hWW
 have HB:=hide hB9
 clear hB9
 have hcx:=hide hcx9
 clear hcx9
 have HX:=hide (H0.out.up HB.out)
 have HR:=hide (HRV.out.up HB.out)
 have hty:=hide fun (w':World) (y:Below WW.heap.size WW w')=>(show w'.cell? ⟨g,q+i*5,none⟩=some (.int .i64 tk)∧w'.cell? ⟨g,q+i*5+4,none⟩=some (.slice fA fn fc) from by
  obtain ⟨b',q',hg',_,_,c0,c1,c2,c3,c4⟩:=(HX.out.up y).one.typs.at_ HTY.out
  injection hg' with hg'
  injection hg' with hga hgb
  subst hga hgb
  exact ⟨c0,c4⟩)
 clear hgn hfn hET hEl hsh hv hv9 her
 go_enter Tryz.func99,Tryz.ntmps99
 go_wp2_with fail
 rw [←HWW.out]
 refine (Rshape_is HSH.out _ HR.out).mono ?_
 rintro e1 w1 ⟨rfl,hb1⟩
 have HW1:=hide hb1
 clear hb1
 obtain ⟨b0,b1,b2,b3,b4,b5,b6,r0,r1,r2,r3,r4,r5,r6⟩:=hcx.out _ HW1.out
 obtain ⟨y0,y4⟩:=hty.out _ HW1.out
 go_wp2
 have HD9:=hide HW1.out.drew
 refine wp_region_held_drew (S:=(fun w'=>Below WW.heap.size WW w')) (by kernel_rfl) HD9.out (fun hHeld=>?_)
 refine planS [0,1,2,3,4,5,6,7,8,9,10,11,12,13,14,15,16,17,18,19] ?_
 repeat' (first | refine pT hHeld rfl ?_ | refine pS hHeld rfl ?_)
 refine planE ?_
 refine wpAnyH_done (by kernel_rfl) ?_ _
 clear b0 b1 b2 b3 b4 b5 b6 r0 r1 r2 r3 r4 r5 r6 y0 y4
 obtain ⟨b0,b1,b2,b3,b4,b5,b6,r0,r1,r2,r3,r4,r5,r6⟩:=hcx.out _ HD9.out
 obtain ⟨y0,y4⟩:=hty.out _ HD9.out
 go_wp2
 clear b0 b1 b2 b3 b4 b5 b6 r0 r1 r2 r3 r4 r5 r6 y0 y4
 go_loopw [9] (fun i wr=>∃ j:Nat,i=.int .i64 (j:Int)∧j≤gn∧Hid (opsErr E ((gL.map OpW.v).drop j)=er)∧Hid (Below WW.heap.size WW wr)) (fun i _=>gn - (intOf i).toNat)
 case atStart=>exact ⟨0,rfl,Nat.zero_le _,hide HEr.out,hide HD9.out⟩
 case round=>
  obtain ⟨j,rfl,hj,HE,HW⟩:=hrel
  obtain ⟨b0,b1,b2,b3,b4,b5,b6,r0,r1,r2,r3,r4,r5,r6⟩:=hcx.out _ HW.out
  by_cases hlt:j < gn
  ·
   exact ValA2z2
  ·
   obtain rfl:gn=j:=by omega
   have e0:er=0:=by rw [←HE.out];exact opsErr_end (by rw [List.length_map];have:gL.length=gn:=HLen.out;omega)
   have HZ0:=hide (HZero.out e0)
   have hvk:v=if ((gL.map OpW.v).all (fun o=>fitK E o (opFrom (RvW.v ⟨2,op,rg,mu,⟨l,pA,pn,pc,ps⟩,⟨gA,gn,gc,gL⟩⟩)))=true)∧tk=opTo (RvW.v ⟨2,op,rg,mu,⟨l,pA,pn,pc,ps⟩,⟨gA,gn,gc,gL⟩⟩) then 0 else 22:=by have h1:=HV.out;rw [if_neg (by rw [e0];simp)] at h1;exact h1.symm
   clear e0 hlt hj
   generalize wr=ws at *
   have a1:op=1∨¬op=1:=by omega
   rcases a1 with a1 | a1
   ·
    have q1:(op == 1)=true:=by simp [a1]
    have hof:opFrom (RvW.v ⟨2,op,rg,mu,⟨l,pA,pn,pc,ps⟩,⟨gA,gn,gc,gL⟩⟩)=1:=by show (if ((2:Int)=2∧op=1)∨((2:Int)=3∧op=5) then (1:Int) else 2)=1;rw [if_pos (by omega)]
    have hot:opTo (RvW.v ⟨2,op,rg,mu,⟨l,pA,pn,pc,ps⟩,⟨gA,gn,gc,gL⟩⟩)=1:=by show (if ((2:Int)=2∧op=1)∨((2:Int)=3∧3≤op) then (1:Int) else 2)=1;rw [if_pos (by omega)]
    exact ValA2z1
   ·
    have q1:(op == 1)=false:=by simp [a1]
    have hof:opFrom (RvW.v ⟨2,op,rg,mu,⟨l,pA,pn,pc,ps⟩,⟨gA,gn,gc,gL⟩⟩)=2:=by show (if ((2:Int)=2∧op=1)∨((2:Int)=3∧op=5) then (1:Int) else 2)=2;rw [if_neg (by omega)]
    have hot:opTo (RvW.v ⟨2,op,rg,mu,⟨l,pA,pn,pc,ps⟩,⟨gA,gn,gc,gL⟩⟩)=2:=by show (if ((2:Int)=2∧op=1)∨((2:Int)=3∧3≤op) then (1:Int) else 2)=2;rw [if_neg (by omega)]
    exact ValA2z4
theorem ValA2z9 {P:Prop} (h:P:=by
 obtain ⟨WW,hWW,hB9,_,hcx9⟩:=boxes77 w (.string nm) (.slice rA rn rc) (.slice oA on oc) (.slice (some ⟨g,q,none⟩) tm tc) (.slice lA ln lc) (.int .i64 ar) (.slice bA bn bc) (.int .i64 (3)) (.int .i64 op) (.int .i64 rg) (.bool mu) (.int .i64 l) (.slice pA pn pc) (.slice gA gn gc) 28 71
 exact ValA2z3):P:=h
theorem Rasg_3 {x:BdW} {r:RvW} {i:Nat} {ty:TyW} {v:Int} {w:World} (h:VB w x) (hr:OneRv w w.heap.size r) (ht:x.types.L[i]?=some ty) (hk:r.kind=3) (hsh:shErr r.v=0) (hv:asErr (wE x) r.v (i:Int)=v) :
 Calls Tryz.prog 99 #[aggBd x,aggRv r,.int .i64 (i:Int)] w fun e w'=>e=.returned (.int .i64 v)∧Below w.heap.size w w':=by
 have htt:(tys x.types.L)[i]?=some ty.t:=by
  show (x.types.L.map TyW.t)[i]?=_
  rw [List.getElem?_map,ht]
  rfl
 have hil:i < x.types.n:=by have h1:=(List.getElem?_eq_some_iff.1 ht).1;have h2:=h.one.types.len;omega
 have hok:=tyChk_iff.1 h.ok.ty
 have hto:OneT w w.heap.size ty:=h.one.types.all ty (List.mem_of_getElem? ht)
 have htm:x.types.n≤65535:=h.nt65
 obtain ⟨E,hE⟩:∃ u,wE x=u:=⟨_,rfl⟩
 have hET:tyGet E.T (i:Int)=ty.t:=by rw [←hE];exact tyGet_at htt
 rw [hE] at hv
 have HEE:=hide hE
 have hgn0:r.args.L.length=r.args.n:=hr.args.len
 have hgm0:=hr.args.nm
 unfold maxLen at hgm0
 have H0:=hide h
 have HRV:=hide hr
 have hEl:∀ (q:Nat) (f:Int),ty.t.kind=4→ty.t.fields[q]?=some f→∃ (u:Nat) (y:TyW),f=(u:Int)∧x.types.L[u]?=some y:=fun q f h4 hq=>by
  exact ValA2z11
 obtain ⟨g,q,hg,_⟩:=h.one.typs.at_ ht
 obtain ⟨nm,⟨rA,rn,rc,rL⟩,⟨oA,on,oc,oL⟩,⟨tA,tm,tc,tL⟩,⟨lA,ln,lc,lL⟩,ar,⟨bA,bn,bc,bL⟩⟩:=x
 obtain ⟨k,op,rg,mu,⟨l,pA,pn,pc,ps⟩,⟨gA,gn,gc,gL⟩⟩:=r
 have hg:tA=some ⟨g,q,none⟩:=hg
 subst hg
 obtain ⟨⟨tk,tmu,trg,tel,fs⟩,fA,fn,fc⟩:=ty
 have hfn:fs.length=fn:=by have:=hto.rd.1;rw [List.length_map] at this;exact this
 have hfm:fn≤maxLen:=Nat.le_trans hto.ok.nc hto.ok.cm
 unfold maxLen at hfm
 have hil:i < tm:=hil
 have hgn:gL.length=gn:=hgn0
 clear hgn0
 have hgm:gn≤2 ^ 63 - 1:=hgm0
 clear hgm0
 have htm:tm≤65535:=htm
 have hilI:(i:Int) < (tm:Int):=by omega
 have hi0:(0:Int)≤(i:Int):=by omega
 have HTY:=hide ht
 have hk:k=3:=hk
 subst hk
 clear h hr ht htt hil hok hto hE htm
 have HSH:=hide hsh
 by_cases hr1:op < 0
 case pos=>
  obtain rfl:v=14:=by rw [←hv];exact asErr_rng (r:=RvW.v ⟨3,op,rg,mu,⟨l,pA,pn,pc,ps⟩,⟨gA,gn,gc,gL⟩⟩) hsh (by show ¬(3:Int)=1;decide) (.inr ⟨rfl,.inl hr1⟩)
  exact ValA2z9
 have op0:0≤op:=by omega
 clear hr1
 by_cases hr1:5 < op
 case pos=>
  obtain rfl:v=14:=by rw [←hv];exact asErr_rng (r:=RvW.v ⟨3,op,rg,mu,⟨l,pA,pn,pc,ps⟩,⟨gA,gn,gc,gL⟩⟩) hsh (by show ¬(3:Int)=1;decide) (.inr ⟨rfl,.inr hr1⟩)
  exact ValA2z9
 have op1:op≤5:=by omega
 clear hr1
 obtain ⟨er,her⟩:∃ u,opsErr E (gL.map OpW.v)=u:=⟨_,rfl⟩
 have hv9:(if er≠0 then er else if ((gL.map OpW.v).all (fun o=>fitK E o (opFrom (RvW.v ⟨3,op,rg,mu,⟨l,pA,pn,pc,ps⟩,⟨gA,gn,gc,gL⟩⟩)))=true)∧tk=opTo (RvW.v ⟨3,op,rg,mu,⟨l,pA,pn,pc,ps⟩,⟨gA,gn,gc,gL⟩⟩) then 0 else 22)=v:=by
  rw [←hv,asErr_op2 (r:=RvW.v ⟨3,op,rg,mu,⟨l,pA,pn,pc,ps⟩,⟨gA,gn,gc,gL⟩⟩) (.inr rfl) hsh (by show ¬(((3:Int)=2∧(op < 0∨1 < op))∨((3:Int)=3∧(op < 0∨5 < op)));omega),← her,hET]
  rfl
 have HV:=hide hv9
 have HEr:=hide her
 have HLen:=hide hgn
 have HZero:=hide fun (e0:er=0)=>opsErr_zero.1 (her.trans e0)
 obtain ⟨WW,hWW,hB9,_,hcx9⟩:=boxes77 w (.string nm) (.slice rA rn rc) (.slice oA on oc) (.slice (some ⟨g,q,none⟩) tm tc) (.slice lA ln lc) (.int .i64 ar) (.slice bA bn bc) (.int .i64 (3)) (.int .i64 op) (.int .i64 rg) (.bool mu) (.int .i64 l) (.slice pA pn pc) (.slice gA gn gc) 28 71
 have HWW:=hide hWW
 clear hWW
 have HB:=hide hB9
 clear hB9
 have hcx:=hide hcx9
 clear hcx9
 have HX:=hide (H0.out.up HB.out)
 have HR:=hide (HRV.out.up HB.out)
 have hty:=hide fun (w':World) (y:Below WW.heap.size WW w')=>(show w'.cell? ⟨g,q+i*5,none⟩=some (.int .i64 tk)∧w'.cell? ⟨g,q+i*5+4,none⟩=some (.slice fA fn fc) from by
  obtain ⟨b',q',hg',_,_,c0,c1,c2,c3,c4⟩:=(HX.out.up y).one.typs.at_ HTY.out
  injection hg' with hg'
  injection hg' with hga hgb
  subst hga hgb
  exact ⟨c0,c4⟩)
 clear hgn hfn hET hEl hsh hv hv9 her
 go_enter Tryz.func99,Tryz.ntmps99
 go_wp2_with fail
 rw [←HWW.out]
 refine (Rshape_is HSH.out _ HR.out).mono ?_
 rintro e1 w1 ⟨rfl,hb1⟩
 have HW1:=hide hb1
 clear hb1
 obtain ⟨b0,b1,b2,b3,b4,b5,b6,r0,r1,r2,r3,r4,r5,r6⟩:=hcx.out _ HW1.out
 obtain ⟨y0,y4⟩:=hty.out _ HW1.out
 go_wp2
 have HD9:=hide HW1.out.drew
 refine wp_region_held_drew (S:=(fun w'=>Below WW.heap.size WW w')) (by kernel_rfl) HD9.out (fun hHeld=>?_)
 refine planS [0,1,2,3,4,5,6,7,8,9,10,11,12,13,14,15,16,17,18,19] ?_
 repeat' (first | refine pT hHeld rfl ?_ | refine pS hHeld rfl ?_)
 refine planE ?_
 refine wpAnyH_done (by kernel_rfl) ?_ _
 clear b0 b1 b2 b3 b4 b5 b6 r0 r1 r2 r3 r4 r5 r6 y0 y4
 obtain ⟨b0,b1,b2,b3,b4,b5,b6,r0,r1,r2,r3,r4,r5,r6⟩:=hcx.out _ HD9.out
 obtain ⟨y0,y4⟩:=hty.out _ HD9.out
 go_wp2
 clear b0 b1 b2 b3 b4 b5 b6 r0 r1 r2 r3 r4 r5 r6 y0 y4
 go_loopw [9] (fun i wr=>∃ j:Nat,i=.int .i64 (j:Int)∧j≤gn∧Hid (opsErr E ((gL.map OpW.v).drop j)=er)∧Hid (Below WW.heap.size WW wr)) (fun i _=>gn - (intOf i).toNat)
 case atStart=>exact ⟨0,rfl,Nat.zero_le _,hide HEr.out,hide HD9.out⟩
 case round=>
  obtain ⟨j,rfl,hj,HE,HW⟩:=hrel
  obtain ⟨b0,b1,b2,b3,b4,b5,b6,r0,r1,r2,r3,r4,r5,r6⟩:=hcx.out _ HW.out
  by_cases hlt:j < gn
  ·
   exact ValA2z2
  ·
   obtain rfl:gn=j:=by omega
   have e0:er=0:=by rw [←HE.out];exact opsErr_end (by rw [List.length_map];have:gL.length=gn:=HLen.out;omega)
   have HZ0:=hide (HZero.out e0)
   have hvk:v=if ((gL.map OpW.v).all (fun o=>fitK E o (opFrom (RvW.v ⟨3,op,rg,mu,⟨l,pA,pn,pc,ps⟩,⟨gA,gn,gc,gL⟩⟩)))=true)∧tk=opTo (RvW.v ⟨3,op,rg,mu,⟨l,pA,pn,pc,ps⟩,⟨gA,gn,gc,gL⟩⟩) then 0 else 22:=by have h1:=HV.out;rw [if_neg (by rw [e0];simp)] at h1;exact h1.symm
   clear e0 hlt hj
   generalize wr=ws at *
   have a1:op=5∨¬op=5∧3≤op∨¬op=5∧¬3≤op:=by omega
   rcases a1 with a1 | a1 | a1
   ·
    have q1:(op == 5)=true:=by simp [a1]
    have q2:(3:Int)≤op:=by omega
    have hof:opFrom (RvW.v ⟨3,op,rg,mu,⟨l,pA,pn,pc,ps⟩,⟨gA,gn,gc,gL⟩⟩)=1:=by show (if ((3:Int)=2∧op=1)∨((3:Int)=3∧op=5) then (1:Int) else 2)=1;rw [if_pos (by omega)]
    have hot:opTo (RvW.v ⟨3,op,rg,mu,⟨l,pA,pn,pc,ps⟩,⟨gA,gn,gc,gL⟩⟩)=1:=by show (if ((3:Int)=2∧op=1)∨((3:Int)=3∧3≤op) then (1:Int) else 2)=1;rw [if_pos (by omega)]
    exact ValA2z1
   ·
    have q1:(op == 5)=false:=by simp [a1.1]
    have q2:(3:Int)≤op:=a1.2
    have hof:opFrom (RvW.v ⟨3,op,rg,mu,⟨l,pA,pn,pc,ps⟩,⟨gA,gn,gc,gL⟩⟩)=2:=by show (if ((3:Int)=2∧op=1)∨((3:Int)=3∧op=5) then (1:Int) else 2)=2;rw [if_neg (by omega)]
    have hot:opTo (RvW.v ⟨3,op,rg,mu,⟨l,pA,pn,pc,ps⟩,⟨gA,gn,gc,gL⟩⟩)=1:=by show (if ((3:Int)=2∧op=1)∨((3:Int)=3∧3≤op) then (1:Int) else 2)=1;rw [if_pos (by omega)]
    rw [hof,hot] at hvk
    clear hof hot a1
    have HVK:=hide hvk
    clear hvk
    go_wp2
    clear b0 b1 b2 b3 b4 b5 b6 r0 r1 r2 r3 r4 r5 r6
    go_loopw [13] (fun i wr=>∃ j:Nat,i=.int .i64 (j:Int)∧j≤gn∧Hid (((gL.map OpW.v).drop j).all (fun o=>fitK E o 2)=((gL.map OpW.v).all (fun o=>fitK E o 2)))∧Hid (Below WW.heap.size WW wr)) (fun i _=>gn - (intOf i).toNat)
    case atStart=>exact ⟨0,rfl,Nat.zero_le _,hide rfl,hide HW.out⟩
    case round=>
     obtain ⟨j,rfl,hj,HA,HW5⟩:=hrel
     obtain ⟨b0,b1,b2,b3,b4,b5,b6,r0,r1,r2,r3,r4,r5,r6⟩:=hcx.out _ HW5.out
     by_cases hlt:j < gn
     ·
      exact ValA2z0
     ·
      obtain rfl:gn=j:=by omega
      have hT:((gL.map OpW.v).all (fun o=>fitK E o 2))=true:=by rw [←HA.out,List.drop_of_length_le (by rw [List.length_map];have:gL.length=gn:=HLen.out;omega)];rfl
      exact ValA2z7
   ·
    have q1:(op == 5)=false:=by simp [a1.1]
    have q2:¬(3:Int)≤op:=a1.2
    have q3:op < 3:=by omega
    have hof:opFrom (RvW.v ⟨3,op,rg,mu,⟨l,pA,pn,pc,ps⟩,⟨gA,gn,gc,gL⟩⟩)=2:=by show (if ((3:Int)=2∧op=1)∨((3:Int)=3∧op=5) then (1:Int) else 2)=2;rw [if_neg (by omega)]
    have hot:opTo (RvW.v ⟨3,op,rg,mu,⟨l,pA,pn,pc,ps⟩,⟨gA,gn,gc,gL⟩⟩)=2:=by show (if ((3:Int)=2∧op=1)∨((3:Int)=3∧3≤op) then (1:Int) else 2)=2;rw [if_neg (by omega)]
    exact ValA2z4
theorem Rassign_is:RAsg:=fun x r i ty v w h hr ht hv=>by
 by_cases hs:shErr r.v=0
 ·
  have hk:=(shErr_zero hs).1
  have hk5:r.kind=0∨r.kind=1∨r.kind=2∨r.kind=3∨r.kind=4:=by have e:r.v.kind=r.kind:=rfl;rw [e] at hk;omega
  rcases hk5 with hk | hk | hk | hk | hk
  ·
   exact Rasg_0 h hr ht hk hs hv
  ·
   exact Rasg_1 h hr ht hk hs hv
  ·
   exact Rasg_2 h hr ht hk hs hv
  ·
   exact Rasg_3 h hr ht hk hs hv
  ·
   exact Rasg_4 h hr ht hk hs hv
 ·
  exact Rasg_sh h hr ht hs hv
theorem RStmt_is {x:BdW}:RStP x:=fun s v w h hs hv=>RStmt_of Rassign_is h hs hv
end Go.Proofs.YteeemjmohjkdpaaGreatDoor
namespace Go.Proofs.YteeemjmohjkdpaaGreatDoor
open Go.RowKit
theorem RCheck10 {x:BdW} {v:Int} {w:World} (h:OneBd w w.heap.size x) (hv:bdErr x.v=v) :
  Calls Tryz.prog 33 #[aggBd x] w fun e w'=>e=.returned (.int .i64 v)∧Below w.heap.size w w':=
 RCheck_of (fun w' y=>RDecl_is (h.up y) rfl) RStmt_is RTerm_is h hv
theorem sz_count12 {l:List BkW} (h:∀ b∈l,b.stmts.L.length=b.stmts.n):ptCount (l.map BkW.v)≤sumN szBk l:=by
 induction l with
 | nil=>exact Nat.le_refl _
 | cons b l ih=>
  have e:ptCount ((b :: l).map BkW.v)=(b.v.stmts.length+1)+ptCount (l.map BkW.v):=by
   unfold ptCount
   rw [List.map_cons,sumN_cons]
   rfl
  have e2:b.v.stmts.length=b.stmts.n:=(List.length_map _).trans (h b (by simp))
  have h1:=ih fun b hb=>h b (List.mem_cons_of_mem _ hb)
  have h2:b.stmts.n+1≤szBk b:=by unfold szBk;omega
  rw [e,sumN_cons,e2]
  omega
section
variable {w:World} {B:Nat} {x:BdW} (hx:OneBd w B x)
include hx
theorem count12 (h:szB x≤3000):ptCount x.v.blocks≤3000:=by
 refine Nat.le_trans (sz_count12 (l:=x.blocks.L) fun b hb=>(hx.blocks.all b hb).stmts.len) ?_
 unfold szB at h
 omega
theorem small12 (h:szB x≤3000):SmallU x.v.blocks:=fun b0 hb0=>by
 obtain ⟨b,hb,rfl⟩:=List.mem_map.1 hb0
 have h1:szBk b≤3000:=by
  have:=sumN_one (f:=szBk) hb
  unfold szB at h
  omega
 unfold szBk at h1
 have hB:=hx.blocks.all b hb
 refine ⟨fun s0 hs0=>?_,?_⟩
 ·
  obtain ⟨s,hs,rfl⟩:=List.mem_map.1 hs0
  have h2:=sumN_one (f:=szSt) hs
  have h3:szSt s=s.pl.n+s.rv.pl.n+(s.rv.args.n+sumN (fun o=>o.pl.n) s.rv.args.L):=rfl
  have e:s.v.rv.args.length=s.rv.args.n:=(List.length_map _).trans (hB.stmts.all s hs).rv.args.len
  omega
 ·
  have h3:szOps b.term.args=b.term.args.n+sumN (fun o=>o.pl.n) b.term.args.L:=rfl
  have e:b.v.term.args.length=b.term.args.n:=(List.length_map _).trans hB.term.args.len
  omega
end
structure Sm12 (x:BdW):Prop where
 cnt:ptCount x.v.blocks≤60
 nl:x.locals.n≤20
 nr:x.regions.n≤10
 nt:x.types.n≤1000
 sz:szB x≤3000
 nb:x.blocks.n≤200
structure Ok12 (x:BdW):Prop where
 sm:Sm12 x
 err:bdErr x.v=0
section
variable {w:World} {x:BdW} (hx:OneBd w w.heap.size x)
include hx
end
theorem Skip12_any (x:BdW) (w:World) (hx:OneBd w w.heap.size x) (hF:FitBd x) :
  Calls Tryz.prog 9 #[aggBd x] w fun e w'=>(e=.returned (.int .i64 1)∨e=.returned (.int .i64 0)∧Ok12 x)∧Below w.heap.size w w':=by
 obtain ⟨v,hv⟩:∃ v,bdErr x.v=v:=⟨_,rfl⟩
 obtain ⟨C,hC⟩:∃ n,ptCount x.v.blocks=n:=⟨_,rfl⟩
 have HSK:=hide fun (w':World) (y:Below w.heap.size w w')=>Skip10_any x w' (hx.up y) hF
 have HCO:=hide fun (w':World) (y:Below w.heap.size w w') (h:szB x≤3000)=>RCount_is (m:=C) (hx.up y) hC (Nat.le_trans (show C≤3000 from hC ▸ count12 hx h) (by decide))
 have HCK:=hide fun (w':World) (y:Below w.heap.size w w')=>RCheck10 (hx.up y) hv
 have HOK:=hide (show C≤60→x.locals.n≤20→x.regions.n≤10→x.types.n≤1000→szB x≤3000→x.blocks.n≤200→v=0→Ok12 x from fun h1 h2 h3 h4 h5 h6 h7=>⟨⟨by rw [hC];exact h1,h2,h3,h4,h5,h6⟩,hv.trans h7⟩)
 have HC9:=hide fun (h:szB x≤3000)=>(show C≤3000 from hC ▸ count12 hx h)
 have hlm:=hx.locals.nm
 have hrm:=hx.regions.nm
 unfold maxLen at hlm hrm
 obtain ⟨nm,⟨rA,rn,rc,rL⟩,⟨oA,on,oc,oL⟩,⟨tA,tm,tc,tL⟩,⟨lA,ln,lc,lL⟩,ar,⟨bA,bn,bc,bL⟩⟩:=x
 have hlm:ln≤2 ^ 63 - 1:=hlm
 have hrm:rn≤2 ^ 63 - 1:=hrm
 have HB:=hide (below1 w (.cells #[.string nm,.slice rA rn rc,.slice oA on oc,.slice tA tm tc,.slice lA ln lc,.int .i64 ar,.slice bA bn bc] 28))
 have HCX:=hide fun (w':World) (y:Below (w.alloc (.cells #[.string nm,.slice rA rn rc,.slice oA on oc,.slice tA tm tc,.slice lA ln lc,.int .i64 ar,.slice bA bn bc] 28)).heap.size (w.alloc (.cells #[.string nm,.slice rA rn rc,.slice oA on oc,.slice tA tm tc,.slice lA ln lc,.int .i64 ar,.slice bA bn bc] 28)) w')=>cells7 y
 clear hv hC hx hF
 go_enter Tryz.func9,Tryz.ntmps9
 go_wp2_with fail
 refine (HSK.out _ HB.out).mono ?_
 rintro e1 w1 ⟨h1,hb1⟩
 have HW1:=hide hb1
 have HC1:=hide (HB.out.trans (hb1.mono HB.out.size))
 clear hb1
 obtain ⟨x0,x1,x2,x3,x4,x5,x6⟩:=HCX.out _ HW1.out
 rcases h1 with rfl | ⟨rfl,hnt,hsz,hnb⟩
 case inl=>
  go_wp2
  go_ret
  exact ⟨.inl rfl,HC1.out⟩
 have HS:=hide (And.intro hnt (And.intro hsz hnb))
 clear hnt hsz hnb x0 x1 x2 x3 x4 x5 x6
 obtain ⟨x0,x1,x2,x3,x4,x5,x6⟩:=HCX.out _ HW1.out
 go_wp2_with fail
 refine (HCO.out _ HC1.out HS.out.2.1).mono ?_
 rintro e2 w2 ⟨rfl,hb2⟩
 have HW2:=hide (HW1.out.trans (hb2.mono HW1.out.size))
 have HC2:=hide (HC1.out.trans (hb2.mono HC1.out.size))
 clear hb2 x0 x1 x2 x3 x4 x5 x6
 obtain ⟨x0,x1,x2,x3,x4,x5,x6⟩:=HCX.out _ HW2.out
 by_cases hc:60 < C
 ·
  have hc':(C:Int) > 60:=by omega
  go_wp2
  go_ret
  exact ⟨.inl rfl,HC2.out⟩
 have hc':¬(C:Int) > 60:=by omega
 by_cases hl:20 < ln
 ·
  have hl':(ln:Int) > 20:=by omega
  go_wp2
  go_ret
  exact ⟨.inl rfl,HC2.out⟩
 have hl':¬(ln:Int) > 20:=by omega
 by_cases hr:10 < rn
 ·
  have hr':(rn:Int) > 10:=by omega
  go_wp2
  go_ret
  exact ⟨.inl rfl,HC2.out⟩
 have hr':¬(rn:Int) > 10:=by omega
 go_wp2_with fail
 refine (HCK.out _ HC2.out).mono ?_
 rintro e3 w3 ⟨rfl,hb3⟩
 have HC3:=hide (HC2.out.trans (hb3.mono HC2.out.size))
 clear hb3 x0 x1 x2 x3 x4 x5 x6
 by_cases hv:v=0
 ·
  subst hv
  have HOK2:=hide (HOK.out (by omega) (show ln≤20 by omega) (show rn≤10 by omega) HS.out.1 HS.out.2.1 HS.out.2.2 rfl)
  go_wp2
  go_ret
  exact ⟨.inr ⟨rfl,HOK2.out⟩,HC3.out⟩
 ·
  have hne:(v != 0)=true:=by rw [bne_iff_ne];exact hv
  clear hv
  go_wp2
  go_ret
  exact ⟨.inl rfl,HC3.out⟩
theorem rd11 {w:World} {B n:Nat} {A:Option Addr} {L:List Int} (h:Cells w B 1 cInt A n L):Rd w B A n (i64s L):=by
 refine ⟨by rw [List.length_map];exact h.1,fun hn=>?_⟩
 obtain ⟨b,o,h1,h2,h3⟩:=h.2 hn
 refine ⟨b,o,h1,h2,fun j u hu=>?_⟩
 rw [List.getElem?_map] at hu
 cases hx:L[j]? with
 | none=>rw [hx] at hu;cases hu
 | some x=>
  rw [hx] at hu
  injection hu with hu
  have:=h3 j x hx 0 (.int .i64 x) rfl
  rw [←hu]
  simpa using this
theorem own_max11 {w:World} {lo:Nat} {e:TypeId} {k n c:Nat} {A:Option Addr} {xs:List Value} (h:w.ownsRow lo e k (.slice A n c) n xs):n≤maxLen:=by
 rcases h.2 with ⟨h2,rfl⟩ | ⟨g,cap,cur,hv,_,_,h3,h4,_⟩
 ·
  exact Nat.zero_le _
 ·
  exact Nat.le_trans h3 h4
theorem EqI11 {A B:Option Addr} {n m c d lo lo':Nat} {xs ys:List Int} {b:Bool} (hb:eqIs xs ys=b) (w:World) (hx:w.ownsRow lo 3 1 (.slice A n c) n (xs.flatMap cInt)) (hy:w.ownsRow lo' 3 1 (.slice B m d) m (ys.flatMap cInt)) :
  Calls Tryz.prog 13 #[.slice A n c,.slice B m d] w fun e w'=>e=.returned (.bool b)∧Below w.heap.size w w':=
 hb ▸ EqI_any A B n m c d xs ys w _ _ (rd11 (Cells.of_own cInt_len (by decide) hx)) (rd11 (Cells.of_own cInt_len (by decide) hy)) (own_max11 hx) (own_max11 hy)
theorem isNaN12 (x:Int) (w:World):Calls Tryz.prog 93 #[.int .i64 x] w fun e w'=>e=.returned (.bool false)∧w'=w:=by
 have t1:(x != x)=false:=by simp
 go_enter Tryz.func93,Tryz.ntmps93
 go_wp2
 go_ret
 exact ⟨rfl,rfl⟩
def cmpI (x y:Int):Int:=if x < y then -1 else if y < x then 1 else 0
theorem cmp12e (x y:Int) (w:World):Calls Tryz.prog 59 #[.int .i64 x,.int .i64 y] w fun e w'=>e=.returned (.int .i64 (cmpI x y))∧w'=w:=by
 go_enter Tryz.func59,Tryz.ntmps59
 go_wp2_with fail
 refine (isNaN12 x _).mono ?_
 rintro e w1 ⟨rfl,rfl⟩
 go_wp2_with fail
 refine (isNaN12 y _).mono ?_
 rintro e w2 ⟨rfl,rfl⟩
 by_cases h1:x < y
 ·
  have hc:cmpI x y=-1:=if_pos h1
  go_wp2
  go_ret
  exact ⟨by rw [hc];rfl,rfl⟩
 ·
  by_cases h2:y < x
  ·
   have hc:cmpI x y=1:=(if_neg h1).trans (if_pos h2)
   have h3:x > y:=h2
   go_wp2
   go_ret
   exact ⟨by rw [hc];rfl,rfl⟩
  ·
   have hc:cmpI x y=0:=(if_neg h1).trans (if_neg h2)
   have h3:¬x > y:=h2
   go_wp2
   go_ret
   exact ⟨by rw [hc];rfl,rfl⟩
theorem cmp12 (x y:Int) (w:World):Calls Tryz.prog 59 #[.int .i64 x,.int .i64 y] w fun e w'=>e=.returned (.int .i64 (cmpI x y))∧Below w.heap.size w w':=(cmp12e x y w).mono fun _ _ ⟨h1,h2⟩=>⟨h1,h2 ▸ Below.refl _ _⟩
def inR (i n:Int):Bool:=decide (0≤i∧i < n)
theorem inR_yes {i n:Int} (h:0≤i∧i < n):inR i n=true:=decide_eq_true h
theorem inR_no {i n:Int} (h:¬(0≤i∧i < n)):inR i n=false:=decide_eq_false h
theorem PWithin_any (i n:Int) (w:World):Calls Tryz.prog 181 #[.int .i64 i,.int .i64 n] w fun e w'=>e=.returned (.bool (inR i n))∧w'=w:=by
 by_cases h0:0≤i
 ·
  by_cases h1:i < n
  ·
   rw [inR_yes ⟨h0,h1⟩]
   go_enter Tryz.func181,Tryz.ntmps181
   go_wp2
   go_ret
   exact ⟨rfl,rfl⟩
  ·
   rw [inR_no (fun h=>h1 h.2)]
   go_enter Tryz.func181,Tryz.ntmps181
   go_wp2
   go_ret
   exact ⟨rfl,rfl⟩
 ·
  rw [inR_no (fun h=>h0 h.1)]
  go_enter Tryz.func181,Tryz.ntmps181
  go_wp2
  go_ret
  exact ⟨rfl,rfl⟩
theorem PWithin_is {i n:Int} {v:Bool} (h:inR i n=v) (w:World):Calls Tryz.prog 181 #[.int .i64 i,.int .i64 n] w fun e w'=>e=.returned (.bool v)∧w'=w:=h ▸ PWithin_any i n w
theorem PSize_any (p:BkW) (w:World) (hm:p.stmts.n≤2 ^ 62):Calls Tryz.prog 72 #[aggBk p] w fun e w'=>e=.returned (.int .i64 ((p.stmts.n+1:Nat):Int))∧Below w.heap.size w w':=by
 obtain ⟨⟨sA,sn,sc,sL⟩,⟨bk,⟨xA,xn,xc,xL⟩,⟨gA,gn,gc,gL⟩,⟨l,pA,pn,pc,ps⟩,tnm⟩⟩:=p
 have hm:sn≤2 ^ 62:=hm
 have HB:=hide (below1 w (.cells #[.slice sA sn sc,.int .i64 bk,.slice xA xn xc,.slice gA gn gc,.int .i64 l,.slice pA pn pc,.string tnm] 62))
 obtain ⟨x0,x1,x2,x3,x4,x5,x6⟩:=cells7 (Below.refl (w.alloc (.cells #[.slice sA sn sc,.int .i64 bk,.slice xA xn xc,.slice gA gn gc,.int .i64 l,.slice pA pn pc,.string tnm] 62)).heap.size (w.alloc (.cells #[.slice sA sn sc,.int .i64 bk,.slice xA xn xc,.slice gA gn gc,.int .i64 l,.slice pA pn pc,.string tnm] 62)))
 have s1:IntKind.i64.wrap ((sn:Int)+1)=(sn:Int)+1:=wrapI9 _ (by omega) (by omega)
 go_enter Tryz.func72,Tryz.ntmps72
 go_wp2
 go_ret
 exact ⟨rfl,HB.out⟩
theorem bk_all {w:World} {B:Nat} {x:BdW} (h:OneBd w B x) {j:Nat} (hj:j < x.blocks.n):∃ p b o,x.blocks.L[j]?=some p∧x.v.blocks[j]?=some p.v∧p.v.stmts.length=p.stmts.n∧x.blocks.A=some ⟨b,o,none⟩∧b < B∧OneBk w B p∧∀ i u,(cBk p)[i]?=some u→w.cell? ⟨b,o+j*7+i,none⟩=some u:=by
 obtain ⟨p,b,o,h1,h2,h3,_,h5,h6,h7,h8⟩:=bk_at h hj
 exact ⟨p,b,o,h1,h2,h3,h5,h6,h7,h8⟩
theorem PCount_any (x:BdW) (w:World) (hx:OneBd w w.heap.size x) (hN:ptCount x.v.blocks≤2 ^ 62) :
  Calls Tryz.prog 40 #[aggBd x] w fun e w'=>e=.returned (.int .i64 (ptCount x.v.blocks:Nat))∧Below w.heap.size w w':=by
 obtain ⟨BL,hBL⟩:∃ l,x.v.blocks=l:=⟨_,rfl⟩
 have hbl:=bk_len hx
 have hbm:=hx.blocks.nm
 unfold maxLen at hbm
 rw [hBL] at hN hbl ⊢
 have HBV:=hide hBL
 have HN:=hide hN
 obtain ⟨nm,⟨rA,rn,rc,rL⟩,⟨oA,on,oc,oL⟩,⟨tA,tm,tc,tL⟩,⟨lA,ln,lc,lL⟩,ar,⟨bA,bn,bc,bL⟩⟩:=x
 have HBL:=hide hbl
 have hbm:bn≤2 ^ 63 - 1:=hbm
 have HB:=hide (below1 w (.cells #[.string nm,.slice rA rn rc,.slice oA on oc,.slice tA tm tc,.slice lA ln lc,.int .i64 ar,.slice bA bn bc] 28))
 have HX:=hide (hx.up HB.out)
 have HC:=hide fun (w':World) (y:Below (w.alloc (.cells #[.string nm,.slice rA rn rc,.slice oA on oc,.slice tA tm tc,.slice lA ln lc,.int .i64 ar,.slice bA bn bc] 28)).heap.size (w.alloc (.cells #[.string nm,.slice rA rn rc,.slice oA on oc,.slice tA tm tc,.slice lA ln lc,.int .i64 ar,.slice bA bn bc] 28)) w')=>cells7 y
 obtain ⟨x0,x1,x2,x3,x4,x5,x6⟩:=HC.out _ (Below.refl _ _)
 clear hBL hbl hN hx
 go_enter Tryz.func40,Tryz.ntmps40
 go_wp2
 clear x0 x1 x2 x3 x4 x5 x6
 go_loopw [3,9] (fun n i wr=>∃ j:Nat,i=.int .i64 (j:Int)∧n=.int .i64 (ptFirst BL j:Nat)∧j≤bn∧Hid (Below (w.alloc (.cells #[.string nm,.slice rA rn rc,.slice oA on oc,.slice tA tm tc,.slice lA ln lc,.int .i64 ar,.slice bA bn bc] 28)).heap.size (w.alloc (.cells #[.string nm,.slice rA rn rc,.slice oA on oc,.slice tA tm tc,.slice lA ln lc,.int .i64 ar,.slice bA bn bc] 28)) wr)) (fun _ i _=>bn - (intOf i).toNat)
 case atStart=>exact ⟨0,rfl,by rw [ptFirst_zero];rfl,Nat.zero_le _,hide (Below.refl _ _)⟩
 case round=>
  obtain ⟨j,rfl,rfl,hj,HW⟩:=hrel
  by_cases hlt:j < bn
  ·
   have hlt':(j:Int) < (bn:Int):=by omega
   obtain ⟨p,b,o,_,hpv,hps,hA,hb,hob,hc⟩:=bk_all (HX.out.up HW.out) hlt
   have hA:bA=some ⟨b,o,none⟩:=hA
   subst hA
   have hpv:BL[j]?=some p.v:=HBV.out ▸ hpv
   have hu:=ptFirst_up hpv
   unfold ptN at hu
   rw [hps] at hu
   have hle:=ptFirst_le BL (j+1)
   obtain ⟨m,hm⟩:∃ m,ptFirst BL j=m:=⟨_,rfl⟩
   have h62:m+(p.stmts.n+1)≤2 ^ 62:=by
    have:=HN.out
    omega
   have HU:=hide (show ptFirst BL (j+1)=m+(p.stmts.n+1) by omega)
   have HSZ:=hide fun (w':World)=>PSize_any p w' (by omega)
   rw [hm]
   obtain ⟨⟨sA,sn,sc,sL⟩,⟨bk,⟨xA,xn,xc,xL⟩,⟨gA,gn,gc,gL⟩,⟨l,pA,pn,pc,ps⟩,tnm⟩⟩:=p
   have h62:m+(sn+1)≤2 ^ 62:=h62
   have c0:wr.cell? ⟨b,o+j*7,none⟩=some (.slice sA sn sc):=hc 0 _ rfl
   have c1:wr.cell? ⟨b,o+j*7+1,none⟩=some (.int .i64 bk):=hc 1 _ rfl
   have c2:wr.cell? ⟨b,o+j*7+2,none⟩=some (.slice xA xn xc):=hc 2 _ rfl
   have c3:wr.cell? ⟨b,o+j*7+3,none⟩=some (.slice gA gn gc):=hc 3 _ rfl
   have c4:wr.cell? ⟨b,o+j*7+4,none⟩=some (.int .i64 l):=hc 4 _ rfl
   have c5:wr.cell? ⟨b,o+j*7+5,none⟩=some (.slice pA pn pc):=hc 5 _ rfl
   have c6:wr.cell? ⟨b,o+j*7+6,none⟩=some (.string tnm):=hc 6 _ rfl
   have HB3:=hide (below1 wr (.cells #[.slice sA sn sc,.int .i64 bk,.slice xA xn xc,.slice gA gn gc,.int .i64 l,.slice pA pn pc,.string tnm] 62))
   have HW3:=hide (HW.out.trans (HB3.out.mono HW.out.size))
   obtain ⟨y0,y1,y2,y3,y4,y5,y6⟩:=cells7 (Below.refl (wr.alloc (.cells #[.slice sA sn sc,.int .i64 bk,.slice xA xn xc,.slice gA gn gc,.int .i64 l,.slice pA pn pc,.string tnm] 62)).heap.size (wr.alloc (.cells #[.slice sA sn sc,.int .i64 bk,.slice xA xn xc,.slice gA gn gc,.int .i64 l,.slice pA pn pc,.string tnm] 62)))
   clear hpv hps hc hu hle hm hob
   have s2:IntKind.i64.wrap ((m:Int)+((sn+1:Nat):Int))=(m:Int)+((sn+1:Nat):Int):=wrapI9 _ (by omega) (by omega)
   have e2:(((sn:Nat)+1:Nat):Int)=(sn:Int)+1:=by omega
   go_wp2_with fail
   refine (HSZ.out _).mono ?_
   rintro e w1 ⟨rfl,hb1⟩
   have HW1:=hide (HW3.out.trans (hb1.mono HW3.out.size))
   clear hb1 c0 c1 c2 c3 c4 c5 c6 y0 y1 y2 y3 y4 y5 y6
   have s3:IntKind.i64.wrap ((m:Int)+((sn:Int)+1))=(m:Int)+((sn:Int)+1):=wrapI9 _ (by omega) (by omega)
   go_wp2
   go_roundw
   case rel=>exact ⟨j+1,by go_num,by rw [HU.out];exact congrArg (fun z:Int=>Value.int .i64 z) (by omega),by omega,HW1⟩
   case measure=>simp [intOf];omega
  ·
   have hlt':¬(j:Int) < (bn:Int):=by omega
   have HF:=hide (show ptFirst BL j=ptCount BL from ptFirst_all (by rw [HBL.out];omega))
   go_wp2
   go_ret
   exact ⟨congrArg (fun z:Nat=>Ending.returned (.int .i64 (z:Int))) HF.out,HB.out.trans (HW.out.mono HB.out.size)⟩
def stI (l:List BkV) (j:Nat):List Int:=(List.range j).map fun (i:Nat)=>(ptFirst l i:Int)
theorem stI_len (l:List BkV) (j:Nat):(stI l j).length=j:=by unfold stI;rw [List.length_map,List.length_range]
theorem stI_up (l:List BkV) (j:Nat):stI l (j+1)=stI l j++[(ptFirst l j:Int)]:=by
 unfold stI
 rw [List.range_succ,List.map_append]
 rfl
theorem stI_at (l:List BkV) {j k:Nat} (h:k < j):(stI l j)[k]?=some (ptFirst l k:Int):=by
 unfold stI
 rw [List.getElem?_map,List.getElem?_range h]
 rfl
theorem int_flat:∀ l:List Int,l.flatMap cInt=l.map (Value.int .i64)
 | []=>rfl
 | x :: l=>by rw [List.flatMap_cons,int_flat l];rfl
theorem Bx.own1 {w:World} {g base:Nat} {L:List Int} (h:Bx w g (L.map (Value.int .i64)) 3) (hb:base≤g) (hm:L.length≤maxLen):w.ownsRow base 3 1 (.slice (some ⟨g,0,none⟩) L.length L.length) L.length (L.flatMap cInt):=by
 rw [int_flat]
 refine ⟨by simp,.inr ⟨g,L.length,(L.map (Value.int .i64)).toArray,rfl,hb,h,Nat.le_refl _,hm,by simp,?_⟩⟩
 rw [List.take_of_length_le (by simp)]
theorem st_set (l:List BkV) (n j:Nat) (hj:j < n):((stI l j++List.replicate (n - j) 0).map (Value.int .i64)).set j (.int .i64 (ptFirst l j:Int))=(stI l (j+1)++List.replicate (n - (j+1)) 0).map (Value.int .i64):=by
 rw [←List.map_set,stI_up]
 congr 1
 obtain ⟨d,hd⟩:∃ d,n - j=d+1:=⟨n - j - 1,by omega⟩
 have e:n - (j+1)=d:=by omega
 rw [hd,e,List.replicate_succ,List.set_append_right _ _ (by rw [stI_len];exact Nat.le_refl _),stI_len,Nat.sub_self,List.set_cons_zero,List.append_assoc]
 rfl
theorem PStarts_any (x:BdW) (w:World) (hx:OneBd w w.heap.size x) (hN:ptCount x.v.blocks≤2 ^ 62) (hbs:x.blocks.n≤1000000) :
  Calls Tryz.prog 110 #[aggBd x] w (IntsOut9 w (stI x.v.blocks x.blocks.n)):=by
 obtain ⟨BL,hBL⟩:∃ l,x.v.blocks=l:=⟨_,rfl⟩
 have hbl:=bk_len hx
 rw [hBL] at hN hbl ⊢
 have HBV:=hide hBL
 have HN:=hide hN
 obtain ⟨nm,⟨rA,rn,rc,rL⟩,⟨oA,on,oc,oL⟩,⟨tA,tm,tc,tL⟩,⟨lA,ln,lc,lL⟩,ar,⟨bA,bn,bc,bL⟩⟩:=x
 have HBL:=hide (show BL.length=bn from hbl)
 have hbm:bn≤1000000:=hbs
 have HB:=hide (below1 w (.cells #[.string nm,.slice rA rn rc,.slice oA on oc,.slice tA tm tc,.slice lA ln lc,.int .i64 ar,.slice bA bn bc] 28))
 have HX:=hide (hx.up HB.out)
 have HC:=hide fun (w':World) (y:Below (w.alloc (.cells #[.string nm,.slice rA rn rc,.slice oA on oc,.slice tA tm tc,.slice lA ln lc,.int .i64 ar,.slice bA bn bc] 28)).heap.size (w.alloc (.cells #[.string nm,.slice rA rn rc,.slice oA on oc,.slice tA tm tc,.slice lA ln lc,.int .i64 ar,.slice bA bn bc] 28)) w')=>cells7 y
 have hws:(w.alloc (.cells #[.string nm,.slice rA rn rc,.slice oA on oc,.slice tA tm tc,.slice lA ln lc,.int .i64 ar,.slice bA bn bc] 28)).heap.size=w.heap.size+1:=by simp
 have HWS:=hide hws
 obtain ⟨i1,hi1,hy0,hy1,hy2⟩:=info_parts info9Int
 have hb3:=below1 (w.alloc (.cells #[.string nm,.slice rA rn rc,.slice oA on oc,.slice tA tm tc,.slice lA ln lc,.int .i64 ar,.slice bA bn bc] 28)) (.cells (Array.replicate bn (.int .i64 0)) 3)
 have HB3:=hide hb3
 have HBX3:=hide (show Bx ((w.alloc (.cells #[.string nm,.slice rA rn rc,.slice oA on oc,.slice tA tm tc,.slice lA ln lc,.int .i64 ar,.slice bA bn bc] 28)).alloc (.cells (Array.replicate bn (.int .i64 0)) 3)) (w.heap.size+1) ((stI BL 0++List.replicate (bn - 0) 0).map (Value.int .i64)) 3 from by
  have h:=Bx.new (w.alloc (.cells #[.string nm,.slice rA rn rc,.slice oA on oc,.slice tA tm tc,.slice lA ln lc,.int .i64 ar,.slice bA bn bc] 28)) ((List.replicate bn (0:Int)).map (Value.int .i64)) 3
  rw [hws] at h
  simpa [List.map_replicate,stI] using h)
 obtain ⟨x0,x1,x2,x3,x4,x5,x6⟩:=HC.out _ (Below.refl _ _)
 clear hBL hbl hN hx hws hb3
 go_enter Tryz.func110,Tryz.ntmps110
 go_wp2_with (at_make;refine wpList_make1 _ rfl _ _ _ rfl 3 i1 _ Tryz.underlying34 hi1 hy0 hy1 rfl bn rfl rfl (by rw [hy2];omega) (by omega) ?_)
 clear x0 x1 x2 x3 x4 x5 x6
 obtain ⟨x0,x1,x2,x3,x4,x5,x6⟩:=HC.out _ HB3.out
 go_wp2
 clear x0 x1 x2 x3 x4 x5 x6
 go_loopw [4,14] (fun n i wr=>∃ j:Nat,i=.int .i64 (j:Int)∧n=.int .i64 (ptFirst BL j:Nat)∧j≤bn∧Hid (Bx wr (w.heap.size+1) ((stI BL j++List.replicate (bn - j) 0).map (Value.int .i64)) 3)∧Hid (Below (w.alloc (.cells #[.string nm,.slice rA rn rc,.slice oA on oc,.slice tA tm tc,.slice lA ln lc,.int .i64 ar,.slice bA bn bc] 28)).heap.size (w.alloc (.cells #[.string nm,.slice rA rn rc,.slice oA on oc,.slice tA tm tc,.slice lA ln lc,.int .i64 ar,.slice bA bn bc] 28)) wr)) (fun _ i _=>bn - (intOf i).toNat)
 case atStart=>exact ⟨0,rfl,by rw [ptFirst_zero];rfl,Nat.zero_le _,HBX3,HB3⟩
 case round=>
  obtain ⟨j,rfl,rfl,hj,HBX,HW⟩:=hrel
  by_cases hlt:j < bn
  ·
   have hlt':(j:Int) < (bn:Int):=by omega
   obtain ⟨p,b,o,_,hpv,hps,hA,hb,hob,hc⟩:=bk_all (HX.out.up HW.out) hlt
   have hA:bA=some ⟨b,o,none⟩:=hA
   subst hA
   have hpv:BL[j]?=some p.v:=HBV.out ▸ hpv
   have hu:=ptFirst_up hpv
   unfold ptN at hu
   rw [hps] at hu
   have hle:=ptFirst_le BL (j+1)
   have HST:=hide (st_set BL bn j hlt)
   obtain ⟨m,hm⟩:∃ m,ptFirst BL j=m:=⟨_,rfl⟩
   have HMM:=hide hm
   have h62:m+(p.stmts.n+1)≤2 ^ 62:=by
    have:=HN.out
    omega
   have HU:=hide (show ptFirst BL (j+1)=m+(p.stmts.n+1) by omega)
   have HSZ:=hide fun (w':World)=>PSize_any p w' (by omega)
   rw [hm]
   obtain ⟨⟨sA,sn,sc,sL⟩,⟨bk,⟨xA,xn,xc,xL⟩,⟨gA,gn,gc,gL⟩,⟨l,pA,pn,pc,ps⟩,tnm⟩⟩:=p
   have h62:m+(sn+1)≤2 ^ 62:=h62
   have c0:wr.cell? ⟨b,o+j*7,none⟩=some (.slice sA sn sc):=hc 0 _ rfl
   have c1:wr.cell? ⟨b,o+j*7+1,none⟩=some (.int .i64 bk):=hc 1 _ rfl
   have c2:wr.cell? ⟨b,o+j*7+2,none⟩=some (.slice xA xn xc):=hc 2 _ rfl
   have c3:wr.cell? ⟨b,o+j*7+3,none⟩=some (.slice gA gn gc):=hc 3 _ rfl
   have c4:wr.cell? ⟨b,o+j*7+4,none⟩=some (.int .i64 l):=hc 4 _ rfl
   have c5:wr.cell? ⟨b,o+j*7+5,none⟩=some (.slice pA pn pc):=hc 5 _ rfl
   have c6:wr.cell? ⟨b,o+j*7+6,none⟩=some (.string tnm):=hc 6 _ rfl
   have hb4:=below1 wr (.cells #[.slice sA sn sc,.int .i64 bk,.slice xA xn xc,.slice gA gn gc,.int .i64 l,.slice pA pn pc,.string tnm] 62)
   have hbx4:=HBX.out.below hb4
   have hne:wr.heap.size≠w.heap.size+1:=by have:=HBX.out.lt;omega
   have z1:(wr.alloc (.cells #[.slice sA sn sc,.int .i64 bk,.slice xA xn xc,.slice gA gn gc,.int .i64 l,.slice pA pn pc,.string tnm] 62)).cell? ⟨w.heap.size+1,j,none⟩=some (.int .i64 0):=hbx4.cell (by
    rw [List.getElem?_map,List.getElem?_append_right (by rw [stI_len];exact Nat.le_refl _),stI_len,Nat.sub_self,List.getElem?_replicate,if_pos (by omega)]
    rfl)
   have ff:=hbx4.frozen j
   have hnb:=(Bx.new wr [.slice sA sn sc,.int .i64 bk,.slice xA xn xc,.slice gA gn gc,.int .i64 l,.slice pA pn pc,.string tnm] 62).other (a:=⟨w.heap.size+1,j,none⟩) (Ne.symm hne) (.int .i64 (m:Int))
   have y0:=hnb.cell (j:=0) rfl
   have y1:=hnb.cell (j:=1) rfl
   have y2:=hnb.cell (j:=2) rfl
   have y3:=hnb.cell (j:=3) rfl
   have y4:=hnb.cell (j:=4) rfl
   have y5:=hnb.cell (j:=5) rfl
   have y6:=hnb.cell (j:=6) rfl
   have HBX5:=hide (hbx4.set j (.int .i64 (m:Int)))
   have HW5:=hide ((HW.out.trans (hb4.mono HW.out.size)).setCell (p:=⟨w.heap.size+1,j,none⟩) (by rw [HWS.out];exact Nat.le_refl _) (.int .i64 (m:Int)))
   have hj0:(0:Int)≤(j:Int):=by omega
   clear hpv hps hc hu hle hm hob hb4 hbx4 hnb
   have s3:IntKind.i64.wrap ((m:Int)+((sn:Int)+1))=(m:Int)+((sn:Int)+1):=wrapI9 _ (by omega) (by omega)
   go_wp2_with fail
   refine (HSZ.out _).mono ?_
   rintro e w1 ⟨rfl,hb1⟩
   have HW1:=hide (HW5.out.trans (hb1.mono HW5.out.size))
   have HBX1:=hide (HBX5.out.below hb1)
   clear hb1 c0 c1 c2 c3 c4 c5 c6 y0 y1 y2 y3 y4 y5 y6 z1 ff
   go_wp2
   go_roundw
   case rel=>exact ⟨j+1,by go_num,by rw [HU.out];exact congrArg (fun z:Int=>Value.int .i64 z) (by omega),by omega,hide (by rw [←HST.out,HMM.out];exact HBX1.out),HW1⟩
   case measure=>simp [intOf];omega
  ·
   have hlt':¬(j:Int) < (bn:Int):=by omega
   obtain rfl:bn=j:=by omega
   have hl:=stI_len BL bn
   have HO:=hide (show wr.ownsRow w.heap.size 3 1 (.slice (some ⟨w.heap.size+1,0,none⟩) bn bn) bn ((stI BL bn).flatMap cInt) from by
    have h:=HBX.out
    rw [Nat.sub_self,List.replicate_zero,List.append_nil] at h
    have h2:=h.own1 (base:=w.heap.size) (Nat.le_succ _) (by rw [hl];unfold maxLen;omega)
    rw [hl] at h2
    exact h2)
   go_wp2
   go_ret
   refine ⟨some ⟨w.heap.size+1,0,none⟩,bn,?_,?_,HB.out.trans (HW.out.mono HB.out.size)⟩
   ·
    rw [hl];rfl
   ·
    rw [hl];exact HO.out
end Go.Proofs.YteeemjmohjkdpaaGreatDoor
