/- Part 47 of the contracts and their mathematics. -/
import Derived.Test.YtfgacmgjpikgaaaGreatDoorQ45
set_option linter.unusedVariables false
set_option linter.unusedSimpArgs false
set_option maxRecDepth 100000
set_option maxHeartbeats 16000000
namespace Go.Proofs.YtfgacmgjpikgaaaGreatDoor
theorem ValA2z10 {P:Prop} (h:P:=by
 clear h5 hT
 go_wp2
 go_ret
 exact ⟨rfl,HB.out.trans (HW5.out.mono HB.out.size)⟩):P:=h
open Go.RowKit
theorem ValA2z5 {P:Prop} (h:P:=by
 have HN:=hide (show v=22 from by rw [HVK.out,if_neg (by rintro ⟨a,_⟩;rw [←HA.out,HS.out,HCV.out] at a;cases a)])
 go_wp2
 refine wp_region_held_drew (S:=(fun w'=>Below wr.heap.size wr w')) (by kernel_rfl) HYr.out (fun hHeld=>?_)
 refine planS [0,1,2,3,4,5,6] ?_
 repeat' (first | refine pT hHeld rfl ?_ | refine pS hHeld rfl ?_)
 refine planE ?_
 refine wpAnyH_ready (rs:=[7]) (by kernel_rfl) (by simp) ?_
 refine AllReadyH.cons rfl (fun KZ hK=>?_) AllReadyH.nil
 go_simp
 refine (HFK.out _ HYr.out).mono ?_
 rintro e8 w8 ⟨rfl,hb8⟩
 have HY8:=hide (HYr.out.trans (hb8.mono HYr.out.size))
 clear hb8
 refine hK.out _ _ HY8.out (fun hHeld=>?_)
 clear hK KZ
 try simp only [Act.put,List.setIfInBounds_toArray,List.set_cons_zero,List.set_cons_succ]
 refine planS [8] ?_
 repeat' (first | refine pT hHeld rfl ?_ | refine pS hHeld rfl ?_)
 refine planE ?_
 refine wpAnyH_done (by kernel_rfl) ?_ _
 have HZ:=hide (HW5.out.trans (HY8.out.mono HW5.out.size))
 go_wp2
 go_ret
 exact ⟨congrArg (fun v=>Ending.returned (.int .i64 v)) HN.out.symm,HB.out.trans (HZ.out.mono HB.out.size)⟩):P:=h
theorem ValA2z6 {P:Prop} (h:P:=by
 refine wp_region_held_drew (S:=(fun w'=>Below wr.heap.size wr w')) (by kernel_rfl) HYr.out (fun hHeld=>?_)
 refine planS [0,1,2,3,4,5,6] ?_
 repeat' (first | refine pT hHeld rfl ?_ | refine pS hHeld rfl ?_)
 refine planE ?_
 refine wpAnyH_ready (rs:=[7]) (by kernel_rfl) (by simp) ?_
 refine AllReadyH.cons rfl (fun KZ hK=>?_) AllReadyH.nil
 go_simp
 refine (HFK.out _ HYr.out).mono ?_
 rintro e8 w8 ⟨rfl,hb8⟩
 have HY8:=hide (HYr.out.trans (hb8.mono HYr.out.size))
 clear hb8
 refine hK.out _ _ HY8.out (fun hHeld=>?_)
 clear hK KZ
 try simp only [Act.put,List.setIfInBounds_toArray,List.set_cons_zero,List.set_cons_succ]
 refine planS [8] ?_
 repeat' (first | refine pT hHeld rfl ?_ | refine pS hHeld rfl ?_)
 refine planE ?_
 refine wpAnyH_done (by kernel_rfl) ?_ _
 have HZ:=hide (HW5.out.trans (HY8.out.mono HW5.out.size))
 go_wp2
 go_roundw
 case rel=>exact ⟨j+1,by go_num,by omega,hide HN.out,hide HZ.out⟩
 case measure=>simp [intOf];omega):P:=h
theorem ValA2z7 {P:Prop} (h:P:=by
 by_cases h5:tk=1
 ·
  have t5:(tk != 1)=false:=by simp [h5]
  obtain rfl:v=0:=by rw [HVK.out,if_pos ⟨hT,h5⟩]
  exact ValA2z10
 ·
  have t5:(tk != 1)=true:=by simp [h5]
  obtain rfl:v=22:=by rw [HVK.out,if_neg (by rintro ⟨_,a⟩;exact h5 a)]
  exact ValA2z10):P:=h
theorem ValA2z0 {P:Prop} (h:P:=by
 have hlt':(j:Int) < (gn:Int):=by omega
 obtain ⟨p,hp⟩:∃ p,gL[j]?=some p:=⟨_,List.getElem?_eq_getElem (by have:gL.length=gn:=HLen.out;omega)⟩
 have hpv:(gL.map OpW.v)[j]?=some p.v:=by rw [List.getElem?_map,hp];rfl
 obtain ⟨b,o,hA,hb,hone,hc⟩:=((HR.out.up HW5.out).args).at_ hp
 have hA:gA=some ⟨b,o,none⟩:=hA
 subst hA
 obtain ⟨kq,⟨lq,zA,zn,zc,zs⟩,nq⟩:=p
 have hel:=hide fun (w':World) (y:Below wr.heap.size wr w')=>(show w'.cell? ⟨b,o+j*4,none⟩=some (.int .i64 kq)∧w'.cell? ⟨b,o+j*4+1,none⟩=some (.int .i64 lq)∧w'.cell? ⟨b,o+j*4+2,none⟩=some (.slice zA zn zc)∧w'.cell? ⟨b,o+j*4+3,none⟩=some (.int .i64 nq) from ⟨(y.cell (p:=⟨b,o+j*4,none⟩) hb).trans (hc 0 _ rfl),(y.cell (p:=⟨b,o+j*4+1,none⟩) hb).trans (hc 1 _ rfl),(y.cell (p:=⟨b,o+j*4+2,none⟩) hb).trans (hc 2 _ rfl),(y.cell (p:=⟨b,o+j*4+3,none⟩) hb).trans (hc 3 _ rfl)⟩)
 obtain ⟨c,hcv⟩:∃ c,fitK E (OpW.v ⟨kq,⟨lq,zA,zn,zc,zs⟩,nq⟩) 2=c:=⟨_,rfl⟩
 clear hp hc
 have HS:=hide (show ((gL.map OpW.v).drop j).all (fun o=>fitK E o 2)=(fitK E (OpW.v ⟨kq,⟨lq,zA,zn,zc,zs⟩,nq⟩) 2 && ((gL.map OpW.v).drop (j+1)).all (fun o=>fitK E o 2)) from by rw [drop_at10 hpv,List.all_cons])
 have HCV:=hide hcv
 have HFK:=hide fun (w':World) (y:Below wr.heap.size wr w')=>RfitsKind_is (v:=c) (HX.out.up (HW5.out.trans (y.mono HW5.out.size))) (hone.up y) (by rw [HEE.out];exact HZ0.out _ (List.mem_of_getElem? hpv)) (by rw [HEE.out];exact hcv)
 clear hpv hone hcv
 have HYr:=hide (Below.refl wr.heap.size wr).drew
 cases c
 ·
  exact ValA2z5
 ·
  have HN:=hide (show ((gL.map OpW.v).drop (j+1)).all (fun o=>fitK E o 2)=((gL.map OpW.v).all (fun o=>fitK E o 2)) from by rw [←HA.out,HS.out,HCV.out,Bool.true_and])
  go_wp2
  exact ValA2z6):P:=h
theorem ValA2z3 {P:Prop} (h:P:=by
 have HWW:=hide hWW
 clear hWW
 have HB:=hide hB9
 clear hB9
 have hcx:=hide hcx9
 clear hcx9
 have HX:=hide (H0.out.up HB.out)
 have HR:=hide (HRV.out.up HB.out)
 have hty:=hide fun (w':World) (y:Below WW.heap.size WW w')=>(show w'.cell? ⟨g,q+i*5,none⟩=some (.int .i64 tk)∧w'.cell? ⟨g,q+i*5+4,none⟩=some (.slice fA fn fc) from by
  obtain ⟨b',q',hg',_,_,c0,c1,c2,c3,c4⟩:=(HX.out.up y).one.typs.at_ HTY.out
  injection hg' with hg'
  injection hg' with hga hgb
  subst hga hgb
  exact ⟨c0,c4⟩)
 clear hgn hfn hET hEl hsh hv
 go_enter Tryz.func40,Tryz.ntmps40
 go_wp2_with fail
 rw [←HWW.out]
 refine (Rshape_is HSH.out _ HR.out).mono ?_
 rintro e1 w1 ⟨rfl,hb1⟩
 have HW1:=hide hb1
 clear hb1
 obtain ⟨b0,b1,b2,b3,b4,b5,b6,r0,r1,r2,r3,r4,r5,r6⟩:=hcx.out _ HW1.out
 obtain ⟨y0,y4⟩:=hty.out _ HW1.out
 go_wp2
 go_ret
 exact ⟨rfl,HB.out.trans (HW1.out.mono HB.out.size)⟩):P:=h
theorem ValA2z1 {P:Prop} (h:P:=by
 rw [hof,hot] at hvk
 clear hof hot a1
 have HVK:=hide hvk
 clear hvk
 go_wp2
 clear b0 b1 b2 b3 b4 b5 b6 r0 r1 r2 r3 r4 r5 r6
 go_loopw [13] (fun i wr=>∃ j:Nat,i=.int .i64 (j:Int)∧j≤gn∧Hid (((gL.map OpW.v).drop j).all (fun o=>fitK E o 1)=((gL.map OpW.v).all (fun o=>fitK E o 1)))∧Hid (Below WW.heap.size WW wr)) (fun i _=>gn - (intOf i).toNat)
 case atStart=>exact ⟨0,rfl,Nat.zero_le _,hide rfl,hide HW.out⟩
 case round=>
  obtain ⟨j,rfl,hj,HA,HW5⟩:=hrel
  obtain ⟨b0,b1,b2,b3,b4,b5,b6,r0,r1,r2,r3,r4,r5,r6⟩:=hcx.out _ HW5.out
  by_cases hlt:j < gn
  ·
   have hlt':(j:Int) < (gn:Int):=by omega
   obtain ⟨p,hp⟩:∃ p,gL[j]?=some p:=⟨_,List.getElem?_eq_getElem (by have:gL.length=gn:=HLen.out;omega)⟩
   have hpv:(gL.map OpW.v)[j]?=some p.v:=by rw [List.getElem?_map,hp];rfl
   obtain ⟨b,o,hA,hb,hone,hc⟩:=((HR.out.up HW5.out).args).at_ hp
   have hA:gA=some ⟨b,o,none⟩:=hA
   subst hA
   obtain ⟨kq,⟨lq,zA,zn,zc,zs⟩,nq⟩:=p
   have hel:=hide fun (w':World) (y:Below wr.heap.size wr w')=>(show w'.cell? ⟨b,o+j*4,none⟩=some (.int .i64 kq)∧w'.cell? ⟨b,o+j*4+1,none⟩=some (.int .i64 lq)∧w'.cell? ⟨b,o+j*4+2,none⟩=some (.slice zA zn zc)∧w'.cell? ⟨b,o+j*4+3,none⟩=some (.int .i64 nq) from ⟨(y.cell (p:=⟨b,o+j*4,none⟩) hb).trans (hc 0 _ rfl),(y.cell (p:=⟨b,o+j*4+1,none⟩) hb).trans (hc 1 _ rfl),(y.cell (p:=⟨b,o+j*4+2,none⟩) hb).trans (hc 2 _ rfl),(y.cell (p:=⟨b,o+j*4+3,none⟩) hb).trans (hc 3 _ rfl)⟩)
   obtain ⟨c,hcv⟩:∃ c,fitK E (OpW.v ⟨kq,⟨lq,zA,zn,zc,zs⟩,nq⟩) 1=c:=⟨_,rfl⟩
   clear hp hc
   have HS:=hide (show ((gL.map OpW.v).drop j).all (fun o=>fitK E o 1)=(fitK E (OpW.v ⟨kq,⟨lq,zA,zn,zc,zs⟩,nq⟩) 1 && ((gL.map OpW.v).drop (j+1)).all (fun o=>fitK E o 1)) from by rw [drop_at10 hpv,List.all_cons])
   have HCV:=hide hcv
   have HFK:=hide fun (w':World) (y:Below wr.heap.size wr w')=>RfitsKind_is (v:=c) (HX.out.up (HW5.out.trans (y.mono HW5.out.size))) (hone.up y) (by rw [HEE.out];exact HZ0.out _ (List.mem_of_getElem? hpv)) (by rw [HEE.out];exact hcv)
   clear hpv hone hcv
   have HYr:=hide (Below.refl wr.heap.size wr).drew
   cases c
   ·
    exact ValA2z5
   ·
    have HN:=hide (show ((gL.map OpW.v).drop (j+1)).all (fun o=>fitK E o 1)=((gL.map OpW.v).all (fun o=>fitK E o 1)) from by rw [←HA.out,HS.out,HCV.out,Bool.true_and])
    go_wp2
    exact ValA2z6
  ·
   obtain rfl:gn=j:=by omega
   have hT:((gL.map OpW.v).all (fun o=>fitK E o 1))=true:=by rw [←HA.out,List.drop_of_length_le (by rw [List.length_map];have:gL.length=gn:=HLen.out;omega)];rfl
   exact ValA2z7):P:=h
theorem ValA2z2 {P:Prop} (h:P:=by
 have hlt':(j:Int) < (gn:Int):=by omega
 obtain ⟨p,hp⟩:∃ p,gL[j]?=some p:=⟨_,List.getElem?_eq_getElem (by have:gL.length=gn:=HLen.out;omega)⟩
 have hpv:(gL.map OpW.v)[j]?=some p.v:=by rw [List.getElem?_map,hp];rfl
 obtain ⟨b,o,hA,hb,hone,hc⟩:=((HR.out.up HW.out).args).at_ hp
 have hA:gA=some ⟨b,o,none⟩:=hA
 subst hA
 obtain ⟨kq,⟨lq,zA,zn,zc,zs⟩,nq⟩:=p
 have hel:=hide fun (w':World) (y:Below wr.heap.size wr w')=>(show w'.cell? ⟨b,o+j*4,none⟩=some (.int .i64 kq)∧w'.cell? ⟨b,o+j*4+1,none⟩=some (.int .i64 lq)∧w'.cell? ⟨b,o+j*4+2,none⟩=some (.slice zA zn zc)∧w'.cell? ⟨b,o+j*4+3,none⟩=some (.int .i64 nq) from ⟨(y.cell (p:=⟨b,o+j*4,none⟩) hb).trans (hc 0 _ rfl),(y.cell (p:=⟨b,o+j*4+1,none⟩) hb).trans (hc 1 _ rfl),(y.cell (p:=⟨b,o+j*4+2,none⟩) hb).trans (hc 2 _ rfl),(y.cell (p:=⟨b,o+j*4+3,none⟩) hb).trans (hc 3 _ rfl)⟩)
 obtain ⟨oe,hoe⟩:∃ z,opErr E (OpW.v ⟨kq,⟨lq,zA,zn,zc,zs⟩,nq⟩)=z:=⟨_,rfl⟩
 clear hp hc
 have HSo:=hide (opsErr_at (E:=E) hpv)
 clear hpv
 have HOE:=hide hoe
 have HO:=hide fun (w':World) (y:Below wr.heap.size wr w')=>ROperand_is (v:=oe) (HX.out.up (HW.out.trans (y.mono HW.out.size))) (hone.up y) (by rw [HEE.out];exact hoe)
 clear hone hoe
 have HYr:=hide (Below.refl wr.heap.size wr).drew
 by_cases h0:oe=0
 case neg=>
  have t7:(oe != 0)=true:=by simp [h0]
  have HN:=hide (show v=oe from by rw [←HV.out,if_pos (by rw [←HE.out,HSo.out,HOE.out,if_pos h0];exact h0),← HE.out,HSo.out,HOE.out,if_pos h0])
  clear h0
  go_wp2
  refine wp_region_held_drew (S:=(fun w'=>Below wr.heap.size wr w')) (by kernel_rfl) HYr.out (fun hHeld=>?_)
  refine planS [0,1,2,3,4,5] ?_
  repeat' (first | refine pT hHeld rfl ?_ | refine pS hHeld rfl ?_)
  refine planE ?_
  refine wpAnyH_ready (rs:=[6]) (by kernel_rfl) (by simp) ?_
  refine AllReadyH.cons rfl (fun KZ hK=>?_) AllReadyH.nil
  go_simp
  refine (HO.out _ HYr.out).mono ?_
  rintro e7 w7 ⟨rfl,hb7⟩
  have HY7:=hide (HYr.out.trans (hb7.mono HYr.out.size))
  clear hb7
  refine hK.out _ _ HY7.out (fun hHeld=>?_)
  clear hK KZ
  try simp only [Act.put,List.setIfInBounds_toArray,List.set_cons_zero,List.set_cons_succ]
  refine planS [7] ?_
  repeat' (first | refine pT hHeld rfl ?_ | refine pS hHeld rfl ?_)
  refine planE ?_
  refine wpAnyH_done (by kernel_rfl) ?_ _
  have HZ:=hide (HW.out.trans (HY7.out.mono HW.out.size))
  go_wp2
  go_ret
  exact ⟨congrArg (fun v=>Ending.returned (.int .i64 v)) HN.out.symm,HB.out.trans (HZ.out.mono HB.out.size)⟩
 have t7:(oe != 0)=false:=by simp [h0]
 subst h0
 have HN:=hide (show opsErr E ((gL.map OpW.v).drop (j+1))=er from by rw [←HE.out,HSo.out,if_neg (by rw [HOE.out];simp)])
 go_wp2
 refine wp_region_held_drew (S:=(fun w'=>Below wr.heap.size wr w')) (by kernel_rfl) HYr.out (fun hHeld=>?_)
 refine planS [0,1,2,3,4,5] ?_
 repeat' (first | refine pT hHeld rfl ?_ | refine pS hHeld rfl ?_)
 refine planE ?_
 refine wpAnyH_ready (rs:=[6]) (by kernel_rfl) (by simp) ?_
 refine AllReadyH.cons rfl (fun KZ hK=>?_) AllReadyH.nil
 go_simp
 refine (HO.out _ HYr.out).mono ?_
 rintro e7 w7 ⟨rfl,hb7⟩
 have HY7:=hide (HYr.out.trans (hb7.mono HYr.out.size))
 clear hb7
 refine hK.out _ _ HY7.out (fun hHeld=>?_)
 clear hK KZ
 try simp only [Act.put,List.setIfInBounds_toArray,List.set_cons_zero,List.set_cons_succ]
 refine planS [7] ?_
 repeat' (first | refine pT hHeld rfl ?_ | refine pS hHeld rfl ?_)
 refine planE ?_
 refine wpAnyH_done (by kernel_rfl) ?_ _
 go_wp2
 have HD17:=hide (HW.out.trans (HY7.out.mono HW.out.size)).drew
 refine wp_region_held_drew (S:=(fun w'=>Below WW.heap.size WW w')) (by kernel_rfl) HD17.out (fun hHeld=>?_)
 refine planS [0,1,2,3,4,5,6,7,8,9,10,11,12,13,14,15,16,17,18] ?_
 repeat' (first | refine pT hHeld rfl ?_ | refine pS hHeld rfl ?_)
 refine planE ?_
 refine wpAnyH_ready (rs:=[19]) (by kernel_rfl) (by simp) ?_
 refine AllReadyH.cons rfl (fun KZ hK=>?_) AllReadyH.nil
 go_simp
 refine hK.out _ _ hHeld (fun hHeld=>?_)
 clear hK KZ
 try simp only [Act.put,List.setIfInBounds_toArray,List.set_cons_zero,List.set_cons_succ]
 refine planS [20,21] ?_
 repeat' (first | refine pT hHeld rfl ?_ | refine pS hHeld rfl ?_)
 refine planE ?_
 refine wpAnyH_done (by kernel_rfl) ?_ _
 go_wp2
 go_roundw
 case rel=>exact ⟨j+1,by go_num,by omega,hide HN.out,hide HD17.out⟩
 case measure=>simp [intOf];omega):P:=h
theorem ValA2z4 {P:Prop} (h:P:=by
 rw [hof,hot] at hvk
 clear hof hot a1
 have HVK:=hide hvk
 clear hvk
 go_wp2
 clear b0 b1 b2 b3 b4 b5 b6 r0 r1 r2 r3 r4 r5 r6
 go_loopw [13] (fun i wr=>∃ j:Nat,i=.int .i64 (j:Int)∧j≤gn∧Hid (((gL.map OpW.v).drop j).all (fun o=>fitK E o 2)=((gL.map OpW.v).all (fun o=>fitK E o 2)))∧Hid (Below WW.heap.size WW wr)) (fun i _=>gn - (intOf i).toNat)
 case atStart=>exact ⟨0,rfl,Nat.zero_le _,hide rfl,hide HW.out⟩
 case round=>
  obtain ⟨j,rfl,hj,HA,HW5⟩:=hrel
  obtain ⟨b0,b1,b2,b3,b4,b5,b6,r0,r1,r2,r3,r4,r5,r6⟩:=hcx.out _ HW5.out
  by_cases hlt:j < gn
  ·
   exact ValA2z0
  ·
   obtain rfl:gn=j:=by omega
   have hT:((gL.map OpW.v).all (fun o=>fitK E o 2))=true:=by rw [←HA.out,List.drop_of_length_le (by rw [List.length_map];have:gL.length=gn:=HLen.out;omega)];rfl
   by_cases h5:tk=2
   ·
    have t5:(tk != 2)=false:=by simp [h5]
    obtain rfl:v=0:=by rw [HVK.out,if_pos ⟨hT,h5⟩]
    exact ValA2z10
   ·
    have t5:(tk != 2)=true:=by simp [h5]
    obtain rfl:v=22:=by rw [HVK.out,if_neg (by rintro ⟨_,a⟩;exact h5 a)]
    exact ValA2z10):P:=h
theorem ValA2z8 {P:Prop} (h:P:=by
 obtain ⟨WW,hWW,hB9,_,hcx9⟩:=boxes77 w (.string nm) (.slice rA rn rc) (.slice oA on oc) (.slice (some ⟨g,q,none⟩) tm tc) (.slice lA ln lc) (.int .i64 ar) (.slice bA bn bc) (.int .i64 (2)) (.int .i64 op) (.int .i64 rg) (.bool mu) (.int .i64 l) (.slice pA pn pc) (.slice gA gn gc) 28 44
 exact ValA2z3):P:=h
theorem ValA2z11 {P:Prop} (h:P:=by
 obtain ⟨u,y,rfl,_,hu⟩:=hok.elem htt (p:=f) (by rw [tyParts_tup h4];exact List.mem_of_getElem? hq)
 obtain ⟨z,hz,_⟩:=tys_back hu
 exact ⟨u,z,rfl,hz⟩):P:=h
theorem Rasg_2 {x:BdW} {r:RvW} {i:Nat} {ty:TyW} {v:Int} {w:World} (h:VB w x) (hr:OneRv w w.heap.size r) (ht:x.types.L[i]?=some ty) (hk:r.kind=2) (hsh:shErr r.v=0) (hv:asErr (wE x) r.v (i:Int)=v) :
 Calls Tryz.prog 40 #[aggBd x,aggRv r,.int .i64 (i:Int)] w fun e w'=>e=.returned (.int .i64 v)∧Below w.heap.size w w':=by
 have htt:(tys x.types.L)[i]?=some ty.t:=by
  show (x.types.L.map TyW.t)[i]?=_
  rw [List.getElem?_map,ht]
  rfl
 have hil:i < x.types.n:=by have h1:=(List.getElem?_eq_some_iff.1 ht).1;have h2:=h.one.types.len;omega
 have hok:=tyChk_iff.1 h.ok.ty
 have hto:OneT w w.heap.size ty:=h.one.types.all ty (List.mem_of_getElem? ht)
 have htm:x.types.n≤65535:=h.nt65
 obtain ⟨E,hE⟩:∃ u,wE x=u:=⟨_,rfl⟩
 have hET:tyGet E.T (i:Int)=ty.t:=by rw [←hE];exact tyGet_at htt
 rw [hE] at hv
 have HEE:=hide hE
 have hgn0:r.args.L.length=r.args.n:=hr.args.len
 have hgm0:=hr.args.nm
 unfold maxLen at hgm0
 have H0:=hide h
 have HRV:=hide hr
 have hEl:∀ (q:Nat) (f:Int),ty.t.kind=4→ty.t.fields[q]?=some f→∃ (u:Nat) (y:TyW),f=(u:Int)∧x.types.L[u]?=some y:=fun q f h4 hq=>by
  exact ValA2z11
 obtain ⟨g,q,hg,_⟩:=h.one.typs.at_ ht
 obtain ⟨nm,⟨rA,rn,rc,rL⟩,⟨oA,on,oc,oL⟩,⟨tA,tm,tc,tL⟩,⟨lA,ln,lc,lL⟩,ar,⟨bA,bn,bc,bL⟩⟩:=x
 obtain ⟨k,op,rg,mu,⟨l,pA,pn,pc,ps⟩,⟨gA,gn,gc,gL⟩⟩:=r
 have hg:tA=some ⟨g,q,none⟩:=hg
 subst hg
 obtain ⟨⟨tk,tmu,trg,tel,fs⟩,fA,fn,fc⟩:=ty
 have hfn:fs.length=fn:=by have:=hto.rd.1;rw [List.length_map] at this;exact this
 have hfm:fn≤maxLen:=Nat.le_trans hto.ok.nc hto.ok.cm
 unfold maxLen at hfm
 have hil:i < tm:=hil
 have hgn:gL.length=gn:=hgn0
 clear hgn0
 have hgm:gn≤2 ^ 63 - 1:=hgm0
 clear hgm0
 have htm:tm≤65535:=htm
 have hilI:(i:Int) < (tm:Int):=by omega
 have hi0:(0:Int)≤(i:Int):=by omega
 have HTY:=hide ht
 have hk:k=2:=hk
 subst hk
 clear h hr ht htt hil hok hto hE htm
 have HSH:=hide hsh
 by_cases hr1:op < 0
 case pos=>
  obtain rfl:v=14:=by rw [←hv];exact asErr_rng (r:=RvW.v ⟨2,op,rg,mu,⟨l,pA,pn,pc,ps⟩,⟨gA,gn,gc,gL⟩⟩) hsh (by show ¬(2:Int)=1;decide) (.inl ⟨rfl,.inl hr1⟩)
  exact ValA2z8
 have op0:0≤op:=by omega
 clear hr1
 by_cases hr1:1 < op
 case pos=>
  obtain rfl:v=14:=by rw [←hv];exact asErr_rng (r:=RvW.v ⟨2,op,rg,mu,⟨l,pA,pn,pc,ps⟩,⟨gA,gn,gc,gL⟩⟩) hsh (by show ¬(2:Int)=1;decide) (.inl ⟨rfl,.inr hr1⟩)
  exact ValA2z8
 have op1:op≤1:=by omega
 clear hr1
 obtain ⟨er,her⟩:∃ u,opsErr E (gL.map OpW.v)=u:=⟨_,rfl⟩
 have hv9:(if er≠0 then er else if ((gL.map OpW.v).all (fun o=>fitK E o (opFrom (RvW.v ⟨2,op,rg,mu,⟨l,pA,pn,pc,ps⟩,⟨gA,gn,gc,gL⟩⟩)))=true)∧tk=opTo (RvW.v ⟨2,op,rg,mu,⟨l,pA,pn,pc,ps⟩,⟨gA,gn,gc,gL⟩⟩) then 0 else 22)=v:=by
  rw [←hv,asErr_op2 (r:=RvW.v ⟨2,op,rg,mu,⟨l,pA,pn,pc,ps⟩,⟨gA,gn,gc,gL⟩⟩) (.inl rfl) hsh (by show ¬(((2:Int)=2∧(op < 0∨1 < op))∨((2:Int)=3∧(op < 0∨5 < op)));omega),← her,hET]
  rfl
 have HV:=hide hv9
 have HEr:=hide her
 have HLen:=hide hgn
 have HZero:=hide fun (e0:er=0)=>opsErr_zero.1 (her.trans e0)
 obtain ⟨WW,hWW,hB9,_,hcx9⟩:=boxes77 w (.string nm) (.slice rA rn rc) (.slice oA on oc) (.slice (some ⟨g,q,none⟩) tm tc) (.slice lA ln lc) (.int .i64 ar) (.slice bA bn bc) (.int .i64 (2)) (.int .i64 op) (.int .i64 rg) (.bool mu) (.int .i64 l) (.slice pA pn pc) (.slice gA gn gc) 28 44
 have HWW:=hide hWW
 clear hWW
 have HB:=hide hB9
 clear hB9
 have hcx:=hide hcx9
 clear hcx9
 have HX:=hide (H0.out.up HB.out)
 have HR:=hide (HRV.out.up HB.out)
 have hty:=hide fun (w':World) (y:Below WW.heap.size WW w')=>(show w'.cell? ⟨g,q+i*5,none⟩=some (.int .i64 tk)∧w'.cell? ⟨g,q+i*5+4,none⟩=some (.slice fA fn fc) from by
  obtain ⟨b',q',hg',_,_,c0,c1,c2,c3,c4⟩:=(HX.out.up y).one.typs.at_ HTY.out
  injection hg' with hg'
  injection hg' with hga hgb
  subst hga hgb
  exact ⟨c0,c4⟩)
 clear hgn hfn hET hEl hsh hv hv9 her
 go_enter Tryz.func40,Tryz.ntmps40
 go_wp2_with fail
 rw [←HWW.out]
 refine (Rshape_is HSH.out _ HR.out).mono ?_
 rintro e1 w1 ⟨rfl,hb1⟩
 have HW1:=hide hb1
 clear hb1
 obtain ⟨b0,b1,b2,b3,b4,b5,b6,r0,r1,r2,r3,r4,r5,r6⟩:=hcx.out _ HW1.out
 obtain ⟨y0,y4⟩:=hty.out _ HW1.out
 go_wp2
 have HD9:=hide HW1.out.drew
 refine wp_region_held_drew (S:=(fun w'=>Below WW.heap.size WW w')) (by kernel_rfl) HD9.out (fun hHeld=>?_)
 refine planS [0,1,2,3,4,5,6,7,8,9,10,11,12,13,14,15,16,17,18,19] ?_
 repeat' (first | refine pT hHeld rfl ?_ | refine pS hHeld rfl ?_)
 refine planE ?_
 refine wpAnyH_done (by kernel_rfl) ?_ _
 clear b0 b1 b2 b3 b4 b5 b6 r0 r1 r2 r3 r4 r5 r6 y0 y4
 obtain ⟨b0,b1,b2,b3,b4,b5,b6,r0,r1,r2,r3,r4,r5,r6⟩:=hcx.out _ HD9.out
 obtain ⟨y0,y4⟩:=hty.out _ HD9.out
 go_wp2
 clear b0 b1 b2 b3 b4 b5 b6 r0 r1 r2 r3 r4 r5 r6 y0 y4
 go_loopw [9] (fun i wr=>∃ j:Nat,i=.int .i64 (j:Int)∧j≤gn∧Hid (opsErr E ((gL.map OpW.v).drop j)=er)∧Hid (Below WW.heap.size WW wr)) (fun i _=>gn - (intOf i).toNat)
 case atStart=>exact ⟨0,rfl,Nat.zero_le _,hide HEr.out,hide HD9.out⟩
 case round=>
  obtain ⟨j,rfl,hj,HE,HW⟩:=hrel
  obtain ⟨b0,b1,b2,b3,b4,b5,b6,r0,r1,r2,r3,r4,r5,r6⟩:=hcx.out _ HW.out
  by_cases hlt:j < gn
  ·
   exact ValA2z2
  ·
   obtain rfl:gn=j:=by omega
   have e0:er=0:=by rw [←HE.out];exact opsErr_end (by rw [List.length_map];have:gL.length=gn:=HLen.out;omega)
   have HZ0:=hide (HZero.out e0)
   have hvk:v=if ((gL.map OpW.v).all (fun o=>fitK E o (opFrom (RvW.v ⟨2,op,rg,mu,⟨l,pA,pn,pc,ps⟩,⟨gA,gn,gc,gL⟩⟩)))=true)∧tk=opTo (RvW.v ⟨2,op,rg,mu,⟨l,pA,pn,pc,ps⟩,⟨gA,gn,gc,gL⟩⟩) then 0 else 22:=by have h1:=HV.out;rw [if_neg (by rw [e0];simp)] at h1;exact h1.symm
   clear e0 hlt hj
   generalize wr=ws at *
   have a1:op=1∨¬op=1:=by omega
   rcases a1 with a1 | a1
   ·
    have q1:(op == 1)=true:=by simp [a1]
    have hof:opFrom (RvW.v ⟨2,op,rg,mu,⟨l,pA,pn,pc,ps⟩,⟨gA,gn,gc,gL⟩⟩)=1:=by show (if ((2:Int)=2∧op=1)∨((2:Int)=3∧op=5) then (1:Int) else 2)=1;rw [if_pos (by omega)]
    have hot:opTo (RvW.v ⟨2,op,rg,mu,⟨l,pA,pn,pc,ps⟩,⟨gA,gn,gc,gL⟩⟩)=1:=by show (if ((2:Int)=2∧op=1)∨((2:Int)=3∧3≤op) then (1:Int) else 2)=1;rw [if_pos (by omega)]
    exact ValA2z1
   ·
    have q1:(op == 1)=false:=by simp [a1]
    have hof:opFrom (RvW.v ⟨2,op,rg,mu,⟨l,pA,pn,pc,ps⟩,⟨gA,gn,gc,gL⟩⟩)=2:=by show (if ((2:Int)=2∧op=1)∨((2:Int)=3∧op=5) then (1:Int) else 2)=2;rw [if_neg (by omega)]
    have hot:opTo (RvW.v ⟨2,op,rg,mu,⟨l,pA,pn,pc,ps⟩,⟨gA,gn,gc,gL⟩⟩)=2:=by show (if ((2:Int)=2∧op=1)∨((2:Int)=3∧3≤op) then (1:Int) else 2)=2;rw [if_neg (by omega)]
    exact ValA2z4
theorem ValA2z9 {P:Prop} (h:P:=by
 obtain ⟨WW,hWW,hB9,_,hcx9⟩:=boxes77 w (.string nm) (.slice rA rn rc) (.slice oA on oc) (.slice (some ⟨g,q,none⟩) tm tc) (.slice lA ln lc) (.int .i64 ar) (.slice bA bn bc) (.int .i64 (3)) (.int .i64 op) (.int .i64 rg) (.bool mu) (.int .i64 l) (.slice pA pn pc) (.slice gA gn gc) 28 44
 exact ValA2z3):P:=h
theorem Rasg_3 {x:BdW} {r:RvW} {i:Nat} {ty:TyW} {v:Int} {w:World} (h:VB w x) (hr:OneRv w w.heap.size r) (ht:x.types.L[i]?=some ty) (hk:r.kind=3) (hsh:shErr r.v=0) (hv:asErr (wE x) r.v (i:Int)=v) :
 Calls Tryz.prog 40 #[aggBd x,aggRv r,.int .i64 (i:Int)] w fun e w'=>e=.returned (.int .i64 v)∧Below w.heap.size w w':=by
 have htt:(tys x.types.L)[i]?=some ty.t:=by
  show (x.types.L.map TyW.t)[i]?=_
  rw [List.getElem?_map,ht]
  rfl
 have hil:i < x.types.n:=by have h1:=(List.getElem?_eq_some_iff.1 ht).1;have h2:=h.one.types.len;omega
 have hok:=tyChk_iff.1 h.ok.ty
 have hto:OneT w w.heap.size ty:=h.one.types.all ty (List.mem_of_getElem? ht)
 have htm:x.types.n≤65535:=h.nt65
 obtain ⟨E,hE⟩:∃ u,wE x=u:=⟨_,rfl⟩
 have hET:tyGet E.T (i:Int)=ty.t:=by rw [←hE];exact tyGet_at htt
 rw [hE] at hv
 have HEE:=hide hE
 have hgn0:r.args.L.length=r.args.n:=hr.args.len
 have hgm0:=hr.args.nm
 unfold maxLen at hgm0
 have H0:=hide h
 have HRV:=hide hr
 have hEl:∀ (q:Nat) (f:Int),ty.t.kind=4→ty.t.fields[q]?=some f→∃ (u:Nat) (y:TyW),f=(u:Int)∧x.types.L[u]?=some y:=fun q f h4 hq=>by
  exact ValA2z11
 obtain ⟨g,q,hg,_⟩:=h.one.typs.at_ ht
 obtain ⟨nm,⟨rA,rn,rc,rL⟩,⟨oA,on,oc,oL⟩,⟨tA,tm,tc,tL⟩,⟨lA,ln,lc,lL⟩,ar,⟨bA,bn,bc,bL⟩⟩:=x
 obtain ⟨k,op,rg,mu,⟨l,pA,pn,pc,ps⟩,⟨gA,gn,gc,gL⟩⟩:=r
 have hg:tA=some ⟨g,q,none⟩:=hg
 subst hg
 obtain ⟨⟨tk,tmu,trg,tel,fs⟩,fA,fn,fc⟩:=ty
 have hfn:fs.length=fn:=by have:=hto.rd.1;rw [List.length_map] at this;exact this
 have hfm:fn≤maxLen:=Nat.le_trans hto.ok.nc hto.ok.cm
 unfold maxLen at hfm
 have hil:i < tm:=hil
 have hgn:gL.length=gn:=hgn0
 clear hgn0
 have hgm:gn≤2 ^ 63 - 1:=hgm0
 clear hgm0
 have htm:tm≤65535:=htm
 have hilI:(i:Int) < (tm:Int):=by omega
 have hi0:(0:Int)≤(i:Int):=by omega
 have HTY:=hide ht
 have hk:k=3:=hk
 subst hk
 clear h hr ht htt hil hok hto hE htm
 have HSH:=hide hsh
 by_cases hr1:op < 0
 case pos=>
  obtain rfl:v=14:=by rw [←hv];exact asErr_rng (r:=RvW.v ⟨3,op,rg,mu,⟨l,pA,pn,pc,ps⟩,⟨gA,gn,gc,gL⟩⟩) hsh (by show ¬(3:Int)=1;decide) (.inr ⟨rfl,.inl hr1⟩)
  exact ValA2z9
 have op0:0≤op:=by omega
 clear hr1
 by_cases hr1:5 < op
 case pos=>
  obtain rfl:v=14:=by rw [←hv];exact asErr_rng (r:=RvW.v ⟨3,op,rg,mu,⟨l,pA,pn,pc,ps⟩,⟨gA,gn,gc,gL⟩⟩) hsh (by show ¬(3:Int)=1;decide) (.inr ⟨rfl,.inr hr1⟩)
  exact ValA2z9
 have op1:op≤5:=by omega
 clear hr1
 obtain ⟨er,her⟩:∃ u,opsErr E (gL.map OpW.v)=u:=⟨_,rfl⟩
 have hv9:(if er≠0 then er else if ((gL.map OpW.v).all (fun o=>fitK E o (opFrom (RvW.v ⟨3,op,rg,mu,⟨l,pA,pn,pc,ps⟩,⟨gA,gn,gc,gL⟩⟩)))=true)∧tk=opTo (RvW.v ⟨3,op,rg,mu,⟨l,pA,pn,pc,ps⟩,⟨gA,gn,gc,gL⟩⟩) then 0 else 22)=v:=by
  rw [←hv,asErr_op2 (r:=RvW.v ⟨3,op,rg,mu,⟨l,pA,pn,pc,ps⟩,⟨gA,gn,gc,gL⟩⟩) (.inr rfl) hsh (by show ¬(((3:Int)=2∧(op < 0∨1 < op))∨((3:Int)=3∧(op < 0∨5 < op)));omega),← her,hET]
  rfl
 have HV:=hide hv9
 have HEr:=hide her
 have HLen:=hide hgn
 have HZero:=hide fun (e0:er=0)=>opsErr_zero.1 (her.trans e0)
 obtain ⟨WW,hWW,hB9,_,hcx9⟩:=boxes77 w (.string nm) (.slice rA rn rc) (.slice oA on oc) (.slice (some ⟨g,q,none⟩) tm tc) (.slice lA ln lc) (.int .i64 ar) (.slice bA bn bc) (.int .i64 (3)) (.int .i64 op) (.int .i64 rg) (.bool mu) (.int .i64 l) (.slice pA pn pc) (.slice gA gn gc) 28 44
 have HWW:=hide hWW
 clear hWW
 have HB:=hide hB9
 clear hB9
 have hcx:=hide hcx9
 clear hcx9
 have HX:=hide (H0.out.up HB.out)
 have HR:=hide (HRV.out.up HB.out)
 have hty:=hide fun (w':World) (y:Below WW.heap.size WW w')=>(show w'.cell? ⟨g,q+i*5,none⟩=some (.int .i64 tk)∧w'.cell? ⟨g,q+i*5+4,none⟩=some (.slice fA fn fc) from by
  obtain ⟨b',q',hg',_,_,c0,c1,c2,c3,c4⟩:=(HX.out.up y).one.typs.at_ HTY.out
  injection hg' with hg'
  injection hg' with hga hgb
  subst hga hgb
  exact ⟨c0,c4⟩)
 clear hgn hfn hET hEl hsh hv hv9 her
 go_enter Tryz.func40,Tryz.ntmps40
 go_wp2_with fail
 rw [←HWW.out]
 refine (Rshape_is HSH.out _ HR.out).mono ?_
 rintro e1 w1 ⟨rfl,hb1⟩
 have HW1:=hide hb1
 clear hb1
 obtain ⟨b0,b1,b2,b3,b4,b5,b6,r0,r1,r2,r3,r4,r5,r6⟩:=hcx.out _ HW1.out
 obtain ⟨y0,y4⟩:=hty.out _ HW1.out
 go_wp2
 have HD9:=hide HW1.out.drew
 refine wp_region_held_drew (S:=(fun w'=>Below WW.heap.size WW w')) (by kernel_rfl) HD9.out (fun hHeld=>?_)
 refine planS [0,1,2,3,4,5,6,7,8,9,10,11,12,13,14,15,16,17,18,19] ?_
 repeat' (first | refine pT hHeld rfl ?_ | refine pS hHeld rfl ?_)
 refine planE ?_
 refine wpAnyH_done (by kernel_rfl) ?_ _
 clear b0 b1 b2 b3 b4 b5 b6 r0 r1 r2 r3 r4 r5 r6 y0 y4
 obtain ⟨b0,b1,b2,b3,b4,b5,b6,r0,r1,r2,r3,r4,r5,r6⟩:=hcx.out _ HD9.out
 obtain ⟨y0,y4⟩:=hty.out _ HD9.out
 go_wp2
 clear b0 b1 b2 b3 b4 b5 b6 r0 r1 r2 r3 r4 r5 r6 y0 y4
 go_loopw [9] (fun i wr=>∃ j:Nat,i=.int .i64 (j:Int)∧j≤gn∧Hid (opsErr E ((gL.map OpW.v).drop j)=er)∧Hid (Below WW.heap.size WW wr)) (fun i _=>gn - (intOf i).toNat)
 case atStart=>exact ⟨0,rfl,Nat.zero_le _,hide HEr.out,hide HD9.out⟩
 case round=>
  obtain ⟨j,rfl,hj,HE,HW⟩:=hrel
  obtain ⟨b0,b1,b2,b3,b4,b5,b6,r0,r1,r2,r3,r4,r5,r6⟩:=hcx.out _ HW.out
  by_cases hlt:j < gn
  ·
   exact ValA2z2
  ·
   obtain rfl:gn=j:=by omega
   have e0:er=0:=by rw [←HE.out];exact opsErr_end (by rw [List.length_map];have:gL.length=gn:=HLen.out;omega)
   have HZ0:=hide (HZero.out e0)
   have hvk:v=if ((gL.map OpW.v).all (fun o=>fitK E o (opFrom (RvW.v ⟨3,op,rg,mu,⟨l,pA,pn,pc,ps⟩,⟨gA,gn,gc,gL⟩⟩)))=true)∧tk=opTo (RvW.v ⟨3,op,rg,mu,⟨l,pA,pn,pc,ps⟩,⟨gA,gn,gc,gL⟩⟩) then 0 else 22:=by have h1:=HV.out;rw [if_neg (by rw [e0];simp)] at h1;exact h1.symm
   clear e0 hlt hj
   generalize wr=ws at *
   have a1:op=5∨¬op=5∧3≤op∨¬op=5∧¬3≤op:=by omega
   rcases a1 with a1 | a1 | a1
   ·
    have q1:(op == 5)=true:=by simp [a1]
    have q2:(3:Int)≤op:=by omega
    have hof:opFrom (RvW.v ⟨3,op,rg,mu,⟨l,pA,pn,pc,ps⟩,⟨gA,gn,gc,gL⟩⟩)=1:=by show (if ((3:Int)=2∧op=1)∨((3:Int)=3∧op=5) then (1:Int) else 2)=1;rw [if_pos (by omega)]
    have hot:opTo (RvW.v ⟨3,op,rg,mu,⟨l,pA,pn,pc,ps⟩,⟨gA,gn,gc,gL⟩⟩)=1:=by show (if ((3:Int)=2∧op=1)∨((3:Int)=3∧3≤op) then (1:Int) else 2)=1;rw [if_pos (by omega)]
    exact ValA2z1
   ·
    have q1:(op == 5)=false:=by simp [a1.1]
    have q2:(3:Int)≤op:=a1.2
    have hof:opFrom (RvW.v ⟨3,op,rg,mu,⟨l,pA,pn,pc,ps⟩,⟨gA,gn,gc,gL⟩⟩)=2:=by show (if ((3:Int)=2∧op=1)∨((3:Int)=3∧op=5) then (1:Int) else 2)=2;rw [if_neg (by omega)]
    have hot:opTo (RvW.v ⟨3,op,rg,mu,⟨l,pA,pn,pc,ps⟩,⟨gA,gn,gc,gL⟩⟩)=1:=by show (if ((3:Int)=2∧op=1)∨((3:Int)=3∧3≤op) then (1:Int) else 2)=1;rw [if_pos (by omega)]
    rw [hof,hot] at hvk
    clear hof hot a1
    have HVK:=hide hvk
    clear hvk
    go_wp2
    clear b0 b1 b2 b3 b4 b5 b6 r0 r1 r2 r3 r4 r5 r6
    go_loopw [13] (fun i wr=>∃ j:Nat,i=.int .i64 (j:Int)∧j≤gn∧Hid (((gL.map OpW.v).drop j).all (fun o=>fitK E o 2)=((gL.map OpW.v).all (fun o=>fitK E o 2)))∧Hid (Below WW.heap.size WW wr)) (fun i _=>gn - (intOf i).toNat)
    case atStart=>exact ⟨0,rfl,Nat.zero_le _,hide rfl,hide HW.out⟩
    case round=>
     obtain ⟨j,rfl,hj,HA,HW5⟩:=hrel
     obtain ⟨b0,b1,b2,b3,b4,b5,b6,r0,r1,r2,r3,r4,r5,r6⟩:=hcx.out _ HW5.out
     by_cases hlt:j < gn
     ·
      exact ValA2z0
     ·
      obtain rfl:gn=j:=by omega
      have hT:((gL.map OpW.v).all (fun o=>fitK E o 2))=true:=by rw [←HA.out,List.drop_of_length_le (by rw [List.length_map];have:gL.length=gn:=HLen.out;omega)];rfl
      exact ValA2z7
   ·
    have q1:(op == 5)=false:=by simp [a1.1]
    have q2:¬(3:Int)≤op:=a1.2
    have q3:op < 3:=by omega
    have hof:opFrom (RvW.v ⟨3,op,rg,mu,⟨l,pA,pn,pc,ps⟩,⟨gA,gn,gc,gL⟩⟩)=2:=by show (if ((3:Int)=2∧op=1)∨((3:Int)=3∧op=5) then (1:Int) else 2)=2;rw [if_neg (by omega)]
    have hot:opTo (RvW.v ⟨3,op,rg,mu,⟨l,pA,pn,pc,ps⟩,⟨gA,gn,gc,gL⟩⟩)=2:=by show (if ((3:Int)=2∧op=1)∨((3:Int)=3∧3≤op) then (1:Int) else 2)=2;rw [if_neg (by omega)]
    exact ValA2z4
theorem Rassign_is:RAsg:=fun x r i ty v w h hr ht hv=>by
 by_cases hs:shErr r.v=0
 ·
  have hk:=(shErr_zero hs).1
  have hk5:r.kind=0∨r.kind=1∨r.kind=2∨r.kind=3∨r.kind=4:=by have e:r.v.kind=r.kind:=rfl;rw [e] at hk;omega
  rcases hk5 with hk | hk | hk | hk | hk
  ·
   exact Rasg_0 h hr ht hk hs hv
  ·
   exact Rasg_1 h hr ht hk hs hv
  ·
   exact Rasg_2 h hr ht hk hs hv
  ·
   exact Rasg_3 h hr ht hk hs hv
  ·
   exact Rasg_4 h hr ht hk hs hv
 ·
  exact Rasg_sh h hr ht hs hv
theorem RStmt_is {x:BdW}:RStP x:=fun s v w h hs hv=>RStmt_of Rassign_is h hs hv
end Go.Proofs.YtfgacmgjpikgaaaGreatDoor
