/- Part 19 of the contracts and their mathematics. -/
import Derived.Test.YteeemjmohjkdpaaGreatDoorQ17
set_option linter.unusedVariables false
set_option linter.unusedSimpArgs false
set_option maxRecDepth 100000
set_option maxHeartbeats 16000000
namespace Go.Proofs.YteeemjmohjkdpaaGreatDoor
open Go.RowKit
theorem ValG2z1 {P:Prop} (h:P:=by
 refine wp_region_held_drew (S:=(fun w'=>Below wr.heap.size wr w')) (by kernel_rfl) HYr.out (fun hHeld=>?_)
 refine planS [0,1,2,3,4,5,6,7,8,9,10,11,12,13,14,15,16] ?_
 repeat' (first | refine pT hHeld rfl ?_ | refine pS hHeld rfl ?_)
 refine planE ?_
 refine wpAnyH_done (by kernel_rfl) ?_ _
 go_wp2
 go_ret
 exact ⟨congrArg (fun v=>Ending.returned (.int .i64 v)) HN.out.symm,HB.out.trans ((HWl.out.trans (HYr.out.mono HWl.out.size)).mono HB.out.size)⟩):P:=h
theorem ValG2z0 {P:Prop} (h:P:=by
 have hlt':(j:Int) < (sn:Int):=by omega
 obtain ⟨tg,hp⟩:∃ p,sL[j]?=some p:=⟨_,List.getElem?_eq_getElem (by have:sL.length=sn:=HSL.out;omega)⟩
 obtain ⟨b,o,hA,hb,_,hc⟩:=((HR.out.up HWl.out).targets).at_ hp
 have hA:sA=some ⟨b,o,none⟩:=hA
 subst hA
 have hel:=hide fun (w':World) (y:Below wr.heap.size wr w')=>(show w'.cell? ⟨b,o+j,none⟩=some (.int .i64 tg) from by have h9:=(y.cell (p:=⟨b,o+j*1+0,none⟩) hb).trans (hc 0 _ rfl);simpa using h9)
 clear hc
 have HSt:=hide (tgErr_at (E:=E) hp)
 clear hp
 have HYr:=hide (Below.refl wr.heap.size wr).drew
 by_cases q6:tg < 0
 case pos=>
  have q6d:decide (tg < 0)=true:=decide_eq_true q6
  have HN:=hide (show v=3 from by rw [←HV.out,if_pos (by rw [←HE.out,HSt.out,if_pos (.inl q6)];decide),← HE.out,HSt.out,if_pos (.inl q6)])
  go_wp2
  exact ValG2z1
 have q6d:decide (tg < 0)=false:=decide_eq_false q6
 by_cases q7:(bn:Int)≤tg
 case pos=>
  have q7d:decide ((bn:Int)≤tg)=true:=decide_eq_true q7
  have HN:=hide (show v=3 from by rw [←HV.out,if_pos (by rw [←HE.out,HSt.out,if_pos (.inr (by rw [HNB.out];exact q7))];decide),← HE.out,HSt.out,if_pos (.inr (by rw [HNB.out];exact q7))])
  go_wp2
  exact ValG2z1
 have q7d:decide ((bn:Int)≤tg)=false:=decide_eq_false q7
 have HN:=hide (show tgErr E (sL.drop (j+1))=e1 from by rw [←HE.out,HSt.out,if_neg (by rw [HNB.out];omega)])
 go_wp2
 refine wp_region_held_drew (S:=(fun w'=>Below wr.heap.size wr w')) (by kernel_rfl) HYr.out (fun hHeld=>?_)
 refine planS [0,1,2,3,4,5,6,7,8,9,10,11,12,13,14,15,16] ?_
 repeat' (first | refine pT hHeld rfl ?_ | refine pS hHeld rfl ?_)
 refine planE ?_
 refine wpAnyH_done (by kernel_rfl) ?_ _
 have HZ:=hide (HWl.out.trans (HYr.out.mono HWl.out.size))
 go_wp2
 go_roundw
 case rel=>exact ⟨j+1,by go_num,by omega,hide HN.out,hide HZ.out⟩
 case measure=>simp [intOf];omega):P:=h
theorem RTm_1 {x:BdW} {t:TmW} {v:Int} {w:World} (h:VB w x) (ht:OneTm w w.heap.size t) (hk:t.kind=1) (hv:tmErr (wE x) t.v=v) :
 Calls Tryz.prog 62 #[aggBd x,aggTm t] w fun e w'=>e=.returned (.int .i64 v)∧Below w.heap.size w w':=by
 have hbn:x.blocks.L.length=x.blocks.n:=h.one.blocks.len
 have hbm:=h.one.blocks.nm
 unfold maxLen at hbm
 have hsn:=ht.targets.len
 have hsm:=ht.targets.nm
 unfold maxLen at hsm
 have hgn:=ht.args.len
 have hgm:=ht.args.nm
 unfold maxLen at hgm
 have htn:=ht.name
 obtain ⟨E,hE⟩:∃ u,wE x=u:=⟨_,rfl⟩
 have hnb:E.nb=x.blocks.n:=by rw [←hE];exact hbn
 rw [hE] at hv
 have HEE:=hide hE
 have H0:=hide h
 have HXT:=hide ht
 obtain ⟨nm,⟨rA,rn,rc,rL⟩,⟨oA,on,oc,oL⟩,⟨tA,tm,tc,tL⟩,⟨lA,ln,lc,lL⟩,ar,⟨bA,bn,bc,bL⟩⟩:=x
 obtain ⟨k,⟨sA,sn,sc,sL⟩,⟨gA,gn,gc,gL⟩,⟨l,pA,pn,pc,ps⟩,tnm⟩:=t
 have hk:k=1:=hk
 subst hk
 clear h ht hbn hE
 have hsn:sL.length=sn:=hsn
 have hsm:sn≤2 ^ 63 - 1:=hsm
 have hgn:gL.length=gn:=hgn
 have hgm:gn≤2 ^ 63 - 1:=hgm
 have hbm:bn≤2 ^ 63 - 1:=hbm
 have htn:tnm.size≤maxLen:=htn
 have HNB:=hide (show E.nb=bn from hnb)
 clear hnb
 have hsh:tmSh (TmW.v ⟨1,⟨sA,sn,sc,sL⟩,⟨gA,gn,gc,gL⟩,⟨l,pA,pn,pc,ps⟩,tnm⟩)=if sn=2∧tnm=.empty∧noP (PlW.v ⟨l,pA,pn,pc,ps⟩)=true∧gn=1 then 0 else 2:=by
  unfold tmSh
  rw [if_neg (show ¬((TmW.v ⟨1,⟨sA,sn,sc,sL⟩,⟨gA,gn,gc,gL⟩,⟨l,pA,pn,pc,ps⟩,tnm⟩).kind < 0∨5 < (TmW.v ⟨1,⟨sA,sn,sc,sL⟩,⟨gA,gn,gc,gL⟩,⟨l,pA,pn,pc,ps⟩,tnm⟩).kind) by show ¬((1) < 0∨5 < (1));omega)]
  have e1:(TmW.v ⟨1,⟨sA,sn,sc,sL⟩,⟨gA,gn,gc,gL⟩,⟨l,pA,pn,pc,ps⟩,tnm⟩).targets.length=sn:=hsn
  have e2:(TmW.v ⟨1,⟨sA,sn,sc,sL⟩,⟨gA,gn,gc,gL⟩,⟨l,pA,pn,pc,ps⟩,tnm⟩).args.length=gn:=(List.length_map _).trans hgn
  have e3:tmTgs (TmW.v ⟨1,⟨sA,sn,sc,sL⟩,⟨gA,gn,gc,gL⟩,⟨l,pA,pn,pc,ps⟩,tnm⟩).kind=2:=rfl
  rw [e1,e2,e3]
  have e4:(TmW.v ⟨1,⟨sA,sn,sc,sL⟩,⟨gA,gn,gc,gL⟩,⟨l,pA,pn,pc,ps⟩,tnm⟩).kind=(1):=rfl
  have e5:(TmW.v ⟨1,⟨sA,sn,sc,sL⟩,⟨gA,gn,gc,gL⟩,⟨l,pA,pn,pc,ps⟩,tnm⟩).name=tnm:=rfl
  have e6:(TmW.v ⟨1,⟨sA,sn,sc,sL⟩,⟨gA,gn,gc,gL⟩,⟨l,pA,pn,pc,ps⟩,tnm⟩).pl=PlW.v ⟨l,pA,pn,pc,ps⟩:=rfl
  rw [e4,e5,e6]
  by_cases h1:sn=2
  case neg=>simp [h1]
  by_cases h2:tnm=.empty
  case neg=>simp [h1,h2]
  by_cases h3:noP (PlW.v ⟨l,pA,pn,pc,ps⟩)=true
  case neg=>simp [h1,h2,h3]
  by_cases h4:gn=1
  case neg=>simp [h1,h2,h3,h4]
  simp [h1,h2,h3,h4]
 by_cases hok:sn=2∧tnm=.empty∧noP (PlW.v ⟨l,pA,pn,pc,ps⟩)=true∧gn=1
 case neg=>
  obtain rfl:v=2:=by rw [if_neg hok] at hsh;rw [←hv,tmErr_sh,hsh];rfl
  have hf:(¬sn=2)∨(sn=2∧¬tnm=.empty)∨(sn=2∧tnm=.empty∧¬noP (PlW.v ⟨l,pA,pn,pc,ps⟩)=true)∨(sn=2∧tnm=.empty∧noP (PlW.v ⟨l,pA,pn,pc,ps⟩)=true∧¬gn=1):=by
   clear hv hsh
   by_cases h1:sn=2
   case neg=>exact .inl h1
   by_cases h2:tnm=.empty
   case neg=>exact .inr (.inl ⟨h1,h2⟩)
   by_cases h3:noP (PlW.v ⟨l,pA,pn,pc,ps⟩)=true
   case neg=>exact .inr (.inr (.inl ⟨h1,h2,h3⟩))
   by_cases h4:gn=1
   case neg=>exact .inr (.inr (.inr (⟨h1,h2,h3,h4⟩)))
   exact absurd ⟨h1,h2,h3,h4⟩ hok
  clear hv hsh hok
  rcases hf with h1 | ⟨h1,h2⟩ | ⟨h1,h2,h3⟩ | ⟨h1,h2,h3,h4⟩
  all_goals
   first | have q1:((sn:Int) != (2:Int))=true:=(by rw [bne_iff_ne];omega) | have q1:((sn:Int) != (2:Int))=false:=(by rw [bne_eq_false_iff_eq];omega)
   first | have q2:tnm.toList.isEmpty=true:=emptyS h2 | have q2:tnm.toList.isEmpty=false:=emptyS_not h2 | skip
   first | have HNO:Hid (noP (PlW.v ⟨l,pA,pn,pc,ps⟩)=true):=hide h3 | have HNO:Hid (noP (PlW.v ⟨l,pA,pn,pc,ps⟩)=false):=hide (by simpa using h3) | skip
   first | have q4:((gn:Int) != 1)=false:=(by rw [bne_eq_false_iff_eq];omega) | have q4:((gn:Int) != 1)=true:=(by rw [bne_iff_ne];omega) | skip
   try clear h1
   try clear h2
   try clear h3
   try clear h4
   clear hsn hgn htn
   obtain ⟨WW,hWW,hB9,hcx9,har9⟩:=boxes76a w (.string nm) (.slice rA rn rc) (.slice oA on oc) (.slice tA tm tc) (.slice lA ln lc) (.int .i64 ar) (.slice bA bn bc) (.int .i64 (1)) (.slice sA sn sc) (.slice gA gn gc) (.int .i64 l) (.slice pA pn pc) (.string tnm) 28 60 162 [.int .i64 1,.int .i64 2,.int .i64 0,.int .i64 1,.int .i64 1,.int .i64 0]
   have HWW:=hide hWW
   have HB:=hide hB9
   have hcx:=hide hcx9
   have har:=hide fun (w':World) (y:Below WW.heap.size WW w')=>(show w'.cell? ⟨w.heap.size+1+1,1,none⟩=some (.int .i64 2) from har9 w' y 1 _ rfl)
   have HX:=hide (H0.out.up HB.out)
   have HR:=hide (HXT.out.up HB.out)
   clear hWW hB9 hcx9 har9
   go_enter Tryz.func62,Tryz.ntmps62
   go_wp2
   rw [←HWW.out]
   have HD5:=hide (Below.refl WW.heap.size WW).drew
   refine wp_region_held_drew (S:=(fun w'=>Below WW.heap.size WW w')) (by kernel_rfl) HD5.out (fun hHeld=>?_)
   refine planS [0,1,2,3,4,5,6,7,8,9,10,11,12,13,14,15,16,17,18,19,20,21,22,23,24,25,26,27] ?_
   repeat' (first | refine pT hHeld rfl ?_ | refine pS hHeld rfl ?_)
   refine planE ?_
   refine wpAnyH_ready (rs:=[28]) (by kernel_rfl) (by simp) ?_
   refine AllReadyH.cons rfl (fun KZ hK=>?_) AllReadyH.nil
   first
   | (go_simp;refine (Rnone_is (x:=⟨l,pA,pn,pc,ps⟩) HNO.out _ (HR.out.pl.up HD5.out)).mono ?_;rintro e5 w5 ⟨rfl,hb5⟩;have HW5:=hide (HD5.out.trans (hb5.mono HD5.out.size));clear hb5;refine hK.out _ _ HW5.out (fun hHeld=>?_))
   | (go_simp;refine hK.out _ _ hHeld (fun hHeld=>?_))
   clear hK KZ
   try simp only [Act.put,List.setIfInBounds_toArray,List.set_cons_zero,List.set_cons_succ]
   refine planS [29,30,31,32,33,34,35,36,37,38,39,40,41,42,43,44,45,46,47,48,49,50,51,52,53,54,55,56,57] ?_
   repeat' (first | refine pT hHeld rfl ?_ | refine pS hHeld rfl ?_)
   refine planE ?_
   refine wpAnyH_done (by kernel_rfl) ?_ _
   go_wp2
   go_ret
   first | exact ⟨rfl,HB.out.trans (HW5.out.mono HB.out.size)⟩ | exact ⟨rfl,HB.out.trans (HD5.out.mono HB.out.size)⟩
 obtain ⟨h1,h2,h3,h4⟩:=hok
 have hsh:tmSh (TmW.v ⟨1,⟨sA,sn,sc,sL⟩,⟨gA,gn,gc,gL⟩,⟨l,pA,pn,pc,ps⟩,tnm⟩)=0:=by rw [hsh];exact if_pos ⟨h1,h2,h3,h4⟩
 have q1:((sn:Int) != (2:Int))=false:=by rw [bne_eq_false_iff_eq];omega
 have q2:tnm.toList.isEmpty=true:=emptyS h2
 have HNO:=hide h3
 have q4:((gn:Int) != 1)=false:=by rw [bne_eq_false_iff_eq];omega
 obtain ⟨e1,he1⟩:∃ u,tgErr E sL=u:=⟨_,rfl⟩
 obtain ⟨e2,he2⟩:∃ u,opsErr E (gL.map OpW.v)=u:=⟨_,rfl⟩
 subst h4
 obtain ⟨p0,hp0⟩:∃ q,gL=[q]:=List.length_eq_one_iff.1 hgn
 obtain ⟨mm,hmm⟩:∃ u,fitK E (OpW.v p0) 1=u:=⟨_,rfl⟩
 have hv9:(if e1≠0 then e1 else if e2≠0 then e2 else if mm=false then 22 else 0)=v:=by
  rw [←hv,tmErr_sh,if_neg (show ¬tmSh (TmW.v ⟨1,⟨sA,sn,sc,sL⟩,⟨gA,1,gc,gL⟩,⟨l,pA,pn,pc,ps⟩,tnm⟩)≠0 by rw [hsh];simp)]
  have g1:tgErr E (TmW.v ⟨1,⟨sA,sn,sc,sL⟩,⟨gA,1,gc,gL⟩,⟨l,pA,pn,pc,ps⟩,tnm⟩).targets=e1:=he1
  have g2:opsErr E (TmW.v ⟨1,⟨sA,sn,sc,sL⟩,⟨gA,1,gc,gL⟩,⟨l,pA,pn,pc,ps⟩,tnm⟩).args=e2:=he2
  rw [g1,g2]
  by_cases z1:e1=0
  case neg=>rw [if_pos (show e1≠0 from z1),if_pos (show e1≠0 from z1)]
  rw [if_neg (show ¬e1≠0 by omega),if_neg (show ¬e1≠0 by omega)]
  have g7:(TmW.v ⟨1,⟨sA,sn,sc,sL⟩,⟨gA,1,gc,gL⟩,⟨l,pA,pn,pc,ps⟩,tnm⟩).kind=(1):=rfl
  have g3:(TmW.v ⟨1,⟨sA,sn,sc,sL⟩,⟨gA,1,gc,gL⟩,⟨l,pA,pn,pc,ps⟩,tnm⟩).args=[p0.v]:=by show gL.map OpW.v=_;rw [hp0];rfl
  rw [g3,g7]
  simp [hmm]
 have HV:=hide hv9
 have HE1:=hide he1
 have HE2:=hide he2
 have HSL:=hide hsn
 have HGL:=hide hgn
 have HTN:=hide htn
 have HGet:=hide (show gL[0]?=some p0 by rw [hp0];rfl)
 have HZero:=hide fun (e0:e2=0)=>(opsErr_zero.1 (he2.trans e0)) p0.v (by rw [hp0];simp)
 have HMM:=hide hmm
 obtain ⟨WW,hWW,hB9,hcx9,har9⟩:=boxes76a w (.string nm) (.slice rA rn rc) (.slice oA on oc) (.slice tA tm tc) (.slice lA ln lc) (.int .i64 ar) (.slice bA bn bc) (.int .i64 (1)) (.slice sA sn sc) (.slice gA 1 gc) (.int .i64 l) (.slice pA pn pc) (.string tnm) 28 60 162 [.int .i64 1,.int .i64 2,.int .i64 0,.int .i64 1,.int .i64 1,.int .i64 0]
 clear hsn hgn htn hv hv9 he1 he2 hsh h1 h2 h3 hp0 hmm
 have HWW:=hide hWW
 clear hWW
 have HB:=hide hB9
 clear hB9
 have hcx:=hide hcx9
 clear hcx9
 have har:=hide fun (w':World) (y:Below WW.heap.size WW w')=>(show w'.cell? ⟨w.heap.size+1+1,1,none⟩=some (.int .i64 2) from har9 w' y 1 _ rfl)
 clear har9
 have HX:=hide (H0.out.up HB.out)
 have HR:=hide (HXT.out.up HB.out)
 go_enter Tryz.func62,Tryz.ntmps62
 go_wp2
 rw [←HWW.out]
 have HD5:=hide (Below.refl WW.heap.size WW).drew
 refine wp_region_held_drew (S:=(fun w'=>Below WW.heap.size WW w')) (by kernel_rfl) HD5.out (fun hHeld=>?_)
 refine planS [0,1,2,3,4,5,6,7,8,9,10,11,12,13,14,15,16,17,18,19,20,21,22,23,24,25,26,27] ?_
 repeat' (first | refine pT hHeld rfl ?_ | refine pS hHeld rfl ?_)
 refine planE ?_
 refine wpAnyH_ready (rs:=[28]) (by kernel_rfl) (by simp) ?_
 refine AllReadyH.cons rfl (fun KZ hK=>?_) AllReadyH.nil
 go_simp
 refine (Rnone_is (x:=⟨l,pA,pn,pc,ps⟩) HNO.out _ (HR.out.pl.up HD5.out)).mono ?_
 rintro e5 w5 ⟨rfl,hb5⟩
 have HW5:=hide (HD5.out.trans (hb5.mono HD5.out.size))
 clear hb5
 refine hK.out _ _ HW5.out (fun hHeld=>?_)
 clear hK KZ
 try simp only [Act.put,List.setIfInBounds_toArray,List.set_cons_zero,List.set_cons_succ]
 refine planS [29,30,31,32,33,34,35,36,37,38,39,40,41,42,43,44,45,46,47,48,49,50,51,52,53,54,55,56,57] ?_
 repeat' (first | refine pT hHeld rfl ?_ | refine pS hHeld rfl ?_)
 refine planE ?_
 refine wpAnyH_done (by kernel_rfl) ?_ _
 obtain ⟨b0,b1,b2,b3,b4,b5,b6,o0,o1,o2,o3,o4,o5⟩:=hcx.out _ HW5.out
 go_wp2
 clear b0 b1 b2 b3 b4 b5 b6 o0 o1 o2 o3 o4 o5
 go_loopw [7] (fun i wr=>∃ j:Nat,i=.int .i64 (j:Int)∧j≤sn∧Hid (tgErr E (sL.drop j)=e1)∧Hid (Below WW.heap.size WW wr)) (fun i _=>sn - (intOf i).toNat)
 case atStart=>exact ⟨0,rfl,Nat.zero_le _,hide HE1.out,hide HW5.out⟩
 case round=>
  obtain ⟨j,rfl,hj,HE,HWl⟩:=hrel
  obtain ⟨b0,b1,b2,b3,b4,b5,b6,o0,o1,o2,o3,o4,o5⟩:=hcx.out _ HWl.out
  by_cases hlt:j < sn
  ·
   exact ValG2z0
  ·
   obtain rfl:sn=j:=by omega
   have z1:e1=0:=by rw [←HE.out];exact tgErr_end (by have:sL.length=sn:=HSL.out;omega)
   have HV2:=hide (show v=(if e2≠0 then e2 else if mm=false then 22 else 0) from by have h9:=HV.out;rw [if_neg (by rw [z1];simp)] at h9;exact h9.symm)
   clear z1 hlt hj
   generalize wr=wq at *
   have q8i:¬(65535:Int) < (1:Int):=by decide
   have HV4:=hide HV2.out
   go_wp2
   clear b0 b1 b2 b3 b4 b5 b6 o0 o1 o2 o3 o4 o5
   go_loopw [8] (fun i wr=>∃ j:Nat,i=.int .i64 (j:Int)∧j≤1∧Hid (opsErr E ((gL.map OpW.v).drop j)=e2)∧Hid (Below WW.heap.size WW wr)) (fun i _=>1 - (intOf i).toNat)
   case atStart=>exact ⟨0,rfl,Nat.zero_le _,hide HE2.out,hide HWl.out⟩
   case round=>
    obtain ⟨j,rfl,hj,HF,HWo⟩:=hrel
    obtain ⟨b0,b1,b2,b3,b4,b5,b6,o0,o1,o2,o3,o4,o5⟩:=hcx.out _ HWo.out
    by_cases hlt:j < 1
    ·
     have hlt':(j:Int) < (1:Int):=by omega
     obtain ⟨p,hp⟩:∃ p,gL[j]?=some p:=⟨_,List.getElem?_eq_getElem (by have:gL.length=1:=HGL.out;omega)⟩
     have hpv:(gL.map OpW.v)[j]?=some p.v:=by rw [List.getElem?_map,hp];rfl
     obtain ⟨b,o,hA,hb,hone,hc⟩:=((HR.out.up HWo.out).args).at_ hp
     have hA:gA=some ⟨b,o,none⟩:=hA
     subst hA
     obtain ⟨kq,⟨lq,zA,zn,zc,zs⟩,nq⟩:=p
     have hel:=hide fun (w':World) (y:Below wr.heap.size wr w')=>(show w'.cell? ⟨b,o+j*4,none⟩=some (.int .i64 kq)∧w'.cell? ⟨b,o+j*4+1,none⟩=some (.int .i64 lq)∧w'.cell? ⟨b,o+j*4+2,none⟩=some (.slice zA zn zc)∧w'.cell? ⟨b,o+j*4+3,none⟩=some (.int .i64 nq) from ⟨(y.cell (p:=⟨b,o+j*4,none⟩) hb).trans (hc 0 _ rfl),(y.cell (p:=⟨b,o+j*4+1,none⟩) hb).trans (hc 1 _ rfl),(y.cell (p:=⟨b,o+j*4+2,none⟩) hb).trans (hc 2 _ rfl),(y.cell (p:=⟨b,o+j*4+3,none⟩) hb).trans (hc 3 _ rfl)⟩)
     obtain ⟨oe,hoe⟩:∃ z,opErr E (OpW.v ⟨kq,⟨lq,zA,zn,zc,zs⟩,nq⟩)=z:=⟨_,rfl⟩
     clear hp hc
     have HSo:=hide (opsErr_at (E:=E) hpv)
     clear hpv
     have HOE:=hide hoe
     have HO:=hide fun (w':World) (y:Below wr.heap.size wr w')=>ROperand_is (v:=oe) (HX.out.up (HWo.out.trans (y.mono HWo.out.size))) (hone.up y) (by rw [HEE.out];exact hoe)
     clear hone hoe
     have HYr:=hide (Below.refl wr.heap.size wr).drew
     by_cases h0:oe=0
     case neg=>
      have t7:(oe != 0)=true:=by simp [h0]
      have HN:=hide (show v=oe from by rw [HV4.out];have z9:e2=oe:=(by rw [←HF.out,HSo.out,HOE.out,if_pos h0]);rw [z9,if_pos h0])
      clear h0
      go_wp2
      refine wp_region_held_drew (S:=(fun w'=>Below wr.heap.size wr w')) (by kernel_rfl) HYr.out (fun hHeld=>?_)
      refine planS [0,1,2,3,4,5] ?_
      repeat' (first | refine pT hHeld rfl ?_ | refine pS hHeld rfl ?_)
      refine planE ?_
      refine wpAnyH_ready (rs:=[6]) (by kernel_rfl) (by simp) ?_
      refine AllReadyH.cons rfl (fun KZ hK=>?_) AllReadyH.nil
      go_simp
      refine (HO.out _ HYr.out).mono ?_
      rintro e7 w7 ⟨rfl,hb7⟩
      have HY7:=hide (HYr.out.trans (hb7.mono HYr.out.size))
      clear hb7
      refine hK.out _ _ HY7.out (fun hHeld=>?_)
      clear hK KZ
      try simp only [Act.put,List.setIfInBounds_toArray,List.set_cons_zero,List.set_cons_succ]
      refine planS [7] ?_
      repeat' (first | refine pT hHeld rfl ?_ | refine pS hHeld rfl ?_)
      refine planE ?_
      refine wpAnyH_done (by kernel_rfl) ?_ _
      have HZ:=hide (HWo.out.trans (HY7.out.mono HWo.out.size))
      go_wp2
      go_ret
      exact ⟨congrArg (fun v=>Ending.returned (.int .i64 v)) HN.out.symm,HB.out.trans (HZ.out.mono HB.out.size)⟩
     have t7:(oe != 0)=false:=by simp [h0]
     subst h0
     have HN:=hide (show opsErr E ((gL.map OpW.v).drop (j+1))=e2 from by rw [←HF.out,HSo.out,if_neg (by rw [HOE.out];simp)])
     go_wp2
     refine wp_region_held_drew (S:=(fun w'=>Below wr.heap.size wr w')) (by kernel_rfl) HYr.out (fun hHeld=>?_)
     refine planS [0,1,2,3,4,5] ?_
     repeat' (first | refine pT hHeld rfl ?_ | refine pS hHeld rfl ?_)
     refine planE ?_
     refine wpAnyH_ready (rs:=[6]) (by kernel_rfl) (by simp) ?_
     refine AllReadyH.cons rfl (fun KZ hK=>?_) AllReadyH.nil
     go_simp
     refine (HO.out _ HYr.out).mono ?_
     rintro e7 w7 ⟨rfl,hb7⟩
     have HY7:=hide (HYr.out.trans (hb7.mono HYr.out.size))
     clear hb7
     refine hK.out _ _ HY7.out (fun hHeld=>?_)
     clear hK KZ
     try simp only [Act.put,List.setIfInBounds_toArray,List.set_cons_zero,List.set_cons_succ]
     refine planS [7] ?_
     repeat' (first | refine pT hHeld rfl ?_ | refine pS hHeld rfl ?_)
     refine planE ?_
     refine wpAnyH_done (by kernel_rfl) ?_ _
     have HZ:=hide (HWo.out.trans (HY7.out.mono HWo.out.size))
     go_wp2
     go_roundw
     case rel=>exact ⟨j+1,by go_num,by omega,hide HN.out,hide HZ.out⟩
     case measure=>simp [intOf];omega
    ·
     obtain rfl:j=1:=by omega
     have z2:e2=0:=by rw [←HF.out];exact opsErr_end (by rw [List.length_map];have:gL.length=1:=HGL.out;omega)
     clear hlt hj
     generalize wr=ws at *
     have HC0:=hide z2
     have hv5:v=if mm=false then 22 else 0:=by rw [HV4.out,if_neg (by rw [z2];simp)]
     clear z2
     obtain ⟨b,o,hA,hb,hone,hc⟩:=((HR.out.up HWo.out).args).at_ HGet.out
     have hA:gA=some ⟨b,o,none⟩:=hA
     subst hA
     obtain ⟨kq,⟨lq,zA,zn,zc,zs⟩,nq⟩:=p0
     have hel:=hide fun (w':World) (y:Below ws.heap.size ws w')=>(show w'.cell? ⟨b,o,none⟩=some (.int .i64 kq)∧w'.cell? ⟨b,o+1,none⟩=some (.int .i64 lq)∧w'.cell? ⟨b,o+2,none⟩=some (.slice zA zn zc)∧w'.cell? ⟨b,o+3,none⟩=some (.int .i64 nq) from by have h0:=(y.cell (p:=⟨b,o+0*4+0,none⟩) hb).trans (hc 0 _ rfl);have h1:=(y.cell (p:=⟨b,o+0*4+1,none⟩) hb).trans (hc 1 _ rfl);have h2:=(y.cell (p:=⟨b,o+0*4+2,none⟩) hb).trans (hc 2 _ rfl);have h3:=(y.cell (p:=⟨b,o+0*4+3,none⟩) hb).trans (hc 3 _ rfl);simp only [Nat.zero_mul,Nat.add_zero] at h0 h1 h2 h3;exact ⟨h0,h1,h2,h3⟩)
     clear hc
     have HFU:=hide fun (w':World) (y:Below ws.heap.size ws w')=>RfitsKind_is (v:=mm) (HX.out.up (HWo.out.trans (y.mono HWo.out.size))) (hone.up y) (by rw [HEE.out];exact HZero.out HC0.out) (by rw [HEE.out];exact HMM.out)
     clear hone
     have HYr:=hide (Below.refl ws.heap.size ws).drew
     cases mm
     ·
      obtain rfl:v=22:=by rw [hv5];rfl
      clear hv5
      go_wp2
      refine wp_region_held_drew (S:=(fun w'=>Below ws.heap.size ws w')) (by kernel_rfl) HYr.out (fun hHeld=>?_)
      refine planS [0,1,2,3,4,5,6,7,8] ?_
      repeat' (first | refine pT hHeld rfl ?_ | refine pS hHeld rfl ?_)
      refine planE ?_
      refine wpAnyH_ready (rs:=[9]) (by kernel_rfl) (by simp) ?_
      refine AllReadyH.cons rfl (fun KZ hK=>?_) AllReadyH.nil
      go_simp
      refine (HFU.out _ HYr.out).mono ?_
      rintro e8 w8 ⟨rfl,hb8⟩
      have HY8:=hide (HYr.out.trans (hb8.mono HYr.out.size))
      clear hb8
      refine hK.out _ _ HY8.out (fun hHeld=>?_)
      clear hK KZ
      try simp only [Act.put,List.setIfInBounds_toArray,List.set_cons_zero,List.set_cons_succ]
      refine planS [10,11] ?_
      repeat' (first | refine pT hHeld rfl ?_ | refine pS hHeld rfl ?_)
      refine planE ?_
      refine wpAnyH_done (by kernel_rfl) ?_ _
      have HZ:=hide (HWo.out.trans (HY8.out.mono HWo.out.size))
      go_wp2
      go_ret
      exact ⟨rfl,HB.out.trans (HZ.out.mono HB.out.size)⟩
     ·
      obtain rfl:v=0:=by rw [hv5];rfl
      clear hv5
      go_wp2
      refine wp_region_held_drew (S:=(fun w'=>Below ws.heap.size ws w')) (by kernel_rfl) HYr.out (fun hHeld=>?_)
      refine planS [0,1,2,3,4,5,6,7,8] ?_
      repeat' (first | refine pT hHeld rfl ?_ | refine pS hHeld rfl ?_)
      refine planE ?_
      refine wpAnyH_ready (rs:=[9]) (by kernel_rfl) (by simp) ?_
      refine AllReadyH.cons rfl (fun KZ hK=>?_) AllReadyH.nil
      go_simp
      refine (HFU.out _ HYr.out).mono ?_
      rintro e8 w8 ⟨rfl,hb8⟩
      have HY8:=hide (HYr.out.trans (hb8.mono HYr.out.size))
      clear hb8
      refine hK.out _ _ HY8.out (fun hHeld=>?_)
      clear hK KZ
      try simp only [Act.put,List.setIfInBounds_toArray,List.set_cons_zero,List.set_cons_succ]
      refine planS [10,11] ?_
      repeat' (first | refine pT hHeld rfl ?_ | refine pS hHeld rfl ?_)
      refine planE ?_
      refine wpAnyH_done (by kernel_rfl) ?_ _
      have HZ:=hide (HWo.out.trans (HY8.out.mono HWo.out.size))
      obtain ⟨f0,f1,f2,f3,f4,f5,f6,g0,g1,g2,g3,g4,g5⟩:=hcx.out _ HZ.out
      go_wp2
      go_ret
      exact ⟨rfl,HB.out.trans (HZ.out.mono HB.out.size)⟩
theorem RTm_pl {x:BdW} {t:TmW} {v:Int} {w:World} (h:VB w x) (ht:OneTm w w.heap.size t) {kn c:Nat} (hk:t.kind=(kn:Int)) (hk9:kn=0∧c=1∨kn=2∧c=0∨kn=5∧c=0) (hv:tmErr (wE x) t.v=v) :
 Calls Tryz.prog 62 #[aggBd x,aggTm t] w fun e w'=>e=.returned (.int .i64 v)∧Below w.heap.size w w':=by
 have hbn:x.blocks.L.length=x.blocks.n:=h.one.blocks.len
 have hbm:=h.one.blocks.nm
 unfold maxLen at hbm
 have hsn:=ht.targets.len
 have hsm:=ht.targets.nm
 unfold maxLen at hsm
 have hgn:=ht.args.len
 have hgm:=ht.args.nm
 unfold maxLen at hgm
 have htn:=ht.name
 obtain ⟨E,hE⟩:∃ u,wE x=u:=⟨_,rfl⟩
 have hnb:E.nb=x.blocks.n:=by rw [←hE];exact hbn
 rw [hE] at hv
 have HEE:=hide hE
 have H0:=hide h
 have HXT:=hide ht
 obtain ⟨nm,⟨rA,rn,rc,rL⟩,⟨oA,on,oc,oL⟩,⟨tA,tm,tc,tL⟩,⟨lA,ln,lc,lL⟩,ar,⟨bA,bn,bc,bL⟩⟩:=x
 obtain ⟨k,⟨sA,sn,sc,sL⟩,⟨gA,gn,gc,gL⟩,⟨l,pA,pn,pc,ps⟩,tnm⟩:=t
 have hk:k=(kn:Int):=hk
 subst hk
 clear h ht hbn hE
 have hsn:sL.length=sn:=hsn
 have hsm:sn≤2 ^ 63 - 1:=hsm
 have hgn:gL.length=gn:=hgn
 have hgm:gn≤2 ^ 63 - 1:=hgm
 have hbm:bn≤2 ^ 63 - 1:=hbm
 have htn:tnm.size≤maxLen:=htn
 have HNB:=hide (show E.nb=bn from hnb)
 clear hnb
 have k3:((kn:Int) == 3)=false:=by rw [beq_eq_false_iff_ne];omega
 have k1:((kn:Int) == 1)=false:=by rw [beq_eq_false_iff_ne];omega
 have k4:((kn:Int) != 4)=true:=by rw [bne_iff_ne];omega
 have k1b:((kn:Int) != 1)=true:=by rw [bne_iff_ne];omega
 have k0:¬(kn:Int) < 0:=by omega
 have k5:¬(5:Int) < (kn:Int):=by omega
 have k6:(kn:Int) < 6:=by omega
 have n3:¬(kn:Int)=3:=by omega
 have n1:¬(kn:Int)=1:=by omega
 have n4:¬(kn:Int)=4:=by omega
 have HAR:=hide (show ([.int .i64 1,.int .i64 2,.int .i64 0,.int .i64 1,.int .i64 1,.int .i64 0]:List Value)[kn]?=some (.int .i64 (c:Int)) from by rcases hk9 with ⟨rfl,rfl⟩ | ⟨rfl,rfl⟩ | ⟨rfl,rfl⟩ <;> rfl)
 have htg:tmTgs (kn:Int)=c:=by rcases hk9 with ⟨rfl,rfl⟩ | ⟨rfl,rfl⟩ | ⟨rfl,rfl⟩ <;> rfl
 have hsh:tmSh (TmW.v ⟨(kn:Int),⟨sA,sn,sc,sL⟩,⟨gA,gn,gc,gL⟩,⟨l,pA,pn,pc,ps⟩,tnm⟩)=if sn=c∧tnm=.empty∧noP (PlW.v ⟨l,pA,pn,pc,ps⟩)=true∧gn=0 then 0 else 2:=by
  unfold tmSh
  rw [if_neg (show ¬((TmW.v ⟨(kn:Int),⟨sA,sn,sc,sL⟩,⟨gA,gn,gc,gL⟩,⟨l,pA,pn,pc,ps⟩,tnm⟩).kind < 0∨5 < (TmW.v ⟨(kn:Int),⟨sA,sn,sc,sL⟩,⟨gA,gn,gc,gL⟩,⟨l,pA,pn,pc,ps⟩,tnm⟩).kind) by show ¬((kn:Int) < 0∨5 < (kn:Int));omega)]
  have e1:(TmW.v ⟨(kn:Int),⟨sA,sn,sc,sL⟩,⟨gA,gn,gc,gL⟩,⟨l,pA,pn,pc,ps⟩,tnm⟩).targets.length=sn:=hsn
  have e2:(TmW.v ⟨(kn:Int),⟨sA,sn,sc,sL⟩,⟨gA,gn,gc,gL⟩,⟨l,pA,pn,pc,ps⟩,tnm⟩).args.length=gn:=(List.length_map _).trans hgn
  have e3:tmTgs (TmW.v ⟨(kn:Int),⟨sA,sn,sc,sL⟩,⟨gA,gn,gc,gL⟩,⟨l,pA,pn,pc,ps⟩,tnm⟩).kind=c:=htg
  rw [e1,e2,e3]
  have e4:(TmW.v ⟨(kn:Int),⟨sA,sn,sc,sL⟩,⟨gA,gn,gc,gL⟩,⟨l,pA,pn,pc,ps⟩,tnm⟩).kind=(kn:Int):=rfl
  have e5:(TmW.v ⟨(kn:Int),⟨sA,sn,sc,sL⟩,⟨gA,gn,gc,gL⟩,⟨l,pA,pn,pc,ps⟩,tnm⟩).name=tnm:=rfl
  have e6:(TmW.v ⟨(kn:Int),⟨sA,sn,sc,sL⟩,⟨gA,gn,gc,gL⟩,⟨l,pA,pn,pc,ps⟩,tnm⟩).pl=PlW.v ⟨l,pA,pn,pc,ps⟩:=rfl
  rw [e4,e5,e6]
  by_cases h1:sn=c
  case neg=>simp [h1, *]
  by_cases h2:tnm=.empty
  case neg=>simp [h1,h2, *]
  by_cases h3:noP (PlW.v ⟨l,pA,pn,pc,ps⟩)=true
  case neg=>simp [h1,h2,h3, *]
  by_cases h5:gn=0
  case neg=>simp [h1,h2,h3,h5, *]
  simp [h1,h2,h3,h5, *]
 by_cases hok:sn=c∧tnm=.empty∧noP (PlW.v ⟨l,pA,pn,pc,ps⟩)=true∧gn=0
 case neg=>
  obtain rfl:v=2:=by rw [if_neg hok] at hsh;rw [←hv,tmErr_sh,hsh];rfl
  have hf:(¬sn=c)∨(sn=c∧¬tnm=.empty)∨(sn=c∧tnm=.empty∧¬noP (PlW.v ⟨l,pA,pn,pc,ps⟩)=true)∨(sn=c∧tnm=.empty∧noP (PlW.v ⟨l,pA,pn,pc,ps⟩)=true∧¬gn=0):=by
   clear hv hsh
   by_cases h1:sn=c
   case neg=>exact .inl h1
   by_cases h2:tnm=.empty
   case neg=>exact .inr (.inl ⟨h1,h2⟩)
   by_cases h3:noP (PlW.v ⟨l,pA,pn,pc,ps⟩)=true
   case neg=>exact .inr (.inr (.inl ⟨h1,h2,h3⟩))
   by_cases h5:gn=0
   case neg=>exact .inr (.inr (.inr (⟨h1,h2,h3,h5⟩)))
   exact absurd ⟨h1,h2,h3,h5⟩ hok
  clear hv hsh hok
  rcases hf with h1 | ⟨h1,h2⟩ | ⟨h1,h2,h3⟩ | ⟨h1,h2,h3,h5⟩
  all_goals
   clear n3 n1 n4 htg hk9
   first | have q1:((sn:Int) != (c:Int))=true:=(by rw [bne_iff_ne];omega) | have q1:((sn:Int) != (c:Int))=false:=(by rw [bne_eq_false_iff_eq];omega)
   first | have q2:tnm.toList.isEmpty=true:=emptyS h2 | have q2:tnm.toList.isEmpty=false:=emptyS_not h2 | skip
   first | have HNO:Hid (noP (PlW.v ⟨l,pA,pn,pc,ps⟩)=true):=hide h3 | have HNO:Hid (noP (PlW.v ⟨l,pA,pn,pc,ps⟩)=false):=hide (by simpa using h3) | skip
   first | have q5:decide ((0:Int) < (gn:Int))=false:=decide_eq_false (by omega) | have q5:decide ((0:Int) < (gn:Int))=true:=decide_eq_true (by omega) | skip
   first | have q5n:decide (0 < gn)=false:=decide_eq_false (by omega) | have q5n:decide (0 < gn)=true:=decide_eq_true (by omega) | skip
   try clear h1
   try clear h2
   try clear h3
   try clear h5
   clear hsn hgn htn
   obtain ⟨WW,hWW,hB9,hcx9,har9⟩:=boxes76a w (.string nm) (.slice rA rn rc) (.slice oA on oc) (.slice tA tm tc) (.slice lA ln lc) (.int .i64 ar) (.slice bA bn bc) (.int .i64 (kn:Int)) (.slice sA sn sc) (.slice gA gn gc) (.int .i64 l) (.slice pA pn pc) (.string tnm) 28 60 162 [.int .i64 1,.int .i64 2,.int .i64 0,.int .i64 1,.int .i64 1,.int .i64 0]
   have HWW:=hide hWW
   have HB:=hide hB9
   have hcx:=hide hcx9
   have har:=hide fun (w':World) (y:Below WW.heap.size WW w')=>(show w'.cell? ⟨w.heap.size+1+1,kn,none⟩=some (.int .i64 (c:Int)) from har9 w' y kn _ HAR.out)
   have HX:=hide (H0.out.up HB.out)
   have HR:=hide (HXT.out.up HB.out)
   clear hWW hB9 hcx9 har9
   go_enter Tryz.func62,Tryz.ntmps62
   go_wp2
   rw [←HWW.out]
   have HD5:=hide (Below.refl WW.heap.size WW).drew
   refine wp_region_held_drew (S:=(fun w'=>Below WW.heap.size WW w')) (by kernel_rfl) HD5.out (fun hHeld=>?_)
   refine planS [0,1,2,3,4,5,6,7,8,9,10,11,12,13,14,15,16,17,18,19,20,21,22,23,24,25,26,27] ?_
   repeat' (first | refine pT hHeld rfl ?_ | refine pS hHeld rfl ?_)
   refine planE ?_
   refine wpAnyH_ready (rs:=[28]) (by kernel_rfl) (by simp) ?_
   refine AllReadyH.cons rfl (fun KZ hK=>?_) AllReadyH.nil
   first
   | (go_simp;refine (Rnone_is (x:=⟨l,pA,pn,pc,ps⟩) HNO.out _ (HR.out.pl.up HD5.out)).mono ?_;rintro e5 w5 ⟨rfl,hb5⟩;have HW5:=hide (HD5.out.trans (hb5.mono HD5.out.size));clear hb5;refine hK.out _ _ HW5.out (fun hHeld=>?_))
   | (go_simp;refine hK.out _ _ hHeld (fun hHeld=>?_))
   clear hK KZ
   try simp only [Act.put,List.setIfInBounds_toArray,List.set_cons_zero,List.set_cons_succ]
   refine planS [29,30,31,32,33,34,35,36,37,38,39,40,41,42,43,44,45,46,47,48,49,50,51,52,53,54,55,56,57] ?_
   repeat' (first | refine pT hHeld rfl ?_ | refine pS hHeld rfl ?_)
   refine planE ?_
   refine wpAnyH_done (by kernel_rfl) ?_ _
   go_wp2
   go_ret
   first | exact ⟨rfl,HB.out.trans (HW5.out.mono HB.out.size)⟩ | exact ⟨rfl,HB.out.trans (HD5.out.mono HB.out.size)⟩
 obtain ⟨h1,h2,h3,h5⟩:=hok
 have hsh:tmSh (TmW.v ⟨(kn:Int),⟨sA,sn,sc,sL⟩,⟨gA,gn,gc,gL⟩,⟨l,pA,pn,pc,ps⟩,tnm⟩)=0:=by rw [hsh];exact if_pos ⟨h1,h2,h3,h5⟩
 have q1:((sn:Int) != (c:Int))=false:=by rw [bne_eq_false_iff_eq];omega
 have q2:tnm.toList.isEmpty=true:=emptyS h2
 have HNO:=hide h3
 have q5:decide ((0:Int) < (gn:Int))=false:=decide_eq_false (by omega)
 have q5n:decide (0 < gn)=false:=decide_eq_false (by omega)
 obtain ⟨e1,he1⟩:∃ u,tgErr E sL=u:=⟨_,rfl⟩
 obtain ⟨e2,he2⟩:∃ u,opsErr E (gL.map OpW.v)=u:=⟨_,rfl⟩
 have hv9:(if e1≠0 then e1 else e2)=v:=by
  rw [←hv,tmErr_sh,if_neg (show ¬tmSh (TmW.v ⟨(kn:Int),⟨sA,sn,sc,sL⟩,⟨gA,gn,gc,gL⟩,⟨l,pA,pn,pc,ps⟩,tnm⟩)≠0 by rw [hsh];simp)]
  have g1:tgErr E (TmW.v ⟨(kn:Int),⟨sA,sn,sc,sL⟩,⟨gA,gn,gc,gL⟩,⟨l,pA,pn,pc,ps⟩,tnm⟩).targets=e1:=he1
  have g2:opsErr E (TmW.v ⟨(kn:Int),⟨sA,sn,sc,sL⟩,⟨gA,gn,gc,gL⟩,⟨l,pA,pn,pc,ps⟩,tnm⟩).args=e2:=he2
  rw [g1,g2]
  by_cases z1:e1=0
  case neg=>rw [if_pos (show e1≠0 from z1),if_pos (show e1≠0 from z1)]
  rw [if_neg (show ¬e1≠0 by omega),if_neg (show ¬e1≠0 by omega)]
  have g7:(TmW.v ⟨(kn:Int),⟨sA,sn,sc,sL⟩,⟨gA,gn,gc,gL⟩,⟨l,pA,pn,pc,ps⟩,tnm⟩).kind=(kn:Int):=rfl
  have g3:(TmW.v ⟨(kn:Int),⟨sA,sn,sc,sL⟩,⟨gA,gn,gc,gL⟩,⟨l,pA,pn,pc,ps⟩,tnm⟩).args=[]:=by show gL.map OpW.v=[];rw [List.length_eq_zero_iff.1 (hgn.trans h5)];rfl
  have g8:e2=0:=by rw [←g2,g3];rfl
  rw [g3,g7,g8]
  simp [*]
 have HV:=hide hv9
 have HE1:=hide he1
 have HE2:=hide he2
 have HSL:=hide hsn
 have HGL:=hide hgn
 have HTN:=hide htn
 have HG0:=hide h5
 obtain ⟨WW,hWW,hB9,hcx9,har9⟩:=boxes76a w (.string nm) (.slice rA rn rc) (.slice oA on oc) (.slice tA tm tc) (.slice lA ln lc) (.int .i64 ar) (.slice bA bn bc) (.int .i64 (kn:Int)) (.slice sA sn sc) (.slice gA gn gc) (.int .i64 l) (.slice pA pn pc) (.string tnm) 28 60 162 [.int .i64 1,.int .i64 2,.int .i64 0,.int .i64 1,.int .i64 1,.int .i64 0]
 clear n3 n1 n4 htg hk9 hsn hgn htn hv hv9 he1 he2 hsh h1 h2 h3 h5
 have HWW:=hide hWW
 clear hWW
 have HB:=hide hB9
 clear hB9
 have hcx:=hide hcx9
 clear hcx9
 have har:=hide fun (w':World) (y:Below WW.heap.size WW w')=>(show w'.cell? ⟨w.heap.size+1+1,kn,none⟩=some (.int .i64 (c:Int)) from har9 w' y kn _ HAR.out)
 clear har9
 have HX:=hide (H0.out.up HB.out)
 have HR:=hide (HXT.out.up HB.out)
 go_enter Tryz.func62,Tryz.ntmps62
 go_wp2
 rw [←HWW.out]
 have HD5:=hide (Below.refl WW.heap.size WW).drew
 refine wp_region_held_drew (S:=(fun w'=>Below WW.heap.size WW w')) (by kernel_rfl) HD5.out (fun hHeld=>?_)
 refine planS [0,1,2,3,4,5,6,7,8,9,10,11,12,13,14,15,16,17,18,19,20,21,22,23,24,25,26,27] ?_
 repeat' (first | refine pT hHeld rfl ?_ | refine pS hHeld rfl ?_)
 refine planE ?_
 refine wpAnyH_ready (rs:=[28]) (by kernel_rfl) (by simp) ?_
 refine AllReadyH.cons rfl (fun KZ hK=>?_) AllReadyH.nil
 go_simp
 refine (Rnone_is (x:=⟨l,pA,pn,pc,ps⟩) HNO.out _ (HR.out.pl.up HD5.out)).mono ?_
 rintro e5 w5 ⟨rfl,hb5⟩
 have HW5:=hide (HD5.out.trans (hb5.mono HD5.out.size))
 clear hb5
 refine hK.out _ _ HW5.out (fun hHeld=>?_)
 clear hK KZ
 try simp only [Act.put,List.setIfInBounds_toArray,List.set_cons_zero,List.set_cons_succ]
 refine planS [29,30,31,32,33,34,35,36,37,38,39,40,41,42,43,44,45,46,47,48,49,50,51,52,53,54,55,56,57] ?_
 repeat' (first | refine pT hHeld rfl ?_ | refine pS hHeld rfl ?_)
 refine planE ?_
 refine wpAnyH_done (by kernel_rfl) ?_ _
 obtain ⟨b0,b1,b2,b3,b4,b5,b6,o0,o1,o2,o3,o4,o5⟩:=hcx.out _ HW5.out
 go_wp2
 clear b0 b1 b2 b3 b4 b5 b6 o0 o1 o2 o3 o4 o5
 go_loopw [7] (fun i wr=>∃ j:Nat,i=.int .i64 (j:Int)∧j≤sn∧Hid (tgErr E (sL.drop j)=e1)∧Hid (Below WW.heap.size WW wr)) (fun i _=>sn - (intOf i).toNat)
 case atStart=>exact ⟨0,rfl,Nat.zero_le _,hide HE1.out,hide HW5.out⟩
 case round=>
  obtain ⟨j,rfl,hj,HE,HWl⟩:=hrel
  obtain ⟨b0,b1,b2,b3,b4,b5,b6,o0,o1,o2,o3,o4,o5⟩:=hcx.out _ HWl.out
  by_cases hlt:j < sn
  ·
   exact ValG2z0
  ·
   obtain rfl:sn=j:=by omega
   have z1:e1=0:=by rw [←HE.out];exact tgErr_end (by have:sL.length=sn:=HSL.out;omega)
   have HV2:=hide (show v=(e2) from by have h9:=HV.out;rw [if_neg (by rw [z1];simp)] at h9;exact h9.symm)
   clear z1 hlt hj
   generalize wr=wq at *
   have q8i:¬(65535:Int) < (gn:Int):=by have:=HG0.out;omega
   have HV4:=hide HV2.out
   go_wp2
   clear b0 b1 b2 b3 b4 b5 b6 o0 o1 o2 o3 o4 o5
   go_loopw [8] (fun i wr=>∃ j:Nat,i=.int .i64 (j:Int)∧j≤gn∧Hid (opsErr E ((gL.map OpW.v).drop j)=e2)∧Hid (Below WW.heap.size WW wr)) (fun i _=>gn - (intOf i).toNat)
   case atStart=>exact ⟨0,rfl,Nat.zero_le _,hide HE2.out,hide HWl.out⟩
   case round=>
    obtain ⟨j,rfl,hj,HF,HWo⟩:=hrel
    obtain ⟨b0,b1,b2,b3,b4,b5,b6,o0,o1,o2,o3,o4,o5⟩:=hcx.out _ HWo.out
    by_cases hlt:j < gn
    ·
     exfalso;have h9:=HG0.out;omega
    ·
     obtain rfl:gn=j:=by omega
     have z2:e2=0:=by rw [←HF.out];exact opsErr_end (by rw [List.length_map];have:gL.length=gn:=HGL.out;omega)
     clear hlt hj
     generalize wr=ws at *
     have HYr:=hide (HWo.out.drew)
     obtain rfl:v=0:=HV4.out.trans z2
     clear z2
     go_wp2
     refine wp_region_held_drew (S:=(fun w'=>Below WW.heap.size WW w')) (by kernel_rfl) HYr.out (fun hHeld=>?_)
     refine planS [0,1,2,3,4,5,6,7,8] ?_
     repeat' (first | refine pT hHeld rfl ?_ | refine pS hHeld rfl ?_)
     refine planE ?_
     refine wpAnyH_ready (rs:=[9]) (by kernel_rfl) (by simp) ?_
     refine AllReadyH.cons rfl (fun KZ hK=>?_) AllReadyH.nil
     go_simp
     refine hK.out _ _ hHeld (fun hHeld=>?_)
     clear hK KZ
     try simp only [Act.put,List.setIfInBounds_toArray,List.set_cons_zero,List.set_cons_succ]
     refine planS [10,11] ?_
     repeat' (first | refine pT hHeld rfl ?_ | refine pS hHeld rfl ?_)
     refine planE ?_
     refine wpAnyH_done (by kernel_rfl) ?_ _
     clear b0 b1 b2 b3 b4 b5 b6 o0 o1 o2 o3 o4 o5
     obtain ⟨b0,b1,b2,b3,b4,b5,b6,o0,o1,o2,o3,o4,o5⟩:=hcx.out _ HYr.out
     go_wp2
     go_ret
     exact ⟨rfl,HB.out.trans (HYr.out.mono HB.out.size)⟩
theorem RTerm_is {x:BdW}:RTmP x:=fun t v w h ht hv=>by
 by_cases hk:0≤t.kind∧t.kind≤5
 ·
  have hk6:t.kind=0∨t.kind=1∨t.kind=2∨t.kind=3∨t.kind=4∨t.kind=5:=by omega
  rcases hk6 with hk | hk | hk | hk | hk | hk
  ·
   exact RTm_pl (kn:=0) (c:=1) h ht hk (by omega) hv
  ·
   exact RTm_1 h ht hk hv
  ·
   exact RTm_pl (kn:=2) (c:=0) h ht hk (by omega) hv
  ·
   exact RTm_3 h ht hk hv
  ·
   exact RTm_4 h ht hk hv
  ·
   exact RTm_pl (kn:=5) (c:=0) h ht hk (by omega) hv
 ·
  exact RTm_out h ht (by omega) hv
end Go.Proofs.YteeemjmohjkdpaaGreatDoor
