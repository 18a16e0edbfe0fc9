/- Part 40 of the contracts and their mathematics. -/
import Derived.Test.YtfgacmgjpikgaaaGreatDoorQ37
import Derived.Test.YtfgacmgjpikgaaaGreatDoorQ38
set_option linter.unusedVariables false
set_option linter.unusedSimpArgs false
set_option maxRecDepth 100000
set_option maxHeartbeats 8000000
namespace Go.Proofs.YtfgacmgjpikgaaaGreatDoor
open Go.RowKit
theorem RCheck_of {x:BdW} {v:Int} {w:World} (hD:∀ w',Below w.heap.size w w'→Calls Tryz.prog 13 #[aggBd x] w' fun e w''=>e=.returned (.int .i64 (deErr x.v))∧Below w'.heap.size w' w'')
  (hS:RStP x) (hT:RTmP x) (h:OneBd w w.heap.size x) (hv:bdErr x.v=v) :
  Calls Tryz.prog 12 #[aggBd x] w fun e w'=>e=.returned (.int .i64 v)∧Below w.heap.size w w':=by
 obtain ⟨de,hde⟩:∃ z,deErr x.v=z:=⟨_,rfl⟩
 rw [hde] at hD
 have hE:=wE_v x
 have hbl:x.blocks.L.length=x.blocks.n:=h.blocks.len
 have hbm:x.blocks.n≤maxLen:=h.blocks.nm
 unfold maxLen at hbm
 have hv9:(if de≠0 then de else bksErr (wE x) (x.blocks.L.map BkW.v))=v:=by
  rw [←hv,← hde,← hE]
  rfl
 have hvb:de=0→DeOk x.v:=fun e=>deErr_ok (hde.trans e)
 obtain ⟨nm,⟨rA,rn,rc,rL⟩,⟨oA,on,oc,oL⟩,⟨tA,tm,tc,tL⟩,⟨lA,ln,lc,lL⟩,ar,⟨bA,bn,bc,bL⟩⟩:=x
 have hbl:bL.length=bn:=hbl
 have hbm:bn≤2 ^ 63 - 1:=hbm
 have HB:=hide (below1 w (.cells #[.string nm,.slice rA rn rc,.slice oA on oc,.slice tA tm tc,.slice lA ln lc,.int .i64 ar,.slice bA bn bc] 28))
 have HX:=hide (h.up HB.out)
 have HC:=hide (hD _ HB.out)
 have HS:=hide hS
 have HT:=hide hT
 have hcs:=hide fun (w':World) (q:Below (w.alloc (.cells #[.string nm,.slice rA rn rc,.slice oA on oc,.slice tA tm tc,.slice lA ln lc,.int .i64 ar,.slice bA bn bc] 28)).heap.size (w.alloc (.cells #[.string nm,.slice rA rn rc,.slice oA on oc,.slice tA tm tc,.slice lA ln lc,.int .i64 ar,.slice bA bn bc] 28)) w')=>one_cells (cs:=[.string nm,.slice rA rn rc,.slice oA on oc,.slice tA tm tc,.slice lA ln lc,.int .i64 ar,.slice bA bn bc]) q
 clear h hv hE hD hde hS hT
 by_cases hd:de=0
 case neg=>
  have t0:(de != 0)=true:=by simp [hd]
  rw [if_pos hd] at hv9
  obtain rfl:de=v:=hv9
  clear hd hvb hbl
  go_enter Tryz.func12,Tryz.ntmps12
  go_wp2_with fail
  refine HC.out.mono ?_
  rintro e1 w1 ⟨rfl,hb1⟩
  have HW1:=hide (HB.out.trans (hb1.mono HB.out.size))
  clear hb1
  go_wp2
  go_ret
  exact ⟨rfl,HW1.out⟩
 subst hd
 rw [if_neg (by simp)] at hv9
 have HOK:=hide (hvb rfl)
 have HV:=hide hv9
 have HLen:=hide hbl
 clear hv9 hvb hbl
 go_enter Tryz.func12,Tryz.ntmps12
 go_wp2_with fail
 refine HC.out.mono ?_
 rintro e1 w1 ⟨rfl,hb1⟩
 have HW1:=hide hb1
 clear hb1
 have c1_6:=hcs.out w1 HW1.out 6 (.slice bA bn bc) rfl
 go_wp2
 go_loopw [4] (fun i wr=>∃ j:Nat,i=.int .i64 (j:Int)∧j≤bn∧Hid (bksErr (wE ⟨nm,⟨rA,rn,rc,rL⟩,⟨oA,on,oc,oL⟩,⟨tA,tm,tc,tL⟩,⟨lA,ln,lc,lL⟩,ar,⟨bA,bn,bc,bL⟩⟩) ((bL.map BkW.v).drop j)=v)∧Hid (Below (w.alloc (.cells #[.string nm,.slice rA rn rc,.slice oA on oc,.slice tA tm tc,.slice lA ln lc,.int .i64 ar,.slice bA bn bc] 28)).heap.size (w.alloc (.cells #[.string nm,.slice rA rn rc,.slice oA on oc,.slice tA tm tc,.slice lA ln lc,.int .i64 ar,.slice bA bn bc] 28)) wr)) (fun i _=>bn - (intOf i).toNat)
 case atStart=>exact ⟨0,rfl,Nat.zero_le _,hide HV.out,hide HW1.out⟩
 case round=>
  obtain ⟨j,rfl,hj,HE,HW⟩:=hrel
  clear c1_6
  generalize wr=wq at *
  have d6:=hcs.out wq HW.out 6 (.slice bA bn bc) rfl
  by_cases hlt:j < bn
  ·
   have hlt':(j:Int) < (bn:Int):=by omega
   obtain ⟨p,hp⟩:∃ p,bL[j]?=some p:=⟨_,List.getElem?_eq_getElem (by have:bL.length=bn:=HLen.out;omega)⟩
   have hpv:(bL.map BkW.v)[j]?=some p.v:=by rw [List.getElem?_map,hp];rfl
   have hax:=(HX.out.up HW.out).blocks
   obtain ⟨b,o,hA,_,hone,hc⟩:=hax.at_ hp
   have hA:bA=some ⟨b,o,none⟩:=hA
   subst hA
   obtain ⟨⟨sA,sn,sc,sL⟩,⟨k,⟨xA,xn,xc,xL⟩,⟨gA,gn,gc,gL⟩,⟨l,pA,pn,pc,ps⟩,tn⟩⟩:=p
   have c0:wq.cell? ⟨b,o+j*7,none⟩=some (.slice sA sn sc):=hc 0 _ rfl
   have c1:wq.cell? ⟨b,o+j*7+1,none⟩=some (.int .i64 k):=hc 1 _ rfl
   have c2:wq.cell? ⟨b,o+j*7+2,none⟩=some (.slice xA xn xc):=hc 2 _ rfl
   have c3:wq.cell? ⟨b,o+j*7+3,none⟩=some (.slice gA gn gc):=hc 3 _ rfl
   have c4:wq.cell? ⟨b,o+j*7+4,none⟩=some (.int .i64 l):=hc 4 _ rfl
   have c5:wq.cell? ⟨b,o+j*7+5,none⟩=some (.slice pA pn pc):=hc 5 _ rfl
   have c6:wq.cell? ⟨b,o+j*7+6,none⟩=some (.string tn):=hc 6 _ rfl
   have hWB:=(Below.refl wq.heap.size wq).alloc (Nat.le_refl _) (.cells #[.slice sA sn sc,.int .i64 k,.slice xA xn xc,.slice gA gn gc,.int .i64 l,.slice pA pn pc,.string tn] 52)
   have HWB:=hide hWB
   have HW2:=hide (HW.out.trans (hWB.mono HW.out.size))
   have HO:=hide (hone.up hWB)
   have HSb:=hide (bksErr_at (E:=wE ⟨nm,⟨rA,rn,rc,rL⟩,⟨oA,on,oc,oL⟩,⟨tA,tm,tc,tL⟩,⟨lA,ln,lc,lL⟩,ar,⟨some ⟨b,o,none⟩,bn,bc,bL⟩⟩) hpv)
   obtain ⟨c,hcv⟩:∃ c,bkErr (wE ⟨nm,⟨rA,rn,rc,rL⟩,⟨oA,on,oc,oL⟩,⟨tA,tm,tc,tL⟩,⟨lA,ln,lc,lL⟩,ar,⟨some ⟨b,o,none⟩,bn,bc,bL⟩⟩) (BkW.v ⟨⟨sA,sn,sc,sL⟩,⟨k,⟨xA,xn,xc,xL⟩,⟨gA,gn,gc,gL⟩,⟨l,pA,pn,pc,ps⟩,tn⟩⟩)=c:=⟨_,rfl⟩
   have HCV:=hide hcv
   have hsl:sL.length=sn:=hone.stmts.len
   have hsm:sn≤maxLen:=hone.stmts.nm
   unfold maxLen at hsm
   have HSL:=hide hsl
   obtain ⟨er,her⟩:∃ u,stsErr (wE ⟨nm,⟨rA,rn,rc,rL⟩,⟨oA,on,oc,oL⟩,⟨tA,tm,tc,tL⟩,⟨lA,ln,lc,lL⟩,ar,⟨some ⟨b,o,none⟩,bn,bc,bL⟩⟩) (sL.map StW.v)=u:=⟨_,rfl⟩
   have HEr:=hide her
   have hc9:(if 65535 < sn then (15:Int) else if er≠0 then er else tmErr (wE ⟨nm,⟨rA,rn,rc,rL⟩,⟨oA,on,oc,oL⟩,⟨tA,tm,tc,tL⟩,⟨lA,ln,lc,lL⟩,ar,⟨some ⟨b,o,none⟩,bn,bc,bL⟩⟩) (TmW.v ⟨k,⟨xA,xn,xc,xL⟩,⟨gA,gn,gc,gL⟩,⟨l,pA,pn,pc,ps⟩,tn⟩))=c:=by
    rw [←hcv,← her,← hsl,← List.length_map (f:=StW.v)]
    rfl
   have hbx:=hide fun (w':World) (q:Below (wq.alloc (.cells #[.slice sA sn sc,.int .i64 k,.slice xA xn xc,.slice gA gn gc,.int .i64 l,.slice pA pn pc,.string tn] 52)).heap.size (wq.alloc (.cells #[.slice sA sn sc,.int .i64 k,.slice xA xn xc,.slice gA gn gc,.int .i64 l,.slice pA pn pc,.string tn] 52)) w')=>one_cells (w:=wq) (cs:=[.slice sA sn sc,.int .i64 k,.slice xA xn xc,.slice gA gn gc,.int .i64 l,.slice pA pn pc,.string tn]) q
   have e6:=hcs.out _ HW2.out 6 (.slice (some ⟨b,o,none⟩) bn bc) rfl
   clear hp hpv hax hone hc hWB hcv her hsl
   have hvc:c≠0→v=c:=fun h0=>by rw [←HE.out,HSb.out,HCV.out,if_pos h0]
   by_cases hb:65535 < sn
   case pos=>
    have tb:(65535:Int) < (sn:Int):=by omega
    obtain rfl:c=15:=by rw [←hc9,if_pos hb]
    have HVc:=hide (hvc (by decide))
    clear hb hc9 hvc
    go_wp2
    go_ret
    exact ⟨congrArg (fun v=>Ending.returned (.int .i64 v)) HVc.out.symm,HB.out.trans (HW2.out.mono HB.out.size)⟩
   have tb:(sn:Int)≤65535:=by omega
   rw [if_neg hb] at hc9
   have HC9:=hide hc9
   have HVC:=hide hvc
   clear hb hc9 hvc
   go_wp2
   go_loopw [6] (fun i wr=>∃ q:Nat,i=.int .i64 (q:Int)∧q≤sn∧Hid (stsErr (wE ⟨nm,⟨rA,rn,rc,rL⟩,⟨oA,on,oc,oL⟩,⟨tA,tm,tc,tL⟩,⟨lA,ln,lc,lL⟩,ar,⟨some ⟨b,o,none⟩,bn,bc,bL⟩⟩) ((sL.map StW.v).drop q)=er)∧Hid (Below (wq.alloc (.cells #[.slice sA sn sc,.int .i64 k,.slice xA xn xc,.slice gA gn gc,.int .i64 l,.slice pA pn pc,.string tn] 52)).heap.size (wq.alloc (.cells #[.slice sA sn sc,.int .i64 k,.slice xA xn xc,.slice gA gn gc,.int .i64 l,.slice pA pn pc,.string tn] 52)) wr)) (fun i _=>sn - (intOf i).toNat)
   case atStart=>exact ⟨0,rfl,Nat.zero_le _,hide HEr.out,hide (Below.refl _ _)⟩
   case round=>
    obtain ⟨q,rfl,hq,HQ,HY⟩:=hrel
    have HYa:=hide (HW2.out.trans (HY.out.mono HW2.out.size))
    clear e6
    have f0:=hbx.out wr HY.out 0 (.slice sA sn sc) rfl
    have f1:=hbx.out wr HY.out 1 (.int .i64 k) rfl
    have f2:=hbx.out wr HY.out 2 (.slice xA xn xc) rfl
    have f3:=hbx.out wr HY.out 3 (.slice gA gn gc) rfl
    have f4:=hbx.out wr HY.out 4 (.int .i64 l) rfl
    have f5:=hbx.out wr HY.out 5 (.slice pA pn pc) rfl
    have f6:=hbx.out wr HY.out 6 (.string tn) rfl
    have g0:=hcs.out wr HYa.out 0 (.string nm) rfl
    have g1:=hcs.out wr HYa.out 1 (.slice rA rn rc) rfl
    have g2:=hcs.out wr HYa.out 2 (.slice oA on oc) rfl
    have g3:=hcs.out wr HYa.out 3 (.slice tA tm tc) rfl
    have g4:=hcs.out wr HYa.out 4 (.slice lA ln lc) rfl
    have g5:=hcs.out wr HYa.out 5 (.int .i64 ar) rfl
    have g6:=hcs.out wr HYa.out 6 (.slice (some ⟨b,o,none⟩) bn bc) rfl
    by_cases hlq:q < sn
    ·
     have hlq':(q:Int) < (sn:Int):=by omega
     obtain ⟨p,hp⟩:∃ p,sL[q]?=some p:=⟨_,List.getElem?_eq_getElem (by have:sL.length=sn:=HSL.out;omega)⟩
     have hpv:(sL.map StW.v)[q]?=some p.v:=by rw [List.getElem?_map,hp];rfl
     have hax:=(HO.out.up HY.out).stmts
     obtain ⟨b2,o2,hA2,hb2,hone,hc⟩:=hax.at_ hp
     have hA2:sA=some ⟨b2,o2,none⟩:=hA2
     subst hA2
     obtain ⟨kq,⟨ql,qA,qn,qc,qs⟩,⟨rk,op,rg,mu,⟨rl,zA,zn,zc,zs⟩,⟨aA,an,ac,aL⟩⟩,lo⟩:=p
     have s0:wr.cell? ⟨b2,o2+q*11,none⟩=some (.int .i64 kq):=hc 0 _ rfl
     have s1:wr.cell? ⟨b2,o2+q*11+1,none⟩=some (.int .i64 ql):=hc 1 _ rfl
     have s2:wr.cell? ⟨b2,o2+q*11+2,none⟩=some (.slice qA qn qc):=hc 2 _ rfl
     have s3:wr.cell? ⟨b2,o2+q*11+3,none⟩=some (.int .i64 rk):=hc 3 _ rfl
     have s4:wr.cell? ⟨b2,o2+q*11+4,none⟩=some (.int .i64 op):=hc 4 _ rfl
     have s5:wr.cell? ⟨b2,o2+q*11+5,none⟩=some (.int .i64 rg):=hc 5 _ rfl
     have s6:wr.cell? ⟨b2,o2+q*11+6,none⟩=some (.bool mu):=hc 6 _ rfl
     have s7:wr.cell? ⟨b2,o2+q*11+7,none⟩=some (.int .i64 rl):=hc 7 _ rfl
     have s8:wr.cell? ⟨b2,o2+q*11+8,none⟩=some (.slice zA zn zc):=hc 8 _ rfl
     have s9:wr.cell? ⟨b2,o2+q*11+9,none⟩=some (.slice aA an ac):=hc 9 _ rfl
     have s10:wr.cell? ⟨b2,o2+q*11+10,none⟩=some (.int .i64 lo):=hc 10 _ rfl
     have HSs:=hide (stsErr_at (E:=wE ⟨nm,⟨rA,rn,rc,rL⟩,⟨oA,on,oc,oL⟩,⟨tA,tm,tc,tL⟩,⟨lA,ln,lc,lL⟩,ar,⟨some ⟨b,o,none⟩,bn,bc,bL⟩⟩) hpv)
     obtain ⟨z,hz⟩:∃ z,stErr (wE ⟨nm,⟨rA,rn,rc,rL⟩,⟨oA,on,oc,oL⟩,⟨tA,tm,tc,tL⟩,⟨lA,ln,lc,lL⟩,ar,⟨some ⟨b,o,none⟩,bn,bc,bL⟩⟩) (StW.v ⟨kq,⟨ql,qA,qn,qc,qs⟩,⟨rk,op,rg,mu,⟨rl,zA,zn,zc,zs⟩,⟨aA,an,ac,aL⟩⟩,lo⟩)=z:=⟨_,rfl⟩
     have HZ:=hide hz
     have hst:=hide fun (w':World) (y:Below wr.heap.size wr w')=>(show w'.cell? ⟨w.heap.size,0,none⟩=some (.string nm)∧w'.cell? ⟨w.heap.size,1,none⟩=some (.slice rA rn rc)∧w'.cell? ⟨w.heap.size,2,none⟩=some (.slice oA on oc)∧w'.cell? ⟨w.heap.size,3,none⟩=some (.slice tA tm tc)∧w'.cell? ⟨w.heap.size,4,none⟩=some (.slice lA ln lc)∧w'.cell? ⟨w.heap.size,5,none⟩=some (.int .i64 ar)∧w'.cell? ⟨w.heap.size,6,none⟩=some (.slice (some ⟨b,o,none⟩) bn bc)∧w'.cell? ⟨wq.heap.size,0,none⟩=some (.slice (some ⟨b2,o2,none⟩) sn sc)∧w'.cell? ⟨b2,o2+q*11,none⟩=some (.int .i64 kq)∧w'.cell? ⟨b2,o2+q*11+1,none⟩=some (.int .i64 ql)∧w'.cell? ⟨b2,o2+q*11+2,none⟩=some (.slice qA qn qc)∧w'.cell? ⟨b2,o2+q*11+3,none⟩=some (.int .i64 rk)∧w'.cell? ⟨b2,o2+q*11+4,none⟩=some (.int .i64 op)∧w'.cell? ⟨b2,o2+q*11+5,none⟩=some (.int .i64 rg)∧w'.cell? ⟨b2,o2+q*11+6,none⟩=some (.bool mu)∧w'.cell? ⟨b2,o2+q*11+7,none⟩=some (.int .i64 rl)∧w'.cell? ⟨b2,o2+q*11+8,none⟩=some (.slice zA zn zc)∧w'.cell? ⟨b2,o2+q*11+9,none⟩=some (.slice aA an ac)∧w'.cell? ⟨b2,o2+q*11+10,none⟩=some (.int .i64 lo) from ⟨hcs.out _ (HYa.out.trans (y.mono HYa.out.size)) 0 _ rfl,hcs.out _ (HYa.out.trans (y.mono HYa.out.size)) 1 _ rfl,hcs.out _ (HYa.out.trans (y.mono HYa.out.size)) 2 _ rfl,hcs.out _ (HYa.out.trans (y.mono HYa.out.size)) 3 _ rfl,hcs.out _ (HYa.out.trans (y.mono HYa.out.size)) 4 _ rfl,hcs.out _ (HYa.out.trans (y.mono HYa.out.size)) 5 _ rfl,hcs.out _ (HYa.out.trans (y.mono HYa.out.size)) 6 _ rfl,hbx.out _ (HY.out.trans (y.mono HY.out.size)) 0 _ rfl,(y.cell (p:=⟨b2,o2+q*11,none⟩) hb2).trans s0,(y.cell (p:=⟨b2,o2+q*11+1,none⟩) hb2).trans s1,(y.cell (p:=⟨b2,o2+q*11+2,none⟩) hb2).trans s2,(y.cell (p:=⟨b2,o2+q*11+3,none⟩) hb2).trans s3,(y.cell (p:=⟨b2,o2+q*11+4,none⟩) hb2).trans s4,(y.cell (p:=⟨b2,o2+q*11+5,none⟩) hb2).trans s5,(y.cell (p:=⟨b2,o2+q*11+6,none⟩) hb2).trans s6,(y.cell (p:=⟨b2,o2+q*11+7,none⟩) hb2).trans s7,(y.cell (p:=⟨b2,o2+q*11+8,none⟩) hb2).trans s8,(y.cell (p:=⟨b2,o2+q*11+9,none⟩) hb2).trans s9,(y.cell (p:=⟨b2,o2+q*11+10,none⟩) hb2).trans s10⟩)
     have HSt:=hide fun (w':World) (y:Below wr.heap.size wr w')=>HS.out _ z w' ⟨HX.out.up (HYa.out.trans (y.mono HYa.out.size)),HOK.out⟩ (hone.up y) hz
     clear hp hpv hax hc hz hb2
     by_cases h0:z=0
     ·
      subst h0
      have HN:=hide (show stsErr (wE ⟨nm,⟨rA,rn,rc,rL⟩,⟨oA,on,oc,oL⟩,⟨tA,tm,tc,tL⟩,⟨lA,ln,lc,lL⟩,ar,⟨some ⟨b,o,none⟩,bn,bc,bL⟩⟩) ((sL.map StW.v).drop (q+1))=er from by rw [←HQ.out,HSs.out,if_neg (by rw [HZ.out];simp)])
      go_wp2
      have HU:=hide ((Below.refl wr.heap.size wr).drew)
      refine wp_region_held_drew (S:=(fun w'=>w'.cell? ⟨w.heap.size,0,none⟩=some (.string nm)∧w'.cell? ⟨w.heap.size,1,none⟩=some (.slice rA rn rc)∧w'.cell? ⟨w.heap.size,2,none⟩=some (.slice oA on oc)∧w'.cell? ⟨w.heap.size,3,none⟩=some (.slice tA tm tc)∧w'.cell? ⟨w.heap.size,4,none⟩=some (.slice lA ln lc)∧w'.cell? ⟨w.heap.size,5,none⟩=some (.int .i64 ar)∧w'.cell? ⟨w.heap.size,6,none⟩=some (.slice (some ⟨b,o,none⟩) bn bc)∧w'.cell? ⟨wq.heap.size,0,none⟩=some (.slice (some ⟨b2,o2,none⟩) sn sc)∧w'.cell? ⟨b2,o2+q*11,none⟩=some (.int .i64 kq)∧w'.cell? ⟨b2,o2+q*11+1,none⟩=some (.int .i64 ql)∧w'.cell? ⟨b2,o2+q*11+2,none⟩=some (.slice qA qn qc)∧w'.cell? ⟨b2,o2+q*11+3,none⟩=some (.int .i64 rk)∧w'.cell? ⟨b2,o2+q*11+4,none⟩=some (.int .i64 op)∧w'.cell? ⟨b2,o2+q*11+5,none⟩=some (.int .i64 rg)∧w'.cell? ⟨b2,o2+q*11+6,none⟩=some (.bool mu)∧w'.cell? ⟨b2,o2+q*11+7,none⟩=some (.int .i64 rl)∧w'.cell? ⟨b2,o2+q*11+8,none⟩=some (.slice zA zn zc)∧w'.cell? ⟨b2,o2+q*11+9,none⟩=some (.slice aA an ac)∧w'.cell? ⟨b2,o2+q*11+10,none⟩=some (.int .i64 lo))) (by kernel_rfl) (hst.out _ HU.out) (fun hHeld=>?_)
      refine planS [0,1,2,3,4,5] ?_
      repeat' (first | refine pT hHeld rfl ?_ | refine pS hHeld rfl ?_)
      refine planE ?_
      refine wpAnyH_ready (rs:=[6]) (by kernel_rfl) (by simp) ?_
      refine AllReadyH.cons rfl (fun KZ hK=>?_) AllReadyH.nil
      go_simp
      refine (HSt.out _ HU.out).mono ?_
      rintro e7 w7 ⟨rfl,hb7⟩
      have HU7:=hide (HU.out.trans (hb7.mono HU.out.size))
      clear hb7
      refine hK.out _ _ (hst.out _ HU7.out) (fun hHeld=>?_)
      clear hK KZ
      try simp only [Act.put,List.setIfInBounds_toArray,List.set_cons_zero,List.set_cons_succ]
      refine planS [7] ?_
      repeat' (first | refine pT hHeld rfl ?_ | refine pS hHeld rfl ?_)
      refine planE ?_
      refine wpAnyH_done (by kernel_rfl) ?_ _
      have HZ7:=hide (HY.out.trans (HU7.out.mono HY.out.size))
      go_wp2
      go_roundw
      case rel=>exact ⟨q+1,by go_num,by omega,hide HN.out,hide HZ7.out⟩
      case measure=>simp [intOf];omega
     ·
      have t0:(z != 0)=true:=by simp [h0]
      have e1:er=z:=by rw [←HQ.out,HSs.out,HZ.out,if_pos h0]
      have e2:c=z:=by rw [←HC9.out,e1,if_pos h0]
      have HVz:=hide (show v=z from by rw [HVC.out (by rw [e2];exact h0),e2])
      clear e1 e2
      clear h0
      go_wp2
      have HU:=hide ((Below.refl wr.heap.size wr).drew)
      refine wp_region_held_drew (S:=(fun w'=>w'.cell? ⟨w.heap.size,0,none⟩=some (.string nm)∧w'.cell? ⟨w.heap.size,1,none⟩=some (.slice rA rn rc)∧w'.cell? ⟨w.heap.size,2,none⟩=some (.slice oA on oc)∧w'.cell? ⟨w.heap.size,3,none⟩=some (.slice tA tm tc)∧w'.cell? ⟨w.heap.size,4,none⟩=some (.slice lA ln lc)∧w'.cell? ⟨w.heap.size,5,none⟩=some (.int .i64 ar)∧w'.cell? ⟨w.heap.size,6,none⟩=some (.slice (some ⟨b,o,none⟩) bn bc)∧w'.cell? ⟨wq.heap.size,0,none⟩=some (.slice (some ⟨b2,o2,none⟩) sn sc)∧w'.cell? ⟨b2,o2+q*11,none⟩=some (.int .i64 kq)∧w'.cell? ⟨b2,o2+q*11+1,none⟩=some (.int .i64 ql)∧w'.cell? ⟨b2,o2+q*11+2,none⟩=some (.slice qA qn qc)∧w'.cell? ⟨b2,o2+q*11+3,none⟩=some (.int .i64 rk)∧w'.cell? ⟨b2,o2+q*11+4,none⟩=some (.int .i64 op)∧w'.cell? ⟨b2,o2+q*11+5,none⟩=some (.int .i64 rg)∧w'.cell? ⟨b2,o2+q*11+6,none⟩=some (.bool mu)∧w'.cell? ⟨b2,o2+q*11+7,none⟩=some (.int .i64 rl)∧w'.cell? ⟨b2,o2+q*11+8,none⟩=some (.slice zA zn zc)∧w'.cell? ⟨b2,o2+q*11+9,none⟩=some (.slice aA an ac)∧w'.cell? ⟨b2,o2+q*11+10,none⟩=some (.int .i64 lo))) (by kernel_rfl) (hst.out _ HU.out) (fun hHeld=>?_)
      refine planS [0,1,2,3,4,5] ?_
      repeat' (first | refine pT hHeld rfl ?_ | refine pS hHeld rfl ?_)
      refine planE ?_
      refine wpAnyH_ready (rs:=[6]) (by kernel_rfl) (by simp) ?_
      refine AllReadyH.cons rfl (fun KZ hK=>?_) AllReadyH.nil
      go_simp
      refine (HSt.out _ HU.out).mono ?_
      rintro e7 w7 ⟨rfl,hb7⟩
      have HU7:=hide (HU.out.trans (hb7.mono HU.out.size))
      clear hb7
      refine hK.out _ _ (hst.out _ HU7.out) (fun hHeld=>?_)
      clear hK KZ
      try simp only [Act.put,List.setIfInBounds_toArray,List.set_cons_zero,List.set_cons_succ]
      refine planS [7] ?_
      repeat' (first | refine pT hHeld rfl ?_ | refine pS hHeld rfl ?_)
      refine planE ?_
      refine wpAnyH_done (by kernel_rfl) ?_ _
      have HZ7:=hide (HYa.out.trans (HU7.out.mono HYa.out.size))
      go_wp2
      go_ret
      exact ⟨congrArg (fun v=>Ending.returned (.int .i64 v)) HVz.out.symm,HB.out.trans (HZ7.out.mono HB.out.size)⟩
    ·
     obtain rfl:sn=q:=by omega
     have her0:er=0:=by rw [←HQ.out];exact stsErr_end (by rw [List.length_map];have:sL.length=sn:=HSL.out;omega)
     have hc2:=HC9.out
     rw [her0,if_neg (by simp)] at hc2
     have HTm:=hide (HT.out _ c wr ⟨HX.out.up HYa.out,HOK.out⟩ (HO.out.up HY.out).term hc2)
     clear her0 hc2
     by_cases h0:c=0
     ·
      subst h0
      have HN:=hide (show bksErr (wE ⟨nm,⟨rA,rn,rc,rL⟩,⟨oA,on,oc,oL⟩,⟨tA,tm,tc,tL⟩,⟨lA,ln,lc,lL⟩,ar,⟨some ⟨b,o,none⟩,bn,bc,bL⟩⟩) ((bL.map BkW.v).drop (j+1))=v from by rw [←HE.out,HSb.out,if_neg (by rw [HCV.out];simp)])
      go_wp2_with fail
      refine HTm.out.mono ?_
      rintro e8 w8 ⟨rfl,hb8⟩
      have HW8:=hide (HYa.out.trans (hb8.mono HYa.out.size))
      clear hb8
      go_wp2
      go_roundw
      case rel=>exact ⟨j+1,by go_num,by omega,hide HN.out,hide HW8.out⟩
      case measure=>simp [intOf];omega
     ·
      have t0:(c != 0)=true:=by simp [h0]
      have HVz:=hide (HVC.out h0)
      clear h0
      go_wp2_with fail
      refine HTm.out.mono ?_
      rintro e8 w8 ⟨rfl,hb8⟩
      have HW8:=hide (HYa.out.trans (hb8.mono HYa.out.size))
      clear hb8
      go_wp2
      go_ret
      exact ⟨congrArg (fun v=>Ending.returned (.int .i64 v)) HVz.out.symm,HB.out.trans (HW8.out.mono HB.out.size)⟩
  ·
   obtain rfl:bn=j:=by omega
   have HVc:=hide (show v=0 from by rw [←HE.out];exact bksErr_end (by rw [List.length_map];have:bL.length=bn:=HLen.out;omega))
   go_wp2
   go_ret
   exact ⟨congrArg (fun v=>Ending.returned (.int .i64 v)) HVc.out.symm,HB.out.trans (HW.out.mono HB.out.size)⟩
end Go.Proofs.YtfgacmgjpikgaaaGreatDoor
