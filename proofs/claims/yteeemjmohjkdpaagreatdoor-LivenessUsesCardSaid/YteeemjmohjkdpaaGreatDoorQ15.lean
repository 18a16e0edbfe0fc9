/- Part 16 of the contracts and their mathematics. -/
import Derived.Test.YteeemjmohjkdpaaGreatDoorQ14
import Derived.Lib.Slices
import Derived.Lib.Small
import Derived.Lib.Walk
set_option linter.unusedVariables false
set_option linter.unusedSimpArgs false
set_option maxRecDepth 100000
set_option maxHeartbeats 8000000
namespace Go.Proofs.YteeemjmohjkdpaaGreatDoor
open Go.RowKit
def RStP (x:BdW):Prop:=∀ (s:StW) (v:Int) (w:World),VB w x→OneSt w w.heap.size s→stErr (wE x) s.v=v →
  Calls Tryz.prog 61 #[aggBd x,aggSt s] w fun e w'=>e=.returned (.int .i64 v)∧Below w.heap.size w w'
def RTmP (x:BdW):Prop:=∀ (s:TmW) (v:Int) (w:World),VB w x→OneTm w w.heap.size s→tmErr (wE x) s.v=v →
  Calls Tryz.prog 62 #[aggBd x,aggTm s] w fun e w'=>e=.returned (.int .i64 v)∧Below w.heap.size w w'
theorem RCheck_of {x:BdW} {v:Int} {w:World} (hD:∀ w',Below w.heap.size w w'→Calls Tryz.prog 60 #[aggBd x] w' fun e w''=>e=.returned (.int .i64 (deErr x.v))∧Below w'.heap.size w' w'')
  (hS:RStP x) (hT:RTmP x) (h:OneBd w w.heap.size x) (hv:bdErr x.v=v) :
  Calls Tryz.prog 33 #[aggBd x] w fun e w'=>e=.returned (.int .i64 v)∧Below w.heap.size w w':=by
 obtain ⟨de,hde⟩:∃ z,deErr x.v=z:=⟨_,rfl⟩
 rw [hde] at hD
 have hE:=wE_v x
 have hbl:x.blocks.L.length=x.blocks.n:=h.blocks.len
 have hbm:x.blocks.n≤maxLen:=h.blocks.nm
 unfold maxLen at hbm
 have hv9:(if de≠0 then de else bksErr (wE x) (x.blocks.L.map BkW.v))=v:=by
  rw [←hv,← hde,← hE]
  rfl
 have hvb:de=0→DeOk x.v:=fun e=>deErr_ok (hde.trans e)
 obtain ⟨nm,⟨rA,rn,rc,rL⟩,⟨oA,on,oc,oL⟩,⟨tA,tm,tc,tL⟩,⟨lA,ln,lc,lL⟩,ar,⟨bA,bn,bc,bL⟩⟩:=x
 have hbl:bL.length=bn:=hbl
 have hbm:bn≤2 ^ 63 - 1:=hbm
 have HB:=hide (below1 w (.cells #[.string nm,.slice rA rn rc,.slice oA on oc,.slice tA tm tc,.slice lA ln lc,.int .i64 ar,.slice bA bn bc] 28))
 have HX:=hide (h.up HB.out)
 have HC:=hide (hD _ HB.out)
 have HS:=hide hS
 have HT:=hide hT
 have hcs:=hide fun (w':World) (q:Below (w.alloc (.cells #[.string nm,.slice rA rn rc,.slice oA on oc,.slice tA tm tc,.slice lA ln lc,.int .i64 ar,.slice bA bn bc] 28)).heap.size (w.alloc (.cells #[.string nm,.slice rA rn rc,.slice oA on oc,.slice tA tm tc,.slice lA ln lc,.int .i64 ar,.slice bA bn bc] 28)) w')=>one_cells (cs:=[.string nm,.slice rA rn rc,.slice oA on oc,.slice tA tm tc,.slice lA ln lc,.int .i64 ar,.slice bA bn bc]) q
 clear h hv hE hD hde hS hT
 by_cases hd:de=0
 case neg=>
  have t0:(de != 0)=true:=by simp [hd]
  rw [if_pos hd] at hv9
  obtain rfl:de=v:=hv9
  clear hd hvb hbl
  go_enter Tryz.func33,Tryz.ntmps33
  go_wp2_with fail
  refine HC.out.mono ?_
  rintro e1 w1 ⟨rfl,hb1⟩
  have HW1:=hide (HB.out.trans (hb1.mono HB.out.size))
  clear hb1
  go_wp2
  go_ret
  exact ⟨rfl,HW1.out⟩
 subst hd
 rw [if_neg (by simp)] at hv9
 have HOK:=hide (hvb rfl)
 have HV:=hide hv9
 have HLen:=hide hbl
 clear hv9 hvb hbl
 go_enter Tryz.func33,Tryz.ntmps33
 go_wp2_with fail
 refine HC.out.mono ?_
 rintro e1 w1 ⟨rfl,hb1⟩
 have HW1:=hide hb1
 clear hb1
 have c1_6:=hcs.out w1 HW1.out 6 (.slice bA bn bc) rfl
 go_wp2
 go_loopw [4] (fun i wr=>∃ j:Nat,i=.int .i64 (j:Int)∧j≤bn∧Hid (bksErr (wE ⟨nm,⟨rA,rn,rc,rL⟩,⟨oA,on,oc,oL⟩,⟨tA,tm,tc,tL⟩,⟨lA,ln,lc,lL⟩,ar,⟨bA,bn,bc,bL⟩⟩) ((bL.map BkW.v).drop j)=v)∧Hid (Below (w.alloc (.cells #[.string nm,.slice rA rn rc,.slice oA on oc,.slice tA tm tc,.slice lA ln lc,.int .i64 ar,.slice bA bn bc] 28)).heap.size (w.alloc (.cells #[.string nm,.slice rA rn rc,.slice oA on oc,.slice tA tm tc,.slice lA ln lc,.int .i64 ar,.slice bA bn bc] 28)) wr)) (fun i _=>bn - (intOf i).toNat)
 case atStart=>exact ⟨0,rfl,Nat.zero_le _,hide HV.out,hide HW1.out⟩
 case round=>
  obtain ⟨j,rfl,hj,HE,HW⟩:=hrel
  clear c1_6
  generalize wr=wq at *
  have d6:=hcs.out wq HW.out 6 (.slice bA bn bc) rfl
  by_cases hlt:j < bn
  ·
   have hlt':(j:Int) < (bn:Int):=by omega
   obtain ⟨p,hp⟩:∃ p,bL[j]?=some p:=⟨_,List.getElem?_eq_getElem (by have:bL.length=bn:=HLen.out;omega)⟩
   have hpv:(bL.map BkW.v)[j]?=some p.v:=by rw [List.getElem?_map,hp];rfl
   have hax:=(HX.out.up HW.out).blocks
   obtain ⟨b,o,hA,_,hone,hc⟩:=hax.at_ hp
   have hA:bA=some ⟨b,o,none⟩:=hA
   subst hA
   obtain ⟨⟨sA,sn,sc,sL⟩,⟨k,⟨xA,xn,xc,xL⟩,⟨gA,gn,gc,gL⟩,⟨l,pA,pn,pc,ps⟩,tn⟩⟩:=p
   have c0:wq.cell? ⟨b,o+j*7,none⟩=some (.slice sA sn sc):=hc 0 _ rfl
   have c1:wq.cell? ⟨b,o+j*7+1,none⟩=some (.int .i64 k):=hc 1 _ rfl
   have c2:wq.cell? ⟨b,o+j*7+2,none⟩=some (.slice xA xn xc):=hc 2 _ rfl
   have c3:wq.cell? ⟨b,o+j*7+3,none⟩=some (.slice gA gn gc):=hc 3 _ rfl
   have c4:wq.cell? ⟨b,o+j*7+4,none⟩=some (.int .i64 l):=hc 4 _ rfl
   have c5:wq.cell? ⟨b,o+j*7+5,none⟩=some (.slice pA pn pc):=hc 5 _ rfl
   have c6:wq.cell? ⟨b,o+j*7+6,none⟩=some (.string tn):=hc 6 _ rfl
   have hWB:=(Below.refl wq.heap.size wq).alloc (Nat.le_refl _) (.cells #[.slice sA sn sc,.int .i64 k,.slice xA xn xc,.slice gA gn gc,.int .i64 l,.slice pA pn pc,.string tn] 62)
   have HWB:=hide hWB
   have HW2:=hide (HW.out.trans (hWB.mono HW.out.size))
   have HO:=hide (hone.up hWB)
   have HSb:=hide (bksErr_at (E:=wE ⟨nm,⟨rA,rn,rc,rL⟩,⟨oA,on,oc,oL⟩,⟨tA,tm,tc,tL⟩,⟨lA,ln,lc,lL⟩,ar,⟨some ⟨b,o,none⟩,bn,bc,bL⟩⟩) hpv)
   obtain ⟨c,hcv⟩:∃ c,bkErr (wE ⟨nm,⟨rA,rn,rc,rL⟩,⟨oA,on,oc,oL⟩,⟨tA,tm,tc,tL⟩,⟨lA,ln,lc,lL⟩,ar,⟨some ⟨b,o,none⟩,bn,bc,bL⟩⟩) (BkW.v ⟨⟨sA,sn,sc,sL⟩,⟨k,⟨xA,xn,xc,xL⟩,⟨gA,gn,gc,gL⟩,⟨l,pA,pn,pc,ps⟩,tn⟩⟩)=c:=⟨_,rfl⟩
   have HCV:=hide hcv
   have hsl:sL.length=sn:=hone.stmts.len
   have hsm:sn≤maxLen:=hone.stmts.nm
   unfold maxLen at hsm
   have HSL:=hide hsl
   obtain ⟨er,her⟩:∃ u,stsErr (wE ⟨nm,⟨rA,rn,rc,rL⟩,⟨oA,on,oc,oL⟩,⟨tA,tm,tc,tL⟩,⟨lA,ln,lc,lL⟩,ar,⟨some ⟨b,o,none⟩,bn,bc,bL⟩⟩) (sL.map StW.v)=u:=⟨_,rfl⟩
   have HEr:=hide her
   have hc9:(if 65535 < sn then (15:Int) else if er≠0 then er else tmErr (wE ⟨nm,⟨rA,rn,rc,rL⟩,⟨oA,on,oc,oL⟩,⟨tA,tm,tc,tL⟩,⟨lA,ln,lc,lL⟩,ar,⟨some ⟨b,o,none⟩,bn,bc,bL⟩⟩) (TmW.v ⟨k,⟨xA,xn,xc,xL⟩,⟨gA,gn,gc,gL⟩,⟨l,pA,pn,pc,ps⟩,tn⟩))=c:=by
    rw [←hcv,← her,← hsl,← List.length_map (f:=StW.v)]
    rfl
   have hbx:=hide fun (w':World) (q:Below (wq.alloc (.cells #[.slice sA sn sc,.int .i64 k,.slice xA xn xc,.slice gA gn gc,.int .i64 l,.slice pA pn pc,.string tn] 62)).heap.size (wq.alloc (.cells #[.slice sA sn sc,.int .i64 k,.slice xA xn xc,.slice gA gn gc,.int .i64 l,.slice pA pn pc,.string tn] 62)) w')=>one_cells (w:=wq) (cs:=[.slice sA sn sc,.int .i64 k,.slice xA xn xc,.slice gA gn gc,.int .i64 l,.slice pA pn pc,.string tn]) q
   have e6:=hcs.out _ HW2.out 6 (.slice (some ⟨b,o,none⟩) bn bc) rfl
   clear hp hpv hax hone hc hWB hcv her hsl
   have hvc:c≠0→v=c:=fun h0=>by rw [←HE.out,HSb.out,HCV.out,if_pos h0]
   by_cases hb:65535 < sn
   case pos=>
    have tb:(65535:Int) < (sn:Int):=by omega
    obtain rfl:c=15:=by rw [←hc9,if_pos hb]
    have HVc:=hide (hvc (by decide))
    clear hb hc9 hvc
    go_wp2
    go_ret
    exact ⟨congrArg (fun v=>Ending.returned (.int .i64 v)) HVc.out.symm,HB.out.trans (HW2.out.mono HB.out.size)⟩
   have tb:(sn:Int)≤65535:=by omega
   rw [if_neg hb] at hc9
   have HC9:=hide hc9
   have HVC:=hide hvc
   clear hb hc9 hvc
   go_wp2
   go_loopw [6] (fun i wr=>∃ q:Nat,i=.int .i64 (q:Int)∧q≤sn∧Hid (stsErr (wE ⟨nm,⟨rA,rn,rc,rL⟩,⟨oA,on,oc,oL⟩,⟨tA,tm,tc,tL⟩,⟨lA,ln,lc,lL⟩,ar,⟨some ⟨b,o,none⟩,bn,bc,bL⟩⟩) ((sL.map StW.v).drop q)=er)∧Hid (Below (wq.alloc (.cells #[.slice sA sn sc,.int .i64 k,.slice xA xn xc,.slice gA gn gc,.int .i64 l,.slice pA pn pc,.string tn] 62)).heap.size (wq.alloc (.cells #[.slice sA sn sc,.int .i64 k,.slice xA xn xc,.slice gA gn gc,.int .i64 l,.slice pA pn pc,.string tn] 62)) wr)) (fun i _=>sn - (intOf i).toNat)
   case atStart=>exact ⟨0,rfl,Nat.zero_le _,hide HEr.out,hide (Below.refl _ _)⟩
   case round=>
    obtain ⟨q,rfl,hq,HQ,HY⟩:=hrel
    have HYa:=hide (HW2.out.trans (HY.out.mono HW2.out.size))
    clear e6
    have f0:=hbx.out wr HY.out 0 (.slice sA sn sc) rfl
    have f1:=hbx.out wr HY.out 1 (.int .i64 k) rfl
    have f2:=hbx.out wr HY.out 2 (.slice xA xn xc) rfl
    have f3:=hbx.out wr HY.out 3 (.slice gA gn gc) rfl
    have f4:=hbx.out wr HY.out 4 (.int .i64 l) rfl
    have f5:=hbx.out wr HY.out 5 (.slice pA pn pc) rfl
    have f6:=hbx.out wr HY.out 6 (.string tn) rfl
    have g0:=hcs.out wr HYa.out 0 (.string nm) rfl
    have g1:=hcs.out wr HYa.out 1 (.slice rA rn rc) rfl
    have g2:=hcs.out wr HYa.out 2 (.slice oA on oc) rfl
    have g3:=hcs.out wr HYa.out 3 (.slice tA tm tc) rfl
    have g4:=hcs.out wr HYa.out 4 (.slice lA ln lc) rfl
    have g5:=hcs.out wr HYa.out 5 (.int .i64 ar) rfl
    have g6:=hcs.out wr HYa.out 6 (.slice (some ⟨b,o,none⟩) bn bc) rfl
    by_cases hlq:q < sn
    ·
     have hlq':(q:Int) < (sn:Int):=by omega
     obtain ⟨p,hp⟩:∃ p,sL[q]?=some p:=⟨_,List.getElem?_eq_getElem (by have:sL.length=sn:=HSL.out;omega)⟩
     have hpv:(sL.map StW.v)[q]?=some p.v:=by rw [List.getElem?_map,hp];rfl
     have hax:=(HO.out.up HY.out).stmts
     obtain ⟨b2,o2,hA2,hb2,hone,hc⟩:=hax.at_ hp
     have hA2:sA=some ⟨b2,o2,none⟩:=hA2
     subst hA2
     obtain ⟨kq,⟨ql,qA,qn,qc,qs⟩,⟨rk,op,rg,mu,⟨rl,zA,zn,zc,zs⟩,⟨aA,an,ac,aL⟩⟩,lo⟩:=p
     have s0:wr.cell? ⟨b2,o2+q*11,none⟩=some (.int .i64 kq):=hc 0 _ rfl
     have s1:wr.cell? ⟨b2,o2+q*11+1,none⟩=some (.int .i64 ql):=hc 1 _ rfl
     have s2:wr.cell? ⟨b2,o2+q*11+2,none⟩=some (.slice qA qn qc):=hc 2 _ rfl
     have s3:wr.cell? ⟨b2,o2+q*11+3,none⟩=some (.int .i64 rk):=hc 3 _ rfl
     have s4:wr.cell? ⟨b2,o2+q*11+4,none⟩=some (.int .i64 op):=hc 4 _ rfl
     have s5:wr.cell? ⟨b2,o2+q*11+5,none⟩=some (.int .i64 rg):=hc 5 _ rfl
     have s6:wr.cell? ⟨b2,o2+q*11+6,none⟩=some (.bool mu):=hc 6 _ rfl
     have s7:wr.cell? ⟨b2,o2+q*11+7,none⟩=some (.int .i64 rl):=hc 7 _ rfl
     have s8:wr.cell? ⟨b2,o2+q*11+8,none⟩=some (.slice zA zn zc):=hc 8 _ rfl
     have s9:wr.cell? ⟨b2,o2+q*11+9,none⟩=some (.slice aA an ac):=hc 9 _ rfl
     have s10:wr.cell? ⟨b2,o2+q*11+10,none⟩=some (.int .i64 lo):=hc 10 _ rfl
     have HSs:=hide (stsErr_at (E:=wE ⟨nm,⟨rA,rn,rc,rL⟩,⟨oA,on,oc,oL⟩,⟨tA,tm,tc,tL⟩,⟨lA,ln,lc,lL⟩,ar,⟨some ⟨b,o,none⟩,bn,bc,bL⟩⟩) hpv)
     obtain ⟨z,hz⟩:∃ z,stErr (wE ⟨nm,⟨rA,rn,rc,rL⟩,⟨oA,on,oc,oL⟩,⟨tA,tm,tc,tL⟩,⟨lA,ln,lc,lL⟩,ar,⟨some ⟨b,o,none⟩,bn,bc,bL⟩⟩) (StW.v ⟨kq,⟨ql,qA,qn,qc,qs⟩,⟨rk,op,rg,mu,⟨rl,zA,zn,zc,zs⟩,⟨aA,an,ac,aL⟩⟩,lo⟩)=z:=⟨_,rfl⟩
     have HZ:=hide hz
     have hst:=hide fun (w':World) (y:Below wr.heap.size wr w')=>(show w'.cell? ⟨w.heap.size,0,none⟩=some (.string nm)∧w'.cell? ⟨w.heap.size,1,none⟩=some (.slice rA rn rc)∧w'.cell? ⟨w.heap.size,2,none⟩=some (.slice oA on oc)∧w'.cell? ⟨w.heap.size,3,none⟩=some (.slice tA tm tc)∧w'.cell? ⟨w.heap.size,4,none⟩=some (.slice lA ln lc)∧w'.cell? ⟨w.heap.size,5,none⟩=some (.int .i64 ar)∧w'.cell? ⟨w.heap.size,6,none⟩=some (.slice (some ⟨b,o,none⟩) bn bc)∧w'.cell? ⟨wq.heap.size,0,none⟩=some (.slice (some ⟨b2,o2,none⟩) sn sc)∧w'.cell? ⟨b2,o2+q*11,none⟩=some (.int .i64 kq)∧w'.cell? ⟨b2,o2+q*11+1,none⟩=some (.int .i64 ql)∧w'.cell? ⟨b2,o2+q*11+2,none⟩=some (.slice qA qn qc)∧w'.cell? ⟨b2,o2+q*11+3,none⟩=some (.int .i64 rk)∧w'.cell? ⟨b2,o2+q*11+4,none⟩=some (.int .i64 op)∧w'.cell? ⟨b2,o2+q*11+5,none⟩=some (.int .i64 rg)∧w'.cell? ⟨b2,o2+q*11+6,none⟩=some (.bool mu)∧w'.cell? ⟨b2,o2+q*11+7,none⟩=some (.int .i64 rl)∧w'.cell? ⟨b2,o2+q*11+8,none⟩=some (.slice zA zn zc)∧w'.cell? ⟨b2,o2+q*11+9,none⟩=some (.slice aA an ac)∧w'.cell? ⟨b2,o2+q*11+10,none⟩=some (.int .i64 lo) from ⟨hcs.out _ (HYa.out.trans (y.mono HYa.out.size)) 0 _ rfl,hcs.out _ (HYa.out.trans (y.mono HYa.out.size)) 1 _ rfl,hcs.out _ (HYa.out.trans (y.mono HYa.out.size)) 2 _ rfl,hcs.out _ (HYa.out.trans (y.mono HYa.out.size)) 3 _ rfl,hcs.out _ (HYa.out.trans (y.mono HYa.out.size)) 4 _ rfl,hcs.out _ (HYa.out.trans (y.mono HYa.out.size)) 5 _ rfl,hcs.out _ (HYa.out.trans (y.mono HYa.out.size)) 6 _ rfl,hbx.out _ (HY.out.trans (y.mono HY.out.size)) 0 _ rfl,(y.cell (p:=⟨b2,o2+q*11,none⟩) hb2).trans s0,(y.cell (p:=⟨b2,o2+q*11+1,none⟩) hb2).trans s1,(y.cell (p:=⟨b2,o2+q*11+2,none⟩) hb2).trans s2,(y.cell (p:=⟨b2,o2+q*11+3,none⟩) hb2).trans s3,(y.cell (p:=⟨b2,o2+q*11+4,none⟩) hb2).trans s4,(y.cell (p:=⟨b2,o2+q*11+5,none⟩) hb2).trans s5,(y.cell (p:=⟨b2,o2+q*11+6,none⟩) hb2).trans s6,(y.cell (p:=⟨b2,o2+q*11+7,none⟩) hb2).trans s7,(y.cell (p:=⟨b2,o2+q*11+8,none⟩) hb2).trans s8,(y.cell (p:=⟨b2,o2+q*11+9,none⟩) hb2).trans s9,(y.cell (p:=⟨b2,o2+q*11+10,none⟩) hb2).trans s10⟩)
     have HSt:=hide fun (w':World) (y:Below wr.heap.size wr w')=>HS.out _ z w' ⟨HX.out.up (HYa.out.trans (y.mono HYa.out.size)),HOK.out⟩ (hone.up y) hz
     clear hp hpv hax hc hz hb2
     by_cases h0:z=0
     ·
      subst h0
      have HN:=hide (show stsErr (wE ⟨nm,⟨rA,rn,rc,rL⟩,⟨oA,on,oc,oL⟩,⟨tA,tm,tc,tL⟩,⟨lA,ln,lc,lL⟩,ar,⟨some ⟨b,o,none⟩,bn,bc,bL⟩⟩) ((sL.map StW.v).drop (q+1))=er from by rw [←HQ.out,HSs.out,if_neg (by rw [HZ.out];simp)])
      go_wp2
      have HU:=hide ((Below.refl wr.heap.size wr).drew)
      refine wp_region_held_drew (S:=(fun w'=>w'.cell? ⟨w.heap.size,0,none⟩=some (.string nm)∧w'.cell? ⟨w.heap.size,1,none⟩=some (.slice rA rn rc)∧w'.cell? ⟨w.heap.size,2,none⟩=some (.slice oA on oc)∧w'.cell? ⟨w.heap.size,3,none⟩=some (.slice tA tm tc)∧w'.cell? ⟨w.heap.size,4,none⟩=some (.slice lA ln lc)∧w'.cell? ⟨w.heap.size,5,none⟩=some (.int .i64 ar)∧w'.cell? ⟨w.heap.size,6,none⟩=some (.slice (some ⟨b,o,none⟩) bn bc)∧w'.cell? ⟨wq.heap.size,0,none⟩=some (.slice (some ⟨b2,o2,none⟩) sn sc)∧w'.cell? ⟨b2,o2+q*11,none⟩=some (.int .i64 kq)∧w'.cell? ⟨b2,o2+q*11+1,none⟩=some (.int .i64 ql)∧w'.cell? ⟨b2,o2+q*11+2,none⟩=some (.slice qA qn qc)∧w'.cell? ⟨b2,o2+q*11+3,none⟩=some (.int .i64 rk)∧w'.cell? ⟨b2,o2+q*11+4,none⟩=some (.int .i64 op)∧w'.cell? ⟨b2,o2+q*11+5,none⟩=some (.int .i64 rg)∧w'.cell? ⟨b2,o2+q*11+6,none⟩=some (.bool mu)∧w'.cell? ⟨b2,o2+q*11+7,none⟩=some (.int .i64 rl)∧w'.cell? ⟨b2,o2+q*11+8,none⟩=some (.slice zA zn zc)∧w'.cell? ⟨b2,o2+q*11+9,none⟩=some (.slice aA an ac)∧w'.cell? ⟨b2,o2+q*11+10,none⟩=some (.int .i64 lo))) (by kernel_rfl) (hst.out _ HU.out) (fun hHeld=>?_)
      refine planS [0,1,2,3,4,5] ?_
      repeat' (first | refine pT hHeld rfl ?_ | refine pS hHeld rfl ?_)
      refine planE ?_
      refine wpAnyH_ready (rs:=[6]) (by kernel_rfl) (by simp) ?_
      refine AllReadyH.cons rfl (fun KZ hK=>?_) AllReadyH.nil
      go_simp
      refine (HSt.out _ HU.out).mono ?_
      rintro e7 w7 ⟨rfl,hb7⟩
      have HU7:=hide (HU.out.trans (hb7.mono HU.out.size))
      clear hb7
      refine hK.out _ _ (hst.out _ HU7.out) (fun hHeld=>?_)
      clear hK KZ
      try simp only [Act.put,List.setIfInBounds_toArray,List.set_cons_zero,List.set_cons_succ]
      refine planS [7] ?_
      repeat' (first | refine pT hHeld rfl ?_ | refine pS hHeld rfl ?_)
      refine planE ?_
      refine wpAnyH_done (by kernel_rfl) ?_ _
      have HZ7:=hide (HY.out.trans (HU7.out.mono HY.out.size))
      go_wp2
      go_roundw
      case rel=>exact ⟨q+1,by go_num,by omega,hide HN.out,hide HZ7.out⟩
      case measure=>simp [intOf];omega
     ·
      have t0:(z != 0)=true:=by simp [h0]
      have e1:er=z:=by rw [←HQ.out,HSs.out,HZ.out,if_pos h0]
      have e2:c=z:=by rw [←HC9.out,e1,if_pos h0]
      have HVz:=hide (show v=z from by rw [HVC.out (by rw [e2];exact h0),e2])
      clear e1 e2
      clear h0
      go_wp2
      have HU:=hide ((Below.refl wr.heap.size wr).drew)
      refine wp_region_held_drew (S:=(fun w'=>w'.cell? ⟨w.heap.size,0,none⟩=some (.string nm)∧w'.cell? ⟨w.heap.size,1,none⟩=some (.slice rA rn rc)∧w'.cell? ⟨w.heap.size,2,none⟩=some (.slice oA on oc)∧w'.cell? ⟨w.heap.size,3,none⟩=some (.slice tA tm tc)∧w'.cell? ⟨w.heap.size,4,none⟩=some (.slice lA ln lc)∧w'.cell? ⟨w.heap.size,5,none⟩=some (.int .i64 ar)∧w'.cell? ⟨w.heap.size,6,none⟩=some (.slice (some ⟨b,o,none⟩) bn bc)∧w'.cell? ⟨wq.heap.size,0,none⟩=some (.slice (some ⟨b2,o2,none⟩) sn sc)∧w'.cell? ⟨b2,o2+q*11,none⟩=some (.int .i64 kq)∧w'.cell? ⟨b2,o2+q*11+1,none⟩=some (.int .i64 ql)∧w'.cell? ⟨b2,o2+q*11+2,none⟩=some (.slice qA qn qc)∧w'.cell? ⟨b2,o2+q*11+3,none⟩=some (.int .i64 rk)∧w'.cell? ⟨b2,o2+q*11+4,none⟩=some (.int .i64 op)∧w'.cell? ⟨b2,o2+q*11+5,none⟩=some (.int .i64 rg)∧w'.cell? ⟨b2,o2+q*11+6,none⟩=some (.bool mu)∧w'.cell? ⟨b2,o2+q*11+7,none⟩=some (.int .i64 rl)∧w'.cell? ⟨b2,o2+q*11+8,none⟩=some (.slice zA zn zc)∧w'.cell? ⟨b2,o2+q*11+9,none⟩=some (.slice aA an ac)∧w'.cell? ⟨b2,o2+q*11+10,none⟩=some (.int .i64 lo))) (by kernel_rfl) (hst.out _ HU.out) (fun hHeld=>?_)
      refine planS [0,1,2,3,4,5] ?_
      repeat' (first | refine pT hHeld rfl ?_ | refine pS hHeld rfl ?_)
      refine planE ?_
      refine wpAnyH_ready (rs:=[6]) (by kernel_rfl) (by simp) ?_
      refine AllReadyH.cons rfl (fun KZ hK=>?_) AllReadyH.nil
      go_simp
      refine (HSt.out _ HU.out).mono ?_
      rintro e7 w7 ⟨rfl,hb7⟩
      have HU7:=hide (HU.out.trans (hb7.mono HU.out.size))
      clear hb7
      refine hK.out _ _ (hst.out _ HU7.out) (fun hHeld=>?_)
      clear hK KZ
      try simp only [Act.put,List.setIfInBounds_toArray,List.set_cons_zero,List.set_cons_succ]
      refine planS [7] ?_
      repeat' (first | refine pT hHeld rfl ?_ | refine pS hHeld rfl ?_)
      refine planE ?_
      refine wpAnyH_done (by kernel_rfl) ?_ _
      have HZ7:=hide (HYa.out.trans (HU7.out.mono HYa.out.size))
      go_wp2
      go_ret
      exact ⟨congrArg (fun v=>Ending.returned (.int .i64 v)) HVz.out.symm,HB.out.trans (HZ7.out.mono HB.out.size)⟩
    ·
     obtain rfl:sn=q:=by omega
     have her0:er=0:=by rw [←HQ.out];exact stsErr_end (by rw [List.length_map];have:sL.length=sn:=HSL.out;omega)
     have hc2:=HC9.out
     rw [her0,if_neg (by simp)] at hc2
     have HTm:=hide (HT.out _ c wr ⟨HX.out.up HYa.out,HOK.out⟩ (HO.out.up HY.out).term hc2)
     clear her0 hc2
     by_cases h0:c=0
     ·
      subst h0
      have HN:=hide (show bksErr (wE ⟨nm,⟨rA,rn,rc,rL⟩,⟨oA,on,oc,oL⟩,⟨tA,tm,tc,tL⟩,⟨lA,ln,lc,lL⟩,ar,⟨some ⟨b,o,none⟩,bn,bc,bL⟩⟩) ((bL.map BkW.v).drop (j+1))=v from by rw [←HE.out,HSb.out,if_neg (by rw [HCV.out];simp)])
      go_wp2_with fail
      refine HTm.out.mono ?_
      rintro e8 w8 ⟨rfl,hb8⟩
      have HW8:=hide (HYa.out.trans (hb8.mono HYa.out.size))
      clear hb8
      go_wp2
      go_roundw
      case rel=>exact ⟨j+1,by go_num,by omega,hide HN.out,hide HW8.out⟩
      case measure=>simp [intOf];omega
     ·
      have t0:(c != 0)=true:=by simp [h0]
      have HVz:=hide (HVC.out h0)
      clear h0
      go_wp2_with fail
      refine HTm.out.mono ?_
      rintro e8 w8 ⟨rfl,hb8⟩
      have HW8:=hide (HYa.out.trans (hb8.mono HYa.out.size))
      clear hb8
      go_wp2
      go_ret
      exact ⟨congrArg (fun v=>Ending.returned (.int .i64 v)) HVz.out.symm,HB.out.trans (HW8.out.mono HB.out.size)⟩
  ·
   obtain rfl:bn=j:=by omega
   have HVc:=hide (show v=0 from by rw [←HE.out];exact bksErr_end (by rw [List.length_map];have:bL.length=bn:=HLen.out;omega))
   go_wp2
   go_ret
   exact ⟨congrArg (fun v=>Ending.returned (.int .i64 v)) HVc.out.symm,HB.out.trans (HW.out.mono HB.out.size)⟩
theorem letter_any (c:Int) (w:World) (h0:0≤c) (h1:c < 256) :
 Calls Tryz.prog 149 #[.int .u8 c] w fun e w'=>e=.returned (.bool (letB c))∧w=w':=by
 by_cases a:c=95
 ·
  subst a
  go_enter Tryz.func149,Tryz.ntmps149
  go_wp2
  go_ret
  exact ⟨rfl,rfl⟩
 ·
  have a':(c == 95)=false:=by simpa using a
  by_cases b:65≤c <;> by_cases d:c≤90 <;> by_cases e:97≤c <;> by_cases f:c≤122
  all_goals
   go_enter Tryz.func149,Tryz.ntmps149
   go_wp2
   go_ret
   first
    | exact ⟨congrArg (fun v=>Ending.returned (.bool v)) (letB_yes (by omega)).symm,rfl⟩
    | exact ⟨congrArg (fun v=>Ending.returned (.bool v)) (letB_no (by omega)).symm,rfl⟩
theorem digit_any (c:Int) (w:World) (h0:0≤c) (h1:c < 256) :
 Calls Tryz.prog 150 #[.int .u8 c] w fun e w'=>e=.returned (.bool (digB c))∧w=w':=by
 by_cases b:48≤c <;> by_cases d:c≤57
 all_goals
  go_enter Tryz.func150,Tryz.ntmps150
  go_wp2
  go_ret
  first
   | exact ⟨congrArg (fun v=>Ending.returned (.bool v)) (digB_yes (by omega)).symm,rfl⟩
   | exact ⟨congrArg (fun v=>Ending.returned (.bool v)) (digB_no (by omega)).symm,rfl⟩
theorem letter_is {c:Int} {b:Bool} (h:letB c=b) (w:World) (h0:0≤c) (h1:c < 256) :
 Calls Tryz.prog 149 #[.int .u8 c] w fun e w'=>e=.returned (.bool b)∧w=w':=h ▸ letter_any c w h0 h1
theorem digit_is {c:Int} {b:Bool} (h:digB c=b) (w:World) (h0:0≤c) (h1:c < 256) :
 Calls Tryz.prog 150 #[.int .u8 c] w fun e w'=>e=.returned (.bool b)∧w=w':=h ▸ digit_any c w h0 h1
theorem sB_at (s:ByteArray) (k:Nat) (h:k < s.size):(sB s)[k]?=some (((s[k]).toNat:Nat):Int):=by
 have e:s.data.toList[k]?=some s[k]:=by
  rw [List.getElem?_eq_getElem (by rw [Array.length_toList];exact h)]
  rfl
 simp [sB,e]
theorem u8_lo (b:UInt8):(0:Int)≤((b.toNat:Nat):Int):=by omega
theorem u8_hi (b:UInt8):((b.toNat:Nat):Int) < 256:=by have:=b.toNat_lt;omega
theorem IntIz0 {P:Prop} (h:P:=by
 go_ret
 exact ⟨congrArg (fun v=>Ending.returned (.bool v)) hn.out.symm,rfl⟩):P:=h
theorem IntIz1 {P:Prop} (h:P:=by
 go_roundw
 case rel=>exact ⟨k+1,by go_num,by omega,HN.out,trivial⟩
 case measure=>simp [intOf];omega):P:=h
theorem IsIdent_any (s:ByteArray) (w:World) (hs:s.size≤maxLen) :
 Calls Tryz.prog 122 #[.string s] w fun e w'=>e=.returned (.bool (identB s))∧w=w':=by
 unfold maxLen at hs
 by_cases h0:s.size=0
 ·
  have hn:=hide (identB_long (s:=s) (.inl (by omega)))
  go_enter Tryz.func122,Tryz.ntmps122
  go_wp2_with fail
  exact IntIz0
 by_cases h1:255 < s.size
 ·
  have hn:=hide (identB_long (s:=s) (.inr h1))
  have h1':(255:Int) < (s.size:Int):=by omega
  go_enter Tryz.func122,Tryz.ntmps122
  go_wp2_with fail
  exact IntIz0
 have h1':(s.size:Int)≤255:=by omega
 have h2':0 < s.size:=by omega
 have hz:((s.size:Int) == 0)=false:=beq_eq_false_iff_ne.2 (by omega)
 have hd:decide ((255:Int) < (s.size:Int))=false:=decide_eq_false (by omega)
 have Hc:=hide (sB_at s 0 h2')
 cases hl:letB ((s[0].toNat:Nat):Int)
 ·
  have hn:=hide (identB_no Hc.out hl (.inl rfl))
  have HL:=hide hl
  clear hl
  go_enter Tryz.func122,Tryz.ntmps122
  go_wp2_with fail
  refine (letter_is HL.out _ (u8_lo _) (u8_hi _)).mono ?_
  rintro e w1 ⟨rfl,rfl⟩
  go_wp2_with fail
  exact IntIz0
 have HL:=hide hl
 clear hl
 go_enter Tryz.func122,Tryz.ntmps122
 go_wp2_with fail
 refine (letter_is HL.out _ (u8_lo _) (u8_hi _)).mono ?_
 rintro e w1 ⟨rfl,rfl⟩
 go_wp2_with fail
 go_loopw [20] (fun i wr=>∃ k:Nat,i=.int .i64 (k:Int)∧k≤s.size∧Hid (headOk (sB s) k)∧w=wr) (fun i _=>s.size - (intOf i).toNat)
 case atStart=>exact ⟨0,rfl,by omega,headOk_zero _,rfl⟩
 case round=>
  obtain ⟨k,rfl,hk,HH,rfl⟩:=hrel
  by_cases hlt:k < s.size
  ·
   have hi:(k:Int) < (s.size:Int):=by omega
   have Hk:=hide (sB_at s k hlt)
   cases hl:letB ((s[k].toNat:Nat):Int)
   ·
    have HL2:=hide hl
    cases hg:digB ((s[k].toNat:Nat):Int)
    ·
     have HG:=hide hg
     have hn:=hide (identB_no Hk.out hl (.inr hg))
     clear hl hg
     go_wp2_with fail
     refine (letter_is HL2.out _ (u8_lo _) (u8_hi _)).mono ?_
     rintro e w1 ⟨rfl,rfl⟩
     go_wp2_with fail
     refine (digit_is HG.out _ (u8_lo _) (u8_hi _)).mono ?_
     rintro e w1 ⟨rfl,rfl⟩
     go_wp2_with fail
     exact IntIz0
    ·
     have HG:=hide hg
     have hk0:k≠0:=fun e=>by
      subst e
      rw [HL.out] at hl
      cases hl
     clear hl
     have HN:=hide (headOk_succ HH.out Hk.out (.inr ⟨hk0,hg⟩))
     clear hg
     go_wp2_with fail
     refine (letter_is HL2.out _ (u8_lo _) (u8_hi _)).mono ?_
     rintro e w1 ⟨rfl,rfl⟩
     go_wp2_with fail
     refine (digit_is HG.out _ (u8_lo _) (u8_hi _)).mono ?_
     rintro e w1 ⟨rfl,rfl⟩
     go_wp2_with fail
     exact IntIz1
   ·
    have HL2:=hide hl
    have HN:=hide (headOk_succ HH.out Hk.out (.inl hl))
    clear hl
    go_wp2_with fail
    refine (letter_is HL2.out _ (u8_lo _) (u8_hi _)).mono ?_
    rintro e w1 ⟨rfl,rfl⟩
    go_wp2_with fail
    exact IntIz1
  ·
   obtain rfl:k=s.size:=by omega
   have hn:=hide (identB_yes h2' (by omega) HH.out)
   go_wp2_with fail
   exact IntIz0
theorem IsIdent_is {s:ByteArray} {b:Bool} (h:identB s=b) (w:World) (hs:s.size≤maxLen) :
 Calls Tryz.prog 122 #[.string s] w fun e w'=>e=.returned (.bool b)∧w=w':=h ▸ IsIdent_any s w hs
theorem IntIz2 {P:Prop} (h:P:=by
 have f5:(((s[0].toNat:Nat):Int) == 95)=false:=beq_eq_false_iff_ne.2 (by omega)
 have f6:¬((s[0].toNat:Nat):Int) < 48:=by omega
 have f7:(57:Int) < ((s[0].toNat:Nat):Int):=by omega
 clear hl
 go_wp2_with fail
 exact IntIz0):P:=h
theorem IntIz3 {P:Prop} (h:P:=by
 have f5:(((s[k].toNat:Nat):Int) == 95)=false:=beq_eq_false_iff_ne.2 (by omega)
 have f6:¬((s[k].toNat:Nat):Int) < 48:=by omega
 have f7:(57:Int) < ((s[k].toNat:Nat):Int):=by omega
 clear hl
 go_wp2_with fail
 exact IntIz0):P:=h
theorem IntIz4 {P:Prop} (h:P:=by
 have f6:¬((s[k].toNat:Nat):Int) < 48:=by omega
 have f7:(57:Int) < ((s[k].toNat:Nat):Int):=by omega
 clear hl
 go_wp2_with fail
 exact IntIz1):P:=h
theorem RefIdent_any (s:ByteArray) (w:World) (hs:s.size≤maxLen) :
 Calls Tryz.prog 94 #[.string s] w fun e w'=>e=.returned (.bool (identB s))∧w=w':=by
 unfold maxLen at hs
 go_enter Tryz.func94,Tryz.ntmps94
 go_wp2_with fail
 go_loopw [3] (fun i wr=>∃ k:Nat,i=.int .i64 (k:Int)∧k≤s.size∧Hid (headOk (sB s) k)∧w=wr) (fun i _=>s.size - (intOf i).toNat)
 case atStart=>exact ⟨0,rfl,by omega,headOk_zero _,rfl⟩
 case round=>
  obtain ⟨k,rfl,hk,HH,rfl⟩:=hrel
  by_cases hlt:k < s.size
  ·
   have hi:(k:Int) < (s.size:Int):=by omega
   have Hk:=hide (sB_at s k hlt)
   have c0:=u8_lo s[k]
   have c1:=u8_hi s[k]
   have hcn:Hid (((s[k].toNat:Nat):Int)=((s[k].toNat:Nat):Int)):=rfl
   cases hl:letB ((s[k].toNat:Nat):Int)
   ·
    have hn1:¬((((s[k].toNat:Nat):Int)=95)∨(65≤((s[k].toNat:Nat):Int)∧((s[k].toNat:Nat):Int)≤90)∨(97≤((s[k].toNat:Nat):Int)∧((s[k].toNat:Nat):Int)≤122)):=fun h=>by rw [letB_yes h] at hl;cases hl
    by_cases hk0:k=0
    ·
     subst hk0
     have hn:=hide (identB_no Hk.out hl (.inl rfl))
     have hcl:(122 < ((s[0].toNat:Nat):Int))∨(90 < ((s[0].toNat:Nat):Int)∧((s[0].toNat:Nat):Int) < 97∧¬((s[0].toNat:Nat):Int)=95)∨(48≤((s[0].toNat:Nat):Int)∧((s[0].toNat:Nat):Int)≤57)∨(((s[0].toNat:Nat):Int) < 48)∨(57 < ((s[0].toNat:Nat):Int)∧((s[0].toNat:Nat):Int) < 65):=by omega
     rcases hcl with hcl | hcl | hcl | hcl | hcl
     ·
      have hu:Hid True:=trivial
      have f1:(97:Int)≤((s[0].toNat:Nat):Int):=by omega
      have f2:¬((s[0].toNat:Nat):Int)≤122:=by omega
      have f3:(65:Int)≤((s[0].toNat:Nat):Int):=by omega
      have f4:¬((s[0].toNat:Nat):Int)≤90:=by omega
      exact IntIz2
     ·
      have hu:Hid True:=trivial
      have f1:¬(97:Int)≤((s[0].toNat:Nat):Int):=by omega
      have f2:((s[0].toNat:Nat):Int)≤122:=by omega
      have f3:(65:Int)≤((s[0].toNat:Nat):Int):=by omega
      have f4:¬((s[0].toNat:Nat):Int)≤90:=by omega
      exact IntIz2
     ·
      have hu:Hid True:=trivial
      have f1:¬(97:Int)≤((s[0].toNat:Nat):Int):=by omega
      have f2:((s[0].toNat:Nat):Int)≤122:=by omega
      have f3:¬(65:Int)≤((s[0].toNat:Nat):Int):=by omega
      have f4:((s[0].toNat:Nat):Int)≤90:=by omega
      have f5:(((s[0].toNat:Nat):Int) == 95)=false:=beq_eq_false_iff_ne.2 (by omega)
      have f6:¬((s[0].toNat:Nat):Int) < 48:=by omega
      have f7:¬(57:Int) < ((s[0].toNat:Nat):Int):=by omega
      clear hl
      go_wp2_with fail
      exact IntIz0
     ·
      have hu:Hid True:=trivial
      have f1:¬(97:Int)≤((s[0].toNat:Nat):Int):=by omega
      have f2:((s[0].toNat:Nat):Int)≤122:=by omega
      have f3:¬(65:Int)≤((s[0].toNat:Nat):Int):=by omega
      have f4:((s[0].toNat:Nat):Int)≤90:=by omega
      have f5:(((s[0].toNat:Nat):Int) == 95)=false:=beq_eq_false_iff_ne.2 (by omega)
      have f6:((s[0].toNat:Nat):Int) < 48:=by omega
      have f7:¬(57:Int) < ((s[0].toNat:Nat):Int):=by omega
      clear hl
      go_wp2_with fail
      exact IntIz0
     ·
      have hu:Hid True:=trivial
      have f1:¬(97:Int)≤((s[0].toNat:Nat):Int):=by omega
      have f2:((s[0].toNat:Nat):Int)≤122:=by omega
      have f3:¬(65:Int)≤((s[0].toNat:Nat):Int):=by omega
      have f4:((s[0].toNat:Nat):Int)≤90:=by omega
      exact IntIz2
    ·
     have hk0':((k:Int) == 0)=false:=beq_eq_false_iff_ne.2 (by omega)
     have hcl:(122 < ((s[k].toNat:Nat):Int))∨(90 < ((s[k].toNat:Nat):Int)∧((s[k].toNat:Nat):Int) < 97∧¬((s[k].toNat:Nat):Int)=95)∨(48≤((s[k].toNat:Nat):Int)∧((s[k].toNat:Nat):Int)≤57)∨(((s[k].toNat:Nat):Int) < 48)∨(57 < ((s[k].toNat:Nat):Int)∧((s[k].toNat:Nat):Int) < 65):=by omega
     rcases hcl with hcl | hcl | hcl | hcl | hcl
     ·
      have hn:=hide (identB_no Hk.out hl (.inr (digB_no (by omega))))
      have f1:(97:Int)≤((s[k].toNat:Nat):Int):=by omega
      have f2:¬((s[k].toNat:Nat):Int)≤122:=by omega
      have f3:(65:Int)≤((s[k].toNat:Nat):Int):=by omega
      have f4:¬((s[k].toNat:Nat):Int)≤90:=by omega
      exact IntIz3
     ·
      have hn:=hide (identB_no Hk.out hl (.inr (digB_no (by omega))))
      have f1:¬(97:Int)≤((s[k].toNat:Nat):Int):=by omega
      have f2:((s[k].toNat:Nat):Int)≤122:=by omega
      have f3:(65:Int)≤((s[k].toNat:Nat):Int):=by omega
      have f4:¬((s[k].toNat:Nat):Int)≤90:=by omega
      exact IntIz3
     ·
      have HN:=hide (headOk_succ HH.out Hk.out (.inr ⟨hk0,digB_yes (by omega)⟩))
      have f1:¬(97:Int)≤((s[k].toNat:Nat):Int):=by omega
      have f2:((s[k].toNat:Nat):Int)≤122:=by omega
      have f3:¬(65:Int)≤((s[k].toNat:Nat):Int):=by omega
      have f4:((s[k].toNat:Nat):Int)≤90:=by omega
      have f5:(((s[k].toNat:Nat):Int) == 95)=false:=beq_eq_false_iff_ne.2 (by omega)
      have f6:¬((s[k].toNat:Nat):Int) < 48:=by omega
      have f7:¬(57:Int) < ((s[k].toNat:Nat):Int):=by omega
      clear hl
      go_wp2_with fail
      exact IntIz1
     ·
      have hn:=hide (identB_no Hk.out hl (.inr (digB_no (by omega))))
      have f1:¬(97:Int)≤((s[k].toNat:Nat):Int):=by omega
      have f2:((s[k].toNat:Nat):Int)≤122:=by omega
      have f3:¬(65:Int)≤((s[k].toNat:Nat):Int):=by omega
      have f4:((s[k].toNat:Nat):Int)≤90:=by omega
      have f5:(((s[k].toNat:Nat):Int) == 95)=false:=beq_eq_false_iff_ne.2 (by omega)
      have f6:((s[k].toNat:Nat):Int) < 48:=by omega
      have f7:¬(57:Int) < ((s[k].toNat:Nat):Int):=by omega
      clear hl
      go_wp2_with fail
      exact IntIz0
     ·
      have hn:=hide (identB_no Hk.out hl (.inr (digB_no (by omega))))
      have f1:¬(97:Int)≤((s[k].toNat:Nat):Int):=by omega
      have f2:((s[k].toNat:Nat):Int)≤122:=by omega
      have f3:¬(65:Int)≤((s[k].toNat:Nat):Int):=by omega
      have f4:((s[k].toNat:Nat):Int)≤90:=by omega
      exact IntIz3
   ·
    have HN:=hide (headOk_succ HH.out Hk.out (.inl hl))
    have hy:(((s[k].toNat:Nat):Int)=95)∨(65≤((s[k].toNat:Nat):Int)∧((s[k].toNat:Nat):Int)≤90)∨(97≤((s[k].toNat:Nat):Int)∧((s[k].toNat:Nat):Int)≤122):=of_decide_eq_true hl
    rcases hy with hy | hy | hy
    ·
     have f1:¬(97:Int)≤((s[k].toNat:Nat):Int):=by omega
     have f2:((s[k].toNat:Nat):Int)≤122:=by omega
     have f3:(65:Int)≤((s[k].toNat:Nat):Int):=by omega
     have f4:¬((s[k].toNat:Nat):Int)≤90:=by omega
     have f5:(((s[k].toNat:Nat):Int) == 95)=true:=beq_iff_eq.2 (by omega)
     exact IntIz4
    ·
     have f1:¬(97:Int)≤((s[k].toNat:Nat):Int):=by omega
     have f2:((s[k].toNat:Nat):Int)≤122:=by omega
     have f3:(65:Int)≤((s[k].toNat:Nat):Int):=by omega
     have f4:((s[k].toNat:Nat):Int)≤90:=by omega
     have f5:(((s[k].toNat:Nat):Int) == 95)=false:=beq_eq_false_iff_ne.2 (by omega)
     exact IntIz4
    ·
     have f1:(97:Int)≤((s[k].toNat:Nat):Int):=by omega
     have f2:((s[k].toNat:Nat):Int)≤122:=by omega
     have f3:(65:Int)≤((s[k].toNat:Nat):Int):=by omega
     have f4:¬((s[k].toNat:Nat):Int)≤90:=by omega
     have f5:(((s[k].toNat:Nat):Int) == 95)=false:=beq_eq_false_iff_ne.2 (by omega)
     exact IntIz4
  ·
   obtain rfl:k=s.size:=by omega
   by_cases h1:1≤s.size
   ·
    have h1':(1:Int)≤(s.size:Int):=by omega
    by_cases h2:s.size≤255
    ·
     have h2':(s.size:Int)≤255:=by omega
     have hn:=hide (identB_yes h1 h2 HH.out)
     go_wp2_with fail
     exact IntIz0
    ·
     have h2':¬(s.size:Int)≤255:=by omega
     have hn:=hide (identB_long (s:=s) (.inr (by omega)))
     go_wp2_with fail
     exact IntIz0
   ·
    have h1':¬(1:Int)≤(s.size:Int):=by omega
    have hn:=hide (identB_long (s:=s) (.inl (by omega)))
    go_wp2_with fail
    exact IntIz0
theorem RefIdent_is {s:ByteArray} {b:Bool} (h:identB s=b) (w:World) (hs:s.size≤maxLen) :
 Calls Tryz.prog 94 #[.string s] w fun e w'=>e=.returned (.bool b)∧w=w':=h ▸ RefIdent_any s w hs
structure CRat (w:World) (g:Nat) (A:Option Addr) (n c p:Nat) (xs:List Int) (e:Int):Prop where
 c0:w.cell? ⟨g,0,none⟩=some (.slice A n c)
 c1:w.cell? ⟨g,1,none⟩=some (.int .i64 (p:Int))
 c2:w.cell? ⟨g,2,none⟩=some (.int .i64 e)
 fr:∀ j,w.frozen? ⟨g,j,none⟩=false
 lt:g < w.heap.size
 nc:n≤c
 cm:c≤maxLen
 pn:p≤n
 byt:Byt xs
 rd:Rd w g A n (u8s xs)
 sm:n≤1099511627776
def CR (w:World) (g:Nat) (ys:List Int) (e:Int):Prop:=
 ∃ (A:Option Addr) (n c p:Nat) (xs:List Int),CRat w g A n c p xs e∧(e=0→ys=xs.drop p)∧(e≠0→ys=[])
section
variable {w w':World} {g n c p:Nat} {A:Option Addr} {xs ys:List Int} {e:Int}
theorem CRat.len (h:CRat w g A n c p xs e):xs.length=n:=by simpa using h.rd.1
theorem CRat.keep (h:CRat w g A n c p xs e) (hs:w.heap.size≤w'.heap.size) (hk:∀ q:Addr,q.block≤g→w'.cell? q=w.cell? q) (hf:∀ q:Addr,q.block≤g→w'.frozen? q=w.frozen? q):CRat w' g A n c p xs e:=
 ⟨(hk _ (Nat.le_refl _)).trans h.c0,(hk _ (Nat.le_refl _)).trans h.c1,(hk _ (Nat.le_refl _)).trans h.c2,fun j=>(hf _ (Nat.le_refl _)).trans (h.fr j),Nat.lt_of_lt_of_le h.lt hs,h.nc,h.cm,h.pn,h.byt,
  h.rd.keep (fun q hq=>hk q (Nat.le_of_lt hq)),h.sm⟩
theorem CR.keep (h:CR w g ys e) (hs:w.heap.size≤w'.heap.size) (hk:∀ q:Addr,q.block≤g→w'.cell? q=w.cell? q) (hf:∀ q:Addr,q.block≤g→w'.frozen? q=w.frozen? q):CR w' g ys e:=by
 obtain ⟨A,n,c,p,xs,h,r⟩:=h
 exact ⟨A,n,c,p,xs,h.keep hs hk hf,r⟩
theorem CR.lt (h:CR w g ys e):g < w.heap.size:=by
 obtain ⟨A,n,c,p,xs,h,r⟩:=h
 exact h.lt
theorem CR.below {B:Nat} (h:CR w g ys e) (hb:Below B w w') (hB:g < B):CR w' g ys e:=
 h.keep hb.size (fun q hq=>hb.cell (by omega)) (fun q hq=>hb.frozen (by omega))
theorem CR.byt (h:CR w g ys e):Byt ys:=by
 obtain ⟨A,n,c,p,xs,h,r1,r2⟩:=h
 by_cases he:e=0
 ·
  rw [r1 he];exact h.byt.drop p
 ·
  rw [r2 he];exact Byt.nil
theorem CRat.note (h:CRat w g A n c p xs e) (f:Int):CRat (w.setCell ⟨g,2,none⟩ (.int .i64 f)) g A n c p xs f where
 c0:=(World.cell?_setCell_other _ _ _ _ (by simp)).trans h.c0
 c1:=(World.cell?_setCell_other _ _ _ _ (by simp)).trans h.c1
 c2:=World.cell?_setCell_same _ _ _ h.c2
 fr:=fun j=>by rw [World.frozen?_setCell];exact h.fr j
 lt:=by simpa [World.setCell] using h.lt
 nc:=h.nc
 cm:=h.cm
 pn:=h.pn
 byt:=h.byt
 rd:=h.rd.keep fun q hq=>World.cell?_setCell_other _ _ _ _ (by rintro rfl;simp at hq)
 sm:=h.sm
theorem CRat.drewN (h:CRat w g A n c p xs e) (k:Nat):CRat (w.drewN k) g A n c p xs e:=⟨h.c0,h.c1,h.c2,h.fr,h.lt,h.nc,h.cm,h.pn,h.byt,h.rd,h.sm⟩
theorem CR.note (h:CR w g ys e) (f:Int) (hf:f≠0):CR (w.setCell ⟨g,2,none⟩ (.int .i64 f)) g [] f:=by
 obtain ⟨A,n,c,p,xs,h,r1,r2⟩:=h
 exact ⟨A,n,c,p,xs,h.note f,fun h0=>absurd h0 hf,fun _=>rfl⟩
end
def ErrOf (w:World) (q:Option Addr) (e:Int):Prop:=(q=none∧e=1)∨∃ g,q=some ⟨g,0,none⟩∧g < w.heap.size∧w.cell? ⟨g,2,none⟩=some (.int .i64 e)
theorem ErrOf.alloc {w:World} {q:Option Addr} {e:Int} (h:ErrOf w q e) (o:Obj):ErrOf (w.alloc o) q e:=by
 rcases h with h | ⟨g,h1,h2,h3⟩
 ·
  exact .inl h
 ·
  exact .inr ⟨g,h1,by simp;omega,(World.cell?_alloc_lt w o _ h2).trans h3⟩
theorem CRat.left {w:World} {g n c p:Nat} {A:Option Addr} {xs ys:List Int} {e:Int} (h:CRat w g A n c p xs e) (hy:ys=xs.drop p):((ys.length:Nat):Int)=(n:Int) - (p:Int):=by
 rw [hy,List.length_drop,h.len]
 have:=h.pn
 omega
theorem CR.drewN {w:World} {g:Nat} {ys:List Int} {e:Int} (h:CR w g ys e) (k:Nat):CR (w.drewN k) g ys e:=by
 obtain ⟨A,n,c,p,xs,h,r⟩:=h
 exact ⟨A,n,c,p,xs,h.drewN k,r⟩
theorem eqS_def (a b:ByteArray):(a.toList == b.toList)=decide (a=b):=by
 rw [Bool.eq_iff_iff,beq_iff_eq,decide_eq_true_iff,ByteArray.toList_eq,ByteArray.toList_eq]
 exact ⟨fun h=>key_inj h,fun h=>by rw [h]⟩
abbrev sV (L:List ByteArray):List Value:=L.map Value.string
theorem sV_one (L:List ByteArray):∀ u∈sV L,u.oneCell'=true:=by
 intro u hu
 obtain ⟨s,_,rfl⟩:=List.mem_map.1 hu
 rfl
theorem infoS:(Tryz.prog.info? 9).map (fun i=>(i.zero,i.size,i.bytes))=some (some (.string .empty),1,16):=by kernel_rfl
theorem sV_at {L:List ByteArray} {k:Nat} {s:ByteArray} (h:L[k]?=some s):(sV L)[k]?=some (.string s):=by rw [List.getElem?_map,h];rfl
theorem sV_len {w:World} {B n:Nat} {A:Option Addr} {L:List ByteArray} (h:Rd w B A n (sV L)):L.length=n:=by simpa using h.1
theorem Rd.str {w:World} {B n:Nat} {A:Option Addr} {L:List ByteArray} (h:Rd w B A n (sV L)) {k:Nat} {s:ByteArray} (hs:L[k]?=some s):∃ b o,A=some ⟨b,o,none⟩∧b < B∧w.cell? ⟨b,o+k,none⟩=some (.string s):=h.cell (sV_at hs)
structure TabAt (w:World) (g:Nat) (A:Option Addr) (n c:Nat) (L:List ByteArray):Prop where
 c0:w.cell? ⟨g,0,none⟩=some (.slice A n c)
 lt:g < w.heap.size
 nc:n≤c
 cm:c≤maxLen
 rd:Rd w g A n (sV L)
def Tab (w:World) (g:Nat) (L:List ByteArray):Prop:=∃ A n c,TabAt w g A n c L
theorem TabAt.len {w:World} {g n c:Nat} {A:Option Addr} {L:List ByteArray} (h:TabAt w g A n c L):L.length=n:=sV_len h.rd
theorem Tab.below {w w':World} {g B:Nat} {L:List ByteArray} (h:Tab w g L) (hb:Below B w w') (hB:g < B):Tab w' g L:=by
 obtain ⟨A,n,c,h⟩:=h
 exact ⟨A,n,c,(hb.cell hB).trans h.c0,Nat.lt_of_lt_of_le h.lt hb.size,h.nc,h.cm,h.rd.below (hb.mono (by omega))⟩
theorem Tab.lt {w:World} {g:Nat} {L:List ByteArray} (h:Tab w g L):g < w.heap.size:=by obtain ⟨A,n,c,h⟩:=h;exact h.lt
theorem strLit (w:World) (cs:List Value) (t:TypeId):∀ j u,cs[j]?=some u→(w.alloc (.cells cs.toArray t)).cell? ((⟨w.heap.size,0,none⟩:Addr).add j)=some u:=by
 intro j u hu
 have e:(⟨w.heap.size,0,none⟩:Addr).add j=⟨w.heap.size,0+j,none⟩:=by unfold Addr.add;split <;> simp_all
 rw [e,cell_of_row (w.alloc (.cells cs.toArray t)) w.heap.size (0+j) cs.toArray t (0,0) (heap_alloc_new w _)]
 simpa using hu
theorem sV_app9 (X Y:List ByteArray):sV X++sV Y=sV (X++Y):=List.map_append.symm
end Go.Proofs.YteeemjmohjkdpaaGreatDoor
