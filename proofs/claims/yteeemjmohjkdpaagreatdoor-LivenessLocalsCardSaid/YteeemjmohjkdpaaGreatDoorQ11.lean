/- Part 12 of the contracts and their mathematics. -/
import Derived.Test.YteeemjmohjkdpaaGreatDoorQ8
set_option linter.unusedVariables false
set_option linter.unusedSimpArgs false
set_option maxRecDepth 100000
set_option maxHeartbeats 8000000
namespace Go.Proofs.YteeemjmohjkdpaaGreatDoor
open Go.RowKit
theorem RDefines_any (x:BdW) (p:Int) (w:World) (hx:OneBd w w.heap.size x) (hN:ptCount x.v.blocks≤2 ^ 62) (hI:IntR p) :
    Calls Tryz.prog 12 #[aggBd x,.int .i64 p] w fun e w'=>e=.returned (vDef (defI x.v.blocks p))∧Below w.heap.size w w':=by
  obtain ⟨BL,hBL⟩:∃ l,x.v.blocks=l:=⟨_,rfl⟩
  have hbl:=bk_len hx
  have hbm:=hx.blocks.nm
  unfold maxLen at hbm
  obtain ⟨r,hr⟩:∃ r,ptLocI BL p=r:=⟨_,rfl⟩
  have HLO:=hide fun (w':World) (y:Below w.heap.size w w')=>(show Calls Tryz.prog 35 #[aggBd x,.int .i64 p] w' fun e w2=>e=.returned (vLoc r)∧Below w'.heap.size w' w2 from by
    have h:=RLocate_any x p w' (hx.up y) hN hI
    rw [hBL,hr] at h
    exact h)
  rw [hBL] at hN hbl ⊢
  have HBV:=hide hBL
  have HR:=hide hr
  obtain ⟨nm,⟨rA,rn,rc,rL⟩,⟨oA,on,oc,oL⟩,⟨tA,tm,tc,tL⟩,⟨lA,ln,lc,lL⟩,ar,⟨bA,bn,bc,bL⟩⟩:=x
  have HBL:=hide (show BL.length=bn from hbl)
  have hbm:bn≤2 ^ 63 - 1:=hbm
  have HB:=hide (below1 w (.cells #[.string nm,.slice rA rn rc,.slice oA on oc,.slice tA tm tc,.slice lA ln lc,.int .i64 ar,.slice bA bn bc] 28))
  have HX:=hide (hx.up HB.out)
  have HC:=hide fun (w':World) (y:Below (w.alloc (.cells #[.string nm,.slice rA rn rc,.slice oA on oc,.slice tA tm tc,.slice lA ln lc,.int .i64 ar,.slice bA bn bc] 28)).heap.size (w.alloc (.cells #[.string nm,.slice rA rn rc,.slice oA on oc,.slice tA tm tc,.slice lA ln lc,.int .i64 ar,.slice bA bn bc] 28)) w')=>cells7 y
  obtain ⟨x0,x1,x2,x3,x4,x5,x6⟩:=HC.out _ (Below.refl _ _)
  clear hBL hbl hN hx hr
  cases r with
  | none=>
    have HV:=hide (show defI BL p=none from by unfold defI;exact atI_none HR.out)
    go_enter Tryz.func12,Tryz.ntmps12
    go_wp2_with fail
    refine (HLO.out _ HB.out).mono ?_
    rintro e w1 ⟨rfl,hb1⟩
    have HB3:=hide (HB.out.trans (hb1.mono HB.out.size))
    clear hb1 x0 x1 x2 x3 x4 x5 x6
    unfold vLoc
    go_wp2
    go_ret2
    exact ⟨by rw [HV.out];rfl,HB3.out⟩
  | some z=>
  obtain ⟨i,k⟩:=z
  have hi:i < bn:=by
    have h1:=ptLocI_lt HR.out
    have h2:BL.length=bn:=HBL.out
    omega
  obtain ⟨pb,b,o,_,hpv,hps,hpm,hA,hb,h1b,hc⟩:=bk_at HX.out hi
  have hA:bA=some ⟨b,o,none⟩:=hA
  subst hA
  have hpv:BL[i]?=some pb.v:=HBV.out ▸ hpv
  obtain ⟨hp0,b',hb',hk,hpk⟩:=ptLocI_some HR.out
  have e':some pb.v=some b':=hpv.symm.trans hb'
  injection e' with e'
  subst e'
  have HPV:=hide hpv
  rw [hps] at hk
  obtain ⟨⟨sA,sn,sc,sL⟩,tmr⟩:=pb
  have hk:k≤sn:=hk
  have hpm:sn≤maxLen:=hpm
  unfold maxLen at hpm
  have HSL:=hide (show sL.length=sn from h1b.stmts.len)
  have HSTS:=hide h1b.stmts
  have HTM:=hide h1b.term
  have HCT:=hide fun (w':World) (y:Below (w.alloc (.cells #[.string nm,.slice rA rn rc,.slice oA on oc,.slice tA tm tc,.slice lA ln lc,.int .i64 ar,.slice (some ⟨b,o,none⟩) bn bc] 28)).heap.size (w.alloc (.cells #[.string nm,.slice rA rn rc,.slice oA on oc,.slice tA tm tc,.slice lA ln lc,.int .i64 ar,.slice (some ⟨b,o,none⟩) bn bc] 28)) w') (j:Nat) (u:Value) (hu:(cTm tmr)[j]?=some u)=>(show w'.cell? ⟨b,o+i*7+(j+1),none⟩=some u from (y.cell (p:=⟨b,o+i*7+(j+1),none⟩) hb).trans (hc (j+1) u hu))
  have HCS:=hide fun (w':World) (y:Below (w.alloc (.cells #[.string nm,.slice rA rn rc,.slice oA on oc,.slice tA tm tc,.slice lA ln lc,.int .i64 ar,.slice (some ⟨b,o,none⟩) bn bc] 28)).heap.size (w.alloc (.cells #[.string nm,.slice rA rn rc,.slice oA on oc,.slice tA tm tc,.slice lA ln lc,.int .i64 ar,.slice (some ⟨b,o,none⟩) bn bc] 28)) w')=>(show w'.cell? ⟨b,o+i*7,none⟩=some (.slice sA sn sc) from (y.cell (p:=⟨b,o+i*7,none⟩) hb).trans (hc 0 _ rfl))
  have hi':(i:Int) < (bn:Int):=by omega
  have hi0:(0:Int)≤(i:Int):=by omega
  clear hpv hps hb hc hb' hpk h1b
  go_enter Tryz.func12,Tryz.ntmps12
  go_wp2_with fail
  refine (HLO.out _ HB.out).mono ?_
  rintro e w1 ⟨rfl,hb1⟩
  have HW1:=hide hb1
  have HB1:=hide (HB.out.trans (hb1.mono HB.out.size))
  clear hb1 x0 x1 x2 x3 x4 x5 x6
  unfold vLoc
  obtain ⟨y0,y1,y2,y3,y4,y5,y6⟩:=HC.out _ HW1.out
  have c0:=HCS.out _ HW1.out
  by_cases hks:k < sn
  · have hks':(k:Int) < (sn:Int):=by omega
    have hk0:(0:Int)≤(k:Int):=by omega
    obtain ⟨s,hs⟩:∃ s,sL[k]?=some s:=⟨_,List.getElem?_eq_getElem (by rw [HSL.out];exact hks)⟩
    obtain ⟨gs,zs,hgA,hgB,h1s,hgc⟩:=HSTS.out.at_ hs
    have hgA:sA=some ⟨gs,zs,none⟩:=hgA
    subst hgA
    have hgB:gs < (w.alloc (.cells #[.string nm,.slice rA rn rc,.slice oA on oc,.slice tA tm tc,.slice lA ln lc,.int .i64 ar,.slice (some ⟨b,o,none⟩) bn bc] 28)).heap.size:=hgB
    have hsv:(BkW.v ⟨⟨some ⟨gs,zs,none⟩,sn,sc,sL⟩,tmr⟩).stmts[k]?=some s.v:=by
      show (sL.map StW.v)[k]?=some s.v
      rw [List.getElem?_map,hs]
      rfl
    have HSV:=hide hsv
    have HS1:=hide h1s
    obtain ⟨kd,⟨l,pA,pn,pc,ps⟩,⟨rk,ro,rr,rm,⟨ql,qA,qn,qc,qs⟩,⟨aA,an,ac,aL⟩⟩,loc⟩:=s
    have g0:=(HW1.out.cell (p:=⟨gs,zs+k*11,none⟩) hgB).trans (hgc 0 _ rfl)
    have g1:=(HW1.out.cell (p:=⟨gs,zs+k*11+1,none⟩) hgB).trans (hgc 1 _ rfl)
    have g2:=(HW1.out.cell (p:=⟨gs,zs+k*11+2,none⟩) hgB).trans (hgc 2 _ rfl)
    have g3:=(HW1.out.cell (p:=⟨gs,zs+k*11+3,none⟩) hgB).trans (hgc 3 _ rfl)
    have g4:=(HW1.out.cell (p:=⟨gs,zs+k*11+4,none⟩) hgB).trans (hgc 4 _ rfl)
    have g5:=(HW1.out.cell (p:=⟨gs,zs+k*11+5,none⟩) hgB).trans (hgc 5 _ rfl)
    have g6:=(HW1.out.cell (p:=⟨gs,zs+k*11+6,none⟩) hgB).trans (hgc 6 _ rfl)
    have g7:=(HW1.out.cell (p:=⟨gs,zs+k*11+7,none⟩) hgB).trans (hgc 7 _ rfl)
    have g8:=(HW1.out.cell (p:=⟨gs,zs+k*11+8,none⟩) hgB).trans (hgc 8 _ rfl)
    have g9:=(HW1.out.cell (p:=⟨gs,zs+k*11+9,none⟩) hgB).trans (hgc 9 _ rfl)
    have g10:=(HW1.out.cell (p:=⟨gs,zs+k*11+10,none⟩) hgB).trans (hgc 10 _ rfl)
    have hb3:=below1 w1 (.cells #[.int .i64 kd,.int .i64 l,.slice pA pn pc,.int .i64 rk,.int .i64 ro,.int .i64 rr,.bool rm,.int .i64 ql,.slice qA qn qc,.slice aA an ac,.int .i64 loc] 73)
    have HB3:=hide (HB1.out.trans (hb3.mono HB1.out.size))
    have HW3:=hide (HW1.out.trans (hb3.mono HW1.out.size))
    have hbx:=Bx.new w1 [.int .i64 kd,.int .i64 l,.slice pA pn pc,.int .i64 rk,.int .i64 ro,.int .i64 rr,.bool rm,.int .i64 ql,.slice qA qn qc,.slice aA an ac,.int .i64 loc] 73
    have HBXS:=hide hbx
    have hpsl:ps.length=pn:=h1s.pl.prs.len
    have hpn0:pn≤maxLen:=Nat.le_trans h1s.pl.nc h1s.pl.cm
    unfold maxLen at hpn0
    simp only [Nat.add_zero] at g0
    clear hs hsv h1s hgc hb3
    have b0:=hbx.cell (j:=0) rfl
    have b1:=hbx.cell (j:=1) rfl
    have b2:=hbx.cell (j:=2) rfl
    have b3:=hbx.cell (j:=3) rfl
    have b4:=hbx.cell (j:=4) rfl
    have b5:=hbx.cell (j:=5) rfl
    have b6:=hbx.cell (j:=6) rfl
    have b7:=hbx.cell (j:=7) rfl
    have b8:=hbx.cell (j:=8) rfl
    have b9:=hbx.cell (j:=9) rfl
    have b10:=hbx.cell (j:=10) rfl
    clear hbx
    by_cases h1:kd=1
    · have HV := hide (show defI BL p = some loc from by
        unfold defI
        rw [atI_some HR.out HPV.out]
        unfold defAt
        rw [HSV.out]
        exact if_pos h1)
      have t1:(kd == 1)=true:=by simp [h1]
      clear h1
      go_wp2
      go_ret2
      exact ⟨by rw [HV.out];rfl,HB3.out⟩
    have t1:(kd == 1)=false:=by simpa using h1
    by_cases h0:kd=0∧pn=0
    · have HV := hide (show defI BL p = some l from by
        unfold defI
        rw [atI_some HR.out HPV.out]
        unfold defAt
        rw [HSV.out]
        show (if kd=1 then some loc else if kd=0∧ps.length=0 then some l else none)=_
        rw [if_neg h1,hpsl,if_pos h0])
      have t0:(kd == 0)=true:=by simp [h0.1]
      have t2:((pn:Int) == 0)=true:=by simp [h0.2]
      clear h1 h0
      go_wp2
      go_ret2
      exact ⟨by rw [HV.out];rfl,HB3.out⟩
    · have HV := hide (show defI BL p = none from by
        unfold defI
        rw [atI_some HR.out HPV.out]
        unfold defAt
        rw [HSV.out]
        show (if kd=1 then some loc else if kd=0∧ps.length=0 then some l else none)=_
        rw [if_neg h1,hpsl,if_neg h0])
      by_cases h00:kd=0
      · have t0:(kd == 0)=true:=by simp [h00]
        have t2:((pn:Int) == 0)=false:=by
          have h3:¬pn=0:=fun e=>h0 ⟨h00,e⟩
          simpa using h3
        clear h1 h0 h00
        go_wp2
        go_ret2
        exact ⟨by rw [HV.out];rfl,HB3.out⟩
      · have t0:(kd == 0)=false:=by simpa using h00
        clear h1 h0 h00
        go_wp2
        go_ret2
        exact ⟨by rw [HV.out];rfl,HB3.out⟩
  · have hks':¬(k:Int) < (sn:Int):=by omega
    have hsv:(BkW.v ⟨⟨sA,sn,sc,sL⟩,tmr⟩).stmts[k]?=none:=by
      show (sL.map StW.v)[k]?=none
      rw [List.getElem?_eq_none]
      rw [List.length_map,HSL.out]
      omega
    have HSV:=hide hsv
    have HCT1:=hide fun (j:Nat) (u:Value) (hu:(cTm tmr)[j]?=some u)=>HCT.out w1 HW1.out j u hu
    have HT1:=hide HTM.out
    obtain ⟨tk,⟨xA,xn,xc,xL⟩,⟨gA,gn,gc,gL⟩,⟨l,pA,pn,pc,ps⟩,tnm⟩:=tmr
    have g0:=HCT1.out 0 _ rfl
    have g1:=HCT1.out 1 _ rfl
    have g2:=HCT1.out 2 _ rfl
    have g3:=HCT1.out 3 _ rfl
    have g4:=HCT1.out 4 _ rfl
    have g5:=HCT1.out 5 _ rfl
    simp only [Nat.zero_add,Nat.reduceAdd] at g0 g1 g2 g3 g4 g5
    have hb3:=below1 w1 (.cells #[.int .i64 tk,.slice xA xn xc,.slice gA gn gc,.int .i64 l,.slice pA pn pc,.string tnm] 60)
    have HB3:=hide (HB1.out.trans (hb3.mono HB1.out.size))
    have HW3:=hide (HW1.out.trans (hb3.mono HW1.out.size))
    have hbx:=Bx.new w1 [.int .i64 tk,.slice xA xn xc,.slice gA gn gc,.int .i64 l,.slice pA pn pc,.string tnm] 60
    have HBXT:=hide hbx
    have hpsl:ps.length=pn:=HT1.out.pl.prs.len
    have hpn0:pn≤maxLen:=Nat.le_trans HT1.out.pl.nc HT1.out.pl.cm
    unfold maxLen at hpn0
    clear hsv hb3
    have b0:=hbx.cell (j:=0) rfl
    have b1:=hbx.cell (j:=1) rfl
    have b2:=hbx.cell (j:=2) rfl
    have b3:=hbx.cell (j:=3) rfl
    have b4:=hbx.cell (j:=4) rfl
    have b5:=hbx.cell (j:=5) rfl
    clear hbx
    by_cases h0:tk=3∧pn=0
    · have HV := hide (show defI BL p = some l from by
        unfold defI
        rw [atI_some HR.out HPV.out]
        unfold defAt
        rw [HSV.out]
        show (if tk=3∧ps.length=0 then some l else none)=_
        rw [hpsl,if_pos h0])
      have t0:(tk == 3)=true:=by simp [h0.1]
      have t2:((pn:Int) == 0)=true:=by simp [h0.2]
      clear h0
      go_wp2
      go_ret2
      exact ⟨by rw [HV.out];rfl,HB3.out⟩
    · have HV := hide (show defI BL p = none from by
        unfold defI
        rw [atI_some HR.out HPV.out]
        unfold defAt
        rw [HSV.out]
        show (if tk=3∧ps.length=0 then some l else none)=_
        rw [hpsl,if_neg h0])
      by_cases h00:tk=3
      · have t0:(tk == 3)=true:=by simp [h00]
        have t2:((pn:Int) == 0)=false:=by
          have h3:¬pn=0:=fun e=>h0 ⟨h00,e⟩
          simpa using h3
        clear h0 h00
        go_wp2
        go_ret2
        exact ⟨by rw [HV.out];rfl,HB3.out⟩
      · have t0:(tk == 3)=false:=by simpa using h00
        clear h0 h00
        go_wp2
        go_ret2
        exact ⟨by rw [HV.out];rfl,HB3.out⟩
end Go.Proofs.YteeemjmohjkdpaaGreatDoor
