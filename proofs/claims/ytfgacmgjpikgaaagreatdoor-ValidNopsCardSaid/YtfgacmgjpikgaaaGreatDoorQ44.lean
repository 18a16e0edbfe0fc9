/- Part 45 of the contracts and their mathematics. -/
import Derived.Test.YtfgacmgjpikgaaaGreatDoorQ22
import Derived.Test.YtfgacmgjpikgaaaGreatDoorQ31
set_option linter.unusedVariables false
set_option linter.unusedSimpArgs false
set_option maxRecDepth 100000
set_option maxHeartbeats 8000000
namespace Go.Proofs.YtfgacmgjpikgaaaGreatDoor
open Go.RowKit
theorem Rblank_is {x:RvW} {v:Bool} (h:noR x.v=v) (w:World) (hx:OneRv w w.heap.size x) :
 Calls Tryz.prog 41 #[aggRv x] w fun e w'=>e=.returned (.bool v)∧Below w.heap.size w w':=h ▸ Rblank_any x w hx
theorem Rshape_is {x:RvW} {v:Int} (h:shErr x.v=v) (w:World) (hx:OneRv w w.heap.size x) :
 Calls Tryz.prog 62 #[aggRv x] w fun e w'=>e=.returned (.int .i64 v)∧Below w.heap.size w w':=h ▸ Rshape_any x w hx
theorem ValSz4 {P:Prop} (h:P:=by
 rintro e2 w2 ⟨rfl,hb2⟩
 have HW2:=hide (HW1.out.trans (hb2.mono HW1.out.size))
 clear hb2
 obtain ⟨b2_0,b2_1,b2_2,b2_3,b2_4,b2_5,b2_6,r2_0,r2_1,r2_2,r2_3,r2_4,r2_5,r2_6,r2_7,r2_8,r2_9,r2_10⟩:=tw711 HW2.out
 go_wp2
 go_ret
 exact ⟨rfl,HB.out.trans (HW2.out.mono HB.out.size)⟩):P:=h
def RAsg:Prop:=∀ (x:BdW) (r:RvW) (i:Nat) (ty:TyW) (v:Int) (w:World),VB w x→OneRv w w.heap.size r→x.types.L[i]?=some ty→asErr (wE x) r.v (i:Int)=v →
 Calls Tryz.prog 40 #[aggBd x,aggRv r,.int .i64 (i:Int)] w fun e w'=>e=.returned (.int .i64 v)∧Below w.heap.size w w'
theorem ValSz2 {P:Prop} (h:P:=by
 go_enter Tryz.func18,Tryz.ntmps18
 go_wp2_with fail
 refine (Rnone_is (x:=⟨l,pA,pn,pc,ps⟩) hz _ HR.out.pl).mono ?_
 rintro e1 w1 ⟨rfl,hb1⟩
 have HW1:=hide hb1
 clear hb1
 obtain ⟨b1_0,b1_1,b1_2,b1_3,b1_4,b1_5,b1_6,r1_0,r1_1,r1_2,r1_3,r1_4,r1_5,r1_6,r1_7,r1_8,r1_9,r1_10⟩:=tw711 HW1.out
 go_wp2_with fail
 refine (Rblank_is (x:=⟨rk,op,rg,mu,⟨rl,qA,qn,qc,qs⟩,⟨gA,gn,gc,gL⟩⟩) HRB.out _ (HR.out.rv.up HW1.out)).mono ?_
 exact ValSz4):P:=h
theorem ValSz3 {P:Prop} (h:P:=by
 rintro e1 w1 ⟨rfl,hb1⟩
 have HW1:=hide hb1
 clear hb1
 obtain ⟨b1_0,b1_1,b1_2,b1_3,b1_4,b1_5,b1_6,r1_0,r1_1,r1_2,r1_3,r1_4,r1_5,r1_6,r1_7,r1_8,r1_9,r1_10⟩:=tw711 HW1.out
 go_wp2
 go_ret
 exact ⟨rfl,HB.out.trans (HW1.out.mono HB.out.size)⟩):P:=h
theorem ValSz0 {P:Prop} (h:P:=by
 have HB:=hide (two_below w [.string nm,.slice rA rn rc,.slice oA on oc,.slice tA tm tc,.slice lA ln lc,.int .i64 ar,.slice bA bn bc] 28 [.int .i64 (1),.int .i64 l,.slice pA pn pc,.int .i64 rk,.int .i64 op,.int .i64 rg,.bool mu,.int .i64 rl,.slice qA qn qc,.slice gA gn gc,.int .i64 lo] 46)
 have HR:=hide (HS.out.up HB.out)
 exact ValSz2):P:=h
theorem ValSz1 {P:Prop} (h:P:=by
 have HB:=hide (two_below w [.string nm,.slice rA rn rc,.slice oA on oc,.slice tA tm tc,.slice lA ln lc,.int .i64 ar,.slice bA bn bc] 28 [.int .i64 (2),.int .i64 l,.slice pA pn pc,.int .i64 rk,.int .i64 op,.int .i64 rg,.bool mu,.int .i64 rl,.slice qA qn qc,.slice gA gn gc,.int .i64 lo] 46)
 have HR:=hide (HS.out.up HB.out)
 exact ValSz2):P:=h
theorem ValSz5 {P:Prop} (h:P:=by
 go_enter Tryz.func18,Tryz.ntmps18
 go_wp2_with fail
 refine (Rnone_is (x:=⟨l,pA,pn,pc,ps⟩) hz _ HR.out.pl).mono ?_
 exact ValSz3):P:=h
theorem RStmt_of (hA:RAsg) {x:BdW} {s:StW} {v:Int} {w:World} (h:VB w x) (hs:OneSt w w.heap.size s) (hv:stErr (wE x) s.v=v) :
 Calls Tryz.prog 18 #[aggBd x,aggSt s] w fun e w'=>e=.returned (.int .i64 v)∧Below w.heap.size w w':=by
 have hll:=h.one.locals.len
 have hlm:=h.one.locals.nm
 unfold maxLen at hlm
 obtain ⟨nm,⟨rA,rn,rc,rL⟩,⟨oA,on,oc,oL⟩,⟨tA,tm,tc,tL⟩,⟨lA,ln,lc,lL⟩,ar,⟨bA,bn,bc,bL⟩⟩:=x
 obtain ⟨k,⟨l,pA,pn,pc,ps⟩,⟨rk,op,rg,mu,⟨rl,qA,qn,qc,qs⟩,⟨gA,gn,gc,gL⟩⟩,lo⟩:=s
 have hll:lL.length=ln:=hll
 have hlm:ln≤2 ^ 63 - 1:=hlm
 have hE:(wE ⟨nm,⟨rA,rn,rc,rL⟩,⟨oA,on,oc,oL⟩,⟨tA,tm,tc,tL⟩,⟨lA,ln,lc,lL⟩,ar,⟨bA,bn,bc,bL⟩⟩).lc.length=ln:=by rw [←hll];exact List.length_map _
 have H0:=hide h
 have HS:=hide hs
 have HA:=hide hA
 by_cases h0:k=0
 case pos=>
  subst h0
  by_cases hlo:lo=0
  case neg=>
   have tl:(lo != 0)=true:=by simp [hlo]
   obtain rfl:v=2:=by
    rw [←hv]
    simp [stErr,StW.v,hlo]
   clear h hs hll hE hA hlo hv
   have HB:=hide (two_below w [.string nm,.slice rA rn rc,.slice oA on oc,.slice tA tm tc,.slice lA ln lc,.int .i64 ar,.slice bA bn bc] 28 [.int .i64 (0),.int .i64 l,.slice pA pn pc,.int .i64 rk,.int .i64 op,.int .i64 rg,.bool mu,.int .i64 rl,.slice qA qn qc,.slice gA gn gc,.int .i64 lo] 46)
   go_enter Tryz.func18,Tryz.ntmps18
   go_wp2
   go_ret
   exact ⟨rfl,HB.out⟩
  have tl:(lo != 0)=false:=by simp [hlo]
  obtain ⟨tu,htu⟩:∃ u,(tyV (wE ⟨nm,⟨rA,rn,rc,rL⟩,⟨oA,on,oc,oL⟩,⟨tA,tm,tc,tL⟩,⟨lA,ln,lc,lL⟩,ar,⟨bA,bn,bc,bL⟩⟩) (PlW.v ⟨l,pA,pn,pc,ps⟩)).1=u:=⟨_,rfl⟩
  obtain ⟨te,hte⟩:∃ u,(tyV (wE ⟨nm,⟨rA,rn,rc,rL⟩,⟨oA,on,oc,oL⟩,⟨tA,tm,tc,tL⟩,⟨lA,ln,lc,lL⟩,ar,⟨bA,bn,bc,bL⟩⟩) (PlW.v ⟨l,pA,pn,pc,ps⟩)).2=u:=⟨_,rfl⟩
  obtain ⟨mm,hmm⟩:∃ u,muV (wE ⟨nm,⟨rA,rn,rc,rL⟩,⟨oA,on,oc,oL⟩,⟨tA,tm,tc,tL⟩,⟨lA,ln,lc,lL⟩,ar,⟨bA,bn,bc,bL⟩⟩) (PlW.v ⟨l,pA,pn,pc,ps⟩)=u:=⟨_,rfl⟩
  have htv:tyV (wE ⟨nm,⟨rA,rn,rc,rL⟩,⟨oA,on,oc,oL⟩,⟨tA,tm,tc,tL⟩,⟨lA,ln,lc,lL⟩,ar,⟨bA,bn,bc,bL⟩⟩) (PlW.v ⟨l,pA,pn,pc,ps⟩)=(tu,te):=Prod.ext htu hte
  have hv9:(if te≠0 then te else if mm=false then 22 else asErr (wE ⟨nm,⟨rA,rn,rc,rL⟩,⟨oA,on,oc,oL⟩,⟨tA,tm,tc,tL⟩,⟨lA,ln,lc,lL⟩,ar,⟨bA,bn,bc,bL⟩⟩) (RvW.v ⟨rk,op,rg,mu,⟨rl,qA,qn,qc,qs⟩,⟨gA,gn,gc,gL⟩⟩) tu)=v:=by rw [←hv,← htu,← hte,← hmm,stErr_asg (s:=StW.v ⟨0,⟨l,pA,pn,pc,ps⟩,⟨rk,op,rg,mu,⟨rl,qA,qn,qc,qs⟩,⟨gA,gn,gc,gL⟩⟩,lo⟩) rfl hlo];rfl
  clear hv
  have hv:=hv9
  clear hv9
  by_cases he:te=0
  case neg=>
   have t0:(te != 0)=true:=by simp [he]
   rw [if_pos he] at hv
   obtain rfl:te=v:=hv
   clear h hs hll hE hA hlo htu hte hmm he
   have HB:=hide (two_below w [.string nm,.slice rA rn rc,.slice oA on oc,.slice tA tm tc,.slice lA ln lc,.int .i64 ar,.slice bA bn bc] 28 [.int .i64 (0),.int .i64 l,.slice pA pn pc,.int .i64 rk,.int .i64 op,.int .i64 rg,.bool mu,.int .i64 rl,.slice qA qn qc,.slice gA gn gc,.int .i64 lo] 46)
   have HX:=hide (H0.out.up HB.out)
   have HR:=hide (HS.out.up HB.out)
   have HC:=hide (RtypeOf_is HX.out HR.out.pl htv)
   clear htv
   go_enter Tryz.func18,Tryz.ntmps18
   go_wp2_with fail
   refine (HC.out).mono ?_
   exact ValSz3
  have t0:(te != 0)=false:=by simp [he]
  rw [if_neg (by omega)] at hv
  obtain ⟨i,ty,hi,hty⟩:=h.ty (p:=PlW.v ⟨l,pA,pn,pc,ps⟩) (hte.trans he)
  obtain rfl:tu=(i:Int):=htu.symm.trans hi
  have HB:=hide (two_below w [.string nm,.slice rA rn rc,.slice oA on oc,.slice tA tm tc,.slice lA ln lc,.int .i64 ar,.slice bA bn bc] 28 [.int .i64 (0),.int .i64 l,.slice pA pn pc,.int .i64 rk,.int .i64 op,.int .i64 rg,.bool mu,.int .i64 rl,.slice qA qn qc,.slice gA gn gc,.int .i64 lo] 46)
  have HX:=hide (H0.out.up HB.out)
  have HR:=hide (HS.out.up HB.out)
  have HC:=hide (RtypeOf_is HX.out HR.out.pl htv)
  have HM:=hide fun (w':World) (y:Below (two w [.string nm,.slice rA rn rc,.slice oA on oc,.slice tA tm tc,.slice lA ln lc,.int .i64 ar,.slice bA bn bc] 28 [.int .i64 (0),.int .i64 l,.slice pA pn pc,.int .i64 rk,.int .i64 op,.int .i64 rg,.bool mu,.int .i64 rl,.slice qA qn qc,.slice gA gn gc,.int .i64 lo] 46).heap.size (two w [.string nm,.slice rA rn rc,.slice oA on oc,.slice tA tm tc,.slice lA ln lc,.int .i64 ar,.slice bA bn bc] 28 [.int .i64 (0),.int .i64 l,.slice pA pn pc,.int .i64 rk,.int .i64 op,.int .i64 rg,.bool mu,.int .i64 rl,.slice qA qn qc,.slice gA gn gc,.int .i64 lo] 46) w')=>Rmutable_is (HX.out.up y) (HR.out.pl.up y) hmm
  cases mm
  case false=>
   obtain rfl:v=22:=by rw [←hv];rfl
   clear h hs hll hE hA hlo htu hte hmm htv he hv hi hty
   go_enter Tryz.func18,Tryz.ntmps18
   go_wp2_with fail
   refine (HC.out).mono ?_
   rintro e1 w1 ⟨rfl,hb1⟩
   have HW1:=hide hb1
   clear hb1
   obtain ⟨b1_0,b1_1,b1_2,b1_3,b1_4,b1_5,b1_6,r1_0,r1_1,r1_2,r1_3,r1_4,r1_5,r1_6,r1_7,r1_8,r1_9,r1_10⟩:=tw711 HW1.out
   go_wp2_with fail
   refine (HM.out _ HW1.out).mono ?_
   exact ValSz4
  case true=>
   clear h hs hll hE hA hlo htu hte hmm htv he hi
   have hv2:asErr (wE ⟨nm,⟨rA,rn,rc,rL⟩,⟨oA,on,oc,oL⟩,⟨tA,tm,tc,tL⟩,⟨lA,ln,lc,lL⟩,ar,⟨bA,bn,bc,bL⟩⟩) (RvW.v ⟨rk,op,rg,mu,⟨rl,qA,qn,qc,qs⟩,⟨gA,gn,gc,gL⟩⟩) (i:Int)=v:=hv
   clear hv
   have HQ:=hide fun (w':World) (y:Below (two w [.string nm,.slice rA rn rc,.slice oA on oc,.slice tA tm tc,.slice lA ln lc,.int .i64 ar,.slice bA bn bc] 28 [.int .i64 (0),.int .i64 l,.slice pA pn pc,.int .i64 rk,.int .i64 op,.int .i64 rg,.bool mu,.int .i64 rl,.slice qA qn qc,.slice gA gn gc,.int .i64 lo] 46).heap.size (two w [.string nm,.slice rA rn rc,.slice oA on oc,.slice tA tm tc,.slice lA ln lc,.int .i64 ar,.slice bA bn bc] 28 [.int .i64 (0),.int .i64 l,.slice pA pn pc,.int .i64 rk,.int .i64 op,.int .i64 rg,.bool mu,.int .i64 rl,.slice qA qn qc,.slice gA gn gc,.int .i64 lo] 46) w')=>HA.out _ _ _ _ _ _ (HX.out.up y) (HR.out.rv.up y) hty hv2
   clear hty hv2
   go_enter Tryz.func18,Tryz.ntmps18
   go_wp2_with fail
   refine (HC.out).mono ?_
   rintro e1 w1 ⟨rfl,hb1⟩
   have HW1:=hide hb1
   clear hb1
   obtain ⟨b1_0,b1_1,b1_2,b1_3,b1_4,b1_5,b1_6,r1_0,r1_1,r1_2,r1_3,r1_4,r1_5,r1_6,r1_7,r1_8,r1_9,r1_10⟩:=tw711 HW1.out
   go_wp2_with fail
   refine (HM.out _ HW1.out).mono ?_
   rintro e2 w2 ⟨rfl,hb2⟩
   have HW2:=hide (HW1.out.trans (hb2.mono HW1.out.size))
   clear hb2
   obtain ⟨b2_0,b2_1,b2_2,b2_3,b2_4,b2_5,b2_6,r2_0,r2_1,r2_2,r2_3,r2_4,r2_5,r2_6,r2_7,r2_8,r2_9,r2_10⟩:=tw711 HW2.out
   go_wp2_with fail
   refine (HQ.out _ HW2.out).mono ?_
   rintro e3 w3 ⟨rfl,hb3⟩
   have HW3:=hide (HW2.out.trans (hb3.mono HW2.out.size))
   clear hb3
   obtain ⟨b3_0,b3_1,b3_2,b3_3,b3_4,b3_5,b3_6,r3_0,r3_1,r3_2,r3_3,r3_4,r3_5,r3_6,r3_7,r3_8,r3_9,r3_10⟩:=tw711 HW3.out
   go_wp2
   go_ret
   exact ⟨rfl,HB.out.trans (HW3.out.mono HB.out.size)⟩
 have t0:(k == 0)=false:=by simp [h0]
 by_cases h1:k=1
 case pos=>
  subst h1
  by_cases hz:noP (PlW.v ⟨l,pA,pn,pc,ps⟩)=true
  case neg=>
   have hz:noP (PlW.v ⟨l,pA,pn,pc,ps⟩)=false:=by simpa using hz
   obtain rfl:v=2:=by
    rw [←hv]
    simp [stErr,StW.v,hz]
   clear h hs hll hE hA hv
   have HB:=hide (two_below w [.string nm,.slice rA rn rc,.slice oA on oc,.slice tA tm tc,.slice lA ln lc,.int .i64 ar,.slice bA bn bc] 28 [.int .i64 (1),.int .i64 l,.slice pA pn pc,.int .i64 rk,.int .i64 op,.int .i64 rg,.bool mu,.int .i64 rl,.slice qA qn qc,.slice gA gn gc,.int .i64 lo] 46)
   have HR:=hide (HS.out.up HB.out)
   exact ValSz5
  obtain ⟨nr,hr⟩:∃ u,noR (RvW.v ⟨rk,op,rg,mu,⟨rl,qA,qn,qc,qs⟩,⟨gA,gn,gc,gL⟩⟩)=u:=⟨_,rfl⟩
  have hrb:=hr
  have HRB:=hide hrb
  clear hrb
  cases nr
  case false=>
   obtain rfl:v=2:=by
    rw [←hv]
    simp [stErr,StW.v,hz,hr]
   clear h hs hll hE hA hr hv
   exact ValSz0
  case true=>
   have hv9:(if lo < 0∨(ln:Int)≤lo then (3:Int) else 0)=v:=by rw [←hv,← hE];show _=(if noP (PlW.v ⟨l,pA,pn,pc,ps⟩)=false∨noR (RvW.v ⟨rk,op,rg,mu,⟨rl,qA,qn,qc,qs⟩,⟨gA,gn,gc,gL⟩⟩)=false then (2:Int) else if lo < 0∨((wE ⟨nm,⟨rA,rn,rc,rL⟩,⟨oA,on,oc,oL⟩,⟨tA,tm,tc,tL⟩,⟨lA,ln,lc,lL⟩,ar,⟨bA,bn,bc,bL⟩⟩).lc.length:Int)≤lo then 3 else 0);exact (if_neg (by rw [hz,hr];simp)).symm
   clear hv
   by_cases q1:lo < 0
   case pos=>
    obtain rfl:v=3:=by rw [←hv9,if_pos (.inl q1)]
    clear h hs hll hE hA hr hv9
    exact ValSz0
   have q1n:0≤lo:=by omega
   by_cases q2:(ln:Int)≤lo
   case pos=>
    obtain rfl:v=3:=by rw [←hv9,if_pos (.inr q2)]
    clear h hs hll hE hA hr hv9
    exact ValSz0
   have q2n:lo < (ln:Int):=by omega
   obtain rfl:v=0:=by rw [←hv9,if_neg (by omega)]
   clear h hs hll hE hA hr hv9 q1 q2
   exact ValSz0
 have t1:(k == 1)=false:=by simp [h1]
 by_cases h2:k=2
 case pos=>
  subst h2
  by_cases hz:noP (PlW.v ⟨l,pA,pn,pc,ps⟩)=true
  case neg=>
   have hz:noP (PlW.v ⟨l,pA,pn,pc,ps⟩)=false:=by simpa using hz
   obtain rfl:v=2:=by
    rw [←hv]
    simp [stErr,StW.v,hz]
   clear h hs hll hE hA hv
   have HB:=hide (two_below w [.string nm,.slice rA rn rc,.slice oA on oc,.slice tA tm tc,.slice lA ln lc,.int .i64 ar,.slice bA bn bc] 28 [.int .i64 (2),.int .i64 l,.slice pA pn pc,.int .i64 rk,.int .i64 op,.int .i64 rg,.bool mu,.int .i64 rl,.slice qA qn qc,.slice gA gn gc,.int .i64 lo] 46)
   have HR:=hide (HS.out.up HB.out)
   exact ValSz5
  obtain ⟨nr,hr⟩:∃ u,noR (RvW.v ⟨rk,op,rg,mu,⟨rl,qA,qn,qc,qs⟩,⟨gA,gn,gc,gL⟩⟩)=u:=⟨_,rfl⟩
  have hrb:=hr
  have HRB:=hide hrb
  clear hrb
  cases nr
  case false=>
   obtain rfl:v=2:=by
    rw [←hv]
    simp [stErr,StW.v,hz,hr]
   clear h hs hll hE hA hr hv
   exact ValSz1
  case true=>
   by_cases q1:lo=0
   case neg=>
    have tl:(lo != 0)=true:=by simp [q1]
    obtain rfl:v=2:=by
     rw [←hv]
     simp [stErr,StW.v,hz,hr,q1]
    clear h hs hll hE hA hr q1 hv
    exact ValSz1
   have tl:(lo != 0)=false:=by simp [q1]
   obtain rfl:v=0:=by
    rw [←hv]
    simp [stErr,StW.v,hz,hr,q1]
   clear h hs hll hE hA hr q1 hv
   exact ValSz1
 have t2:(k == 2)=false:=by simp [h2]
 obtain rfl:v=14:=by
  rw [←hv]
  simp [stErr,StW.v,h0,h1,h2]
 clear h hs hll hE hA h0 h1 h2 hv
 have HB:=hide (two_below w [.string nm,.slice rA rn rc,.slice oA on oc,.slice tA tm tc,.slice lA ln lc,.int .i64 ar,.slice bA bn bc] 28 [.int .i64 k,.int .i64 l,.slice pA pn pc,.int .i64 rk,.int .i64 op,.int .i64 rg,.bool mu,.int .i64 rl,.slice qA qn qc,.slice gA gn gc,.int .i64 lo] 46)
 go_enter Tryz.func18,Tryz.ntmps18
 go_wp2
 go_ret
 exact ⟨rfl,HB.out⟩
end Go.Proofs.YtfgacmgjpikgaaaGreatDoor
