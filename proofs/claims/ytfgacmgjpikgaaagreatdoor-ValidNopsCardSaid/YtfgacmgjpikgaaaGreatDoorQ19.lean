/- Part 20 of the contracts and their mathematics. -/
import Derived.Test.YtfgacmgjpikgaaaGreatDoorQ14
set_option linter.unusedVariables false
set_option linter.unusedSimpArgs false
set_option maxRecDepth 100000
set_option maxHeartbeats 4000000
namespace Go.Proofs.YtfgacmgjpikgaaaGreatDoor
open Go.RowKit
def noB (r:RvV):Bool:=decide (r.region=0) && !r.mut_ && noP r.pl
theorem noR_eq (r:RvV):noR r=(decide (r.kind=0) && decide (r.op=0) && decide (r.args.length=0) && noB r):=by
 unfold noR noB
 cases decide (r.kind=0) <;> cases decide (r.op=0) <;> cases decide (r.region=0) <;> cases r.mut_ <;> cases noP r.pl <;> cases decide (r.args.length=0) <;> rfl
theorem noB_false {r:RvV}:(r.region≠0∨r.mut_=true∨noP r.pl=false)↔noB r=false:=by
 unfold noB
 by_cases h:r.region=0 <;> cases r.mut_ <;> cases noP r.pl <;> simp [h]
theorem shErr_eq (r:RvV):shErr r=if r.kind < 0∨4 < r.kind then 14
 else if (r.kind≠2∧r.kind≠3∧r.op≠0)∨(r.kind≠1∧noB r=false)∨(r.kind=1∧0 < r.args.length) then 2
 else if ((r.kind=0∨r.kind=2)∧r.args.length≠1)∨(r.kind=3∧r.args.length≠2) then 2
 else 0:=by
 unfold shErr
 simp only [noB_false]
theorem VcAz5 {P:Prop} (h:P:=by
 go_enter Tryz.func59,Tryz.ntmps59
 go_wp2
 go_ret
 exact ⟨congrArg (fun v=>Ending.returned (.bool v)) HF.out.symm,rfl⟩):P:=h
theorem vwithin_any (i n:Int) (w:World) :
 Calls Tryz.prog 59 #[.int .i64 i,.int .i64 n] w fun e w'=>e=.returned (.bool (tyIn i n))∧w=w':=by
 by_cases h0:0≤i
 ·
  by_cases h1:i < n
  ·
   have HF:=hide (show tyIn i n=true from tyIn_iff.2 ⟨h0,h1⟩)
   exact VcAz5
  ·
   have HF:=hide (show tyIn i n=false from tyIn_not.2 fun h=>h1 h.2)
   exact VcAz5
 ·
  have HF:=hide (show tyIn i n=false from tyIn_not.2 fun h=>h0 h.1)
  exact VcAz5
theorem vwithin_is {i n:Int} {v:Bool} (h:tyIn i n=v) (w:World) :
 Calls Tryz.prog 59 #[.int .i64 i,.int .i64 n] w fun e w'=>e=.returned (.bool v)∧w=w':=h ▸ vwithin_any i n w
theorem VcAz8 {P:Prop} (h:P:=by
 go_enter Tryz.func55,Tryz.ntmps55
 go_wp2
 go_ret
 exact ⟨rfl,HB.out⟩):P:=h
theorem cZero_any (x:PlW) (w:World) (hx:OnePl w w.heap.size x) :
 Calls Tryz.prog 55 #[aggPl x] w fun e w'=>e=.returned (.bool (noP x.v))∧Below w.heap.size w w':=by
 obtain ⟨l,A,n,c,ps⟩:=x
 have hl:ps.length=n:=hx.prs.len
 have HB:=hide (below1 w (.cells #[.int .i64 l,.slice A n c] 36))
 have hv:noP (PlW.v ⟨l,A,n,c,ps⟩)=(decide (l=0) && decide (n=0)):=by
  unfold noP PlW.v
  simp only []
  rw [hl]
 rw [hv]
 clear hv hl hx
 by_cases h0:l=0
 ·
  have t0:(l == 0)=true:=by simpa using h0
  by_cases h1:n=0
  ·
   have t1:((n:Int) == 0)=true:=by simp [h1]
   have e:(decide (l=0) && decide (n=0))=true:=by simp [h0,h1]
   rw [e]
   clear e h0 h1
   exact VcAz8
  ·
   have t1:((n:Int) == 0)=false:=by rw [beq_eq_false_iff_ne];omega
   have e:(decide (l=0) && decide (n=0))=false:=by simp [h1]
   rw [e]
   clear e h0 h1
   exact VcAz8
 ·
  have t0:(l == 0)=false:=by simpa using h0
  have e:(decide (l=0) && decide (n=0))=false:=by simp [h0]
  rw [e]
  clear e h0
  exact VcAz8
theorem cZero_is {x:PlW} {v:Bool} (h:noP x.v=v) (w:World) (hx:OnePl w w.heap.size x) :
 Calls Tryz.prog 55 #[aggPl x] w fun e w'=>e=.returned (.bool v)∧Below w.heap.size w w':=h ▸ cZero_any x w hx
theorem VcAz0 {P:Prop} (h:P:=by
 rintro e w1 ⟨rfl,hb1⟩
 have HW1:=hide hb1
 clear hb1
 have HE1:=hide (HB.out.trans (HW1.out.mono HB.out.size))
 obtain ⟨x0,x1,x2,x3,x4,x5,x6⟩:=cells7 HW1.out
 go_wp2
 go_ret
 exact ⟨rfl,HE1.out⟩):P:=h
theorem VcAz11 {P:Prop} (h:P:=by
 clear h2 hv
 go_enter Tryz.func83,Tryz.ntmps83
 go_wp2_with fail
 refine (cZero_is (x:=⟨l,pA,pn,pc,ps⟩) hz _ HX.out.pl).mono ?_
 exact VcAz0):P:=h
theorem cNob_any (x:RvW) (w:World) (h:OneRv w w.heap.size x) :
 Calls Tryz.prog 83 #[aggRv x] w fun e w'=>e=.returned (.bool (noB x.v))∧Below w.heap.size w w':=by
 obtain ⟨k,op,rg,mu,⟨l,pA,pn,pc,ps⟩,⟨gA,gn,gc,gL⟩⟩:=x
 have hgn:gL.length=gn:=h.args.len
 obtain ⟨v,hv⟩:∃ v,noB (RvW.v ⟨k,op,rg,mu,⟨l,pA,pn,pc,ps⟩,⟨gA,gn,gc,gL⟩⟩)=v:=⟨_,rfl⟩
 rw [hv]
 unfold noB at hv
 simp only [RvW.v,List.length_map,hgn] at hv
 clear hgn
 have HB:=hide (below1 w (.cells (cRv ⟨k,op,rg,mu,⟨l,pA,pn,pc,ps⟩,⟨gA,gn,gc,gL⟩⟩).toArray 44))
 have HX:=hide (h.up HB.out)
 clear h
 by_cases h2:rg=0
 ·
  have t2:(rg == 0)=true:=by simp [h2]
  cases mu
  ·
   by_cases hz:noP (PlW.v ⟨l,pA,pn,pc,ps⟩)=true
   ·
    obtain rfl:v=true:=by
     rw [←hv]
     simp [h2,hz]
    exact VcAz11
   ·
    have hz:noP (PlW.v ⟨l,pA,pn,pc,ps⟩)=false:=by simpa using hz
    obtain rfl:v=false:=by
     rw [←hv]
     simp [h2,hz]
    exact VcAz11
  ·
   obtain rfl:v=false:=by
    rw [←hv]
    simp []
   clear h2 hv
   go_enter Tryz.func83,Tryz.ntmps83
   go_wp2
   go_ret
   exact ⟨rfl,HB.out⟩
 ·
  have t2:(rg == 0)=false:=by simp [h2]
  obtain rfl:v=false:=by
   rw [←hv]
   simp [h2]
  clear h2 hv
  go_enter Tryz.func83,Tryz.ntmps83
  go_wp2
  go_ret
  exact ⟨rfl,HB.out⟩
theorem cNob_is {x:RvW} {v:Bool} (h:noB x.v=v) (w:World) (hx:OneRv w w.heap.size x) :
 Calls Tryz.prog 83 #[aggRv x] w fun e w'=>e=.returned (.bool v)∧Below w.heap.size w w':=h ▸ cNob_any x w hx
theorem VcAz6 {P:Prop} (h:P:=by
 clear h0 h1 h2 hv
 go_enter Tryz.func58,Tryz.ntmps58
 go_wp2_with fail
 refine (cNob_is (x:=⟨k,op,rg,mu,⟨l,pA,pn,pc,ps⟩,⟨gA,gn,gc,gL⟩⟩) hN _ HX.out).mono ?_
 exact VcAz0):P:=h
theorem VcAz7 {P:Prop} (h:P:=by
 go_enter Tryz.func58,Tryz.ntmps58
 go_wp2
 go_ret
 exact ⟨rfl,HB.out⟩):P:=h
theorem cZeroRv_any (x:RvW) (w:World) (h:OneRv w w.heap.size x) :
 Calls Tryz.prog 58 #[aggRv x] w fun e w'=>e=.returned (.bool (noR x.v))∧Below w.heap.size w w':=by
 obtain ⟨k,op,rg,mu,⟨l,pA,pn,pc,ps⟩,⟨gA,gn,gc,gL⟩⟩:=x
 have hgn:gL.length=gn:=h.args.len
 obtain ⟨v,hv⟩:∃ v,noR (RvW.v ⟨k,op,rg,mu,⟨l,pA,pn,pc,ps⟩,⟨gA,gn,gc,gL⟩⟩)=v:=⟨_,rfl⟩
 rw [hv]
 rw [noR_eq] at hv
 simp only [RvW.v,List.length_map,hgn] at hv
 clear hgn
 generalize hN:noB (RvV.mk k op rg mu (PlW.v ⟨l,pA,pn,pc,ps⟩) (gL.map OpW.v))=nb at hv
 have hN:noB (RvW.v ⟨k,op,rg,mu,⟨l,pA,pn,pc,ps⟩,⟨gA,gn,gc,gL⟩⟩)=nb:=hN
 have HB:=hide (below1 w (.cells (cRv ⟨k,op,rg,mu,⟨l,pA,pn,pc,ps⟩,⟨gA,gn,gc,gL⟩⟩).toArray 44))
 have HX:=hide (h.up HB.out)
 clear h
 by_cases h0:k=0
 ·
  have t0:(k == 0)=true:=by simp [h0]
  by_cases h1:op=0
  ·
   have t1:(op == 0)=true:=by simp [h1]
   by_cases h2:gn=0
   ·
    have t2:((gn:Int) == 0)=true:=by simp [h2]
    cases nb
    ·
     obtain rfl:v=false:=by
      rw [←hv]
      simp []
     exact VcAz6
    ·
     obtain rfl:v=true:=by
      rw [←hv]
      simp [h0,h1,h2]
     exact VcAz6
   ·
    have t2:((gn:Int) == 0)=false:=by rw [beq_eq_false_iff_ne];omega
    obtain rfl:v=false:=by
     rw [←hv]
     simp [h2]
    clear h0 h1 h2 hv
    exact VcAz7
  ·
   have t1:(op == 0)=false:=by simp [h1]
   obtain rfl:v=false:=by
    rw [←hv]
    simp [h1]
   clear h0 h1 hv
   exact VcAz7
 ·
  have t0:(k == 0)=false:=by simp [h0]
  obtain rfl:v=false:=by
   rw [←hv]
   simp [h0]
  clear h0 hv
  exact VcAz7
theorem cZeroRv_is {x:RvW} {v:Bool} (h:noR x.v=v) (w:World) (hx:OneRv w w.heap.size x) :
 Calls Tryz.prog 58 #[aggRv x] w fun e w'=>e=.returned (.bool v)∧Below w.heap.size w w':=h ▸ cZeroRv_any x w hx
theorem VcAz1 {P:Prop} (h:P:=by
 go_enter Tryz.func85,Tryz.ntmps85
 go_wp2
 go_ret
 exact ⟨rfl,HB.out⟩):P:=h
theorem VcAz2 {P:Prop} (h:P:=by
 go_enter Tryz.func85,Tryz.ntmps85
 go_wp2_with fail
 refine (cNob_is (x:=⟨0,op,rg,mu,⟨l,pA,pn,pc,ps⟩,⟨gA,gn,gc,gL⟩⟩) hN _ HX.out).mono ?_
 exact VcAz0):P:=h
theorem VcAz3 {P:Prop} (h:P:=by
 go_enter Tryz.func85,Tryz.ntmps85
 go_wp2_with fail
 refine (cNob_is (x:=⟨2,op,rg,mu,⟨l,pA,pn,pc,ps⟩,⟨gA,gn,gc,gL⟩⟩) hN _ HX.out).mono ?_
 exact VcAz0):P:=h
theorem VcAz4 {P:Prop} (h:P:=by
 go_enter Tryz.func85,Tryz.ntmps85
 go_wp2_with fail
 refine (cNob_is (x:=⟨3,op,rg,mu,⟨l,pA,pn,pc,ps⟩,⟨gA,gn,gc,gL⟩⟩) hN _ HX.out).mono ?_
 exact VcAz0):P:=h
theorem VcAz9 {P:Prop} (h:P:=by
 clear hop hv
 go_enter Tryz.func85,Tryz.ntmps85
 go_wp2_with fail
 refine (cNob_is (x:=⟨4,op,rg,mu,⟨l,pA,pn,pc,ps⟩,⟨gA,gn,gc,gL⟩⟩) hN _ HX.out).mono ?_
 exact VcAz0):P:=h
theorem VcAz10 {P:Prop} (h:P:=by
 have top:(op == 0)=false:=by simp [hop]
 obtain rfl:v=2:=by
  rw [←hv]
  simp [hop]
 clear hop hv
 exact VcAz1):P:=h
theorem cRv_any (x:RvW) (w:World) (h:OneRv w w.heap.size x) :
 Calls Tryz.prog 85 #[aggRv x] w fun e w'=>e=.returned (.int .i64 (shErr x.v))∧Below w.heap.size w w':=by
 obtain ⟨k,op,rg,mu,⟨l,pA,pn,pc,ps⟩,⟨gA,gn,gc,gL⟩⟩:=x
 have hgn:gL.length=gn:=h.args.len
 obtain ⟨v,hv⟩:∃ v,shErr (RvW.v ⟨k,op,rg,mu,⟨l,pA,pn,pc,ps⟩,⟨gA,gn,gc,gL⟩⟩)=v:=⟨_,rfl⟩
 rw [hv]
 rw [shErr_eq] at hv
 simp only [RvW.v,List.length_map,hgn] at hv
 clear hgn
 generalize hN:noB (RvV.mk k op rg mu (PlW.v ⟨l,pA,pn,pc,ps⟩) (gL.map OpW.v))=nb at hv
 have hN:noB (RvW.v ⟨k,op,rg,mu,⟨l,pA,pn,pc,ps⟩,⟨gA,gn,gc,gL⟩⟩)=nb:=hN
 by_cases hk:0≤k∧k≤4
 ·
  have hk:k=0∨k=1∨k=2∨k=3∨k=4:=by omega
  rcases hk with rfl | rfl | rfl | rfl | rfl
  ·
   -- kind 0
   have HB:=hide (below1 w (.cells (cRv ⟨0,op,rg,mu,⟨l,pA,pn,pc,ps⟩,⟨gA,gn,gc,gL⟩⟩).toArray 44))
   have HX:=hide (h.up HB.out)
   clear h
   by_cases hop:op=0
   ·
    have top:(op == 0)=true:=by simp [hop]
    cases nb
    ·
     obtain rfl:v=2:=by
      rw [←hv]
      simp [hop]
     clear hop hv
     exact VcAz2
    ·
     by_cases hl:gn=1
     ·
      have tl:((gn:Int) == 1)=true:=by simp [hl]
      obtain rfl:v=0:=by
       rw [←hv]
       simp [hop,hl]
      clear hop hl hv
      exact VcAz2
     ·
      have tl:((gn:Int) == 1)=false:=by rw [beq_eq_false_iff_ne];omega
      obtain rfl:v=2:=by
       rw [←hv]
       simp [hop,hl]
      clear hop hl hv
      exact VcAz2
   ·
    exact VcAz10
  ·
   -- kind 1
   have HB:=hide (below1 w (.cells (cRv ⟨1,op,rg,mu,⟨l,pA,pn,pc,ps⟩,⟨gA,gn,gc,gL⟩⟩).toArray 44))
   have HX:=hide (h.up HB.out)
   clear h
   by_cases hop:op=0
   ·
    have top:(op == 0)=true:=by simp [hop]
    by_cases hl:gn=0
    ·
     have tl:((gn:Int) == 0)=true:=by simp [hl]
     obtain rfl:v=0:=by
      rw [←hv]
      simp [hop,hl]
     clear hop hl hv
     exact VcAz1
    ·
     have tl:((gn:Int) == 0)=false:=by rw [beq_eq_false_iff_ne];omega
     have hl2:0 < gn:=by omega
     obtain rfl:v=2:=by
      rw [←hv]
      simp [hop,hl,hl2]
     clear hop hl hl2 hv
     exact VcAz1
   ·
    exact VcAz10
  ·
   -- kind 2
   have HB:=hide (below1 w (.cells (cRv ⟨2,op,rg,mu,⟨l,pA,pn,pc,ps⟩,⟨gA,gn,gc,gL⟩⟩).toArray 44))
   have HX:=hide (h.up HB.out)
   clear h
   cases nb
   ·
    obtain rfl:v=2:=by
     rw [←hv]
     simp []
    clear hv
    exact VcAz3
   ·
    by_cases hl:gn=1
    ·
     have tl:((gn:Int) == 1)=true:=by simp [hl]
     obtain rfl:v=0:=by
      rw [←hv]
      simp [hl]
     clear hl hv
     exact VcAz3
    ·
     have tl:((gn:Int) == 1)=false:=by rw [beq_eq_false_iff_ne];omega
     obtain rfl:v=2:=by
      rw [←hv]
      simp [hl]
     clear hl hv
     exact VcAz3
  ·
   -- kind 3
   have HB:=hide (below1 w (.cells (cRv ⟨3,op,rg,mu,⟨l,pA,pn,pc,ps⟩,⟨gA,gn,gc,gL⟩⟩).toArray 44))
   have HX:=hide (h.up HB.out)
   clear h
   cases nb
   ·
    obtain rfl:v=2:=by
     rw [←hv]
     simp []
    clear hv
    exact VcAz4
   ·
    by_cases hl:gn=2
    ·
     have tl:((gn:Int) == 2)=true:=by simp [hl]
     obtain rfl:v=0:=by
      rw [←hv]
      simp [hl]
     clear hl hv
     exact VcAz4
    ·
     have tl:((gn:Int) == 2)=false:=by rw [beq_eq_false_iff_ne];omega
     obtain rfl:v=2:=by
      rw [←hv]
      simp [hl]
     clear hl hv
     exact VcAz4
  ·
   -- kind 4
   have HB:=hide (below1 w (.cells (cRv ⟨4,op,rg,mu,⟨l,pA,pn,pc,ps⟩,⟨gA,gn,gc,gL⟩⟩).toArray 44))
   have HX:=hide (h.up HB.out)
   clear h
   by_cases hop:op=0
   ·
    have top:(op == 0)=true:=by simp [hop]
    cases nb
    ·
     obtain rfl:v=2:=by
      rw [←hv]
      simp [hop]
     exact VcAz9
    ·
     obtain rfl:v=0:=by
      rw [←hv]
      simp [hop]
     exact VcAz9
   ·
    exact VcAz10
 ·
  have hk2:k < 0∨4 < k:=by omega
  rw [if_pos hk2] at hv
  subst hv
  have t0:(k == 0)=false:=by rw [beq_eq_false_iff_ne];omega
  have t1:(k == 1)=false:=by rw [beq_eq_false_iff_ne];omega
  have t2:(k == 2)=false:=by rw [beq_eq_false_iff_ne];omega
  have t3:(k == 3)=false:=by rw [beq_eq_false_iff_ne];omega
  have t4:(k == 4)=false:=by rw [beq_eq_false_iff_ne];omega
  clear hk hk2
  have HB:=hide (below1 w (.cells (cRv ⟨k,op,rg,mu,⟨l,pA,pn,pc,ps⟩,⟨gA,gn,gc,gL⟩⟩).toArray 44))
  have HX:=hide (h.up HB.out)
  clear h
  exact VcAz1
theorem cRv_is {x:RvW} {v:Int} (h:shErr x.v=v) (w:World) (hx:OneRv w w.heap.size x) :
 Calls Tryz.prog 85 #[aggRv x] w fun e w'=>e=.returned (.int .i64 v)∧Below w.heap.size w w':=h ▸ cRv_any x w hx
theorem ctypeOf_is {K:CkW} {p:PlW} {u v:Int} {w:World} (h:Ck K w) (hp:OnePl w K.B p) (hv:tyV K.E p.v=(u,v)) :
 Calls Tryz.prog 79 #[K.ptr,aggPl p] w fun e w'=>e=.returned (.tuple #[.int .i64 u,.int .i64 v])∧Below w.heap.size w w':=by
 obtain ⟨B,g,m1,m2,m3,⟨nm,⟨rA,rn,rc,rL⟩,⟨oA,on,oc,oL⟩,⟨tA,tm,tc,tL⟩,⟨lA,ln,lc,lL⟩,ar,⟨bA,bn,bc,bL⟩⟩⟩:=K
 obtain ⟨l,pA,pn,pc,ps⟩:=p
 have HB:=hide (below1 w (.cells #[.int .i64 l,.slice pA pn pc] 36))
 have hp1:OnePl w w.heap.size ⟨l,pA,pn,pc,ps⟩:=hp.more h.bs
 clear hp
 have HP:=hide (hp1.up HB.out)
 clear hp1
 have HK:=hide (h.up HB.out)
 clear h
 have HC:=hide fun (w':World) (hb:Below (w.alloc (.cells #[.int .i64 l,.slice pA pn pc] 36)).heap.size (w.alloc (.cells #[.int .i64 l,.slice pA pn pc] 36)) w')=>TypeOf_is (ct:=tc) (cl:=lc) (((HK.out.up hb).vb).pl8 (HP.out.up hb)) hv
 clear hv
 have hcs:=hide fun (w':World) (hb:Below (w.alloc (.cells #[.int .i64 l,.slice pA pn pc] 36)).heap.size (w.alloc (.cells #[.int .i64 l,.slice pA pn pc] 36)) w')=>(show w'.cell? ⟨g,3,none⟩=some (.slice tA tm tc)∧w'.cell? ⟨g,4,none⟩=some (.slice lA ln lc)∧w'.cell? ⟨w.heap.size,0,none⟩=some (.int .i64 l)∧w'.cell? ⟨w.heap.size,1,none⟩=some (.slice pA pn pc) from
  ⟨(HK.out.up hb).cells 3 _ rfl,(HK.out.up hb).cells 4 _ rfl,one_cells (cs:=[.int .i64 l,.slice pA pn pc]) hb 0 _ rfl,one_cells (cs:=[.int .i64 l,.slice pA pn pc]) hb 1 _ rfl⟩)
 go_enter Tryz.func79,Tryz.ntmps79
 go_wp2
 go_region_held3 (fun w'=>Below (w.alloc (.cells #[.int .i64 l,.slice pA pn pc] 36)).heap.size (w.alloc (.cells #[.int .i64 l,.slice pA pn pc] 36)) w'∧w'.cell? ⟨g,3,none⟩=some (.slice tA tm tc)∧w'.cell? ⟨g,4,none⟩=some (.slice lA ln lc)∧w'.cell? ⟨w.heap.size,0,none⟩=some (.int .i64 l)∧w'.cell? ⟨w.heap.size,1,none⟩=some (.slice pA pn pc))
  (first | exact ⟨by assumption,hcs.out _ (by assumption)⟩ | exact ⟨Below.refl _ _,hcs.out _ (Below.refl _ _)⟩ | exact ⟨(Below.refl _ _).drew,hcs.out _ (Below.refl _ _).drew⟩)
  (first | (go_at_call 100;go_split_ands;refine (HC.out _ (by assumption)).mono ?_;rintro x9 w1 ⟨rfl,hb0⟩;have hb1:=Below.trans (by assumption:Below (w.alloc (.cells #[.int .i64 l,.slice pA pn pc] 36)).heap.size (w.alloc (.cells #[.int .i64 l,.slice pA pn pc] 36)) _) (hb0.mono (Below.size (by assumption:Below (w.alloc (.cells #[.int .i64 l,.slice pA pn pc] 36)).heap.size (w.alloc (.cells #[.int .i64 l,.slice pA pn pc] 36)) _)))))
 all_goals
  go_split_ands
  go_wp2
  go_ret2
  exact ⟨rfl,HB.out.trans (Below.mono (by assumption) HB.out.size)⟩
theorem cmut_is {K:CkW} {p:PlW} {v:Bool} {w:World} (h:Ck K w) (hp:OnePl w K.B p) (hv:muV K.E p.v=v) :
 Calls Tryz.prog 104 #[K.ptr,aggPl p] w fun e w'=>e=.returned (.bool v)∧Below w.heap.size w w':=by
 obtain ⟨B,g,m1,m2,m3,⟨nm,⟨rA,rn,rc,rL⟩,⟨oA,on,oc,oL⟩,⟨tA,tm,tc,tL⟩,⟨lA,ln,lc,lL⟩,ar,⟨bA,bn,bc,bL⟩⟩⟩:=K
 obtain ⟨l,pA,pn,pc,ps⟩:=p
 have HB:=hide (below1 w (.cells #[.int .i64 l,.slice pA pn pc] 36))
 have hp1:OnePl w w.heap.size ⟨l,pA,pn,pc,ps⟩:=hp.more h.bs
 clear hp
 have HP:=hide (hp1.up HB.out)
 clear hp1
 have HK:=hide (h.up HB.out)
 clear h
 have HC:=hide fun (w':World) (hb:Below (w.alloc (.cells #[.int .i64 l,.slice pA pn pc] 36)).heap.size (w.alloc (.cells #[.int .i64 l,.slice pA pn pc] 36)) w')=>Mutable_is (ct:=tc) (cl:=lc) (((HK.out.up hb).vb).pl8 (HP.out.up hb)) hv
 clear hv
 have hcs:=hide fun (w':World) (hb:Below (w.alloc (.cells #[.int .i64 l,.slice pA pn pc] 36)).heap.size (w.alloc (.cells #[.int .i64 l,.slice pA pn pc] 36)) w')=>(show w'.cell? ⟨g,3,none⟩=some (.slice tA tm tc)∧w'.cell? ⟨g,4,none⟩=some (.slice lA ln lc)∧w'.cell? ⟨w.heap.size,0,none⟩=some (.int .i64 l)∧w'.cell? ⟨w.heap.size,1,none⟩=some (.slice pA pn pc) from
  ⟨(HK.out.up hb).cells 3 _ rfl,(HK.out.up hb).cells 4 _ rfl,one_cells (cs:=[.int .i64 l,.slice pA pn pc]) hb 0 _ rfl,one_cells (cs:=[.int .i64 l,.slice pA pn pc]) hb 1 _ rfl⟩)
 go_enter Tryz.func104,Tryz.ntmps104
 go_wp2
 go_region_held3 (fun w'=>Below (w.alloc (.cells #[.int .i64 l,.slice pA pn pc] 36)).heap.size (w.alloc (.cells #[.int .i64 l,.slice pA pn pc] 36)) w'∧w'.cell? ⟨g,3,none⟩=some (.slice tA tm tc)∧w'.cell? ⟨g,4,none⟩=some (.slice lA ln lc)∧w'.cell? ⟨w.heap.size,0,none⟩=some (.int .i64 l)∧w'.cell? ⟨w.heap.size,1,none⟩=some (.slice pA pn pc))
  (first | exact ⟨by assumption,hcs.out _ (by assumption)⟩ | exact ⟨Below.refl _ _,hcs.out _ (Below.refl _ _)⟩ | exact ⟨(Below.refl _ _).drew,hcs.out _ (Below.refl _ _).drew⟩)
  (first | (go_at_call 116;go_split_ands;refine (HC.out _ (by assumption)).mono ?_;rintro x9 w1 ⟨rfl,hb0⟩;have hb1:=Below.trans (by assumption:Below (w.alloc (.cells #[.int .i64 l,.slice pA pn pc] 36)).heap.size (w.alloc (.cells #[.int .i64 l,.slice pA pn pc] 36)) _) (hb0.mono (Below.size (by assumption:Below (w.alloc (.cells #[.int .i64 l,.slice pA pn pc] 36)).heap.size (w.alloc (.cells #[.int .i64 l,.slice pA pn pc] 36)) _)))))
 all_goals
  go_split_ands
  go_wp2
  go_ret
  exact ⟨rfl,HB.out.trans (Below.mono (by assumption) HB.out.size)⟩
def wrV (E:Env) (p:PlV):Int×Int:=if (tyV E p).2≠0 then (0,(tyV E p).2) else if muV E p=false then (0,22) else ((tyV E p).1,0)
theorem VcBz0 {P:Prop} (h:P:=by
 obtain ⟨rfl,rfl⟩:=ha
 clear hv
 go_enter Tryz.func84,Tryz.ntmps84
 go_wp2_with fail
 refine HC.out.mono ?_
 rintro e w1 ⟨rfl,hb1⟩
 have HW1:=hide hb1
 clear hb1
 obtain ⟨x10,x11⟩:=cells2 HW1.out
 go_wp2_with fail
 refine (HM.out w1 HW1.out).mono ?_
 rintro e2 w2 ⟨rfl,hb2⟩
 have HW2:=hide (HW1.out.trans (hb2.mono HW1.out.size))
 clear hb2
 go_wp2
 go_ret2
 exact ⟨rfl,HB.out.trans (HW2.out.mono HB.out.size)⟩):P:=h
theorem cwritten_is {K:CkW} {p:PlW} {a b:Int} {w:World} (h:Ck K w) (hp:OnePl w K.B p) (hv:wrV K.E p.v=(a,b)) :
 Calls Tryz.prog 84 #[K.ptr,aggPl p] w fun e w'=>e=.returned (.tuple #[.int .i64 a,.int .i64 b])∧Below w.heap.size w w':=by
 obtain ⟨l,pA,pn,pc,ps⟩:=p
 have HB:=hide (below1 w (.cells #[.int .i64 l,.slice pA pn pc] 36))
 have HK:=hide (h.up HB.out)
 have HP:=hide (hp.below (HB.out.mono h.bs))
 obtain ⟨u,hu⟩:∃ u,(tyV K.E (PlW.v ⟨l,pA,pn,pc,ps⟩)).1=u:=⟨_,rfl⟩
 obtain ⟨v,hv0⟩:∃ v,(tyV K.E (PlW.v ⟨l,pA,pn,pc,ps⟩)).2=v:=⟨_,rfl⟩
 have huv:tyV K.E (PlW.v ⟨l,pA,pn,pc,ps⟩)=(u,v):=Prod.ext hu hv0
 unfold wrV at hv
 rw [hu,hv0] at hv
 have HC:=hide (ctypeOf_is HK.out HP.out huv)
 by_cases hv1:v=0
 ·
  have tv:(v != 0)=false:=by simp [hv1]
  rw [if_neg (by omega)] at hv
  obtain ⟨mu,hmu⟩:∃ mu,muV K.E (PlW.v ⟨l,pA,pn,pc,ps⟩)=mu:=⟨_,rfl⟩
  rw [hmu] at hv
  clear h hp huv hu hv0 hv1
  have HM:=hide fun (w':World) (hb:Below (w.alloc (.cells #[.int .i64 l,.slice pA pn pc] 36)).heap.size (w.alloc (.cells #[.int .i64 l,.slice pA pn pc] 36)) w')=>cmut_is (HK.out.up hb) (HP.out.below (hb.mono HK.out.bs)) hmu
  clear hmu
  cases mu
  ·
   have ha:a=0∧b=22:=by simpa [eq_comm] using hv
   exact VcBz0
  ·
   have ha:a=u∧b=0:=by simpa [eq_comm] using hv
   exact VcBz0
 ·
  have tv:(v != 0)=true:=by simp [hv1]
  rw [if_pos hv1] at hv
  have ha:a=0∧b=v:=by simpa [eq_comm] using hv
  obtain ⟨rfl,rfl⟩:=ha
  clear h hp huv hu hv0 hv1 hv
  go_enter Tryz.func84,Tryz.ntmps84
  go_wp2_with fail
  refine HC.out.mono ?_
  rintro e w1 ⟨rfl,hb1⟩
  have HW1:=hide hb1
  clear hb1
  go_wp2
  go_ret2
  exact ⟨rfl,HB.out.trans (HW1.out.mono HB.out.size)⟩
def drV (E:Env) (p:PlV):Int:=if (tyV E p).2≠0 then (tyV E p).2 else if hasD p.ps 0=true then 22 else 0
theorem VcBz1 {P:Prop} (h:P:=by
 subst ha
 clear hv hv1
 go_enter Tryz.func68,Tryz.ntmps68
 go_wp2_with fail
 refine HC.out.mono ?_
 rintro e w1 ⟨rfl,hb1⟩
 have HW1:=hide hb1
 clear hb1
 obtain ⟨x10,x11⟩:=cells2 HW1.out
 go_wp2_with fail
 refine (HM.out w1 HW1.out).mono ?_
 rintro e2 w2 ⟨rfl,hb2⟩
 have HW2:=hide (HW1.out.trans (hb2.mono HW1.out.size))
 clear hb2
 go_wp2
 go_ret
 exact ⟨rfl,HB.out.trans (HW2.out.mono HB.out.size)⟩):P:=h
theorem cdrop_is {K:CkW} {p:PlW} {b:Int} {w:World} (h:Ck K w) (hp:OnePl w K.B p) (hv:drV K.E p.v=b) :
 Calls Tryz.prog 68 #[K.ptr,aggPl p] w fun e w'=>e=.returned (.int .i64 b)∧Below w.heap.size w w':=by
 obtain ⟨l,pA,pn,pc,ps⟩:=p
 have HB:=hide (below1 w (.cells #[.int .i64 l,.slice pA pn pc] 36))
 have HK:=hide (h.up HB.out)
 have HP:=hide (hp.below (HB.out.mono h.bs))
 obtain ⟨u,hu⟩:∃ u,(tyV K.E (PlW.v ⟨l,pA,pn,pc,ps⟩)).1=u:=⟨_,rfl⟩
 obtain ⟨v,hv0⟩:∃ v,(tyV K.E (PlW.v ⟨l,pA,pn,pc,ps⟩)).2=v:=⟨_,rfl⟩
 have huv:tyV K.E (PlW.v ⟨l,pA,pn,pc,ps⟩)=(u,v):=Prod.ext hu hv0
 unfold drV at hv
 rw [hv0] at hv
 have HC:=hide (ctypeOf_is HK.out HP.out huv)
 by_cases hv1:v=0
 ·
  have tv:(v == 0)=true:=by simp [hv1]
  rw [if_neg (by omega)] at hv
  obtain ⟨d,hd⟩:∃ d,hasD (PlW.v ⟨l,pA,pn,pc,ps⟩).ps 0=d:=⟨_,rfl⟩
  rw [hd] at hv
  clear h hp huv hu hv0
  have HM:=hide fun (w':World) (hb:Below (w.alloc (.cells #[.int .i64 l,.slice pA pn pc] 36)).heap.size (w.alloc (.cells #[.int .i64 l,.slice pA pn pc] 36)) w')=>HasDeref_is (x:=⟨l,pA,pn,pc,ps⟩) (f:=0) hd w' ((HP.out.below (hb.mono HK.out.bs)).more (Nat.le_trans HK.out.bs hb.size))
  clear hd
  cases d
  ·
   have ha:b=v:=by rw [hv1];simpa [eq_comm] using hv
   exact VcBz1
  ·
   have ha:b=22:=by simpa [eq_comm] using hv
   exact VcBz1
 ·
  have tv:(v == 0)=false:=by simp [hv1]
  rw [if_pos hv1] at hv
  obtain rfl:v=b:=hv
  clear h hp huv hu hv0 hv1
  go_enter Tryz.func68,Tryz.ntmps68
  go_wp2_with fail
  refine HC.out.mono ?_
  rintro e w1 ⟨rfl,hb1⟩
  have HW1:=hide hb1
  clear hb1
  go_wp2
  go_ret
  exact ⟨rfl,HB.out.trans (HW1.out.mono HB.out.size)⟩
theorem ctypeAt_is {K:CkW} {i:Nat} {ty:TyW} {w:World} (h:Ck K w) (ht:K.x.types.L[i]?=some ty) :
 Calls Tryz.prog 90 #[K.ptr,.int .i64 (i:Int)] w fun e w'=>e=.returned (aggT ty)∧Below w.heap.size w w':=by
 obtain ⟨B,g,m1,m2,m3,⟨nm,⟨rA,rn,rc,rL⟩,⟨oA,on,oc,oL⟩,⟨tA,tm,tc,tL⟩,⟨lA,ln,lc,lL⟩,ar,⟨bA,bn,bc,bL⟩⟩⟩:=K
 obtain ⟨⟨k,mu,rg,el,fs⟩,fA,fn,fc⟩:=ty
 have ht:tL[i]?=some ⟨⟨k,mu,rg,el,fs⟩,fA,fn,fc⟩:=ht
 have HB:=hide (below1 w (.cells #[.int .i64 0,.bool false,.int .i64 0,.int .i64 0,.slice none 0 0] 62))
 have HK:=hide (h.up HB.out)
 have hil:i < tm:=by
  have h1:i < tL.length:=(List.getElem?_eq_some_iff.1 ht).1
  have h2:tL.length=tm:=h.one.types.len
  omega
 have hil':(i:Int) < (tm:Int):=by omega
 have hi0:(0:Int)≤(i:Int):=by omega
 have hf65:tm≤1000:=h.few
 have HWI:=hide (vwithin_is (tyIn_iff.2 ⟨hi0,hil'⟩))
 obtain ⟨b,q,hg,hgB,_,_⟩:=h.one.typs.at_ ht
 have hg:tA=some ⟨b,q,none⟩:=hg
 subst hg
 have hcs:=hide fun (w':World) (hb:Below (w.alloc (.cells #[.int .i64 0,.bool false,.int .i64 0,.int .i64 0,.slice none 0 0] 62)).heap.size (w.alloc (.cells #[.int .i64 0,.bool false,.int .i64 0,.int .i64 0,.slice none 0 0] 62)) w')=>(show w'.cell? ⟨g,3,none⟩=some (.slice (some ⟨b,q,none⟩) tm tc)∧w'.cell? ⟨b,q+i*5,none⟩=some (.int .i64 k)∧w'.cell? ⟨b,q+i*5+1,none⟩=some (.bool mu)∧w'.cell? ⟨b,q+i*5+2,none⟩=some (.int .i64 rg)∧w'.cell? ⟨b,q+i*5+3,none⟩=some (.int .i64 el)∧w'.cell? ⟨b,q+i*5+4,none⟩=some (.slice fA fn fc) from by
  obtain ⟨b',q',hg',_,_,c0,c1,c2,c3,c4⟩:=(HK.out.up hb).one.typs.at_ ht
  injection hg' with hg'
  injection hg' with hga hgb
  subst hga hgb
  exact ⟨(HK.out.up hb).cells 3 _ rfl,c0,c1,c2,c3,c4⟩)
 have hHR:((w.alloc (.cells #[.int .i64 0,.bool false,.int .i64 0,.int .i64 0,.slice none 0 0] 62))).heap[w.heap.size]?=some (.cells #[.int .i64 0,.bool false,.int .i64 0,.int .i64 0,.slice none 0 0] 62 (0,0)):=heap_alloc_new w _
 have HR:=hide hHR
 have HSZ:=hide (show (Tryz.prog.info? 62).map (·.size)=some 5 by kernel_rfl)
 have HONE:=hide (all_oneCell_toArray (cs:=[.int .i64 k,.bool mu,.int .i64 rg,.int .i64 el,.slice fA fn fc]) (fun u hu=>by simp only [List.mem_cons,List.not_mem_nil,or_false] at hu;rcases hu with rfl | rfl | rfl | rfl | rfl <;> rfl))
 obtain ⟨y0,y1,y2,y3,y4,y5⟩:=hcs.out (w.alloc (.cells #[.int .i64 0,.bool false,.int .i64 0,.int .i64 0,.slice none 0 0] 62)) (Below.refl _ _)
 clear h ht hgB hHR
 go_enter Tryz.func90,Tryz.ntmps90
 go_wp2
 refine bodyPost_ret (results_cell_row rfl _ _ w.heap.size _ #[.int .i64 k,.bool mu,.int .i64 rg,.int .i64 el,.slice fA fn fc] (0,0) _ rfl (heap_alloc_new w _) Tryz.underlying62 rfl (by kernel_rfl)) rfl ⟨rfl,(Below.refl w.heap.size w).alloc (Nat.le_refl _) _⟩
theorem fieldKind (kx rg el:Int) (mu:Bool) (fA:Option Addr) (fn fc:Nat) (W:World):(Instr.field 62 (.agg #[.int .i64 kx,.bool mu,.int .i64 rg,.int .i64 el,.slice fA fn fc]) 0).run Tryz.prog W=.ok (.int .i64 kx) W:=by kernel_rfl
def kdV (E:Env) (o:OpV):Int:=if o.kind=2 then 2 else if o.kind=3 then 1 else if o.kind=4 then 0 else (tyGet E.T (tyV E o.pl).1).kind
theorem VcBz2 {P:Prop} (h:P:=by
 go_enter Tryz.func95,Tryz.ntmps95
 go_wp2
 go_ret
 exact ⟨rfl,HB.out⟩):P:=h
theorem ckind_is {K:CkW} {o:OpW} {v:Int} {w:World} (h:Ck K w) (ho:OneOp w K.B o) (hk:(o.kind=2∨o.kind=3∨o.kind=4)∨(tyV K.E o.pl.v).2=0) (hv:kdV K.E o.v=v) :
 Calls Tryz.prog 95 #[K.ptr,aggOp o] w fun e w'=>e=.returned (.int .i64 v)∧Below w.heap.size w w':=by
 obtain ⟨k,⟨l,pA,pn,pc,ps⟩,n⟩:=o
 simp only [] at hk
 by_cases h2:k=2
 ·
  subst h2
  obtain rfl:v=2:=hv.symm
  clear h ho hk hv
  have HB:=hide (below1 w (.cells (cOp ⟨2,⟨l,pA,pn,pc,ps⟩,n⟩).toArray 38))
  exact VcBz2
 by_cases h3:k=3
 ·
  subst h3
  obtain rfl:v=1:=hv.symm
  clear h ho hk hv
  have HB:=hide (below1 w (.cells (cOp ⟨3,⟨l,pA,pn,pc,ps⟩,n⟩).toArray 38))
  exact VcBz2
 by_cases h4:k=4
 ·
  subst h4
  obtain rfl:v=0:=hv.symm
  clear h ho hk hv
  have HB:=hide (below1 w (.cells (cOp ⟨4,⟨l,pA,pn,pc,ps⟩,n⟩).toArray 38))
  exact VcBz2
 have he:(tyV K.E (PlW.v ⟨l,pA,pn,pc,ps⟩)).2=0:=by
  rcases hk with (e | e | e) | e
  ·
   exact absurd e h2
  ·
   exact absurd e h3
  ·
   exact absurd e h4
  ·
   exact e
 obtain ⟨i,ty,hi,hty⟩:=h.vb.ty (p:=PlW.v ⟨l,pA,pn,pc,ps⟩) he
 have hu:tyV K.E (PlW.v ⟨l,pA,pn,pc,ps⟩)=((i:Int),0):=Prod.ext hi he
 have htt:(tys K.x.types.L)[i]?=some ty.t:=by
  show (K.x.types.L.map TyW.t)[i]?=_
  rw [List.getElem?_map,hty]
  rfl
 have hkd:kdV K.E (OpW.v ⟨k,⟨l,pA,pn,pc,ps⟩,n⟩)=ty.t.kind:=by
  show (if k=2 then (2:Int) else if k=3 then 1 else if k=4 then 0 else (tyGet (tys K.x.types.L) (tyV K.E (PlW.v ⟨l,pA,pn,pc,ps⟩)).1).kind)=_
  rw [if_neg h2,if_neg h3,if_neg h4,hi,tyGet_at htt]
 rw [hkd] at hv
 have HB:=hide (below1 w (.cells (cOp ⟨k,⟨l,pA,pn,pc,ps⟩,n⟩).toArray 38))
 have HK:=hide (h.up HB.out)
 have HP:=hide (ho.pl.below (HB.out.mono h.bs))
 have HC:=hide (ctypeOf_is HK.out HP.out hu)
 have HT:=hide fun (w':World) (hb:Below (w.alloc (.cells (cOp ⟨k,⟨l,pA,pn,pc,ps⟩,n⟩).toArray 38)).heap.size (w.alloc (.cells (cOp ⟨k,⟨l,pA,pn,pc,ps⟩,n⟩).toArray 38)) w')=>ctypeAt_is (HK.out.up hb) hty
 have t2:(k == 2)=false:=by simp [h2]
 have t3:(k == 3)=false:=by simp [h3]
 have t4:(k == 4)=false:=by simp [h4]
 clear h ho hk he hi hty hu htt hkd h2 h3 h4
 obtain ⟨⟨kx,mu,rg,el,fs⟩,fA,fn,fc⟩:=ty
 have hv:kx=v:=hv
 subst hv
 have hfd:=fieldKind kx rg el mu fA fn fc
 go_enter Tryz.func95,Tryz.ntmps95
 go_wp2_with fail
 refine HC.out.mono ?_
 rintro e w1 ⟨rfl,hb1⟩
 have HW1:=hide hb1
 clear hb1
 go_wp2_with fail
 refine (HT.out w1 HW1.out).mono ?_
 rintro e2 w2 ⟨he2,hb2⟩
 obtain rfl:e2=.returned (.agg #[.int .i64 kx,.bool mu,.int .i64 rg,.int .i64 el,.slice fA fn fc]):=he2
 have HW2:=hide (HW1.out.trans (hb2.mono HW1.out.size))
 clear hb2
 go_wp2
 go_ret
 exact ⟨rfl,HB.out.trans (HW2.out.mono HB.out.size)⟩
section
variable {P:Program} {md:Region.Mode} {ops:Array Oper} {Q:Exit→Act→World→Prop} {S:World→Prop}
theorem takeY {i:Nat} {oi:Oper} {d:Option Tmp} {v:Value} {fuel:Nat} {listed:Array Bool} {a:Act} {w:World} (hi:ops[i]?=some oi) (hd:oi.dst=d)
  (hs:Region.noSelect ops=true) (hf:Region.free md ops listed i=true) (hr:(Region.ready md ops listed).contains i=true)
  (hQ:∀ c a w,Q (.panic c) (a.put d v) w→Q (.panic c) a w) (hw:Region.wanted oi (yielded ops a.tmps)=true) (hy:∀ w,S w→(execOp a.eval oi).run P w=.ok (.value v) w) (hS:S w)
  (h:wpAnyH P md ops Q S fuel (listed.setIfInBounds i true) (a.put d v) w):wpAnyH P md ops Q S (fuel+1) listed a w:=by
 subst hd
 exact wpAnyH_take hi hs hf hr hQ (Or.inl ⟨hw,hy⟩) hS h
theorem takeN {i:Nat} {oi:Oper} {d:Option Tmp} {fuel:Nat} {listed:Array Bool} {a:Act} {w:World} (hi:ops[i]?=some oi) (hd:oi.dst=d)
  (hs:Region.noSelect ops=true) (hf:Region.free md ops listed i=true) (hr:(Region.ready md ops listed).contains i=true)
  (hQ:∀ c a w,Q (.panic c) (a.put d undef) w→Q (.panic c) a w) (hw:Region.wanted oi (yielded ops a.tmps)=false) (hS:S w)
  (h:wpAnyH P md ops Q S fuel (listed.setIfInBounds i true) (a.put d undef) w):wpAnyH P md ops Q S (fuel+1) listed a w:=by
 subst hd
 exact wpAnyH_take hi hs hf hr hQ (Or.inr ⟨hw,rfl⟩) hS h
end
section
variable {P:Program} {md:Region.Mode} {ops:Array Oper} {Q:Exit→Act→World→Prop} {S:World→Prop}
def PlanS (_is:List Nat) (P:Program) (md:Region.Mode) (ops:Array Oper) (Q:Exit→Act→World→Prop) (S:World→Prop) (fuel:Nat) (listed:Array Bool) (a:Act) (w:World):Prop:=wpAnyH P md ops Q S fuel listed a w
theorem planS (is:List Nat) {fuel:Nat} {listed:Array Bool} {a:Act} {w:World} (h:PlanS is P md ops Q S fuel listed a w):wpAnyH P md ops Q S fuel listed a w:=h
theorem planE {fuel:Nat} {listed:Array Bool} {a:Act} {w:World} (h:wpAnyH P md ops Q S fuel listed a w):PlanS [] P md ops Q S fuel listed a w:=h
theorem pT {i:Nat} {d:Option Tmp} {is:List Nat} {oi:Oper} {v:Value} {fuel:Nat} {listed:Array Bool} {a a':Act} {w:World} (hS:S w) (hi:ops[i]?=some oi)
  (h:PlanS is P md ops Q S fuel (listed.setIfInBounds i true) a' w)
  (hd:oi.dst=d:=by (conv=>lhs;whnf);try rfl) (hw:Region.wanted oi (yielded ops a.tmps)=true:=by rfl)
  (hy:∀ w,S w→(execOp a.eval oi).run P w=.ok (.value v) w:=by
   intro w9 hS9
   (try dsimp only at hS9)
   (first | have q1:=hcx.out _ hS9 | have q1:=hcx.out _ (HW.out.trans (hS9.mono HW.out.size)) | have q1:=hcx.out _ (HW5.out.trans (hS9.mono HW5.out.size)) | have q1:=hcx.out _ (HWo.out.trans (hS9.mono HWo.out.size)) | have q1:=hcx.out _ (HWl.out.trans (hS9.mono HWl.out.size)) | skip)
   (first | have q2:=hty.out _ hS9 | have q2:=hty.out _ (HW.out.trans (hS9.mono HW.out.size)) | have q2:=hty.out _ (HW5.out.trans (hS9.mono HW5.out.size)) | skip)
   (try have q3:=hel.out _ hS9)
   (try have q4:=hef.out _ hS9)
   (try have q5:=har.out _ hS9)
   go_split_ands
   first | (go_simp;done) | (go_simp;with_reducible rfl))
  (ha:a.put d v=a':=by (simp only [Act.put,List.setIfInBounds_toArray,List.set_cons_zero,List.set_cons_succ];try rfl))
  (hs:Region.noSelect ops=true:=by kernel_rfl) (hf:Region.free md ops listed i=true:=by kernel_rfl) (hr:(Region.ready md ops listed).contains i=true:=by kernel_rfl)
  (hQ:∀ c a w,Q (.panic c) (a.put d v) w→Q (.panic c) a w:=by exact fun _ _ _ h=>h):PlanS (i :: is) P md ops Q S (fuel+1) listed a w:=takeY hi hd hs hf hr hQ hw hy hS (by subst ha;exact h)
theorem pS {i:Nat} {d:Option Tmp} {is:List Nat} {oi:Oper} {fuel:Nat} {listed:Array Bool} {a a':Act} {w:World} (hS:S w) (hi:ops[i]?=some oi)
  (h:PlanS is P md ops Q S fuel (listed.setIfInBounds i true) a' w)
  (hd:oi.dst=d:=by (conv=>lhs;whnf);try rfl) (hw:Region.wanted oi (yielded ops a.tmps)=false:=by rfl)
  (ha:a.put d undef=a':=by (simp only [Act.put,List.setIfInBounds_toArray,List.set_cons_zero,List.set_cons_succ];try rfl))
  (hs:Region.noSelect ops=true:=by kernel_rfl) (hf:Region.free md ops listed i=true:=by kernel_rfl) (hr:(Region.ready md ops listed).contains i=true:=by kernel_rfl)
  (hQ:∀ c a w,Q (.panic c) (a.put d undef) w→Q (.panic c) a w:=by exact fun _ _ _ h=>h):PlanS (i :: is) P md ops Q S (fuel+1) listed a w:=takeN hi hd hs hf hr hQ hw hS (by subst ha;exact h)
end
end Go.Proofs.YtfgacmgjpikgaaaGreatDoor
