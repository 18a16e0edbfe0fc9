/- Part 33 of the contracts and their mathematics. -/
import Derived.Test.YtfgacmgjpikgaaaGreatDoorQ20
import Derived.Test.YtfgacmgjpikgaaaGreatDoorQ31
set_option linter.unusedVariables false
set_option linter.unusedSimpArgs false
set_option maxRecDepth 100000
set_option maxHeartbeats 8000000
namespace Go.Proofs.YtfgacmgjpikgaaaGreatDoor
open Go.RowKit
noncomputable def teV (E:Env) (t:TmV):Int:=if t.kind=1 then (match t.args with | [o]=>coV E o | _=>0) else if t.kind=3 then clV E t else if t.kind=4 then drV E t.pl else 0
theorem teV_if {E:Env} {t:TmV} {o:OpV} (hk:t.kind=1) (ha:t.args=[o]):teV E t=coV E o:=by unfold teV;rw [if_pos hk,ha]
theorem teV_call {E:Env} {t:TmV} (hk:t.kind=3):teV E t=clV E t:=by unfold teV;rw [if_neg (by omega),if_pos hk]
theorem teV_drop {E:Env} {t:TmV} (hk:t.kind=4):teV E t=drV E t.pl:=by unfold teV;rw [if_neg (by omega),if_neg (by omega),if_pos hk]
theorem tmSh_zero {t:TmV} (h:tmSh t=0):(0≤t.kind∧t.kind≤5)∧(t.kind=1→t.args.length=1)∧(t.kind≠1→t.kind≠3→t.args.length=0):=by
 unfold tmSh at h
 split at h
 ·
  cases h
 split at h
 ·
  cases h
 rename_i h1 h2
 refine ⟨by omega,fun hk=>?_,fun hk hk3=>?_⟩
 ·
  apply Decidable.byContradiction;intro hn;exact h2 (.inr (.inr (.inr (.inl ⟨hk,hn⟩))))
 ·
  apply Decidable.byContradiction;intro hn;exact h2 (.inr (.inr (.inr (.inr ⟨hk,hk3,by omega⟩))))
theorem tmErr_sh {E:Env} {t:TmV}:tmErr E t=if tmSh t≠0 then tmSh t else if tgErr E t.targets≠0 then tgErr E t.targets
 else if t.kind=3∧identB t.name=false then 12
 else if 65535 < t.args.length then 15
 else if opsErr E t.args≠0 then opsErr E t.args
 else if t.kind=1∧t.args.all (fun o=>fitK E o 1)=false then 22
 else if t.kind≠3∧t.kind≠4 then 0
 else if (tyV E t.pl).2≠0 then (tyV E t.pl).2
 else if (t.kind=3∧muV E t.pl=false)∨(t.kind=4∧hasD t.pl.ps 0=true) then 22
 else 0:=by
 unfold tmErr tmSh
 by_cases h1:t.kind < 0∨5 < t.kind
 ·
  rw [if_pos h1,if_pos h1,if_pos (by decide)]
 ·
  rw [if_neg h1,if_neg h1]
  by_cases h2:t.targets.length≠tmTgs t.kind∨(t.kind≠3∧t.name≠.empty)∨(t.kind≠3∧t.kind≠4∧noP t.pl=false)∨(t.kind=1∧t.args.length≠1)∨(t.kind≠1∧t.kind≠3∧0 < t.args.length)
  ·
   rw [if_pos h2,if_pos h2,if_pos (by decide)]
  ·
   rw [if_neg h2,if_neg h2,if_neg (show ¬(0:Int)≠0 by simp)]
theorem tmErr_eq {E:Env} {t:TmV}:tmErr E t=if tmSh t≠0 then tmSh t else if tgErr E t.targets≠0 then tgErr E t.targets else teV E t:=by
 rw [tmErr_sh]
 by_cases hs:tmSh t=0
 ·
  rw [if_neg (show ¬tmSh t≠0 by omega),if_neg (show ¬tmSh t≠0 by omega)]
  by_cases hg:tgErr E t.targets=0
  ·
   rw [if_neg (show ¬tgErr E t.targets≠0 by omega),if_neg (show ¬tgErr E t.targets≠0 by omega)]
   obtain ⟨hk,h1,h2⟩:=tmSh_zero hs
   by_cases k1:t.kind=1
   ·
    obtain ⟨o,ho⟩:=List.length_eq_one_iff.1 (h1 k1)
    rw [teV_if k1 ho,ho]
    unfold coV opsErr opsErr
    by_cases he:opErr E o=0
    ·
     have hf:=fitK_kd he 1
     by_cases hd:kdV E o=1 <;> simp [k1,he,hf,hd]
    ·
     simp [k1,he]
   ·
    by_cases k3:t.kind=3
    ·
     rw [teV_call k3]
     unfold clV wrV
     cases identB t.name
     ·
      simp [k3]
     ·
      by_cases hl:65535 < t.args.length
      ·
       simp [k3,hl]
      ·
       by_cases he:opsErr E t.args=0
       ·
        by_cases hy:(tyV E t.pl).2=0
        ·
         cases hm:muV E t.pl <;> simp [k3,hl,he,hy,hm]
        ·
         simp [k3,hl,he,hy]
       ·
        simp [k3,hl,he]
    ·
     have h0:=List.length_eq_zero_iff.1 (h2 k1 k3)
     rw [h0]
     by_cases k4:t.kind=4
     ·
      rw [teV_drop k4]
      unfold drV opsErr
      by_cases hy:(tyV E t.pl).2=0
      ·
       cases hd:hasD t.pl.ps 0 <;> simp [k4,hy,hd]
      ·
       simp [k4,hy]
     ·
      unfold teV opsErr
      simp [k1,k3,k4]
  ·
   rw [if_pos hg,if_pos hg]
 ·
  rw [if_pos hs,if_pos hs]
theorem VcRz0 {P:Prop} (h:P:=by
 have hlt':(j:Int) < (tn:Int):=by omega
 obtain ⟨tt,ht⟩:∃ p,tL[j]?=some p:=⟨_,List.getElem?_eq_getElem (by have:tL.length=tn:=HTL.out;omega)⟩
 have hax:Ints wr K.B ⟨tA,tn,tc,tL⟩:=SlH.below HX.out.targets (HW.out.low HK.out) fun _ h=>h
 obtain ⟨b,o,hA,_,hir,hc⟩:=hax.at_ ht
 have hA:tA=some ⟨b,o,none⟩:=hA
 subst hA
 clear hax hir
 have ct:wr.cell? ⟨b,o+j,none⟩=some (.int .i64 tt):=by have h1:=hc 0 _ rfl;rwa [Nat.mul_one] at h1
 clear hc
 have HS:=hide (tgErr_at (E:=K.E) ht)
 clear ht
 have g6:=HW.out.ck.cells 6 (.slice K.x.blocks.A K.x.blocks.n K.x.blocks.c) rfl
 by_cases hin:0≤tt∧tt < (K.x.blocks.n:Int)
 ·
  have HIN:=hide (show tyIn tt (K.x.blocks.n:Int)=true from tyIn_iff.2 hin)
  have HN:=hide (show tgErr K.E (tL.drop (j+1))=tg from by rw [←HE.out,HS.out,if_neg (by rw [HNB.out];omega)])
  clear hin
  go_wp2_with fail
  refine (vwithin_is HIN.out _).mono ?_
  rintro e2 w2 ⟨rfl,rfl⟩
  go_wp2
  go_roundw
  case rel=>exact ⟨j+1,by go_num,by omega,hide HN.out,hide HW.out⟩
  case measure=>simp [intOf];omega
 ·
  have HIN:=hide (show tyIn tt (K.x.blocks.n:Int)=false from tyIn_not.2 hin)
  have HN:=hide (show tg=3 from by rw [←HE.out,HS.out,if_pos (by rw [HNB.out];omega)])
  clear hin
  have HVc:=hide (show v=3 from by rw [←HV.out,HN.out];rfl)
  go_wp2_with fail
  refine (vwithin_is HIN.out _).mono ?_
  rintro e2 w2 ⟨rfl,rfl⟩
  go_wp2
  go_ret
  exact ⟨congrArg (fun v=>Ending.returned (.int .i64 v)) HVc.out.symm,(Turn.of_below HB.out).trans HW.out.turn,HW.out.ck⟩):P:=h
theorem VcRz1 {P:Prop} (h:P:=by
 obtain ⟨j,rfl,hj,HE,HW⟩:=hrel
 clear c1_0 c1_1 c1_2 c1_3 c1_4 c1_5 g1_6
 by_cases hlt:j < tn
 ·
  exact VcRz0
 ·
  obtain rfl:tn=j:=by omega
  have hg0:tg=0:=by rw [←HE.out];exact tgErr_end (by have:tL.length=tn:=HTL.out;omega)
  have hv2:=HV.out
  rw [hg0,if_neg (by simp)] at hv2
  clear hg0
  obtain ⟨c3_0,c3_1,c3_2,c3_3,c3_4,c3_5⟩:=wy6 H0.out HW.out
  have g3_6:=HW.out.ck.cells 6 (.slice K.x.blocks.A K.x.blocks.n K.x.blocks.c) rfl
  obtain rfl:v=0:=hv2.symm
  go_wp2
  go_ret
  exact ⟨rfl,(Turn.of_below HB.out).trans HW.out.turn,HW.out.ck⟩):P:=h
theorem VcRz2 {P:Prop} (h:P:=by
 go_ret
 exact ⟨rfl,(Turn.of_below HB.out).trans HW3.out.turn,HW3.out.ck⟩):P:=h
theorem cterm_is {K:CkW} {x:TmW} {v:Int} {w:World} (h:Ck K w) (hx:OneTm w K.B x) (hv:tmErr K.E x.v=v) :
 Calls Tryz.prog 42 #[K.ptr,aggTm x] w fun e w'=>e=.returned (.int .i64 v)∧Wy K w w':=by
 obtain ⟨k,⟨tA,tn,tc,tL⟩,⟨gA,gn,gc,gL⟩,⟨l,pA,pn,pc,ps⟩,nm⟩:=x
 have H0:=hide h
 have hbl:K.x.blocks.L.length=K.x.blocks.n:=h.one.blocks.len
 have hbm:K.x.blocks.n≤maxLen:=h.one.blocks.nm
 unfold maxLen at hbm
 have htl:tL.length=tn:=hx.targets.len
 have htm:tn≤maxLen:=hx.targets.nm
 unfold maxLen at htm
 have hgn:gL.length=gn:=hx.args.len
 rw [tmErr_eq] at hv
 obtain ⟨sh,hsh⟩:∃ u,tmSh (TmW.v ⟨k,⟨tA,tn,tc,tL⟩,⟨gA,gn,gc,gL⟩,⟨l,pA,pn,pc,ps⟩,nm⟩)=u:=⟨_,rfl⟩
 obtain ⟨tg,htg⟩:∃ u,tgErr K.E tL=u:=⟨_,rfl⟩
 have hv9:(if sh≠0 then sh else if tg≠0 then tg else teV K.E (TmW.v ⟨k,⟨tA,tn,tc,tL⟩,⟨gA,gn,gc,gL⟩,⟨l,pA,pn,pc,ps⟩,nm⟩))=v:=by rw [←hv,← hsh,← htg];rfl
 clear hv
 have hv:=hv9
 clear hv9
 by_cases hs0:sh=0
 case neg=>
  have t0:(sh != 0)=true:=by simp [hs0]
  rw [if_pos hs0] at hv
  obtain rfl:sh=v:=hv
  clear h htg hs0 hbl htl hgn
  have HB:=hide (below1 w (.cells #[.int .i64 k,.slice tA tn tc,.slice gA gn gc,.int .i64 l,.slice pA pn pc,.string nm] 50))
  have HK:=hide (H0.out.up HB.out)
  have HX:=hide (hx.below (HB.out.mono H0.out.bs))
  clear hx
  have hcx:=hide fun (w':World) (y:Wy K (w.alloc (.cells #[.int .i64 k,.slice tA tn tc,.slice gA gn gc,.int .i64 l,.slice pA pn pc,.string nm] 50)) w')=>Wy.box (cs:=[.int .i64 k,.slice tA tn tc,.slice gA gn gc,.int .i64 l,.slice pA pn pc,.string nm]) (T:=50) H0.out y
  have HC:=hide (cTm_is (x:=⟨k,⟨tA,tn,tc,tL⟩,⟨gA,gn,gc,gL⟩,⟨l,pA,pn,pc,ps⟩,nm⟩) hsh _ (HX.out.more HK.out.bs))
  clear hsh
  go_enter Tryz.func42,Tryz.ntmps42
  go_wp2_with fail
  refine HC.out.mono ?_
  rintro e1 w1 ⟨rfl,hb1⟩
  have HW1:=hide (Wy.new HK.out hb1)
  clear hb1
  go_wp2
  go_ret
  exact ⟨rfl,(Turn.of_below HB.out).trans HW1.out.turn,HW1.out.ck⟩
 subst hs0
 rw [if_neg (by simp)] at hv
 have hshz:=tmSh_zero hsh
 have hk6:k=0∨k=1∨k=2∨k=3∨k=4∨k=5:=by have h1:=hshz.1;have e:(TmW.v ⟨k,⟨tA,tn,tc,tL⟩,⟨gA,gn,gc,gL⟩,⟨l,pA,pn,pc,ps⟩,nm⟩).kind=k:=rfl;rw [e] at h1;omega
 have hz1:k=1→gn=1:=fun e=>by have h1:=hshz.2.1 e;rw [←hgn];have e2:(TmW.v ⟨k,⟨tA,tn,tc,tL⟩,⟨gA,gn,gc,gL⟩,⟨l,pA,pn,pc,ps⟩,nm⟩).args.length=gL.length:=List.length_map _;omega
 have HTL:=hide htl
 have HTG:=hide htg
 have HNB:=hide (show ((K.E.nb:Nat):Int)=(K.x.blocks.n:Int) from by rw [←hbl];rfl)
 rcases hk6 with rfl | rfl | rfl | rfl | rfl | rfl
 case inl=>
  have HB:=hide (below1 w (.cells #[.int .i64 (0),.slice tA tn tc,.slice gA gn gc,.int .i64 l,.slice pA pn pc,.string nm] 50))
  have HK:=hide (H0.out.up HB.out)
  have HX:=hide (hx.below (HB.out.mono H0.out.bs))
  have hcx:=hide fun (w':World) (y:Wy K (w.alloc (.cells #[.int .i64 (0),.slice tA tn tc,.slice gA gn gc,.int .i64 l,.slice pA pn pc,.string nm] 50)) w')=>Wy.box (cs:=[.int .i64 (0),.slice tA tn tc,.slice gA gn gc,.int .i64 l,.slice pA pn pc,.string nm]) (T:=50) H0.out y
  have HC:=hide (cTm_is (x:=⟨0,⟨tA,tn,tc,tL⟩,⟨gA,gn,gc,gL⟩,⟨l,pA,pn,pc,ps⟩,nm⟩) hsh _ (HX.out.more HK.out.bs))
  have hte:(0:Int)=teV K.E (TmW.v ⟨0,⟨tA,tn,tc,tL⟩,⟨gA,gn,gc,gL⟩,⟨l,pA,pn,pc,ps⟩,nm⟩):=rfl
  rw [←hte] at hv
  clear h hx hsh htg hshz hte hbl htl hz1
  have HV:=hide hv
  clear hv
  go_enter Tryz.func42,Tryz.ntmps42
  go_wp2_with fail
  refine HC.out.mono ?_
  rintro e1 w1 ⟨rfl,hb1⟩
  have HW1:=hide (Wy.new HK.out hb1)
  clear hb1
  obtain ⟨c1_0,c1_1,c1_2,c1_3,c1_4,c1_5⟩:=wy6 H0.out HW1.out
  have g1_6:=HW1.out.ck.cells 6 (.slice K.x.blocks.A K.x.blocks.n K.x.blocks.c) rfl
  go_wp2
  go_loopw [16] (fun i wr=>∃ j:Nat,i=.int .i64 (j:Int)∧j≤tn∧Hid (tgErr K.E (tL.drop j)=tg)∧Hid (Wy K (w.alloc (.cells #[.int .i64 (0),.slice tA tn tc,.slice gA gn gc,.int .i64 l,.slice pA pn pc,.string nm] 50)) wr)) (fun i _=>tn - (intOf i).toNat)
  case atStart=>exact ⟨0,rfl,Nat.zero_le _,hide HTG.out,hide HW1.out⟩
  case round=>
   exact VcRz1
 case inr.inl=>
  have HB:=hide (below1 w (.cells #[.int .i64 (1),.slice tA tn tc,.slice gA gn gc,.int .i64 l,.slice pA pn pc,.string nm] 50))
  have HK:=hide (H0.out.up HB.out)
  have HX:=hide (hx.below (HB.out.mono H0.out.bs))
  have hcx:=hide fun (w':World) (y:Wy K (w.alloc (.cells #[.int .i64 (1),.slice tA tn tc,.slice gA gn gc,.int .i64 l,.slice pA pn pc,.string nm] 50)) w')=>Wy.box (cs:=[.int .i64 (1),.slice tA tn tc,.slice gA gn gc,.int .i64 l,.slice pA pn pc,.string nm]) (T:=50) H0.out y
  have HC:=hide (cTm_is (x:=⟨1,⟨tA,tn,tc,tL⟩,⟨gA,gn,gc,gL⟩,⟨l,pA,pn,pc,ps⟩,nm⟩) hsh _ (HX.out.more HK.out.bs))
  obtain rfl:gn=1:=hz1 rfl
  obtain ⟨q,hq⟩:∃ q,gL=[q]:=List.length_eq_one_iff.1 hgn
  subst hq
  have hte:coV K.E q.v=teV K.E (TmW.v ⟨1,⟨tA,tn,tc,tL⟩,⟨gA,1,gc,[q]⟩,⟨l,pA,pn,pc,ps⟩,nm⟩):=(teV_if (t:=TmW.v ⟨1,⟨tA,tn,tc,tL⟩,⟨gA,1,gc,[q]⟩,⟨l,pA,pn,pc,ps⟩,nm⟩) rfl rfl).symm
  rw [←hte] at hv
  clear h hx hsh htg hshz hte hbl htl hz1
  have HV:=hide hv
  clear hv
  go_enter Tryz.func42,Tryz.ntmps42
  go_wp2_with fail
  refine HC.out.mono ?_
  rintro e1 w1 ⟨rfl,hb1⟩
  have HW1:=hide (Wy.new HK.out hb1)
  clear hb1
  obtain ⟨c1_0,c1_1,c1_2,c1_3,c1_4,c1_5⟩:=wy6 H0.out HW1.out
  have g1_6:=HW1.out.ck.cells 6 (.slice K.x.blocks.A K.x.blocks.n K.x.blocks.c) rfl
  go_wp2
  go_loopw [16] (fun i wr=>∃ j:Nat,i=.int .i64 (j:Int)∧j≤tn∧Hid (tgErr K.E (tL.drop j)=tg)∧Hid (Wy K (w.alloc (.cells #[.int .i64 (1),.slice tA tn tc,.slice gA 1 gc,.int .i64 l,.slice pA pn pc,.string nm] 50)) wr)) (fun i _=>tn - (intOf i).toNat)
  case atStart=>exact ⟨0,rfl,Nat.zero_le _,hide HTG.out,hide HW1.out⟩
  case round=>
   obtain ⟨j,rfl,hj,HE,HW⟩:=hrel
   clear c1_0 c1_1 c1_2 c1_3 c1_4 c1_5 g1_6
   by_cases hlt:j < tn
   ·
    exact VcRz0
   ·
    obtain rfl:tn=j:=by omega
    have hg0:tg=0:=by rw [←HE.out];exact tgErr_end (by have:tL.length=tn:=HTL.out;omega)
    have hv2:=HV.out
    rw [hg0,if_neg (by simp)] at hv2
    clear hg0
    obtain ⟨c3_0,c3_1,c3_2,c3_3,c3_4,c3_5⟩:=wy6 H0.out HW.out
    have g3_6:=HW.out.ck.cells 6 (.slice K.x.blocks.A K.x.blocks.n K.x.blocks.c) rfl
    have hax:Ops wr K.B ⟨gA,1,gc,[q]⟩:=Ops.below (HW.out.low HK.out) HX.out.args
    obtain ⟨b,o,hA,_,hone,hc⟩:=hax.at_ (i:=0) (x:=q) rfl
    have hA:gA=some ⟨b,o,none⟩:=hA
    subst hA
    obtain ⟨kq,⟨lq,zA,zn,zc,zs⟩,nq⟩:=q
    clear hax
    have d0:wr.cell? ⟨b,o,none⟩=some (.int .i64 kq):=hc 0 _ rfl
    have d1:wr.cell? ⟨b,o+1,none⟩=some (.int .i64 lq):=hc 1 _ rfl
    have d2:wr.cell? ⟨b,o+2,none⟩=some (.slice zA zn zc):=hc 2 _ rfl
    have d3:wr.cell? ⟨b,o+3,none⟩=some (.int .i64 nq):=hc 3 _ rfl
    clear hc
    have HO:=hide (ccond_is HW.out.ck hone hv2)
    clear hone hv2
    go_wp2_with fail
    refine HO.out.mono ?_
    rintro e3 w3 ⟨rfl,hb3⟩
    have HW3:=hide (HW.out.trans hb3)
    clear hb3
    go_wp2
    exact VcRz2
 case inr.inr.inl=>
  have HB:=hide (below1 w (.cells #[.int .i64 (2),.slice tA tn tc,.slice gA gn gc,.int .i64 l,.slice pA pn pc,.string nm] 50))
  have HK:=hide (H0.out.up HB.out)
  have HX:=hide (hx.below (HB.out.mono H0.out.bs))
  have hcx:=hide fun (w':World) (y:Wy K (w.alloc (.cells #[.int .i64 (2),.slice tA tn tc,.slice gA gn gc,.int .i64 l,.slice pA pn pc,.string nm] 50)) w')=>Wy.box (cs:=[.int .i64 (2),.slice tA tn tc,.slice gA gn gc,.int .i64 l,.slice pA pn pc,.string nm]) (T:=50) H0.out y
  have HC:=hide (cTm_is (x:=⟨2,⟨tA,tn,tc,tL⟩,⟨gA,gn,gc,gL⟩,⟨l,pA,pn,pc,ps⟩,nm⟩) hsh _ (HX.out.more HK.out.bs))
  have hte:(0:Int)=teV K.E (TmW.v ⟨2,⟨tA,tn,tc,tL⟩,⟨gA,gn,gc,gL⟩,⟨l,pA,pn,pc,ps⟩,nm⟩):=rfl
  rw [←hte] at hv
  clear h hx hsh htg hshz hte hbl htl hz1
  have HV:=hide hv
  clear hv
  go_enter Tryz.func42,Tryz.ntmps42
  go_wp2_with fail
  refine HC.out.mono ?_
  rintro e1 w1 ⟨rfl,hb1⟩
  have HW1:=hide (Wy.new HK.out hb1)
  clear hb1
  obtain ⟨c1_0,c1_1,c1_2,c1_3,c1_4,c1_5⟩:=wy6 H0.out HW1.out
  have g1_6:=HW1.out.ck.cells 6 (.slice K.x.blocks.A K.x.blocks.n K.x.blocks.c) rfl
  go_wp2
  go_loopw [16] (fun i wr=>∃ j:Nat,i=.int .i64 (j:Int)∧j≤tn∧Hid (tgErr K.E (tL.drop j)=tg)∧Hid (Wy K (w.alloc (.cells #[.int .i64 (2),.slice tA tn tc,.slice gA gn gc,.int .i64 l,.slice pA pn pc,.string nm] 50)) wr)) (fun i _=>tn - (intOf i).toNat)
  case atStart=>exact ⟨0,rfl,Nat.zero_le _,hide HTG.out,hide HW1.out⟩
  case round=>
   exact VcRz1
 case inr.inr.inr.inl=>
  have HB:=hide (below1 w (.cells #[.int .i64 (3),.slice tA tn tc,.slice gA gn gc,.int .i64 l,.slice pA pn pc,.string nm] 50))
  have HK:=hide (H0.out.up HB.out)
  have HX:=hide (hx.below (HB.out.mono H0.out.bs))
  have hcx:=hide fun (w':World) (y:Wy K (w.alloc (.cells #[.int .i64 (3),.slice tA tn tc,.slice gA gn gc,.int .i64 l,.slice pA pn pc,.string nm] 50)) w')=>Wy.box (cs:=[.int .i64 (3),.slice tA tn tc,.slice gA gn gc,.int .i64 l,.slice pA pn pc,.string nm]) (T:=50) H0.out y
  have HC:=hide (cTm_is (x:=⟨3,⟨tA,tn,tc,tL⟩,⟨gA,gn,gc,gL⟩,⟨l,pA,pn,pc,ps⟩,nm⟩) hsh _ (HX.out.more HK.out.bs))
  have hte:clV K.E (TmW.v ⟨3,⟨tA,tn,tc,tL⟩,⟨gA,gn,gc,gL⟩,⟨l,pA,pn,pc,ps⟩,nm⟩)=teV K.E (TmW.v ⟨3,⟨tA,tn,tc,tL⟩,⟨gA,gn,gc,gL⟩,⟨l,pA,pn,pc,ps⟩,nm⟩):=(teV_call (t:=TmW.v ⟨3,⟨tA,tn,tc,tL⟩,⟨gA,gn,gc,gL⟩,⟨l,pA,pn,pc,ps⟩,nm⟩) rfl).symm
  rw [←hte] at hv
  clear h hx hsh htg hshz hte hbl htl hz1
  have HV:=hide hv
  clear hv
  go_enter Tryz.func42,Tryz.ntmps42
  go_wp2_with fail
  refine HC.out.mono ?_
  rintro e1 w1 ⟨rfl,hb1⟩
  have HW1:=hide (Wy.new HK.out hb1)
  clear hb1
  obtain ⟨c1_0,c1_1,c1_2,c1_3,c1_4,c1_5⟩:=wy6 H0.out HW1.out
  have g1_6:=HW1.out.ck.cells 6 (.slice K.x.blocks.A K.x.blocks.n K.x.blocks.c) rfl
  go_wp2
  go_loopw [16] (fun i wr=>∃ j:Nat,i=.int .i64 (j:Int)∧j≤tn∧Hid (tgErr K.E (tL.drop j)=tg)∧Hid (Wy K (w.alloc (.cells #[.int .i64 (3),.slice tA tn tc,.slice gA gn gc,.int .i64 l,.slice pA pn pc,.string nm] 50)) wr)) (fun i _=>tn - (intOf i).toNat)
  case atStart=>exact ⟨0,rfl,Nat.zero_le _,hide HTG.out,hide HW1.out⟩
  case round=>
   obtain ⟨j,rfl,hj,HE,HW⟩:=hrel
   clear c1_0 c1_1 c1_2 c1_3 c1_4 c1_5 g1_6
   by_cases hlt:j < tn
   ·
    exact VcRz0
   ·
    obtain rfl:tn=j:=by omega
    have hg0:tg=0:=by rw [←HE.out];exact tgErr_end (by have:tL.length=tn:=HTL.out;omega)
    have hv2:=HV.out
    rw [hg0,if_neg (by simp)] at hv2
    clear hg0
    obtain ⟨c3_0,c3_1,c3_2,c3_3,c3_4,c3_5⟩:=wy6 H0.out HW.out
    have g3_6:=HW.out.ck.cells 6 (.slice K.x.blocks.A K.x.blocks.n K.x.blocks.c) rfl
    have HO:=hide (ccall_is HW.out.ck (HX.out.below (HW.out.low HK.out)) hv2)
    clear hv2
    go_wp2_with fail
    refine HO.out.mono ?_
    rintro e3 w3 ⟨rfl,hb3⟩
    have HW3:=hide (HW.out.trans hb3)
    clear hb3
    go_wp2
    exact VcRz2
 case inr.inr.inr.inr.inl=>
  have HB:=hide (below1 w (.cells #[.int .i64 (4),.slice tA tn tc,.slice gA gn gc,.int .i64 l,.slice pA pn pc,.string nm] 50))
  have HK:=hide (H0.out.up HB.out)
  have HX:=hide (hx.below (HB.out.mono H0.out.bs))
  have hcx:=hide fun (w':World) (y:Wy K (w.alloc (.cells #[.int .i64 (4),.slice tA tn tc,.slice gA gn gc,.int .i64 l,.slice pA pn pc,.string nm] 50)) w')=>Wy.box (cs:=[.int .i64 (4),.slice tA tn tc,.slice gA gn gc,.int .i64 l,.slice pA pn pc,.string nm]) (T:=50) H0.out y
  have HC:=hide (cTm_is (x:=⟨4,⟨tA,tn,tc,tL⟩,⟨gA,gn,gc,gL⟩,⟨l,pA,pn,pc,ps⟩,nm⟩) hsh _ (HX.out.more HK.out.bs))
  have hte:drV K.E (PlW.v ⟨l,pA,pn,pc,ps⟩)=teV K.E (TmW.v ⟨4,⟨tA,tn,tc,tL⟩,⟨gA,gn,gc,gL⟩,⟨l,pA,pn,pc,ps⟩,nm⟩):=(teV_drop (t:=TmW.v ⟨4,⟨tA,tn,tc,tL⟩,⟨gA,gn,gc,gL⟩,⟨l,pA,pn,pc,ps⟩,nm⟩) rfl).symm
  rw [←hte] at hv
  clear h hx hsh htg hshz hte hbl htl hz1
  have HV:=hide hv
  clear hv
  go_enter Tryz.func42,Tryz.ntmps42
  go_wp2_with fail
  refine HC.out.mono ?_
  rintro e1 w1 ⟨rfl,hb1⟩
  have HW1:=hide (Wy.new HK.out hb1)
  clear hb1
  obtain ⟨c1_0,c1_1,c1_2,c1_3,c1_4,c1_5⟩:=wy6 H0.out HW1.out
  have g1_6:=HW1.out.ck.cells 6 (.slice K.x.blocks.A K.x.blocks.n K.x.blocks.c) rfl
  go_wp2
  go_loopw [16] (fun i wr=>∃ j:Nat,i=.int .i64 (j:Int)∧j≤tn∧Hid (tgErr K.E (tL.drop j)=tg)∧Hid (Wy K (w.alloc (.cells #[.int .i64 (4),.slice tA tn tc,.slice gA gn gc,.int .i64 l,.slice pA pn pc,.string nm] 50)) wr)) (fun i _=>tn - (intOf i).toNat)
  case atStart=>exact ⟨0,rfl,Nat.zero_le _,hide HTG.out,hide HW1.out⟩
  case round=>
   obtain ⟨j,rfl,hj,HE,HW⟩:=hrel
   clear c1_0 c1_1 c1_2 c1_3 c1_4 c1_5 g1_6
   by_cases hlt:j < tn
   ·
    exact VcRz0
   ·
    obtain rfl:tn=j:=by omega
    have hg0:tg=0:=by rw [←HE.out];exact tgErr_end (by have:tL.length=tn:=HTL.out;omega)
    have hv2:=HV.out
    rw [hg0,if_neg (by simp)] at hv2
    clear hg0
    obtain ⟨c3_0,c3_1,c3_2,c3_3,c3_4,c3_5⟩:=wy6 H0.out HW.out
    have g3_6:=HW.out.ck.cells 6 (.slice K.x.blocks.A K.x.blocks.n K.x.blocks.c) rfl
    have HO:=hide (cdrop_is HW.out.ck (HX.out.pl.below (HW.out.low HK.out)) hv2)
    clear hv2
    go_wp2_with fail
    refine HO.out.mono ?_
    rintro e3 w3 ⟨rfl,hb3⟩
    have HW3:=hide (HW.out.up hb3)
    clear hb3
    go_wp2
    exact VcRz2
 case inr.inr.inr.inr.inr=>
  have HB:=hide (below1 w (.cells #[.int .i64 (5),.slice tA tn tc,.slice gA gn gc,.int .i64 l,.slice pA pn pc,.string nm] 50))
  have HK:=hide (H0.out.up HB.out)
  have HX:=hide (hx.below (HB.out.mono H0.out.bs))
  have hcx:=hide fun (w':World) (y:Wy K (w.alloc (.cells #[.int .i64 (5),.slice tA tn tc,.slice gA gn gc,.int .i64 l,.slice pA pn pc,.string nm] 50)) w')=>Wy.box (cs:=[.int .i64 (5),.slice tA tn tc,.slice gA gn gc,.int .i64 l,.slice pA pn pc,.string nm]) (T:=50) H0.out y
  have HC:=hide (cTm_is (x:=⟨5,⟨tA,tn,tc,tL⟩,⟨gA,gn,gc,gL⟩,⟨l,pA,pn,pc,ps⟩,nm⟩) hsh _ (HX.out.more HK.out.bs))
  have hte:(0:Int)=teV K.E (TmW.v ⟨5,⟨tA,tn,tc,tL⟩,⟨gA,gn,gc,gL⟩,⟨l,pA,pn,pc,ps⟩,nm⟩):=rfl
  rw [←hte] at hv
  clear h hx hsh htg hshz hte hbl htl hz1
  have HV:=hide hv
  clear hv
  go_enter Tryz.func42,Tryz.ntmps42
  go_wp2_with fail
  refine HC.out.mono ?_
  rintro e1 w1 ⟨rfl,hb1⟩
  have HW1:=hide (Wy.new HK.out hb1)
  clear hb1
  obtain ⟨c1_0,c1_1,c1_2,c1_3,c1_4,c1_5⟩:=wy6 H0.out HW1.out
  have g1_6:=HW1.out.ck.cells 6 (.slice K.x.blocks.A K.x.blocks.n K.x.blocks.c) rfl
  go_wp2
  go_loopw [16] (fun i wr=>∃ j:Nat,i=.int .i64 (j:Int)∧j≤tn∧Hid (tgErr K.E (tL.drop j)=tg)∧Hid (Wy K (w.alloc (.cells #[.int .i64 (5),.slice tA tn tc,.slice gA gn gc,.int .i64 l,.slice pA pn pc,.string nm] 50)) wr)) (fun i _=>tn - (intOf i).toNat)
  case atStart=>exact ⟨0,rfl,Nat.zero_le _,hide HTG.out,hide HW1.out⟩
  case round=>
   exact VcRz1
theorem cblk_is {K:CkW} {x:BkW} {v:Int} {w:World} (h:Ck K w) (hx:OneBk w K.B x) (hv:bkErr K.E x.v=v) :
 Calls Tryz.prog 28 #[K.ptr,aggBk x] w fun e w'=>e=.returned (.int .i64 v)∧Wy K w w':=by
 obtain ⟨⟨sA,sn,sc,sL⟩,⟨k,⟨tA,tn,tc,tL⟩,⟨gA,gn,gc,gL⟩,⟨l,pA,pn,pc,ps⟩,nm⟩⟩:=x
 have H0:=hide h
 have HB:=hide (below1 w (.cells #[.slice sA sn sc,.int .i64 k,.slice tA tn tc,.slice gA gn gc,.int .i64 l,.slice pA pn pc,.string nm] 52))
 have HK:=hide (H0.out.up HB.out)
 have HX:=hide (hx.below (HB.out.mono H0.out.bs))
 have hcx:=hide fun (w':World) (y:Wy K (w.alloc (.cells #[.slice sA sn sc,.int .i64 k,.slice tA tn tc,.slice gA gn gc,.int .i64 l,.slice pA pn pc,.string nm] 52)) w')=>Wy.box (cs:=[.slice sA sn sc,.int .i64 k,.slice tA tn tc,.slice gA gn gc,.int .i64 l,.slice pA pn pc,.string nm]) (T:=52) H0.out y
 have hsl:sL.length=sn:=hx.stmts.len
 have hsm:sn≤maxLen:=hx.stmts.nm
 unfold maxLen at hsm
 obtain ⟨er,her⟩:∃ u,stsErr K.E (sL.map StW.v)=u:=⟨_,rfl⟩
 clear h hx
 have hv9:(if 65535 < sn then (15:Int) else if er≠0 then er else tmErr K.E (TmW.v ⟨k,⟨tA,tn,tc,tL⟩,⟨gA,gn,gc,gL⟩,⟨l,pA,pn,pc,ps⟩,nm⟩))=v:=by
  rw [←hv,← her,← hsl,← List.length_map (f:=StW.v)]
  rfl
 clear hv
 by_cases hb:65535 < sn
 ·
  have tb:(65535:Int) < (sn:Int):=by omega
  rw [if_pos hb] at hv9
  obtain rfl:v=15:=hv9.symm
  clear her hsl hb hv9
  go_enter Tryz.func28,Tryz.ntmps28
  go_wp2
  go_ret
  exact ⟨rfl,Turn.of_below HB.out,HK.out⟩
 have tb:(sn:Int)≤65535:=by omega
 rw [if_neg hb] at hv9
 clear hb
 have HV:=hide hv9
 clear hv9
 have HEr:=hide her
 clear her
 have HLen:=hide hsl
 clear hsl
 go_enter Tryz.func28,Tryz.ntmps28
 go_wp2
 go_loopw [15] (fun i wr=>∃ j:Nat,i=.int .i64 (j:Int)∧j≤sn∧Hid (stsErr K.E ((sL.map StW.v).drop j)=er)∧Hid (Wy K (w.alloc (.cells #[.slice sA sn sc,.int .i64 k,.slice tA tn tc,.slice gA gn gc,.int .i64 l,.slice pA pn pc,.string nm] 52)) wr)) (fun i _=>sn - (intOf i).toNat)
 case atStart=>exact ⟨0,rfl,Nat.zero_le _,hide HEr.out,hide (Wy.refl HK.out)⟩
 case round=>
  obtain ⟨j,rfl,hj,HE,HW⟩:=hrel
  by_cases hlt:j < sn
  ·
   have hlt':(j:Int) < (sn:Int):=by omega
   obtain ⟨p,hp⟩:∃ p,sL[j]?=some p:=⟨_,List.getElem?_eq_getElem (by have:sL.length=sn:=HLen.out;omega)⟩
   have hpv:(sL.map StW.v)[j]?=some p.v:=by rw [List.getElem?_map,hp];rfl
   have hax:SlH wr K.B 11 cSt (OneSt wr K.B) ⟨sA,sn,sc,sL⟩:=SlH.below HX.out.stmts (HW.out.low HK.out) fun _ h=>h.below (HW.out.low HK.out)
   obtain ⟨b,o,hA,_,hone,hc⟩:=hax.at_ hp
   have hA:sA=some ⟨b,o,none⟩:=hA
   subst hA
   obtain ⟨kq,⟨ql,qA,qn,qc,qs⟩,⟨rk,op,rg,mu,⟨rl,rA,rn,rc,rs⟩,⟨aA,an,ac,aL⟩⟩,lo⟩:=p
   have c0:wr.cell? ⟨b,o+j*11,none⟩=some (.int .i64 kq):=hc 0 _ rfl
   have c1:wr.cell? ⟨b,o+j*11+1,none⟩=some (.int .i64 ql):=hc 1 _ rfl
   have c2:wr.cell? ⟨b,o+j*11+2,none⟩=some (.slice qA qn qc):=hc 2 _ rfl
   have c3:wr.cell? ⟨b,o+j*11+3,none⟩=some (.int .i64 rk):=hc 3 _ rfl
   have c4:wr.cell? ⟨b,o+j*11+4,none⟩=some (.int .i64 op):=hc 4 _ rfl
   have c5:wr.cell? ⟨b,o+j*11+5,none⟩=some (.int .i64 rg):=hc 5 _ rfl
   have c6:wr.cell? ⟨b,o+j*11+6,none⟩=some (.bool mu):=hc 6 _ rfl
   have c7:wr.cell? ⟨b,o+j*11+7,none⟩=some (.int .i64 rl):=hc 7 _ rfl
   have c8:wr.cell? ⟨b,o+j*11+8,none⟩=some (.slice rA rn rc):=hc 8 _ rfl
   have c9:wr.cell? ⟨b,o+j*11+9,none⟩=some (.slice aA an ac):=hc 9 _ rfl
   have c10:wr.cell? ⟨b,o+j*11+10,none⟩=some (.int .i64 lo):=hc 10 _ rfl
   have hWB:=(Below.refl wr.heap.size wr).alloc (Nat.le_refl _) (.cells #[.int .i64 kq,.int .i64 ql,.slice qA qn qc,.int .i64 rk,.int .i64 op,.int .i64 rg,.bool mu,.int .i64 rl,.slice rA rn rc,.slice aA an ac,.int .i64 lo] 46)
   have HW2:=hide (HW.out.up hWB)
   have HO2:=hide (hone.below (hWB.mono HW.out.ck.bs))
   have HS:=hide (stsErr_at (E:=K.E) hpv)
   obtain ⟨c,hcv⟩:∃ c,stErr K.E (StW.v ⟨kq,⟨ql,qA,qn,qc,qs⟩,⟨rk,op,rg,mu,⟨rl,rA,rn,rc,rs⟩,⟨aA,an,ac,aL⟩⟩,lo⟩)=c:=⟨_,rfl⟩
   clear hp hpv hax hone hc hWB
   have HC:=hide (cst_is HW2.out.ck HO2.out hcv)
   have HCV:=hide hcv
   clear hcv
   by_cases h0:c=0
   ·
    subst h0
    have HN:=hide (show stsErr K.E ((sL.map StW.v).drop (j+1))=er from by rw [←HE.out,HS.out,if_neg (by rw [HCV.out];simp)])
    go_wp2_with fail
    refine HC.out.mono ?_
    rintro e1 w1 ⟨rfl,hb1⟩
    have HW3:=hide (HW2.out.trans hb1)
    clear hb1
    go_wp2
    go_roundw
    case rel=>exact ⟨j+1,by go_num,by omega,hide HN.out,hide HW3.out⟩
    case measure=>simp [intOf];omega
   ·
    have t0:(c != 0)=true:=by simp [h0]
    have HN:=hide (show er=c from by rw [←HE.out,HS.out,HCV.out,if_pos h0])
    have HVc:=hide (show v=c from by rw [←HV.out,HN.out,if_pos h0])
    clear h0
    go_wp2_with fail
    refine HC.out.mono ?_
    rintro e1 w1 ⟨rfl,hb1⟩
    have HW3:=hide (HW2.out.trans hb1)
    clear hb1
    go_wp2
    go_ret
    exact ⟨congrArg (fun v=>Ending.returned (.int .i64 v)) HVc.out.symm,(Turn.of_below HB.out).trans HW3.out.turn,HW3.out.ck⟩
  ·
   obtain rfl:sn=j:=by omega
   have her0:er=0:=by rw [←HE.out];exact stsErr_end (by rw [List.length_map];have:sL.length=sn:=HLen.out;omega)
   have hv2:=HV.out
   rw [her0,if_neg (by simp)] at hv2
   clear her0
   have d0:=hcx.out _ HW.out 0 (.slice sA sn sc) rfl
   have d1:=hcx.out _ HW.out 1 (.int .i64 k) rfl
   have d2:=hcx.out _ HW.out 2 (.slice tA tn tc) rfl
   have d3:=hcx.out _ HW.out 3 (.slice gA gn gc) rfl
   have d4:=hcx.out _ HW.out 4 (.int .i64 l) rfl
   have d5:=hcx.out _ HW.out 5 (.slice pA pn pc) rfl
   have d6:=hcx.out _ HW.out 6 (.string nm) rfl
   have HC:=hide (cterm_is HW.out.ck (HX.out.term.below (HW.out.low HK.out)) hv2)
   clear hv2
   go_wp2_with fail
   refine HC.out.mono ?_
   rintro e1 w1 ⟨rfl,hb1⟩
   have HW3:=hide (HW.out.trans hb1)
   clear hb1
   go_wp2
   exact VcRz2
end Go.Proofs.YtfgacmgjpikgaaaGreatDoor
