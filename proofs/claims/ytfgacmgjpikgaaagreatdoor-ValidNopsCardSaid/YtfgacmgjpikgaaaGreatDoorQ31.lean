/- Part 32 of the contracts and their mathematics. -/
import Derived.Test.YtfgacmgjpikgaaaGreatDoorQ28
import Derived.Test.YtfgacmgjpikgaaaGreatDoorQ29
import Derived.Test.YtfgacmgjpikgaaaGreatDoorQ30
set_option linter.unusedVariables false
set_option linter.unusedSimpArgs false
set_option maxRecDepth 100000
set_option maxHeartbeats 8000000
namespace Go.Proofs.YtfgacmgjpikgaaaGreatDoor
open Go.RowKit
theorem Wy.box2w {K:CkW} {w w':World} {cs ds:List Value} {T U:TypeId} (h0:Ck K w) (h:Wy K (two w cs T ds U) w'):(∀ (j:Nat) (u:Value),cs[j]?=some u→w'.cell? ⟨w.heap.size,j,none⟩=some u)∧(∀ (j:Nat) (u:Value),ds[j]?=some u→w'.cell? ⟨w.heap.size+1,j,none⟩=some u):=by
 obtain ⟨a,b⟩:=two_cells (Below.refl (two w cs T ds U).heap.size (two w cs T ds U))
 have hs:(two w cs T ds U).heap.size=w.heap.size+2:=by simp [two]
 have hn:∀ k,w.heap.size≤k→¬K.S k:=fun k hk q=>by have:=h0.sLt _ q;omega
 exact ⟨fun j u hu=>(h.turn.cell (p:=⟨w.heap.size,j,none⟩) (by rw [hs];show w.heap.size < _;omega) (hn _ (Nat.le_refl _))).trans (a j u hu),fun j u hu=>(h.turn.cell (p:=⟨w.heap.size+1,j,none⟩) (by rw [hs];show w.heap.size+1 < _;omega) (hn _ (Nat.le_succ _))).trans (b j u hu)⟩
theorem wt27 {K:CkW} {w w':World} {a0 a1 b0 b1 b2 b3 b4 b5 b6:Value} {T U:TypeId} (h0:Ck K w) (h:Wy K ((w.alloc (.cells #[a0,a1] T)).alloc (.cells #[b0,b1,b2,b3,b4,b5,b6] U)) w'):w'.cell? ⟨w.heap.size,0,none⟩=some a0∧w'.cell? ⟨w.heap.size,1,none⟩=some a1∧w'.cell? ⟨w.heap.size+1,0,none⟩=some b0∧w'.cell? ⟨w.heap.size+1,1,none⟩=some b1∧w'.cell? ⟨w.heap.size+1,2,none⟩=some b2∧w'.cell? ⟨w.heap.size+1,3,none⟩=some b3∧w'.cell? ⟨w.heap.size+1,4,none⟩=some b4∧w'.cell? ⟨w.heap.size+1,5,none⟩=some b5∧w'.cell? ⟨w.heap.size+1,6,none⟩=some b6:=by
 obtain ⟨c,d⟩:=Wy.box2w (cs:=[a0,a1]) (ds:=[b0,b1,b2,b3,b4,b5,b6]) h0 h
 exact ⟨c 0 _ rfl,c 1 _ rfl,d 0 _ rfl,d 1 _ rfl,d 2 _ rfl,d 3 _ rfl,d 4 _ rfl,d 5 _ rfl,d 6 _ rfl⟩
noncomputable def asgV (E:Env) (p:PlV) (r:RvV):Int:=if (tyV E p).2≠0 then (tyV E p).2 else if muV E p=false then 22 else asErr E r (tyV E p).1
theorem asgV_eq (E:Env) (p:PlV) (r:RvV):asgV E p r=if (wrV E p).2≠0 then (wrV E p).2 else if shErr r≠0 then shErr r else asErr E r (wrV E p).1:=by
 unfold asgV wrV
 by_cases h:(tyV E p).2=0
 ·
  cases hm:muV E p
  ·
   simp [h]
  ·
   by_cases hs:shErr r=0
   ·
    simp [h,hs]
   ·
    simp [h,hs]
    unfold asErr
    rw [if_pos hs]
 ·
  simp [h]
theorem wrV_ty {K:CkW} {w:World} (h:Ck K w) {p:PlV} (he:(wrV K.E p).2=0):∃ (i:Nat) (ty:TyW),(wrV K.E p).1=(i:Int)∧K.x.types.L[i]?=some ty:=by
 unfold wrV at he ⊢
 split at he
 ·
  rename_i h1;exact absurd he h1
 ·
  rename_i h1
  split at he
  ·
   cases he
  ·
   rename_i h2
   rw [if_neg h1,if_neg h2]
   exact h.vb.ty (p:=p) (Decidable.not_not.1 h1)
theorem shErr_zero {r:RvV} (h:shErr r=0):(0≤r.kind∧r.kind≤4)∧((r.kind=0∨r.kind=2)→r.args.length=1)∧(r.kind=3→r.args.length=2):=by
 unfold shErr at h
 split at h
 ·
  cases h
 rename_i h1
 split at h
 ·
  cases h
 split at h
 ·
  cases h
 rename_i h3
 refine ⟨by omega,fun hk=>?_,fun hk=>?_⟩
 ·
  apply Decidable.byContradiction;intro hn;exact h3 (.inl ⟨hk,hn⟩)
 ·
  apply Decidable.byContradiction;intro hn;exact h3 (.inr ⟨hk,hn⟩)
theorem asErr_bor {E:Env} {r:RvV} {t:Int} (hk:r.kind=1) (hs:shErr r=0):asErr E r t=boErr E r t:=by
 unfold asErr
 rw [if_neg (by omega),if_pos hk]
theorem asErr_tup {E:Env} {r:RvV} {t:Int} (hk:r.kind=4) (hs:shErr r=0):asErr E r t=tuV E r t:=by
 unfold asErr tuV
 rw [if_neg (by omega),if_neg (by omega),if_neg (by omega),if_pos hk]
theorem asErr_use {E:Env} {r:RvV} {t:Int} {o:OpV} (hk:r.kind=0) (ha:r.args=[o]) (hs:shErr r=0):asErr E r t=vaV E o t:=by
 unfold asErr
 rw [if_neg (by omega),if_neg (by omega),if_neg (by omega),if_neg (by omega),ha,if_pos hk]
 unfold vaV opsErr opsErr
 by_cases h:opErr E o=0
 ·
  cases hf:fitT E o t <;> simp [h,hf]
 ·
  simp [h]
theorem all_kd {E:Env} {L:List OpV} (h:opsErr E L=0) (c:Int):(L.all fun o=>fitK E o c)=L.all fun o=>decide (kdV E o=c):=by
 rw [Bool.eq_iff_iff,List.all_eq_true,List.all_eq_true]
 exact ⟨fun q o ho=>by rw [←fitK_kd (opsErr_zero.1 h o ho)];exact q o ho,fun q o ho=>by rw [fitK_kd (opsErr_zero.1 h o ho)];exact q o ho⟩
theorem VcPz1 {P:Prop} (h:P:=by
 unfold opeV opR opRun opRun opRun opRun opRun opRun opRun opRun opRun
 simp [h1,h2]):P:=h
theorem VcPz3 {P:Prop} (h:P:=by
 refine hrow 0 2 2 ?_ (by simp [opFrom,h1,h2]) (by simp [opTo,h1,h2]) hb
 exact VcPz1):P:=h
theorem asErr_op {E:Env} {r:RvV} {t:Int} (hk:r.kind=2∨r.kind=3) (hs:shErr r=0):asErr E r t=opeV E r (tyGet E.T t).kind:=by
 have hrow:∀ (f c d:Int),opeV E r (tyGet E.T t).kind=(if opsErr E r.args≠0 then opsErr E r.args else if (r.args.all fun o=>decide (kdV E o=c))=true∧(tyGet E.T t).kind=d then 0 else 22)→opFrom r=c→opTo r=d→¬((r.kind=2∧(r.op < 0∨1 < r.op))∨(r.kind=3∧(r.op < 0∨5 < r.op)))→asErr E r t=opeV E r (tyGet E.T t).kind:=by
  intro _ c d h1 h2 h3 h4
  rw [h1]
  unfold asErr
  rw [if_neg (show ¬shErr r≠0 by omega),if_neg (show ¬r.kind=1 by omega),if_neg h4,if_neg (show ¬r.kind=4 by omega),h2,h3]
  by_cases he:opsErr E r.args=0
  ·
   rw [if_neg (show ¬opsErr E r.args≠0 by omega),if_neg (show ¬r.kind=0 by omega),all_kd he,if_neg (show ¬opsErr E r.args≠0 by omega)]
  ·
   rw [if_pos he,if_pos he]
 by_cases hb:(r.kind=2∧(r.op < 0∨1 < r.op))∨(r.kind=3∧(r.op < 0∨5 < r.op))
 ·
  unfold asErr
  rw [if_neg (by omega),if_neg (by omega),if_pos hb]
  unfold opeV opR opRun opRun opRun opRun opRun opRun opRun opRun opRun
  simp only []
  rcases hb with ⟨h1,h2⟩ | ⟨h1,h2⟩ <;> simp [h1] <;> omega
 ·
  have h8:(r.kind=2∧(r.op=0∨r.op=1))∨(r.kind=3∧(r.op=0∨r.op=1∨r.op=2∨r.op=3∨r.op=4∨r.op=5)):=by omega
  rcases h8 with ⟨h1,h2 | h2⟩ | ⟨h1,h2 | h2 | h2 | h2 | h2 | h2⟩
  ·
   exact VcPz3
  ·
   refine hrow 0 1 1 ?_ (by simp [opFrom,h1,h2]) (by simp [opTo,h1,h2]) hb
   exact VcPz1
  ·
   exact VcPz3
  ·
   exact VcPz3
  ·
   exact VcPz3
  ·
   refine hrow 0 2 1 ?_ (by simp [opFrom,h1,h2]) (by simp [opTo,h1,h2]) hb
   exact VcPz1
  ·
   refine hrow 0 2 1 ?_ (by simp [opFrom,h1,h2]) (by simp [opTo,h1,h2]) hb
   exact VcPz1
  ·
   refine hrow 0 1 1 ?_ (by simp [opFrom,h1,h2]) (by simp [opTo,h1,h2]) hb
   exact VcPz1
theorem VcPz4 {P:Prop} (h:P:=by
 rintro e3 w3 ⟨rfl,hb3⟩
 have HW3:=hide (HW2.out.trans hb3)
 clear hb3
 go_wp2
 go_ret
 exact ⟨rfl,(Turn.of_below HB.out).trans HW3.out.turn,HW3.out.ck⟩):P:=h
theorem VcPz0 {P:Prop} (h:P:=by
 refine planS [0,1,2,3] ?_
 repeat' (first | refine pT hHeld rfl ?_ | refine pS hHeld rfl ?_)
 refine planE ?_
 refine wpAnyH_ready (rs:=[4]) (by kernel_rfl) (by simp) ?_
 refine AllReadyH.cons rfl (fun KZ hK=>?_) AllReadyH.nil
 go_simp
 refine (HTA.out _ HX2.out.ck).mono ?_
 rintro e3 w3 ⟨he3,hb3⟩
 obtain rfl:e3=.returned (.agg #[.int .i64 kx,.bool tmu,.int .i64 trg,.int .i64 tel,.slice fA fn fc]):=he3
 have HW3:=hide (HX2.out.up hb3)
 clear hb3
 refine hK.out _ _ (hcs.out _ HW3.out) (fun hHeld=>?_)
 clear hK KZ
 try simp only [Act.put,List.setIfInBounds_toArray,List.set_cons_zero,List.set_cons_succ]
 refine planS [5] ?_
 repeat' (first | refine pT hHeld rfl ?_ | refine pS hHeld rfl ?_)
 refine planE ?_
 refine wpAnyH_ready (rs:=[6]) (by kernel_rfl) (by simp) ?_
 refine AllReadyH.cons rfl (fun KZ hK=>?_) AllReadyH.nil
 go_simp
 refine (HVA.out _ HW3.out).mono ?_
 rintro e4 w4 ⟨rfl,hb4⟩
 have HW4:=hide (HW3.out.trans hb4)
 clear hb4
 refine hK.out _ _ (hcs.out _ HW4.out) (fun hHeld=>?_)
 clear hK KZ
 try simp only [Act.put,List.setIfInBounds_toArray,List.set_cons_zero,List.set_cons_succ]
 refine planS [7] ?_
 repeat' (first | refine pT hHeld rfl ?_ | refine pS hHeld rfl ?_)
 refine planE ?_
 refine wpAnyH_done (by kernel_rfl) ?_ _
 go_wp2
 go_ret
 exact ⟨rfl,(Turn.of_below HB.out).trans HW4.out.turn,HW4.out.ck⟩):P:=h
theorem VcPz2 {P:Prop} (h:P:=by
 rintro e2 w2 ⟨rfl,hb2⟩
 have HW2:=hide (HW1.out.up hb2)
 clear hb2
 obtain ⟨p20,p21,r20,r21,r22,r23,r24,r25,r26⟩:=wt27 H0.out HW2.out
 go_wp2_with fail
 refine (HVA.out w2 HW2.out).mono ?_
 exact VcPz4):P:=h
theorem casg_is {K:CkW} {p:PlW} {x:RvW} {v:Int} {w:World} (h:Ck K w) (hp:OnePl w K.B p) (hx:OneRv w K.B x) (hv:asgV K.E p.v x.v=v) :
 Calls Tryz.prog 60 #[K.ptr,aggPl p,aggRv x] w fun e w'=>e=.returned (.int .i64 v)∧Wy K w w':=by
 obtain ⟨l,pA,pn,pc,ps⟩:=p
 obtain ⟨k,op,rg,mu,⟨rl,qA,qn,qc,qs⟩,⟨gA,gn,gc,gL⟩⟩:=x
 obtain ⟨wa,hwa⟩:∃ u,(wrV K.E (PlW.v ⟨l,pA,pn,pc,ps⟩)).1=u:=⟨_,rfl⟩
 obtain ⟨wb,hwb⟩:∃ u,(wrV K.E (PlW.v ⟨l,pA,pn,pc,ps⟩)).2=u:=⟨_,rfl⟩
 have hwv:wrV K.E (PlW.v ⟨l,pA,pn,pc,ps⟩)=(wa,wb):=Prod.ext hwa hwb
 obtain ⟨sh,hsh⟩:∃ u,shErr (RvW.v ⟨k,op,rg,mu,⟨rl,qA,qn,qc,qs⟩,⟨gA,gn,gc,gL⟩⟩)=u:=⟨_,rfl⟩
 have hv9:(if wb≠0 then wb else if sh≠0 then sh else asErr K.E (RvW.v ⟨k,op,rg,mu,⟨rl,qA,qn,qc,qs⟩,⟨gA,gn,gc,gL⟩⟩) wa)=v:=by
  rw [←hv,← hwa,← hwb,← hsh]
  exact (asgV_eq _ _ _).symm
 clear hv
 have hv:=hv9
 clear hv9
 have hcop:IntR k:=hx.kind
 have H0:=hide h
 by_cases hb0:wb=0
 case neg=>
  have t0:(wb != 0)=true:=by simp [hb0]
  rw [if_pos hb0] at hv
  obtain rfl:wb=v:=hv
  clear h hwa hwb hsh hb0 hcop
  have HB:=hide (two_below w [.int .i64 l,.slice pA pn pc] 36 [.int .i64 k,.int .i64 op,.int .i64 rg,.bool mu,.int .i64 rl,.slice qA qn qc,.slice gA gn gc] 44)
  have HK:=hide (H0.out.up HB.out)
  have HP:=hide (hp.below (HB.out.mono H0.out.bs))
  clear hp
  have HX:=hide (hx.below (HB.out.mono H0.out.bs))
  clear hx
  have HC:=hide (cwritten_is HK.out HP.out hwv)
  clear hwv
  go_enter Tryz.func60,Tryz.ntmps60
  go_wp2_with fail
  refine HC.out.mono ?_
  rintro e1 w1 ⟨rfl,hb1⟩
  have HW1:=hide (Wy.new HK.out hb1)
  clear hb1
  go_wp2
  go_ret
  exact ⟨rfl,(Turn.of_below HB.out).trans HW1.out.turn,HW1.out.ck⟩
 have t0:(wb != 0)=false:=by simp [hb0]
 rw [if_neg (by omega)] at hv
 by_cases hs0:sh=0
 case neg=>
  have t1:(sh != 0)=true:=by simp [hs0]
  rw [if_pos hs0] at hv
  obtain rfl:sh=v:=hv
  clear h hwa hwb hb0 hs0 hcop
  have HB:=hide (two_below w [.int .i64 l,.slice pA pn pc] 36 [.int .i64 k,.int .i64 op,.int .i64 rg,.bool mu,.int .i64 rl,.slice qA qn qc,.slice gA gn gc] 44)
  have HK:=hide (H0.out.up HB.out)
  have HP:=hide (hp.below (HB.out.mono H0.out.bs))
  clear hp
  have HX:=hide (hx.below (HB.out.mono H0.out.bs))
  clear hx
  have HC:=hide (cwritten_is HK.out HP.out hwv)
  clear hwv
  have HSH:=hide hsh
  clear hsh
  go_enter Tryz.func60,Tryz.ntmps60
  go_wp2_with fail
  refine HC.out.mono ?_
  rintro e1 w1 ⟨rfl,hb1⟩
  have HW1:=hide (Wy.new HK.out hb1)
  clear hb1
  obtain ⟨p10,p11,r10,r11,r12,r13,r14,r15,r16⟩:=wt27 H0.out HW1.out
  go_wp2_with fail
  refine (cRv_is (x:=⟨k,op,rg,mu,⟨rl,qA,qn,qc,qs⟩,⟨gA,gn,gc,gL⟩⟩) HSH.out w1 ((HX.out.below (HW1.out.low HK.out)).more HW1.out.ck.bs)).mono ?_
  rintro e2 w2 ⟨rfl,hb2⟩
  have HW2:=hide (HW1.out.up hb2)
  clear hb2
  obtain ⟨p20,p21,r20,r21,r22,r23,r24,r25,r26⟩:=wt27 H0.out HW2.out
  go_wp2
  go_ret
  exact ⟨rfl,(Turn.of_below HB.out).trans HW2.out.turn,HW2.out.ck⟩
 subst hs0
 rw [if_neg (by simp)] at hv
 obtain ⟨i,ty,hi,hty⟩:=wrV_ty h (p:=PlW.v ⟨l,pA,pn,pc,ps⟩) (hwb.trans hb0)
 obtain rfl:wa=(i:Int):=hwa.symm.trans hi
 have hk:=shErr_zero hsh
 have hgn:gL.length=gn:=hx.args.len
 have hgm:gn≤maxLen:=hx.args.nm
 unfold maxLen at hgm
 have hk5:k=0∨k=1∨k=2∨k=3∨k=4:=by have:=hk.1;have e:(RvW.v ⟨k,op,rg,mu,⟨rl,qA,qn,qc,qs⟩,⟨gA,gn,gc,gL⟩⟩).kind=k:=rfl;rw [e] at this;omega
 rcases hk5 with rfl | rfl | rfl | rfl | rfl
 case inl=>
  have HB:=hide (two_below w [.int .i64 l,.slice pA pn pc] 36 [.int .i64 (0),.int .i64 op,.int .i64 rg,.bool mu,.int .i64 rl,.slice qA qn qc,.slice gA gn gc] 44)
  have HK:=hide (H0.out.up HB.out)
  have HP:=hide (hp.below (HB.out.mono H0.out.bs))
  have HX:=hide (hx.below (HB.out.mono H0.out.bs))
  have HC:=hide (cwritten_is HK.out HP.out hwv)
  have HSH:=hide hsh
  have hl1:gn=1:=by have:=hk.2.1 (.inl rfl);rw [←hgn];have e:(RvW.v ⟨0,op,rg,mu,⟨rl,qA,qn,qc,qs⟩,⟨gA,gn,gc,gL⟩⟩).args.length=gL.length:=List.length_map _;omega
  subst hl1
  obtain ⟨q,hq⟩:∃ q,gL=[q]:=List.length_eq_one_iff.1 hgn
  subst hq
  clear h hp hx hwa hwb hwv hb0 hcop hi hk hgn hgm
  have hva:vaV K.E q.v (i:Int)=v:=by rw [←hv];exact (asErr_use (r:=RvW.v ⟨0,op,rg,mu,⟨rl,qA,qn,qc,qs⟩,⟨gA,1,gc,[q]⟩⟩) rfl rfl hsh).symm
  clear hsh hv
  have HVA:=hide fun (w':World) (y:Wy K (two w [.int .i64 l,.slice pA pn pc] 36 [.int .i64 (0),.int .i64 op,.int .i64 rg,.bool mu,.int .i64 rl,.slice qA qn qc,.slice gA 1 gc] 44) w') (ho:OneOp w' K.B q)=>cval_is y.ck ho hty hva
  clear hty hva
  have HAX:=hide fun (w':World) (y:Wy K (two w [.int .i64 l,.slice pA pn pc] 36 [.int .i64 (0),.int .i64 op,.int .i64 rg,.bool mu,.int .i64 rl,.slice qA qn qc,.slice gA 1 gc] 44) w')=>(Ops.below (y.low HK.out) HX.out.args).at_ (i:=0) (x:=q) rfl
  go_enter Tryz.func60,Tryz.ntmps60
  go_wp2_with fail
  refine HC.out.mono ?_
  rintro e1 w1 ⟨rfl,hb1⟩
  have HW1:=hide (Wy.new HK.out hb1)
  clear hb1
  obtain ⟨p10,p11,r10,r11,r12,r13,r14,r15,r16⟩:=wt27 H0.out HW1.out
  go_wp2_with fail
  refine (cRv_is (x:=⟨0,op,rg,mu,⟨rl,qA,qn,qc,qs⟩,⟨gA,1,gc,[q]⟩⟩) HSH.out w1 ((HX.out.below (HW1.out.low HK.out)).more HW1.out.ck.bs)).mono ?_
  rintro e2 w2 ⟨rfl,hb2⟩
  have HW2:=hide (HW1.out.up hb2)
  clear hb2
  obtain ⟨p20,p21,r20,r21,r22,r23,r24,r25,r26⟩:=wt27 H0.out HW2.out
  obtain ⟨b,o,hA,_,hone,hc⟩:=HAX.out w2 HW2.out
  have hA:gA=some ⟨b,o,none⟩:=hA
  subst hA
  obtain ⟨kq,⟨lq,zA,zn,zc,zs⟩,nq⟩:=q
  have c0:w2.cell? ⟨b,o,none⟩=some (.int .i64 kq):=hc 0 _ rfl
  have c1:w2.cell? ⟨b,o+1,none⟩=some (.int .i64 lq):=hc 1 _ rfl
  have c2:w2.cell? ⟨b,o+2,none⟩=some (.slice zA zn zc):=hc 2 _ rfl
  have c3:w2.cell? ⟨b,o+3,none⟩=some (.int .i64 nq):=hc 3 _ rfl
  clear hc
  have HO:=hide (HVA.out w2 HW2.out hone)
  clear hone
  go_wp2_with fail
  refine HO.out.mono ?_
  exact VcPz4
 case inr.inl=>
  clear h hwa hwb hb0 hcop hi hk hgn hgm
  have HB:=hide (two_below w [.int .i64 l,.slice pA pn pc] 36 [.int .i64 (1),.int .i64 op,.int .i64 rg,.bool mu,.int .i64 rl,.slice qA qn qc,.slice gA gn gc] 44)
  have HK:=hide (H0.out.up HB.out)
  have HP:=hide (hp.below (HB.out.mono H0.out.bs))
  clear hp
  have HX:=hide (hx.below (HB.out.mono H0.out.bs))
  clear hx
  have HC:=hide (cwritten_is HK.out HP.out hwv)
  clear hwv
  have HSH:=hide hsh
  have hva:boErr K.E (RvW.v ⟨1,op,rg,mu,⟨rl,qA,qn,qc,qs⟩,⟨gA,gn,gc,gL⟩⟩) (i:Int)=v:=by rw [←hv];exact (asErr_bor (r:=RvW.v ⟨1,op,rg,mu,⟨rl,qA,qn,qc,qs⟩,⟨gA,gn,gc,gL⟩⟩) rfl hsh).symm
  clear hsh hv
  have HVA:=hide fun (w':World) (y:Wy K (two w [.int .i64 l,.slice pA pn pc] 36 [.int .i64 (1),.int .i64 op,.int .i64 rg,.bool mu,.int .i64 rl,.slice qA qn qc,.slice gA gn gc] 44) w')=>cbor_is y.ck (HX.out.below (y.low HK.out)) hty hva
  clear hty hva
  go_enter Tryz.func60,Tryz.ntmps60
  go_wp2_with fail
  refine HC.out.mono ?_
  rintro e1 w1 ⟨rfl,hb1⟩
  have HW1:=hide (Wy.new HK.out hb1)
  clear hb1
  obtain ⟨p10,p11,r10,r11,r12,r13,r14,r15,r16⟩:=wt27 H0.out HW1.out
  go_wp2_with fail
  refine (cRv_is (x:=⟨1,op,rg,mu,⟨rl,qA,qn,qc,qs⟩,⟨gA,gn,gc,gL⟩⟩) HSH.out w1 ((HX.out.below (HW1.out.low HK.out)).more HW1.out.ck.bs)).mono ?_
  exact VcPz2
 case inr.inr.inl=>
  have HB:=hide (two_below w [.int .i64 l,.slice pA pn pc] 36 [.int .i64 (2),.int .i64 op,.int .i64 rg,.bool mu,.int .i64 rl,.slice qA qn qc,.slice gA gn gc] 44)
  have HK:=hide (H0.out.up HB.out)
  have HP:=hide (hp.below (HB.out.mono H0.out.bs))
  have HX:=hide (hx.below (HB.out.mono H0.out.bs))
  have HC:=hide (cwritten_is HK.out HP.out hwv)
  have HSH:=hide hsh
  obtain ⟨⟨kx,tmu,trg,tel,fs⟩,fA,fn,fc⟩:=ty
  clear h hp hx hwa hwb hwv hb0 hcop hi hk hgn hgm
  have htt:(tys K.x.types.L)[i]?=some ⟨kx,tmu,trg,tel,fs⟩:=by
   show (K.x.types.L.map TyW.t)[i]?=_
   rw [List.getElem?_map,hty]
   rfl
  have hva:opeV K.E (RvW.v ⟨2,op,rg,mu,⟨rl,qA,qn,qc,qs⟩,⟨gA,gn,gc,gL⟩⟩) kx=v:=by
   rw [←hv,asErr_op (r:=RvW.v ⟨2,op,rg,mu,⟨rl,qA,qn,qc,qs⟩,⟨gA,gn,gc,gL⟩⟩) (.inl rfl) hsh]
   show _=opeV K.E _ (tyGet (tys K.x.types.L) (i:Int)).kind
   rw [tyGet_at htt]
  clear hsh hv htt
  have hfd:=fieldKind kx trg tel tmu fA fn fc
  have HTA:=hide fun (w':World) (q:Ck K w')=>ctypeAt_is q hty
  clear hty
  have HVA:=hide fun (w':World) (y:Wy K (two w [.int .i64 l,.slice pA pn pc] 36 [.int .i64 (2),.int .i64 op,.int .i64 rg,.bool mu,.int .i64 rl,.slice qA qn qc,.slice gA gn gc] 44) w')=>cope_is y.ck (HX.out.below (y.low HK.out)) hva
  clear hva
  have hcs:=hide fun (w':World) (y:Wy K (two w [.int .i64 l,.slice pA pn pc] 36 [.int .i64 (2),.int .i64 op,.int .i64 rg,.bool mu,.int .i64 rl,.slice qA qn qc,.slice gA gn gc] 44) w')=>(show w'.cell? ⟨w.heap.size+1,0,none⟩=some (.int .i64 (2))∧w'.cell? ⟨w.heap.size+1,1,none⟩=some (.int .i64 op)∧w'.cell? ⟨w.heap.size+1,2,none⟩=some (.int .i64 rg)∧w'.cell? ⟨w.heap.size+1,3,none⟩=some (.bool mu)∧w'.cell? ⟨w.heap.size+1,4,none⟩=some (.int .i64 rl)∧w'.cell? ⟨w.heap.size+1,5,none⟩=some (.slice qA qn qc)∧w'.cell? ⟨w.heap.size+1,6,none⟩=some (.slice gA gn gc) from by
   obtain ⟨_,hcr⟩:=Wy.box2w H0.out y
   exact ⟨hcr 0 _ rfl,hcr 1 _ rfl,hcr 2 _ rfl,hcr 3 _ rfl,hcr 4 _ rfl,hcr 5 _ rfl,hcr 6 _ rfl⟩)
  go_enter Tryz.func60,Tryz.ntmps60
  go_wp2_with fail
  refine HC.out.mono ?_
  rintro e1 w1 ⟨rfl,hb1⟩
  have HW1:=hide (Wy.new HK.out hb1)
  clear hb1
  obtain ⟨p10,p11,r10,r11,r12,r13,r14,r15,r16⟩:=wt27 H0.out HW1.out
  go_wp2_with fail
  refine (cRv_is (x:=⟨2,op,rg,mu,⟨rl,qA,qn,qc,qs⟩,⟨gA,gn,gc,gL⟩⟩) HSH.out w1 ((HX.out.below (HW1.out.low HK.out)).more HW1.out.ck.bs)).mono ?_
  rintro e2 w2 ⟨rfl,hb2⟩
  have HW2:=hide (HW1.out.up hb2)
  clear hb2
  obtain ⟨p20,p21,r20,r21,r22,r23,r24,r25,r26⟩:=wt27 H0.out HW2.out
  go_wp2
  have HX2:=hide (HW2.out.drew)
  refine wp_region_held_drew (S:=(fun w'=>w'.cell? ⟨w.heap.size+1,0,none⟩=some (.int .i64 (2))∧w'.cell? ⟨w.heap.size+1,1,none⟩=some (.int .i64 op)∧w'.cell? ⟨w.heap.size+1,2,none⟩=some (.int .i64 rg)∧w'.cell? ⟨w.heap.size+1,3,none⟩=some (.bool mu)∧w'.cell? ⟨w.heap.size+1,4,none⟩=some (.int .i64 rl)∧w'.cell? ⟨w.heap.size+1,5,none⟩=some (.slice qA qn qc)∧w'.cell? ⟨w.heap.size+1,6,none⟩=some (.slice gA gn gc))) (by kernel_rfl) (hcs.out _ HX2.out) (fun hHeld=>?_)
  exact VcPz0
 case inr.inr.inr.inl=>
  have HB:=hide (two_below w [.int .i64 l,.slice pA pn pc] 36 [.int .i64 (3),.int .i64 op,.int .i64 rg,.bool mu,.int .i64 rl,.slice qA qn qc,.slice gA gn gc] 44)
  have HK:=hide (H0.out.up HB.out)
  have HP:=hide (hp.below (HB.out.mono H0.out.bs))
  have HX:=hide (hx.below (HB.out.mono H0.out.bs))
  have HC:=hide (cwritten_is HK.out HP.out hwv)
  have HSH:=hide hsh
  obtain ⟨⟨kx,tmu,trg,tel,fs⟩,fA,fn,fc⟩:=ty
  clear h hp hx hwa hwb hwv hb0 hcop hi hk hgn hgm
  have htt:(tys K.x.types.L)[i]?=some ⟨kx,tmu,trg,tel,fs⟩:=by
   show (K.x.types.L.map TyW.t)[i]?=_
   rw [List.getElem?_map,hty]
   rfl
  have hva:opeV K.E (RvW.v ⟨3,op,rg,mu,⟨rl,qA,qn,qc,qs⟩,⟨gA,gn,gc,gL⟩⟩) kx=v:=by
   rw [←hv,asErr_op (r:=RvW.v ⟨3,op,rg,mu,⟨rl,qA,qn,qc,qs⟩,⟨gA,gn,gc,gL⟩⟩) (.inr rfl) hsh]
   show _=opeV K.E _ (tyGet (tys K.x.types.L) (i:Int)).kind
   rw [tyGet_at htt]
  clear hsh hv htt
  have hfd:=fieldKind kx trg tel tmu fA fn fc
  have HTA:=hide fun (w':World) (q:Ck K w')=>ctypeAt_is q hty
  clear hty
  have HVA:=hide fun (w':World) (y:Wy K (two w [.int .i64 l,.slice pA pn pc] 36 [.int .i64 (3),.int .i64 op,.int .i64 rg,.bool mu,.int .i64 rl,.slice qA qn qc,.slice gA gn gc] 44) w')=>cope_is y.ck (HX.out.below (y.low HK.out)) hva
  clear hva
  have hcs:=hide fun (w':World) (y:Wy K (two w [.int .i64 l,.slice pA pn pc] 36 [.int .i64 (3),.int .i64 op,.int .i64 rg,.bool mu,.int .i64 rl,.slice qA qn qc,.slice gA gn gc] 44) w')=>(show w'.cell? ⟨w.heap.size+1,0,none⟩=some (.int .i64 (3))∧w'.cell? ⟨w.heap.size+1,1,none⟩=some (.int .i64 op)∧w'.cell? ⟨w.heap.size+1,2,none⟩=some (.int .i64 rg)∧w'.cell? ⟨w.heap.size+1,3,none⟩=some (.bool mu)∧w'.cell? ⟨w.heap.size+1,4,none⟩=some (.int .i64 rl)∧w'.cell? ⟨w.heap.size+1,5,none⟩=some (.slice qA qn qc)∧w'.cell? ⟨w.heap.size+1,6,none⟩=some (.slice gA gn gc) from by
   obtain ⟨_,hcr⟩:=Wy.box2w H0.out y
   exact ⟨hcr 0 _ rfl,hcr 1 _ rfl,hcr 2 _ rfl,hcr 3 _ rfl,hcr 4 _ rfl,hcr 5 _ rfl,hcr 6 _ rfl⟩)
  go_enter Tryz.func60,Tryz.ntmps60
  go_wp2_with fail
  refine HC.out.mono ?_
  rintro e1 w1 ⟨rfl,hb1⟩
  have HW1:=hide (Wy.new HK.out hb1)
  clear hb1
  obtain ⟨p10,p11,r10,r11,r12,r13,r14,r15,r16⟩:=wt27 H0.out HW1.out
  go_wp2_with fail
  refine (cRv_is (x:=⟨3,op,rg,mu,⟨rl,qA,qn,qc,qs⟩,⟨gA,gn,gc,gL⟩⟩) HSH.out w1 ((HX.out.below (HW1.out.low HK.out)).more HW1.out.ck.bs)).mono ?_
  rintro e2 w2 ⟨rfl,hb2⟩
  have HW2:=hide (HW1.out.up hb2)
  clear hb2
  obtain ⟨p20,p21,r20,r21,r22,r23,r24,r25,r26⟩:=wt27 H0.out HW2.out
  go_wp2
  have HX2:=hide (HW2.out.drew)
  refine wp_region_held_drew (S:=(fun w'=>w'.cell? ⟨w.heap.size+1,0,none⟩=some (.int .i64 (3))∧w'.cell? ⟨w.heap.size+1,1,none⟩=some (.int .i64 op)∧w'.cell? ⟨w.heap.size+1,2,none⟩=some (.int .i64 rg)∧w'.cell? ⟨w.heap.size+1,3,none⟩=some (.bool mu)∧w'.cell? ⟨w.heap.size+1,4,none⟩=some (.int .i64 rl)∧w'.cell? ⟨w.heap.size+1,5,none⟩=some (.slice qA qn qc)∧w'.cell? ⟨w.heap.size+1,6,none⟩=some (.slice gA gn gc))) (by kernel_rfl) (hcs.out _ HX2.out) (fun hHeld=>?_)
  exact VcPz0
 case inr.inr.inr.inr=>
  clear h hwa hwb hb0 hcop hi hk hgn hgm
  have HB:=hide (two_below w [.int .i64 l,.slice pA pn pc] 36 [.int .i64 (4),.int .i64 op,.int .i64 rg,.bool mu,.int .i64 rl,.slice qA qn qc,.slice gA gn gc] 44)
  have HK:=hide (H0.out.up HB.out)
  have HP:=hide (hp.below (HB.out.mono H0.out.bs))
  clear hp
  have HX:=hide (hx.below (HB.out.mono H0.out.bs))
  clear hx
  have HC:=hide (cwritten_is HK.out HP.out hwv)
  clear hwv
  have HSH:=hide hsh
  have hva:tuV K.E (RvW.v ⟨4,op,rg,mu,⟨rl,qA,qn,qc,qs⟩,⟨gA,gn,gc,gL⟩⟩) (i:Int)=v:=by rw [←hv];exact (asErr_tup (r:=RvW.v ⟨4,op,rg,mu,⟨rl,qA,qn,qc,qs⟩,⟨gA,gn,gc,gL⟩⟩) rfl hsh).symm
  clear hsh hv
  have HVA:=hide fun (w':World) (y:Wy K (two w [.int .i64 l,.slice pA pn pc] 36 [.int .i64 (4),.int .i64 op,.int .i64 rg,.bool mu,.int .i64 rl,.slice qA qn qc,.slice gA gn gc] 44) w')=>ctup_is y.ck (HX.out.below (y.low HK.out)) hty hva
  clear hty hva
  go_enter Tryz.func60,Tryz.ntmps60
  go_wp2_with fail
  refine HC.out.mono ?_
  rintro e1 w1 ⟨rfl,hb1⟩
  have HW1:=hide (Wy.new HK.out hb1)
  clear hb1
  obtain ⟨p10,p11,r10,r11,r12,r13,r14,r15,r16⟩:=wt27 H0.out HW1.out
  go_wp2_with fail
  refine (cRv_is (x:=⟨4,op,rg,mu,⟨rl,qA,qn,qc,qs⟩,⟨gA,gn,gc,gL⟩⟩) HSH.out w1 ((HX.out.below (HW1.out.low HK.out)).more HW1.out.ck.bs)).mono ?_
  exact VcPz2
theorem stErr_asg {E:Env} {s:StV} (hk:s.kind=0) (hl:s.loc=0):stErr E s=asgV E s.pl s.rv:=by
 unfold stErr asgV
 rw [if_pos hk,if_neg (by omega)]
theorem VcQz0 {P:Prop} (h:P:=by
 clear h hx hll hE hin hq hv
 go_enter Tryz.func38,Tryz.ntmps38
 have HW0:=hide (Wy.refl HK.out)
 go_wp2_with fail
 refine (cZero_is (x:=⟨l,pA,pn,pc,ps⟩) hz _ (HX.out.pl.more HK.out.bs)).mono ?_
 rintro e1 w1 ⟨rfl,hb1⟩
 have HW1:=hide (Wy.new HK.out hb1)
 clear hb1
 obtain ⟨c1_0,c1_1,c1_2,c1_3,c1_4,c1_5,c1_6,c1_7,c1_8,c1_9,c1_10⟩:=wy11 H0.out HW1.out
 have g1_4:=HW1.out.ck.cells 4 (.slice K.x.locals.A K.x.locals.n K.x.locals.c) rfl
 go_wp2_with fail
 refine (cZeroRv_is (x:=⟨rk,op,rg,mu,⟨rl,qA,qn,qc,qs⟩,⟨gA,gn,gc,gL⟩⟩) hr _ ((HX.out.rv.below (HW1.out.low HK.out)).more HW1.out.ck.bs)).mono ?_
 rintro e2 w2 ⟨rfl,hb2⟩
 have HW2:=hide (HW1.out.up hb2)
 clear hb2
 obtain ⟨c2_0,c2_1,c2_2,c2_3,c2_4,c2_5,c2_6,c2_7,c2_8,c2_9,c2_10⟩:=wy11 H0.out HW2.out
 have g2_4:=HW2.out.ck.cells 4 (.slice K.x.locals.A K.x.locals.n K.x.locals.c) rfl
 go_wp2
 have HY:=hide (HW2.out.drew)
 have hcs:=hide fun (w':World) (y:Wy K (w.alloc (.cells #[.int .i64 (1),.int .i64 l,.slice pA pn pc,.int .i64 rk,.int .i64 op,.int .i64 rg,.bool mu,.int .i64 rl,.slice qA qn qc,.slice gA gn gc,.int .i64 lo] 46)) w')=>(show w'.cell? ⟨w.heap.size,0,none⟩=some (.int .i64 (1))∧w'.cell? ⟨w.heap.size,10,none⟩=some (.int .i64 lo)∧w'.cell? ⟨K.g,4,none⟩=some (.slice K.x.locals.A K.x.locals.n K.x.locals.c) from ⟨hcx.out _ y 0 _ rfl,hcx.out _ y 10 _ rfl,y.ck.cells 4 _ rfl⟩)
 refine wp_region_held_drew (S:=(fun w'=>w'.cell? ⟨w.heap.size,0,none⟩=some (.int .i64 (1))∧w'.cell? ⟨w.heap.size,10,none⟩=some (.int .i64 lo)∧w'.cell? ⟨K.g,4,none⟩=some (.slice K.x.locals.A K.x.locals.n K.x.locals.c))) (by kernel_rfl) (hcs.out _ HY.out) (fun hHeld=>?_)
 refine planS [0,1,2,3,4,5,6,7,8,9,10,11] ?_
 repeat' (first | refine pT hHeld rfl ?_ | refine pS hHeld rfl ?_)
 refine planE ?_
 refine wpAnyH_ready (rs:=[12]) (by kernel_rfl) (by simp) ?_
 refine AllReadyH.cons rfl (fun KZ hK=>?_) AllReadyH.nil
 go_simp
 refine (vwithin_is HIN.out _).mono ?_
 rintro e7 w7 ⟨rfl,rfl⟩
 refine hK.out _ _ (hcs.out _ HY.out) (fun hHeld=>?_)
 clear hK KZ
 try simp only [Act.put,List.setIfInBounds_toArray,List.set_cons_zero,List.set_cons_succ]
 refine planS [13,14,15] ?_
 repeat' (first | refine pT hHeld rfl ?_ | refine pS hHeld rfl ?_)
 refine planE ?_
 refine wpAnyH_done (by kernel_rfl) ?_ _
 go_wp2
 go_ret
 exact ⟨rfl,(Turn.of_below HB.out).trans HY.out.turn,HY.out.ck⟩):P:=h
theorem VcQz1 {P:Prop} (h:P:=by
 go_enter Tryz.func38,Tryz.ntmps38
 have HW0:=hide (Wy.refl HK.out)
 go_wp2_with fail
 refine (cZero_is (x:=⟨l,pA,pn,pc,ps⟩) hz _ (HX.out.pl.more HK.out.bs)).mono ?_
 rintro e1 w1 ⟨rfl,hb1⟩
 have HW1:=hide (Wy.new HK.out hb1)
 clear hb1
 obtain ⟨c1_0,c1_1,c1_2,c1_3,c1_4,c1_5,c1_6,c1_7,c1_8,c1_9,c1_10⟩:=wy11 H0.out HW1.out
 have g1_4:=HW1.out.ck.cells 4 (.slice K.x.locals.A K.x.locals.n K.x.locals.c) rfl
 go_wp2_with fail
 refine (cZeroRv_is (x:=⟨rk,op,rg,mu,⟨rl,qA,qn,qc,qs⟩,⟨gA,gn,gc,gL⟩⟩) hr _ ((HX.out.rv.below (HW1.out.low HK.out)).more HW1.out.ck.bs)).mono ?_
 rintro e2 w2 ⟨rfl,hb2⟩
 have HW2:=hide (HW1.out.up hb2)
 clear hb2
 obtain ⟨c2_0,c2_1,c2_2,c2_3,c2_4,c2_5,c2_6,c2_7,c2_8,c2_9,c2_10⟩:=wy11 H0.out HW2.out
 have g2_4:=HW2.out.ck.cells 4 (.slice K.x.locals.A K.x.locals.n K.x.locals.c) rfl
 go_wp2
 go_ret
 exact ⟨rfl,(Turn.of_below HB.out).trans HW2.out.turn,HW2.out.ck⟩):P:=h
theorem VcQz2 {P:Prop} (h:P:=by
 go_enter Tryz.func38,Tryz.ntmps38
 have HW0:=hide (Wy.refl HK.out)
 go_wp2_with fail
 refine (cZero_is (x:=⟨l,pA,pn,pc,ps⟩) hz _ (HX.out.pl.more HK.out.bs)).mono ?_
 rintro e1 w1 ⟨rfl,hb1⟩
 have HW1:=hide (Wy.new HK.out hb1)
 clear hb1
 obtain ⟨c1_0,c1_1,c1_2,c1_3,c1_4,c1_5,c1_6,c1_7,c1_8,c1_9,c1_10⟩:=wy11 H0.out HW1.out
 have g1_4:=HW1.out.ck.cells 4 (.slice K.x.locals.A K.x.locals.n K.x.locals.c) rfl
 go_wp2
 go_ret
 exact ⟨rfl,(Turn.of_below HB.out).trans HW1.out.turn,HW1.out.ck⟩):P:=h
theorem VcQz3 {P:Prop} (h:P:=by
 go_enter Tryz.func38,Tryz.ntmps38
 have HW0:=hide (Wy.refl HK.out)
 go_wp2
 go_ret
 exact ⟨rfl,(Turn.of_below HB.out).trans HW0.out.turn,HW0.out.ck⟩):P:=h
theorem cst_is {K:CkW} {x:StW} {v:Int} {w:World} (h:Ck K w) (hx:OneSt w K.B x) (hv:stErr K.E x.v=v) :
 Calls Tryz.prog 38 #[K.ptr,aggSt x] w fun e w'=>e=.returned (.int .i64 v)∧Wy K w w':=by
 obtain ⟨k,⟨l,pA,pn,pc,ps⟩,⟨rk,op,rg,mu,⟨rl,qA,qn,qc,qs⟩,⟨gA,gn,gc,gL⟩⟩,lo⟩:=x
 have H0:=hide h
 have hll:K.x.locals.L.length=K.x.locals.n:=h.one.locals.len
 have hlm:K.x.locals.n≤maxLen:=h.one.locals.nm
 unfold maxLen at hlm
 have hE:K.E.lc.length=K.x.locals.n:=by rw [←hll];exact List.length_map _
 by_cases h0:k=0
 case pos=>
  subst h0
  by_cases hlo:lo=0
  case neg=>
   have tl:(lo != 0)=true:=by simp [hlo]
   obtain rfl:v=2:=by
    rw [←hv]
    simp [stErr,StW.v,hlo]
   clear h hll hlm hE hlo hv
   have HB:=hide (below1 w (.cells #[.int .i64 (0),.int .i64 l,.slice pA pn pc,.int .i64 rk,.int .i64 op,.int .i64 rg,.bool mu,.int .i64 rl,.slice qA qn qc,.slice gA gn gc,.int .i64 lo] 46))
   have HK:=hide (H0.out.up HB.out)
   have HX:=hide (hx.below (HB.out.mono H0.out.bs))
   clear hx
   have hcx:=hide fun (w':World) (y:Wy K (w.alloc (.cells #[.int .i64 (0),.int .i64 l,.slice pA pn pc,.int .i64 rk,.int .i64 op,.int .i64 rg,.bool mu,.int .i64 rl,.slice qA qn qc,.slice gA gn gc,.int .i64 lo] 46)) w')=>Wy.box (cs:=[.int .i64 (0),.int .i64 l,.slice pA pn pc,.int .i64 rk,.int .i64 op,.int .i64 rg,.bool mu,.int .i64 rl,.slice qA qn qc,.slice gA gn gc,.int .i64 lo]) (T:=46) H0.out y
   exact VcQz3
  have tl:(lo != 0)=false:=by simp [hlo]
  clear h hll hlm hE
  have hv9:asgV K.E (PlW.v ⟨l,pA,pn,pc,ps⟩) (RvW.v ⟨rk,op,rg,mu,⟨rl,qA,qn,qc,qs⟩,⟨gA,gn,gc,gL⟩⟩)=v:=by rw [←hv];exact (stErr_asg (s:=StW.v ⟨0,⟨l,pA,pn,pc,ps⟩,⟨rk,op,rg,mu,⟨rl,qA,qn,qc,qs⟩,⟨gA,gn,gc,gL⟩⟩,lo⟩) rfl hlo).symm
  clear hv hlo
  have HB:=hide (below1 w (.cells #[.int .i64 (0),.int .i64 l,.slice pA pn pc,.int .i64 rk,.int .i64 op,.int .i64 rg,.bool mu,.int .i64 rl,.slice qA qn qc,.slice gA gn gc,.int .i64 lo] 46))
  have HK:=hide (H0.out.up HB.out)
  have HX:=hide (hx.below (HB.out.mono H0.out.bs))
  clear hx
  have hcx:=hide fun (w':World) (y:Wy K (w.alloc (.cells #[.int .i64 (0),.int .i64 l,.slice pA pn pc,.int .i64 rk,.int .i64 op,.int .i64 rg,.bool mu,.int .i64 rl,.slice qA qn qc,.slice gA gn gc,.int .i64 lo] 46)) w')=>Wy.box (cs:=[.int .i64 (0),.int .i64 l,.slice pA pn pc,.int .i64 rk,.int .i64 op,.int .i64 rg,.bool mu,.int .i64 rl,.slice qA qn qc,.slice gA gn gc,.int .i64 lo]) (T:=46) H0.out y
  have HA:=hide fun (w':World) (y:Wy K (w.alloc (.cells #[.int .i64 (0),.int .i64 l,.slice pA pn pc,.int .i64 rk,.int .i64 op,.int .i64 rg,.bool mu,.int .i64 rl,.slice qA qn qc,.slice gA gn gc,.int .i64 lo] 46)) w')=>casg_is y.ck (HX.out.pl.below (y.low HK.out)) (HX.out.rv.below (y.low HK.out)) hv9
  clear hv9
  go_enter Tryz.func38,Tryz.ntmps38
  have HW0:=hide (Wy.refl HK.out)
  go_wp2
  have HY:=hide (HW0.out.drew)
  have hcs:=hide fun (w':World) (y:Wy K (w.alloc (.cells #[.int .i64 (0),.int .i64 l,.slice pA pn pc,.int .i64 rk,.int .i64 op,.int .i64 rg,.bool mu,.int .i64 rl,.slice qA qn qc,.slice gA gn gc,.int .i64 lo] 46)) w')=>(show w'.cell? ⟨w.heap.size,0,none⟩=some (.int .i64 (0))∧w'.cell? ⟨w.heap.size,10,none⟩=some (.int .i64 lo)∧w'.cell? ⟨K.g,4,none⟩=some (.slice K.x.locals.A K.x.locals.n K.x.locals.c) from ⟨hcx.out _ y 0 _ rfl,hcx.out _ y 10 _ rfl,y.ck.cells 4 _ rfl⟩)
  refine wp_region_held_drew (S:=(fun w'=>w'.cell? ⟨w.heap.size,0,none⟩=some (.int .i64 (0))∧w'.cell? ⟨w.heap.size,10,none⟩=some (.int .i64 lo)∧w'.cell? ⟨K.g,4,none⟩=some (.slice K.x.locals.A K.x.locals.n K.x.locals.c))) (by kernel_rfl) (hcs.out _ HY.out) (fun hHeld=>?_)
  refine planS [0,1,2,3,4,5,6,7,8,9,10,11] ?_
  repeat' (first | refine pT hHeld rfl ?_ | refine pS hHeld rfl ?_)
  refine planE ?_
  refine wpAnyH_ready (rs:=[12]) (by kernel_rfl) (by simp) ?_
  refine AllReadyH.cons rfl (fun KZ hK=>?_) AllReadyH.nil
  go_simp
  refine hK.out _ _ hHeld (fun hHeld=>?_)
  clear hK KZ
  try simp only [Act.put,List.setIfInBounds_toArray,List.set_cons_zero,List.set_cons_succ]
  refine planS [13,14,15] ?_
  repeat' (first | refine pT hHeld rfl ?_ | refine pS hHeld rfl ?_)
  refine planE ?_
  refine wpAnyH_done (by kernel_rfl) ?_ _
  obtain ⟨c7_0,c7_1,c7_2,c7_3,c7_4,c7_5,c7_6,c7_7,c7_8,c7_9,c7_10⟩:=wy11 H0.out HY.out
  have g7_4:=HY.out.ck.cells 4 (.slice K.x.locals.A K.x.locals.n K.x.locals.c) rfl
  go_wp2_with fail
  refine (HA.out _ HY.out).mono ?_
  rintro e8 w8 ⟨rfl,hb8⟩
  have HW8:=hide (HY.out.trans hb8)
  clear hb8
  go_wp2
  go_ret
  exact ⟨rfl,(Turn.of_below HB.out).trans HW8.out.turn,HW8.out.ck⟩
 have t0:(k == 0)=false:=by simp [h0]
 by_cases h1:k=1
 case pos=>
  subst h1
  have HB:=hide (below1 w (.cells #[.int .i64 (1),.int .i64 l,.slice pA pn pc,.int .i64 rk,.int .i64 op,.int .i64 rg,.bool mu,.int .i64 rl,.slice qA qn qc,.slice gA gn gc,.int .i64 lo] 46))
  have HK:=hide (H0.out.up HB.out)
  have HX:=hide (hx.below (HB.out.mono H0.out.bs))
  have hcx:=hide fun (w':World) (y:Wy K (w.alloc (.cells #[.int .i64 (1),.int .i64 l,.slice pA pn pc,.int .i64 rk,.int .i64 op,.int .i64 rg,.bool mu,.int .i64 rl,.slice qA qn qc,.slice gA gn gc,.int .i64 lo] 46)) w')=>Wy.box (cs:=[.int .i64 (1),.int .i64 l,.slice pA pn pc,.int .i64 rk,.int .i64 op,.int .i64 rg,.bool mu,.int .i64 rl,.slice qA qn qc,.slice gA gn gc,.int .i64 lo]) (T:=46) H0.out y
  by_cases hz:noP (PlW.v ⟨l,pA,pn,pc,ps⟩)=true
  case neg=>
   have hz:noP (PlW.v ⟨l,pA,pn,pc,ps⟩)=false:=by simpa using hz
   obtain rfl:v=2:=by
    rw [←hv]
    simp [stErr,StW.v,hz]
   clear h hx hll hlm hE hv
   exact VcQz2
  by_cases hr:noR (RvW.v ⟨rk,op,rg,mu,⟨rl,qA,qn,qc,qs⟩,⟨gA,gn,gc,gL⟩⟩)=true
  case neg=>
   have hr:noR (RvW.v ⟨rk,op,rg,mu,⟨rl,qA,qn,qc,qs⟩,⟨gA,gn,gc,gL⟩⟩)=false:=by simpa using hr
   obtain rfl:v=2:=by
    rw [←hv]
    simp [stErr,StW.v,hz,hr]
   clear h hx hll hlm hE hv
   exact VcQz1
  by_cases hin:0≤lo∧lo < (K.x.locals.n:Int)
  case pos=>
   have HIN:=hide (show tyIn lo (K.x.locals.n:Int)=true from tyIn_iff.2 hin)
   have hq:¬(lo < 0∨(K.E.lc.length:Int)≤lo):=by rw [hE];omega
   obtain rfl:v=0:=by
    rw [←hv]
    show (if noP (PlW.v ⟨l,pA,pn,pc,ps⟩)=false∨noR (RvW.v ⟨rk,op,rg,mu,⟨rl,qA,qn,qc,qs⟩,⟨gA,gn,gc,gL⟩⟩)=false then (2:Int) else if lo < 0∨(K.E.lc.length:Int)≤lo then 3 else 0)=_
    rw [if_neg (by rw [hz,hr];simp),if_neg hq]
   exact VcQz0
  case neg=>
   have HIN:=hide (show tyIn lo (K.x.locals.n:Int)=false from tyIn_not.2 hin)
   have hq:lo < 0∨(K.E.lc.length:Int)≤lo:=by rw [hE];omega
   obtain rfl:v=3:=by
    rw [←hv]
    show (if noP (PlW.v ⟨l,pA,pn,pc,ps⟩)=false∨noR (RvW.v ⟨rk,op,rg,mu,⟨rl,qA,qn,qc,qs⟩,⟨gA,gn,gc,gL⟩⟩)=false then (2:Int) else if lo < 0∨(K.E.lc.length:Int)≤lo then 3 else 0)=_
    rw [if_neg (by rw [hz,hr];simp),if_pos hq]
   exact VcQz0
 have t1:(k == 1)=false:=by simp [h1]
 have t1':(k != 1)=true:=by simp [h1]
 by_cases h2:k=2
 case pos=>
  subst h2
  have HB:=hide (below1 w (.cells #[.int .i64 (2),.int .i64 l,.slice pA pn pc,.int .i64 rk,.int .i64 op,.int .i64 rg,.bool mu,.int .i64 rl,.slice qA qn qc,.slice gA gn gc,.int .i64 lo] 46))
  have HK:=hide (H0.out.up HB.out)
  have HX:=hide (hx.below (HB.out.mono H0.out.bs))
  have hcx:=hide fun (w':World) (y:Wy K (w.alloc (.cells #[.int .i64 (2),.int .i64 l,.slice pA pn pc,.int .i64 rk,.int .i64 op,.int .i64 rg,.bool mu,.int .i64 rl,.slice qA qn qc,.slice gA gn gc,.int .i64 lo] 46)) w')=>Wy.box (cs:=[.int .i64 (2),.int .i64 l,.slice pA pn pc,.int .i64 rk,.int .i64 op,.int .i64 rg,.bool mu,.int .i64 rl,.slice qA qn qc,.slice gA gn gc,.int .i64 lo]) (T:=46) H0.out y
  by_cases hlo:lo=0
  case neg=>
   have tl:(lo != 0)=true:=by simp [hlo]
   obtain rfl:v=2:=by
    rw [←hv]
    simp [stErr,StW.v,hlo]
   clear h hx hll hlm hE hlo hv
   exact VcQz3
  have tl:(lo != 0)=false:=by simp [hlo]
  by_cases hz:noP (PlW.v ⟨l,pA,pn,pc,ps⟩)=true
  case neg=>
   have hz:noP (PlW.v ⟨l,pA,pn,pc,ps⟩)=false:=by simpa using hz
   obtain rfl:v=2:=by
    rw [←hv]
    simp [stErr,StW.v,hz,hlo]
   clear h hx hll hlm hE hlo hv
   exact VcQz2
  by_cases hr:noR (RvW.v ⟨rk,op,rg,mu,⟨rl,qA,qn,qc,qs⟩,⟨gA,gn,gc,gL⟩⟩)=true
  case neg=>
   have hr:noR (RvW.v ⟨rk,op,rg,mu,⟨rl,qA,qn,qc,qs⟩,⟨gA,gn,gc,gL⟩⟩)=false:=by simpa using hr
   obtain rfl:v=2:=by
    rw [←hv]
    simp [stErr,StW.v,hz,hr,hlo]
   clear h hx hll hlm hE hlo hv
   exact VcQz1
  obtain rfl:v=0:=by
   rw [←hv]
   simp [stErr,StW.v,hz,hr,hlo]
  clear h hx hll hlm hE hlo hv
  go_enter Tryz.func38,Tryz.ntmps38
  have HW0:=hide (Wy.refl HK.out)
  go_wp2_with fail
  refine (cZero_is (x:=⟨l,pA,pn,pc,ps⟩) hz _ (HX.out.pl.more HK.out.bs)).mono ?_
  rintro e1 w1 ⟨rfl,hb1⟩
  have HW1:=hide (Wy.new HK.out hb1)
  clear hb1
  obtain ⟨c1_0,c1_1,c1_2,c1_3,c1_4,c1_5,c1_6,c1_7,c1_8,c1_9,c1_10⟩:=wy11 H0.out HW1.out
  have g1_4:=HW1.out.ck.cells 4 (.slice K.x.locals.A K.x.locals.n K.x.locals.c) rfl
  go_wp2_with fail
  refine (cZeroRv_is (x:=⟨rk,op,rg,mu,⟨rl,qA,qn,qc,qs⟩,⟨gA,gn,gc,gL⟩⟩) hr _ ((HX.out.rv.below (HW1.out.low HK.out)).more HW1.out.ck.bs)).mono ?_
  rintro e2 w2 ⟨rfl,hb2⟩
  have HW2:=hide (HW1.out.up hb2)
  clear hb2
  obtain ⟨c2_0,c2_1,c2_2,c2_3,c2_4,c2_5,c2_6,c2_7,c2_8,c2_9,c2_10⟩:=wy11 H0.out HW2.out
  have g2_4:=HW2.out.ck.cells 4 (.slice K.x.locals.A K.x.locals.n K.x.locals.c) rfl
  go_wp2
  have HY:=hide (HW2.out.drew)
  have hcs:=hide fun (w':World) (y:Wy K (w.alloc (.cells #[.int .i64 (2),.int .i64 l,.slice pA pn pc,.int .i64 rk,.int .i64 op,.int .i64 rg,.bool mu,.int .i64 rl,.slice qA qn qc,.slice gA gn gc,.int .i64 lo] 46)) w')=>(show w'.cell? ⟨w.heap.size,0,none⟩=some (.int .i64 (2))∧w'.cell? ⟨w.heap.size,10,none⟩=some (.int .i64 lo)∧w'.cell? ⟨K.g,4,none⟩=some (.slice K.x.locals.A K.x.locals.n K.x.locals.c) from ⟨hcx.out _ y 0 _ rfl,hcx.out _ y 10 _ rfl,y.ck.cells 4 _ rfl⟩)
  refine wp_region_held_drew (S:=(fun w'=>w'.cell? ⟨w.heap.size,0,none⟩=some (.int .i64 (2))∧w'.cell? ⟨w.heap.size,10,none⟩=some (.int .i64 lo)∧w'.cell? ⟨K.g,4,none⟩=some (.slice K.x.locals.A K.x.locals.n K.x.locals.c))) (by kernel_rfl) (hcs.out _ HY.out) (fun hHeld=>?_)
  refine planS [0,1,2,3,4,5,6,7,8,9,10,11] ?_
  repeat' (first | refine pT hHeld rfl ?_ | refine pS hHeld rfl ?_)
  refine planE ?_
  refine wpAnyH_ready (rs:=[12]) (by kernel_rfl) (by simp) ?_
  refine AllReadyH.cons rfl (fun KZ hK=>?_) AllReadyH.nil
  go_simp
  refine hK.out _ _ hHeld (fun hHeld=>?_)
  clear hK KZ
  try simp only [Act.put,List.setIfInBounds_toArray,List.set_cons_zero,List.set_cons_succ]
  refine planS [13,14,15] ?_
  repeat' (first | refine pT hHeld rfl ?_ | refine pS hHeld rfl ?_)
  refine planE ?_
  refine wpAnyH_done (by kernel_rfl) ?_ _
  obtain ⟨c7_0,c7_1,c7_2,c7_3,c7_4,c7_5,c7_6,c7_7,c7_8,c7_9,c7_10⟩:=wy11 H0.out HY.out
  have g7_4:=HY.out.ck.cells 4 (.slice K.x.locals.A K.x.locals.n K.x.locals.c) rfl
  go_wp2
  go_ret
  exact ⟨rfl,(Turn.of_below HB.out).trans HY.out.turn,HY.out.ck⟩
 have t2:(k != 2)=true:=by simp [h2]
 obtain rfl:v=14:=by
  rw [←hv]
  simp [stErr,StW.v,h0,h1,h2]
 clear h hll hlm hE h0 h1 h2 hv
 have HB:=hide (below1 w (.cells #[.int .i64 k,.int .i64 l,.slice pA pn pc,.int .i64 rk,.int .i64 op,.int .i64 rg,.bool mu,.int .i64 rl,.slice qA qn qc,.slice gA gn gc,.int .i64 lo] 46))
 have HK:=hide (H0.out.up HB.out)
 have HX:=hide (hx.below (HB.out.mono H0.out.bs))
 clear hx
 have hcx:=hide fun (w':World) (y:Wy K (w.alloc (.cells #[.int .i64 k,.int .i64 l,.slice pA pn pc,.int .i64 rk,.int .i64 op,.int .i64 rg,.bool mu,.int .i64 rl,.slice qA qn qc,.slice gA gn gc,.int .i64 lo] 46)) w')=>Wy.box (cs:=[.int .i64 k,.int .i64 l,.slice pA pn pc,.int .i64 rk,.int .i64 op,.int .i64 rg,.bool mu,.int .i64 rl,.slice qA qn qc,.slice gA gn gc,.int .i64 lo]) (T:=46) H0.out y
 exact VcQz3
end Go.Proofs.YtfgacmgjpikgaaaGreatDoor
