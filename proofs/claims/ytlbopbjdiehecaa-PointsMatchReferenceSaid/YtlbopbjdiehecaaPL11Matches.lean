/- PointsMatchReference: for every input the law returns true, and turns nothing that lay. No condition. -/
import Derived.Test.YtlbopbjdiehecaaQ7
import Derived.Test.YtlbopbjdiehecaaQ13
import Derived.Test.YtlbopbjdiehecaaQ14
import Derived.Test.YtlbopbjdiehecaaQ17
import Derived.Test.YtlbopbjdiehecaaRows
set_option linter.unusedVariables false
set_option linter.unusedSimpArgs false
set_option maxRecDepth 100000
set_option maxHeartbeats 8000000
namespace Go.Proofs.Ytlbopbjdiehecaa.pointsMatchReference
open Go.ChangeShapes Go.WideShapes Go.ChangeAt Go.ChangeMaps Go.RowKit
theorem walk (x0:SlW GbW) (a b p:Int) (w:World) (h0:Gbs w w.heap.size x0) (hab:IntR a∧IntR b) (hp:-9223372036854775808≤p∧p≤9223372036854775807) :
  Calls Try.prog 3 #[aggG x0,.agg #[.int .i64 a,.int .i64 b],.int .i64 p] w fun e w'=>e=.returned (.bool true)∧Below w.heap.size w w':=by
 have q1:=below1 w (.cells #[.slice x0.A x0.n x0.c] 24)
 have hB0:=q1.trans ((below1 (w.alloc (.cells #[.slice x0.A x0.n x0.c] 24)) (.cells #[.int .i64 a,.int .i64 b] 25)).mono q1.size)
 have hbp:=Bx.new (w.alloc (.cells #[.slice x0.A x0.n x0.c] 24)) [.int .i64 a,.int .i64 b] 25
 have hws:(w.alloc (.cells #[.slice x0.A x0.n x0.c] 24)).heap.size=w.heap.size+1:=by simp
 rw [hws] at hbp
 have HBP:=hide hbp
 clear q1 hbp hws
 have HGB:=hide (GBody_any x0 _ (h0.up hB0))
 have HSM:=hide fun (l:List BkV) (hv:l=x0.L.map gBk) (hs:sumN szG x0.L≤150)=>body_small h0 hv hs
 have HB0:=hide hB0
 obtain ⟨gA,gn,gc,gL⟩:=x0
 have HP:=hide (show IntR p from hp)
 clear h0 hB0 hp hab
 go_enter Try.func3,Try.ntmps3
 go_wp2_with fail
 refine HGB.out.mono ?_
 rintro e w1 ⟨hb1,(rfl | ⟨x,rfl,hx,hv,hs⟩)⟩
 ·
  have HB1:=hide (HB0.out.trans (hb1.mono HB0.out.size))
  have b2:=below1 w1 (.cells #[.string ⟨#[]⟩,.slice none 0 0,.slice none 0 0,.slice none 0 0,.slice none 0 0,.int .i64 0,.slice none 0 0] 32)
  have HB2:=hide (HB1.out.trans (b2.mono HB1.out.size))
  clear hb1 b2
  go_wp2_with fail
  refine (alive11_any _).mono ?_
  rintro e w3 ⟨rfl,hb3⟩
  have HB3:=hide (HB2.out.trans (hb3.mono HB2.out.size))
  clear hb3
  go_wp2
  go_ret
  exact ⟨rfl,HB3.out⟩
 have HB1:=hide (HB0.out.trans (hb1.mono HB0.out.size))
 obtain ⟨hN,hT⟩:=HSM.out _ hv hs
 clear hs hv HSM
 obtain ⟨BL,hBL⟩:∃ l,x.v.blocks=l:=⟨_,rfl⟩
 rw [hBL] at hN hT
 obtain ⟨nm,⟨rA,rn,rc,rL⟩,⟨oA,on,oc,oL⟩,⟨tA,tm,tc,tL⟩,⟨lA,ln,lc,lL⟩,ar,⟨bA,bn,bc,bL⟩⟩:=x
 have b2:=below1 w1 (.cells #[.string nm,.slice rA rn rc,.slice oA on oc,.slice tA tm tc,.slice lA ln lc,.int .i64 ar,.slice bA bn bc] 32)
 have hcx:=hide fun (w':World) (z:Below (w1.alloc (.cells #[.string nm,.slice rA rn rc,.slice oA on oc,.slice tA tm tc,.slice lA ln lc,.int .i64 ar,.slice bA bn bc] 32)).heap.size (w1.alloc (.cells #[.string nm,.slice rA rn rc,.slice oA on oc,.slice tA tm tc,.slice lA ln lc,.int .i64 ar,.slice bA bn bc] 32)) w')=>cells7 z
 have HX:=hide (show Ctx11 (w1.alloc (.cells #[.string nm,.slice rA rn rc,.slice oA on oc,.slice tA tm tc,.slice lA ln lc,.int .i64 ar,.slice bA bn bc] 32)) ⟨nm,⟨rA,rn,rc,rL⟩,⟨oA,on,oc,oL⟩,⟨tA,tm,tc,tL⟩,⟨lA,ln,lc,lL⟩,ar,⟨bA,bn,bc,bL⟩⟩ BL from ⟨hx.up b2,hBL,hN,hT⟩)
 have HB2:=hide (HB1.out.trans (b2.mono HB1.out.size))
 obtain ⟨WW,hWW⟩:∃ W,W=w1.alloc (.cells #[.string nm,.slice rA rn rc,.slice oA on oc,.slice tA tm tc,.slice lA ln lc,.int .i64 ar,.slice bA bn bc] 32):=⟨_,rfl⟩
 rw [←hWW] at hcx HX HB2
 have HWW:=hide hWW
 have HBPW:=hide fun (w':World) (z:Below WW.heap.size WW w')=>(have hz:=((HBP.out.below hb1).below (hWW ▸ b2)).below z;(show w'.cell? ⟨w.heap.size+1,0,none⟩=some (.int .i64 a)∧w'.cell? ⟨w.heap.size+1,1,none⟩=some (.int .i64 b) from ⟨hz.cell (j:=0) rfl,hz.cell (j:=1) rfl⟩))
 clear b2 hb1 hx hWW hBL hN hT
 obtain ⟨C,hC⟩:∃ C,ptCount BL=C:=⟨_,rfl⟩
 obtain ⟨r,hr⟩:∃ r,ptIdx BL a b=r:=⟨_,rfl⟩
 obtain ⟨s,hs⟩:∃ s,ptLocI BL p=s:=⟨_,rfl⟩
 obtain ⟨ri,rb,hrf⟩:=vIdx_form r
 obtain ⟨si,sk,sb,hsf⟩:=vLoc_form s
 have HC1:=hide fun (w':World) (y:Below WW.heap.size WW w')=>HX.out.count y hC
 have HC2:=hide fun (w':World) (y:Below WW.heap.size WW w')=>HX.out.rcount y hC
 have HI1:=hide fun (w':World) (y:Below WW.heap.size WW w')=>hrf ▸ HX.out.index y a b hr
 have HI2:=hide fun (w':World) (y:Below WW.heap.size WW w')=>hrf ▸ HX.out.rindex y a b hr
 have HL1:=hide fun (w':World) (y:Below WW.heap.size WW w')=>hsf ▸ HX.out.locate y HP.out hs
 have HL2:=hide fun (w':World) (y:Below WW.heap.size WW w')=>hsf ▸ HX.out.rlocate y HP.out hs
 have HW0:=hide (Below.refl WW.heap.size WW)
 clear hC hr hs hrf hsf
 obtain ⟨z0,z1⟩:=HBPW.out _ HW0.out
 rw [HWW.out] at z0 z1
 go_wp2_with fail
 rw [←HWW.out]
 refine (HI1.out _ HW0.out).mono ?_
 rintro e5 w3 ⟨rfl,hb0⟩
 have H3:=hide hb0
 clear hb0 z0 z1
 obtain ⟨y0,y1,y2,y3,y4,y5,y6⟩:=hcx.out _ H3.out
 obtain ⟨z0,z1⟩:=HBPW.out _ H3.out
 go_wp2_with fail
 refine (HI2.out _ H3.out).mono ?_
 rintro e5 w4 ⟨rfl,hb0⟩
 have H4:=hide (H3.out.trans (hb0.mono H3.out.size))
 clear hb0 y0 y1 y2 y3 y4 y5 y6 z0 z1
 obtain ⟨y0,y1,y2,y3,y4,y5,y6⟩:=hcx.out _ H4.out
 obtain ⟨z0,z1⟩:=HBPW.out _ H4.out
 go_wp2_with fail
 refine (HL1.out _ H4.out).mono ?_
 rintro e5 w5 ⟨rfl,hb0⟩
 have H5:=hide (H4.out.trans (hb0.mono H4.out.size))
 clear hb0 y0 y1 y2 y3 y4 y5 y6 z0 z1
 obtain ⟨y0,y1,y2,y3,y4,y5,y6⟩:=hcx.out _ H5.out
 obtain ⟨z0,z1⟩:=HBPW.out _ H5.out
 go_wp2_with fail
 refine (HL2.out _ H5.out).mono ?_
 rintro e5 w6 ⟨rfl,hb0⟩
 have H6:=hide (H5.out.trans (hb0.mono H5.out.size))
 clear hb0 y0 y1 y2 y3 y4 y5 y6 z0 z1
 have hcy:=hcx
 clear hcx
 have hcx:=hide fun (w':World) (z:Below w6.heap.size w6 w')=>hcy.out w' (H6.out.trans (z.mono H6.out.size))
 go_wp2_with fail
 have HD:=hide ((Below.refl w6.heap.size w6).drew)
 refine wp_region_held_drew (S:=(fun w'=>Below w6.heap.size w6 w')) (by kernel_rfl) HD.out (fun hHeld=>?_)
 refine wpAnyH_ready (rs:=[0]) (by kernel_rfl) (by simp) ?_
 refine AllReadyH.cons rfl (fun KZ hK=>?_) AllReadyH.nil
 go_simp
 refine (alive11_any _).mono ?_
 rintro e5 w7 ⟨rfl,hb0⟩
 have H7:=hide (HD.out.trans (hb0.mono HD.out.size))
 clear hb0
 refine hK.out _ _ H7.out (fun hHeld=>?_)
 clear hK KZ
 try simp only [Act.put,List.setIfInBounds_toArray,List.set_cons_zero,List.set_cons_succ]
 refine planS [1,2,4] ?_
 repeat' (first | refine pT hHeld rfl ?_ | refine pS hHeld rfl ?_)
 refine planE ?_
 refine wpAnyH_ready (rs:=[3]) (by kernel_rfl) (by simp) ?_
 refine AllReadyH.cons rfl (fun KZ hK=>?_) AllReadyH.nil
 go_simp
 refine (HC1.out _ (H6.out.trans (H7.out.mono H6.out.size))).mono ?_
 rintro e5 w8 ⟨rfl,hb0⟩
 have H8:=hide (H7.out.trans (hb0.mono H7.out.size))
 clear hb0
 refine hK.out _ _ H8.out (fun hHeld=>?_)
 clear hK KZ
 try simp only [Act.put,List.setIfInBounds_toArray,List.set_cons_zero,List.set_cons_succ]
 refine wpAnyH_ready (rs:=[5]) (by kernel_rfl) (by simp) ?_
 refine AllReadyH.cons rfl (fun KZ hK=>?_) AllReadyH.nil
 go_simp
 refine (HC2.out _ (H6.out.trans (H8.out.mono H6.out.size))).mono ?_
 rintro e5 w9 ⟨rfl,hb0⟩
 have H9:=hide (H8.out.trans (hb0.mono H8.out.size))
 clear hb0
 refine hK.out _ _ H9.out (fun hHeld=>?_)
 clear hK KZ
 try simp only [Act.put,List.setIfInBounds_toArray,List.set_cons_zero,List.set_cons_succ]
 refine planS [6,7,8,9,10,11,12,13,14,15,16,17,18,19,20,21,22,23,24,25,26,27,28,29,30,31,32,33] ?_
 repeat' (first | refine pT hHeld rfl ?_ | refine pS hHeld rfl ?_)
 refine planE ?_
 refine wpAnyH_done (by kernel_rfl) ?_ _
 go_wp2
 go_ret
 exact ⟨rfl,HB2.out.trans ((H6.out.trans (H9.out.mono H6.out.size)).mono HB2.out.size)⟩
theorem own:ownKnob Try.prog.godebug=none:=by kernel_rfl
theorem laidOut:laidOutB Try.prog=true:=by kernel_rfl
theorem contract (H:Type) (enc:TypeId×Value→H) (W:World) (base:Nat) (args:Array Value) (ds gs:List (DataW H)) (before:List MemPlace)
  (hval0:∀ (j:Nat) t v,Try.f3.params[j]?=some t→args[j]?=some v→Value.okWide Try.prog W .any base t v)
  (hW:DataW.Whole enc Try.prog Try.f3.params.toList Rows.pointsMatchReferenceSpec.vars false W args.toList ds gs before) :
  Calls Try.prog 3 args W fun e W'=>∃ v,e=.returned v∧Rows.pointsMatchReferenceSpec.post enc Try.prog Try.f3 false true false false W args v W':=by
 have hval:∀ (j:Nat) t v,Try.f3.params[j]?=some t→args[j]?=some v→Value.okWide Try.prog W .any base t v:=hval0
 have hW':=hW
 obtain ⟨p,q,hA0,hV,rfl,hfz,hnd⟩:=hW
 have hA:DataW.TrodAll enc Try.prog W 0 (fun _=>true) true Try.f3.params.toList args.toList ds p:=hA0
 rw [Try.params3] at hA hval
 obtain ⟨v0,vs0,d0,ds0,p0,q0,hargs,rfl,rfl,h0,r0⟩:=trodAll_cons hA
 obtain ⟨v1,vs1,d1,ds1,p1,q1,rfl,rfl,rfl,h1,r1⟩:=trodAll_cons r0
 obtain ⟨v2,vs2,d2,ds2,p2,q2,rfl,rfl,rfl,h2,r2⟩:=trodAll_cons r1
 obtain ⟨rfl,rfl,rfl⟩:=trodAll_nil r2
 obtain rfl:args=#[v0,v1,v2]:=by cases args;simp_all
 obtain ⟨rfl,rfl⟩:=trodVars_none hV
 have k0:=h0
 have lt0:∀ x∈p0,x.block < W.heap.size:=by obtain ⟨m,hm⟩:=k0;exact DataW.trod_lt m _ _ _ hm
 obtain ⟨x0,rfl,g0⟩:=openGraph (hval 0 24 v0 rfl rfl) h0
 have k1:=h1
 have lt1:∀ x∈p1,x.block < W.heap.size:=by obtain ⟨m,hm⟩:=k1;exact DataW.trod_lt m _ _ _ hm
 obtain ⟨a1,b1,rfl,g1⟩:=openPairI Try.underlying25 Try.underlying3 (by kernel_rfl) (by kernel_rfl) (hval 1 25 v1 rfl rfl) h1
 obtain ⟨a2,rfl,rfl,rfl,w2⟩:=open_int Try.underlying3 (hval 2 3 v2 rfl rfl) h2
 have g2:-9223372036854775808≤a2∧a2≤9223372036854775807:=by simpa [Lit.wf,IntKind.min,IntKind.max,IntKind.signed,IntKind.bits] using w2
 clear hA0 hval0
 simp only [List.append_nil] at hW'
 refine (walk x0 a1 b1 a2 W g0 g1 g2).mono fun e W' ⟨he,bel⟩=>?_
 subst he
 exact ⟨_,rfl,_,_,_,[],_,[],hW',trodAll_mk1 (shut_bool Try.underlying4 _),(trodAll_cons_mk (Below.trod laidOut (by kernel_rfl) (of_decide_eq_true (by kernel_rfl)) k0 bel lt0) (trodAll_cons_mk (Below.trod laidOut (by kernel_rfl) (of_decide_eq_true (by kernel_rfl)) k1 bel lt1) (trodAll_cons_mk (shut_int Try.underlying3 w2) trodAll_mk0))),rfl,bel.frame _,fun h=>by cases h⟩
theorem lifted (os:Os) (started:os.Started) (H:Type) (enc:TypeId×Value→H) :
  ReturnsInHanded {} Try.checked os 3 .any (Rows.pointsMatchReferenceSpec.pre6 enc Try.prog Try.f3 Rows.pointsMatchReferenceRow.domain false) (Rows.pointsMatchReferenceSpec.post enc Try.prog Try.f3 false true false false):=by
 refine returnsInHanded_of_change (C:=Try.checked) own started (by kernel_rfl) Try.func3
  (ChangeSpec.witness6 (enc:=enc) (C:=Try.checked) false ⟨#[],#[.agg #[.slice none 0 0],.agg #[.int .i64 0,.int .i64 0],.int .i64 0],[]⟩ 8 (by kernel_rfl) (by kernel_rfl) (by kernel_rfl) (by kernel_rfl)) ?_
 intro W base args ds gs before hval hW _ _
 exact contract H enc W base args ds gs before hval hW
theorem proved:Rows.PointsMatchReferenceSaid:=
 OpenClaim.holds_of_wide 3 Try.f3 rfl rfl rfl rfl rfl rfl rfl ⟨rfl,rfl,rfl,rfl,rfl⟩ rfl rfl rfl rfl rfl (by kernel_rfl) Try.func3 (by kernel_rfl)
  (of_decide_eq_true (by kernel_rfl)) (by unfold Func.isWrapper;first | (rw [if_pos (by decide +kernel)];kernel_rfl) | (rw [if_neg (by decide +kernel)];exact ⟨rfl,rfl⟩))
  (fun os started H enc _=>lifted os started H enc)
end Go.Proofs.Ytlbopbjdiehecaa.pointsMatchReference
