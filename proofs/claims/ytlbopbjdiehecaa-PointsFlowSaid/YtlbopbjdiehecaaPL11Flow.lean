/- PointsFlow: for every input the law returns true, and turns nothing that lay. No condition. -/
import Derived.Test.YtlbopbjdiehecaaQ11
import Derived.Test.YtlbopbjdiehecaaQ15
import Derived.Test.YtlbopbjdiehecaaQ18
import Derived.Test.YtlbopbjdiehecaaRows
set_option linter.unusedVariables false
set_option linter.unusedSimpArgs false
set_option maxRecDepth 100000
set_option maxHeartbeats 8000000
namespace Go.Proofs.Ytlbopbjdiehecaa.pointsFlow
open Go.ChangeShapes Go.WideShapes Go.ChangeAt Go.ChangeMaps Go.RowKit
theorem walk (x0:SlW GbW) (p:Int) (w:World) (h0:Gbs w w.heap.size x0) (hp:-9223372036854775808≤p∧p≤9223372036854775807) :
  Calls Try.prog 4 #[aggG x0,.int .i64 p] w fun e w'=>e=.returned (.bool true)∧Below w.heap.size w w':=by
 have hB0:=below1 w (.cells #[.slice x0.A x0.n x0.c] 24)
 have HGB:=hide (GBody_any x0 _ (h0.up hB0))
 have HSM:=hide fun (l:List BkV) (hv:l=x0.L.map gBk) (hs:sumN szG x0.L≤150)=>body_small h0 hv hs
 have HB0:=hide hB0
 obtain ⟨gA,gn,gc,gL⟩:=x0
 have HP:=hide (show IntR p from hp)
 clear h0 hB0 hp
 go_enter Try.func4,Try.ntmps4
 go_wp2_with fail
 refine HGB.out.mono ?_
 rintro e w1 ⟨hb1,(rfl | ⟨x,rfl,hx,hv,hs⟩)⟩
 ·
  have HB1:=hide (HB0.out.trans (hb1.mono HB0.out.size))
  have b2:=below1 w1 (.cells #[.string ⟨#[]⟩,.slice none 0 0,.slice none 0 0,.slice none 0 0,.slice none 0 0,.int .i64 0,.slice none 0 0] 32)
  have HB2:=hide (HB1.out.trans (b2.mono HB1.out.size))
  clear hb1 b2
  go_wp2_with fail
  refine (alive11_any _).mono ?_
  rintro e w3 ⟨rfl,hb3⟩
  have HB3:=hide (HB2.out.trans (hb3.mono HB2.out.size))
  clear hb3
  go_wp2
  go_ret
  exact ⟨rfl,HB3.out⟩
 have HB1:=hide (HB0.out.trans (hb1.mono HB0.out.size))
 obtain ⟨hN,hT⟩:=HSM.out _ hv hs
 clear hs hv HSM
 obtain ⟨BL,hBL⟩:∃ l,x.v.blocks=l:=⟨_,rfl⟩
 rw [hBL] at hN hT
 obtain ⟨nm,⟨rA,rn,rc,rL⟩,⟨oA,on,oc,oL⟩,⟨tA,tm,tc,tL⟩,⟨lA,ln,lc,lL⟩,ar,⟨bA,bn,bc,bL⟩⟩:=x
 have b2:=below1 w1 (.cells #[.string nm,.slice rA rn rc,.slice oA on oc,.slice tA tm tc,.slice lA ln lc,.int .i64 ar,.slice bA bn bc] 32)
 have hcx:=hide fun (w':World) (z:Below (w1.alloc (.cells #[.string nm,.slice rA rn rc,.slice oA on oc,.slice tA tm tc,.slice lA ln lc,.int .i64 ar,.slice bA bn bc] 32)).heap.size (w1.alloc (.cells #[.string nm,.slice rA rn rc,.slice oA on oc,.slice tA tm tc,.slice lA ln lc,.int .i64 ar,.slice bA bn bc] 32)) w')=>cells7 z
 have HX:=hide (show Ctx11 (w1.alloc (.cells #[.string nm,.slice rA rn rc,.slice oA on oc,.slice tA tm tc,.slice lA ln lc,.int .i64 ar,.slice bA bn bc] 32)) ⟨nm,⟨rA,rn,rc,rL⟩,⟨oA,on,oc,oL⟩,⟨tA,tm,tc,tL⟩,⟨lA,ln,lc,lL⟩,ar,⟨bA,bn,bc,bL⟩⟩ BL from ⟨hx.up b2,hBL,hN,hT⟩)
 have HB2:=hide (HB1.out.trans (b2.mono HB1.out.size))
 obtain ⟨WW,hWW⟩:∃ W,W=w1.alloc (.cells #[.string nm,.slice rA rn rc,.slice oA on oc,.slice tA tm tc,.slice lA ln lc,.int .i64 ar,.slice bA bn bc] 32):=⟨_,rfl⟩
 rw [←hWW] at hcx HX HB2
 have HWW:=hide hWW
 clear b2 hb1 hx hWW hBL hN hT
 obtain ⟨L,hL⟩:∃ L,nextI BL p=L:=⟨_,rfl⟩
 obtain ⟨E,hE⟩:∃ E,edgesI BL=E:=⟨_,rfl⟩
 have HNX:=hide fun (w':World) (y:Below WW.heap.size WW w')=>hL ▸ HX.out.next y HP.out
 have HRN:=hide fun (w':World) (y:Below WW.heap.size WW w')=>hL ▸ HX.out.rnext y HP.out
 have HED:=hide fun (w':World) (y:Below WW.heap.size WW w')=>hE ▸ HX.out.edges y
 have HRE:=hide fun (w':World) (y:Below WW.heap.size WW w')=>hE ▸ HX.out.redges y
 have hq1:eqIs L L=true:=eqIs_iff.2 rfl
 have hq2:eqPs E E=true:=eqPs_iff.2 rfl
 have HQ1:=hide hq1
 have HQ2:=hide hq2
 clear hL hE hq1 hq2
 go_wp2_with fail
 rw [←HWW.out]
 have HD:=hide ((Below.refl WW.heap.size WW).drew)
 refine wp_region_held_drew (S:=(fun w'=>Below WW.heap.size WW w')) (by kernel_rfl) HD.out (fun hHeld=>?_)
 refine wpAnyH_ready (rs:=[0]) (by kernel_rfl) (by simp) ?_
 refine AllReadyH.cons rfl (fun KZ hK=>?_) AllReadyH.nil
 go_simp
 refine (alive11_any _).mono ?_
 rintro e5 w5 ⟨rfl,hb0⟩
 have H5:=hide (HD.out.trans (hb0.mono HD.out.size))
 clear hb0
 refine hK.out _ _ H5.out (fun hHeld=>?_)
 clear hK KZ
 try simp only [Act.put,List.setIfInBounds_toArray,List.set_cons_zero,List.set_cons_succ]
 refine planS [1,2,3,5,6] ?_
 repeat' (first | refine pT hHeld rfl ?_ | refine pS hHeld rfl ?_)
 refine planE ?_
 refine wpAnyH_ready (rs:=[4]) (by kernel_rfl) (by simp) ?_
 refine AllReadyH.cons rfl (fun KZ hK=>?_) AllReadyH.nil
 go_simp
 refine (HNX.out _ H5.out).mono ?_
 rintro e5 w6 ⟨A6,c6,rfl,ho6,hb0⟩
 have H6:=hide (H5.out.trans (hb0.mono H5.out.size))
 have HO6:=hide ho6
 clear ho6
 clear hb0
 refine hK.out _ _ H6.out (fun hHeld=>?_)
 clear hK KZ
 try simp only [Act.put,List.setIfInBounds_toArray,List.set_cons_zero,List.set_cons_succ]
 refine wpAnyH_ready (rs:=[7]) (by kernel_rfl) (by simp) ?_
 refine AllReadyH.cons rfl (fun KZ hK=>?_) AllReadyH.nil
 go_simp
 refine (HRN.out _ H6.out).mono ?_
 rintro e5 w7 ⟨A7,c7,rfl,ho7,hb0⟩
 have H7:=hide (H6.out.trans (hb0.mono H6.out.size))
 have HO7:=hide ho7
 have HO67:=hide (ownsRow_below HO6.out hb0)
 clear ho7
 clear hb0
 refine hK.out _ _ H7.out (fun hHeld=>?_)
 clear hK KZ
 try simp only [Act.put,List.setIfInBounds_toArray,List.set_cons_zero,List.set_cons_succ]
 refine wpAnyH_ready (rs:=[8]) (by kernel_rfl) (by simp) ?_
 refine AllReadyH.cons rfl (fun KZ hK=>?_) AllReadyH.nil
 go_simp
 refine (EqI11 HQ1.out _ HO67.out HO7.out).mono ?_
 rintro e5 w8 ⟨rfl,hb0⟩
 have H8:=hide (H7.out.trans (hb0.mono H7.out.size))
 clear hb0
 refine hK.out _ _ H8.out (fun hHeld=>?_)
 clear hK KZ
 try simp only [Act.put,List.setIfInBounds_toArray,List.set_cons_zero,List.set_cons_succ]
 refine planS [9,10,11,13] ?_
 repeat' (first | refine pT hHeld rfl ?_ | refine pS hHeld rfl ?_)
 refine planE ?_
 refine wpAnyH_ready (rs:=[12]) (by kernel_rfl) (by simp) ?_
 refine AllReadyH.cons rfl (fun KZ hK=>?_) AllReadyH.nil
 go_simp
 refine (HED.out _ H8.out).mono ?_
 rintro e5 w9 ⟨A9,c9,rfl,ho9,hb0⟩
 have H9:=hide (H8.out.trans (hb0.mono H8.out.size))
 have HO9:=hide ho9
 clear ho9
 clear hb0
 refine hK.out _ _ H9.out (fun hHeld=>?_)
 clear hK KZ
 try simp only [Act.put,List.setIfInBounds_toArray,List.set_cons_zero,List.set_cons_succ]
 refine wpAnyH_ready (rs:=[14]) (by kernel_rfl) (by simp) ?_
 refine AllReadyH.cons rfl (fun KZ hK=>?_) AllReadyH.nil
 go_simp
 refine (HRE.out _ H9.out).mono ?_
 rintro e5 w10 ⟨A10,c10,rfl,ho10,hb0⟩
 have H10:=hide (H9.out.trans (hb0.mono H9.out.size))
 have HO10:=hide ho10
 have HO910:=hide (ownsRow_below HO9.out hb0)
 clear ho10
 clear hb0
 refine hK.out _ _ H10.out (fun hHeld=>?_)
 clear hK KZ
 try simp only [Act.put,List.setIfInBounds_toArray,List.set_cons_zero,List.set_cons_succ]
 refine wpAnyH_ready (rs:=[15]) (by kernel_rfl) (by simp) ?_
 refine AllReadyH.cons rfl (fun KZ hK=>?_) AllReadyH.nil
 go_simp
 refine (EqP11 HQ2.out _ HO910.out HO10.out).mono ?_
 rintro e5 w11 ⟨rfl,hb0⟩
 have H11:=hide (H10.out.trans (hb0.mono H10.out.size))
 clear hb0
 refine hK.out _ _ H11.out (fun hHeld=>?_)
 clear hK KZ
 try simp only [Act.put,List.setIfInBounds_toArray,List.set_cons_zero,List.set_cons_succ]
 refine planS [16,17] ?_
 repeat' (first | refine pT hHeld rfl ?_ | refine pS hHeld rfl ?_)
 refine planE ?_
 refine wpAnyH_done (by kernel_rfl) ?_ _
 go_wp2
 go_ret
 exact ⟨rfl,HB2.out.trans (H11.out.mono HB2.out.size)⟩
theorem own:ownKnob Try.prog.godebug=none:=by kernel_rfl
theorem laidOut:laidOutB Try.prog=true:=by kernel_rfl
theorem contract (H:Type) (enc:TypeId×Value→H) (W:World) (base:Nat) (args:Array Value) (ds gs:List (DataW H)) (before:List MemPlace)
  (hval0:∀ (j:Nat) t v,Try.f4.params[j]?=some t→args[j]?=some v→Value.okWide Try.prog W .any base t v)
  (hW:DataW.Whole enc Try.prog Try.f4.params.toList Rows.pointsFlowSpec.vars false W args.toList ds gs before) :
  Calls Try.prog 4 args W fun e W'=>∃ v,e=.returned v∧Rows.pointsFlowSpec.post enc Try.prog Try.f4 false true false false W args v W':=by
 have hval:∀ (j:Nat) t v,Try.f4.params[j]?=some t→args[j]?=some v→Value.okWide Try.prog W .any base t v:=hval0
 have hW':=hW
 obtain ⟨p,q,hA0,hV,rfl,hfz,hnd⟩:=hW
 have hA:DataW.TrodAll enc Try.prog W 0 (fun _=>true) true Try.f4.params.toList args.toList ds p:=hA0
 rw [Try.params4] at hA hval
 obtain ⟨v0,vs0,d0,ds0,p0,q0,hargs,rfl,rfl,h0,r0⟩:=trodAll_cons hA
 obtain ⟨v1,vs1,d1,ds1,p1,q1,rfl,rfl,rfl,h1,r1⟩:=trodAll_cons r0
 obtain ⟨rfl,rfl,rfl⟩:=trodAll_nil r1
 obtain rfl:args=#[v0,v1]:=by cases args;simp_all
 obtain ⟨rfl,rfl⟩:=trodVars_none hV
 have k0:=h0
 have lt0:∀ x∈p0,x.block < W.heap.size:=by obtain ⟨m,hm⟩:=k0;exact DataW.trod_lt m _ _ _ hm
 obtain ⟨x0,rfl,g0⟩:=openGraph (hval 0 24 v0 rfl rfl) h0
 obtain ⟨a1,rfl,rfl,rfl,w1⟩:=open_int Try.underlying3 (hval 1 3 v1 rfl rfl) h1
 have g1:-9223372036854775808≤a1∧a1≤9223372036854775807:=by simpa [Lit.wf,IntKind.min,IntKind.max,IntKind.signed,IntKind.bits] using w1
 clear hA0 hval0
 simp only [List.append_nil] at hW'
 refine (walk x0 a1 W g0 g1).mono fun e W' ⟨he,bel⟩=>?_
 subst he
 exact ⟨_,rfl,_,_,_,[],_,[],hW',trodAll_mk1 (shut_bool Try.underlying4 _),(trodAll_cons_mk (Below.trod laidOut (by kernel_rfl) (of_decide_eq_true (by kernel_rfl)) k0 bel lt0) (trodAll_cons_mk (shut_int Try.underlying3 w1) trodAll_mk0)),rfl,bel.frame _,fun h=>by cases h⟩
theorem lifted (os:Os) (started:os.Started) (H:Type) (enc:TypeId×Value→H) :
  ReturnsInHanded {} Try.checked os 4 .any (Rows.pointsFlowSpec.pre6 enc Try.prog Try.f4 Rows.pointsFlowRow.domain false) (Rows.pointsFlowSpec.post enc Try.prog Try.f4 false true false false):=by
 refine returnsInHanded_of_change (C:=Try.checked) own started (by kernel_rfl) Try.func4
  (ChangeSpec.witness6 (enc:=enc) (C:=Try.checked) false ⟨#[],#[.agg #[.slice none 0 0],.int .i64 0],[]⟩ 8 (by kernel_rfl) (by kernel_rfl) (by kernel_rfl) (by kernel_rfl)) ?_
 intro W base args ds gs before hval hW _ _
 exact contract H enc W base args ds gs before hval hW
theorem proved:Rows.PointsFlowSaid:=
 OpenClaim.holds_of_wide 4 Try.f4 rfl rfl rfl rfl rfl rfl rfl ⟨rfl,rfl,rfl,rfl,rfl⟩ rfl rfl rfl rfl rfl (by kernel_rfl) Try.func4 (by kernel_rfl)
  (of_decide_eq_true (by kernel_rfl)) (by unfold Func.isWrapper;first | (rw [if_pos (by decide +kernel)];kernel_rfl) | (rw [if_neg (by decide +kernel)];exact ⟨rfl,rfl⟩))
  (fun os started H enc _=>lifted os started H enc)
end Go.Proofs.Ytlbopbjdiehecaa.pointsFlow
