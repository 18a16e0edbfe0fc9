/- PointsInverse: for every input the law returns true, and turns nothing that lay. No condition. -/
import Derived.Test.YtlbopbjdiehecaaQ13
import Derived.Test.YtlbopbjdiehecaaQ14
import Derived.Test.YtlbopbjdiehecaaRows
set_option linter.unusedVariables false
set_option linter.unusedSimpArgs false
set_option maxRecDepth 100000
set_option maxHeartbeats 8000000
namespace Go.Proofs.Ytlbopbjdiehecaa.pointsInverse
open Go.ChangeShapes Go.WideShapes Go.ChangeAt Go.ChangeMaps Go.RowKit
theorem walk (x0:SlW GbW) (w:World) (h0:Gbs w w.heap.size x0) :
  Calls Try.prog 6 #[aggG x0] w fun e w'=>e=.returned (.bool true)∧Below w.heap.size w w':=by
 have hB0:=below1 w (.cells #[.slice x0.A x0.n x0.c] 24)
 have HGB:=hide (GBody_any x0 _ (h0.up hB0))
 have HSM:=hide fun (l:List BkV) (hv:l=x0.L.map gBk) (hs:sumN szG x0.L≤150)=>body_small h0 hv hs
 have HB0:=hide hB0
 obtain ⟨gA,gn,gc,gL⟩:=x0
 clear h0 hB0
 go_enter Try.func6,Try.ntmps6
 go_wp2_with fail
 refine HGB.out.mono ?_
 rintro e w1 ⟨hb1,(rfl | ⟨x,rfl,hx,hv,hs⟩)⟩
 ·
  have HB1:=hide (HB0.out.trans (hb1.mono HB0.out.size))
  have b2:=below1 w1 (.cells #[.string ⟨#[]⟩,.slice none 0 0,.slice none 0 0,.slice none 0 0,.slice none 0 0,.int .i64 0,.slice none 0 0] 32)
  have HB2:=hide (HB1.out.trans (b2.mono HB1.out.size))
  clear hb1 b2
  go_wp2_with fail
  refine (alive11_any _).mono ?_
  rintro e w3 ⟨rfl,hb3⟩
  have HB3:=hide (HB2.out.trans (hb3.mono HB2.out.size))
  clear hb3
  go_wp2
  go_ret
  exact ⟨rfl,HB3.out⟩
 have HB1:=hide (HB0.out.trans (hb1.mono HB0.out.size))
 obtain ⟨hN,hT⟩:=HSM.out _ hv hs
 clear hs hv HSM
 obtain ⟨BL,hBL⟩:∃ l,x.v.blocks=l:=⟨_,rfl⟩
 rw [hBL] at hN hT
 obtain ⟨nm,⟨rA,rn,rc,rL⟩,⟨oA,on,oc,oL⟩,⟨tA,tm,tc,tL⟩,⟨lA,ln,lc,lL⟩,ar,⟨bA,bn,bc,bL⟩⟩:=x
 have b2:=below1 w1 (.cells #[.string nm,.slice rA rn rc,.slice oA on oc,.slice tA tm tc,.slice lA ln lc,.int .i64 ar,.slice bA bn bc] 32)
 have hcx:=hide fun (w':World) (z:Below (w1.alloc (.cells #[.string nm,.slice rA rn rc,.slice oA on oc,.slice tA tm tc,.slice lA ln lc,.int .i64 ar,.slice bA bn bc] 32)).heap.size (w1.alloc (.cells #[.string nm,.slice rA rn rc,.slice oA on oc,.slice tA tm tc,.slice lA ln lc,.int .i64 ar,.slice bA bn bc] 32)) w')=>cells7 z
 have HX:=hide (show Ctx11 (w1.alloc (.cells #[.string nm,.slice rA rn rc,.slice oA on oc,.slice tA tm tc,.slice lA ln lc,.int .i64 ar,.slice bA bn bc] 32)) ⟨nm,⟨rA,rn,rc,rL⟩,⟨oA,on,oc,oL⟩,⟨tA,tm,tc,tL⟩,⟨lA,ln,lc,lL⟩,ar,⟨bA,bn,bc,bL⟩⟩ BL from ⟨hx.up b2,hBL,hN,hT⟩)
 have HB2:=hide (HB1.out.trans (b2.mono HB1.out.size))
 obtain ⟨WW,hWW⟩:∃ W,W=w1.alloc (.cells #[.string nm,.slice rA rn rc,.slice oA on oc,.slice tA tm tc,.slice lA ln lc,.int .i64 ar,.slice bA bn bc] 32):=⟨_,rfl⟩
 rw [←hWW] at hcx HX HB2
 have HWW:=hide hWW
 have hbl:=bk_len hx
 rw [hBL] at hbl
 have HBL:=hide (show BL.length=bn from hbl)
 clear hbl
 clear b2 hb1 hx hWW hBL hN hT
 obtain ⟨C,hC⟩:∃ C,ptCount BL=C:=⟨_,rfl⟩
 have HCC:=hide hC
 have hC150:C≤150:=hC ▸ HX.out.hN
 have HLN:=hide (show ptLocI BL (C:Int)=none from by
  unfold ptLocI
  rw [if_neg (by omega),Int.toNat_natCast]
  exact ptLoc_none_iff.2 (Nat.le_of_eq hC))
 have hIC:IntR (C:Int):=⟨by omega,by omega⟩
 have HIC:=hide hIC
 have HW0:=hide (Below.refl WW.heap.size WW)
 clear hC hIC
 go_wp2_with fail
 rw [←HWW.out]
 refine (HX.out.rcount HW0.out HCC.out).mono ?_
 rintro e5 w3 ⟨rfl,hb0⟩
 have H3:=hide hb0
 clear hb0
 obtain ⟨y0,y1,y2,y3,y4,y5,y6⟩:=hcx.out _ H3.out
 go_wp2_with fail
 refine (HX.out.count H3.out HCC.out).mono ?_
 rintro e5 w4 ⟨rfl,hb0⟩
 have H4:=hide (H3.out.trans (hb0.mono H3.out.size))
 clear hb0 y0 y1 y2 y3 y4 y5 y6
 obtain ⟨y0,y1,y2,y3,y4,y5,y6⟩:=hcx.out _ H4.out
 go_wp2
 clear y0 y1 y2 y3 y4 y5 y6
 go_loopw [6,35] (fun v i wr=>∃ j:Nat,i=.int .i64 (j:Int)∧v=.int .i64 (ptFirst BL j:Nat)∧j≤bn∧Hid (Below WW.heap.size WW wr)) (fun _ i _=>bn - (intOf i).toNat)
 case atStart=>exact ⟨0,rfl,by rw [ptFirst_zero];rfl,Nat.zero_le _,H4⟩
 case round=>
  obtain ⟨j,rfl,rfl,hj,HW⟩:=hrel
  have hbn150:bn≤150:=by
   have h1:=len_le_count BL
   rw [HBL.out,HCC.out] at h1
   omega
  by_cases hlt:j < bn
  ·
   have hlt':(j:Int) < (bn:Int):=by omega
   obtain ⟨p,b,o,_,hpv,hps,hA,hb,hob,hc⟩:=bk_all (HX.out.hx.up HW.out) hlt
   have hA:bA=some ⟨b,o,none⟩:=hA
   subst hA
   have hpv:BL[j]?=some p.v:=HX.out.hv ▸ hpv
   have hu:=ptFirst_up hpv
   unfold ptN at hu
   have hle:=ptFirst_le BL (j+1)
   rw [HCC.out] at hle
   have HPV:=hide hpv
   obtain ⟨m,hm⟩:∃ m,ptFirst BL j=m:=⟨_,rfl⟩
   have HMM:=hide hm
   rw [hm]
   obtain ⟨⟨sA,sn,sc,sL⟩,⟨bk,⟨xA,xn,xc,xL⟩,⟨gA,gn,gc,gL⟩,⟨l,pA,pn,pc,ps⟩,tnm⟩⟩:=p
   have hps:(BkV.stmts (BkW.v ⟨⟨sA,sn,sc,sL⟩,⟨bk,⟨xA,xn,xc,xL⟩,⟨gA,gn,gc,gL⟩,⟨l,pA,pn,pc,ps⟩,tnm⟩⟩)).length=sn:=hps
   rw [hps] at hu
   have HPS:=hide hps
   have h150:m+(sn+1)≤150:=by omega
   have HU:=hide (show ptFirst BL (j+1)=m+(sn+1) by omega)
   have c0:wr.cell? ⟨b,o+j*7,none⟩=some (.slice sA sn sc):=hc 0 _ rfl
   have c1:wr.cell? ⟨b,o+j*7+1,none⟩=some (.int .i64 bk):=hc 1 _ rfl
   have c2:wr.cell? ⟨b,o+j*7+2,none⟩=some (.slice xA xn xc):=hc 2 _ rfl
   have c3:wr.cell? ⟨b,o+j*7+3,none⟩=some (.slice gA gn gc):=hc 3 _ rfl
   have c4:wr.cell? ⟨b,o+j*7+4,none⟩=some (.int .i64 l):=hc 4 _ rfl
   have c5:wr.cell? ⟨b,o+j*7+5,none⟩=some (.slice pA pn pc):=hc 5 _ rfl
   have c6:wr.cell? ⟨b,o+j*7+6,none⟩=some (.string tnm):=hc 6 _ rfl
   have hb4:=below1 wr (.cells #[.slice sA sn sc,.int .i64 bk,.slice xA xn xc,.slice gA gn gc,.int .i64 l,.slice pA pn pc,.string tnm] 58)
   have HW4:=hide (HW.out.trans (hb4.mono HW.out.size))
   have s1:IntKind.i64.wrap ((sn:Int)+1)=(sn:Int)+1:=wrapI9 _ (by omega) (by omega)
   clear hpv hps hc hu hle hm hob hb4 hb
   go_wp2
   clear c0 c1 c2 c3 c4 c5 c6
   generalize wr.alloc (.cells #[.slice sA sn sc,.int .i64 bk,.slice xA xn xc,.slice gA gn gc,.int .i64 l,.slice pA pn pc,.string tnm] 58)=w5 at *
   go_loopw [6,44] (fun v i wr=>∃ q:Nat,i=.int .i64 (q:Int)∧v=.int .i64 ((m+q:Nat):Int)∧q≤sn+1∧Hid (Below WW.heap.size WW wr)) (fun _ i _=>sn+1 - (intOf i).toNat)
   case atStart=>exact ⟨0,rfl,rfl,Nat.zero_le _,HW4⟩
   case round=>
    clear HW4 HW
    obtain ⟨q,rfl,rfl,hq,HW⟩:=hrel
    by_cases hlq:q < sn+1
    ·
     have hlq':(q:Int) < (sn:Int)+1:=by omega
     have HI:=hide (show ptIdx BL (j:Int) (q:Int)=some ((m:Int)+q) from by
      rw [ptIdx_yes (b:=BkW.v ⟨⟨sA,sn,sc,sL⟩,⟨bk,⟨xA,xn,xc,xL⟩,⟨gA,gn,gc,gL⟩,⟨l,pA,pn,pc,ps⟩,tnm⟩⟩) (by simpa using HPV.out) ⟨by omega,by omega,by rw [HPS.out];omega⟩,Int.toNat_natCast,HMM.out])
     have HL:=hide (show ptLocI BL ((m:Int)+q)=some (j,q) from ptLocI_at HPV.out (by rw [HPS.out];omega) (by rw [HMM.out]))
     have hIR:IntR ((m:Int)+q):=⟨by omega,by omega⟩
     have HIR:=hide hIR
     have HI1:=hide fun (w':World) (y:Below WW.heap.size WW w')=>(show Calls Try.prog 11 _ w' fun e w2=>e=.returned (.tuple #[.int .i64 ((m:Int)+q),.bool true])∧Below w'.heap.size w' w2 from HX.out.index y _ _ HI.out)
     have HL1:=hide fun (w':World) (y:Below WW.heap.size WW w')=>(show Calls Try.prog 13 _ w' fun e w2=>e=.returned (.tuple #[.int .i64 (j:Int),.int .i64 (q:Int),.bool true])∧Below w'.heap.size w' w2 from HX.out.locate y HIR.out HL.out)
     have hmq:(((m+q:Nat):Int))=(m:Int)+q:=by omega
     have s2:IntKind.i64.wrap ((m:Int)+q+1)=(m:Int)+q+1:=wrapI9 _ (by omega) (by omega)
     rw [hmq]
     clear hIR hmq
     obtain ⟨y0,y1,y2,y3,y4,y5,y6⟩:=hcx.out _ HW.out
     go_wp2_with fail
     refine (HI1.out _ HW.out).mono ?_
     rintro e5 w6 ⟨rfl,hb0⟩
     have H6:=hide (HW.out.trans (hb0.mono HW.out.size))
     clear hb0 y0 y1 y2 y3 y4 y5 y6
     obtain ⟨y0,y1,y2,y3,y4,y5,y6⟩:=hcx.out _ H6.out
     go_wp2_with fail
     refine (HL1.out _ H6.out).mono ?_
     rintro e5 w7 ⟨rfl,hb0⟩
     have H7:=hide (H6.out.trans (hb0.mono H6.out.size))
     clear hb0 y0 y1 y2 y3 y4 y5 y6
     go_wp2
     go_roundw
     case rel=>exact ⟨q+1,by go_num,congrArg (fun z:Int=>Value.int .i64 z) (by omega),by omega,H7⟩
     case measure=>simp [intOf];omega
    ·
     have hlq':¬(q:Int) < (sn:Int)+1:=by omega
     have hq2:m+q=ptFirst BL (j+1):=by rw [HU.out];omega
     rw [hq2]
     clear hq2
     go_wp2
     go_roundw
     case rel=>exact ⟨j+1,by go_num,rfl,by omega,HW⟩
     case measure=>simp [intOf];omega
  ·
   have hlt':¬(j:Int) < (bn:Int):=by omega
   have hF:ptFirst BL j=C:=by rw [ptFirst_all (by rw [HBL.out];omega),HCC.out]
   rw [hF]
   have HL1:=hide fun (w':World) (y:Below WW.heap.size WW w')=>(show Calls Try.prog 13 _ w' fun e w2=>e=.returned (.tuple #[.int .i64 0,.int .i64 0,.bool false])∧Below w'.heap.size w' w2 from HX.out.locate y HIC.out HLN.out)
   clear hF
   obtain ⟨y0,y1,y2,y3,y4,y5,y6⟩:=hcx.out _ HW.out
   go_wp2_with fail
   refine (HL1.out _ HW.out).mono ?_
   rintro e5 w6 ⟨rfl,hb0⟩
   have H6:=hide (HW.out.trans (hb0.mono HW.out.size))
   clear hb0 y0 y1 y2 y3 y4 y5 y6
   go_wp2_with fail
   refine (alive11_any _).mono ?_
   rintro e5 w7 ⟨rfl,hb0⟩
   have H7:=hide (H6.out.trans (hb0.mono H6.out.size))
   clear hb0
   go_wp2
   go_ret
   exact ⟨rfl,HB2.out.trans (H7.out.mono HB2.out.size)⟩
theorem own:ownKnob Try.prog.godebug=none:=by kernel_rfl
theorem laidOut:laidOutB Try.prog=true:=by kernel_rfl
theorem contract (H:Type) (enc:TypeId×Value→H) (W:World) (base:Nat) (args:Array Value) (ds gs:List (DataW H)) (before:List MemPlace)
  (hval0:∀ (j:Nat) t v,Try.f6.params[j]?=some t→args[j]?=some v→Value.okWide Try.prog W .any base t v)
  (hW:DataW.Whole enc Try.prog Try.f6.params.toList Rows.pointsInverseSpec.vars false W args.toList ds gs before) :
  Calls Try.prog 6 args W fun e W'=>∃ v,e=.returned v∧Rows.pointsInverseSpec.post enc Try.prog Try.f6 false true false false W args v W':=by
 have hval:∀ (j:Nat) t v,Try.f6.params[j]?=some t→args[j]?=some v→Value.okWide Try.prog W .any base t v:=hval0
 have hW':=hW
 obtain ⟨p,q,hA0,hV,rfl,hfz,hnd⟩:=hW
 have hA:DataW.TrodAll enc Try.prog W 0 (fun _=>true) true Try.f6.params.toList args.toList ds p:=hA0
 rw [Try.params6] at hA hval
 obtain ⟨v0,vs0,d0,ds0,p0,q0,hargs,rfl,rfl,h0,r0⟩:=trodAll_cons hA
 obtain ⟨rfl,rfl,rfl⟩:=trodAll_nil r0
 obtain rfl:args=#[v0]:=by cases args;simp_all
 obtain ⟨rfl,rfl⟩:=trodVars_none hV
 have k0:=h0
 have lt0:∀ x∈p0,x.block < W.heap.size:=by obtain ⟨m,hm⟩:=k0;exact DataW.trod_lt m _ _ _ hm
 obtain ⟨x0,rfl,g0⟩:=openGraph (hval 0 24 v0 rfl rfl) h0
 clear hA0 hval0
 simp only [List.append_nil] at hW'
 refine (walk x0 W g0).mono fun e W' ⟨he,bel⟩=>?_
 subst he
 exact ⟨_,rfl,_,_,_,[],_,[],hW',trodAll_mk1 (shut_bool Try.underlying4 _),(trodAll_cons_mk (Below.trod laidOut (by kernel_rfl) (of_decide_eq_true (by kernel_rfl)) k0 bel lt0) trodAll_mk0),rfl,bel.frame _,fun h=>by cases h⟩
theorem lifted (os:Os) (started:os.Started) (H:Type) (enc:TypeId×Value→H) :
  ReturnsInHanded {} Try.checked os 6 .any (Rows.pointsInverseSpec.pre6 enc Try.prog Try.f6 Rows.pointsInverseRow.domain false) (Rows.pointsInverseSpec.post enc Try.prog Try.f6 false true false false):=by
 refine returnsInHanded_of_change (C:=Try.checked) own started (by kernel_rfl) Try.func6
  (ChangeSpec.witness6 (enc:=enc) (C:=Try.checked) false ⟨#[],#[.agg #[.slice none 0 0]],[]⟩ 8 (by kernel_rfl) (by kernel_rfl) (by kernel_rfl) (by kernel_rfl)) ?_
 intro W base args ds gs before hval hW _ _
 exact contract H enc W base args ds gs before hval hW
theorem proved:Rows.PointsInverseSaid:=
 OpenClaim.holds_of_wide 6 Try.f6 rfl rfl rfl rfl rfl rfl rfl ⟨rfl,rfl,rfl,rfl,rfl⟩ rfl rfl rfl rfl rfl (by kernel_rfl) Try.func6 (by kernel_rfl)
  (of_decide_eq_true (by kernel_rfl)) (by unfold Func.isWrapper;first | (rw [if_pos (by decide +kernel)];kernel_rfl) | (rw [if_neg (by decide +kernel)];exact ⟨rfl,rfl⟩))
  (fun os started H enc _=>lifted os started H enc)
end Go.Proofs.Ytlbopbjdiehecaa.pointsInverse
