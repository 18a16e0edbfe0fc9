/- PointsEdges: for every input the law returns true, and turns nothing that lay. No condition. -/
import Derived.Test.YtlbopbjdiehecaaQ10
import Derived.Test.YtlbopbjdiehecaaQ13
import Derived.Test.YtlbopbjdiehecaaQ15
import Derived.Test.YtlbopbjdiehecaaQ17
import Derived.Test.YtlbopbjdiehecaaQ19
import Derived.Test.YtlbopbjdiehecaaRows
set_option linter.unusedVariables false
set_option linter.unusedSimpArgs false
set_option maxRecDepth 100000
set_option maxHeartbeats 8000000
namespace Go.Proofs.Ytlbopbjdiehecaa.pointsEdges
open Go.ChangeShapes Go.WideShapes Go.ChangeAt Go.ChangeMaps Go.RowKit
theorem walk (x0:SlW GbW) (w:World) (h0:Gbs w w.heap.size x0) :
  Calls Try.prog 7 #[aggG x0] w fun e w'=>e=.returned (.bool true)∧Below w.heap.size w w':=by
 have hB0:=below1 w (.cells #[.slice x0.A x0.n x0.c] 24)
 have HGB:=hide (GBody_any x0 _ (h0.up hB0))
 have HSM:=hide fun (l:List BkV) (hv:l=x0.L.map gBk) (hs:sumN szG x0.L≤150)=>body_small h0 hv hs
 have HB0:=hide hB0
 obtain ⟨gA,gn,gc,gL⟩:=x0
 clear h0 hB0
 go_enter Try.func7,Try.ntmps7
 go_wp2_with fail
 refine HGB.out.mono ?_
 rintro e w1 ⟨hb1,(rfl | ⟨x,rfl,hx,hv,hs⟩)⟩
 ·
  have HB1:=hide (HB0.out.trans (hb1.mono HB0.out.size))
  have b2:=below1 w1 (.cells #[.string ⟨#[]⟩,.slice none 0 0,.slice none 0 0,.slice none 0 0,.slice none 0 0,.int .i64 0,.slice none 0 0] 32)
  have HB2:=hide (HB1.out.trans (b2.mono HB1.out.size))
  clear hb1 b2
  go_wp2_with fail
  refine (alive11_any _).mono ?_
  rintro e w3 ⟨rfl,hb3⟩
  have HB3:=hide (HB2.out.trans (hb3.mono HB2.out.size))
  clear hb3
  go_wp2
  go_ret
  exact ⟨rfl,HB3.out⟩
 have HB1:=hide (HB0.out.trans (hb1.mono HB0.out.size))
 obtain ⟨hN,hT⟩:=HSM.out _ hv hs
 clear hs hv HSM
 obtain ⟨BL,hBL⟩:∃ l,x.v.blocks=l:=⟨_,rfl⟩
 rw [hBL] at hN hT
 obtain ⟨nm,⟨rA,rn,rc,rL⟩,⟨oA,on,oc,oL⟩,⟨tA,tm,tc,tL⟩,⟨lA,ln,lc,lL⟩,ar,⟨bA,bn,bc,bL⟩⟩:=x
 have b2:=below1 w1 (.cells #[.string nm,.slice rA rn rc,.slice oA on oc,.slice tA tm tc,.slice lA ln lc,.int .i64 ar,.slice bA bn bc] 32)
 have hcx:=hide fun (w':World) (z:Below (w1.alloc (.cells #[.string nm,.slice rA rn rc,.slice oA on oc,.slice tA tm tc,.slice lA ln lc,.int .i64 ar,.slice bA bn bc] 32)).heap.size (w1.alloc (.cells #[.string nm,.slice rA rn rc,.slice oA on oc,.slice tA tm tc,.slice lA ln lc,.int .i64 ar,.slice bA bn bc] 32)) w')=>cells7 z
 have HX:=hide (show Ctx11 (w1.alloc (.cells #[.string nm,.slice rA rn rc,.slice oA on oc,.slice tA tm tc,.slice lA ln lc,.int .i64 ar,.slice bA bn bc] 32)) ⟨nm,⟨rA,rn,rc,rL⟩,⟨oA,on,oc,oL⟩,⟨tA,tm,tc,tL⟩,⟨lA,ln,lc,lL⟩,ar,⟨bA,bn,bc,bL⟩⟩ BL from ⟨hx.up b2,hBL,hN,hT⟩)
 have HB2:=hide (HB1.out.trans (b2.mono HB1.out.size))
 obtain ⟨WW,hWW⟩:∃ W,W=w1.alloc (.cells #[.string nm,.slice rA rn rc,.slice oA on oc,.slice tA tm tc,.slice lA ln lc,.int .i64 ar,.slice bA bn bc] 32):=⟨_,rfl⟩
 rw [←hWW] at hcx HX HB2
 have HWW:=hide hWW
 clear b2 hb1 hx hWW hBL hN hT
 obtain ⟨C,hC⟩:∃ C,ptCount BL=C:=⟨_,rfl⟩
 have HCC:=hide hC
 have hC150:C≤150:=hC ▸ HX.out.hN
 have HL:=hide (show edgesI BL=edI BL C from by unfold edgesI;rw [hC])
 have HW0:=hide (Below.refl WW.heap.size WW)
 clear hC
 go_wp2_with fail
 rw [←HWW.out]
 refine (HX.out.rcount HW0.out HCC.out).mono ?_
 rintro e5 w3 ⟨rfl,hb0⟩
 have H3:=hide hb0
 clear hb0
 go_wp2
 go_loopw [5,22] (fun v i wr=>∃ j:Nat,∃ A c,i=.int .i64 (j:Int)∧v=.slice A (edI BL j).length c∧j≤C∧Hid (wr.ownsRow WW.heap.size 25 2 (.slice A (edI BL j).length c) (edI BL j).length ((edI BL j).flatMap pV))∧Hid (Below WW.heap.size WW wr)) (fun _ i _=>C - (intOf i).toNat)
 case atStart=>exact ⟨0,none,0,rfl,rfl,Nat.zero_le _,hide (World.ownsRow_nil _ _ _ _),H3⟩
 case round=>
  obtain ⟨j,A,c,rfl,rfl,hj,HO,HW⟩:=hrel
  generalize wr=wq at *
  have HUP:=hide (edI_up BL j)
  have hln:=edI_len BL j
  rw [HCC.out] at hln
  obtain ⟨M,hM⟩:∃ M,edI BL j=M:=⟨_,rfl⟩
  rw [hM] at hln
  have HM:=hide hM
  have HO1:=hide (hM ▸ HO.out)
  rw [hM]
  clear hM HO
  obtain ⟨n,hn⟩:∃ n,M.length=n:=⟨_,rfl⟩
  have HO2:=hide (show wq.ownsRow WW.heap.size 25 2 (.slice A n c) n (M.flatMap pV) from hn ▸ HO1.out)
  have HN:=hide hn
  rw [hn] at hln ⊢
  clear HO1 hn
  by_cases hlt:j < C
  ·
   have hlt':(j:Int) < (C:Int):=by omega
   obtain ⟨K,hK⟩:∃ K,nextI BL (j:Int)=K:=⟨_,rfl⟩
   have HNX:=hide (show Calls Try.prog 18 _ wq (IntsOut9 wq K) from hK ▸ HX.out.next HW.out (p:=(j:Int)) ⟨by omega,by omega⟩)
   have HK:=hide hK
   have hln2:K.length≤C:=by
    have:=next_len BL (j:Int)
    rw [hK,HCC.out] at this
    exact this
   obtain ⟨m,hm⟩:∃ m,K.length=m:=⟨_,rfl⟩
   rw [hm] at hln2
   have HM2:=hide hm
   have hbnd:n+m≤150*150+150:=by
    have h1:j*C≤150*150:=Nat.mul_le_mul (by omega) (by omega)
    omega
   clear hK
   obtain ⟨y0,y1,y2,y3,y4,y5,y6⟩:=hcx.out _ HW.out
   go_wp2_with fail
   refine HNX.out.mono ?_
   rintro e2 w2 ⟨B2,c2,rfl,hown2,hb2⟩
   have HW2:=hide (HW.out.trans (hb2.mono HW.out.size))
   have HO4:=hide (ownsRow_below HO2.out hb2)
   rw [hm] at hown2 ⊢
   have HR2:=hide (ownsRow_base hown2 (Nat.zero_le _))
   clear hb2 hown2 hm y0 y1 y2 y3 y4 y5 y6
   go_wp2
   go_loopw [5,29] (fun v i wr=>∃ q:Nat,∃ A c,i=.int .i64 (q:Int)∧v=.slice A (n+q) c∧q≤m∧Hid (wr.ownsRow WW.heap.size 25 2 (.slice A (n+q) c) (n+q) ((M++(K.take q).map fun z=>((j:Int),z)).flatMap pV))∧Hid (wr.ownsRow 0 3 1 (.slice B2 m c2) m (K.flatMap cInt))∧Hid (Below WW.heap.size WW wr)) (fun _ i _=>m - (intOf i).toNat)
   case atStart=>exact ⟨0,A,c,rfl,rfl,Nat.zero_le _,hide (by simpa using HO4.out),HR2,HW2⟩
   case round=>
    obtain ⟨q,A',c',rfl,rfl,hq,HO,HR,HX2⟩:=hrel
    by_cases hlq:q < m
    ·
     have hlq':(q:Int) < (m:Int):=by omega
     obtain ⟨t,ht⟩:∃ t,K[q]?=some t:=⟨_,List.getElem?_eq_getElem (by rw [HM2.out];exact hlq)⟩
     have HT:=hide ht
     obtain ⟨li,lk,hloc,hor⟩:=next_first (show t∈nextI BL (j:Int) by rw [HK.out];exact List.mem_of_getElem? ht)
     have hrg:=(nextI_mem.1 (show t∈nextI BL (j:Int) by rw [HK.out];exact List.mem_of_getElem? ht)).1
     rw [HCC.out] at hrg
     have hIR:IntR t:=⟨by omega,by omega⟩
     have HIR:=hide hIR
     have HLC:=hide hloc
     have HL1:=hide fun (w':World) (y:Below WW.heap.size WW w')=>(show Calls Try.prog 14 _ w' fun e w2=>e=.returned (.tuple #[.int .i64 (li:Int),.int .i64 (lk:Int),.bool true])∧Below w'.heap.size w' w2 from HX.out.rlocate y HIR.out HLC.out)
     obtain ⟨g,z,hgB,_,hgc⟩:=(Cells.of_own cInt_len (by decide) HR.out).at_ ht
     subst hgB
     have c0:wr.cell? ⟨g,z+q,none⟩=some (.int .i64 t):=by simpa using hgc 0 _ rfl
     obtain ⟨i0,hi,hz0,hz1,hz2⟩:=info_parts info9Pr
     have hb3:=below1 wr (.cells #[.int .i64 (j:Int),.int .i64 t] 25)
     have HO5:=hide (ownsRow_below HO.out hb3)
     have HR5:=hide (ownsRow_below HR.out hb3)
     have HL5:=hide (show Cells (wr.alloc (.cells #[.int .i64 (j:Int),.int .i64 t] 25)) (wr.heap.size+1) 2 pV (some ⟨wr.heap.size,0,none⟩) 1 [((j:Int),t)] from lit_cells wr pV pV_len ((j:Int),t) 25)
     have HX5:=hide (HX2.out.trans (hb3.mono HX2.out.size))
     have hs5:WW.heap.size≤(wr.alloc (.cells #[.int .i64 (j:Int),.int .i64 t] 25)).heap.size:=HX5.out.size
     clear hb3 ht hgc hIR hloc
     go_wp2_with (at_builtin;refine wpList_append_cells (wr.alloc (.cells #[.int .i64 (j:Int),.int .i64 t] 25)) rfl (.tmp 33) (.tmp 37) 27 rfl pV_len (by decide) pV_one9 WW.heap.size 25 i0 _ 16 Try.underlying27 hi hz0 hz1 hz2 rfl _ (n+q) ((M++(K.take q).map fun z=>((j:Int),z)).flatMap pV) rfl HO5.out _ (some ⟨wr.heap.size,0,none⟩) 1 1 [((j:Int),t)] rfl HL5.out (by unfold maxLen;omega) (by omega) hs5 ?_;intro v5 w5 hown5 hg5 _;obtain ⟨A5,k5,rfl⟩:=own_slice9 hown5;have HO6:=hide hown5;have HR6:=hide (own_kt HR5.out (KT.of_grown hg5 HO5.out) (by decide));have HX6:=hide (below_app HX5.out HO5.out hs5 hg5);clear hown5 hg5;obtain ⟨y0,y1,y2,y3,y4,y5,y6⟩:=hcx.out _ HX6.out)
     all_goals
      refine (HL1.out _ HX6.out).mono ?_
      rintro e8 w8 ⟨rfl,hb0⟩
      have HX8:=hide (HX6.out.trans (hb0.mono HX6.out.size))
      have HO8:=hide (ownsRow_below HO6.out hb0)
      have HR8:=hide (ownsRow_below HR6.out hb0)
      have s1:IntKind.i64.wrap ((j:Int)+1)=(j:Int)+1:=wrapI9 _ (by omega) (by omega)
      clear hb0 y0 y1 y2 y3 y4 y5 y6
      by_cases hqp:t=(j:Int)+1
      ·
       have t1:(t != (j:Int)+1)=false:=by rw [bne_eq_false_iff_eq];exact hqp
       clear hqp hor
       go_wp2
       go_roundw
       case rel=>
        refine ⟨q+1,A5,k5,by go_num,rfl,by omega,hide ?_,HR8,HX8⟩
        rw [List.take_add_one,HT.out,List.map_append,← List.append_assoc,List.flatMap_append]
        exact HO8.out
       case measure=>simp [intOf];omega
      ·
       have t1:(t != (j:Int)+1)=true:=by rw [bne_iff_ne];exact hqp
       obtain rfl:lk=0:=hor.resolve_left hqp
       clear hqp hor
       go_wp2
       go_roundw
       case rel=>
        refine ⟨q+1,A5,k5,by go_num,rfl,by omega,hide ?_,HR8,HX8⟩
        rw [List.take_add_one,HT.out,List.map_append,← List.append_assoc,List.flatMap_append]
        exact HO8.out
       case measure=>simp [intOf];omega
    ·
     have hlq':¬(q:Int) < (m:Int):=by omega
     obtain rfl:m=q:=by omega
     have HF:=hide (show edI BL (j+1)=M++K.map fun z=>((j:Int),z) by rw [HUP.out,HM.out,HK.out])
     have HTK:=hide (show K.take m=K from List.take_of_length_le (Nat.le_of_eq HM2.out))
     go_wp2
     go_roundw
     case rel=>
      have hl:(edI BL (j+1)).length=n+m:=by rw [HF.out,List.length_append,List.length_map,HN.out,HM2.out]
      refine ⟨j+1,A',c',by go_num,by rw [hl],by omega,hide ?_,HX2⟩
      rw [hl,HF.out]
      have h:=HO.out
      rw [HTK.out] at h
      exact h
     case measure=>simp [intOf];omega
  ·
   have hlt':¬(j:Int) < (C:Int):=by omega
   obtain rfl:C=j:=by omega
   have hl:edgesI BL=M:=HL.out.trans HM.out
   have HED:=hide fun (w':World) (y:Below WW.heap.size WW w')=>(show Calls Try.prog 21 _ w' (PrsOut9 w' M) from hl ▸ HX.out.edges y)
   have hq2:eqPs M M=true:=eqPs_iff.2 rfl
   have HQ2:=hide hq2
   clear hl hq2
   go_wp2_with fail
   refine (alive11_any _).mono ?_
   rintro e5 w5 ⟨rfl,hb0⟩
   have HW5:=hide (HW.out.trans (hb0.mono HW.out.size))
   have HO5:=hide (ownsRow_below HO2.out hb0)
   clear hb0
   obtain ⟨y0,y1,y2,y3,y4,y5,y6⟩:=hcx.out _ HW5.out
   go_wp2_with fail
   refine (HED.out _ HW5.out).mono ?_
   rintro e6 w6 ⟨A6,c6,rfl,ho6,hb0⟩
   have HW6:=hide (HW5.out.trans (hb0.mono HW5.out.size))
   have HO6:=hide ho6
   have HO56:=hide (ownsRow_below HO5.out hb0)
   rw [HN.out] at HO6
   clear hb0 ho6 y0 y1 y2 y3 y4 y5 y6
   rw [HN.out]
   go_wp2_with fail
   refine (EqP11 HQ2.out _ HO56.out HO6.out).mono ?_
   rintro e7 w7 ⟨rfl,hb0⟩
   have HW7:=hide (HW6.out.trans (hb0.mono HW6.out.size))
   clear hb0
   go_wp2
   go_ret
   exact ⟨rfl,HB2.out.trans (HW7.out.mono HB2.out.size)⟩
theorem own:ownKnob Try.prog.godebug=none:=by kernel_rfl
theorem laidOut:laidOutB Try.prog=true:=by kernel_rfl
theorem contract (H:Type) (enc:TypeId×Value→H) (W:World) (base:Nat) (args:Array Value) (ds gs:List (DataW H)) (before:List MemPlace)
  (hval0:∀ (j:Nat) t v,Try.f7.params[j]?=some t→args[j]?=some v→Value.okWide Try.prog W .any base t v)
  (hW:DataW.Whole enc Try.prog Try.f7.params.toList Rows.pointsEdgesSpec.vars false W args.toList ds gs before) :
  Calls Try.prog 7 args W fun e W'=>∃ v,e=.returned v∧Rows.pointsEdgesSpec.post enc Try.prog Try.f7 false true false false W args v W':=by
 have hval:∀ (j:Nat) t v,Try.f7.params[j]?=some t→args[j]?=some v→Value.okWide Try.prog W .any base t v:=hval0
 have hW':=hW
 obtain ⟨p,q,hA0,hV,rfl,hfz,hnd⟩:=hW
 have hA:DataW.TrodAll enc Try.prog W 0 (fun _=>true) true Try.f7.params.toList args.toList ds p:=hA0
 rw [Try.params7] at hA hval
 obtain ⟨v0,vs0,d0,ds0,p0,q0,hargs,rfl,rfl,h0,r0⟩:=trodAll_cons hA
 obtain ⟨rfl,rfl,rfl⟩:=trodAll_nil r0
 obtain rfl:args=#[v0]:=by cases args;simp_all
 obtain ⟨rfl,rfl⟩:=trodVars_none hV
 have k0:=h0
 have lt0:∀ x∈p0,x.block < W.heap.size:=by obtain ⟨m,hm⟩:=k0;exact DataW.trod_lt m _ _ _ hm
 obtain ⟨x0,rfl,g0⟩:=openGraph (hval 0 24 v0 rfl rfl) h0
 clear hA0 hval0
 simp only [List.append_nil] at hW'
 refine (walk x0 W g0).mono fun e W' ⟨he,bel⟩=>?_
 subst he
 exact ⟨_,rfl,_,_,_,[],_,[],hW',trodAll_mk1 (shut_bool Try.underlying4 _),(trodAll_cons_mk (Below.trod laidOut (by kernel_rfl) (of_decide_eq_true (by kernel_rfl)) k0 bel lt0) trodAll_mk0),rfl,bel.frame _,fun h=>by cases h⟩
theorem lifted (os:Os) (started:os.Started) (H:Type) (enc:TypeId×Value→H) :
  ReturnsInHanded {} Try.checked os 7 .any (Rows.pointsEdgesSpec.pre6 enc Try.prog Try.f7 Rows.pointsEdgesRow.domain false) (Rows.pointsEdgesSpec.post enc Try.prog Try.f7 false true false false):=by
 refine returnsInHanded_of_change (C:=Try.checked) own started (by kernel_rfl) Try.func7
  (ChangeSpec.witness6 (enc:=enc) (C:=Try.checked) false ⟨#[],#[.agg #[.slice none 0 0]],[]⟩ 8 (by kernel_rfl) (by kernel_rfl) (by kernel_rfl) (by kernel_rfl)) ?_
 intro W base args ds gs before hval hW _ _
 exact contract H enc W base args ds gs before hval hW
theorem proved:Rows.PointsEdgesSaid:=
 OpenClaim.holds_of_wide 7 Try.f7 rfl rfl rfl rfl rfl rfl rfl ⟨rfl,rfl,rfl,rfl,rfl⟩ rfl rfl rfl rfl rfl (by kernel_rfl) Try.func7 (by kernel_rfl)
  (of_decide_eq_true (by kernel_rfl)) (by unfold Func.isWrapper;first | (rw [if_pos (by decide +kernel)];kernel_rfl) | (rw [if_neg (by decide +kernel)];exact ⟨rfl,rfl⟩))
  (fun os started H enc _=>lifted os started H enc)
end Go.Proofs.Ytlbopbjdiehecaa.pointsEdges
