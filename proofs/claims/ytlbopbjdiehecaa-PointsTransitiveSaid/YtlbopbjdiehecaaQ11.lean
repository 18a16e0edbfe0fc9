/- Part 12 of the contracts and their mathematics. -/
import Derived.Test.YtlbopbjdiehecaaQ6
import Derived.Test.YtlbopbjdiehecaaQ9
import Derived.Test.YtlbopbjdiehecaaQ10
set_option linter.unusedVariables false
set_option linter.unusedSimpArgs false
set_option maxRecDepth 100000
set_option maxHeartbeats 8000000
namespace Go.Proofs.Ytlbopbjdiehecaa
open Go.RowKit
theorem REdges_any (x:BdW) (w:World) (hx:OneBd w w.heap.size x) (hN:ptCount x.v.blocks≤100000) :
  Calls Try.prog 22 #[aggBd x] w (PrsOut9 w (edgesI x.v.blocks)):=by
 obtain ⟨BL,hBL⟩:∃ l,x.v.blocks=l:=⟨_,rfl⟩
 obtain ⟨C,hC⟩:∃ n,ptCount BL=n:=⟨_,rfl⟩
 have hN2:ptCount x.v.blocks≤2 ^ 62:=Nat.le_trans hN (by decide)
 have hN3:ptCount x.v.blocks≤1000000:=Nat.le_trans hN (by decide)
 have HCO:=hide fun (w':World) (y:Below w.heap.size w w')=>RCount_is (m:=C) (hx.up y) (by rw [hBL];exact hC) (by rw [←hC,← hBL];exact hN2)
 have HNX:=hide fun (w':World) (p:Int) (hp:IntR p) (y:Below w.heap.size w w')=>(show Calls Try.prog 19 #[aggBd x,.int .i64 p] w' (IntsOut9 w' (nextI BL p)) from by
  have h:=RNext_any x p w' (hx.up y) hN3 hp
  rw [hBL] at h
  exact h)
 rw [hBL] at hN ⊢
 have HCC:=hide hC
 rw [hC] at hN
 have HL:=hide (show edgesI BL=edI BL C from by unfold edgesI;rw [hC])
 obtain ⟨nm,⟨rA,rn,rc,rL⟩,⟨oA,on,oc,oL⟩,⟨tA,tm,tc,tL⟩,⟨lA,ln,lc,lL⟩,ar,⟨bA,bn,bc,bL⟩⟩:=x
 have HB:=hide (below1 w (.cells #[.string nm,.slice rA rn rc,.slice oA on oc,.slice tA tm tc,.slice lA ln lc,.int .i64 ar,.slice bA bn bc] 32))
 have hws:(w.alloc (.cells #[.string nm,.slice rA rn rc,.slice oA on oc,.slice tA tm tc,.slice lA ln lc,.int .i64 ar,.slice bA bn bc] 32)).heap.size=w.heap.size+1:=by simp
 have HWS:=hide hws
 have HCX:=hide fun (w':World) (y:Below (w.alloc (.cells #[.string nm,.slice rA rn rc,.slice oA on oc,.slice tA tm tc,.slice lA ln lc,.int .i64 ar,.slice bA bn bc] 32)).heap.size (w.alloc (.cells #[.string nm,.slice rA rn rc,.slice oA on oc,.slice tA tm tc,.slice lA ln lc,.int .i64 ar,.slice bA bn bc] 32)) w')=>cells7 y
 clear hBL hC hN2 hN3 hx hws
 go_enter Try.func22,Try.ntmps22
 go_wp2
 go_loopw [3,4] (fun v i wr=>∃ j:Nat,∃ A c,i=.int .i64 (j:Int)∧v=.slice A (edI BL j).length c∧j≤C∧Hid (wr.ownsRow (w.heap.size+1) 25 2 (.slice A (edI BL j).length c) (edI BL j).length ((edI BL j).flatMap pV))∧Hid (Below (w.alloc (.cells #[.string nm,.slice rA rn rc,.slice oA on oc,.slice tA tm tc,.slice lA ln lc,.int .i64 ar,.slice bA bn bc] 32)).heap.size (w.alloc (.cells #[.string nm,.slice rA rn rc,.slice oA on oc,.slice tA tm tc,.slice lA ln lc,.int .i64 ar,.slice bA bn bc] 32)) wr)) (fun _ i _=>C - (intOf i).toNat)
 case atStart=>exact ⟨0,none,0,rfl,rfl,Nat.zero_le _,hide (World.ownsRow_nil _ _ _ _),hide (Below.refl _ _)⟩
 case round=>
  obtain ⟨j,A,c,rfl,rfl,hj,HO,HW⟩:=hrel
  generalize wr=wq at *
  have HUP:=hide (edI_up BL j)
  have hln:=edI_len BL j
  rw [HCC.out] at hln
  obtain ⟨M,hM⟩:∃ M,edI BL j=M:=⟨_,rfl⟩
  rw [hM] at hln
  have HM:=hide hM
  have HO1:=hide (hM ▸ HO.out)
  rw [hM]
  clear hM HO
  obtain ⟨n,hn⟩:∃ n,M.length=n:=⟨_,rfl⟩
  have HO2:=hide (show wq.ownsRow (w.heap.size+1) 25 2 (.slice A n c) n (M.flatMap pV) from hn ▸ HO1.out)
  have HN:=hide hn
  rw [hn] at hln ⊢
  clear HO1 hn
  obtain ⟨x0,x1,x2,x3,x4,x5,x6⟩:=HCX.out _ HW.out
  go_wp2_with fail
  refine (HCO.out _ (HB.out.trans (HW.out.mono HB.out.size))).mono ?_
  rintro e1 w1 ⟨rfl,hb1⟩
  have HW1:=hide (HW.out.trans (hb1.mono HW.out.size))
  have HO3:=hide (ownsRow_below HO2.out hb1)
  clear hb1 HO2 x0 x1 x2 x3 x4 x5 x6
  obtain ⟨x0,x1,x2,x3,x4,x5,x6⟩:=HCX.out _ HW1.out
  by_cases hlt:j < C
  ·
   have hlt':(j:Int) < (C:Int):=by omega
   go_wp2_with fail
   refine (HNX.out _ (j:Int) ⟨by omega,by omega⟩ (HB.out.trans (HW1.out.mono HB.out.size))).mono ?_
   rintro e2 w2 ⟨B2,c2,rfl,hown2,hb2⟩
   have HW2:=hide (HW1.out.trans (hb2.mono HW1.out.size))
   have HO4:=hide (ownsRow_below HO3.out hb2)
   have hln2:(nextI BL (j:Int)).length≤C:=by
    have:=nxI_len BL (j:Int) (ptCount BL)
    rw [HCC.out] at this
    unfold nextI
    rw [HCC.out]
    exact this
   obtain ⟨K,hK⟩:∃ K,nextI BL (j:Int)=K:=⟨_,rfl⟩
   rw [hK] at hown2 hln2 ⊢
   obtain ⟨m,hm⟩:∃ m,K.length=m:=⟨_,rfl⟩
   rw [hm] at hown2 hln2 ⊢
   have HK:=hide hK
   have HM2:=hide hm
   have HR2:=hide (ownsRow_base hown2 (Nat.zero_le _))
   have hbnd:n+m≤100000*100000+100000:=by
    have h1:j*C≤100000*100000:=Nat.mul_le_mul (by omega) (by omega)
    omega
   clear hb2 HO3 x0 x1 x2 x3 x4 x5 x6 hK hm hown2
   go_wp2
   go_loopw [3,6] (fun v i wr=>∃ q:Nat,∃ A c,i=.int .i64 (q:Int)∧v=.slice A (n+q) c∧q≤m∧Hid (wr.ownsRow (w.heap.size+1) 25 2 (.slice A (n+q) c) (n+q) ((M++(K.take q).map fun z=>((j:Int),z)).flatMap pV))∧Hid (wr.ownsRow 0 3 1 (.slice B2 m c2) m (K.flatMap cInt))∧Hid (Below (w.alloc (.cells #[.string nm,.slice rA rn rc,.slice oA on oc,.slice tA tm tc,.slice lA ln lc,.int .i64 ar,.slice bA bn bc] 32)).heap.size (w.alloc (.cells #[.string nm,.slice rA rn rc,.slice oA on oc,.slice tA tm tc,.slice lA ln lc,.int .i64 ar,.slice bA bn bc] 32)) wr)) (fun _ i _=>m - (intOf i).toNat)
   case atStart=>exact ⟨0,A,c,rfl,rfl,Nat.zero_le _,hide (by simpa using HO4.out),HR2,HW2⟩
   case round=>
    obtain ⟨q,A',c',rfl,rfl,hq,HO,HR,HX⟩:=hrel
    by_cases hlq:q < m
    ·
     have hlq':(q:Int) < (m:Int):=by omega
     obtain ⟨t,ht⟩:∃ t,K[q]?=some t:=⟨_,List.getElem?_eq_getElem (by rw [HM2.out];exact hlq)⟩
     have HT:=hide ht
     obtain ⟨g,z,hgB,_,hgc⟩:=(Cells.of_own cInt_len (by decide) HR.out).at_ ht
     subst hgB
     have c0:wr.cell? ⟨g,z+q,none⟩=some (.int .i64 t):=by simpa using hgc 0 _ rfl
     obtain ⟨i0,hi,hz0,hz1,hz2⟩:=info_parts info9Pr
     have hb3:=below1 wr (.cells #[.int .i64 (j:Int),.int .i64 t] 25)
     have HO5:=hide (ownsRow_below HO.out hb3)
     have HR5:=hide (ownsRow_below HR.out hb3)
     have HL5:=hide (show Cells (wr.alloc (.cells #[.int .i64 (j:Int),.int .i64 t] 25)) (wr.heap.size+1) 2 pV (some ⟨wr.heap.size,0,none⟩) 1 [((j:Int),t)] from lit_cells wr pV pV_len ((j:Int),t) 25)
     have HX5:=hide (HX.out.trans (hb3.mono HX.out.size))
     have hs5:w.heap.size+1≤(wr.alloc (.cells #[.int .i64 (j:Int),.int .i64 t] 25)).heap.size:=by
      have h1:=HX5.out.size
      have h2:=HWS.out
      omega
     clear hb3 ht hgc
     go_wp2_with (at_builtin;refine wpList_append_cells (wr.alloc (.cells #[.int .i64 (j:Int),.int .i64 t] 25)) rfl (.tmp 22) (.tmp 29) 27 rfl pV_len (by decide) pV_one9 (w.heap.size+1) 25 i0 _ 16 Try.underlying27 hi hz0 hz1 hz2 rfl _ (n+q) ((M++(K.take q).map fun z=>((j:Int),z)).flatMap pV) rfl HO5.out _ (some ⟨wr.heap.size,0,none⟩) 1 1 [((j:Int),t)] rfl HL5.out (by unfold maxLen;omega) (by omega) hs5 ?_;intro v5 w5 hown5 hg5 _;obtain ⟨A5,k5,rfl⟩:=own_slice9 hown5;have HO6:=hide hown5;have HR6:=hide (own_kt HR5.out (KT.of_grown hg5 HO5.out) (by decide));have HX6:=hide (below_app HX5.out (ownsRow_base HO5.out (Nat.le_of_eq HWS.out)) (Nat.le_trans (Nat.le_of_eq HWS.out) hs5) hg5);clear hown5 hg5)
     go_roundw
     case rel=>
      refine ⟨q+1,A5,k5,by go_num,rfl,by omega,hide ?_,HR6,HX6⟩
      rw [List.take_add_one,HT.out,List.map_append,← List.append_assoc,List.flatMap_append]
      exact HO6.out
     case measure=>simp [intOf];omega
    ·
     have hlq':¬(q:Int) < (m:Int):=by omega
     obtain rfl:m=q:=by omega
     have HF:=hide (show edI BL (j+1)=M++K.map fun z=>((j:Int),z) by rw [HUP.out,HM.out,HK.out])
     have HTK:=hide (show K.take m=K from List.take_of_length_le (Nat.le_of_eq HM2.out))
     go_wp2
     go_roundw
     case rel=>
      have hl:(edI BL (j+1)).length=n+m:=by rw [HF.out,List.length_append,List.length_map,HN.out,HM2.out]
      refine ⟨j+1,A',c',by go_num,by rw [hl],by omega,hide ?_,HX⟩
      rw [hl,HF.out]
      have h:=HO.out
      rw [HTK.out] at h
      exact h
     case measure=>simp [intOf];omega
  ·
   have hlt':¬(j:Int) < (C:Int):=by omega
   obtain rfl:C=j:=by omega
   go_wp2
   go_ret
   have hl:edgesI BL=M:=HL.out.trans HM.out
   refine ⟨A,c,?_,?_,HB.out.trans (HW1.out.mono HB.out.size)⟩
   ·
    show Ending.returned (.slice A n c)=_
    rw [hl,HN.out]
   ·
    rw [hl,HN.out]
    exact ownsRow_base HO3.out (by omega)
section
variable {W w:World} {x:BdW} {l:List BkV} (h:Ctx11 W x l) (y:Below W.heap.size W w)
include h y
theorem Ctx11.redges:Calls Try.prog 22 #[aggBd x] w (PrsOut9 w (edgesI l)):=by
 obtain ⟨hx,rfl,hN,hT⟩:=h
 exact REdges_any x w (hx.up y) (Nat.le_trans hN (by decide))
end
end Go.Proofs.Ytlbopbjdiehecaa
