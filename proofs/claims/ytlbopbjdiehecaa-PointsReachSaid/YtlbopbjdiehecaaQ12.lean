/- Part 13 of the contracts and their mathematics. -/
import Derived.Test.YtlbopbjdiehecaaQ6
import Derived.Test.YtlbopbjdiehecaaQ9
set_option linter.unusedVariables false
set_option linter.unusedSimpArgs false
set_option maxRecDepth 100000
set_option maxHeartbeats 8000000
namespace Go.Proofs.Ytlbopbjdiehecaa
open Go.RowKit
section
variable {nx:Nat→List Nat} {n i x:Nat} {N0:List Nat} {seen:List Bool} {L:List Nat}
theorem Bfs.seen_some (h:Bfs nx n N0 seen L i) (hx:x < n):∃ b,seen[x]?=some b:=⟨_,List.getElem?_eq_getElem (by rw [h.len];exact hx)⟩
end
theorem nxN_lt {l:List BkV} {p:Int}:∀ x∈nxN l p,x < ptCount l:=fun x hx=>by
 unfold nxN at hx
 exact List.mem_range.1 (List.mem_filter.1 hx).1
theorem nxN_len (l:List BkV) (p:Int):(nxN l p).length≤ptCount l:=by
 unfold nxN
 refine Nat.le_trans (List.length_filter_le _ _) ?_
 rw [List.length_range]
 exact Nat.le_refl _
theorem castL_len (L:List Nat):(castL L).length=L.length:=List.length_map _
theorem RReaches_any (x:BdW) (p q:Int) (w:World) (hx:OneBd w w.heap.size x) (hN:ptCount x.v.blocks≤900) (hI:IntR p) :
  Calls Try.prog 24 #[aggBd x,.int .i64 p,.int .i64 q] w fun e w'=>e=.returned (.bool (rchI x.v.blocks p q))∧Below w.heap.size w w':=by
 obtain ⟨BL,hBL⟩:∃ l,x.v.blocks=l:=⟨_,rfl⟩
 obtain ⟨C,hC⟩:∃ n,ptCount BL=n:=⟨_,rfl⟩
 have hN2:ptCount x.v.blocks≤2 ^ 62:=Nat.le_trans hN (by decide)
 have hN3:ptCount x.v.blocks≤1000000:=Nat.le_trans hN (by decide)
 have HCO:=hide fun (w':World) (y:Below w.heap.size w w')=>RCount_is (m:=C) (hx.up y) (by rw [hBL];exact hC) (by rw [←hC,← hBL];exact hN2)
 have HNX:=hide fun (w':World) (p:Int) (hp:IntR p) (y:Below w.heap.size w w')=>(show Calls Try.prog 19 #[aggBd x,.int .i64 p] w' (IntsOut9 w' (castL (nxN BL p))) from by
  have h:=RNext_any x p w' (hx.up y) hN3 hp
  rw [hBL,nextI_cast] at h
  exact h)
 rw [hBL] at hN ⊢
 have HCC:=hide hC
 have HNL:=hide fun (p:Int)=>(show (nxN BL p).length≤C from hC ▸ nxN_len BL p)
 have HNR:=hide fun (p:Int)=>(show ∀ x∈nxN BL p,x < C from hC ▸ nxN_lt)
 rw [hC] at hN
 obtain ⟨v,hv⟩:∃ v,rchI BL p q=v:=⟨_,rfl⟩
 rw [hv]
 have HV:=hide hv
 have HI:=hide hI
 obtain ⟨nm,⟨rA,rn,rc,rL⟩,⟨oA,on,oc,oL⟩,⟨tA,tm,tc,tL⟩,⟨lA,ln,lc,lL⟩,ar,⟨bA,bn,bc,bL⟩⟩:=x
 have HB:=hide (below1 w (.cells #[.string nm,.slice rA rn rc,.slice oA on oc,.slice tA tm tc,.slice lA ln lc,.int .i64 ar,.slice bA bn bc] 32))
 have HCX:=hide fun (w':World) (y:Below (w.alloc (.cells #[.string nm,.slice rA rn rc,.slice oA on oc,.slice tA tm tc,.slice lA ln lc,.int .i64 ar,.slice bA bn bc] 32)).heap.size (w.alloc (.cells #[.string nm,.slice rA rn rc,.slice oA on oc,.slice tA tm tc,.slice lA ln lc,.int .i64 ar,.slice bA bn bc] 32)) w')=>cells7 y
 obtain ⟨x0,x1,x2,x3,x4,x5,x6⟩:=HCX.out _ (Below.refl _ _)
 clear hBL hC hN2 hN3 hx hv hI
 by_cases hq0:q < 0
 ·
  obtain rfl:v=false:=by rw [←HV.out];exact rchI_no (by omega)
  go_enter Try.func24,Try.ntmps24
  go_wp2
  go_ret
  exact ⟨rfl,HB.out⟩
 obtain ⟨qn,rfl⟩:∃ n:Nat,q=(n:Int):=⟨q.toNat,by omega⟩
 go_enter Try.func24,Try.ntmps24
 go_wp2_with fail
 refine (HCO.out _ HB.out).mono ?_
 rintro e1 w1 ⟨rfl,hb1⟩
 have HW1:=hide hb1
 clear hb1 x0 x1 x2 x3 x4 x5 x6
 by_cases hqC:(C:Int)≤(qn:Int)
 ·
  obtain rfl:v=false:=by rw [←HV.out];exact rchI_no (by rw [HCC.out];omega)
  go_wp2
  go_ret
  exact ⟨rfl,HB.out.trans (HW1.out.mono HB.out.size)⟩
 obtain ⟨x0,x1,x2,x3,x4,x5,x6⟩:=HCX.out _ HW1.out
 go_wp2_with fail
 refine (HCO.out _ (HB.out.trans (HW1.out.mono HB.out.size))).mono ?_
 rintro e2 w2 ⟨rfl,hb2⟩
 have HW2:=hide (HW1.out.trans (hb2.mono HW1.out.size))
 clear hb2 x0 x1 x2 x3 x4 x5 x6
 obtain ⟨i1,hi1,hy0,hy1,hy2⟩:=info_parts info9Bool
 have hb3:=below1 w2 (.cells (Array.replicate C (.bool false)) 4)
 have HW3:=hide (HW2.out.trans (hb3.mono HW2.out.size))
 have HBX3:=hide (show Bx (w2.alloc (.cells (Array.replicate C (.bool false)) 4)) w2.heap.size ((List.replicate C false).map Value.bool) 4 from by
  have h:=Bx.new w2 ((List.replicate C false).map Value.bool) 4
  simpa [List.map_replicate] using h)
 have hws3:(w2.alloc (.cells (Array.replicate C (.bool false)) 4)).heap.size=w2.heap.size+1:=by simp
 have HWS3:=hide hws3
 clear hb3 hws3
 obtain ⟨x0,x1,x2,x3,x4,x5,x6⟩:=HCX.out _ HW3.out
 go_wp2_with (at_make;refine wpList_make1 _ rfl _ _ _ rfl 4 i1 _ Try.underlying81 hi1 hy0 hy1 rfl C rfl rfl (by rw [hy2];omega) (by omega) ?_)
 clear x0 x1 x2 x3 x4 x5 x6
 obtain ⟨x0,x1,x2,x3,x4,x5,x6⟩:=HCX.out _ HW3.out
 go_wp2_with fail
 refine (HNX.out _ p HI.out (HB.out.trans (HW3.out.mono HB.out.size))).mono ?_
 rintro e4 w4 ⟨A4,c4,rfl,hown4,hb4⟩
 have HW4:=hide (HW3.out.trans (hb4.mono HW3.out.size))
 have HBX4:=hide (HBX3.out.below hb4)
 have HO4:=hide (show w4.ownsRow (w2.heap.size+1) 3 1 (.slice A4 (nxN BL p).length c4) (nxN BL p).length ((castL (nxN BL p)).flatMap cInt) from by
  rw [castL_len] at hown4
  exact ownsRow_base hown4 (Nat.le_of_eq HWS3.out.symm))
 have HF0:=hide (Bfs.start (nx:=nxF BL) (n:=C) (HNR.out p) (HNL.out p))
 rw [castL_len]
 have hqlt:(qn:Int) < (C:Int):=by omega
 clear hown4 hb4 x0 x1 x2 x3 x4 x5 x6 hq0 hqC HBX3
 obtain ⟨CC,hCC⟩:∃ z,C+C*C=z:=⟨_,rfl⟩
 have hCC2:CC≤1000000:=by
  have:C*C≤900*900:=Nat.mul_le_mul hN hN
  omega
 have HC2:=hide hCC
 clear hCC
 go_wp2
 go_loopw [8,9] (fun u i wr=>∃ k:Nat,∃ L:List Nat,∃ F:List Bool,∃ A c,i=.int .i64 (k:Int)∧u=.slice A L.length c∧Hid (Bfs (nxF BL) C (nxN BL p) F L k)∧Hid (Bx wr w2.heap.size (F.map Value.bool) 4)∧Hid (wr.ownsRow (w2.heap.size+1) 3 1 (.slice A L.length c) L.length ((castL L).flatMap cInt))∧Hid (Below (w.alloc (.cells #[.string nm,.slice rA rn rc,.slice oA on oc,.slice tA tm tc,.slice lA ln lc,.int .i64 ar,.slice bA bn bc] 32)).heap.size (w.alloc (.cells #[.string nm,.slice rA rn rc,.slice oA on oc,.slice tA tm tc,.slice lA ln lc,.int .i64 ar,.slice bA bn bc] 32)) wr)) (fun _ i _=>CC - (intOf i).toNat)
 case atStart=>exact ⟨0,nxN BL p,List.replicate C false,A4,c4,rfl,rfl,HF0,HBX4,HO4,HW4⟩
 case round=>
  obtain ⟨k,L,F,A,c,rfl,rfl,HF,HBX,HO,HW⟩:=hrel
  have hcnt:=HF.out.count
  rw [HC2.out] at hcnt
  have hkl:=HF.out.ile
  obtain ⟨n,hn⟩:∃ n,L.length=n:=⟨_,rfl⟩
  have HO2:=hide (show wr.ownsRow (w2.heap.size+1) 3 1 (.slice A n c) n ((castL L).flatMap cInt) from hn ▸ HO.out)
  rw [hn] at hcnt hkl ⊢
  have HN:=hide hn
  clear hn HO
  by_cases hlt:k < n
  ·
   have hlt':(k:Int) < (n:Int):=by omega
   obtain ⟨y,hy⟩:∃ y,L[k]?=some y:=⟨_,List.getElem?_eq_getElem (by rw [HN.out];exact hlt)⟩
   have hyC:y < C:=HF.out.rng y (List.mem_of_getElem? hy)
   obtain ⟨b,hb⟩:=HF.out.seen_some hyC
   obtain ⟨g,z,hgA,_,hgc⟩:=(Cells.of_own cInt_len (by decide) HO2.out).at_ (castL_at hy)
   subst hgA
   have c0:wr.cell? ⟨g,z+k,none⟩=some (.int .i64 (y:Int)):=by simpa using hgc 0 _ rfl
   have c1:wr.cell? ⟨w2.heap.size,y,none⟩=some (.bool b):=HBX.out.cell (j:=y) (by rw [List.getElem?_map,hb];rfl)
   have hyC':(y:Int) < (C:Int):=by omega
   have hy0:(0:Int)≤(y:Int):=by omega
   have HY:=hide hy
   have HBb:=hide hb
   clear hgc hy hb
   cases b
   case true=>
    go_wp2
    go_roundw
    case rel=>exact ⟨k+1,L,F,_,c,by go_num,by rw [HN.out],hide (HF.out.skip HY.out HBb.out),HBX,hide (by rw [HN.out];exact HO2.out),HW⟩
    case measure=>simp [intOf];omega
   have ff:=HBX.out.frozen y
   have hle2:(w.alloc (.cells #[.string nm,.slice rA rn rc,.slice oA on oc,.slice tA tm tc,.slice lA ln lc,.int .i64 ar,.slice bA bn bc] 32)).heap.size≤w2.heap.size:=HW2.out.size
   have HBX5:=hide (show Bx (wr.setCell ⟨w2.heap.size,y,none⟩ (.bool true)) w2.heap.size ((F.set y true).map Value.bool) 4 from by rw [List.map_set];exact HBX.out.set y _)
   have HO5:=hide (ownsRow_setCell_below (a:=⟨w2.heap.size,y,none⟩) HO2.out (show w2.heap.size < w2.heap.size+1 by omega) (.bool true))
   have HW5:=hide (HW.out.setCell (p:=⟨w2.heap.size,y,none⟩) hle2 (.bool true))
   go_wp2
   generalize wr.setCell ⟨w2.heap.size,y,none⟩ (.bool true)=wz at *
   obtain ⟨i0,hi,hz0,hz1,hz2⟩:=info_parts info9Int
   have hbd:=(Below.refl wz.heap.size wz).drew
   have HBXd:=hide (HBX5.out.below hbd)
   have HOd:=hide (ownsRow_below HO5.out hbd)
   have HWd:=hide (HW5.out.trans (hbd.mono HW5.out.size))
   obtain ⟨g',z',hgA,_,hgc⟩:=(Cells.of_own cInt_len (by decide) HO5.out).at_ (castL_at HY.out)
   injection hgA with hgA
   injection hgA with hga hgb
   subst hga hgb
   have d0:wz.cell? ⟨g,z+k,none⟩=some (.int .i64 (y:Int)):=by simpa using hgc 0 _ rfl
   obtain ⟨x0,x1,x2,x3,x4,x5,x6⟩:=HCX.out _ HW5.out
   have hYR:IntR (y:Int):=⟨by omega,by omega⟩
   have HYR:=hide hYR
   have hle6:(w.alloc (.cells #[.string nm,.slice rA rn rc,.slice oA on oc,.slice tA tm tc,.slice lA ln lc,.int .i64 ar,.slice bA bn bc] 32)).heap.size≤w2.heap.size+1:=Nat.le_succ_of_le hle2
   have HLE:=hide hle6
   have hl9:=HNL.out (y:Int)
   clear hbd hgc hYR c0 c1 ff
   obtain ⟨K,hK⟩:∃ K,nxN BL (y:Int)=K:=⟨_,rfl⟩
   have HK:=hide hK
   rw [hK] at hl9
   clear hK
   have HNX2:=hide (HK.out ▸ HNX.out _ (y:Int) HYR.out (HB.out.trans (HWd.out.mono HB.out.size)))
   go_region_law (first
    | (refine step_append_cells (by rfl) (.tmp 43) (.tmp 49) 43 (by rfl) cInt_len (by decide) cInt_one (w2.heap.size+1) 3 i0 _ 8 Try.underlying43 hi hz0 hz1 hz2 rfl _ n ((castL L).flatMap cInt) (by rfl) HO6.out w6.heap.size B6 (castL K).length c6 (castL K) (by rfl) HL6.out (by rw [castL_len];unfold maxLen;omega) (by rw [castL_len];omega) hs6 ?_;intro v7 w7 hown7 hg7 _;obtain ⟨A7,k7,rfl⟩:=own_slice9 hown7;have HO7:=hide hown7;have HBX7:=hide (HBX6.out.kt (KT.of_grown hg7 HO6.out) (by decide));have HW7:=hide (below_app HW6.out (ownsRow_base HO6.out HLE.out) (Nat.le_trans HLE.out hs6) hg7);clear hown7 hg7)
    | (go_simp;refine HNX2.out.mono ?_;rintro e6 w6 ⟨B6,c6,rfl,hown6,hb6⟩;have HL6:=hide (Cells.of_own cInt_len (by decide) hown6);have HO6:=hide (ownsRow_below HOd.out hb6);have HBX6:=hide (HBXd.out.below hb6);have HW6:=hide (HWd.out.trans (hb6.mono HWd.out.size));have hs6:w2.heap.size+1≤w6.heap.size:=Nat.le_trans (HBX6.out.lt) (Nat.le_refl _);clear hown6 hb6))
   all_goals
    go_wp2
    go_roundw
    case rel=>
     have hl:(L++K).length=n+(castL K).length:=by rw [List.length_append,HN.out,castL_len]
     refine ⟨k+1,L++K,F.set y true,A7,k7,by go_num,by rw [hl],hide ?_,HBX7,hide ?_,HW7⟩
     ·
      exact HK.out ▸ HF.out.step HY.out HBb.out (HNR.out (y:Int)) (HNL.out (y:Int))
     ·
      rw [hl]
      have h:=HO7.out
      rw [←List.flatMap_append] at h
      have e:castL (L++K)=castL L++castL K:=List.map_append
      rw [e]
      exact h
    case measure=>simp [intOf];omega
  ·
   have hlt':¬(k:Int) < (n:Int):=by omega
   obtain rfl:n=k:=by omega
   obtain ⟨b,hb⟩:=HF.out.seen_some (x:=qn) (by omega)
   have c1:wr.cell? ⟨w2.heap.size,qn,none⟩=some (.bool b):=HBX.out.cell (j:=qn) (by rw [List.getElem?_map,hb];rfl)
   have hfin:=(HN.out ▸ HF.out:Bfs (nxF BL) C (nxN BL p) F L L.length).fin qn
   have hvb:v=b:=by
    rw [←HV.out]
    rw [hb] at hfin
    cases b with
    | true=>exact rchI_iff.2 ⟨by omega,by rw [HCC.out];exact hqlt,by rw [Int.toNat_natCast];exact hfin.1 rfl⟩
    | false=>
     refine rchI_no fun h=>?_
     have h3:=h.2.2
     rw [Int.toNat_natCast] at h3
     exact absurd (hfin.2 h3) (by simp)
   subst hvb
   have hq0':(0:Int)≤(qn:Int):=by omega
   clear hfin hb
   go_wp2
   go_ret
   exact ⟨rfl,HB.out.trans (HW.out.mono HB.out.size)⟩
section
variable {W w:World} {x:BdW} {l:List BkV} (h:Ctx11 W x l) (y:Below W.heap.size W w)
include h y
theorem Ctx11.rreach {p q:Int} (hp:IntR p) {v:Bool} (hv:rchI l p q=v):Calls Try.prog 24 #[aggBd x,.int .i64 p,.int .i64 q] w fun e w'=>e=.returned (.bool v)∧Below w.heap.size w w':=by
 obtain ⟨hx,rfl,hN,hT⟩:=h
 exact hv ▸ RReaches_any x p q w (hx.up y) (Nat.le_trans hN (by decide)) hp
end
end Go.Proofs.Ytlbopbjdiehecaa
