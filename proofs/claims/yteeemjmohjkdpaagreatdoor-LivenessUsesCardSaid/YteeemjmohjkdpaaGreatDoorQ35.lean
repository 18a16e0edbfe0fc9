/- Part 36 of the contracts and their mathematics. -/
import Derived.Test.YteeemjmohjkdpaaGreatDoorQ29
import Derived.Test.YteeemjmohjkdpaaGreatDoorQ31
import Derived.Test.YteeemjmohjkdpaaGreatDoorQ33
set_option linter.unusedVariables false
set_option linter.unusedSectionVars false
set_option linter.unusedSimpArgs false
set_option maxRecDepth 100000
set_option maxHeartbeats 8000000
namespace Go.Proofs.YteeemjmohjkdpaaGreatDoor
open Go.RowKit
theorem W12Uses (x0:BdW) (p:Int) (w:World) (h0:OneBd w w.heap.size x0) (hp:-9223372036854775808≤p∧p≤9223372036854775807) (s0:FitBd x0) (hT:Pre12 w) :
  Calls Tryz.prog 3 #[aggBd x0,.int .i64 p] w fun e w'=>e=.returned (.bool true)∧Below w.heap.size w w':=by
 have HAL:=hide fun (w':World) (y:Below w.heap.size w w')=>alive12_any w' (hT.up y)
 have HSK:=hide fun (w':World) (y:Below w.heap.size w w')=>Skip12_any x0 w' (h0.up y) s0
 obtain ⟨U,hU⟩:∃ l,usesI x0.v.blocks p=l:=⟨_,rfl⟩
 obtain ⟨D,hD⟩:∃ l,defI x0.v.blocks p=l:=⟨_,rfl⟩
 have HCU:=hide fun (h:Ok12 x0) (w':World) (y:Below w.heap.size w w')=>hU ▸ CUses hT h0 h (p:=p) hp w' y
 have HRU:=hide fun (h:Ok12 x0) (w':World) (y:Below w.heap.size w w')=>hU ▸ sm12uses h0 h.sm (p:=p) hp w' y
 have HCD:=hide fun (h:Ok12 x0) (w':World) (y:Below w.heap.size w w')=>hD ▸ CDefs hT h0 h (p:=p) hp w' y
 have HRD:=hide fun (h:Ok12 x0) (w':World) (y:Below w.heap.size w w')=>hD ▸ sm12defs h0 h.sm (p:=p) hp w' y
 obtain ⟨d,b,hdb⟩:∃ d b,vDef D=.tuple #[.int .i64 d,.bool b]:=by
  cases D with
  | none=>exact ⟨_,_,rfl⟩
  | some z=>exact ⟨_,_,rfl⟩
 rw [hdb] at HCD HRD
 have hdd:(d == d)=true:=by simp
 have hbb:(b == b)=true:=by simp
 clear hU hD hdb
 obtain ⟨nm,⟨rA,rn,rc,rL⟩,⟨oA,on,oc,oL⟩,⟨tA,tm,tc,tL⟩,⟨lA,ln,lc,lL⟩,ar,⟨bA,bn,bc,bL⟩⟩:=x0
 have HB:=hide (below1 w (.cells #[.string nm,.slice rA rn rc,.slice oA on oc,.slice tA tm tc,.slice lA ln lc,.int .i64 ar,.slice bA bn bc] 28))
 have hcx:=hide fun (w':World) (y:Below (w.alloc (.cells #[.string nm,.slice rA rn rc,.slice oA on oc,.slice tA tm tc,.slice lA ln lc,.int .i64 ar,.slice bA bn bc] 28)).heap.size (w.alloc (.cells #[.string nm,.slice rA rn rc,.slice oA on oc,.slice tA tm tc,.slice lA ln lc,.int .i64 ar,.slice bA bn bc] 28)) w')=>cells7 y
 clear h0 s0 hT hp
 go_enter Tryz.func3,Tryz.ntmps3
 go_wp2_with fail
 refine (HSK.out _ HB.out).mono ?_
 rintro e1 w1 ⟨h1,hb1⟩
 have HW1:=hide hb1
 have HC1:=hide (HB.out.trans (hb1.mono HB.out.size))
 clear hb1
 rcases h1 with rfl | ⟨rfl,hok⟩
 case inl=>
  go_wp2_with fail
  refine (HAL.out _ HC1.out).mono ?_
  rintro e9 w9 ⟨rfl,hb9⟩
  have HC9:=hide (HC1.out.trans (hb9.mono HC1.out.size))
  clear hb9
  go_wp2
  go_ret
  exact ⟨rfl,HC9.out⟩
 have HOK:=hide hok
 clear hok
 have HU1:=hide (HCU.out HOK.out)
 have HU2:=hide (HRU.out HOK.out)
 have HD1:=hide (HCD.out HOK.out)
 have HD2:=hide (HRD.out HOK.out)
 clear HCU HRU HCD HRD HOK
 obtain ⟨x0,x1,x2,x3,x4,x5,x6⟩:=hcx.out _ HW1.out
 go_wp2_with fail
 refine (HD1.out _ HC1.out).mono ?_
 rintro e2 w2 ⟨rfl,hb0⟩
 have HW2:=hide (HW1.out.trans (hb0.mono HW1.out.size))
 have HC2:=hide (HC1.out.trans (hb0.mono HC1.out.size))
 clear hb0 x0 x1 x2 x3 x4 x5 x6
 obtain ⟨x0,x1,x2,x3,x4,x5,x6⟩:=hcx.out _ HW2.out
 go_wp2_with fail
 refine (HD2.out _ HC2.out).mono ?_
 rintro e3 w3 ⟨rfl,hb0⟩
 have HW3:=hide (HW2.out.trans (hb0.mono HW2.out.size))
 clear hb0 x0 x1 x2 x3 x4 x5 x6
 go_wp2
 have HD:=hide (HW3.out.drew)
 refine wp_region_held_drew (S:=(fun w'=>Below (w.alloc (.cells #[.string nm,.slice rA rn rc,.slice oA on oc,.slice tA tm tc,.slice lA ln lc,.int .i64 ar,.slice bA bn bc] 28)).heap.size (w.alloc (.cells #[.string nm,.slice rA rn rc,.slice oA on oc,.slice tA tm tc,.slice lA ln lc,.int .i64 ar,.slice bA bn bc] 28)) w')) (by kernel_rfl) HD.out (fun hHeld=>?_)
 refine pC 0 rfl (fun KZ hK=>?_)
 go_simp
 refine (HAL.out _ (HB.out.trans (HD.out.mono HB.out.size))).mono ?_
 rintro e5 w5 ⟨rfl,hb0⟩
 have H5:=hide (HD.out.trans (hb0.mono HD.out.size))
 clear hb0
 refine hK.out _ _ H5.out (fun hHeld=>?_)
 refine planS [1,2,3,5,6] ?_
 repeat' (first | refine pT hHeld rfl ?_ | refine pS hHeld rfl ?_)
 refine pC 4 rfl (fun KZ hK=>?_)
 go_simp
 refine (HU1.out _ (HB.out.trans (H5.out.mono HB.out.size))).mono ?_
 rintro e5 w6 ⟨A6,c6,rfl,ho6,hb0⟩
 have H6:=hide (H5.out.trans (hb0.mono H5.out.size))
 have HO6:=hide ho6
 clear ho6
 clear hb0
 refine hK.out _ _ H6.out (fun hHeld=>?_)
 refine pC 7 rfl (fun KZ hK=>?_)
 go_simp
 refine (HU2.out _ (HB.out.trans (H6.out.mono HB.out.size))).mono ?_
 rintro e5 w7 ⟨A7,c7,rfl,ho7,hb0⟩
 have H7:=hide (H6.out.trans (hb0.mono H6.out.size))
 have HO7:=hide ho7
 have HO67:=hide (ownsRow_below HO6.out hb0)
 clear ho7
 clear hb0
 refine hK.out _ _ H7.out (fun hHeld=>?_)
 refine pC 8 rfl (fun KZ hK=>?_)
 go_simp
 refine (EqI11 (eqIs_iff.2 rfl) _ HO67.out HO7.out).mono ?_
 rintro e5 w8 ⟨rfl,hb0⟩
 have H8:=hide (H7.out.trans (hb0.mono H7.out.size))
 clear hb0
 refine hK.out _ _ H8.out (fun hHeld=>?_)
 refine planS [9,10,11,12,13,14,15,16,17,18,19,20] ?_
 repeat' (first | refine pT hHeld rfl ?_ | refine pS hHeld rfl ?_)
 refine wpAnyH_done (by kernel_rfl) ?_ _
 go_wp2
 go_ret
 exact ⟨rfl,HB.out.trans (H8.out.mono HB.out.size)⟩
end Go.Proofs.YteeemjmohjkdpaaGreatDoor
