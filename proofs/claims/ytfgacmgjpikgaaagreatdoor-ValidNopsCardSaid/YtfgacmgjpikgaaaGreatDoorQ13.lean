/- Part 14 of the contracts and their mathematics. -/
import Derived.Test.YtfgacmgjpikgaaaGreatDoorQ10
import Derived.Test.YtfgacmgjpikgaaaGreatDoorQ11
import Derived.Test.YtfgacmgjpikgaaaGreatDoorQ12
import Derived.DeepKeys5
set_option linter.unusedVariables false
set_option linter.unusedSimpArgs false
set_option maxRecDepth 100000
set_option maxHeartbeats 4000000
namespace Go.Proofs.YtfgacmgjpikgaaaGreatDoor
open Go.RowKit
def Skip10 (x:BdW) (e:Ending):Prop:=e=.returned (.int .i64 1)∨e=.returned (.int .i64 0)∧x.types.n≤1000∧szB x≤3000∧x.blocks.n≤200
theorem Skip10_any (x:BdW) (w:World) (hx:OneBd w w.heap.size x) (hF:FitBd x) :
  Calls Tryz.prog 9 #[aggBd x] w fun e w'=>Skip10 x e∧Below w.heap.size w w':=by
 have htm:=hx.types.nm
 have htc:=hx.types.nc
 have htl:=hx.types.len
 obtain ⟨nm,⟨rA,rn,rc,rL⟩,⟨oA,on,oc,oL⟩,⟨tA,tm,tc,tL⟩,⟨lA,ln,lc,lL⟩,ar,⟨bA,bn,bc,bL⟩⟩:=x
 have htl:tL.length=tm:=htl
 obtain ⟨e3,he3⟩:∃ u,tyChk (tys tL) (rn:Int)=u:=⟨_,rfl⟩
 have HB:=hide (show Below w.heap.size w (w.alloc (.cells #[.string nm,.slice rA rn rc,.slice oA on oc,.slice tA tm tc,.slice lA ln lc,.int .i64 ar,.slice bA bn bc] 28)) from (Below.refl w.heap.size w).alloc (Nat.le_refl _) _)
 have HX:=hide (hx.up HB.out)
 have HF:=hide hF
 have hcs:=hide fun (w':World) (y:Below (w.alloc (.cells #[.string nm,.slice rA rn rc,.slice oA on oc,.slice tA tm tc,.slice lA ln lc,.int .i64 ar,.slice bA bn bc] 28)).heap.size (w.alloc (.cells #[.string nm,.slice rA rn rc,.slice oA on oc,.slice tA tm tc,.slice lA ln lc,.int .i64 ar,.slice bA bn bc] 28)) w')=>(show w'.cell? ⟨w.heap.size,0,none⟩=some (.string nm)∧w'.cell? ⟨w.heap.size,1,none⟩=some (.slice rA rn rc)∧w'.cell? ⟨w.heap.size,2,none⟩=some (.slice oA on oc)∧w'.cell? ⟨w.heap.size,3,none⟩=some (.slice tA tm tc)∧w'.cell? ⟨w.heap.size,4,none⟩=some (.slice lA ln lc)∧w'.cell? ⟨w.heap.size,5,none⟩=some (.int .i64 ar)∧w'.cell? ⟨w.heap.size,6,none⟩=some (.slice bA bn bc) from ⟨one_cells (cs:=[.string nm,.slice rA rn rc,.slice oA on oc,.slice tA tm tc,.slice lA ln lc,.int .i64 ar,.slice bA bn bc]) y 0 _ rfl,one_cells (cs:=[.string nm,.slice rA rn rc,.slice oA on oc,.slice tA tm tc,.slice lA ln lc,.int .i64 ar,.slice bA bn bc]) y 1 _ rfl,one_cells (cs:=[.string nm,.slice rA rn rc,.slice oA on oc,.slice tA tm tc,.slice lA ln lc,.int .i64 ar,.slice bA bn bc]) y 2 _ rfl,one_cells (cs:=[.string nm,.slice rA rn rc,.slice oA on oc,.slice tA tm tc,.slice lA ln lc,.int .i64 ar,.slice bA bn bc]) y 3 _ rfl,one_cells (cs:=[.string nm,.slice rA rn rc,.slice oA on oc,.slice tA tm tc,.slice lA ln lc,.int .i64 ar,.slice bA bn bc]) y 4 _ rfl,one_cells (cs:=[.string nm,.slice rA rn rc,.slice oA on oc,.slice tA tm tc,.slice lA ln lc,.int .i64 ar,.slice bA bn bc]) y 5 _ rfl,one_cells (cs:=[.string nm,.slice rA rn rc,.slice oA on oc,.slice tA tm tc,.slice lA ln lc,.int .i64 ar,.slice bA bn bc]) y 6 _ rfl⟩)
 have HTM:=hide htm
 have HTC:=hide htc
 have HTL:=hide htl
 have HE3:=hide he3
 clear hx hF htm htc htl he3
 go_enter Tryz.func9,Tryz.ntmps9
 go_wp2_with fail
 refine (Large_any ⟨nm,⟨rA,rn,rc,rL⟩,⟨oA,on,oc,oL⟩,⟨tA,tm,tc,tL⟩,⟨lA,ln,lc,lL⟩,ar,⟨bA,bn,bc,bL⟩⟩ _ HX.out HF.out).mono ?_
 rintro e1 w1 ⟨h1,hb1⟩
 have HW1:=hide hb1
 clear hb1
 obtain ⟨c0,c1,c2,c3,c4,c5,c6⟩:=hcs.out _ HW1.out
 rcases h1 with rfl | ⟨rfl,hsz⟩
 case inl=>
  go_wp2
  go_ret
  exact ⟨.inl rfl,HB.out.trans (HW1.out.mono HB.out.size)⟩
 have HSZ:=hide hsz
 clear hsz
 go_wp2_with fail
 refine (Skip_any tA tm tc tL _ ((HX.out.up HW1.out).typs) HTM.out).mono ?_
 rintro e2 w2 ⟨⟨v,rfl,hv,hv01⟩,hb2⟩
 have HW2:=hide (HW1.out.trans (hb2.mono HW1.out.size))
 clear hb2
 obtain ⟨d0,d1,d2,d3,d4,d5,d6⟩:=hcs.out _ HW2.out
 rcases hv01 with rfl | rfl
 case inr=>
  clear hv
  go_wp2
  go_ret
  exact ⟨.inl rfl,HB.out.trans (HW2.out.mono HB.out.size)⟩
 have hlg:tyLarge (tys tL)=false:=by cases hq:tyLarge (tys tL);rfl;exact absurd (hv hq) (by decide)
 have hsm:tm≤200:=by have h9:=(tyBig_small (n:=0) (by omega) hlg).1;have h8:(tys tL).length=tL.length:=List.length_map _;have h7:=HTL.out;omega
 have HSM:=hide hsm
 clear hv hlg
 by_cases q1:200 < on
 case pos=>
  have q1i:(200:Int) < (on:Int):=by omega
  go_wp2
  go_ret
  exact ⟨.inl rfl,HB.out.trans (HW2.out.mono HB.out.size)⟩
 have q1i:¬(200:Int) < (on:Int):=by omega
 by_cases q2:200 < rn
 case pos=>
  have q2i:(200:Int) < (rn:Int):=by omega
  go_wp2
  go_ret
  exact ⟨.inl rfl,HB.out.trans (HW2.out.mono HB.out.size)⟩
 have q2i:¬(200:Int) < (rn:Int):=by omega
 by_cases q3:200 < bn
 case pos=>
  have q3i:(200:Int) < (bn:Int):=by omega
  go_wp2
  go_ret
  exact ⟨.inl rfl,HB.out.trans (HW2.out.mono HB.out.size)⟩
 have q3i:¬(200:Int) < (bn:Int):=by omega
 have HBN:=hide (show bn≤200 by omega)
 have HCK:=hide (RCheckT_is (c:=tc) HE3.out w2 ((HX.out.up HW2.out).typs) HTM.out HTC.out)
 by_cases q4:e3=0
 case neg=>
  have t4:(e3 != 0)=true:=by simp [q4]
  clear q4
  go_wp2_with fail
  refine HCK.out.mono ?_
  rintro e4 w4 ⟨rfl,hb4⟩
  have HW4:=hide (HW2.out.trans (hb4.mono HW2.out.size))
  clear hb4
  go_wp2
  go_ret
  exact ⟨.inr ⟨rfl,(Nat.le_trans HSM.out (by decide)),HSZ.out,HBN.out⟩,HB.out.trans (HW4.out.mono HB.out.size)⟩
 have HOK:=hide (tyChk_iff.1 (HE3.out.trans q4))
 have t4:(e3 != 0)=false:=by simp [q4]
 clear q4
 go_wp2_with fail
 refine HCK.out.mono ?_
 rintro e4 w4 ⟨rfl,hb4⟩
 have HW4:=hide (HW2.out.trans (hb4.mono HW2.out.size))
 clear hb4
 obtain ⟨f0,f1,f2,f3,f4,f5,f6⟩:=hcs.out _ HW4.out
 go_wp2
 go_loopw [41] (fun i wr=>∃ j:Nat,i=.int .i64 (j:Int)∧j≤tm∧Hid (Below (w.alloc (.cells #[.string nm,.slice rA rn rc,.slice oA on oc,.slice tA tm tc,.slice lA ln lc,.int .i64 ar,.slice bA bn bc] 28)).heap.size (w.alloc (.cells #[.string nm,.slice rA rn rc,.slice oA on oc,.slice tA tm tc,.slice lA ln lc,.int .i64 ar,.slice bA bn bc] 28)) wr)) (fun i _=>tm - (intOf i).toNat)
 case atStart=>exact ⟨0,rfl,Nat.zero_le _,hide HW4.out⟩
 case round=>
  obtain ⟨j,rfl,hj,HW⟩:=hrel
  obtain ⟨g0,g1,g2,g3,g4,g5,g6⟩:=hcs.out _ HW.out
  by_cases hlt:j < tm
  ·
   have hlt':(j:Int) < (tm:Int):=by omega
   obtain ⟨dd,hd⟩:∃ u,tyDep (tys tL) (j:Int)=u:=⟨_,rfl⟩
   have HDP:=hide (show Calls Tryz.prog 24 #[.slice tA tm tc,.int .i64 (j:Int)] wr (fun e w'=>e=.returned (.int .i64 dd)∧Below wr.heap.size wr w') from hd ▸ RDepth_in (c:=tc) ((HX.out.up HW.out).typs) (Nat.le_trans HSM.out (by decide)) HOK.out j hlt)
   clear hd
   by_cases q5:8 < dd
   case pos=>
    go_wp2_with fail
    refine HDP.out.mono ?_
    rintro e6 w6 ⟨rfl,hb6⟩
    have HW6:=hide (HW.out.trans (hb6.mono HW.out.size))
    clear hb6
    go_wp2
    go_ret
    exact ⟨.inl rfl,HB.out.trans (HW6.out.mono HB.out.size)⟩
   have q5n:dd≤8:=by omega
   go_wp2_with fail
   refine HDP.out.mono ?_
   rintro e6 w6 ⟨rfl,hb6⟩
   have HW6:=hide (HW.out.trans (hb6.mono HW.out.size))
   clear hb6
   go_wp2
   go_roundw
   case rel=>exact ⟨j+1,by go_num,by omega,hide HW6.out⟩
   case measure=>simp [intOf];omega
  ·
   obtain rfl:tm=j:=by omega
   go_wp2
   go_ret
   exact ⟨.inr ⟨rfl,(Nat.le_trans HSM.out (by decide)),HSZ.out,HBN.out⟩,HB.out.trans (HW.out.mono HB.out.size)⟩
theorem ret_n {a b:Int} (h:a=b):Ending.returned (.int .i64 b)=.returned (.int .i64 a):=by rw [h]
theorem TypOz1 {P:Prop} (h:P:=by
 go_enter Tryz.func75,Tryz.ntmps75
 go_wp2
 go_quiet (fail)
 go_wp2
 go_ret
 exact ⟨ret_n HF.out,HBN.out _⟩):P:=h
theorem checkFields_low (k:Int) (m:Bool) (r el:Int) (fs:List Int) (A:Option Addr) (n c:Nat) (er rg:Int) (w:World) (hx:OneT w w.heap.size ⟨⟨k,m,r,el,fs⟩,A,n,c⟩) (h0:k < 0) :
 Calls Tryz.prog 75 #[aggT ⟨⟨k,m,r,el,fs⟩,A,n,c⟩,.int .i64 er,.int .i64 rg] w fun e w'=>e=.returned (.int .i64 (tyOwn ⟨k,m,r,el,fs⟩ er rg))∧Below w.heap.size w w':=by
 have HB:=hide ((Below.refl w.heap.size w).alloc (Nat.le_refl _) (.cells #[.int .i64 k,.bool m,.int .i64 r,.int .i64 el,.slice A n c] 62))
 have HX0:=hide ((hx.below HB.out).more (B':=(w.alloc (.cells #[.int .i64 k,.bool m,.int .i64 r,.int .i64 el,.slice A n c] 62)).heap.size) (by simp))
 have HX:=hide fun nq=>(show OneT ((w.alloc (.cells #[.int .i64 k,.bool m,.int .i64 r,.int .i64 el,.slice A n c] 62)).drewN nq) ((w.alloc (.cells #[.int .i64 k,.bool m,.int .i64 r,.int .i64 el,.slice A n c] 62)).drewN nq).heap.size ⟨⟨k,m,r,el,fs⟩,A,n,c⟩ from HX0.out.below (tyN (Below.refl _ _) nq))
 have HBN:=hide fun nq=>tyN HB.out nq
 have hl:fs.length=n:=hx.ok.len
 have hn:n≤maxLen:=Nat.le_trans hx.ok.nc hx.ok.cm
 unfold maxLen at hn
 clear hx
 have HF:=hide (show tyOwn ⟨k,m,r,el,fs⟩ er rg=14 from if_pos (.inl h0))
 have e3:(k == 3)=false:=beq_eq_false_iff_ne.2 (by omega)
 have e4:(k == 4)=false:=beq_eq_false_iff_ne.2 (by omega)
 clear hl
 exact TypOz1
theorem checkFields_high (k:Int) (m:Bool) (r el:Int) (fs:List Int) (A:Option Addr) (n c:Nat) (er rg:Int) (w:World) (hx:OneT w w.heap.size ⟨⟨k,m,r,el,fs⟩,A,n,c⟩) (h0:4 < k) :
 Calls Tryz.prog 75 #[aggT ⟨⟨k,m,r,el,fs⟩,A,n,c⟩,.int .i64 er,.int .i64 rg] w fun e w'=>e=.returned (.int .i64 (tyOwn ⟨k,m,r,el,fs⟩ er rg))∧Below w.heap.size w w':=by
 have HB:=hide ((Below.refl w.heap.size w).alloc (Nat.le_refl _) (.cells #[.int .i64 k,.bool m,.int .i64 r,.int .i64 el,.slice A n c] 62))
 have HX0:=hide ((hx.below HB.out).more (B':=(w.alloc (.cells #[.int .i64 k,.bool m,.int .i64 r,.int .i64 el,.slice A n c] 62)).heap.size) (by simp))
 have HX:=hide fun nq=>(show OneT ((w.alloc (.cells #[.int .i64 k,.bool m,.int .i64 r,.int .i64 el,.slice A n c] 62)).drewN nq) ((w.alloc (.cells #[.int .i64 k,.bool m,.int .i64 r,.int .i64 el,.slice A n c] 62)).drewN nq).heap.size ⟨⟨k,m,r,el,fs⟩,A,n,c⟩ from HX0.out.below (tyN (Below.refl _ _) nq))
 have HBN:=hide fun nq=>tyN HB.out nq
 have hl:fs.length=n:=hx.ok.len
 have hn:n≤maxLen:=Nat.le_trans hx.ok.nc hx.ok.cm
 unfold maxLen at hn
 clear hx
 have HF:=hide (show tyOwn ⟨k,m,r,el,fs⟩ er rg=14 from if_pos (.inr h0))
 have e3:(k == 3)=false:=beq_eq_false_iff_ne.2 (by omega)
 have e4:(k == 4)=false:=beq_eq_false_iff_ne.2 (by omega)
 have e0:0≤k:=by omega
 clear hl
 exact TypOz1
theorem tyOwn_in {k:Int} {m:Bool} {r el:Int} {fs:List Int} {er rg:Int} (h0:0≤k) (h1:k≤4):tyOwn ⟨k,m,r,el,fs⟩ er rg=if (k≠3∧(m=true∨r≠0∨el≠0))∨(k≠4∧0 < fs.length) then 2 else if (k=3∧tyIn r rg=false)∨tyAllIn (tyParts ⟨k,m,r,el,fs⟩) er=false then 3 else if k=4∧(fs.length=0∨65535 < fs.length) then 15 else 0:=
 if_neg (show ¬(k < 0∨4 < k) by omega)
theorem checkFields_full (k:Int) (m:Bool) (r el:Int) (fs:List Int) (A:Option Addr) (n c:Nat) (er rg:Int) (w:World) (hx:OneT w w.heap.size ⟨⟨k,m,r,el,fs⟩,A,n,c⟩) (h00:0≤k) (h01:k≤4) (h4:k≠4) (hm:k≠3→m=false∧r=0∧el=0) (hf:0 < n) :
 Calls Tryz.prog 75 #[aggT ⟨⟨k,m,r,el,fs⟩,A,n,c⟩,.int .i64 er,.int .i64 rg] w fun e w'=>e=.returned (.int .i64 (tyOwn ⟨k,m,r,el,fs⟩ er rg))∧Below w.heap.size w w':=by
 have HB:=hide ((Below.refl w.heap.size w).alloc (Nat.le_refl _) (.cells #[.int .i64 k,.bool m,.int .i64 r,.int .i64 el,.slice A n c] 62))
 have HX0:=hide ((hx.below HB.out).more (B':=(w.alloc (.cells #[.int .i64 k,.bool m,.int .i64 r,.int .i64 el,.slice A n c] 62)).heap.size) (by simp))
 have HX:=hide fun nq=>(show OneT ((w.alloc (.cells #[.int .i64 k,.bool m,.int .i64 r,.int .i64 el,.slice A n c] 62)).drewN nq) ((w.alloc (.cells #[.int .i64 k,.bool m,.int .i64 r,.int .i64 el,.slice A n c] 62)).drewN nq).heap.size ⟨⟨k,m,r,el,fs⟩,A,n,c⟩ from HX0.out.below (tyN (Below.refl _ _) nq))
 have HBN:=hide fun nq=>tyN HB.out nq
 have hl:fs.length=n:=hx.ok.len
 have hn:n≤maxLen:=Nat.le_trans hx.ok.nc hx.ok.cm
 unfold maxLen at hn
 clear hx
 have HF:=hide (show tyOwn ⟨k,m,r,el,fs⟩ er rg=2 from (tyOwn_in h00 h01).trans (if_pos (.inr ⟨h4,by omega⟩)))
 have e4:(k == 4)=false:=beq_eq_false_iff_ne.2 h4
 have hf1:(0:Int) < (n:Int):=by omega
 by_cases h3:k=3
 ·
  clear hl hm h4 hf
  have e3:(k == 3)=true:=beq_iff_eq.2 h3
  clear h3
  exact TypOz1
 ·
  have e3:(k == 3)=false:=beq_eq_false_iff_ne.2 h3
  obtain ⟨rfl,rfl,rfl⟩:=hm h3
  clear hl hm h3 h4 hf
  exact TypOz1
theorem TypOz2 {P:Prop} (h:P:=by
 refine (parts_any _ _ (HX.out _)).mono ?_
 rintro e w1 ⟨A1,n1,c1,rfl,h1,h2,h3,h4,h5⟩
 clear h3
 have HB1:=hide ((HBN.out _).trans (h5.mono (HBN.out _).size))
 clear h5
 have HC:=hide (areWithin_is (c:=c1) HA.out h4 (Nat.le_trans h1 h2))
 clear h1 h2 h4
 go_wp2_with fail
 refine HC.out.mono ?_
 rintro e w2 ⟨rfl,rfl⟩
 go_wp2
 go_ret
 exact ⟨ret_n HF.out,HB1.out⟩):P:=h
theorem TypOz3 {P:Prop} (h:P:=by
 have HA:=hide ha
 clear ha
 go_enter Tryz.func75,Tryz.ntmps75
 go_wp2
 go_quiet (fail)
 go_wp2_with fail
 refine (within_is HW.out _).mono ?_
 rintro e w1 ⟨rfl,rfl⟩
 go_wp2_with fail
 exact TypOz2):P:=h
theorem checkFields_ref (k:Int) (m:Bool) (r el:Int) (fs:List Int) (A:Option Addr) (n c:Nat) (er rg:Int) (w:World) (hx:OneT w w.heap.size ⟨⟨k,m,r,el,fs⟩,A,n,c⟩) (h3:k=3) (hf:n=0) :
 Calls Tryz.prog 75 #[aggT ⟨⟨k,m,r,el,fs⟩,A,n,c⟩,.int .i64 er,.int .i64 rg] w fun e w'=>e=.returned (.int .i64 (tyOwn ⟨k,m,r,el,fs⟩ er rg))∧Below w.heap.size w w':=by
 have HB:=hide ((Below.refl w.heap.size w).alloc (Nat.le_refl _) (.cells #[.int .i64 k,.bool m,.int .i64 r,.int .i64 el,.slice A n c] 62))
 have HX0:=hide ((hx.below HB.out).more (B':=(w.alloc (.cells #[.int .i64 k,.bool m,.int .i64 r,.int .i64 el,.slice A n c] 62)).heap.size) (by simp))
 have HX:=hide fun nq=>(show OneT ((w.alloc (.cells #[.int .i64 k,.bool m,.int .i64 r,.int .i64 el,.slice A n c] 62)).drewN nq) ((w.alloc (.cells #[.int .i64 k,.bool m,.int .i64 r,.int .i64 el,.slice A n c] 62)).drewN nq).heap.size ⟨⟨k,m,r,el,fs⟩,A,n,c⟩ from HX0.out.below (tyN (Below.refl _ _) nq))
 have HBN:=hide fun nq=>tyN HB.out nq
 have hl:fs.length=n:=hx.ok.len
 have hn:n≤maxLen:=Nat.le_trans hx.ok.nc hx.ok.cm
 unfold maxLen at hn
 clear hx
 subst hf
 have hfs:fs=[]:=List.eq_nil_of_length_eq_zero hl
 have e3:(k == 3)=true:=beq_iff_eq.2 h3
 have e4:(k == 4)=false:=beq_eq_false_iff_ne.2 (by omega)
 have HO:Hid (tyOwn ⟨k,m,r,el,fs⟩ er rg=if (k=3∧tyIn r rg=false)∨tyAllIn (tyParts ⟨k,m,r,el,fs⟩) er=false then 3 else 0):=by
  show _=_
  rw [tyOwn_in (by omega) (by omega),if_neg (by rw [hfs];simp [h3]),if_neg (show ¬(k=4∧(fs.length=0∨65535 < fs.length)) by omega)]
 have h00:0≤k:=by omega
 have h01:k≤4:=by omega
 cases hw:tyIn r rg
 ·
  clear hl hfs
  have HF:=hide (HO.out.trans (if_pos (.inl ⟨h3,hw⟩)))
  clear h3
  have HW:=hide hw
  clear hw
  go_enter Tryz.func75,Tryz.ntmps75
  go_wp2
  go_quiet (fail)
  go_wp2_with (go_at_call 97;refine (within_is HW.out _).mono ?_;rintro e w1 ⟨rfl,rfl⟩)
  go_ret
  exact ⟨ret_n HF.out,HBN.out _⟩
 ·
  have HW:=hide hw
  cases ha:tyAllIn (tyParts ⟨k,m,r,el,fs⟩) er
  ·
   clear hl hfs h3 hw
   have HF:=hide (HO.out.trans (if_pos (.inr ha)))
   exact TypOz3
  ·
   have HF:=hide (HO.out.trans (if_neg (by simp [ha,hw])))
   clear hl hfs h3 hw
   exact TypOz3
theorem checkFields_bad (k:Int) (m:Bool) (r el:Int) (fs:List Int) (A:Option Addr) (n c:Nat) (er rg:Int) (w:World) (hx:OneT w w.heap.size ⟨⟨k,m,r,el,fs⟩,A,n,c⟩) (h00:0≤k) (h01:k≤4) (h3:k≠3) (hbad:m=true∨r≠0∨el≠0) :
 Calls Tryz.prog 75 #[aggT ⟨⟨k,m,r,el,fs⟩,A,n,c⟩,.int .i64 er,.int .i64 rg] w fun e w'=>e=.returned (.int .i64 (tyOwn ⟨k,m,r,el,fs⟩ er rg))∧Below w.heap.size w w':=by
 have HB:=hide ((Below.refl w.heap.size w).alloc (Nat.le_refl _) (.cells #[.int .i64 k,.bool m,.int .i64 r,.int .i64 el,.slice A n c] 62))
 have HX0:=hide ((hx.below HB.out).more (B':=(w.alloc (.cells #[.int .i64 k,.bool m,.int .i64 r,.int .i64 el,.slice A n c] 62)).heap.size) (by simp))
 have HX:=hide fun nq=>(show OneT ((w.alloc (.cells #[.int .i64 k,.bool m,.int .i64 r,.int .i64 el,.slice A n c] 62)).drewN nq) ((w.alloc (.cells #[.int .i64 k,.bool m,.int .i64 r,.int .i64 el,.slice A n c] 62)).drewN nq).heap.size ⟨⟨k,m,r,el,fs⟩,A,n,c⟩ from HX0.out.below (tyN (Below.refl _ _) nq))
 have HBN:=hide fun nq=>tyN HB.out nq
 have hl:fs.length=n:=hx.ok.len
 have hn:n≤maxLen:=Nat.le_trans hx.ok.nc hx.ok.cm
 unfold maxLen at hn
 clear hx
 have HF:=hide (show tyOwn ⟨k,m,r,el,fs⟩ er rg=2 from (tyOwn_in h00 h01).trans (if_pos (.inl ⟨h3,hbad⟩)))
 have e3:(k == 3)=false:=beq_eq_false_iff_ne.2 h3
 have hex:∃ b,(k == 4)=b:=⟨_,rfl⟩
 obtain ⟨b4,e4⟩:=hex
 clear hl h3
 cases m
 rotate_left
 ·
  clear hbad
  exact TypOz1
 by_cases hr:r=0
 rotate_left
 ·
  clear hbad
  have er0:(r != 0)=true:=by rw [bne_iff_ne];exact hr
  clear hr
  exact TypOz1
 have hel:el≠0:=by
  rcases hbad with h | h | h
  ·
   cases h
  ·
   exact absurd hr h
  ·
   exact h
 have el0:(el != 0)=true:=by rw [bne_iff_ne];exact hel
 subst hr
 clear hbad hel
 exact TypOz1
theorem TypOz0 {P:Prop} (h:P:=by
 go_enter Tryz.func75,Tryz.ntmps75
 go_wp2
 go_quiet (fail)
 go_wp2_with fail
 refine (parts_any _ _ (HX.out _)).mono ?_
 rintro e w1 ⟨A1,n1,c1,rfl,h1,h2,h3,h4,h5⟩
 have HB1:=hide ((HBN.out _).trans (h5.mono (HBN.out _).size))
 have HC:=hide (areWithin_is (c:=c1) HA.out h4 (Nat.le_trans h1 h2))
 have f4:w1.cell? ⟨w.heap.size,4,none⟩=some (.slice A n c):=(h5.cell (p:=⟨w.heap.size,4,none⟩) (by simp [go_sem])).trans (by simp [go_sem])
 clear h1 h2 h3 h4 h5
 go_wp2_with fail
 refine HC.out.mono ?_
 rintro e w2 ⟨rfl,rfl⟩
 go_wp2
 go_ret
 exact ⟨ret_n HF.out,HB1.out⟩):P:=h
theorem checkFields_tup (k:Int) (m:Bool) (r el:Int) (fs:List Int) (A:Option Addr) (n c:Nat) (er rg:Int) (w:World) (hx:OneT w w.heap.size ⟨⟨k,m,r,el,fs⟩,A,n,c⟩) (h4:k=4) (hm:m=false) (hr:r=0) (he:el=0) :
 Calls Tryz.prog 75 #[aggT ⟨⟨k,m,r,el,fs⟩,A,n,c⟩,.int .i64 er,.int .i64 rg] w fun e w'=>e=.returned (.int .i64 (tyOwn ⟨k,m,r,el,fs⟩ er rg))∧Below w.heap.size w w':=by
 have HB:=hide ((Below.refl w.heap.size w).alloc (Nat.le_refl _) (.cells #[.int .i64 k,.bool m,.int .i64 r,.int .i64 el,.slice A n c] 62))
 have HX0:=hide ((hx.below HB.out).more (B':=(w.alloc (.cells #[.int .i64 k,.bool m,.int .i64 r,.int .i64 el,.slice A n c] 62)).heap.size) (by simp))
 have HX:=hide fun nq=>(show OneT ((w.alloc (.cells #[.int .i64 k,.bool m,.int .i64 r,.int .i64 el,.slice A n c] 62)).drewN nq) ((w.alloc (.cells #[.int .i64 k,.bool m,.int .i64 r,.int .i64 el,.slice A n c] 62)).drewN nq).heap.size ⟨⟨k,m,r,el,fs⟩,A,n,c⟩ from HX0.out.below (tyN (Below.refl _ _) nq))
 have HBN:=hide fun nq=>tyN HB.out nq
 have hl:fs.length=n:=hx.ok.len
 have hn:n≤maxLen:=Nat.le_trans hx.ok.nc hx.ok.cm
 unfold maxLen at hn
 clear hx
 subst hm hr he
 have e3:(k == 3)=false:=beq_eq_false_iff_ne.2 (by omega)
 have e4:(k == 4)=true:=beq_iff_eq.2 h4
 have HO:Hid (tyOwn ⟨k,false,0,0,fs⟩ er rg=if tyAllIn (tyParts ⟨k,false,0,0,fs⟩) er=false then 3 else if n=0∨65535 < n then 15 else 0):=by
  show _=_
  rw [tyOwn_in (by omega) (by omega),if_neg (by simp [h4]),hl]
  simp [h4]
 have h00:0≤k:=by omega
 have h01:k≤4:=by omega
 cases ha:tyAllIn (tyParts ⟨k,false,0,0,fs⟩) er
 ·
  clear hl h4
  have HF:=hide (HO.out.trans (if_pos ha))
  have HA:=hide ha
  clear ha
  exact TypOz0
 ·
  have HO3:=hide (HO.out.trans (if_neg (by simp [ha])))
  have HA:=hide ha
  by_cases hf:n=0
  ·
   have HF:=hide (HO3.out.trans (if_pos (.inl hf)))
   have e5:((n:Int) == 0)=true:=beq_iff_eq.2 (by omega)
   clear hl h4 ha hf
   exact TypOz0
  ·
   have e5:((n:Int) == 0)=false:=beq_eq_false_iff_ne.2 (by omega)
   by_cases hg:65535 < n
   ·
    have HF:=hide (HO3.out.trans (if_pos (.inr hg)))
    have hg1:(65535:Int) < (n:Int):=by omega
    clear hl h4 ha hf hg
    exact TypOz0
   ·
    have HF:=hide (HO3.out.trans (if_neg (by omega)))
    have hg1:¬(65535:Int) < (n:Int):=by omega
    clear hl h4 ha hf hg
    exact TypOz0
theorem checkFields_plain (k:Int) (m:Bool) (r el:Int) (fs:List Int) (A:Option Addr) (n c:Nat) (er rg:Int) (w:World) (hx:OneT w w.heap.size ⟨⟨k,m,r,el,fs⟩,A,n,c⟩) (h00:0≤k) (h01:k≤4) (h3:k≠3) (h4:k≠4) (hm:m=false) (hr:r=0) (he:el=0) (hf:n=0) :
 Calls Tryz.prog 75 #[aggT ⟨⟨k,m,r,el,fs⟩,A,n,c⟩,.int .i64 er,.int .i64 rg] w fun e w'=>e=.returned (.int .i64 (tyOwn ⟨k,m,r,el,fs⟩ er rg))∧Below w.heap.size w w':=by
 have HB:=hide ((Below.refl w.heap.size w).alloc (Nat.le_refl _) (.cells #[.int .i64 k,.bool m,.int .i64 r,.int .i64 el,.slice A n c] 62))
 have HX0:=hide ((hx.below HB.out).more (B':=(w.alloc (.cells #[.int .i64 k,.bool m,.int .i64 r,.int .i64 el,.slice A n c] 62)).heap.size) (by simp))
 have HX:=hide fun nq=>(show OneT ((w.alloc (.cells #[.int .i64 k,.bool m,.int .i64 r,.int .i64 el,.slice A n c] 62)).drewN nq) ((w.alloc (.cells #[.int .i64 k,.bool m,.int .i64 r,.int .i64 el,.slice A n c] 62)).drewN nq).heap.size ⟨⟨k,m,r,el,fs⟩,A,n,c⟩ from HX0.out.below (tyN (Below.refl _ _) nq))
 have HBN:=hide fun nq=>tyN HB.out nq
 have hl:fs.length=n:=hx.ok.len
 have hn:n≤maxLen:=Nat.le_trans hx.ok.nc hx.ok.cm
 unfold maxLen at hn
 clear hx
 subst hm hr he hf
 have hfs:fs=[]:=List.eq_nil_of_length_eq_zero hl
 have e3:(k == 3)=false:=beq_eq_false_iff_ne.2 h3
 have e4:(k == 4)=false:=beq_eq_false_iff_ne.2 h4
 have ha:tyAllIn (tyParts ⟨k,false,0,0,fs⟩) er=true:=by rw [tyParts_none h3 h4];rfl
 have HF:Hid (tyOwn ⟨k,false,0,0,fs⟩ er rg=0):=by
  show _=_
  rw [tyOwn_in h00 h01,hfs]
  rw [hfs] at ha
  simp [h3,h4,ha]
 clear hl hfs h3 h4
 have HA:=hide ha
 clear ha
 go_enter Tryz.func75,Tryz.ntmps75
 go_wp2
 go_quiet (fail)
 go_wp2_with fail
 exact TypOz2
theorem checkFields_any (x:TyW) (er rg:Int) (w:World) (hx:OneT w w.heap.size x) :
 Calls Tryz.prog 75 #[aggT x,.int .i64 er,.int .i64 rg] w fun e w'=>e=.returned (.int .i64 (tyOwn x.t er rg))∧Below w.heap.size w w':=by
 obtain ⟨⟨k,m,r,el,fs⟩,A,n,c⟩:=x
 by_cases h0:k < 0
 ·
  exact checkFields_low k m r el fs A n c er rg w hx h0
 by_cases h1:4 < k
 ·
  exact checkFields_high k m r el fs A n c er rg w hx h1
 by_cases h3:k=3
 ·
  by_cases hf:n=0
  ·
   exact checkFields_ref k m r el fs A n c er rg w hx h3 hf
  ·
   exact checkFields_full k m r el fs A n c er rg w hx (by omega) (by omega) (by omega) (fun h=>absurd h3 h) (by omega)
 by_cases hbad:m=true∨r≠0∨el≠0
 ·
  exact checkFields_bad k m r el fs A n c er rg w hx (by omega) (by omega) h3 hbad
 have hm:m=false:=by
  cases hm:m
  ·
   rfl
  ·
   exact absurd (.inl hm) hbad
 have hr:r=0:=Classical.byContradiction fun h=>hbad (.inr (.inl h))
 have he:el=0:=Classical.byContradiction fun h=>hbad (.inr (.inr h))
 by_cases h4:k=4
 ·
  exact checkFields_tup k m r el fs A n c er rg w hx h4 hm hr he
 ·
  by_cases hf:n=0
  ·
   exact checkFields_plain k m r el fs A n c er rg w hx (by omega) (by omega) h3 h4 hm hr he hf
  ·
   exact checkFields_full k m r el fs A n c er rg w hx (by omega) (by omega) h4 (fun _=>⟨hm,hr,he⟩) (by omega)
theorem infoU8:(Tryz.prog.info? 5).map (fun i=>(i.zero,i.size,i.bytes))=some (some (.int .u8 0),1,1):=by kernel_rfl
theorem Rd_lit (w:World) (xs:List Int) (t:TypeId):Rd (w.alloc (.cells (u8s xs).toArray t)) (w.heap.size+1) (some ⟨w.heap.size,0,none⟩) xs.length (u8s xs):=
 ⟨by simp,fun _=>⟨w.heap.size,0,rfl,by omega,fun j u hu=>by
  rw [cell_of_row (w.alloc (.cells (u8s xs).toArray t)) w.heap.size (0+j) (u8s xs).toArray t (0,0) (heap_alloc_new w _)]
  simpa using hu⟩⟩
def kb (fs:List Int):List Int:=fs.flatMap fun f=>[f % 256,f / 256 % 256]
theorem kb_len (fs:List Int):(kb fs).length=2*fs.length:=by
 induction fs with
 | nil=>rfl
 | cons f fs ih=>unfold kb at ih ⊢;rw [List.flatMap_cons,List.length_append,ih];simp;omega
theorem kb_byt (fs:List Int):Byt (kb fs):=by
 intro y hy
 obtain ⟨f,_,h⟩:=List.mem_flatMap.1 hy
 simp only [List.mem_cons,List.not_mem_nil,or_false] at h
 rcases h with rfl | rfl <;> omega
theorem kb_inj:∀ {fs gs:List Int},(∀ f∈fs,0≤f∧f < 65536)→(∀ f∈gs,0≤f∧f < 65536)→kb fs=kb gs→fs=gs
 | [],[],_,_,_=>rfl
 | [],g :: gs,_,_,h=>by simp [kb] at h
 | f :: fs,[],_,_,h=>by simp [kb] at h
 | f :: fs,g :: gs,hf,hg,h=>by
  have e:∀ x (xs:List Int),kb (x :: xs)=x % 256 :: x / 256 % 256 :: kb xs:=fun _ _=>rfl
  rw [e,e] at h
  injection h with h1 h2
  injection h2 with h2 h3
  have a:=hf f (by simp)
  have b:=hg g (by simp)
  rw [kb_inj (fun x hx=>hf x (by simp [hx])) (fun x hx=>hg x (by simp [hx])) h3,show f=g by omega]
theorem kb_up {fs:List Int} {j:Nat} {a:Int} (h:fs[j]?=some a):kb (fs.take (j+1))=kb (fs.take j)++[a % 256,a / 256 % 256]:=by
 rw [List.take_add_one,h];simp [kb]
abbrev keyV (t:Ty):Value:=.agg #[.int .i64 t.kind,.int .i64 t.region,.int .i64 t.elem,.bool t.mut_,.string (strOfNums (kb t.fields))]
def keyL (t:Ty):Lit:=.string (keyBytes [.int .i64 t.kind,.int .i64 t.region,.int .i64 t.elem,.bool t.mut_,.string (strOfNums (kb t.fields)).data.toList])
theorem ownsRow_shape {w:World} {base:Nat} {e:TypeId} {size n:Nat} {v:Value} {xs:List Value} (h:w.ownsRow base e size v n xs):∃ A c,v=.slice A n c∧n≤c∧c≤maxLen:=by
 rcases h.2 with ⟨rfl,h0⟩ | ⟨g,cap,cur,rfl,_,_,h1,h2,_⟩
 ·
  exact ⟨none,0,by rw [h0],by omega,Nat.zero_le _⟩
 ·
  exact ⟨_,_,rfl,h1,h2⟩
theorem keyOf_any (x:TyW) (w:World) (hx:OneT w w.heap.size x) (hf:∀ f∈x.t.fields,0≤f∧f < 65536) (hn:x.n≤65535) :
  Calls Tryz.prog 78 #[aggT x] w fun e w'=>e=.returned (keyV x.t)∧Below w.heap.size w w':=by
 obtain ⟨i0,hi,hz0,hz1,hz2⟩:=info_parts infoU8
 have hok:=hx.ok
 obtain ⟨⟨k,m,r,el,fs⟩,A,n,c⟩:=x
 have HB:=hide (two_alloc w (.cells #[.int .i64 k,.bool m,.int .i64 r,.int .i64 el,.slice A n c] 62) (.cells #[.int .i64 0,.int .i64 0,.int .i64 0,.bool false,.string .empty] 118))
 have HX:=hide (hx.rd.below HB.out)
 have hl:fs.length=n:=hok.len
 have HL:=hide hl
 have HF:=hide hf
 simp only [] at hn
 clear hx hok hl hf
 go_enter Tryz.func78,Tryz.ntmps78
 go_wp2_with (at_make;refine wpList_make_own _ rfl _ _ _ rfl (w.heap.size+2) 5 i0 _ 1 Tryz.underlying135 hi hz0 hz1 .i64 .i64 _ (2*n) rfl rfl (by simp) (by rw [hz2];omega) (by unfold maxLen;omega) (by simp) ?_;intro w1 hown1 hg1;have HB1:=hide ((Below.refl (w.heap.size+2) ((w.alloc (.cells #[.int .i64 k,.bool m,.int .i64 r,.int .i64 el,.slice A n c] 62)).alloc (.cells #[.int .i64 0,.int .i64 0,.int .i64 0,.bool false,.string .empty] 118))).grown hg1 (by simp) (fun _ h=>by cases h));have HO1:Hid (w1.ownsRow (w.heap.size+2) 5 1 (.slice (some ⟨w.heap.size+1+1,0,none⟩) 0 (2*n)) 0 []):=(by have h:=hown1;simp only [World.size_alloc] at h;exact h);have d4:w1.cell? ⟨w.heap.size,4,none⟩=some (.slice A n c):=(HB1.out.cell (p:=⟨w.heap.size,4,none⟩) (by simp)).trans (by simp [go_sem]);clear hown1 hg1)
 go_loopw [3,14] (fun v i wr=>∃ j:Nat,i=.int .i64 (j:Int)∧j≤n∧wr.ownsRow (w.heap.size+2) 5 1 v (2*j) (u8s (kb (fs.take j)))∧Below (w.heap.size+2) ((w.alloc (.cells #[.int .i64 k,.bool m,.int .i64 r,.int .i64 el,.slice A n c] 62)).alloc (.cells #[.int .i64 0,.int .i64 0,.int .i64 0,.bool false,.string .empty] 118)) wr) (fun _ i _=>n - (intOf i).toNat)
 case atStart=>exact ⟨0,rfl,Nat.zero_le _,HO1.out,HB1.out⟩
 case round=>
  obtain ⟨j,rfl,hj,hown,hb⟩:=hrel
  have HO:=hide hown
  have HB2:=hide hb
  have hsz:=hb.size
  simp only [World.size_alloc] at hsz
  have hlt0:w.heap.size < wr.heap.size:=by omega
  have hlt1:w.heap.size+1 < wr.heap.size:=by omega
  have e0:wr.cell? ⟨w.heap.size,0,none⟩=some (.int .i64 k):=(hb.cell (p:=⟨w.heap.size,0,none⟩) (by simp)).trans (by simp [go_sem])
  have e1:wr.cell? ⟨w.heap.size,1,none⟩=some (.bool m):=(hb.cell (p:=⟨w.heap.size,1,none⟩) (by simp)).trans (by simp [go_sem])
  have e2:wr.cell? ⟨w.heap.size,2,none⟩=some (.int .i64 r):=(hb.cell (p:=⟨w.heap.size,2,none⟩) (by simp)).trans (by simp [go_sem])
  have e3:wr.cell? ⟨w.heap.size,3,none⟩=some (.int .i64 el):=(hb.cell (p:=⟨w.heap.size,3,none⟩) (by simp)).trans (by simp [go_sem])
  clear hb
  by_cases hlt:j < n
  ·
   have hex:∃ a,fs[j]?=some a:=⟨_,List.getElem?_eq_getElem (by have:=HL.out;omega)⟩
   obtain ⟨a,ha⟩:=hex
   obtain ⟨g,o,rfl,hg,c0⟩:=(HX.out.keep (w':=wr) fun p hp=>HB2.out.cell (by omega)).int ha
   have hlt':(j:Int) < (n:Int):=by omega
   have hab:=HF.out a (List.mem_of_getElem? ha)
   obtain ⟨ha0,ha1⟩:=hab
   have hU:=kb_up ha
   rw [show a / 256 % 256=a / 256 by omega] at hU
   have HU:=hide hU
   clear ha hU
   go_wp2_with (at_builtin;refine wpList_append_rd _ rfl (.tmp 18) (.tmp 24) 135 rfl (w.heap.size+2) 5 i0 (.int .u8 0) 1 Tryz.underlying135 hi hz0 hz1 hz2 rfl _ (2*j) (u8s (kb (fs.take j))) rfl (HO.out.alloc _) (wr.heap.size+1) _ 2 2 (u8s [a % 256,a / 256]) rfl (Rd_lit wr [a % 256,a / 256] 5) (ints_oneCell _ _) (by unfold maxLen;omega) (by omega) (by simp;omega) ?_;intro v3 w3 hown3 hg3 hat3;have HB3:=hide (below_app (HB2.out.alloc (by omega) _) (HO.out.alloc _) (by simp;omega) hg3);have HO3:=hide hown3;clear hg3 hat3 hown3)
   go_roundw
   case rel=>
    refine ⟨j+1,by go_num,by omega,?_,HB3.out⟩
    have h:=HO3.out
    rw [←List.map_append,← HU.out] at h
    exact h
   case measure=>simp [intOf];omega
  ·
   obtain rfl:j=n:=by omega
   obtain ⟨A2,c2,rfl,hnc,hcm⟩:=ownsRow_shape HO.out
   have hex:∃ xs,xs=kb fs:=⟨_,rfl⟩
   obtain ⟨xs,hxs⟩:=hex
   have hr:=Rd.of_own HO.out
   rw [List.take_of_length_le (by have:=HL.out;omega),← hxs] at hr
   have hcv:=hr.convert (c:=c2) 135 5 9 Tryz.underlying135 Tryz.underlying5 Tryz.underlying9
   have HXS:=hide hxs
   have q0:wr.cell? ⟨w.heap.size+1,0,none⟩=some (.int .i64 0):=(HB2.out.cell (p:=⟨w.heap.size+1,0,none⟩) (by simp)).trans (by simp [go_sem])
   have q1:wr.cell? ⟨w.heap.size+1,1,none⟩=some (.int .i64 0):=(HB2.out.cell (p:=⟨w.heap.size+1,1,none⟩) (by simp)).trans (by simp [go_sem])
   have q2:wr.cell? ⟨w.heap.size+1,2,none⟩=some (.int .i64 0):=(HB2.out.cell (p:=⟨w.heap.size+1,2,none⟩) (by simp)).trans (by simp [go_sem])
   have q3:wr.cell? ⟨w.heap.size+1,3,none⟩=some (.bool false):=(HB2.out.cell (p:=⟨w.heap.size+1,3,none⟩) (by simp)).trans (by simp [go_sem])
   have q4:wr.cell? ⟨w.heap.size+1,4,none⟩=some (.string .empty):=(HB2.out.cell (p:=⟨w.heap.size+1,4,none⟩) (by simp)).trans (by simp [go_sem])
   have fz:∀ j,wr.frozen? ⟨w.heap.size+1,j,none⟩=false:=fun j=>(HB2.out.frozen (p:=⟨w.heap.size+1,j,none⟩) (by simp)).trans (by simp [go_sem])
   clear hxs hr hnc hcm
   go_wp2
   have hb5:=(((((HB.out.trans (HB2.out.mono (Nat.le_add_right _ _))).setCell (p:=⟨w.heap.size+1,0,none⟩) (Nat.le_succ _) (.int .i64 k)).setCell (p:=⟨w.heap.size+1,1,none⟩) (Nat.le_succ _) (.int .i64 r)).setCell (p:=⟨w.heap.size+1,2,none⟩) (Nat.le_succ _) (.int .i64 el)).setCell (p:=⟨w.heap.size+1,3,none⟩) (Nat.le_succ _) (.bool m)).setCell (p:=⟨w.heap.size+1,4,none⟩) (Nat.le_succ _) (.string (strOfNums xs))
   have hx:xs=kb fs:=HXS.out
   subst hx
   exact bodyPost_ret (v:=keyV ⟨k,m,r,el,fs⟩) (by simp [results,Tryz.results78,go_sem,q0,q1,q2,q3,q4]) rfl ⟨rfl,hb5⟩
theorem keyTypeK:Tryz.prog.keyType 118=true:=by kernel_rfl
theorem seen_law:Go.Maps.Keyed Tryz.prog 118:=Go.Maps.Keyed.of_law (deep_law_gate (by kernel_rfl) (of_decide_eq_true (by kernel_rfl)) (of_decide_eq_true (by kernel_rfl)) keyTypeK (by rw [Tryz.underlying118]))
theorem strOfNums_size (xs:List Int):(strOfNums xs).size=xs.length:=by simp [strOfNums,ByteArray.size]
section
variable {P:Program} {d:Nat} {t:TypeId}
theorem keyLits_int {q:IntKind} (hu:P.underlying t=some (.int q)) {n:Int} (hw:(Lit.int q n).wf=true):P.keyLits (d+1) t [.int q n]=some [.int q n]:=by
 simp [Program.keyLits,hu,hw]
theorem keyLits_bool (hu:P.underlying t=some .bool) (b:Bool):P.keyLits (d+1) t [.bool b]=some [.bool b]:=by
 simp [Program.keyLits,hu]
theorem keyLits_str (hu:P.underlying t=some .string) {s:ByteArray} (hs:s.size≤maxLen):P.keyLits (d+1) t [.string s]=some [.string s.data.toList]:=by
 simp [Program.keyLits,hu,hs]
theorem keyOf_struct {k:TypeId} {fs:Array Field} {cs:List Value} {ls:List Lit} (hu:P.underlying k=some (.struct fs)) (hk:P.keyType k=true) (hsz:cs.length=P.cellsOf k) (hl:P.keyLits (P.types.size+1) k cs=some ls):keyOf P k (.agg cs.toArray)=some (.string (keyBytes ls)):=by
 simp [keyOf,hu,hk,Value.formed,hsz,Value.cells,hl]
theorem keyLits_struct {fs:Array Field} {cs:List Value} (hu:P.underlying t=some (.struct fs)) (hsz:cs.length=P.cellsOf t) (hn:fs.all (·.name != "_")=true):P.keyLits (d+1) t cs=(fs.toList.mapM fun f=>P.keyLits d f.type ((cs.drop f.offset).take (P.cellsOf f.type))).map List.flatten:=by
 conv=>lhs;unfold Program.keyLits
 simp only [hu]
 rw [if_pos ⟨hsz,hn⟩]
end
theorem keyOf_key {t:Ty} (hk:IntR t.kind) (hr:IntR t.region) (he:IntR t.elem) (hf:t.fields.length≤65535):keyOf Tryz.prog 118 (keyV t)=some (keyL t):=by
 have hs:(strOfNums (kb t.fields)).size≤maxLen:=by rw [strOfNums_size,kb_len];unfold maxLen;omega
 have c1:Tryz.prog.cellsOf 3=1:=by kernel_rfl
 have c2:Tryz.prog.cellsOf 4=1:=by kernel_rfl
 have c3:Tryz.prog.cellsOf 9=1:=by kernel_rfl
 have c4:Tryz.prog.cellsOf 118=5:=by kernel_rfl
 have hp:∃ d,Tryz.prog.types.size=d+1:=⟨Tryz.prog.types.size - 1,by have h:0 < Tryz.prog.types.size:=of_decide_eq_true (by kernel_rfl);omega⟩
 obtain ⟨d,hd⟩:=hp
 refine keyOf_struct Tryz.underlying118 keyTypeK (by rw [c4];rfl) ?_
 rw [keyLits_struct Tryz.underlying118 (by rw [c4];rfl) (by kernel_rfl),hd]
 simp only [List.mapM_cons,List.mapM_nil,c1,c2,c3]
 simp [keyLits_int Tryz.underlying3 (wf_i64 hk),keyLits_int Tryz.underlying3 (wf_i64 hr),keyLits_int Tryz.underlying3 (wf_i64 he),keyLits_bool Tryz.underlying4,keyLits_str Tryz.underlying9 hs]
theorem keyL_inj {t u:Ty} (hk:IntR t.kind) (hr:IntR t.region) (he:IntR t.elem) (hf:t.fields.length≤65535) (hk':IntR u.kind) (hr':IntR u.region) (he':IntR u.elem) (hf':u.fields.length≤65535)
  (ht:∀ f∈t.fields,0≤f∧f < 65536) (hu:∀ f∈u.fields,0≤f∧f < 65536) (h:keyL t=keyL u):t=u:=by
 have h1:=keyOf_key hk hr he hf
 rw [h] at h1
 have h2:=seen_law.inj h1 (keyOf_key hk' hr' he' hf')
 injection h2 with h2
 have h3:=congrArg Array.toList h2
 simp only [List.cons.injEq,and_true,Value.int.injEq,Value.bool.injEq,Value.string.injEq,true_and] at h3
 obtain ⟨a,b,c,d,e⟩:=h3
 exact Ty.ext' a d b c (kb_inj ht hu (strOfNums_inj (kb_byt _) (kb_byt _) e))
theorem keyL_key {t:Ty}:Go.WideAt.IsKeyLit (keyL t):=trivial
structure TyB (t:Ty):Prop where
 k:IntR t.kind
 r:IntR t.region
 e:IntR t.elem
 n:t.fields.length≤65535
 f:∀ f∈t.fields,0≤f∧f < 65536
theorem TyB.inj {t u:Ty} (h:TyB t) (h':TyB u) (e:keyL t=keyL u):t=u:=keyL_inj h.k h.r h.e h.n h'.k h'.r h'.e h'.n h.f h'.f e
theorem TyB.key {t:Ty} (h:TyB t):keyOf Tryz.prog 118 (keyV t)=some (keyL t):=keyOf_key h.k h.r h.e h.n
structure ChkD (b n:Nat) (pre:List Ty) (w:World):Prop where
 dep:∀ j v,(tyDeps pre)[j]?=some v→w.cell? ⟨b,j,none⟩=some (.int .i64 v)
 rest:∀ j,pre.length≤j→j < n→∃ v,w.cell? ⟨b,j,none⟩=some (.int .i64 v)
 fz:∀ j,w.frozen? ⟨b,j,none⟩=false
theorem ChkD.block {b n:Nat} {pre:List Ty} {w w':World} (h:ChkD b n pre w) (hb:w'.heap[b]?=w.heap[b]?):ChkD b n pre w':=
 ⟨fun j v hv=>(World.cell?_of_block (w:=w) hb).trans (h.dep j v hv),fun j h1 h2=>by obtain ⟨v,hv⟩:=h.rest j h1 h2;exact ⟨v,(World.cell?_of_block (w:=w) hb).trans hv⟩,fun j=>(World.frozen?_of_block (w:=w) (a:=⟨b,j,none⟩) hb).trans (h.fz j)⟩
theorem ChkD.set {b n:Nat} {pre:List Ty} {w:World} (h:ChkD b n pre w) {t:Ty} (hk:pre.length < n):ChkD b n (pre++[t]) (w.setCell ⟨b,pre.length,none⟩ (.int .i64 (tyDpt (tyDeps pre) t))):=by
 have hlen:(tyDeps pre).length=pre.length:=by unfold tyDeps;exact tyTab_len _ _
 have hs:tyDeps (pre++[t])=tyDeps pre++[tyDpt (tyDeps pre) t]:=tyTab_snoc _ _ _
 obtain ⟨u,hu⟩:=h.rest pre.length (Nat.le_refl _) hk
 refine ⟨fun j v hv=>?_,fun j h1 h2=>?_,fun j=>(World.frozen?_setCell w _ _ _).trans (h.fz j)⟩
 ·
  rw [hs] at hv
  rcases Nat.lt_or_ge j pre.length with hj | hj
  ·
   rw [List.getElem?_append_left (by omega)] at hv
   exact (World.cell?_setCell_other w ⟨b,pre.length,none⟩ ⟨b,j,none⟩ _ (by simp <;> omega)).trans (h.dep j v hv)
  ·
   rw [List.getElem?_append_right (by omega)] at hv
   have hj0:j=pre.length:=by
    rcases Nat.eq_zero_or_pos (j - (tyDeps pre).length) with h0 | h0
    ·
     omega
    ·
     rw [List.getElem?_eq_none (by simp;omega)] at hv;cases hv
   subst hj0
   rw [hlen,Nat.sub_self] at hv
   obtain rfl:_=v:=by simpa using hv
   exact World.cell?_setCell_same _ _ _ hu
 ·
  simp only [List.length_append,List.length_singleton] at h1
  obtain ⟨v,hv⟩:=h.rest j (by omega) h2
  exact ⟨v,(World.cell?_setCell_other w ⟨b,pre.length,none⟩ ⟨b,j,none⟩ _ (by simp <;> omega)).trans hv⟩
theorem ChkD.again {b n:Nat} {pre:List Ty} {w:World} (h:ChkD b n pre w) {k:Nat} (hk:pre.length=k) (v:Int):ChkD b n pre (w.setCell ⟨b,k,none⟩ (.int .i64 v)):=by
 have hlen:(tyDeps pre).length=pre.length:=by unfold tyDeps;exact tyTab_len _ _
 refine ⟨fun j u hu=>?_,fun j h1 h2=>?_,fun j=>(World.frozen?_setCell w _ _ _).trans (h.fz j)⟩
 ·
  have hj:j < pre.length:=by rw [←hlen];exact (List.getElem?_eq_some_iff.1 hu).1
  exact (World.cell?_setCell_other w ⟨b,k,none⟩ ⟨b,j,none⟩ _ (by simp <;> omega)).trans (h.dep j u hu)
 ·
  obtain ⟨u,hu⟩:=h.rest j h1 h2
  by_cases hjk:j=k
  ·
   subst hjk
   exact ⟨v,World.cell?_setCell_same _ _ _ hu⟩
  ·
   exact ⟨u,(World.cell?_setCell_other w ⟨b,k,none⟩ ⟨b,j,none⟩ _ (by simp <;> omega)).trans hu⟩
def ChkM (b:Nat) (pre:List Ty) (w:World):Prop:=∃ m Dm,w.ownsMap (H:=Unit) Tryz.prog 118 (plainElem Tryz.prog 4) b m Dm∧m≤pre.length ∧
 (∀ t,TyB t→(Maps.has Dm (keyL t)=true↔t∈pre))∧∀ t,Maps.has Dm (keyL t)=true→∀ z,Dm.atKey (keyL t) z=.lit (.bool true)
theorem ChkM.block {b:Nat} {pre:List Ty} {w w':World} (h:ChkM b pre w) (hb:w'.heap[b]?=w.heap[b]?):ChkM b pre w':=by
 obtain ⟨m,Dm,h1,h2⟩:=h
 exact ⟨m,Dm,owns_block h1 hb,h2⟩
theorem mapKey:Tryz.prog.underlying 113=some (.map 118 4):=Tryz.underlying113
theorem ChkM.look {b:Nat} {pre:List Ty} {w:World} (h:ChkM b pre w) {t:Ty} (ht:TyB t):(Instr.lookup 113 (.map (some b)) (keyV t) false).run Tryz.prog w=.ok (.bool (decide (t∈pre))) w:=by
 obtain ⟨m,Dm,h1,_,h3,h4⟩:=h
 obtain ⟨v,ps,hrun,hv⟩:=h1.lookup seen_law mapKey (zeroB w) (zd:=.lit (.bool false)) (zp:=[]) (plainElem_bool Tryz.underlying4 false) ht.key
 rw [hrun]
 cases hh:Maps.has Dm (keyL t)
 ·
  rw [Maps.atKey_of_not_has hh] at hv
  obtain ⟨c,rfl,hc⟩:=plainElem_bool_inv Tryz.underlying4 hv
  injection hc with hc _
  injection hc with hc
  injection hc with hc
  have hn:¬t∈pre:=fun h=>by rw [(h3 t ht).2 h] at hh;cases hh
  rw [decide_eq_false hn,hc]
 ·
  rw [h4 t hh] at hv
  obtain ⟨c,rfl,hc⟩:=plainElem_bool_inv Tryz.underlying4 hv
  injection hc with hc _
  injection hc with hc
  injection hc with hc
  rw [decide_eq_true ((h3 t ht).1 hh),hc]
theorem ChkM.put {b:Nat} {pre:List Ty} {w w':World} {m:Nat} {Dm:DataW Unit} {t:Ty} (hbd:∀ u∈pre,TyB u) (h1:w.ownsMap (H:=Unit) Tryz.prog 118 (plainElem Tryz.prog 4) b m Dm) (h2:m≤pre.length)
  (h3:∀ t,TyB t→(Maps.has Dm (keyL t)=true↔t∈pre)) (h4:∀ t,Maps.has Dm (keyL t)=true→∀ z,Dm.atKey (keyL t) z=.lit (.bool true)) (ht:TyB t)
  (hw:w'.ownsMap (H:=Unit) Tryz.prog 118 (plainElem Tryz.prog 4) b (m+1) (Dm.put (keyL t) (.lit (.bool true)))):ChkM b (pre++[t]) w':=by
 have hm:Maps.IsMap Dm:=⟨_,(h1.entries seen_law).choose_spec.1⟩
 refine ⟨m+1,_,hw,by simp;omega,fun u hu=>?_,fun u hh z=>?_⟩
 ·
  by_cases hut:u=t
  ·
   subst hut
   rw [Maps.has_put_same hm keyL_key]
   simp
  ·
   have hne:keyL u≠keyL t:=fun e=>hut (hu.inj ht e)
   rw [Maps.has_put_other hne,h3 u hu]
   simp [hut]
 ·
  by_cases hut:keyL u=keyL t
  ·
   rw [hut]
   exact Maps.atKey_put_same hm keyL_key _ z
  ·
   rw [Maps.has_put_other hut] at hh
   exact (Maps.atKey_put_other hut _ z).trans (h4 u hh z)
end Go.Proofs.YtfgacmgjpikgaaaGreatDoor
