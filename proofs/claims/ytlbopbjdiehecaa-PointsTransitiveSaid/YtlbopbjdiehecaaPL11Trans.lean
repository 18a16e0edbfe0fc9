/- PointsTransitive: for every input the law returns true, and turns nothing that lay. No condition. -/
import Derived.Test.YtlbopbjdiehecaaQ11
import Derived.Test.YtlbopbjdiehecaaQ13
import Derived.Test.YtlbopbjdiehecaaQ16
import Derived.Test.YtlbopbjdiehecaaQ20
import Derived.Test.YtlbopbjdiehecaaRows
set_option linter.unusedVariables false
set_option linter.unusedSimpArgs false
set_option maxRecDepth 100000
set_option maxHeartbeats 8000000
namespace Go.Proofs.Ytlbopbjdiehecaa.pointsTransitive
open Go.ChangeShapes Go.WideShapes Go.ChangeAt Go.ChangeMaps Go.RowKit
theorem walk (x0:SlW GbW) (a b c:Int) (w:World) (h0:Gbs w w.heap.size x0) (habc:(0≤a∧a≤255)∧(0≤b∧b≤255)∧0≤c∧c≤255) :
  Calls Try.prog 8 #[aggG x0,.agg #[.int .u8 a,.int .u8 b,.int .u8 c]] w fun e w'=>e=.returned (.bool true)∧Below w.heap.size w w':=by
 have q1:=below1 w (.cells #[.slice x0.A x0.n x0.c] 24)
 have hB0:=q1.trans ((below1 (w.alloc (.cells #[.slice x0.A x0.n x0.c] 24)) (.cells #[.int .u8 a,.int .u8 b,.int .u8 c] 60)).mono q1.size)
 have hbp:=Bx.new (w.alloc (.cells #[.slice x0.A x0.n x0.c] 24)) [.int .u8 a,.int .u8 b,.int .u8 c] 60
 have hws:(w.alloc (.cells #[.slice x0.A x0.n x0.c] 24)).heap.size=w.heap.size+1:=by simp
 rw [hws] at hbp
 have HBP:=hide hbp
 clear q1 hbp hws
 have HGB:=hide (GBody_any x0 _ (h0.up hB0))
 have HSM:=hide fun (l:List BkV) (hv:l=x0.L.map gBk) (hs:sumN szG x0.L≤150)=>body_small h0 hv hs
 have HB0:=hide hB0
 obtain ⟨gA,gn,gc,gL⟩:=x0
 have HABC:=hide habc
 clear h0 hB0 habc
 go_enter Try.func8,Try.ntmps8
 go_wp2_with fail
 refine HGB.out.mono ?_
 rintro e w1 ⟨hb1,(rfl | ⟨x,rfl,hx,hv,hs⟩)⟩
 ·
  have HB1:=hide (HB0.out.trans (hb1.mono HB0.out.size))
  have b2:=below1 w1 (.cells #[.string ⟨#[]⟩,.slice none 0 0,.slice none 0 0,.slice none 0 0,.slice none 0 0,.int .i64 0,.slice none 0 0] 32)
  have HB2:=hide (HB1.out.trans (b2.mono HB1.out.size))
  clear hb1 b2
  have HZX:=hide (show OneBd (w1.alloc (.cells #[.string ⟨#[]⟩,.slice none 0 0,.slice none 0 0,.slice none 0 0,.slice none 0 0,.int .i64 0,.slice none 0 0] 32)) (w1.alloc (.cells #[.string ⟨#[]⟩,.slice none 0 0,.slice none 0 0,.slice none 0 0,.slice none 0 0,.int .i64 0,.slice none 0 0] 32)).heap.size bd00 from ⟨(show (0:Nat)≤maxLen by decide),slH11 _ _ _ _ _,slH11 _ _ _ _ _,slH11 _ _ _ _ _,slH11 _ _ _ _ _,int11 (show (-100:Int)≤0∧(0:Int)≤100 by decide),slH11 _ _ _ _ _⟩)
  have HZC:=hide (RCount_is HZX.out (m:=0) rfl (by decide))
  go_wp2_with fail
  refine HZC.out.mono ?_
  rintro e w3 ⟨rfl,hb3⟩
  have HB3:=hide (HB2.out.trans (hb3.mono HB2.out.size))
  clear hb3
  go_wp2_with fail
  refine (alive11_any _).mono ?_
  rintro e w4 ⟨rfl,hb4⟩
  have HB4:=hide (HB3.out.trans (hb4.mono HB3.out.size))
  clear hb4
  go_wp2
  go_ret
  exact ⟨rfl,HB4.out⟩
 have HB1:=hide (HB0.out.trans (hb1.mono HB0.out.size))
 obtain ⟨hN,hT⟩:=HSM.out _ hv hs
 clear hs hv HSM
 obtain ⟨BL,hBL⟩:∃ l,x.v.blocks=l:=⟨_,rfl⟩
 rw [hBL] at hN hT
 obtain ⟨nm,⟨rA,rn,rc,rL⟩,⟨oA,on,oc,oL⟩,⟨tA,tm,tc,tL⟩,⟨lA,ln,lc,lL⟩,ar,⟨bA,bn,bc,bL⟩⟩:=x
 have b2:=below1 w1 (.cells #[.string nm,.slice rA rn rc,.slice oA on oc,.slice tA tm tc,.slice lA ln lc,.int .i64 ar,.slice bA bn bc] 32)
 have hcx:=hide fun (w':World) (z:Below (w1.alloc (.cells #[.string nm,.slice rA rn rc,.slice oA on oc,.slice tA tm tc,.slice lA ln lc,.int .i64 ar,.slice bA bn bc] 32)).heap.size (w1.alloc (.cells #[.string nm,.slice rA rn rc,.slice oA on oc,.slice tA tm tc,.slice lA ln lc,.int .i64 ar,.slice bA bn bc] 32)) w')=>cells7 z
 have HX:=hide (show Ctx11 (w1.alloc (.cells #[.string nm,.slice rA rn rc,.slice oA on oc,.slice tA tm tc,.slice lA ln lc,.int .i64 ar,.slice bA bn bc] 32)) ⟨nm,⟨rA,rn,rc,rL⟩,⟨oA,on,oc,oL⟩,⟨tA,tm,tc,tL⟩,⟨lA,ln,lc,lL⟩,ar,⟨bA,bn,bc,bL⟩⟩ BL from ⟨hx.up b2,hBL,hN,hT⟩)
 have HB2:=hide (HB1.out.trans (b2.mono HB1.out.size))
 obtain ⟨WW,hWW⟩:∃ W,W=w1.alloc (.cells #[.string nm,.slice rA rn rc,.slice oA on oc,.slice tA tm tc,.slice lA ln lc,.int .i64 ar,.slice bA bn bc] 32):=⟨_,rfl⟩
 rw [←hWW] at hcx HX HB2
 have HWW:=hide hWW
 have HBPW:=hide fun (w':World) (z:Below WW.heap.size WW w')=>(have hz:=((HBP.out.below hb1).below (hWW ▸ b2)).below z;(show w'.cell? ⟨w.heap.size+1,0,none⟩=some (.int .u8 a)∧w'.cell? ⟨w.heap.size+1,1,none⟩=some (.int .u8 b)∧w'.cell? ⟨w.heap.size+1,2,none⟩=some (.int .u8 c) from ⟨hz.cell (j:=0) rfl,hz.cell (j:=1) rfl,hz.cell (j:=2) rfl⟩))
 clear b2 hb1 hx hWW hBL hN hT
 obtain ⟨C,hC⟩:∃ C,ptCount BL=C:=⟨_,rfl⟩
 have HCC:=hide hC
 have hC150:C≤150:=hC ▸ HX.out.hN
 have HW0:=hide (Below.refl WW.heap.size WW)
 clear hC
 go_wp2_with fail
 rw [←HWW.out]
 refine (HX.out.rcount HW0.out HCC.out).mono ?_
 rintro e5 w3 ⟨rfl,hb0⟩
 have H3:=hide hb0
 clear hb0
 by_cases hC0:C=0
 ·
  subst hC0
  go_wp2_with fail
  refine (alive11_any _).mono ?_
  rintro e5 w4 ⟨rfl,hb0⟩
  have H4:=hide (H3.out.trans (hb0.mono H3.out.size))
  clear hb0
  go_wp2
  go_ret
  exact ⟨rfl,HB2.out.trans (H4.out.mono HB2.out.size)⟩
 have hC1:((C:Int) == 0)=false:=by rw [beq_eq_false_iff_ne];omega
 have hC2:¬(C:Int)=0:=by omega
 have HCP:=hide hC0
 obtain ⟨E,hE⟩:∃ E,edgesI BL=E:=⟨_,rfl⟩
 have HEE:=hide fun (e:Pr) (he:e∈E)=>(show rchI BL e.1 e.2=true∧(0≤e.1∧e.1 < (C:Int))∧0≤e.2∧e.2 < (C:Int) from HCC.out ▸ edge_rch (hE ▸ he))
 have HED:=hide fun (w':World) (y:Below WW.heap.size WW w')=>(show Calls Try.prog 22 _ w' (PrsOut9 w' E) from hE ▸ HX.out.redges y)
 clear hE hC0
 obtain ⟨y0,y1,y2,y3,y4,y5,y6⟩:=hcx.out _ H3.out
 go_wp2_with fail
 refine (HED.out _ H3.out).mono ?_
 rintro e5 w4 ⟨A4,c4,rfl,ho4,hb0⟩
 have H4:=hide (H3.out.trans (hb0.mono H3.out.size))
 obtain ⟨n,hn⟩:∃ n,E.length=n:=⟨_,rfl⟩
 have HN:=hide hn
 rw [hn] at ho4 ⊢
 have HO4:=hide (ownsRow_base ho4 (Nat.zero_le _))
 have hnm:=own_max11 ho4
 unfold maxLen at hnm
 clear hb0 ho4 hn y0 y1 y2 y3 y4 y5 y6
 go_wp2
 go_loopw [30] (fun i wr=>∃ j:Nat,i=.int .i64 (j:Int)∧j≤n∧Hid (wr.ownsRow 0 25 2 (.slice A4 n c4) n (E.flatMap pV))∧Hid (Below WW.heap.size WW wr)) (fun i _=>n - (intOf i).toNat)
 case atStart=>exact ⟨0,rfl,Nat.zero_le _,HO4,H4⟩
 case round=>
  obtain ⟨j,rfl,hj,HO,HW⟩:=hrel
  by_cases hlt:j < n
  ·
   have hlt':(j:Int) < (n:Int):=by omega
   obtain ⟨t,ht⟩:∃ t,E[j]?=some t:=⟨_,List.getElem?_eq_getElem (by rw [HN.out];exact hlt)⟩
   obtain ⟨hr,hr1,hr2⟩:=HEE.out t (List.mem_of_getElem? ht)
   obtain ⟨g,z,hgB,_,hgc⟩:=(Cells.of_own pV_len (by decide) HO.out).at_ ht
   subst hgB
   obtain ⟨t0,t1⟩:=t
   have c0:wr.cell? ⟨g,z+j*2,none⟩=some (.int .i64 t0):=by simpa using hgc 0 _ rfl
   have c1:wr.cell? ⟨g,z+j*2+1,none⟩=some (.int .i64 t1):=hgc 1 _ rfl
   have hb3:=below1 wr (.cells #[.int .i64 t0,.int .i64 t1] 25)
   have HW3:=hide (HW.out.trans (hb3.mono HW.out.size))
   have HO3:=hide (ownsRow_below HO.out hb3)
   have HRC:=hide (HX.out.reach HW3.out (p:=t0) (q:=t1) ⟨by have:=hr1.1;omega,by have:=hr1.2;omega⟩ ⟨by have:=hr2.1;omega,by have:=hr2.2;omega⟩ hr)
   have hbx:=Bx.new wr [.int .i64 t0,.int .i64 t1] 25
   have z0:=hbx.cell (j:=0) rfl
   have z1:=hbx.cell (j:=1) rfl
   obtain ⟨y0,y1,y2,y3,y4,y5,y6⟩:=hcx.out _ HW3.out
   clear hb3 ht hr hr1 hr2 hgc hbx
   go_wp2_with fail
   refine HRC.out.mono ?_
   rintro e6 w6 ⟨rfl,hb0⟩
   have HW6:=hide (HW3.out.trans (hb0.mono HW3.out.size))
   have HO6:=hide (ownsRow_below HO3.out hb0)
   clear hb0 z0 z1 c0 c1 y0 y1 y2 y3 y4 y5 y6
   go_wp2
   go_roundw
   case rel=>exact ⟨j+1,by go_num,by omega,HO6,HW6⟩
   case measure=>simp [intOf];omega
  ·
   have hlt':¬(j:Int) < (n:Int):=by omega
   obtain ⟨z0,z1,z2⟩:=HBPW.out _ HW.out
   obtain ⟨⟨ha0,ha1⟩,⟨hb0,hb1⟩,hc0,hc1⟩:=HABC.out
   have hcp:0 < C:=Nat.pos_of_ne_zero HCP.out
   obtain ⟨k1,hk1⟩:∃ k:Nat,a.tmod (C:Int)=(k:Int):=⟨(a.tmod (C:Int)).toNat,(Int.toNat_of_nonneg (Int.tmod_nonneg _ ha0)).symm⟩
   obtain ⟨k2,hk2⟩:∃ k:Nat,b.tmod (C:Int)=(k:Int):=⟨(b.tmod (C:Int)).toNat,(Int.toNat_of_nonneg (Int.tmod_nonneg _ hb0)).symm⟩
   obtain ⟨k3,hk3⟩:∃ k:Nat,c.tmod (C:Int)=(k:Int):=⟨(c.tmod (C:Int)).toNat,(Int.toNat_of_nonneg (Int.tmod_nonneg _ hc0)).symm⟩
   have hl1:(k1:Int) < (C:Int):=hk1 ▸ Int.tmod_lt_of_pos a (by omega)
   have hl2:(k2:Int) < (C:Int):=hk2 ▸ Int.tmod_lt_of_pos b (by omega)
   have hl3:(k3:Int) < (C:Int):=hk3 ▸ Int.tmod_lt_of_pos c (by omega)
   have w1':IntKind.i64.wrap a=a:=wrapI9 _ (by omega) (by omega)
   have w2':IntKind.i64.wrap b=b:=wrapI9 _ (by omega) (by omega)
   have w3':IntKind.i64.wrap c=c:=wrapI9 _ (by omega) (by omega)
   have I1:IntR (k1:Int):=⟨by omega,by omega⟩
   have I2:IntR (k2:Int):=⟨by omega,by omega⟩
   have I3:IntR (k3:Int):=⟨by omega,by omega⟩
   have HI1:=hide I1
   have HI2:=hide I2
   have HI3:=hide I3
   have HQW:=hide fun (k:Nat)=>HW.out.trans ((belowD wr k).mono HW.out.size)
   clear I1 I2 I3 hl1 hl2 hl3
   go_wp2
   go_quiet (fail)
   go_wp2_with fail
   refine (alive11_any _).mono ?_
   rintro e5 w5 ⟨rfl,hb0⟩
   have H5:=hide ((HQW.out nq).trans (hb0.mono (HQW.out nq).size))
   clear hb0 z0 z1 z2 w1' w2' w3' hk1 hk2 hk3
   obtain ⟨v1,hv1⟩:∃ v,rchI BL (k1:Int) (k2:Int)=v:=⟨_,rfl⟩
   obtain ⟨v2,hv2⟩:∃ v,rchI BL (k2:Int) (k3:Int)=v:=⟨_,rfl⟩
   obtain ⟨v3,hv3⟩:∃ v,rchI BL (k1:Int) (k3:Int)=v:=⟨_,rfl⟩
   have HV1:=hide hv1
   have HV2:=hide hv2
   have HV3:=hide hv3
   have HTR:=hide (show v1=true→v2=true→v3=true from fun h1 h2=>by rw [←hv3];exact rch_trans (hv1.trans h1) (hv2.trans h2))
   have HR1:=hide fun (w':World) (y:Below WW.heap.size WW w')=>HX.out.reach y HI1.out HI2.out HV1.out
   have HR2:=hide fun (w':World) (y:Below WW.heap.size WW w')=>HX.out.reach y HI2.out HI3.out HV2.out
   have HR3:=hide fun (w':World) (y:Below WW.heap.size WW w')=>HX.out.reach y HI1.out HI3.out HV3.out
   clear hv1 hv2 hv3
   obtain ⟨y0,y1,y2,y3,y4,y5,y6⟩:=hcx.out _ H5.out
   go_wp2_with fail
   refine (HR1.out _ H5.out).mono ?_
   rintro e6 w6 ⟨rfl,hb0⟩
   have H6:=hide (H5.out.trans (hb0.mono H5.out.size))
   clear hb0 y0 y1 y2 y3 y4 y5 y6
   cases v1
   case false=>
    go_wp2
    go_ret
    exact ⟨rfl,HB2.out.trans (H6.out.mono HB2.out.size)⟩
   obtain ⟨y0,y1,y2,y3,y4,y5,y6⟩:=hcx.out _ H6.out
   go_wp2_with fail
   refine (HR2.out _ H6.out).mono ?_
   rintro e7 w7 ⟨rfl,hb0⟩
   have H7:=hide (H6.out.trans (hb0.mono H6.out.size))
   clear hb0 y0 y1 y2 y3 y4 y5 y6
   cases v2
   case false=>
    go_wp2
    go_ret
    exact ⟨rfl,HB2.out.trans (H7.out.mono HB2.out.size)⟩
   obtain rfl:=HTR.out (by trivial) (by trivial)
   obtain ⟨y0,y1,y2,y3,y4,y5,y6⟩:=hcx.out _ H7.out
   go_wp2_with fail
   refine (HR3.out _ H7.out).mono ?_
   rintro e8 w8 ⟨rfl,hb0⟩
   have H8:=hide (H7.out.trans (hb0.mono H7.out.size))
   clear hb0 y0 y1 y2 y3 y4 y5 y6
   go_wp2
   go_ret
   exact ⟨rfl,HB2.out.trans (H8.out.mono HB2.out.size)⟩
theorem own:ownKnob Try.prog.godebug=none:=by kernel_rfl
theorem laidOut:laidOutB Try.prog=true:=by kernel_rfl
theorem contract (H:Type) (enc:TypeId×Value→H) (W:World) (base:Nat) (args:Array Value) (ds gs:List (DataW H)) (before:List MemPlace)
  (hval0:∀ (j:Nat) t v,Try.f8.params[j]?=some t→args[j]?=some v→Value.okWide Try.prog W .any base t v)
  (hW:DataW.Whole enc Try.prog Try.f8.params.toList Rows.pointsTransitiveSpec.vars false W args.toList ds gs before) :
  Calls Try.prog 8 args W fun e W'=>∃ v,e=.returned v∧Rows.pointsTransitiveSpec.post enc Try.prog Try.f8 false true false false W args v W':=by
 have hval:∀ (j:Nat) t v,Try.f8.params[j]?=some t→args[j]?=some v→Value.okWide Try.prog W .any base t v:=hval0
 have hW':=hW
 obtain ⟨p,q,hA0,hV,rfl,hfz,hnd⟩:=hW
 have hA:DataW.TrodAll enc Try.prog W 0 (fun _=>true) true Try.f8.params.toList args.toList ds p:=hA0
 rw [Try.params8] at hA hval
 obtain ⟨v0,vs0,d0,ds0,p0,q0,hargs,rfl,rfl,h0,r0⟩:=trodAll_cons hA
 obtain ⟨v1,vs1,d1,ds1,p1,q1,rfl,rfl,rfl,h1,r1⟩:=trodAll_cons r0
 obtain ⟨rfl,rfl,rfl⟩:=trodAll_nil r1
 obtain rfl:args=#[v0,v1]:=by cases args;simp_all
 obtain ⟨rfl,rfl⟩:=trodVars_none hV
 have k0:=h0
 have lt0:∀ x∈p0,x.block < W.heap.size:=by obtain ⟨m,hm⟩:=k0;exact DataW.trod_lt m _ _ _ hm
 obtain ⟨x0,rfl,g0⟩:=openGraph (hval 0 24 v0 rfl rfl) h0
 have k1:=h1
 have lt1:∀ x∈p1,x.block < W.heap.size:=by obtain ⟨m,hm⟩:=k1;exact DataW.trod_lt m _ _ _ hm
 obtain ⟨a1,b1,c1,rfl,g1⟩:=openTri8 Try.underlying60 Try.underlying5 (by kernel_rfl) (by kernel_rfl) (hval 1 60 v1 rfl rfl) h1
 clear hA0 hval0
 simp only [List.append_nil] at hW'
 refine (walk x0 a1 b1 c1 W g0 g1).mono fun e W' ⟨he,bel⟩=>?_
 subst he
 exact ⟨_,rfl,_,_,_,[],_,[],hW',trodAll_mk1 (shut_bool Try.underlying4 _),(trodAll_cons_mk (Below.trod laidOut (by kernel_rfl) (of_decide_eq_true (by kernel_rfl)) k0 bel lt0) (trodAll_cons_mk (Below.trod laidOut (by kernel_rfl) (of_decide_eq_true (by kernel_rfl)) k1 bel lt1) trodAll_mk0)),rfl,bel.frame _,fun h=>by cases h⟩
theorem lifted (os:Os) (started:os.Started) (H:Type) (enc:TypeId×Value→H) :
  ReturnsInHanded {} Try.checked os 8 .any (Rows.pointsTransitiveSpec.pre6 enc Try.prog Try.f8 Rows.pointsTransitiveRow.domain false) (Rows.pointsTransitiveSpec.post enc Try.prog Try.f8 false true false false):=by
 refine returnsInHanded_of_change (C:=Try.checked) own started (by kernel_rfl) Try.func8
  (ChangeSpec.witness6 (enc:=enc) (C:=Try.checked) false ⟨#[],#[.agg #[.slice none 0 0],.agg #[.int .u8 0,.int .u8 0,.int .u8 0]],[]⟩ 8 (by kernel_rfl) (by kernel_rfl) (by kernel_rfl) (by kernel_rfl)) ?_
 intro W base args ds gs before hval hW _ _
 exact contract H enc W base args ds gs before hval hW
theorem proved:Rows.PointsTransitiveSaid:=
 OpenClaim.holds_of_wide 8 Try.f8 rfl rfl rfl rfl rfl rfl rfl ⟨rfl,rfl,rfl,rfl,rfl⟩ rfl rfl rfl rfl rfl (by kernel_rfl) Try.func8 (by kernel_rfl)
  (of_decide_eq_true (by kernel_rfl)) (by unfold Func.isWrapper;first | (rw [if_pos (by decide +kernel)];kernel_rfl) | (rw [if_neg (by decide +kernel)];exact ⟨rfl,rfl⟩))
  (fun os started H enc _=>lifted os started H enc)
end Go.Proofs.Ytlbopbjdiehecaa.pointsTransitive
