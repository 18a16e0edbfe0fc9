/- Part 35 of the contracts and their mathematics. -/
import Derived.Test.YtfgacmgjpikgaaaGreatDoorQ32
import Derived.Test.YtfgacmgjpikgaaaGreatDoorQ33
set_option linter.unusedVariables false
set_option linter.unusedSimpArgs false
set_option maxRecDepth 100000
set_option maxHeartbeats 8000000
namespace Go.Proofs.YtfgacmgjpikgaaaGreatDoor
open Go.RowKit
noncomputable def rgV (b:BdV):Int:=if 65535 < b.regions.length then 15 else rgErr [] b.regions
noncomputable def lcV (b:BdV):Int:=if 65535 < b.locals.length then 15 else lcErr b.types.length [] b.locals
theorem deErr_eq (b:BdV):deErr b=if identB b.name=false then 12 else if rgV b≠0 then rgV b else if prChk b.outl b.regions.length≠0 then prChk b.outl b.regions.length
 else if tyChk b.types b.regions.length≠0 then tyChk b.types b.regions.length else if lcV b≠0 then lcV b
 else if b.args < 0∨(b.locals.length:Int) < b.args then 3 else if b.blocks.length=0∨65535 < b.blocks.length then 15 else 0:=by
 unfold deErr rgV lcV
 cases identB b.name
 ·
  rfl
 ·
  by_cases h1:65535 < b.regions.length
  ·
   simp [h1]
  ·
   by_cases h2:rgErr [] b.regions=0
   ·
    by_cases h3:prChk b.outl b.regions.length=0
    ·
     by_cases h4:tyChk b.types b.regions.length=0
     ·
      by_cases h5:65535 < b.locals.length
      ·
       simp [h1,h2,h3,h4,h5]
      ·
       simp [h1,h2,h3,h4,h5]
     ·
      simp [h1,h2,h3,h4]
    ·
     simp [h1,h2,h3]
   ·
    simp [h1,h2]
theorem VcSz0 {P:Prop} (h:P:=by
 go_enter Tryz.func26,Tryz.ntmps26
 go_wp2_with fail
 refine (IsIdent_is HID.out _ HNM.out).mono ?_
 rintro e0 w0 ⟨rfl,rfl⟩
 go_wp2_with fail
 refine (HRG.out _ (Below.refl _ _)).mono ?_
 rintro e1 w1 ⟨rfl,hb1⟩
 have HW1:=hide hb1
 clear hb1
 obtain ⟨c1_0,c1_1,c1_2,c1_3,c1_4,c1_5,c1_6⟩:=cells7 HW1.out
 go_wp2_with fail
 refine (HPR.out _ HW1.out).mono ?_
 rintro e2 w2 ⟨rfl,hb2⟩
 have HW2:=hide (HW1.out.trans (hb2.mono HW1.out.size))
 clear hb2
 obtain ⟨c2_0,c2_1,c2_2,c2_3,c2_4,c2_5,c2_6⟩:=cells7 HW2.out
 go_wp2_with fail
 refine (HTY.out _ HW2.out).mono ?_
 rintro e3 w3 ⟨rfl,hb3⟩
 have HW3:=hide (HW2.out.trans (hb3.mono HW2.out.size))
 clear hb3
 obtain ⟨c3_0,c3_1,c3_2,c3_3,c3_4,c3_5,c3_6⟩:=cells7 HW3.out
 go_wp2_with fail
 refine (HLC.out _ HW3.out).mono ?_
 rintro e4 w4 ⟨rfl,hb4⟩
 have HW4:=hide (HW3.out.trans (hb4.mono HW3.out.size))
 clear hb4
 obtain ⟨c4_0,c4_1,c4_2,c4_3,c4_4,c4_5,c4_6⟩:=cells7 HW4.out
 go_wp2
 go_ret
 exact ⟨rfl,HB.out.trans (HW4.out.mono HB.out.size)⟩):P:=h
theorem cde_is {x:BdW} {v:Int} {w:World} (h:OneBd w w.heap.size x) (hv:deErr x.v=v) :
 Calls Tryz.prog 26 #[aggBd x] w fun e w'=>e=.returned (.int .i64 v)∧Below w.heap.size w w':=by
 obtain ⟨nm,⟨rA,rn,rc,rL⟩,⟨oA,on,oc,oL⟩,⟨tA,tm,tc,tL⟩,⟨lA,ln,lc,lL⟩,ar,⟨bA,bn,bc,bL⟩⟩:=x
 have HB:=hide (below1 w (.cells #[.string nm,.slice rA rn rc,.slice oA on oc,.slice tA tm tc,.slice lA ln lc,.int .i64 ar,.slice bA bn bc] 28))
 have HX:=hide (h.up HB.out)
 have hnm:nm.size≤maxLen:=h.name
 have hrl:rL.length=rn:=h.regions.len
 have hll:lL.length=ln:=h.locals.len
 have hbl:bL.length=bn:=h.blocks.len
 have htl:tL.length=tm:=h.types.len
 have hrm:rn≤maxLen:=h.regions.nm
 have hom:on≤maxLen:=h.outl.nm
 have htm:tm≤maxLen:=h.types.nm
 have hlm:ln≤maxLen:=h.locals.nm
 have hbm:bn≤maxLen:=h.blocks.nm
 obtain ⟨bi,hid⟩:∃ z,identB nm=z:=⟨_,rfl⟩
 obtain ⟨v1,h1⟩:∃ z,rgV (BdW.v ⟨nm,⟨rA,rn,rc,rL⟩,⟨oA,on,oc,oL⟩,⟨tA,tm,tc,tL⟩,⟨lA,ln,lc,lL⟩,ar,⟨bA,bn,bc,bL⟩⟩)=z:=⟨_,rfl⟩
 obtain ⟨v2,h2⟩:∃ z,prChk oL ((rn:Nat):Int)=z:=⟨_,rfl⟩
 obtain ⟨v3,h3⟩:∃ z,tyChk (tys tL) ((rn:Nat):Int)=z:=⟨_,rfl⟩
 obtain ⟨v4,h4⟩:∃ z,lcV (BdW.v ⟨nm,⟨rA,rn,rc,rL⟩,⟨oA,on,oc,oL⟩,⟨tA,tm,tc,tL⟩,⟨lA,ln,lc,lL⟩,ar,⟨bA,bn,bc,bL⟩⟩)=z:=⟨_,rfl⟩
 have hv9:(if bi=false then (12:Int) else if v1≠0 then v1 else if v2≠0 then v2 else if v3≠0 then v3 else if v4≠0 then v4 else if ar < 0∨(ln:Int) < ar then 3 else if bn=0∨65535 < bn then 15 else 0)=v:=by
  have e1:(BdW.v ⟨nm,⟨rA,rn,rc,rL⟩,⟨oA,on,oc,oL⟩,⟨tA,tm,tc,tL⟩,⟨lA,ln,lc,lL⟩,ar,⟨bA,bn,bc,bL⟩⟩).locals.length=ln:=(List.length_map _).trans hll
  have e2:(BdW.v ⟨nm,⟨rA,rn,rc,rL⟩,⟨oA,on,oc,oL⟩,⟨tA,tm,tc,tL⟩,⟨lA,ln,lc,lL⟩,ar,⟨bA,bn,bc,bL⟩⟩).blocks.length=bn:=(List.length_map _).trans hbl
  have e3:(BdW.v ⟨nm,⟨rA,rn,rc,rL⟩,⟨oA,on,oc,oL⟩,⟨tA,tm,tc,tL⟩,⟨lA,ln,lc,lL⟩,ar,⟨bA,bn,bc,bL⟩⟩).regions.length=rn:=hrl
  rw [←hv,deErr_eq,h1,h4,e1,e2,e3,← h2,← h3,← hid]
  rfl
 clear hv
 have hv:=hv9
 clear hv9
 have HRG:=hide fun (w':World) (q:Below (w.alloc (.cells #[.string nm,.slice rA rn rc,.slice oA on oc,.slice tA tm tc,.slice lA ln lc,.int .i64 ar,.slice bA bn bc] 28)).heap.size (w.alloc (.cells #[.string nm,.slice rA rn rc,.slice oA on oc,.slice tA tm tc,.slice lA ln lc,.int .i64 ar,.slice bA bn bc] 28)) w')=>cRegs_is ((HX.out.up q).regions) h1
 have HPR:=hide fun (w':World) (q:Below (w.alloc (.cells #[.string nm,.slice rA rn rc,.slice oA on oc,.slice tA tm tc,.slice lA ln lc,.int .i64 ar,.slice bA bn bc] 28)).heap.size (w.alloc (.cells #[.string nm,.slice rA rn rc,.slice oA on oc,.slice tA tm tc,.slice lA ln lc,.int .i64 ar,.slice bA bn bc] 28)) w')=>RegCheck_is (c:=oc) h2 w' ((HX.out.up q).prs) hom
 have HTY:=hide fun (w':World) (q:Below (w.alloc (.cells #[.string nm,.slice rA rn rc,.slice oA on oc,.slice tA tm tc,.slice lA ln lc,.int .i64 ar,.slice bA bn bc] 28)).heap.size (w.alloc (.cells #[.string nm,.slice rA rn rc,.slice oA on oc,.slice tA tm tc,.slice lA ln lc,.int .i64 ar,.slice bA bn bc] 28)) w')=>CheckT_is (c:=tc) h3 w' ((HX.out.up q).typs) htm
 have h4':(if 65535 < lL.length then (15:Int) else lcErr tm [] (lL.map LcW.v))=v4:=by
  rw [←h4]
  show _=(if 65535 < (lL.map LcW.v).length then (15:Int) else lcErr (tys tL).length [] (lL.map LcW.v))
  rw [List.length_map,tys_len,htl]
 have HLC:=hide fun (w':World) (q:Below (w.alloc (.cells #[.string nm,.slice rA rn rc,.slice oA on oc,.slice tA tm tc,.slice lA ln lc,.int .i64 ar,.slice bA bn bc] 28)).heap.size (w.alloc (.cells #[.string nm,.slice rA rn rc,.slice oA on oc,.slice tA tm tc,.slice lA ln lc,.int .i64 ar,.slice bA bn bc] 28)) w')=>cLocs_is (nt:=tm) ((HX.out.up q).locals) htm h4'
 have HID:=hide hid
 have HNM:=hide hnm
 have HV:=hide hv
 unfold maxLen at hrm htm hlm hbm
 clear h hnm hrl hll hbl htl hom hid h1 h2 h3 h4 h4'
 have hv:=HV.out
 clear HV
 cases bi
 case false=>
  obtain rfl:v=12:=hv.symm
  clear hv
  go_enter Tryz.func26,Tryz.ntmps26
  go_wp2_with fail
  refine (IsIdent_is HID.out _ HNM.out).mono ?_
  rintro e0 w0 ⟨rfl,rfl⟩
  go_wp2
  go_ret
  exact ⟨rfl,HB.out⟩
 case true=>
  rw [if_neg (by simp)] at hv
  by_cases q1:v1=0
  case neg=>
   have t1:(v1 != 0)=true:=by simp [q1]
   rw [if_pos q1] at hv
   obtain rfl:v1=v:=hv
   clear q1
   go_enter Tryz.func26,Tryz.ntmps26
   go_wp2_with fail
   refine (IsIdent_is HID.out _ HNM.out).mono ?_
   rintro e0 w0 ⟨rfl,rfl⟩
   go_wp2_with fail
   refine (HRG.out _ (Below.refl _ _)).mono ?_
   rintro e1 w1 ⟨rfl,hb1⟩
   have HW1:=hide hb1
   clear hb1
   obtain ⟨c1_0,c1_1,c1_2,c1_3,c1_4,c1_5,c1_6⟩:=cells7 HW1.out
   go_wp2
   go_ret
   exact ⟨rfl,HB.out.trans (HW1.out.mono HB.out.size)⟩
  subst q1
  rw [if_neg (by simp)] at hv
  by_cases q2:v2=0
  case neg=>
   have t2:(v2 != 0)=true:=by simp [q2]
   rw [if_pos q2] at hv
   obtain rfl:v2=v:=hv
   clear q2
   go_enter Tryz.func26,Tryz.ntmps26
   go_wp2_with fail
   refine (IsIdent_is HID.out _ HNM.out).mono ?_
   rintro e0 w0 ⟨rfl,rfl⟩
   go_wp2_with fail
   refine (HRG.out _ (Below.refl _ _)).mono ?_
   rintro e1 w1 ⟨rfl,hb1⟩
   have HW1:=hide hb1
   clear hb1
   obtain ⟨c1_0,c1_1,c1_2,c1_3,c1_4,c1_5,c1_6⟩:=cells7 HW1.out
   go_wp2_with fail
   refine (HPR.out _ HW1.out).mono ?_
   rintro e2 w2 ⟨rfl,hb2⟩
   have HW2:=hide (HW1.out.trans (hb2.mono HW1.out.size))
   clear hb2
   obtain ⟨c2_0,c2_1,c2_2,c2_3,c2_4,c2_5,c2_6⟩:=cells7 HW2.out
   go_wp2
   go_ret
   exact ⟨rfl,HB.out.trans (HW2.out.mono HB.out.size)⟩
  subst q2
  rw [if_neg (by simp)] at hv
  by_cases q3:v3=0
  case neg=>
   have t3:(v3 != 0)=true:=by simp [q3]
   rw [if_pos q3] at hv
   obtain rfl:v3=v:=hv
   clear q3
   go_enter Tryz.func26,Tryz.ntmps26
   go_wp2_with fail
   refine (IsIdent_is HID.out _ HNM.out).mono ?_
   rintro e0 w0 ⟨rfl,rfl⟩
   go_wp2_with fail
   refine (HRG.out _ (Below.refl _ _)).mono ?_
   rintro e1 w1 ⟨rfl,hb1⟩
   have HW1:=hide hb1
   clear hb1
   obtain ⟨c1_0,c1_1,c1_2,c1_3,c1_4,c1_5,c1_6⟩:=cells7 HW1.out
   go_wp2_with fail
   refine (HPR.out _ HW1.out).mono ?_
   rintro e2 w2 ⟨rfl,hb2⟩
   have HW2:=hide (HW1.out.trans (hb2.mono HW1.out.size))
   clear hb2
   obtain ⟨c2_0,c2_1,c2_2,c2_3,c2_4,c2_5,c2_6⟩:=cells7 HW2.out
   go_wp2_with fail
   refine (HTY.out _ HW2.out).mono ?_
   rintro e3 w3 ⟨rfl,hb3⟩
   have HW3:=hide (HW2.out.trans (hb3.mono HW2.out.size))
   clear hb3
   obtain ⟨c3_0,c3_1,c3_2,c3_3,c3_4,c3_5,c3_6⟩:=cells7 HW3.out
   go_wp2
   go_ret
   exact ⟨rfl,HB.out.trans (HW3.out.mono HB.out.size)⟩
  subst q3
  rw [if_neg (by simp)] at hv
  by_cases q4:v4=0
  case neg=>
   have t4:(v4 != 0)=true:=by simp [q4]
   rw [if_pos q4] at hv
   obtain rfl:v4=v:=hv
   clear q4
   exact VcSz0
  subst q4
  rw [if_neg (by simp)] at hv
  by_cases ha:ar < 0
  case pos=>
   obtain rfl:v=3:=by rw [←hv,if_pos (.inl ha)]
   clear hv
   exact VcSz0
  have ha0:0≤ar:=by omega
  by_cases hb:(ln:Int) < ar
  case pos=>
   obtain rfl:v=3:=by rw [←hv,if_pos (.inr hb)]
   clear hv
   exact VcSz0
  have hb0:ar≤(ln:Int):=by omega
  rw [if_neg (by omega)] at hv
  by_cases hc:bn=0
  case pos=>
   obtain rfl:v=15:=by rw [←hv,if_pos (.inl hc)]
   have tb:((bn:Int) == 0)=true:=by simp [hc]
   clear hv hc ha hb
   exact VcSz0
  have tb:((bn:Int) == 0)=false:=by rw [beq_eq_false_iff_ne];omega
  by_cases hd:65535 < bn
  case pos=>
   obtain rfl:v=15:=by rw [←hv,if_pos (.inr hd)]
   have tb2:(65535:Int) < (bn:Int):=by omega
   clear hv hc ha hb hd
   exact VcSz0
  have tb2:(bn:Int)≤65535:=by omega
  obtain rfl:v=0:=by rw [←hv,if_neg (by omega)]
  clear hv hc ha hb hd
  exact VcSz0
abbrev newW (w:World) (x:BdW):World:=((((w.alloc (.cells (cBd x).toArray 28)).alloc (.map #[] 0)).alloc (.map #[] 0)).alloc (.map #[] 0)).alloc (.cells (cBd x++[Value.pointer none,Value.map (some (w.heap.size+1)),Value.map (some (w.heap.size+1+1)),Value.map (some (w.heap.size+1+1+1))]).toArray 98)
def NewOut (x:BdW) (w:World) (e:Ending) (w':World):Prop:=∃ K:CkW,K.B=w.heap.size∧K.x=x∧e=.returned K.ptr∧Ck K w'∧Below w.heap.size w w'
theorem drew_size9 (w:World):w.drew.heap.size=w.heap.size:=rfl
theorem frozen_of_heap {w:World} {b:Nat} {cs:Array Value} {T:TypeId} (h:w.heap[b]?=some (.cells cs T (0,0))) (j:Nat):w.frozen? ⟨b,j,none⟩=false:=by simp [World.frozen?,h]
theorem new_below (w:World) (x:BdW):Below w.heap.size w (newW w x):=((((below1 w _).alloc (by simp) _).alloc (by simp;omega) _).alloc (by simp;omega) _).alloc (by simp;omega) _
theorem new_ck {w:World} {x:BdW} (h:VB w x) (hf:x.types.n≤1000) (ht:OpsT w):Ck ⟨w.heap.size,w.heap.size+1+1+1+1,w.heap.size+1,w.heap.size+1+1,w.heap.size+1+1+1,x⟩ (newW w x):=by
 have s1:(w.alloc (.cells (cBd x).toArray 28)).heap.size=w.heap.size+1:=by simp
 have s2:((w.alloc (.cells (cBd x).toArray 28)).alloc (.map #[] 0)).heap.size=w.heap.size+1+1:=by simp
 have s3:(((w.alloc (.cells (cBd x).toArray 28)).alloc (.map #[] 0)).alloc (.map #[] 0)).heap.size=w.heap.size+1+1+1:=by simp
 have s4:((((w.alloc (.cells (cBd x).toArray 28)).alloc (.map #[] 0)).alloc (.map #[] 0)).alloc (.map #[] 0)).heap.size=w.heap.size+1+1+1+1:=by simp
 have m1:=fun f=>MapI.made (w.alloc (.cells (cBd x).toArray 28)) x.types.n f
 have m2:=fun f=>MapP.made ((w.alloc (.cells (cBd x).toArray 28)).alloc (.map #[] 0)) x.types.n f
 have m3:=fun f=>MapP.made (((w.alloc (.cells (cBd x).toArray 28)).alloc (.map #[] 0)).alloc (.map #[] 0)) x.regions.n f
 have hg:=heap_alloc_new ((((w.alloc (.cells (cBd x).toArray 28)).alloc (.map #[] 0)).alloc (.map #[] 0)).alloc (.map #[] 0)) (.cells (cBd x++[Value.pointer none,Value.map (some (w.heap.size+1)),Value.map (some (w.heap.size+1+1)),Value.map (some (w.heap.size+1+1+1))]).toArray 98)
 rw [s1] at m1
 rw [s2] at m2
 rw [s3] at m3
 rw [s4] at hg
 have hc:∀ (j:Nat) (u:Value),(cBd x++[Value.pointer none,Value.map (some (w.heap.size+1)),Value.map (some (w.heap.size+1+1)),Value.map (some (w.heap.size+1+1+1))])[j]?=some u→(newW w x).cell? ⟨w.heap.size+1+1+1+1,j,none⟩=some u:=fun j u hu=>(cell_of_heap hg j).trans (by rw [List.getElem?_toArray];exact hu)
 have hB:=new_below w x
 have old:∀ (W:World) (o:Obj) (k:Nat),k < W.heap.size→(W.alloc o).heap[k]?=W.heap[k]?:=Below.heap_alloc
 refine ⟨ht.lt,⟨show w.heap.size≤w.heap.size+1+1+1+1 by omega,show w.heap.size≤w.heap.size+1 by omega,show w.heap.size≤w.heap.size+1+1 by omega,show w.heap.size≤w.heap.size+1+1+1 by omega⟩,?_,h.one.below hB,h.ok,hf,fun j u hu=>hc j u ?_,hc 7 _ rfl |> fun _=>hc 8 _ rfl,hc 9 _ rfl,hc 10 _ rfl,fun j=>?_,.inl (hc 7 _ rfl),?_,?_,?_,by show w.heap.size+1≠w.heap.size+1+1;omega,by show w.heap.size+1≠w.heap.size+1+1+1;omega,by show w.heap.size+1+1≠w.heap.size+1+1+1;omega,ht.up hB⟩
 ·
  show w.heap.size+1+1+1+1 < (newW w x).heap.size
  unfold newW
  rw [World.size_alloc,s4]
  omega
 ·
  rw [List.getElem?_append_left (List.getElem?_eq_some_iff.1 hu).1]
  exact hu
 ·
  exact frozen_of_heap hg j
 ·
  refine (m1 _).block ?_
  show (newW w x).heap[w.heap.size+1]?=_
  unfold newW
  rw [old _ _ _ (by rw [s4];omega),old _ _ _ (by rw [s3];omega),old _ _ _ (by rw [s2];omega)]
 ·
  refine (m2 _).block ?_
  show (newW w x).heap[w.heap.size+1+1]?=_
  unfold newW
  rw [old _ _ _ (by rw [s4];omega),old _ _ _ (by rw [s3];omega)]
 ·
  refine (m3 _).block ?_
  show (newW w x).heap[w.heap.size+1+1+1]?=_
  unfold newW
  rw [old _ _ _ (by rw [s4];omega)]
theorem cnew_any {x:BdW} {w:World} (h:VB w x) (hf:x.types.n≤1000) (ht:OpsT w) :
 Calls Tryz.prog 27 #[aggBd x] w (NewOut x w):=by
 have HX:=hide h
 have HF:=hide hf
 have HT:=hide ht
 have hmm:=@run_makeMap Tryz.prog
 obtain ⟨nm,⟨rA,rn,rc,rL⟩,⟨oA,on,oc,oL⟩,⟨tA,tm,tc,tL⟩,⟨lA,ln,lc,lL⟩,ar,⟨bA,bn,bc,bL⟩⟩:=x
 go_enter Tryz.func27,Tryz.ntmps27
 go_wp2
 go_ret
 exact ⟨⟨w.heap.size,w.heap.size+1+1+1+1,w.heap.size+1,w.heap.size+1+1,w.heap.size+1+1+1,⟨nm,⟨rA,rn,rc,rL⟩,⟨oA,on,oc,oL⟩,⟨tA,tm,tc,tL⟩,⟨lA,ln,lc,lL⟩,ar,⟨bA,bn,bc,bL⟩⟩⟩,rfl,rfl,rfl,new_ck HX.out HF.out HT.out,new_below w ⟨nm,⟨rA,rn,rc,rL⟩,⟨oA,on,oc,oL⟩,⟨tA,tm,tc,tL⟩,⟨lA,ln,lc,lL⟩,ar,⟨bA,bn,bc,bL⟩⟩⟩
theorem VcVz0 {P:Prop} (h:P:=by
 rintro e2 w2 ⟨rfl,hb2⟩
 have HLO:=hb2.low HK1.out
 rw [HKB.out] at HLO
 clear hb2
 have HW2:=hide (HW1.out.trans HLO)
 clear HLO
 refine hK.out _ _ (hcs.out _ HW2.out) (fun hHeld=>?_)
 clear hK KZ
 try simp only [Act.put,List.setIfInBounds_toArray,List.set_cons_zero,List.set_cons_succ]
 refine planS [4] ?_
 repeat' (first | refine pT hHeld rfl ?_ | refine pS hHeld rfl ?_)
 refine planE ?_
 refine wpAnyH_done (by kernel_rfl) ?_ _
 go_wp2
 go_ret
 exact ⟨rfl,HB.out.trans (HW2.out.mono HB.out.size)⟩):P:=h
theorem vOperand_is {x:BdW} {o:OpW} {v:Int} {w:World} (h:VB w x) (hf:x.types.n≤1000) (ht:OpsT w) (ho:OneOp w w.heap.size o) (hv:opErr (wE x) o.v=v) :
 Calls Tryz.prog 14 #[aggBd x,aggOp o] w fun e w'=>e=.returned (.int .i64 v)∧Below w.heap.size w w':=by
 obtain ⟨nm,⟨rA,rn,rc,rL⟩,⟨oA,on,oc,oL⟩,⟨tA,tm,tc,tL⟩,⟨lA,ln,lc,lL⟩,ar,⟨bA,bn,bc,bL⟩⟩:=x
 obtain ⟨k,⟨l,pA,pn,pc,ps⟩,n⟩:=o
 have HB:=hide (two_below w [.string nm,.slice rA rn rc,.slice oA on oc,.slice tA tm tc,.slice lA ln lc,.int .i64 ar,.slice bA bn bc] 28 [.int .i64 k,.int .i64 l,.slice pA pn pc,.int .i64 n] 38)
 have HX:=hide (h.up HB.out)
 clear h
 have HT:=hide (ht.up HB.out)
 clear ht
 have HF:=hide hf
 clear hf
 have HO:=hide (ho.up HB.out)
 clear ho
 have HV:=hide hv
 clear hv
 have hcs:=hide fun (w':World) (q:Below (two w [.string nm,.slice rA rn rc,.slice oA on oc,.slice tA tm tc,.slice lA ln lc,.int .i64 ar,.slice bA bn bc] 28 [.int .i64 k,.int .i64 l,.slice pA pn pc,.int .i64 n] 38).heap.size (two w [.string nm,.slice rA rn rc,.slice oA on oc,.slice tA tm tc,.slice lA ln lc,.int .i64 ar,.slice bA bn bc] 28 [.int .i64 k,.int .i64 l,.slice pA pn pc,.int .i64 n] 38) w')=>(show w'.cell? ⟨w.heap.size,0,none⟩=some (.string nm)∧w'.cell? ⟨w.heap.size,1,none⟩=some (.slice rA rn rc)∧w'.cell? ⟨w.heap.size,2,none⟩=some (.slice oA on oc)∧w'.cell? ⟨w.heap.size,3,none⟩=some (.slice tA tm tc)∧w'.cell? ⟨w.heap.size,4,none⟩=some (.slice lA ln lc)∧w'.cell? ⟨w.heap.size,5,none⟩=some (.int .i64 ar)∧w'.cell? ⟨w.heap.size,6,none⟩=some (.slice bA bn bc)∧w'.cell? ⟨w.heap.size+1,0,none⟩=some (.int .i64 k)∧w'.cell? ⟨w.heap.size+1,1,none⟩=some (.int .i64 l)∧w'.cell? ⟨w.heap.size+1,2,none⟩=some (.slice pA pn pc)∧w'.cell? ⟨w.heap.size+1,3,none⟩=some (.int .i64 n) from by
  obtain ⟨hcp,hcr⟩:=two_cells (w:=w) (cs:=[.string nm,.slice rA rn rc,.slice oA on oc,.slice tA tm tc,.slice lA ln lc,.int .i64 ar,.slice bA bn bc]) (T:=28) (ds:=[.int .i64 k,.int .i64 l,.slice pA pn pc,.int .i64 n]) (U:=38) q
  exact ⟨hcp 0 _ rfl,hcp 1 _ rfl,hcp 2 _ rfl,hcp 3 _ rfl,hcp 4 _ rfl,hcp 5 _ rfl,hcp 6 _ rfl,hcr 0 _ rfl,hcr 1 _ rfl,hcr 2 _ rfl,hcr 3 _ rfl⟩)
 go_enter Tryz.func14,Tryz.ntmps14
 go_wp2
 have HW0:=hide ((Below.refl (two w [.string nm,.slice rA rn rc,.slice oA on oc,.slice tA tm tc,.slice lA ln lc,.int .i64 ar,.slice bA bn bc] 28 [.int .i64 k,.int .i64 l,.slice pA pn pc,.int .i64 n] 38).heap.size (two w [.string nm,.slice rA rn rc,.slice oA on oc,.slice tA tm tc,.slice lA ln lc,.int .i64 ar,.slice bA bn bc] 28 [.int .i64 k,.int .i64 l,.slice pA pn pc,.int .i64 n] 38)).drew)
 refine wp_region_held_drew (S:=(fun w'=>w'.cell? ⟨w.heap.size,0,none⟩=some (.string nm)∧w'.cell? ⟨w.heap.size,1,none⟩=some (.slice rA rn rc)∧w'.cell? ⟨w.heap.size,2,none⟩=some (.slice oA on oc)∧w'.cell? ⟨w.heap.size,3,none⟩=some (.slice tA tm tc)∧w'.cell? ⟨w.heap.size,4,none⟩=some (.slice lA ln lc)∧w'.cell? ⟨w.heap.size,5,none⟩=some (.int .i64 ar)∧w'.cell? ⟨w.heap.size,6,none⟩=some (.slice bA bn bc)∧w'.cell? ⟨w.heap.size+1,0,none⟩=some (.int .i64 k)∧w'.cell? ⟨w.heap.size+1,1,none⟩=some (.int .i64 l)∧w'.cell? ⟨w.heap.size+1,2,none⟩=some (.slice pA pn pc)∧w'.cell? ⟨w.heap.size+1,3,none⟩=some (.int .i64 n))) (by kernel_rfl) (hcs.out _ HW0.out) (fun hHeld=>?_)
 refine planS [0,2] ?_
 repeat' (first | refine pT hHeld rfl ?_ | refine pS hHeld rfl ?_)
 refine planE ?_
 refine wpAnyH_ready (rs:=[1]) (by kernel_rfl) (by simp) ?_
 refine AllReadyH.cons rfl (fun KZ hK=>?_) AllReadyH.nil
 go_simp
 refine (cnew_any (HX.out.up HW0.out) HF.out (HT.out.up HW0.out)).mono ?_
 rintro e1 w1 ⟨K,hKB,hKx,rfl,hck,hb1⟩
 have HW1:=hide (HW0.out.trans (hb1.mono HW0.out.size))
 clear hb1
 have HK1:=hide hck
 clear hck
 have HKB:=hide (hKB.trans (drew_size9 _))
 clear hKB
 have HKX:=hide hKx
 clear hKx
 have HVK:=hide (show opErr K.E (OpW.v ⟨k,⟨l,pA,pn,pc,ps⟩,n⟩)=v from by rw [show K.E=wE K.x from rfl,HKX.out];exact HV.out)
 have HOK:=hide (show OneOp w1 K.B ⟨k,⟨l,pA,pn,pc,ps⟩,n⟩ from by rw [HKB.out];exact HO.out.below HW1.out)
 refine hK.out _ _ (hcs.out _ HW1.out) (fun hHeld=>?_)
 clear hK KZ
 try simp only [Act.put,List.setIfInBounds_toArray,List.set_cons_zero,List.set_cons_succ]
 refine wpAnyH_ready (rs:=[3]) (by kernel_rfl) (by simp) ?_
 refine AllReadyH.cons rfl (fun KZ hK=>?_) AllReadyH.nil
 go_simp
 refine (cop_is HK1.out HOK.out HVK.out).mono ?_
 exact VcVz0
theorem vStmt_is {x:BdW} {o:StW} {v:Int} {w:World} (h:VB w x) (hf:x.types.n≤1000) (ht:OpsT w) (ho:OneSt w w.heap.size o) (hv:stErr (wE x) o.v=v) :
 Calls Tryz.prog 17 #[aggBd x,aggSt o] w fun e w'=>e=.returned (.int .i64 v)∧Below w.heap.size w w':=by
 obtain ⟨nm,⟨rA,rn,rc,rL⟩,⟨oA,on,oc,oL⟩,⟨tA,tm,tc,tL⟩,⟨lA,ln,lc,lL⟩,ar,⟨bA,bn,bc,bL⟩⟩:=x
 obtain ⟨k,⟨l,pA,pn,pc,ps⟩,⟨rk,op,rg,mu,⟨rl,qA,qn,qc,qs⟩,⟨gA,gn,gc,gL⟩⟩,lo⟩:=o
 have HB:=hide (two_below w [.string nm,.slice rA rn rc,.slice oA on oc,.slice tA tm tc,.slice lA ln lc,.int .i64 ar,.slice bA bn bc] 28 [.int .i64 k,.int .i64 l,.slice pA pn pc,.int .i64 rk,.int .i64 op,.int .i64 rg,.bool mu,.int .i64 rl,.slice qA qn qc,.slice gA gn gc,.int .i64 lo] 46)
 have HX:=hide (h.up HB.out)
 clear h
 have HT:=hide (ht.up HB.out)
 clear ht
 have HF:=hide hf
 clear hf
 have HO:=hide (ho.up HB.out)
 clear ho
 have HV:=hide hv
 clear hv
 have hcs:=hide fun (w':World) (q:Below (two w [.string nm,.slice rA rn rc,.slice oA on oc,.slice tA tm tc,.slice lA ln lc,.int .i64 ar,.slice bA bn bc] 28 [.int .i64 k,.int .i64 l,.slice pA pn pc,.int .i64 rk,.int .i64 op,.int .i64 rg,.bool mu,.int .i64 rl,.slice qA qn qc,.slice gA gn gc,.int .i64 lo] 46).heap.size (two w [.string nm,.slice rA rn rc,.slice oA on oc,.slice tA tm tc,.slice lA ln lc,.int .i64 ar,.slice bA bn bc] 28 [.int .i64 k,.int .i64 l,.slice pA pn pc,.int .i64 rk,.int .i64 op,.int .i64 rg,.bool mu,.int .i64 rl,.slice qA qn qc,.slice gA gn gc,.int .i64 lo] 46) w')=>(show w'.cell? ⟨w.heap.size,0,none⟩=some (.string nm)∧w'.cell? ⟨w.heap.size,1,none⟩=some (.slice rA rn rc)∧w'.cell? ⟨w.heap.size,2,none⟩=some (.slice oA on oc)∧w'.cell? ⟨w.heap.size,3,none⟩=some (.slice tA tm tc)∧w'.cell? ⟨w.heap.size,4,none⟩=some (.slice lA ln lc)∧w'.cell? ⟨w.heap.size,5,none⟩=some (.int .i64 ar)∧w'.cell? ⟨w.heap.size,6,none⟩=some (.slice bA bn bc)∧w'.cell? ⟨w.heap.size+1,0,none⟩=some (.int .i64 k)∧w'.cell? ⟨w.heap.size+1,1,none⟩=some (.int .i64 l)∧w'.cell? ⟨w.heap.size+1,2,none⟩=some (.slice pA pn pc)∧w'.cell? ⟨w.heap.size+1,3,none⟩=some (.int .i64 rk)∧w'.cell? ⟨w.heap.size+1,4,none⟩=some (.int .i64 op)∧w'.cell? ⟨w.heap.size+1,5,none⟩=some (.int .i64 rg)∧w'.cell? ⟨w.heap.size+1,6,none⟩=some (.bool mu)∧w'.cell? ⟨w.heap.size+1,7,none⟩=some (.int .i64 rl)∧w'.cell? ⟨w.heap.size+1,8,none⟩=some (.slice qA qn qc)∧w'.cell? ⟨w.heap.size+1,9,none⟩=some (.slice gA gn gc)∧w'.cell? ⟨w.heap.size+1,10,none⟩=some (.int .i64 lo) from by
  obtain ⟨hcp,hcr⟩:=two_cells (w:=w) (cs:=[.string nm,.slice rA rn rc,.slice oA on oc,.slice tA tm tc,.slice lA ln lc,.int .i64 ar,.slice bA bn bc]) (T:=28) (ds:=[.int .i64 k,.int .i64 l,.slice pA pn pc,.int .i64 rk,.int .i64 op,.int .i64 rg,.bool mu,.int .i64 rl,.slice qA qn qc,.slice gA gn gc,.int .i64 lo]) (U:=46) q
  exact ⟨hcp 0 _ rfl,hcp 1 _ rfl,hcp 2 _ rfl,hcp 3 _ rfl,hcp 4 _ rfl,hcp 5 _ rfl,hcp 6 _ rfl,hcr 0 _ rfl,hcr 1 _ rfl,hcr 2 _ rfl,hcr 3 _ rfl,hcr 4 _ rfl,hcr 5 _ rfl,hcr 6 _ rfl,hcr 7 _ rfl,hcr 8 _ rfl,hcr 9 _ rfl,hcr 10 _ rfl⟩)
 go_enter Tryz.func17,Tryz.ntmps17
 go_wp2
 have HW0:=hide ((Below.refl (two w [.string nm,.slice rA rn rc,.slice oA on oc,.slice tA tm tc,.slice lA ln lc,.int .i64 ar,.slice bA bn bc] 28 [.int .i64 k,.int .i64 l,.slice pA pn pc,.int .i64 rk,.int .i64 op,.int .i64 rg,.bool mu,.int .i64 rl,.slice qA qn qc,.slice gA gn gc,.int .i64 lo] 46).heap.size (two w [.string nm,.slice rA rn rc,.slice oA on oc,.slice tA tm tc,.slice lA ln lc,.int .i64 ar,.slice bA bn bc] 28 [.int .i64 k,.int .i64 l,.slice pA pn pc,.int .i64 rk,.int .i64 op,.int .i64 rg,.bool mu,.int .i64 rl,.slice qA qn qc,.slice gA gn gc,.int .i64 lo] 46)).drew)
 refine wp_region_held_drew (S:=(fun w'=>w'.cell? ⟨w.heap.size,0,none⟩=some (.string nm)∧w'.cell? ⟨w.heap.size,1,none⟩=some (.slice rA rn rc)∧w'.cell? ⟨w.heap.size,2,none⟩=some (.slice oA on oc)∧w'.cell? ⟨w.heap.size,3,none⟩=some (.slice tA tm tc)∧w'.cell? ⟨w.heap.size,4,none⟩=some (.slice lA ln lc)∧w'.cell? ⟨w.heap.size,5,none⟩=some (.int .i64 ar)∧w'.cell? ⟨w.heap.size,6,none⟩=some (.slice bA bn bc)∧w'.cell? ⟨w.heap.size+1,0,none⟩=some (.int .i64 k)∧w'.cell? ⟨w.heap.size+1,1,none⟩=some (.int .i64 l)∧w'.cell? ⟨w.heap.size+1,2,none⟩=some (.slice pA pn pc)∧w'.cell? ⟨w.heap.size+1,3,none⟩=some (.int .i64 rk)∧w'.cell? ⟨w.heap.size+1,4,none⟩=some (.int .i64 op)∧w'.cell? ⟨w.heap.size+1,5,none⟩=some (.int .i64 rg)∧w'.cell? ⟨w.heap.size+1,6,none⟩=some (.bool mu)∧w'.cell? ⟨w.heap.size+1,7,none⟩=some (.int .i64 rl)∧w'.cell? ⟨w.heap.size+1,8,none⟩=some (.slice qA qn qc)∧w'.cell? ⟨w.heap.size+1,9,none⟩=some (.slice gA gn gc)∧w'.cell? ⟨w.heap.size+1,10,none⟩=some (.int .i64 lo))) (by kernel_rfl) (hcs.out _ HW0.out) (fun hHeld=>?_)
 refine planS [0,2] ?_
 repeat' (first | refine pT hHeld rfl ?_ | refine pS hHeld rfl ?_)
 refine planE ?_
 refine wpAnyH_ready (rs:=[1]) (by kernel_rfl) (by simp) ?_
 refine AllReadyH.cons rfl (fun KZ hK=>?_) AllReadyH.nil
 go_simp
 refine (cnew_any (HX.out.up HW0.out) HF.out (HT.out.up HW0.out)).mono ?_
 rintro e1 w1 ⟨K,hKB,hKx,rfl,hck,hb1⟩
 have HW1:=hide (HW0.out.trans (hb1.mono HW0.out.size))
 clear hb1
 have HK1:=hide hck
 clear hck
 have HKB:=hide (hKB.trans (drew_size9 _))
 clear hKB
 have HKX:=hide hKx
 clear hKx
 have HVK:=hide (show stErr K.E (StW.v ⟨k,⟨l,pA,pn,pc,ps⟩,⟨rk,op,rg,mu,⟨rl,qA,qn,qc,qs⟩,⟨gA,gn,gc,gL⟩⟩,lo⟩)=v from by rw [show K.E=wE K.x from rfl,HKX.out];exact HV.out)
 have HOK:=hide (show OneSt w1 K.B ⟨k,⟨l,pA,pn,pc,ps⟩,⟨rk,op,rg,mu,⟨rl,qA,qn,qc,qs⟩,⟨gA,gn,gc,gL⟩⟩,lo⟩ from by rw [HKB.out];exact HO.out.below HW1.out)
 refine hK.out _ _ (hcs.out _ HW1.out) (fun hHeld=>?_)
 clear hK KZ
 try simp only [Act.put,List.setIfInBounds_toArray,List.set_cons_zero,List.set_cons_succ]
 refine wpAnyH_ready (rs:=[3]) (by kernel_rfl) (by simp) ?_
 refine AllReadyH.cons rfl (fun KZ hK=>?_) AllReadyH.nil
 go_simp
 refine (cst_is HK1.out HOK.out HVK.out).mono ?_
 exact VcVz0
theorem vTerm_is {x:BdW} {o:TmW} {v:Int} {w:World} (h:VB w x) (hf:x.types.n≤1000) (ht:OpsT w) (ho:OneTm w w.heap.size o) (hv:tmErr (wE x) o.v=v) :
 Calls Tryz.prog 19 #[aggBd x,aggTm o] w fun e w'=>e=.returned (.int .i64 v)∧Below w.heap.size w w':=by
 obtain ⟨nm,⟨rA,rn,rc,rL⟩,⟨oA,on,oc,oL⟩,⟨tA,tm,tc,tL⟩,⟨lA,ln,lc,lL⟩,ar,⟨bA,bn,bc,bL⟩⟩:=x
 obtain ⟨k,⟨xA,xn,xc,xL⟩,⟨gA,gn,gc,gL⟩,⟨l,pA,pn,pc,ps⟩,tn⟩:=o
 have HB:=hide (two_below w [.string nm,.slice rA rn rc,.slice oA on oc,.slice tA tm tc,.slice lA ln lc,.int .i64 ar,.slice bA bn bc] 28 [.int .i64 k,.slice xA xn xc,.slice gA gn gc,.int .i64 l,.slice pA pn pc,.string tn] 50)
 have HX:=hide (h.up HB.out)
 clear h
 have HT:=hide (ht.up HB.out)
 clear ht
 have HF:=hide hf
 clear hf
 have HO:=hide (ho.up HB.out)
 clear ho
 have HV:=hide hv
 clear hv
 have hcs:=hide fun (w':World) (q:Below (two w [.string nm,.slice rA rn rc,.slice oA on oc,.slice tA tm tc,.slice lA ln lc,.int .i64 ar,.slice bA bn bc] 28 [.int .i64 k,.slice xA xn xc,.slice gA gn gc,.int .i64 l,.slice pA pn pc,.string tn] 50).heap.size (two w [.string nm,.slice rA rn rc,.slice oA on oc,.slice tA tm tc,.slice lA ln lc,.int .i64 ar,.slice bA bn bc] 28 [.int .i64 k,.slice xA xn xc,.slice gA gn gc,.int .i64 l,.slice pA pn pc,.string tn] 50) w')=>(show w'.cell? ⟨w.heap.size,0,none⟩=some (.string nm)∧w'.cell? ⟨w.heap.size,1,none⟩=some (.slice rA rn rc)∧w'.cell? ⟨w.heap.size,2,none⟩=some (.slice oA on oc)∧w'.cell? ⟨w.heap.size,3,none⟩=some (.slice tA tm tc)∧w'.cell? ⟨w.heap.size,4,none⟩=some (.slice lA ln lc)∧w'.cell? ⟨w.heap.size,5,none⟩=some (.int .i64 ar)∧w'.cell? ⟨w.heap.size,6,none⟩=some (.slice bA bn bc)∧w'.cell? ⟨w.heap.size+1,0,none⟩=some (.int .i64 k)∧w'.cell? ⟨w.heap.size+1,1,none⟩=some (.slice xA xn xc)∧w'.cell? ⟨w.heap.size+1,2,none⟩=some (.slice gA gn gc)∧w'.cell? ⟨w.heap.size+1,3,none⟩=some (.int .i64 l)∧w'.cell? ⟨w.heap.size+1,4,none⟩=some (.slice pA pn pc)∧w'.cell? ⟨w.heap.size+1,5,none⟩=some (.string tn) from by
  obtain ⟨hcp,hcr⟩:=two_cells (w:=w) (cs:=[.string nm,.slice rA rn rc,.slice oA on oc,.slice tA tm tc,.slice lA ln lc,.int .i64 ar,.slice bA bn bc]) (T:=28) (ds:=[.int .i64 k,.slice xA xn xc,.slice gA gn gc,.int .i64 l,.slice pA pn pc,.string tn]) (U:=50) q
  exact ⟨hcp 0 _ rfl,hcp 1 _ rfl,hcp 2 _ rfl,hcp 3 _ rfl,hcp 4 _ rfl,hcp 5 _ rfl,hcp 6 _ rfl,hcr 0 _ rfl,hcr 1 _ rfl,hcr 2 _ rfl,hcr 3 _ rfl,hcr 4 _ rfl,hcr 5 _ rfl⟩)
 go_enter Tryz.func19,Tryz.ntmps19
 go_wp2
 have HW0:=hide ((Below.refl (two w [.string nm,.slice rA rn rc,.slice oA on oc,.slice tA tm tc,.slice lA ln lc,.int .i64 ar,.slice bA bn bc] 28 [.int .i64 k,.slice xA xn xc,.slice gA gn gc,.int .i64 l,.slice pA pn pc,.string tn] 50).heap.size (two w [.string nm,.slice rA rn rc,.slice oA on oc,.slice tA tm tc,.slice lA ln lc,.int .i64 ar,.slice bA bn bc] 28 [.int .i64 k,.slice xA xn xc,.slice gA gn gc,.int .i64 l,.slice pA pn pc,.string tn] 50)).drew)
 refine wp_region_held_drew (S:=(fun w'=>w'.cell? ⟨w.heap.size,0,none⟩=some (.string nm)∧w'.cell? ⟨w.heap.size,1,none⟩=some (.slice rA rn rc)∧w'.cell? ⟨w.heap.size,2,none⟩=some (.slice oA on oc)∧w'.cell? ⟨w.heap.size,3,none⟩=some (.slice tA tm tc)∧w'.cell? ⟨w.heap.size,4,none⟩=some (.slice lA ln lc)∧w'.cell? ⟨w.heap.size,5,none⟩=some (.int .i64 ar)∧w'.cell? ⟨w.heap.size,6,none⟩=some (.slice bA bn bc)∧w'.cell? ⟨w.heap.size+1,0,none⟩=some (.int .i64 k)∧w'.cell? ⟨w.heap.size+1,1,none⟩=some (.slice xA xn xc)∧w'.cell? ⟨w.heap.size+1,2,none⟩=some (.slice gA gn gc)∧w'.cell? ⟨w.heap.size+1,3,none⟩=some (.int .i64 l)∧w'.cell? ⟨w.heap.size+1,4,none⟩=some (.slice pA pn pc)∧w'.cell? ⟨w.heap.size+1,5,none⟩=some (.string tn))) (by kernel_rfl) (hcs.out _ HW0.out) (fun hHeld=>?_)
 refine planS [0,2] ?_
 repeat' (first | refine pT hHeld rfl ?_ | refine pS hHeld rfl ?_)
 refine planE ?_
 refine wpAnyH_ready (rs:=[1]) (by kernel_rfl) (by simp) ?_
 refine AllReadyH.cons rfl (fun KZ hK=>?_) AllReadyH.nil
 go_simp
 refine (cnew_any (HX.out.up HW0.out) HF.out (HT.out.up HW0.out)).mono ?_
 rintro e1 w1 ⟨K,hKB,hKx,rfl,hck,hb1⟩
 have HW1:=hide (HW0.out.trans (hb1.mono HW0.out.size))
 clear hb1
 have HK1:=hide hck
 clear hck
 have HKB:=hide (hKB.trans (drew_size9 _))
 clear hKB
 have HKX:=hide hKx
 clear hKx
 have HVK:=hide (show tmErr K.E (TmW.v ⟨k,⟨xA,xn,xc,xL⟩,⟨gA,gn,gc,gL⟩,⟨l,pA,pn,pc,ps⟩,tn⟩)=v from by rw [show K.E=wE K.x from rfl,HKX.out];exact HV.out)
 have HOK:=hide (show OneTm w1 K.B ⟨k,⟨xA,xn,xc,xL⟩,⟨gA,gn,gc,gL⟩,⟨l,pA,pn,pc,ps⟩,tn⟩ from by rw [HKB.out];exact HO.out.below HW1.out)
 refine hK.out _ _ (hcs.out _ HW1.out) (fun hHeld=>?_)
 clear hK KZ
 try simp only [Act.put,List.setIfInBounds_toArray,List.set_cons_zero,List.set_cons_succ]
 refine wpAnyH_ready (rs:=[3]) (by kernel_rfl) (by simp) ?_
 refine AllReadyH.cons rfl (fun KZ hK=>?_) AllReadyH.nil
 go_simp
 refine (cterm_is HK1.out HOK.out HVK.out).mono ?_
 exact VcVz0
theorem vCheck_is {x:BdW} {v:Int} {w:World} (h:OneBd w w.heap.size x) (hf:x.types.n≤1000) (ht:OpsT w) (hv:bdErr x.v=v) :
 Calls Tryz.prog 11 #[aggBd x] w fun e w'=>e=.returned (.int .i64 v)∧Below w.heap.size w w':=by
 have HF:=hide hf
 obtain ⟨de,hde⟩:∃ z,deErr x.v=z:=⟨_,rfl⟩
 have hE:=wE_v x
 have hbl:x.blocks.L.length=x.blocks.n:=h.blocks.len
 have hbm:x.blocks.n≤maxLen:=h.blocks.nm
 unfold maxLen at hbm
 have hv9:(if de≠0 then de else bksErr (wE x) (x.blocks.L.map BkW.v))=v:=by
  rw [←hv,← hde,← hE]
  rfl
 have hone:∀ w',Below w.heap.size w w'→OneBd w' w'.heap.size x:=fun w' q=>h.up q
 have hvb:de=0→DeOk x.v:=fun e=>deErr_ok (hde.trans e)
 obtain ⟨nm,⟨rA,rn,rc,rL⟩,⟨oA,on,oc,oL⟩,⟨tA,tm,tc,tL⟩,⟨lA,ln,lc,lL⟩,ar,⟨bA,bn,bc,bL⟩⟩:=x
 clear hv hE hone hf
 have hbl:bL.length=bn:=hbl
 have hbm:bn≤2 ^ 63 - 1:=hbm
 have HB:=hide (below1 w (.cells #[.string nm,.slice rA rn rc,.slice oA on oc,.slice tA tm tc,.slice lA ln lc,.int .i64 ar,.slice bA bn bc] 28))
 have HX:=hide (h.up HB.out)
 clear h
 have HT:=hide (ht.up HB.out)
 clear ht
 have HC:=hide (cde_is HX.out hde)
 clear hde
 have hcs:=hide fun (w':World) (q:Below (w.alloc (.cells #[.string nm,.slice rA rn rc,.slice oA on oc,.slice tA tm tc,.slice lA ln lc,.int .i64 ar,.slice bA bn bc] 28)).heap.size (w.alloc (.cells #[.string nm,.slice rA rn rc,.slice oA on oc,.slice tA tm tc,.slice lA ln lc,.int .i64 ar,.slice bA bn bc] 28)) w')=>one_cells (cs:=[.string nm,.slice rA rn rc,.slice oA on oc,.slice tA tm tc,.slice lA ln lc,.int .i64 ar,.slice bA bn bc]) q
 by_cases hd:de=0
 case neg=>
  have t0:(de != 0)=true:=by simp [hd]
  rw [if_pos hd] at hv9
  obtain rfl:de=v:=hv9
  clear hd hvb hbl
  go_enter Tryz.func11,Tryz.ntmps11
  go_wp2_with fail
  refine HC.out.mono ?_
  rintro e1 w1 ⟨rfl,hb1⟩
  have HW1:=hide (HB.out.trans (hb1.mono HB.out.size))
  clear hb1
  go_wp2
  go_ret
  exact ⟨rfl,HW1.out⟩
 subst hd
 rw [if_neg (by simp)] at hv9
 have HOK:=hide (hvb rfl)
 clear hvb
 have HV:=hide hv9
 clear hv9
 have HLen:=hide hbl
 clear hbl
 go_enter Tryz.func11,Tryz.ntmps11
 go_wp2_with fail
 refine HC.out.mono ?_
 rintro e1 w1 ⟨rfl,hb1⟩
 have HW1:=hide hb1
 clear hb1
 have c1_0:=hcs.out w1 HW1.out 0 (.string nm) rfl
 have c1_1:=hcs.out w1 HW1.out 1 (.slice rA rn rc) rfl
 have c1_2:=hcs.out w1 HW1.out 2 (.slice oA on oc) rfl
 have c1_3:=hcs.out w1 HW1.out 3 (.slice tA tm tc) rfl
 have c1_4:=hcs.out w1 HW1.out 4 (.slice lA ln lc) rfl
 have c1_5:=hcs.out w1 HW1.out 5 (.int .i64 ar) rfl
 have c1_6:=hcs.out w1 HW1.out 6 (.slice bA bn bc) rfl
 go_wp2_with fail
 refine (cnew_any ⟨HX.out.up HW1.out,HOK.out⟩ HF.out (HT.out.up HW1.out)).mono ?_
 rintro e2 w2 ⟨K,hKB,hKx,rfl,hck,hb2⟩
 clear c1_0 c1_1 c1_2 c1_3 c1_4 c1_5 c1_6
 have HW2:=hide (HW1.out.trans (hb2.mono HW1.out.size))
 clear hb2
 have HK:=hide hck
 clear hck
 have HKB:=hide hKB
 clear hKB
 have HKX:=hide hKx
 clear hKx
 have c2_6:=hcs.out w2 HW2.out 6 (.slice bA bn bc) rfl
 have hlow:∀ w',Wy K w2 w'→Below (w.alloc (.cells #[.string nm,.slice rA rn rc,.slice oA on oc,.slice tA tm tc,.slice lA ln lc,.int .i64 ar,.slice bA bn bc] 28)).heap.size (w.alloc (.cells #[.string nm,.slice rA rn rc,.slice oA on oc,.slice tA tm tc,.slice lA ln lc,.int .i64 ar,.slice bA bn bc] 28)) w':=fun w' q=>HW2.out.trans ((q.low HK.out).mono (by rw [HKB.out];exact HW1.out.size))
 have HLOW:=hide hlow
 clear hlow
 go_wp2
 go_loopw [18] (fun i wr=>∃ j:Nat,i=.int .i64 (j:Int)∧j≤bn∧Hid (bksErr (wE ⟨nm,⟨rA,rn,rc,rL⟩,⟨oA,on,oc,oL⟩,⟨tA,tm,tc,tL⟩,⟨lA,ln,lc,lL⟩,ar,⟨bA,bn,bc,bL⟩⟩) ((bL.map BkW.v).drop j)=v)∧Hid (Wy K w2 wr)) (fun i _=>bn - (intOf i).toNat)
 case atStart=>exact ⟨0,rfl,Nat.zero_le _,hide HV.out,hide (Wy.refl HK.out)⟩
 case round=>
  obtain ⟨j,rfl,hj,HE,HW⟩:=hrel
  by_cases hlt:j < bn
  ·
   have hlt':(j:Int) < (bn:Int):=by omega
   obtain ⟨p,hp⟩:∃ p,bL[j]?=some p:=⟨_,List.getElem?_eq_getElem (by have:bL.length=bn:=HLen.out;omega)⟩
   have hpv:(bL.map BkW.v)[j]?=some p.v:=by rw [List.getElem?_map,hp];rfl
   have hax:SlH wr (w.alloc (.cells #[.string nm,.slice rA rn rc,.slice oA on oc,.slice tA tm tc,.slice lA ln lc,.int .i64 ar,.slice bA bn bc] 28)).heap.size 7 cBk (OneBk wr (w.alloc (.cells #[.string nm,.slice rA rn rc,.slice oA on oc,.slice tA tm tc,.slice lA ln lc,.int .i64 ar,.slice bA bn bc] 28)).heap.size) ⟨bA,bn,bc,bL⟩:=(HX.out.below (HLOW.out _ HW.out)).blocks
   obtain ⟨b,o,hA,_,hone,hc⟩:=hax.at_ hp
   have hA:bA=some ⟨b,o,none⟩:=hA
   subst hA
   obtain ⟨⟨sA,sn,sc,sL⟩,⟨k,⟨xA,xn,xc,xL⟩,⟨gA,gn,gc,gL⟩,⟨l,pA,pn,pc,ps⟩,tn⟩⟩:=p
   have c0:wr.cell? ⟨b,o+j*7,none⟩=some (.slice sA sn sc):=hc 0 _ rfl
   have c1:wr.cell? ⟨b,o+j*7+1,none⟩=some (.int .i64 k):=hc 1 _ rfl
   have c2:wr.cell? ⟨b,o+j*7+2,none⟩=some (.slice xA xn xc):=hc 2 _ rfl
   have c3:wr.cell? ⟨b,o+j*7+3,none⟩=some (.slice gA gn gc):=hc 3 _ rfl
   have c4:wr.cell? ⟨b,o+j*7+4,none⟩=some (.int .i64 l):=hc 4 _ rfl
   have c5:wr.cell? ⟨b,o+j*7+5,none⟩=some (.slice pA pn pc):=hc 5 _ rfl
   have c6:wr.cell? ⟨b,o+j*7+6,none⟩=some (.string tn):=hc 6 _ rfl
   have hWB:=(Below.refl wr.heap.size wr).alloc (Nat.le_refl _) (.cells #[.slice sA sn sc,.int .i64 k,.slice xA xn xc,.slice gA gn gc,.int .i64 l,.slice pA pn pc,.string tn] 52)
   have HW3:=hide (HW.out.up hWB)
   have hBle:(w.alloc (.cells #[.string nm,.slice rA rn rc,.slice oA on oc,.slice tA tm tc,.slice lA ln lc,.int .i64 ar,.slice (some ⟨b,o,none⟩) bn bc] 28)).heap.size≤K.B:=by rw [HKB.out];exact HW1.out.size
   have HO:=hide ((hone.more hBle).below (hWB.mono HW.out.ck.bs))
   have HS:=hide (bksErr_at (E:=wE ⟨nm,⟨rA,rn,rc,rL⟩,⟨oA,on,oc,oL⟩,⟨tA,tm,tc,tL⟩,⟨lA,ln,lc,lL⟩,ar,⟨some ⟨b,o,none⟩,bn,bc,bL⟩⟩) hpv)
   obtain ⟨c,hcv⟩:∃ c,bkErr (wE ⟨nm,⟨rA,rn,rc,rL⟩,⟨oA,on,oc,oL⟩,⟨tA,tm,tc,tL⟩,⟨lA,ln,lc,lL⟩,ar,⟨some ⟨b,o,none⟩,bn,bc,bL⟩⟩) (BkW.v ⟨⟨sA,sn,sc,sL⟩,⟨k,⟨xA,xn,xc,xL⟩,⟨gA,gn,gc,gL⟩,⟨l,pA,pn,pc,ps⟩,tn⟩⟩)=c:=⟨_,rfl⟩
   clear hp hpv hax hone hc hWB hBle
   have HCV:=hide hcv
   have HC2:=hide (cblk_is HW3.out.ck HO.out (show bkErr K.E _=c from by rw [show K.E=wE K.x from rfl,HKX.out];exact hcv))
   clear hcv
   by_cases h0:c=0
   ·
    subst h0
    have HN:=hide (show bksErr (wE ⟨nm,⟨rA,rn,rc,rL⟩,⟨oA,on,oc,oL⟩,⟨tA,tm,tc,tL⟩,⟨lA,ln,lc,lL⟩,ar,⟨some ⟨b,o,none⟩,bn,bc,bL⟩⟩) ((bL.map BkW.v).drop (j+1))=v from by rw [←HE.out,HS.out,if_neg (by rw [HCV.out];simp)])
    go_wp2_with fail
    refine HC2.out.mono ?_
    rintro e4 w4 ⟨rfl,hb4⟩
    have HW4:=hide (HW3.out.trans hb4)
    clear hb4
    go_wp2
    go_roundw
    case rel=>exact ⟨j+1,by go_num,by omega,hide HN.out,hide HW4.out⟩
    case measure=>simp [intOf];omega
   ·
    have t0:(c != 0)=true:=by simp [h0]
    have HVc:=hide (show v=c from by rw [←HE.out,HS.out,HCV.out,if_pos h0])
    clear h0
    go_wp2_with fail
    refine HC2.out.mono ?_
    rintro e4 w4 ⟨rfl,hb4⟩
    have HW4:=hide (HW3.out.trans hb4)
    clear hb4
    go_wp2
    go_ret
    exact ⟨congrArg (fun v=>Ending.returned (.int .i64 v)) HVc.out.symm,HB.out.trans ((HLOW.out _ HW4.out).mono HB.out.size)⟩
  ·
   obtain rfl:bn=j:=by omega
   have HVc:=hide (show v=0 from by rw [←HE.out];exact bksErr_end (by rw [List.length_map];have:bL.length=bn:=HLen.out;omega))
   go_wp2
   go_ret
   exact ⟨congrArg (fun v=>Ending.returned (.int .i64 v)) HVc.out.symm,HB.out.trans ((HLOW.out _ HW.out).mono HB.out.size)⟩
end Go.Proofs.YtfgacmgjpikgaaaGreatDoor
