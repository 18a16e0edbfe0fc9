/- Part 28 of the contracts and their mathematics. -/
import Derived.Test.YtfgacmgjpikgaaaGreatDoorQ26
set_option linter.unusedVariables false
set_option linter.unusedSimpArgs false
set_option maxRecDepth 100000
set_option maxHeartbeats 8000000
namespace Go.Proofs.YtfgacmgjpikgaaaGreatDoor
open Go.RowKit
def rdV (E:Env) (o:OpV):Int:=if (tyV E o.pl).2≠0 then (tyV E o.pl).2 else if (o.kind=0∧tyCop E.T (tyV E o.pl).1=false)∨(o.kind=1∧hasD o.pl.ps 0=true) then 22 else 0
theorem VcEz8 {P:Prop} (h:P:=by
 clear hb2
 obtain ⟨x20,x21,x22,x23⟩:=wy4 H0.out HW2.out
 go_wp2
 go_ret
 exact ⟨rfl,(Turn.of_below HB.out).trans HW2.out.turn,HW2.out.ck⟩):P:=h
theorem VcEz2 {P:Prop} (h:P:=by
 clear hv
 go_enter Tryz.func56,Tryz.ntmps56
 go_wp2_with fail
 refine HC.out.mono ?_
 rintro e1 w1 ⟨rfl,hb1⟩
 have HW1:=hide (Wy.new HK.out hb1)
 clear hb1
 obtain ⟨x10,x11,x12,x13⟩:=wy4 H0.out HW1.out
 go_wp2_with fail
 refine (HM.out w1 HW1.out).mono ?_
 rintro e2 w2 ⟨rfl,hb2⟩
 have HW2:=hide (HW1.out.trans hb2)
 exact VcEz8):P:=h
theorem VcEz3 {P:Prop} (h:P:=by
 clear hv
 go_enter Tryz.func56,Tryz.ntmps56
 go_wp2_with fail
 refine HC.out.mono ?_
 rintro e1 w1 ⟨rfl,hb1⟩
 have HW1:=hide (Wy.new HK.out hb1)
 clear hb1
 obtain ⟨x10,x11,x12,x13⟩:=wy4 H0.out HW1.out
 go_wp2_with fail
 refine (HM.out w1 HW1.out).mono ?_
 rintro e2 w2 ⟨rfl,hb2⟩
 have HW2:=hide (HW1.out.up hb2)
 exact VcEz8):P:=h
theorem VcEz5 {P:Prop} (h:P:=by
 rintro e1 w1 ⟨rfl,hb1⟩
 have HW1:=hide (Wy.new HK.out hb1)
 clear hb1
 obtain ⟨x10,x11,x12,x13⟩:=wy4 H0.out HW1.out
 go_wp2
 go_ret
 exact ⟨rfl,(Turn.of_below HB.out).trans HW1.out.turn,HW1.out.ck⟩):P:=h
theorem cread_is {K:CkW} {o:OpW} {v:Int} {w:World} (h:Ck K w) (ho:OneOp w K.B o) (hk:o.kind=0∨o.kind=1) (hv:rdV K.E o.v=v) :
 Calls Tryz.prog 56 #[K.ptr,aggOp o] w fun e w'=>e=.returned (.int .i64 v)∧Wy K w w':=by
 obtain ⟨k,⟨l,pA,pn,pc,ps⟩,n⟩:=o
 simp only [] at hk
 obtain ⟨tu,htu⟩:∃ u,(tyV K.E (PlW.v ⟨l,pA,pn,pc,ps⟩)).1=u:=⟨_,rfl⟩
 obtain ⟨te,hte⟩:∃ u,(tyV K.E (PlW.v ⟨l,pA,pn,pc,ps⟩)).2=u:=⟨_,rfl⟩
 have htv:tyV K.E (PlW.v ⟨l,pA,pn,pc,ps⟩)=(tu,te):=Prod.ext htu hte
 have hv0:rdV K.E (OpW.v ⟨k,⟨l,pA,pn,pc,ps⟩,n⟩)=if te≠0 then te else if (k=0∧tyCop (tys K.x.types.L) tu=false)∨(k=1∧hasD ps 0=true) then 22 else 0:=by
  rw [←htu,← hte]
  rfl
 rw [hv0] at hv
 clear hv0
 by_cases he:te=0
 ·
  subst he
  rw [if_neg (by simp)] at hv
  obtain ⟨i,ty,hi,hty⟩:=h.vb.ty (p:=PlW.v ⟨l,pA,pn,pc,ps⟩) hte
  have hi:(tyV K.E (PlW.v ⟨l,pA,pn,pc,ps⟩)).1=(i:Int):=hi
  obtain rfl:tu=(i:Int):=htu.symm.trans hi
  have hin:i < K.x.types.n:=by have h1:=(List.getElem?_eq_some_iff.1 hty).1;have h2:=h.one.types.len;omega
  rcases hk with rfl | rfl
  ·
   have HB:=hide (below1 w (.cells (cOp ⟨0,⟨l,pA,pn,pc,ps⟩,n⟩).toArray 38))
   have HK:=hide (h.up HB.out)
   have H0:=hide h
   have HO:=hide (ho.below (HB.out.mono h.bs))
   have HC:=hide (ctypeOf_is HK.out HO.out.pl htv)
   obtain ⟨b,hb⟩:∃ b,tyCop (tys K.x.types.L) (i:Int)=b:=⟨_,rfl⟩
   rw [hb] at hv
   clear h ho htu hte htv hi hty
   have HM:=hide fun (w':World) (q:Wy K (w.alloc (.cells (cOp ⟨0,⟨l,pA,pn,pc,ps⟩,n⟩).toArray 38)) w')=>cisCop_is q.ck hin hb
   clear hb
   cases b
   ·
    obtain rfl:v=22:=by rw [←hv];simp
    exact VcEz2
   ·
    obtain rfl:v=0:=by rw [←hv];simp
    exact VcEz2
  ·
   have HB:=hide (below1 w (.cells (cOp ⟨1,⟨l,pA,pn,pc,ps⟩,n⟩).toArray 38))
   have HK:=hide (h.up HB.out)
   have H0:=hide h
   have HO:=hide (ho.below (HB.out.mono h.bs))
   have HC:=hide (ctypeOf_is HK.out HO.out.pl htv)
   obtain ⟨b,hb⟩:∃ b,hasD ps 0=b:=⟨_,rfl⟩
   rw [hb] at hv
   clear h ho htu hte htv hi hty
   have HM:=hide fun (w':World) (q:Wy K (w.alloc (.cells (cOp ⟨1,⟨l,pA,pn,pc,ps⟩,n⟩).toArray 38)) w')=>HasDeref_is (x:=⟨l,pA,pn,pc,ps⟩) (f:=0) hb w' ((HO.out.pl.below (q.low HK.out)).more q.ck.bs)
   clear hb
   cases b
   ·
    obtain rfl:v=0:=by rw [←hv];simp
    exact VcEz3
   ·
    obtain rfl:v=22:=by rw [←hv];simp
    exact VcEz3
 ·
  have te0:(te != 0)=true:=by simp [he]
  rw [if_pos he] at hv
  obtain rfl:te=v:=hv
  clear htu hte he hk
  have HB:=hide (below1 w (.cells (cOp ⟨k,⟨l,pA,pn,pc,ps⟩,n⟩).toArray 38))
  have HK:=hide (h.up HB.out)
  have H0:=hide h
  have HO:=hide (ho.below (HB.out.mono h.bs))
  clear h ho
  have HC:=hide (ctypeOf_is HK.out HO.out.pl htv)
  clear htv
  go_enter Tryz.func56,Tryz.ntmps56
  go_wp2_with fail
  refine HC.out.mono ?_
  exact VcEz5
theorem opErr_pl {E:Env} {o:OpV} (hk:o.kind=0∨o.kind=1) (hn:o.n=0):opErr E o=rdV E o:=by
 unfold opErr rdV
 rw [if_neg (by omega),if_neg (by rintro (⟨h1,_⟩ | ⟨h1,_⟩) <;> omega),if_neg (by omega),if_neg (by omega)]
theorem VcEz6 {P:Prop} (h:P:=by
 go_enter Tryz.func32,Tryz.ntmps32
 go_wp2
 go_ret
 exact ⟨rfl,Turn.of_below HB.out,HK.out⟩):P:=h
theorem VcEz0 {P:Prop} (h:P:=by
 go_enter Tryz.func32,Tryz.ntmps32
 go_wp2_with fail
 refine (cZero_is (x:=⟨l,pA,pn,pc,ps⟩) hz _ (HO.out.pl.more HK.out.bs)).mono ?_
 exact VcEz5):P:=h
theorem VcEz1 {P:Prop} (h:P:=by
 have tn:(n != 0)=true:=by simp [hn]
 obtain rfl:v=2:=by
  rw [←hv]
  simp [opErr,OpW.v,hn]
 clear h ho hn hv
 exact VcEz6):P:=h
theorem VcEz4 {P:Prop} (h:P:=by
 have HC:=hide (cread_is HK.out HO.out (by simp) hrd)
 clear h ho hv hrd hn
 go_enter Tryz.func32,Tryz.ntmps32
 go_wp2_with fail
 refine HC.out.mono ?_
 rintro e1 w1 ⟨rfl,hb1⟩
 have HW1:=hide hb1
 clear hb1
 go_wp2
 go_ret
 exact ⟨rfl,(Turn.of_below HB.out).trans HW1.out.turn,HW1.out.ck⟩):P:=h
theorem VcEz7 {P:Prop} (h:P:=by
 have hz:noP (PlW.v ⟨l,pA,pn,pc,ps⟩)=false:=by simpa using hz
 obtain rfl:v=2:=by
  rw [←hv]
  simp [opErr,OpW.v,hz]
 clear h ho hv
 exact VcEz0):P:=h
theorem cop_is {K:CkW} {o:OpW} {v:Int} {w:World} (h:Ck K w) (ho:OneOp w K.B o) (hv:opErr K.E o.v=v) :
 Calls Tryz.prog 32 #[K.ptr,aggOp o] w fun e w'=>e=.returned (.int .i64 v)∧Wy K w w':=by
 obtain ⟨k,⟨l,pA,pn,pc,ps⟩,n⟩:=o
 by_cases hk:0≤k∧k≤4
 ·
  have hk:k=0∨k=1∨k=2∨k=3∨k=4:=by omega
  rcases hk with rfl | rfl | rfl | rfl | rfl
  ·
   -- kind 0
   have HB:=hide (below1 w (.cells (cOp ⟨0,⟨l,pA,pn,pc,ps⟩,n⟩).toArray 38))
   have HK:=hide (h.up HB.out)
   have H0:=hide h
   have HO:=hide (ho.below (HB.out.mono h.bs))
   by_cases hn:n=0
   ·
    have tn:(n != 0)=false:=by simp [hn]
    have hrd:rdV K.E (OpW.v ⟨0,⟨l,pA,pn,pc,ps⟩,n⟩)=v:=(opErr_pl (by simp [OpW.v]) hn).symm.trans hv
    exact VcEz4
   ·
    exact VcEz1
  ·
   -- kind 1
   have HB:=hide (below1 w (.cells (cOp ⟨1,⟨l,pA,pn,pc,ps⟩,n⟩).toArray 38))
   have HK:=hide (h.up HB.out)
   have H0:=hide h
   have HO:=hide (ho.below (HB.out.mono h.bs))
   by_cases hn:n=0
   ·
    have tn:(n != 0)=false:=by simp [hn]
    have hrd:rdV K.E (OpW.v ⟨1,⟨l,pA,pn,pc,ps⟩,n⟩)=v:=(opErr_pl (by simp [OpW.v]) hn).symm.trans hv
    exact VcEz4
   ·
    exact VcEz1
  ·
   -- kind 2
   have HB:=hide (below1 w (.cells (cOp ⟨2,⟨l,pA,pn,pc,ps⟩,n⟩).toArray 38))
   have HK:=hide (h.up HB.out)
   have H0:=hide h
   have HO:=hide (ho.below (HB.out.mono h.bs))
   by_cases hz:noP (PlW.v ⟨l,pA,pn,pc,ps⟩)=true
   ·
    obtain rfl:v=0:=by
     rw [←hv]
     simp [opErr,OpW.v,hz]
    clear h ho hv
    exact VcEz0
   ·
    exact VcEz7
  ·
   -- kind 3
   have HB:=hide (below1 w (.cells (cOp ⟨3,⟨l,pA,pn,pc,ps⟩,n⟩).toArray 38))
   have HK:=hide (h.up HB.out)
   have H0:=hide h
   have HO:=hide (ho.below (HB.out.mono h.bs))
   by_cases hz:noP (PlW.v ⟨l,pA,pn,pc,ps⟩)=true
   ·
    by_cases h0:n=0
    ·
     have t0:(n != 0)=false:=by simp [h0]
     obtain rfl:v=0:=by
      rw [←hv]
      simp [opErr,OpW.v,hz,h0]
     clear h ho h0 hv
     exact VcEz0
    ·
     have t0:(n != 0)=true:=by simp [h0]
     by_cases h1:n=1
     ·
      have t1:(n != 1)=false:=by simp [h1]
      obtain rfl:v=0:=by
       rw [←hv]
       simp [opErr,OpW.v,hz,h1]
      clear h ho h0 h1 hv
      exact VcEz0
     ·
      have t1:(n != 1)=true:=by simp [h1]
      obtain rfl:v=3:=by
       rw [←hv]
       simp [opErr,OpW.v,hz,h0,h1]
      clear h ho h0 h1 hv
      exact VcEz0
   ·
    exact VcEz7
  ·
   -- kind 4
   have HB:=hide (below1 w (.cells (cOp ⟨4,⟨l,pA,pn,pc,ps⟩,n⟩).toArray 38))
   have HK:=hide (h.up HB.out)
   have H0:=hide h
   have HO:=hide (ho.below (HB.out.mono h.bs))
   by_cases hn:n=0
   ·
    have tn:(n != 0)=false:=by simp [hn]
    by_cases hz:noP (PlW.v ⟨l,pA,pn,pc,ps⟩)=true
    ·
     obtain rfl:v=0:=by
      rw [←hv]
      simp [opErr,OpW.v,hz,hn]
     clear h ho hn hv
     exact VcEz0
    ·
     have hz:noP (PlW.v ⟨l,pA,pn,pc,ps⟩)=false:=by simpa using hz
     obtain rfl:v=2:=by
      rw [←hv]
      simp [opErr,OpW.v,hz,hn]
     clear h ho hn hv
     exact VcEz0
   ·
    exact VcEz1
 ·
  have hk2:k < 0∨4 < k:=by omega
  have hv0:opErr K.E (OpW.v ⟨k,⟨l,pA,pn,pc,ps⟩,n⟩)=14:=by unfold opErr;exact if_pos hk2
  obtain rfl:v=14:=hv.symm.trans hv0
  have t0:(k == 0)=false:=by rw [beq_eq_false_iff_ne];omega
  have t1:(k == 1)=false:=by rw [beq_eq_false_iff_ne];omega
  have t2:(k == 2)=false:=by rw [beq_eq_false_iff_ne];omega
  have t3:(k == 3)=false:=by rw [beq_eq_false_iff_ne];omega
  have t4:(k == 4)=false:=by rw [beq_eq_false_iff_ne];omega
  have t9:(k != 4)=true:=by rw [bne_iff_ne];omega
  clear hk hk2 hv hv0
  have HB:=hide (below1 w (.cells (cOp ⟨k,⟨l,pA,pn,pc,ps⟩,n⟩).toArray 38))
  have HK:=hide (h.up HB.out)
  have H0:=hide h
  have HO:=hide (ho.below (HB.out.mono h.bs))
  clear h ho
  exact VcEz6
theorem opErr_zero {E:Env} {o:OpV} (h:opErr E o=0):(o.kind=2∨o.kind=3∨o.kind=4)∨((o.kind=0∨o.kind=1)∧(tyV E o.pl).2=0):=by
 unfold opErr at h
 split at h
 ·
  cases h
 rename_i h1
 split at h
 ·
  cases h
 split at h
 ·
  cases h
 split at h
 ·
  left;omega
 rename_i h4
 split at h
 ·
  rename_i h5;exact absurd h h5
 rename_i h5
 right
 exact ⟨by omega,Decidable.not_not.1 h5⟩
theorem fitK_kd {E:Env} {o:OpV} (h:opErr E o=0) (kd:Int):fitK E o kd=decide (kdV E o=kd):=by
 rcases opErr_zero h with (e | e | e) | ⟨e | e,_⟩ <;> unfold fitK kdV conK <;> simp [e,eq_comm]
theorem fitT_kd {E:Env} {o:OpV} (h:o.kind=2∨o.kind=3∨o.kind=4) (t:Int):fitT E o t=decide (kdV E o=(tyGet E.T t).kind):=by
 rcases h with e | e | e <;> unfold fitT kdV conK <;> simp [e,eq_comm]
theorem VcFz4 {P:Prop} (h:P:=by
 clear hb2
 go_wp2
 go_ret
 exact ⟨rfl,(Turn.of_below HB.out).trans HW2.out.turn,HW2.out.ck⟩):P:=h
theorem VcFz0 {P:Prop} (h:P:=by
 clear hq hkd
 go_enter Tryz.func105,Tryz.ntmps105
 go_wp2_with fail
 refine HC.out.mono ?_
 rintro e1 w1 ⟨rfl,hb1⟩
 have HW1:=hide (Wy.new HK.out hb1)
 clear hb1
 go_wp2_with fail
 refine (HT.out w1 HW1.out.ck).mono ?_
 rintro e2 w2 ⟨he2,hb2⟩
 obtain rfl:e2=.returned (.agg #[.int .i64 kx,.bool mu,.int .i64 rg,.int .i64 el,.slice fA fn fc]):=he2
 have HW2:=hide (HW1.out.up hb2)
 exact VcFz4):P:=h
theorem VcFz1 {P:Prop} (h:P:=by
 have HK:=hide (h.up HB.out)
 have H0:=hide h
 have HO:=hide (ho.below (HB.out.mono h.bs))
 have HC:=hide (ctypeOf_is HK.out HO.out.pl hu)
 have HS:=hide fun (w':World) (q:Ck K w')=>csub_is q (s:=(j:Int)) (t:=(i:Int)) (by unfold IntR;omega) (by unfold IntR;omega) ⟨⟨by omega,by show (j:Int) < _;omega⟩,by show 0≤(i:Int);omega,by show (i:Int) < _;omega⟩ hsv
 clear h ho hE ht hv htt hin hf65 he hi hj hu hjn hsv
 go_enter Tryz.func105,Tryz.ntmps105
 go_wp2_with fail
 refine HC.out.mono ?_
 rintro e1 w1 ⟨rfl,hb1⟩
 have HW1:=hide (Wy.new HK.out hb1)
 clear hb1
 obtain ⟨x10,x11,x12,x13⟩:=wy4 H0.out HW1.out
 go_wp2_with fail
 refine (HS.out w1 HW1.out.ck).mono ?_
 rintro e2 w2 ⟨rfl,hb2⟩
 have HW2:=hide (HW1.out.trans hb2)
 exact VcFz4):P:=h
theorem cfits_is {K:CkW} {o:OpW} {i:Nat} {ty:TyW} {v:Bool} {w:World} (h:Ck K w) (ho:OneOp w K.B o) (hE:opErr K.E o.v=0) (ht:K.x.types.L[i]?=some ty) (hv:fitT K.E o.v (i:Int)=v) :
 Calls Tryz.prog 105 #[K.ptr,aggOp o,.int .i64 (i:Int)] w fun e w'=>e=.returned (.bool v)∧Wy K w w':=by
 obtain ⟨k,⟨l,pA,pn,pc,ps⟩,n⟩:=o
 have htt:(tys K.x.types.L)[i]?=some ty.t:=by
  show (K.x.types.L.map TyW.t)[i]?=_
  rw [List.getElem?_map,ht]
  rfl
 have hin:i < K.x.types.n:=by have h1:=(List.getElem?_eq_some_iff.1 ht).1;have h2:=h.one.types.len;omega
 have hk:=opErr_zero hE
 have hf65:=h.few
 rcases hk with hc | ⟨hk,he⟩
 ·
  have hkd:=(fitT_kd hc (i:Int)).symm.trans hv
  have hkd:decide (kdV K.E (OpW.v ⟨k,⟨l,pA,pn,pc,ps⟩,n⟩)=(tyGet (tys K.x.types.L) (i:Int)).kind)=v:=hkd
  rw [tyGet_at htt] at hkd
  obtain ⟨⟨kx,mu,rg,el,fs⟩,fA,fn,fc⟩:=ty
  have hfd:=fieldKind kx rg el mu fA fn fc
  simp only [] at hkd
  have hc:k=2∨k=3∨k=4:=hc
  rcases hc with rfl | rfl | rfl
  ·
   have hkv:kdV K.E (OpW.v ⟨2,⟨l,pA,pn,pc,ps⟩,n⟩)=2:=rfl
   rw [hkv] at hkd
   have HB:=hide (below1 w (.cells (cOp ⟨2,⟨l,pA,pn,pc,ps⟩,n⟩).toArray 38))
   have HK:=hide (h.up HB.out)
   have H0:=hide h
   have HO:=hide (ho.below (HB.out.mono h.bs))
   have HC:=hide (ckind_is HK.out HO.out (by simp) hkv)
   clear h ho hE hv htt hin hf65 hkv
   have HT:=hide fun (w':World) (q:Ck K w')=>ctypeAt_is q ht
   clear ht
   by_cases hq:2=kx
   ·
    have tq:((2:Int) == kx)=true:=by simp [hq]
    obtain rfl:v=true:=by rw [←hkd];simp [hq]
    exact VcFz0
   ·
    have tq:((2:Int) == kx)=false:=by simp [hq]
    obtain rfl:v=false:=by rw [←hkd];simp [hq]
    exact VcFz0
  ·
   have hkv:kdV K.E (OpW.v ⟨3,⟨l,pA,pn,pc,ps⟩,n⟩)=1:=rfl
   rw [hkv] at hkd
   have HB:=hide (below1 w (.cells (cOp ⟨3,⟨l,pA,pn,pc,ps⟩,n⟩).toArray 38))
   have HK:=hide (h.up HB.out)
   have H0:=hide h
   have HO:=hide (ho.below (HB.out.mono h.bs))
   have HC:=hide (ckind_is HK.out HO.out (by simp) hkv)
   clear h ho hE hv htt hin hf65 hkv
   have HT:=hide fun (w':World) (q:Ck K w')=>ctypeAt_is q ht
   clear ht
   by_cases hq:1=kx
   ·
    have tq:((1:Int) == kx)=true:=by simp [hq]
    obtain rfl:v=true:=by rw [←hkd];simp [hq]
    exact VcFz0
   ·
    have tq:((1:Int) == kx)=false:=by simp [hq]
    obtain rfl:v=false:=by rw [←hkd];simp [hq]
    exact VcFz0
  ·
   have hkv:kdV K.E (OpW.v ⟨4,⟨l,pA,pn,pc,ps⟩,n⟩)=0:=rfl
   rw [hkv] at hkd
   have HB:=hide (below1 w (.cells (cOp ⟨4,⟨l,pA,pn,pc,ps⟩,n⟩).toArray 38))
   have HK:=hide (h.up HB.out)
   have H0:=hide h
   have HO:=hide (ho.below (HB.out.mono h.bs))
   have HC:=hide (ckind_is HK.out HO.out (by simp) hkv)
   clear h ho hE hv htt hin hf65 hkv
   have HT:=hide fun (w':World) (q:Ck K w')=>ctypeAt_is q ht
   clear ht
   by_cases hq:0=kx
   ·
    have tq:((0:Int) == kx)=true:=by simp [hq]
    obtain rfl:v=true:=by rw [←hkd];simp [hq]
    exact VcFz0
   ·
    have tq:((0:Int) == kx)=false:=by simp [hq]
    obtain rfl:v=false:=by rw [←hkd];simp [hq]
    exact VcFz0
 ·
  have he:(tyV K.E (PlW.v ⟨l,pA,pn,pc,ps⟩)).2=0:=he
  obtain ⟨j,tj,hi,hj⟩:=h.vb.ty (p:=PlW.v ⟨l,pA,pn,pc,ps⟩) he
  have hu:tyV K.E (PlW.v ⟨l,pA,pn,pc,ps⟩)=((j:Int),0):=Prod.ext hi he
  have hjn:j < K.x.types.n:=by have h1:=(List.getElem?_eq_some_iff.1 hj).1;have h2:=h.one.types.len;omega
  have hk:k=0∨k=1:=hk
  have hsv:sub (out K.x.outl.L ((K.x.regions.L.length:Nat):Int)) (tys K.x.types.L) (j:Int) (i:Int)=v:=by
   rw [←hv,← (show (tyV K.E (PlW.v ⟨l,pA,pn,pc,ps⟩)).1=(j:Int) from hi)]
   exact (if_neg (show ¬1 < k by omega)).symm
  rcases hk with rfl | rfl
  ·
   have HB:=hide (below1 w (.cells (cOp ⟨0,⟨l,pA,pn,pc,ps⟩,n⟩).toArray 38))
   exact VcFz1
  ·
   have HB:=hide (below1 w (.cells (cOp ⟨1,⟨l,pA,pn,pc,ps⟩,n⟩).toArray 38))
   exact VcFz1
noncomputable def vaV (E:Env) (o:OpV) (t:Int):Int:=if opErr E o≠0 then opErr E o else if fitT E o t=false then 22 else 0
theorem VcFz3 {P:Prop} (h:P:=by
 clear hv
 go_enter Tryz.func86,Tryz.ntmps86
 go_wp2_with fail
 refine HC.out.mono ?_
 rintro e1 w1 ⟨rfl,hb1⟩
 have HW1:=hide hb1
 clear hb1
 obtain ⟨x10,x11,x12,x13⟩:=wy4 H0.out HW1.out
 go_wp2_with fail
 refine (HF.out w1 HW1.out).mono ?_
 rintro e2 w2 ⟨rfl,hb2⟩
 have HW2:=hide (HW1.out.trans hb2)
 exact VcFz4):P:=h
theorem VcFz5 {P:Prop} (h:P:=by
 refine HC.out.mono ?_
 rintro e1 w1 ⟨rfl,hb1⟩
 have HW1:=hide hb1
 clear hb1
 go_wp2
 go_ret
 exact ⟨rfl,(Turn.of_below HB.out).trans HW1.out.turn,HW1.out.ck⟩):P:=h
theorem cval_is {K:CkW} {o:OpW} {i:Nat} {ty:TyW} {v:Int} {w:World} (h:Ck K w) (ho:OneOp w K.B o) (ht:K.x.types.L[i]?=some ty) (hv:vaV K.E o.v (i:Int)=v) :
 Calls Tryz.prog 86 #[K.ptr,aggOp o,.int .i64 (i:Int)] w fun e w'=>e=.returned (.int .i64 v)∧Wy K w w':=by
 obtain ⟨k,⟨l,pA,pn,pc,ps⟩,n⟩:=o
 obtain ⟨c,hc⟩:∃ c,opErr K.E (OpW.v ⟨k,⟨l,pA,pn,pc,ps⟩,n⟩)=c:=⟨_,rfl⟩
 unfold vaV at hv
 rw [hc] at hv
 have HB:=hide (below1 w (.cells (cOp ⟨k,⟨l,pA,pn,pc,ps⟩,n⟩).toArray 38))
 have HK:=hide (h.up HB.out)
 have H0:=hide h
 have HO:=hide (ho.below (HB.out.mono h.bs))
 have HC:=hide (cop_is HK.out HO.out hc)
 by_cases h0:c=0
 ·
  subst h0
  obtain ⟨b,hb⟩:∃ b,fitT K.E (OpW.v ⟨k,⟨l,pA,pn,pc,ps⟩,n⟩) (i:Int)=b:=⟨_,rfl⟩
  rw [hb,if_neg (by simp)] at hv
  clear h ho
  have HF:=hide fun (w':World) (q:Wy K (w.alloc (.cells (cOp ⟨k,⟨l,pA,pn,pc,ps⟩,n⟩).toArray 38)) w')=>cfits_is q.ck (HO.out.below (q.low HK.out)) hc ht hb
  clear ht hc hb
  cases b
  ·
   obtain rfl:v=22:=by rw [←hv];simp
   exact VcFz3
  ·
   obtain rfl:v=0:=by rw [←hv];simp
   exact VcFz3
 ·
  have t0:(c == 0)=false:=by simp [h0]
  rw [if_pos h0] at hv
  obtain rfl:c=v:=hv
  clear h ho ht hc h0
  go_enter Tryz.func86,Tryz.ntmps86
  go_wp2_with fail
  exact VcFz5
def coV (E:Env) (o:OpV):Int:=if opErr E o≠0 then opErr E o else if kdV E o=1 then 0 else 22
theorem VcFz2 {P:Prop} (h:P:=by
 clear hv hb1
 go_enter Tryz.func66,Tryz.ntmps66
 go_wp2_with fail
 refine HC.out.mono ?_
 rintro e1 w1 ⟨rfl,hb1⟩
 have HW1:=hide hb1
 clear hb1
 obtain ⟨x10,x11,x12,x13⟩:=wy4 H0.out HW1.out
 go_wp2_with fail
 refine (HF.out w1 HW1.out).mono ?_
 rintro e2 w2 ⟨rfl,hb2⟩
 have HW2:=hide (HW1.out.up hb2)
 exact VcFz4):P:=h
theorem ccond_is {K:CkW} {o:OpW} {v:Int} {w:World} (h:Ck K w) (ho:OneOp w K.B o) (hv:coV K.E o.v=v) :
 Calls Tryz.prog 66 #[K.ptr,aggOp o] w fun e w'=>e=.returned (.int .i64 v)∧Wy K w w':=by
 obtain ⟨k,⟨l,pA,pn,pc,ps⟩,n⟩:=o
 obtain ⟨c,hc⟩:∃ c,opErr K.E (OpW.v ⟨k,⟨l,pA,pn,pc,ps⟩,n⟩)=c:=⟨_,rfl⟩
 unfold coV at hv
 rw [hc] at hv
 have HB:=hide (below1 w (.cells (cOp ⟨k,⟨l,pA,pn,pc,ps⟩,n⟩).toArray 38))
 have HK:=hide (h.up HB.out)
 have H0:=hide h
 have HO:=hide (ho.below (HB.out.mono h.bs))
 have HC:=hide (cop_is HK.out HO.out hc)
 by_cases h0:c=0
 ·
  subst h0
  obtain ⟨b,hb⟩:∃ b,kdV K.E (OpW.v ⟨k,⟨l,pA,pn,pc,ps⟩,n⟩)=b:=⟨_,rfl⟩
  rw [hb,if_neg (by simp)] at hv
  clear h ho
  have hz:=opErr_zero hc
  clear hc
  have HF:=hide fun (w':World) (q:Wy K (w.alloc (.cells (cOp ⟨k,⟨l,pA,pn,pc,ps⟩,n⟩).toArray 38)) w')=>ckind_is q.ck (HO.out.below (q.low HK.out)) (hz.imp id fun q=>q.2) hb
  clear hb hz
  by_cases hb1:b=1
  ·
   have tb:(b != 1)=false:=by simp [hb1]
   obtain rfl:v=0:=by rw [←hv];simp [hb1]
   exact VcFz2
  ·
   have tb:(b != 1)=true:=by simp [hb1]
   obtain rfl:v=22:=by rw [←hv];simp [hb1]
   exact VcFz2
 ·
  have t0:(c == 0)=false:=by simp [h0]
  rw [if_pos h0] at hv
  obtain rfl:c=v:=hv
  clear h ho hc h0
  go_enter Tryz.func66,Tryz.ntmps66
  go_wp2_with fail
  exact VcFz5
theorem letter_any (c:Int) (w:World) (h0:0≤c) (h1:c < 256) :
 Calls Tryz.prog 70 #[.int .u8 c] w fun e w'=>e=.returned (.bool (letB c))∧w=w':=by
 by_cases a:c=95
 ·
  subst a
  go_enter Tryz.func70,Tryz.ntmps70
  go_wp2
  go_ret
  exact ⟨rfl,rfl⟩
 ·
  have a':(c == 95)=false:=by simpa using a
  by_cases b:65≤c <;> by_cases d:c≤90 <;> by_cases e:97≤c <;> by_cases f:c≤122
  all_goals
   go_enter Tryz.func70,Tryz.ntmps70
   go_wp2
   go_ret
   first
    | exact ⟨congrArg (fun v=>Ending.returned (.bool v)) (letB_yes (by omega)).symm,rfl⟩
    | exact ⟨congrArg (fun v=>Ending.returned (.bool v)) (letB_no (by omega)).symm,rfl⟩
theorem digit_any (c:Int) (w:World) (h0:0≤c) (h1:c < 256) :
 Calls Tryz.prog 71 #[.int .u8 c] w fun e w'=>e=.returned (.bool (digB c))∧w=w':=by
 by_cases b:48≤c <;> by_cases d:c≤57
 all_goals
  go_enter Tryz.func71,Tryz.ntmps71
  go_wp2
  go_ret
  first
   | exact ⟨congrArg (fun v=>Ending.returned (.bool v)) (digB_yes (by omega)).symm,rfl⟩
   | exact ⟨congrArg (fun v=>Ending.returned (.bool v)) (digB_no (by omega)).symm,rfl⟩
theorem letter_is {c:Int} {b:Bool} (h:letB c=b) (w:World) (h0:0≤c) (h1:c < 256) :
 Calls Tryz.prog 70 #[.int .u8 c] w fun e w'=>e=.returned (.bool b)∧w=w':=h ▸ letter_any c w h0 h1
theorem digit_is {c:Int} {b:Bool} (h:digB c=b) (w:World) (h0:0≤c) (h1:c < 256) :
 Calls Tryz.prog 71 #[.int .u8 c] w fun e w'=>e=.returned (.bool b)∧w=w':=h ▸ digit_any c w h0 h1
theorem sB_at (s:ByteArray) (k:Nat) (h:k < s.size):(sB s)[k]?=some (((s[k]).toNat:Nat):Int):=by
 have e:s.data.toList[k]?=some s[k]:=by
  rw [List.getElem?_eq_getElem (by rw [Array.length_toList];exact h)]
  rfl
 simp [sB,e]
theorem u8_lo (b:UInt8):(0:Int)≤((b.toNat:Nat):Int):=by omega
theorem u8_hi (b:UInt8):((b.toNat:Nat):Int) < 256:=by have:=b.toNat_lt;omega
theorem IntIz0 {P:Prop} (h:P:=by
 go_ret
 exact ⟨congrArg (fun v=>Ending.returned (.bool v)) hn.out.symm,rfl⟩):P:=h
theorem IntIz1 {P:Prop} (h:P:=by
 go_roundw
 case rel=>exact ⟨k+1,by go_num,by omega,HN.out,trivial⟩
 case measure=>simp [intOf];omega):P:=h
theorem IsIdent_any (s:ByteArray) (w:World) (hs:s.size≤maxLen) :
 Calls Tryz.prog 50 #[.string s] w fun e w'=>e=.returned (.bool (identB s))∧w=w':=by
 unfold maxLen at hs
 by_cases h0:s.size=0
 ·
  have hn:=hide (identB_long (s:=s) (.inl (by omega)))
  go_enter Tryz.func50,Tryz.ntmps50
  go_wp2_with fail
  exact IntIz0
 by_cases h1:255 < s.size
 ·
  have hn:=hide (identB_long (s:=s) (.inr h1))
  have h1':(255:Int) < (s.size:Int):=by omega
  go_enter Tryz.func50,Tryz.ntmps50
  go_wp2_with fail
  exact IntIz0
 have h1':(s.size:Int)≤255:=by omega
 have h2':0 < s.size:=by omega
 have hz:((s.size:Int) == 0)=false:=beq_eq_false_iff_ne.2 (by omega)
 have hd:decide ((255:Int) < (s.size:Int))=false:=decide_eq_false (by omega)
 have Hc:=hide (sB_at s 0 h2')
 cases hl:letB ((s[0].toNat:Nat):Int)
 ·
  have hn:=hide (identB_no Hc.out hl (.inl rfl))
  have HL:=hide hl
  clear hl
  go_enter Tryz.func50,Tryz.ntmps50
  go_wp2_with fail
  refine (letter_is HL.out _ (u8_lo _) (u8_hi _)).mono ?_
  rintro e w1 ⟨rfl,rfl⟩
  go_wp2_with fail
  exact IntIz0
 have HL:=hide hl
 clear hl
 go_enter Tryz.func50,Tryz.ntmps50
 go_wp2_with fail
 refine (letter_is HL.out _ (u8_lo _) (u8_hi _)).mono ?_
 rintro e w1 ⟨rfl,rfl⟩
 go_wp2_with fail
 go_loopw [20] (fun i wr=>∃ k:Nat,i=.int .i64 (k:Int)∧k≤s.size∧Hid (headOk (sB s) k)∧w=wr) (fun i _=>s.size - (intOf i).toNat)
 case atStart=>exact ⟨0,rfl,by omega,headOk_zero _,rfl⟩
 case round=>
  obtain ⟨k,rfl,hk,HH,rfl⟩:=hrel
  by_cases hlt:k < s.size
  ·
   have hi:(k:Int) < (s.size:Int):=by omega
   have Hk:=hide (sB_at s k hlt)
   cases hl:letB ((s[k].toNat:Nat):Int)
   ·
    have HL2:=hide hl
    cases hg:digB ((s[k].toNat:Nat):Int)
    ·
     have HG:=hide hg
     have hn:=hide (identB_no Hk.out hl (.inr hg))
     clear hl hg
     go_wp2_with fail
     refine (letter_is HL2.out _ (u8_lo _) (u8_hi _)).mono ?_
     rintro e w1 ⟨rfl,rfl⟩
     go_wp2_with fail
     refine (digit_is HG.out _ (u8_lo _) (u8_hi _)).mono ?_
     rintro e w1 ⟨rfl,rfl⟩
     go_wp2_with fail
     exact IntIz0
    ·
     have HG:=hide hg
     have hk0:k≠0:=fun e=>by
      subst e
      rw [HL.out] at hl
      cases hl
     clear hl
     have HN:=hide (headOk_succ HH.out Hk.out (.inr ⟨hk0,hg⟩))
     clear hg
     go_wp2_with fail
     refine (letter_is HL2.out _ (u8_lo _) (u8_hi _)).mono ?_
     rintro e w1 ⟨rfl,rfl⟩
     go_wp2_with fail
     refine (digit_is HG.out _ (u8_lo _) (u8_hi _)).mono ?_
     rintro e w1 ⟨rfl,rfl⟩
     go_wp2_with fail
     exact IntIz1
   ·
    have HL2:=hide hl
    have HN:=hide (headOk_succ HH.out Hk.out (.inl hl))
    clear hl
    go_wp2_with fail
    refine (letter_is HL2.out _ (u8_lo _) (u8_hi _)).mono ?_
    rintro e w1 ⟨rfl,rfl⟩
    go_wp2_with fail
    exact IntIz1
  ·
   obtain rfl:k=s.size:=by omega
   have hn:=hide (identB_yes h2' (by omega) HH.out)
   go_wp2_with fail
   exact IntIz0
theorem IsIdent_is {s:ByteArray} {b:Bool} (h:identB s=b) (w:World) (hs:s.size≤maxLen) :
 Calls Tryz.prog 50 #[.string s] w fun e w'=>e=.returned (.bool b)∧w=w':=h ▸ IsIdent_any s w hs
theorem IntIz2 {P:Prop} (h:P:=by
 have f5:(((s[0].toNat:Nat):Int) == 95)=false:=beq_eq_false_iff_ne.2 (by omega)
 have f6:¬((s[0].toNat:Nat):Int) < 48:=by omega
 have f7:(57:Int) < ((s[0].toNat:Nat):Int):=by omega
 clear hl
 go_wp2_with fail
 exact IntIz0):P:=h
theorem IntIz3 {P:Prop} (h:P:=by
 have f5:(((s[k].toNat:Nat):Int) == 95)=false:=beq_eq_false_iff_ne.2 (by omega)
 have f6:¬((s[k].toNat:Nat):Int) < 48:=by omega
 have f7:(57:Int) < ((s[k].toNat:Nat):Int):=by omega
 clear hl
 go_wp2_with fail
 exact IntIz0):P:=h
theorem IntIz4 {P:Prop} (h:P:=by
 have f6:¬((s[k].toNat:Nat):Int) < 48:=by omega
 have f7:(57:Int) < ((s[k].toNat:Nat):Int):=by omega
 clear hl
 go_wp2_with fail
 exact IntIz1):P:=h
theorem RefIdent_any (s:ByteArray) (w:World) (hs:s.size≤maxLen) :
 Calls Tryz.prog 29 #[.string s] w fun e w'=>e=.returned (.bool (identB s))∧w=w':=by
 unfold maxLen at hs
 go_enter Tryz.func29,Tryz.ntmps29
 go_wp2_with fail
 go_loopw [3] (fun i wr=>∃ k:Nat,i=.int .i64 (k:Int)∧k≤s.size∧Hid (headOk (sB s) k)∧w=wr) (fun i _=>s.size - (intOf i).toNat)
 case atStart=>exact ⟨0,rfl,by omega,headOk_zero _,rfl⟩
 case round=>
  obtain ⟨k,rfl,hk,HH,rfl⟩:=hrel
  by_cases hlt:k < s.size
  ·
   have hi:(k:Int) < (s.size:Int):=by omega
   have Hk:=hide (sB_at s k hlt)
   have c0:=u8_lo s[k]
   have c1:=u8_hi s[k]
   have hcn:Hid (((s[k].toNat:Nat):Int)=((s[k].toNat:Nat):Int)):=rfl
   cases hl:letB ((s[k].toNat:Nat):Int)
   ·
    have hn1:¬((((s[k].toNat:Nat):Int)=95)∨(65≤((s[k].toNat:Nat):Int)∧((s[k].toNat:Nat):Int)≤90)∨(97≤((s[k].toNat:Nat):Int)∧((s[k].toNat:Nat):Int)≤122)):=fun h=>by rw [letB_yes h] at hl;cases hl
    by_cases hk0:k=0
    ·
     subst hk0
     have hn:=hide (identB_no Hk.out hl (.inl rfl))
     have hcl:(122 < ((s[0].toNat:Nat):Int))∨(90 < ((s[0].toNat:Nat):Int)∧((s[0].toNat:Nat):Int) < 97∧¬((s[0].toNat:Nat):Int)=95)∨(48≤((s[0].toNat:Nat):Int)∧((s[0].toNat:Nat):Int)≤57)∨(((s[0].toNat:Nat):Int) < 48)∨(57 < ((s[0].toNat:Nat):Int)∧((s[0].toNat:Nat):Int) < 65):=by omega
     rcases hcl with hcl | hcl | hcl | hcl | hcl
     ·
      have hu:Hid True:=trivial
      have f1:(97:Int)≤((s[0].toNat:Nat):Int):=by omega
      have f2:¬((s[0].toNat:Nat):Int)≤122:=by omega
      have f3:(65:Int)≤((s[0].toNat:Nat):Int):=by omega
      have f4:¬((s[0].toNat:Nat):Int)≤90:=by omega
      exact IntIz2
     ·
      have hu:Hid True:=trivial
      have f1:¬(97:Int)≤((s[0].toNat:Nat):Int):=by omega
      have f2:((s[0].toNat:Nat):Int)≤122:=by omega
      have f3:(65:Int)≤((s[0].toNat:Nat):Int):=by omega
      have f4:¬((s[0].toNat:Nat):Int)≤90:=by omega
      exact IntIz2
     ·
      have hu:Hid True:=trivial
      have f1:¬(97:Int)≤((s[0].toNat:Nat):Int):=by omega
      have f2:((s[0].toNat:Nat):Int)≤122:=by omega
      have f3:¬(65:Int)≤((s[0].toNat:Nat):Int):=by omega
      have f4:((s[0].toNat:Nat):Int)≤90:=by omega
      have f5:(((s[0].toNat:Nat):Int) == 95)=false:=beq_eq_false_iff_ne.2 (by omega)
      have f6:¬((s[0].toNat:Nat):Int) < 48:=by omega
      have f7:¬(57:Int) < ((s[0].toNat:Nat):Int):=by omega
      clear hl
      go_wp2_with fail
      exact IntIz0
     ·
      have hu:Hid True:=trivial
      have f1:¬(97:Int)≤((s[0].toNat:Nat):Int):=by omega
      have f2:((s[0].toNat:Nat):Int)≤122:=by omega
      have f3:¬(65:Int)≤((s[0].toNat:Nat):Int):=by omega
      have f4:((s[0].toNat:Nat):Int)≤90:=by omega
      have f5:(((s[0].toNat:Nat):Int) == 95)=false:=beq_eq_false_iff_ne.2 (by omega)
      have f6:((s[0].toNat:Nat):Int) < 48:=by omega
      have f7:¬(57:Int) < ((s[0].toNat:Nat):Int):=by omega
      clear hl
      go_wp2_with fail
      exact IntIz0
     ·
      have hu:Hid True:=trivial
      have f1:¬(97:Int)≤((s[0].toNat:Nat):Int):=by omega
      have f2:((s[0].toNat:Nat):Int)≤122:=by omega
      have f3:¬(65:Int)≤((s[0].toNat:Nat):Int):=by omega
      have f4:((s[0].toNat:Nat):Int)≤90:=by omega
      exact IntIz2
    ·
     have hk0':((k:Int) == 0)=false:=beq_eq_false_iff_ne.2 (by omega)
     have hcl:(122 < ((s[k].toNat:Nat):Int))∨(90 < ((s[k].toNat:Nat):Int)∧((s[k].toNat:Nat):Int) < 97∧¬((s[k].toNat:Nat):Int)=95)∨(48≤((s[k].toNat:Nat):Int)∧((s[k].toNat:Nat):Int)≤57)∨(((s[k].toNat:Nat):Int) < 48)∨(57 < ((s[k].toNat:Nat):Int)∧((s[k].toNat:Nat):Int) < 65):=by omega
     rcases hcl with hcl | hcl | hcl | hcl | hcl
     ·
      have hn:=hide (identB_no Hk.out hl (.inr (digB_no (by omega))))
      have f1:(97:Int)≤((s[k].toNat:Nat):Int):=by omega
      have f2:¬((s[k].toNat:Nat):Int)≤122:=by omega
      have f3:(65:Int)≤((s[k].toNat:Nat):Int):=by omega
      have f4:¬((s[k].toNat:Nat):Int)≤90:=by omega
      exact IntIz3
     ·
      have hn:=hide (identB_no Hk.out hl (.inr (digB_no (by omega))))
      have f1:¬(97:Int)≤((s[k].toNat:Nat):Int):=by omega
      have f2:((s[k].toNat:Nat):Int)≤122:=by omega
      have f3:(65:Int)≤((s[k].toNat:Nat):Int):=by omega
      have f4:¬((s[k].toNat:Nat):Int)≤90:=by omega
      exact IntIz3
     ·
      have HN:=hide (headOk_succ HH.out Hk.out (.inr ⟨hk0,digB_yes (by omega)⟩))
      have f1:¬(97:Int)≤((s[k].toNat:Nat):Int):=by omega
      have f2:((s[k].toNat:Nat):Int)≤122:=by omega
      have f3:¬(65:Int)≤((s[k].toNat:Nat):Int):=by omega
      have f4:((s[k].toNat:Nat):Int)≤90:=by omega
      have f5:(((s[k].toNat:Nat):Int) == 95)=false:=beq_eq_false_iff_ne.2 (by omega)
      have f6:¬((s[k].toNat:Nat):Int) < 48:=by omega
      have f7:¬(57:Int) < ((s[k].toNat:Nat):Int):=by omega
      clear hl
      go_wp2_with fail
      exact IntIz1
     ·
      have hn:=hide (identB_no Hk.out hl (.inr (digB_no (by omega))))
      have f1:¬(97:Int)≤((s[k].toNat:Nat):Int):=by omega
      have f2:((s[k].toNat:Nat):Int)≤122:=by omega
      have f3:¬(65:Int)≤((s[k].toNat:Nat):Int):=by omega
      have f4:((s[k].toNat:Nat):Int)≤90:=by omega
      have f5:(((s[k].toNat:Nat):Int) == 95)=false:=beq_eq_false_iff_ne.2 (by omega)
      have f6:((s[k].toNat:Nat):Int) < 48:=by omega
      have f7:¬(57:Int) < ((s[k].toNat:Nat):Int):=by omega
      clear hl
      go_wp2_with fail
      exact IntIz0
     ·
      have hn:=hide (identB_no Hk.out hl (.inr (digB_no (by omega))))
      have f1:¬(97:Int)≤((s[k].toNat:Nat):Int):=by omega
      have f2:((s[k].toNat:Nat):Int)≤122:=by omega
      have f3:¬(65:Int)≤((s[k].toNat:Nat):Int):=by omega
      have f4:((s[k].toNat:Nat):Int)≤90:=by omega
      exact IntIz3
   ·
    have HN:=hide (headOk_succ HH.out Hk.out (.inl hl))
    have hy:(((s[k].toNat:Nat):Int)=95)∨(65≤((s[k].toNat:Nat):Int)∧((s[k].toNat:Nat):Int)≤90)∨(97≤((s[k].toNat:Nat):Int)∧((s[k].toNat:Nat):Int)≤122):=of_decide_eq_true hl
    rcases hy with hy | hy | hy
    ·
     have f1:¬(97:Int)≤((s[k].toNat:Nat):Int):=by omega
     have f2:((s[k].toNat:Nat):Int)≤122:=by omega
     have f3:(65:Int)≤((s[k].toNat:Nat):Int):=by omega
     have f4:¬((s[k].toNat:Nat):Int)≤90:=by omega
     have f5:(((s[k].toNat:Nat):Int) == 95)=true:=beq_iff_eq.2 (by omega)
     exact IntIz4
    ·
     have f1:¬(97:Int)≤((s[k].toNat:Nat):Int):=by omega
     have f2:((s[k].toNat:Nat):Int)≤122:=by omega
     have f3:(65:Int)≤((s[k].toNat:Nat):Int):=by omega
     have f4:((s[k].toNat:Nat):Int)≤90:=by omega
     have f5:(((s[k].toNat:Nat):Int) == 95)=false:=beq_eq_false_iff_ne.2 (by omega)
     exact IntIz4
    ·
     have f1:(97:Int)≤((s[k].toNat:Nat):Int):=by omega
     have f2:((s[k].toNat:Nat):Int)≤122:=by omega
     have f3:(65:Int)≤((s[k].toNat:Nat):Int):=by omega
     have f4:¬((s[k].toNat:Nat):Int)≤90:=by omega
     have f5:(((s[k].toNat:Nat):Int) == 95)=false:=beq_eq_false_iff_ne.2 (by omega)
     exact IntIz4
  ·
   obtain rfl:k=s.size:=by omega
   by_cases h1:1≤s.size
   ·
    have h1':(1:Int)≤(s.size:Int):=by omega
    by_cases h2:s.size≤255
    ·
     have h2':(s.size:Int)≤255:=by omega
     have hn:=hide (identB_yes h1 h2 HH.out)
     go_wp2_with fail
     exact IntIz0
    ·
     have h2':¬(s.size:Int)≤255:=by omega
     have hn:=hide (identB_long (s:=s) (.inr (by omega)))
     go_wp2_with fail
     exact IntIz0
   ·
    have h1':¬(1:Int)≤(s.size:Int):=by omega
    have hn:=hide (identB_long (s:=s) (.inl (by omega)))
    go_wp2_with fail
    exact IntIz0
theorem RefIdent_is {s:ByteArray} {b:Bool} (h:identB s=b) (w:World) (hs:s.size≤maxLen) :
 Calls Tryz.prog 29 #[.string s] w fun e w'=>e=.returned (.bool b)∧w=w':=h ▸ RefIdent_any s w hs
noncomputable def clV (E:Env) (t:TmV):Int:=if identB t.name=false then 12 else if 65535 < t.args.length then 15 else if opsErr E t.args≠0 then opsErr E t.args else (wrV E t.pl).2
theorem ccall_is {K:CkW} {x:TmW} {v:Int} {w:World} (h:Ck K w) (hx:OneTm w K.B x) (hv:clV K.E x.v=v) :
  Calls Tryz.prog 67 #[K.ptr,aggTm x] w fun e w'=>e=.returned (.int .i64 v)∧Wy K w w':=by
 obtain ⟨k,⟨tA,tn,tc,tL⟩,⟨gA,gn,gc,gL⟩,⟨l,pA,pn,pc,ps⟩,nm⟩:=x
 have HB:=hide (below1 w (.cells (cTm ⟨k,⟨tA,tn,tc,tL⟩,⟨gA,gn,gc,gL⟩,⟨l,pA,pn,pc,ps⟩,nm⟩).toArray 50))
 have HK:=hide (h.up HB.out)
 have H0:=hide h
 have HX:=hide (hx.below (HB.out.mono h.bs))
 have hgn:gL.length=gn:=hx.args.len
 have hnm:nm.size≤maxLen:=hx.name
 have hgm:gn≤maxLen:=hx.args.nm
 obtain ⟨er,her⟩:∃ e,opsErr K.E (gL.map OpW.v)=e:=⟨_,rfl⟩
 have hv:(if identB nm=false then (12:Int) else if 65535 < gn then 15 else if er≠0 then er else (wrV K.E (PlW.v ⟨l,pA,pn,pc,ps⟩)).2)=v:=by
  rw [←hv,← her,← hgn,← List.length_map (f:=OpW.v)]
  rfl
 clear h hx
 obtain ⟨bi,hid⟩:∃ b,identB nm=b:=⟨_,rfl⟩
 rw [hid] at hv
 cases bi
 ·
  obtain rfl:v=12:=by rw [←hv];rfl
  clear hv her hgn hgm
  go_enter Tryz.func67,Tryz.ntmps67
  go_wp2_with fail
  refine (IsIdent_is hid _ hnm).mono ?_
  rintro e0 w0 ⟨rfl,rfl⟩
  go_wp2
  go_ret
  exact ⟨rfl,Turn.of_below HB.out,HK.out⟩
 rw [if_neg (by simp)] at hv
 by_cases hg:65535 < gn
 ·
  have tg:(65535:Int) < (gn:Int):=by omega
  rw [if_pos hg] at hv
  subst hv
  clear her hgn hgm hg
  go_enter Tryz.func67,Tryz.ntmps67
  go_wp2_with fail
  refine (IsIdent_is hid _ hnm).mono ?_
  rintro e0 w0 ⟨rfl,rfl⟩
  go_wp2
  go_ret
  exact ⟨rfl,Turn.of_below HB.out,HK.out⟩
 have tg:(gn:Int)≤65535:=by omega
 rw [if_neg hg] at hv
 have HLen:=hide hgn
 have HEr:=hide her
 have HV:=hide hv
 clear hg her hgn hv
 go_enter Tryz.func67,Tryz.ntmps67
 go_wp2_with fail
 refine (IsIdent_is hid _ hnm).mono ?_
 rintro e0 w0 ⟨rfl,rfl⟩
 go_wp2
 go_loopw [23] (fun i wr=>∃ j:Nat,i=.int .i64 (j:Int)∧j≤gn∧Hid (opsErr K.E ((gL.map OpW.v).drop j)=er)∧Hid (Wy K (w.alloc (.cells (cTm ⟨k,⟨tA,tn,tc,tL⟩,⟨gA,gn,gc,gL⟩,⟨l,pA,pn,pc,ps⟩,nm⟩).toArray 50)) wr)) (fun i _=>gn - (intOf i).toNat)
 case atStart=>exact ⟨0,rfl,Nat.zero_le _,hide HEr.out,hide (Wy.refl HK.out)⟩
 case round=>
  obtain ⟨j,rfl,hj,HE,HW⟩:=hrel
  by_cases hlt:j < gn
  ·
   have hlt':(j:Int) < (gn:Int):=by omega
   obtain ⟨p,hp⟩:∃ p,gL[j]?=some p:=⟨_,List.getElem?_eq_getElem (by have:gL.length=gn:=HLen.out;omega)⟩
   have hpv:(gL.map OpW.v)[j]?=some p.v:=by rw [List.getElem?_map,hp];rfl
   have hax:Ops wr K.B ⟨gA,gn,gc,gL⟩:=Ops.below (HW.out.low HK.out) HX.out.args
   obtain ⟨b,o,hA,_,hone,hc⟩:=hax.at_ hp
   have hA:gA=some ⟨b,o,none⟩:=hA
   subst hA
   obtain ⟨kq,⟨lq,qA,qn,qc,qs⟩,nq⟩:=p
   have c0:wr.cell? ⟨b,o+j*4,none⟩=some (.int .i64 kq):=hc 0 _ rfl
   have c1:wr.cell? ⟨b,o+j*4+1,none⟩=some (.int .i64 lq):=hc 1 _ rfl
   have c2:wr.cell? ⟨b,o+j*4+2,none⟩=some (.slice qA qn qc):=hc 2 _ rfl
   have c3:wr.cell? ⟨b,o+j*4+3,none⟩=some (.int .i64 nq):=hc 3 _ rfl
   have HS:=hide (opsErr_at (E:=K.E) hpv)
   have hWB:=(Below.refl wr.heap.size wr).alloc (Nat.le_refl _) (.cells (cOp ⟨kq,⟨lq,qA,qn,qc,qs⟩,nq⟩).toArray 38)
   have HW2:=hide (HW.out.up hWB)
   have HO2:=hide (hone.below (hWB.mono HW.out.ck.bs))
   obtain ⟨c,hcv⟩:∃ c,opErr K.E (OpW.v ⟨kq,⟨lq,qA,qn,qc,qs⟩,nq⟩)=c:=⟨_,rfl⟩
   have HC:=hide (cop_is HW2.out.ck HO2.out hcv)
   have HCV:=hide hcv
   clear hp hpv hax hone hc hWB hcv
   by_cases h0:c=0
   ·
    subst h0
    have HN:=hide (show opsErr K.E ((gL.map OpW.v).drop (j+1))=er from by rw [←HE.out,HS.out,if_neg (by rw [HCV.out];simp)])
    go_wp2_with fail
    refine HC.out.mono ?_
    rintro e1 w1 ⟨rfl,hb1⟩
    have HW3:=hide (HW2.out.trans hb1)
    clear hb1
    go_wp2
    go_roundw
    case rel=>exact ⟨j+1,by go_num,by omega,hide HN.out,hide HW3.out⟩
    case measure=>simp [intOf];omega
   ·
    have t0:(c != 0)=true:=by simp [h0]
    have HN:=hide (show er=c from by rw [←HE.out,HS.out,HCV.out,if_pos h0])
    have HVc:=hide (show v=c from by rw [←HV.out,HN.out,if_pos h0])
    clear h0
    go_wp2_with fail
    refine HC.out.mono ?_
    rintro e1 w1 ⟨rfl,hb1⟩
    have HW3:=hide (HW2.out.trans hb1)
    clear hb1
    go_wp2
    go_ret
    exact ⟨congrArg (fun v=>Ending.returned (.int .i64 v)) HVc.out.symm,(Turn.of_below HB.out).trans HW3.out.turn,HW3.out.ck⟩
  ·
   obtain rfl:gn=j:=by omega
   have her0:er=0:=by rw [←HE.out];exact opsErr_end (by rw [List.length_map];have:gL.length=gn:=HLen.out;omega)
   obtain ⟨wa,hwa⟩:∃ u,(wrV K.E (PlW.v ⟨l,pA,pn,pc,ps⟩)).1=u:=⟨_,rfl⟩
   obtain ⟨wb,hwb⟩:∃ u,(wrV K.E (PlW.v ⟨l,pA,pn,pc,ps⟩)).2=u:=⟨_,rfl⟩
   have HVc:=hide (show v=wb from by rw [←HV.out,her0,if_neg (by simp),hwb])
   have HC:=hide (cwritten_is HW.out.ck (HX.out.pl.below (HW.out.low HK.out)) (Prod.ext hwa hwb:wrV K.E (PlW.v ⟨l,pA,pn,pc,ps⟩)=(wa,wb)))
   obtain ⟨y10,y11,y12,y13,y14,y15⟩:=wy6 H0.out HW.out
   clear her0 hwa hwb HE
   go_wp2_with fail
   refine HC.out.mono ?_
   rintro e1 w1 ⟨rfl,hb1⟩
   have HW3:=hide (HW.out.up hb1)
   clear hb1
   go_wp2
   go_ret
   exact ⟨congrArg (fun v=>Ending.returned (.int .i64 v)) HVc.out.symm,(Turn.of_below HB.out).trans HW3.out.turn,HW3.out.ck⟩
end Go.Proofs.YtfgacmgjpikgaaaGreatDoor
