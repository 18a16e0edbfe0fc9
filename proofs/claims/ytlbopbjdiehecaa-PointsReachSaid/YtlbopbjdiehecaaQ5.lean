/- Part 6 of the contracts and their mathematics. -/
import Derived.Test.YtlbopbjdiehecaaQ4
import Derived.Deep.LoopGhost
import Derived.BigRegion
import Derived.OpenShut
import Derived.ProofKit
import Derived.ShutString
import Derived.ChangeOld
import Derived.SizedLaws
import Derived.Deep.Slices
import Derived.Deep.Fields
import Derived.ChangeMaps5
set_option linter.unusedVariables false
set_option linter.unusedSimpArgs false
set_option maxRecDepth 100000
set_option maxHeartbeats 8000000
namespace Go.Proofs.Ytlbopbjdiehecaa
open Go.RowKit
noncomputable def ldB (l:List BkV) (i j:Nat):Bool:=@decide (Lead l i j) (Classical.propDecidable _)
theorem ldB_iff {l:List BkV} {i j:Nat}:ldB l i j=true↔Lead l i j:=by unfold ldB;exact @decide_eq_true_iff _ (Classical.propDecidable _)
theorem ldB_no {l:List BkV} {i j:Nat} (h:¬Lead l i j):ldB l i j=false:=by
 cases e:ldB l i j with
 | false=>rfl
 | true=>exact absurd (ldB_iff.1 e) h
theorem own_pop11 {w:World} {base g n cap:Nat} {e:TypeId} {xs:List Value} {x:Value} (h:w.ownsRow base e 1 (.slice (some ⟨g,0,none⟩) (n+1) cap) (n+1) (xs++[x])):w.ownsRow base e 1 (.slice (some ⟨g,0,none⟩) n cap) n xs:=by
 have hl:xs.length=n:=by have:=h.1;simp at this;omega
 rcases h.2 with ⟨h0,_⟩ | ⟨g',cap',cur,e0,hb,hg,h1,h2,h3,h4⟩
 ·
  cases h0
 ·
  injection e0 with e1 e2 e3
  injection e1 with e1
  injection e1 with e1
  subst e1 e3
  refine ⟨by simp [hl],.inr ⟨g,cap,cur,rfl,hb,hg,by omega,h2,h3,?_⟩⟩
  have h5:=congrArg (List.take n) h4
  rw [List.take_take,List.take_append_of_le_length (by omega),← hl,List.take_length] at h5
  rw [←h5,hl]
  congr 1
  omega
theorem cnt_set11:∀ {l:List Bool} {i:Nat},l[i]?=some false→(l.set i true).count false+1=l.count false
 | [],i,h=>by cases h
 | a :: l,0,h=>by
  have e:a=false:=by simpa using h
  subst e
  simp
 | a :: l,i+1,h=>by
  have h':l[i]?=some false:=by simpa using h
  rw [List.set_cons_succ,List.count_cons,List.count_cons,← cnt_set11 h']
  omega
theorem snoc11:∀ (L:List Nat),L≠[]→∃ M x,L=M++[x]
 | [],h=>absurd rfl h
 | [x],_=>⟨[],x,rfl⟩
 | x :: y :: l,_=>by
  obtain ⟨M,z,e⟩:=snoc11 (y :: l) (by simp)
  exact ⟨x :: M,z,by rw [e];rfl⟩
theorem PLeads_any (x:BdW) (fr to:Nat) (w:World) (hx:OneBd w w.heap.size x) (hfr:fr < x.blocks.n) (hto:to < x.blocks.n) (hbn:x.blocks.n≤1000000) :
  Calls Try.prog 34 #[aggBd x,.int .i64 (fr:Int),.int .i64 (to:Int)] w fun e w'=>e=.returned (.bool (ldB x.v.blocks fr to))∧Below w.heap.size w w':=by
 obtain ⟨BL,hBL⟩:∃ l,x.v.blocks=l:=⟨_,rfl⟩
 have hbl:=bk_len hx
 rw [hBL] at hbl ⊢
 obtain ⟨v,hv⟩:∃ v,ldB BL fr to=v:=⟨_,rfl⟩
 rw [hv]
 have HV:=hide hv
 have HBV:=hide hBL
 have HWI:=hide fun (z:Int) (v:Bool) (h:inR z (x.blocks.n:Int)=v) (w':World)=>PWithin_is h w'
 obtain ⟨nm,⟨rA,rn,rc,rL⟩,⟨oA,on,oc,oL⟩,⟨tA,tm,tc,tL⟩,⟨lA,ln,lc,lL⟩,ar,⟨bA,bn,bc,bL⟩⟩:=x
 have HBL:=hide (show BL.length=bn from hbl)
 have hbm:bn≤1000000:=hbn
 have hfr:fr < bn:=hfr
 have hto:to < bn:=hto
 have HB:=hide (below1 w (.cells #[.string nm,.slice rA rn rc,.slice oA on oc,.slice tA tm tc,.slice lA ln lc,.int .i64 ar,.slice bA bn bc] 32))
 have HX:=hide (hx.up HB.out)
 have HC:=hide fun (w':World) (y:Below (w.alloc (.cells #[.string nm,.slice rA rn rc,.slice oA on oc,.slice tA tm tc,.slice lA ln lc,.int .i64 ar,.slice bA bn bc] 32)).heap.size (w.alloc (.cells #[.string nm,.slice rA rn rc,.slice oA on oc,.slice tA tm tc,.slice lA ln lc,.int .i64 ar,.slice bA bn bc] 32)) w')=>cells7 y
 have hws:(w.alloc (.cells #[.string nm,.slice rA rn rc,.slice oA on oc,.slice tA tm tc,.slice lA ln lc,.int .i64 ar,.slice bA bn bc] 32)).heap.size=w.heap.size+1:=by simp
 obtain ⟨W1,hW1⟩:∃ W1,W1=(w.alloc (.cells #[.string nm,.slice rA rn rc,.slice oA on oc,.slice tA tm tc,.slice lA ln lc,.int .i64 ar,.slice bA bn bc] 32)):=⟨_,rfl⟩
 rw [←hW1] at HB HX HC hws
 have HWS:=hide hws
 obtain ⟨i1,hi1,hy0,hy1,hy2⟩:=info_parts info9Bool
 have hb3:=below1 W1 (.cells (Array.replicate bn (.bool false)) 4)
 have hbx3:Bx (W1.alloc (.cells (Array.replicate bn (.bool false)) 4)) (w.heap.size+1) ((List.replicate bn false).map Value.bool) 4:=by
  have h:=Bx.new W1 ((List.replicate bn false).map Value.bool) 4
  rw [hws] at h
  simpa [List.map_replicate] using h
 have hws3:(W1.alloc (.cells (Array.replicate bn (.bool false)) 4)).heap.size=w.heap.size+2:=by rw [World.size_alloc,hws]
 have hb4:=below1 (W1.alloc (.cells (Array.replicate bn (.bool false)) 4)) (.cells #[.int .i64 (fr:Int)] 3)
 have HBX4:=hide (hbx3.below hb4)
 have HB4:=hide (hb3.trans (hb4.mono hb3.size))
 have HO4:=hide (show ((W1.alloc (.cells (Array.replicate bn (.bool false)) 4)).alloc (.cells #[.int .i64 (fr:Int)] 3)).ownsRow (w.heap.size+2) 3 1 (.slice (some ⟨w.heap.size+2,0,none⟩) 1 1) 1 ((castL [fr]).flatMap cInt) from by
  have h:=lit_own (f:=cInt) (W1.alloc (.cells (Array.replicate bn (.bool false)) 4)) (w.heap.size+2) cInt_len (fr:Int) 3 (by rw [hws3];exact Nat.le_refl _)
  rw [hws3] at h
  exact h)
 have HS0:=hide (Srch.start (l:=BL) (a:=fr) (b:=to) (by rw [HBL.out];exact hfr))
 have HF0:=hide (show 2*(List.replicate bn false).count false+1≤2*bn+1 by rw [List.count_replicate_self];exact Nat.le_refl _)
 obtain ⟨x0,x1,x2,x3,x4,x5,x6⟩:=HC.out _ (Below.refl _ _)
 have HHW1:=hide hW1
 clear hBL hbl hx hws hb3 hbx3 hws3 hb4 hv hW1 hbn
 go_enter Try.func34,Try.ntmps34
 go_wp2
 refine wp_scope_straight ?_
 go_wp2_with (at_make;refine wpList_make1 _ rfl _ _ _ rfl 4 i1 _ Try.underlying81 hi1 hy0 hy1 rfl bn rfl rfl (by rw [hy2];omega) (by omega) ?_)
 apply wp_label
 go_wp2
 rw [←HHW1.out]
 clear x0 x1 x2 x3 x4 x5 x6
 go_loopg [8,9] (2*(List.replicate bn false).count false+1) (fun g v f wr=>∃ (Wk:List Nat) (A:Option Addr) (c:Nat) (F:List Bool),v=.slice A Wk.length c∧f=.bool false∧Hid (Srch BL fr to F Wk)∧Hid (Bx wr (w.heap.size+1) (F.map Value.bool) 4)∧Hid (wr.ownsRow (w.heap.size+2) 3 1 (.slice A Wk.length c) Wk.length ((castL Wk).flatMap cInt))∧Hid (Below W1.heap.size W1 wr)∧Hid (2*F.count false+Wk.length≤g)∧Hid (g≤2*bn+1))
 case atStart=>exact ⟨[fr],some ⟨w.heap.size+2,0,none⟩,1,List.replicate bn false,rfl,rfl,(by rw [←HBL.out];exact HS0),(by exact HBX4),HO4,HB4,Nat.le_refl _,HF0⟩
 case round=>
  obtain ⟨Wk,A,c,F,rfl,rfl,HS,HBX,HO,HW,HM,HG⟩:=hrel
  by_cases h0:Wk=[]
  ·
   subst h0
   obtain rfl:v=false:=by rw [←HV.out];exact ldB_no HS.out.none
   go_wp2
   rw [Exit.noGoto_ret]
   go_ret
   exact ⟨rfl,HB.out.trans (HW.out.mono HB.out.size)⟩
  ·
   obtain ⟨Wi,xk,rfl⟩:=snoc11 Wk h0
   obtain ⟨n,hn⟩:∃ n,Wi.length=n:=⟨_,rfl⟩
   have hl:(Wi++[xk]).length=n+1:=by rw [List.length_append,hn];rfl
   have HO1:=HO.out
   have HM1:=HM.out
   rw [hl] at HO1 HM1 ⊢
   have hGG:=HG.out
   have hn3:n≤3000000:=by omega
   have HXI:=hide (HS.out.wlt xk (by simp))
   have HSX:=hide HS.out.pop
   obtain ⟨gw,rfl,hg1,hg2⟩:=own_form HO1 (by omega)
   have hrow:wr.ownsRow (w.heap.size+2) 3 1 (.slice (some ⟨gw,0,none⟩) (n+1) c) (n+1) ((castL Wi).flatMap cInt++[.int .i64 (xk:Int)]):=by
    have e:castL (Wi++[xk])=castL Wi++[(xk:Int)]:=List.map_append
    rw [e,List.flatMap_append] at HO1
    exact HO1
   have HO2:=hide (own_pop11 hrow)
   obtain ⟨g',z',hgA,_,hgc⟩:=(Cells.of_own cInt_len (by decide) HO1).at_ (i:=n) (x:=(xk:Int)) (castL_at (by rw [List.getElem?_append_right (by omega),hn,Nat.sub_self];rfl))
   injection hgA with hgA
   injection hgA with hga hgz
   subst hga hgz
   have c0:wr.cell? ⟨gw,n,none⟩=some (.int .i64 (xk:Int)):=by simpa using hgc 0 _ rfl
   have hnc:n+1≤c∧c≤maxLen:=by
    have h:=(own_sl (s:=⟨some ⟨gw,0,none⟩,n+1,c,castL (Wi++[xk])⟩) (Q:=fun _=>True) cInt_len (by decide) HO1 (fun _ _=>trivial))
    exact ⟨h.nc,h.cm⟩
   unfold maxLen at hnc
   obtain ⟨hnc1,hnc2⟩:=hnc
   have hxk:xk < bn:=by have:=HXI.out.1;rw [HBL.out] at this;exact this
   obtain ⟨p,b,o,_,hpv,hps,hA,hb,hob,hc⟩:=bk_all HX.out hxk
   have hA:bA=some ⟨b,o,none⟩:=hA
   subst hA
   have hpv:BL[xk]?=some p.v:=HBV.out ▸ hpv
   have HPV:=hide hpv
   have HTG:=hide (show Ints W1 W1.heap.size p.term.targets from hob.term.targets)
   obtain ⟨⟨sA,sn,sc,sL⟩,⟨bk,⟨xA,xn,xc,xL⟩,⟨gA,gn,gc,gL⟩,⟨l,pA,pn,pc,ps⟩,tnm⟩⟩:=p
   have HALL:=hide fun (w':World) (y:Below wr.heap.size wr w')=>(show (w'.cell? ⟨w.heap.size,6,none⟩=some (.slice (some ⟨b,o,none⟩) bn bc)∧w'.cell? ⟨gw,n,none⟩=some (.int .i64 (xk:Int)))∧w'.cell? ⟨b,o+xk*7,none⟩=some (.slice sA sn sc)∧w'.cell? ⟨b,o+xk*7+1,none⟩=some (.int .i64 bk)∧w'.cell? ⟨b,o+xk*7+2,none⟩=some (.slice xA xn xc)∧w'.cell? ⟨b,o+xk*7+3,none⟩=some (.slice gA gn gc)∧w'.cell? ⟨b,o+xk*7+4,none⟩=some (.int .i64 l)∧w'.cell? ⟨b,o+xk*7+5,none⟩=some (.slice pA pn pc)∧w'.cell? ⟨b,o+xk*7+6,none⟩=some (.string tnm) from
    have hz:=fun j=>(HW.out.trans (y.mono HW.out.size)).cell (p:=⟨b,o+xk*7+j,none⟩) hb
    ⟨⟨(HC.out _ (HW.out.trans (y.mono HW.out.size))).2.2.2.2.2.2,(y.cell (p:=⟨gw,n,none⟩) hg2).trans c0⟩,(hz 0).trans (hc 0 _ rfl),(hz 1).trans (hc 1 _ rfl),(hz 2).trans (hc 2 _ rfl),(hz 3).trans (hc 3 _ rfl),(hz 4).trans (hc 4 _ rfl),(hz 5).trans (hc 5 _ rfl),(hz 6).trans (hc 6 _ rfl)⟩)
   have q1:=below1 wr (.cells #[.slice none 0 0,.int .i64 0,.slice none 0 0,.slice none 0 0,.int .i64 0,.slice none 0 0,.string ⟨#[]⟩] 58)
   obtain ⟨⟨f6,f7⟩,e0,e1,e2,e3,e4,e5,e6⟩:=HALL.out _ (Below.refl _ _)
   obtain ⟨⟨g6,g7⟩,j0,j1,j2,j3,j4,j5,j6⟩:=HALL.out _ q1
   have hxk':(xk:Int) < (bn:Int):=by omega
   have hxk0:(0:Int)≤(xk:Int):=by omega
   have hn0:(0:Int)≤(n:Int):=by omega
   have hnn:(n:Int) < ((n+1:Nat):Int):=by omega
   have s1:IntKind.i64.wrap ((n:Int)+1 - 1)=(n:Int):=by rw [show (n:Int)+1 - 1=n by omega];exact wrapI9 _ (by omega) (by omega)
   have HNW:=hide hn
   have HM2:=hide HM1
   clear h0 hl HO1 HM1 hrow hgc c0 hpv hps hob hc q1 HO HS hn HM
   go_wp2
   go_region
   have b5:Below wr.heap.size wr ((wr.alloc (.cells #[.slice sA sn sc,.int .i64 bk,.slice xA xn xc,.slice gA gn gc,.int .i64 l,.slice pA pn pc,.string tnm] 58)).drew):=(below1 wr (.cells #[.slice sA sn sc,.int .i64 bk,.slice xA xn xc,.slice gA gn gc,.int .i64 l,.slice pA pn pc,.string tnm] 58)).drew
   have hbk5:Bx ((wr.alloc (.cells #[.slice sA sn sc,.int .i64 bk,.slice xA xn xc,.slice gA gn gc,.int .i64 l,.slice pA pn pc,.string tnm] 58)).drew) wr.heap.size [.slice sA sn sc,.int .i64 bk,.slice xA xn xc,.slice gA gn gc,.int .i64 l,.slice pA pn pc,.string tnm] 58:=(Bx.new wr [.slice sA sn sc,.int .i64 bk,.slice xA xn xc,.slice gA gn gc,.int .i64 l,.slice pA pn pc,.string tnm] 58).below (Below.refl _ _).drew
   have HBX5:=hide (HBX.out.below b5)
   have HO5:=hide (ownsRow_below HO2.out b5)
   have HW5:=hide (HW.out.trans (b5.mono HW.out.size))
   have d2:=hbk5.cell (j:=2) rfl
   generalize (wr.alloc (.cells #[.slice sA sn sc,.int .i64 bk,.slice xA xn xc,.slice gA gn gc,.int .i64 l,.slice pA pn pc,.string tnm] 58)).drew=w5 at *
   have hnc3:n≤c:=by omega
   have HB5:=hide b5
   clear hbk5 b5 f6 f7 e0 e1 e2 e3 e4 e5 e6 g6 g7 j0 j1 j2 j3 j4 j5 j6 HBX HO2 s1
   generalize wr=wo at *
   go_wp2
   clear d2
   have HT0:=hide (show Ints W1 W1.heap.size ⟨xA,xn,xc,xL⟩ from HTG.out)
   have htl:xL.length=xn:=HT0.out.len
   have htm:xn≤maxLen:=HT0.out.nm
   unfold maxLen at htm
   have HTL:=hide htl
   have HW05:=hide (Below.refl w5.heap.size w5)
   go_loopw [8,9,41] (fun v f i wr=>∃ (Wk:List Nat) (A:Option Addr) (c:Nat) (F:List Bool) (q:Nat),v=.slice A Wk.length c∧f=.bool false∧i=.int .i64 (q:Int)∧q≤xn∧Hid (SrchX BL fr to F Wk xk (xL.take q))∧Hid (Bx wr (w.heap.size+1) (F.map Value.bool) 4)∧Hid (wr.ownsRow (w.heap.size+2) 3 1 (.slice A Wk.length c) Wk.length ((castL Wk).flatMap cInt))∧Hid (Below W1.heap.size W1 wr)∧Hid (2*F.count false+Wk.length+1≤gk)) (fun _ _ i _=>xn - (intOf i).toNat)
   case atStart=>exact ⟨Wi,some ⟨gw,0,none⟩,c,F,0,by rw [HNW.out],rfl,rfl,Nat.zero_le _,HSX,HBX5,(show w5.ownsRow (w.heap.size+2) 3 1 (.slice (some ⟨gw,0,none⟩) Wi.length c) Wi.length _ by rw [HNW.out];exact HO5.out),HW5,(show _≤_ by rw [HNW.out];have:=HM2.out;omega)⟩
   case round=>
    clear HSX HBX5 HO5 HW5 HW05
    obtain ⟨Wk,A,c,F,q,rfl,rfl,rfl,hq,HS,HBX,HO,HW5,HM⟩:=hrel
    obtain ⟨n,hn⟩:∃ n,Wk.length=n:=⟨_,rfl⟩
    have HNW:=hide hn
    have HO1:=HO.out
    have HM1:=HM.out
    rw [hn] at HO1 HM1 ⊢
    have HO2:=hide HO1
    have hn4:n≤3000000:=by omega
    by_cases hlq:q < xn
    ·
     have hlq':(q:Int) < (xn:Int):=by omega
     obtain ⟨t,ht⟩:=HT0.out.get hlq
     obtain ⟨g,z,hgA,hgB,_,hgc⟩:=HT0.out.at_ ht
     have hgA:xA=some ⟨g,z,none⟩:=hgA
     subst hgA
     have ht:xL[q]?=some t:=ht
     have c0:wr.cell? ⟨g,z+q,none⟩=some (.int .i64 t):=(HW5.out.cell (p:=⟨g,z+q,none⟩) hgB).trans (by simpa using hgc 0 _ rfl)
     have c6:=(HC.out _ HW5.out).2.2.2.2.2.2
     have HTK:=hide (show xL.take (q+1)=xL.take q++[t] by rw [List.take_add_one,ht];rfl)
     have HTM:=hide (List.mem_of_getElem? ht)
     clear ht hgc hgB hn HO1
     by_cases hin:0≤t∧t < (bn:Int)
     case neg=>
      have HI0:=hide (HWI.out t false (inR_no hin))
      have HS6:=hide (HS.out.skip (t:=t) (.inl (by rw [HBL.out];exact inR_no hin)))
      clear hin
      go_wp2_with fail
      refine (HI0.out _).mono ?_
      rintro e w1 ⟨rfl,rfl⟩
      clear c0 c6
      go_wp2
      go_roundw
      case rel=>exact ⟨Wk,A,c,F,q+1,by rw [HNW.out],rfl,by go_num,by omega,hide (by rw [HTK.out];exact HS6.out),HBX,(show w1.ownsRow (w.heap.size+2) 3 1 (.slice A Wk.length c) Wk.length _ by rw [HNW.out];exact HO2.out),HW5,HM⟩
      case measure=>simp [intOf];omega
     have HI0:=hide (HWI.out t true (inR_yes hin))
     obtain ⟨k,rfl⟩:∃ k:Nat,t=(k:Int):=⟨t.toNat,by omega⟩
     have hkb:k < bn:=by omega
     obtain ⟨fb,hfb⟩:∃ b,F[k]?=some b:=⟨_,List.getElem?_eq_getElem (by rw [HS.out.len,HBL.out];exact hkb)⟩
     have c1:wr.cell? ⟨w.heap.size+1,k,none⟩=some (.bool fb):=HBX.out.cell (j:=k) (by rw [List.getElem?_map,hfb];rfl)
     have hk':(k:Int) < (bn:Int):=by omega
     have hk0:(0:Int)≤(k:Int):=by omega
     cases fb
     case true=>
      have HS6:=hide (HS.out.skip (t:=(k:Int)) (.inr (by rw [Int.toNat_natCast];exact hfb)))
      clear hin hfb
      go_wp2_with fail
      refine (HI0.out _).mono ?_
      rintro e w1 ⟨rfl,rfl⟩
      go_wp2
      go_roundw
      case rel=>exact ⟨Wk,A,c,F,q+1,by rw [HNW.out],rfl,by go_num,by omega,hide (by rw [HTK.out];exact HS6.out),HBX,(show w1.ownsRow (w.heap.size+2) 3 1 (.slice A Wk.length c) Wk.length _ by rw [HNW.out];exact HO2.out),HW5,HM⟩
      case measure=>simp [intOf];omega
     have HFK:=hide hfb
     clear hin hfb
     by_cases hkt:k=to
     ·
      have hkt':((k:Int) == (to:Int))=true:=by subst hkt;simp
      obtain rfl:v=true:=by
       rw [←HV.out]
       refine ldB_iff.2 ?_
       rw [←hkt]
       exact HS.out.lead (t:=k) HPV.out HTM.out (by rw [HBL.out];exact hkb)
      clear hkt
      go_wp2_with fail
      refine (HI0.out _).mono ?_
      rintro e w1 ⟨rfl,rfl⟩
      go_wp2
      rw [Exit.noGoto_ret]
      go_ret
      exact ⟨rfl,HB.out.trans (HW5.out.mono HB.out.size)⟩
     ·
      have hkt':((k:Int) == (to:Int))=false:=by rw [beq_eq_false_iff_ne];omega
      have HS6:=hide (HS.out.push (t:=k) HPV.out HTM.out (by rw [HBL.out];exact hkb) hkt)
      have HCN:=hide (cnt_set11 HFK.out)
      have ff:=HBX.out.frozen k
      clear hkt
      go_wp2_with fail
      refine (HI0.out _).mono ?_
      rintro e w1 ⟨rfl,rfl⟩
      have HBX5:=hide (show Bx (w1.setCell ⟨w.heap.size+1,k,none⟩ (.bool true)) (w.heap.size+1) ((F.set k true).map Value.bool) 4 from by rw [List.map_set];exact HBX.out.set k _)
      have HO5:=hide (ownsRow_setCell_below (a:=⟨w.heap.size+1,k,none⟩) HO2.out (show w.heap.size+1 < w.heap.size+2 by omega) (.bool true))
      have HW6:=hide (HW5.out.setCell (p:=⟨w.heap.size+1,k,none⟩) (show W1.heap.size≤w.heap.size+1 by rw [HWS.out];exact Nat.le_refl _) (.bool true))
      obtain ⟨i0,hi,hz0,hz1,hz2⟩:=info_parts info9Int
      have hb3:=below1 (w1.setCell ⟨w.heap.size+1,k,none⟩ (.bool true)) (.cells #[.int .i64 (k:Int)] 3)
      have HO7:=hide (ownsRow_below HO5.out hb3)
      have HBX7:=hide (HBX5.out.below hb3)
      have hsw:(w1.setCell ⟨w.heap.size+1,k,none⟩ (.bool true)).heap.size=w1.heap.size:=by simp
      have HL7:=hide (show Cells ((w1.setCell ⟨w.heap.size+1,k,none⟩ (.bool true)).alloc (.cells #[.int .i64 (k:Int)] 3)) (w1.heap.size+1) 1 cInt (some ⟨w1.heap.size,0,none⟩) 1 [(k:Int)] from hsw ▸ lit_cells (w1.setCell ⟨w.heap.size+1,k,none⟩ (.bool true)) cInt cInt_len (k:Int) 3)
      have HW7:=hide (HW6.out.trans (hb3.mono HW6.out.size))
      have hs7:w.heap.size+2≤((w1.setCell ⟨w.heap.size+1,k,none⟩ (.bool true)).alloc (.cells #[.int .i64 (k:Int)] 3)).heap.size:=by
       have h1:=HBX7.out.lt
       omega
      clear hb3 hsw
      go_wp2_with (at_builtin;refine wpList_append_cells ((w1.setCell ⟨w.heap.size+1,k,none⟩ (.bool true)).alloc (.cells #[.int .i64 (k:Int)] 3)) rfl (.tmp 65) (.tmp 67) 43 rfl cInt_len (by decide) cInt_one (w.heap.size+2) 3 i0 _ 8 Try.underlying43 hi hz0 hz1 hz2 rfl _ n ((castL Wk).flatMap cInt) rfl HO7.out _ (some ⟨w1.heap.size,0,none⟩) 1 1 [(k:Int)] rfl HL7.out (by unfold maxLen;omega) (by omega) hs7 ?_;intro v8 w8 hown8 hg8 _;obtain ⟨A8,k8,rfl⟩:=own_slice9 hown8;have HO8:=hide hown8;have HBX8:=hide (HBX7.out.kt (KT.of_grown hg8 HO7.out) (by decide));have HW8:=hide (below_app HW7.out (ownsRow_base HO7.out (show W1.heap.size≤w.heap.size+2 by rw [HWS.out];omega)) (by rw [HWS.out];omega) hg8);clear hown8 hg8)
      go_roundw
      case rel=>
       have hl2:(Wk++[k]).length=n+1:=by rw [List.length_append,HNW.out];rfl
       refine ⟨Wk++[k],A8,k8,F.set k true,q+1,by rw [hl2],rfl,by go_num,by omega,hide (by rw [HTK.out];exact HS6.out),HBX8,hide ?_,HW8,hide ?_⟩
       ·
        rw [hl2]
        have e:castL (Wk++[k])=castL Wk++[(k:Int)]:=List.map_append
        rw [e,List.flatMap_append]
        exact HO8.out
       ·
        rw [hl2]
        have h1:=HCN.out
        have h2:=HM1
        omega
      case measure=>simp [intOf];omega
    ·
     have hlq':¬(q:Int) < (xn:Int):=by omega
     have HS6:=hide (SrchX.fin (c:=BkW.v ⟨⟨sA,sn,sc,sL⟩,⟨bk,⟨xA,xn,xc,xL⟩,⟨gA,gn,gc,gL⟩,⟨l,pA,pn,pc,ps⟩,tnm⟩⟩) (show SrchX BL fr to F Wk xk xL from by
      have h:=HS.out
      rw [List.take_of_length_le (by rw [HTL.out];omega)] at h
      exact h) HPV.out)
     clear HO1 hn
     go_wp2
     go_roundg (2*F.count false+n)
     case rel=>exact ⟨Wk,A,c,F,by rw [HNW.out],rfl,HS6,HBX,(show wr.ownsRow (w.heap.size+2) 3 1 (.slice A Wk.length c) Wk.length _ by rw [HNW.out];exact HO2.out),HW5,(show _≤_ by rw [HNW.out];exact Nat.le_refl _),(show _≤_ by have:=HG.out;omega)⟩
     case measure=>have:=HG.out;omega
theorem rchI_from {l:List BkV} {p q:Int} (h:ptLocI l p=none):rchI l p q=false:=by
 refine rchI_no fun hr=>?_
 have e:nxN l p=[]:=by
  have h1:=nextI_cast l p
  rw [next_none h] at h1
  unfold castL at h1
  exact List.map_eq_nil_iff.1 h1.symm
 have h2:=hr.2.2
 rw [e] at h2
 exact RchL.closed (S:=fun _=>False) (fun x hx=>by cases hx) (fun x hx _ _=>hx) h2
theorem rchI_to {l:List BkV} {p q:Int} (h:ptLocI l q=none):rchI l p q=false:=by
 refine rchI_no fun hr=>?_
 unfold ptLocI at h
 rw [if_neg (by omega)] at h
 have:=ptLoc_none_iff.1 h
 omega
theorem rchI_at {l:List BkV} {p q:Int} {i k j m:Nat} (h:ptLocI l p=some (i,k)) (hq:ptLocI l q=some (j,m)):rchI l p q=true↔(i=j∧k < m)∨Lead l i j:=by
 obtain ⟨hp0,b,hb,hk,hpk⟩:=ptLocI_some h
 obtain ⟨hq0,c,hc,hm,hqm⟩:=ptLocI_some hq
 obtain ⟨pn,rfl⟩:∃ n:Nat,p=(n:Int):=⟨p.toNat,by omega⟩
 obtain ⟨qn,rfl⟩:∃ n:Nat,q=(n:Int):=⟨q.toNat,by omega⟩
 have h':ptLoc l pn=some (i,k):=ptLoc_iff.2 ⟨b,hb,hk,by omega⟩
 have hq':ptLoc l qn=some (j,m):=ptLoc_iff.2 ⟨c,hc,hm,by omega⟩
 rw [rchI_iff,Int.toNat_natCast,rch_iff h' hq']
 have:=pt_lt hc hm
 exact ⟨fun h=>h.2.2,fun h=>⟨by omega,by omega,h⟩⟩
theorem PReaches_any (x:BdW) (p q:Int) (w:World) (hx:OneBd w w.heap.size x) (hN:ptCount x.v.blocks≤1000000) (hI:IntR p) (hJ:IntR q) :
  Calls Try.prog 23 #[aggBd x,.int .i64 p,.int .i64 q] w fun e w'=>e=.returned (.bool (rchI x.v.blocks p q))∧Below w.heap.size w w':=by
 have hN2:ptCount x.v.blocks≤2 ^ 62:=Nat.le_trans hN (by decide)
 have hbl:=bk_len hx
 have hbn:x.blocks.n≤1000000:=by
  have:=len_le_count x.v.blocks
  omega
 obtain ⟨r,hr⟩:∃ r,ptLocI x.v.blocks p=r:=⟨_,rfl⟩
 obtain ⟨s,hs⟩:∃ s,ptLocI x.v.blocks q=s:=⟨_,rfl⟩
 have HL:=hide fun (w':World) (y:Below w.heap.size w w')=>hr ▸ PLoc_any x p w' (hx.up y) hN2 hI
 have HL2:=hide fun (w':World) (y:Below w.heap.size w w')=>hs ▸ PLoc_any x q w' (hx.up y) hN2 hJ
 have HLE:=hide fun (w':World) (i j:Nat) (hi:i < x.blocks.n) (hj:j < x.blocks.n) (y:Below w.heap.size w w')=>PLeads_any x i j w' (hx.up y) hi hj hbn
 obtain ⟨v,hv⟩:∃ v,rchI x.v.blocks p q=v:=⟨_,rfl⟩
 rw [hv]
 obtain ⟨BL,hBL⟩:∃ l,x.v.blocks=l:=⟨_,rfl⟩
 rw [hBL] at hr hs hv hbl HLE
 have HR:=hide hr
 have HS:=hide hs
 have HV:=hide hv
 obtain ⟨nm,⟨rA,rn,rc,rL⟩,⟨oA,on,oc,oL⟩,⟨tA,tm,tc,tL⟩,⟨lA,ln,lc,lL⟩,ar,⟨bA,bn,bc,bL⟩⟩:=x
 have HB:=hide (below1 w (.cells #[.string nm,.slice rA rn rc,.slice oA on oc,.slice tA tm tc,.slice lA ln lc,.int .i64 ar,.slice bA bn bc] 32))
 have HBL:=hide (show BL.length=bn from hbl)
 obtain ⟨x0,x1,x2,x3,x4,x5,x6⟩:=cells7 (Below.refl (w.alloc (.cells #[.string nm,.slice rA rn rc,.slice oA on oc,.slice tA tm tc,.slice lA ln lc,.int .i64 ar,.slice bA bn bc] 32)).heap.size (w.alloc (.cells #[.string nm,.slice rA rn rc,.slice oA on oc,.slice tA tm tc,.slice lA ln lc,.int .i64 ar,.slice bA bn bc] 32)))
 have HC:=hide fun (w':World) (y:Below (w.alloc (.cells #[.string nm,.slice rA rn rc,.slice oA on oc,.slice tA tm tc,.slice lA ln lc,.int .i64 ar,.slice bA bn bc] 32)).heap.size (w.alloc (.cells #[.string nm,.slice rA rn rc,.slice oA on oc,.slice tA tm tc,.slice lA ln lc,.int .i64 ar,.slice bA bn bc] 32)) w')=>cells7 y
 clear hx hN hN2 hI hJ hbl hbn hr hs hv hBL
 obtain ⟨a0,a1,a2,b1,e1,_⟩:=vSp_form r p
 obtain ⟨c0,c1,c2,b2,e2,_⟩:=vSp_form s q
 have HE1:=hide e1
 have HE2:=hide e2
 rw [e1] at HL
 rw [e2] at HL2
 have hno:¬(b1=true∧b2=true)→v=false:=fun h=>by
  cases r with
  | none=>rw [←HV.out];exact rchI_from HR.out
  | some z=>cases s with
   | none=>rw [←HV.out];exact rchI_to HS.out
   | some z'=>
    refine absurd ⟨?_,?_⟩ h
    ·
     have:=HE1.out;unfold vSp at this;injection this with this;injection this with this;simp_all
    ·
     have:=HE2.out;unfold vSp at this;injection this with this;injection this with this;simp_all
 have hyes:b1=true→b2=true→∃ i k j m:Nat,a1=(i:Int)∧a2=(k:Int)∧c1=(j:Int)∧c2=(m:Int)∧i < bn∧j < bn∧(v=true↔(i=j∧k < m)∨Lead BL i j):=fun h1 h2=>by
  subst h1 h2
  cases r with
  | none=>have:=HE1.out;unfold vSp at this;simp at this
  | some z=>cases s with
   | none=>have:=HE2.out;unfold vSp at this;simp at this
   | some z'=>
    have q1:=HE1.out
    have q2:=HE2.out
    unfold vSp at q1 q2
    simp only [Value.tuple.injEq,Array.mk.injEq,List.cons.injEq,Value.agg.injEq,Value.int.injEq,and_true,true_and] at q1 q2
    refine ⟨z.1,z.2,z'.1,z'.2,q1.2.1.symm,q1.2.2.symm,q2.2.1.symm,q2.2.2.symm,?_,?_,?_⟩
    ·
     have:=ptLocI_lt HR.out;rw [HBL.out] at this;exact this
    ·
     have:=ptLocI_lt HS.out;rw [HBL.out] at this;exact this
    ·
     rw [←HV.out];exact rchI_at HR.out HS.out
 have HNO:=hide hno
 have HYES:=hide hyes
 clear e1 e2 hno hyes
 go_enter Try.func23,Try.ntmps23
 go_wp2_with fail
 refine (HL.out _ HB.out).mono ?_
 rintro e w1 ⟨rfl,hb1⟩
 have q1:=below1 w1 (.cells #[.int .i64 a0,.int .i64 a1,.int .i64 a2] 72)
 have HW1:=hide (hb1.trans (q1.mono hb1.size))
 have hbx1:=Bx.new w1 [.int .i64 a0,.int .i64 a1,.int .i64 a2] 72
 clear x0 x1 x2 x3 x4 x5 x6 hb1 q1
 obtain ⟨x0,x1,x2,x3,x4,x5,x6⟩:=HC.out _ HW1.out
 go_wp2_with fail
 refine (HL2.out _ (HB.out.trans (HW1.out.mono HB.out.size))).mono ?_
 rintro e w2 ⟨rfl,hb2⟩
 have q2:=below1 w2 (.cells #[.int .i64 c0,.int .i64 c1,.int .i64 c2] 72)
 have HW2:=hide (HW1.out.trans ((hb2.trans (q2.mono hb2.size)).mono HW1.out.size))
 have hbx2:=Bx.new w2 [.int .i64 c0,.int .i64 c1,.int .i64 c2] 72
 have hbx1:=(hbx1.below hb2).below q2
 have d1:=hbx1.cell (j:=1) rfl
 have d2:=hbx1.cell (j:=2) rfl
 have f1:=hbx2.cell (j:=1) rfl
 have f2:=hbx2.cell (j:=2) rfl
 have HBW2:=hide (HB.out.trans (HW2.out.mono HB.out.size))
 clear x0 x1 x2 x3 x4 x5 x6 hb2 q2 hbx1 hbx2
 obtain ⟨x0,x1,x2,x3,x4,x5,x6⟩:=HC.out _ HW2.out
 cases b1
 case false=>
  obtain rfl:=HNO.out (by simp)
  go_wp2
  go_ret
  exact ⟨rfl,HBW2.out⟩
 cases b2
 case false=>
  obtain rfl:=HNO.out (by simp)
  go_wp2
  go_ret
  exact ⟨rfl,HBW2.out⟩
 obtain ⟨i,k,j,m,rfl,rfl,rfl,rfl,hi,hj,hiff⟩:=HYES.out rfl rfl
 have HIFF:=hide hiff
 have HLE1:=hide fun (w':World)=>HLE.out w' i j hi hj
 clear hiff hi hj
 by_cases hij:i=j
 ·
  subst hij
  have t1:((i:Int) == (i:Int))=true:=by simp
  by_cases hkm:k < m
  ·
   have t2:(k:Int) < (m:Int):=by omega
   obtain rfl:v=true:=HIFF.out.2 (.inl ⟨rfl,hkm⟩)
   clear hkm
   go_wp2
   go_ret
   exact ⟨rfl,HBW2.out⟩
  ·
   have t2:¬(k:Int) < (m:Int):=by omega
   have HVV:=hide (show ldB BL i i=v from by
    cases v with
    | true=>exact ldB_iff.2 ((HIFF.out.1 rfl).elim (fun h=>absurd h.2 hkm) id)
    | false=>exact ldB_no fun h=>by have:=HIFF.out.2 (.inr h);cases this)
   have HKM:=hide hkm
   clear hkm
   go_wp2_with fail
   refine (HLE1.out _ HBW2.out).mono ?_
   rintro e w3 ⟨rfl,hb3⟩
   have HBW3:=hide (HBW2.out.trans (hb3.mono HBW2.out.size))
   clear hb3
   go_wp2
   go_ret
   exact ⟨congrArg (fun z:Bool=>Ending.returned (.bool z)) (show (decide (k < m) || ldB BL i i)=v by rw [decide_eq_false HKM.out,HVV.out];rfl),HBW3.out⟩
 ·
  have t1:((i:Int) == (j:Int))=false:=by rw [beq_eq_false_iff_ne];omega
  have HVV:=hide (show ldB BL i j=v from by
   cases v with
   | true=>exact ldB_iff.2 ((HIFF.out.1 rfl).elim (fun h=>absurd h.1 hij) id)
   | false=>exact ldB_no fun h=>by have:=HIFF.out.2 (.inr h);cases this)
  clear hij
  go_wp2_with fail
  refine (HLE1.out _ HBW2.out).mono ?_
  rintro e w3 ⟨rfl,hb3⟩
  have HBW3:=hide (HBW2.out.trans (hb3.mono HBW2.out.size))
  clear hb3
  go_wp2
  go_ret
  exact ⟨by rw [←HVV.out];rfl,HBW3.out⟩
theorem rd11 {w:World} {B n:Nat} {A:Option Addr} {L:List Int} (h:Cells w B 1 cInt A n L):Rd w B A n (i64s L):=by
 refine ⟨by rw [List.length_map];exact h.1,fun hn=>?_⟩
 obtain ⟨b,o,h1,h2,h3⟩:=h.2 hn
 refine ⟨b,o,h1,h2,fun j u hu=>?_⟩
 rw [List.getElem?_map] at hu
 cases hx:L[j]? with
 | none=>rw [hx] at hu;cases hu
 | some x=>
  rw [hx] at hu
  injection hu with hu
  have:=h3 j x hx 0 (.int .i64 x) rfl
  rw [←hu]
  simpa using this
theorem own_max11 {w:World} {lo:Nat} {e:TypeId} {k n c:Nat} {A:Option Addr} {xs:List Value} (h:w.ownsRow lo e k (.slice A n c) n xs):n≤maxLen:=by
 rcases h.2 with ⟨h2,rfl⟩ | ⟨g,cap,cur,hv,_,_,h3,h4,_⟩
 ·
  exact Nat.zero_le _
 ·
  exact Nat.le_trans h3 h4
theorem EqI11 {A B:Option Addr} {n m c d lo lo':Nat} {xs ys:List Int} {b:Bool} (hb:eqIs xs ys=b) (w:World) (hx:w.ownsRow lo 3 1 (.slice A n c) n (xs.flatMap cInt)) (hy:w.ownsRow lo' 3 1 (.slice B m d) m (ys.flatMap cInt)) :
  Calls Try.prog 17 #[.slice A n c,.slice B m d] w fun e w'=>e=.returned (.bool b)∧Below w.heap.size w w':=
 hb ▸ EqI_any A B n m c d xs ys w _ _ (rd11 (Cells.of_own cInt_len (by decide) hx)) (rd11 (Cells.of_own cInt_len (by decide) hy)) (own_max11 hx) (own_max11 hy)
theorem eqPr11 (a b a' b':Int) (w:World):(Op.equalIn 10000 25 (.agg #[.int .i64 a,.int .i64 b]) (.agg #[.int .i64 a',.int .i64 b'])).run Try.prog w=.ok (decide (a=a'∧b=b')) w:=by
 have u5:=Try.underlying3
 have a5:=Try.isAgg3
 have z5:=Try.sizeOf3
 rw [show (10000:Nat)=9999+1 from rfl,Op.equalIn]
 simp only [Sem.run_bind,run_underlying Try.underlying25,Result.andThen_ok]
 simp only [Std.Legacy.Range.forIn_eq_forIn_range',Std.Legacy.Range.size,Nat.sub_zero,Nat.add_sub_cancel,Nat.div_one,List.range'_succ,List.range'_zero,List.forIn_cons,List.forIn_nil]
 go_simp
 by_cases h1:a=a' <;> by_cases h2:b=b' <;> simp [h1,h2]
theorem eqPr11_yes (a b:Int) (w:World):(Op.equalIn 10000 25 (.agg #[.int .i64 a,.int .i64 b]) (.agg #[.int .i64 a,.int .i64 b])).run Try.prog w=.ok true w:=by
 rw [eqPr11,decide_eq_true ⟨rfl,rfl⟩]
theorem eqPr11_no {a b a' b':Int} (h:¬(a=a'∧b=b')) (w:World):(Op.equalIn 10000 25 (.agg #[.int .i64 a,.int .i64 b]) (.agg #[.int .i64 a',.int .i64 b'])).run Try.prog w=.ok false w:=by
 rw [eqPr11,decide_eq_false h]
theorem EqPr_any (A B:Option Addr) (n m c d:Nat) (xs ys:List Pr) (w:World) (k l:Nat) (hx:Cells w k 2 pV A n xs) (hy:Cells w l 2 pV B m ys) (hn:n≤maxLen) (hm:m≤maxLen) :
  Calls Try.prog 20 #[.slice A n c,.slice B m d] w fun e w'=>e=.returned (.bool (eqPs xs ys))∧Below w.heap.size w w':=by
 have HX:=hide hx
 have HY:=hide hy
 have HXL:=hide hx.1
 have HYL:=hide hy.1
 unfold maxLen at hn hm
 clear hx hy
 by_cases hnm:n=m
 ·
  subst hnm
  go_enter Try.func20,Try.ntmps20
  go_wp2
  go_loopw [13] (fun i wr=>∃ j:Nat,i=.int .i64 (j:Int)∧j≤n∧Hid (eqPUpto xs ys j)∧Below w.heap.size w wr∧(∀ p,wr.cell? p=w.cell? p)) (fun i _=>n - (intOf i).toNat)
  case atStart=>exact ⟨0,rfl,Nat.zero_le _,fun j h=>absurd h (by omega),Below.refl _ _,fun _=>rfl⟩
  case round=>
   obtain ⟨j,rfl,hj,HE,hb,hc⟩:=hrel
   have HB:=hide hb
   have HC:=hide hc
   clear hb hc
   by_cases hlt:j < n
   ·
    obtain ⟨p,hp⟩:∃ a,xs[j]?=some a:=⟨_,List.getElem?_eq_getElem (by have:=HXL.out;omega)⟩
    obtain ⟨q,hq⟩:∃ a,ys[j]?=some a:=⟨_,List.getElem?_eq_getElem (by have:=HYL.out;omega)⟩
    obtain ⟨g,o,rfl,_,hcs⟩:=HX.out.at_ hp
    obtain ⟨g',o',rfl,_,hds⟩:=HY.out.at_ hq
    have c0:=hcs 0 _ rfl
    have c1:=hcs 1 _ rfl
    have d0:=hds 0 _ rfl
    have d1:=hds 1 _ rfl
    simp only [Nat.add_zero] at c0 d0
    clear hcs hds
    rw [←HC.out] at c0 c1 d0 d1
    have hlt':(j:Int) < (n:Int):=by omega
    have HP:=hide hp
    have HQ:=hide hq
    clear hp hq
    obtain ⟨a,b⟩:=p
    obtain ⟨a',b'⟩:=q
    simp only [] at c0 c1 d0 d1
    by_cases hab:a=a'∧b=b'
    ·
     obtain ⟨rfl,rfl⟩:=hab
     have HE2:=hide (eqPUpto_up HE.out HP.out HQ.out)
     have hcmp:=fun w'=>eqPr11_yes a b w'
     go_wp2
     go_quiet (fail)
     go_wp2
     go_roundw
     case rel=>exact ⟨j+1,by go_num,by omega,HE2.out,tyN HB.out _,HC.out⟩
     case measure=>simp [intOf];omega
    ·
     have HF:=hide (eqPs_no HP.out HQ.out (fun e=>hab (by injection e with e1 e2;exact ⟨e1,e2⟩)))
     have hcmp:=fun w'=>eqPr11_no hab w'
     clear hab
     go_wp2
     go_quiet (fail)
     go_wp2
     go_ret
     exact ⟨congrArg (fun v=>Ending.returned (.bool v)) HF.out.symm,tyN HB.out _⟩
   ·
    obtain rfl:j=n:=by omega
    have HF:=hide (eqPs_yes HE.out HXL.out HYL.out)
    go_wp2
    go_ret
    exact ⟨congrArg (fun v=>Ending.returned (.bool v)) HF.out.symm,HB.out⟩
 ·
  have e1:((n:Int) != (m:Int))=true:=by simp;omega
  have HF:=hide (show eqPs xs ys=false by
   cases h:eqPs xs ys
   ·
    rfl
   ·
    rw [eqPs_iff] at h
    subst h
    have h1:=HXL.out
    have h2:=HYL.out
    omega)
  go_enter Try.func20,Try.ntmps20
  go_wp2
  go_ret
  exact ⟨congrArg (fun v=>Ending.returned (.bool v)) HF.out.symm,Below.refl _ _⟩
theorem EqP11 {A B:Option Addr} {n m c d lo lo':Nat} {xs ys:List Pr} {b:Bool} (hb:eqPs xs ys=b) (w:World) (hx:w.ownsRow lo 25 2 (.slice A n c) n (xs.flatMap pV)) (hy:w.ownsRow lo' 25 2 (.slice B m d) m (ys.flatMap pV)) :
  Calls Try.prog 20 #[.slice A n c,.slice B m d] w fun e w'=>e=.returned (.bool b)∧Below w.heap.size w w':=
 hb ▸ EqPr_any A B n m c d xs ys w _ _ (Cells.of_own pV_len (by decide) hx) (Cells.of_own pV_len (by decide) hy) (own_max11 hx) (own_max11 hy)
end Go.Proofs.Ytlbopbjdiehecaa
namespace Go.Proofs.Ytlbopbjdiehecaa
open Go.ChangeShapes Go.WideShapes Go.ChangeAt Go.RowKit
theorem cellLt {w:World} {a:Addr} {v:Value} (h:w.cell? a=some v):a.block < w.heap.size:=by
 rcases Nat.lt_or_ge a.block w.heap.size with h' | h'
 ·
  exact h'
 ·
  unfold World.cell? at h
  rw [Array.getElem?_eq_none h'] at h
  simp at h
end Go.Proofs.Ytlbopbjdiehecaa
namespace Go.Proofs.Ytlbopbjdiehecaa
open Go.ChangeShapes Go.WideShapes Go.ChangeAt Go.RowKit
theorem listL_of {α:Type} {Q:Nat→α→Prop}:∀ n:Nat,(∀ i,i < n→∃ a,Q i a)→∃ L:List α,L.length=n∧∀ i a,L[i]?=some a→Q i a
 | 0,_=>⟨[],rfl,fun i a h=>by simp at h⟩
 | n+1,h=>by
  obtain ⟨L,hl,hq⟩:=listL_of n fun i hi=>h i (by omega)
  obtain ⟨a,ha⟩:=h n (by omega)
  refine ⟨L++[a],by simp [hl],fun i b hb=>?_⟩
  rcases Nat.lt_or_ge i L.length with hi | hi
  ·
   rw [List.getElem?_append_left hi] at hb
   exact hq i b hb
  ·
   rw [List.getElem?_append_right hi] at hb
   have hi0:i - L.length=0:=by
    rcases Nat.eq_zero_or_pos (i - L.length) with h0 | h0
    ·
     exact h0
    ·
     rw [List.getElem?_eq_none (by simp;omega)] at hb;cases hb
   rw [hi0] at hb
   simp at hb
   subst hb
   rw [show i=n by omega]
   exact ha
theorem rngL {x:Int} (h:(Lit.int .i64 x).wf=true):IntR x:=by simpa [IntR,Lit.wf,IntKind.min,IntKind.max,IntKind.signed,IntKind.bits] using h
end Go.Proofs.Ytlbopbjdiehecaa
namespace Go.Proofs.Ytlbopbjdiehecaa
open Go.ChangeShapes Go.WideShapes Go.ChangeAt Go.RowKit
def fieldAt (P:Program) (fs:Array Field) (j off k:Nat) (t:TypeId):Bool:=match fs[j]? with
 | some f=>f.offset == off && P.cellsOf f.type == k && f.type == t
 | none=>false
def Fit {H:Type} (P:Program) (t:TypeId) (d:DataW H):Prop:=(d.weights P t).all (·≤reachBytes)=true
theorem Fit.of_sub {H:Type} {P:Program} {t t':TypeId} {d d':DataW H} (h:Fit P t d) (hs:∀ n∈d'.weights P t',n∈d.weights P t):Fit P t' d':=by
 unfold Fit at *
 rw [List.all_eq_true] at *
 exact fun n hn=>h n (hs n hn)
theorem Fit.part {H:Type} {P:Program} {e:TypeId} {fs:Array Field} (he:P.underlying e=some (.struct fs)) {parts:List (DataW H)} (h:Fit P e (.agg parts)) {j:Nat} {f:Field} {d:DataW H} (hf:fs[j]?=some f) (hd:parts[j]?=some d):Fit P f.type d:=by
 refine h.of_sub fun n hn=>?_
 have e1:(DataW.agg parts).weights P e=DataW.weightsEach P (fs.toList.map (·.type)) parts:=by simp [DataW.weights,he]
 rw [e1]
 exact DataW.weights_mem_each (by rw [List.getElem?_map,Array.getElem?_toList,hf];rfl) hd n hn
theorem weights_all_mem {H:Type} {P:Program} {e:TypeId}:∀ {ds:List (DataW H)} {d:DataW H},d∈ds→∀ n∈d.weights P e,n∈DataW.weightsAll P e ds
 | x :: r,d,h,n,hn=>by
  rw [DataW.weightsAll]
  rcases List.mem_cons.1 h with rfl | h
  ·
   exact List.mem_append_left _ hn
  ·
   exact List.mem_append_right _ (weights_all_mem h n hn)
theorem Fit.elem {H:Type} {P:Program} {t e:TypeId} (ht:P.underlying t=some (.slice e)) {es sp:List (DataW H)} (h:Fit P t (.slice es sp)) {d:DataW H} (hd:d∈es):Fit P e d:=by
 refine h.of_sub fun n hn=>?_
 have e1:(DataW.slice es sp).weights P t=(es.length+sp.length)*P.bytesOf e :: (DataW.weightsAll P e es++DataW.weightsAll P e sp):=by simp [DataW.weights,ht]
 rw [e1]
 exact List.mem_cons_of_mem _ (List.mem_append_left _ (weights_all_mem hd n hn))
theorem Fit.len {H:Type} {P:Program} {t e:TypeId} (ht:P.underlying t=some (.slice e)) {es sp:List (DataW H)} (h:Fit P t (.slice es sp)) (hb:0 < P.bytesOf e):es.length≤2 ^ 47:=by
 have e1:(DataW.slice es sp).weights P t=(es.length+sp.length)*P.bytesOf e :: (DataW.weightsAll P e es++DataW.weightsAll P e sp):=by simp [DataW.weights,ht]
 unfold Fit at h
 rw [e1,List.all_cons,Bool.and_eq_true] at h
 have h1:=of_decide_eq_true h.1
 have h2:es.length+sp.length≤(es.length+sp.length)*P.bytesOf e:=Nat.le_mul_of_pos_right _ hb
 unfold reachBytes at h1
 omega
theorem trodPart {H:Type} {enc:TypeId×Value→H} {P:Program} {W:World} {e:TypeId} {fs:Array Field} {fuel:Nat} {cs:List Value} {z:DataW H×List MemPlace} (he:P.underlying e=some (.struct fs)) {j off k:Nat} {t:TypeId} (hf:fieldAt P fs j off k t=true)
  (h:DataW.trod enc P W 0 (fun _=>true) true fuel e cs=some z):∃ m y,DataW.trod enc P W 0 (fun _=>true) true m t ((cs.drop off).take k)=some y∧(Fit P e z.1→Fit P t y.1):=by
 obtain ⟨ys,m,_,hz,_,hyl,hfld⟩:=DataW.trod_struct he h
 unfold fieldAt at hf
 split at hf
 ·
  rename_i f hj
  simp only [Bool.and_eq_true,beq_iff_eq] at hf
  obtain ⟨⟨h1,h2⟩,h3⟩:=hf
  have hb:=hfld j f hj
  rw [h1,h2] at hb
  have hy:ys[j]?=some (ys[j]'(by rw [hyl];exact (Array.getElem?_eq_some_iff.1 hj).1)):=List.getElem?_eq_getElem _
  refine ⟨m,ys[j]'(by rw [hyl];exact (Array.getElem?_eq_some_iff.1 hj).1),?_,fun hF=>?_⟩
  ·
   rw [←h3,hb]
   exact hy
  ·
   subst hz
   have:=Fit.part he hF hj (d:=(ys[j]'(by rw [hyl];exact (Array.getElem?_eq_some_iff.1 hj).1)).1) (by rw [List.getElem?_map,hy];rfl)
   rwa [h3] at this
 ·
  cases hf
theorem trodCellsF {H:Type} {enc:TypeId×Value→H} {P:Program} {W:World} {t e:TypeId} {fuel:Nat} {u:Value} {z:DataW H×List MemPlace} {α:Type} (f:α→List Value) (Q R:α→Prop) {k:Nat} (hk:0 < k) (hf:∀ x,(f x).length=k)
  (ht:P.underlying t=some (.slice e)) (hC:P.cellsOf e=k) (hB:0 < P.bytesOf e) (elem:∀ (fuel:Nat) (cs:List Value) (z:DataW H×List MemPlace),cs.length=k→DataW.trod enc P W 0 (fun _=>true) true fuel e cs=some z→∃ x,cs=f x∧Q x∧(Fit P e z.1→R x))
  (h:DataW.trod enc P W 0 (fun _=>true) true fuel t [u]=some z):∃ A n c L,u=.slice A n c∧n≤c∧c≤maxLen∧Cells W W.heap.size k f A n L∧(∀ x∈L,Q x)∧(Fit P t z.1→n≤2 ^ 47∧∀ x∈L,R x):=by
 rcases Go.Deep.open_slice ht h with ⟨hcs,_⟩ | ⟨a,len,cap,m,nn,D,Pl,hcs,_,hlc,hcm,hm,hz,hi⟩
 ·
  injection hcs with hcs
  subst hcs
  exact ⟨none,0,0,[],rfl,Nat.le_refl _,Nat.zero_le _,⟨rfl,fun h=>absurd h (by omega)⟩,(fun x hx=>by cases hx),fun _=>⟨by omega,fun x hx=>by cases hx⟩⟩
 ·
  injection hcs with hcs
  subst hcs
  simp only [if_true] at hm
  subst hm
  have hfit:Fit P t z.1→len≤2 ^ 47∧∀ i,i < len→Fit P e (D i):=fun hF=>by
   rw [hz] at hF
   refine ⟨by simpa using hF.len ht hB,fun i hi=>hF.elem ht (List.mem_map.2 ⟨i,List.mem_range.2 hi,rfl⟩)⟩
  have key:∀ i,i < len→∃ x:α,(Q x∧(Fit P t z.1→R x))∧∀ j v,(f x)[j]?=some v→W.cell? ((a.add (i*k)).add j)=some v:=by
   intro i hin
   obtain ⟨cs,hcs,htr⟩:=hi i (by omega)
   rw [hC] at hcs
   obtain ⟨_,hlen,hat⟩:=World.cells?_some hcs
   obtain ⟨x,rfl,hq,hr⟩:=elem nn cs _ hlen htr
   refine ⟨x,⟨hq,fun hF=>hr ((hfit hF).2 i hin)⟩,fun j v hv=>?_⟩
   have hj:j < k:=by have:=(List.getElem?_eq_some_iff.1 hv).1;rwa [hf] at this
   exact (hat j hj).trans hv
  obtain ⟨L,hL,hq⟩:=listL_of len key
  refine ⟨some a,len,m,L,rfl,hlc,hcm,⟨hL,fun hn=>?_⟩,fun x hx=>?_,fun hF=>⟨(hfit hF).1,fun x hx=>?_⟩⟩
  ·
   obtain ⟨x0,hx0⟩:∃ x,L[0]?=some x:=⟨_,List.getElem?_eq_getElem (by omega)⟩
   obtain ⟨v0,hv0⟩:∃ v,(f x0)[0]?=some v:=⟨_,List.getElem?_eq_getElem (by rw [hf];exact hk)⟩
   obtain ⟨b,o,spot⟩:=a
   have hc0:=(hq 0 x0 hx0).2 0 v0 hv0
   have hspot:spot=none:=by
    have:=World.cell?_spot hc0
    simpa [Addr.add] using this
   subst hspot
   have hadd:∀ i j,((⟨b,o,none⟩:Addr).add i).add j=⟨b,o+i+j,none⟩:=fun i j=>by unfold Addr.add;split <;> split <;> simp_all
   refine ⟨b,o,rfl,?_,fun i x hx j u hu=>?_⟩
   ·
    have:=cellLt hc0
    rw [hadd] at this
    exact this
   ·
    have:=(hq i x hx).2 j u hu
    rwa [hadd] at this
  ·
   obtain ⟨i,hix⟩:=List.getElem?_of_mem hx
   exact (hq i x hix).1.1
  ·
   obtain ⟨i,hix⟩:=List.getElem?_of_mem hx
   exact (hq i x hix).1.2 hF
section
variable {H:Type} {enc:TypeId×Value→H} {P:Program} {W:World} {fuel:Nat} {u:Value} {t:TypeId} {z:DataW H×List MemPlace}
theorem one_int (ht:P.underlying t=some (.int .i64)) (h:DataW.trod enc P W 0 (fun _=>true) true fuel t [u]=some z):∃ x:Int,u=.int .i64 x∧IntR x:=by
 obtain ⟨x,q,_,w⟩:=DataW.trod_int ht h
 injection q with q
 exact ⟨x,q,rngL w⟩
theorem one_slice {e:TypeId} {α:Type} (f:α→List Value) (Q R:α→Prop) {k:Nat} (hk:0 < k) (hf:∀ x,(f x).length=k) (ht:P.underlying t=some (.slice e)) (hC:P.cellsOf e=k) (hB:0 < P.bytesOf e)
  (elem:∀ (fuel:Nat) (cs:List Value) (z:DataW H×List MemPlace),cs.length=k→DataW.trod enc P W 0 (fun _=>true) true fuel e cs=some z→∃ x,cs=f x∧Q x∧(Fit P e z.1→R x)) (h:DataW.trod enc P W 0 (fun _=>true) true fuel t [u]=some z):∃ s:SlW α,u=.slice s.A s.n s.c∧SlH W W.heap.size k f Q s∧(Fit P t z.1→s.n≤2 ^ 47∧∀ x∈s.L,R x):=by
 obtain ⟨A,n,c,L,rfl,h1,h2,h3,h4,h5⟩:=trodCellsF f Q R hk hf ht hC hB elem h
 exact ⟨⟨A,n,c,L⟩,rfl,⟨h1,h2,h3,h4⟩,h5⟩
end
theorem len1 {cs:List Value} (h:cs.length=1):∃ u,cs=[u]:=by
 match cs,h with
 | [u],_=>exact ⟨u,rfl⟩
section
variable {H:Type} {enc:TypeId×Value→H} {W:World} {fuel:Nat} {cs:List Value} {u:Value} {z:DataW H×List MemPlace}
theorem trodInts (h:DataW.trod enc Try.prog W 0 (fun _=>true) true fuel 43 [u]=some z):∃ s:SlW Int,u=.slice s.A s.n s.c∧Ints W W.heap.size s∧(Fit Try.prog 43 z.1→s.n≤2 ^ 47∧∀ x∈s.L,True):=
 one_slice cInt IntR (fun _=>True) (by decide) cInt_len Try.underlying43 (by kernel_rfl) (of_decide_eq_true (by kernel_rfl)) (fun fuel cs z hl h=>by
  obtain ⟨u,rfl⟩:=len1 hl
  obtain ⟨x,rfl,hx⟩:=one_int Try.underlying3 h
  exact ⟨x,rfl,hx,fun _=>trivial⟩) h
end
end Go.Proofs.Ytlbopbjdiehecaa
namespace Go.Proofs.Ytlbopbjdiehecaa
open Go.ChangeShapes Go.WideShapes Go.ChangeAt Go.RowKit
structure GbW where
 s:Int
 t:SlW Int
def cGb (x:GbW):List Value:=[.int .u8 x.s,.slice x.t.A x.t.n x.t.c]
theorem cGb_len (x:GbW):(cGb x).length=2:=rfl
structure OneGb (w:World) (B:Nat) (x:GbW):Prop where
 s:0≤x.s∧x.s≤255
 t:Ints w B x.t
abbrev Gbs (w:World) (B:Nat) (g:SlW GbW):Prop:=SlH w B 2 cGb (OneGb w B) g
abbrev aggG (g:SlW GbW):Value:=.agg #[.slice g.A g.n g.c]
theorem OneGb.below {w w':World} {B:Nat} {x:GbW} (h:OneGb w B x) (hb:Below B w w'):OneGb w' B x:=⟨h.s,h.t.below hb fun _ h=>h⟩
theorem OneGb.more {w:World} {B B':Nat} {x:GbW} (h:OneGb w B x) (hb:B≤B'):OneGb w B' x:=⟨h.s,h.t.more hb fun _ h=>h⟩
theorem OneGb.up {w w':World} {x:GbW} (h:OneGb w w.heap.size x) (hb:Below w.heap.size w w'):OneGb w' w'.heap.size x:=(h.below hb).more hb.size
theorem Gbs.up {w w':World} {g:SlW GbW} (h:Gbs w w.heap.size g) (hb:Below w.heap.size w w'):Gbs w' w'.heap.size g:=(SlH.below h hb fun _ h=>h.below hb).more hb.size fun _ h=>h.more hb.size
section
variable {H:Type} {enc:TypeId×Value→H} {W:World} {fuel:Nat} {cs:List Value} {u:Value} {z:DataW H×List MemPlace}
theorem trodGb (hl:cs.length=2) (h:DataW.trod enc Try.prog W 0 (fun _=>true) true fuel 63 cs=some z):∃ x:GbW,cs=cGb x∧OneGb W W.heap.size x:=by
 match cs,hl with
 | [u0,u1],_=>
  obtain ⟨m0,y0,r0,q0⟩:=trodPart (j:=0) (off:=0) (k:=1) (t:=5) Try.underlying63 (by kernel_rfl) h
  obtain ⟨m1,y1,r1,q1⟩:=trodPart (j:=1) (off:=1) (k:=1) (t:=43) Try.underlying63 (by kernel_rfl) h
  obtain ⟨x,e,_,w⟩:=DataW.trod_int Try.underlying5 (show DataW.trod enc Try.prog W 0 (fun _=>true) true m0 5 [u0]=some y0 from r0)
  injection e with e
  subst e
  obtain ⟨s,rfl,hs,_⟩:=trodInts (show DataW.trod enc Try.prog W 0 (fun _=>true) true m1 43 [u1]=some y1 from r1)
  exact ⟨⟨x,s⟩,rfl,by simpa [Lit.wf,IntKind.min,IntKind.max,IntKind.signed,IntKind.bits] using w,hs⟩
theorem trodG (hl:cs.length=1) (h:DataW.trod enc Try.prog W 0 (fun _=>true) true fuel 24 cs=some z):∃ g:SlW GbW,cs=[.slice g.A g.n g.c]∧Gbs W W.heap.size g:=by
 match cs,hl with
 | [u0],_=>
  obtain ⟨m0,y0,r0,q0⟩:=trodPart (j:=0) (off:=0) (k:=1) (t:=22) Try.underlying24 (by kernel_rfl) h
  obtain ⟨g,rfl,hg,_⟩:=one_slice cGb (OneGb W W.heap.size) (fun _=>True) (by decide) cGb_len Try.underlying22 (by kernel_rfl) (of_decide_eq_true (by kernel_rfl)) (fun fuel cs z hl h=>by
   obtain ⟨x,e,hx⟩:=trodGb hl h
   exact ⟨x,e,hx,fun _=>trivial⟩) (show DataW.trod enc Try.prog W 0 (fun _=>true) true m0 22 [u0]=some y0 from r0)
  exact ⟨g,rfl,hg⟩
end
theorem openGraph {H:Type} {enc:TypeId×Value→H} {W:World} {base:Nat} {v:Value} {d:DataW H} {p:List MemPlace} (hv:Value.okWide Try.prog W .any base 24 v) (h:DataW.Trod enc Try.prog W 0 (fun _=>true) true 24 v d p):∃ g:SlW GbW,v=aggG g∧Gbs W W.heap.size g:=by
 obtain ⟨cs,rfl,hsz⟩:=okWide_struct Try.underlying24 hv
 obtain ⟨fuel,hf⟩:=h
 obtain ⟨l⟩:=cs
 have hC:Try.prog.cellsOf 24=1:=by kernel_rfl
 obtain ⟨g,e,hg⟩:=trodG (cs:=l) (hsz.trans hC) (by simpa [Value.cells] using hf)
 exact ⟨g,by rw [e],hg⟩
end Go.Proofs.Ytlbopbjdiehecaa
