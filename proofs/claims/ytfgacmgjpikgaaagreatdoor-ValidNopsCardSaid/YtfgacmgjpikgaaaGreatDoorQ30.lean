/- Part 31 of the contracts and their mathematics. -/
import Derived.Test.YtfgacmgjpikgaaaGreatDoorQ27
import Derived.Scope
import Derived.Deep.MidRow
set_option linter.unusedVariables false
set_option linter.unusedSimpArgs false
set_option maxRecDepth 100000
set_option maxHeartbeats 8000000
namespace Go.Proofs.YtfgacmgjpikgaaaGreatDoor
open Go.RowKit
def opR:List (Int×Int×Int×Int):=[(2,0,2,2),(2,1,1,1),(3,0,2,2),(3,1,2,2),(3,2,2,2),(3,3,2,1),(3,4,2,1),(3,5,1,1)]
theorem op_ix0 (w:World):(Instr.index 141 (.agg opCells.toArray) (.int .i64 ((0:Nat):Int))).run Tryz.prog w=.ok (.agg #[.int .i64 2,.int .i64 0,.int .i64 2,.int .i64 2]) w:=by kernel_rfl
theorem op_ix1 (w:World):(Instr.index 141 (.agg opCells.toArray) (.int .i64 ((1:Nat):Int))).run Tryz.prog w=.ok (.agg #[.int .i64 2,.int .i64 1,.int .i64 1,.int .i64 1]) w:=by kernel_rfl
theorem op_ix2 (w:World):(Instr.index 141 (.agg opCells.toArray) (.int .i64 ((2:Nat):Int))).run Tryz.prog w=.ok (.agg #[.int .i64 3,.int .i64 0,.int .i64 2,.int .i64 2]) w:=by kernel_rfl
theorem op_ix3 (w:World):(Instr.index 141 (.agg opCells.toArray) (.int .i64 ((3:Nat):Int))).run Tryz.prog w=.ok (.agg #[.int .i64 3,.int .i64 1,.int .i64 2,.int .i64 2]) w:=by kernel_rfl
theorem op_ix4 (w:World):(Instr.index 141 (.agg opCells.toArray) (.int .i64 ((4:Nat):Int))).run Tryz.prog w=.ok (.agg #[.int .i64 3,.int .i64 2,.int .i64 2,.int .i64 2]) w:=by kernel_rfl
theorem op_ix5 (w:World):(Instr.index 141 (.agg opCells.toArray) (.int .i64 ((5:Nat):Int))).run Tryz.prog w=.ok (.agg #[.int .i64 3,.int .i64 3,.int .i64 2,.int .i64 1]) w:=by kernel_rfl
theorem op_ix6 (w:World):(Instr.index 141 (.agg opCells.toArray) (.int .i64 ((6:Nat):Int))).run Tryz.prog w=.ok (.agg #[.int .i64 3,.int .i64 4,.int .i64 2,.int .i64 1]) w:=by kernel_rfl
theorem op_ix7 (w:World):(Instr.index 141 (.agg opCells.toArray) (.int .i64 ((7:Nat):Int))).run Tryz.prog w=.ok (.agg #[.int .i64 3,.int .i64 5,.int .i64 1,.int .i64 1]) w:=by kernel_rfl
theorem op_index {j:Nat} {r:Int×Int×Int×Int} (h:opR[j]?=some r) (w:World):(Instr.index 141 (.agg opCells.toArray) (.int .i64 (j:Int))).run Tryz.prog w=.ok (.agg #[.int .i64 r.1,.int .i64 r.2.1,.int .i64 r.2.2.1,.int .i64 r.2.2.2]) w:=by
 match j,h with
 | 0,h=>obtain rfl:((2:Int),(0:Int),(2:Int),(2:Int))=r:=Option.some.inj h;exact op_ix0 w
 | 1,h=>obtain rfl:((2:Int),(1:Int),(1:Int),(1:Int))=r:=Option.some.inj h;exact op_ix1 w
 | 2,h=>obtain rfl:((3:Int),(0:Int),(2:Int),(2:Int))=r:=Option.some.inj h;exact op_ix2 w
 | 3,h=>obtain rfl:((3:Int),(1:Int),(2:Int),(2:Int))=r:=Option.some.inj h;exact op_ix3 w
 | 4,h=>obtain rfl:((3:Int),(2:Int),(2:Int),(2:Int))=r:=Option.some.inj h;exact op_ix4 w
 | 5,h=>obtain rfl:((3:Int),(3:Int),(2:Int),(1:Int))=r:=Option.some.inj h;exact op_ix5 w
 | 6,h=>obtain rfl:((3:Int),(4:Int),(2:Int),(1:Int))=r:=Option.some.inj h;exact op_ix6 w
 | 7,h=>obtain rfl:((3:Int),(5:Int),(1:Int),(1:Int))=r:=Option.some.inj h;exact op_ix7 w
 | n+8,h=>cases h
theorem OpsT.range {w:World} (h:OpsT w):w.rangeAt 0 0 opCells:=fun j v hv=>by rw [Nat.zero_add];exact h j v hv
def opRun (k op er:Int) (al:Int→Bool) (kt:Int):List (Int×Int×Int×Int)→Int→Int
 | [],f=>f
 | r :: l,f=>if r.1=k∧r.2.1=op then (if er≠0 then er else if al r.2.2.1=true∧kt=r.2.2.2 then 0 else opRun k op er al kt l 22) else opRun k op er al kt l f
theorem opRun_at {k op er kt f:Int} {al:Int→Bool} {j:Nat} {a b c d:Int} (h:opR[j]?=some (a,b,c,d)) :
 opRun k op er al kt (opR.drop j) f=if a=k∧b=op then (if er≠0 then er else if al c=true∧kt=d then 0 else opRun k op er al kt (opR.drop (j+1)) 22) else opRun k op er al kt (opR.drop (j+1)) f:=by
 rw [drop_at10 h]
 rfl
def opeV (E:Env) (r:RvV) (kt:Int):Int:=opRun r.kind r.op (opsErr E r.args) (fun k=>r.args.all fun o=>decide (kdV E o=k)) kt opR 14
theorem VcOz0 {P:Prop} (h:P:=by
 clear h1
 go_wp2
 go_roundw
 case rel=>exact ⟨j+1,ff,rfl,by go_num,by omega,hide HN.out,hide HWq.out⟩
 case measure=>simp [intOf];omega):P:=h
theorem cope_is {K:CkW} {x:RvW} {kt v:Int} {w:World} (h:Ck K w) (hx:OneRv w K.B x) (hv:opeV K.E x.v kt=v) :
 Calls Tryz.prog 89 #[K.ptr,aggRv x,.int .i64 kt] w fun e w'=>e=.returned (.int .i64 v)∧Wy K w w':=by
 obtain ⟨rk,op,rg,mu,⟨l,pA,pn,pc,ps⟩,⟨gA,gn,gc,gL⟩⟩:=x
 have HB:=hide (below1 w (.cells #[.int .i64 rk,.int .i64 op,.int .i64 rg,.bool mu,.int .i64 l,.slice pA pn pc,.slice gA gn gc] 44))
 have H0:=hide h
 have HK:=hide (h.up HB.out)
 have HX:=hide (hx.args.below (HB.out.mono h.bs))
 have HR:=hide HK.out.tab.range
 have hgn:gL.length=gn:=hx.args.len
 have hgm:gn≤maxLen:=hx.args.nm
 unfold maxLen at hgm
 obtain ⟨er,her⟩:∃ e,opsErr K.E (gL.map OpW.v)=e:=⟨_,rfl⟩
 have hv9:(opRun rk op er (fun k=>(gL.map OpW.v).all fun o=>decide (kdV K.E o=k)) kt opR 14)=v:=by rw [←hv,← her];rfl
 clear h hx hv
 have HV:=hide hv9
 clear hv9
 have HLen:=hide hgn
 clear hgn
 have HEr:=hide her
 clear her
 have hcs:=hide fun (w':World) (hb:Wy K (w.alloc (.cells #[.int .i64 rk,.int .i64 op,.int .i64 rg,.bool mu,.int .i64 l,.slice pA pn pc,.slice gA gn gc] 44)) w')=>(show w'.cell? ⟨w.heap.size,0,none⟩=some (.int .i64 rk)∧w'.cell? ⟨w.heap.size,1,none⟩=some (.int .i64 op)∧w'.cell? ⟨w.heap.size,6,none⟩=some (.slice gA gn gc) from by
  have hcx:=Wy.box (cs:=[.int .i64 rk,.int .i64 op,.int .i64 rg,.bool mu,.int .i64 l,.slice pA pn pc,.slice gA gn gc]) (T:=44) H0.out hb
  exact ⟨hcx 0 _ rfl,hcx 1 _ rfl,hcx 6 _ rfl⟩)
 go_enter Tryz.func89,Tryz.ntmps89
 go_wp2
 refine wp_scope_straight ?_
 go_wp2
 apply wp_label
 go_wp2_with (refine wpList_load_mid rfl 141 _ rfl 0 0 rfl opCells _ HR.out Tryz.underlying141 rfl (by kernel_rfl) ?_)
 go_loopw [7,15] (fun f i wr=>∃ j:Nat,∃ ff:Int,f=.int .i64 ff∧i=.int .i64 (j:Int)∧j≤8∧Hid ((opRun rk op er (fun k=>(gL.map OpW.v).all fun o=>decide (kdV K.E o=k)) kt (opR.drop j) ff)=v)∧Hid (Wy K (w.alloc (.cells #[.int .i64 rk,.int .i64 op,.int .i64 rg,.bool mu,.int .i64 l,.slice pA pn pc,.slice gA gn gc] 44)) wr)) (fun _ i _=>8 - (intOf i).toNat)
 case atStart=>exact ⟨0,14,rfl,rfl,by omega,hide HV.out,hide (Wy.refl HK.out)⟩
 case round=>
  obtain ⟨j,ff,rfl,rfl,hj,HE,HW⟩:=hrel
  generalize wr=wq at *
  by_cases hlt:j < 8
  ·
   have hlt':(j:Int) < 8:=by omega
   obtain ⟨⟨a,b,c,d⟩,hr⟩:∃ r,opR[j]?=some r:=⟨_,List.getElem?_eq_getElem (by show j < 8;omega)⟩
   have hix:=op_index hr
   have HS:=hide (fun al=>opRun_at (k:=rk) (op:=op) (er:=er) (al:=al) (kt:=kt) (f:=ff) hr)
   have hWB:=(Below.refl wq.heap.size wq).alloc (Nat.le_refl _) (.cells #[.int .i64 a,.int .i64 b,.int .i64 c,.int .i64 d] 140)
   have HWq:=hide (HW.out.up hWB)
   have hcr:=hide fun (w':World) (q:Wy K (wq.alloc (.cells #[.int .i64 a,.int .i64 b,.int .i64 c,.int .i64 d] 140)) w')=>(show (w'.cell? ⟨wq.heap.size,2,none⟩=some (.int .i64 c)∧w'.cell? ⟨wq.heap.size,3,none⟩=some (.int .i64 d)) from ⟨Wy.box (cs:=[.int .i64 a,.int .i64 b,.int .i64 c,.int .i64 d]) (T:=140) HW.out.ck q 2 _ rfl,Wy.box (cs:=[.int .i64 a,.int .i64 b,.int .i64 c,.int .i64 d]) (T:=140) HW.out.ck q 3 _ rfl⟩)
   obtain ⟨y0,y1,y6⟩:=hcs.out _ HW.out
   obtain ⟨z0,z1,z6⟩:=hcs.out _ HWq.out
   simp only [] at hix
   clear hr hWB
   by_cases h1:a=rk
   case neg=>
    have t1:(a != rk)=true:=by simp [h1]
    have HN:=hide (show (opRun rk op er (fun k=>(gL.map OpW.v).all fun o=>decide (kdV K.E o=k)) kt (opR.drop (j+1)) ff)=v from by rw [←HE.out,HS.out,if_neg (by rintro ⟨e,_⟩;exact h1 e)])
    exact VcOz0
   have t1:(a != rk)=false:=by simp [h1]
   by_cases h2:b=op
   case neg=>
    have t2:(b != op)=true:=by simp [h2]
    have HN:=hide (show (opRun rk op er (fun k=>(gL.map OpW.v).all fun o=>decide (kdV K.E o=k)) kt (opR.drop (j+1)) ff)=v from by rw [←HE.out,HS.out,if_neg (by rintro ⟨_,e⟩;exact h2 e)])
    exact VcOz0
   have t2:(b != op)=false:=by simp [h2]
   have HM:=hide (fun al=>(HS.out al).trans (if_pos ⟨h1,h2⟩))
   clear h1 h2
   go_wp2
   go_loopw [7,33] (fun f i wr=>∃ q:Nat,∃ fg:Int,f=.int .i64 fg∧i=.int .i64 (q:Int)∧q≤gn∧Hid (opsErr K.E ((gL.map OpW.v).drop q)=er)∧Hid (Wy K (wq.alloc (.cells #[.int .i64 a,.int .i64 b,.int .i64 c,.int .i64 d] 140)) wr)) (fun _ i _=>gn - (intOf i).toNat)
   case atStart=>exact ⟨0,ff,rfl,rfl,Nat.zero_le _,hide HEr.out,hide (Wy.refl HWq.out.ck)⟩
   case round=>
    obtain ⟨q,fg,rfl,rfl,hq,HQ,HW2⟩:=hrel
    generalize wr=ws at *
    have HWs:=hide (HWq.out.trans HW2.out)
    by_cases hlq:q < gn
    ·
     have hlq':(q:Int) < (gn:Int):=by omega
     obtain ⟨p,hp⟩:∃ p,gL[q]?=some p:=⟨_,List.getElem?_eq_getElem (by have:gL.length=gn:=HLen.out;omega)⟩
     have hpv:(gL.map OpW.v)[q]?=some p.v:=by rw [List.getElem?_map,hp];rfl
     have hax:Ops ws K.B ⟨gA,gn,gc,gL⟩:=Ops.below (HWs.out.low HK.out) HX.out
     obtain ⟨bb,oo,hA,_,hone,hc⟩:=hax.at_ hp
     have hA:gA=some ⟨bb,oo,none⟩:=hA
     subst hA
     obtain ⟨kq,⟨lq,qA,qn,qc,qs⟩,nq⟩:=p
     have c0:ws.cell? ⟨bb,oo+q*4,none⟩=some (.int .i64 kq):=hc 0 _ rfl
     have c1:ws.cell? ⟨bb,oo+q*4+1,none⟩=some (.int .i64 lq):=hc 1 _ rfl
     have c2:ws.cell? ⟨bb,oo+q*4+2,none⟩=some (.slice qA qn qc):=hc 2 _ rfl
     have c3:ws.cell? ⟨bb,oo+q*4+3,none⟩=some (.int .i64 nq):=hc 3 _ rfl
     have hWE:=(Below.refl ws.heap.size ws).alloc (Nat.le_refl _) (.cells #[.int .i64 kq,.int .i64 lq,.slice qA qn qc,.int .i64 nq] 38)
     have HW3:=hide (HW2.out.up hWE)
     have HO2:=hide (hone.below (hWE.mono HWs.out.ck.bs))
     have HSo:=hide (opsErr_at (E:=K.E) hpv)
     obtain ⟨oe,hoe⟩:∃ z,opErr K.E (OpW.v ⟨kq,⟨lq,qA,qn,qc,qs⟩,nq⟩)=z:=⟨_,rfl⟩
     clear hp hpv hax hone hc hWE
     have HC:=hide (cop_is HW3.out.ck HO2.out hoe)
     have HOE:=hide hoe
     clear hoe
     by_cases h0:oe=0
     ·
      have HN:=hide (show opsErr K.E ((gL.map OpW.v).drop (q+1))=er from by rw [←HQ.out,HSo.out,if_neg (by rw [HOE.out,h0];simp)])
      have t3:(oe != 0)=false:=by simp [h0]
      clear h0
      go_wp2_with fail
      refine HC.out.mono ?_
      rintro e1 w1 ⟨rfl,hb1⟩
      have HW4:=hide (HW3.out.trans hb1)
      clear hb1
      go_wp2
      go_roundw
      case rel=>exact ⟨q+1,oe,rfl,by go_num,by omega,hide HN.out,hide HW4.out⟩
      case measure=>simp [intOf];omega
     ·
      have t3:(oe != 0)=true:=by simp [h0]
      have HN:=hide (show er=oe from by rw [←HQ.out,HSo.out,HOE.out,if_pos h0])
      have HVo:=hide (show v=oe from by rw [←HE.out,HM.out,HN.out,if_pos h0])
      clear h0
      go_wp2_with fail
      refine HC.out.mono ?_
      rintro e1 w1 ⟨rfl,hb1⟩
      have HW4:=hide (HWq.out.trans (HW3.out.trans hb1))
      clear hb1
      go_wp2
      rw [Exit.noGoto_ret]
      go_ret
      exact ⟨congrArg (fun v=>Ending.returned (.int .i64 v)) HVo.out.symm,(Turn.of_below HB.out).trans HW4.out.turn,HW4.out.ck⟩
    ·
     obtain rfl:gn=q:=by omega
     have her0:er=0:=by rw [←HQ.out];exact opsErr_end (by rw [List.length_map];have:gL.length=gn:=HLen.out;omega)
     have HZ:=hide (opsErr_zero.1 (HEr.out.trans her0))
     have HM2:=hide (fun al=>(HM.out al).trans (if_neg (by rw [her0];simp)))
     obtain ⟨y0,y1,y6⟩:=hcs.out _ HWs.out
     clear her0
     go_wp2
     go_loopw [46] (fun i wr=>∃ q:Nat,i=.int .i64 (q:Int)∧q≤gn∧Hid ((((gL.map OpW.v).drop q).all fun o=>decide (kdV K.E o=c))=((gL.map OpW.v).all fun o=>decide (kdV K.E o=c)))∧Hid (Wy K (wq.alloc (.cells #[.int .i64 a,.int .i64 b,.int .i64 c,.int .i64 d] 140)) wr)) (fun i _=>gn - (intOf i).toNat)
     case atStart=>exact ⟨0,rfl,Nat.zero_le _,hide rfl,hide HW2.out⟩
     case round=>
      obtain ⟨q,rfl,hq2,HA,HW5⟩:=hrel
      generalize wr=wt at *
      have HWt:=hide (HWq.out.trans HW5.out)
      by_cases hlq:q < gn
      ·
       have hlq':(q:Int) < (gn:Int):=by omega
       obtain ⟨p,hp⟩:∃ p,gL[q]?=some p:=⟨_,List.getElem?_eq_getElem (by have:gL.length=gn:=HLen.out;omega)⟩
       have hpv:(gL.map OpW.v)[q]?=some p.v:=by rw [List.getElem?_map,hp];rfl
       have hax:Ops wt K.B ⟨gA,gn,gc,gL⟩:=Ops.below (HWt.out.low HK.out) HX.out
       obtain ⟨bb,oo,hA,_,hone,hc⟩:=hax.at_ hp
       have hA:gA=some ⟨bb,oo,none⟩:=hA
       subst hA
       obtain ⟨kq,⟨lq,qA,qn,qc,qs⟩,nq⟩:=p
       have c0:wt.cell? ⟨bb,oo+q*4,none⟩=some (.int .i64 kq):=hc 0 _ rfl
       have c1:wt.cell? ⟨bb,oo+q*4+1,none⟩=some (.int .i64 lq):=hc 1 _ rfl
       have c2:wt.cell? ⟨bb,oo+q*4+2,none⟩=some (.slice qA qn qc):=hc 2 _ rfl
       have c3:wt.cell? ⟨bb,oo+q*4+3,none⟩=some (.int .i64 nq):=hc 3 _ rfl
       have hWE:=(Below.refl wt.heap.size wt).alloc (Nat.le_refl _) (.cells #[.int .i64 kq,.int .i64 lq,.slice qA qn qc,.int .i64 nq] 38)
       have HW6:=hide (HW5.out.up hWE)
       have HO2:=hide (hone.below (hWE.mono HWt.out.ck.bs))
       have hz:=opErr_zero (HZ.out _ (List.mem_of_getElem? hpv))
       have HAt:=hide (show (((gL.map OpW.v).drop q).all fun o=>decide (kdV K.E o=c))=(decide (kdV K.E (OpW.v ⟨kq,⟨lq,qA,qn,qc,qs⟩,nq⟩)=c) && (((gL.map OpW.v).drop (q+1)).all fun o=>decide (kdV K.E o=c))) from by rw [drop_at10 hpv,List.all_cons])
       obtain ⟨kv,hkv⟩:∃ z,kdV K.E (OpW.v ⟨kq,⟨lq,qA,qn,qc,qs⟩,nq⟩)=z:=⟨_,rfl⟩
       clear hp hpv hax hone hc hWE
       have HKV:=hide hkv
       have HC:=hide fun (w':World) (q:Below (wt.alloc (.cells #[.int .i64 kq,.int .i64 lq,.slice qA qn qc,.int .i64 nq] 38)).heap.size (wt.alloc (.cells #[.int .i64 kq,.int .i64 lq,.slice qA qn qc,.int .i64 nq] 38)) w')=>ckind_is (HW6.out.ck.up q) (HO2.out.below (q.mono HW6.out.ck.bs)) (hz.imp id fun q=>q.2) hkv
       clear hz hkv
       have hce:=hide fun (w':World) (q:Below (wt.alloc (.cells #[.int .i64 kq,.int .i64 lq,.slice qA qn qc,.int .i64 nq] 38)).heap.size (wt.alloc (.cells #[.int .i64 kq,.int .i64 lq,.slice qA qn qc,.int .i64 nq] 38)) w')=>(show w'.cell? ⟨wt.heap.size,0,none⟩=some (.int .i64 kq)∧w'.cell? ⟨wt.heap.size,1,none⟩=some (.int .i64 lq)∧w'.cell? ⟨wt.heap.size,2,none⟩=some (.slice qA qn qc)∧w'.cell? ⟨wt.heap.size,3,none⟩=some (.int .i64 nq)∧w'.cell? ⟨wq.heap.size,2,none⟩=some (.int .i64 c) from by
        have hcx:=one_cells (w:=wt) (cs:=[.int .i64 kq,.int .i64 lq,.slice qA qn qc,.int .i64 nq]) (T:=38) q
        exact ⟨hcx 0 _ rfl,hcx 1 _ rfl,hcx 2 _ rfl,hcx 3 _ rfl,(hcr.out _ (HW6.out.up q)).1⟩)
       by_cases h3:kv=c
       ·
        have t4:(kv != c)=false:=by simp [h3]
        have HN:=hide (show (((gL.map OpW.v).drop (q+1)).all fun o=>decide (kdV K.E o=c))=((gL.map OpW.v).all fun o=>decide (kdV K.E o=c)) from by rw [←HA.out,HAt.out,HKV.out];simp [h3])
        clear h3
        go_wp2
        have HX0:=hide ((Below.refl (wt.alloc (.cells #[.int .i64 kq,.int .i64 lq,.slice qA qn qc,.int .i64 nq] 38)).heap.size (wt.alloc (.cells #[.int .i64 kq,.int .i64 lq,.slice qA qn qc,.int .i64 nq] 38))).drew)
        refine wp_region_held_drew (S:=(fun w'=>w'.cell? ⟨wt.heap.size,0,none⟩=some (.int .i64 kq)∧w'.cell? ⟨wt.heap.size,1,none⟩=some (.int .i64 lq)∧w'.cell? ⟨wt.heap.size,2,none⟩=some (.slice qA qn qc)∧w'.cell? ⟨wt.heap.size,3,none⟩=some (.int .i64 nq)∧w'.cell? ⟨wq.heap.size,2,none⟩=some (.int .i64 c))) (by kernel_rfl) (hce.out _ HX0.out) (fun hHeld=>?_)
        refine planS [0,1,3,4] ?_
        repeat' (first | refine pT hHeld rfl ?_ | refine pS hHeld rfl ?_)
        refine planE ?_
        refine wpAnyH_ready (rs:=[2]) (by kernel_rfl) (by simp) ?_
        refine AllReadyH.cons rfl (fun KZ hK=>?_) AllReadyH.nil
        go_simp
        refine (HC.out _ HX0.out).mono ?_
        rintro e4 w4 ⟨rfl,hb4⟩
        have HX4:=hide (HX0.out.trans (hb4.mono HX0.out.size))
        clear hb4
        refine hK.out _ _ (hce.out _ HX4.out) (fun hHeld=>?_)
        clear hK KZ
        try simp only [Act.put,List.setIfInBounds_toArray,List.set_cons_zero,List.set_cons_succ]
        refine planS [5] ?_
        repeat' (first | refine pT hHeld rfl ?_ | refine pS hHeld rfl ?_)
        refine planE ?_
        refine wpAnyH_done (by kernel_rfl) ?_ _
        have HW7:=hide (HW6.out.up HX4.out)
        go_wp2
        go_roundw
        case rel=>exact ⟨q+1,by go_num,by omega,hide HN.out,hide HW7.out⟩
        case measure=>simp [intOf];omega
       ·
        have t4:(kv != c)=true:=by simp [h3]
        have HF:=hide (show ((gL.map OpW.v).all fun o=>decide (kdV K.E o=c))=false from by rw [←HA.out,HAt.out,HKV.out];simp [h3])
        have HN:=hide (show (opRun rk op er (fun k=>(gL.map OpW.v).all fun o=>decide (kdV K.E o=k)) kt (opR.drop (j+1)) 22)=v from by rw [←HE.out,HM2.out,if_neg (by rintro ⟨e,_⟩;have e2:((gL.map OpW.v).all fun o=>decide (kdV K.E o=c))=true:=e;rw [HF.out] at e2;cases e2)])
        clear h3
        go_wp2
        have HX0:=hide ((Below.refl (wt.alloc (.cells #[.int .i64 kq,.int .i64 lq,.slice qA qn qc,.int .i64 nq] 38)).heap.size (wt.alloc (.cells #[.int .i64 kq,.int .i64 lq,.slice qA qn qc,.int .i64 nq] 38))).drew)
        refine wp_region_held_drew (S:=(fun w'=>w'.cell? ⟨wt.heap.size,0,none⟩=some (.int .i64 kq)∧w'.cell? ⟨wt.heap.size,1,none⟩=some (.int .i64 lq)∧w'.cell? ⟨wt.heap.size,2,none⟩=some (.slice qA qn qc)∧w'.cell? ⟨wt.heap.size,3,none⟩=some (.int .i64 nq)∧w'.cell? ⟨wq.heap.size,2,none⟩=some (.int .i64 c))) (by kernel_rfl) (hce.out _ HX0.out) (fun hHeld=>?_)
        refine planS [0,1,3,4] ?_
        repeat' (first | refine pT hHeld rfl ?_ | refine pS hHeld rfl ?_)
        refine planE ?_
        refine wpAnyH_ready (rs:=[2]) (by kernel_rfl) (by simp) ?_
        refine AllReadyH.cons rfl (fun KZ hK=>?_) AllReadyH.nil
        go_simp
        refine (HC.out _ HX0.out).mono ?_
        rintro e4 w4 ⟨rfl,hb4⟩
        have HX4:=hide (HX0.out.trans (hb4.mono HX0.out.size))
        clear hb4
        refine hK.out _ _ (hce.out _ HX4.out) (fun hHeld=>?_)
        clear hK KZ
        try simp only [Act.put,List.setIfInBounds_toArray,List.set_cons_zero,List.set_cons_succ]
        refine planS [5] ?_
        repeat' (first | refine pT hHeld rfl ?_ | refine pS hHeld rfl ?_)
        refine planE ?_
        refine wpAnyH_done (by kernel_rfl) ?_ _
        have HW7:=hide (HWq.out.trans (HW6.out.up HX4.out))
        go_wp2
        go_roundw
        case rel=>exact ⟨j+1,22,rfl,by go_num,by omega,hide HN.out,hide HW7.out⟩
        case measure=>simp [intOf];omega
      ·
       obtain rfl:gn=q:=by omega
       have HT:=hide (show ((gL.map OpW.v).all fun o=>decide (kdV K.E o=c))=true from by rw [←HA.out,List.drop_of_length_le (by rw [List.length_map];have:gL.length=gn:=HLen.out;omega)];rfl)
       obtain ⟨q2,q3⟩:=hcr.out _ HW5.out
       by_cases h5:kt=d
       ·
        have t5:(kt == d)=true:=by simp [h5]
        have HVo:=hide (show v=0 from by rw [←HE.out,HM2.out,if_pos ⟨HT.out,h5⟩])
        clear h5
        go_wp2
        rw [Exit.noGoto_ret]
        go_ret
        exact ⟨congrArg (fun v=>Ending.returned (.int .i64 v)) HVo.out.symm,(Turn.of_below HB.out).trans HWt.out.turn,HWt.out.ck⟩
       ·
        have t5:(kt == d)=false:=by simp [h5]
        have HN:=hide (show (opRun rk op er (fun k=>(gL.map OpW.v).all fun o=>decide (kdV K.E o=k)) kt (opR.drop (j+1)) 22)=v from by rw [←HE.out,HM2.out,if_neg (by rintro ⟨_,e⟩;exact h5 e)])
        clear h5
        go_wp2
        go_roundw
        case rel=>exact ⟨j+1,22,rfl,by go_num,by omega,hide HN.out,hide HWt.out⟩
        case measure=>simp [intOf];omega
  ·
   obtain rfl:j=8:=by omega
   have HVo:=hide (show v=ff from by rw [←HE.out];rfl)
   go_wp2
   rw [Exit.noGoto_ret]
   go_ret
   exact ⟨congrArg (fun v=>Ending.returned (.int .i64 v)) HVo.out.symm,(Turn.of_below HB.out).trans HW.out.turn,HW.out.ck⟩
end Go.Proofs.YtfgacmgjpikgaaaGreatDoor
