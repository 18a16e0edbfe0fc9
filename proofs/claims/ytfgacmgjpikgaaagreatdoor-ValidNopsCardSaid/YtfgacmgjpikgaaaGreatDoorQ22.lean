/- Part 23 of the contracts and their mathematics. -/
import Derived.Test.YtfgacmgjpikgaaaGreatDoorQ21
set_option linter.unusedVariables false
set_option linter.unusedSimpArgs false
set_option maxRecDepth 100000
set_option maxHeartbeats 4000000
namespace Go.Proofs.YtfgacmgjpikgaaaGreatDoor
open Go.RowKit
theorem out_eq {ps:List Pr} {n a b:Int} {v:Bool} (h:v=true↔Out ps n a b):v=out ps n a b:=by
 rw [Bool.eq_iff_iff,out_iff,h]
section
variable {D:List Int} {ab:List (List Int)} {G:Int→Prop} {S Ix W:List Int} {F:List Bool} {ys:List Int}
end
section
variable {O:Int→Int→Bool} {L:List Ty} {r:Int} {s t u:Int} {a b c:Ty}
theorem poss_ref (h:poss O a b=true) (h3:a.kind=3):a.mut_=b.mut_∧O a.region b.region=true:=by
 have e:=poss_kind h
 unfold poss at h
 rw [if_neg (fun h=>h e),if_neg (by omega),if_pos h3,Bool.and_eq_true] at h
 exact ⟨by simpa using h.1,h.2⟩
theorem poss_tup (h:poss O a b=true) (h4:a.kind=4):a.fields.length=b.fields.length:=by
 have e:=poss_kind h
 unfold poss at h
 rw [if_neg (fun h=>h e),if_neg (by omega),if_neg (by omega),if_pos h4] at h
 simpa using h
theorem zip_mk {xs ys:List Int} {i:Nat} {x y:Int} (hx:xs[i]?=some x) (hy:ys[i]?=some y):(x,y)∈xs.zip ys:=List.mem_of_getElem? (List.getElem?_zip_eq_some.2 ⟨hx,hy⟩)
theorem sub_shape (h:TyOk L r) (hs:Sub O L s t):∃ a b,tyAt L s=some a∧tyAt L t=some b∧a.kind=b.kind∧a.mut_=b.mut_∧tyDep L s=tyDep L t:=by
 induction hs with
 | @mk s t a b ha hb hp hn ih=>
  have k:=poss_kind hp
  obtain ⟨i,rfl,hi⟩:=tyAt_some ha
  obtain ⟨j,rfl,hj⟩:=tyAt_some hb
  have oa:=h.own hi
  have ob:=h.own hj
  refine ⟨a,b,ha,hb,k,?_,?_⟩
  ·
   by_cases h3:a.kind=3
   ·
    exact (poss_ref hp h3).1
   ·
    rw [(oa.2.1 h3).1,(ob.2.1 (by omega)).1]
  ·
   rw [h.dep_at hi,h.dep_at hj]
   congr 2
   by_cases h3:a.kind=3
   ·
    rw [tyParts_ref h3,tyParts_ref (by omega)]
    obtain ⟨_,_,_,_,_,_,e⟩:=ih (a.elem,b.elem) (by rw [needs_ref h3];simp)
    simp only [List.map_cons,List.map_nil]
    rw [e]
   ·
    by_cases h4:a.kind=4
    ·
     rw [tyParts_tup h4,tyParts_tup (by omega)]
     have hl:=poss_tup hp h4
     apply List.ext_getElem?
     intro q
     rw [List.getElem?_map,List.getElem?_map]
     rcases Nat.lt_or_ge q a.fields.length with hq | hq
     ·
      have hx:a.fields[q]?=some (a.fields[q]):=List.getElem?_eq_getElem hq
      have hy:b.fields[q]?=some (b.fields[q]'(by omega)):=List.getElem?_eq_getElem (by omega)
      obtain ⟨_,_,_,_,_,_,e⟩:=ih _ (by rw [needs_tup h4];exact zip_mk hx hy)
      rw [hx,hy]
      exact congrArg some e
     ·
      rw [List.getElem?_eq_none hq,List.getElem?_eq_none (by omega)]
    ·
     rw [tyParts_none h3 h4,tyParts_none (by omega) (by omega)]
end
theorem RRegionsP_any {At Al:Option Addr} {nt ct nl cl:Nat} {L:List TyW} {LL:List LcW} {x:PlW} {r:Int} {w:World} (h:Pl8 w At Al nt nl L LL x r) :
  Calls Tryz.prog 92 #[.slice At nt ct,.slice Al nl cl,aggPl x] w (IntsOut w (regP (tys L) (lcs LL) x.l x.ps)):=by
 obtain ⟨i0,hi,hz0,hz1,hz2⟩:=info_parts infoInt
 have hB0:=(Below.refl w.heap.size w).alloc (Nat.le_refl _) (.cells #[.int .i64 x.l,.slice x.A x.n x.c] 36)
 have HB0:=hide hB0
 obtain ⟨u,v,hv⟩:∃ u v,tyOfP (tys L) (lcs LL) x.l x.ps=(u,v):=⟨_,_,rfl⟩
 have HC:=hide (RTypeOf_is (ct:=ct) (cl:=cl) (h.up hB0) hv)
 have HBX:=hide (heap_alloc_new w (.cells #[.int .i64 x.l,.slice x.A x.n x.c] 36))
 obtain ⟨rg,hrg⟩:∃ rg,regP (tys L) (lcs LL) x.l x.ps=rg:=⟨_,rfl⟩
 rw [hrg]
 by_cases hv0:v=0
 ·
  subst hv0
  have HR:=hide fun w' (hb:Below w.heap.size w w')=>RRefs_typs (ct:=ct) (cl:=cl) (h.up hb) (by rw [hv])
  have HRG:=hide (show ∀ R:List TyW,tys R=refP (tys L) (lcs LL) x.l x.ps→R.map (fun y=>y.t.region)=rg from fun R hR=>by
   rw [←hrg]
   unfold regP
   rw [←hR,List.map_map]
   rfl)
  obtain ⟨l,A,n,c,ps⟩:=x
  clear h hB0 hv hrg
  go_enter Tryz.func92,Tryz.ntmps92
  go_wp2_with fail
  refine HC.out.mono ?_
  rintro e w1 ⟨rfl,hb1⟩
  have HB1:=hide (HB0.out.trans (hb1.mono HB0.out.size))
  have hbX:=(hb1.block w.heap.size (by simp)).trans HBX.out
  have z0:=cell_of_heap hbX 0
  have z1:=cell_of_heap hbX 1
  clear hb1 hbX
  go_wp2_with fail
  refine (HR.out _ HB1.out).mono ?_
  rintro e w2 ⟨A1,m,c1,R,rfl,hR,hm,hT,hb2⟩
  have HB2:=hide (HB1.out.trans (hb2.mono HB1.out.size))
  have HF:=hide (HRG.out R hR)
  have HT:=hide hT
  have HL:=hide hT.len
  clear hb2 hR hT
  go_wp2
  go_loopw [7,11] (fun v i wr=>∃ j:Nat,i=.int .i64 (j:Int)∧j≤m∧wr.ownsRow w2.heap.size 3 1 v j (i64s ((R.take j).map fun x=>x.t.region))∧Below w2.heap.size w2 wr) (fun _ i _=>m - (intOf i).toNat)
  case atStart=>exact ⟨0,rfl,Nat.zero_le _,World.ownsRow_nil _ _ _ _,Below.refl _ _⟩
  case round=>
   obtain ⟨j,rfl,hj,hown,hb⟩:=hrel
   obtain ⟨A2,c2,rfl,hj1,hc1⟩:=ownsRow_shape3 hown
   have HO:=hide hown
   have HB:=hide hb
   have HBW:=hide (HB2.out.trans (hb.mono HB2.out.size))
   have hsz:=hb.size
   unfold maxLen at hc1
   clear hown hb
   by_cases hlt:j < m
   ·
    have hlt':(j:Int) < (m:Int):=by omega
    obtain ⟨y,hy⟩:∃ y,R[j]?=some y:=⟨_,List.getElem?_eq_getElem (by have:=HL.out;omega)⟩
    obtain ⟨b,o,rfl,_,_,d0,d1,d2,d3,d4⟩:=(HT.out.below HB.out).at_ hy
    have HUP:=hide (take_map_up (f:=fun x:TyW=>x.t.region) hy)
    obtain ⟨⟨k0,mu,rr,el,fs⟩,Af,nf,cf⟩:=y
    simp only [] at d0 d1 d2 d3 d4 HUP
    clear hy
    go_wp2_with (at_builtin;refine wpList_append_own_at _ rfl (.tmp 32) (.tmp 38) 48 rfl w2.heap.size 3 i0 (.int .i64 0) 1 8 Tryz.underlying48 hi hz0 hz1 hz2 rfl (by decide) _ j _ rfl (HO.out.alloc _) ⟨wr.heap.size,0,none⟩ 1 1 (i64s [rr]) rfl rfl (cell_int8 wr rr 3) (ints_oneCell _ _) (by unfold maxLen;omega) (by omega) (by simp;omega) ?_;intro v5 w5 hown5 hg5 _ hat5;have HO5:=hide hown5;have HB5:=hide (below_app (HB.out.alloc hsz (.cells #[.int .i64 rr] 3)) (HO.out.alloc _) (by simp;omega) hg5);clear hown5 hg5 hat5)
    go_roundw
    case rel=>
     refine ⟨j+1,by go_num,by omega,?_,HB5.out⟩
     rw [HUP.out]
     have h:=HO5.out
     rw [←List.map_append] at h
     exact h
    case measure=>simp [intOf];omega
   ·
    obtain rfl:j=m:=by omega
    have HE:=hide (show wr.ownsRow w.heap.size 3 1 (.slice A2 j c2) j (i64s rg) from by
     rw [←HF.out]
     have h:=HO.out
     rw [List.take_of_length_le (by have:=HL.out;omega)] at h
     exact ownsRow_base h (by have:=HB2.out.size;omega))
    go_wp2
    go_ret
    exact ⟨A2,j,c2,rfl,by omega,hj1,hc1,HE.out,HBW.out⟩
 ·
  have tv:(v != 0)=true:=by rw [bne_iff_ne];exact hv0
  have HF:=hide (show rg=[] from by
   rw [←hrg]
   unfold regP refP
   rw [hv,if_neg hv0]
   rfl)
  obtain ⟨l,A,n,c,ps⟩:=x
  clear h hB0 hv hrg hv0
  go_enter Tryz.func92,Tryz.ntmps92
  go_wp2_with fail
  refine HC.out.mono ?_
  rintro e w1 ⟨rfl,hb1⟩
  have HB1:=hide (HB0.out.trans (hb1.mono HB0.out.size))
  clear hb1
  go_wp2
  go_ret
  exact ⟨none,0,0,rfl,by omega,Nat.le_refl _,Nat.zero_le _,by rw [HF.out];exact World.ownsRow_nil _ _ _ _,HB1.out⟩
theorem tw77 {w w':World} {a0 a1 a2 a3 a4 a5 a6 b0 b1 b2 b3 b4 b5 b6:Value} {T U:TypeId} (h:Below ((w.alloc (.cells #[a0,a1,a2,a3,a4,a5,a6] T)).alloc (.cells #[b0,b1,b2,b3,b4,b5,b6] U)).heap.size ((w.alloc (.cells #[a0,a1,a2,a3,a4,a5,a6] T)).alloc (.cells #[b0,b1,b2,b3,b4,b5,b6] U)) w'):w'.cell? ⟨w.heap.size,0,none⟩=some a0∧w'.cell? ⟨w.heap.size,1,none⟩=some a1∧w'.cell? ⟨w.heap.size,2,none⟩=some a2∧w'.cell? ⟨w.heap.size,3,none⟩=some a3∧w'.cell? ⟨w.heap.size,4,none⟩=some a4∧w'.cell? ⟨w.heap.size,5,none⟩=some a5∧w'.cell? ⟨w.heap.size,6,none⟩=some a6∧w'.cell? ⟨w.heap.size+1,0,none⟩=some b0∧w'.cell? ⟨w.heap.size+1,1,none⟩=some b1∧w'.cell? ⟨w.heap.size+1,2,none⟩=some b2∧w'.cell? ⟨w.heap.size+1,3,none⟩=some b3∧w'.cell? ⟨w.heap.size+1,4,none⟩=some b4∧w'.cell? ⟨w.heap.size+1,5,none⟩=some b5∧w'.cell? ⟨w.heap.size+1,6,none⟩=some b6:=by
 obtain ⟨c,d⟩:=two_cells (cs:=[a0,a1,a2,a3,a4,a5,a6]) (ds:=[b0,b1,b2,b3,b4,b5,b6]) h
 exact ⟨c 0 _ rfl,c 1 _ rfl,c 2 _ rfl,c 3 _ rfl,c 4 _ rfl,c 5 _ rfl,c 6 _ rfl,d 0 _ rfl,d 1 _ rfl,d 2 _ rfl,d 3 _ rfl,d 4 _ rfl,d 5 _ rfl,d 6 _ rfl⟩
theorem tw711 {w w':World} {a0 a1 a2 a3 a4 a5 a6 b0 b1 b2 b3 b4 b5 b6 b7 b8 b9 b10:Value} {T U:TypeId} (h:Below ((w.alloc (.cells #[a0,a1,a2,a3,a4,a5,a6] T)).alloc (.cells #[b0,b1,b2,b3,b4,b5,b6,b7,b8,b9,b10] U)).heap.size ((w.alloc (.cells #[a0,a1,a2,a3,a4,a5,a6] T)).alloc (.cells #[b0,b1,b2,b3,b4,b5,b6,b7,b8,b9,b10] U)) w'):w'.cell? ⟨w.heap.size,0,none⟩=some a0∧w'.cell? ⟨w.heap.size,1,none⟩=some a1∧w'.cell? ⟨w.heap.size,2,none⟩=some a2∧w'.cell? ⟨w.heap.size,3,none⟩=some a3∧w'.cell? ⟨w.heap.size,4,none⟩=some a4∧w'.cell? ⟨w.heap.size,5,none⟩=some a5∧w'.cell? ⟨w.heap.size,6,none⟩=some a6∧w'.cell? ⟨w.heap.size+1,0,none⟩=some b0∧w'.cell? ⟨w.heap.size+1,1,none⟩=some b1∧w'.cell? ⟨w.heap.size+1,2,none⟩=some b2∧w'.cell? ⟨w.heap.size+1,3,none⟩=some b3∧w'.cell? ⟨w.heap.size+1,4,none⟩=some b4∧w'.cell? ⟨w.heap.size+1,5,none⟩=some b5∧w'.cell? ⟨w.heap.size+1,6,none⟩=some b6∧w'.cell? ⟨w.heap.size+1,7,none⟩=some b7∧w'.cell? ⟨w.heap.size+1,8,none⟩=some b8∧w'.cell? ⟨w.heap.size+1,9,none⟩=some b9∧w'.cell? ⟨w.heap.size+1,10,none⟩=some b10:=by
 obtain ⟨c,d⟩:=two_cells (cs:=[a0,a1,a2,a3,a4,a5,a6]) (ds:=[b0,b1,b2,b3,b4,b5,b6,b7,b8,b9,b10]) h
 exact ⟨c 0 _ rfl,c 1 _ rfl,c 2 _ rfl,c 3 _ rfl,c 4 _ rfl,c 5 _ rfl,c 6 _ rfl,d 0 _ rfl,d 1 _ rfl,d 2 _ rfl,d 3 _ rfl,d 4 _ rfl,d 5 _ rfl,d 6 _ rfl,d 7 _ rfl,d 8 _ rfl,d 9 _ rfl,d 10 _ rfl⟩
theorem ValFz2 {P:Prop} (h:P:=by
 refine (Rnone_is (x:=⟨l,pA,pn,pc,ps⟩) hz _ HX.out.pl).mono ?_
 rintro e w1 ⟨rfl,hb1⟩
 have HW1:=hide hb1
 clear hb1
 have HE1:=hide (HB.out.trans (HW1.out.mono HB.out.size))
 obtain ⟨x0,x1,x2,x3,x4,x5,x6⟩:=cells7 HW1.out
 go_wp2
 go_ret
 exact ⟨rfl,HE1.out⟩):P:=h
theorem ValFz3 {P:Prop} (h:P:=by
 go_enter Tryz.func41,Tryz.ntmps41
 go_wp2
 go_ret
 exact ⟨rfl,HB.out⟩):P:=h
theorem ValFz4 {P:Prop} (h:P:=by
 go_enter Tryz.func41,Tryz.ntmps41
 go_wp2_with fail
 exact ValFz2):P:=h
theorem Rblank_any (x:RvW) (w:World) (h:OneRv w w.heap.size x) :
 Calls Tryz.prog 41 #[aggRv x] w fun e w'=>e=.returned (.bool (noR x.v))∧Below w.heap.size w w':=by
 obtain ⟨k,op,rg,mu,⟨l,pA,pn,pc,ps⟩,⟨gA,gn,gc,gL⟩⟩:=x
 have hgn:gL.length=gn:=h.args.len
 obtain ⟨v,hv⟩:∃ v,noR (RvW.v ⟨k,op,rg,mu,⟨l,pA,pn,pc,ps⟩,⟨gA,gn,gc,gL⟩⟩)=v:=⟨_,rfl⟩
 rw [hv]
 unfold noR at hv
 simp only [RvW.v,List.length_map,hgn] at hv
 have HB:=hide (below1 w (.cells (cRv ⟨k,op,rg,mu,⟨l,pA,pn,pc,ps⟩,⟨gA,gn,gc,gL⟩⟩).toArray 44))
 have HX:=hide (h.up HB.out)
 clear h
 by_cases h0:k=0
 ·
  have t0:(k == 0)=true:=by simp [h0]
  by_cases h1:op=0
  ·
   have t1:(op == 0)=true:=by simp [h1]
   by_cases h2:rg=0
   ·
    have t2:(rg == 0)=true:=by simp [h2]
    cases mu
    ·
     by_cases hz:noP (PlW.v ⟨l,pA,pn,pc,ps⟩)=true
     ·
      by_cases hl:gn=0
      ·
       have tl:((gn:Int) == 0)=true:=by simp [hl]
       obtain rfl:v=true:=by
        rw [←hv]
        simp [h0,h1,h2,hz,hl]
       clear h0 h1 h2 hl hv
       exact ValFz4
      ·
       have tl:((gn:Int) == 0)=false:=by rw [beq_eq_false_iff_ne];omega
       obtain rfl:v=false:=by
        rw [←hv]
        simp [hl]
       clear h0 h1 h2 hl hv
       exact ValFz4
     ·
      have hz:noP (PlW.v ⟨l,pA,pn,pc,ps⟩)=false:=by simpa using hz
      obtain rfl:v=false:=by
       rw [←hv]
       simp [hz]
      clear h0 h1 h2 hv
      exact ValFz4
    ·
     obtain rfl:v=false:=by
      rw [←hv]
      simp []
     clear h0 h1 h2 hv
     exact ValFz3
   ·
    have t2:(rg == 0)=false:=by simp [h2]
    obtain rfl:v=false:=by
     rw [←hv]
     simp [h2]
    clear h0 h1 h2 hv
    exact ValFz3
  ·
   have t1:(op == 0)=false:=by simp [h1]
   obtain rfl:v=false:=by
    rw [←hv]
    simp [h1]
   clear h0 h1 hv
   exact ValFz3
 ·
  have t0:(k == 0)=false:=by simp [h0]
  obtain rfl:v=false:=by
   rw [←hv]
   simp [h0]
  clear h0 hv
  exact ValFz3
theorem ValFz0 {P:Prop} (h:P:=by
 go_enter Tryz.func62,Tryz.ntmps62
 go_wp2_with fail
 exact ValFz2):P:=h
theorem ValFz1 {P:Prop} (h:P:=by
 go_enter Tryz.func62,Tryz.ntmps62
 go_wp2
 go_ret
 exact ⟨rfl,HB.out⟩):P:=h
theorem ValFz5 {P:Prop} (h:P:=by
 have top:(op != 0)=true:=by simp [hop]
 obtain rfl:v=2:=by
  rw [←hv]
  simp [hop]
 clear hop hv
 exact ValFz1):P:=h
theorem ValFz6 {P:Prop} (h:P:=by
 subst hv
 have HB:=hide (below1 w (.cells (cRv ⟨k,op,rg,mu,⟨l,pA,pn,pc,ps⟩,⟨gA,gn,gc,gL⟩⟩).toArray 44))
 have HX:=hide (h.up HB.out)
 clear h
 exact ValFz1):P:=h
theorem ValFz7 {P:Prop} (h:P:=by
 have hz:noP (PlW.v ⟨l,pA,pn,pc,ps⟩)=false:=by simpa using hz
 obtain rfl:v=2:=by
  rw [←hv]
  simp [hz]
 clear hrg hop hv
 exact ValFz0):P:=h
theorem ValFz8 {P:Prop} (h:P:=by
 have hz:noP (PlW.v ⟨l,pA,pn,pc,ps⟩)=false:=by simpa using hz
 obtain rfl:v=2:=by
  rw [←hv]
  simp [hz]
 clear hrg hv
 exact ValFz0):P:=h
theorem Rshape_any (x:RvW) (w:World) (h:OneRv w w.heap.size x) :
 Calls Tryz.prog 62 #[aggRv x] w fun e w'=>e=.returned (.int .i64 (shErr x.v))∧Below w.heap.size w w':=by
 obtain ⟨k,op,rg,mu,⟨l,pA,pn,pc,ps⟩,⟨gA,gn,gc,gL⟩⟩:=x
 have hgn:gL.length=gn:=h.args.len
 obtain ⟨v,hv⟩:∃ v,shErr (RvW.v ⟨k,op,rg,mu,⟨l,pA,pn,pc,ps⟩,⟨gA,gn,gc,gL⟩⟩)=v:=⟨_,rfl⟩
 rw [hv]
 unfold shErr at hv
 simp only [RvW.v,List.length_map,hgn] at hv
 by_cases h14:k < 0
 ·
  rw [if_pos (.inl h14)] at hv
  exact ValFz6
 by_cases h15:4 < k
 ·
  rw [if_pos (.inr h15)] at hv
  exact ValFz6
 rw [if_neg (by omega)] at hv
 have hk:k=0∨k=1∨k=2∨k=3∨k=4:=by omega
 clear h14 h15
 rcases hk with rfl | rfl | rfl | rfl | rfl
 ·
  -- kind 0
  have HB:=hide (below1 w (.cells (cRv ⟨0,op,rg,mu,⟨l,pA,pn,pc,ps⟩,⟨gA,gn,gc,gL⟩⟩).toArray 44))
  have HX:=hide (h.up HB.out)
  clear h
  by_cases hop:op=0
  ·
   have top:(op != 0)=false:=by simp [hop]
   by_cases hrg:rg=0
   ·
    have trg:(rg != 0)=false:=by simp [hrg]
    cases mu
    ·
     by_cases hz:noP (PlW.v ⟨l,pA,pn,pc,ps⟩)=true
     ·
      by_cases hl:gn=1
      ·
       have tl:((gn:Int) != 1)=false:=by simp [hl]
       obtain rfl:v=0:=by
        rw [←hv]
        simp [hop,hrg,hz,hl]
       clear hl hrg hop hv
       exact ValFz0
      ·
       have tl:((gn:Int) != 1)=true:=by rw [bne_iff_ne];omega
       obtain rfl:v=2:=by
        rw [←hv]
        simp [hop,hrg,hz,hl]
       clear hl hrg hop hv
       exact ValFz0
     ·
      exact ValFz7
    ·
     obtain rfl:v=2:=by
      rw [←hv]
      simp []
     clear hrg hop hv
     exact ValFz1
   ·
    have trg:(rg != 0)=true:=by simp [hrg]
    obtain rfl:v=2:=by
     rw [←hv]
     simp [hrg]
    clear hrg hop hv
    exact ValFz1
  ·
   exact ValFz5
 ·
  -- kind 1
  have HB:=hide (below1 w (.cells (cRv ⟨1,op,rg,mu,⟨l,pA,pn,pc,ps⟩,⟨gA,gn,gc,gL⟩⟩).toArray 44))
  have HX:=hide (h.up HB.out)
  clear h
  by_cases hop:op=0
  ·
   have top:(op != 0)=false:=by simp [hop]
   by_cases hl:0 < gn
   ·
    have tl:(0:Int) < (gn:Int):=by omega
    obtain rfl:v=2:=by
     rw [←hv]
     simp [hl]
    clear hl hop hv
    exact ValFz1
   ·
    have tl:¬(0:Int) < (gn:Int):=by omega
    obtain rfl:v=0:=by
     rw [←hv]
     simp [hop,hl]
    clear hl hop hv
    exact ValFz1
  ·
   exact ValFz5
 ·
  -- kind 2
  have HB:=hide (below1 w (.cells (cRv ⟨2,op,rg,mu,⟨l,pA,pn,pc,ps⟩,⟨gA,gn,gc,gL⟩⟩).toArray 44))
  have HX:=hide (h.up HB.out)
  clear h
  by_cases hrg:rg=0
  ·
   have trg:(rg != 0)=false:=by simp [hrg]
   cases mu
   ·
    by_cases hz:noP (PlW.v ⟨l,pA,pn,pc,ps⟩)=true
    ·
     by_cases hl:gn=1
     ·
      have tl:((gn:Int) != 1)=false:=by simp [hl]
      obtain rfl:v=0:=by
       rw [←hv]
       simp [hrg,hz,hl]
      clear hl hrg hv
      exact ValFz0
     ·
      have tl:((gn:Int) != 1)=true:=by rw [bne_iff_ne];omega
      obtain rfl:v=2:=by
       rw [←hv]
       simp [hrg,hz,hl]
      clear hl hrg hv
      exact ValFz0
    ·
     exact ValFz8
   ·
    obtain rfl:v=2:=by
     rw [←hv]
     simp []
    clear hrg hv
    exact ValFz1
  ·
   have trg:(rg != 0)=true:=by simp [hrg]
   obtain rfl:v=2:=by
    rw [←hv]
    simp [hrg]
   clear hrg hv
   exact ValFz1
 ·
  -- kind 3
  have HB:=hide (below1 w (.cells (cRv ⟨3,op,rg,mu,⟨l,pA,pn,pc,ps⟩,⟨gA,gn,gc,gL⟩⟩).toArray 44))
  have HX:=hide (h.up HB.out)
  clear h
  by_cases hrg:rg=0
  ·
   have trg:(rg != 0)=false:=by simp [hrg]
   cases mu
   ·
    by_cases hz:noP (PlW.v ⟨l,pA,pn,pc,ps⟩)=true
    ·
     by_cases hl:gn=2
     ·
      have tl:((gn:Int) != 2)=false:=by simp [hl]
      obtain rfl:v=0:=by
       rw [←hv]
       simp [hrg,hz,hl]
      clear hl hrg hv
      exact ValFz0
     ·
      have tl:((gn:Int) != 2)=true:=by rw [bne_iff_ne];omega
      obtain rfl:v=2:=by
       rw [←hv]
       simp [hrg,hz,hl]
      clear hl hrg hv
      exact ValFz0
    ·
     exact ValFz8
   ·
    obtain rfl:v=2:=by
     rw [←hv]
     simp []
    clear hrg hv
    exact ValFz1
  ·
   have trg:(rg != 0)=true:=by simp [hrg]
   obtain rfl:v=2:=by
    rw [←hv]
    simp [hrg]
   clear hrg hv
   exact ValFz1
 ·
  -- kind 4
  have HB:=hide (below1 w (.cells (cRv ⟨4,op,rg,mu,⟨l,pA,pn,pc,ps⟩,⟨gA,gn,gc,gL⟩⟩).toArray 44))
  have HX:=hide (h.up HB.out)
  clear h
  by_cases hop:op=0
  ·
   have top:(op != 0)=false:=by simp [hop]
   by_cases hrg:rg=0
   ·
    have trg:(rg != 0)=false:=by simp [hrg]
    cases mu
    ·
     by_cases hz:noP (PlW.v ⟨l,pA,pn,pc,ps⟩)=true
     ·
      obtain rfl:v=0:=by
       rw [←hv]
       simp [hop,hrg,hz]
      clear hrg hop hv
      exact ValFz0
     ·
      exact ValFz7
    ·
     obtain rfl:v=2:=by
      rw [←hv]
      simp []
     clear hrg hop hv
     exact ValFz1
   ·
    have trg:(rg != 0)=true:=by simp [hrg]
    obtain rfl:v=2:=by
     rw [←hv]
     simp [hrg]
    clear hrg hop hv
    exact ValFz1
  ·
   exact ValFz5
theorem RHas_any (A:Option Addr) (n c:Nat) (xs:List Int) (x:Int) (w:World) (B:Nat) (hx:Rd w B A n (i64s xs)) (hn:n≤maxLen) :
 Calls Tryz.prog 109 #[.slice A n c,.int .i64 x] w fun e w'=>e=.returned (.bool (decide (x∈xs)))∧w=w':=by
 have HX:=hide hx
 have HL:=hide hx.ilen
 unfold maxLen at hn
 clear hx
 go_enter Tryz.func109,Tryz.ntmps109
 go_wp2
 go_loop [5] (fun i=>∃ j:Nat,i=.int .i64 (j:Int)∧j≤n∧Hid (∀ t y,t < j→xs[t]?=some y→y≠x)) (fun i=>n - (intOf i).toNat)
 case atStart=>exact ⟨0,rfl,Nat.zero_le _,fun t y h=>absurd h (Nat.not_lt_zero _)⟩
 case round=>
  obtain ⟨j,rfl,hj,HT⟩:=hrel
  by_cases hlt:j < n
  ·
   have hex:∃ a,xs[j]?=some a:=⟨_,List.getElem?_eq_getElem (by have:=HL.out;omega)⟩
   obtain ⟨a,ha⟩:=hex
   have hlt':(j:Int) < (n:Int):=by omega
   obtain ⟨b,o,rfl,hbB,c0⟩:=HX.out.int ha
   by_cases hax:a=x
   ·
    subst hax
    have HF:=hide (show decide (a∈xs)=true from decide_eq_true (List.mem_of_getElem? ha))
    clear ha
    go_wp2
    go_ret
    exact ⟨congrArg (fun v=>Ending.returned (.bool v)) HF.out.symm,rfl⟩
   ·
    have t1:(a == x)=false:=by simpa using hax
    have HN:=hide (show ∀ t y,t < j+1→xs[t]?=some y→y≠x from fun t y ht hy=>by
     rcases Nat.lt_or_ge t j with h | h
     ·
      exact HT.out t y h hy
     ·
      obtain rfl:j=t:=by omega
      rw [ha] at hy
      injection hy with hy
      exact hy ▸ hax)
    clear ha hax
    go_wp2
    go_round
    case rel=>exact ⟨j+1,by go_num,by omega,HN.out⟩
    case measure=>simp [intOf];omega
  ·
   obtain rfl:j=n:=by omega
   have HF:=hide (show decide (x∈xs)=false from decide_eq_false fun h=>by
    obtain ⟨t,ht⟩:=List.getElem?_of_mem h
    exact HT.out t x (by have:=(List.getElem?_eq_some_iff.1 ht).1;have:=HL.out;omega) ht rfl)
   go_wp2
   go_ret
   exact ⟨congrArg (fun v=>Ending.returned (.bool v)) HF.out.symm,rfl⟩
theorem RHas_is {A:Option Addr} {n c:Nat} {xs:List Int} {x:Int} {v:Bool} (h:decide (x∈xs)=v) (w:World) (B:Nat) (hx:Rd w B A n (i64s xs)) (hn:n≤maxLen) :
 Calls Tryz.prog 109 #[.slice A n c,.int .i64 x] w fun e w'=>e=.returned (.bool v)∧w=w':=h ▸ RHas_any A n c xs x w B hx hn
theorem RHas_q {A:Option Addr} {n c:Nat} {xs:List Int} {x:Int} {v:Bool} (h:decide (x∈xs)=v) (w:World) (B:Nat) (hx:Rd w B A n (i64s xs)) (hn:n≤maxLen) :
 Calls Tryz.prog 109 #[.slice A n c,.int .i64 x] w fun e w'=>e=.returned (.bool v)∧w'=w:=by
 refine (RHas_is (c:=c) h w B hx hn).mono ?_
 rintro e w' ⟨rfl,rfl⟩
 exact ⟨rfl,rfl⟩
theorem Rch.found {ps:List Pr} {a b:Int} {Z:List Int} {i:Nat} (h:Rch ps a b Z i) (hz:Z[i]?=some b):Way ps a b:=h.way b (List.mem_of_getElem? hz)
theorem out_far {ps:List Pr} {n a b:Int} (h:¬((0≤a∧a < n)∧0≤b∧b < n)):out ps n a b=false:=out_not.2 fun k=>h ⟨k.1,k.2.1⟩
theorem own_lit1 (w:World) (x:Int) (t:TypeId):(w.alloc (.cells #[.int .i64 x] t)).ownsRow w.heap.size t 1 (.slice (some ⟨w.heap.size,0,none⟩) 1 1) 1 (i64s [x]):=
 ⟨rfl,.inr ⟨w.heap.size,1,_,rfl,Nat.le_refl _,heap_alloc_new w _,Nat.le_refl _,by unfold maxLen;decide,rfl,rfl⟩⟩
theorem RegOz1 {P:Prop} (h:P:=by
 go_roundw
 case rel=>exact ⟨Z2,j+1,m2,by go_num,by omega,hkm2,hm2,ownsRow_below HO2.out (tyN (Below.refl _ _) _),tyN HB2.out _,HR2.out,HZ2.out,HN.out⟩
 case measure=>simp [intOf];omega):P:=h
theorem ROutlives_in (A:Option Addr) (n c:Nat) (ps:List Pr) (rg a b:Int) (w:World) (hA:Prs w w.heap.size A n ps) (hn:n≤65535) (ha:0≤a∧a < rg) (hb:0≤b∧b < rg) :
 Calls Tryz.prog 93 #[.slice A n c,.int .i64 rg,.int .i64 a,.int .i64 b] w fun e w'=>e=.returned (.bool (out ps rg a b))∧Below w.heap.size w w':=by
 obtain ⟨i0,hi,hz0,hz1,hz2⟩:=info_parts infoInt
 have HA:=hide hA
 have HL:=hide hA.len
 have HOut:=hide (show ∀ v:Bool,(v=true↔Way ps a b)→v=out ps rg a b from fun v hv=>out_eq (hv.trans ⟨fun h=>⟨ha,hb,h⟩,fun h=>h.2.2⟩))
 have t1:decide (a < 0)=false:=decide_eq_false (by omega)
 have t2:decide (rg≤a)=false:=decide_eq_false (by omega)
 have t3:decide (b < 0)=false:=decide_eq_false (by omega)
 have t4:decide (rg≤b)=false:=decide_eq_false (by omega)
 clear hA ha hb
 go_enter Tryz.func93,Tryz.ntmps93
 go_wp2
 go_loopw [9,10] (fun v i wr=>∃ (Z:List Int) (k m:Nat),i=.int .i64 (k:Int)∧k≤m∧m≤n+1∧wr.ownsRow w.heap.size 3 1 v m (i64s Z)∧Below w.heap.size w wr∧Hid (Rch ps a b Z k)) (fun _ i _=>(n+1) - (intOf i).toNat)
 case atStart=>exact ⟨[a],0,1,rfl,by omega,by omega,own_lit1 w a 3,(Below.refl _ _).alloc (Nat.le_refl _) _,Rch.begin _ _ _⟩
 case round=>
  obtain ⟨Z,k,m,rfl,hk,hm,hown,hb,HR⟩:=hrel
  obtain ⟨A1,c1,rfl,hk1,hc1⟩:=ownsRow_shape3 hown
  have HO:=hide hown
  have HB:=hide hb
  have hsz:=hb.size
  have HZ:=hide (Rd.of_own hown)
  unfold maxLen at hc1
  clear hown hb
  by_cases hlt:k < m
  ·
   have hex:∃ z,Z[k]?=some z:=⟨_,List.getElem?_eq_getElem (by have:=HZ.out.ilen;omega)⟩
   obtain ⟨z,hz⟩:=hex
   have hlt':(k:Int) < (m:Int):=by omega
   obtain ⟨gz,oz,rfl,hgz,cz⟩:=HZ.out.int hz
   by_cases hzb:z=b
   ·
    subst hzb
    have HF:=hide (HOut.out true ⟨fun _=>HR.out.found hz,fun _=>rfl⟩)
    clear hz
    go_wp2
    go_ret
    exact ⟨congrArg (fun v=>Ending.returned (.bool v)) HF.out,HB.out⟩
   ·
    have tz:(z == b)=false:=by simpa using hzb
    have HZK:=hide hz
    clear hz
    have HZB:=hide hzb
    clear hzb
    go_wp2
    have hex:∃ wv,wv=wr:=⟨_,rfl⟩
    obtain ⟨wv,hwv⟩:=hex
    rw [←hwv] at HO HB HZ hsz ⊢
    clear hwv cz
    go_loopw [9,11] (fun v i wr2=>∃ (Z2:List Int) (j m2:Nat),i=.int .i64 (j:Int)∧j≤n∧k < m2∧m2≤n+1∧wr2.ownsRow w.heap.size 3 1 v m2 (i64s Z2)∧Below w.heap.size w wr2∧Hid (Rch ps a b Z2 k)∧Hid (Z2[k]?=some z)∧Hid (∀ t q,t < j→ps[t]?=some q→q.1=z→q.2∈Z2)) (fun _ i _=>n - (intOf i).toNat)
    case atStart=>exact ⟨Z,0,m,rfl,by omega,hlt,hm,HO.out,HB.out,HR.out,HZK.out,fun t q h=>absurd h (Nat.not_lt_zero _)⟩
    case round=>
     obtain ⟨Z2,j,m2,rfl,hj,hkm2,hm2,hown2,hb2,HR2,HZ2,HJ⟩:=hrel
     obtain ⟨A2,c2,rfl,hk2,hc2⟩:=ownsRow_shape3 hown2
     have HO2:=hide hown2
     have HB2:=hide hb2
     have hsz2:=hb2.size
     have HRD:=hide (Rd.of_own hown2)
     have HL2:=hide (Rd.of_own hown2).ilen
     unfold maxLen at hc2
     clear hown2 hb2
     have hkm2':(k:Int) < (m2:Int):=by omega
     by_cases hjn:j < n
     ·
      obtain ⟨q,hq⟩:=HA.out.get hjn
      obtain ⟨b1,o1,rfl,hb1,_,c0,c1'⟩:=(HA.out.below HB2.out).at_ hq
      obtain ⟨gz,oz,rfl,hgz,cz⟩:=HRD.out.int HZ2.out
      obtain ⟨u,v⟩:=q
      simp only [] at c0 c1'
      have hjn':(j:Int) < (n:Int):=by omega
      have hj0:(0:Int)≤(j:Int):=Int.natCast_nonneg _
      have hk0:(0:Int)≤(k:Int):=Int.natCast_nonneg _
      have HQQ:=hide hq
      clear hq
      by_cases huz:u=z
      ·
       subst huz
       have tu:(u == u)=true:=by simp
       by_cases hv:v∈Z2
       ·
        have HQ:=hide fun (x:Nat)=>RHas_q (c:=c2) (decide_eq_true hv) (wr.drewN x) _ (HRD.out.below (tyN (Below.refl _ _) x)) (by unfold maxLen;omega)
        have HN:=hide (show ∀ t q,t < j+1→ps[t]?=some q→q.1=u→q.2∈Z2 from fun t q ht hq he=>by
         rcases Nat.lt_or_ge t j with h | h
         ·
          exact HJ.out t q h hq he
         ·
          obtain rfl:t=j:=by omega
          rw [HQQ.out] at hq
          injection hq with hq
          subst hq
          exact hv)
        clear hv
        go_wp2
        go_quiet ((exact Calls.quiet_of_same (HQ.out _)))
        go_wp2
        exact RegOz1
       ·
        have HQ:=hide fun (x:Nat)=>RHas_q (c:=c2) (decide_eq_false hv) (wr.drewN x) _ (HRD.out.below (tyN (Below.refl _ _) x)) (by unfold maxLen;omega)
        have HUP:=hide (HR2.out.up HZ2.out (List.mem_of_getElem? HQQ.out) hv)
        have hm3:m2+1≤n+1:=by
         have h1:=HUP.out.bound
         have h2:=HL2.out
         have h3:=HL.out
         rw [List.length_append,List.length_singleton] at h1
         omega
        have HN:=hide (show ∀ t q,t < j+1→ps[t]?=some q→q.1=u→q.2∈Z2++[v] from fun t q ht hq he=>by
         rcases Nat.lt_or_ge t j with h | h
         ·
          exact List.mem_append_left _ (HJ.out t q h hq he)
         ·
          obtain rfl:t=j:=by omega
          rw [HQQ.out] at hq
          injection hq with hq
          subst hq
          simp)
        have HZ3:=hide (show (Z2++[v])[k]?=some u by rw [List.getElem?_append_left (by have:=HL2.out;omega)];exact HZ2.out)
        clear hv
        go_wp2
        go_quiet ((exact Calls.quiet_of_same (HQ.out _)))
        generalize hwq:wr.drewN _=wq
        clear c0 cz
        have HOq:=hide (show wq.ownsRow w.heap.size 3 1 _ _ _ from hwq ▸ ownsRow_below HO2.out (tyN (Below.refl _ _) _))
        have HBq:=hide (show Below w.heap.size w wq from hwq ▸ tyN HB2.out _)
        have e1:wq.cell? ⟨b1,o1+j*2+1,none⟩=some (.int .i64 v):=by rw [←hwq];exact c1'
        clear hwq c1'
        go_wp2_with (at_builtin;refine wpList_append_own_at _ rfl _ _ 48 rfl w.heap.size 3 i0 (.int .i64 0) 1 8 Tryz.underlying48 hi hz0 hz1 hz2 rfl (by decide) _ m2 _ rfl (HOq.out.alloc _) ⟨wq.heap.size,0,none⟩ 1 1 (i64s [v]) rfl rfl (cell_int2 wq v 3) (ints_oneCell _ _) (by unfold maxLen;omega) (by omega) (by have:=HBq.out.size;simp;omega) ?_;intro v5 w5 hown5 hg5 _ hat5;have HO5:=hide hown5;have HB5:=hide (below_app (HBq.out.alloc HBq.out.size _) (HOq.out.alloc _) (by have:=HBq.out.size;simp;omega) hg5);clear hown5 hg5 hat5)
        go_roundw
        case rel=>exact ⟨Z2++[v],j+1,m2+1,by go_num,by omega,by omega,hm3,(by have h:=HO5.out;rw [←List.map_append] at h;exact h),HB5.out,HUP.out,HZ3.out,HN.out⟩
        case measure=>simp [intOf];omega
      ·
       have tu:(u == z)=false:=by simpa using huz
       have HN:=hide (show ∀ t q,t < j+1→ps[t]?=some q→q.1=z→q.2∈Z2 from fun t q ht hq he=>by
        rcases Nat.lt_or_ge t j with h | h
        ·
         exact HJ.out t q h hq he
        ·
         obtain rfl:t=j:=by omega
         rw [HQQ.out] at hq
         injection hq with hq
         subst hq
         exact absurd he huz)
       clear huz
       go_wp2
       go_quiet (fail)
       go_wp2
       exact RegOz1
     ·
      have e:j=n:=by omega
      have HNX:=hide (HR2.out.next HZ2.out HZB.out fun c hc=>by
       obtain ⟨t,ht⟩:=List.getElem?_of_mem hc
       exact HJ.out t _ (by have:=(List.getElem?_eq_some_iff.1 ht).1;have:=HL.out;omega) ht rfl)
      have hjn':¬(j:Int) < (n:Int):=by omega
      clear hjn
      go_wp2
      go_roundw
      case rel=>exact ⟨Z2,k+1,m2,by go_num,by omega,hm2,HO2.out,HB2.out,HNX.out⟩
      case measure=>simp [intOf];omega
  ·
   have HF:=hide (HOut.out false ⟨fun h=>(by cases h),fun h=>absurd h (HR.out.end_ (by have:=HZ.out.ilen;omega))⟩)
   have hlt':¬(k:Int) < (m:Int):=by omega
   clear hlt
   go_wp2
   go_ret
   exact ⟨congrArg (fun v=>Ending.returned (.bool v)) HF.out,HB.out⟩
theorem RegOz0 {P:Prop} (h:P:=by
 go_enter Tryz.func93,Tryz.ntmps93
 go_wp2
 go_ret
 exact ⟨rfl,Below.refl _ _⟩):P:=h
theorem ROutlives_out (A:Option Addr) (n c:Nat) (rg a b:Int) (w:World) (h:¬((0≤a∧a < rg)∧0≤b∧b < rg)) :
 Calls Tryz.prog 93 #[.slice A n c,.int .i64 rg,.int .i64 a,.int .i64 b] w fun e w'=>e=.returned (.bool false)∧Below w.heap.size w w':=by
 by_cases b1:a < 0
 ·
  exact RegOz0
 have t1:decide (a < 0)=false:=decide_eq_false b1
 by_cases b2:rg≤a
 ·
  clear b1 h
  exact RegOz0
 have t2:decide (rg≤a)=false:=decide_eq_false b2
 by_cases b3:b < 0
 ·
  clear b1 b2 h
  exact RegOz0
 have t3:decide (b < 0)=false:=decide_eq_false b3
 have b4:rg≤b:=by omega
 clear b1 b2 b3 h
 exact RegOz0
theorem ROutlives_any (A:Option Addr) (n c:Nat) (ps:List Pr) (rg a b:Int) (w:World) (hA:Prs w w.heap.size A n ps) (hn:n≤65535) :
 Calls Tryz.prog 93 #[.slice A n c,.int .i64 rg,.int .i64 a,.int .i64 b] w fun e w'=>e=.returned (.bool (out ps rg a b))∧Below w.heap.size w w':=by
 by_cases h:(0≤a∧a < rg)∧0≤b∧b < rg
 ·
  exact ROutlives_in A n c ps rg a b w hA hn h.1 h.2
 ·
  rw [out_far h]
  exact ROutlives_out A n c rg a b w h
theorem ROutlives_is {A:Option Addr} {n c:Nat} {ps:List Pr} {rg a b:Int} {v:Bool} (h:out ps rg a b=v) (w:World) (hA:Prs w w.heap.size A n ps) (hn:n≤65535) :
 Calls Tryz.prog 93 #[.slice A n c,.int .i64 rg,.int .i64 a,.int .i64 b] w fun e w'=>e=.returned (.bool v)∧Below w.heap.size w w':=h ▸ ROutlives_any A n c ps rg a b w hA hn
end Go.Proofs.YtfgacmgjpikgaaaGreatDoor
