/- Part 26 of the contracts and their mathematics. -/
import Derived.Test.YtfgacmgjpikgaaaGreatDoorQ18
set_option linter.unusedVariables false
set_option linter.unusedSimpArgs false
set_option maxRecDepth 100000
set_option maxHeartbeats 16000000
namespace Go.Proofs.YtfgacmgjpikgaaaGreatDoor
open Go.RowKit
theorem own_lit2b (w:World) (x y:Int) (t:TypeId) {base:Nat} (hb:base≤w.heap.size):(w.alloc (.cells #[.int .i64 x,.int .i64 y] t)).ownsRow base t 2 (.slice (some ⟨w.heap.size,0,none⟩) 1 1) 1 ([(x,y)].flatMap pV):=
 ⟨rfl,.inr ⟨w.heap.size,1,_,rfl,hb,heap_alloc_new w _,Nat.le_refl _,by unfold maxLen;decide,rfl,rfl⟩⟩
theorem ub1 {U1 U2 m1 n8 g:Nat} (h1:U2+1≤U1) (h2:U1*65537+(m1+1)≤g) (h3:n8≤65535):U2*65537+(m1+n8) < g:=by omega
theorem ub2 {U1 U2 l K:Nat} (h1:U2+1≤U1) (h2:l+U1≤K):l+1+U2≤K:=by omega
theorem ret_bb {a b:Bool} (h:b=a):Ending.returned (.bool a)=.returned (.bool b):=by rw [h]
theorem Subtype_any (r:Nat) (ps:List Pr) (rg rg0:Int) (A:Option Addr) (n c:Nat) (L:List TyW) (s t:Int) (w:World) (hR:Rel w w.heap.size r ps rg) (hA:Typs w w.heap.size A n L) (hn:n≤1000) (hok:TyOk (tys L) rg0) (hs:IntR s) (ht:IntR t) :
    Calls Tryz.prog 132 #[.pointer (some ⟨r,0,none⟩),.slice A n c,.int .i64 s,.int .i64 t] w fun e w'=>e=.returned (.bool (sub (out ps rg) (tys L) s t))∧Below w.heap.size w w':=by
  obtain ⟨i0,hi,hz0,hz1,hz2⟩:=info_parts infoArr
  have hmm:=@run_makeMap Tryz.prog
  have HR:=hide hR
  have HA:=hide hA
  have HL:=hide hA.len
  have HOk:=hide hok
  have HI:=hide (SubI.begin (O:=out ps rg) (L:=tys L) (s:=s) (t:=t) ⟨hs,ht⟩)
  have hb0:Below w.heap.size w ((w.alloc (.map #[] 0)).alloc (.cells #[.int .i64 s,.int .i64 t] 99)):=((Below.refl _ _).alloc (Nat.le_refl _) _).alloc (by simp) _
  have HW0:=hide (show SubW w.heap.size w ((w.alloc (.map #[] 0)).alloc (.cells #[.int .i64 s,.int .i64 t] 99)) (.slice (some ⟨w.heap.size+1,0,none⟩) 1 1) 1 [(s,t)] [] from
    ⟨hb0,(PrM.made w).block (Below.heap_alloc _ _ _ (by simp)),by have h:=own_lit2b (w.alloc (.map #[] 0)) s t 99 (base:=w.heap.size+1) (by simp);rw [World.size_alloc] at h;exact h,by simp⟩)
  have HG0:=hide (show unvis (grid n) []*65537+1≤65537000001 by have h1:=unvis_le (grid n) [];rw [grid_len] at h1;have h2:n*n≤1000*1000:=Nat.mul_le_mul hn hn;omega)
  have HN0:=hide (show ([]:List Pr).length+unvis (grid n) []≤1000000 by have h1:=unvis_le (grid n) [];rw [grid_len] at h1;have h2:n*n≤1000*1000:=Nat.mul_le_mul hn hn;simp;omega)
  clear hR hA hok hs ht hb0
  go_enter Tryz.func132,Tryz.ntmps132
  go_wp2
  go_loopg [10] (unvis (grid n) []*65537+1) (fun g v wr=>∃ (m:Nat) (Wt M:List Pr),Hid (SubW w.heap.size w wr v m Wt M)∧Hid (SubI (out ps rg) (tys L) s t M Wt)∧Hid (unvis (grid n) M*65537+m≤g)∧Hid (g≤65537000001)∧Hid (M.length+unvis (grid n) M≤1000000))
  case atStart=>exact ⟨1,[(s,t)],[],HW0.out,HI.out,Nat.le_refl _,HG0.out,HN0.out⟩
  case round=>
    obtain ⟨m,Wt,M,HW,HS,HM,HG,HN⟩:=hrel
    have hlow:=HW.out.low
    have hwlt:=HW.out.lt
    obtain ⟨A7,c7,rfl,hmc,hcm⟩:=ownsRow_shape3 HW.out.own
    have hWl:Wt.length=m:=(Cells.of_own pV_len (by decide) HW.out.own).1
    have hmG:m≤65537000001:=by have:=HM.out;have:=HG.out;omega
    unfold maxLen at hcm
    rcases Nat.eq_zero_or_pos m with h0 | h0
    · subst h0
      have e0:Wt=[]:=List.eq_nil_of_length_eq_zero hWl
      subst e0
      have HF:=hide (HS.out.end_ HOk.out)
      clear hWl
      go_wp2
      go_ret
      exact ⟨ret_bb HF.out,hlow⟩
    · obtain ⟨m1,rfl⟩:∃ m1,m=m1+1:=⟨m - 1,by omega⟩
      obtain ⟨W1,p,rfl,hW1⟩:=snoc_of hWl
      obtain ⟨g7,cap7,hv7,hg7,hg7l⟩:=HW.out.own.form (by omega)
      obtain ⟨rfl,rfl⟩:A7=some ⟨g7,0,none⟩∧c7=cap7:=by injection hv7 with h1 h2 h3;exact ⟨h1,h3⟩
      obtain ⟨b,o,e,_,hc⟩:=(Cells.of_own pV_len (by decide) HW.out.own).at_ (i:=m1) (x:=p) (by rw [List.getElem?_append_right (by omega),hW1,Nat.sub_self];rfl)
      have hip:=HS.out.intW p (by simp)
      have hO1:=HW.out.own
      rw [List.flatMap_append] at hO1
      obtain ⟨x,y⟩:=p
      have hO2:wr.ownsRow (w.heap.size+1) 99 2 (.slice (some ⟨g7,0,none⟩) m1 c7) m1 (W1.flatMap pV):=ownsRow_pop2 (x:=.int .i64 x) (y:=.int .i64 y) hO1
      have d0:wr.cell? ⟨g7,m1*2,none⟩=some (.int .i64 x):=by
        have h:=hc 0 _ rfl
        injection e with e;injection e with e1 e2
        rw [←e1,← e2] at h
        simpa using h
      have d1:wr.cell? ⟨g7,m1*2+1,none⟩=some (.int .i64 y):=by
        have h:=hc 1 _ rfl
        injection e with e;injection e with e1 e2
        rw [←e1,← e2] at h
        simpa using h
      have hal:=(Below.refl wr.heap.size wr).alloc (Nat.le_refl _) (.cells #[.int .i64 x,.int .i64 y] 99)
      have HW1:=hide (SubW.below (wr':=wr.alloc (.cells #[.int .i64 x,.int .i64 y] 99)) ⟨HW.out.low,HW.out.map,hO2,HW.out.lt⟩ hal)
      have hm0:(0:Int)≤(m1:Int):=Int.natCast_nonneg _
      clear hWl hv7 hc e hO1 hO2 hW1
      by_cases hpM:(x,y)∈M
      · have HRUN:=hide (HW1.out.map.look hip (decide_eq_true hpM))
        have HS2:=hide (HS.out.seen hpM)
        clear hpM hip
        go_wp2_with (at_lookup;refine wpList_look _ rfl _ _ _ false rfl _ _ _ rfl rfl HRUN.out ?_)
        go_roundg (unvis (grid n) M*65537+m1)
        case rel=>exact ⟨m1,W1,M,HW1.out,HS2.out,Nat.le_refl _,(show _≤_ by have:=HM.out;have:=HG.out;omega),HN.out⟩
        case measure=>have:=HM.out;omega
      · have HRUN:=hide (HW1.out.map.look hip (decide_eq_false hpM))
        obtain ⟨m3,Dm,o1,o2,o3,o4⟩:=HW1.out.map
        have hm3:m3 < maxLen:=by have:=HN.out;unfold maxLen;omega
        have HO1:=hide o1
        have HO3:=hide o3
        have HO4:=hide o4
        have HIP:=hide hip
        have HPM:=hide hpM
        clear o1 o3 o4 hip hpM
        by_cases hrx:tyIn x (n:Int)=true∧tyIn y (n:Int)=true
        · obtain ⟨hx,hy⟩:=hrx
          obtain ⟨hx0,hx1⟩:=tyIn_iff.1 hx
          obtain ⟨hy0,hy1⟩:=tyIn_iff.1 hy
          obtain ⟨i,rfl⟩:=Int.eq_ofNat_of_zero_le hx0
          obtain ⟨j,rfl⟩:=Int.eq_ofNat_of_zero_le hy0
          have hex:∃ a,L[i]?=some a:=⟨_,List.getElem?_eq_getElem (by have:=HL.out;omega)⟩
          obtain ⟨xa,hxa⟩:=hex
          have hex:∃ a,L[j]?=some a:=⟨_,List.getElem?_eq_getElem (by have:=HL.out;omega)⟩
          obtain ⟨xb,hxb⟩:=hex
          have hta:tyAt (tys L) (i:Int)=some xa.t:=by rw [tyAt_nat];exact tys_at hxa
          have htb:tyAt (tys L) (j:Int)=some xb.t:=by rw [tyAt_nat];exact tys_at hxb
          have HX:=hide hx
          have HY:=hide hy
          have HTA:=hide hta
          have HTB:=hide htb
          have HXA:=hide hxa
          have HXB:=hide hxb
          have hoa:=HA.out.one xa (List.mem_of_getElem? hxa)
          have hob:=HA.out.one xb (List.mem_of_getElem? hxb)
          have hfa:xa.t.fields.length≤65535:=by
            have:=HOk.out.own (tys_at hxa)
            by_cases h4:xa.t.kind=4
            · exact (this.2.2.2.2.2 h4).2
            · rw [this.2.2.1 h4];simp
          have hfb:xb.t.fields.length≤65535:=by
            have:=HOk.out.own (tys_at hxb)
            by_cases h4:xb.t.kind=4
            · exact (this.2.2.2.2.2 h4).2
            · rw [this.2.2.1 h4];simp
          have HNI:=hide (need_int hoa hob)
          have HNF:=hide (need_few (b:=xb.t) hfa)
          have HGrid:=hide (unvis_up (grid_mem (p:=((i:Int),(j:Int))) ⟨hx0,hx1⟩ ⟨hy0,hy1⟩) HPM.out)
          have HCmp:=hide fun (w':World) (hb:Below w.heap.size w w')=>compare_any r xa xb ps rg w' ((HR.out.below hb).more hb.size) ((hoa.below hb).more hb.size) ((hob.below hb).more hb.size) (by rw [←hoa.ok.len];exact hfa) (by rw [←hob.ok.len];exact hfb)
          have hij:(i:Int) < (n:Int):=hx1
          have hjn:(j:Int) < (n:Int):=hy1
          have hi0:(0:Int)≤(i:Int):=hx0
          have hj0:(0:Int)≤(j:Int):=hy0
          obtain ⟨bl,ol,hAe,hbl,_⟩:=HA.out.at_ hxa
          subst hAe
          have hmU:∀ w7:World,(wr.alloc (.cells #[.int .i64 (i:Int),.int .i64 (j:Int)] 99)).grownBy w7 (some w.heap.size)→Below w.heap.size w w7∧wr.heap.size < w7.heap.size∧∀ w',Below w7.heap.size w7 w' →
              (Below w7.heap.size w7 w'∧w'.cell? ⟨wr.heap.size,0,none⟩=some (.int .i64 (i:Int))∧w'.cell? ⟨wr.heap.size,1,none⟩=some (.int .i64 (j:Int)) ∧
              w'.cell? ⟨bl,ol+i*5,none⟩=some (.int .i64 xa.t.kind)∧w'.cell? ⟨bl,ol+i*5+1,none⟩=some (.bool xa.t.mut_)∧w'.cell? ⟨bl,ol+i*5+2,none⟩=some (.int .i64 xa.t.region)∧w'.cell? ⟨bl,ol+i*5+3,none⟩=some (.int .i64 xa.t.elem)∧w'.cell? ⟨bl,ol+i*5+4,none⟩=some (.slice xa.A xa.n xa.c) ∧
              w'.cell? ⟨bl,ol+j*5,none⟩=some (.int .i64 xb.t.kind)∧w'.cell? ⟨bl,ol+j*5+1,none⟩=some (.bool xb.t.mut_)∧w'.cell? ⟨bl,ol+j*5+2,none⟩=some (.int .i64 xb.t.region)∧w'.cell? ⟨bl,ol+j*5+3,none⟩=some (.int .i64 xb.t.elem)∧w'.cell? ⟨bl,ol+j*5+4,none⟩=some (.slice xb.A xb.n xb.c)):=by
            intro w7 hg
            have hlow7:Below w.heap.size w w7:=HW1.out.low.grown hg HW1.out.low.size (fun k hk=>by cases hk;exact Nat.le_refl _)
            have hsz7:wr.heap.size < w7.heap.size:=by have:=hg.size;rw [World.size_alloc] at this;omega
            refine ⟨hlow7,hsz7,fun w' hb=>?_⟩
            have hA':=HA.out.below (hlow7.trans (hb.mono hlow7.size))
            obtain ⟨b1,o1,e1,_,_,a0,a1,a2,a3,a4⟩:=hA'.at_ HXA.out
            obtain ⟨rfl,rfl⟩:bl=b1∧ol=o1:=by injection e1 with e1;injection e1 with e1 e2;exact ⟨e1,e2⟩
            obtain ⟨b2,o2,e2,_,_,c0,c1,c2,c3,c4⟩:=hA'.at_ HXB.out
            obtain ⟨rfl,rfl⟩:bl=b2∧ol=o2:=by injection e2 with e2;injection e2 with e1 e2;exact ⟨e1,e2⟩
            exact ⟨hb,(hb.cell (p:=⟨wr.heap.size,0,none⟩) hsz7).trans (hg.cell (by simp [go_sem]) (fun e=>by injection e with e;have e2:wr.heap.size=w.heap.size:=e;omega)),(hb.cell (p:=⟨wr.heap.size,1,none⟩) hsz7).trans (hg.cell (by simp [go_sem]) (fun e=>by injection e with e;have e2:wr.heap.size=w.heap.size:=e;omega)),a0,a1,a2,a3,a4,c0,c1,c2,c3,c4⟩
          have HU:=hide hmU
          clear hx hy hx0 hx1 hy0 hy1 hta htb hxa hxb hoa hob hfa hfb hmU hbl
          go_wp2_with (first
            | (at_lookup;refine wpList_look _ rfl _ _ _ false rfl _ _ _ rfl rfl HRUN.out ?_)
            | (at_mapUpdate;go_must (refine wpList_mapUpdate_own _ rfl _ _ _ 95 rfl 99 4 pair_law mapPair _ w.heap.size m3 Dm rfl HO1.out hm3 _ _ (keyP ((i:Int),(j:Int))) rfl rfl (keyOf_pair HIP.out) (.lit (.bool true)) [] (plainElem_bool Tryz.underlying4 true) ?_;intro w7 hown7 hg7;obtain ⟨hb7,hs7,hU7⟩:=HU.out w7 hg7;have HO7:=hide hown7;have HG7:=hide hg7;have HB7:=hide hb7;have HU7:=hide hU7;obtain ⟨_,u0,u1,_⟩:=hU7 w7 (Below.refl _ _);clear hown7 hg7 hb7 hU7))
            | (go_at_call 73;refine (rwithin_is HX.out _).mono ?_;clear HX;rintro e w8 ⟨rfl,rfl⟩)
            | (go_at_call 73;go_must (refine (rwithin_is HY.out _).mono ?_;rintro e w8 ⟨rfl,rfl⟩)))
          go_region_held3 (fun w'=>Below w7.heap.size w7 w'∧w'.cell? ⟨wr.heap.size,0,none⟩=some (.int .i64 (i:Int))∧w'.cell? ⟨wr.heap.size,1,none⟩=some (.int .i64 (j:Int)) ∧
              w'.cell? ⟨bl,ol+i*5,none⟩=some (.int .i64 xa.t.kind)∧w'.cell? ⟨bl,ol+i*5+1,none⟩=some (.bool xa.t.mut_)∧w'.cell? ⟨bl,ol+i*5+2,none⟩=some (.int .i64 xa.t.region)∧w'.cell? ⟨bl,ol+i*5+3,none⟩=some (.int .i64 xa.t.elem)∧w'.cell? ⟨bl,ol+i*5+4,none⟩=some (.slice xa.A xa.n xa.c) ∧
              w'.cell? ⟨bl,ol+j*5,none⟩=some (.int .i64 xb.t.kind)∧w'.cell? ⟨bl,ol+j*5+1,none⟩=some (.bool xb.t.mut_)∧w'.cell? ⟨bl,ol+j*5+2,none⟩=some (.int .i64 xb.t.region)∧w'.cell? ⟨bl,ol+j*5+3,none⟩=some (.int .i64 xb.t.elem)∧w'.cell? ⟨bl,ol+j*5+4,none⟩=some (.slice xb.A xb.n xb.c))
            (first | exact HU7.out _ (by assumption) | exact HU7.out _ (Below.refl _ _) | exact HU7.out _ (Below.refl _ _).drew)
            ((go_at_call 136;go_split_ands;refine (HCmp.out _ (HB7.out.trans (Below.mono (by assumption:Below w7.heap.size w7 _) HB7.out.size))).mono ?_;rintro e w8 ⟨A8,n8,c8,rfl,hr8,hb0⟩;have hb8:=Below.trans (by assumption:Below w7.heap.size w7 _) (hb0.mono (Below.size (by assumption:Below w7.heap.size w7 _)))))
          all_goals
            go_split_ands
            have hg7b:w.heap.size+1≤g7:=hg7
            have hlow8:Below w.heap.size w w8:=HB7.out.trans (hb8.mono HB7.out.size)
            have hown7:w7.ownsRow (w.heap.size+1) 99 2 (.slice (some ⟨g7,0,none⟩) m1 c7) m1 (W1.flatMap pV):=HW1.out.own.kept HG7.out (.inr (fun e=>by injection e with e;have e2:g7=w.heap.size:=e;omega))
            have hown8:=hide (ownsRow_below hown7 hb8)
            have hpm:=hide (PrM.put (fun q hq=>HS.out.intM q hq) HO1.out o2 HO3.out HO4.out HIP.out HO7.out)
            have HB8:=hide hb8
            have HL8:=hide hlow8
            have hs78:=hb8.size
            obtain ⟨v,hv⟩:∃ v,poss (out ps rg) xa.t xb.t=v:=⟨_,rfl⟩
            rw [hv] at hr8
            rw [hv]
            have HV:=hide hv
            have HR8:=hide hr8
            clear hv hr8 hown7 hlow8
            cases v
            · have HF:=hide (HS.out.fail (not_sub_poss HTA.out HTB.out HV.out))
              go_wp2
              go_ret
              exact ⟨ret_bb HF.out,HL8.out⟩
            · have hr:=HR8.out rfl
              have hn8:(needs xa.t xb.t).length=n8:=hr.2.2.1
              have hn8f:n8≤65535:=by rw [←hn8];exact HNF.out
              have HRT:=hide hr.2.2
              have HS2:=hide (HS.out.step HTA.out HTB.out HV.out HNI.out)
              clear hr
              have hA1:m1+n8≤maxLen:=by unfold maxLen;omega
              have hA2:(m1+n8)*16≤140737488355328:=by omega
              have hA3:w.heap.size+1≤w8.heap.size:=by omega
              go_wp2_with (at_builtin;go_must (refine wpList_append_prs _ rfl _ _ 23 rfl (w.heap.size+1) 99 i0 (.agg #[.int .i64 0,.int .i64 0]) 16 Tryz.underlying23 hi hz0 hz1 hz2 rfl _ m1 _ rfl hown8.out _ _ n8 c8 (needs xa.t xb.t) rfl HRT.out hA1 hA2 hA3 ?_;intro v9 w9 hown9 hg9 hat9;have HO9:=hide hown9;have HG9:=hide hg9;clear hown9 hg9 hat9))
              go_roundg (unvis (grid n) (M++[((i:Int),(j:Int))])*65537+(m1+n8))
              case rel=>
                have hlow9:=HL8.out.grown HG9.out (by omega) (fun k hk=>by have e:some g7=some k:=hk;injection e with e;omega)
                have hGr:=HGrid.out
                have hle:unvis (grid n) (M++[((i:Int),(j:Int))])*65537+(m1+n8)≤65537000001:=Nat.le_trans (Nat.le_of_lt (ub1 hGr HM.out hn8f)) HG.out
                have hct:(M++[((i:Int),(j:Int))]).length+unvis (grid n) (M++[((i:Int),(j:Int))])≤1000000:=by rw [List.length_append,List.length_singleton];exact ub2 hGr HN.out
                refine ⟨m1+n8,W1++needs xa.t xb.t,M++[((i:Int),(j:Int))],⟨hlow9,hpm.out.block ((HG9.out.block w.heap.size (by omega) (fun e=>by injection e with e;have e2:w.heap.size=g7:=e;omega)).trans (HB8.out.block w.heap.size (by omega))),?_,by have:=HG9.out.size;omega⟩,HS2.out,hide (Nat.le_refl _),hide hle,hide hct⟩
                rw [List.flatMap_append]
                exact HO9.out
              case measure=>exact ub1 HGrid.out HM.out hn8f
        · have HF:=hide (HS.out.fail (not_sub_rng fun h=>hrx ⟨tyIn_iff.2 (by have:=h.1;rw [tys_len,HL.out] at this;exact this),tyIn_iff.2 (by have:=h.2;rw [tys_len,HL.out] at this;exact this)⟩))
          have hmU:∀ w7:World,(wr.alloc (.cells #[.int .i64 x,.int .i64 y] 99)).grownBy w7 (some w.heap.size)→w7.cell? ⟨wr.heap.size,0,none⟩=some (.int .i64 x)∧w7.cell? ⟨wr.heap.size,1,none⟩=some (.int .i64 y)∧Below w.heap.size w w7:=fun w7 hg=>
            ⟨hg.cell (by simp [go_sem]) (fun e=>by injection e with e;have e2:wr.heap.size=w.heap.size:=e;omega),hg.cell (by simp [go_sem]) (fun e=>by injection e with e;have e2:wr.heap.size=w.heap.size:=e;omega),HW1.out.low.grown hg HW1.out.low.size (fun k hk=>by cases hk;exact Nat.le_refl _)⟩
          have HU:=hide hmU
          clear hmU
          cases hx:tyIn x (n:Int)
          · have HX:=hide hx
            clear hx hrx
            go_wp2_with (first
              | (at_lookup;refine wpList_look _ rfl _ _ _ false rfl _ _ _ rfl rfl HRUN.out ?_)
              | (at_mapUpdate;go_must (refine wpList_mapUpdate_own _ rfl _ _ _ 95 rfl 99 4 pair_law mapPair _ w.heap.size m3 Dm rfl HO1.out hm3 _ _ (keyP (x,y)) rfl rfl (keyOf_pair HIP.out) (.lit (.bool true)) [] (plainElem_bool Tryz.underlying4 true) ?_;intro w7 hown7 hg7;obtain ⟨u0,u1,hb7⟩:=HU.out w7 hg7;clear hown7 hg7))
              | (go_at_call 73;go_must (refine (rwithin_is HX.out _).mono ?_;rintro e w8 ⟨rfl,rfl⟩)))
            go_ret
            exact ⟨ret_bb HF.out,hb7⟩
          · have hy : tyIn y (n : Int) = false := by
              cases e:tyIn y (n:Int)
              · rfl
              · exact absurd ⟨hx,e⟩ hrx
            have HX:=hide hx
            have HY:=hide hy
            clear hx hy hrx
            go_wp2_with (first
              | (at_lookup;refine wpList_look _ rfl _ _ _ false rfl _ _ _ rfl rfl HRUN.out ?_)
              | (at_mapUpdate;go_must (refine wpList_mapUpdate_own _ rfl _ _ _ 95 rfl 99 4 pair_law mapPair _ w.heap.size m3 Dm rfl HO1.out hm3 _ _ (keyP (x,y)) rfl rfl (keyOf_pair HIP.out) (.lit (.bool true)) [] (plainElem_bool Tryz.underlying4 true) ?_;intro w7 hown7 hg7;obtain ⟨u0,u1,hb7⟩:=HU.out w7 hg7;clear hown7 hg7))
              | (go_at_call 73;refine (rwithin_is HX.out _).mono ?_;clear HX;rintro e w8 ⟨rfl,rfl⟩)
              | (go_at_call 73;go_must (refine (rwithin_is HY.out _).mono ?_;rintro e w8 ⟨rfl,rfl⟩)))
            go_ret
            exact ⟨ret_bb HF.out,hb7⟩
theorem Subtype_is {r:Nat} {ps:List Pr} {rg rg0:Int} {A:Option Addr} {n c:Nat} {L:List TyW} {s t:Int} {v:Bool} (h:sub (out ps rg) (tys L) s t=v) (w:World) (hR:Rel w w.heap.size r ps rg) (hA:Typs w w.heap.size A n L) (hn:n≤1000) (hok:TyOk (tys L) rg0) (hs:IntR s) (ht:IntR t) :
  Calls Tryz.prog 132 #[.pointer (some ⟨r,0,none⟩),.slice A n c,.int .i64 s,.int .i64 t] w fun e w'=>e=.returned (.bool v)∧Below w.heap.size w w':=h ▸ Subtype_any r ps rg rg0 A n c L s t w hR hA hn hok hs ht
end Go.Proofs.YtfgacmgjpikgaaaGreatDoor
