/- Part 25 of the contracts and their mathematics. -/
import Derived.Test.YteeemjmohjkdpaaGreatDoorQ23
import Derived.BigRegion
set_option linter.unusedVariables false
set_option linter.unusedSimpArgs false
set_option maxRecDepth 100000
set_option maxHeartbeats 8000000
namespace Go.Proofs.YteeemjmohjkdpaaGreatDoor
open Go.RowKit
def cSite (s:Nat×Bool):List Value:=[.int .i64 (s.1:Int),.bool s.2]
theorem cSite_len (s:Nat×Bool):(cSite s).length=2:=rfl
theorem cSite_one (s:Nat×Bool):∀ u∈cSite s,u.oneCell'=true:=by intro u hu;simp only [cSite,List.mem_cons,List.not_mem_nil,or_false] at hu;rcases hu with rfl | rfl <;> rfl
abbrev SitW (w:World) (base m:Nat) (S:Int→SlW (Nat×Bool)) (K:List Int):Prop:=BagW w base m 129 2 cSite S K
theorem sitT:Tryz.prog.underlying 88=some (.map 3 87):=Tryz.underlying88
theorem zeroSit (w:World):(zeroValue 87).run Tryz.prog w=.ok (.slice none 0 0) w:=by kernel_rfl
theorem infoSite:(Tryz.prog.info? 129).map (fun i=>(i.zero,i.size,i.bytes))=some (some (.agg #[.int .i64 0,.bool false]),2,16):=by kernel_rfl
def addS (p:Nat) (U:List Int) (D:Option Int) (q:Int):List (Nat×Bool):=if q∈U then [(p,true)] else if D=some q then [(p,false)] else []
theorem SitW.more {w w1 w2 w3:World} {base m p:Nat} {S:Int→SlW (Nat×Bool)} {K:List Int} {q:Int} {b:Bool} {g c:Nat} {Dm:DataW Value} (h:SitW w base m S K) (hb:Below w.heap.size w w1) (hg:w1.grownBy w2 (S q).val.ownBlock)
  (hown:w2.ownsRow base 129 2 (.slice (some ⟨g,0,none⟩) ((S q).n+1) c) ((S q).n+1) ((S q).L.flatMap cSite++cSite (p,b))) (hat:(S q).val.ownBlock=some g∨g=w1.heap.size) (hq:IntR q)
  (h1:w2.ownsMap Tryz.prog 3 heldR m K.length Dm) (h2:∀ q,IntR q→(Maps.has Dm (.int .i64 q)=true↔q∈K)) (h3:∀ q,Maps.has Dm (.int .i64 q)=true→∀ z,Dm.atKey (.int .i64 q) z=.held (S q).val)
  (h8:w3.ownsMap Tryz.prog 3 heldR m (K.length+1) (Dm.put (.int .i64 q) (.held (.slice (some ⟨g,0,none⟩) ((S q).n+1) c)))) (hg8:w2.grownBy w3 (some m)) (hbm:base≤m) (hbw:base≤w.heap.size) :
  ∃ S',SitW w3 base m S' (K++[q])∧(∀ y,(S' y).L=(S y).L++if y=q then [(p,b)] else [])∧KT 129 w w3∧Below base w w3∧∀ (b':Nat) (o:Obj),b'≠m→w.heap[b']?=some o→o.isCells=false→w3.heap[b']?=some o:=by
 obtain ⟨r1,r2,r3⟩:=BagW.stored (s':=⟨some ⟨g,0,none⟩,(S q).n+1,c,(S q).L++[(p,b)]⟩) h hb hg (by rw [List.flatMap_append];simpa using hown) (hat.elim (fun e=>.inl e.symm) (fun e=>.inr (by rw [e];rfl))) hq h1 h2 h3 h8 hg8
 refine ⟨_,r1,fun y=>?_,r2,r3 base (Nat.le_refl _) hbm hbw,fun b' o hb' ho hc=>?_⟩
 rotate_left
 ·
  have hbl:=(Array.getElem?_eq_some_iff.1 ho).1
  have o1:=(hb.block b' hbl).trans ho
  have o2:=(hg.block b' (Array.getElem?_eq_some_iff.1 o1).1 fun e=>by
   obtain ⟨cs,hcs⟩:=own_cells (h.row q) e.symm
   rw [ho] at hcs
   injection hcs with hcs
   subst hcs
   cases hc).trans o1
  exact (hg8.block b' (Array.getElem?_eq_some_iff.1 o2).1 fun e=>by injection e with e;exact hb' e).trans o2
 unfold updS
 by_cases e:y=q
 ·
  subst e
  rw [if_pos rfl,if_pos rfl]
 ·
  rw [if_neg e,if_neg e,List.append_nil]
theorem SetW.kept {w w':World} {b:Nat} {L:List Int} (h:SetW w b L) (hb:∀ o:Obj,w.heap[b]?=some o→o.isCells=false→w'.heap[b]?=some o):SetW w' b L:=by
 obtain ⟨Dm,h1,h2⟩:=h.own
 refine ⟨⟨Dm,owns_block h1 ?_,h2⟩,h.rng⟩
 obtain ⟨es,clock,h3,_⟩:=h1
 exact (hb _ h3 rfl).trans h3.symm
theorem SitW.len {w:World} {base m:Nat} {S:Int→SlW (Nat×Bool)} {K:List Int} (h:SitW w base m S K) (q:Int):(S q).L.length=(S q).n:=by
 have h1:=(h.row q).1
 rw [flatMap_len cSite_len] at h1
 omega
theorem FNote_any (fb m base b p:Nat) (S:Int→SlW (Nat×Bool)) (K U:List Int) (D:Option Int) (cs:List Value) (w:World) (hF:Bx w fb cs 90) (hc:cs[2]?=some (.map (some m))) (hS:SitW w base m S K) (hU:SetW w b U) (hbm:b≠m) (hbase:base≤m)
    (hUn:U.length≤1000000) (hKn:K.length≤1000000000) (hp:p≤1000000000) (hSn:∀ q,(S q).n≤1000000000) (hD:∀ d,D=some d→IntR d) :
    Calls Tryz.prog 68 #[.pointer (some ⟨fb,0,none⟩),.int .i64 (p:Int),.agg #[.map (some b),.int .i64 (D.getD 0),.bool D.isSome]] w fun e w'=>e=.returned (.tuple #[])∧(∃ S' K',SitW w' base m S' K'∧(∀ q,(S' q).L=(S q).L++addS p U D q)∧(∀ q,q∈K'↔q∈K∨q∈U∨D=some q)∧K'.length≤K.length+U.length+1)∧KT 129 w w'∧Below base w w':=by
  obtain ⟨d,hd⟩:∃ d,D.getD 0=d:=⟨_,rfl⟩
  obtain ⟨f,hf⟩:∃ f,D.isSome=f:=⟨_,rfl⟩
  rw [hd,hf]
  have hbw:base≤w.heap.size:=by have:=hS.lt;omega
  have HF:=hide hF
  have HS:=hide hS
  have HU:=hide hU
  have HDD:=hide (And.intro hd hf)
  have HDR:=hide hD
  have HSN:=hide hSn
  have hb1:=below1 w (.cells #[.map (some b),.int .i64 d,.bool f] 77)
  have hbx:=Bx.new w [.map (some b),.int .i64 d,.bool f] 77
  have HB1:=hide hb1
  have HE:=hide hbx
  have HSO:=hide (SortedB_set (hU.below hb1) (Nat.le_trans hUn (by decide)))
  obtain ⟨V,hV⟩:∃ V,setI U=V:=⟨_,rfl⟩
  have HVM:=hide (show ∀ q,q∈V↔q∈U from fun q=>hV ▸ setI_mem)
  have HVA:=hide (show V.Pairwise (· < ·) from hV ▸ setI_asc U)
  have hVn:V.length≤U.length:=hV ▸ setI_len U
  have HVR:=hide (show ∀ q∈V,IntR q from fun q hq=>hU.rng q ((HVM.out q).1 hq))
  rw [hV] at HSO
  have c0:=hbx.cell (j:=0) rfl
  have HC:=hide hc
  obtain ⟨n,hn⟩:∃ n,V.length=n:=⟨_,rfl⟩
  have HN:=hide hn
  clear hF hS hU hd hf hD hSn hb1 hbx hV hc
  go_enter Tryz.func68,Tryz.ntmps68
  go_wp2_with fail
  refine HSO.out.mono ?_
  rintro e w1 ⟨A1,c1,rfl,ho1,hb2⟩
  rw [hn] at ho1 ⊢
  have HV1:=hide ho1
  have hsz1:=hb2.size
  have HB2:=hide (HB1.out.trans (hb2.mono HB1.out.size))
  have HE2:=hide (HE.out.below hb2)
  have HF2:=hide ((HF.out.below HB1.out).below hb2)
  have HS2:=hide ((HS.out.below HB1.out).below hb2)
  have HU2:=hide ((HU.out.below HB1.out).below hb2)
  have HW1:=hide (Below.refl w1.heap.size w1)
  rw [World.size_alloc] at hsz1
  clear ho1 hb2 c0
  go_wp2
  go_loopw [12] (fun i wr=>∃ (j:Nat) (S':Int→SlW (Nat×Bool)) (K':List Int),i=.int .i64 (j:Int)∧j≤n∧Hid (SitW wr base m S' K')∧Hid (∀ q,(S' q).L=(S q).L++if q∈V.take j then [(p,true)] else [])∧Hid (∀ q,q∈K'↔q∈K∨q∈V.take j)∧Hid (K'.length≤K.length+j)∧Hid (KT 129 w1 wr)∧Hid (Below base w1 wr)∧Hid (SetW wr b U)) (fun i _=>n - (intOf i).toNat)
  case atStart=>exact ⟨0,S,K,rfl,Nat.zero_le _,HS2,hide (fun q=>by simp),hide (fun q=>by simp),hide (Nat.le_refl _),hide (KT.of_b (Below.refl _ _)),hide (Below.refl _ _),HU2⟩
  case round=>
    obtain ⟨j,S1,K1,rfl,hj,HSr,HSL,HKM,HKL,HKT,HBr,HUr⟩:=hrel
    have hwr:=HBr.out.size
    by_cases hlt:j < n
    · have hlt':(j:Int) < (n:Int):=by omega
      obtain ⟨q,hq⟩:∃ q,V[j]?=some q:=⟨_,List.getElem?_eq_getElem (by rw [HN.out];exact hlt)⟩
      have hqV:=List.mem_of_getElem? hq
      have HQ:=hide (HVR.out q hqV)
      have HTK:=hide (show V.take (j+1)=V.take j++[q] by rw [List.take_add_one,hq];rfl)
      have HNQ:=hide (show q∉V.take j from fun hm=>by
        obtain ⟨k,hk⟩:=List.getElem?_of_mem hm
        rw [List.getElem?_take] at hk
        split at hk
        · have e:=asc_injR HVA.out hk hq
          omega
        · cases hk)
      obtain ⟨gv,zv,hgA,_,hgc⟩:=(Cells.of_own cInt_len (by decide) (own_kt HV1.out HKT.out (by decide))).at_ hq
      subst hgA
      have c0:wr.cell? ⟨gv,zv+j,none⟩=some (.int .i64 q):=by simpa using hgc 0 _ rfl
      have HFr:=hide (HF2.out.kt HKT.out (by decide))
      have HFD:=hide (HFr.out.below ((Below.refl wr.heap.size wr).drew))
      have HSD:=hide (HSr.out.below ((Below.refl wr.heap.size wr).drew))
      obtain ⟨x,hx⟩:∃ x,S1 q=x:=⟨_,rfl⟩
      obtain ⟨sA,sn,sc,sL⟩:=x
      have HX:=hide hx
      have hsl:sL.length=sn:=by have:=HSr.out.len q;rw [hx] at this;exact this
      have hsm:sn≤1000000001:=by
        have h1:=HSL.out q
        rw [hx,if_neg HNQ.out,List.append_nil] at h1
        have h2:sL=(S q).L:=h1
        have h3:=HS.out.len q
        have h4:=HSN.out q
        have h5:=congrArg List.length h2
        omega
      have HSDr:=HSr
      have hkl:K1.length < maxLen:=by have:=HKL.out;unfold maxLen;omega
      clear hq hqV hgc hx hsl
      go_wp2
      have hcell:=(HFr.out.cell HC.out:wr.cell? ⟨fb,2,none⟩=some (.map (some m)))
      refine wp_region_held_drew (S:=(fun w'=>w'.cell? ⟨fb,2,none⟩=some (.map (some m)))) (by kernel_rfl) (HFD.out.cell HC.out) (fun hHeld=>?_)
      have HDB:=hide (show Below wr.heap.size wr wr.drew from (Below.refl _ _).drew)
      obtain ⟨wd,hwd⟩:∃ wd,wd=wr.drew:=⟨_,rfl⟩
      rw [←hwd] at HDB HFD HSD hHeld ⊢
      clear hwd c0 hcell
      have hb3:=below1 wd (.cells #[.int .i64 (p:Int),.bool true] 129)
      have hlk:=BagW.look sitT (zeroSit wd) HSD.out HQ.out
      have hlk2:=BagW.look sitT (zeroSit _) (HSD.out.below hb3) HQ.out
      rw [HX.out] at hlk hlk2
      have HFA:=hide (HFD.out.below hb3)
      have HSA:=hide (HSD.out.below hb3)
      have HLA:=hide (show ∀ j u,(cSite (p,true))[j]?=some u→(wd.alloc (.cells #[.int .i64 (p:Int),.bool true] 129)).cell? ((⟨wd.heap.size,0,none⟩:Addr).add j)=some u from World.news_of_block (heap_alloc_new wd (.cells #[.int .i64 (p:Int),.bool true] 129)))
      have HAB:=hide (HDB.out.trans (hb3.mono HDB.out.size))
      have hsza:(wd.alloc (.cells #[.int .i64 (p:Int),.bool true] 129)).heap.size=wd.heap.size+1:=by simp
      have hszd:=HDB.out.size
      have hwr':base≤wr.heap.size:=by omega
      clear hb3
      obtain ⟨i0,hi,hz0,hz1,hz2⟩:=info_parts infoSite
      refine planS [0,1,2,3,4,5,6,7,8,9,11,12] ?_
      repeat' (first | refine pT hHeld rfl ?_ | refine pS hHeld rfl ?_)
      refine planE ?_
      refine wpAnyH_ready (rs:=[10,13]) (by kernel_rfl) (by simp) ?_
      refine AllReadyH.cons rfl (fun KZ hK=>?_) (AllReadyH.cons rfl (fun KZ hK=>?_) AllReadyH.nil)
      case' refine_1=>
        go_simp
        refine hK.out _ _ hHeld (fun hHeld=>?_)
        clear hK KZ
        try simp only [Act.put,List.setIfInBounds_toArray,List.set_cons_zero,List.set_cons_succ]
        refine pC 13 rfl (fun KZ hK=>?_)
        go_simp
        refine hK.out _ _ (HFA.out.cell HC.out) (fun hHeld=>?_)
        clear hK KZ
      case' refine_2=>
        go_simp
        refine hK.out _ _ (HFA.out.cell HC.out) (fun hHeld=>?_)
        clear hK KZ
        try simp only [Act.put,List.setIfInBounds_toArray,List.set_cons_zero,List.set_cons_succ]
        refine pC 10 rfl (fun KZ hK=>?_)
        go_simp
        refine hK.out _ _ (HFA.out.cell HC.out) (fun hHeld=>?_)
        clear hK KZ
      all_goals
        try simp only [Act.put,List.setIfInBounds_toArray,List.set_cons_zero,List.set_cons_succ]
        refine pC 14 rfl (fun KZ hK=>?_)
        refine step_append_lies (wd.alloc (.cells #[.int .i64 (p:Int),.bool true] 129)) rfl (.tmp 26) (.tmp 29) 87 rfl base 129 i0 (.agg #[.int .i64 0,.bool false]) 2 16 Tryz.underlying87 hi hz0 hz1 hz2 rfl (by decide) (.slice sA sn sc) sn (sL.flatMap cSite) rfl (by have h:=HSA.out.row q;rw [HX.out] at h;exact h) ⟨wd.heap.size,0,none⟩ 1 1 (cSite (p,true)) rfl rfl HLA.out (cSite_one _) (by decide) (by unfold maxLen;omega) (by omega) (by rw [hsza];omega) _ rfl ?_
        intro g cap w7 hown7 hg7 hat7 hl7
        obtain ⟨Dm,m1,m2,m3⟩:=BagW.mid (w6:=(wd.alloc (.cells #[.int .i64 (p:Int),.bool true] 129))) (q:=q) HSA.out (Below.refl _ _) (by rw [HX.out];exact hg7)
        have HF7:=hide (HFA.out.kt (KT.of_grown hg7 (by have h:=HSA.out.row q;rw [HX.out] at h;exact h)) (by decide))
        refine hK.out _ _ (HF7.out.cell HC.out) (fun hHeld=>?_)
        clear hK KZ
        try simp only [Act.put,List.setIfInBounds_toArray,List.set_cons_zero,List.set_cons_succ]
        refine pC 15 rfl (fun KZ hK=>?_)
        refine step_mapUpdate rfl _ _ _ 88 rfl 3 87 intK sitT heldR m K1.length Dm rfl m1 hkl (.int .i64 q) (.slice (some ⟨g,0,none⟩) (sn+1) cap) (.int .i64 q) rfl rfl (keyOf_i HQ.out) (.held (.slice (some ⟨g,0,none⟩) (sn+1) cap)) [] rfl ?_
        intro w8 hown8 hg8
        obtain ⟨S2,r1,r2,r3,r4,r5⟩:=SitW.more (p:=p) (b:=true) (q:=q) (g:=g) (c:=cap) HSA.out (Below.refl _ _) (by rw [HX.out];exact hg7) (by rw [HX.out];exact hown7) (by rw [HX.out];exact hat7) HQ.out m1 m2 m3 (by rw [HX.out];exact hown8) hg8 hbase (by rw [hsza];omega)
        have R1:=hide r1
        have R2:=hide r2
        have HKT8:=hide (HKT.out.tr ((KT.of_b HAB.out).tr r3))
        have HBr8:=hide (HBr.out.trans ((HAB.out.mono hwr').trans r4))
        have HU8:=hide (SetW.kept (HUr.out.below HAB.out) fun o ho hc=>r5 b o hbm ho hc)
        have HF8:=hide (HFA.out.kt r3 (by decide))
        refine hK.out _ _ (HF8.out.cell HC.out) (fun hHeld=>?_)
        clear hK KZ hown7 hg7 hat7 hl7 m1 m2 m3 hown8 hg8 r1 r2 r3 r4 r5
        refine wpAnyH_done (by kernel_rfl) ?_ _
        go_wp2
        go_roundw
        case rel=>
          refine ⟨j+1,S2,K1++[q],by go_num,by omega,R1,hide fun y=>?_,hide fun y=>?_,hide (by have:=HKL.out;simp;omega),HKT8,HBr8,HU8⟩
          · rw [R2.out y,HSL.out y,HTK.out]
            by_cases e:y=q
            · subst e
              rw [if_neg HNQ.out,if_pos rfl,if_pos (by simp)]
              simp
            · rw [if_neg e,List.append_nil]
              congr 1
              by_cases e2:y∈V.take j
              · rw [if_pos e2,if_pos (List.mem_append.2 (.inl e2))]
              · rw [if_neg e2,if_neg (fun h=>(List.mem_append.1 h).elim e2 (fun h=>e (List.mem_singleton.1 h)))]
          · rw [HTK.out,List.mem_append,List.mem_append,HKM.out y]
            exact ⟨fun h=>h.elim (fun h=>h.imp id .inl) (fun h=>.inr (.inr h)),fun h=>h.elim (fun h=>.inl (.inl h)) fun h=>h.elim (fun h=>.inl (.inr h)) .inr⟩
        case measure=>simp [intOf];omega
    · have hlt':¬(j:Int) < (n:Int):=by omega
      obtain rfl:n=j:=by omega
      have HTV:=hide (show V.take n=V from List.take_of_length_le (Nat.le_of_eq HN.out))
      have HEr:=hide (HE2.out.kt HKT.out (by decide))
      have e0:=HEr.out.cell (j:=0) rfl
      have e1:=HEr.out.cell (j:=1) rfl
      have e2:=HEr.out.cell (j:=2) rfl
      have HBW:=hide ((HB2.out.mono hbw).trans HBr.out)
      have HKW:=hide ((KT.of_b HB2.out).tr HKT.out)
      rw [HTV.out] at HSL HKM
      have HSV:=hide (show ∀ q,(S1 q).L=(S q).L++if q∈U then [(p,true)] else [] from fun q=>by
        rw [HSL.out q]
        by_cases e:q∈V
        · rw [if_pos e,if_pos ((HVM.out q).1 e)]
        · rw [if_neg e,if_neg fun h=>e ((HVM.out q).2 h)])
      have HKV:=hide (show ∀ q,q∈K1↔q∈K∨q∈U from fun q=>by rw [HKM.out q,HVM.out q])
      by_cases hno:D=none∨∃ z,D=some z∧z∈U
      · have HEN := hide (show SitW wr base m S1 K1 ∧ (∀ q, (S1 q).L = (S q).L ++ addS p U D q) ∧ (∀ q, q ∈ K1 ↔ q ∈ K ∨ q ∈ U ∨ D = some q) ∧ K1.length ≤ K.length + U.length + 1 from ⟨HSr.out, fun q => by
          rw [HSV.out q]
          congr 1
          unfold addS
          by_cases e:q∈U
          · rw [if_pos e,if_pos e]
          · rw [if_neg e,if_neg e,if_neg]
            rintro h
            rcases hno with h1 | ⟨z,h1,h2⟩
            · rw [h1] at h;cases h
            · rw [h1] at h;injection h with h;exact e (h ▸ h2),fun q=>by
          rw [HKV.out q]
          refine ⟨fun h=>h.imp id .inl,fun h=>h.imp id fun h=>h.elim id fun h=>?_⟩
          rcases hno with h1 | ⟨z,h1,h2⟩
          · rw [h1] at h;cases h
          · rw [h1] at h;injection h with h;exact h ▸ h2,by have:=HKL.out;omega⟩)
        rcases hno with h1 | ⟨z,h1,h2⟩
        · obtain rfl:f=false:=by rw [←HDD.out.2,h1];rfl
          clear h1
          go_wp2
          go_end0
          exact ⟨rfl,⟨S1,K1,HEN.out⟩,HKW.out,HBW.out⟩
        · obtain rfl:f=true:=by rw [←HDD.out.2,h1];rfl
          obtain rfl:z=d:=by rw [←HDD.out.1,h1];rfl
          have hlk:=HUr.out.look setT (HDR.out z h1)
          rw [decide_eq_true h2] at hlk
          clear h1 h2
          go_wp2
          go_end0
          exact ⟨rfl,⟨S1,K1,HEN.out⟩,HKW.out,HBW.out⟩
      · obtain ⟨q, hq⟩ : ∃ q, D = some q := by
          cases D with
          | none=>exact absurd (.inl rfl) hno
          | some z=>exact ⟨z,rfl⟩
        have hqU:q∉U:=fun h=>hno (.inr ⟨q,hq,h⟩)
        obtain rfl:f=true:=by rw [←HDD.out.2,hq];rfl
        obtain rfl:q=d:=by rw [←HDD.out.1,hq];rfl
        have HQ:=hide (HDR.out q hq)
        have hlk0:=HUr.out.look setT HQ.out
        rw [decide_eq_false hqU] at hlk0
        have HFr:=hide (HF2.out.kt HKT.out (by decide))
        have HFD:=hide (HFr.out.below ((Below.refl wr.heap.size wr).drew))
        have HED:=hide (HEr.out.below ((Below.refl wr.heap.size wr).drew))
        have HSD:=hide (HSr.out.below ((Below.refl wr.heap.size wr).drew))
        obtain ⟨x,hx⟩:∃ x,S1 q=x:=⟨_,rfl⟩
        obtain ⟨sA,sn,sc,sL⟩:=x
        have HX:=hide hx
        have hsl:sL.length=sn:=by have:=HSr.out.len q;rw [hx] at this;exact this
        have hsm:sn≤1000000001:=by
          have h1:=HSV.out q
          rw [hx,if_neg hqU,List.append_nil] at h1
          have h2:sL=(S q).L:=h1
          have h3:=HS.out.len q
          have h4:=HSN.out q
          have h5:=congrArg List.length h2
          omega
        have hkl:K1.length < maxLen:=by have:=HKL.out;unfold maxLen;omega
        have HQD:=hide hq
        have HQU:=hide hqU
        clear hx hsl hno hq hqU
        go_wp2
        refine wp_region_held_drew (S:=(fun w'=>w'.cell? ⟨fb,2,none⟩=some (.map (some m))∧w'.cell? ⟨w.heap.size,1,none⟩=some (.int .i64 q))) (by kernel_rfl) ⟨HFD.out.cell HC.out,HED.out.cell (j:=1) rfl⟩ (fun hHeld=>?_)
        have HDB:=hide (show Below wr.heap.size wr wr.drew from (Below.refl _ _).drew)
        obtain ⟨wd,hwd⟩:∃ wd,wd=wr.drew:=⟨_,rfl⟩
        rw [←hwd] at HDB HFD HED HSD hHeld ⊢
        clear hwd hlk0 e0 e1 e2
        have hb3:=below1 wd (.cells #[.int .i64 (p:Int),.bool false] 129)
        have hlk:=BagW.look sitT (zeroSit wd) HSD.out HQ.out
        have hlk2:=BagW.look sitT (zeroSit _) (HSD.out.below hb3) HQ.out
        rw [HX.out] at hlk hlk2
        have HFA:=hide (HFD.out.below hb3)
        have HEA:=hide (HED.out.below hb3)
        have HSA:=hide (HSD.out.below hb3)
        have HLA:=hide (show ∀ j u,(cSite (p,false))[j]?=some u→(wd.alloc (.cells #[.int .i64 (p:Int),.bool false] 129)).cell? ((⟨wd.heap.size,0,none⟩:Addr).add j)=some u from World.news_of_block (heap_alloc_new wd (.cells #[.int .i64 (p:Int),.bool false] 129)))
        have HAB:=hide (HDB.out.trans (hb3.mono HDB.out.size))
        have hsza:(wd.alloc (.cells #[.int .i64 (p:Int),.bool false] 129)).heap.size=wd.heap.size+1:=by simp
        have hszd:=HDB.out.size
        have hwr':base≤wr.heap.size:=by omega
        have HSB:=hide (show (wd.alloc (.cells #[.int .i64 (p:Int),.bool false] 129)).cell? ⟨fb,2,none⟩=some (.map (some m))∧(wd.alloc (.cells #[.int .i64 (p:Int),.bool false] 129)).cell? ⟨w.heap.size,1,none⟩=some (.int .i64 q) from ⟨HFA.out.cell HC.out,HEA.out.cell (j:=1) rfl⟩)
        clear hb3
        obtain ⟨i0,hi,hz0,hz1,hz2⟩:=info_parts infoSite
        refine planS [0,1,2,3,4,5,6,7,8,9,10,11,13,14] ?_
        repeat' (first | refine pT hHeld rfl ?_ | refine pS hHeld rfl ?_)
        refine planE ?_
        refine wpAnyH_ready (rs:=[12,15]) (by kernel_rfl) (by simp) ?_
        refine AllReadyH.cons rfl (fun KZ hK=>?_) (AllReadyH.cons rfl (fun KZ hK=>?_) AllReadyH.nil)
        case' refine_1=>
          go_simp
          refine hK.out _ _ hHeld (fun hHeld=>?_)
          clear hK KZ
          try simp only [Act.put,List.setIfInBounds_toArray,List.set_cons_zero,List.set_cons_succ]
          refine pC 15 rfl (fun KZ hK=>?_)
          go_simp
          refine hK.out _ _ HSB.out (fun hHeld=>?_)
          clear hK KZ
        case' refine_2=>
          go_simp
          refine hK.out _ _ HSB.out (fun hHeld=>?_)
          clear hK KZ
          try simp only [Act.put,List.setIfInBounds_toArray,List.set_cons_zero,List.set_cons_succ]
          refine pC 12 rfl (fun KZ hK=>?_)
          go_simp
          refine hK.out _ _ HSB.out (fun hHeld=>?_)
          clear hK KZ
        all_goals
          try simp only [Act.put,List.setIfInBounds_toArray,List.set_cons_zero,List.set_cons_succ]
          refine pC 16 rfl (fun KZ hK=>?_)
          refine step_append_lies (wd.alloc (.cells #[.int .i64 (p:Int),.bool false] 129)) rfl (.tmp 54) (.tmp 57) 87 rfl base 129 i0 (.agg #[.int .i64 0,.bool false]) 2 16 Tryz.underlying87 hi hz0 hz1 hz2 rfl (by decide) (.slice sA sn sc) sn (sL.flatMap cSite) rfl (by have h:=HSA.out.row q;rw [HX.out] at h;exact h) ⟨wd.heap.size,0,none⟩ 1 1 (cSite (p,false)) rfl rfl HLA.out (cSite_one _) (by decide) (by unfold maxLen;omega) (by omega) (by rw [hsza];omega) _ rfl ?_
          intro g cap w7 hown7 hg7 hat7 hl7
          obtain ⟨Dm,m1,m2,m3⟩:=BagW.mid (w6:=(wd.alloc (.cells #[.int .i64 (p:Int),.bool false] 129))) (q:=q) HSA.out (Below.refl _ _) (by rw [HX.out];exact hg7)
          have hkt7:KT 129 (wd.alloc (.cells #[.int .i64 (p:Int),.bool false] 129)) w7:=KT.of_grown hg7 (by have h:=HSA.out.row q;rw [HX.out] at h;exact h)
          refine hK.out _ _ ⟨(HFA.out.kt hkt7 (by decide)).cell HC.out,(HEA.out.kt hkt7 (by decide)).cell (j:=1) rfl⟩ (fun hHeld=>?_)
          clear hK KZ
          try simp only [Act.put,List.setIfInBounds_toArray,List.set_cons_zero,List.set_cons_succ]
          refine pC 17 rfl (fun KZ hK=>?_)
          refine step_mapUpdate rfl _ _ _ 88 rfl 3 87 intK sitT heldR m K1.length Dm rfl m1 hkl (.int .i64 q) (.slice (some ⟨g,0,none⟩) (sn+1) cap) (.int .i64 q) rfl rfl (keyOf_i HQ.out) (.held (.slice (some ⟨g,0,none⟩) (sn+1) cap)) [] rfl ?_
          intro w8 hown8 hg8
          obtain ⟨S2,r1,r2,r3,r4,r5⟩:=SitW.more (p:=p) (b:=false) (q:=q) (g:=g) (c:=cap) HSA.out (Below.refl _ _) (by rw [HX.out];exact hg7) (by rw [HX.out];exact hown7) (by rw [HX.out];exact hat7) HQ.out m1 m2 m3 (by rw [HX.out];exact hown8) hg8 hbase (by rw [hsza];omega)
          have R1:=hide r1
          have R2:=hide r2
          have HKT8:=hide (HKW.out.tr ((KT.of_b HAB.out).tr r3))
          have HBr8:=hide (HBW.out.trans ((HAB.out.mono hwr').trans r4))
          refine hK.out _ _ ⟨(HFA.out.kt r3 (by decide)).cell HC.out,(HEA.out.kt r3 (by decide)).cell (j:=1) rfl⟩ (fun hHeld=>?_)
          clear hK KZ hown7 hg7 hat7 hl7 m1 m2 m3 hown8 hg8 r1 r2 r3 r4 r5
          refine wpAnyH_done (by kernel_rfl) ?_ _
          go_wp2
          go_end0
          refine ⟨rfl,⟨S2,K1++[q],R1.out,fun y=>?_,fun y=>?_,by have:=HKL.out;simp;omega⟩,HKT8.out,HBr8.out⟩
          · rw [R2.out y,HSV.out y]
            unfold addS
            rw [HQD.out]
            by_cases e:y=q
            · subst e
              rw [if_neg HQU.out,if_neg HQU.out,if_pos rfl,if_pos rfl]
              simp
            · rw [if_neg e,List.append_nil,if_neg (fun h:some q=some y=>e (by injection h with h;exact h.symm))]
          · rw [List.mem_append,HKV.out y,HQD.out]
            exact ⟨fun h=>h.elim (fun h=>h.imp id .inl) (fun h=>.inr (.inr (by rw [List.mem_singleton.1 h]))),fun h=>h.elim (fun h=>.inl (.inl h)) fun h=>h.elim (fun h=>.inl (.inr h)) fun h=>.inr (by injection h with h;simp [h])⟩
theorem stI_asc {l:List BkV} {n:Nat} (h:n≤l.length+1):(stI l n).Pairwise (· < ·):=by
 unfold stI
 rw [List.pairwise_map,List.pairwise_iff_getElem]
 intro i j hi hj hij
 rw [List.length_range] at hi hj
 rw [List.getElem_range,List.getElem_range]
 have:=ptFirst_lt (l:=l) hij (by omega)
 omega
theorem stI_end {l:List BkV} {p i k:Nat} (h:ptLoc l p=some (i,k)) (hk:0 < k):(stI l (l.length+1)).countP (· < (p:Int))=i+1∧(stI l (l.length+1)).contains (p:Int)=false:=by
 obtain ⟨b,hb,hk2,rfl⟩:=ptLoc_some h
 have hil:=(List.getElem?_eq_some_iff.1 hb).1
 have hup:=ptFirst_up hb
 unfold ptN at hup
 have hlt:∀ j,j < l.length+1→((ptFirst l j:Int) < ((ptFirst l i+k:Nat):Int)↔j < i+1):=fun j hj=>by
  constructor
  ·
   intro h1
   refine Decidable.by_contra fun hn=>?_
   have:=ptFirst_mono l (show i+1≤j by omega)
   omega
  ·
   intro h1
   have:=ptFirst_mono l (show j≤i by omega)
   omega
 constructor
 ·
  unfold stI
  rw [List.countP_map]
  have e:List.range (l.length+1)=List.range (i+1)++List.range' (i+1) (l.length - i):=by
   rw [List.range_eq_range',List.range_eq_range',show l.length+1=(i+1)+(l.length - i) by omega,← List.range'_append_1]
   simp
  rw [e,List.countP_append]
  have h1:(List.range (i+1)).countP ((fun x:Int=>decide (x < ((ptFirst l i+k:Nat):Int))) ∘ fun i=>(ptFirst l i:Int))=i+1:=by
   rw [List.countP_eq_length.2,List.length_range]
   intro j hj
   have:=List.mem_range.1 hj
   exact decide_eq_true ((hlt j (by omega)).2 this)
  have h2:(List.range' (i+1) (l.length - i)).countP ((fun x:Int=>decide (x < ((ptFirst l i+k:Nat):Int))) ∘ fun i=>(ptFirst l i:Int))=0:=by
   rw [List.countP_eq_zero]
   intro j hj
   obtain ⟨m,hm,rfl⟩:=List.mem_range'.1 hj
   have h3:=hlt (i+1+1*m) (by omega)
   intro h4
   have:=h3.1 (of_decide_eq_true h4)
   omega
  omega
 ·
  rw [←Bool.not_eq_true,List.contains_iff_mem]
  unfold stI
  rw [List.mem_map]
  rintro ⟨j,hj,e⟩
  have hj:=List.mem_range.1 hj
  have h3:=hlt j hj
  rcases Nat.lt_trichotomy j i with h4 | h4 | h4
  ·
   have:=ptFirst_mono l (show j+1≤i from h4)
   have:=ptFirst_lt (l:=l) (show j < i from h4) (by omega)
   omega
  ·
   subst h4;omega
  ·
   have:=ptFirst_mono l (show i+1≤j from h4)
   omega
theorem stI_first {l:List BkV} {i:Nat} (h:i < l.length+1):(stI l (l.length+1)).countP (· < (ptFirst l i:Int))=i∧(stI l (l.length+1)).contains (ptFirst l i:Int)=true:=
 ⟨asc_count (stI_asc (Nat.le_refl _)) (stI_at l h),by simpa using List.mem_of_getElem? (stI_at l h)⟩
theorem FBlock_any {l:List BkV} {fb:Nat} {sA:Option Addr} {sc:Nat} {p i k:Nat} (w:World) {B:Nat} (hc:w.cell? ⟨fb,0,none⟩=some (.slice sA (l.length+1) sc)) (hs:Rd w B sA (l.length+1) (i64s (stI l (l.length+1)))) (hn:l.length≤900000) (h:ptLoc l p=some (i,k)) :
  Calls Tryz.prog 71 #[.pointer (some ⟨fb,0,none⟩),.int .i64 (p:Int)] w fun e w'=>e=.returned (.int .i64 (i:Int))∧∃ q,w'=w.drewN q:=by
 have HS:=hide (BSearch_any (c:=sc) (p:Int) w hs (stI_asc (Nat.le_refl _)) (by omega))
 have hil:=(List.getElem?_eq_some_iff.1 (ptLoc_some h).choose_spec.1).1
 rcases Nat.eq_zero_or_pos k with hk | hk
 ·
  subst hk
  obtain ⟨b,hb,_,hp⟩:=ptLoc_some h
  obtain rfl:p=ptFirst l i:=hp
  rw [(stI_first (l:=l) (i:=i) (by omega)).1,(stI_first (l:=l) (i:=i) (by omega)).2] at HS
  clear hs h hb
  generalize l.length=n at *
  go_enter Tryz.func71,Tryz.ntmps71
  go_wp2_with fail
  refine HS.out.mono ?_
  rintro e w1 ⟨rfl,q,rfl⟩
  go_wp2
  go_ret
  exact ⟨rfl,q,rfl⟩
 ·
  obtain ⟨h1,h2⟩:=stI_end h hk
  rw [h1,h2] at HS
  have s1:IntKind.i64.wrap ((i:Int)+1 - 1)=(i:Int):=by rw [show (i:Int)+1 - 1=i by omega];exact wrapI9 _ (by omega) (by omega)
  clear hs h h1 h2
  generalize l.length=n at *
  go_enter Tryz.func71,Tryz.ntmps71
  go_wp2_with fail
  refine HS.out.mono ?_
  rintro e w1 ⟨rfl,q,rfl⟩
  go_wp2
  go_ret
  exact ⟨rfl,q,rfl⟩
def lowW (s:List (Nat×Bool)) (a k:Nat):Prop:=∀ j z,s[j]?=some z→(z.1 < a↔j < k)
def FindR (s:List (Nat×Bool)) (a n:Nat) (e:Ending):Prop:=∃ (k:Nat) (f:Bool),e=.returned (.tuple #[.int .i64 (k:Int),.bool f])∧k≤n∧lowW s a k
theorem SCmp_any (a b:Nat) (u:Bool) (w:World):Calls Tryz.prog 118 #[.agg #[.int .i64 (a:Int),.bool u],.int .i64 (b:Int)] w fun e w'=>(∃ v,e=.returned (.int .i64 v)∧(v < 0↔a < b))∧Below w.heap.size w w':=by
 have HB:=hide (below1 w (.cells #[.int .i64 (a:Int),.bool u] 129))
 obtain ⟨x0,x1⟩:=cells2 (Below.refl (w.alloc (.cells #[.int .i64 (a:Int),.bool u] 129)).heap.size (w.alloc (.cells #[.int .i64 (a:Int),.bool u] 129)))
 have HV:=hide (show cmpI (a:Int) (b:Int) < 0↔a < b from by unfold cmpI;split <;> (try split) <;> omega)
 go_enter Tryz.func118,Tryz.ntmps118
 go_wp2_with fail
 refine (cmp12 _ _ _).mono ?_
 generalize cmpI (a:Int) (b:Int)=v at *
 rintro e w1 ⟨rfl,hb⟩
 have HB1:=hide (HB.out.trans (hb.mono HB.out.size))
 clear hb
 go_wp2
 go_ret
 exact ⟨⟨v,rfl,HV.out⟩,HB1.out⟩
theorem SFind_any (A:Option Addr) (n c a:Nat) (s:List (Nat×Bool)) (w:World) (hs:Cells w w.heap.size 2 cSite A n s) (hasc:s.Pairwise fun x y=>x.1 < y.1) (hn:n≤1000000000) (ha:a≤1000000000) (hz:∀ z∈s,z.1≤1000000000) :
  Calls Tryz.prog 117 #[.slice A n c,.int .i64 (a:Int),.func (.func 118) #[] #[]] w fun e w'=>FindR s a n e∧Below w.heap.size w w':=by
 have HS:=hide hs
 have HL:=hide (show s.length=n from hs.1)
 have HA:=hide hasc
 have HZ:=hide hz
 have HB:=hide (Below.refl w.heap.size w)
 clear hs hasc hz
 go_enter Tryz.func117,Tryz.ntmps117
 go_wp2
 go_loopw [9,10] (fun f t wr=>∃ i j:Nat,f=.int .i64 (i:Int)∧t=.int .i64 (j:Int)∧i≤j∧j≤n∧Hid (∀ k z,s[k]?=some z→k < i→z.1 < a)∧Hid (∀ k z,s[k]?=some z→j≤k→¬z.1 < a)∧Hid (Below w.heap.size w wr)) (fun f t _=>(intOf t).toNat - (intOf f).toNat)
 case atStart=>exact ⟨0,n,rfl,rfl,Nat.zero_le _,Nat.le_refl _,hide (fun k z _ h=>absurd h (by omega)),hide (fun k z hk h=>by have:=(List.getElem?_eq_some_iff.1 hk).1;have:=HL.out;omega),HB⟩
 case round=>
  obtain ⟨i,j,rfl,rfl,hij,hj,H1,H2,HW⟩:=hrel
  by_cases hlt:i < j
  ·
   have hlt':(i:Int) < (j:Int):=by omega
   obtain ⟨m,hm⟩:∃ m,m=(i+j) / 2:=⟨_,rfl⟩
   have s1:IntKind.i64.wrap ((i:Int)+(j:Int))=((i+j:Nat):Int):=wrapI9 _ (by omega) (by omega)
   have he:((i:Int)+(j:Int)) / 2=(m:Int):=by omega
   have hmj:m < j:=by omega
   have him:i≤m:=by omega
   have hmn:(m:Int) < (n:Int):=by omega
   have hm0:(0:Int)≤(m:Int):=by omega
   obtain ⟨z,hz⟩:∃ z,s[m]?=some z:=⟨_,List.getElem?_eq_getElem (by rw [HL.out];omega)⟩
   obtain ⟨g,o,hA,hg,hgc⟩:=HS.out.at_ hz
   subst hA
   have HM:=hide hz
   obtain ⟨zp,zu⟩:=z
   have c0:wr.cell? ⟨g,o+m*2,none⟩=some (.int .i64 (zp:Int)):=(HW.out.cell (p:=⟨g,o+m*2,none⟩) hg).trans (by simpa using hgc 0 _ rfl)
   have c1:wr.cell? ⟨g,o+m*2+1,none⟩=some (.bool zu):=(HW.out.cell (p:=⟨g,o+m*2+1,none⟩) hg).trans (hgc 1 _ rfl)
   clear hm hz hg hgc s1
   go_wp2_with fail
   refine (SCmp_any zp a zu _).mono ?_
   rintro e w1 ⟨⟨v,rfl,hv⟩,hb⟩
   have HW1:=hide (HW.out.trans (hb.mono HW.out.size))
   clear hb c0 c1
   by_cases hza:zp < a
   ·
    have hv':v < 0:=hv.2 hza
    have HN:=hide (show ∀ k z,s[k]?=some z→k < m+1→z.1 < a from fun k z hk hkm=>by
     rcases Nat.lt_or_ge k m with h1 | h1
     ·
      obtain ⟨l1,e1⟩:=List.getElem?_eq_some_iff.1 hk
      obtain ⟨l2,e2⟩:=List.getElem?_eq_some_iff.1 HM.out
      have h3:=List.pairwise_iff_getElem.1 HA.out k m l1 l2 h1
      rw [e1,e2] at h3
      have h4:z.1 < zp:=h3
      omega
     ·
      obtain rfl:k=m:=by omega
      rw [HM.out] at hk
      injection hk with hk
      subst hk
      exact hza)
    clear hza hv
    go_wp2
    go_roundw
    case rel=>exact ⟨m+1,j,by go_num,rfl,by omega,hj,HN,H2,HW1⟩
    case measure=>simp [intOf];omega
   ·
    have hv':¬v < 0:=fun h=>hza (hv.1 h)
    have HN:=hide (show ∀ k z,s[k]?=some z→m≤k→¬z.1 < a from fun k z hk hkm=>by
     rcases Nat.lt_or_ge m k with h1 | h1
     ·
      obtain ⟨l1,e1⟩:=List.getElem?_eq_some_iff.1 hk
      obtain ⟨l2,e2⟩:=List.getElem?_eq_some_iff.1 HM.out
      have h3:=List.pairwise_iff_getElem.1 HA.out m k l2 l1 h1
      rw [e1,e2] at h3
      have h4:zp < z.1:=h3
      omega
     ·
      obtain rfl:k=m:=by omega
      rw [HM.out] at hk
      injection hk with hk
      subst hk
      exact hza)
    clear hza hv
    go_wp2
    go_roundw
    case rel=>exact ⟨i,m,rfl,by go_num,him,by omega,H1,HN,HW1⟩
    case measure=>simp [intOf];omega
  ·
   have hlt':¬(i:Int) < (j:Int):=by omega
   obtain rfl:i=j:=by omega
   have HLW:=hide (show lowW s a i from fun k z hk=>⟨fun h=>Decidable.by_contra fun hn=>H2.out k z hk (by omega) h,H1.out k z hk⟩)
   clear hij
   by_cases hin:i < n
   ·
    have hin':(i:Int) < (n:Int):=by omega
    have hi0:(0:Int)≤(i:Int):=by omega
    obtain ⟨z,hz⟩:∃ z,s[i]?=some z:=⟨_,List.getElem?_eq_getElem (by rw [HL.out];omega)⟩
    obtain ⟨g,o,hA,hg,hgc⟩:=HS.out.at_ hz
    subst hA
    obtain ⟨zp,zu⟩:=z
    have c0:wr.cell? ⟨g,o+i*2,none⟩=some (.int .i64 (zp:Int)):=(HW.out.cell (p:=⟨g,o+i*2,none⟩) hg).trans (by simpa using hgc 0 _ rfl)
    have c1:wr.cell? ⟨g,o+i*2+1,none⟩=some (.bool zu):=(HW.out.cell (p:=⟨g,o+i*2+1,none⟩) hg).trans (hgc 1 _ rfl)
    clear hz hg hgc
    go_wp2_with fail
    refine (SCmp_any zp a zu _).mono ?_
    rintro e w1 ⟨⟨v,rfl,hv⟩,hb⟩
    have HW1:=hide (HW.out.trans (hb.mono HW.out.size))
    clear hb c0 c1 hv
    go_wp2
    go_ret2
    exact ⟨⟨i,_,rfl,hj,HLW.out⟩,HW1.out⟩
   ·
    have hin':¬(i:Int) < (n:Int):=by omega
    clear hin
    go_wp2
    go_ret2
    exact ⟨⟨i,_,rfl,hj,HLW.out⟩,HW.out⟩
def BackR (s:List (Nat×Bool)) (f a d:Nat) (e:Ending):Prop:=∃ b:Nat,e=.returned (.agg #[.int .i64 (b:Int),.int .i64 (d:Int)])∧BackW s f a b
theorem run_size:(Tryz.prog.info? 94).map (·.size)=some 2:=by kernel_rfl
theorem run_one (a b:Int):(#[Value.int .i64 a,.int .i64 b]:Array Value).all Value.oneCell'=true:=all_oneCell_toArray (cs:=[.int .i64 a,.int .i64 b]) (fun u hu=>by simp only [List.mem_cons,List.not_mem_nil,or_false] at hu;rcases hu with rfl | rfl <;> rfl)
theorem FBack_any {l:List BkV} {fb:Nat} {sA:Option Addr} {sc:Nat} (a d j:Nat) (A:Option Addr) (n c:Nat) (s:List (Nat×Bool)) (w:World) (hfb:fb < w.heap.size) (hc:w.cell? ⟨fb,0,none⟩=some (.slice sA (l.length+1) sc)) (hst:Rd w w.heap.size sA (l.length+1) (i64s (stI l (l.length+1)))) (hj:j < l.length+1)
  (hs:Cells w w.heap.size 2 cSite A n s) (hasc:s.Pairwise fun x y=>x.1 < y.1) (hn:n≤1000000000) (ha:a≤1000000000) (hz:∀ z∈s,z.1≤1000000000) :
  Calls Tryz.prog 74 #[.pointer (some ⟨fb,0,none⟩),.agg #[.int .i64 (a:Int),.int .i64 (d:Int)],.int .i64 (j:Int),.slice A n c] w fun e w'=>BackR s (ptFirst l j) a d e∧Below w.heap.size w w':=by
 obtain ⟨f,hf⟩:∃ f,ptFirst l j=f:=⟨_,rfl⟩
 rw [hf]
 obtain ⟨sb,so,hsA,hsb,hsc⟩:=hst.cell (k:=j) (u:=.int .i64 (f:Int)) (by rw [List.getElem?_map,stI_at l hj,← hf];rfl)
 subst hsA
 generalize l.length+1=m at *
 obtain ⟨W1,hW1⟩:∃ W1,W1=(w.alloc (.cells #[.int .i64 (a:Int),.int .i64 (d:Int)] 94)).alloc (.cells #[.int .i64 0,.int .i64 0] 94):=⟨_,rfl⟩
 have b1:=below1 w (.cells #[.int .i64 (a:Int),.int .i64 (d:Int)] 94)
 have b2:=below1 (w.alloc (.cells #[.int .i64 (a:Int),.int .i64 (d:Int)] 94)) (.cells #[.int .i64 0,.int .i64 0] 94)
 have hx:=(Bx.new w [.int .i64 (a:Int),.int .i64 (d:Int)] 94).below b2
 have hr:=Bx.new (w.alloc (.cells #[.int .i64 (a:Int),.int .i64 (d:Int)] 94)) [.int .i64 0,.int .i64 0] 94
 simp only [World.size_alloc] at hr
 have hx:Bx W1 w.heap.size [.int .i64 (a:Int),.int .i64 (d:Int)] 94:=hW1 ▸ hx
 have hr:Bx W1 (w.heap.size+1) [.int .i64 0,.int .i64 0] 94:=hW1 ▸ hr
 have hB:Below w.heap.size w W1:=hW1 ▸ b1.trans (b2.mono b1.size)
 have HWW:=hide hW1
 have HB:=hide hB
 have HX:=hide hx
 have HR:=hide hr
 have HS:=hide hs
 have HL:=hide (show s.length=n from hs.1)
 have HZ:=hide hz
 have HA:=hide hasc
 have HC:=hide fun (w':World) (y:Below w.heap.size w w')=>(show w'.cell? ⟨fb,0,none⟩=some (.slice (some ⟨sb,so,none⟩) m sc)∧w'.cell? ⟨sb,so+j,none⟩=some (.int .i64 (f:Int)) from ⟨(y.cell (p:=⟨fb,0,none⟩) hfb).trans hc,(y.cell (p:=⟨sb,so+j,none⟩) hsb).trans hsc⟩)
 have x0:=hx.cell (j:=0) rfl
 rw [hW1] at x0
 have hj':(j:Int) < (m:Int):=by omega
 have hj0:(0:Int)≤(j:Int):=by omega
 have HSZ:=hide run_size
 clear hs hz hasc hc hsc hst hx hr hB b1 b2 hW1 hf
 go_enter Tryz.func74,Tryz.ntmps74
 go_wp2_with fail
 rw [←HWW.out]
 refine (SFind_any A n c a s W1 ((HS.out.below HB.out).more HB.out.size) HA.out hn ha HZ.out).mono ?_
 rintro e w1 ⟨⟨k,fd,rfl,hk,hlow⟩,hb⟩
 have HW1:=hide (HB.out.trans (hb.mono HB.out.size))
 have HX1:=hide (HX.out.below hb)
 have HR1:=hide (HR.out.below hb)
 have HLW:=hide hlow
 obtain ⟨c0,c1⟩:=HC.out _ HW1.out
 have x1:=HX1.out.cell (j:=0) rfl
 have f1:=HX1.out.frozen 0
 have HX2:=hide (HX1.out.set 0 (.int .i64 (f:Int)))
 have HR2:=hide (HR1.out.other (a:=⟨w.heap.size,0,none⟩) (by simp) (.int .i64 (f:Int)))
 have HB2:=hide (HW1.out.setCell (p:=⟨w.heap.size,0,none⟩) (Nat.le_refl _) (.int .i64 (f:Int)))
 clear hb hlow x0
 by_cases h0:k=0
 ·
  subst h0
  have y0:=HX2.out.cell (j:=0) rfl
  have y1:=HX2.out.cell (j:=1) rfl
  have HBK:=hide (show BackW s f a f from ⟨Nat.le_refl _,fun z hz hza=>by
   obtain ⟨i,hi⟩:=List.getElem?_of_mem hz
   have:=(HLW.out i z hi).1 hza
   omega,.inl rfl⟩)
  have HONE:=hide (run_one (f:Int) (d:Int))
  go_wp2_with (refine wpList_store_row rfl 94 _ _ rfl (w.heap.size+1) _ rfl rfl 94 #[.int .i64 0,.int .i64 0] ?_ ?_ ?_ ?_ ?_;exact HR2.out;exact HSZ.out;rfl;exact HONE.out)
  refine bodyPost_ret (results_cell_row rfl _ _ (w.heap.size+1) _ _ (0,0) _ rfl (setRow_heap _ _ _ _ _ _ HR2.out) Tryz.underlying94 rfl (by kernel_rfl)) rfl ?_
  exact ⟨⟨f,rfl,HBK.out⟩,below_setRow9 HB2.out (Nat.le_succ _) _⟩
 ·
  obtain ⟨k',rfl⟩:∃ k',k=k'+1:=⟨k - 1,by omega⟩
  have hk0:((k'+1:Nat):Int) > 0:=by omega
  obtain ⟨z,hz⟩:∃ z,s[k']?=some z:=⟨_,List.getElem?_eq_getElem (by rw [HL.out];omega)⟩
  obtain ⟨g,o,hA,hg,hgc⟩:=HS.out.at_ hz
  subst hA
  have hzm:=HZ.out z (List.mem_of_getElem? hz)
  have HM:=hide hz
  obtain ⟨zp,zu⟩:=z
  have hzm:zp≤1000000000:=hzm
  have hgz:g≠w.heap.size:=fun e=>by subst e;exact absurd hg (Nat.lt_irrefl _)
  have z0:(w1.setCell ⟨w.heap.size,0,none⟩ (.int .i64 (f:Int))).cell? ⟨g,o+k'*2,none⟩=some (.int .i64 (zp:Int)):=(World.cell?_setCell_other w1 ⟨w.heap.size,0,none⟩ ⟨g,o+k'*2,none⟩ _ (by simp <;> omega)).trans ((HW1.out.cell (p:=⟨g,o+k'*2,none⟩) hg).trans (by simpa using hgc 0 _ rfl))
  have y0:=HX2.out.cell (j:=0) rfl
  have y1:=HX2.out.cell (j:=1) rfl
  have y2:=HX2.out.frozen 0
  have hkn:(k':Int) < (n:Int):=by omega
  have hkz:(0:Int)≤(k':Int):=by omega
  have s1:IntKind.i64.wrap ((k':Int)+1 - 1)=(k':Int):=by rw [show (k':Int)+1 - 1=k' by omega];exact wrapI9 _ (by omega) (by omega)
  have s2:IntKind.i64.wrap ((zp:Int)+1)=(zp:Int)+1:=wrapI9 _ (by omega) (by omega)
  clear h0 hz hg hgc
  go_wp2
  go_region
  obtain ⟨bm,hbm⟩:∃ bm,max f (zp+1)=bm:=⟨_,rfl⟩
  have hmx:max (f:Int) ((zp:Int)+1)=(bm:Int):=by omega
  rw [hmx]
  have HBK:=hide (show BackW s f a bm from ⟨by omega,fun z hz hza=>by
   obtain ⟨i,hi⟩:=List.getElem?_of_mem hz
   have h1:=(HLW.out i z hi).1 hza
   rcases Nat.lt_or_ge i k' with h2 | h2
   ·
    obtain ⟨l1,e1⟩:=List.getElem?_eq_some_iff.1 hi
    obtain ⟨l2,e2⟩:=List.getElem?_eq_some_iff.1 HM.out
    have h3:=List.pairwise_iff_getElem.1 HA.out i k' l1 l2 h2
    rw [e1,e2] at h3
    have h4:z.1 < zp:=h3
    omega
   ·
    obtain rfl:i=k':=by omega
    rw [HM.out] at hi
    injection hi with hi
    subst hi
    show zp < bm
    omega,by
   rcases Nat.le_total f (zp+1) with h1 | h1
   ·
    exact .inr ⟨(zp,zu),List.mem_of_getElem? HM.out,(HLW.out k' _ HM.out).2 (Nat.lt_succ_self _),by show bm=zp+1;omega⟩
   ·
    exact .inl (by omega)⟩)
  have hd:=(Below.refl ((w1.setCell ⟨w.heap.size,0,none⟩ (.int .i64 (f:Int))).setCell ⟨w.heap.size,0,none⟩ (.int .i64 (bm:Int))).heap.size ((w1.setCell ⟨w.heap.size,0,none⟩ (.int .i64 (f:Int))).setCell ⟨w.heap.size,0,none⟩ (.int .i64 (bm:Int)))).drew
  have HX3:=hide ((HX2.out.set 0 (.int .i64 (bm:Int))).below hd)
  have HR3:=hide ((HR2.out.other (a:=⟨w.heap.size,0,none⟩) (by simp) (.int .i64 (bm:Int))).below hd)
  have HB3:=(HB2.out.setCell (p:=⟨w.heap.size,0,none⟩) (Nat.le_refl _) (.int .i64 (bm:Int))).drew
  have v0:=HX3.out.cell (j:=0) rfl
  have v1:=HX3.out.cell (j:=1) rfl
  have HONE:=hide (run_one (bm:Int) (d:Int))
  clear hd hmx hbm y0 y1 y2 z0 s1 s2 x1 f1 c0 c1
  go_wp2_with (refine wpList_store_row rfl 94 _ _ rfl (w.heap.size+1) _ rfl rfl 94 #[.int .i64 0,.int .i64 0] ?_ ?_ ?_ ?_ ?_;exact HR3.out;exact HSZ.out;rfl;exact HONE.out)
  refine bodyPost_ret (results_cell_row rfl _ _ (w.heap.size+1) _ _ (0,0) _ rfl (setRow_heap _ _ _ _ _ _ HR3.out) Tryz.underlying94 rfl (by kernel_rfl)) rfl ?_
  exact ⟨⟨bm,rfl,HBK.out⟩,below_setRow9 HB3 (Nat.le_succ _) _⟩
theorem drewN12 (w:World) (q:Nat):Below w.heap.size w (w.drewN q):=have h:=Below.refl w.heap.size w;⟨h.os,h.tape,h.output,h.size,h.block⟩
theorem own_cell12 {w:World} {lo k g n c:Nat} {e:TypeId} {xs:List Value} (h:w.ownsRow lo e k (.slice (some ⟨g,0,none⟩) n c) n xs) {i:Nat} (hi:i < n*k) (u:Value):(w.setCell ⟨g,i,none⟩ u).ownsRow lo e k (.slice (some ⟨g,0,none⟩) n c) n (xs.set i u):=by
 obtain ⟨h1,h2⟩:=h
 refine ⟨by rw [List.length_set];exact h1,?_⟩
 rcases h2 with ⟨h2,_⟩ | ⟨g',cap,cur,hv,hb,hg,hnc,hcm,hcs,htk⟩
 ·
  cases h2
 ·
  injection hv with hv hn' hc'
  injection hv with hv
  injection hv with hv
  subst hv hc'
  have hcc:n*k≤c*k:=Nat.mul_le_mul_right _ hnc
  refine .inr ⟨g,c,cur.setIfInBounds i u,rfl,hb,by simp [World.setCell,Array.getElem?_modify,hg],hnc,hcm,by simpa using hcs,?_⟩
  rw [←htk,Array.toList_setIfInBounds]
  apply List.ext_getElem?
  intro j
  have hic:i < cur.size:=by omega
  by_cases hj:j < n*k
  ·
   rw [List.getElem?_take_of_lt hj,List.getElem?_set (l:=cur.toList.take (n*k)),List.getElem?_take_of_lt hj]
   by_cases e1:i=j
   ·
    subst e1
    rw [if_pos rfl,List.getElem?_set_self (by simpa using hic),if_pos (by rw [List.length_take];simp;omega)]
   ·
    rw [if_neg e1,List.getElem?_set_ne e1]
  ·
   rw [List.getElem?_eq_none (by simp;omega),List.getElem?_eq_none (by simp;omega)]
theorem set_run (M:List RunW) (a b x:Nat):((M++[(a,b)]).flatMap cRun).set (M.length*2+1) (.int .i64 (x:Int))=(M++[(a,x)]).flatMap cRun:=by
 have hl:(M.flatMap cRun).length=M.length*2:=flatMap_len cRun_len M
 rw [List.flatMap_append,List.flatMap_append,List.set_append_right _ _ (by omega),hl,show M.length*2+1 - M.length*2=1 by omega]
 rfl
theorem infoRun:(Tryz.prog.info? 94).map (fun i=>(i.zero,i.size,i.bytes))=some (some (.agg #[.int .i64 0,.int .i64 0]),2,16):=by kernel_rfl
def JoinR (C n lo:Nat) (R:List RunW) (e:Ending) (w':World):Prop:=∃ (A:Option Addr) (m c:Nat) (J:List RunW),e=.returned (.slice A m c)∧w'.ownsRow lo 94 2 (.slice A m c) m (J.flatMap cRun)∧m≤n∧RunsIn C J∧∀ p,covW J p=covW R p
theorem Joined_any {w:World} {base C n c:Nat} {A:Option Addr} {R:List RunW} (h:w.ownsRow base 94 2 (.slice A n c) n (R.flatMap cRun)) (hn:n≤1000000000) (hC:C≤1000000000) (hR:RunsIn C R) (hbase:base≤w.heap.size) :
    Calls Tryz.prog 76 #[.slice A n c] w fun e w'=>JoinR C n w.heap.size R e w'∧Below base w w':=by
  have HS:=hide (SortRuns_any h hn)
  have HRR:=hide hR
  clear h hR
  go_enter Tryz.func76,Tryz.ntmps76
  go_wp2_with fail
  refine HS.out.mono ?_
  rintro e w1 ⟨rfl,⟨R',hp,ho⟩,hb⟩
  have HB1:=hide (hb hbase)
  have HL:=hide (own_len cRun_len (by decide) ho)
  have HCL:=hide (Cells.of_own cRun_len (by decide) ho)
  have HP:=hide hp
  have HRP:=hide (show RunsIn C R' from fun r hr=>HRR.out r (hp.mem_iff.2 hr))
  clear hp ho hb HS
  go_wp2
  go_loopw [3,11] (fun v i wr=>∃ (j:Nat) (A2:Option Addr) (m c2:Nat) (J:List RunW),i=.int .i64 (j:Int)∧v=.slice A2 m c2∧j≤n∧m≤j∧Hid (wr.ownsRow w1.heap.size 94 2 (.slice A2 m c2) m (J.flatMap cRun))∧Hid (∀ p,covW J p=covW (R'.take j) p)∧Hid (RunsIn C J)∧Hid (Below w1.heap.size w1 wr)) (fun _ i _=>n - (intOf i).toNat)
  case atStart=>exact ⟨0,none,0,0,[],rfl,rfl,Nat.zero_le _,Nat.le_refl _,hide (World.ownsRow_nil _ _ _ _),hide (fun p=>rfl),hide (fun r hr=>by cases hr),hide (Below.refl _ _)⟩
  case round=>
    obtain ⟨j,A2,m,c2,J,rfl,rfl,hj,hmj,HO,HCV,HRJ,HW⟩:=hrel
    by_cases hlt:j < n
    · have hlt':(j:Int) < (n:Int):=by omega
      have hj0:(0:Int)≤(j:Int):=by omega
      obtain ⟨x,hx⟩:∃ x,R'[j]?=some x:=⟨_,List.getElem?_eq_getElem (by rw [HL.out];exact hlt)⟩
      obtain ⟨g0,o0,hA,hg0,hgc⟩:=HCL.out.at_ hx
      subst hA
      obtain ⟨xs,xe⟩:=x
      have hxr:=HRP.out (xs,xe) (List.mem_of_getElem? hx)
      have hx1:xs < xe:=hxr.1
      have hx2:xe≤C:=hxr.2
      have HTK:=hide (show R'.take (j+1)=R'.take j++[(xs,xe)] by rw [List.take_add_one,hx];rfl)
      have c0:wr.cell? ⟨g0,o0+j*2,none⟩=some (.int .i64 (xs:Int)):=(HW.out.cell (p:=⟨g0,o0+j*2,none⟩) hg0).trans (by simpa using hgc 0 _ rfl)
      have c1:wr.cell? ⟨g0,o0+j*2+1,none⟩=some (.int .i64 (xe:Int)):=(HW.out.cell (p:=⟨g0,o0+j*2+1,none⟩) hg0).trans (hgc 1 _ rfl)
      have hws:=HW.out.size
      have hb2:=below1 wr (.cells #[.int .i64 (xs:Int),.int .i64 (xe:Int)] 94)
      have HO2:=hide (ownsRow_below HO.out hb2)
      have HX2:=hide (Bx.new wr [.int .i64 (xs:Int),.int .i64 (xe:Int)] 94)
      have HW2:=hide (HW.out.trans (hb2.mono hws))
      have y0:=HX2.out.cell (j:=0) rfl
      have y1:=HX2.out.cell (j:=1) rfl
      have hJl:=own_len cRun_len (by decide) HO.out
      have HJL:=hide hJl
      obtain ⟨wa,hwa⟩:∃ wa,wa=wr.alloc (.cells #[.int .i64 (xs:Int),.int .i64 (xe:Int)] 94):=⟨_,rfl⟩
      have HWA:=hide hwa
      rw [←hwa] at HO2 HX2 HW2 y0 y1
      have hx0:wa.frozen? ⟨wr.heap.size,1,none⟩=false:=HX2.out.frozen 1
      clear hx hxr hg0 hgc hb2 hJl hwa
      obtain ⟨i0,hi,hz0,hz1,hz2⟩:=info_parts infoRun
      have HAPP:=hide fun (wd:World) (hd:Below wa.heap.size wa wd)=>(show Below w1.heap.size w1 (wd.alloc (.cells #[.int .i64 (xs:Int),.int .i64 (xe:Int)] 94))∧(wd.alloc (.cells #[.int .i64 (xs:Int),.int .i64 (xe:Int)] 94)).ownsRow w1.heap.size 94 2 (.slice A2 m c2) m (J.flatMap cRun)∧(∀ j u,(cRun (xs,xe))[j]?=some u→(wd.alloc (.cells #[.int .i64 (xs:Int),.int .i64 (xe:Int)] 94)).cell? ((⟨wd.heap.size,0,none⟩:Addr).add j)=some u) from by
        have hb3:=below1 wd (.cells #[.int .i64 (xs:Int),.int .i64 (xe:Int)] 94)
        exact ⟨(HW2.out.trans (hd.mono HW2.out.size)).trans (hb3.mono (Nat.le_trans HW2.out.size hd.size)),ownsRow_below (ownsRow_below HO2.out hd) hb3,World.news_of_block (heap_alloc_new wd (.cells #[.int .i64 (xs:Int),.int .i64 (xe:Int)] 94))⟩)
      rcases m with _ | k
      · have s1:IntKind.i64.wrap ((0:Int) - 1)=-1:=by decide
        have hJ0:J=[]:=List.length_eq_zero_iff.1 HJL.out
        subst hJ0
        have y2:=HX2.out.cell (j:=0) rfl
        have y3:=HX2.out.cell (j:=1) rfl
        rw [HWA.out] at y2 y3
        go_wp2_with fail
        rw [←HWA.out]
        clear y2 y3
        go_quiet (fail)
        have hd:Below wa.heap.size wa (wa.drewN nq):=drewN12 wa nq
        obtain ⟨wd,hwd⟩:∃ wd,wd=wa.drewN nq:=⟨_,rfl⟩
        rw [←hwd] at hd ⊢
        obtain ⟨q1,q2,q3⟩:=HAPP.out wd hd
        have y2:=(HX2.out.below hd).cell (j:=0) rfl
        have y3:=(HX2.out.below hd).cell (j:=1) rfl
        have Q1:=hide q1
        clear hd hwd y0 y1 q1
        go_wp2_with (at_builtin;refine wpList_append_lies _ rfl _ _ 91 rfl w1.heap.size 94 i0 _ 2 16 Tryz.underlying91 hi hz0 hz1 hz2 rfl (by decide) (.slice A2 0 c2) 0 ([].flatMap cRun) rfl q2 ⟨wd.heap.size,0,none⟩ 1 1 (cRun (xs,xe)) rfl rfl q3 (cRun_one _) (by decide) (by unfold maxLen;omega) (by omega) Q1.out.size _ rfl ?_;intro g cap w7 hown7 hg7 hat7 hl7)
        have HW7:=hide (Q1.out.grown hg7 Q1.out.size fun b hb=>(q2.lt b hb).1)
        have HO7:=hide (show w7.ownsRow w1.heap.size 94 2 (.slice (some ⟨g,0,none⟩) (0+1) cap) (0+1) (([]++[(xs,xe)]).flatMap cRun) by rw [List.flatMap_append];exact hown7)
        have HCV7:=hide (show ∀ p,covW ([]++[(xs,xe)]) p=covW (R'.take (j+1)) p from fun p=>by rw [covW_app,HCV.out p,HTK.out,covW_app])
        have HRJ7:=hide (show RunsIn C ([]++[(xs,xe)]) from fun r hr=>(List.mem_append.1 hr).elim (HRJ.out r) fun h=>by rw [List.mem_singleton.1 h];exact ⟨hx1,hx2⟩)
        clear hown7 hg7 hat7 hl7 q2 q3
        go_roundw
        case rel=>exact ⟨j+1,_,0+1,cap,[]++[(xs,xe)],by go_num,rfl,hlt,by omega,HO7,HCV7,HRJ7,HW7⟩
        case measure=>simp [intOf];omega
      · obtain ⟨M, z, rfl⟩ : ∃ M z, J = M ++ [z] := by
          have hne:J≠[]:=fun e=>by have:=HJL.out;rw [e] at this;cases this
          exact ⟨J.dropLast,J.getLast hne,(List.dropLast_concat_getLast hne).symm⟩
        obtain ⟨za,zb⟩:=z
        have hMk:M.length=k:=by have:=HJL.out;simp at this;omega
        obtain ⟨g,rfl,hgl,hg⟩:=own_form HO2.out (Nat.succ_pos k)
        obtain ⟨gv,zv,hgA,_,hgc⟩:=(Cells.of_own cRun_len (by decide) HO2.out).at_ (i:=k) (x:=(za,zb)) (by rw [←hMk];simp)
        injection hgA with hgA
        injection hgA with hgA hgo
        subst hgA hgo
        have z1:wa.cell? ⟨g,k*2+1,none⟩=some (.int .i64 (zb:Int)):=by simpa using hgc 1 _ rfl
        have s1:IntKind.i64.wrap ((k:Int)+1 - 1)=(k:Int):=by rw [show (k:Int)+1 - 1=k by omega];exact wrapI9 _ (by omega) (by omega)
        have hk1:decide ((k:Int)≥0)=true:=decide_eq_true (by omega)
        have hk2:(k:Int) < ((k+1:Nat):Int):=by omega
        have hk3:(0:Int)≤(k:Int):=by omega
        have hzr:=HRJ.out (za,zb) (by simp)
        have hzr1:za < zb:=hzr.1
        have HMK:=hide hMk
        have y2:=HX2.out.cell (j:=0) rfl
        have y3:=HX2.out.cell (j:=1) rfl
        have y4:=z1
        rw [HWA.out] at y2 y3 y4
        clear hgc hzr hMk
        by_cases he:zb=xs
        · subst he
          go_wp2_with fail
          rw [←HWA.out]
          clear y2 y3 y4
          go_quiet (fail)
          have hd:Below wa.heap.size wa (wa.drewN nq):=drewN12 wa nq
          obtain ⟨wd,hwd⟩:∃ wd,wd=wa.drewN nq:=⟨_,rfl⟩
          rw [←hwd] at hd ⊢
          have y2:=(HX2.out.below hd).cell (j:=1) rfl
          have hod:=ownsRow_below HO2.out hd
          have hth:=own_there hod (i:=k) (Nat.lt_succ_self k) 1 (by decide)
          have y3:=hth.2
          have HBd:=hide ((HW2.out.trans (hd.mono HW2.out.size)).setCell (p:=⟨g,k*2+1,none⟩) hgl (.int .i64 (xe:Int)))
          have HO7:=hide (own_cell12 hod (i:=k*2+1) (by omega) (.int .i64 (xe:Int)))
          rw [←HMK.out,set_run M za zb xe,HMK.out] at HO7
          have HCV7:=hide (show ∀ p,covW (M++[(za,xe)]) p=covW (R'.take (j+1)) p from fun p=>by rw [←covW_join (Nat.le_of_lt hzr1) (Nat.le_of_lt hx1),covW_app,HCV.out p,HTK.out,covW_app])
          have HRJ7:=hide (show RunsIn C (M++[(za,xe)]) from fun r hr=>(List.mem_append.1 hr).elim (fun h=>HRJ.out r (List.mem_append.2 (.inl h))) fun h=>by rw [List.mem_singleton.1 h];exact ⟨Nat.lt_trans hzr1 hx1,hx2⟩)
          have y4:=(hd.cell (p:=⟨g,k*2+1,none⟩) hg).trans z1
          clear hd hwd y0 y1 hod hth z1
          go_wp2
          go_roundw
          case rel=>exact ⟨j+1,_,k+1,c2,M++[(za,xe)],by go_num,rfl,hlt,by omega,HO7,HCV7,HRJ7,HBd⟩
          case measure=>simp [intOf];omega
        · have he1:((zb:Int) == (xs:Int))=false:=by simpa using fun h=>he (by omega)
          have he2:decide ((zb:Int)=(xs:Int))=false:=decide_eq_false (by omega)
          clear he
          go_wp2_with fail
          rw [←HWA.out]
          clear y2 y3 y4
          go_quiet (fail)
          have hd:Below wa.heap.size wa (wa.drewN nq):=drewN12 wa nq
          obtain ⟨wd,hwd⟩:∃ wd,wd=wa.drewN nq:=⟨_,rfl⟩
          rw [←hwd] at hd ⊢
          obtain ⟨q1,q2,q3⟩:=HAPP.out wd hd
          have y2:=(HX2.out.below hd).cell (j:=0) rfl
          have y3:=(HX2.out.below hd).cell (j:=1) rfl
          have Q1:=hide q1
          clear hd hwd y0 y1 q1
          go_wp2_with (at_builtin;refine wpList_append_lies _ rfl _ _ 91 rfl w1.heap.size 94 i0 _ 2 16 Tryz.underlying91 hi hz0 hz1 hz2 rfl (by decide) (.slice (some ⟨g,0,none⟩) (k+1) c2) (k+1) ((M++[(za,zb)]).flatMap cRun) rfl q2 ⟨wd.heap.size,0,none⟩ 1 1 (cRun (xs,xe)) rfl rfl q3 (cRun_one _) (by decide) (by unfold maxLen;omega) (by omega) Q1.out.size _ rfl ?_;intro g7 cap w7 hown7 hg7 hat7 hl7)
          have HW7:=hide (Q1.out.grown hg7 Q1.out.size fun b hb=>(q2.lt b hb).1)
          have HO7:=hide (show w7.ownsRow w1.heap.size 94 2 (.slice (some ⟨g7,0,none⟩) ((k+1)+1) cap) ((k+1)+1) (((M++[(za,zb)])++[(xs,xe)]).flatMap cRun) by rw [List.flatMap_append];exact hown7)
          have HCV7:=hide (show ∀ p,covW ((M++[(za,zb)])++[(xs,xe)]) p=covW (R'.take (j+1)) p from fun p=>by rw [covW_app,HCV.out p,HTK.out,covW_app])
          have HRJ7:=hide (show RunsIn C ((M++[(za,zb)])++[(xs,xe)]) from fun r hr=>(List.mem_append.1 hr).elim (HRJ.out r) fun h=>by rw [List.mem_singleton.1 h];exact ⟨hx1,hx2⟩)
          clear hown7 hg7 hat7 hl7 q2 q3
          go_roundw
          case rel=>exact ⟨j+1,_,(k+1)+1,cap,(M++[(za,zb)])++[(xs,xe)],by go_num,rfl,hlt,by omega,HO7,HCV7,HRJ7,HW7⟩
          case measure=>simp [intOf];omega
    · have hlt':¬(j:Int) < (n:Int):=by omega
      obtain rfl:j=n:=by omega
      have HFIN:=hide (show ∀ p,covW J p=covW R p from fun p=>by
        rw [HCV.out p,List.take_of_length_le (by rw [HL.out];exact Nat.le_refl _)]
        exact (covW_perm HP.out p).symm)
      have HBF:=hide (HB1.out.trans (HW.out.mono (Nat.le_trans hbase HB1.out.size)))
      have HOF:=hide (ownsRow_base HO.out HB1.out.size)
      clear hlt
      go_wp2
      go_ret
      exact ⟨⟨A2,m,c2,J,rfl,HOF.out,hmj,HRJ.out,HFIN.out⟩,HBF.out⟩
end Go.Proofs.YteeemjmohjkdpaaGreatDoor
