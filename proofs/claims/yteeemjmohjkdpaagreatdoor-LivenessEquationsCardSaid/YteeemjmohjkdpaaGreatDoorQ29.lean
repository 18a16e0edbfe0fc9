/- Part 30 of the contracts and their mathematics. -/
import Derived.Test.YteeemjmohjkdpaaGreatDoorQ28
import Derived.Test.YteeemjmohjkdpaaGreatDoorRows
import Derived.LaidMore
import Derived.Stop.Joined
import Derived.Lib.SmallJoins
set_option linter.unusedVariables false
set_option linter.unusedSectionVars false
set_option linter.unusedSimpArgs false
set_option maxRecDepth 100000
set_option maxHeartbeats 16000000
namespace Go.Proofs.YteeemjmohjkdpaaGreatDoor
open Go.RowKit
theorem covW_nil (p:Nat):covW [] p=0:=rfl
theorem covW_le (R:List RunW) (p:Nat):covW R p≤R.length:=List.countP_le_length
theorem covW_none {R:List RunW} {a p:Nat}:covW (R++[(a,a)]) p=covW R p:=by
 rw [covW_app,covW_one,if_neg (by omega),Nat.add_zero]
theorem covW_up {R:List RunW} {a t p:Nat} (h:a≤t):covW (R++[(a,t+1)]) p=covW (R++[(a,t)]) p+if p=t then 1 else 0:=by
 rw [covW_app,covW_app,covW_one,covW_one]
 split <;> split <;> split <;> omega
noncomputable def lvF (l:List BkV) (p:Nat) (L:List Int):List Int:=L.filter fun x=>lvB l x p
theorem lvF_up (l:List BkV) (p:Nat) (L:List Int) (x:Int):lvF l p (L++[x])=lvF l p L++List.replicate (if lvB l x p=true then 1 else 0) x:=by
 unfold lvF
 rw [List.filter_append,List.filter_cons,List.filter_nil]
 congr 1
 by_cases h:lvB l x p=true
 ·
  rw [if_pos h,if_pos h];rfl
 ·
  rw [if_neg h,if_neg h];rfl
theorem lvF_len (l:List BkV) (p:Nat) (L:List Int):(lvF l p L).length≤L.length:=List.length_filter_le _ _
theorem live_site {l:List BkV} {x:Int} {p:Nat} (h:LiveP l x p):∃ q,q < ptCount l∧x∈usesI l (q:Int):=by
 obtain ⟨q,_,hu⟩:=h
 refine ⟨q,?_,hu⟩
 cases e:ptLoc l q with
 | none=>
  exfalso
  have e2:ptLocI l (q:Int)=none:=by unfold ptLocI;rw [if_neg (by omega),Int.toNat_natCast];exact e
  unfold usesI at hu
  rw [atI_none e2] at hu
  cases hu
 | some r=>
  obtain ⟨i,k⟩:=r
  obtain ⟨b,hb,hk,rfl⟩:=ptLoc_some e
  exact pt_lt hb hk
theorem lvF_all {l:List BkV} {p n:Nat} {K:List Int} (hK:∀ q,q∈K↔sitesW l q (ptCount l)≠[]) (hin:∀ q x,x∈usesI l q→0≤x∧x < (n:Int)):lvF l p (setI K)=lvI l p n:=by
 refine asc_eq11 ((setI_asc K).filter _) (lvI_asc _ _ _) fun z=>?_
 unfold lvF
 rw [List.mem_filter,lvI_mem,lvB_iff,setI_mem,hK]
 refine ⟨fun h=>⟨?_,h.2⟩,fun h=>⟨?_,h.2⟩⟩
 ·
  obtain ⟨q,_,hu⟩:=live_site h.2
  exact hin _ _ hu
 ·
  obtain ⟨q,hq,hu⟩:=live_site h.2
  intro e
  have h2:=(sitesW_mem (l:=l) (x:=z) (m:=ptCount l) (p:=q) (u:=true)).2 ⟨hq,siteW_yes hu⟩
  rw [e] at h2
  cases h2
theorem GridW.rows {w:World} {base g lo C:Nat} {L:List (SlW Int)} {LL:List (List Int)} (h:GridW w base g 34 3 1 cInt L) (hg:lo≤g) (hb:lo≤base) (hm:C≤maxLen) (hl:L.length=C) (hL:LL.length=C) (hr:∀ (j:Nat) M,LL[j]?=some M→∃ s,L[j]?=some s∧s.L=M) :
  RowsI w lo (some ⟨g,0,none⟩) C LL (L.map fun s=>(s.A,s.n,s.c)):=by
 refine ⟨⟨by rw [flatMap_len cSl_len,List.length_map,hl,hL],.inr ⟨g,C,_,by rw [hL],hg,h.blk,by omega,hm,by simp [hl],?_⟩⟩,by simp [hl,hL],fun j M s hM hs=>?_⟩
 ·
  rw [List.take_of_length_le (by simp [hl,hL])]
  have:∀ M:List (SlW Int),M.map SlW.val=(M.map fun s=>(s.A,s.n,s.c)).flatMap cSl:=fun M=>by
   induction M with
   | nil=>rfl
   | cons s M ih=>rw [List.map_cons,List.map_cons,List.flatMap_cons,ih];rfl
  exact this L
 ·
  obtain ⟨z,hz,e⟩:=hr j M hM
  rw [List.getElem?_map,hz] at hs
  injection hs with hs
  have ho:=h.own j z hz
  have hzn:z.L.length=z.n:=own_len (f:=cInt) cInt_len (by decide) ho
  subst hs
  subst e
  refine ⟨hzn.symm,?_⟩
  rw [hzn]
  exact ownsRow_base ho hb
theorem PLocals_any (x:BdW) (nl:Nat) (w:World) (hx:OneBd w w.heap.size x) (hC:ptCount x.v.blocks≤1000) (hT9:∀ b∈x.v.blocks,b.term.targets.length≤100000) (hU:SmallU x.v.blocks) (hT:TermU x.v.blocks) (hE:(edgesI x.v.blocks).length≤200000) (hin:∀ q z,z∈usesI x.v.blocks q→0≤z∧z < (nl:Int)) :
  Calls Tryz.prog 17 #[aggBd x] w (RowsOut w (locsI x.v.blocks nl)):=by
 obtain ⟨l,hl⟩:∃ l,x.v.blocks=l:=⟨_,rfl⟩
 have HNF:=hide fun (w':World) (y:Below w.heap.size w w')=>NewFlow_any x w' (hx.up y) hC hT9 hU hT hE
 have HCO:=hide fun (w':World) (y:Below w.heap.size w w')=>PCount_any x w' (hx.up y) (Nat.le_trans hC (by decide))
 rw [hl] at hC hE HNF HCO hin ⊢
 have HEE:=hide hE
 have HIN:=hide hin
 clear hx hT9 hU hT hE hl hin
 obtain ⟨C,hCC⟩:∃ C,ptCount l=C:=⟨_,rfl⟩
 rw [hCC] at HCO hC
 have HCC:=hide hCC
 clear hCC
 obtain ⟨nm,⟨rA,rn,rc,rL⟩,⟨oA,on,oc,oL⟩,⟨tA,tm,tc,tL⟩,⟨lA,ln,lc,lL⟩,ar,⟨bA,bn,bc,bL⟩⟩:=x
 have HB:=hide (below1 w (.cells #[.string nm,.slice rA rn rc,.slice oA on oc,.slice tA tm tc,.slice lA ln lc,.int .i64 ar,.slice bA bn bc] 28))
 have HC7:=hide fun (w':World) (y:Below (w.alloc (.cells #[.string nm,.slice rA rn rc,.slice oA on oc,.slice tA tm tc,.slice lA ln lc,.int .i64 ar,.slice bA bn bc] 28)).heap.size (w.alloc (.cells #[.string nm,.slice rA rn rc,.slice oA on oc,.slice tA tm tc,.slice lA ln lc,.int .i64 ar,.slice bA bn bc] 28)) w')=>cells7 y
 obtain ⟨x0,x1,x2,x3,x4,x5,x6⟩:=HC7.out _ (Below.refl _ _)
 obtain ⟨i1,hi1,hy0,hy1,hy2⟩:=info_parts info9Ints
 obtain ⟨i0,hi,hz0,hz1,hz2⟩:=info_parts info9Int
 go_enter Tryz.func17,Tryz.ntmps17
 go_wp2_with fail
 refine (HNF.out _ HB.out).mono ?_
 rintro e w1 ⟨⟨fb,K,rfl,hF,hfl,hK,hKn⟩,hb1⟩
 have HB1:=hide (HB.out.trans (hb1.mono HB.out.size))
 have HF1:=hide hF
 have HK:=hide hK
 have HBW:=hide hb1
 clear x0 x1 x2 x3 x4 x5 x6 hF hK
 obtain ⟨x0,x1,x2,x3,x4,x5,x6⟩:=HC7.out _ hb1
 clear hb1
 go_wp2_with fail
 refine (HCO.out _ HB1.out).mono ?_
 rintro e w2 ⟨rfl,hb2⟩
 clear x0 x1 x2 x3 x4 x5 x6
 have HB2:=hide hb2
 obtain ⟨sA,sc,bb,m,b1,b2,S,L,hFM⟩:=HF1.out.below hb2
 have hb3:=below1 w2 (.cells (Array.replicate C (.slice none 0 0)) 34)
 have hgx:Bx (w2.alloc (.cells (Array.replicate C (.slice none 0 0)) 34)) w2.heap.size (List.replicate C (.slice none 0 0)) 34:=by
  have h:=Bx.new w2 (List.replicate C (.slice none 0 0)) 34
  simpa using h
 have HFM:=hide fun (w':World) (y:Below w2.heap.size w2 w')=>hFM.below y
 have hFM3:=hFM.below hb3
 have f2:=hFM3.box.cell (j:=2) rfl
 obtain ⟨Dm,m1,m2,_⟩:=hFM3.sit.own
 have HSO:=hide (SortedS_own m K.length Dm K _ m1 m2 hFM3.sit.rng hKn)
 have HGX:=hide hgx
 have HB3:=hide (hb2.trans (hb3.mono hb2.size))
 have hs2:=hb2.size
 obtain ⟨Ls,hLs⟩:∃ L,setI K=L:=⟨_,rfl⟩
 have hLn:Ls.length≤1000000000:=by have:=setI_len K;rw [hLs] at this;omega
 have HLR:=hide (show ∀ z∈Ls,IntR z from fun z hz=>hFM3.sit.rng z (setI_mem.1 (hLs ▸ hz)))
 have HLS:=hide hLs
 rw [hLs] at HSO
 have hb3':Below w2.heap.size w2 (w2.alloc (.cells (Array.replicate C (.slice none 0 0)) 34)):=hb3
 clear hb2 hFM hFM3 hb3 hgx m1 m2 hLs
 go_wp2_with (first | (at_make;refine wpList_make1 _ rfl _ _ _ rfl 34 i1 _ Tryz.underlying38 hi1 hy0 hy1 rfl C rfl rfl (by rw [hy2];omega) (by omega) ?_) | fail)
 refine HSO.out.mono ?_
 rintro e w3 ⟨kA,kc,rfl,hko,hb4⟩
 have HB4:=hide (hb3'.trans (hb4.mono hb3'.size))
 have HKO:=hide hko
 have HG0:=hide (GridW.of_nil (HGX.out.below hb4) w3.heap.size 3 1 cInt)
 obtain ⟨kn,hkn⟩:∃ n,Ls.length=n:=⟨_,rfl⟩
 have HKN:=hide hkn
 rw [hkn] at hLn HKO ⊢
 have hgb3:w2.heap.size < w3.heap.size:=Nat.lt_of_lt_of_le HGX.out.lt hb4.size
 have HT0:=hide (Turn.refl (fun k=>k=w2.heap.size) w3)
 have HR0:=hide (show ∀ p,p < C→∃ z,(List.replicate C (⟨none,0,0,[]⟩:SlW Int))[p]?=some z∧z.L=lvF l p (Ls.take 0) from fun p hp=>⟨⟨none,0,0,[]⟩,by simp [hp],rfl⟩)
 have HL0:=hide (show (List.replicate C (⟨none,0,0,[]⟩:SlW Int)).length=C by simp)
 have hs12:w.heap.size≤w1.heap.size:=HB1.out.size
 clear hko hb4 hkn f2 hb3' HGX
 obtain ⟨gb,hgb⟩:∃ g,w2.heap.size=g:=⟨_,rfl⟩
 go_wp2_with fail
 rw [hgb] at HG0 HT0 hgb3
 have hgw:w.heap.size≤gb:=by rw [←hgb];omega
 have HGB:=hide hgb
 clear hgb
 go_loopw [21] (fun v wr=>∃ (i:Nat) (G:List (SlW Int)),v=.int .i64 (i:Int)∧i≤kn∧Hid (GridW wr w3.heap.size gb 34 3 1 cInt G)∧Hid (∀ p,p < C→∃ z,G[p]?=some z∧z.L=lvF l p (Ls.take i))∧Hid (G.length=C)∧Hid (Turn (fun k=>k=gb) w3 wr)) (fun v _=>kn - (intOf v).toNat)
 case atStart=>exact ⟨0,_,rfl,Nat.zero_le _,HG0,HR0,HL0,HT0⟩
 case round=>
  clear HG0 HR0 HL0 HT0
  obtain ⟨i,G,rfl,hi9,HG,HR,HL,HT⟩:=hrel
  have hwt:=HT.out.size
  by_cases hlt:i < kn
  ·
   have hlt':(i:Int) < (kn:Int):=by omega
   have hi0:(0:Int)≤(i:Int):=by omega
   obtain ⟨x,hx⟩:∃ x,Ls[i]?=some x:=⟨_,List.getElem?_eq_getElem (by rw [HKN.out];exact hlt)⟩
   have hko:=own_turn HKO.out HT.out (fun b hb e=>by have h:=(HKO.out.lt b hb).1;rw [World.size_alloc,HGB.out] at h;omega)
   obtain ⟨gk,zk,hgA,_,hgc⟩:=(Cells.of_own cInt_len (by decide) hko).at_ hx
   subst hgA
   have c0:wr.cell? ⟨gk,zk+i,none⟩=some (.int .i64 x):=by simpa using hgc 0 _ rfl
   have HXR:=hide (HLR.out x (List.mem_of_getElem? hx))
   have HTK:=hide (show Ls.take (i+1)=Ls.take i++[x] by rw [List.take_add_one,hx];rfl)
   have hb2r:Below w2.heap.size w2 wr:=HB4.out.trans (HT.out.below (by rw [HGB.out];omega) fun k hk=>by rw [HGB.out,hk];exact Nat.le_refl _)
   have HLV:=hide (FLive_any (HFM.out wr hb2r) HXR.out (by rw [HCC.out];exact hC) HEE.out)
   clear hx hko hgc hb2r
   go_wp2_with fail
   refine HLV.out.mono ?_
   rintro e w5 ⟨⟨A5,n5,c5,J,rfl,hoJ,hn5,hRJ,hcJ⟩,hb5⟩
   have HJ:=hide hoJ
   have HG5:=hide (HG.out.below hb5)
   have HT5:=hide (HT.out.trans (Turn.of_below hb5))
   have HJL:=hide (own_len cRun_len (by decide) hoJ)
   have HRJ:=hide hRJ
   have HCJ:=hide hcJ
   have HR5:=hide (show ∀ p,p < C→∃ z,G[p]?=some z∧z.L=lvF l p (Ls.take i)++List.replicate (covW (J.take 0) p) x from fun p hp=>by
    obtain ⟨z,h1,h2⟩:=HR.out p hp
    refine ⟨z,h1,?_⟩
    rw [List.take_zero,covW_nil,h2]
    simp)
   have hw5:=HT5.out.size
   have HFL:=hide fun (p:Nat)=>(show (lvF l p (Ls.take i)).length≤1000000000 from Nat.le_trans (lvF_len l p _) (by rw [List.length_take];omega))
   clear hoJ hRJ hcJ hb5 c0
   go_wp2_with fail
   obtain ⟨lo5,hlo5⟩:∃ n,wr.heap.size=n:=⟨_,rfl⟩
   have HJ:=hide (show w5.ownsRow lo5 94 2 (.slice A5 n5 c5) n5 (J.flatMap cRun) from hlo5 ▸ HJ.out)
   clear hlo5
   go_loopw [29] (fun v wr=>∃ (r:Nat) (G:List (SlW Int)),v=.int .i64 (r:Int)∧r≤n5∧Hid (GridW wr w3.heap.size gb 34 3 1 cInt G)∧Hid (∀ p,p < C→∃ z,G[p]?=some z∧z.L=lvF l p (Ls.take i)++List.replicate (covW (J.take r) p) x)∧Hid (G.length=C)∧Hid (Turn (fun k=>k=gb) w3 wr)∧Hid (wr.ownsRow lo5 94 2 (.slice A5 n5 c5) n5 (J.flatMap cRun))) (fun v _=>n5 - (intOf v).toNat)
   case atStart=>exact ⟨0,G,rfl,Nat.zero_le _,HG5,HR5,HL,HT5,HJ⟩
   case round=>
    clear HG5 HR5 HL HT5 HJ HG HR HT
    obtain ⟨r,G,rfl,hr9,HG,HR,HL,HT,HJ⟩:=hrel
    have hwt:=HT.out.size
    by_cases hrt:r < n5
    ·
     have hrt':(r:Int) < (n5:Int):=by omega
     have hr0:(0:Int)≤(r:Int):=by omega
     obtain ⟨ru,hru⟩:∃ z,J[r]?=some z:=⟨_,List.getElem?_eq_getElem (by rw [HJL.out];exact hrt)⟩
     obtain ⟨gj,zj,hgA,_,hgc⟩:=(Cells.of_own cRun_len (by decide) HJ.out).at_ hru
     subst hgA
     obtain ⟨a,b⟩:=ru
     have hab:=HRJ.out (a,b) (List.mem_of_getElem? hru)
     have hab1:a < b:=hab.1
     have hab2:b≤C:=by rw [←HCC.out];exact hab.2
     have c0:wr.cell? ⟨gj,zj+r*2,none⟩=some (.int .i64 (a:Int)):=by simpa using hgc 0 _ rfl
     have c1:wr.cell? ⟨gj,zj+r*2+1,none⟩=some (.int .i64 (b:Int)):=hgc 1 _ rfl
     have HTK:=hide (show J.take (r+1)=J.take r++[(a,b)] by rw [List.take_add_one,hru];rfl)
     have hb6:=below1 wr (.cells #[.int .i64 (a:Int),.int .i64 (b:Int)] 94)
     obtain ⟨wa,hwa⟩:∃ wa,wa=wr.alloc (.cells #[.int .i64 (a:Int),.int .i64 (b:Int)] 94):=⟨_,rfl⟩
     rw [←hwa] at hb6
     have hbx:Bx wa wr.heap.size [.int .i64 (a:Int),.int .i64 (b:Int)] 94:=by rw [hwa];exact Bx.new wr _ _
     have HX6:=hide hbx
     have y0:=hbx.cell (j:=0) rfl
     rw [hwa] at y0
     have HG6:=hide (HG.out.below hb6)
     have HT6:=hide (HT.out.trans (Turn.of_below hb6))
     have HJ6:=hide (ownsRow_below HJ.out hb6)
     have HR6:=hide (show ∀ p,p < C→∃ z,G[p]?=some z∧z.L=lvF l p (Ls.take i)++List.replicate (covW (J.take r++[(a,a)]) p) x from fun p hp=>by rw [covW_none];exact HR.out p hp)
     have HWA:=hide hwa
     have HCB:=hide fun (p t:Nat)=>(show covW (J.take r++[(a,t)]) p≤2001 from Nat.le_trans (covW_le _ p) (by rw [List.length_append,List.length_take,List.length_singleton];omega))
     clear hru hgc hab hb6 hbx hwa
     go_wp2_with fail
     rw [←HWA.out]
     clear y0 c0 c1
     generalize hxk:wr.heap.size=xk at *
     go_loopw [9] (fun v wr=>∃ (t:Nat) (G:List (SlW Int)),v=.int .i64 (t:Int)∧a≤t∧t≤b∧Hid (GridW wr w3.heap.size gb 34 3 1 cInt G)∧Hid (∀ p,p < C→∃ z,G[p]?=some z∧z.L=lvF l p (Ls.take i)++List.replicate (covW (J.take r++[(a,t)]) p) x)∧Hid (G.length=C)∧Hid (Turn (fun k=>k=gb) w3 wr)∧Hid (wr.ownsRow lo5 94 2 (.slice (some ⟨gj,zj,none⟩) n5 c5) n5 (J.flatMap cRun))∧Hid (Bx wr xk [.int .i64 (a:Int),.int .i64 (b:Int)] 94)) (fun v _=>b - (intOf v).toNat)
     case atStart=>exact ⟨a,G,rfl,Nat.le_refl _,Nat.le_of_lt hab1,HG6,HR6,HL,HT6,HJ6,HX6⟩
     case round=>
      clear HG6 HR6 HL HT6 HJ6 HX6 HG HR HT HJ
      obtain ⟨t,G,rfl,hat,htb,HG,HR,HL,HT,HJ,HX⟩:=hrel
      have hwt:=HT.out.size
      have y1:=HX.out.cell (j:=1) rfl
      by_cases htt:t < b
      ·
       have htt':(t:Int) < (b:Int):=by omega
       have ht0:(0:Int)≤(t:Int):=by omega
       have htC:(t:Int) < (C:Int):=by omega
       obtain ⟨z,hz,hzL⟩:=HR.out t (by omega)
       have hrow:=HG.out.own t z hz
       have hzn:z.n≤1000002001:=by
        have h1:z.L.length=z.n:=own_len (f:=cInt) cInt_len (by decide) hrow
        rw [hzL,List.length_append,List.length_replicate] at h1
        have h2:=HFL.out t
        have h3:=HCB.out t t
        omega
       have g1:=HG.out.cell hz
       have HZ:=hide hz
       have HZL:=hide hzL
       obtain ⟨zA,zn,zc,zL⟩:=z
       have hzn:zn≤1000002001:=hzn
       have g1:wr.cell? ⟨gb,t,none⟩=some (.slice zA zn zc):=g1
       have hb7:=below1 wr (.cells #[.int .i64 x] 3)
       have HB7:=hide hb7
       have q2:=ownsRow_below (show wr.ownsRow w3.heap.size 3 1 (.slice zA zn zc) zn (zL.flatMap cInt) from hrow) hb7
       have q3:∀ j u,([Value.int .i64 x])[j]?=some u→(wr.alloc (.cells #[.int .i64 x] 3)).cell? ((⟨wr.heap.size,0,none⟩:Addr).add j)=some u:=World.news_of_block (heap_alloc_new wr (.cells #[.int .i64 x] 3))
       have s5:IntKind.i64.wrap ((t:Int)+1)=(t:Int)+1:=wrapI9 _ (by omega) (by omega)
       have hws7:w3.heap.size≤(wr.alloc (.cells #[.int .i64 x] 3)).heap.size:=by rw [World.size_alloc];omega
       clear hz hzL hrow hb7
       go_wp2_with (at_builtin;refine wpList_append_lies _ rfl _ _ 34 rfl w3.heap.size 3 i0 _ 1 8 Tryz.underlying34 hi hz0 hz1 hz2 rfl (by decide) (.slice zA zn zc) zn (zL.flatMap cInt) rfl q2 ⟨wr.heap.size,0,none⟩ 1 1 [.int .i64 x] rfl rfl q3 (cInt_one x) (by decide) (by unfold maxLen;omega) (by omega) hws7 _ rfl ?_;intro g cap w8 hown8 hg8 hat8 hl8;obtain ⟨r1,r2,r3,r4⟩:=GridW.stored (s':=⟨some ⟨g,0,none⟩,zn+1,cap,zL++[x]⟩) HG.out HZ.out HB7.out hg8 (by rw [List.flatMap_append];exact hown8) (hat8.elim (fun e=>.inl e.symm) fun e=>.inr (by rw [e];rfl)) hgb3 hwt;have R3:=hide r3;have R4:=hide (r4 w3 HT.out (Nat.le_refl _));have hkt:=KT.of_grown hg8 q2;have hbg:=(show Bx w8 gb (G.map SlW.val) 34 from (((show Bx wr gb (G.map SlW.val) 34 from HG.out.blk).below HB7.out).kt hkt (by decide)));have hks:=KT.of_set hbg t (.slice (some ⟨g,0,none⟩) (zn+1) cap);have HJ8:=hide (own_kt (own_kt (ownsRow_below HJ.out HB7.out) hkt (by decide)) hks (by decide));have HX8:=hide (((HX.out.below HB7.out).kt hkt (by decide)).kt hks (by decide));clear r3 r4 hown8 hg8 hat8 hl8 hkt hbg hks)
       have HR8:=hide (show ∀ p,p < C→∃ z,(G.set t ⟨some ⟨g,0,none⟩,zn+1,cap,zL++[x]⟩)[p]?=some z∧z.L=lvF l p (Ls.take i)++List.replicate (covW (J.take r++[(a,t+1)]) p) x from fun p hp=>by
        obtain ⟨z,h1,h2⟩:=HR.out p hp
        have hlp:=(List.getElem?_eq_some_iff.1 h1).1
        rw [covW_up hat,List.getElem?_set]
        by_cases e:t=p
        ·
         subst e
         refine ⟨_,by rw [if_pos rfl,if_pos hlp],?_⟩
         rw [if_pos rfl,List.replicate_succ',← List.append_assoc]
         show zL++[x]=_
         rw [show zL=_ from HZL.out]
        ·
         refine ⟨z,by rw [if_neg e];exact h1,?_⟩
         rw [if_neg fun e2=>e e2.symm,Nat.add_zero]
         exact h2)
       go_roundw
       case rel=>exact ⟨t+1,_,by go_num,by omega,by omega,R3,HR8,hide (by rw [List.length_set];exact HL.out),R4,HJ8,HX8⟩
       case measure=>simp [intOf];omega
      ·
       have htt':¬(t:Int) < (b:Int):=by omega
       obtain rfl:t=b:=by omega
       go_wp2_with fail
       go_roundw
       case rel=>exact ⟨r+1,G,by go_num,hrt,HG,hide (by rw [HTK.out];exact HR.out),HL,HT,HJ⟩
       case measure=>simp [intOf];omega
    ·
     have hrt':¬(r:Int) < (n5:Int):=by omega
     have HR9:=hide (show ∀ p,p < C→∃ z,G[p]?=some z∧z.L=lvF l p (Ls.take (i+1)) from fun p hp=>by
      obtain ⟨z,h1,h2⟩:=HR.out p hp
      refine ⟨z,h1,?_⟩
      rw [HTK.out,lvF_up,← HCJ.out p (by rw [HCC.out];exact hp),h2,List.take_of_length_le (l:=J) (by rw [HJL.out];omega)])
     go_wp2_with fail
     go_roundw
     case rel=>exact ⟨i+1,G,by go_num,hlt,HG,HR9,HL,HT⟩
     case measure=>simp [intOf];omega
  ·
   have hlt':¬(i:Int) < (kn:Int):=by omega
   have HRO:=hide (GridW.rows (LL:=locsI l nl) HG.out hgw (Nat.le_trans hgw (Nat.le_of_lt hgb3)) (show C≤maxLen by unfold maxLen;omega) HL.out (by unfold locsI lvLL;rw [List.length_map,List.length_range,HCC.out]) fun j M hM=>by
    unfold locsI at hM
    have hj:j < C:=by
     have:=(List.getElem?_eq_some_iff.1 hM).1
     unfold lvLL at this
     rw [List.length_map,List.length_range,HCC.out] at this
     exact this
    rw [lvLL_at l nl (by rw [HCC.out];exact hj)] at hM
    injection hM with hM
    obtain ⟨z,h1,h2⟩:=HR.out j hj
    refine ⟨z,h1,?_⟩
    rw [h2,← hM,List.take_of_length_le (by rw [HKN.out];omega),← HLS.out]
    exact lvF_all HK.out HIN.out)
   have hll:(locsI l nl).length=C:=by unfold locsI lvLL;rw [List.length_map,List.length_range,HCC.out]
   have HLL:=hide hll
   have HBE:=hide (show Below w.heap.size w wr from HB1.out.trans ((HB2.out.mono hs12).trans ((HB4.out.mono (by rw [HGB.out];exact hgw)).trans (HT.out.below (by omega) fun k hk=>by omega))))
   clear hll
   go_wp2_with fail
   go_ret
   exact ⟨some ⟨gb,0,none⟩,C,_,by rw [HLL.out];rfl,HRO.out,HBE.out⟩
theorem tmU_in {E:Env} {t:TmV} (h:tmErr E t=0):∀ z∈tmU t,0≤z∧z < (E.lc.length:Int):=fun z hz=>by
 unfold tmErr at h
 repeat' (split at h)
 all_goals first | contradiction | skip
 all_goals
  unfold tmU at hz
  rcases List.mem_append.1 hz with hz | hz
  ·
   exact opsU_in (opsErr_zero.1 (Decidable.not_not.1 (by assumption))) z hz
  ·
   split at hz
   ·
    first
    | (exfalso;omega)
    | (rw [List.mem_singleton.1 hz];exact tyV_in (Decidable.not_not.1 (by assumption)))
   ·
    cases hz
theorem tm_shape {E:Env} {t:TmV} (h:tmErr E t=0):t.targets.length≤2∧(t.kind=1∨t.kind=3∨t.args.length=0):=by
  unfold tmErr at h
  split at h
  · cases h
  · split at h
    · cases h
    · rename_i h1
      have e : tmTgs t.kind ≤ 2 := by unfold tmTgs; repeat' split
                                      all_goals decide
      omega
theorem edges_len (l:List BkV):(edgesI l).length≤ptCount l*ptCount l:=by
 have h:∀ L:List Nat,(L.flatMap fun k:Nat=>(nextI l (k:Int)).map fun q=>((k:Int),q)).length≤L.length*ptCount l:=fun L=>by
  induction L with
  | nil=>simp
  | cons n L ih=>
   rw [List.flatMap_cons,List.length_append,List.length_cons,Nat.succ_mul,List.length_map]
   have:=next_len l (n:Int)
   omega
 have h2:=h (List.range (ptCount l))
 rw [List.length_range] at h2
 exact h2
section
variable {w:World} {x:BdW} (hx:OneBd w w.heap.size x)
include hx
theorem ok12tm (h:Ok12 x):TermU x.v.blocks:=fun b hb=>(tm_shape ((bd_in h.err).2 b hb).2).2
theorem ok12tg (h:Ok12 x):∀ b∈x.v.blocks,b.term.targets.length≤100000:=fun b hb=>Nat.le_trans (tm_shape ((bd_in h.err).2 b hb).2).1 (by decide)
theorem ok12ed (h:Ok12 x):(edgesI x.v.blocks).length≤200000:=by
 have h1:=edges_len x.v.blocks
 have h2:=h.sm.cnt
 exact Nat.le_trans h1 (Nat.le_trans (Nat.mul_le_mul h2 h2) (by decide))
theorem ok12in (h:Ok12 x):∀ q z,z∈usesI x.v.blocks q→0≤z∧z < (x.locals.n:Int):=fun q z hz=>by
 have e:x.v.env.lc.length=x.locals.n:=by
  show (x.v.locals.map LcV.ty).length=_
  rw [List.length_map]
  show (x.locals.L.map LcW.v).length=_
  rw [List.length_map]
  exact hx.locals.len
 rw [←e]
 cases hl:ptLocI x.v.blocks q with
 | none=>
  unfold usesI at hz
  rw [atI_none hl] at hz
  cases hz
 | some r=>
  obtain ⟨i,k⟩:=r
  obtain ⟨_,b,hb,hk,_⟩:=ptLocI_some hl
  unfold usesI at hz
  rw [atI_some hl hb,setI_mem] at hz
  obtain ⟨h1,h2⟩:=(bd_in h.err).2 b (List.mem_of_getElem? hb)
  unfold useAt at hz
  cases hs:b.stmts[k]? with
  | none=>rw [hs] at hz;exact tmU_in h2 z hz
  | some s=>rw [hs] at hz;exact stU_in (h1 s (List.mem_of_getElem? hs)) z hz
end
def Pre12 (w:World):Prop:=OpsT w
theorem Pre12.up {w w':World} (h:Pre12 w) (y:Below w.heap.size w w'):Pre12 w':=OpsT.up h y
theorem CUses {w:World} {x:BdW} (hT:Pre12 w) (hx:OneBd w w.heap.size x) (h:Ok12 x) {p:Int} (hp:IntR p) (w':World) (y:Below w.heap.size w w'):Calls Tryz.prog 14 #[aggBd x,.int .i64 p] w' (IntsOut9 w' (usesI x.v.blocks p)):=
 PUses_any x p w' (hx.up y) (Nat.le_trans h.sm.cnt (by decide)) hp (small12 hx h.sm.sz) (ok12tm hx h)
theorem CDefs {w:World} {x:BdW} (hT:Pre12 w) (hx:OneBd w w.heap.size x) (h:Ok12 x) {p:Int} (hp:IntR p) (w':World) (y:Below w.heap.size w w'):Calls Tryz.prog 11 #[aggBd x,.int .i64 p] w' fun e w2=>e=.returned (vDef (defI x.v.blocks p))∧Below w'.heap.size w' w2:=
 PDefines_any x p w' (hx.up y) (Nat.le_trans h.sm.cnt (by decide)) hp (small12 hx h.sm.sz) (ok12tm hx h)
theorem CRows {w:World} {x:BdW} (hT:Pre12 w) (hx:OneBd w w.heap.size x) (h:Ok12 x) (w':World) (y:Below w.heap.size w w'):Calls Tryz.prog 17 #[aggBd x] w' (RowsOut w' (locsI x.v.blocks x.locals.n)):=
 PLocals_any x x.locals.n w' (hx.up y) (Nat.le_trans h.sm.cnt (by decide)) (ok12tg hx h) (small12 hx h.sm.sz) (ok12tm hx h) (ok12ed hx h) (ok12in hx h)
theorem DeclNo_any (x:BdW) (w:World) (hx:OneBd w w.heap.size x) (hn:identB x.name=false) :
  Calls Tryz.prog 82 #[aggBd x] w fun e w'=>e=.returned (.int .i64 12)∧Below w.heap.size w w':=by
 have hnm:=hx.name
 clear hx
 obtain ⟨nm,⟨rA,rn,rc,rL⟩,⟨oA,on,oc,oL⟩,⟨tA,tm,tc,tL⟩,⟨lA,ln,lc,lL⟩,ar,⟨bA,bn,bc,bL⟩⟩:=x
 have HB:=hide (below1 w (.cells #[.string nm,.slice rA rn rc,.slice oA on oc,.slice tA tm tc,.slice lA ln lc,.int .i64 ar,.slice bA bn bc] 28))
 obtain ⟨x0,x1,x2,x3,x4,x5,x6⟩:=cells7 (Below.refl (w.alloc (.cells #[.string nm,.slice rA rn rc,.slice oA on oc,.slice tA tm tc,.slice lA ln lc,.int .i64 ar,.slice bA bn bc] 28)).heap.size (w.alloc (.cells #[.string nm,.slice rA rn rc,.slice oA on oc,.slice tA tm tc,.slice lA ln lc,.int .i64 ar,.slice bA bn bc] 28)))
 have HI:=hide fun (w':World)=>IsIdent_is (s:=nm) hn w' hnm
 clear hn hnm
 go_enter Tryz.func82,Tryz.ntmps82
 go_wp2_with fail
 refine (HI.out _).mono ?_
 rintro e w1 ⟨rfl,rfl⟩
 go_wp2
 go_ret
 exact ⟨rfl,HB.out⟩
theorem CheckNo_any (x:BdW) (w:World) (hx:OneBd w w.heap.size x) (hn:identB x.name=false) :
  Calls Tryz.prog 48 #[aggBd x] w fun e w'=>e=.returned (.int .i64 12)∧Below w.heap.size w w':=by
 have HD:=hide fun (w':World) (y:Below w.heap.size w w')=>DeclNo_any x w' (hx.up y) hn
 clear hx hn
 obtain ⟨nm,⟨rA,rn,rc,rL⟩,⟨oA,on,oc,oL⟩,⟨tA,tm,tc,tL⟩,⟨lA,ln,lc,lL⟩,ar,⟨bA,bn,bc,bL⟩⟩:=x
 have HB:=hide (below1 w (.cells #[.string nm,.slice rA rn rc,.slice oA on oc,.slice tA tm tc,.slice lA ln lc,.int .i64 ar,.slice bA bn bc] 28))
 obtain ⟨x0,x1,x2,x3,x4,x5,x6⟩:=cells7 (Below.refl (w.alloc (.cells #[.string nm,.slice rA rn rc,.slice oA on oc,.slice tA tm tc,.slice lA ln lc,.int .i64 ar,.slice bA bn bc] 28)).heap.size (w.alloc (.cells #[.string nm,.slice rA rn rc,.slice oA on oc,.slice tA tm tc,.slice lA ln lc,.int .i64 ar,.slice bA bn bc] 28)))
 go_enter Tryz.func48,Tryz.ntmps48
 go_wp2_with fail
 refine (HD.out _ HB.out).mono ?_
 rintro e w1 ⟨rfl,hb1⟩
 have HB1:=hide (HB.out.trans (hb1.mono HB.out.size))
 clear hb1 x0 x1 x2 x3 x4 x5 x6
 go_wp2
 go_ret
 exact ⟨rfl,HB1.out⟩
theorem RegsBad_any (x:BdW) (c:Int) (hc:(c != 0)=true) (w:World) (HC:∀ w',Below w.heap.size w w'→Calls Tryz.prog 48 #[aggBd x] w' fun e w2=>e=.returned (.int .i64 c)∧Below w'.heap.size w' w2) :
  Calls Tryz.prog 22 #[aggBd x] w fun e w'=>e=.returned (.tuple #[.slice none 0 0,.int .i64 16])∧Below w.heap.size w w':=by
 have HD:=hide HC
 clear HC
 obtain ⟨nm,⟨rA,rn,rc,rL⟩,⟨oA,on,oc,oL⟩,⟨tA,tm,tc,tL⟩,⟨lA,ln,lc,lL⟩,ar,⟨bA,bn,bc,bL⟩⟩:=x
 have HB:=hide (below1 w (.cells #[.string nm,.slice rA rn rc,.slice oA on oc,.slice tA tm tc,.slice lA ln lc,.int .i64 ar,.slice bA bn bc] 28))
 obtain ⟨x0,x1,x2,x3,x4,x5,x6⟩:=cells7 (Below.refl (w.alloc (.cells #[.string nm,.slice rA rn rc,.slice oA on oc,.slice tA tm tc,.slice lA ln lc,.int .i64 ar,.slice bA bn bc] 28)).heap.size (w.alloc (.cells #[.string nm,.slice rA rn rc,.slice oA on oc,.slice tA tm tc,.slice lA ln lc,.int .i64 ar,.slice bA bn bc] 28)))
 go_enter Tryz.func22,Tryz.ntmps22
 go_wp2_with fail
 refine (HD.out _ HB.out).mono ?_
 rintro e w1 ⟨rfl,hb1⟩
 have HB1:=hide (HB.out.trans (hb1.mono HB.out.size))
 clear hb1 x0 x1 x2 x3 x4 x5 x6
 go_wp2
 go_ret2
 exact ⟨rfl,HB1.out⟩
theorem CRegs_no {w:World} {x:BdW} (hT:Pre12 w) (hx:OneBd w w.heap.size x) (hn:identB x.name=false) (w':World) (y:Below w.heap.size w w'):Calls Tryz.prog 22 #[aggBd x] w' fun e w2=>e=.returned (.tuple #[.slice none 0 0,.int .i64 16])∧Below w'.heap.size w' w2:=
 RegsBad_any x 12 (by decide) w' fun w2 y2=>CheckNo_any x w2 ((hx.up y).up y2) hn
theorem cells_bx {α:Type} {w:World} {g k B:Nat} {T:TypeId} {f:α→List Value} (hk:∀ x,(f x).length=k) {L:List α} (h:Bx w g (L.flatMap f) T) (hB:g < B):Cells w B k f (some ⟨g,0,none⟩) L.length L:=by
 refine ⟨rfl,fun _=>⟨g,0,rfl,hB,fun i x hx j u hu=>?_⟩⟩
 have hj:j < k:=by have:=(List.getElem?_eq_some_iff.1 hu).1;rwa [hk] at this
 rw [cell_of_row w g (0+i*k+j) (L.flatMap f).toArray T (0,0) h,Nat.zero_add]
 rw [List.getElem?_toArray,flatMap_at hk hx hj,hu]
theorem nil12 {α:Type} (w:World) (B k:Nat) (f:α→List Value) (Q:α→Prop):SlH w B k f Q ⟨none,0,0,[]⟩:=⟨Nat.le_refl _,Nat.zero_le _,⟨rfl,fun h=>absurd h (Nat.lt_irrefl 0)⟩,fun x hx=>by cases hx⟩
theorem int12 {x:Int} (h:-100≤x∧x≤100):IntR x:=⟨by omega,by omega⟩
theorem i012:IntR 0:=int12 (by decide)
theorem i212:IntR 2:=int12 (by decide)
theorem pl12 (w:World) (B:Nat) {l:Int} (h:-100≤l∧l≤100):OnePl w B ⟨l,none,0,0,[]⟩:=⟨Nat.le_refl _,Nat.zero_le _,int12 h,⟨⟨rfl,fun h=>absurd h (Nat.lt_irrefl 0)⟩,fun x hx=>by cases hx⟩⟩
abbrev ty12:TyW:=⟨⟨2,false,0,0,[]⟩,none,0,0⟩
abbrev lx12:LcW:=⟨⟨#[120]⟩,0⟩
abbrev ly12:LcW:=⟨⟨#[121]⟩,0⟩
abbrev op12 (k:Int):OpW:=⟨k,⟨0,none,0,0,[]⟩,0⟩
abbrev st12 (l k:Int) (A:Option Addr):StW:=⟨0,⟨l,none,0,0,[]⟩,⟨0,0,0,false,⟨0,none,0,0,[]⟩,⟨A,1,1,[op12 k]⟩⟩,0⟩
abbrev bk12 (g:Nat):BkW:=⟨⟨some ⟨g+1+1+1+1+1+1,0,none⟩,2,2,[st12 0 2 (some ⟨g+1+1+1+1,0,none⟩),st12 1 0 (some ⟨g+1+1+1+1+1,0,none⟩)]⟩,⟨2,⟨none,0,0,[]⟩,⟨none,0,0,[]⟩,⟨0,none,0,0,[]⟩,.empty⟩⟩
abbrev ex12 (g:Nat):BdW:=⟨⟨#[102]⟩,⟨none,0,0,[]⟩,⟨none,0,0,[]⟩,⟨some ⟨g+1+1,0,none⟩,1,1,[ty12]⟩,⟨some ⟨g+1+1+1,0,none⟩,2,2,[lx12,ly12]⟩,0,⟨some ⟨g+1+1+1+1+1+1+1,0,none⟩,1,1,[bk12 g]⟩⟩
abbrev no12:BdW:=⟨.empty,⟨none,0,0,[]⟩,⟨none,0,0,[]⟩,⟨none,0,0,[]⟩,⟨none,0,0,[]⟩,0,⟨none,0,0,[]⟩⟩
theorem no12_one (w:World) (B:Nat):OneBd w B no12:=⟨(show (0:Nat)≤maxLen by decide),nil12 _ _ _ _ _,nil12 _ _ _ _ _,nil12 _ _ _ _ _,nil12 _ _ _ _ _,int12 (by decide),nil12 _ _ _ _ _⟩
def lay (w:World) (L:List Obj):World:=L.foldl World.alloc w
theorem lay_size:∀ (L:List Obj) (w:World),(lay w L).heap.size=w.heap.size+L.length
 | [],w=>rfl
 | o :: L,w=>by
  show (lay (w.alloc o) L).heap.size=_
  rw [lay_size L]
  simp
  omega
theorem lay_below:∀ (L:List Obj) (w:World) (B:Nat),B≤w.heap.size→Below B w (lay w L)
 | [],w,B,h=>Below.refl _ _
 | o :: L,w,B,h=>((Below.refl B w).alloc h o).trans (lay_below L (w.alloc o) B (by simp;omega))
theorem lay_bx:∀ (L:List Obj) (w:World) (i:Nat) (cs:List Value) (T:TypeId),L[i]?=some (.cells cs.toArray T)→Bx (lay w L) (w.heap.size+i) cs T
 | o :: L,w,0,cs,T,h=>by
  injection h with h
  subst h
  exact (Bx.new w cs T).below (lay_below L _ _ (Nat.le_refl _))
 | o :: L,w,i+1,cs,T,h=>by
  have e:=lay_bx L (w.alloc o) i cs T h
  rw [show (w.alloc o).heap.size+i=w.heap.size+(i+1) from by simp;omega] at e
  exact e
def obs12 (w:World):List Obj:=[.cells #[.int .i64 0,.slice none 0 0] 58,.cells #[.int .i64 1,.slice none 0 0] 58,.cells #[.int .i64 2,.bool false,.int .i64 0,.int .i64 0,.slice none 0 0] 65,.cells #[.string ⟨#[120]⟩,.int .i64 0,.string ⟨#[121]⟩,.int .i64 0] 67,.cells #[.int .i64 2,.int .i64 0,.slice none 0 0,.int .i64 0] 69,.cells #[.int .i64 0,.int .i64 0,.slice none 0 0,.int .i64 0] 69,.cells #[.int .i64 0,.int .i64 0,.slice none 0 0,.int .i64 0,.int .i64 0,.int .i64 0,.bool false,.int .i64 0,.slice none 0 0,.slice (some ⟨w.heap.size+1+1+1+1,0,none⟩) 1 1,.int .i64 0,.int .i64 0,.int .i64 1,.slice none 0 0,.int .i64 0,.int .i64 0,.int .i64 0,.bool false,.int .i64 0,.slice none 0 0,.slice (some ⟨w.heap.size+1+1+1+1+1,0,none⟩) 1 1,.int .i64 0] 73,.cells #[.slice (some ⟨w.heap.size+1+1+1+1+1+1,0,none⟩) 2 2,.int .i64 2,.slice none 0 0,.slice none 0 0,.int .i64 0,.slice none 0 0,.string .empty] 62,.cells #[.string ⟨#[102]⟩,.slice none 0 0,.slice none 0 0,.slice (some ⟨w.heap.size+1+1,0,none⟩) 1 1,.slice (some ⟨w.heap.size+1+1+1,0,none⟩) 2 2,.int .i64 0,.slice (some ⟨w.heap.size+1+1+1+1+1+1+1,0,none⟩) 1 1] 28]
abbrev ex12W (w:World):World:=lay w (obs12 w)
theorem ex12W_size (w:World):(ex12W w).heap.size=w.heap.size+9:=lay_size _ _
theorem ex12W_below (w:World):Below w.heap.size w (ex12W w):=lay_below _ _ _ (Nat.le_refl _)
theorem ex12_b2 (w:World):Bx (ex12W w) (w.heap.size+1+1) ([ty12].flatMap c5) 65:=lay_bx (obs12 w) w 2 _ _ rfl
theorem ex12_b3 (w:World):Bx (ex12W w) (w.heap.size+1+1+1) ([lx12,ly12].flatMap cLc) 67:=lay_bx (obs12 w) w 3 _ _ rfl
theorem ex12_b4 (w:World):Bx (ex12W w) (w.heap.size+1+1+1+1) ([op12 2].flatMap cOp) 69:=lay_bx (obs12 w) w 4 _ _ rfl
theorem ex12_b5 (w:World):Bx (ex12W w) (w.heap.size+1+1+1+1+1) ([op12 0].flatMap cOp) 69:=lay_bx (obs12 w) w 5 _ _ rfl
theorem ex12_b6 (w:World):Bx (ex12W w) (w.heap.size+1+1+1+1+1+1) ([st12 0 2 (some ⟨w.heap.size+1+1+1+1,0,none⟩),st12 1 0 (some ⟨w.heap.size+1+1+1+1+1,0,none⟩)].flatMap cSt) 73:=lay_bx (obs12 w) w 6 _ _ rfl
theorem ex12_b7 (w:World):Bx (ex12W w) (w.heap.size+1+1+1+1+1+1+1) ([bk12 w.heap.size].flatMap cBk) 62:=lay_bx (obs12 w) w 7 _ _ rfl
theorem ex12_b8 (w:World):Bx (ex12W w) (w.heap.size+1+1+1+1+1+1+1+1) ([.string ⟨#[102]⟩,.slice none 0 0,.slice none 0 0,.slice (some ⟨w.heap.size+1+1,0,none⟩) 1 1,.slice (some ⟨w.heap.size+1+1+1,0,none⟩) 2 2,.int .i64 0,.slice (some ⟨w.heap.size+1+1+1+1+1+1+1,0,none⟩) 1 1]) 28:=lay_bx (obs12 w) w 8 _ _ rfl
theorem ex12_cells {w w':World} (h:Below (ex12W w).heap.size (ex12W w) w'):w'.cell? ⟨w.heap.size+1+1+1+1+1+1+1+1,0,none⟩=some (.string ⟨#[102]⟩)∧w'.cell? ⟨w.heap.size+1+1+1+1+1+1+1+1,1,none⟩=some (.slice none 0 0)∧w'.cell? ⟨w.heap.size+1+1+1+1+1+1+1+1,2,none⟩=some (.slice none 0 0)∧w'.cell? ⟨w.heap.size+1+1+1+1+1+1+1+1,3,none⟩=some (.slice (some ⟨w.heap.size+1+1,0,none⟩) 1 1)∧w'.cell? ⟨w.heap.size+1+1+1+1+1+1+1+1,4,none⟩=some (.slice (some ⟨w.heap.size+1+1+1,0,none⟩) 2 2)∧w'.cell? ⟨w.heap.size+1+1+1+1+1+1+1+1,5,none⟩=some (.int .i64 0)∧w'.cell? ⟨w.heap.size+1+1+1+1+1+1+1+1,6,none⟩=some (.slice (some ⟨w.heap.size+1+1+1+1+1+1+1,0,none⟩) 1 1):=by
 have b:=(ex12_b8 w).below h
 exact ⟨b.cell rfl,b.cell rfl,b.cell rfl,b.cell rfl,b.cell rfl,b.cell rfl,b.cell rfl⟩
theorem ex12_one (w:World):OneBd (ex12W w) (ex12W w).heap.size (ex12 w.heap.size):=by
 have hsz:=ex12W_size w
 have one1:(1:Nat)≤maxLen:=by decide
 have two2:(2:Nat)≤maxLen:=by decide
 have hop:∀ k:Int,-100≤k∧k≤100→OneOp (ex12W w) (ex12W w).heap.size (op12 k):=fun k hk=>⟨int12 hk,pl12 _ _ (by decide),i012⟩
 have hst:∀ (l k:Int) (g:Nat),-100≤l∧l≤100→-100≤k∧k≤100→g < (ex12W w).heap.size→Bx (ex12W w) g ([op12 k].flatMap cOp) 69→OneSt (ex12W w) (ex12W w).heap.size (st12 l k (some ⟨g,0,none⟩)):=fun l k g hl hk hg hb=>
  ⟨i012,pl12 _ _ hl,⟨i012,i012,i012,pl12 _ _ (by decide),⟨Nat.le_refl _,one1,cells_bx cOp_len hb hg,fun x hx=>by obtain rfl:x=op12 k:=(by simpa using hx);exact hop k hk⟩⟩,i012⟩
 have hbk:OneBk (ex12W w) (ex12W w).heap.size (bk12 w.heap.size):=by
  refine ⟨⟨Nat.le_refl _,two2,cells_bx cSt_len (ex12_b6 w) (by omega),fun x hx=>?_⟩,⟨i212,nil12 _ _ _ _ _,nil12 _ _ _ _ _,pl12 _ _ (by decide),(show (0:Nat)≤maxLen by decide)⟩⟩
  rcases List.mem_cons.1 hx with rfl | hx
  ·
   exact hst 0 2 _ (by decide) (by decide) (by omega) (ex12_b4 w)
  ·
   obtain rfl:=List.mem_singleton.1 hx
   exact hst 1 0 _ (by decide) (by decide) (by omega) (ex12_b5 w)
 refine ⟨one1,nil12 _ _ _ _ _,nil12 _ _ _ _ _,⟨Nat.le_refl _,one1,cells_bx c5_len (ex12_b2 w) (by omega),fun x hx=>?_⟩,⟨Nat.le_refl _,two2,cells_bx cLc_len (ex12_b3 w) (by omega),fun x hx=>?_⟩,i012,⟨Nat.le_refl _,one1,cells_bx cBk_len (ex12_b7 w) (by omega),fun x hx=>?_⟩⟩
 ·
  obtain rfl:x=ty12:=(by simpa using hx)
  exact ⟨⟨Nat.le_refl _,Nat.zero_le _,rfl,int12 (by decide),int12 (by decide),int12 (by decide),fun x hx=>by cases hx⟩,⟨rfl,fun h=>absurd h (Nat.lt_irrefl 0)⟩⟩
 ·
  rcases List.mem_cons.1 hx with rfl | hx
  ·
   exact ⟨int12 (by decide),one1⟩
  ·
   obtain rfl:=List.mem_singleton.1 hx
   exact ⟨int12 (by decide),one1⟩
 ·
  obtain rfl:x=bk12 w.heap.size:=(by simpa using hx)
  exact hbk
def exL12:List BkV:=[⟨[⟨0,⟨0,[]⟩,⟨0,0,0,false,⟨0,[]⟩,[⟨2,⟨0,[]⟩,0⟩]⟩,0⟩,⟨0,⟨1,[]⟩,⟨0,0,0,false,⟨0,[]⟩,[⟨0,⟨0,[]⟩,0⟩]⟩,0⟩],⟨2,[],[],⟨0,[]⟩,.empty⟩⟩]
theorem ex12_v (g:Nat):(ex12 g).v.blocks=exL12:=rfl
theorem ex12_count:ptCount exL12=3:=by decide
theorem ex12_u0:usesI exL12 (0:Nat)=[]:=by decide
theorem ex12_u1:usesI exL12 (1:Nat)=[0]:=by decide
theorem ex12_u2:usesI exL12 (2:Nat)=[]:=by decide
theorem ex12_n0:nxN exL12 (0:Nat)=[1]:=by decide
theorem ex12_n1:nxN exL12 (1:Nat)=[2]:=by decide
theorem ex12_n2:nxN exL12 (2:Nat)=[]:=by decide
theorem ex12_d0:defI exL12 (0:Nat)=some 0:=by decide
theorem ex12_l2 (x:Int):¬LiveP exL12 x 2:=fun h=>by
 rcases live_eq.1 h with h | ⟨_,q,hq,_⟩
 ·
  rw [ex12_u2] at h;cases h
 ·
  rw [ex12_n2] at hq;cases hq
theorem ex12_l1 (x:Int):LiveP exL12 x 1↔x=0:=by
 rw [live_eq,ex12_u1,ex12_n1]
 refine ⟨fun h=>?_,fun h=>.inl (by rw [h];simp)⟩
 rcases h with h | ⟨_,q,hq,h⟩
 ·
  simpa using h
 ·
  rw [List.mem_singleton.1 hq] at h
  exact absurd h (ex12_l2 x)
theorem ex12_l0 (x:Int):¬LiveP exL12 x 0:=fun h=>by
 rcases live_eq.1 h with h | ⟨hd,q,hq,h⟩
 ·
  rw [ex12_u0] at h;cases h
 ·
  rw [ex12_n0] at hq
  rw [List.mem_singleton.1 hq,ex12_l1] at h
  rw [ex12_d0,h] at hd
  exact hd rfl
theorem ex12_rows (g:Nat):locsI (ex12 g).v.blocks (ex12 g).locals.n=[[],[0],[]]:=by
 show locsI exL12 2=_
 unfold locsI
 rw [ex12_count]
 show [lvI exL12 0 2,lvI exL12 1 2,lvI exL12 2 2]=_
 have h0:lvI exL12 0 2=[]:=List.eq_nil_iff_forall_not_mem.2 fun z hz=>ex12_l0 z (lvI_mem.1 hz).2
 have h2:lvI exL12 2 2=[]:=List.eq_nil_iff_forall_not_mem.2 fun z hz=>ex12_l2 z (lvI_mem.1 hz).2
 have h1:lvI exL12 1 2=[0]:=asc_eq12 (lvI_asc _ _ _) (List.pairwise_singleton _ _) fun z=>by
  rw [lvI_mem,ex12_l1,List.mem_singleton]
  omega
 rw [h0,h1,h2]
theorem id12 {s:ByteArray} {c:Int} (h:sB s=[c]) (hs:s.size=1) (hc:letB c=true):identB s=true:=
 identB_yes (by omega) (by omega) fun j hj d hd=>by
  rw [h] at hd
  have:j=0:=by omega
  subst this
  injection hd with hd
  exact .inl (hd ▸ hc)
theorem id12f:identB ⟨#[102]⟩=true:=id12 (c:=102) rfl rfl rfl
theorem id12x:identB ⟨#[120]⟩=true:=id12 (c:=120) rfl rfl rfl
theorem id12y:identB ⟨#[121]⟩=true:=id12 (c:=121) rfl rfl rfl
theorem de12 (g:Nat):deErr (ex12 g).v=0:=by
 have hne:(⟨#[121]⟩:ByteArray)≠⟨#[120]⟩:=fun h=>by injection h with h;revert h;decide
 have h1:hasB [] (⟨#[120]⟩:ByteArray)=false:=hasB_not.2 (by simp)
 have h3:hasB [⟨#[120]⟩] (⟨#[121]⟩:ByteArray)=false:=hasB_not.2 (by simp)
 have h2:lcErr 1 [] [⟨⟨#[120]⟩,0⟩,⟨⟨#[121]⟩,0⟩]=0:=by
  show (if identB ⟨#[120]⟩=false then (12:Int) else if hasB [] ⟨#[120]⟩=true then 21 else if (0:Int) < 0∨((1:Nat):Int)≤0 then 3 else if identB ⟨#[121]⟩=false then (12:Int) else if hasB [⟨#[120]⟩] ⟨#[121]⟩=true then 21 else if (0:Int) < 0∨((1:Nat):Int)≤0 then 3 else 0)=0
  rw [h1,h3,id12x,id12y]
  decide
 unfold deErr
 rw [if_neg (show ¬identB (ex12 g).v.name=false by show ¬identB ⟨#[102]⟩=false;rw [id12f];decide),if_neg (show ¬65535 < (ex12 g).v.regions.length by show ¬65535 < 0;decide),if_neg (show ¬rgErr [] (ex12 g).v.regions≠0 by show ¬(0:Int)≠0;decide),if_neg (show ¬prChk (ex12 g).v.outl (ex12 g).v.regions.length≠0 by show ¬prChk [] 0≠0;decide),
  if_neg (show ¬tyChk (ex12 g).v.types (ex12 g).v.regions.length≠0 by show ¬tyChk [⟨2,false,0,0,[]⟩] 0≠0;decide),if_neg (show ¬65535 < (ex12 g).v.locals.length by show ¬65535 < 2;decide),if_neg (show ¬lcErr (ex12 g).v.types.length [] (ex12 g).v.locals≠0 by show ¬lcErr 1 [] [⟨⟨#[120]⟩,0⟩,⟨⟨#[121]⟩,0⟩]≠0;rw [h2];decide),if_neg (show ¬((ex12 g).v.args < 0∨((ex12 g).v.locals.length:Int) < (ex12 g).v.args) by show ¬((0:Int) < 0∨((2:Nat):Int) < 0);decide)]
 exact if_neg (show ¬((1:Nat)=0∨65535 < 1) by decide)
def E12:Env:=⟨[⟨2,false,0,0,[]⟩],[0,0],[],0,1⟩
theorem env12 (g:Nat):(ex12 g).v.env=E12:=rfl
theorem tm12:tmErr E12 ⟨2,[],[],⟨0,[]⟩,.empty⟩=0:=by
 unfold tmErr
 rw [if_neg (by decide),if_neg (by decide),if_neg (by decide),if_neg (by decide),if_neg (by decide),if_neg (by decide),if_neg (by decide)]
 exact if_pos (by decide)
theorem stA12:stErr E12 ⟨0,⟨0,[]⟩,⟨0,0,0,false,⟨0,[]⟩,[⟨2,⟨0,[]⟩,0⟩]⟩,0⟩=0:=by
 unfold stErr
 rw [if_pos rfl,if_neg (by decide),if_neg (by decide),if_neg (by decide)]
 unfold asErr
 rw [if_neg (by decide),if_neg (by decide),if_neg (by decide),if_neg (by decide),if_neg (by decide),if_pos rfl,if_pos]
 show (fitT E12 ⟨2,⟨0,[]⟩,0⟩ (tyV E12 ⟨0,[]⟩).1 && true)=true
 rw [show fitT E12 ⟨2,⟨0,[]⟩,0⟩ (tyV E12 ⟨0,[]⟩).1=conK 2 (tyGet E12.T (tyV E12 ⟨0,[]⟩).1).kind from if_pos (show (1:Int) < 2 by decide)]
 decide
theorem stB12:stErr E12 ⟨0,⟨1,[]⟩,⟨0,0,0,false,⟨0,[]⟩,[⟨0,⟨0,[]⟩,0⟩]⟩,0⟩=0:=by
 unfold stErr
 rw [if_pos rfl,if_neg (by decide),if_neg (by decide),if_neg (by decide)]
 unfold asErr
 rw [if_neg (by decide),if_neg (by decide),if_neg (by decide),if_neg (by decide),if_neg (by decide),if_pos rfl,if_pos]
 show (fitT E12 ⟨0,⟨0,[]⟩,0⟩ (tyV E12 ⟨1,[]⟩).1 && true)=true
 rw [show fitT E12 ⟨0,⟨0,[]⟩,0⟩ (tyV E12 ⟨1,[]⟩).1=sub (out E12.ps E12.rg) E12.T (tyV E12 ⟨0,[]⟩).1 (tyV E12 ⟨1,[]⟩).1 from if_neg (show ¬(1:Int) < 0 by decide)]
 rw [show (tyV E12 ⟨0,[]⟩).1=(0:Int) from by decide,show (tyV E12 ⟨1,[]⟩).1=(0:Int) from by decide]
 have hT:TyOk E12.T 0:=tyChk_iff.1 (show tyChk [⟨2,false,0,0,[]⟩] 0=0 by decide)
 rw [sub_iff.2 (sub_refl hT (fun x h1 h2=>absurd h1 (by omega)) 1 0 ⟨2,false,0,0,[]⟩ (by decide) rfl)]
 rfl
theorem bd12 (g:Nat):bdErr (ex12 g).v=0:=by
 unfold bdErr
 rw [if_neg (show ¬deErr (ex12 g).v≠0 by rw [de12];decide),env12]
 refine bksErr_zero.2 fun b hb=>?_
 obtain rfl:b=(bk12 g).v:=List.mem_singleton.1 hb
 refine bkErr_zero.2 ⟨(show 2≤65535 by decide),(fun s hs=>?_),tm12⟩
 rcases List.mem_cons.1 hs with rfl | hs
 ·
  exact stA12
 ·
  obtain rfl:=List.mem_singleton.1 hs
  exact stB12
theorem ok12 (g:Nat):Ok12 (ex12 g):=by
 refine ⟨⟨?_,?_,?_,?_,?_,?_⟩,bd12 g⟩
 ·
  rw [ex12_v,ex12_count];decide
 ·
  show 2≤20;decide
 ·
  show 0≤10;decide
 ·
  show 1≤1000;decide
 ·
  show szB (ex12 0)≤3000;decide
 ·
  show 1≤200;decide
theorem alive12_any (w:World) (hT:Pre12 w):Calls Tryz.prog 10 #[] w fun e w'=>e=.returned (.bool true)∧Below w.heap.size w w':=by
 have HB0:=hide (ex12W_below w)
 have HC:=hide fun (w':World) (y:Below (ex12W w).heap.size (ex12W w) w')=>ex12_cells y
 have hT2:=hT.up HB0.out
 have HL:=hide fun (w':World) (y:Below (ex12W w).heap.size (ex12W w) w')=>(show Calls Tryz.prog 17 #[aggBd (ex12 w.heap.size)] w' (RowsOut w' [[],[0],[]]) from by
  have h:=CRows hT2 (ex12_one w) (ok12 _) w' y
  rw [ex12_rows] at h
  exact h)
 have HD:=hide fun (w':World) (y:Below (ex12W w).heap.size (ex12W w) w')=>(show Calls Tryz.prog 11 #[aggBd (ex12 w.heap.size),.int .i64 0] w' fun e w2=>e=.returned (.tuple #[.int .i64 0,.bool true])∧Below w'.heap.size w' w2 from by
  have h:=CDefs hT2 (ex12_one w) (ok12 _) (p:=0) i012 w' y
  rw [ex12_v,show defI exL12 0=some 0 from ex12_d0] at h
  exact h)
 have HG:=hide fun (w':World) (y:Below (ex12W w).heap.size (ex12W w) w')=>CRegs_no hT2 (no12_one _ _) (show identB .empty=false by decide) w' y
 have HU:=hide fun (w':World) (y:Below (ex12W w).heap.size (ex12W w) w')=>(show Calls Tryz.prog 14 #[aggBd (ex12 w.heap.size),.int .i64 1] w' (IntsOut9 w' [0]) from by
  have h:=CUses hT2 (ex12_one w) (ok12 _) (p:=1) (int12 (by decide)) w' y
  rw [ex12_v,show usesI exL12 1=[0] from ex12_u1] at h
  exact h)
 have HWW:=hide (ex12W.eq_1 w)
 clear hT hT2
 go_enter Tryz.func10,Tryz.ntmps10
 go_wp2_with fail
 refine (HL.out (ex12W w) (Below.refl _ _)).mono ?_
 rintro e w1 ⟨A,c,S,rfl,hrw,hb⟩
 have H1:=hide hb
 obtain ⟨g,z,Q0,d0,hA,hg,hc0,_⟩:=hrw.at_ (j:=0) rfl
 subst hA
 obtain ⟨g1,z1,Q1,d1,hA,_,hc1,hown⟩:=hrw.at_ (j:=1) rfl
 injection hA with hA
 injection hA with e1 e2
 subst e1 e2
 obtain ⟨g1,z1,Q2,d2,hA,_,hc2,_⟩:=hrw.at_ (j:=2) rfl
 injection hA with hA
 injection hA with e1 e2
 subst e1 e2
 have HR:=hide fun (w':World) (y:Below w1.heap.size w1 w')=>(show w'.cell? ⟨g,z,none⟩=some (.slice Q0 0 d0)∧w'.cell? ⟨g,z+1,none⟩=some (.slice Q1 1 d1)∧w'.cell? ⟨g,z+2,none⟩=some (.slice Q2 0 d2) from
  ⟨(y.cell (p:=⟨g,z,none⟩) hg).trans hc0,(y.cell (p:=⟨g,z+1,none⟩) hg).trans hc1,(y.cell (p:=⟨g,z+2,none⟩) hg).trans hc2⟩)
 have HOW:=hide (show w1.ownsRow _ 3 1 (.slice Q1 1 d1) 1 ([0].flatMap cInt) from hown)
 have HB1:=hide (Below.refl w1.heap.size w1)
 clear hb hrw hc0 hc1 hc2 hown hg
 obtain ⟨x0,x1,x2,x3,x4,x5,x6⟩:=HC.out _ H1.out
 go_wp2_with fail
 refine (HD.out _ H1.out).mono ?_
 rintro e w2 ⟨rfl,hb⟩
 have H2:=hide (H1.out.trans (hb.mono H1.out.size))
 have K2:=hide hb
 clear hb x0 x1 x2 x3 x4 x5 x6
 go_wp2_with fail
 refine (HG.out _ H2.out).mono ?_
 rintro e w3 ⟨rfl,hb⟩
 have H3:=hide (H2.out.trans (hb.mono H2.out.size))
 have K3:=hide (K2.out.trans (hb.mono K2.out.size))
 clear hb
 obtain ⟨r0,r1,r2⟩:=HR.out _ K3.out
 have b4:=below1 w3 (.cells #[.int .i64 0] 3)
 have H4:=hide (H3.out.trans (b4.mono H3.out.size))
 have K4:=hide (K3.out.trans (b4.mono K3.out.size))
 have HO4:=hide (lit_own w3 0 cInt cInt_len (0:Int) 3 (Nat.zero_le _))
 clear b4
 go_wp2_with fail
 refine (EqI11 (eqIs_iff.2 rfl) _ (ownsRow_below HOW.out K4.out) HO4.out).mono ?_
 rintro e w5 ⟨rfl,hb⟩
 have H5:=hide (H4.out.trans (hb.mono H4.out.size))
 have K5:=hide (K4.out.trans (hb.mono K4.out.size))
 clear hb r0 r1 r2
 obtain ⟨r0,r1,r2⟩:=HR.out _ K5.out
 obtain ⟨x0,x1,x2,x3,x4,x5,x6⟩:=HC.out _ H5.out
 go_wp2_with fail
 refine (HU.out _ H5.out).mono ?_
 rintro e w6 ⟨A7,c7,rfl,ho7,hb⟩
 have H6:=hide (H5.out.trans (hb.mono H5.out.size))
 have b8:=below1 w6 (.cells #[.int .i64 0] 3)
 have HO7:=hide (ownsRow_below ho7 b8)
 have HO8:=hide (lit_own w6 0 cInt cInt_len (0:Int) 3 (Nat.zero_le _))
 have H8:=hide (H6.out.trans (b8.mono H6.out.size))
 clear hb ho7 b8 x0 x1 x2 x3 x4 x5 x6 r0 r1 r2
 go_wp2_with fail
 refine (EqI11 (eqIs_iff.2 rfl) _ HO7.out HO8.out).mono ?_
 rintro e w9 ⟨rfl,hb⟩
 have H9:=hide (H8.out.trans (hb.mono H8.out.size))
 clear hb
 go_wp2
 go_ret
 exact ⟨rfl,HB0.out.trans (H9.out.mono HB0.out.size)⟩
end Go.Proofs.YteeemjmohjkdpaaGreatDoor
namespace Go.Proofs.YteeemjmohjkdpaaGreatDoor
open Go.Joins Go.ChangeShapes Go.WideShapes Go.ChangeAt Go.ChangeMaps Go.RowKit Go.WideElems
theorem gOps:Tryz.prog.globalNamed "mirtower/valid.operators"=some 0:=by kernel_rfl
theorem tOps:(Tryz.prog.globals[0]?).map (·.type)=some 263:=by kernel_rfl
abbrev laid1:List (String×DataW Unit):=[("mirtower/valid.operators",Rows.laid_mirtower_valid_operators)]
theorem door_met (os:Os) (args:Array Value):laidMetH Tryz.prog laid1 ((World.doorLaid Tryz.prog 400 os).forCall (fun _ _=>0) ⟨#[],args,[]⟩).memory:=
 laidMetH_of_parts3 (fuel:=8) (laidMet_of_run' 8 (by kernel_rfl) (by kernel_rfl)) (by kernel_rfl) (by kernel_rfl)
theorem cells140:Tryz.prog.cellsOf 262=4:=by kernel_rfl
theorem cells141:Tryz.prog.cellsOf 263=32:=by kernel_rfl
theorem cellsI:Tryz.prog.cellsOf 3=1:=by kernel_rfl
theorem num1 {W:World} {n:Nat} {cs:List Value} {y:DataW Unit×List MemPlace} {a:Int} (h:DataW.trod (fun _=>()) Tryz.prog W 0 (fun _=>true) false n 3 cs=some y) (hy:y.1=.lit (.int .i64 a)):cs=[.int .i64 a]:=by
 obtain ⟨k,rfl,rfl,_⟩:=DataW.trod_int Tryz.underlying3 h
 have e:(DataW.lit (.int .i64 k):DataW Unit)=.lit (.int .i64 a):=hy
 injection e with e
 injection e with _ e
 rw [e]
theorem row4 {W:World} {n:Nat} {cs:List Value} {x:DataW Unit×List MemPlace} {a b c d:Int} (h:DataW.trod (fun _=>()) Tryz.prog W 0 (fun _=>true) false n 262 cs=some x) (hx:x.1=.agg [.lit (.int .i64 a),.lit (.int .i64 b),.lit (.int .i64 c),.lit (.int .i64 d)]):cs=[.int .i64 a,.int .i64 b,.int .i64 c,.int .i64 d]:=by
 obtain ⟨y0,y1,y2,y3,m,rfl,hl,h0,h1,h2,h3⟩:=trod_struct4 Tryz.underlying262 h
 have e:(DataW.agg [y0.1,y1.1,y2.1,y3.1]:DataW Unit)=.agg [.lit (.int .i64 a),.lit (.int .i64 b),.lit (.int .i64 c),.lit (.int .i64 d)]:=hx
 injection e with e
 injection e with e0 e
 injection e with e1 e
 injection e with e2 e
 injection e with e3 _
 rw [cells140] at hl
 have g0:=num1 h0 e0
 have g1:=num1 h1 e1
 have g2:=num1 h2 e2
 have g3:=num1 h3 e3
 simp only [cellsI] at g0 g1 g2 g3
 match cs,hl with
 | [c0,c1,c2,c3],_=>
  simp at g0 g1 g2 g3
  rw [g0,g1,g2,g3]
theorem opsT_of {W:World} (h:laidMetH Tryz.prog laid1 W):OpsT W:=by
 rw [MakeChecks.laidMetH_plain _ _ _ (by kernel_rfl)] at h
 obtain ⟨ps,⟨g0,t0,cs0,f0,p0,q0,hg0,ht0,hv0,hd0,_,_⟩,_,_⟩:=h
 obtain rfl:=Option.some.inj (gOps.symm.trans hg0)
 obtain rfl:=Option.some.inj (tOps.symm.trans ht0)
 obtain ⟨xs,m,_,hx,hlen,hn,hel⟩:=DataW.trod_array Tryz.underlying263 hd0
 rw [cells141] at hlen
 rw [cells140] at hel
 have hx1:(Rows.laid_mirtower_valid_operators:DataW Unit)=.agg (xs.map (·.1)):=by injection hx
 unfold Rows.laid_mirtower_valid_operators at hx1
 injection hx1 with hx1
 have hrow:∀ (j:Nat) (a b c d:Int),j < 8→xs[j]?.map Prod.fst=some (.agg [.lit (.int .i64 a),.lit (.int .i64 b),.lit (.int .i64 c),.lit (.int .i64 d)])→(cs0.toList.drop (j*4)).take 4=[.int .i64 a,.int .i64 b,.int .i64 c,.int .i64 d]:=by
  intro j a b c d hj hxj
  cases hq:xs[j]? with
  | none=>rw [hq] at hxj;cases hxj
  | some x=>
   rw [hq] at hxj
   exact row4 ((hel j hj).trans hq) (Option.some.inj hxj)
 have hmap:∀ j:Nat,xs[j]?.map Prod.fst=(xs.map (·.1))[j]?:=fun j=>by rw [List.getElem?_map]
 have r0:=hrow 0 2 0 2 2 (by omega) (by rw [hmap,← hx1];rfl)
 have r1:=hrow 1 2 1 1 1 (by omega) (by rw [hmap,← hx1];rfl)
 have r2:=hrow 2 3 0 2 2 (by omega) (by rw [hmap,← hx1];rfl)
 have r3:=hrow 3 3 1 2 2 (by omega) (by rw [hmap,← hx1];rfl)
 have r4:=hrow 4 3 2 2 2 (by omega) (by rw [hmap,← hx1];rfl)
 have r5:=hrow 5 3 3 2 1 (by omega) (by rw [hmap,← hx1];rfl)
 have r6:=hrow 6 3 4 2 1 (by omega) (by rw [hmap,← hx1];rfl)
 have r7:=hrow 7 3 5 1 1 (by omega) (by rw [hmap,← hx1];rfl)
 have hall:cs0.toList=opCells:=by
  have hs:∀ (l:List Value) (k:Nat),l.drop k=(l.drop k).take 4++l.drop (k+4):=fun l k=>by
   rw [←List.drop_drop]
   exact (List.take_append_drop 4 (l.drop k)).symm
  have e:cs0.toList=cs0.toList.drop 0:=rfl
  rw [e,hs _ 0,hs _ (0+4),hs _ (0+4+4),hs _ (0+4+4+4),hs _ (0+4+4+4+4),hs _ (0+4+4+4+4+4),hs _ (0+4+4+4+4+4+4),hs _ (0+4+4+4+4+4+4+4)]
  rw [List.drop_of_length_le (i:=0+4+4+4+4+4+4+4+4) (by rw [hlen];omega)]
  have q0:(cs0.toList.drop 0).take 4=_:=r0
  have q1:(cs0.toList.drop (0+4)).take 4=_:=r1
  have q2:(cs0.toList.drop (0+4+4)).take 4=_:=r2
  have q3:(cs0.toList.drop (0+4+4+4)).take 4=_:=r3
  have q4:(cs0.toList.drop (0+4+4+4+4)).take 4=_:=r4
  have q5:(cs0.toList.drop (0+4+4+4+4+4)).take 4=_:=r5
  have q6:(cs0.toList.drop (0+4+4+4+4+4+4)).take 4=_:=r6
  have q7:(cs0.toList.drop (0+4+4+4+4+4+4+4)).take 4=_:=r7
  rw [q0,q1,q2,q3,q4,q5,q6,q7]
  rfl
 intro j u hu
 have hc:=World.var?_cell hg0 hv0 j
 rw [←hall] at hu
 exact hc.trans (by simpa using hu)
end Go.Proofs.YteeemjmohjkdpaaGreatDoor
