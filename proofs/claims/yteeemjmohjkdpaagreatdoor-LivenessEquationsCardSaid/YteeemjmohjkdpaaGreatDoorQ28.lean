/- Part 29 of the contracts and their mathematics. -/
import Derived.Test.YteeemjmohjkdpaaGreatDoorQ27
set_option linter.unusedVariables false
set_option linter.unusedSimpArgs false
set_option maxRecDepth 100000
set_option maxHeartbeats 16000000
namespace Go.Proofs.YteeemjmohjkdpaaGreatDoor
open Go.RowKit
theorem add_site {l:List BkV} {p i k:Nat} {b:BkV} (h:ptLoc l p=some (i,k)) (hb:l[i]?=some b) (q:Int):sitesW l q (p+1)=sitesW l q p++addS p (useAt b k) (defAt b k) q:=by
 have hu:∀ z,z∈usesI l (p:Int)↔z∈useAt b k:=fun z=>by unfold usesI;rw [atI_some (ptLocI_nat h) hb];exact setI_mem
 have hd:defI l (p:Int)=defAt b k:=by unfold defI;exact atI_some (ptLocI_nat h) hb
 rw [sitesW_up]
 congr 1
 unfold siteW addS
 rw [hd]
 by_cases h1:q∈useAt b k
 ·
  rw [if_pos ((hu q).2 h1),if_pos h1]
 ·
  rw [if_neg fun e=>h1 ((hu q).1 e),if_neg h1]
  by_cases h2:defAt b k=some q
  ·
   rw [if_pos h2,if_pos h2]
  ·
   rw [if_neg h2,if_neg h2]
theorem addS_nil {p:Nat} {U:List Int} {D:Option Int} {q:Int}:addS p U D q≠[]↔q∈U∨D=some q:=by
 unfold addS
 by_cases h1:q∈U
 ·
  simp [h1]
 ·
  by_cases h2:D=some q <;> simp [h1,h2]
structure NewW (w:World) (l:List BkV) (fb bb m n:Nat) (A:Option Addr) (c i p:Nat):Prop where
 box:Bx w fb [.slice A i c,.slice (some ⟨bb,0,none⟩) n n,.map (some m)] 90
 st:w.ownsRow m 3 1 (.slice A i c) i ((stI l i).flatMap cInt)
 sit:∃ S K,SitW w m m S K∧(∀ q,(S q).L=sitesW l q p)∧(∀ q,q∈K↔sitesW l q p≠[])∧K.length≤p*900003
section
variable {w w' w7 wp:World} {l:List BkV} {fb bb m n:Nat} {A:Option Addr} {c i p:Nat}
theorem NewW.below (h:NewW w l fb bb m n A c i p) (hb:Below w.heap.size w w'):NewW w' l fb bb m n A c i p:=by
 obtain ⟨S,K,h1,h2⟩:=h.sit
 exact ⟨h.box.below hb,ownsRow_below h.st hb,S,K,h1.below hb,h2⟩
theorem NewW.note {S:Int→SlW (Nat×Bool)} {K:List Int} {k j:Nat} {b:BkV} (h:NewW w l fb bb m n A c i p) (hk:KT 129 w w') (h1:∀ q,(S q).L=sitesW l q p) (h2:∀ q,q∈K↔sitesW l q p≠[]) (h3:K.length≤p*900003)
  (hl:ptLoc l p=some (j,k)) (hb:l[j]?=some b) (hu:(useAt b k).length≤900002) (hn:∃ S' K',SitW w' m m S' K'∧(∀ q,(S' q).L=(S q).L++addS p (useAt b k) (defAt b k) q)∧(∀ q,q∈K'↔q∈K∨q∈useAt b k∨defAt b k=some q)∧K'.length≤K.length+(useAt b k).length+1):NewW w' l fb bb m n A c i (p+1):=by
 obtain ⟨S',K',k1,k2,k3,k4⟩:=hn
 refine ⟨h.box.kt hk (by decide),own_kt h.st hk (by decide),S',K',k1,fun q=>?_,fun q=>?_,by omega⟩
 ·
  rw [k2,h1,add_site hl hb]
 ·
  rw [k3,h2,add_site hl hb,← addS_nil (p:=p)]
  constructor
  ·
   rintro (e | e) h
   ·
    exact e (List.append_eq_nil_iff.1 h).1
   ·
    exact e (List.append_eq_nil_iff.1 h).2
  ·
   intro e
   by_cases h3:sitesW l q p=[]
   ·
    refine .inr fun h4=>e ?_
    rw [h3,h4]
    rfl
   ·
    exact .inl h3
theorem NewW.noted {w4:World} {be k j:Nat} {b:BkV} {U:List Int} {D:Option Int} (h:NewW w4 l fb bb m n A c i p) (hS:SetW w4 be U) (hbm:be≠m) (hl:ptLoc l p=some (j,k)) (hb:l[j]?=some b) (hU:useAt b k=U) (hD:defAt b k=D) (hin:∀ d,D=some d→IntR d) (hu:(useAt b k).length≤900002) (hp:p≤1000) :
  Calls Tryz.prog 68 #[.pointer (some ⟨fb,0,none⟩),.int .i64 (p:Int),.agg #[.map (some be),.int .i64 (D.getD 0),.bool D.isSome]] w4 fun e w'=>e=.returned (.tuple #[])∧NewW w' l fb bb m n A c i (p+1)∧KT 129 w4 w'∧Below m w4 w':=by
 obtain ⟨S,K,k1,k2,k3,k4⟩:=h.sit
 subst hU hD
 refine (FNote_any fb m m be p S K _ _ _ w4 h.box rfl k1 hS hbm (Nat.le_refl _) (by omega) (by omega) (by omega) (fun q=>?_) hin).mono ?_
 ·
  have h1:=k1.len q
  have h2:=sitesW_len l q p
  rw [k2 q] at h1
  omega
 ·
  rintro e w' ⟨rfl,hn,hk,hb'⟩
  exact ⟨rfl,h.note hk k2 k3 k4 hl hb hu hn,hk,hb'⟩
theorem NewW.start {g cap:Nat} (h:NewW w l fb bb m n A c i p) (hb:Below w.heap.size w wp) (hg:wp.grownBy w7 (Value.slice A i c).ownBlock) (hown:w7.ownsRow m 3 1 (.slice (some ⟨g,0,none⟩) (i+1) cap) (i+1) ((stI l i).flatMap cInt++[.int .i64 (ptFirst l i:Int)])) :
  w7.cell? ⟨fb,0,none⟩=some (.slice A i c)∧w7.frozen? ⟨fb,0,none⟩=false∧NewW (w7.setCell ⟨fb,0,none⟩ (.slice (some ⟨g,0,none⟩) (i+1) cap)) l fb bb m n (some ⟨g,0,none⟩) cap (i+1) p∧∀ lo,lo≤m→lo≤fb→lo≤w.heap.size→Below lo w (w7.setCell ⟨fb,0,none⟩ (.slice (some ⟨g,0,none⟩) (i+1) cap)):=by
 obtain ⟨S,K,h1,h2⟩:=h.sit
 have hk:=KT.of_grown hg (ownsRow_below h.st hb)
 have hob:∀ b,(Value.slice A i c).ownBlock=some b→m≤b:=fun b hk=>(h.st.lt b hk).1
 have hbx:=(h.box.below hb).kt hk (by decide)
 have hk2:=KT.of_set hbx 0 (.slice (some ⟨g,0,none⟩) (i+1) cap)
 have hbw:=h.box.lt
 have hsz:=hb.size
 have hmne:∀ b,(Value.slice A i c).ownBlock=some b→b≠m:=fun b hb1 e=>by
  subst e
  obtain ⟨cs,hc⟩:=own_cells h.st hb1
  obtain ⟨_,⟨es,clock,h3,_⟩,_⟩:=h1.own
  rw [h3] at hc
  cases hc
 have ht1:Turn (fun b=>b≠m∧m≤b) wp w7:=(Turn.refl _ _).grown hg fun b hb'=>.inl ⟨hmne b hb',hob b hb'⟩
 have hs7:=(h1.below hb).kt hk (by decide) ht1 (fun e=>e.1 rfl)
 have hfm:fb≠m:=fun e=>by
  subst e
  obtain ⟨_,⟨es,clock,h3,_⟩,_⟩:=h1.own
  have h4:=h.box
  unfold Bx at h4
  rw [h3] at h4
  cases h4
 have ht2:Turn (fun b=>b=fb) w7 (w7.setCell ⟨fb,0,none⟩ (.slice (some ⟨g,0,none⟩) (i+1) cap)):=Turn.setCell (a:=⟨fb,0,none⟩) (Turn.refl (fun b=>b=fb) w7) (.inl rfl) _
 refine ⟨hbx.cell (j:=0) rfl,hbx.frozen 0,⟨hbx.set 0 _,own_kt (by rw [stI_up,List.flatMap_append];exact hown) hk2 (by decide),S,K,hs7.kt hk2 (by decide) ht2 (fun e=>hfm e.symm),h2⟩,fun lo l1 l2 l3=>?_⟩
 exact (((hb.mono l3).grown hg (by omega) fun b hb'=>Nat.le_trans l1 (hob b hb'))).setCell l2 _
end
theorem GridW.of_nil {w:World} {g n:Nat} {T:TypeId} (h:Bx w g (List.replicate n (.slice none 0 0)) T) (base:Nat) (e:TypeId) (k:Nat) {α:Type} (f:α→List Value):GridW w base g T e k f (List.replicate n ⟨none,0,0,[]⟩):=by
 have hm:∀ (j:Nat) s,(List.replicate n (⟨none,0,0,[]⟩:SlW α))[j]?=some s→s=⟨none,0,0,[]⟩:=fun j s h=>List.eq_of_mem_replicate (List.mem_of_getElem? h)
 refine ⟨?_,fun j s h=>?_,fun i j s t _ h k g hg=>?_⟩
 ·
  unfold Bx at h
  rw [h]
  simp
 ·
  rw [hm j s h];exact World.ownsRow_nil _ _ _ _
 ·
  rw [hm i s h] at hg;cases hg
theorem edge_start {l:List BkV} {n y:Nat} (hn:n < ptCount l) (hy:y∈nxN l (n:Int)):(∃ i k,ptLoc l n=some (i,k)∧blkW l (n:Int)=i)∧y < ptCount l:=by
 have h0:=(nextI_mem.1 (nxN_mem.1 hy)).1
 cases hl:ptLoc l n with
 | none=>have:=ptLoc_none hl;omega
 | some z=>
  obtain ⟨i,k⟩:=z
  exact ⟨⟨i,k,rfl,blkW_at hl⟩,by omega⟩
theorem start_at {l:List BkV} {y:Nat} (hy:y < ptCount l) (h:(stI l (l.length+1)).contains (y:Int)=true):∃ j,j < l.length∧y=ptFirst l j:=by
 rw [List.contains_iff_mem] at h
 unfold stI at h
 obtain ⟨j,hj,e⟩:=List.mem_map.1 h
 have hj:=List.mem_range.1 hj
 have e:ptFirst l j=y:=by omega
 refine ⟨j,?_,e.symm⟩
 refine Decidable.by_contra fun hn=>?_
 rw [ptFirst_all (by omega)] at e
 omega
theorem start_no {l:List BkV} {y j:Nat} (h:(stI l (l.length+1)).contains (y:Int)=false) (hj:j < l.length):¬((y:Int)=(ptFirst l j:Int)):=fun e=>by
 rw [←Bool.not_eq_true,List.contains_iff_mem] at h
 refine h ?_
 unfold stI
 exact List.mem_map.2 ⟨j,List.mem_range.2 (by omega),e.symm⟩
theorem stD_in {w:World} {B:Nat} {x:StW} (h:OneSt w B x):∀ d,stD x.v=some d→IntR d:=fun d hd=>by
 unfold stD at hd
 split at hd
 ·
  injection hd with hd
  exact hd ▸ h.loc
 ·
  split at hd
  ·
   injection hd with hd
   exact hd ▸ h.pl.l
  ·
   cases hd
theorem tmD_in {w:World} {B:Nat} {x:TmW} (h:OneTm w B x):∀ d,tmD x.v=some d→IntR d:=fun d hd=>by
 unfold tmD at hd
 split at hd
 ·
  injection hd with hd
  exact hd ▸ h.pl.l
 ·
  cases hd
theorem infoRows:(Tryz.prog.info? 34).map (fun i=>(i.zero,i.size,i.bytes))=some (some (.slice none 0 0),1,24):=by kernel_rfl
def FlowR (l:List BkV) (lo:Nat) (e:Ending) (w':World):Prop:=∃ fb K,e=.returned (.pointer (some ⟨fb,0,none⟩))∧FlowW w' l fb K∧lo≤fb∧(∀ q,q∈K↔sitesW l q (ptCount l)≠[])∧K.length≤1000000000
theorem NewFlow_any (x:BdW) (w:World) (hx:OneBd w w.heap.size x) (hC:ptCount x.v.blocks≤1000) (hT9:∀ b∈x.v.blocks,b.term.targets.length≤100000) (hU:SmallU x.v.blocks) (hT:TermU x.v.blocks) (hE:(edgesI x.v.blocks).length≤200000) :
  Calls Tryz.prog 39 #[aggBd x] w fun e w'=>FlowR x.v.blocks w.heap.size e w'∧Below w.heap.size w w':=by
 obtain ⟨BL,hBL⟩:∃ l,x.v.blocks=l:=⟨_,rfl⟩
 have hbl:=bk_len hx
 have HED:=hide fun (w':World) (y:Below w.heap.size w w')=>PEdges_any x w' (hx.up y) (Nat.le_trans hC (by decide)) hT9
 have hlc:=len_le_count x.v.blocks
 rw [hBL] at hC hbl hU hT hE HED hlc ⊢
 have HBV:=hide hBL
 have HX:=hide hx
 have HU:=hide hU
 have HT:=hide hT
 have HEE:=hide hE
 clear hx hBL hU hT hE hT9
 obtain ⟨nm,⟨rA,rn,rc,rL⟩,⟨oA,on,oc,oL⟩,⟨tA,tm,tc,tL⟩,⟨lA,ln,lc,lL⟩,ar,⟨bA,bn,bc,bL⟩⟩:=x
 have HBL:=hide (show BL.length=bn from hbl)
 have hbn:bn≤1000:=by have h:BL.length=bn:=hbl;omega
 obtain ⟨Wa,hWa⟩:∃ W,W=w.alloc (.cells #[.string nm,.slice rA rn rc,.slice oA on oc,.slice tA tm tc,.slice lA ln lc,.int .i64 ar,.slice bA bn bc] 28):=⟨_,rfl⟩
 obtain ⟨Wb,hWb⟩:∃ W,W=Wa.alloc (.cells (Array.replicate bn (.slice none 0 0)) 34):=⟨_,rfl⟩
 obtain ⟨Wc,hWc⟩:∃ W,W=Wb.alloc (.map #[] 0):=⟨_,rfl⟩
 obtain ⟨Wd,hWd⟩:∃ W,W=Wc.alloc (.cells #[.slice none 0 0,.slice (some ⟨w.heap.size+1,0,none⟩) bn bn,.map (some (w.heap.size+1+1))] 90):=⟨_,rfl⟩
 have ba:Below w.heap.size w Wa:=hWa ▸ below1 w _
 have bb:Below Wa.heap.size Wa Wb:=hWb ▸ below1 Wa _
 have bc':Below Wb.heap.size Wb Wc:=hWc ▸ below1 Wb _
 have bd:Below Wc.heap.size Wc Wd:=hWd ▸ below1 Wc _
 have sa:Wa.heap.size=w.heap.size+1:=by rw [hWa];simp
 have sb:Wb.heap.size=w.heap.size+2:=by rw [hWb];simp [sa]
 have sc:Wc.heap.size=w.heap.size+3:=by rw [hWc];simp [sb]
 have sd:Wd.heap.size=w.heap.size+4:=by rw [hWd];simp [sc]
 have xa:Bx Wa w.heap.size [.string nm,.slice rA rn rc,.slice oA on oc,.slice tA tm tc,.slice lA ln lc,.int .i64 ar,.slice bA bn bc] 28:=by rw [hWa];exact Bx.new w _ _
 have xb:Bx Wb (w.heap.size+1) (List.replicate bn (.slice none 0 0)) 34:=by
  have h:=Bx.new Wa (List.replicate bn (.slice none 0 0)) 34
  rw [sa] at h
  rw [hWb]
  simpa using h
 have xc:SitW Wc (w.heap.size+2) (w.heap.size+2) (fun _=>⟨none,0,0,[]⟩) []:=by
  have h:=BagW.new Wb (w.heap.size+2) 129 2 cSite
  rw [sb] at h
  rw [hWc]
  exact h
 have xd:Bx Wd (w.heap.size+3) [.slice none 0 0,.slice (some ⟨w.heap.size+1,0,none⟩) bn bn,.map (some (w.heap.size+1+1))] 90:=by
  have h:=Bx.new Wc [.slice none 0 0,.slice (some ⟨w.heap.size+1,0,none⟩) bn bn,.map (some (w.heap.size+1+1))] 90
  rw [sc] at h
  rw [hWd]
  exact h
 have HN0:=hide (show NewW Wd BL (w.heap.size+1+1+1) (w.heap.size+1) (w.heap.size+1+1) bn none 0 0 (ptFirst BL 0) from ⟨xd,World.ownsRow_nil _ _ _ _,_,[],xc.below bd,fun q=>rfl,(fun q=>Iff.intro (fun h=>by cases h) fun h=>absurd rfl h),Nat.zero_le _⟩)
 have HXB:=hide ((xb.below bc').below bd)
 have HXA:=hide (((xa.below bb).below bc').below bd)
 have HB:=hide (ba.trans (((bb.trans (bc'.mono bb.size)).trans (bd.mono (by omega))).mono ba.size))
 have HSD:=hide sd
 have HC7:=hide fun (w':World) (y:Below (w.heap.size+1+1) Wd w')=>(show w'.cell? ⟨w.heap.size,0,none⟩=some (.string nm)∧w'.cell? ⟨w.heap.size,1,none⟩=some (.slice rA rn rc)∧w'.cell? ⟨w.heap.size,2,none⟩=some (.slice oA on oc)∧w'.cell? ⟨w.heap.size,3,none⟩=some (.slice tA tm tc)∧w'.cell? ⟨w.heap.size,4,none⟩=some (.slice lA ln lc)∧w'.cell? ⟨w.heap.size,5,none⟩=some (.int .i64 ar)∧w'.cell? ⟨w.heap.size,6,none⟩=some (.slice bA bn bc) from
  have hz:=fun j=>y.cell (p:=⟨w.heap.size,j,none⟩) (show w.heap.size < w.heap.size+1+1 by omega)
  ⟨(hz 0).trans (HXA.out.cell (j:=0) rfl),(hz 1).trans (HXA.out.cell (j:=1) rfl),(hz 2).trans (HXA.out.cell (j:=2) rfl),(hz 3).trans (HXA.out.cell (j:=3) rfl),(hz 4).trans (HXA.out.cell (j:=4) rfl),(hz 5).trans (HXA.out.cell (j:=5) rfl),(hz 6).trans (HXA.out.cell (j:=6) rfl)⟩)
 have x6:=xa.cell (j:=6) rfl
 obtain ⟨i1,hi1,hy0,hy1,hy2⟩:=info_parts infoRows
 obtain ⟨i0,hi,hz0,hz1,hz2⟩:=info_parts info9Int
 have hmm:=@run_makeMap Tryz.prog
 have HWa:=hide hWa
 have HWb:=hide hWb
 have HWc:=hide hWc
 have HWd:=hide hWd
 have HSA:=hide (And.intro sa (And.intro sb sc))
 have HW0:=hide (Below.refl (w.heap.size+1+1) Wd)
 have hC9:=hC
 clear hbl hlc ba bb bc' bd sa sb sc sd xa xb xc xd hWa hWb hWc hWd
 rw [HWa.out] at x6
 go_enter Tryz.func39,Tryz.ntmps39
 go_wp2_with (at_make;refine wpList_make1 _ rfl _ _ _ rfl 34 i1 _ Tryz.underlying38 hi1 hy0 hy1 rfl bn rfl rfl (by rw [hy2];omega) (by omega) ?_)
 rw [←HWa.out,← HWb.out,← HWc.out,← HWd.out]
 clear hmm HWa HWb HWc HWd x6 hi1 hy0 hy1 hy2
 have hm9:w.heap.size≤w.heap.size+1+1:=by omega
 go_loopw [4,23] (fun pt v wr=>∃ (i:Nat) (A:Option Addr) (c:Nat),v=.int .i64 (i:Int)∧pt=.int .i64 (ptFirst BL i:Int)∧i≤bn∧Hid (NewW wr BL (w.heap.size+1+1+1) (w.heap.size+1) (w.heap.size+1+1) bn A c i (ptFirst BL i))∧Hid (Below (w.heap.size+1+1) Wd wr)) (fun _ v _=>bn - (intOf v).toNat)
 case atStart=>exact ⟨0,none,0,rfl,rfl,Nat.zero_le _,HN0,HW0⟩
 case round=>
  obtain ⟨i,A,c,rfl,rfl,hi9,HN,HW⟩:=hrel
  by_cases hlt:i < bn
  ·
   have hlt':(i:Int) < (bn:Int):=by omega
   have hi0:(0:Int)≤(i:Int):=by omega
   obtain ⟨pb,b,o,_,hpv,hps,hpm,hA,hb,h1b,hc⟩:=bk_at HX.out hlt
   have hA:bA=some ⟨b,o,none⟩:=hA
   subst hA
   have hpv:BL[i]?=some pb.v:=HBV.out ▸ hpv
   have HPV:=hide hpv
   have HUB:=hide (HU.out _ (List.mem_of_getElem? hpv))
   have HTB:=hide (HT.out _ (List.mem_of_getElem? hpv))
   have HUL:=hide fun (k:Nat)=>useAt_len HU.out (List.mem_of_getElem? hpv) k
   have HFU:=hide (ptFirst_up hpv)
   have hFL:=ptFirst_le BL (i+1)
   obtain ⟨⟨sA,sn,sc,sL⟩,⟨bk,⟨gA,gn,gc,gL⟩,⟨aA,an,ac,aL⟩,⟨l,pA,pn,pc,ps⟩,tnm⟩⟩:=pb
   have HSL:=hide (show sL.length=sn from h1b.stmts.len)
   have HSTS:=hide h1b.stmts
   have HTM:=hide h1b.term
   have hfn:ptFirst BL (i+1)=ptFirst BL i+(sn+1):=by
    have h1:=HFU.out
    have h2:ptN (BkW.v ⟨⟨sA,sn,sc,sL⟩,⟨bk,⟨gA,gn,gc,gL⟩,⟨aA,an,ac,aL⟩,⟨l,pA,pn,pc,ps⟩,tnm⟩⟩)=(sL.map StW.v).length+1:=rfl
    rw [List.length_map,HSL.out] at h2
    omega
   have hwd:Below w.heap.size w wr:=HB.out.trans (HW.out.mono hm9)
   have hz:=fun j=>hwd.cell (p:=⟨b,o+i*7+j,none⟩) hb
   have z0:=(hz 0).trans (hc 0 _ rfl)
   have z1:=(hz 1).trans (hc 1 _ rfl)
   have z2:=(hz 2).trans (hc 2 _ rfl)
   have z3:=(hz 3).trans (hc 3 _ rfl)
   have z4:=(hz 4).trans (hc 4 _ rfl)
   have z5:=(hz 5).trans (hc 5 _ rfl)
   have z6:=(hz 6).trans (hc 6 _ rfl)
   simp only [Nat.add_zero] at z0
   have HFN:=hide hfn
   obtain ⟨pt,hpt⟩:∃ p,ptFirst BL i=p:=⟨_,rfl⟩
   rw [hpt] at HN hfn
   have HPT:=hide hpt
   have hws:=HW.out.size
   have hb3:=below1 wr (.cells #[.slice sA sn sc,.int .i64 bk,.slice gA gn gc,.slice aA an ac,.int .i64 l,.slice pA pn pc,.string tnm] 62)
   obtain ⟨w3,hw3⟩:∃ w3,w3=wr.alloc (.cells #[.slice sA sn sc,.int .i64 bk,.slice gA gn gc,.slice aA an ac,.int .i64 l,.slice pA pn pc,.string tnm] 62):=⟨_,rfl⟩
   have HWW3:=hide hw3
   have HN3:=hide (show NewW w3 BL (w.heap.size+1+1+1) (w.heap.size+1) (w.heap.size+1+1) bn A c i pt from hw3 ▸ HN.out.below hb3)
   have HW3:=hide (show Below (w.heap.size+1+1) Wd w3 from hw3 ▸ HW.out.trans (hb3.mono (Nat.le_trans (by rw [HSD.out];omega) hws)))
   have HK3:=hide (show Bx w3 wr.heap.size [.slice sA sn sc,.int .i64 bk,.slice gA gn gc,.slice aA an ac,.int .i64 l,.slice pA pn pc,.string tnm] 62 from hw3 ▸ Bx.new wr _ _)
   have hs3:w3.heap.size=wr.heap.size+1:=by rw [hw3];simp
   have c0:=HN3.out.box.cell (j:=0) rfl
   have c0a:=c0
   rw [hw3] at c0a
   have hb4:=below1 w3 (.cells #[.int .i64 (pt:Int)] 3)
   have q2:=ownsRow_below HN3.out.st hb4
   have HB4:=hide hb4
   have q3:∀ j u,([Value.int .i64 (pt:Int)])[j]?=some u→(w3.alloc (.cells #[.int .i64 (pt:Int)] 3)).cell? ((⟨wr.heap.size+1,0,none⟩:Addr).add j)=some u:=hs3 ▸ World.news_of_block (heap_alloc_new w3 (.cells #[.int .i64 (pt:Int)] 3))
   have hws4:w.heap.size+1+1≤(w3.alloc (.cells #[.int .i64 (pt:Int)] 3)).heap.size:=by
    rw [World.size_alloc,hs3]
    have:=HSD.out
    omega
   have hH4:(w3.alloc (.cells #[.int .i64 (pt:Int)] 3)).heap.size=wr.heap.size+1+1:=by rw [World.size_alloc,hs3]
   clear hpv hps hpm hb h1b hc hwd hz hb3 hb4 HN hpt hw3
   rw [HPT.out]
   rw [HWW3.out] at q2 q3 hws4
   go_wp2_with (at_builtin;refine wpList_append_lies _ rfl _ _ 34 rfl (w.heap.size+1+1) 3 i0 _ 1 8 Tryz.underlying34 hi hz0 hz1 hz2 rfl (by decide) (.slice A i c) i ((stI BL i).flatMap cInt) rfl q2 ⟨wr.heap.size+1,0,none⟩ 1 1 [.int .i64 (pt:Int)] rfl rfl q3 (cInt_one (pt:Int)) (by decide) (by unfold maxLen;omega) (by omega) hws4 _ rfl ?_;intro g cap w7 hown7 hg7 hat7 hl7;rw [←HWW3.out] at hg7;obtain ⟨r1,r2,r3,r4⟩:=NewW.start (g:=g) (cap:=cap) HN3.out HB4.out hg7 (by rw [HPT.out];exact hown7);have R3:=hide r3;have R4:=hide (r4 (w.heap.size+1+1) (Nat.le_refl _) (Nat.le_succ _) (Nat.le_trans (by rw [HSD.out];omega) HW3.out.size));have R5:=hide (((HK3.out.below HB4.out).kt (KT.of_grown hg7 (ownsRow_below HN3.out.st HB4.out)) (by decide)).other (a:=⟨w.heap.size+1+1+1,0,none⟩) (show w.heap.size+1+1+1≠wr.heap.size by have:=HSD.out;omega) (.slice (some ⟨g,0,none⟩) (i+1) cap));have q8:=R5.out.cell (j:=0) rfl;clear r3 r4 hown7 hg7 hat7 hl7)
   have HW8:=hide (HW3.out.trans R4.out)
   have HS8:=hide (show Below (w.heap.size+1+1) w3 (w7.setCell ⟨w.heap.size+1+1+1,0,none⟩ (.slice (some ⟨g,0,none⟩) (i+1) cap)) from R4.out)
   have hsk:w.heap.size+4≤wr.heap.size:=by rw [←HSD.out];exact hws
   clear q8 r1 r2 q2 q3 hws4 hH4 c0 c0a z0 z1 z2 z3 z4 z5 z6 HN3 HB4 HK3 HW3 R4 HS8
   generalize w7.setCell ⟨w.heap.size+1+1+1,0,none⟩ (.slice (some ⟨g,0,none⟩) (i+1) cap)=w8 at *
   generalize hxk:wr.heap.size=xk at *
   have HN8:=hide (show NewW w8 BL (w.heap.size+1+1+1) (w.heap.size+1) (w.heap.size+1+1) bn (some ⟨g,0,none⟩) cap (i+1) (pt+0) from R3.out)
   clear R3 hs3
   go_loopw [4,40] (fun p v wr2=>∃ k:Nat,v=.int .i64 (k:Int)∧p=.int .i64 ((pt+k:Nat):Int)∧k≤sn∧Hid (NewW wr2 BL (w.heap.size+1+1+1) (w.heap.size+1) (w.heap.size+1+1) bn (some ⟨g,0,none⟩) cap (i+1) (pt+k))∧Hid (Bx wr2 xk [.slice sA sn sc,.int .i64 bk,.slice gA gn gc,.slice aA an ac,.int .i64 l,.slice pA pn pc,.string tnm] 62)∧Hid (Below (w.heap.size+1+1) Wd wr2)) (fun _ v _=>sn - (intOf v).toNat)
   case atStart=>exact ⟨0,rfl,rfl,Nat.zero_le _,HN8,R5,HW8⟩
   case round=>
    clear HN8 R5 HW8
    obtain ⟨k,rfl,rfl,hk,HN,HK,HW⟩:=hrel
    have hws2:=HW.out.size
    rw [HSD.out] at hws2
    have hwd:Below w.heap.size w wr:=HB.out.trans (HW.out.mono hm9)
    have hloc:ptLoc BL (pt+k)=some (i,k):=ptLoc_iff.2 ⟨_,HPV.out,(show k≤(sL.map StW.v).length by rw [List.length_map,HSL.out];exact hk),by rw [HPT.out]⟩
    have hpl:pt+k≤1000:=by omega
    obtain ⟨pk,hpk⟩:∃ q,pt+k=q:=⟨_,rfl⟩
    rw [hpk] at HN hloc hpl ⊢
    have s5:IntKind.i64.wrap ((pk:Int)+1)=(pk:Int)+1:=wrapI9 _ (by omega) (by omega)
    have HLC:=hide hloc
    have HPK:=hide hpk
    have HWD:=hide hwd
    by_cases hks:k < sn
    ·
     have hks':(k:Int) < (sn:Int):=by omega
     have hk0:(0:Int)≤(k:Int):=by omega
     obtain ⟨s,hs⟩:∃ s,sL[k]?=some s:=⟨_,List.getElem?_eq_getElem (by rw [HSL.out];exact hks)⟩
     obtain ⟨gs,zs,hgA,hgB,h1s,hgc⟩:=HSTS.out.at_ hs
     have hgA:sA=some ⟨gs,zs,none⟩:=hgA
     subst hgA
     have hsv:(BkW.v ⟨⟨some ⟨gs,zs,none⟩,sn,sc,sL⟩,⟨bk,⟨gA,gn,gc,gL⟩,⟨aA,an,ac,aL⟩,⟨l,pA,pn,pc,ps⟩,tnm⟩⟩).stmts[k]?=some s.v:=by
      show (sL.map StW.v)[k]?=some s.v
      rw [List.getElem?_map,hs]
      rfl
     have hal:s.rv.args.n≤1000000:=by
      have h1:=HUB.out.1 s.v (List.mem_of_getElem? hsv)
      have h2:s.v.rv.args.length=s.rv.args.n:=(List.length_map _).trans h1s.rv.args.len
      omega
     have HUD:=hide (useAt_stmt hsv)
     have HDI:=hide (stD_in h1s)
     have HOS:=hide fun (w':World) (y:Below w.heap.size w w')=>OfStmt_any s w' ((h1s.below y).more y.size) hal
     obtain ⟨kd,⟨ql,qA,qn,qc,qs⟩,⟨rk,ro,rr,rm,⟨tl,tA,tn,tc,ts⟩,⟨dA,dn,dc,dL⟩⟩,loc⟩:=s
     have hgz:∀ i u,(cSt ⟨kd,⟨ql,qA,qn,qc,qs⟩,⟨rk,ro,rr,rm,⟨tl,tA,tn,tc,ts⟩,⟨dA,dn,dc,dL⟩⟩,loc⟩)[i]?=some u→wr.cell? ⟨gs,zs+k*11+i,none⟩=some u:=fun i u hu=>(hwd.cell (p:=⟨gs,zs+k*11+i,none⟩) hgB).trans (hgc i u hu)
     have g0:=hgz 0 _ rfl
     have g1:=hgz 1 _ rfl
     have g2:=hgz 2 _ rfl
     have g3:=hgz 3 _ rfl
     have g4:=hgz 4 _ rfl
     have g5:=hgz 5 _ rfl
     have g6:=hgz 6 _ rfl
     have g7:=hgz 7 _ rfl
     have g8:=hgz 8 _ rfl
     have g9:=hgz 9 _ rfl
     have g10:=hgz 10 _ rfl
     simp only [Nat.add_zero] at g0
     have hb5:=below1 wr (.cells #[.int .i64 kd,.int .i64 ql,.slice qA qn qc,.int .i64 rk,.int .i64 ro,.int .i64 rr,.bool rm,.int .i64 tl,.slice tA tn tc,.slice dA dn dc,.int .i64 loc] 73)
     have hbx:=Bx.new wr [.int .i64 kd,.int .i64 ql,.slice qA qn qc,.int .i64 rk,.int .i64 ro,.int .i64 rr,.bool rm,.int .i64 tl,.slice tA tn tc,.slice dA dn dc,.int .i64 loc] 73
     have j0:=hbx.cell (j:=0) rfl
     have j1:=hbx.cell (j:=1) rfl
     have j2:=hbx.cell (j:=2) rfl
     have j3:=hbx.cell (j:=3) rfl
     have j4:=hbx.cell (j:=4) rfl
     have j5:=hbx.cell (j:=5) rfl
     have j6:=hbx.cell (j:=6) rfl
     have j7:=hbx.cell (j:=7) rfl
     have j8:=hbx.cell (j:=8) rfl
     have j9:=hbx.cell (j:=9) rfl
     have j10:=hbx.cell (j:=10) rfl
     have HN5:=hide (HN.out.below hb5)
     have HK5:=hide (HK.out.below hb5)
     have HB5:=hide hb5
     obtain ⟨U,hU9⟩:∃ U,useAt (BkW.v ⟨⟨some ⟨gs,zs,none⟩,sn,sc,sL⟩,⟨bk,⟨gA,gn,gc,gL⟩,⟨aA,an,ac,aL⟩,⟨l,pA,pn,pc,ps⟩,tnm⟩⟩) k=U:=⟨_,rfl⟩
     obtain ⟨D,hD9⟩:∃ D,defAt (BkW.v ⟨⟨some ⟨gs,zs,none⟩,sn,sc,sL⟩,⟨bk,⟨gA,gn,gc,gL⟩,⟨aA,an,ac,aL⟩,⟨l,pA,pn,pc,ps⟩,tnm⟩⟩) k=D:=⟨_,rfl⟩
     rw [←HUD.out.1,← HUD.out.2,hU9,hD9] at HOS
     rw [←HUD.out.2,hD9] at HDI
     have HU9:=hide hU9
     have HD9:=hide hD9
     clear hs hsv h1s hgc hgz hal hgB hwd hloc hb5 hbx HUD hU9 hD9
     go_wp2_with fail
     refine (HOS.out _ (HWD.out.trans (HB5.out.mono HWD.out.size))).mono ?_
     rintro e w4 ⟨be,rfl,hS4,hle,hb6⟩
     rw [World.size_alloc] at hle
     have HB6:=hide hb6
     have HNO:=hide (NewW.noted (HN5.out.below hb6) hS4 (by omega) HLC.out HPV.out HU9.out HD9.out HDI.out (HUL.out k) hpl)
     have HK6:=hide (HK5.out.below hb6)
     clear hS4 hb6 g0 g1 g2 g3 g4 g5 g6 g7 g8 g9 g10 j0 j1 j2 j3 j4 j5 j6 j7 j8 j9 j10
     generalize D.getD 0=d at *
     generalize D.isSome=f at *
     go_wp2_with fail
     refine HNO.out.mono ?_
     rintro e w5 ⟨rfl,hn5,hk5,hb7⟩
     have HN7:=hide (show NewW w5 BL (w.heap.size+1+1+1) (w.heap.size+1) (w.heap.size+1+1) bn (some ⟨g,0,none⟩) cap (i+1) (pt+(k+1)) from by rw [show pt+(k+1)=pk+1 by omega];exact hn5)
     have HK7:=hide (HK6.out.kt hk5 (by decide))
     have HW7:=hide ((HW.out.trans ((HB5.out.trans (HB6.out.mono HB5.out.size)).mono (show w.heap.size+1+1≤wr.heap.size by omega))).trans hb7)
     clear hn5 hk5 hb7
     go_wp2_with fail
     go_roundw
     case rel=>exact ⟨k+1,by go_num,(by rw [←HPK.out];go_num),by omega,HN7,HK7,HW7⟩
     case measure=>simp [intOf];omega
    ·
     have hks':¬(k:Int) < (sn:Int):=by omega
     obtain rfl:sn=k:=by omega
     have hal:an≤1000000:=by
      have h1:=HUB.out.2
      have h2:(aL.map OpW.v).length=an:=(List.length_map _).trans HTM.out.args.len
      have h3:(aL.map OpW.v).length≤900000:=h1
      omega
     have hkd:bk=1∨bk=3∨an=0:=by
      have h1:=HTB.out
      have h2:(aL.map OpW.v).length=an:=(List.length_map _).trans HTM.out.args.len
      have h3:bk=1∨bk=3∨(aL.map OpW.v).length=0:=h1
      omega
     have HUD:=hide (show useAt (BkW.v ⟨⟨sA,sn,sc,sL⟩,⟨bk,⟨gA,gn,gc,gL⟩,⟨aA,an,ac,aL⟩,⟨l,pA,pn,pc,ps⟩,tnm⟩⟩) sn=tmU (TmW.v ⟨bk,⟨gA,gn,gc,gL⟩,⟨aA,an,ac,aL⟩,⟨l,pA,pn,pc,ps⟩,tnm⟩)∧defAt (BkW.v ⟨⟨sA,sn,sc,sL⟩,⟨bk,⟨gA,gn,gc,gL⟩,⟨aA,an,ac,aL⟩,⟨l,pA,pn,pc,ps⟩,tnm⟩⟩) sn=tmD (TmW.v ⟨bk,⟨gA,gn,gc,gL⟩,⟨aA,an,ac,aL⟩,⟨l,pA,pn,pc,ps⟩,tnm⟩) from useAt_term (by show (sL.map StW.v).length≤sn;rw [List.length_map,HSL.out];exact Nat.le_refl _))
     have HDI:=hide (tmD_in HTM.out)
     have HOS:=hide fun (w':World) (y:Below w.heap.size w w')=>OfTerm_any ⟨bk,⟨gA,gn,gc,gL⟩,⟨aA,an,ac,aL⟩,⟨l,pA,pn,pc,ps⟩,tnm⟩ w' ((HTM.out.below y).more y.size) hal hkd
     have b1:=HK.out.cell (j:=1) rfl
     have b2:=HK.out.cell (j:=2) rfl
     have b3:=HK.out.cell (j:=3) rfl
     have b4:=HK.out.cell (j:=4) rfl
     have b5:=HK.out.cell (j:=5) rfl
     have b6:=HK.out.cell (j:=6) rfl
     obtain ⟨U,hU9⟩:∃ U,useAt (BkW.v ⟨⟨sA,sn,sc,sL⟩,⟨bk,⟨gA,gn,gc,gL⟩,⟨aA,an,ac,aL⟩,⟨l,pA,pn,pc,ps⟩,tnm⟩⟩) sn=U:=⟨_,rfl⟩
     obtain ⟨D,hD9⟩:∃ D,defAt (BkW.v ⟨⟨sA,sn,sc,sL⟩,⟨bk,⟨gA,gn,gc,gL⟩,⟨aA,an,ac,aL⟩,⟨l,pA,pn,pc,ps⟩,tnm⟩⟩) sn=D:=⟨_,rfl⟩
     rw [←HUD.out.1,← HUD.out.2,hU9,hD9] at HOS
     rw [←HUD.out.2,hD9] at HDI
     have HU9:=hide hU9
     have HD9:=hide hD9
     clear hal hkd HUD hU9 hD9 hwd hloc
     go_wp2_with fail
     refine (HOS.out _ HWD.out).mono ?_
     rintro e w4 ⟨be,rfl,hS4,hle,hb6⟩
     have HB6:=hide hb6
     have HNO:=hide (NewW.noted (HN.out.below hb6) hS4 (by omega) HLC.out HPV.out HU9.out HD9.out HDI.out (HUL.out sn) hpl)
     clear hS4 hb6 b1 b2 b3 b4 b5 b6
     generalize D.getD 0=d at *
     generalize D.isSome=f at *
     go_wp2_with fail
     refine HNO.out.mono ?_
     rintro e w5 ⟨rfl,hn5,hk5,hb7⟩
     have hpf:ptFirst BL (i+1)=pk+1:=by have:=HFN.out;have:=HPT.out;omega
     have HN7:=hide (show NewW w5 BL (w.heap.size+1+1+1) (w.heap.size+1) (w.heap.size+1+1) bn (some ⟨g,0,none⟩) cap (i+1) (ptFirst BL (i+1)) from by rw [hpf];exact hn5)
     have HW7:=hide ((HW.out.trans (HB6.out.mono (show w.heap.size+1+1≤wr.heap.size by omega))).trans hb7)
     have HPF:=hide hpf
     clear hn5 hk5 hb7 hpf
     go_wp2_with fail
     go_roundw
     case rel=>exact ⟨i+1,some ⟨g,0,none⟩,cap,by go_num,(by rw [HPF.out];go_num),hlt,HN7,HW7⟩
     case measure=>simp [intOf];omega
  ·
   have hlt':¬(i:Int) < (bn:Int):=by omega
   obtain rfl:bn=i:=by omega
   have hpe:ptFirst BL bn=ptCount BL:=ptFirst_all (by rw [HBL.out];exact Nat.le_refl _)
   obtain ⟨C,hCC⟩:∃ C,ptCount BL=C:=⟨_,rfl⟩
   rw [hpe,hCC] at HN ⊢
   rw [hCC] at hpe hC
   have HCC:=hide hCC
   have HPE:=hide hpe
   have hws:=HW.out.size
   rw [HSD.out] at hws
   have c0:=HN.out.box.cell (j:=0) rfl
   have hb4:=below1 wr (.cells #[.int .i64 (C:Int)] 3)
   have q2:=ownsRow_below HN.out.st hb4
   have HB4:=hide hb4
   have q3:∀ j u,([Value.int .i64 (C:Int)])[j]?=some u→(wr.alloc (.cells #[.int .i64 (C:Int)] 3)).cell? ((⟨wr.heap.size,0,none⟩:Addr).add j)=some u:=World.news_of_block (heap_alloc_new wr (.cells #[.int .i64 (C:Int)] 3))
   have hws4:w.heap.size+1+1≤(wr.alloc (.cells #[.int .i64 (C:Int)] 3)).heap.size:=by rw [World.size_alloc];omega
   clear hb4 hpe hCC hlt
   go_wp2_with (at_builtin;refine wpList_append_lies _ rfl _ _ 34 rfl (w.heap.size+1+1) 3 i0 _ 1 8 Tryz.underlying34 hi hz0 hz1 hz2 rfl (by decide) (.slice A bn c) bn ((stI BL bn).flatMap cInt) rfl q2 ⟨wr.heap.size,0,none⟩ 1 1 [.int .i64 (C:Int)] rfl rfl q3 (cInt_one (C:Int)) (by decide) (by unfold maxLen;omega) (by omega) hws4 _ rfl ?_;intro g cap w7 hown7 hg7 hat7 hl7;obtain ⟨r1,r2,r3,r4⟩:=NewW.start (g:=g) (cap:=cap) HN.out HB4.out hg7 (by rw [HPE.out];exact hown7);have R3:=hide r3;have R4:=hide (r4 (w.heap.size+1+1) (Nat.le_refl _) (Nat.le_succ _) (by omega));obtain ⟨y0,y1,y2,y3,y4,y5,y6⟩:=HC7.out _ (HW.out.trans R4.out);clear r3 r4 hown7 hg7 hat7 hl7)
   have HW8:=hide (show Below (w.heap.size+1+1) Wd (w7.setCell ⟨w.heap.size+1+1+1,0,none⟩ (.slice (some ⟨g,0,none⟩) (bn+1) cap)) from HW.out.trans R4.out)
   clear y0 y1 y2 y3 y4 y5 y6 r1 r2 q2 q3 c0 R4
   generalize w7.setCell ⟨w.heap.size+1+1+1,0,none⟩ (.slice (some ⟨g,0,none⟩) (bn+1) cap)=w8 at *
   refine (HED.out w8 (HB.out.trans (HW8.out.mono hm9))).mono ?_
   rintro e w9 ⟨eA,ec,rfl,hoe,hb9⟩
   obtain ⟨E,hEE⟩:∃ E,edgesI BL=E:=⟨_,rfl⟩
   have hel:=HEE.out
   rw [hEE] at hoe hel ⊢
   obtain ⟨en,hen⟩:∃ n,E.length=n:=⟨_,rfl⟩
   rw [hen] at hoe hel ⊢
   have HEN:=hide hen
   have HED2:=hide hEE
   have hN9:=R3.out.below hb9
   have HW9:=hide (HW8.out.trans (hb9.mono (by have:=HW8.out.size;rw [HSD.out] at this;omega)))
   have hw9:=HW9.out.size
   rw [HSD.out] at hw9
   have hG9:GridW w9 w9.heap.size (w.heap.size+1) 34 3 1 cInt (List.replicate bn ⟨none,0,0,[]⟩):=GridW.of_nil ((HW9.out.block (w.heap.size+1) (by omega)).trans HXB.out) _ _ _ _
   obtain ⟨S,K,k1,k2,k3,k4⟩:=hN9.sit
   have HKF:=hide (And.intro k2 (And.intro k3 k4))
   have HFT:=hide fun (w':World) (y:Turn (fun k=>k=w.heap.size+1) w9 w')=>(show Bx w' (w.heap.size+1+1+1) [.slice (some ⟨g,0,none⟩) (bn+1) cap,.slice (some ⟨w.heap.size+1,0,none⟩) bn bn,.map (some (w.heap.size+1+1))] 90∧w'.ownsRow (w.heap.size+1+1) 3 1 (.slice (some ⟨g,0,none⟩) (bn+1) cap) (bn+1) ((stI BL (bn+1)).flatMap cInt)∧SitW w' (w.heap.size+1+1) (w.heap.size+1+1) S K∧w'.ownsRow w8.heap.size 47 2 (.slice eA en ec) en (E.flatMap pV) from
    ⟨hN9.box.turn y (by omega),own_turn hN9.st y (fun b hb e=>by have:=(hN9.st.lt b hb).1;omega),k1.turn y (by omega) (fun b hb=>by omega),own_turn hoe y (fun b hb e=>by have:=(hoe.lt b hb).1;have:=HW8.out.size;rw [HSD.out] at this;omega)⟩)
   have HG9:=hide hG9
   have HT9:=hide (Turn.refl (fun k=>k=w.heap.size+1) w9)
   have HBF:=hide (show ∀ j,j < bn→∃ s,(List.replicate bn (⟨none,0,0,[]⟩:SlW Int))[j]?=some s∧s.L=castL (befW BL (E.take 0) j) from fun j hj=>⟨⟨none,0,0,[]⟩,by simp [hj],rfl⟩)
   have hsz9:w.heap.size+1 < w9.heap.size:=by omega
   clear hoe hb9 hEE hen hN9 hG9 k1 k2 k3 k4 R3 HN HW HB4
   go_wp2_with fail
   go_loopw [74] (fun v wr=>∃ (q:Nat) (L:List (SlW Int)),v=.int .i64 (q:Int)∧q≤en∧Hid (GridW wr w9.heap.size (w.heap.size+1) 34 3 1 cInt L)∧Hid (∀ j,j < bn→∃ s,L[j]?=some s∧s.L=castL (befW BL (E.take q) j))∧Hid (Turn (fun k=>k=w.heap.size+1) w9 wr)) (fun v _=>en - (intOf v).toNat)
   case atStart=>exact ⟨0,_,rfl,Nat.zero_le _,HG9,HBF,HT9⟩
   case round=>
    clear HG9 HBF HT9
    obtain ⟨q,L,rfl,hq,HG,HBF,HTU⟩:=hrel
    have hwt:=HTU.out.size
    by_cases hlt:q < en
    ·
     have hlt':(q:Int) < (en:Int):=by omega
     have hq0:(0:Int)≤(q:Int):=by omega
     obtain ⟨ed,hed⟩:∃ e,E[q]?=some e:=⟨_,List.getElem?_eq_getElem (by rw [HEN.out];exact hlt)⟩
     obtain ⟨fx,fs,fm,fe⟩:=HFT.out wr HTU.out
     obtain ⟨ge,oe,hgA,_,hgc⟩:=(Cells.of_own pV_len (by decide) fe).at_ hed
     subst hgA
     have hem:=List.mem_of_getElem? hed
     have HTK:=hide (show E.take (q+1)=E.take q++[ed] by rw [List.take_add_one,hed];rfl)
     rw [←HED2.out] at hem
     obtain ⟨e1,e2⟩:=ed
     obtain ⟨n,y,rfl,rfl,hn,hy⟩:=edges_mem.1 hem
     obtain ⟨⟨bi,bk,hbi,hbw⟩,hyc⟩:=edge_start hn hy
     have c0:wr.cell? ⟨ge,oe+q*2,none⟩=some (.int .i64 (n:Int)):=by simpa using hgc 0 _ rfl
     have c1:wr.cell? ⟨ge,oe+q*2+1,none⟩=some (.int .i64 (y:Int)):=hgc 1 _ rfl
     have hb2:=below1 wr (.cells #[.int .i64 (n:Int),.int .i64 (y:Int)] 47)
     obtain ⟨wa,hwa⟩:∃ wa,wa=wr.alloc (.cells #[.int .i64 (n:Int),.int .i64 (y:Int)] 47):=⟨_,rfl⟩
     rw [←hwa] at hb2
     have hbx:Bx wa wr.heap.size [.int .i64 (n:Int),.int .i64 (y:Int)] 47:=by rw [hwa];exact Bx.new wr _ _
     have HWA:=hide hwa
     have HBX:=hide hbx
     have HGa:=hide (HG.out.below hb2)
     have HTa:=hide (HTU.out.trans (Turn.of_below hb2))
     obtain ⟨fx,fs,fm,fe⟩:=HFT.out wa HTa.out
     have hrd:=rd_own fs
     rw [←HBL.out] at hrd
     have HS20:=hide fun (w':World) (y':Below wa.heap.size wa w')=>BSearch_any (c:=cap) (y:Int) w' (hrd.below y') (stI_asc (Nat.le_refl _)) (by rw [HBL.out];omega)
     have hcx:=hide fun (w':World) (y':Below wa.heap.size wa w')=>(show w'.cell? ⟨w.heap.size+1+1+1,0,none⟩=some (.slice (some ⟨g,0,none⟩) (bn+1) cap)∧w'.cell? ⟨wr.heap.size,1,none⟩=some (.int .i64 (y:Int)) from
      ⟨(fx.below y').cell (j:=0) rfl,(hbx.below y').cell (j:=1) rfl⟩)
     obtain ⟨D,hD⟩:∃ D,stI BL (BL.length+1)=D:=⟨_,rfl⟩
     obtain ⟨ci,hci⟩:∃ c,D.countP (· < (y:Int))=c:=⟨_,rfl⟩
     obtain ⟨cb,hcb⟩:∃ c,D.contains (y:Int)=c:=⟨_,rfl⟩
     rw [hD,hci,hcb] at HS20
     have HDD:=hide hD
     have HCI:=hide hci
     have HCB:=hide hcb
     have HBI:=hide hbi
     have HBW:=hide hbw
     have HYC:=hide hyc
     have HD:=hide ((Below.refl wa.heap.size wa).drew)
     rw [HBL.out] at HS20
     have HFX:=hide (show Bx wa (w.heap.size+1+1+1) [.slice (some ⟨g,0,none⟩) (bn+1) cap,.slice (some ⟨w.heap.size+1,0,none⟩) bn bn,.map (some (w.heap.size+1+1))] 90 from fx)
     have HRD:=hide hrd
     have hswa:wa.heap.size=wr.heap.size+1:=by rw [hwa];simp
     clear hed hgc hem hn hy hbi hbw hyc hb2 hbx fx fs fm fe hrd hD hci hcb hwa
     go_wp2_with fail
     rw [←HWA.out]
     refine wp_region_held_drew (S:=(fun w'=>Below wa.heap.size wa w')) (by kernel_rfl) HD.out (fun hHeld=>?_)
     refine planS [0,1,2,3,4,5] ?_
     repeat' (first | refine pT hHeld rfl ?_ | refine pS hHeld rfl ?_)
     refine planE ?_
     refine pC 6 rfl (fun KZ hK=>?_)
     go_simp
     refine (HS20.out _ HD.out).mono ?_
     rintro e5 w5 ⟨rfl,q5,rfl⟩
     have HD5:=hide (HD.out.trans ((drewN12 wa.drew q5).mono HD.out.size))
     refine hK.out _ _ HD5.out (fun hHeld=>?_)
     clear hK KZ
     generalize wa.drew.drewN q5=w5 at *
     refine planS [7,8,9,10,11] ?_
     repeat' (first | refine pT hHeld rfl ?_ | refine pS hHeld rfl ?_)
     refine planE ?_
     refine wpAnyH_done (by kernel_rfl) ?_ _
     have HG5:=hide (HGa.out.below HD5.out)
     have HT5:=hide (HTa.out.trans (Turn.of_below HD5.out))
     have HFX5:=hide (HFX.out.below HD5.out)
     have HBX5:=hide (HBX.out.below HD5.out)
     have hs5:=HD5.out.size
     cases cb
     case false=>
      have HB5:=hide (show ∀ j,j < bn→∃ s,L[j]?=some s∧s.L=castL (befW BL (E.take (q+1)) j) from fun j hj=>by
       obtain ⟨s,h1,h2⟩:=HBF.out j hj
       refine ⟨s,h1,?_⟩
       rw [HTK.out,befW_up,if_neg (start_no (by rw [HDD.out];exact HCB.out) (by rw [HBL.out];exact hj)),List.append_nil]
       exact h2)
      clear hHeld c0 c1
      go_wp2_with fail
      go_roundw
      case rel=>exact ⟨q+1,L,by go_num,hlt,HG5,HB5,HT5⟩
      case measure=>simp [intOf];omega
     obtain ⟨j,hjl,hyj⟩:=start_at HYC.out (by rw [HDD.out];exact HCB.out)
     have hcj:ci=j:=by
      rw [←HCI.out,← HDD.out,hyj]
      exact (stI_first (by omega)).1
     subst hcj
     have hjb:ci < bn:=by rw [←HBL.out];exact hjl
     obtain ⟨s,hLj,hsL⟩:=HBF.out ci hjb
     have HLJ:=hide hLj
     have hrow:=HG5.out.own ci s hLj
     have hsm:s.n≤200000:=by
      have h1:=befW_len BL (E.take q) ci
      have h2:(castL (befW BL (E.take q) ci)).length=(befW BL (E.take q) ci).length:=by unfold castL;simp
      have h3:(E.take q).length≤E.length:=by rw [List.length_take];exact Nat.min_le_right _ _
      have h4:s.L.length=s.n:=own_len (f:=cInt) cInt_len (by decide) hrow
      rw [HEN.out] at h3
      rw [hsL] at h4
      omega
     have HBN:=hide (show ∀ j,j < bn→∃ z,(L.set ci ⟨s.A,s.n,s.c,s.L⟩)[j]?=some z∧True from fun j hj=>⟨_,List.getElem?_eq_getElem (by
      obtain ⟨z,h1,_⟩:=HBF.out j hj
      have:=(List.getElem?_eq_some_iff.1 h1).1
      rwa [List.length_set]),trivial⟩)
     have hci':(ci:Int) < (bn:Int):=by omega
     have hci0:(0:Int)≤(ci:Int):=by omega
     have HD6:=hide (drewN12 w5 1)
     have hdr:w5.drewN 1=w5.drew:=rfl
     rw [hdr] at HD6
     have HHY:=hide hyj
     obtain ⟨sA,sn,sk,sL⟩:=s
     have hsm:sn≤200000:=hsm
     have HSL:=hide (show sL=castL (befW BL (E.take q) ci) from hsL)
     have HBK:=hide (FBlock_any (l:=BL) (fb:=w.heap.size+1+1+1) (p:=n) w5.drew (by rw [HBL.out];exact (HFX5.out.below HD6.out).cell (j:=0) rfl) ((HRD.out.below HD5.out).below (by have:=HD6.out;exact this.mono hs5)) (by rw [HBL.out];omega) HBI.out)
     have HGd:=hide (HG5.out.below HD6.out)
     have HFd:=hide (HFX5.out.below HD6.out)
     have HBd:=hide (HBX5.out.below HD6.out)
     have HT6:=hide (HT5.out.trans (Turn.of_below HD6.out))
     clear hHeld c0 c1 hdr hyj hjl hLj hsL hrow
     go_wp2_with fail
     refine wp_region_held_drew (S:=(fun w'=>w'.cell? ⟨w.heap.size+1+1+1,1,none⟩=some (.slice (some ⟨w.heap.size+1,0,none⟩) bn bn)∧w'.cell? ⟨wr.heap.size,0,none⟩=some (.int .i64 (n:Int)))) (by kernel_rfl) ⟨HFd.out.cell (j:=1) rfl,HBd.out.cell (j:=0) rfl⟩ (fun hHeld=>?_)
     have hsd:=HD6.out.size
     generalize w5.drew=wd at *
     refine planS [0,1,2,3,4,5,6,7,8,9,10,12,13,14] ?_
     repeat' (first | refine pT hHeld rfl ?_ | refine pS hHeld rfl ?_)
     refine planE ?_
     refine wpAnyH_ready (rs:=[11,15]) (by kernel_rfl) (by simp) ?_
     refine AllReadyH.cons rfl (fun KZ hK=>?p1) (AllReadyH.cons rfl (fun KZ hK=>?p2) AllReadyH.nil)
     case' p1=>
      have gl:=HGd.out.cell HLJ.out
      go_simp
      refine hK.out _ _ hHeld (fun hHeld=>?_)
      clear hK KZ gl
      try simp only [Act.put,List.setIfInBounds_toArray,List.set_cons_zero,List.set_cons_succ]
      refine pC 15 rfl (fun KZ hK=>?_)
      go_simp
      refine HBK.out.mono ?_
      rintro e6 w6 ⟨rfl,q6,rfl⟩
      have HD7:=hide (drewN12 wd q6)
      have HG6:=hide (HGd.out.below HD7.out)
      have HF6:=hide (HFd.out.below HD7.out)
      have HB6:=hide (HBd.out.below HD7.out)
      have HT7:=hide (HT6.out.trans (Turn.of_below HD7.out))
      refine hK.out _ _ ⟨HF6.out.cell (j:=1) rfl,HB6.out.cell (j:=0) rfl⟩ (fun hHeld=>?_)
      have hs6:=HD7.out.size
      clear hK KZ
      generalize wd.drewN q6=w6 at *
      try simp only [Act.put,List.setIfInBounds_toArray,List.set_cons_zero,List.set_cons_succ]
      refine pC 16 rfl (fun KZ hK=>?_)
      have HA8:=hide (below1 w6 (.cells #[.int .i64 (bi:Int)] 3))
      have HG8:=hide (HG6.out.below HA8.out)
      have HF8:=hide (HF6.out.below HA8.out)
      have HB8:=hide (HB6.out.below HA8.out)
      go_simp
      refine hK.out _ _ ⟨HF8.out.cell (j:=1) rfl,HB8.out.cell (j:=0) rfl⟩ (fun hHeld=>?_)
      clear hK KZ
      try simp only [Act.put,List.setIfInBounds_toArray,List.set_cons_zero,List.set_cons_succ]
     case' p2=>
      go_simp
      refine HBK.out.mono ?_
      rintro e6 w6 ⟨rfl,q6,rfl⟩
      have HD7:=hide (drewN12 wd q6)
      have HG6:=hide (HGd.out.below HD7.out)
      have HF6:=hide (HFd.out.below HD7.out)
      have HB6:=hide (HBd.out.below HD7.out)
      have HT7:=hide (HT6.out.trans (Turn.of_below HD7.out))
      refine hK.out _ _ ⟨HF6.out.cell (j:=1) rfl,HB6.out.cell (j:=0) rfl⟩ (fun hHeld=>?_)
      have hs6:=HD7.out.size
      clear hK KZ
      generalize wd.drewN q6=w6 at *
      try simp only [Act.put,List.setIfInBounds_toArray,List.set_cons_zero,List.set_cons_succ]
      refine wpAnyH_ready (rs:=[11,16]) (by kernel_rfl) (by simp) ?_
      refine AllReadyH.cons rfl (fun KZ hK=>?p3) (AllReadyH.cons rfl (fun KZ hK=>?p4) AllReadyH.nil)
     case' p3=>
      have gl:=HG6.out.cell HLJ.out
      go_simp
      refine hK.out _ _ hHeld (fun hHeld=>?_)
      clear hK KZ gl
      try simp only [Act.put,List.setIfInBounds_toArray,List.set_cons_zero,List.set_cons_succ]
      refine pC 16 rfl (fun KZ hK=>?_)
      have HA8:=hide (below1 w6 (.cells #[.int .i64 (bi:Int)] 3))
      have HG8:=hide (HG6.out.below HA8.out)
      have HF8:=hide (HF6.out.below HA8.out)
      have HB8:=hide (HB6.out.below HA8.out)
      go_simp
      refine hK.out _ _ ⟨HF8.out.cell (j:=1) rfl,HB8.out.cell (j:=0) rfl⟩ (fun hHeld=>?_)
      clear hK KZ
      try simp only [Act.put,List.setIfInBounds_toArray,List.set_cons_zero,List.set_cons_succ]
     case' p4=>
      have HA8:=hide (below1 w6 (.cells #[.int .i64 (bi:Int)] 3))
      have HG8:=hide (HG6.out.below HA8.out)
      have HF8:=hide (HF6.out.below HA8.out)
      have HB8:=hide (HB6.out.below HA8.out)
      go_simp
      refine hK.out _ _ ⟨HF8.out.cell (j:=1) rfl,HB8.out.cell (j:=0) rfl⟩ (fun hHeld=>?_)
      clear hK KZ
      try simp only [Act.put,List.setIfInBounds_toArray,List.set_cons_zero,List.set_cons_succ]
      refine pC 11 rfl (fun KZ hK=>?_)
      have gl:=HG8.out.cell HLJ.out
      go_simp
      refine hK.out _ _ hHeld (fun hHeld=>?_)
      clear hK KZ gl
      try simp only [Act.put,List.setIfInBounds_toArray,List.set_cons_zero,List.set_cons_succ]
     all_goals
      refine pC 17 rfl (fun KZ hK=>?_)
      refine step_append_lies (w6.alloc (.cells #[.int .i64 (bi:Int)] 3)) rfl (.tmp 100) (.tmp 105) 34 rfl w9.heap.size 3 i0 (.int .i64 0) 1 8 Tryz.underlying34 hi hz0 hz1 hz2 rfl (by decide) (.slice sA sn sk) sn (sL.flatMap cInt) rfl (HG8.out.own ci _ HLJ.out) ⟨w6.heap.size,0,none⟩ 1 1 [.int .i64 (bi:Int)] rfl rfl (World.news_of_block (heap_alloc_new w6 (.cells #[.int .i64 (bi:Int)] 3))) (cInt_one (bi:Int)) (by decide) (by unfold maxLen;omega) (by omega) (by rw [World.size_alloc];omega) _ rfl ?_
      intro g2 cap2 w7 hown7 hg7 hat7 hl7
      obtain ⟨r1,r2,r3,r4⟩:=GridW.stored (s':=⟨some ⟨g2,0,none⟩,sn+1,cap2,sL++[(bi:Int)]⟩) HG8.out HLJ.out (Below.refl _ _) hg7 (by rw [List.flatMap_append];exact hown7) (hat7.elim (fun e=>.inl e.symm) fun e=>.inr (by rw [e];rfl)) hsz9 (by rw [World.size_alloc];omega)
      have hkt:=KT.of_grown hg7 (HG8.out.own ci _ HLJ.out)
      have HF9:=hide (HF8.out.kt hkt (by decide))
      have HB9:=hide (HB8.out.kt hkt (by decide))
      have R3:=hide r3
      have R4:=hide (r4 w9 (HT7.out.trans (Turn.of_below HA8.out)) (Nat.le_refl _))
      refine hK.out _ _ ⟨HF9.out.cell (j:=1) rfl,HB9.out.cell (j:=0) rfl⟩ (fun hHeld=>?_)
      clear hK KZ hown7 hg7 hat7 hl7 r3 r4 hkt
      try simp only [Act.put,List.setIfInBounds_toArray,List.set_cons_zero,List.set_cons_succ]
      refine planS [18] ?_
      repeat' (first | refine pT hHeld rfl ?_ | refine pS hHeld rfl ?_)
      refine planE ?_
      refine pC 19 rfl (fun KZ hK=>?_)
      go_simp
      have HB10:=HB9.out.other (a:=⟨w.heap.size+1,ci,none⟩) (show w.heap.size+1≠wr.heap.size by omega) (.slice (some ⟨g2,0,none⟩) (sn+1) cap2)
      have HF10:=HF9.out.other (a:=⟨w.heap.size+1,ci,none⟩) (show w.heap.size+1≠w.heap.size+1+1+1 by omega) (.slice (some ⟨g2,0,none⟩) (sn+1) cap2)
      refine hK.out _ _ ⟨HF10.cell (j:=1) rfl,HB10.cell (j:=0) rfl⟩ (fun hHeld=>?_)
      clear hK KZ HB10 HF10 r1 r2
      refine wpAnyH_done (by kernel_rfl) ?_ _
      have HNB:=hide (show ∀ j,j < bn→∃ z,(L.set ci ⟨some ⟨g2,0,none⟩,sn+1,cap2,sL++[(bi:Int)]⟩)[j]?=some z∧z.L=castL (befW BL (E.take (q+1)) j) from fun j hj=>by
       obtain ⟨z,h1,h2⟩:=HBF.out j hj
       have hlj:=(List.getElem?_eq_some_iff.1 h1).1
       rw [HTK.out,befW_up,List.getElem?_set]
       by_cases e:ci=j
       ·
        subst e
        refine ⟨_,by rw [if_pos rfl,if_pos hlj],?_⟩
        rw [if_pos (by rw [HHY.out])]
        show sL++[(bi:Int)]=_
        rw [HSL.out,HBW.out]
        unfold castL
        rw [List.map_append]
        rfl
       ·
        refine ⟨z,by rw [if_neg e];exact h1,?_⟩
        rw [if_neg fun e2=>e ?_,List.append_nil]
        ·
         exact h2
        ·
         have e3:(y:Int)=(ptFirst BL j:Int):=e2
         exact first_injW (by rw [HBL.out];exact hjb) (by rw [HBL.out];exact hj) (by have:=HHY.out;omega))
      go_wp2_with fail
      go_roundw
      case rel=>exact ⟨q+1,_,by go_num,hlt,R3,HNB,R4⟩
      case measure=>simp [intOf];omega
    ·
     have hlt':¬(q:Int) < (en:Int):=by omega
     have HFIN:=hide (show ∀ j,j < BL.length→∃ s,L[j]?=some s∧s.L=castL (befW BL (edgesI BL) j) from fun j hj=>by
      have h:=HBF.out j (by rw [←HBL.out];exact hj)
      rwa [List.take_of_length_le (by rw [HEN.out];omega),← HED2.out] at h)
     obtain ⟨fx,fs,fm,fe⟩:=HFT.out wr HTU.out
     have HRES:=hide (show FlowR BL w.heap.size (.returned (.pointer (some ⟨w.heap.size+1+1+1,0,none⟩))) wr from ⟨w.heap.size+1+1+1,K,rfl,⟨some ⟨g,0,none⟩,cap,w.heap.size+1,w.heap.size+1+1,w9.heap.size,w.heap.size+1+1,S,L,⟨by rw [HBL.out];exact fx,by rw [HBL.out];exact rd_own fs,HG.out,HFIN.out,fm,by rw [HCC.out];exact HKF.out.1⟩⟩,by omega,by rw [HCC.out];exact HKF.out.2.1,by have:=HKF.out.2.2;omega⟩)
     have HBE:=hide (show Below w.heap.size w wr from (HB.out.trans (HW9.out.mono hm9)).trans (HTU.out.below (by omega) fun k hk=>by omega))
     clear fx fs fm fe
     go_wp2_with fail
     go_ret
     exact ⟨HRES.out,HBE.out⟩
end Go.Proofs.YteeemjmohjkdpaaGreatDoor
