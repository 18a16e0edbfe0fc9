/- Part 27 of the contracts and their mathematics. -/
import Derived.Test.YteeemjmohjkdpaaGreatDoorQ25
set_option linter.unusedVariables false
set_option linter.unusedSimpArgs false
set_option maxRecDepth 100000
set_option maxHeartbeats 16000000
namespace Go.Proofs.YteeemjmohjkdpaaGreatDoor
open Go.RowKit
def LiveR (l:List BkV) (x:Int) (lo:Nat) (e:Ending) (w':World):Prop:=∃ (A:Option Addr) (m c:Nat) (J:List RunW),e=.returned (.slice A m c)∧w'.ownsRow lo 94 2 (.slice A m c) m (J.flatMap cRun)∧m≤2000∧RunsIn (ptCount l) J∧∀ p,p < ptCount l→covW J p=if lvB l x p=true then 1 else 0
theorem FLive_any {w:World} {l:List BkV} {fb:Nat} {sA:Option Addr} {sc bb m b1 b2:Nat} {S:Int→SlW (Nat×Bool)} {K:List Int} {L:List (SlW Int)} (h:FlowM w l fb sA sc bb m b1 b2 S K L) {x:Int} (hx:IntR x) (hC:ptCount l≤1000) (hE:(edgesI l).length≤200000) :
    Calls Tryz.prog 42 #[.pointer (some ⟨fb,0,none⟩),.int .i64 x] w fun e w'=>LiveR l x w.heap.size e w'∧Below w.heap.size w w':=by
  have hln:l.length≤ptCount l:=len_le_count l
  have HLK:=hide (h.sit.look sitT (zeroSit w) hx)
  have hrow:=h.sit.row x
  have hsl:=h.sit.len x
  have hss:=h.sites x
  have HFM:=hide fun (w':World) (y:Below w.heap.size w w')=>h.below y
  have f2:=h.box.cell (j:=2) rfl
  have HF:=hide fun (w':World) (y:Below w.heap.size w w')=>(show w'.cell? ⟨fb,0,none⟩=some (.slice sA (l.length+1) sc)∧w'.cell? ⟨fb,1,none⟩=some (.slice (some ⟨bb,0,none⟩) l.length l.length) from
    ⟨(y.cell (p:=⟨fb,0,none⟩) h.box.lt).trans (h.box.cell (j:=0) rfl),(y.cell (p:=⟨fb,1,none⟩) h.box.lt).trans (h.box.cell (j:=1) rfl)⟩)
  obtain ⟨sb,so,rfl,hsb,hsc⟩:=h.st.2 (Nat.succ_pos _)
  have HST:=hide fun (w':World) (y:Below w.heap.size w w') (i:Nat) (hi:i < l.length+1)=>(show w'.cell? ⟨sb,so+i,none⟩=some (.int .i64 (ptFirst l i:Int)) from (y.cell (p:=⟨sb,so+i,none⟩) hsb).trans (hsc i _ (by rw [List.getElem?_map,stI_at l hi];rfl)))
  obtain ⟨s,hs⟩:∃ s,S x=s:=⟨_,rfl⟩
  rw [hs] at HLK hrow hsl hss
  obtain ⟨tA,sn,tc,sL⟩:=s
  have HLK:=hide (show (Instr.lookup 88 (.map (some m)) (.int .i64 x) false).run Tryz.prog w=.ok (.slice tA sn tc) w from HLK.out)
  have hsn:sn≤1000:=by have h1:=sitesW_len l x (ptCount l);have h2:sL=_:=hss;rw [←h2] at h1;have h3:sL.length=sn:=hsl;omega
  have HSL:=hide (show sL.length=sn from hsl)
  have HSS:=hide (show sL=sitesW l x (ptCount l) from hss)
  have HSC:=hide (show Cells w w.heap.size 2 cSite tA sn sL from Cells.of_own cSite_len (by decide) hrow)
  have HZ:=hide (show ∀ z∈sL,z.1≤100000 from fun z hz=>by
    have h2:sL=sitesW l x (ptCount l):=hss
    rw [h2] at hz
    obtain ⟨z1,z2⟩:=z
    have h3:=(sitesW_mem.1 hz).1
    show z1≤100000
    omega)
  obtain ⟨i0,hi,hz0,hz1,hz2⟩:=info_parts infoRun
  obtain ⟨C,hCC⟩:∃ C,ptCount l=C:=⟨_,rfl⟩
  obtain ⟨nl,hnl⟩:∃ n,l.length=n:=⟨_,rfl⟩
  have HNL:=hide hnl
  rw [hnl] at HF HST
  have HBEF:=hide fun (j:Nat) (hj:j < nl)=>h.bef j (by rw [hnl];exact hj)
  have HCC:=hide hCC
  have hC':C≤1000:=hCC ▸ hC
  have hnl':nl≤C:=by omega
  have HE:=hide hE
  clear h hrow hsl hss hs hln hC hCC hnl hE hx hsb hsc
  go_enter Tryz.func42,Tryz.ntmps42
  go_wp2
  refine wp_scope_straight ?_
  go_wp2_with (at_lookup;refine wpList_look _ rfl _ _ _ _ rfl _ _ _ rfl rfl HLK.out ?_)
  clear f2
  have HW0:=hide (Below.refl w.heap.size w)
  go_loopw [6,25] (fun v i wr=>∃ (j:Nat) (A6:Option Addr) (m6 c6:Nat),i=.int .i64 (j:Int)∧v=.slice A6 m6 c6∧j≤sn∧m6≤j∧Hid (wr.ownsRow w.heap.size 94 2 (.slice A6 m6 c6) m6 ((useRuns (sL.take j)).flatMap cRun))∧Hid (Below w.heap.size w wr)) (fun _ i _=>sn - (intOf i).toNat)
  case atStart=>exact ⟨0,none,0,0,rfl,rfl,Nat.zero_le _,Nat.le_refl _,hide (World.ownsRow_nil _ _ _ _),HW0⟩
  case round=>
    obtain ⟨j,A6,m6,c6,rfl,rfl,hj,hm6,HO,HW⟩:=hrel
    by_cases hlt:j < sn
    · have hlt':(j:Int) < (sn:Int):=by omega
      have hj0:(0:Int)≤(j:Int):=by omega
      obtain ⟨z,hz⟩:∃ z,sL[j]?=some z:=⟨_,List.getElem?_eq_getElem (by rw [HSL.out];exact hlt)⟩
      obtain ⟨g0,o0,hA,hg0,hgc⟩:=HSC.out.at_ hz
      subst hA
      have hzm:=HZ.out z (List.mem_of_getElem? hz)
      have HTK:=hide (show useRuns (sL.take (j+1))=useRuns (sL.take j)++if z.2=true then [(z.1,z.1+1)] else [] from by rw [List.take_add_one,hz];exact useRuns_up _ _)
      obtain ⟨zp,zu⟩:=z
      have hzm:zp≤100000:=hzm
      have c0:wr.cell? ⟨g0,o0+j*2,none⟩=some (.int .i64 (zp:Int)):=(HW.out.cell (p:=⟨g0,o0+j*2,none⟩) hg0).trans (by simpa using hgc 0 _ rfl)
      have c1:wr.cell? ⟨g0,o0+j*2+1,none⟩=some (.bool zu):=(HW.out.cell (p:=⟨g0,o0+j*2+1,none⟩) hg0).trans (hgc 1 _ rfl)
      have hws:=HW.out.size
      have hb2:=below1 wr (.cells #[.int .i64 (zp:Int),.bool zu] 129)
      have HO2:=hide (ownsRow_below HO.out hb2)
      have HX2:=hide (Bx.new wr [.int .i64 (zp:Int),.bool zu] 129)
      have HW2:=hide (HW.out.trans (hb2.mono hws))
      have y0:=HX2.out.cell (j:=0) rfl
      have y1:=HX2.out.cell (j:=1) rfl
      have s2:IntKind.i64.wrap ((zp:Int)+1)=(zp:Int)+1:=wrapI9 _ (by omega) (by omega)
      clear hz hg0 hgc hb2
      cases zu
      · go_wp2_with fail
        go_roundw
        case rel=>exact ⟨j+1,A6,m6,c6,by go_num,rfl,hlt,by omega,hide (show _ from by rw [HTK.out];simpa using HO2.out),HW2⟩
        case measure=>simp [intOf];omega
      · have HAPP := hide (show Below w.heap.size w ((wr.alloc (.cells #[.int .i64 (zp : Int), .bool true] 129)).alloc (.cells #[.int .i64 (zp : Int), .int .i64 ((zp : Int) + 1)] 94)) ∧ ((wr.alloc (.cells #[.int .i64 (zp : Int), .bool true] 129)).alloc (.cells #[.int .i64 (zp : Int), .int .i64 ((zp : Int) + 1)] 94)).ownsRow w.heap.size 94 2 (.slice A6 m6 c6) m6 ((useRuns (sL.take j)).flatMap cRun) ∧ (∀ j u, (cRun (zp, zp + 1))[j]? = some u → ((wr.alloc (.cells #[.int .i64 (zp : Int), .bool true] 129)).alloc (.cells #[.int .i64 (zp : Int), .int .i64 ((zp : Int) + 1)] 94)).cell? ((⟨wr.heap.size + 1, 0, none⟩ : Addr).add j) = some u) from by
          have hb3:=below1 (wr.alloc (.cells #[.int .i64 (zp:Int),.bool true] 129)) (.cells #[.int .i64 (zp:Int),.int .i64 ((zp:Int)+1)] 94)
          have hn:=heap_alloc_new (wr.alloc (.cells #[.int .i64 (zp:Int),.bool true] 129)) (.cells #[.int .i64 (zp:Int),.int .i64 ((zp:Int)+1)] 94)
          rw [World.size_alloc] at hn
          exact ⟨HW2.out.trans (hb3.mono HW2.out.size),ownsRow_below HO2.out hb3,World.news_of_block hn⟩)
        obtain ⟨q1,q2,q3⟩:=HAPP.out
        have Q1:=hide q1
        clear q1
        go_wp2_with (at_builtin;refine wpList_append_lies _ rfl _ _ 91 rfl w.heap.size 94 i0 _ 2 16 Tryz.underlying91 hi hz0 hz1 hz2 rfl (by decide) (.slice A6 m6 c6) m6 ((useRuns (sL.take j)).flatMap cRun) rfl q2 ⟨wr.heap.size+1,0,none⟩ 1 1 (cRun (zp,zp+1)) rfl rfl q3 (cRun_one _) (by decide) (by unfold maxLen;omega) (by omega) Q1.out.size _ rfl ?_;intro g cap w7 hown7 hg7 hat7 hl7)
        have HW7:=hide (Q1.out.grown hg7 Q1.out.size fun b hb=>(q2.lt b hb).1)
        have HO7:=hide (show w7.ownsRow w.heap.size 94 2 (.slice (some ⟨g,0,none⟩) (m6+1) cap) (m6+1) ((useRuns (sL.take (j+1))).flatMap cRun) by rw [HTK.out,if_pos rfl,List.flatMap_append];exact hown7)
        clear hown7 hg7 hat7 hl7 q2 q3
        go_roundw
        case rel=>exact ⟨j+1,_,m6+1,cap,by go_num,rfl,hlt,by omega,HO7,HW7⟩
        case measure=>simp [intOf];omega
    · have hlt':¬(j:Int) < (sn:Int):=by omega
      obtain rfl:sn=j:=by omega
      have HO9:=hide (show wr.ownsRow w.heap.size 94 2 (.slice A6 m6 c6) m6 ((useRuns (sitesW l x (ptCount l))).flatMap cRun) from by
        have h:=HO.out
        rwa [List.take_of_length_le (by rw [HSL.out];exact Nat.le_refl _),HSS.out] at h)
      have hul:(useRuns (sitesW l x (ptCount l))).length≤1000:=Nat.le_trans (useRuns_len _) (Nat.le_trans (sitesW_len _ _ _) (by rw [HCC.out];exact hC'))
      obtain ⟨u,hu⟩:∃ u,(useRuns (sitesW l x (ptCount l))).length=u:=⟨_,rfl⟩
      have HSK:=hide (SeekW.start l x)
      have hM9:LiveS (wr.alloc (.map #[] 0)) w.heap.size wr.heap.size [] (useRuns (sitesW l x (ptCount l))) [] [] (.slice none 0 0) (.slice A6 m6 c6) 0 m6:=
        ⟨World.ownsRow_nil _ _ _ _,ownsRow_below HO9.out (below1 wr _),(fun b hb=>by cases hb),SetW.new wr,fun i=>by simp⟩
      have HM9:=hide hM9
      have HW9:=hide (HW.out.trans ((below1 wr (.map #[] 0)).mono HW.out.size))
      have hm6l:=hM9.l6
      have hebw:=HW.out.size
      rw [hu] at HSK hul hm6l
      have HG0:=hide (show 2*(nl - ([]:List Nat).length)+(useRuns (sitesW l x (ptCount l))).length≤2*nl+u from by rw [hu];simp)
      obtain ⟨eb,heb⟩:∃ eb,wr.heap.size=eb:=⟨_,rfl⟩
      rw [heb] at hebw
      have hmm:=@run_makeMap Tryz.prog
      clear hlt HO HO9 hM9
      go_wp2
      clear hmm
      apply wp_label
      go_wp2
      have HW9:=hide (show Below w.heap.size w (wr.alloc (.map #[] 0)) from HW9.out)
      have HM9:=hide (show LiveS (wr.alloc (.map #[] 0)) w.heap.size wr.heap.size [] (useRuns (sitesW l x (ptCount l))) [] [] (.slice none 0 0) (.slice A6 m6 c6) 0 m6 from HM9.out)
      generalize wr.alloc (.map #[] 0)=w9 at *
      rw [heb] at *
      clear heb HW
      go_loopg [5,6] (2*nl+u) (fun g v5 v6 wr=>∃ (X:List Nat) (W:List RunW) (Dn:List (RunW×Nat)) (A5:Option Addr) (n5 c5:Nat) (A6:Option Addr) (n6 c6:Nat) (Lx:List Int),v5=.slice A5 n5 c5∧v6=.slice A6 n6 c6∧Hid (SeekW l x u X W Dn [])∧Hid (LiveS wr w.heap.size eb (runsW Dn) W X Lx (.slice A5 n5 c5) (.slice A6 n6 c6) n5 n6)∧Hid (Below w.heap.size w wr)∧Hid (Lx.length≤Dn.length*200000)∧Hid (2*(nl - X.length)+W.length≤g)∧Hid (g≤2*nl+u))
      case atStart=>exact ⟨[],_,[],none,0,0,A6,m6,c6,[],rfl,rfl,HSK,HM9,HW9,Nat.zero_le _,HG0,Nat.le_refl _⟩
      case round=>
        obtain ⟨X,W,Dn,A5,n5,c5,B6,n6,d6,Lx,rfl,rfl,HS,HM,HW,HLX,HG,HGB⟩:=hrel
        have hl5:=HM.out.l5
        have hl6:=HM.out.l6
        have hdn:=HS.out.len
        have hxl:=HS.out.xlen
        rw [HNL.out] at hxl
        have hrl:=runsW_len Dn
        have hn5:n5≤2000:=by omega
        by_cases h0:W=[]
        · subst h0
          obtain rfl:n6=0:=hl6.symm
          have HJ:=hide (Joined_any (C:=C) HM.out.r5 (by omega) (by omega) (by rw [←HCC.out];exact HS.out.runs) HW.out.size)
          have HFIN:=hide fun (p:Nat) (hp:p < ptCount l)=>HS.out.fin hp
          have hws:=HW.out.size
          clear hl5 hl6 hdn hxl hrl HG HGB HLX HS HM
          go_wp2_with fail
          refine HJ.out.mono ?_
          rintro e w8 ⟨⟨A,m8,c8,J,rfl,ho8,hm8,hr8,hc8⟩,hb8⟩
          have HB8:=hide (HW.out.trans hb8)
          have HO8:=hide (ownsRow_base ho8 hws)
          have HR8:=hide hr8
          have HC8:=hide hc8
          clear ho8 hb8 hr8 hc8
          go_wp2
          rw [Exit.noGoto_ret]
          go_ret
          exact ⟨⟨A,m8,c8,J,rfl,HO8.out,by omega,by rw [HCC.out];exact HR8.out,fun p hp=>(HC8.out p).trans (HFIN.out p hp)⟩,HB8.out⟩
        · obtain ⟨Wi,r,rfl⟩:∃ M y,W=M++[y]:=⟨W.dropLast,W.getLast h0,(List.dropLast_concat_getLast h0).symm⟩
          obtain ⟨k,hk⟩:∃ k,Wi.length=k:=⟨_,rfl⟩
          obtain rfl:n6=k+1:=by rw [←hl6,List.length_append,hk];rfl
          have hit:=(HS.out.all r).1 (.inl (by simp))
          obtain ⟨j,kk,hloc,hr0,hj,hr1,hr2,hr3⟩:=hit.block fun i hi=>(HS.out.xok i hi).1
          have hra:r.1≤r.2:=by
            rcases hit with ⟨q,_,_,rfl⟩ | ⟨i,_,rfl⟩
            · exact Nat.le_succ _
            · exact Nat.le_refl _
          obtain ⟨ra,rd⟩:=r
          have hr0:0 < rd:=hr0
          obtain ⟨d,rfl⟩:∃ d,rd=d+1:=⟨rd - 1,by omega⟩
          have hloc:ptLoc l d=some (j,kk):=hloc
          have hra:ra≤d+1:=hra
          have hr3:d+1≤C:=by rw [←HCC.out];exact hr3
          have HR12:=hide (And.intro hr1 hr2)
          have HLOC:=hide hloc
          have hj:j < nl:=by rw [←HNL.out];exact hj
          have hg:=HG.out
          have hgb:=HGB.out
          rw [List.length_append,hk] at hg hdn
          have hg:2*(nl - X.length)+(k+1)≤gk:=hg
          have hdn:k+1+Dn.length=u+X.length:=hdn
          obtain ⟨g6,rfl,hg61,hg62⟩:=own_form HM.out.r6 (Nat.succ_pos k)
          obtain ⟨gv,zv,hgA,_,hgc⟩:=(Cells.of_own cRun_len (by decide) HM.out.r6).at_ (i:=k) (x:=(ra,d+1)) (by rw [←hk];simp)
          injection hgA with hgA
          injection hgA with hgA hgo
          subst hgA hgo
          have c0:wr.cell? ⟨g6,k*2,none⟩=some (.int .i64 (ra:Int)):=by simpa using hgc 0 _ rfl
          have c1:wr.cell? ⟨g6,k*2+1,none⟩=some (.int .i64 ((d:Int)+1)):=by simpa using hgc 1 _ rfl
          obtain ⟨hnc1,hnc2⟩:k+1≤d6∧d6≤maxLen:=by
            have h:=own_sl (s:=⟨some ⟨g6,0,none⟩,k+1,d6,Wi++[(ra,d+1)]⟩) (Q:=fun _=>True) cRun_len (by decide) HM.out.r6 (fun _ _=>trivial)
            exact ⟨h.nc,h.cm⟩
          unfold maxLen at hnc2
          have s1:IntKind.i64.wrap ((k:Int)+1 - 1)=(k:Int):=by rw [show (k:Int)+1 - 1=k by omega];exact wrapI9 _ (by omega) (by omega)
          have s2:IntKind.i64.wrap ((d:Int)+1 - 1)=(d:Int):=by rw [show (d:Int)+1 - 1=d by omega];exact wrapI9 _ (by omega) (by omega)
          have hk1:((k+1:Nat):Int) > 0:=by omega
          have hk2:(k:Int) < ((k+1:Nat):Int):=by omega
          have hk3:(0:Int)≤(k:Int):=by omega
          have hk4:k≤d6:=by omega
          have HM1:=hide HM.out.pop
          have hcf:=(HF.out wr HW.out).1
          have hfb9:fb < w.heap.size:=(HFM.out w (Below.refl _ _)).box.lt
          have HBLK:=hide (FBlock_any (l:=l) (fb:=fb) (p:=d) wr (B:=wr.heap.size) (by rw [HNL.out];exact hcf) (HFM.out wr HW.out).st (by rw [HNL.out];omega) hloc)
          have HBAK:=hide fun (w':World) (y:Below w.heap.size w w')=>FBack_any (l:=l) (fb:=fb) (sc:=sc) ra (d+1) j tA sn tc sL w' (Nat.lt_of_lt_of_le hfb9 y.size) (by rw [HNL.out];exact (HF.out w' y).1) (HFM.out w' y).st (by rw [HNL.out];omega) ((HSC.out.below y).more y.size) (by rw [HSS.out];exact sitesW_asc _ _ _) (by omega) (by omega) (fun z hz=>Nat.le_trans (HZ.out z hz) (by decide))
          have HK:=hide hk
          have HDN:=hide hdn
          have HXL:=hide hxl
          have hws:=HW.out.size
          have hb2:=below1 wr (.cells #[.int .i64 (ra:Int),.int .i64 ((d:Int)+1)] 94)
          clear h0 hl5 hl6 hit hloc hr1 hr2 hgc hcf hfb9 hk hb2
          go_wp2_with fail
          refine HBLK.out.mono ?_
          rintro e w1 ⟨rfl,q1,rfl⟩
          have hd1:Below wr.heap.size wr (wr.drewN q1):=drewN12 wr q1
          have HW1:=hide (HW.out.trans (hd1.mono hws))
          have HM2:=hide (HM1.out.below hd1)
          have e0:=(hd1.cell (p:=⟨g6,k*2,none⟩) hg62).trans c0
          have e1:=(hd1.cell (p:=⟨g6,k*2+1,none⟩) hg62).trans c1
          generalize wr.drewN q1=w1 at *
          have hws1:=hd1.size
          clear hd1 c0 c1 s2 HM1
          go_wp2_with fail
          refine (HBAK.out w1 HW1.out).mono ?_
          rintro e w2 ⟨⟨b,rfl,hbk⟩,hb2⟩
          have HBK:=hide hbk
          have hb3:=below1 w2 (.cells #[.int .i64 (b:Int),.int .i64 ((d:Int)+1)] 94)
          have HW3:=hide ((HW1.out.trans (hb2.mono HW1.out.size)).trans (hb3.mono (Nat.le_trans HW1.out.size hb2.size)))
          have HM3:=hide ((HM2.out.below hb2).below hb3)
          have HX3:=hide (Bx.new w2 [.int .i64 (b:Int),.int .i64 ((d:Int)+1)] 94)
          have y0:=HX3.out.cell (j:=0) rfl
          have y1:=HX3.out.cell (j:=1) rfl
          have hw23:w.heap.size≤w2.heap.size:=Nat.le_trans HW1.out.size hb2.size
          have HLT:=hide (show ∀ b,(Value.slice A5 n5 c5).ownBlock=some b→b < w2.heap.size from fun b hb=>((HM2.out.below hb2).r5.lt b hb).2)
          clear hbk hb2 hb3 e0 e1 HBAK HBLK HM2
          have HRU:=hide (runsW_up Dn ((ra,d+1),b))
          by_cases hbd:b < d+1
          case' pos=>
            have hbd':(b:Int) < (d:Int)+1:=by omega
            obtain ⟨q1,q2,q3⟩:Below (w2.alloc (.cells #[.int .i64 (b:Int),.int .i64 ((d:Int)+1)] 94)).heap.size (w2.alloc (.cells #[.int .i64 (b:Int),.int .i64 ((d:Int)+1)] 94)) ((w2.alloc (.cells #[.int .i64 (b:Int),.int .i64 ((d:Int)+1)] 94)).alloc (.cells #[.int .i64 (b:Int),.int .i64 ((d:Int)+1)] 94))∧((w2.alloc (.cells #[.int .i64 (b:Int),.int .i64 ((d:Int)+1)] 94)).alloc (.cells #[.int .i64 (b:Int),.int .i64 ((d:Int)+1)] 94)).ownsRow w.heap.size 94 2 (.slice A5 n5 c5) n5 ((runsW Dn).flatMap cRun)∧(∀ j u,(cRun (b,d+1))[j]?=some u→((w2.alloc (.cells #[.int .i64 (b:Int),.int .i64 ((d:Int)+1)] 94)).alloc (.cells #[.int .i64 (b:Int),.int .i64 ((d:Int)+1)] 94)).cell? ((⟨w2.heap.size+1,0,none⟩:Addr).add j)=some u):=by
              have hb4:=below1 (w2.alloc (.cells #[.int .i64 (b:Int),.int .i64 ((d:Int)+1)] 94)) (.cells #[.int .i64 (b:Int),.int .i64 ((d:Int)+1)] 94)
              have hn:=heap_alloc_new (w2.alloc (.cells #[.int .i64 (b:Int),.int .i64 ((d:Int)+1)] 94)) (.cells #[.int .i64 (b:Int),.int .i64 ((d:Int)+1)] 94)
              rw [World.size_alloc] at hn
              exact ⟨hb4,ownsRow_below HM3.out.r5 hb4,World.news_of_block hn⟩
            have Q1:=hide q1
            have hws5:w.heap.size≤((w2.alloc (.cells #[.int .i64 (b:Int),.int .i64 ((d:Int)+1)] 94)).alloc (.cells #[.int .i64 (b:Int),.int .i64 ((d:Int)+1)] 94)).heap.size:=Nat.le_trans HW3.out.size q1.size
            clear q1
            go_wp2_with (at_builtin;refine wpList_append_lies _ rfl _ _ 91 rfl w.heap.size 94 i0 _ 2 16 Tryz.underlying91 hi hz0 hz1 hz2 rfl (by decide) (.slice A5 n5 c5) n5 ((runsW Dn).flatMap cRun) rfl q2 ⟨w2.heap.size+1,0,none⟩ 1 1 (cRun (b,d+1)) rfl rfl q3 (cRun_one _) (by decide) (by unfold maxLen;omega) (by omega) hws5 _ rfl ?_;intro g cap w7 hown7 hg7 hat7 hl7)
            have HMa:=hide (HM3.out.app5 (r:=(b,d+1)) Q1.out hg7 hown7 hat7)
            have HW7:=hide ((HW3.out.trans (Q1.out.mono HW3.out.size)).grown hg7 hws5 fun b hb=>(q2.lt b hb).1)
            have hx7:=HX3.out.below Q1.out
            have HX7:=hide (show Bx w7 w2.heap.size [.int .i64 (b:Int),.int .i64 ((d:Int)+1)] 94 from (hg7.block w2.heap.size (Array.getElem?_eq_some_iff.1 hx7).1 fun e=>Nat.lt_irrefl _ (HLT.out _ e.symm)).trans hx7)
            rw [if_pos (show (((ra,d+1),b):RunW×Nat).2 < (((ra,d+1),b):RunW×Nat).1.2 from hbd)] at HRU
            have HM7:=hide (show LiveS w7 w.heap.size eb (runsW (Dn++[((ra,d+1),b)])) Wi X Lx (.slice (some ⟨g,0,none⟩) (n5+1) cap) (.slice (some ⟨g6,0,none⟩) k d6) (n5+1) k from by rw [HRU.out];exact HMa.out)
            clear hown7 hg7 hat7 hl7 q2 q3 hx7 HMa HM3 HX3 Q1 hbd' hws5 y0 y1
            obtain ⟨A7,hA7⟩:∃ A:Option Addr,A=some ⟨g,0,none⟩:=⟨_,rfl⟩
            obtain ⟨n7,hn7⟩:∃ n:Nat,n=n5+1:=⟨_,rfl⟩
            rw [←hA7,← hn7] at HM7 ⊢
            obtain ⟨c7,hc7⟩:∃ c:Nat,c=cap:=⟨_,rfl⟩
            rw [←hc7] at HM7 ⊢
            clear hA7 hn7 hc7
          case' neg=>
            have hbd':¬(b:Int) < (d:Int)+1:=by omega
            go_wp2_with fail
            rw [if_neg (show ¬(((ra,d+1),b):RunW×Nat).2 < (((ra,d+1),b):RunW×Nat).1.2 from hbd),List.append_nil] at HRU
            have HM7:=HM3
            rw [←HRU.out] at HM7
            have HW7:=HW3
            have HX7:=hide (show Bx (w2.alloc (.cells #[.int .i64 (b:Int),.int .i64 ((d:Int)+1)] 94)) w2.heap.size [.int .i64 (b:Int),.int .i64 ((d:Int)+1)] 94 from HX3.out)
            clear HM3 HW3 HX3 hbd' y0 y1
            generalize w2.alloc (.cells #[.int .i64 (b:Int),.int .i64 ((d:Int)+1)] 94)=w7 at *
            obtain ⟨A7,hA7⟩:∃ A:Option Addr,A=A5:=⟨_,rfl⟩
            obtain ⟨n7,hn7⟩:∃ n:Nat,n=n5:=⟨_,rfl⟩
            obtain ⟨c7,hc7⟩:∃ c:Nat,c=c5:=⟨_,rfl⟩
            subst hA7 hn7 hc7
          all_goals
            clear hbd HRU HLT
            have hws7:=HW7.out.size
            have y0:=HX7.out.cell (j:=0) rfl
            have f0:=(HF.out w7 HW7.out).1
            have st0:=HST.out w7 HW7.out j (by omega)
            obtain ⟨fj,hfj⟩:∃ f,ptFirst l j=f:=⟨_,rfl⟩
            have HFJ:=hide hfj
            rw [hfj] at st0
            have hbl:fj≤b:=hfj ▸ HBK.out.low
            have hj1:(j:Int) < ((nl+1:Nat):Int):=by omega
            have hj0:(0:Int)≤(j:Int):=by omega
            clear hfj
            by_cases hbf:fj < b
            · have hd1:decide ((b:Int) > (fj:Int))=true:=decide_eq_true (by omega)
              have hd2:(b:Int) > (fj:Int):=by omega
              have HBF:=hide hbf
              clear hbf hbl
              go_quiet (fail)
              have hdd:Below w7.heap.size w7 (w7.drewN nq):=drewN12 w7 nq
              have HM8:=hide (HM7.out.below hdd)
              have HW8:=hide (HW7.out.trans (hdd.mono hws7))
              have HS8:=hide (HS.out.pop (j:=j) (b:=b) (Pd:=[]) (by rw [HNL.out];exact hj) HR12.out.1 HR12.out.2 (by rw [←HSS.out];exact HBK.out) (fun i hi=>by cases hi) (fun e=>absurd e (by have:=HBF.out;have:=HFJ.out;omega)) fun _=>rfl)
              clear hdd
              go_wp2_with fail
              go_roundg (2*(nl - X.length)+k)
              case rel=>exact ⟨X,Wi,Dn++[((ra,d+1),b)],A7,n7,c7,some ⟨g6,0,none⟩,k,d6,Lx,rfl,rfl,HS8,HM8,HW8,hide (by rw [List.length_append];exact Nat.le_trans HLX.out (Nat.mul_le_mul_right _ (Nat.le_add_right _ _))),(show _≤_ from by rw [HK.out];exact Nat.le_refl _),(show _≤_ from by omega)⟩
              case measure=>omega
            · have hd1:decide ((b:Int) > (fj:Int))=false:=decide_eq_false (by omega)
              have hd2:¬(b:Int) > (fj:Int):=by omega
              obtain rfl:b=fj:=by omega
              clear hbf hbl
              go_quiet (fail)
              have hdd:Below w7.heap.size w7 (w7.drewN nq):=drewN12 w7 nq
              have HM8:=hide (HM7.out.below hdd)
              have HW8:=hide (HW7.out.trans (hdd.mono hws7))
              generalize w7.drewN nq=w8 at *
              have f1:=(HF.out w8 HW8.out).2
              obtain ⟨⟨rA,rn,rc,rL⟩,hLj,hrL⟩:=HBEF.out j hj
              have hrL:rL=castL (befW l (edgesI l) j):=hrL
              have g1:w8.cell? ⟨bb,j,none⟩=some (.slice rA rn rc):=(HFM.out w8 HW8.out).grid.cell hLj
              have hrow:=(HFM.out w (Below.refl _ _)).grid.own j _ hLj
              have HRC:=hide (show Cells w w.heap.size 1 cInt rA rn rL from Cells.of_own cInt_len (by decide) hrow)
              have hrn:rL.length=rn:=HRC.out.1
              obtain ⟨Bf,hBf⟩:∃ B,befW l (edgesI l) j=B:=⟨_,rfl⟩
              have hbm:∀ i,i∈Bf↔i < l.length∧j∈bN l i:=fun i=>hBf ▸ befW_mem (by rw [HNL.out];exact hj)
              have hrE:rn≤200000:=by
                have h1:=befW_len l (edgesI l) j
                rw [←hrn,hrL]
                have h2:(castL (befW l (edgesI l) j)).length=(befW l (edgesI l) j).length:=by unfold castL;simp
                have h3:=HE.out
                omega
              rw [hBf] at hrL
              subst hrL
              have HBL := hide (show Bf.length = rn from by have h2 : (castL Bf).length = Bf.length := by { unfold castL; simp }
                                                            omega)
              have HBM:=hide hbm
              have HS8:=hide (HS.out.pop (j:=j) (b:=b) (Pd:=Bf) (by rw [HNL.out];exact hj) HR12.out.1 HR12.out.2 (by rw [←HSS.out];exact HBK.out) (fun i hi=>(hbm i).1 hi) (fun _ i h1 h2=>(hbm i).2 ⟨h1,h2⟩) fun e=>absurd HFJ.out.symm e)
              have hj2:(j:Int) < (nl:Int):=by omega
              have HDN2:=hide (show (Dn++[((ra,d+1),b)]).length=Dn.length+1 from by simp)
              have hHL:=HLX.out
              have hDN:=hdn
              have HG9:=hide (show 2*(nl - X.length)+Wi.length+1≤gk from by rw [HK.out];omega)
              have HLX9:=hide (show Lx.length≤Dn.length*200000+0 from Nat.le_trans HLX.out (Nat.le_add_right _ _))
              have hDn2:Dn.length≤2000:=by omega
              clear hdd hLj hrow hrn hBf hbm hd1 hd2 st0 f0 y0 hj1 hdn hHL hDN HS HM7 HW7 HX7 hg
              have HM8:=hide (show LiveS w8 w.heap.size eb (runsW (Dn++[((ra,d+1),b)])) Wi X Lx (.slice A7 n7 c7) (.slice (some ⟨g6,0,none⟩) k d6) n7 k from HM8.out)
              obtain ⟨DD,hDD⟩:∃ DD,Dn++[((ra,d+1),b)]=DD:=⟨_,rfl⟩
              rw [hDD] at HS8 HM8 HDN2
              clear hDD
              go_wp2_with fail
              go_loopw [6,94] (fun v i wr=>∃ (q:Nat) (X:List Nat) (W:List RunW) (A6:Option Addr) (n6 c6:Nat) (Lx:List Int),v=.slice A6 n6 c6∧i=.int .i64 (q:Int)∧q≤rn∧Hid (SeekW l x u X W DD (Bf.drop q))∧Hid (LiveS wr w.heap.size eb (runsW DD) W X Lx (.slice A7 n7 c7) (.slice A6 n6 c6) n7 n6)∧Hid (Below w.heap.size w wr)∧Hid (Lx.length≤Dn.length*200000+q)∧Hid (2*(nl - X.length)+W.length+1≤gk)) (fun _ i _=>rn - (intOf i).toNat)
              case atStart=>exact ⟨0,X,Wi,some ⟨g6,0,none⟩,k,d6,Lx,rfl,rfl,Nat.zero_le _,HS8,HM8,HW8,HLX9,HG9⟩
              case round=>
                clear HS8 HM8 HW8 HLX9 HG9 f1 g1
                obtain ⟨q,X,W,A6,n6,c6,Lx,rfl,rfl,hq,HS,HM,HW,HLX,HG⟩:=hrel
                have hws:=HW.out.size
                by_cases hlq:q < rn
                · have hlq':(q:Int) < (rn:Int):=by omega
                  have hq0:(0:Int)≤(q:Int):=by omega
                  obtain ⟨i,hbi⟩:∃ i,Bf[q]?=some i:=⟨_,List.getElem?_eq_getElem (by rw [HBL.out];exact hlq)⟩
                  have hdr:Bf.drop q=i :: Bf.drop (q+1):=by
                    obtain ⟨h1,h2⟩:=List.getElem?_eq_some_iff.1 hbi
                    rw [List.drop_eq_getElem_cons h1,h2]
                  have HSi:=hide (show SeekW l x u X W DD (i :: Bf.drop (q+1)) from by rw [←hdr];exact HS.out)
                  have hil:i < nl:=by rw [←HNL.out];exact (HSi.out.pok i (by simp)).1
                  obtain ⟨gr,or_,hgA,hgB,hgc⟩:=HRC.out.at_ (castL_at hbi)
                  subst hgA
                  have c0:wr.cell? ⟨gr,or_+q,none⟩=some (.int .i64 (i:Int)):=(HW.out.cell (p:=⟨gr,or_+q,none⟩) hgB).trans (by simpa using hgc 0 _ rfl)
                  have hlx:Lx.length≤1000000000:=by have:=HLX.out;omega
                  have HADD:=hide (SAdd_any HM.out.set (q:=(i:Int)) (by unfold IntR;omega) hlx)
                  have heb:=HM.out.set.lt
                  have hmem:=HM.out.mem i
                  clear hbi hdr hgc hgB hlx HS
                  by_cases hiX:i∈X
                  · have hdec:decide ((i:Int)∈Lx)=true:=decide_eq_true (hmem.2 hiX)
                    have HS9:=hide (HSi.out.skip hiX)
                    have HX9:=hide hiX
                    rw [hdec] at HADD
                    clear hmem hiX hdec
                    go_wp2_with fail
                    refine HADD.out.mono ?_
                    rintro e w9 ⟨rfl,hs9,ht9⟩
                    have HM9:=hide (HM.out.add (i:=i) (X':=X) ht9 hs9 fun j=>⟨.inl,fun h=>h.elim id fun e=>e ▸ HX9.out⟩)
                    have HW9:=hide (HW.out.trans (ht9.below hws fun k hk=>by rw [hk];exact hebw))
                    have HL9:=hide (show (Lx++[(i:Int)]).length≤Dn.length*200000+(q+1) from by rw [List.length_append,List.length_singleton];have h:=HLX.out;omega)
                    clear hs9 ht9 c0
                    go_wp2_with fail
                    go_roundw
                    case rel=>exact ⟨q+1,X,W,A6,n6,c6,Lx++[(i:Int)],rfl,by go_num,hlq,HS9,HM9,HW9,HL9,HG⟩
                    case measure=>simp [intOf];omega
                  · have hdec:decide ((i:Int)∈Lx)=false:=decide_eq_false fun h=>hiX (hmem.1 h)
                    have HS9:=hide (HSi.out.push hiX)
                    have hxl9:=HS9.out.xlen
                    rw [HNL.out,List.length_append] at hxl9
                    have hxl9:X.length+1≤nl:=hxl9
                    have HG9:=hide (show 2*(nl - (X++[i]).length)+(W++[(ptFirst l (i+1),ptFirst l (i+1))]).length+1≤gk from by
                      have h:=HG.out
                      rw [List.length_append,List.length_append]
                      show 2*(nl - (X.length+1))+(W.length+1)+1≤gk
                      omega)
                    have hn6:n6≤100000:=by
                      have h1:=HM.out.l6
                      have h2:=HG.out
                      omega
                    obtain ⟨en,hen⟩:∃ e,ptFirst l (i+1)=e:=⟨_,rfl⟩
                    rw [hen] at HS9 HG9
                    rw [hdec] at HADD
                    clear hmem hiX hdec hxl9
                    go_wp2_with fail
                    refine HADD.out.mono ?_
                    rintro e w9 ⟨rfl,hs9,ht9⟩
                    have HM9:=hide (HM.out.add (i:=i) (X':=X++[i]) ht9 hs9 fun j=>by simp)
                    have HW9:=hide (HW.out.trans (ht9.below hws fun k hk=>by rw [hk];exact hebw))
                    have HL9:=hide (show (Lx++[(i:Int)]).length≤Dn.length*200000+(q+1) from by rw [List.length_append,List.length_singleton];have h:=HLX.out;omega)
                    have f0:=(HF.out w9 HW9.out).1
                    have st1:=HST.out w9 HW9.out (i+1) (by omega)
                    rw [hen] at st1
                    have s3:IntKind.i64.wrap ((i:Int)+1)=(i:Int)+1:=wrapI9 _ (by omega) (by omega)
                    have hi1:(i:Int) < (nl:Int):=by omega
                    have hb4:=below1 w9 (.cells #[.int .i64 (en:Int),.int .i64 (en:Int)] 94)
                    have HB4:=hide hb4
                    have q2:=ownsRow_below HM9.out.r6 hb4
                    have q3:∀ j u,(cRun (en,en))[j]?=some u→(w9.alloc (.cells #[.int .i64 (en:Int),.int .i64 (en:Int)] 94)).cell? ((⟨w9.heap.size,0,none⟩:Addr).add j)=some u:=World.news_of_block (heap_alloc_new w9 (.cells #[.int .i64 (en:Int),.int .i64 (en:Int)] 94))
                    have hws5:w.heap.size≤(w9.alloc (.cells #[.int .i64 (en:Int),.int .i64 (en:Int)] 94)).heap.size:=Nat.le_trans HW9.out.size hb4.size
                    clear hs9 ht9 c0 hb4 hen
                    go_wp2_with (at_builtin;refine wpList_append_lies _ rfl _ _ 91 rfl w.heap.size 94 i0 _ 2 16 Tryz.underlying91 hi hz0 hz1 hz2 rfl (by decide) (.slice A6 n6 c6) n6 (W.flatMap cRun) rfl q2 ⟨w9.heap.size,0,none⟩ 1 1 (cRun (en,en)) rfl rfl q3 (cRun_one _) (by decide) (by unfold maxLen;omega) (by omega) hws5 _ rfl ?_;intro g cap w10 hown7 hg7 hat7 hl7)
                    have HM10:=hide (HM9.out.app6 (r:=(en,en)) HB4.out hg7 hown7 hat7)
                    have HW10:=hide ((HW9.out.trans (HB4.out.mono HW9.out.size)).grown hg7 hws5 fun b hb=>(q2.lt b hb).1)
                    clear hown7 hg7 hat7 hl7 q2 q3 f0 st1
                    go_roundw
                    case rel=>exact ⟨q+1,X++[i],W++[(en,en)],some ⟨g,0,none⟩,n6+1,cap,Lx++[(i:Int)],rfl,by go_num,hlq,HS9,HM10,HW10,HL9,HG9⟩
                    case measure=>simp [intOf];omega
                · have hlq':¬(q:Int) < (rn:Int):=by omega
                  have HS9:=hide (show SeekW l x u X W DD [] from by
                    have h:=HS.out
                    rwa [List.drop_of_length_le (by rw [HBL.out];omega)] at h)
                  have HL9:=hide (show Lx.length≤DD.length*200000 from by
                    have h:=HLX.out
                    rw [HDN2.out]
                    omega)
                  clear HS HLX
                  go_wp2_with fail
                  go_roundg (2*(nl - X.length)+W.length)
                  case rel=>exact ⟨X,W,DD,A7,n7,c7,A6,n6,c6,Lx,rfl,rfl,HS9,HM,HW,HL9,(show _≤_ from Nat.le_refl _),(show _≤_ from by have:=HG.out;omega)⟩
                  case measure=>have:=HG.out;omega
theorem EWrite_use (g b:Nat) (d:Int) (f:Bool) (L0:List Int) (l:Int) (A:Option Addr) (n c:Nat) (w:World) (hE:EffW w g b d f) (hS:SetW w b L0) (hl:IntR l) (hn:0 < n) (hg:g≠b) (hL:L0.length≤100000000) :
  Calls Tryz.prog 107 #[.pointer (some ⟨g,0,none⟩),.agg #[.int .i64 l,.slice A n c]] w fun e w'=>e=.returned (.tuple #[])∧SetW w' b (L0++[l])∧Turn (fun k=>k=b) w w':=by
 obtain ⟨W1,hW1⟩:∃ W1,W1=(w.alloc (.cells #[.int .i64 l,.slice A n c] 58)):=⟨_,rfl⟩
 have HWW:=hide hW1
 have hb1:=below1 w (.cells #[.int .i64 l,.slice A n c] 58)
 have hb2:=Bx.new w [.int .i64 l,.slice A n c] 58
 rw [←hW1] at hb1
 have hb2:Bx W1 w.heap.size [.int .i64 l,.slice A n c] 58:=hW1 ▸ hb2
 have HS1:=hide (hS.below hb1)
 have hE1:EffW W1 g b d f:=Bx.below hE hb1
 have hlb:=hS.lt
 have hcx:=hide fun (w':World) (y:Turn (fun k=>k=b) W1 w')=>(show (w'.cell? ⟨g,0,none⟩=some (.map (some b))∧w'.cell? ⟨w.heap.size,0,none⟩=some (.int .i64 l)) from
  ⟨(hE1.turn y hg).cell (j:=0) rfl,(hb2.turn y (show ¬w.heap.size=b by omega)).cell (j:=0) rfl⟩)
 have HT1:=hide (Turn.of_below (S:=fun k=>k=b) hb1)
 have c1:(w.alloc (.cells #[.int .i64 l,.slice A n c] 58)).cell? ⟨w.heap.size,1,none⟩=some (.slice A n c):=(Bx.new w [.int .i64 l,.slice A n c] 58).cell (j:=1) rfl
 have HK:=hide hl
 have t0:(n:Int) > 0:=by omega
 clear hE hS hl hn hW1 hb1 hb2 hE1 hlb
 go_enter Tryz.func107,Tryz.ntmps107
 go_wp2
 rw [←HWW.out]
 have HD:=hide ((Turn.refl (fun k=>k=b) W1).drew)
 refine wp_region_held_drew (S:=(fun w'=>Turn (fun k=>k=b) W1 w')) (by kernel_rfl) HD.out (fun hHeld=>?_)
 refine planS [0,1,2,3,4,5] ?_
 repeat' (first | refine pT hHeld rfl ?_ | refine pS hHeld rfl ?_)
 refine planE ?_
 refine pC 6 rfl (fun KZ hK=>?_)
 go_simp
 refine (SAdd_any (HS1.out.below ((Below.refl _ _).drew)) HK.out (by omega)).mono ?_
 rintro e5 w5 ⟨rfl,hs5,ht5⟩
 have HS5:=hide hs5
 have HT5:=hide (HD.out.trans ht5)
 clear hs5 ht5
 refine hK.out _ _ HT5.out (fun hHeld=>?_)
 clear hK KZ
 refine wpAnyH_done (by kernel_rfl) ?_ _
 go_wp2
 refine bodyPost_ret (results_none rfl _ _ _) rfl ?_
 exact ⟨rfl,HS5.out,HT1.out.trans HT5.out⟩
theorem EWrite_def (g b:Nat) (d:Int) (f:Bool) (l:Int) (A:Option Addr) (c:Nat) (w:World) (hE:EffW w g b d f) :
  Calls Tryz.prog 107 #[.pointer (some ⟨g,0,none⟩),.agg #[.int .i64 l,.slice A 0 c]] w fun e w'=>e=.returned (.tuple #[])∧EffW w' g b l true∧Turn (fun k=>k=g) w w':=by
 have hb1:=below1 w (.cells #[.int .i64 l,.slice A 0 c] 58)
 have hb2:=Bx.new w [.int .i64 l,.slice A 0 c] 58
 have hE1:Bx (w.alloc (.cells #[.int .i64 l,.slice A 0 c] 58)) g [.map (some b),.int .i64 d,.bool f] 77:=Bx.below hE hb1
 have HE1:=hide ((hE1.set 1 (.int .i64 l)).set 2 (.bool true))
 have HT1:=hide (((Turn.of_below (S:=fun k=>k=g) hb1).setCell (a:=⟨g,1,none⟩) (.inl rfl) (.int .i64 l)).setCell (a:=⟨g,2,none⟩) (.inl rfl) (.bool true))
 have c0:(w.alloc (.cells #[.int .i64 l,.slice A 0 c] 58)).cell? ⟨w.heap.size,0,none⟩=some (.int .i64 l):=hb2.cell (j:=0) rfl
 have c1:(w.alloc (.cells #[.int .i64 l,.slice A 0 c] 58)).cell? ⟨w.heap.size,1,none⟩=some (.slice A 0 c):=hb2.cell (j:=1) rfl
 have d1:=hE1.cell (j:=1) rfl
 have f1:=hE1.frozen 1
 have hE2:=hE1.set 1 (.int .i64 l)
 have f2:=hE2.frozen 2
 have d2:=hE2.cell (j:=2) rfl
 clear hE hb1 hb2 hE1 hE2
 go_enter Tryz.func107,Tryz.ntmps107
 go_wp2
 go_end0
 exact ⟨rfl,HE1.out,HT1.out⟩
def EfOut (w:World) (U:List Int) (D:Option Int) (e:Ending) (w':World):Prop:=∃ b,e=.returned (.agg #[.map (some b),.int .i64 (D.getD 0),.bool D.isSome])∧SetW w' b U∧w.heap.size≤b∧Below w.heap.size w w'
theorem eff_size:(Tryz.prog.info? 77).map (·.size)=some 3:=by kernel_rfl
theorem eff_one (b:Nat) (d:Int) (f:Bool):(#[Value.map (some b),.int .i64 d,.bool f]:Array Value).all Value.oneCell'=true:=all_oneCell_toArray (cs:=[.map (some b),.int .i64 d,.bool f]) (fun u hu=>by simp only [List.mem_cons,List.not_mem_nil,or_false] at hu;rcases hu with rfl | rfl | rfl <;> rfl)
theorem SetW.row {w:World} {b g:Nat} {L:List Int} {cs:List Value} {T:TypeId} (h:SetW w b L) (hb:Bx w g cs T) (vs:Array Value):SetW (w.setRow g vs) b L:=by
 have hne:b≠g:=fun e=>by
  subst e
  obtain ⟨Dm,⟨es,clock,h1,_⟩,_⟩:=h.own
  have hb':w.heap[b]?=some (.cells cs.toArray T (0,0)):=hb
  rw [hb'] at h1
  cases h1
 obtain ⟨Dm,h1,h2⟩:=h.own
 refine ⟨⟨Dm,owns_block h1 ?_,h2⟩,h.rng⟩
 exact setRow_other w g b vs hne
structure Ef0 (w W:World):Prop where
 r:Bx W (w.heap.size+1) [.map none,.int .i64 0,.bool false] 77
 s:SetW W (w.heap.size+2) []
 e:EffW W (w.heap.size+3) (w.heap.size+2) 0 false
 b:Below w.heap.size w W
theorem ef0 (w:World) (o:Obj):Ef0 w ((((w.alloc o).alloc (.cells #[.map none,.int .i64 0,.bool false] 77)).alloc (.map #[] 0)).alloc (.cells #[.map (some (w.heap.size+2)),.int .i64 0,.bool false] 77)):=by
 have h1:(w.alloc o).heap.size=w.heap.size+1:=by simp
 have h2:((w.alloc o).alloc (.cells #[.map none,.int .i64 0,.bool false] 77)).heap.size=w.heap.size+2:=by simp
 have h3:(((w.alloc o).alloc (.cells #[.map none,.int .i64 0,.bool false] 77)).alloc (.map #[] 0)).heap.size=w.heap.size+3:=by simp
 have r0:=Bx.new (w.alloc o) [.map none,.int .i64 0,.bool false] 77
 have s0:=SetW.new ((w.alloc o).alloc (.cells #[.map none,.int .i64 0,.bool false] 77))
 have e0:=Bx.new (((w.alloc o).alloc (.cells #[.map none,.int .i64 0,.bool false] 77)).alloc (.map #[] 0)) [.map (some (w.heap.size+2)),.int .i64 0,.bool false] 77
 rw [h1] at r0
 rw [h2] at s0
 rw [h3] at e0
 have b1:=below1 w o
 have b2:=below1 (w.alloc o) (.cells #[.map none,.int .i64 0,.bool false] 77)
 have b3:=below1 ((w.alloc o).alloc (.cells #[.map none,.int .i64 0,.bool false] 77)) (.map #[] 0)
 have b4:=below1 (((w.alloc o).alloc (.cells #[.map none,.int .i64 0,.bool false] 77)).alloc (.map #[] 0)) (.cells #[.map (some (w.heap.size+2)),.int .i64 0,.bool false] 77)
 exact ⟨(r0.below b3).below b4,s0.below b4,e0,b1.trans ((b2.trans ((b3.trans (b4.mono b3.size)).mono b2.size)).mono b1.size)⟩
theorem ef_out {w w1:World} {d:Int} {f:Bool} {U:List Int} {D:Option Int} {e:Ending} (hS:SetW w1 (w.heap.size+2) U) (hR:Bx w1 (w.heap.size+1) [.map none,.int .i64 0,.bool false] 77) (hB:Below w.heap.size w w1) (hd:d=D.getD 0) (hf:f=D.isSome)
  (he:e=.returned (.agg #[.map (some (w.heap.size+2)),.int .i64 d,.bool f])):EfOut w U D e (w1.setRow (w.heap.size+1) #[.map (some (w.heap.size+2)),.int .i64 d,.bool f]):=
 ⟨_,by rw [he,hd,hf],hS.row hR _,by omega,below_setRow9 hB (Nat.le_succ _) _⟩
theorem ef1 (w:World) (o:Obj) {d:Int} {f:Bool} {D:Option Int} (hd:d=D.getD 0) (hf:f=D.isSome) :
  ((((w.alloc o).alloc (.cells #[.map (some (w.heap.size+1+1)),.int .i64 d,.bool f] 77)).alloc (.map #[] 0)).alloc (.cells #[.map (some (w.heap.size+1+1)),.int .i64 d,.bool f] 77)).heap[w.heap.size+1]?=some (.cells #[.map (some (w.heap.size+1+1)),.int .i64 d,.bool f] 77 (0,0)) ∧
  EfOut w [] D (.returned (.agg #[.map (some (w.heap.size+1+1)),.int .i64 d,.bool f])) ((((w.alloc o).alloc (.cells #[.map (some (w.heap.size+1+1)),.int .i64 d,.bool f] 77)).alloc (.map #[] 0)).alloc (.cells #[.map (some (w.heap.size+1+1)),.int .i64 d,.bool f] 77)):=by
 have r0:=Bx.new (w.alloc o) [.map (some (w.heap.size+1+1)),.int .i64 d,.bool f] 77
 have s0:=SetW.new ((w.alloc o).alloc (.cells #[.map (some (w.heap.size+1+1)),.int .i64 d,.bool f] 77))
 simp only [World.size_alloc] at r0 s0
 have b1:=below1 w o
 have b2:=below1 (w.alloc o) (.cells #[.map (some (w.heap.size+1+1)),.int .i64 d,.bool f] 77)
 have b3:=below1 ((w.alloc o).alloc (.cells #[.map (some (w.heap.size+1+1)),.int .i64 d,.bool f] 77)) (.map #[] 0)
 have b4:=below1 (((w.alloc o).alloc (.cells #[.map (some (w.heap.size+1+1)),.int .i64 d,.bool f] 77)).alloc (.map #[] 0)) (.cells #[.map (some (w.heap.size+1+1)),.int .i64 d,.bool f] 77)
 exact ⟨(r0.below b3).below b4,_,by rw [←hd,← hf],s0.below b4,by omega,b1.trans ((b2.trans ((b3.trans (b4.mono b3.size)).mono b2.size)).mono b1.size)⟩
theorem OfStmt_any (x:StW) (w:World) (hx:OneSt w w.heap.size x) (hn:x.rv.args.n≤1000000) :
  Calls Tryz.prog 64 #[aggSt x] w (EfOut w (stU x.v) (stD x.v)):=by
 have hps:=hx.pl.prs.len
 have hl:IntR x.pl.l:=hx.pl.l
 have hrl:IntR x.rv.pl.l:=hx.rv.pl.l
 have hargs:=hx.rv.args
 obtain ⟨U,hU⟩:∃ U,stU x.v=U:=⟨_,rfl⟩
 obtain ⟨D,hD⟩:∃ D,stD x.v=D:=⟨_,rfl⟩
 rw [hU,hD]
 obtain ⟨kd,⟨l,pA,pn,pc,ps⟩,⟨rk,ro,rr,rm,⟨rl,rA,rn,rc,rps⟩,⟨aA,an,ac,aL⟩⟩,loc⟩:=x
 have hps:ps.length=pn:=hps
 have HL:=hide (show IntR l from hl)
 have HRL:=hide (show IntR rl from hrl)
 have HAL:=hide (show aL.length=an from hargs.len)
 have hn:an≤1000000:=hn
 have HU:=hide (show (if kd=0 then opsU (aL.map OpW.v)++((if rk=1 then [rl] else [])++(if 0 < ps.length then [l] else [])) else [])=U from hU)
 have HD:=hide (show (if kd=1 then some loc else if kd=0∧ps.length=0 then some l else none)=D from hD)
 clear hU hD
 rw [hps] at HU HD
 have h0:=ef0 w (.cells #[.int .i64 kd,.int .i64 l,.slice pA pn pc,.int .i64 rk,.int .i64 ro,.int .i64 rr,.bool rm,.int .i64 rl,.slice rA rn rc,.slice aA an ac,.int .i64 loc] 73)
 have hb0:=below1 w (.cells #[.int .i64 kd,.int .i64 l,.slice pA pn pc,.int .i64 rk,.int .i64 ro,.int .i64 rr,.bool rm,.int .i64 rl,.slice rA rn rc,.slice aA an ac,.int .i64 loc] 73)
 have hx0:=Bx.new w [.int .i64 kd,.int .i64 l,.slice pA pn pc,.int .i64 rk,.int .i64 ro,.int .i64 rr,.bool rm,.int .i64 rl,.slice rA rn rc,.slice aA an ac,.int .i64 loc] 73
 obtain ⟨W0,hW0⟩:∃ W0,W0=((((w.alloc (.cells #[.int .i64 kd,.int .i64 l,.slice pA pn pc,.int .i64 rk,.int .i64 ro,.int .i64 rr,.bool rm,.int .i64 rl,.slice rA rn rc,.slice aA an ac,.int .i64 loc] 73)).alloc (.cells #[.map none,.int .i64 0,.bool false] 77)).alloc (.map #[] 0)).alloc (.cells #[.map (some (w.heap.size+2)),.int .i64 0,.bool false] 77)):=⟨_,rfl⟩
 have HW0:=hide hW0
 have hx9:Bx W0 w.heap.size [.int .i64 kd,.int .i64 l,.slice pA pn pc,.int .i64 rk,.int .i64 ro,.int .i64 rr,.bool rm,.int .i64 rl,.slice rA rn rc,.slice aA an ac,.int .i64 loc] 73:=by
  rw [hW0]
  exact ((hx0.below (below1 _ _)).below (below1 _ _)).below (below1 _ _)
 rw [←hW0] at h0
 have H0:=hide h0
 have HX:=hide hx9
 have HRA:=hide fun (w':World) (y:Below W0.heap.size W0 w')=>(ERead_any (w.heap.size+3) (w.heap.size+2) 0 false [] ⟨aA,an,ac,aL⟩ w.heap.size w' (Bx.below H0.out.e y) (H0.out.s.below y) (Ops.below (H0.out.b.trans (y.mono H0.out.b.size)) hargs) (by omega) (by omega) hn (by simp))
 have hmm:=@run_makeMap Tryz.prog
 have s0:=hx9.cell (j:=0) rfl
 have s1:=hx9.cell (j:=1) rfl
 have s2:=hx9.cell (j:=2) rfl
 have s3:=hx9.cell (j:=3) rfl
 have s7:=hx9.cell (j:=7) rfl
 have s9:=hx9.cell (j:=9) rfl
 have s10:=hx9.cell (j:=10) rfl
 rw [hW0] at s0 s1 s2 s3 s7 s9 s10
 clear hx hps hl hrl hargs h0 hb0 hx0 hx9 hW0
 by_cases hk:kd=0
 ·
  subst hk
  rw [if_pos rfl] at HU
  rw [if_neg (by decide)] at HD
  go_enter Tryz.func64,Tryz.ntmps64
  go_wp2_with fail
  rw [←HW0.out]
  refine (HRA.out W0 (Below.refl _ _)).mono ?_
  rintro e1 w1 ⟨rfl,hs1,ht1⟩
  have HT1:=hide (ht1.weak (S':=fun k=>k=w.heap.size+2∨k=w.heap.size+3) fun _ h=>.inl h)
  have HS1:=hide (show SetW w1 (w.heap.size+2) (opsU (aL.map OpW.v)) from hs1)
  have HOL:=hide (show (opsU (aL.map OpW.v)).length≤1000000 from by
   have h1:=opsU_len (aL.map OpW.v)
   rw [List.length_map] at h1
   have h2:=HAL.out
   omega)
  have hx1:=HX.out.turn HT1.out (by omega)
  have hr1:=H0.out.r.turn HT1.out (by omega)
  have he1:EffW w1 (w.heap.size+3) (w.heap.size+2) 0 false:=Bx.turn H0.out.e ht1 (by omega)
  have HE1:=hide he1
  have c3:=hx1.cell (j:=3) rfl
  clear hs1 ht1 s0 s1 s2 s3 s7 s9 s10 hmm
  have htail:∃ U1,opsU (aL.map OpW.v)++(if rk=1 then [rl] else [])=U1:=⟨_,rfl⟩
  obtain ⟨U1,hU1⟩:=htail
  have HU1:=hide hU1
  rw [←List.append_assoc,hU1] at HU
  by_cases hr:rk=1
  case' pos=>
   subst hr
   rw [if_pos rfl] at HU1
   have c7:=hx1.cell (j:=7) rfl
   have c8:=he1.cell (j:=0) rfl
   have HTT1:=HT1
   clear hU1 hx1 hr1 he1
   go_wp2_with fail
   refine (SAdd_any HS1.out HRL.out (by have:=HOL.out;omega)).mono ?_
   rintro e2 w2 ⟨rfl,hs2,ht2⟩
   have HS2:=hide (show SetW w2 (w.heap.size+2) U1 from HU1.out ▸ hs2)
   have HT2:=hide (HTT1.out.trans (ht2.weak fun _ h=>.inl h))
   have HE2:=hide (show EffW w2 (w.heap.size+3) (w.heap.size+2) 0 false from Bx.turn HE1.out ht2 (by omega))
   have HUL:=hide (show U1.length≤1000001 from by rw [←HU1.out,List.length_append];have:=HOL.out;exact Nat.succ_le_succ this)
   clear hs2 ht2 c3 c7 c8
  case' neg=>
   rw [if_neg hr,List.append_nil] at HU1
   have t1:(rk == 1)=false:=by simpa using hr
   have HS2:=hide (show SetW w1 (w.heap.size+2) U1 from HU1.out ▸ HS1.out)
   have HT2:=HT1
   have HE2:=HE1
   clear hU1 hx1 hr1 he1
   have HUL:=hide (show U1.length≤1000001 from by rw [←HU1.out];have:=HOL.out;omega)
   clear hr HOL HU1
   generalize w1=w2 at *
  all_goals
   have hx2:=HX.out.turn HT2.out (by omega)
   have d1:=hx2.cell (j:=1) rfl
   have d2:=hx2.cell (j:=2) rfl
   by_cases hp:0 < pn
   case' pos=>
    rw [if_pos hp] at HU
    rw [if_neg (by omega)] at HD
    have HPP:=hide (fun w' (h:w'=w2)=>EWrite_use (w.heap.size+3) (w.heap.size+2) 0 false U1 l pA pn pc w' (h ▸ HE2.out) (h ▸ HS2.out) HL.out hp (by omega) (by have:=HUL.out;omega))
    clear hp hx2
    go_wp2_with fail
    refine (HPP.out _ rfl).mono ?_
    rintro e3 w3 ⟨rfl,hs3,ht3⟩
    have HS9:=hide (show SetW w3 (w.heap.size+2) U from HU.out ▸ hs3)
    have HT3:=hide (HT2.out.trans (ht3.weak fun _ h=>.inl h))
    have HE9:=hide (show Bx w3 (w.heap.size+3) [.map (some (w.heap.size+2)),.int .i64 0,.bool false] 77 from Bx.turn HE2.out ht3 (by omega))
    have HD9:=hide (show (0:Int)=D.getD 0∧false=D.isSome from by rw [←HD.out];exact ⟨rfl,rfl⟩)
    clear hs3 ht3 d1 d2
    have HR9:=hide (H0.out.r.turn HT3.out (by omega))
    have HB9:=hide (H0.out.b.trans (HT3.out.below H0.out.b.size (by omega)))
    have e0:=HE9.out.cell (j:=0) rfl
    have e1:=HE9.out.cell (j:=1) rfl
    have e2:=HE9.out.cell (j:=2) rfl
    have HSZ:=hide eff_size
    have HONE:=hide (eff_one (w.heap.size+2) 0 false)
    go_wp2_with (refine wpList_store_row rfl 77 _ _ rfl (w.heap.size+1) #[.map (some (w.heap.size+2)),.int .i64 0,.bool false] rfl rfl 77 #[.map none,.int .i64 0,.bool false] ?_ ?_ ?_ ?_ ?_;exact HR9.out;exact HSZ.out;rfl;exact HONE.out)
    refine bodyPost_ret (results_cell_row rfl _ _ (w.heap.size+1) _ #[.map (some (w.heap.size+2)),.int .i64 0,.bool false] (0,0) _ rfl (setRow_heap _ _ _ _ _ _ HR9.out) Tryz.underlying77 rfl (by kernel_rfl)) rfl ?_
    exact ef_out HS9.out HR9.out HB9.out HD9.out.1 HD9.out.2 rfl
   case' neg=>
    obtain rfl:pn=0:=by omega
    rw [if_neg hp,List.append_nil] at HU
    rw [if_pos ⟨trivial,rfl⟩] at HD
    have HPP:=hide (fun w' (h:w'=w2)=>EWrite_def (w.heap.size+3) (w.heap.size+2) 0 false l pA pc w' (h ▸ HE2.out))
    clear hp hx2
    go_wp2_with fail
    refine (HPP.out _ rfl).mono ?_
    rintro e3 w3 ⟨rfl,he3,ht3⟩
    have HS9:=hide (show SetW w3 (w.heap.size+2) U from HU.out ▸ HS2.out.turn ht3 (by omega))
    have HT3:=hide (HT2.out.trans (ht3.weak fun _ h=>.inr h))
    have HE9:=hide (show Bx w3 (w.heap.size+3) [.map (some (w.heap.size+2)),.int .i64 l,.bool true] 77 from he3)
    have HD9:=hide (show l=D.getD 0∧true=D.isSome from by rw [←HD.out];exact ⟨rfl,rfl⟩)
    clear he3 ht3 d1 d2
    have HR9:=hide (H0.out.r.turn HT3.out (by omega))
    have HB9:=hide (H0.out.b.trans (HT3.out.below H0.out.b.size (by omega)))
    have e0:=HE9.out.cell (j:=0) rfl
    have e1:=HE9.out.cell (j:=1) rfl
    have e2:=HE9.out.cell (j:=2) rfl
    have HSZ:=hide eff_size
    have HONE:=hide (eff_one (w.heap.size+2) l true)
    go_wp2_with (refine wpList_store_row rfl 77 _ _ rfl (w.heap.size+1) #[.map (some (w.heap.size+2)),.int .i64 l,.bool true] rfl rfl 77 #[.map none,.int .i64 0,.bool false] ?_ ?_ ?_ ?_ ?_;exact HR9.out;exact HSZ.out;rfl;exact HONE.out)
    refine bodyPost_ret (results_cell_row rfl _ _ (w.heap.size+1) _ #[.map (some (w.heap.size+2)),.int .i64 l,.bool true] (0,0) _ rfl (setRow_heap _ _ _ _ _ _ HR9.out) Tryz.underlying77 rfl (by kernel_rfl)) rfl ?_
    exact ef_out HS9.out HR9.out HB9.out HD9.out.1 HD9.out.2 rfl
 ·
  rw [if_neg hk] at HU
  have t0:(kd == 0)=false:=by simpa using hk
  by_cases h1:kd=1
  case' pos=>
   subst h1
   rw [if_pos rfl] at HD
   have HF:=hide (ef1 w (.cells #[.int .i64 1,.int .i64 l,.slice pA pn pc,.int .i64 rk,.int .i64 ro,.int .i64 rr,.bool rm,.int .i64 rl,.slice rA rn rc,.slice aA an ac,.int .i64 loc] 73) (d:=loc) (f:=true) (D:=D) (by rw [←HD.out];rfl) (by rw [←HD.out];rfl))
   obtain rfl:[]=U:=HU.out
   clear HX H0 HRA HU HD hk
   go_enter Tryz.func64,Tryz.ntmps64
   go_wp2
   exact bodyPost_ret (results_cell_row rfl _ _ (w.heap.size+1) _ #[.map (some (w.heap.size+1+1)),.int .i64 loc,.bool true] (0,0) _ rfl HF.out.1 Tryz.underlying77 rfl (by kernel_rfl)) rfl HF.out.2
  case' neg=>
   rw [if_neg h1,if_neg (fun h=>hk h.1)] at HD
   have t1:(kd == 1)=false:=by simpa using h1
   clear h1
   have HF:=hide (ef1 w (.cells #[.int .i64 kd,.int .i64 l,.slice pA pn pc,.int .i64 rk,.int .i64 ro,.int .i64 rr,.bool rm,.int .i64 rl,.slice rA rn rc,.slice aA an ac,.int .i64 loc] 73) (d:=0) (f:=false) (D:=D) (by rw [←HD.out];rfl) (by rw [←HD.out];rfl))
   obtain rfl:[]=U:=HU.out
   clear HX H0 HRA HU HD hk
   go_enter Tryz.func64,Tryz.ntmps64
   go_wp2
   exact bodyPost_ret (results_cell_row rfl _ _ (w.heap.size+1) _ #[.map (some (w.heap.size+1+1)),.int .i64 0,.bool false] (0,0) _ rfl HF.out.1 Tryz.underlying77 rfl (by kernel_rfl)) rfl HF.out.2
end Go.Proofs.YteeemjmohjkdpaaGreatDoor
