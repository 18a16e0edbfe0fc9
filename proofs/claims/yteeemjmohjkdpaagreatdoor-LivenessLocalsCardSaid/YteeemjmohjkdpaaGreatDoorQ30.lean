/- Part 31 of the contracts and their mathematics. -/
import Derived.Test.YteeemjmohjkdpaaGreatDoorQ10
import Derived.Test.YteeemjmohjkdpaaGreatDoorQ11
import Derived.Test.YteeemjmohjkdpaaGreatDoorQ12
import Derived.Test.YteeemjmohjkdpaaGreatDoorQ29
set_option linter.unusedVariables false
set_option linter.unusedSectionVars false
set_option linter.unusedSimpArgs false
set_option maxRecDepth 100000
set_option maxHeartbeats 8000000
namespace Go.Proofs.YteeemjmohjkdpaaGreatDoor
open Go.RowKit
section
variable {P:Program} {w:World} {α:Type} {f:α→List Value} {k:Nat}
end
theorem info9Bool:(Tryz.prog.info? 4).map (fun i=>(i.zero,i.size,i.bytes))=some (some (.bool false),1,1):=by kernel_rfl
section
variable {nx:Nat→List Nat} {n i x:Nat} {N0:List Nat} {seen:List Bool} {L:List Nat}
theorem Bfs.seen_some (h:Bfs nx n N0 seen L i) (hx:x < n):∃ b,seen[x]?=some b:=⟨_,List.getElem?_eq_getElem (by rw [h.len];exact hx)⟩
end
theorem castL_len (L:List Nat):(castL L).length=L.length:=List.length_map _
theorem lvN_lt {l:List BkV} {x:Int} {p:Nat}:∀ y∈lvN l x p,y < ptCount l:=fun y hy=>by
 unfold lvN at hy
 split at hy
 ·
  cases hy
 ·
  exact nxN_lt y hy
theorem lvN_len (l:List BkV) (x:Int) (p:Nat):(lvN l x p).length≤ptCount l:=by
 unfold lvN
 split
 ·
  exact Nat.zero_le _
 ·
  exact nxN_len _ _
theorem lvB_no {l:List BkV} {x:Int} {p:Nat} (h:¬LiveP l x p):lvB l x p=false:=by
 cases e:lvB l x p with
 | false=>rfl
 | true=>exact absurd (lvB_iff.1 e) h
theorem usesI_len {l:List BkV} (h:SmallU l) (p:Int):(usesI l p).length≤900002:=by
 cases hr:ptLocI l p with
 | none=>unfold usesI;rw [atI_none hr];exact Nat.zero_le _
 | some z=>
  obtain ⟨i,k⟩:=z
  obtain ⟨_,b,hb,_⟩:=ptLocI_some hr
  have hbm:=h b (List.mem_of_getElem? hb)
  unfold usesI
  rw [atI_some hr hb]
  refine Nat.le_trans (setI_len _) ?_
  unfold useAt
  cases hs:b.stmts[k]? with
  | none=>
   have h1:=opsU_len b.term.args
   have h2:=hbm.2
   show (opsU b.term.args++_).length≤_
   rw [List.length_append]
   split <;> simp <;> omega
  | some s=>
   have h1:=opsU_len s.rv.args
   have h2:=hbm.1 s (List.mem_of_getElem? hs)
   show (stU s).length≤_
   unfold stU
   split
   ·
    rw [List.length_append,List.length_append]
    split <;> split <;> simp <;> omega
   ·
    exact Nat.zero_le _
theorem RLive_any (x:BdW) (q:Int) (p:Nat) (w:World) (hx:OneBd w w.heap.size x) (hN:ptCount x.v.blocks≤900) (hp:p < ptCount x.v.blocks) (hU:SmallU x.v.blocks) :
    Calls Tryz.prog 43 #[aggBd x,.int .i64 q,.int .i64 (p:Int)] w fun e w'=>e=.returned (.bool (lvB x.v.blocks q p))∧Below w.heap.size w w':=by
  obtain ⟨BL,hBL⟩:∃ l,x.v.blocks=l:=⟨_,rfl⟩
  obtain ⟨C,hC⟩:∃ n,ptCount BL=n:=⟨_,rfl⟩
  have hN2:ptCount x.v.blocks≤2 ^ 62:=Nat.le_trans hN (by decide)
  have hN3:ptCount x.v.blocks≤1000000:=Nat.le_trans hN (by decide)
  have HCO:=hide fun (w':World) (y:Below w.heap.size w w')=>RCount_is (m:=C) (hx.up y) (by rw [hBL];exact hC) (by rw [←hC,← hBL];exact hN2)
  have HNX:=hide fun (w':World) (y:Nat) (hy:y < C) (u:Below w.heap.size w w')=>(show Calls Tryz.prog 25 #[aggBd x,.int .i64 (y:Int)] w' (IntsOut9 w' (castL (nxN BL (y:Int)))) from by
    rw [hBL,hC] at hN
    have h:=RNext_any x (y:Int) w' (hx.up u) hN3 ⟨by omega,by omega⟩
    rw [hBL,nextI_cast] at h
    exact h)
  have HUS:=hide fun (w':World) (y:Nat) (hy:y < C) (u:Below w.heap.size w w')=>(show Calls Tryz.prog 15 #[aggBd x,.int .i64 (y:Int)] w' (IntsOut9 w' (usesI BL (y:Int))) from by
    rw [hBL,hC] at hN
    have h:=RUses_any x (y:Int) w' (hx.up u) hN2 ⟨by omega,by omega⟩ hU
    rw [hBL] at h
    exact h)
  have HDF:=hide fun (w':World) (y:Nat) (hy:y < C) (r:Option Int) (hr:defI BL (y:Int)=r) (u:Below w.heap.size w w')=>(show Calls Tryz.prog 12 #[aggBd x,.int .i64 (y:Int)] w' fun e w2=>e=.returned (vDef r)∧Below w'.heap.size w' w2 from by
    rw [hBL,hC] at hN
    have h:=RDefines_any x (y:Int) w' (hx.up u) hN2 ⟨by omega,by omega⟩
    rw [hBL,hr] at h
    exact h)
  rw [hBL] at hN hp hU ⊢
  have HUL:=hide fun (p:Int)=>usesI_len hU p
  have HCC:=hide hC
  rw [hC] at hN hp
  obtain ⟨v,hv⟩:∃ v,lvB BL q p=v:=⟨_,rfl⟩
  rw [hv]
  have HV:=hide hv
  obtain ⟨nm,⟨rA,rn,rc,rL⟩,⟨oA,on,oc,oL⟩,⟨tA,tm,tc,tL⟩,⟨lA,ln,lc,lL⟩,ar,⟨bA,bn,bc,bL⟩⟩:=x
  have HB:=hide (below1 w (.cells #[.string nm,.slice rA rn rc,.slice oA on oc,.slice tA tm tc,.slice lA ln lc,.int .i64 ar,.slice bA bn bc] 28))
  have HCX:=hide fun (w':World) (y:Below (w.alloc (.cells #[.string nm,.slice rA rn rc,.slice oA on oc,.slice tA tm tc,.slice lA ln lc,.int .i64 ar,.slice bA bn bc] 28)).heap.size (w.alloc (.cells #[.string nm,.slice rA rn rc,.slice oA on oc,.slice tA tm tc,.slice lA ln lc,.int .i64 ar,.slice bA bn bc] 28)) w')=>cells7 y
  obtain ⟨x0,x1,x2,x3,x4,x5,x6⟩:=HCX.out _ (Below.refl _ _)
  clear hBL hC hN2 hN3 hx hv hU
  go_enter Tryz.func43,Tryz.ntmps43
  go_wp2_with fail
  refine (HCO.out _ HB.out).mono ?_
  rintro e1 w2 ⟨rfl,hb1⟩
  have HW2:=hide hb1
  clear hb1 x0 x1 x2 x3 x4 x5 x6
  obtain ⟨i1,hi1,hy0,hy1,hy2⟩:=info_parts info9Bool
  have hb3:=below1 w2 (.cells (Array.replicate C (.bool false)) 4)
  have hBX3:=(show Bx (w2.alloc (.cells (Array.replicate C (.bool false)) 4)) w2.heap.size ((List.replicate C false).map Value.bool) 4 from by
    have h:=Bx.new w2 ((List.replicate C false).map Value.bool) 4
    simpa [List.map_replicate] using h)
  have hws3:(w2.alloc (.cells (Array.replicate C (.bool false)) 4)).heap.size=w2.heap.size+1:=by simp
  have hb4:=below1 (w2.alloc (.cells (Array.replicate C (.bool false)) 4)) (.cells #[.int .i64 (p:Int)] 3)
  have HW4:=hide (HW2.out.trans ((hb3.trans (hb4.mono hb3.size)).mono HW2.out.size))
  have HBX4:=hide (hBX3.below hb4)
  have HO4:=hide (show ((w2.alloc (.cells (Array.replicate C (.bool false)) 4)).alloc (.cells #[.int .i64 (p:Int)] 3)).ownsRow (w2.heap.size+1) 3 1 (.slice (some ⟨w2.heap.size+1,0,none⟩) 1 1) 1 ((castL [p]).flatMap cInt) from by
    have h:=lit_own (f:=cInt) (w2.alloc (.cells (Array.replicate C (.bool false)) 4)) (w2.heap.size+1) cInt_len (p:Int) 3 (by rw [hws3];exact Nat.le_refl _)
    rw [hws3] at h
    exact h)
  have HF0:=hide (Bfs.start (nx:=lvN BL q) (n:=C) (N0:=[p]) (fun y hy=>by obtain rfl:=List.mem_singleton.1 hy;exact hp) (by show 1≤C;omega))
  have HNL:=hide fun (y:Nat)=>(show (lvN BL q y).length≤C from HCC.out ▸ lvN_len BL q y)
  have HNR:=hide fun (y:Nat)=>(show ∀ z∈lvN BL q y,z < C from HCC.out ▸ lvN_lt)
  have HNO:=hide (show ∀ y:Nat,(List.replicate C false)[y]?=some true→q∉usesI BL (y:Int) from fun y h=>by
    rw [List.getElem?_replicate] at h
    split at h <;> cases h)
  clear hb3 hb4 hBX3 hws3
  go_wp2_with (at_make;refine wpList_make1 _ rfl _ _ _ rfl 4 i1 _ Tryz.underlying133 hi1 hy0 hy1 rfl C rfl rfl (by rw [hy2];omega) (by omega) ?_)
  obtain ⟨CC,hCC⟩:∃ z,C+C*C=z:=⟨_,rfl⟩
  have hCC2:CC≤1000000:=by
    have:C*C≤900*900:=Nat.mul_le_mul hN hN
    omega
  have HC2:=hide hCC
  clear hCC
  go_wp2
  go_loopw [8,9] (fun u i wr=>∃ k:Nat,∃ L:List Nat,∃ F:List Bool,∃ A c,i=.int .i64 (k:Int)∧u=.slice A L.length c∧Hid (Bfs (lvN BL q) C [p] F L k)∧Hid (∀ y:Nat,F[y]?=some true→q∉usesI BL (y:Int))∧Hid (Bx wr w2.heap.size (F.map Value.bool) 4)∧Hid (wr.ownsRow (w2.heap.size+1) 3 1 (.slice A L.length c) L.length ((castL L).flatMap cInt))∧Hid (Below (w.alloc (.cells #[.string nm,.slice rA rn rc,.slice oA on oc,.slice tA tm tc,.slice lA ln lc,.int .i64 ar,.slice bA bn bc] 28)).heap.size (w.alloc (.cells #[.string nm,.slice rA rn rc,.slice oA on oc,.slice tA tm tc,.slice lA ln lc,.int .i64 ar,.slice bA bn bc] 28)) wr)) (fun _ i _=>CC - (intOf i).toNat)
  case atStart=>exact ⟨0,[p],List.replicate C false,some ⟨w2.heap.size+1,0,none⟩,1,rfl,rfl,HF0,HNO,HBX4,HO4,HW4⟩
  case round=>
    clear HF0 HNO HBX4 HO4 HW4
    obtain ⟨k,L,F,A,c,rfl,rfl,HF,HNO,HBX,HO,HW⟩:=hrel
    have hcnt:=HF.out.count
    rw [HC2.out] at hcnt
    have hkl:=HF.out.ile
    obtain ⟨n,hn⟩:∃ n,L.length=n:=⟨_,rfl⟩
    have HO2:=hide (show wr.ownsRow (w2.heap.size+1) 3 1 (.slice A n c) n ((castL L).flatMap cInt) from hn ▸ HO.out)
    rw [hn] at hcnt hkl ⊢
    have HN:=hide hn
    clear hn HO
    by_cases hlt:k < n
    · have hlt':(k:Int) < (n:Int):=by omega
      obtain ⟨y,hy⟩:∃ y,L[k]?=some y:=⟨_,List.getElem?_eq_getElem (by rw [HN.out];exact hlt)⟩
      have hyC:y < C:=HF.out.rng y (List.mem_of_getElem? hy)
      obtain ⟨b,hb⟩:=HF.out.seen_some hyC
      obtain ⟨g,z,hgA,_,hgc⟩:=(Cells.of_own cInt_len (by decide) HO2.out).at_ (castL_at hy)
      subst hgA
      have c0:wr.cell? ⟨g,z+k,none⟩=some (.int .i64 (y:Int)):=by simpa using hgc 0 _ rfl
      have c1:wr.cell? ⟨w2.heap.size,y,none⟩=some (.bool b):=HBX.out.cell (j:=y) (by rw [List.getElem?_map,hb];rfl)
      have hyC':(y:Int) < (C:Int):=by omega
      have hy0:(0:Int)≤(y:Int):=by omega
      have HY:=hide hy
      have HBb:=hide hb
      clear hgc hy hb
      cases b
      case true=>
        go_wp2
        go_roundw
        case rel=>exact ⟨k+1,L,F,_,c,by go_num,by rw [HN.out],hide (HF.out.skip HY.out HBb.out),HNO,HBX,hide (by rw [HN.out];exact HO2.out),HW⟩
        case measure=>simp [intOf];omega
      have ff:=HBX.out.frozen y
      have hle2:(w.alloc (.cells #[.string nm,.slice rA rn rc,.slice oA on oc,.slice tA tm tc,.slice lA ln lc,.int .i64 ar,.slice bA bn bc] 28)).heap.size≤w2.heap.size:=HW2.out.size
      have HBX5:=hide (show Bx (wr.setCell ⟨w2.heap.size,y,none⟩ (.bool true)) w2.heap.size ((F.set y true).map Value.bool) 4 from by rw [List.map_set];exact HBX.out.set y _)
      have HO5:=hide (ownsRow_setCell_below (a:=⟨w2.heap.size,y,none⟩) HO2.out (show w2.heap.size < w2.heap.size+1 by omega) (.bool true))
      have HW5:=hide (HW.out.setCell (p:=⟨w2.heap.size,y,none⟩) hle2 (.bool true))
      obtain ⟨x0,x1,x2,x3,x4,x5,x6⟩:=HCX.out _ HW5.out
      go_wp2_with fail
      refine (HUS.out _ y hyC (HB.out.trans (HW5.out.mono HB.out.size))).mono ?_
      rintro e6 w6 ⟨A6,c6,rfl,ho6,hb6⟩
      have HW6:=hide (HW5.out.trans (hb6.mono HW5.out.size))
      have HBX6:=hide (HBX5.out.below hb6)
      have HO6:=hide (ownsRow_below HO5.out hb6)
      have hul:=HUL.out (y:Int)
      obtain ⟨bv,hbv⟩:∃ b,decide (q∈usesI BL (y:Int))=b:=⟨_,rfl⟩
      have HBV:=hide hbv
      have HHA:=hide (RHas_q (c:=c6) hbv w6 _ (rd_own ho6) (by unfold maxLen;omega))
      clear ho6 hb6 hbv hul c0 c1 ff x0 x1 x2 x3 x4 x5 x6 HBX HO2 HW
      go_wp2_with fail
      refine HHA.out.mono ?_
      rintro e7 w7 ⟨rfl,rfl⟩
      cases bv
      case true=>
        obtain rfl:v=true:=by
          rw [←HV.out]
          exact lvB_iff.2 ⟨y,HF.out.sub y (List.mem_of_getElem? HY.out),of_decide_eq_true HBV.out⟩
        go_wp2
        go_ret
        exact ⟨rfl,HB.out.trans (HW6.out.mono HB.out.size)⟩
      have HNO2:=hide (show ∀ z:Nat,(F.set y true)[z]?=some true→q∉usesI BL (z:Int) from fun z hz=>by
        rw [List.getElem?_set] at hz
        split at hz
        · rename_i e
          subst e
          exact of_decide_eq_false HBV.out
        · exact HNO.out z hz)
      obtain ⟨x0,x1,x2,x3,x4,x5,x6⟩:=HCX.out _ HW6.out
      obtain ⟨r,hr⟩:∃ r,defI BL (y:Int)=r:=⟨_,rfl⟩
      have HR:=hide hr
      clear hr
      go_wp2_with fail
      refine (HDF.out _ y hyC r HR.out (HB.out.trans (HW6.out.mono HB.out.size))).mono ?_
      rintro e8 w8 ⟨rfl,hb8⟩
      have HW8:=hide (HW6.out.trans (hb8.mono HW6.out.size))
      have HBX8:=hide (HBX6.out.below hb8)
      have HO8:=hide (ownsRow_below HO6.out hb8)
      clear hb8 x0 x1 x2 x3 x4 x5 x6
      by_cases hrq:r=some q
      · subst hrq
        unfold vDef
        have t1:(q != q)=false:=by simp
        have HNX0:=hide (show lvN BL q y=[] from by unfold lvN;rw [if_pos HR.out])
        have HS:=hide (show Bfs (lvN BL q) C [p] (F.set y true) L (k+1) from by
          have h:=HF.out.step HY.out HBb.out (HNR.out y) (HNL.out y)
          rw [HNX0.out,List.append_nil] at h
          exact h)
        go_wp2
        go_roundw
        case rel=>exact ⟨k+1,L,F.set y true,_,c,by go_num,by rw [HN.out],HS,HNO2,HBX8,hide (by rw [HN.out];exact HO8.out),HW8⟩
        case measure=>simp [intOf];omega
      · obtain ⟨d, ok, hvd, hor⟩ : ∃ (d : Int) (ok : Bool), vDef r = .tuple #[.int .i64 d, .bool ok] ∧ (ok = false ∨ d ≠ q) := by
          cases r with
          | none=>exact ⟨0,false,rfl,.inl rfl⟩
          | some d=>exact ⟨d,true,rfl,.inr fun e=>hrq (by rw [e])⟩
        rw [hvd]
        have HNX0:=hide (show lvN BL q y=nxN BL (y:Int) from by unfold lvN;rw [if_neg];rw [HR.out];exact hrq)
        have HS:=hide (show Bfs (lvN BL q) C [p] (F.set y true) (L++nxN BL (y:Int)) (k+1) from by
          have h:=HF.out.step HY.out HBb.out (HNR.out y) (HNL.out y)
          rw [HNX0.out] at h
          exact h)
        have hl9:=HNL.out y
        rw [HNX0.out] at hl9
        obtain ⟨K,hK⟩:∃ K,nxN BL (y:Int)=K:=⟨_,rfl⟩
        have HNX2:=hide (hK ▸ HNX.out w8 y hyC (HB.out.trans (HW8.out.mono HB.out.size)))
        rw [hK] at HS hl9
        obtain ⟨i0,hi,hz0,hz1,hz2⟩:=info_parts info9Int
        have hle6:(w.alloc (.cells #[.string nm,.slice rA rn rc,.slice oA on oc,.slice tA tm tc,.slice lA ln lc,.int .i64 ar,.slice bA bn bc] 28)).heap.size≤w2.heap.size+1:=Nat.le_succ_of_le hle2
        have HLE:=hide hle6
        obtain ⟨x0,x1,x2,x3,x4,x5,x6⟩:=HCX.out _ HW8.out
        clear hvd hK hle6 hrq
        rcases hor with rfl | hdq
        all_goals
          try (have t1:(d != q)=true:=by rw [bne_iff_ne];exact hdq)
          try (cases ok)
        all_goals
          go_wp2_with (first
            | (refine HNX2.out.mono ?_;rintro e9 w9 ⟨B9,c9,rfl,ho9,hb9⟩;have HL9:=hide (Cells.of_own cInt_len (by decide) ho9);have HO9:=hide (ownsRow_below HO8.out hb9);have HBX9:=hide (HBX8.out.below hb9);have HW9:=hide (HW8.out.trans (hb9.mono HW8.out.size));have hs9:w2.heap.size+1≤w9.heap.size:=HBX9.out.lt;clear ho9 hb9)
            | (at_builtin;refine wpList_append_cells w9 rfl (.tmp 53) (.tmp 56) 34 rfl cInt_len (by decide) cInt_one (w2.heap.size+1) 3 i0 _ 8 Tryz.underlying34 hi hz0 hz1 hz2 rfl _ n ((castL L).flatMap cInt) rfl HO9.out _ B9 (castL K).length c9 (castL K) rfl HL9.out (by rw [castL_len];unfold maxLen;omega) (by rw [castL_len];omega) hs9 ?_;intro v7 w7 hown7 hg7 _;obtain ⟨A7,k7,rfl⟩:=own_slice9 hown7;have HO7:=hide hown7;have HBX7:=hide (HBX9.out.kt (KT.of_grown hg7 HO9.out) (by decide));have HW7:=hide (below_app HW9.out (ownsRow_base HO9.out HLE.out) (Nat.le_trans HLE.out hs9) hg7);clear hown7 hg7))
        all_goals
          go_roundw
          case rel=>
            have hl:(L++K).length=n+(castL K).length:=by rw [List.length_append,HN.out,castL_len]
            refine ⟨k+1,L++K,F.set y true,A7,k7,by go_num,by rw [hl],HS,HNO2,HBX7,hide ?_,HW7⟩
            rw [hl]
            have h:=HO7.out
            rw [←List.flatMap_append] at h
            have e:castL (L++K)=castL L++castL K:=List.map_append
            rw [e]
            exact h
          case measure=>simp [intOf];omega
    · have hlt':¬(k:Int) < (n:Int):=by omega
      obtain rfl:n=k:=by omega
      have hfin:=(HN.out ▸ HF.out:Bfs (lvN BL q) C [p] F L L.length).fin
      obtain rfl:v=false:=by
        rw [←HV.out]
        refine lvB_no fun ⟨z,hz,hu⟩=>?_
        exact HNO.out z ((hfin z).2 hz) hu
      clear hfin
      go_wp2
      go_ret
      exact ⟨rfl,HB.out.trans (HW.out.mono HB.out.size)⟩
theorem cSl_one (s:SlV):∀ u∈cSl s,u.oneCell'=true:=by intro u hu;simp only [cSl,List.mem_cons,List.not_mem_nil,or_false] at hu;subst hu;rfl
section
variable {w w':World} {lo lo':Nat} {A A':Option Addr} {c c':Nat} {LL:List (List Int)} {S:List SlV} {L:List Int} {s:SlV}
end
theorem lvI_up (l:List BkV) (p j:Nat):lvI l p (j+1)=lvI l p j++if lvB l (j:Int) p=true then [(j:Int)] else []:=by
 unfold lvI
 rw [List.range_succ,List.map_append,List.filter_append,List.map_singleton,List.filter_cons,List.filter_nil]
theorem lvLL_up (l:List BkV) (n j:Nat):lvLL l n (j+1)=lvLL l n j++[lvI l j n]:=by
 unfold lvLL
 rw [List.range_succ,List.map_append]
 rfl
theorem RLocals_any (x:BdW) (w:World) (hx:OneBd w w.heap.size x) (hN:ptCount x.v.blocks≤900) (hL:x.locals.n≤100000) (hU:SmallU x.v.blocks) :
  Calls Tryz.prog 18 #[aggBd x] w (RowsOut w (locsI x.v.blocks x.locals.n)):=by
 obtain ⟨BL,hBL⟩:∃ l,x.v.blocks=l:=⟨_,rfl⟩
 obtain ⟨C,hC⟩:∃ n,ptCount BL=n:=⟨_,rfl⟩
 have hN2:ptCount x.v.blocks≤2 ^ 62:=Nat.le_trans hN (by decide)
 have HCO:=hide fun (w':World) (y:Below w.heap.size w w')=>RCount_is (m:=C) (hx.up y) (by rw [hBL];exact hC) (by rw [←hC,← hBL];exact hN2)
 have HLV:=hide fun (w':World) (q p:Nat) (hp:p < C) (v:Bool) (hv:lvB BL (q:Int) p=v) (u:Below w.heap.size w w')=>(show Calls Tryz.prog 43 #[aggBd x,.int .i64 (q:Int),.int .i64 (p:Int)] w' fun e w2=>e=.returned (.bool v)∧Below w'.heap.size w' w2 from by
  have h:=RLive_any x (q:Int) p w' (hx.up u) hN (by rw [hBL,hC];exact hp) hU
  rw [hBL,hv] at h
  exact h)
 rw [hBL] at hN ⊢
 rw [hC] at hN
 have HLL:=hide (show locsI BL x.locals.n=lvLL BL x.locals.n C from by unfold locsI;rw [hC])
 obtain ⟨nm,⟨rA,rn,rc,rL⟩,⟨oA,on,oc,oL⟩,⟨tA,tm,tc,tL⟩,⟨lA,ln,lc,lL⟩,ar,⟨bA,bn,bc,bL⟩⟩:=x
 have hL:ln≤100000:=hL
 have HB:=hide (below1 w (.cells #[.string nm,.slice rA rn rc,.slice oA on oc,.slice tA tm tc,.slice lA ln lc,.int .i64 ar,.slice bA bn bc] 28))
 have hws:(w.alloc (.cells #[.string nm,.slice rA rn rc,.slice oA on oc,.slice tA tm tc,.slice lA ln lc,.int .i64 ar,.slice bA bn bc] 28)).heap.size=w.heap.size+1:=by simp
 have HWS:=hide hws
 have HCX:=hide fun (w':World) (y:Below (w.alloc (.cells #[.string nm,.slice rA rn rc,.slice oA on oc,.slice tA tm tc,.slice lA ln lc,.int .i64 ar,.slice bA bn bc] 28)).heap.size (w.alloc (.cells #[.string nm,.slice rA rn rc,.slice oA on oc,.slice tA tm tc,.slice lA ln lc,.int .i64 ar,.slice bA bn bc] 28)) w')=>cells7 y
 clear hBL hC hN2 hx hws hU
 go_enter Tryz.func18,Tryz.ntmps18
 go_wp2
 go_loopw [3,4] (fun v i wr=>∃ j:Nat,∃ A c S,i=.int .i64 (j:Int)∧v=.slice A (lvLL BL ln j).length c∧j≤C∧Hid (RowsI wr (w.heap.size+1) A c (lvLL BL ln j) S)∧Hid (Below (w.alloc (.cells #[.string nm,.slice rA rn rc,.slice oA on oc,.slice tA tm tc,.slice lA ln lc,.int .i64 ar,.slice bA bn bc] 28)).heap.size (w.alloc (.cells #[.string nm,.slice rA rn rc,.slice oA on oc,.slice tA tm tc,.slice lA ln lc,.int .i64 ar,.slice bA bn bc] 28)) wr)) (fun _ i _=>C - (intOf i).toNat)
 case atStart=>exact ⟨0,none,0,[],rfl,rfl,Nat.zero_le _,hide (RowsI.nil _ _),hide (Below.refl _ _)⟩
 case round=>
  obtain ⟨j,A,c,S,rfl,rfl,hj,HO,HW⟩:=hrel
  generalize wr=wq at *
  have HUP:=hide (lvLL_up BL ln j)
  have hln:=lvLL_len BL ln j
  obtain ⟨M,hM⟩:∃ M,lvLL BL ln j=M:=⟨_,rfl⟩
  have HM:=hide hM
  rw [hM] at hln HO ⊢
  have HLN:=hide hln
  rw [hln]
  obtain ⟨x0,x1,x2,x3,x4,x5,x6⟩:=HCX.out _ HW.out
  clear hM hln
  go_wp2_with fail
  refine (HCO.out _ (HB.out.trans (HW.out.mono HB.out.size))).mono ?_
  rintro e1 w1 ⟨rfl,hb1⟩
  have HW1:=hide (HW.out.trans (hb1.mono HW.out.size))
  have HO1:=hide (HO.out.below hb1)
  clear hb1 HO x0 x1 x2 x3 x4 x5 x6
  by_cases hlt:j < C
  ·
   have hlt':(j:Int) < (C:Int):=by omega
   have hsz1:w.heap.size+1≤w1.heap.size:=by rw [←HWS.out];exact HW1.out.size
   have HB0:=hide (Below.refl w1.heap.size w1)
   go_wp2
   go_loopw [5,6] (fun v i wr=>∃ q:Nat,∃ A c,i=.int .i64 (q:Int)∧v=.slice A (lvI BL j q).length c∧q≤ln∧Hid (wr.ownsRow w1.heap.size 3 1 (.slice A (lvI BL j q).length c) (lvI BL j q).length ((lvI BL j q).flatMap cInt))∧Hid (Below w1.heap.size w1 wr)) (fun _ i _=>ln - (intOf i).toNat)
   case atStart=>exact ⟨0,none,0,rfl,rfl,Nat.zero_le _,hide (World.ownsRow_nil _ _ _ _),HB0⟩
   case round=>
    obtain ⟨q,A',c',rfl,rfl,hq,HI,HX⟩:=hrel
    have HUP2:=hide (lvI_up BL j q)
    have hln2:=lvI_len BL j q
    obtain ⟨K,hK⟩:∃ K,lvI BL j q=K:=⟨_,rfl⟩
    have HK:=hide hK
    rw [hK] at hln2 HI ⊢
    obtain ⟨m,hm⟩:∃ m,K.length=m:=⟨_,rfl⟩
    have HMM:=hide hm
    rw [hm] at hln2 HI ⊢
    obtain ⟨x0,x1,x2,x3,x4,x5,x6⟩:=HCX.out _ (HW1.out.trans (HX.out.mono HW1.out.size))
    clear hK hm
    by_cases hlq:q < ln
    ·
     have hlq':(q:Int) < (ln:Int):=by omega
     obtain ⟨bv,hbv⟩:∃ b,lvB BL (q:Int) j=b:=⟨_,rfl⟩
     have HBV:=hide hbv
     clear hbv
     go_wp2_with fail
     refine (HLV.out _ q j hlt bv HBV.out (HB.out.trans ((HW1.out.trans (HX.out.mono HW1.out.size)).mono HB.out.size))).mono ?_
     rintro e2 w2 ⟨rfl,hb2⟩
     have HX2:=hide (HX.out.trans (hb2.mono HX.out.size))
     have HI2:=hide (ownsRow_below HI.out hb2)
     clear hb2 x0 x1 x2 x3 x4 x5 x6
     cases bv
     ·
      have HU:=hide (show lvI BL j (q+1)=K by rw [HUP2.out,HK.out,HBV.out];simp)
      go_wp2
      go_roundw
      case rel=>exact ⟨q+1,A',c',by go_num,by rw [HU.out,HMM.out],by omega,hide (by rw [HU.out,HMM.out];exact HI2.out),HX2⟩
      case measure=>simp [intOf];omega
     ·
      have HU:=hide (show lvI BL j (q+1)=K++[(q:Int)] by rw [HUP2.out,HK.out,HBV.out];simp)
      obtain ⟨i0,hi,hz0,hz1,hz2⟩:=info_parts info9Int
      have hb3:=below1 w2 (.cells #[.int .i64 (q:Int)] 3)
      have HO5:=hide (ownsRow_below HI2.out hb3)
      have HL5:=hide (show Cells (w2.alloc (.cells #[.int .i64 (q:Int)] 3)) (w2.heap.size+1) 1 cInt (some ⟨w2.heap.size,0,none⟩) 1 [(q:Int)] from lit_cells w2 cInt cInt_len (q:Int) 3)
      have HW5:=hide (HX2.out.trans (hb3.mono HX2.out.size))
      have hs5:w1.heap.size≤(w2.alloc (.cells #[.int .i64 (q:Int)] 3)).heap.size:=HW5.out.size
      clear hb3
      go_wp2_with (at_builtin;refine wpList_append_cells (w2.alloc (.cells #[.int .i64 (q:Int)] 3)) rfl (.tmp 24) (.tmp 26) 34 rfl cInt_len (by decide) cInt_one w1.heap.size 3 i0 _ 8 Tryz.underlying34 hi hz0 hz1 hz2 rfl _ m (K.flatMap cInt) rfl HO5.out _ (some ⟨w2.heap.size,0,none⟩) 1 1 [(q:Int)] rfl HL5.out (by unfold maxLen;omega) (by omega) hs5 ?_;intro v5 w5 hown5 hg5 _;obtain ⟨A5,k5,rfl⟩:=own_slice9 hown5;have HO6:=hide hown5;have HW6:=hide (below_app HW5.out HO5.out hs5 hg5);clear hown5 hg5)
      go_roundw
      case rel=>
       refine ⟨q+1,A5,k5,by go_num,?_,by omega,hide ?_,HW6⟩
       ·
        rw [HU.out,List.length_append,HMM.out];rfl
       ·
        rw [HU.out,List.length_append,HMM.out,List.flatMap_append];exact HO6.out
      case measure=>simp [intOf];omega
    ·
     have hlq':¬(q:Int) < (ln:Int):=by omega
     obtain rfl:ln=q:=by omega
     have HO2:=hide (HO1.out.below HX.out)
     have HWX:=hide (HW1.out.trans (HX.out.mono HW1.out.size))
     have hb3:=below1 wr (.cells #[.slice A' m c'] 34)
     have HO5:=hide (HO2.out.below hb3)
     have HI5:=hide (ownsRow_below HI.out hb3)
     obtain ⟨i0,hi,hz0,hz1,hz2⟩:=info_parts info9Ints
     have HL5:=hide (show Cells (wr.alloc (.cells #[.slice A' m c'] 34)) (wr.heap.size+1) 1 cSl (some ⟨wr.heap.size,0,none⟩) 1 [((A',m,c'):SlV)] from lit_cells wr cSl cSl_len ((A',m,c'):SlV) 34)
     have HW5:=hide (HWX.out.trans (hb3.mono HWX.out.size))
     have hs5:w.heap.size+1≤(wr.alloc (.cells #[.slice A' m c'] 34)).heap.size:=by rw [←HWS.out];exact HW5.out.size
     have HRW:=hide (show (wr.alloc (.cells #[.slice A' m c'] 34)).ownsRow (w.heap.size+1) 34 1 (.slice A j c) j (S.flatMap cSl) from by
      have h:=HO5.out.row
      rw [HLN.out] at h
      exact h)
     clear hb3
     go_wp2_with (at_builtin;refine wpList_append_cells (wr.alloc (.cells #[.slice A' m c'] 34)) rfl (.tmp 28) (.tmp 30) 38 rfl cSl_len (by decide) cSl_one (w.heap.size+1) 34 i0 _ 24 Tryz.underlying38 hi hz0 hz1 hz2 rfl _ j (S.flatMap cSl) rfl HRW.out _ (some ⟨wr.heap.size,0,none⟩) 1 1 [((A',m,c'):SlV)] rfl HL5.out (by unfold maxLen;omega) (by omega) hs5 ?_;intro v5 w5 hown5 hg5 _;obtain ⟨A5,k5,rfl⟩:=own_slice9 hown5;have HO6:=hide (show RowsI w5 (w.heap.size+1) A5 k5 (M++[K]) (S++[((A',m,c'):SlV)]) from HO5.out.snoc (by rw [HMM.out];exact ownsRow_base HI5.out hsz1) HMM.out.symm (KT.of_grown hg5 HRW.out) (by rw [HLN.out];simpa using hown5));have HW6:=hide (below_app HW5.out (ownsRow_base HRW.out (Nat.le_of_eq HWS.out)) (Nat.le_trans (Nat.le_of_eq HWS.out) hs5) hg5);clear hown5 hg5)
     go_roundw
     case rel=>
      have e:lvLL BL ln (j+1)=M++[K]:=by rw [HUP.out,HM.out,HK.out]
      refine ⟨j+1,A5,k5,_,by go_num,?_,by omega,hide (by rw [e];exact HO6.out),HW6⟩
      rw [e,List.length_append,HLN.out]
      rfl
     case measure=>simp [intOf];omega
  ·
   have hlt':¬(j:Int) < (C:Int):=by omega
   obtain rfl:C=j:=by omega
   go_wp2
   go_ret
   have hl:locsI BL ln=M:=HLL.out.trans HM.out
   refine ⟨A,c,S,?_,?_,HB.out.trans (HW1.out.mono HB.out.size)⟩
   ·
    rw [hl,HLN.out];rfl
   ·
    rw [hl]
    exact HO1.out.base (Nat.le_succ _)
section
variable {w:World} {B:Nat} {x:BdW} (hx:OneBd w B x)
include hx
end
section
variable {w:World} {x:BdW} (hx:OneBd w w.heap.size x)
include hx
theorem ok12rows (h:Ok12 x) (w':World) (y:Below w.heap.size w w'):Calls Tryz.prog 18 #[aggBd x] w' (RowsOut w' (locsI x.v.blocks x.locals.n)):=
 RLocals_any x w' (hx.up y) (Nat.le_trans h.sm.cnt (by decide)) (Nat.le_trans h.sm.nl (by decide)) (small12 hx h.sm.sz)
end
theorem EqCl12 {A B:Option Addr} {n m c d lo lo':Nat} {xs ys:List Int} {b:Bool} (hb:eqIs xs ys=b) (w:World) (hx:w.ownsRow lo 3 1 (.slice A n c) n (xs.flatMap cInt)) (hy:w.ownsRow lo' 3 1 (.slice B m d) m (ys.flatMap cInt)) :
  Calls Tryz.prog 19 #[.slice A n c,.slice B m d] w fun e w'=>e=.returned (.bool b)∧Below w.heap.size w w':=by
 have HE:=hide (EqI11 hb w hx hy)
 clear hx hy hb
 go_enter Tryz.func19,Tryz.ntmps19
 go_wp2_with fail
 refine HE.out.mono ?_
 rintro e w1 ⟨rfl,hb⟩
 have HB:=hide hb
 clear hb
 go_wp2
 go_ret
 exact ⟨rfl,HB.out⟩
theorem EqF12_same {A B:Option Addr} {c d lo lo' n:Nat} {LL:List (List Int)} {S T:List SlV} (w:World) (hx:RowsI w lo A c LL S) (hy:RowsI w lo' B d LL T) (hn:LL.length=n) :
  Calls Tryz.prog 16 #[.slice A n c,.slice B n d,.func (.func 19) #[] #[]] w fun e w'=>e=.returned (.bool true)∧Below w.heap.size w w':=by
 have HX:=hide hx
 have HY:=hide hy
 have HL:=hide hn
 have hn0:n≤9223372036854775807:=by have:=own_max11 hx.row;unfold maxLen at this;omega
 clear hx hy hn
 have e1:((n:Int) != (n:Int))=false:=by simp
 go_enter Tryz.func16,Tryz.ntmps16
 go_wp2
 go_loopw [17] (fun i wr=>∃ j:Nat,i=.int .i64 (j:Int)∧j≤n∧Hid (Below w.heap.size w wr)) (fun i _=>n - (intOf i).toNat)
 case atStart=>exact ⟨0,rfl,Nat.zero_le _,hide (Below.refl _ _)⟩
 case round=>
  obtain ⟨j,rfl,hj,HB⟩:=hrel
  by_cases hlt:j < n
  ·
   have hlt':(j:Int) < (n:Int):=by omega
   obtain ⟨L,hL⟩:∃ L,LL[j]?=some L:=⟨_,List.getElem?_eq_getElem (by rw [HL.out];exact hlt)⟩
   obtain ⟨g,z,Q,q,rfl,hg,hcl,hown⟩:=(HX.out.below HB.out).at_ hL
   obtain ⟨g',z',Q',q',rfl,hg',hcl',hown'⟩:=(HY.out.below HB.out).at_ hL
   obtain ⟨m,hm⟩:∃ m,L.length=m:=⟨_,rfl⟩
   rw [hm] at hcl hown hcl' hown'
   have HE:=hide (EqCl12 (eqIs_iff.2 rfl) wr hown hown')
   clear hown hown' hL hm
   go_wp2_with fail
   refine HE.out.mono ?_
   rintro e w1 ⟨rfl,hb⟩
   have HB1:=hide (HB.out.trans (hb.mono HB.out.size))
   clear hb
   go_wp2
   go_roundw
   case rel=>exact ⟨j+1,by go_num,by omega,HB1⟩
   case measure=>simp [intOf];omega
  ·
   obtain rfl:j=n:=by omega
   go_wp2
   go_ret
   exact ⟨rfl,HB.out⟩
theorem W12Locals (x0:BdW) (w:World) (h0:OneBd w w.heap.size x0) (s0:FitBd x0) (hT:Pre12 w) :
  Calls Tryz.prog 4 #[aggBd x0] w fun e w'=>e=.returned (.bool true)∧Below w.heap.size w w':=by
 have HAL:=hide fun (w':World) (y:Below w.heap.size w w')=>alive12_any w' (hT.up y)
 have HSK:=hide fun (w':World) (y:Below w.heap.size w w')=>Skip12_any x0 w' (h0.up y) s0
 obtain ⟨LL,hLL⟩:∃ l,locsI x0.v.blocks x0.locals.n=l:=⟨_,rfl⟩
 have HCR:=hide fun (h:Ok12 x0) (w':World) (y:Below w.heap.size w w')=>hLL ▸ CRows hT h0 h w' y
 have HRR:=hide fun (h:Ok12 x0) (w':World) (y:Below w.heap.size w w')=>hLL ▸ ok12rows h0 h w' y
 clear hLL
 obtain ⟨nm,⟨rA,rn,rc,rL⟩,⟨oA,on,oc,oL⟩,⟨tA,tm,tc,tL⟩,⟨lA,ln,lc,lL⟩,ar,⟨bA,bn,bc,bL⟩⟩:=x0
 have HB:=hide (below1 w (.cells #[.string nm,.slice rA rn rc,.slice oA on oc,.slice tA tm tc,.slice lA ln lc,.int .i64 ar,.slice bA bn bc] 28))
 have hcx:=hide fun (w':World) (y:Below (w.alloc (.cells #[.string nm,.slice rA rn rc,.slice oA on oc,.slice tA tm tc,.slice lA ln lc,.int .i64 ar,.slice bA bn bc] 28)).heap.size (w.alloc (.cells #[.string nm,.slice rA rn rc,.slice oA on oc,.slice tA tm tc,.slice lA ln lc,.int .i64 ar,.slice bA bn bc] 28)) w')=>cells7 y
 clear h0 s0 hT
 go_enter Tryz.func4,Tryz.ntmps4
 go_wp2_with fail
 refine (HSK.out _ HB.out).mono ?_
 rintro e1 w1 ⟨h1,hb1⟩
 have HW1:=hide hb1
 have HC1:=hide (HB.out.trans (hb1.mono HB.out.size))
 clear hb1
 rcases h1 with rfl | ⟨rfl,hok⟩
 case inl=>
  go_wp2_with fail
  refine (HAL.out _ HC1.out).mono ?_
  rintro e9 w9 ⟨rfl,hb9⟩
  have HC9:=hide (HC1.out.trans (hb9.mono HC1.out.size))
  clear hb9
  go_wp2
  go_ret
  exact ⟨rfl,HC9.out⟩
 have HOK:=hide hok
 clear hok
 have HC:=hide (HCR.out HOK.out)
 have HR:=hide (HRR.out HOK.out)
 clear HCR HRR HOK
 go_wp2
 have HD:=hide (HW1.out.drew)
 refine wp_region_held_drew (S:=(fun w'=>Below (w.alloc (.cells #[.string nm,.slice rA rn rc,.slice oA on oc,.slice tA tm tc,.slice lA ln lc,.int .i64 ar,.slice bA bn bc] 28)).heap.size (w.alloc (.cells #[.string nm,.slice rA rn rc,.slice oA on oc,.slice tA tm tc,.slice lA ln lc,.int .i64 ar,.slice bA bn bc] 28)) w')) (by kernel_rfl) HD.out (fun hHeld=>?_)
 refine pC 0 rfl (fun KZ hK=>?_)
 go_simp
 refine (HAL.out _ (HB.out.trans (HD.out.mono HB.out.size))).mono ?_
 rintro e5 w5 ⟨rfl,hb0⟩
 have H5:=hide (HD.out.trans (hb0.mono HD.out.size))
 clear hb0
 refine hK.out _ _ H5.out (fun hHeld=>?_)
 refine planS [1,2,4] ?_
 repeat' (first | refine pT hHeld rfl ?_ | refine pS hHeld rfl ?_)
 refine pC 3 rfl (fun KZ hK=>?_)
 go_simp
 refine (HC.out _ (HB.out.trans (H5.out.mono HB.out.size))).mono ?_
 rintro e5 w6 ⟨A6,c6,S6,rfl,ho6,hb0⟩
 have H6:=hide (H5.out.trans (hb0.mono H5.out.size))
 have HO6:=hide ho6
 clear ho6
 clear hb0
 refine hK.out _ _ H6.out (fun hHeld=>?_)
 refine pC 5 rfl (fun KZ hK=>?_)
 go_simp
 refine (HR.out _ (HB.out.trans (H6.out.mono HB.out.size))).mono ?_
 rintro e5 w7 ⟨A7,c7,S7,rfl,ho7,hb0⟩
 have H7:=hide (H6.out.trans (hb0.mono H6.out.size))
 have HO7:=hide ho7
 have HO67:=hide (HO6.out.below hb0)
 clear ho7
 clear hb0
 refine hK.out _ _ H7.out (fun hHeld=>?_)
 refine pC 6 rfl (fun KZ hK=>?_)
 go_simp
 refine (EqF12_same _ HO67.out HO7.out rfl).mono ?_
 rintro e5 w8 ⟨rfl,hb0⟩
 have H8:=hide (H7.out.trans (hb0.mono H7.out.size))
 clear hb0
 refine hK.out _ _ H8.out (fun hHeld=>?_)
 refine planS [7,8] ?_
 repeat' (first | refine pT hHeld rfl ?_ | refine pS hHeld rfl ?_)
 refine wpAnyH_done (by kernel_rfl) ?_ _
 go_wp2
 go_ret
 exact ⟨rfl,HB.out.trans (H8.out.mono HB.out.size)⟩
end Go.Proofs.YteeemjmohjkdpaaGreatDoor
