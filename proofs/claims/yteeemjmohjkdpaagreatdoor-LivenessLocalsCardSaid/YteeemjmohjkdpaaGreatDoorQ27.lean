/- Part 28 of the contracts and their mathematics. -/
import Derived.Test.YteeemjmohjkdpaaGreatDoorQ26
set_option linter.unusedVariables false
set_option linter.unusedSimpArgs false
set_option maxRecDepth 100000
set_option maxHeartbeats 8000000
namespace Go.Proofs.YteeemjmohjkdpaaGreatDoor
open Go.RowKit
theorem OfTerm_any (x:TmW) (w:World) (hx:OneTm w w.heap.size x) (hn:x.args.n≤1000000) (hk:x.kind=1∨x.kind=3∨x.args.n=0) :
  Calls Tryz.prog 65 #[aggTm x] w (EfOut w (tmU x.v) (tmD x.v)):=by
 have hps:=hx.pl.prs.len
 have hl:IntR x.pl.l:=hx.pl.l
 have hargs:=hx.args
 obtain ⟨U,hU⟩:∃ U,tmU x.v=U:=⟨_,rfl⟩
 obtain ⟨D,hD⟩:∃ D,tmD x.v=D:=⟨_,rfl⟩
 rw [hU,hD]
 obtain ⟨kd,⟨gA,gn,gc,gL⟩,⟨aA,an,ac,aL⟩,⟨l,pA,pn,pc,ps⟩,tnm⟩:=x
 have hps:ps.length=pn:=hps
 have HL:=hide (show IntR l from hl)
 have hal:aL.length=an:=hargs.len
 have HAL:=hide hal
 have hn:an≤1000000:=hn
 have hk:kd=1∨kd=3∨an=0:=hk
 have HU:=hide (show opsU (aL.map OpW.v)++(if kd=4∨kd=3∧0 < ps.length then [l] else [])=U from hU)
 have HD:=hide (show (if kd=3∧ps.length=0 then some l else none)=D from hD)
 clear hU hD
 rw [hps] at HU HD
 have h0:=ef0 w (.cells #[.int .i64 kd,.slice gA gn gc,.slice aA an ac,.int .i64 l,.slice pA pn pc,.string tnm] 60)
 have hx0:=Bx.new w [.int .i64 kd,.slice gA gn gc,.slice aA an ac,.int .i64 l,.slice pA pn pc,.string tnm] 60
 obtain ⟨W0,hW0⟩:∃ W0,W0=((((w.alloc (.cells #[.int .i64 kd,.slice gA gn gc,.slice aA an ac,.int .i64 l,.slice pA pn pc,.string tnm] 60)).alloc (.cells #[.map none,.int .i64 0,.bool false] 77)).alloc (.map #[] 0)).alloc (.cells #[.map (some (w.heap.size+2)),.int .i64 0,.bool false] 77)):=⟨_,rfl⟩
 have HW0:=hide hW0
 have hx9:Bx W0 w.heap.size [.int .i64 kd,.slice gA gn gc,.slice aA an ac,.int .i64 l,.slice pA pn pc,.string tnm] 60:=by
  rw [hW0]
  exact ((hx0.below (below1 _ _)).below (below1 _ _)).below (below1 _ _)
 rw [←hW0] at h0
 have H0:=hide h0
 have HX:=hide hx9
 have HRA:=hide fun (w':World) (y:Below W0.heap.size W0 w')=>(ERead_any (w.heap.size+3) (w.heap.size+2) 0 false [] ⟨aA,an,ac,aL⟩ w.heap.size w' (Bx.below H0.out.e y) (H0.out.s.below y) (Ops.below (H0.out.b.trans (y.mono H0.out.b.size)) hargs) (by omega) (by omega) hn (by simp))
 have hmm:=@run_makeMap Tryz.prog
 have s0:=hx9.cell (j:=0) rfl
 have s2:=hx9.cell (j:=2) rfl
 have s3:=hx9.cell (j:=3) rfl
 have e0:=Bx.cell H0.out.e (j:=0) rfl
 rw [hW0] at s0 s2 s3 e0
 clear hx hps hl hargs h0 hx0 hx9 hW0
 have HSZ:=hide eff_size
 by_cases hr:kd=1∨kd=3
 case' neg=>
  have t1:(kd == 1)=false:=by simp;omega
  have t3:(kd == 3)=false:=by simp;omega
  have ha:aL=[]:=List.eq_nil_of_length_eq_zero (by omega)
  subst ha
  rw [if_neg (by omega)] at HD
  by_cases h4:kd=4
  case' pos=>
   subst h4
   rw [if_pos (.inl rfl)] at HU
   have HE2:=hide H0.out.e
   clear hk hr hal
   go_enter Tryz.func65,Tryz.ntmps65
   go_wp2_with fail
   rw [←HW0.out]
   refine (SAdd_any H0.out.s HL.out (by simp)).mono ?_
   rintro e3 w3 ⟨rfl,hs3,ht3⟩
   have HS9:=hide (show SetW w3 (w.heap.size+2) U from HU.out ▸ hs3)
   have HT3:=hide (ht3.weak (S':=fun k=>k=w.heap.size+2∨k=w.heap.size+3) fun _ h=>.inl h)
   have HE9:=hide (show Bx w3 (w.heap.size+3) [.map (some (w.heap.size+2)),.int .i64 0,.bool false] 77 from Bx.turn HE2.out ht3 (by omega))
   have HD9:=hide (show (0:Int)=D.getD 0∧false=D.isSome from by rw [←HD.out];exact ⟨rfl,rfl⟩)
   have HONE:=hide (eff_one (w.heap.size+2) 0 false)
   clear hs3 ht3
  case' neg=>
   have t4:(kd == 4)=false:=by simpa using h4
   rw [if_neg (by omega)] at HU
   have HF:=hide (ef1 w (.cells #[.int .i64 kd,.slice gA gn gc,.slice aA an ac,.int .i64 l,.slice pA pn pc,.string tnm] 60) (d:=0) (f:=false) (D:=D) (by rw [←HD.out];rfl) (by rw [←HD.out];rfl))
   obtain rfl:[]=U:=HU.out
   clear HX H0 HRA HU HD hk hal
   go_enter Tryz.func65,Tryz.ntmps65
   go_wp2
   exact bodyPost_ret (results_cell_row rfl _ _ (w.heap.size+1) _ #[.map (some (w.heap.size+1+1)),.int .i64 0,.bool false] (0,0) _ rfl HF.out.1 Tryz.underlying77 rfl (by kernel_rfl)) rfl HF.out.2
 case' pos=>
  have HOL:=hide (show (opsU (aL.map OpW.v)).length≤1000000 from by
   have h1:=opsU_len (aL.map OpW.v)
   rw [List.length_map] at h1
   omega)
  rcases hr with rfl | rfl
  case' inl=>
   rw [if_neg (by omega),List.append_nil] at HU
   rw [if_neg (by omega)] at HD
   clear hk hal
   go_enter Tryz.func65,Tryz.ntmps65
   go_wp2_with fail
   rw [←HW0.out]
   refine (HRA.out W0 (Below.refl _ _)).mono ?_
   rintro e3 w3 ⟨rfl,hs3,ht3⟩
   have HS9:=hide (show SetW w3 (w.heap.size+2) U from HU.out ▸ hs3)
   have HT3:=hide (ht3.weak (S':=fun k=>k=w.heap.size+2∨k=w.heap.size+3) fun _ h=>.inl h)
   have HE9:=hide (show Bx w3 (w.heap.size+3) [.map (some (w.heap.size+2)),.int .i64 0,.bool false] 77 from Bx.turn H0.out.e ht3 (by omega))
   have HD9:=hide (show (0:Int)=D.getD 0∧false=D.isSome from by rw [←HD.out];exact ⟨rfl,rfl⟩)
   have HONE:=hide (eff_one (w.heap.size+2) 0 false)
   clear hs3 ht3
  case' inr=>
   clear hk hal
   go_enter Tryz.func65,Tryz.ntmps65
   go_wp2_with fail
   rw [←HW0.out]
   refine (HRA.out W0 (Below.refl _ _)).mono ?_
   rintro e1 w2 ⟨rfl,hs1,ht1⟩
   have HT2:=hide (ht1.weak (S':=fun k=>k=w.heap.size+2∨k=w.heap.size+3) fun _ h=>.inl h)
   have HS2:=hide (show SetW w2 (w.heap.size+2) (opsU (aL.map OpW.v)) from hs1)
   have HE2:=hide (show EffW w2 (w.heap.size+3) (w.heap.size+2) 0 false from Bx.turn H0.out.e ht1 (by omega))
   have hx2:=HX.out.turn HT2.out (by omega)
   have d1:=hx2.cell (j:=3) rfl
   have d2:=hx2.cell (j:=4) rfl
   clear hs1 ht1 s0 s2 s3 e0 hmm hx2
   by_cases hp:0 < pn
   case' pos=>
    rw [if_pos (.inr ⟨trivial,hp⟩)] at HU
    rw [if_neg (by omega)] at HD
    have HPP:=hide (EWrite_use (w.heap.size+3) (w.heap.size+2) 0 false (opsU (aL.map OpW.v)) l pA pn pc w2 HE2.out HS2.out HL.out hp (by omega) (by have:=HOL.out;omega))
    clear hp
    go_wp2_with fail
    refine HPP.out.mono ?_
    rintro e3 w3 ⟨rfl,hs3,ht3⟩
    have HS9:=hide (show SetW w3 (w.heap.size+2) U from HU.out ▸ hs3)
    have HT3:=hide (HT2.out.trans (ht3.weak fun _ h=>.inl h))
    have HE9:=hide (show Bx w3 (w.heap.size+3) [.map (some (w.heap.size+2)),.int .i64 0,.bool false] 77 from Bx.turn HE2.out ht3 (by omega))
    have HD9:=hide (show (0:Int)=D.getD 0∧false=D.isSome from by rw [←HD.out];exact ⟨rfl,rfl⟩)
    have HONE:=hide (eff_one (w.heap.size+2) 0 false)
    clear hs3 ht3 d1 d2
   case' neg=>
    obtain rfl:pn=0:=by omega
    rw [if_neg (by omega),List.append_nil] at HU
    rw [if_pos ⟨trivial,rfl⟩] at HD
    have HPP:=hide (EWrite_def (w.heap.size+3) (w.heap.size+2) 0 false l pA pc w2 HE2.out)
    clear hp
    go_wp2_with fail
    refine HPP.out.mono ?_
    rintro e3 w3 ⟨rfl,he3,ht3⟩
    have HS9:=hide (show SetW w3 (w.heap.size+2) U from HU.out ▸ HS2.out.turn ht3 (by omega))
    have HT3:=hide (HT2.out.trans (ht3.weak fun _ h=>.inr h))
    have HE9:=hide (show Bx w3 (w.heap.size+3) [.map (some (w.heap.size+2)),.int .i64 l,.bool true] 77 from he3)
    have HD9:=hide (show l=D.getD 0∧true=D.isSome from by rw [←HD.out];exact ⟨rfl,rfl⟩)
    have HONE:=hide (eff_one (w.heap.size+2) l true)
    clear he3 ht3 d1 d2
 all_goals
  have HR9:=hide (H0.out.r.turn HT3.out (by omega))
  have HB9:=hide (H0.out.b.trans (HT3.out.below H0.out.b.size (by omega)))
  have e0:=HE9.out.cell (j:=0) rfl
  have e1:=HE9.out.cell (j:=1) rfl
  have e2:=HE9.out.cell (j:=2) rfl
  go_wp2_with (refine wpList_store_row rfl 77 _ _ rfl (w.heap.size+1) _ rfl rfl 77 #[.map none,.int .i64 0,.bool false] ?_ ?_ ?_ ?_ ?_;exact HR9.out;exact HSZ.out;rfl;exact HONE.out)
  refine bodyPost_ret (results_cell_row rfl _ _ (w.heap.size+1) _ _ (0,0) _ rfl (setRow_heap _ _ _ _ _ _ HR9.out) Tryz.underlying77 rfl (by kernel_rfl)) rfl ?_
  exact ef_out HS9.out HR9.out HB9.out HD9.out.1 HD9.out.2 rfl
def TermU (l:List BkV):Prop:=∀ b∈l,b.term.kind=1∨b.term.kind=3∨b.term.args.length=0
def EpOut (l:List BkV) (p:Int) (w:World) (e:Ending) (w':World):Prop:=
 (ptLocI l p=none∧e=.returned (.agg #[.map none,.int .i64 0,.bool false])∧Below w.heap.size w w')∨∃ i k b,ptLocI l p=some (i,k)∧l[i]?=some b∧EfOut w (useAt b k) (defAt b k) e w'
theorem useAt_stmt {b:BkV} {k:Nat} {s:StV} (h:b.stmts[k]?=some s):useAt b k=stU s∧defAt b k=stD s:=by
 unfold useAt defAt
 rw [h]
 exact ⟨rfl,rfl⟩
theorem useAt_term {b:BkV} {k:Nat} (h:b.stmts.length≤k):useAt b k=tmU b.term∧defAt b k=tmD b.term:=by
 unfold useAt defAt
 rw [List.getElem?_eq_none h]
 exact ⟨rfl,rfl⟩
theorem EfOut.up {w w1 w2:World} {U:List Int} {D:Option Int} {e:Ending} {g:Nat} {d:Int} {f:Bool} {b:Nat} (hb:Below w.heap.size w w1) (hS:SetW w2 b U) (hl:w1.heap.size≤b) (h:Below w1.heap.size w1 w2) (hr:Bx w2 g [.map none,.int .i64 0,.bool false] 77) (hg:w.heap.size≤g) (hd:d=D.getD 0) (hf:f=D.isSome) (he:e=.returned (.agg #[.map (some b),.int .i64 d,.bool f])) :
  EfOut w U D e (w2.setRow g #[.map (some b),.int .i64 d,.bool f]):=
 ⟨b,by rw [he,hd,hf],hS.row hr _,Nat.le_trans hb.size hl,below_setRow9 (hb.trans (h.mono hb.size)) hg _⟩
theorem OfPoint_any (x:BdW) (p:Int) (w:World) (hx:OneBd w w.heap.size x) (hN:ptCount x.v.blocks≤2 ^ 62) (hI:IntR p) (hU:SmallU x.v.blocks) (hT:TermU x.v.blocks) :
  Calls Tryz.prog 34 #[aggBd x,.int .i64 p] w (EpOut x.v.blocks p w):=by
 obtain ⟨BL,hBL⟩:∃ l,x.v.blocks=l:=⟨_,rfl⟩
 have hbl:=bk_len hx
 have hbm:=hx.blocks.nm
 unfold maxLen at hbm
 obtain ⟨r,hr⟩:∃ r,ptLocI BL p=r:=⟨_,rfl⟩
 have HLO:=hide fun (w':World) (y:Below w.heap.size w w')=>(show Calls Tryz.prog 63 #[aggBd x,.int .i64 p] w' fun e w2=>e=.returned (vLoc r)∧Below w'.heap.size w' w2 from by
  have h:=PLocate_any x p w' (hx.up y) hN hI
  rw [hBL,hr] at h
  exact h)
 rw [hBL] at hN hbl hU hT ⊢
 have HBV:=hide hBL
 have HR:=hide hr
 obtain ⟨nm,⟨rA,rn,rc,rL⟩,⟨oA,on,oc,oL⟩,⟨tA,tm,tc,tL⟩,⟨lA,ln,lc,lL⟩,ar,⟨bA,bn,bc,bL⟩⟩:=x
 have HBL:=hide (show BL.length=bn from hbl)
 have hbm:bn≤2 ^ 63 - 1:=hbm
 obtain ⟨W0,hW0⟩:∃ W0,W0=(w.alloc (.cells #[.string nm,.slice rA rn rc,.slice oA on oc,.slice tA tm tc,.slice lA ln lc,.int .i64 ar,.slice bA bn bc] 28)).alloc (.cells #[.map none,.int .i64 0,.bool false] 77):=⟨_,rfl⟩
 have hb1:=below1 w (.cells #[.string nm,.slice rA rn rc,.slice oA on oc,.slice tA tm tc,.slice lA ln lc,.int .i64 ar,.slice bA bn bc] 28)
 have hb2:=below1 (w.alloc (.cells #[.string nm,.slice rA rn rc,.slice oA on oc,.slice tA tm tc,.slice lA ln lc,.int .i64 ar,.slice bA bn bc] 28)) (.cells #[.map none,.int .i64 0,.bool false] 77)
 have hbx:=(Bx.new w [.string nm,.slice rA rn rc,.slice oA on oc,.slice tA tm tc,.slice lA ln lc,.int .i64 ar,.slice bA bn bc] 28).below hb2
 have hrx:=Bx.new (w.alloc (.cells #[.string nm,.slice rA rn rc,.slice oA on oc,.slice tA tm tc,.slice lA ln lc,.int .i64 ar,.slice bA bn bc] 28)) [.map none,.int .i64 0,.bool false] 77
 rw [show (w.alloc (.cells #[.string nm,.slice rA rn rc,.slice oA on oc,.slice tA tm tc,.slice lA ln lc,.int .i64 ar,.slice bA bn bc] 28)).heap.size=w.heap.size+1 by simp] at hrx
 have HB:=hide (show Below w.heap.size w W0 from hW0 ▸ hb1.trans (hb2.mono hb1.size))
 have hbx:Bx W0 w.heap.size [.string nm,.slice rA rn rc,.slice oA on oc,.slice tA tm tc,.slice lA ln lc,.int .i64 ar,.slice bA bn bc] 28:=hW0 ▸ hbx
 have hrx:Bx W0 (w.heap.size+1) [.map none,.int .i64 0,.bool false] 77:=hW0 ▸ hrx
 have HBX:=hide hbx
 have HRX:=hide hrx
 have HW0:=hide hW0
 have HX:=hide (hx.up HB.out)
 have x0:=hbx.cell (j:=0) rfl
 have x1:=hbx.cell (j:=1) rfl
 have x2:=hbx.cell (j:=2) rfl
 have x3:=hbx.cell (j:=3) rfl
 have x4:=hbx.cell (j:=4) rfl
 have x5:=hbx.cell (j:=5) rfl
 have x6:=hbx.cell (j:=6) rfl
 have HSZ:=hide eff_size
 rw [hW0] at x0 x1 x2 x3 x4 x5 x6
 clear hBL hbl hN hx hr hb1 hb2 hbx hrx hW0
 cases r with
 | none=>
  go_enter Tryz.func34,Tryz.ntmps34
  go_wp2_with fail
  rw [←HW0.out]
  refine (HLO.out _ HB.out).mono ?_
  rintro e w1 ⟨rfl,hb1⟩
  have HB3:=hide (HB.out.trans (hb1.mono HB.out.size))
  have HR9:=hide (HRX.out.below hb1)
  have HON0:=hide (all_oneCell_toArray (cs:=[.map none,.int .i64 0,.bool false]) (fun u hu=>by simp only [List.mem_cons,List.not_mem_nil,or_false] at hu;rcases hu with rfl | rfl | rfl <;> rfl))
  clear hb1 x0 x1 x2 x3 x4 x5 x6
  unfold vLoc
  go_wp2_with (refine wpList_store_row rfl 77 _ _ rfl (w.heap.size+1) #[.map none,.int .i64 0,.bool false] rfl rfl 77 #[.map none,.int .i64 0,.bool false] ?_ ?_ ?_ ?_ ?_;exact HR9.out;exact HSZ.out;rfl;exact HON0.out)
  refine bodyPost_ret (results_cell_row rfl _ _ (w.heap.size+1) _ #[.map none,.int .i64 0,.bool false] (0,0) _ rfl (setRow_heap _ _ _ _ _ _ HR9.out) Tryz.underlying77 rfl (by kernel_rfl)) rfl ?_
  exact .inl ⟨HR.out,rfl,below_setRow9 HB3.out (Nat.le_succ _) _⟩
 | some z=>
 obtain ⟨i,k⟩:=z
 have hi:i < bn:=by
  have h1:=ptLocI_lt HR.out
  have h2:BL.length=bn:=HBL.out
  omega
 obtain ⟨pb,b,o,_,hpv,hps,hpm,hA,hb,h1b,hc⟩:=bk_at HX.out hi
 have hA:bA=some ⟨b,o,none⟩:=hA
 subst hA
 have hpv:BL[i]?=some pb.v:=HBV.out ▸ hpv
 obtain ⟨hp0,b',hb',hk,hpk⟩:=ptLocI_some HR.out
 have e':some pb.v=some b':=hpv.symm.trans hb'
 injection e' with e'
 subst e'
 have HPV:=hide hpv
 have hUb:=hU _ (List.mem_of_getElem? hpv)
 have hTb:=hT _ (List.mem_of_getElem? hpv)
 rw [hps] at hk
 have HUB:=hide hUb
 have HTB:=hide hTb
 obtain ⟨⟨sA,sn,sc,sL⟩,⟨bk,⟨gA,gn,gc,gL⟩,⟨aA,an,ac,aL⟩,⟨l,pA,pn,pc,ps⟩,tnm⟩⟩:=pb
 have hk:k≤sn:=hk
 have hpm:sn≤maxLen:=hpm
 unfold maxLen at hpm
 have HSL:=hide (show sL.length=sn from h1b.stmts.len)
 have HSTS:=hide h1b.stmts
 have HTM:=hide h1b.term
 have HCT:=hide fun (w':World) (y:Below W0.heap.size W0 w')=>(show w'.cell? ⟨b,o+i*7,none⟩=some (.slice sA sn sc)∧w'.cell? ⟨b,o+i*7+1,none⟩=some (.int .i64 bk)∧w'.cell? ⟨b,o+i*7+2,none⟩=some (.slice gA gn gc)∧w'.cell? ⟨b,o+i*7+3,none⟩=some (.slice aA an ac)∧w'.cell? ⟨b,o+i*7+4,none⟩=some (.int .i64 l)∧w'.cell? ⟨b,o+i*7+5,none⟩=some (.slice pA pn pc)∧w'.cell? ⟨b,o+i*7+6,none⟩=some (.string tnm) from
  have hz:=fun j=>y.cell (p:=⟨b,o+i*7+j,none⟩) hb
  ⟨(hz 0).trans (hc 0 _ rfl),(hz 1).trans (hc 1 _ rfl),(hz 2).trans (hc 2 _ rfl),(hz 3).trans (hc 3 _ rfl),(hz 4).trans (hc 4 _ rfl),(hz 5).trans (hc 5 _ rfl),(hz 6).trans (hc 6 _ rfl)⟩)
 have hi':(i:Int) < (bn:Int):=by omega
 have hi0:(0:Int)≤(i:Int):=by omega
 clear hpv hps hb hc hb' hpk h1b hU hT hUb hTb
 go_enter Tryz.func34,Tryz.ntmps34
 go_wp2_with fail
 rw [←HW0.out]
 refine (HLO.out _ HB.out).mono ?_
 rintro e w1 ⟨rfl,hb1⟩
 have HW1:=hide hb1
 have HB1:=hide (HB.out.trans (hb1.mono HB.out.size))
 clear x0 x1 x2 x3 x4 x5 x6
 unfold vLoc
 have y6:=(HBX.out.below hb1).cell (j:=6) rfl
 obtain ⟨z0,z1,z2,z3,z4,z5,z6⟩:=HCT.out _ hb1
 have hb3:=below1 w1 (.cells #[.slice sA sn sc,.int .i64 bk,.slice gA gn gc,.slice aA an ac,.int .i64 l,.slice pA pn pc,.string tnm] 62)
 have HB3:=hide (HB1.out.trans (hb3.mono HB1.out.size))
 have HW3:=hide (HW1.out.trans (hb3.mono HW1.out.size))
 have hbk:=Bx.new w1 [.slice sA sn sc,.int .i64 bk,.slice gA gn gc,.slice aA an ac,.int .i64 l,.slice pA pn pc,.string tnm] 62
 have b0:=hbk.cell (j:=0) rfl
 have b1:=hbk.cell (j:=1) rfl
 have b2:=hbk.cell (j:=2) rfl
 have b3:=hbk.cell (j:=3) rfl
 have b4:=hbk.cell (j:=4) rfl
 have b5:=hbk.cell (j:=5) rfl
 have b6:=hbk.cell (j:=6) rfl
 have HR3:=hide ((HRX.out.below hb1).below hb3)
 clear hb1 hb3 hbk
 by_cases hks:k < sn
 case' pos=>
  have hks':(k:Int) < (sn:Int):=by omega
  have hk0:(0:Int)≤(k:Int):=by omega
  obtain ⟨s,hs⟩:∃ s,sL[k]?=some s:=⟨_,List.getElem?_eq_getElem (by rw [HSL.out];exact hks)⟩
  obtain ⟨gs,zs,hgA,hgB,h1s,hgc⟩:=HSTS.out.at_ hs
  have hgA:sA=some ⟨gs,zs,none⟩:=hgA
  subst hgA
  have hsv:(BkW.v ⟨⟨some ⟨gs,zs,none⟩,sn,sc,sL⟩,⟨bk,⟨gA,gn,gc,gL⟩,⟨aA,an,ac,aL⟩,⟨l,pA,pn,pc,ps⟩,tnm⟩⟩).stmts[k]?=some s.v:=by
   show (sL.map StW.v)[k]?=some s.v
   rw [List.getElem?_map,hs]
   rfl
  have hal:s.rv.args.n≤1000000:=by
   have h1:=HUB.out.1 s.v (List.mem_of_getElem? hsv)
   have h2:s.v.rv.args.length=s.rv.args.n:=(List.length_map _).trans h1s.rv.args.len
   omega
  have HUD:=hide (useAt_stmt hsv)
  have HOS:=hide (OfStmt_any s _ ((h1s.below HW3.out).more HW3.out.size) hal)
  obtain ⟨kd,⟨ql,qA,qn,qc,qs⟩,⟨rk,ro,rr,rm,⟨tl,tA,tn,tc,ts⟩,⟨dA,dn,dc,dL⟩⟩,loc⟩:=s
  have hgz:∀ i u,(cSt ⟨kd,⟨ql,qA,qn,qc,qs⟩,⟨rk,ro,rr,rm,⟨tl,tA,tn,tc,ts⟩,⟨dA,dn,dc,dL⟩⟩,loc⟩)[i]?=some u→(w1.alloc (.cells #[.slice (some ⟨gs,zs,none⟩) sn sc,.int .i64 bk,.slice gA gn gc,.slice aA an ac,.int .i64 l,.slice pA pn pc,.string tnm] 62)).cell? ⟨gs,zs+k*11+i,none⟩=some u:=fun i u hu=>(HW3.out.cell (p:=⟨gs,zs+k*11+i,none⟩) hgB).trans (hgc i u hu)
  have g0:=hgz 0 _ rfl
  have g1:=hgz 1 _ rfl
  have g2:=hgz 2 _ rfl
  have g3:=hgz 3 _ rfl
  have g4:=hgz 4 _ rfl
  have g5:=hgz 5 _ rfl
  have g6:=hgz 6 _ rfl
  have g7:=hgz 7 _ rfl
  have g8:=hgz 8 _ rfl
  have g9:=hgz 9 _ rfl
  have g10:=hgz 10 _ rfl
  simp only [Nat.add_zero] at g0
  obtain ⟨U,hU9⟩:∃ U,useAt (BkW.v ⟨⟨some ⟨gs,zs,none⟩,sn,sc,sL⟩,⟨bk,⟨gA,gn,gc,gL⟩,⟨aA,an,ac,aL⟩,⟨l,pA,pn,pc,ps⟩,tnm⟩⟩) k=U:=⟨_,rfl⟩
  obtain ⟨D,hD9⟩:∃ D,defAt (BkW.v ⟨⟨some ⟨gs,zs,none⟩,sn,sc,sL⟩,⟨bk,⟨gA,gn,gc,gL⟩,⟨aA,an,ac,aL⟩,⟨l,pA,pn,pc,ps⟩,tnm⟩⟩) k=D:=⟨_,rfl⟩
  rw [←HUD.out.1,← HUD.out.2,hU9,hD9] at HOS
  have HUU:=hide hU9
  have HDD:=hide hD9
  clear HUD hU9 hD9
  clear hs hsv h1s hgc hgz hal
  go_wp2_with fail
  refine HOS.out.mono ?_
 case' neg=>
  have hks':¬(k:Int) < (sn:Int):=by omega
  have hal:an≤1000000:=by
   have h1:=HUB.out.2
   have h2:(aL.map OpW.v).length=an:=(List.length_map _).trans HTM.out.args.len
   have h3:(aL.map OpW.v).length≤900000:=h1
   omega
  have hkd:bk=1∨bk=3∨an=0:=by
   have h1:=HTB.out
   have h2:(aL.map OpW.v).length=an:=(List.length_map _).trans HTM.out.args.len
   have h3:bk=1∨bk=3∨(aL.map OpW.v).length=0:=h1
   omega
  have HUD:=hide (show useAt (BkW.v ⟨⟨sA,sn,sc,sL⟩,⟨bk,⟨gA,gn,gc,gL⟩,⟨aA,an,ac,aL⟩,⟨l,pA,pn,pc,ps⟩,tnm⟩⟩) k=tmU (TmW.v ⟨bk,⟨gA,gn,gc,gL⟩,⟨aA,an,ac,aL⟩,⟨l,pA,pn,pc,ps⟩,tnm⟩)∧defAt (BkW.v ⟨⟨sA,sn,sc,sL⟩,⟨bk,⟨gA,gn,gc,gL⟩,⟨aA,an,ac,aL⟩,⟨l,pA,pn,pc,ps⟩,tnm⟩⟩) k=tmD (TmW.v ⟨bk,⟨gA,gn,gc,gL⟩,⟨aA,an,ac,aL⟩,⟨l,pA,pn,pc,ps⟩,tnm⟩) from useAt_term (by show (sL.map StW.v).length≤k;rw [List.length_map,HSL.out];omega))
  have HOS:=hide (OfTerm_any ⟨bk,⟨gA,gn,gc,gL⟩,⟨aA,an,ac,aL⟩,⟨l,pA,pn,pc,ps⟩,tnm⟩ _ ((HTM.out.below HW3.out).more HW3.out.size) hal hkd)
  obtain ⟨U,hU9⟩:∃ U,useAt (BkW.v ⟨⟨sA,sn,sc,sL⟩,⟨bk,⟨gA,gn,gc,gL⟩,⟨aA,an,ac,aL⟩,⟨l,pA,pn,pc,ps⟩,tnm⟩⟩) k=U:=⟨_,rfl⟩
  obtain ⟨D,hD9⟩:∃ D,defAt (BkW.v ⟨⟨sA,sn,sc,sL⟩,⟨bk,⟨gA,gn,gc,gL⟩,⟨aA,an,ac,aL⟩,⟨l,pA,pn,pc,ps⟩,tnm⟩⟩) k=D:=⟨_,rfl⟩
  rw [←HUD.out.1,← HUD.out.2,hU9,hD9] at HOS
  have HUU:=hide hU9
  have HDD:=hide hD9
  clear HUD hU9 hD9
  clear hal hkd
  go_wp2_with fail
  refine HOS.out.mono ?_
 all_goals
  rintro e w4 ⟨be,rfl,hs4,hle,hb4⟩
  have HR9:=hide (HR3.out.below hb4)
  have HS9:=hide hs4
  have HB9:=hide hb4
  clear hs4 hb4
  have HONE:=hide (eff_one be (D.getD 0) D.isSome)
  generalize hd:D.getD 0=d at *
  generalize hf:D.isSome=f at *
  have HDF:=hide (And.intro hd hf)
  clear hd hf z0 z1 z2 z3 z4 z5 z6 b0 b1 b2 b3 b4 b5 b6 y6
  go_wp2_with (refine wpList_store_row rfl 77 _ _ rfl (w.heap.size+1) _ rfl rfl 77 #[.map none,.int .i64 0,.bool false] ?_ ?_ ?_ ?_ ?_;exact HR9.out;exact HSZ.out;rfl;exact HONE.out)
  refine bodyPost_ret (results_cell_row rfl _ _ (w.heap.size+1) _ _ (0,0) _ rfl (setRow_heap _ _ _ _ _ _ HR9.out) Tryz.underlying77 rfl (by kernel_rfl)) rfl ?_
  exact .inr ⟨i,k,_,HR.out,HPV.out,HUU.out ▸ HDD.out ▸ EfOut.up HB3.out HS9.out hle HB9.out HR9.out (Nat.le_succ _) HDF.out.1.symm HDF.out.2.symm rfl⟩
theorem useAt_len {l:List BkV} (h:SmallU l) {b:BkV} (hb:b∈l) (k:Nat):(useAt b k).length≤900002:=by
 have hbm:=h b hb
 unfold useAt
 cases hs:b.stmts[k]? with
 | none=>
  have h1:=opsU_len b.term.args
  have h2:=hbm.2
  show (opsU b.term.args++_).length≤_
  rw [List.length_append]
  split <;> simp <;> omega
 | some s=>
  have h1:=opsU_len s.rv.args
  have h2:=hbm.1 s (List.mem_of_getElem? hs)
  show (stU s).length≤_
  unfold stU
  split
  ·
   rw [List.length_append,List.length_append]
   split <;> split <;> simp <;> omega
  ·
   exact Nat.zero_le _
theorem IntsOut9.up {w w':World} {L:List Int} {e:Ending} {w2:World} (h:IntsOut9 w' L e w2) (hb:Below w.heap.size w w'):IntsOut9 w L e w2:=by
 obtain ⟨A,c,h1,h2,h3⟩:=h
 exact ⟨A,c,h1,ownsRow_base h2 hb.size,hb.trans (h3.mono hb.size)⟩
theorem eff_field (m:Option Nat) (d:Int) (f:Bool) (w:World):(Instr.field 77 (.agg #[.map m,.int .i64 d,.bool f]) 0).run Tryz.prog w=.ok (.map m) w:=by kernel_rfl
theorem PUses_any (x:BdW) (p:Int) (w:World) (hx:OneBd w w.heap.size x) (hN:ptCount x.v.blocks≤2 ^ 62) (hI:IntR p) (hU:SmallU x.v.blocks) (hT:TermU x.v.blocks) :
  Calls Tryz.prog 14 #[aggBd x,.int .i64 p] w (IntsOut9 w (usesI x.v.blocks p)):=by
 have HO:=hide fun (w':World) (y:Below w.heap.size w w')=>OfPoint_any x p w' (hx.up y) hN hI hU hT
 obtain ⟨BL,hBL⟩:∃ l,x.v.blocks=l:=⟨_,rfl⟩
 rw [hBL] at HO hU ⊢
 have HUU:=hide hU
 obtain ⟨nm,⟨rA,rn,rc,rL⟩,⟨oA,on,oc,oL⟩,⟨tA,tm,tc,tL⟩,⟨lA,ln,lc,lL⟩,ar,⟨bA,bn,bc,bL⟩⟩:=x
 have HB:=hide (below1 w (.cells #[.string nm,.slice rA rn rc,.slice oA on oc,.slice tA tm tc,.slice lA ln lc,.int .i64 ar,.slice bA bn bc] 28))
 obtain ⟨x0,x1,x2,x3,x4,x5,x6⟩:=cells7 (Below.refl (w.alloc (.cells #[.string nm,.slice rA rn rc,.slice oA on oc,.slice tA tm tc,.slice lA ln lc,.int .i64 ar,.slice bA bn bc] 28)).heap.size (w.alloc (.cells #[.string nm,.slice rA rn rc,.slice oA on oc,.slice tA tm tc,.slice lA ln lc,.int .i64 ar,.slice bA bn bc] 28)))
 clear hx hN hI hU hT hBL
 go_enter Tryz.func14,Tryz.ntmps14
 go_wp2_with fail
 refine (HO.out _ HB.out).mono ?_
 rintro e w1 (⟨h1,rfl,hb1⟩ | ⟨i,k,b,h1,h2,be,rfl,hs,hle,hb1⟩)
 ·
  have HW1:=hide (HB.out.trans (hb1.mono HB.out.size))
  have hu:usesI BL p=[]:=by unfold usesI;exact atI_none h1
  have HU9:=hide hu
  clear h1 hb1 x0 x1 x2 x3 x4 x5 x6 hu
  have hfe:=eff_field none 0 false
  go_wp2_with fail
  refine (Sorted_nil _).mono ?_
  rintro e w2 ⟨A,c,rfl,ho,hb⟩
  have HO2:=hide (ownsRow_base ho HW1.out.size)
  have HB2:=hide (HW1.out.trans (hb.mono HW1.out.size))
  clear ho hb
  go_wp2
  go_ret
  exact ⟨A,c,by rw [HU9.out];rfl,by rw [HU9.out];exact HO2.out,HB2.out⟩
 ·
  have HW1:=hide (HB.out.trans (hb1.mono HB.out.size))
  have hu:usesI BL p=setI (useAt b k):=by unfold usesI;exact atI_some h1 h2
  have HU9:=hide hu
  have HSS:=hide (SortedB_set hs (Nat.le_trans (useAt_len HUU.out (List.mem_of_getElem? h2) k) (by decide)))
  clear h1 h2 hs hle hb1 x0 x1 x2 x3 x4 x5 x6 hu
  generalize setI (useAt b k)=U at *
  have hfe:=eff_field (some be) ((defAt b k).getD 0) (defAt b k).isSome
  go_wp2_with fail
  refine HSS.out.mono ?_
  rintro e w2 ⟨A,c,rfl,ho,hb⟩
  have HO2:=hide (ownsRow_base ho HW1.out.size)
  have HB2:=hide (HW1.out.trans (hb.mono HW1.out.size))
  clear ho hb
  go_wp2
  go_ret
  exact ⟨A,c,by rw [HU9.out];rfl,by rw [HU9.out];exact HO2.out,HB2.out⟩
theorem vDef_form (D:Option Int):vDef D=.tuple #[.int .i64 (D.getD 0),.bool D.isSome]:=by cases D <;> rfl
theorem PDefines_any (x:BdW) (p:Int) (w:World) (hx:OneBd w w.heap.size x) (hN:ptCount x.v.blocks≤2 ^ 62) (hI:IntR p) (hU:SmallU x.v.blocks) (hT:TermU x.v.blocks) :
  Calls Tryz.prog 11 #[aggBd x,.int .i64 p] w fun e w'=>e=.returned (vDef (defI x.v.blocks p))∧Below w.heap.size w w':=by
 have HO:=hide fun (w':World) (y:Below w.heap.size w w')=>(show Calls Tryz.prog 34 #[aggBd x,.int .i64 p] w' fun e w2=>∃ v,e=.returned (.agg #[.map v,.int .i64 ((defI x.v.blocks p).getD 0),.bool (defI x.v.blocks p).isSome])∧Below w'.heap.size w' w2 from
  (OfPoint_any x p w' (hx.up y) hN hI hU hT).mono fun e w2 h=>by
   rcases h with ⟨h1,rfl,hb1⟩ | ⟨i,k,b,h1,h2,be,rfl,hs,hle,hb1⟩
   ·
    have hd:defI x.v.blocks p=none:=by unfold defI;exact atI_none h1
    rw [hd]
    exact ⟨_,rfl,hb1⟩
   ·
    have hd:defI x.v.blocks p=defAt b k:=by unfold defI;exact atI_some h1 h2
    rw [hd]
    exact ⟨_,rfl,hb1⟩)
 rw [vDef_form]
 obtain ⟨D,hD⟩:∃ D,defI x.v.blocks p=D:=⟨_,rfl⟩
 rw [hD] at HO ⊢
 generalize D.getD 0=d at *
 generalize D.isSome=f at *
 obtain ⟨nm,⟨rA,rn,rc,rL⟩,⟨oA,on,oc,oL⟩,⟨tA,tm,tc,tL⟩,⟨lA,ln,lc,lL⟩,ar,⟨bA,bn,bc,bL⟩⟩:=x
 have HB:=hide (below1 w (.cells #[.string nm,.slice rA rn rc,.slice oA on oc,.slice tA tm tc,.slice lA ln lc,.int .i64 ar,.slice bA bn bc] 28))
 obtain ⟨x0,x1,x2,x3,x4,x5,x6⟩:=cells7 (Below.refl (w.alloc (.cells #[.string nm,.slice rA rn rc,.slice oA on oc,.slice tA tm tc,.slice lA ln lc,.int .i64 ar,.slice bA bn bc] 28)).heap.size (w.alloc (.cells #[.string nm,.slice rA rn rc,.slice oA on oc,.slice tA tm tc,.slice lA ln lc,.int .i64 ar,.slice bA bn bc] 28)))
 clear hx hN hI hU hT hD
 go_enter Tryz.func11,Tryz.ntmps11
 go_wp2_with fail
 refine (HO.out _ HB.out).mono ?_
 rintro e w1 ⟨v,rfl,hb1⟩
 have hb2:=below1 w1 (.cells #[.map v,.int .i64 d,.bool f] 77)
 have HW1:=hide ((HB.out.trans (hb1.mono HB.out.size)).trans (hb2.mono (HB.out.trans (hb1.mono HB.out.size)).size))
 obtain ⟨W1,hW1⟩:∃ W1,W1=w1.alloc (.cells #[.map v,.int .i64 d,.bool f] 77):=⟨_,rfl⟩
 have HWW:=hide hW1
 rw [←hW1] at HW1
 have hbx:Bx W1 w1.heap.size [.map v,.int .i64 d,.bool f] 77:=by rw [hW1];exact Bx.new w1 [.map v,.int .i64 d,.bool f] 77
 have hcx:=hide fun (w':World) (y:Below W1.heap.size W1 w')=>(show w'.cell? ⟨w1.heap.size,1,none⟩=some (.int .i64 d)∧w'.cell? ⟨w1.heap.size,2,none⟩=some (.bool f) from ⟨(hbx.below y).cell (j:=1) rfl,(hbx.below y).cell (j:=2) rfl⟩)
 clear hb1 hb2 hbx hW1 x0 x1 x2 x3 x4 x5 x6
 go_wp2
 rw [←HWW.out]
 have HD:=hide ((Below.refl W1.heap.size W1).drew)
 refine wp_region_held_drew (S:=(fun w'=>Below W1.heap.size W1 w')) (by kernel_rfl) HD.out (fun hHeld=>?_)
 refine planS [0,1,2,3,4,5] ?_
 repeat' (first | refine pT hHeld rfl ?_ | refine pS hHeld rfl ?_)
 refine planE ?_
 refine wpAnyH_done (by kernel_rfl) ?_ _
 go_wp2
 go_ret2
 exact ⟨rfl,HW1.out.drew⟩
end Go.Proofs.YteeemjmohjkdpaaGreatDoor
namespace Go.Proofs.YteeemjmohjkdpaaGreatDoor
open Go.RowKit Go.Shelf
attribute [local go_sem] Oper.semAt_some
def edP (BL:List BkV) (pre:List (SpX BL)):List Pr:=pre.flatMap fun s=>(nextI BL (s.1.1:Int)).map fun q=>((s.1.1:Int),q)
theorem edP_up (BL:List BkV) (pre:List (SpX BL)) (s:SpX BL):edP BL (pre++[s])=edP BL pre++(nextI BL (s.1.1:Int)).map fun q=>((s.1.1:Int),q):=by
 unfold edP
 rw [List.flatMap_append]
 simp
theorem edP_all {BL:List BkV} {ys:List (SpX BL)} (h:ys.map spP=List.range' 0 (ptCount BL)):edP BL ys=edgesI BL:=by
 unfold edP edgesI edI
 have e:(ys.flatMap fun s=>(nextI BL (s.1.1:Int)).map fun q=>((s.1.1:Int),q))=(ys.map spP).flatMap fun (k:Nat)=>(nextI BL (k:Int)).map fun q=>((k:Int),q):=by
  rw [List.flatMap_map]
  rfl
 rw [e,h,← List.range_eq_range']
theorem next_len (l:List BkV) (p:Int):(nextI l p).length≤ptCount l:=nxI_len l p _
theorem edP_len (BL:List BkV) (pre:List (SpX BL)):(edP BL pre).length≤pre.length*ptCount BL:=by
 induction pre with
 | nil=>simp [edP]
 | cons s pre ih=>
  have e:edP BL (s :: pre)=((nextI BL (s.1.1:Int)).map fun q=>((s.1.1:Int),q))++edP BL pre:=by
   unfold edP
   rw [List.flatMap_cons]
  rw [e,List.length_append,List.length_map,List.length_cons,Nat.add_mul,Nat.one_mul]
  have:=next_len BL (s.1.1:Int)
  omega
def K2 (W W':World):Prop:=∀ (k:Nat) (cs:Array Value) (t:TypeId) (fz:Nat×Nat),W.heap[k]?=some (.cells cs t fz)→t≠47→t≠23→W'.heap[k]?=some (.cells cs t fz)
theorem K2.of_below {W W':World} (h:Below W.heap.size W W'):K2 W W':=fun k cs t fz hk _ _=>(h.block k (Array.getElem?_eq_some_iff.1 hk).1).trans hk
theorem K2.trans {A B C:World} (h:K2 A B) (k:K2 B C):K2 A C:=fun j cs t fz hj h1 h2=>k j cs t fz (h j cs t fz hj h1 h2) h1 h2
theorem own_k2 {W W':World} {lo k n:Nat} {e:TypeId} {v:Value} {xs:List Value} (h:W.ownsRow lo e k v n xs) (hk:K2 W W') (h1:e≠47) (h2:e≠23):W'.ownsRow lo e k v n xs:=by
 refine ⟨h.1,?_⟩
 rcases h.2 with hv | ⟨g,cap,cur,hv,hb,hg,r⟩
 ·
  exact .inl hv
 ·
  exact .inr ⟨g,cap,cur,hv,hb,hk _ _ _ _ hg h1 h2,r⟩
structure EdW (lo e0 f0 bn fc:Nat) (fA:Option Addr) (st:List Int) (L:List Pr) (W:World):Prop where
 row:∃ A c,Boxed W e0 23 (.slice A L.length c)∧W.ownsRow lo 47 2 (.slice A L.length c) L.length (L.flatMap pV)
 fb:Boxed W f0 34 (.slice fA bn fc)
 fr:W.ownsRow lo 3 1 (.slice fA bn fc) bn (st.flatMap cInt)
section
variable {lo e0 f0 bn fc:Nat} {fA:Option Addr} {st:List Int} {L:List Pr} {W W':World}
theorem EdW.below (h:EdW lo e0 f0 bn fc fA st L W) (hb:Below W.heap.size W W'):EdW lo e0 f0 bn fc fA st L W':=by
 obtain ⟨A,c,h1,h2⟩:=h.row
 exact ⟨⟨A,c,(hb.block _ h1.lt).trans h1,ownsRow_below h2 hb⟩,(hb.block _ h.fb.lt).trans h.fb,ownsRow_below h.fr hb⟩
theorem row_own11 {row:Option Nat} {base k n:Nat} {e:TypeId} {v:Value} {xs:List Value} (h:W.ownsRow base e k v n xs) (hg:W.grownBy W' row) (hr:∀ r,row=some r→∃ o:Obj,W.heap[r]?=some o∧o.isCells=false):W'.ownsRow base e k v n xs:=by
 refine h.kept hg ?_
 rcases h.2 with ⟨rfl,_⟩ | ⟨g,cap,cur,rfl,_,hgg,_⟩
 ·
  exact .inl rfl
 ·
  refine .inr fun e'=>?_
  obtain ⟨o,ho,hc⟩:=hr g (by rw [←e'];rfl)
  rw [hgg] at ho
  injection ho with ho
  subst ho
  cases hc
theorem EdW.own {row:Option Nat} (h:EdW lo e0 f0 bn fc fA st L W) (hg:W.grownBy W' row) (hr:∀ r,row=some r→∃ o:Obj,W.heap[r]?=some o∧o.isCells=false):EdW lo e0 f0 bn fc fA st L W':=by
 obtain ⟨A,c,h1,h2⟩:=h.row
 exact ⟨⟨A,c,block_own11 h1 hg hr,row_own11 h2 hg hr⟩,block_own11 h.fb hg hr,row_own11 h.fr hg hr⟩
theorem keepsFrom_below11 {B:Nat} (hb:Below W.heap.size W W'):KeepsFrom B W W':=⟨hb.size,fun k o _ hk _=>(hb.block k (Array.getElem?_eq_some_iff.1 hk).1).trans hk⟩
theorem keepsFrom_row11 {B:Nat} {base k n:Nat} {e:TypeId} {v:Value} {xs:List Value} (hg:W.grownBy W' v.ownBlock) (hown:W.ownsRow base e k v n xs):KeepsFrom B W W':=⟨hg.size,fun q o _ hq ho=>(hg.block q (Array.getElem?_eq_some_iff.1 hq).1 (fun he=>by
 rcases hown.2 with ⟨rfl,_⟩ | ⟨g,cap,cur,rfl,_,hgg,_⟩
 ·
  cases he
 ·
  have:q=g:=by simpa [Value.ownBlock] using he
  subst this
  rw [hq] at hgg
  injection hgg with hgg
  subst hgg
  cases ho)).trans hq⟩
theorem EdW.step {n₀ B:Nat} {A A5:Option Addr} {c c5:Nat} {y:Pr} {w5:World} (h:EdW lo e0 f0 bn fc fA st L W) (h1:Boxed W e0 23 (.slice A L.length c)) (h2:W.ownsRow lo 47 2 (.slice A L.length c) L.length (L.flatMap pV))
  (hown5:w5.ownsRow lo 47 2 (.slice A5 (L.length+1) c5) (L.length+1) (L.flatMap pV++pV y)) (hg5:W.grownBy w5 (Value.slice A L.length c).ownBlock) (hlo:lo≤W.heap.size) (he:lo≤e0) (hn:n₀≤lo) :
  Boxed w5 e0 23 (.slice A L.length c)∧EdW lo e0 f0 bn fc fA st (L++[y]) (w5.setCell ⟨e0,0,none⟩ (.slice A5 (L.length+1) c5))∧K2 W (w5.setCell ⟨e0,0,none⟩ (.slice A5 (L.length+1) c5))∧Below lo W (w5.setCell ⟨e0,0,none⟩ (.slice A5 (L.length+1) c5))∧KeepT n₀ spTs W (w5.setCell ⟨e0,0,none⟩ (.slice A5 (L.length+1) c5))∧KeepsFrom B W (w5.setCell ⟨e0,0,none⟩ (.slice A5 (L.length+1) c5)):=by
 have k1:KT 47 W w5:=KT.of_grown hg5 h2
 have bx5:Boxed w5 e0 23 (.slice A L.length c):=(k1 _ _ _ _ h1 (by decide)).trans h1
 have k2:KT 23 w5 (w5.setCell ⟨e0,0,none⟩ (.slice A5 (L.length+1) c5)):=KT.of_set (cs:=[.slice A L.length c]) bx5 0 _
 have hk2:K2 W (w5.setCell ⟨e0,0,none⟩ (.slice A5 (L.length+1) c5)):=fun k cs t fz hk t1 t2=>(k2 k cs t fz ((k1 k cs t fz hk t1).trans hk) t2).trans ((k1 k cs t fz hk t1).trans hk)
 have hkt:KeepT n₀ spTs W (w5.setCell ⟨e0,0,none⟩ (.slice A5 (L.length+1) c5)):=(KeepT.row hg5 h2 hn (Nat.le_trans hn hlo) (by decide)).trans (KeepT.box bx5 (Nat.le_trans hn he) (by decide) _)
 refine ⟨bx5,⟨⟨A5,c5,?_,?_⟩,hk2 _ _ _ _ h.fb (by decide) (by decide),own_k2 h.fr hk2 (by decide) (by decide)⟩,hk2,?_,hkt,(keepsFrom_row11 hg5 h2).trans ((KeepsOthers.setCell w5 ⟨e0,0,none⟩ (.slice A5 (L.length+1) c5)).from _)⟩
 ·
  have e:(L++[y]).length=L.length+1:=by simp
  rw [e]
  exact bx5.set _
 ·
  have e:(L++[y]).length=L.length+1:=by simp
  rw [e,List.flatMap_append]
  have h3:=own_kt hown5 k2 (by decide)
  simpa using h3
 ·
  exact ((Below.refl lo W).grown hg5 hlo (fun k hk=>(h2.lt k hk).1)).setCell (p:=⟨e0,0,none⟩) he _
end
theorem PEdges_any (x:BdW) (w:World) (hx:OneBd w w.heap.size x) (hN:ptCount x.v.blocks≤100000) (hT:∀ b∈x.v.blocks,b.term.targets.length≤100000) :
    Calls Tryz.prog 69 #[aggBd x] w (PrsOut9 w (edgesI x.v.blocks)):=by
  refine (callsIn_wide (n:=9)).1 ?_
  obtain ⟨BL,hBL⟩:∃ l,x.v.blocks=l:=⟨_,rfl⟩
  obtain ⟨C,hC⟩:∃ n,ptCount BL=n:=⟨_,rfl⟩
  have hbl:=bk_len hx
  have hbn:x.blocks.n≤100000:=by
    have:=len_le_count x.v.blocks
    omega
  rw [hBL] at hbl
  have hN2:ptCount x.v.blocks≤2 ^ 62:=Nat.le_trans hN (by decide)
  have HST:=hide fun (w':World) (q i k:Nat) (b:BkV) (hb:BL[i]?=some b) (y:Below w.heap.size w w')=>PIsStmt_any x q i k w' b (hx.up y) (hBL ▸ hb)
  have HSS:=hide fun (w':World) (y:Below w.heap.size w w')=>PStarts_any x w' (hx.up y) hN2 (by omega)
  have HJ:=hide fun (w':World) (i:Nat) (b:BkV) (hb:BL[i]?=some b) (fA:Option Addr) (fc:Nat) (y:Below w.heap.size w w') (hF:Cells w' w'.heap.size 1 cInt fA x.blocks.n (stI x.v.blocks x.blocks.n))=>PJumps_any x i b fA fc w' (hx.up y) (hBL ▸ hb) (Nat.le_trans (hT b (hBL ▸ List.mem_of_getElem? hb)) (by decide)) hN2 hF
  rw [hBL] at hN hT HSS HJ ⊢
  rw [hC] at hN
  have hN3:C≤2 ^ 62:=Nat.le_trans hN (by decide)
  have HX:=hide hx
  have HBL:=hide hbl
  have HBV:=hide hBL
  have HCC:=hide hC
  have HSL:=hide (stI_len BL x.blocks.n)
  have HSTOP:=hide fun (n:Nat) (hn:1≤n) (Bb Bf:Nat) (w':World) (hBb:w'.heap[Bb]?=some (.cells (cBd x).toArray 28 (0,0))) (hBf:Boxed w' Bf 3 (.int .i64 0)) (hx:OneBd w' w.heap.size x) (hn0:w.heap.size≤w'.heap.size)=>onward_stops n hn Bb Bf w.heap.size x BL hBL 0 C hC hN3 ⟨by omega,by omega⟩ w' hBb hBf hx hn0
  clear hx hBL hC hN2
  obtain ⟨nm,⟨rA,rn,rc,rL⟩,⟨oA,on,oc,oL⟩,⟨tA,tm,tc,tL⟩,⟨lA,ln,lc,lL⟩,ar,⟨bA,bn,bc,bL⟩⟩:=x
  have HON:=hide fun (n:Nat) (w':World)=>(show CallsIn Fence.wide n Tryz.prog 111 #[.agg #[.string nm,.slice rA rn rc,.slice oA on oc,.slice tA tm tc,.slice lA ln lc,.int .i64 ar,.slice bA bn bc],.int .i64 0] w' fun e w2=>e=.returned (.func (.func 145) #[] #[.pointer (some ⟨w'.heap.size,0,none⟩),.pointer (some ⟨w'.heap.size+1,0,none⟩)]) ∧
      w2=(w'.alloc (.cells #[.string nm,.slice rA rn rc,.slice oA on oc,.slice tA tm tc,.slice lA ln lc,.int .i64 ar,.slice bA bn bc] 28)).alloc (.cells #[.int .i64 0] 3) from onward_in n ⟨nm,⟨rA,rn,rc,rL⟩,⟨oA,on,oc,oL⟩,⟨tA,tm,tc,tL⟩,⟨lA,ln,lc,lL⟩,ar,⟨bA,bn,bc,bL⟩⟩ 0 w')
  have HB:=hide (below1 w (.cells #[.string nm,.slice rA rn rc,.slice oA on oc,.slice tA tm tc,.slice lA ln lc,.int .i64 ar,.slice bA bn bc] 28))
  have hws1:(w.alloc (.cells #[.string nm,.slice rA rn rc,.slice oA on oc,.slice tA tm tc,.slice lA ln lc,.int .i64 ar,.slice bA bn bc] 28)).heap.size=w.heap.size+1:=by simp
  have HW1:=hide hws1
  have HC7:=hide fun (w':World) (y:Below (w.alloc (.cells #[.string nm,.slice rA rn rc,.slice oA on oc,.slice tA tm tc,.slice lA ln lc,.int .i64 ar,.slice bA bn bc] 28)).heap.size (w.alloc (.cells #[.string nm,.slice rA rn rc,.slice oA on oc,.slice tA tm tc,.slice lA ln lc,.int .i64 ar,.slice bA bn bc] 28)) w')=>cells7 y
  have HBX:=hide (Bx.new w [.string nm,.slice rA rn rc,.slice oA on oc,.slice tA tm tc,.slice lA ln lc,.int .i64 ar,.slice bA bn bc] 28)
  obtain ⟨W1,hW1⟩:∃ W1,W1=(w.alloc (.cells #[.string nm,.slice rA rn rc,.slice oA on oc,.slice tA tm tc,.slice lA ln lc,.int .i64 ar,.slice bA bn bc] 28)):=⟨_,rfl⟩
  rw [←hW1] at HB HW1 HC7 HBX
  have ho1:(W1.alloc (.cells #[] 47)).ownsRow (w.heap.size+1) 47 2 (.slice (some ⟨w.heap.size+1,0,none⟩) 0 0) 0 []:=by
    have h:=own_new9 W1 47 2
    rw [HW1.out] at h
    exact h
  have b1:=below1 W1 (.cells #[] 47)
  have hs2:(W1.alloc (.cells #[] 47)).heap.size=w.heap.size+2:=by rw [World.size_alloc,HW1.out]
  have b2:=below1 (W1.alloc (.cells #[] 47)) (.cells #[.slice (some ⟨w.heap.size+1,0,none⟩) 0 0] 23)
  have e2:=Boxed.new (W1.alloc (.cells #[] 47)) 23 (.slice (some ⟨w.heap.size+1,0,none⟩) 0 0)
  rw [hs2] at e2
  have hs3:((W1.alloc (.cells #[] 47)).alloc (.cells #[.slice (some ⟨w.heap.size+1,0,none⟩) 0 0] 23)).heap.size=w.heap.size+3:=by rw [World.size_alloc,hs2]
  have ho2:=ownsRow_below ho1 b2
  obtain ⟨W2,hW2⟩:∃ W2,W2=(W1.alloc (.cells #[] 47)).alloc (.cells #[.slice (some ⟨w.heap.size+1,0,none⟩) 0 0] 23):=⟨_,rfl⟩
  have HB2:=hide (show Below W1.heap.size W1 W2 from hW2 ▸ b1.trans (b2.mono b1.size))
  rw [←hW2] at e2 hs3 ho2
  have HE2:=hide e2
  have HS3:=hide hs3
  have HO2:=hide ho2
  have HHW1:=hide hW1
  have HHW2:=hide hW2
  have c7:=HC7.out _ HB2.out
  obtain ⟨x0,x1,x2,x3,x4,x5,x6⟩:=c7
  clear b1 b2 e2 hs2 hs3 ho1 ho2 hW1 hW2 hws1 hbl hbn
  refine callsIn_of_wp_marks Tryz.func69 rfl trivial ?_ rfl
  simp only [Tryz.ntmps69,List.size_toArray,List.length_cons,List.length_nil,Nat.reduceAdd,Nat.reduceSub,Array.replicate_succ,Array.replicate_zero,List.push_toArray,List.append_toArray,List.nil_append,List.cons_append]
  gi_wp2_with fail
  rw [←HHW1.out]
  rw [←HHW2.out]
  refine ⟨trivial,(callsIn_wide.2 (HSS.out W2 (HB.out.trans (HB2.out.mono HB.out.size)))).mono ?_⟩
  rintro e w3 ⟨fA,fc,rfl,hown3,hb3⟩
  rw [HSL.out] at hown3 ⊢
  have hown3:w3.ownsRow (w.heap.size+1) 3 1 (.slice fA bn fc) bn ((stI BL bn).flatMap cInt):=ownsRow_base hown3 (by rw [HS3.out];omega)
  have HB3:=hide (HB2.out.trans (hb3.mono HB2.out.size))
  have hb4:=below1 w3 (.cells #[.slice fA bn fc] 34)
  have HB4:=hide (HB3.out.trans (hb4.mono HB3.out.size))
  have hE3:=(hb3.block _ HE2.out.lt).trans HE2.out
  have hE4:EdW (w.heap.size+1) (w.heap.size+2) w3.heap.size bn fc fA (stI BL bn) [] (w3.alloc (.cells #[.slice fA bn fc] 34)):=⟨⟨_,0,(hb4.block _ (Array.getElem?_eq_some_iff.1 hE3).1).trans hE3,ownsRow_below (ownsRow_below HO2.out hb3) hb4⟩,Boxed.new w3 34 _,ownsRow_below hown3 hb4⟩
  have hs4:(w3.alloc (.cells #[.slice fA bn fc] 34)).heap.size=w3.heap.size+1:=by simp
  have hs3:w.heap.size+3≤w3.heap.size:=by rw [←HS3.out];exact hb3.size
  have c7:=HC7.out _ HB4.out
  obtain ⟨x0,x1,x2,x3,x4,x5,x6⟩:=c7
  clear hb3 hE3 hown3
  gi_wp2_with (refine ⟨trivial,?_⟩;gi_at_call 111;refine (HON.out _ _).mono ?_;rintro e w4 ⟨rfl,rfl⟩)
  have b5:=below1 (w3.alloc (.cells #[.slice fA bn fc] 34)) (.cells #[.string nm,.slice rA rn rc,.slice oA on oc,.slice tA tm tc,.slice lA ln lc,.int .i64 ar,.slice bA bn bc] 28)
  have bC:=(Bx.new (w3.alloc (.cells #[.slice fA bn fc] 34)) [.string nm,.slice rA rn rc,.slice oA on oc,.slice tA tm tc,.slice lA ln lc,.int .i64 ar,.slice bA bn bc] 28).below (below1 _ (.cells #[.int .i64 0] 3))
  have bP:=Bx.new ((w3.alloc (.cells #[.slice fA bn fc] 34)).alloc (.cells #[.string nm,.slice rA rn rc,.slice oA on oc,.slice tA tm tc,.slice lA ln lc,.int .i64 ar,.slice bA bn bc] 28)) [.int .i64 0] 3
  have b6:=below1 ((w3.alloc (.cells #[.slice fA bn fc] 34)).alloc (.cells #[.string nm,.slice rA rn rc,.slice oA on oc,.slice tA tm tc,.slice lA ln lc,.int .i64 ar,.slice bA bn bc] 28)) (.cells #[.int .i64 0] 3)
  have hE6:=(hE4.below b5).below b6
  have hB6:=HB4.out.trans ((b5.trans (b6.mono b5.size)).mono HB4.out.size)
  have hsz:(((w3.alloc (.cells #[.slice fA bn fc] 34)).alloc (.cells #[.string nm,.slice rA rn rc,.slice oA on oc,.slice tA tm tc,.slice lA ln lc,.int .i64 ar,.slice bA bn bc] 28)).alloc (.cells #[.int .i64 0] 3)).heap.size=w3.heap.size+3:=by simp
  simp only [World.size_alloc] at bC bP
  obtain ⟨W0,hW0⟩:∃ W0,W0=((w3.alloc (.cells #[.slice fA bn fc] 34)).alloc (.cells #[.string nm,.slice rA rn rc,.slice oA on oc,.slice tA tm tc,.slice lA ln lc,.int .i64 ar,.slice bA bn bc] 28)).alloc (.cells #[.int .i64 0] 3):=⟨_,rfl⟩
  rw [←hW0] at bC bP hE6 hB6 hsz ⊢
  have HE6:=hide hE6
  have HB6:=hide hB6
  have HBB6:=hide (HB.out.trans (hB6.mono HB.out.size))
  have HXW:=hide (HX.out.below HBB6.out)
  clear hW0 hE6 hB6 hE4 b5 b6 hb4 x0 x1 x2 x3 x4 x5 x6 hs4
  obtain ⟨i0,hi,hz0,hz1,hz2⟩:=info_parts info9Pr
  have hW10:W1.heap.size≤W0.heap.size:=HB6.out.size
  refine wpIn_rangeFunc_ownH rfl (by omega) (gf:=145) (lb:=#[.pointer (some ⟨w3.heap.size+1,0,none⟩),.pointer (some ⟨w3.heap.size+1+1,0,none⟩)]) rfl trivial (enters_of Tryz.func145 (by kernel_rfl) rfl)
    (HSTOP.out _ (by omega) (w3.heap.size+1) (w3.heap.size+1+1) W0 bC bP HXW.out (by omega)) keepT_t (keepT_b (by omega)) (Below.refl _ _) (fun _=>rfl)
    (fun pre W=>(EdW (w.heap.size+1) (w.heap.size+1+1) w3.heap.size bn fc fA (stI BL bn) (edP BL pre) W∧w3.heap.size+3≤W.heap.size)∧Below W1.heap.size W1 W)
    (fun _ _ _=>False)
    (OwnFrom.and (Own.from (fun s X Y row hs hg hr=>⟨hs.1.own hg hr,Nat.le_trans hs.2 hg.size⟩) _) (ownFrom_below (Nat.le_refl _) hW10))
    (fun _ _ _ _ _ hs _ _=>hs)
    ⟨⟨HE6.out,by omega⟩,HB6.out⟩
    (fun s a' W=>∃ Bq,w3.heap.size+3≤Bq∧W.heap[Bq]?=some (.cells #[.int .i64 (s.1.1:Int),.int .i64 (s.1.2.1:Int),.int .i64 (s.1.2.2:Int)] 167 (0,0))∧a'={ tmps:=#[aggBd ⟨nm,⟨rA,rn,rc,rL⟩,⟨oA,on,oc,oL⟩,⟨tA,tm,tc,tL⟩,⟨lA,ln,lc,lL⟩,ar,⟨bA,bn,bc,bL⟩⟩,.pointer (some ⟨w.heap.size,0,none⟩),.slice none 0 0,.pointer (some ⟨w.heap.size+1+1,0,none⟩),.pointer (some ⟨w3.heap.size,0,none⟩),.pointer (some ⟨Bq,0,none⟩),undef,undef,.slice (some ⟨w.heap.size+1,0,none⟩) 0 0,.agg #[.string nm,.slice rA rn rc,.slice oA on oc,.slice tA tm tc,.slice lA ln lc,.int .i64 ar,.slice bA bn bc],.slice fA bn fc,.agg #[.string nm,.slice rA rn rc,.slice oA on oc,.slice tA tm tc,.slice lA ln lc,.int .i64 ar,.slice bA bn bc],.func (.func 145) #[] #[.pointer (some ⟨w3.heap.size+1,0,none⟩),.pointer (some ⟨w3.heap.size+1+1,0,none⟩)],aggSp s.1.1 s.1.2.1 s.1.2.2,undef,undef,undef,undef,undef,undef,undef,undef,undef,undef,undef,undef,undef,undef,undef,undef,undef,undef,undef,undef,undef,undef,undef,undef,undef,undef,undef,undef,undef,undef,undef],defers:=[] })
    (fun s a' _ X Y row hs hg hr=>by obtain ⟨Bq,h1,h2,h3⟩:=hs;exact ⟨Bq,h1,block_own11 h2 hg (fun r e=>(hr r e).2),h3⟩)
    ?assign ?body ?done ?stop
  case assign=>
    rintro l pre s W K ⟨⟨hE,hs⟩,hB⟩ hK
    obtain ⟨⟨sp,si,sk⟩,hok⟩:=s
    have hb:=below1 W (.cells #[.int .i64 (sp:Int),.int .i64 (si:Int),.int .i64 (sk:Int)] 167)
    have hKp:KeepT w.heap.size spTs W _:=KeepT.of_below hb (by omega)
    have HK:=hide hK
    clear hK
    dsimp only [spenc]
    gi_wp2
    exact HK.out _ _ ((KeepsOthers.alloc _ _).from _) hKp ⟨⟨hE.below hb,by rw [World.size_alloc];omega⟩,hB.trans (hb.mono hB.size)⟩ ⟨W.heap.size,hs,heap_alloc_new W _,rfl⟩
  case body=>
    rintro l pre s a' W hl hrr ⟨⟨hE,hs⟩,hB⟩ ⟨Bq,hBq,bX,rfl⟩ hlt
    have HUP:=hide (edP_up BL pre s)
    obtain ⟨⟨sp,si,sk⟩,hok⟩:=s
    obtain ⟨b,hb,hk,hpk⟩:=ptLoc_some hok
    have hcnt:=pt_lt hb hk
    rw [HCC.out] at hcnt
    have hlI:ptLocI BL (sp:Int)=some (si,sk):=by
      unfold ptLocI
      rw [if_neg (by omega),Int.toNat_natCast]
      exact hok
    have hlen:=edP_len BL pre
    rw [HCC.out] at hlen
    obtain ⟨L,hL⟩:∃ L,edP BL pre=L:=⟨_,rfl⟩
    rw [hL] at hlen hE HUP
    have hLm:L.length≤100000*100000:=Nat.le_trans hlen (Nat.mul_le_mul (by omega) hN)
    have HW1w:=hide (HB.out.trans (hB.mono HB.out.size))
    obtain ⟨x0,x1,x2,x3,x4,x5,x6⟩:=HC7.out _ hB
    have d0:=cell_of_heap bX 0
    have d1:=cell_of_heap bX 1
    have d2:=cell_of_heap bX 2
    have hBql:=(Array.getElem?_eq_some_iff.1 bX).1
    have HBXq:=hide (show Bx W Bq [.int .i64 (sp:Int),.int .i64 (si:Int),.int .i64 (sk:Int)] 167 from bX)
    have HE:=hide hE
    have HB1W:=hide hB
    have hsW:w.heap.size+1≤W.heap.size:=by omega
    clear hE hB bX hlen hL hrr
    by_cases hks:sk < b.stmts.length
    · have HV:=hide (next_stmt hlI hb hks)
      have HST1:=hide fun (w':World) (y:Below w.heap.size w w')=>HST.out w' sp si sk b hb y
      rw [decide_eq_true hks] at HST1
      have s1:IntKind.i64.wrap ((sp:Int)+1)=(sp:Int)+1:=wrapI9 _ (by omega) (by omega)
      clear hks hb hk hpk hlI hcnt
      gi_wp2_with fail
      refine ⟨trivial,(callsIn_wide.2 (HST1.out W HW1w.out)).mono ?_⟩
      rintro e w5 ⟨rfl,hb5⟩
      obtain ⟨A,c,hbx,hrow⟩:=(HE.out.below hb5).row
      have k0:=hbx.cell
      have hq5:=HBXq.out.below hb5
      have d0:=hq5.cell (j:=0) rfl
      have hba:=below1 w5 (.cells #[.int .i64 (sp:Int),.int .i64 ((sp:Int)+1)] 47)
      have HEa:=hide ((HE.out.below hb5).below hba)
      have HBa:=hide ((hba.block _ hbx.lt).trans hbx:Boxed _ _ _ _)
      have HOa:=hide (ownsRow_below hrow hba)
      have HBE:=hide (hb5.trans (hba.mono hb5.size))
      have hs5:W.heap.size≤w5.heap.size:=hb5.size
      clear x0 x1 x2 x3 x4 x5 x6 d1 d2 hbx hrow hq5 hba hb5
      gi_wp2_with (gi_at_builtin;refine wpListIn_append_own_at _ rfl _ _ 23 rfl (w.heap.size+1) 47 i0 (.agg #[.int .i64 0,.int .i64 0]) 2 16 Tryz.underlying23 hi hz0 hz1 hz2 rfl (by decide) _ L.length (L.flatMap pV) rfl HOa.out ⟨w5.heap.size,0,none⟩ 1 1 (pV ((sp:Int),((sp:Int)+1))) rfl rfl (World.news_of_block (heap_alloc_new w5 (.cells #[.int .i64 (sp:Int),.int .i64 ((sp:Int)+1)] 47))) (pV_one9 _) (by unfold maxLen;omega) (by omega) (by rw [World.size_alloc];omega) ?_;intro v6 w6 hown6 hg6 _ hat6;obtain ⟨A6,k6,rfl⟩:=own_slice9 hown6;obtain ⟨bx6,he6,hk6,hb6,ht6,hf6⟩:=EdW.step (n₀:=w.heap.size) (B:=W0.heap.size) HEa.out HBa.out HOa.out hown6 hg6 (by rw [World.size_alloc];omega) (show w.heap.size+1≤w.heap.size+1+1 by omega) (Nat.le_succ _);have q6:=bx6.cell;have f6:=bx6.frozen;have HE6:=hide he6;have HK6:=hide hk6;have HB6:=hide hb6;have HT6:=hide ht6;have HF6:=hide hf6;clear bx6 he6 hk6 hb6 ht6 hf6 hown6 hg6 hat6)
      have hsz6:W.heap.size≤(w6.setCell ⟨w.heap.size+1+1,0,none⟩ (.slice A6 (L.length+1) k6)).heap.size:=by
        have h1:=HB6.out.size
        rw [World.size_alloc] at h1
        omega
      exact ⟨(keepsFrom_below11 HBE.out).trans HF6.out,(KeepT.of_below HBE.out (by omega)).trans HT6.out,⟨by rw [HUP.out,HV.out];exact HE6.out,by omega⟩,HB1W.out.trans ((HBE.out.mono HB1W.out.size).trans (HB6.out.mono (Nat.le_of_eq HW1.out)))⟩
    · have HV:=hide (show nextI BL (sp:Int)=jmI BL bn b.term.targets from by rw [next_term hlI hb hks,show BL.length=bn from HBL.out])
      have HST1:=hide fun (w':World) (y:Below w.heap.size w w')=>HST.out w' sp si sk b hb y
      rw [decide_eq_false hks] at HST1
      have HJ1:=hide fun (w':World) (fA:Option Addr) (fc:Nat)=>HJ.out w' si b hb fA fc
      clear hks hb hk hpk hlI hcnt
      gi_wp2_with fail
      refine ⟨trivial,(callsIn_wide.2 (HST1.out W HW1w.out)).mono ?_⟩
      rintro e w5 ⟨rfl,hb5⟩
      have HE5:=hide (HE.out.below hb5)
      have HBX5:=hide (HBXq.out.below hb5)
      have d1:=HBX5.out.cell (j:=1) rfl
      have k1:=HE5.out.fb.cell
      have HB5:=hide hb5
      have hB5:=HB1W.out.trans (hb5.mono HB1W.out.size)
      have HB15:=hide hB5
      clear hb5 x0 x1 x2 x3 x4 x5 x6 d0 d2
      obtain ⟨x0,x1,x2,x3,x4,x5,x6⟩:=HC7.out _ hB5
      clear hB5
      gi_wp2_with fail
      refine ⟨trivial,(callsIn_wide.2 (HJ1.out w5 fA fc (HB.out.trans (HB15.out.mono HB.out.size)) (Cells.of_own cInt_len (by decide) HE5.out.fr))).mono ?_⟩
      rintro e w7 ⟨A8,c8,rfl,hown8,hb8⟩
      obtain ⟨K,hK⟩:∃ K,jmI BL bn b.term.targets=K:=⟨_,rfl⟩
      rw [hK] at hown8 HV ⊢
      have hKl:K.length≤100000:=by
        have:=next_len BL (sp:Int)
        rw [HV.out,HCC.out] at this
        omega
      obtain ⟨m,hm⟩:∃ m,K.length=m:=⟨_,rfl⟩
      have HML:=hide hm
      rw [hm] at hown8 hKl ⊢
      have HR7:=hide (ownsRow_base hown8 (Nat.zero_le _))
      have HE7:=hide (HE5.out.below hb8)
      have HBX7:=hide (HBX5.out.below hb8)
      have HB17:=hide (HB15.out.trans (hb8.mono HB15.out.size))
      have HBW7:=hide (HB5.out.trans (hb8.mono HB5.out.size))
      have HK7:=hide (KeepT.of_below (n₀:=w.heap.size) (Ts:=spTs) HBW7.out (by omega))
      have HF7:=hide (keepsFrom_below11 (B:=W0.heap.size) HBW7.out)
      have hs7:w3.heap.size+3≤w7.heap.size:=Nat.le_trans hs HBW7.out.size
      clear hm hown8 hb8 x0 x1 x2 x3 x4 x5 x6 d1 k1 hK
      gi_wp2
      gi_loopw [32] (fun v wr=>∃ q:Nat,v=.int .i64 (q:Int)∧q≤m∧Hid (EdW (w.heap.size+1) (w.heap.size+1+1) w3.heap.size bn fc fA (stI BL bn) (L++(K.take q).map fun z=>((sp:Int),z)) wr)∧Hid (wr.ownsRow 0 3 1 (.slice A8 m c8) m (K.flatMap cInt))∧Hid (Bx wr Bq [.int .i64 (sp:Int),.int .i64 (si:Int),.int .i64 (sk:Int)] 167)∧Hid (Below W1.heap.size W1 wr)∧Hid (KeepT w.heap.size spTs W wr)∧Hid (KeepsFrom W0.heap.size W wr)∧w3.heap.size+3≤wr.heap.size) (fun v _=>m - (intOf v).toNat)
      case atStart=>exact ⟨0,rfl,Nat.zero_le _,hide (by simpa using HE7.out),HR7,HBX7,HB17,HK7,HF7,hs7⟩
      case round=>
        clear HR7 HE7 HBX7 HB17 HBW7 HK7 HF7 hs7
        obtain ⟨q,rfl,hq,HEr,HRr,HBXr,HBr,HKr,HFr,hsr⟩:=hrel
        by_cases hlq:q < m
        · have hlq':(q:Int) < (m:Int):=by omega
          obtain ⟨z,hz⟩:∃ z,K[q]?=some z:=⟨_,List.getElem?_eq_getElem (by rw [HML.out];exact hlq)⟩
          obtain ⟨g,z',hgA,_,hgc⟩:=(Cells.of_own cInt_len (by decide) HRr.out).at_ hz
          subst hgA
          have c0:wr.cell? ⟨g,z'+q,none⟩=some (.int .i64 z):=by simpa using hgc 0 _ rfl
          have HTK:=hide (show (K.take (q+1)).map (fun z=>((sp:Int),z))=(K.take q).map (fun z=>((sp:Int),z))++[((sp:Int),z)] by rw [List.take_add_one,hz,List.map_append];rfl)
          have hml:(L++(K.take q).map fun z=>((sp:Int),z)).length≤100000*100000+100000:=by
            rw [List.length_append,List.length_map,List.length_take]
            omega
          obtain ⟨M,hM⟩:∃ M,(L++(K.take q).map fun z=>((sp:Int),z))=M:=⟨_,rfl⟩
          rw [hM] at HEr hml
          have HM:=hide hM
          obtain ⟨A,c,hbx,hrow⟩:=HEr.out.row
          have k0:=hbx.cell
          have d0:=HBXr.out.cell (j:=0) rfl
          have hba:=below1 wr (.cells #[.int .i64 (sp:Int),.int .i64 z] 47)
          have HEa:=hide (HEr.out.below hba)
          have HBa:=hide ((hba.block _ hbx.lt).trans hbx:Boxed _ _ _ _)
          have HOa:=hide (ownsRow_below hrow hba)
          have HBE:=hide hba
          clear hbx hrow hba hgc hz hM
          gi_wp2_with (gi_at_builtin;refine wpListIn_append_own_at _ rfl _ _ 23 rfl (w.heap.size+1) 47 i0 (.agg #[.int .i64 0,.int .i64 0]) 2 16 Tryz.underlying23 hi hz0 hz1 hz2 rfl (by decide) _ M.length (M.flatMap pV) rfl HOa.out ⟨wr.heap.size,0,none⟩ 1 1 (pV ((sp:Int),z)) rfl rfl (World.news_of_block (heap_alloc_new wr (.cells #[.int .i64 (sp:Int),.int .i64 z] 47))) (pV_one9 _) (by unfold maxLen;omega) (by omega) (by rw [World.size_alloc];omega) ?_;intro v6 w6 hown6 hg6 _ hat6;obtain ⟨A6,k6,rfl⟩:=own_slice9 hown6;obtain ⟨bx6,he6,hk6,hb6,ht6,hf6⟩:=EdW.step (n₀:=w.heap.size) (B:=W0.heap.size) HEa.out HBa.out HOa.out hown6 hg6 (by rw [World.size_alloc];omega) (show w.heap.size+1≤w.heap.size+1+1 by omega) (Nat.le_succ _);have q6:=bx6.cell;have f6:=bx6.frozen;have HE6:=hide he6;have HK6:=hide hk6;have HB6:=hide hb6;have HT6:=hide ht6;have HF6:=hide hf6;clear bx6 he6 hk6 hb6 ht6 hf6 hown6 hg6 hat6)
          have hsz6:wr.heap.size≤(w6.setCell ⟨w.heap.size+1+1,0,none⟩ (.slice A6 (M.length+1) k6)).heap.size:=by
            have h1:=HB6.out.size
            rw [World.size_alloc] at h1
            omega
          have HKK:=hide ((K2.of_below HBE.out).trans HK6.out)
          exact ⟨⟨q+1,by go_num,by omega,hide (by rw [HTK.out,← List.append_assoc,HM.out];exact HE6.out),hide (own_k2 HRr.out HKK.out (by decide) (by decide)),hide (HKK.out _ _ _ _ HBXr.out (by decide) (by decide)),hide (HBr.out.trans ((HBE.out.mono HBr.out.size).trans (HB6.out.mono (Nat.le_of_eq HW1.out)))),hide (HKr.out.trans ((KeepT.of_below HBE.out (by omega)).trans HT6.out)),hide (HFr.out.trans ((keepsFrom_below11 HBE.out).trans HF6.out)),by omega⟩,by simp [intOf];omega⟩
        · have hlq':¬(q:Int) < (m:Int):=by omega
          obtain rfl:m=q:=by omega
          have HTK:=hide (show K.take m=K from List.take_of_length_le (Nat.le_of_eq HML.out))
          gi_wp2
          exact ⟨by rw [←hsz];exact HFr.out,HKr.out,⟨by rw [HUP.out,HV.out];exact HTK.out ▸ HEr.out,hsr⟩,HBr.out⟩
  case done=>
    rintro D ys W hD hys ⟨⟨hE,hs⟩,hB⟩ hK
    have HV:=hide (show edP BL ys=edgesI BL from edP_all (by rw [HCC.out];exact hys))
    rw [HV.out] at hE
    obtain ⟨A,c,hbx,hrow⟩:=hE.row
    have k0:=hbx.cell
    have HRow:=hide hrow
    have HBF:=hide (HB.out.trans (hB.mono HB.out.size))
    have hDW:w.heap.size≤D:=by omega
    clear hE hbx hrow hys
    gi_wp2
    refine ⟨by simp,.inl ⟨_,_,rfl,run_takeDeferred hK,?_⟩⟩
    refine ⟨_,results_tmp rfl _ _ _,A,c,rfl,ownsRow_base (row_own11 HRow.out (grownBy_putObj' W D (.deferred none)) (fun r e=>by cases e;exact ⟨_,hK,rfl⟩)) (Nat.le_succ _),HBF.out.trans (belowK_b (w:=w) (Nat.le_refl _) W D _ _ hDW hK rfl rfl)⟩
  case stop=>
    rintro D cd pre W hD hpre h hK
    exact h.elim
end Go.Proofs.YteeemjmohjkdpaaGreatDoor
