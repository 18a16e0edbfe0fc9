/- Part 34 of the contracts and their mathematics. -/
import Derived.Test.YtfgacmgjpikgaaaGreatDoorQ27
set_option linter.unusedVariables false
set_option linter.unusedSimpArgs false
set_option maxRecDepth 100000
set_option maxHeartbeats 4000000
namespace Go.Proofs.YtfgacmgjpikgaaaGreatDoor
open Go.RowKit
theorem strK:Go.Maps.Keyed Tryz.prog 9:=Go.Maps.string_keyed Tryz.underlying9
theorem mapStr:Tryz.prog.underlying 110=some (.map 9 4):=Tryz.underlying110
def keyS (s:ByteArray):Lit:=.string s.data.toList
theorem keyOf_s {s:ByteArray} (h:s.size≤maxLen):keyOf Tryz.prog 9 (.string s)=some (keyS s):=Go.WideMaps.keyOf_string_mk Tryz.underlying9 h
theorem keyS_inj {s t:ByteArray} (h:keyS s=keyS t):s=t:=by
 unfold keyS at h
 injection h with h
 apply ByteArray.ext
 exact Array.ext' h
theorem keyS_key {s:ByteArray}:Go.WideAt.IsKeyLit (keyS s):=trivial
structure SeenB (b:Nat) (pre:List ByteArray) (w:World) (m:Nat) (Dm:DataW Unit):Prop where
 own:w.ownsMap (H:=Unit) Tryz.prog 9 (plainElem Tryz.prog 4) b m Dm
 le:m≤pre.length
 has:∀ s,Maps.has Dm (keyS s)=true↔s∈pre
 val:∀ s,s∈pre→∀ z,Dm.atKey (keyS s) z=.lit (.bool true)
def SeenM (b:Nat) (pre:List ByteArray) (w:World):Prop:=∃ m Dm,SeenB b pre w m Dm
section
variable {b:Nat} {pre:List ByteArray} {w w':World}
theorem SeenM.block (h:SeenM b pre w) (hb:w'.heap[b]?=w.heap[b]?):SeenM b pre w':=by
 obtain ⟨m,Dm,h1,h2,h3,h4⟩:=h
 exact ⟨m,Dm,owns_block h1 hb,h2,h3,h4⟩
theorem SeenM.lt (h:SeenM b pre w):b < w.heap.size:=by
 obtain ⟨m,Dm,h1,_⟩:=h
 exact owns_lt h1
theorem SeenM.made (w:World):SeenM w.heap.size [] (w.alloc (.map #[] 0)):=
 ⟨0,.map [],World.ownsMap_made (H:=Unit) w Tryz.prog 9 (plainElem Tryz.prog 4),Nat.le_refl _,(fun s=>by simp [Maps.has]),(fun s h=>by cases h)⟩
theorem SeenB.look {m:Nat} {Dm:DataW Unit} (h:SeenB b pre w m Dm) {s:ByteArray} (hs:s.size≤maxLen) {v:Bool} (hv0:hasB pre s=v) :
  (Instr.lookup 110 (.map (some b)) (.string s) false).run Tryz.prog w=.ok (.bool v) w:=by
 obtain ⟨u,ps,hrun,hv⟩:=h.own.lookup strK mapStr (zeroB w) (zd:=.lit (.bool false)) (zp:=[]) (plainElem_bool Tryz.underlying4 false) (keyOf_s hs)
 rw [hrun,← hv0]
 cases hh:Maps.has Dm (keyS s)
 ·
  rw [Maps.atKey_of_not_has hh] at hv
  obtain ⟨c,rfl,hc⟩:=plainElem_bool_inv Tryz.underlying4 hv
  injection hc with hc _
  injection hc with hc
  injection hc with hc
  have hn:s∉pre:=fun q=>by rw [(h.has s).2 q] at hh;cases hh
  rw [hasB_not.2 hn,hc]
 ·
  have hin:=(h.has s).1 hh
  rw [h.val s hin] at hv
  obtain ⟨c,rfl,hc⟩:=plainElem_bool_inv Tryz.underlying4 hv
  injection hc with hc _
  injection hc with hc
  injection hc with hc
  rw [hasB_iff.2 hin,hc]
theorem SeenB.put {m:Nat} {Dm:DataW Unit} (h:SeenB b pre w m Dm) {s:ByteArray} (hw:w'.ownsMap (H:=Unit) Tryz.prog 9 (plainElem Tryz.prog 4) b (m+1) (Dm.put (keyS s) (.lit (.bool true)))):SeenM b (pre++[s]) w':=by
 have hmap:Maps.IsMap Dm:=⟨_,(h.own.entries strK).choose_spec.1⟩
 refine ⟨m+1,_,hw,by have:=h.le;simp;omega,fun u=>?_,fun u hu z=>?_⟩
 ·
  by_cases hut:u=s
  ·
   subst hut
   rw [Maps.has_put_same hmap keyS_key]
   simp
  ·
   have hne:keyS u≠keyS s:=fun e=>hut (keyS_inj e)
   rw [Maps.has_put_other hne,h.has u]
   simp [hut]
 ·
  by_cases hut:u=s
  ·
   subst hut
   exact Maps.atKey_put_same hmap keyS_key _ z
  ·
   have hne:keyS u≠keyS s:=fun e=>hut (keyS_inj e)
   rcases List.mem_append.1 hu with hu | hu
   ·
    exact (Maps.atKey_put_other hne _ z).trans (h.val u hu z)
   ·
    exact absurd (by simpa using hu) hut
end
noncomputable def nmErr (pre:List ByteArray) (s:ByteArray):Int:=if identB s=false then 12 else if hasB pre s=true then 21 else 0
def NmOut (b:Nat) (pre:List ByteArray) (s:ByteArray) (v:Int) (w:World) (e:Ending) (w':World):Prop:=e=.returned (.int .i64 v)∧(v≠0→w=w')∧(v=0→SeenM b (pre++[s]) w'∧w.grownBy w' (some b))
theorem cName_is {b:Nat} {pre:List ByteArray} {s:ByteArray} {v:Int} {w:World} (h:SeenM b pre w) (hp:pre.length < maxLen) (hs:s.size≤maxLen) (hv:nmErr pre s=v) :
  Calls Tryz.prog 72 #[.map (some b),.string s] w (NmOut b pre s v w):=by
 obtain ⟨m,Dm,h⟩:=h
 have HS:=hide hs
 unfold nmErr at hv
 obtain ⟨bi,hid⟩:∃ z,identB s=z:=⟨_,rfl⟩
 have HID:=hide hid
 rw [hid] at hv
 cases bi
 ·
  obtain rfl:v=12:=hv.symm
  clear h hp hs hv hid
  go_enter Tryz.func72,Tryz.ntmps72
  go_wp2_with fail
  refine (IsIdent_is HID.out _ HS.out).mono ?_
  rintro e1 w1 ⟨rfl,rfl⟩
  go_wp2
  go_ret
  exact ⟨rfl,fun _=>rfl,fun e=>absurd e (by decide)⟩
 obtain ⟨bs,hbs⟩:∃ z,hasB pre s=z:=⟨_,rfl⟩
 have HL:=hide (h.look hs hbs)
 rw [hbs,if_neg (by simp)] at hv
 have HB:=hide h
 have hfew:m < maxLen:=Nat.lt_of_le_of_lt h.le hp
 cases bs
 ·
  obtain rfl:v=0:=hv.symm
  clear h hp hs hv hid hbs
  go_enter Tryz.func72,Tryz.ntmps72
  go_wp2_with fail
  refine (IsIdent_is HID.out _ HS.out).mono ?_
  rintro e1 w1 ⟨rfl,rfl⟩
  go_wp2_with (first | (at_lookup;refine wpList_look _ rfl _ _ _ false rfl _ _ _ rfl rfl HL.out ?_) | (at_mapUpdate;refine wpList_mapUpdate_own _ rfl _ _ _ 110 rfl 9 4 strK mapStr _ b m Dm rfl HB.out.own hfew _ _ (keyS s) rfl rfl (keyOf_s HS.out) (.lit (.bool true)) [] (plainElem_bool Tryz.underlying4 true) ?_;intro w3 hown3 hg3;have HO3:=hide hown3;have HG3:=hide hg3;clear hown3 hg3))
  go_ret
  exact ⟨rfl,fun e=>absurd rfl e,fun _=>⟨HB.out.put HO3.out,HG3.out⟩⟩
 ·
  obtain rfl:v=21:=hv.symm
  clear h hp hs hv hid hbs hfew
  go_enter Tryz.func72,Tryz.ntmps72
  go_wp2_with fail
  refine (IsIdent_is HID.out _ HS.out).mono ?_
  rintro e1 w1 ⟨rfl,rfl⟩
  go_wp2_with (first | (at_lookup;refine wpList_look _ rfl _ _ _ false rfl _ _ _ rfl rfl HL.out ?_))
  go_ret
  exact ⟨rfl,fun _=>rfl,fun e=>absurd e (by decide)⟩
theorem rgErr_nm {L:List ByteArray} {j:Nat} {s:ByteArray} (h:L[j]?=some s):rgErr (L.take j) (L.drop j)=if nmErr (L.take j) s≠0 then nmErr (L.take j) s else rgErr (L.take (j+1)) (L.drop (j+1)):=by
 rw [rgErr_at h]
 unfold nmErr
 cases identB s <;> cases hasB (L.take j) s <;> simp
theorem cRegs_is {x:SlW ByteArray} {v:Int} {w:World} (hx:Strs w w.heap.size x) (hv:(if 65535 < x.L.length then (15:Int) else rgErr [] x.L)=v) :
  Calls Tryz.prog 51 #[x.val] w fun e w'=>e=.returned (.int .i64 v)∧Below w.heap.size w w':=by
 have HX:=hide hx
 have hl:=hx.len
 have hm:=hx.nm
 unfold maxLen at hm
 obtain ⟨A,n,c,L⟩:=x
 have hl:L.length=n:=hl
 have hm:n≤2 ^ 63 - 1:=hm
 have hv9:(if 65535 < n then (15:Int) else rgErr [] L)=v:=by rw [←hv,← hl]
 clear hv hx
 show Calls Tryz.prog 51 #[.slice A n c] w _
 by_cases hb:65535 < n
 ·
  have tb:(65535:Int) < (n:Int):=by omega
  rw [if_pos hb] at hv9
  obtain rfl:v=15:=hv9.symm
  clear hb hv9 hl
  go_enter Tryz.func51,Tryz.ntmps51
  go_wp2
  go_ret
  exact ⟨rfl,Below.refl _ _⟩
 have tb:(n:Int)≤65535:=by omega
 rw [if_neg hb] at hv9
 have HV:=hide hv9
 have HLen:=hide hl
 have HM0:=hide (SeenM.made w)
 have HB0:=hide (below1 w (.map #[] 0))
 have hmm:=@run_makeMap Tryz.prog
 clear hb hv9 hl
 go_enter Tryz.func51,Tryz.ntmps51
 go_wp2
 go_loopw [13] (fun i wr=>∃ j:Nat,i=.int .i64 (j:Int)∧j≤n∧Hid (rgErr (L.take j) (L.drop j)=v)∧Hid (SeenM w.heap.size (L.take j) wr)∧Hid (Below w.heap.size w wr)) (fun i _=>n - (intOf i).toNat)
 case atStart=>exact ⟨0,rfl,Nat.zero_le _,hide HV.out,hide HM0.out,hide HB0.out⟩
 case round=>
  obtain ⟨j,rfl,hj,HE,HS,HB⟩:=hrel
  by_cases hlt:j < n
  ·
   have hlt':(j:Int) < (n:Int):=by omega
   obtain ⟨s,hs⟩:∃ p,L[j]?=some p:=⟨_,List.getElem?_eq_getElem (by have:L.length=n:=HLen.out;omega)⟩
   have hax:Strs wr w.heap.size ⟨A,n,c,L⟩:=SlH.below HX.out HB.out fun _ h=>h
   obtain ⟨b,o,hA,_,hsz,hc⟩:=hax.at_ hs
   have hA:A=some ⟨b,o,none⟩:=hA
   subst hA
   have cs:wr.cell? ⟨b,o+j,none⟩=some (.string s):=by have h1:=hc 0 _ rfl;rwa [Nat.mul_one] at h1
   have HN:=hide (rgErr_nm hs)
   obtain ⟨q,hq⟩:∃ q,nmErr (L.take j) s=q:=⟨_,rfl⟩
   have HQ:=hide hq
   have HC:=hide (cName_is HS.out (by rw [List.length_take];unfold maxLen;omega) hsz hq)
   have HT:=hide (take_up10 hs)
   clear hs hax hsz hc hq
   by_cases h0:q=0
   ·
    subst h0
    have HE2:=hide (show rgErr (L.take (j+1)) (L.drop (j+1))=v from by rw [←HE.out,HN.out,if_neg (by rw [HQ.out];simp)])
    go_wp2_with fail
    refine HC.out.mono ?_
    rintro e1 w1 ⟨rfl,_,hz⟩
    obtain ⟨hs2,hg2⟩:=hz rfl
    have HS2:=hide (show SeenM w.heap.size (L.take (j+1)) w1 from by rw [HT.out];exact hs2)
    have HB2:=hide (HB.out.grown hg2 HB.out.size (fun k e=>by injection e with e;omega))
    clear hz hs2 hg2
    go_wp2
    go_roundw
    case rel=>exact ⟨j+1,by go_num,by omega,hide HE2.out,hide HS2.out,hide HB2.out⟩
    case measure=>simp [intOf];omega
   ·
    have t0:(q != 0)=true:=by simp [h0]
    have HVc:=hide (show v=q from by rw [←HE.out,HN.out,HQ.out,if_pos h0])
    have HNE:=hide h0
    clear h0
    go_wp2_with fail
    refine HC.out.mono ?_
    rintro e1 w1 ⟨rfl,hz,_⟩
    obtain rfl:=hz HNE.out
    clear hz
    go_wp2
    go_ret
    exact ⟨congrArg (fun v=>Ending.returned (.int .i64 v)) HVc.out.symm,HB.out⟩
  ·
   obtain rfl:n=j:=by omega
   have HVc:=hide (show v=0 from by rw [←HE.out];exact rgErr_end (by have:L.length=n:=HLen.out;omega))
   go_wp2
   go_ret
   exact ⟨congrArg (fun v=>Ending.returned (.int .i64 v)) HVc.out.symm,HB.out⟩
theorem lcErr_nm {nt:Nat} {L:List LcV} {j:Nat} {x:LcV} (h:L[j]?=some x):lcErr nt ((L.take j).map LcV.name) (L.drop j)=if nmErr ((L.take j).map LcV.name) x.name≠0 then nmErr ((L.take j).map LcV.name) x.name else if tyIn x.ty (nt:Int)=false then 3 else lcErr nt ((L.take (j+1)).map LcV.name) (L.drop (j+1)):=by
 rw [lcErr_at h]
 unfold nmErr
 have hb:(x.ty < 0∨(nt:Int)≤x.ty)↔tyIn x.ty (nt:Int)=false:=by rw [tyIn_not];omega
 cases identB x.name
 ·
  simp
 ·
  cases hasB ((L.take j).map LcV.name) x.name
  ·
   simp only [hb,Bool.true_eq_false,Bool.false_eq_true,if_false,ne_eq,not_true_eq_false]
  ·
   simp
theorem cLocs_is {x:SlW LcW} {nt:Nat} {v:Int} {w:World} (hx:SlH w w.heap.size 2 cLc (fun y=>IntR y.ty∧y.name.size≤maxLen) x) (hnt:nt≤maxLen) (hv:(if 65535 < x.L.length then (15:Int) else lcErr nt [] (x.L.map LcW.v))=v) :
  Calls Tryz.prog 54 #[x.val,.int .i64 (nt:Int)] w fun e w'=>e=.returned (.int .i64 v)∧Below w.heap.size w w':=by
 have HX:=hide hx
 have hl:=hx.len
 have hm:=hx.nm
 unfold maxLen at hm hnt
 obtain ⟨A,n,c,L⟩:=x
 have hl:L.length=n:=hl
 have hm:n≤2 ^ 63 - 1:=hm
 have hv9:(if 65535 < n then (15:Int) else lcErr nt [] (L.map LcW.v))=v:=by rw [←hv,← hl]
 clear hv hx
 show Calls Tryz.prog 54 #[.slice A n c,.int .i64 (nt:Int)] w _
 by_cases hb:65535 < n
 ·
  have tb:(65535:Int) < (n:Int):=by omega
  rw [if_pos hb] at hv9
  obtain rfl:v=15:=hv9.symm
  clear hb hv9 hl
  go_enter Tryz.func54,Tryz.ntmps54
  go_wp2
  go_ret
  exact ⟨rfl,Below.refl _ _⟩
 have tb:(n:Int)≤65535:=by omega
 rw [if_neg hb] at hv9
 have HV:=hide hv9
 have HLen:=hide hl
 have HM0:=hide (SeenM.made w)
 have HB0:=hide (below1 w (.map #[] 0))
 have hmm:=@run_makeMap Tryz.prog
 clear hb hv9 hl
 go_enter Tryz.func54,Tryz.ntmps54
 go_wp2
 go_loopw [15] (fun i wr=>∃ j:Nat,i=.int .i64 (j:Int)∧j≤n∧Hid (lcErr nt (((L.map LcW.v).take j).map LcV.name) ((L.map LcW.v).drop j)=v)∧Hid (SeenM w.heap.size (((L.map LcW.v).take j).map LcV.name) wr)∧Hid (Below w.heap.size w wr)) (fun i _=>n - (intOf i).toNat)
 case atStart=>exact ⟨0,rfl,Nat.zero_le _,hide HV.out,hide HM0.out,hide HB0.out⟩
 case round=>
  obtain ⟨j,rfl,hj,HE,HS,HB⟩:=hrel
  by_cases hlt:j < n
  ·
   have hlt':(j:Int) < (n:Int):=by omega
   obtain ⟨⟨s,ty⟩,hs⟩:∃ p,L[j]?=some p:=⟨_,List.getElem?_eq_getElem (by have:L.length=n:=HLen.out;omega)⟩
   have hsv:(L.map LcW.v)[j]?=some ⟨s,ty⟩:=by rw [List.getElem?_map,hs];rfl
   have hax:SlH wr w.heap.size 2 cLc (fun y=>IntR y.ty∧y.name.size≤maxLen) ⟨A,n,c,L⟩:=SlH.below HX.out HB.out fun _ h=>h
   obtain ⟨b,o,hA,_,hsz,hc⟩:=hax.at_ hs
   have hA:A=some ⟨b,o,none⟩:=hA
   subst hA
   have cs0:wr.cell? ⟨b,o+j*2,none⟩=some (.string s):=hc 0 _ rfl
   have cs1:wr.cell? ⟨b,o+j*2+1,none⟩=some (.int .i64 ty):=hc 1 _ rfl
   have HN:=hide (lcErr_nm (nt:=nt) hsv)
   obtain ⟨q,hq⟩:∃ q,nmErr (((L.map LcW.v).take j).map LcV.name) s=q:=⟨_,rfl⟩
   have HQ:=hide hq
   have hbx:=(Below.refl wr.heap.size wr).alloc (Nat.le_refl _) (.cells #[.string s,.int .i64 ty] 64)
   have HBX:=hide hbx
   have HS1:=hide (HS.out.block (hbx.block _ HS.out.lt))
   have HLT:=hide HS.out.lt
   have HC:=hide (cName_is HS1.out (by rw [List.length_map,List.length_take,List.length_map];unfold maxLen;omega) hsz.2 hq)
   have HT:=hide (show ((L.map LcW.v).take (j+1)).map LcV.name=((L.map LcW.v).take j).map LcV.name++[s] from by rw [take_up10 hsv,List.map_append];rfl)
   clear hs hsv hax hsz hc hq hbx
   by_cases h0:q=0
   ·
    subst h0
    obtain ⟨ti,hti⟩:∃ z,tyIn ty (nt:Int)=z:=⟨_,rfl⟩
    have HTI:=hide hti
    cases ti
    ·
     have HVc:=hide (show v=3 from by rw [←HE.out,HN.out,if_neg (by rw [HQ.out];simp),if_pos HTI.out])
     clear hti
     go_wp2_with fail
     refine HC.out.mono ?_
     rintro e1 w1 ⟨rfl,_,hz⟩
     obtain ⟨hs2,hg2⟩:=hz rfl
     have hB2:=((HB.out.trans (HBX.out.mono HB.out.size)).grown hg2 (Nat.le_trans HB.out.size HBX.out.size) (fun k e=>by injection e with e;omega))
     have HB2:=hide hB2
     have x1:w1.cell? ⟨wr.heap.size,1,none⟩=some (.int .i64 ty):=hg2.cell (show (wr.alloc (.cells #[.string s,.int .i64 ty] 64)).cell? ⟨wr.heap.size,1,none⟩=some (.int .i64 ty) from cell_of_heap (heap_alloc_new wr _) 1) (fun e=>by injection e with e;have h9:=HLT.out;have e2:wr.heap.size=w.heap.size:=e;omega)
     clear hz hs2 hg2 hB2
     go_wp2_with fail
     refine (vwithin_is HTI.out _).mono ?_
     rintro e2 w2 ⟨rfl,rfl⟩
     go_wp2
     go_ret
     exact ⟨congrArg (fun v=>Ending.returned (.int .i64 v)) HVc.out.symm,HB2.out⟩
    ·
     have HE2:=hide (show lcErr nt (((L.map LcW.v).take (j+1)).map LcV.name) ((L.map LcW.v).drop (j+1))=v from by rw [←HE.out,HN.out,if_neg (by rw [HQ.out];simp),if_neg (by rw [HTI.out];simp)])
     clear hti
     go_wp2_with fail
     refine HC.out.mono ?_
     rintro e1 w1 ⟨rfl,_,hz⟩
     obtain ⟨hs2,hg2⟩:=hz rfl
     have HS2:=hide (show SeenM w.heap.size (((L.map LcW.v).take (j+1)).map LcV.name) w1 from by rw [HT.out];exact hs2)
     have HB2:=hide ((HB.out.trans (HBX.out.mono HB.out.size)).grown hg2 (Nat.le_trans HB.out.size HBX.out.size) (fun k e=>by injection e with e;omega))
     have x1:w1.cell? ⟨wr.heap.size,1,none⟩=some (.int .i64 ty):=hg2.cell (show (wr.alloc (.cells #[.string s,.int .i64 ty] 64)).cell? ⟨wr.heap.size,1,none⟩=some (.int .i64 ty) from cell_of_heap (heap_alloc_new wr _) 1) (fun e=>by injection e with e;have h9:=HLT.out;have e2:wr.heap.size=w.heap.size:=e;omega)
     clear hz hs2 hg2
     go_wp2_with fail
     refine (vwithin_is HTI.out _).mono ?_
     rintro e2 w2 ⟨rfl,rfl⟩
     go_wp2
     go_roundw
     case rel=>exact ⟨j+1,by go_num,by omega,hide HE2.out,hide HS2.out,hide HB2.out⟩
     case measure=>simp [intOf];omega
   ·
    have t0:(q != 0)=true:=by simp [h0]
    have HVc:=hide (show v=q from by rw [←HE.out,HN.out,HQ.out,if_pos h0])
    have HNE:=hide h0
    clear h0
    go_wp2_with fail
    refine HC.out.mono ?_
    rintro e1 w1 ⟨rfl,hz,_⟩
    obtain rfl:=hz HNE.out
    clear hz
    go_wp2
    go_ret
    exact ⟨congrArg (fun v=>Ending.returned (.int .i64 v)) HVc.out.symm,HB.out.trans (HBX.out.mono HB.out.size)⟩
  ·
   obtain rfl:n=j:=by omega
   have HVc:=hide (show v=0 from by rw [←HE.out];exact lcErr_end (by rw [List.length_map];have:L.length=n:=HLen.out;omega))
   go_wp2
   go_ret
   exact ⟨congrArg (fun v=>Ending.returned (.int .i64 v)) HVc.out.symm,HB.out⟩
theorem checkFields_is {x:TyW} {er rg v:Int} (h:tyOwn x.t er rg=v) (w:World) (hx:OneT w w.heap.size x) :
  Calls Tryz.prog 75 #[aggT x,.int .i64 er,.int .i64 rg] w fun e w'=>e=.returned (.int .i64 v)∧Below w.heap.size w w':=h ▸ checkFields_any x er rg w hx
structure ChkS (b n:Nat) (pre:List Ty) (w:World):Prop where
 box:w.cell? ⟨b+1,0,none⟩=some (.slice (some ⟨b,0,none⟩) n n)
 d:ChkD b n pre w
 m:ChkM (b+2) pre w
 sz:b+3≤w.heap.size
theorem ChkS.below {b n:Nat} {pre:List Ty} {w w':World} (h:ChkS b n pre w) (hb:Below w.heap.size w w'):ChkS b n pre w':=
 ⟨(hb.cell (p:=⟨b+1,0,none⟩) (by have:=h.sz;simp;omega)).trans h.box,h.d.block (hb.block _ (by have:=h.sz;omega)),h.m.block (hb.block _ (by have:=h.sz;omega)),Nat.le_trans h.sz hb.size⟩
def ChkR (L:List TyW) (rg:Int) (w:World) (n k:Nat) (wr:World):Prop:=
 tyChk (tys L) rg=tyChkR rg ((tys L).take k) ((tys L).drop k)∧TyOk ((tys L).take k) rg∧ChkS w.heap.size n ((tys L).take k) wr∧Below w.heap.size w wr
theorem tyDeps_bd {l:List Ty} {r:Int} (h:TyOk l r):∀ v∈tyDeps l,0≤v∧v≤65535:=fun v hv=>by
 obtain ⟨j,hj⟩:=List.getElem?_of_mem hv
 have:=tyDep_bd h (j:Int)
 unfold tyDep at this
 rw [Int.toNat_natCast,List.getD_eq_getElem?_getD,hj] at this
 exact this
theorem TyOk.b {l:List Ty} {r:Int} (h:TyOk l r) (hr:∀ t∈l,IntR t.kind∧IntR t.region∧IntR t.elem):∀ t∈l,TyB t:=fun t ht=>by
 obtain ⟨j,hj⟩:=List.getElem?_of_mem ht
 have ho:=h.own hj
 obtain ⟨h1,h2,h3⟩:=hr t ht
 have hjl:=(List.getElem?_eq_some_iff.1 hj).1
 have hl:=h.len
 by_cases h4:t.kind=4
 ·
  refine ⟨h1,h2,h3,(ho.2.2.2.2.2 h4).2,fun f hf=>?_⟩
  have:=ho.2.2.2.2.1 f (by rw [tyParts_tup h4];exact hf)
  omega
 ·
  have hf:=ho.2.2.1 h4
  exact ⟨h1,h2,h3,by rw [hf];simp,fun f h=>by rw [hf] at h;cases h⟩
theorem TyOk.snoc {l:List Ty} {r:Int} (h:TyOk l r) {t:Ty} (hl:l.length < 65535) (he:tyErr l t r=0):TyOk (l++[t]) r:=by
 refine ⟨by simp;omega,fun j u hu=>?_⟩
 rcases Nat.lt_or_ge j l.length with hj | hj
 ·
  rw [List.getElem?_append_left hj] at hu
  rw [List.take_append_of_le_length (by omega)]
  exact h.err j u hu
 ·
  have hj2:j < (l++[t]).length:=(List.getElem?_eq_some_iff.1 hu).1
  simp only [List.length_append,List.length_singleton] at hj2
  obtain rfl:j=l.length:=by omega
  rw [List.getElem?_append_right (Nat.le_refl _),Nat.sub_self] at hu
  obtain rfl:t=u:=by simpa using hu
  rw [List.take_left]
  exact he
theorem Check_big (A:Option Addr) (n c:Nat) (rg:Int) (w:World) (hn:65535 < n) (hm:n≤maxLen) :
  Calls Tryz.prog 53 #[.slice A n c,.int .i64 rg] w fun e w'=>e=.returned (.int .i64 15)∧Below w.heap.size w w':=by
 have hn':(65535:Int) < (n:Int):=by omega
 unfold maxLen at hm
 go_enter Tryz.func53,Tryz.ntmps53
 go_wp2
 go_ret
 exact ⟨rfl,Below.refl _ _⟩
theorem Check_small (A:Option Addr) (n c:Nat) (L:List TyW) (rg:Int) (w:World) (hA:Typs w w.heap.size A n L) (hn:n≤65535) :
    Calls Tryz.prog 53 #[.slice A n c,.int .i64 rg] w fun e w'=>e=.returned (.int .i64 (tyChk (tys L) rg))∧Below w.heap.size w w':=by
  obtain ⟨i0,hi,hz0,hz1,hz2⟩:=info_parts infoInt
  have HA:=hide hA
  have HL:=hide hA.len
  have hn':¬(65535:Int) < (n:Int):=by omega
  have hmm:=@run_makeMap Tryz.prog
  have HB0:Hid (Below w.heap.size w (((w.alloc (.cells (madeCells #[.int .i64 0] n) 3)).alloc (.cells #[.slice (some ⟨w.heap.size,0,none⟩) n n] 48)).alloc (.map #[] 0))):=(((Below.refl _ _).alloc (Nat.le_refl _) _).alloc (by simp) _).alloc (by simp;omega) _
  have HR0:Hid (ChkR L rg w n 0 (((w.alloc (.cells (madeCells #[.int .i64 0] n) 3)).alloc (.cells #[.slice (some ⟨w.heap.size,0,none⟩) n n] 48)).alloc (.map #[] 0))):=by
    refine ⟨tyChk_at (by rw [tys_len,hA.len];exact hn) rg,⟨by simp,fun j t h=>by simp at h⟩,⟨by simp [go_sem],⟨fun j v h=>by simp [tyDeps,tyTab] at h,fun j _ hj=>⟨0,?_⟩,fun j=>by simp [go_sem]⟩,?_,by simp⟩,HB0.out⟩
    · rw [World.cell?_alloc_lt _ _ _ (by simp;omega),World.cell?_alloc_lt _ _ _ (by simp)]
      exact made_cell w n 3 hj
    · refine ⟨0,.map [],?_,Nat.le_refl _,fun t _=>?_,fun t h=>by simp [Maps.has] at h⟩
      · have h0:=World.ownsMap_made (H:=Unit) ((w.alloc (.cells (madeCells #[.int .i64 0] n) 3)).alloc (.cells #[.slice (some ⟨w.heap.size,0,none⟩) n n] 48)) Tryz.prog 118 (plainElem Tryz.prog 4)
        simp only [World.size_alloc] at h0
        exact h0
      · simp [Maps.has]
  clear hA
  go_enter Tryz.func53,Tryz.ntmps53
  go_wp2_with (refine wpList_make_row _ rfl _ _ 48 rfl 3 i0 _ Tryz.underlying48 hi hz0 hz1 rfl .i64 .i64 n rfl rfl (by rw [hz2];omega) (by omega) ?_)
  go_loopw [20] (fun i wr=>∃ k:Nat,i=.int .i64 (k:Int)∧k≤n∧Hid (ChkR L rg w n k wr)) (fun i _=>n - (intOf i).toNat)
  case atStart=>exact ⟨0,rfl,Nat.zero_le _,HR0.out⟩
  case round=>
    obtain ⟨k,rfl,hk,HR⟩:=hrel
    by_cases hlt:k < n
    · have hlt':(k:Int) < (n:Int):=by omega
      have hex:∃ a,L[k]?=some a:=⟨_,List.getElem?_eq_getElem (by have:=HL.out;omega)⟩
      obtain ⟨x,hx⟩:=hex
      obtain ⟨g,o,rfl,hgB,h1,c0,c1,c2,c3,c4⟩:=(HA.out.below HR.out.2.2.2).at_ hx
      have hszw:=HR.out.2.2.2.size
      have hbx:Below wr.heap.size wr (wr.alloc (.cells (c5 x).toArray 62)):=(Below.refl _ _).alloc (Nat.le_refl _) _
      have HX:=hide (((h1.more hszw).below hbx).more (B':=(wr.alloc (.cells (c5 x).toArray 62)).heap.size) (by simp))
      have HBX:=hide (HR.out.2.2.2.alloc hszw (.cells (c5 x).toArray 62))
      have hat:=tys_at hx
      have hstep:=tyChkR_at (r:=rg) hat
      have hpl:((tys L).take k).length=k:=by rw [List.length_take,tys_len];have:=HL.out;omega
      have hex:∃ v,tyOwn x.t (k:Int) rg=v:=⟨_,rfl⟩
      obtain ⟨v,hv⟩:=hex
      have HV:=hide hv
      by_cases hv0:v=0
      · subst hv0
        have hpr:=(tyOwn_zero.1 hv).2.2.2.2.1
        have hex:∃ b,b=w.heap.size:=⟨_,rfl⟩
        obtain ⟨b,hb⟩:=hex
        have hex:∃ pre,pre=(tys L).take k:=⟨_,rfl⟩
        obtain ⟨pre,hpre⟩:=hex
        have hex:∃ dk,dk=tyDpt (tyDeps pre) x.t:=⟨_,rfl⟩
        obtain ⟨dk,hdk⟩:=hex
        have HDK:=hide hdk
        have hplk:pre.length=k:=by rw [hpre];exact hpl
        have HPL:=hide hplk
        have HPRE:=hide hpre
        have hok:TyOk pre rg:=by rw [hpre];exact HR.out.2.1
        have hst:ChkS b n pre wr:=by rw [hpre,hb];exact HR.out.2.2.1
        have hone:OneT wr b x:=by rw [hb];exact h1
        have HOK:=hide hok
        have hbw:b+3≤wr.heap.size:=hst.sz
        have hS1:=hst.below hbx
        have HS1:=hide hS1
        have HON:=hide (hone.below (hbx.mono (Nat.le_trans (Nat.le_add_right _ _) hbw)))
        have HAT:=hide hat
        have HX':=hide hx
        have HSTEP:=hide hstep
        have HPR:=hide hpr
        clear hx h1 hbx hat hstep hpl hv hpr hdk hpre hok hst hone hS1 hplk
        go_wp2_with fail
        refine (checkFields_is HV.out _ HX.out).mono ?_
        rintro e w1 ⟨rfl,hb1⟩
        have HB1:=hide hb1
        have hst1:=HS1.out.below hb1
        have HST1:=hide hst1
        have HD1:=hide hst1.d
        have l8:wr.heap.size < (wr.alloc (.cells (c5 x).toArray 62)).heap.size:=by simp
        have f0:w1.cell? ⟨wr.heap.size,0,none⟩=some (.int .i64 x.t.kind):=(hb1.cell (p:=⟨wr.heap.size,0,none⟩) l8).trans (by simp [go_sem,c5])
        have f1:w1.cell? ⟨wr.heap.size,1,none⟩=some (.bool x.t.mut_):=(hb1.cell (p:=⟨wr.heap.size,1,none⟩) l8).trans (by simp [go_sem,c5])
        have f2:w1.cell? ⟨wr.heap.size,2,none⟩=some (.int .i64 x.t.region):=(hb1.cell (p:=⟨wr.heap.size,2,none⟩) l8).trans (by simp [go_sem,c5])
        have f3:w1.cell? ⟨wr.heap.size,3,none⟩=some (.int .i64 x.t.elem):=(hb1.cell (p:=⟨wr.heap.size,3,none⟩) l8).trans (by simp [go_sem,c5])
        have f4:w1.cell? ⟨wr.heap.size,4,none⟩=some (.slice x.A x.n x.c):=(hb1.cell (p:=⟨wr.heap.size,4,none⟩) l8).trans (by simp [go_sem,c5])
        have l81:wr.heap.size < w1.heap.size:=Nat.lt_of_lt_of_le l8 hb1.size
        have q5:w1.cell? ⟨b+1,0,none⟩=some (.slice (some ⟨b,0,none⟩) n n):=hst1.box
        have hon1:OneT w1 b x:=HON.out.below (hb1.mono (by simp;omega))
        have hS:=hide fun (w':World) (ht:Turn (fun q=>q=b) w1 w') (hd:ChkD b n pre w')=>(⟨ht,hd,(ht.cell (p:=⟨b+1,0,none⟩) (by show b+1 < _;omega) (by show ¬b+1=b;omega)).trans q5,
          (ht.cell (p:=⟨wr.heap.size,0,none⟩) l81 (by show ¬wr.heap.size=b;omega)).trans f0,(ht.cell (p:=⟨wr.heap.size,1,none⟩) l81 (by show ¬wr.heap.size=b;omega)).trans f1,(ht.cell (p:=⟨wr.heap.size,2,none⟩) l81 (by show ¬wr.heap.size=b;omega)).trans f2,
          (ht.cell (p:=⟨wr.heap.size,3,none⟩) l81 (by show ¬wr.heap.size=b;omega)).trans f3,(ht.cell (p:=⟨wr.heap.size,4,none⟩) l81 (by show ¬wr.heap.size=b;omega)).trans f4⟩ :
          Turn (fun q=>q=b) w1 w'∧ChkD b n pre w'∧w'.cell? ⟨b+1,0,none⟩=some (.slice (some ⟨b,0,none⟩) n n)∧w'.cell? ⟨wr.heap.size,0,none⟩=some (.int .i64 x.t.kind)∧w'.cell? ⟨wr.heap.size,1,none⟩=some (.bool x.t.mut_) ∧
          w'.cell? ⟨wr.heap.size,2,none⟩=some (.int .i64 x.t.region)∧w'.cell? ⟨wr.heap.size,3,none⟩=some (.int .i64 x.t.elem)∧w'.cell? ⟨wr.heap.size,4,none⟩=some (.slice x.A x.n x.c))
        have HC:=hide fun (w':World) (ht:Turn (fun q=>q=b) w1 w') (hd:ChkD b n pre w')=>
          depthC x w' ((hon1.below (ht.below (B:=b) (by omega) fun q hq=>by omega)).more (by have:=ht.size;omega)) (b+1) b n n (tyDeps pre) ((ht.cell (p:=⟨b+1,0,none⟩) (by show b+1 < _;omega) (by show ¬b+1=b;omega)).trans q5) hd.dep (by have:=ht.size;omega) (by have:=ht.size;omega)
            (fun p hp=>by have:=HPR.out p hp;have hl:(tyDeps pre).length=pre.length:=tyTab_len _ _;have:=HPL.out;omega) (by have hl:(tyDeps pre).length=pre.length:=tyTab_len _ _;have:=HPL.out;omega) hn (tyDeps_bd HOK.out)
        rw [←HDK.out] at HC
        have HBB:=hide hb
        rw [←hb]
        have HON1:=hide hon1
        have HB1':=hide (Below.trans (HBX.out.mono (B':=b) (by omega)) (hb1.mono (by simp;omega)))
        clear hst1 hb1 l8 hon1 hb
        go_wp2_with fail
        go_region_held3 (fun w'=>Turn (fun q=>q=b) w1 w'∧ChkD b n pre w'∧w'.cell? ⟨b+1,0,none⟩=some (.slice (some ⟨b,0,none⟩) n n)∧w'.cell? ⟨wr.heap.size,0,none⟩=some (.int .i64 x.t.kind)∧w'.cell? ⟨wr.heap.size,1,none⟩=some (.bool x.t.mut_) ∧
            w'.cell? ⟨wr.heap.size,2,none⟩=some (.int .i64 x.t.region)∧w'.cell? ⟨wr.heap.size,3,none⟩=some (.int .i64 x.t.elem)∧w'.cell? ⟨wr.heap.size,4,none⟩=some (.slice x.A x.n x.c))
          (first | exact hS.out _ (Turn.refl _ _).drew (HD1.out.block rfl) | exact hS.out _ ht3 hd3 | exact hS.out _ (ht3.setCell (.inl rfl) _) (hd3.again HPL.out _))
          ((go_at_call 76;go_split_ands;have hta:=(by assumption:Turn (fun q=>q=b) w1 _);have hda:=(by assumption:ChkD b n pre _);refine (HC.out _ hta hda).mono ?_;rintro e w3 ⟨rfl,hb3⟩;have ht3:=hta.trans (Turn.of_below hb3);have hd3:=hda.block (hb3.block b (by have:=hta.size;omega));have hd4:=hide hd3;have hex:=hd3.rest k (by have:=HPL.out;omega) hlt;obtain ⟨u3,hu3⟩:=hex;have hz3:=hd3.fz k))
        all_goals
          have hs4:=hS.out _ (ht3.setCell (a:=⟨b,k,none⟩) (.inl rfl) (.int .i64 dk)) (hd4.out.again HPL.out dk)
          obtain ⟨t4,_,r5,r0,r1,r2,r3,r4⟩:=hs4
          have rk:(w3.setCell ⟨b,k,none⟩ (.int .i64 dk)).cell? ⟨b,k,none⟩=some (.int .i64 dk):=World.cell?_setCell_same _ _ _ hu3
          have hd5:=hd4.out.set (t:=x.t) (by have:=HPL.out;omega)
          rw [HPL.out,← HDK.out] at hd5
          have HD5:=hide hd5
          have l84:wr.heap.size < (w3.setCell ⟨b,k,none⟩ (.int .i64 dk)).heap.size:=Nat.lt_of_lt_of_le l81 t4.size
          have HM5:=hide (HST1.out.m.block (t4.block (b+2) (by omega) (by show ¬b+2=b;omega)))
          have HON5:=hide ((HON1.out.below (t4.below (B:=b) (by omega) fun q hq=>by omega)).more (B':=(w3.setCell ⟨b,k,none⟩ (.int .i64 dk)).heap.size) (by omega))
          have HB5:=hide (HB1'.out.trans (t4.below (B:=b) (by omega) fun q hq=>by omega))
          clear hd5 t4 hu3 hz3 ht3 hd3 hta hda hS HC hb3 f0 f1 f2 f3 f4 q5
          generalize w3.setCell ⟨b,k,none⟩ (.int .i64 dk)=w4 at *
          have HB5w:Hid (Below w.heap.size w w4):=by show Below w.heap.size w w4;rw [←HBB.out];exact HB5.out
          by_cases h32:32 < dk
          · have HF := hide (show tyChk (tys L) rg = 19 from by
              have he:tyErr pre x.t rg=19:=by
                unfold tyErr
                rw [HPL.out,if_neg (by rw [HV.out];simp),← HDK.out,if_pos h32]
              rw [HR.out.1,HSTEP.out,← HPRE.out,he,if_neg (by decide)])
            go_wp2_with fail
            go_ret
            exact ⟨ret_n HF.out,HB5w.out⟩
          · have htb : TyB x.t := by
              have ho:=tyOwn_zero.1 HV.out
              have hk1:=(HA.out.one x (List.mem_of_getElem? HX'.out)).ok
              by_cases h4:x.t.kind=4
              · exact ⟨hk1.k,hk1.r,hk1.e,(ho.2.2.2.2.2 h4).2,fun f hf=>by have:=ho.2.2.2.2.1 f (by rw [tyParts_tup h4];exact hf);omega⟩
              · have hf:=ho.2.2.1 h4
                exact ⟨hk1.k,hk1.r,hk1.e,by rw [hf];simp,fun f h=>by rw [hf] at h;cases h⟩
            have HTB:=hide htb
            have hxn:x.n≤65535:=by rw [←HON5.out.ok.len];exact htb.n
            have R5:=hide r5
            have L84:=hide l84
            have HBW:=hide hbw
            clear htb hn'
            go_wp2_with fail
            clear r0 r1 r2 r3 r4 r5 rk
            refine (keyOf_any x w4 HON5.out HTB.out.f hxn).mono ?_
            rintro e w5 ⟨rfl,hb5⟩
            have HB6:=hide (hb5.trans ((Below.refl w5.heap.size w5).alloc (Nat.le_refl _) (.cells #[.int .i64 x.t.kind,.int .i64 x.t.region,.int .i64 x.t.elem,.bool x.t.mut_,.string (strOfNums (kb x.t.fields))] 118) |>.mono hb5.size))
            have hm6:=HM5.out.block (HB6.out.block (b+2) (by omega))
            have HM6:=hide hm6
            have hrun:=hm6.look HTB.out
            have HB6w:=hide (HB5w.out.trans (HB6.out.mono (by have:=HB5.out.size;have:=HBB.out;omega)))
            by_cases hmem:x.t∈pre
            · have HF := hide (show tyChk (tys L) rg = 21 from by
                have he:tyErr pre x.t rg=21:=by
                  unfold tyErr
                  rw [HPL.out,if_neg (by rw [HV.out];simp),← HDK.out,if_neg (show ¬32 < dk by omega),if_pos hmem]
                rw [HR.out.1,HSTEP.out,← HPRE.out,he,if_neg (by decide)])
              rw [decide_eq_true hmem] at hrun
              have HRUN:=hide hrun
              clear hrun hm6 hmem hb5
              go_wp2_with (at_lookup;refine wpList_look _ rfl _ _ _ false rfl _ _ _ rfl rfl HRUN.out ?_)
              go_ret
              exact ⟨ret_n HF.out,HB6w.out⟩
            · have he : tyErr pre x.t rg = 0 := by
                unfold tyErr
                rw [HPL.out,if_neg (by rw [HV.out];simp),← HDK.out,if_neg (show ¬32 < dk by omega),if_neg hmem]
              have HE:=hide he
              rw [decide_eq_false hmem] at hrun
              have HRUN:=hide hrun
              obtain ⟨m,Dm,o1,o2,o3,o4⟩:=hm6
              have HO1:=hide o1
              have HO3:=hide o3
              have HO4:=hide o4
              have hm7:m < maxLen:=by have:=HPL.out;unfold maxLen;omega
              clear hrun hmem he o1 o3 o4 hb5
              go_wp2_with (first
                | (at_lookup;refine wpList_look _ rfl _ _ _ false rfl _ _ _ rfl rfl HRUN.out ?_)
                | (at_mapUpdate;refine wpList_mapUpdate_own _ rfl _ _ _ 113 rfl 118 4 seen_law mapKey _ (b+2) m Dm rfl HO1.out hm7 _ _ (keyL x.t) rfl rfl HTB.out.key (.lit (.bool true)) [] (plainElem_bool Tryz.underlying4 true) ?_;intro w7 hown7 hg7;have HO7:=hide hown7;have HG7:=hide hg7;clear hown7 hg7))
              have ht7:Turn (fun q=>q=b+2) w4 w7:=(Turn.of_below HB6.out).grown HG7.out (fun q hq=>by injection hq with hq;exact .inl hq.symm)
              have hbb:b=w.heap.size:=HBB.out
              subst hbb
              go_roundw
              case rel=>
                refine ⟨k+1,by go_num,by omega,?_⟩
                have htk:(tys L).take (k+1)=pre++[x.t]:=by rw [tyTake_snoc HAT.out,HPRE.out]
                refine ⟨?_,?_,?_,?_⟩
                · rw [HR.out.1,HSTEP.out,← HPRE.out,if_pos HE.out]
                · rw [htk]
                  exact HOK.out.snoc (by have:=HPL.out;omega) HE.out
                · rw [htk]
                  refine ⟨(ht7.cell (p:=⟨w.heap.size+1,0,none⟩) (by show w.heap.size+1 < _;omega) (by show ¬w.heap.size+1=w.heap.size+2;omega)).trans R5.out,HD5.out.block (ht7.block w.heap.size (by omega) (by omega)),?_,by have:=ht7.size;have:=L84.out;omega⟩
                  refine ChkM.put (HOK.out.b fun u hu=>?_) HO1.out o2 HO3.out HO4.out HTB.out HO7.out
                  rw [HPRE.out] at hu
                  obtain ⟨y,hy,rfl⟩:=List.mem_map.1 (List.mem_of_mem_take hu)
                  have:=(HA.out.one y hy).ok
                  exact ⟨this.k,this.r,this.e⟩
                · exact HB5w.out.trans (ht7.below (by have:=HB5.out.size;have:=HBB.out;omega) fun q hq=>by have:=HBB.out;omega)
              case measure=>simp [intOf];omega
      · have hvn:(v != 0)=true:=by rw [bne_iff_ne];exact hv0
        have HF:=hide (show tyChk (tys L) rg=v from by
          have he:tyErr ((tys L).take k) x.t rg=v:=by
            unfold tyErr
            rw [hpl,hv,if_pos hv0]
          rw [HR.out.1,hstep,he,if_neg hv0])
        clear hx h1 hbx hat hstep hpl hv hv0
        go_wp2_with fail
        refine (checkFields_is HV.out _ HX.out).mono ?_
        rintro e w1 ⟨rfl,hb1⟩
        have HB1:=hide (HBX.out.trans (hb1.mono HBX.out.size))
        clear hb1
        go_wp2_with fail
        go_ret
        exact ⟨ret_n HF.out,HB1.out⟩
    · obtain rfl:k=n:=by omega
      have HF:=hide (show tyChk (tys L) rg=0 from HR.out.1.trans (tyChkR_end (by rw [tys_len,HL.out];exact Nat.le_refl _)))
      go_wp2
      go_ret
      exact ⟨ret_n HF.out,HR.out.2.2.2⟩
theorem CheckT_any (A:Option Addr) (n c:Nat) (L:List TyW) (rg:Int) (w:World) (hA:Typs w w.heap.size A n L) (hn:n≤maxLen) :
  Calls Tryz.prog 53 #[.slice A n c,.int .i64 rg] w fun e w'=>e=.returned (.int .i64 (tyChk (tys L) rg))∧Below w.heap.size w w':=by
 rcases Nat.lt_or_ge 65535 n with h | h
 ·
  rw [tyChk_big (by rw [tys_len,hA.len];exact h)]
  exact Check_big A n c rg w h hn
 ·
  exact Check_small A n c L rg w hA h
theorem CheckT_is {A:Option Addr} {n c:Nat} {L:List TyW} {rg v:Int} (h:tyChk (tys L) rg=v) (w:World) (hA:Typs w w.heap.size A n L) (hn:n≤maxLen) :
  Calls Tryz.prog 53 #[.slice A n c,.int .i64 rg] w fun e w'=>e=.returned (.int .i64 v)∧Below w.heap.size w w':=h ▸ CheckT_any A n c L rg w hA hn
end Go.Proofs.YtfgacmgjpikgaaaGreatDoor
