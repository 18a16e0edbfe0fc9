/- Part 37 of the contracts and their mathematics. -/
import Derived.Test.YtfgacmgjpikgaaaGreatDoorQ21
import Derived.Test.YtfgacmgjpikgaaaGreatDoorQ35
import Derived.Test.YtfgacmgjpikgaaaGreatDoorRows
import Derived.LaidMore
import Derived.Stop.Joined
import Derived.Lib.SmallJoins
set_option linter.unusedVariables false
set_option linter.unusedSimpArgs false
set_option maxRecDepth 100000
set_option maxHeartbeats 8000000
namespace Go.Proofs.YtfgacmgjpikgaaaGreatDoor
open Go.RowKit
def AtRx (L:List ByteArray) (s:ByteArray) (k:Int):Prop:=(∃ j:Nat,L[j]?=some s∧k=(j:Int))∨(s∉L∧k=-1)
theorem RefIndexX_any (A:Option Addr) (n c:Nat) (L:List ByteArray) (s:ByteArray) (w:World) (B:Nat) (hA:Rd w B A n (sV L)) (hn:n≤maxLen) :
 Calls Tryz.prog 30 #[.slice A n c,.string s] w fun x w'=>∃ k,x=.returned (.int .i64 k)∧AtRx L s k∧w=w':=by
 have HA:=hide hA
 have hl:=sV_len hA
 unfold maxLen at hn
 clear hA
 go_enter Tryz.func30,Tryz.ntmps30
 go_wp2
 go_loopw [5] (fun i wr=>∃ k:Nat,i=.int .i64 (k:Int)∧k≤n∧Hid (∀ j,j < k→L[j]?≠some s)∧w=wr) (fun i _=>n - (intOf i).toNat)
 case atStart=>exact ⟨0,rfl,Nat.zero_le _,fun j h=>absurd h (by omega),rfl⟩
 case round=>
  obtain ⟨k,rfl,hk,HN,rfl⟩:=hrel
  by_cases hlt:k < n
  ·
   have hex:∃ a,L[k]?=some a:=⟨_,List.getElem?_eq_getElem (by omega)⟩
   obtain ⟨a,ha⟩:=hex
   have hlt':(k:Int) < (n:Int):=by omega
   obtain ⟨b,o,rfl,hbB,c0⟩:=HA.out.str ha
   have Ha:=hide ha
   by_cases hs:a=s
   ·
    subst hs
    clear ha
    have e2:(a.toList == a.toList)=true:=beq_iff_eq.2 rfl
    go_wp2
    go_ret
    exact ⟨_,rfl,.inl ⟨k,Ha.out,rfl⟩,rfl⟩
   ·
    have e2:(a.toList == s.toList)=false:=by rw [eqS_def];exact decide_eq_false hs
    have HN2:=hide (show ∀ j,j < k+1→L[j]?≠some s from fun j hj hjs=>by
     rcases Nat.lt_or_ge j k with c | c
     ·
      exact HN.out j c hjs
     ·
      obtain rfl:j=k:=by omega
      rw [ha] at hjs
      injection hjs with e
      exact hs e)
    clear ha
    go_wp2
    go_roundw
    case rel=>exact ⟨k+1,by go_num,by omega,HN2.out,trivial⟩
    case measure=>simp [intOf];omega
  ·
   obtain rfl:k=n:=by omega
   have hno:s∉L:=fun h=>by
    obtain ⟨j,hj⟩:=List.getElem?_of_mem h
    exact HN.out j (by have:=(List.getElem?_eq_some_iff.1 hj).1;omega) hj
   have HNo:=hide hno
   clear hno
   go_wp2
   go_ret
   exact ⟨_,rfl,.inr ⟨HNo.out,rfl⟩,rfl⟩
theorem RIndex_yes {A:Option Addr} {n c:Nat} {L:List ByteArray} {s:ByteArray} {w:World} {B:Nat} (h:hasB L s=true) (hA:Rd w B A n (sV L)) (hn:n≤maxLen) :
 Calls Tryz.prog 30 #[.slice A n c,.string s] w fun x w'=>∃ k,x=.returned (.int .i64 k)∧0≤k∧w=w':=
 (RefIndexX_any A n c L s w B hA hn).mono fun x w' ⟨k,h1,h2,h3⟩=>⟨k,h1,by rcases h2 with ⟨j,_,rfl⟩ | ⟨h4,_⟩;omega;exact absurd (hasB_iff.1 h) h4,h3⟩
theorem RIndex_no {A:Option Addr} {n c:Nat} {L:List ByteArray} {s:ByteArray} {w:World} {B:Nat} (h:hasB L s=false) (hA:Rd w B A n (sV L)) (hn:n≤maxLen) :
 Calls Tryz.prog 30 #[.slice A n c,.string s] w fun x w'=>x=.returned (.int .i64 (-1))∧w=w':=
 (RefIndexX_any A n c L s w B hA hn).mono fun x w' ⟨k,h1,h2,h3⟩=>⟨by rcases h2 with ⟨j,h4,_⟩ | ⟨_,h4⟩;exact absurd (List.mem_of_getElem? h4) (hasB_not.1 h);rw [h1,h4],h3⟩
theorem strs_rd10 {w:World} {B:Nat} {s:SlW ByteArray} (h:Strs w B s):Rd w B s.A s.n (sV s.L):=by
 refine ⟨by rw [List.length_map];exact h.len,fun hn=>?_⟩
 obtain ⟨b,o,h1,h2,h3⟩:=h.cells.2 hn
 refine ⟨b,o,h1,h2,fun j u hu=>?_⟩
 rw [List.getElem?_map] at hu
 cases hx:s.L[j]? with
 | none=>rw [hx] at hu;cases hu
 | some x=>
  rw [hx] at hu
  injection hu with hu
  have:=h3 j x hx 0 (.string x) rfl
  rw [←hu]
  simpa using this
theorem own_slice10 {w:World} {base:Nat} {e:TypeId} {size n:Nat} {v:Value} {xs:List Value} (h:w.ownsRow base e size v n xs):∃ A c,v=.slice A n c:=by
 obtain ⟨h1,h2⟩:=h
 rcases h2 with ⟨rfl,rfl⟩ | ⟨g,cap,cur,rfl,_⟩
 ·
  exact ⟨_,_,rfl⟩
 ·
  exact ⟨_,_,rfl⟩
theorem lcErr_nil9 {nt:Nat} {pre:List ByteArray} {l:List LcV} {k:Nat} (h:l.length≤k):lcErr nt pre (l.drop k)=0:=by rw [drop_end10 h];rfl
theorem ValDz0 {P:Prop} (h:P:=by
 refine (RefIdent_is HIB.out _ HSZ.out).mono ?_
 rintro e8 w8 ⟨rfl,rfl⟩
 go_wp2_with fail
 refine (RIndex_no (c:=c) HHZ.out HRd.out hjm).mono ?_
 rintro e7 w7 ⟨rfl,rfl⟩
 go_wp2
 have HD28:=hide (HYr.out.drew)
 refine wp_region_held_drew (S:=(fun w'=>w'.cell? ⟨w.heap.size,4,none⟩=some (.slice (some ⟨b,o,none⟩) ln lc)∧w'.cell? ⟨b,o+j*2+1,none⟩=some (.int .i64 ty)∧w'.cell? ⟨w.heap.size,3,none⟩=some (.slice tA tm tc))) (by kernel_rfl) (hc28.out _ HD28.out) (fun hHeld=>?_)
 refine planS [0,1,2,3,4,5,6,7,8,9,10,11,12,13,14,15,16,17,18] ?_
 repeat' (first | refine pT hHeld rfl ?_ | refine pS hHeld rfl ?_)
 refine planE ?_
 refine wpAnyH_done (by kernel_rfl) ?_ _
 have HZ:=hide (HW.out.trans (HD28.out.mono HW.out.size))
 go_wp2
 go_ret
 exact ⟨congrArg (fun v=>Ending.returned (.int .i64 v)) HN.out.symm,HB.out.trans (HZ.out.mono HB.out.size)⟩):P:=h
theorem ValDz1 {P:Prop} (h:P:=by
 go_enter Tryz.func13,Tryz.ntmps13
 go_wp2_with fail
 refine (RefIdent_is HID.out _ HNM.out).mono ?_
 rintro e9 w1 ⟨rfl,rfl⟩
 go_wp2
 go_ret
 exact ⟨rfl,HB.out.trans (HW0.out.mono HB.out.size)⟩):P:=h
theorem ValDz2 {P:Prop} (h:P:=by
 go_ret
 exact ⟨rfl,HB.out.trans (HW.out.mono HB.out.size)⟩):P:=h
theorem ValDz3 {P:Prop} (h:P:=by
 go_ret
 exact ⟨congrArg (fun v=>Ending.returned (.int .i64 v)) HN.out.symm,HB.out.trans (HW.out.mono HB.out.size)⟩):P:=h
theorem RDecl_is {x:BdW} {v:Int} {w:World} (h:OneBd w w.heap.size x) (hv:deErr x.v=v) :
 Calls Tryz.prog 13 #[aggBd x] w fun e w'=>e=.returned (.int .i64 v)∧Below w.heap.size w w':=by
 obtain ⟨i0,hi,hz0,hz1,hz2⟩:=info_parts infoS
 have hrn:=h.regions.len
 have hrm:=h.regions.nm
 have hrc:=h.regions.nc
 have hon:=h.outl.nm
 have htm:=h.types.nm
 have htc:=h.types.nc
 have htl:=h.types.len
 have hln:=h.locals.len
 have hlm:=h.locals.nm
 have hbm:=h.blocks.nm
 have hbl:=h.blocks.len
 have hnm:=h.name
 obtain ⟨nm,⟨rA,rn,rc,rL⟩,⟨oA,on,oc,oL⟩,⟨tA,tm,tc,tL⟩,⟨lA,ln,lc,lL⟩,ar,⟨bA,bn,bc,bL⟩⟩:=x
 have hrn:rL.length=rn:=hrn
 have htl:tL.length=tm:=htl
 have hln:lL.length=ln:=hln
 have hbl:bL.length=bn:=hbl
 have hrm:rn≤maxLen:=hrm
 have hrc:rn≤rc:=hrc
 have hlm:ln≤maxLen:=hlm
 have hbm:bn≤maxLen:=hbm
 obtain ⟨id,hid⟩:∃ u,identB nm=u:=⟨_,rfl⟩
 obtain ⟨e1,he1⟩:∃ u,rgErr [] rL=u:=⟨_,rfl⟩
 obtain ⟨e2,he2⟩:∃ u,prChk oL (rn:Int)=u:=⟨_,rfl⟩
 obtain ⟨e3,he3⟩:∃ u,tyChk (tys tL) (rn:Int)=u:=⟨_,rfl⟩
 obtain ⟨e4,he4⟩:∃ u,lcErr tm [] (lL.map LcW.v)=u:=⟨_,rfl⟩
 have hv9:(if id=false then 12 else if 65535 < rn then 15 else if e1≠0 then e1 else if e2≠0 then e2 else if e3≠0 then e3 else if 65535 < ln then 15 else if e4≠0 then e4 else if ar < 0∨(ln:Int) < ar then 3 else if bn=0∨65535 < bn then 15 else 0)=v:=by
  rw [←hv,← hid,← he1,← he2,← he3,← he4]
  unfold deErr
  have q1:(BdW.v ⟨nm,⟨rA,rn,rc,rL⟩,⟨oA,on,oc,oL⟩,⟨tA,tm,tc,tL⟩,⟨lA,ln,lc,lL⟩,ar,⟨bA,bn,bc,bL⟩⟩).regions.length=rn:=hrn
  have q2:(BdW.v ⟨nm,⟨rA,rn,rc,rL⟩,⟨oA,on,oc,oL⟩,⟨tA,tm,tc,tL⟩,⟨lA,ln,lc,lL⟩,ar,⟨bA,bn,bc,bL⟩⟩).types.length=tm:=(List.length_map _).trans htl
  have q3:(BdW.v ⟨nm,⟨rA,rn,rc,rL⟩,⟨oA,on,oc,oL⟩,⟨tA,tm,tc,tL⟩,⟨lA,ln,lc,lL⟩,ar,⟨bA,bn,bc,bL⟩⟩).locals.length=ln:=(List.length_map _).trans hln
  have q4:(BdW.v ⟨nm,⟨rA,rn,rc,rL⟩,⟨oA,on,oc,oL⟩,⟨tA,tm,tc,tL⟩,⟨lA,ln,lc,lL⟩,ar,⟨bA,bn,bc,bL⟩⟩).blocks.length=bn:=(List.length_map _).trans hbl
  rw [q1,q2,q3,q4]
  rfl
 clear hv
 have HB:=hide (show Below w.heap.size w (w.alloc (.cells #[.string nm,.slice rA rn rc,.slice oA on oc,.slice tA tm tc,.slice lA ln lc,.int .i64 ar,.slice bA bn bc] 28)) from (Below.refl w.heap.size w).alloc (Nat.le_refl _) _)
 have HX:=hide (h.up HB.out)
 have hcs:=hide fun (w':World) (y:Below (w.alloc (.cells #[.string nm,.slice rA rn rc,.slice oA on oc,.slice tA tm tc,.slice lA ln lc,.int .i64 ar,.slice bA bn bc] 28)).heap.size (w.alloc (.cells #[.string nm,.slice rA rn rc,.slice oA on oc,.slice tA tm tc,.slice lA ln lc,.int .i64 ar,.slice bA bn bc] 28)) w')=>(show w'.cell? ⟨w.heap.size,0,none⟩=some (.string nm)∧w'.cell? ⟨w.heap.size,1,none⟩=some (.slice rA rn rc)∧w'.cell? ⟨w.heap.size,2,none⟩=some (.slice oA on oc)∧w'.cell? ⟨w.heap.size,3,none⟩=some (.slice tA tm tc)∧w'.cell? ⟨w.heap.size,4,none⟩=some (.slice lA ln lc)∧w'.cell? ⟨w.heap.size,5,none⟩=some (.int .i64 ar)∧w'.cell? ⟨w.heap.size,6,none⟩=some (.slice bA bn bc) from ⟨one_cells (cs:=[.string nm,.slice rA rn rc,.slice oA on oc,.slice tA tm tc,.slice lA ln lc,.int .i64 ar,.slice bA bn bc]) y 0 _ rfl,one_cells (cs:=[.string nm,.slice rA rn rc,.slice oA on oc,.slice tA tm tc,.slice lA ln lc,.int .i64 ar,.slice bA bn bc]) y 1 _ rfl,one_cells (cs:=[.string nm,.slice rA rn rc,.slice oA on oc,.slice tA tm tc,.slice lA ln lc,.int .i64 ar,.slice bA bn bc]) y 2 _ rfl,one_cells (cs:=[.string nm,.slice rA rn rc,.slice oA on oc,.slice tA tm tc,.slice lA ln lc,.int .i64 ar,.slice bA bn bc]) y 3 _ rfl,one_cells (cs:=[.string nm,.slice rA rn rc,.slice oA on oc,.slice tA tm tc,.slice lA ln lc,.int .i64 ar,.slice bA bn bc]) y 4 _ rfl,one_cells (cs:=[.string nm,.slice rA rn rc,.slice oA on oc,.slice tA tm tc,.slice lA ln lc,.int .i64 ar,.slice bA bn bc]) y 5 _ rfl,one_cells (cs:=[.string nm,.slice rA rn rc,.slice oA on oc,.slice tA tm tc,.slice lA ln lc,.int .i64 ar,.slice bA bn bc]) y 6 _ rfl⟩)
 have HW0:=hide (Below.refl (w.alloc (.cells #[.string nm,.slice rA rn rc,.slice oA on oc,.slice tA tm tc,.slice lA ln lc,.int .i64 ar,.slice bA bn bc] 28)).heap.size (w.alloc (.cells #[.string nm,.slice rA rn rc,.slice oA on oc,.slice tA tm tc,.slice lA ln lc,.int .i64 ar,.slice bA bn bc] 28)))
 have HID:=hide hid
 have HNM:=hide hnm
 have HE1:=hide he1
 have HE2:=hide he2
 have HE3:=hide he3
 have HE4:=hide he4
 have HRL:=hide hrn
 have HLL:=hide hln
 have HON:=hide hon
 have HTM:=hide htm
 have HTC:=hide htc
 unfold maxLen at hrm hlm hbm
 clear h he1 he2 he3 he4 hid hrn htl hln hbl hnm hon htm htc
 cases id
 case false=>
  obtain rfl:v=12:=by rw [←hv9];rfl
  clear hv9
  exact ValDz1
 have hv8:=hv9
 rw [if_neg (by simp)] at hv8
 clear hv9
 by_cases q1:65535 < rn
 case pos=>
  have q1i:(65535:Int) < (rn:Int):=by omega
  obtain rfl:v=15:=by rw [←hv8,if_pos q1]
  clear hv8 q1
  exact ValDz1
 have q1i:¬(65535:Int) < (rn:Int):=by omega
 rw [if_neg q1] at hv8
 clear q1
 have HV:=hide hv8
 clear hv8
 go_enter Tryz.func13,Tryz.ntmps13
 go_wp2_with fail
 refine (RefIdent_is HID.out _ HNM.out).mono ?_
 rintro e9 w1 ⟨rfl,rfl⟩
 go_wp2
 go_loopw [3] (fun i wr=>∃ j:Nat,i=.int .i64 (j:Int)∧j≤rn∧Hid (rgErr (rL.take j) (rL.drop j)=e1)∧Hid (Below (w.alloc (.cells #[.string nm,.slice rA rn rc,.slice oA on oc,.slice tA tm tc,.slice lA ln lc,.int .i64 ar,.slice bA bn bc] 28)).heap.size (w.alloc (.cells #[.string nm,.slice rA rn rc,.slice oA on oc,.slice tA tm tc,.slice lA ln lc,.int .i64 ar,.slice bA bn bc] 28)) wr)) (fun i _=>rn - (intOf i).toNat)
 case atStart=>exact ⟨0,rfl,Nat.zero_le _,hide HE1.out,hide HW0.out⟩
 case round=>
  obtain ⟨j,rfl,hj,HE,HW⟩:=hrel
  obtain ⟨c0,c1,c2,c3,c4,c5,c6⟩:=hcs.out _ HW.out
  by_cases hlt:j < rn
  ·
   have hlt':(j:Int) < (rn:Int):=by omega
   obtain ⟨s,hs⟩:∃ s,rL[j]?=some s:=⟨_,List.getElem?_eq_getElem (by have:rL.length=rn:=HRL.out;omega)⟩
   have hax:=(HX.out.up HW.out).regions
   obtain ⟨b,o,hA,hb,hsz,hc⟩:=hax.at_ hs
   have hA:rA=some ⟨b,o,none⟩:=hA
   subst hA
   have cs0:wr.cell? ⟨b,o+j,none⟩=some (.string s):=by have:=hc 0 _ rfl;simpa using this
   have HRd:=hide (show Rd wr wr.heap.size (some ⟨b,o,none⟩) j (sV (rL.take j)) from by have h9:=Rd.to_ (strs_rd10 hax) (k:=j) (by show j≤rn;omega);unfold sV at h9 ⊢;rw [List.map_take];exact h9)
   have HS:=hide (rgErr_at (l:=rL) hs)
   obtain ⟨ib,hib⟩:∃ u,identB s=u:=⟨_,rfl⟩
   obtain ⟨hz,hhz⟩:∃ u,hasB (rL.take j) s=u:=⟨_,rfl⟩
   clear hs hax hc
   have HIB:=hide hib
   clear hib
   have HHZ:=hide hhz
   clear hhz
   have HSZ:=hide hsz
   clear hsz
   cases ib
   case false=>
    have HN:=hide (show v=12 from by have z:e1=12:=(by rw [←HE.out,HS.out,HIB.out];rfl);rw [←HV.out,z];rfl)
    go_wp2_with fail
    refine (RefIdent_is HIB.out _ HSZ.out).mono ?_
    rintro e8 w8 ⟨rfl,rfl⟩
    go_wp2
    exact ValDz3
   have hc10:=hide fun (w':World) (y:Below wr.heap.size wr w')=>(show w'.cell? ⟨w.heap.size,1,none⟩=some (.slice (some ⟨b,o,none⟩) rn rc)∧w'.cell? ⟨b,o+j,none⟩=some (.string s) from ⟨(hcs.out _ (HW.out.trans (y.mono HW.out.size))).2.1,(y.cell (p:=⟨b,o+j,none⟩) hb).trans cs0⟩)
   have HYr:=hide (Below.refl wr.heap.size wr)
   have hjm:j≤maxLen:=by unfold maxLen;omega
   have hjI:(0:Int)≤(j:Int):=by omega
   have hjc:(j:Int)≤(rc:Int):=by omega
   cases hz
   case true=>
    have HIX:=hide fun (w':World) (y:Below wr.heap.size wr w')=>RIndex_yes (c:=rc) HHZ.out ((HRd.out.below y)) hjm
    have HN:=hide (show v=21 from by have z:e1=21:=(by rw [←HE.out,HS.out,HIB.out,HHZ.out];rfl);rw [←HV.out,z];rfl)
    go_wp2_with fail
    refine (RefIdent_is HIB.out _ HSZ.out).mono ?_
    rintro e8 w8 ⟨rfl,rfl⟩
    go_wp2
    have HD10:=hide (HYr.out.drew)
    refine wp_region_held_drew (S:=(fun w'=>w'.cell? ⟨w.heap.size,1,none⟩=some (.slice (some ⟨b,o,none⟩) rn rc)∧w'.cell? ⟨b,o+j,none⟩=some (.string s))) (by kernel_rfl) (hc10.out _ HD10.out) (fun hHeld=>?_)
    refine planS [0,1,2,3,4,5,6,7,8] ?_
    repeat' (first | refine pT hHeld rfl ?_ | refine pS hHeld rfl ?_)
    refine planE ?_
    refine wpAnyH_ready (rs:=[9]) (by kernel_rfl) (by simp) ?_
    refine AllReadyH.cons rfl (fun KZ hK=>?_) AllReadyH.nil
    go_simp
    refine (HIX.out _ HD10.out).mono ?_
    rintro e7 w7 ⟨k,rfl,hk0,rfl⟩
    refine hK.out _ _ (hc10.out _ HD10.out) (fun hHeld=>?_)
    clear hK KZ
    try simp only [Act.put,List.setIfInBounds_toArray,List.set_cons_zero,List.set_cons_succ]
    refine planS [10] ?_
    repeat' (first | refine pT hHeld rfl ?_ | refine pS hHeld rfl ?_)
    refine planE ?_
    refine wpAnyH_done (by kernel_rfl) ?_ _
    have HZ:=hide (HW.out.trans (HD10.out.mono HW.out.size))
    go_wp2
    go_ret
    exact ⟨congrArg (fun v=>Ending.returned (.int .i64 v)) HN.out.symm,HB.out.trans (HZ.out.mono HB.out.size)⟩
   case false=>
    have HIX:=hide fun (w':World) (y:Below wr.heap.size wr w')=>RIndex_no (c:=rc) HHZ.out ((HRd.out.below y)) hjm
    have HN:=hide (show rgErr (rL.take (j+1)) (rL.drop (j+1))=e1 from by rw [←HE.out,HS.out,HIB.out,HHZ.out];rfl)
    go_wp2_with fail
    refine (RefIdent_is HIB.out _ HSZ.out).mono ?_
    rintro e8 w8 ⟨rfl,rfl⟩
    go_wp2
    have HD10:=hide (HYr.out.drew)
    refine wp_region_held_drew (S:=(fun w'=>w'.cell? ⟨w.heap.size,1,none⟩=some (.slice (some ⟨b,o,none⟩) rn rc)∧w'.cell? ⟨b,o+j,none⟩=some (.string s))) (by kernel_rfl) (hc10.out _ HD10.out) (fun hHeld=>?_)
    refine planS [0,1,2,3,4,5,6,7,8] ?_
    repeat' (first | refine pT hHeld rfl ?_ | refine pS hHeld rfl ?_)
    refine planE ?_
    refine wpAnyH_ready (rs:=[9]) (by kernel_rfl) (by simp) ?_
    refine AllReadyH.cons rfl (fun KZ hK=>?_) AllReadyH.nil
    go_simp
    refine (HIX.out _ HD10.out).mono ?_
    rintro e7 w7 ⟨rfl,rfl⟩
    refine hK.out _ _ (hc10.out _ HD10.out) (fun hHeld=>?_)
    clear hK KZ
    try simp only [Act.put,List.setIfInBounds_toArray,List.set_cons_zero,List.set_cons_succ]
    refine planS [10] ?_
    repeat' (first | refine pT hHeld rfl ?_ | refine pS hHeld rfl ?_)
    refine planE ?_
    refine wpAnyH_done (by kernel_rfl) ?_ _
    have HZ:=hide (HW.out.trans (HD10.out.mono HW.out.size))
    go_wp2
    go_roundw
    case rel=>exact ⟨j+1,by go_num,by omega,hide HN.out,hide HZ.out⟩
    case measure=>simp [intOf];omega
  ·
   obtain rfl:rn=j:=by omega
   have z1:e1=0:=by rw [←HE.out];exact rgErr_end (by have:rL.length=rn:=HRL.out;omega)
   have hv7:=HV.out
   rw [if_neg (by rw [z1];simp)] at hv7
   clear z1 hlt hj
   generalize wr=wq at *
   have HRG:=hide fun (w':World) (y:Below (w.alloc (.cells #[.string nm,.slice rA rn rc,.slice oA on oc,.slice tA tm tc,.slice lA ln lc,.int .i64 ar,.slice bA bn bc] 28)).heap.size (w.alloc (.cells #[.string nm,.slice rA rn rc,.slice oA on oc,.slice tA tm tc,.slice lA ln lc,.int .i64 ar,.slice bA bn bc] 28)) w')=>RRegCheck_is (c:=oc) HE2.out w' ((HX.out.up y).prs) HON.out
   have HTY:=hide fun (w':World) (y:Below (w.alloc (.cells #[.string nm,.slice rA rn rc,.slice oA on oc,.slice tA tm tc,.slice lA ln lc,.int .i64 ar,.slice bA bn bc] 28)).heap.size (w.alloc (.cells #[.string nm,.slice rA rn rc,.slice oA on oc,.slice tA tm tc,.slice lA ln lc,.int .i64 ar,.slice bA bn bc] 28)) w')=>RCheckT_is (c:=tc) HE3.out w' ((HX.out.up y).typs) HTM.out HTC.out
   by_cases q2:e2=0
   case neg=>
    have t2:(e2 != 0)=true:=by simp [q2]
    obtain rfl:v=e2:=by rw [←hv7,if_pos q2]
    clear hv7 q2
    go_wp2_with fail
    refine (HRG.out _ HW.out).mono ?_
    rintro e6 w6 ⟨rfl,rfl⟩
    go_wp2
    exact ValDz2
   have t2:(e2 != 0)=false:=by simp [q2]
   rw [if_neg (by omega)] at hv7
   clear q2
   by_cases q3:e3=0
   case neg=>
    have t3:(e3 != 0)=true:=by simp [q3]
    obtain rfl:v=e3:=by rw [←hv7,if_pos q3]
    clear hv7 q3
    go_wp2_with fail
    refine (HRG.out _ HW.out).mono ?_
    rintro e6 w6 ⟨rfl,rfl⟩
    go_wp2_with fail
    refine (HTY.out _ HW.out).mono ?_
    rintro e5 w5 ⟨rfl,hb5⟩
    have HW5:=hide (HW.out.trans (hb5.mono HW.out.size))
    clear hb5
    go_wp2
    go_ret
    exact ⟨rfl,HB.out.trans (HW5.out.mono HB.out.size)⟩
   have t3:(e3 != 0)=false:=by simp [q3]
   rw [if_neg (by omega)] at hv7
   clear q3
   by_cases q4:65535 < ln
   case pos=>
    have q4i:(65535:Int) < (ln:Int):=by omega
    obtain rfl:v=15:=by rw [←hv7,if_pos q4]
    clear hv7 q4
    go_wp2_with fail
    refine (HRG.out _ HW.out).mono ?_
    rintro e6 w6 ⟨rfl,rfl⟩
    go_wp2_with fail
    refine (HTY.out _ HW.out).mono ?_
    rintro e5 w5 ⟨rfl,hb5⟩
    have HW5:=hide (HW.out.trans (hb5.mono HW.out.size))
    clear hb5
    obtain ⟨d0,d1,d2,d3,d4,d5,d6⟩:=hcs.out _ HW5.out
    go_wp2
    go_ret
    exact ⟨rfl,HB.out.trans (HW5.out.mono HB.out.size)⟩
   have q4i:¬(65535:Int) < (ln:Int):=by omega
   rw [if_neg q4] at hv7
   clear q4
   have HV2:=hide hv7
   clear hv7
   go_wp2_with fail
   refine (HRG.out _ HW.out).mono ?_
   rintro e6 w6 ⟨rfl,rfl⟩
   go_wp2_with fail
   refine (HTY.out _ HW.out).mono ?_
   rintro e5 w5 ⟨rfl,hb5⟩
   have HW5:=hide (HW.out.trans (hb5.mono HW.out.size))
   clear hb5
   obtain ⟨d0,d1,d2,d3,d4,d5,d6⟩:=hcs.out _ HW5.out
   go_wp2
   clear d0 d1 d2 d3 d4 d5 d6 c0 c1 c2 c3 c4 c5 c6
   obtain ⟨base,hbase⟩:∃ b,(w.alloc (.cells #[.string nm,.slice rA rn rc,.slice oA on oc,.slice tA tm tc,.slice lA ln lc,.int .i64 ar,.slice bA bn bc] 28)).heap.size=b:=⟨_,rfl⟩
   have Hbase:=hide hbase
   clear hbase
   go_loopw [5,6] (fun nv i wr=>∃ (j:Nat) (A:Option Addr) (c:Nat),nv=.slice A j c∧i=.int .i64 (j:Int)∧j≤ln∧Hid (lcErr tm ((lL.take j).map (fun l=>l.v.name)) ((lL.map LcW.v).drop j)=e4)∧Hid (wr.ownsRow base 9 1 (.slice A j c) j (sV ((lL.take j).map (fun l=>l.v.name))))∧Hid (Below (w.alloc (.cells #[.string nm,.slice rA rn rc,.slice oA on oc,.slice tA tm tc,.slice lA ln lc,.int .i64 ar,.slice bA bn bc] 28)).heap.size (w.alloc (.cells #[.string nm,.slice rA rn rc,.slice oA on oc,.slice tA tm tc,.slice lA ln lc,.int .i64 ar,.slice bA bn bc] 28)) wr)) (fun _ i _=>ln - (intOf i).toNat)
   case atStart=>exact ⟨0,none,0,rfl,rfl,Nat.zero_le _,hide HE4.out,hide (World.ownsRow_nil _ _ _ _),hide HW5.out⟩
   case round=>
    obtain ⟨j,A,c,rfl,rfl,hj,HE,HO,HW⟩:=hrel
    generalize wr=wl at *
    obtain ⟨c0,c1,c2,c3,c4,c5,c6⟩:=hcs.out _ HW.out
    have hsz:base≤wl.heap.size:=by rw [←Hbase.out];exact HW.out.size
    by_cases hlt:j < ln
    ·
     have hlt':(j:Int) < (ln:Int):=by omega
     obtain ⟨p,hp⟩:∃ s,lL[j]?=some s:=⟨_,List.getElem?_eq_getElem (by have:lL.length=ln:=HLL.out;omega)⟩
     have hpv:(lL.map LcW.v)[j]?=some p.v:=by rw [List.getElem?_map,hp];rfl
     obtain ⟨b,o,hA,hb,hone,hc⟩:=(HX.out.up HW.out).locals.at_ hp
     have hA:lA=some ⟨b,o,none⟩:=hA
     subst hA
     obtain ⟨s,ty⟩:=p
     have cs0:wl.cell? ⟨b,o+j*2,none⟩=some (.string s):=hc 0 _ rfl
     have cs1:wl.cell? ⟨b,o+j*2+1,none⟩=some (.int .i64 ty):=hc 1 _ rfl
     have hl9:∀ k,((lL.map LcW.v).take k).map LcV.name=(lL.take k).map (fun l=>l.v.name):=fun k=>by rw [←List.map_take,List.map_map];rfl
     have hS0:=lcErr_at (nt:=tm) hpv
     rw [hl9,hl9] at hS0
     have HS:=hide hS0
     obtain ⟨X,hX⟩:∃ u,(lL.take j).map (fun l=>l.v.name)=u:=⟨_,rfl⟩
     have HXX:=hide (show (lL.take (j+1)).map (fun l=>l.v.name)=X++[s] from by rw [take_up10 hp,List.map_append,hX];rfl)
     rw [hX] at HE HO HS
     obtain ⟨ib,hib⟩:∃ u,identB s=u:=⟨_,rfl⟩
     obtain ⟨hz,hhz⟩:∃ u,hasB X s=u:=⟨_,rfl⟩
     clear hp hpv hc hS0 hl9 hX
     have HIB:=hide hib
     clear hib
     have HHZ:=hide hhz
     clear hhz
     have HSZ:=hide hone.2
     clear hone
     have HRd:=hide (Rd.of_own HO.out)
     have hjm:j≤maxLen:=by unfold maxLen;omega
     cases ib
     case false=>
      have HN:=hide (show v=12 from by have z:e4=12:=(by rw [←HE.out,HS.out];show (if identB s=false then (12:Int) else _)=12;rw [HIB.out];rfl);rw [←HV2.out,z];rfl)
      go_wp2_with fail
      refine (RefIdent_is HIB.out _ HSZ.out).mono ?_
      rintro e8 w8 ⟨rfl,rfl⟩
      go_wp2
      exact ValDz3
     cases hz
     case true=>
      have HN:=hide (show v=21 from by have z:e4=21:=(by rw [←HE.out,HS.out];show (if identB s=false then (12:Int) else if hasB X s=true then 21 else _)=21;rw [HIB.out,HHZ.out];rfl);rw [←HV2.out,z];rfl)
      go_wp2_with fail
      refine (RefIdent_is HIB.out _ HSZ.out).mono ?_
      rintro e8 w8 ⟨rfl,rfl⟩
      go_wp2_with fail
      refine (RIndex_yes (c:=c) HHZ.out HRd.out hjm).mono ?_
      rintro e7 w7 ⟨k,rfl,hk0,rfl⟩
      go_wp2
      exact ValDz3
     have HS2:=hide (show (if ty < 0∨(tm:Int)≤ty then 3 else lcErr tm (X++[s]) ((lL.map LcW.v).drop (j+1)))=e4 from by rw [←HE.out,HS.out];show _=(if identB s=false then (12:Int) else if hasB X s=true then 21 else _);rw [HIB.out,HHZ.out,HXX.out];rfl)
     have hc28:=hide fun (w':World) (y:Below wl.heap.size wl w')=>(show w'.cell? ⟨w.heap.size,4,none⟩=some (.slice (some ⟨b,o,none⟩) ln lc)∧w'.cell? ⟨b,o+j*2+1,none⟩=some (.int .i64 ty)∧w'.cell? ⟨w.heap.size,3,none⟩=some (.slice tA tm tc) from ⟨(hcs.out _ (HW.out.trans (y.mono HW.out.size))).2.2.2.2.1,(y.cell (p:=⟨b,o+j*2+1,none⟩) hb).trans cs1,(hcs.out _ (HW.out.trans (y.mono HW.out.size))).2.2.2.1⟩)
     have HYr:=hide (Below.refl wl.heap.size wl)
     by_cases q6:ty < 0
     case pos=>
      have q6d:decide (ty < 0)=true:=decide_eq_true q6
      have HN:=hide (show v=3 from by have z:e4=3:=(by rw [←HS2.out,if_pos (.inl q6)]);rw [←HV2.out,z];rfl)
      go_wp2_with fail
      exact ValDz0
     have q6n:0≤ty:=by omega
     have q6d:decide (ty < 0)=false:=decide_eq_false q6
     by_cases q7:(tm:Int)≤ty
     case pos=>
      have q7d:decide ((tm:Int)≤ty)=true:=decide_eq_true q7
      have HN:=hide (show v=3 from by have z:e4=3:=(by rw [←HS2.out,if_pos (.inr q7)]);rw [←HV2.out,z];rfl)
      go_wp2_with fail
      exact ValDz0
     have q7n:ty < (tm:Int):=by omega
     have q7d:decide ((tm:Int)≤ty)=false:=decide_eq_false q7
     have HN:=hide (show lcErr tm ((lL.take (j+1)).map (fun l=>l.v.name)) ((lL.map LcW.v).drop (j+1))=e4 from by rw [HXX.out,← HS2.out,if_neg (by omega)])
     go_wp2_with fail
     refine (RefIdent_is HIB.out _ HSZ.out).mono ?_
     rintro e8 w8 ⟨rfl,rfl⟩
     go_wp2_with fail
     refine (RIndex_no (c:=c) HHZ.out HRd.out hjm).mono ?_
     rintro e7 w7 ⟨rfl,rfl⟩
     go_wp2
     have HD28:=hide (HYr.out.drew)
     refine wp_region_held_drew (S:=(fun w'=>w'.cell? ⟨w.heap.size,4,none⟩=some (.slice (some ⟨b,o,none⟩) ln lc)∧w'.cell? ⟨b,o+j*2+1,none⟩=some (.int .i64 ty)∧w'.cell? ⟨w.heap.size,3,none⟩=some (.slice tA tm tc))) (by kernel_rfl) (hc28.out _ HD28.out) (fun hHeld=>?_)
     refine planS [0,1,2,3,4,5,6,7,8,9,10,11,12,13,14,15,16,17,18] ?_
     repeat' (first | refine pT hHeld rfl ?_ | refine pS hHeld rfl ?_)
     refine planE ?_
     refine wpAnyH_done (by kernel_rfl) ?_ _
     have HZ:=hide (HW.out.trans (HD28.out.mono HW.out.size))
     have hs5:=(hcs.out _ HZ.out).2.2.2.2.1
     have hc5:=(hc28.out _ HD28.out).2.1
     have hn5:wl.drew.cell? ⟨b,o+j*2,none⟩=some (.string s):=(HD28.out.cell (p:=⟨b,o+j*2,none⟩) hb).trans cs0
     have ho0:=hide (show (wl.drew).ownsRow base 9 1 (.slice A j c) j (sV X) from World.ownsRow.drew HO.out)
     have ho1:=hide (ho0.out.alloc (.cells #[.string s] 9))
     have hb1:=hide ((Hbase.out ▸ HZ.out:Below base _ wl.drew).alloc hsz (.cells #[.string s] 9))
     go_wp2_with (at_builtin;refine wpList_append_own_at _ rfl (.tmp 105) (.tmp 112) 22 rfl base 9 i0 (.string .empty) 1 16 Tryz.underlying22 hi hz0 hz1 hz2 rfl (by decide) _ j _ rfl ho1.out ⟨wl.drew.heap.size,0,none⟩ 1 1 [.string s] rfl rfl (strLit wl.drew [.string s] 9) (sV_one [s]) (by unfold maxLen;omega) (by omega) (by simp;exact Nat.le_trans hsz (Nat.le_succ _)) ?_;intro v5 w5 hown5 hg5 _ hat5;have HO5:=hide hown5;have HB5:=hide (below_app hb1.out ho1.out (by simp;exact Nat.le_trans hsz (Nat.le_succ _)) hg5);clear hown5 hg5 hat5)
     obtain ⟨A5,c5q,hv5⟩:=own_slice10 HO5.out
     subst hv5
     go_roundw
     case rel=>exact ⟨j+1,A5,c5q,rfl,by go_num,by omega,hide HN.out,hide (by rw [HXX.out,← sV_app9];exact HO5.out),hide (Hbase.out ▸ HB5.out)⟩
     case measure=>simp [intOf];omega
    ·
     obtain rfl:ln=j:=by omega
     have z4:e4=0:=by rw [←HE.out];exact lcErr_nil9 (by rw [List.length_map];have:lL.length=ln:=HLL.out;omega)
     have hv6:=HV2.out
     rw [if_neg (by rw [z4];simp)] at hv6
     clear z4 hlt hj
     by_cases p1:ar < 0
     case pos=>
      obtain rfl:v=3:=by rw [←hv6,if_pos (.inl p1)]
      clear hv6
      go_wp2
      exact ValDz2
     have p1n:0≤ar:=by omega
     by_cases p2:(ln:Int) < ar
     case pos=>
      obtain rfl:v=3:=by rw [←hv6,if_pos (.inr p2)]
      clear hv6
      go_wp2
      exact ValDz2
     have p2n:ar≤(ln:Int):=by omega
     rw [if_neg (by omega)] at hv6
     by_cases p3:bn=0
     case pos=>
      have p3t:((bn:Int) == 0)=true:=by simp [p3]
      obtain rfl:v=15:=by rw [←hv6,if_pos (.inl p3)]
      clear hv6 p3
      go_wp2
      exact ValDz2
     have p3t:((bn:Int) == 0)=false:=by simp [p3]
     by_cases p4:65535 < bn
     case pos=>
      have p4t:(65535:Int) < (bn:Int):=by omega
      obtain rfl:v=15:=by rw [←hv6,if_pos (.inr p4)]
      clear hv6 p3 p4
      go_wp2
      exact ValDz2
     have p4t:¬(65535:Int) < (bn:Int):=by omega
     obtain rfl:v=0:=by rw [←hv6,if_neg (by omega)]
     clear hv6 p3 p4
     go_wp2
     exact ValDz2
theorem ROperand_is {x:BdW} {o:OpW} {v:Int} {w:World} (h:VB w x) (ho:OneOp w w.heap.size o) (hv:opErr (wE x) o.v=v) :
  Calls Tryz.prog 15 #[aggBd x,aggOp o] w fun e w'=>e=.returned (.int .i64 v)∧Below w.heap.size w w':=hv ▸ ROperand_any x o w h ho
theorem opErr_ty {E:Env} {o:OpV} (h:opErr E o=0):o.kind≤1→(tyV E o.pl).2=0:=fun hk=>by
 rcases opErr_zero h with h | h
 ·
  omega
 ·
  exact h.2
theorem RfitsKind_is {x:BdW} {o:OpW} {kd:Int} {v:Bool} {w:World} (h:VB w x) (ho:OneOp w w.heap.size o) (hE:opErr (wE x) o.v=0) (hv:fitK (wE x) o.v kd=v) :
  Calls Tryz.prog 43 #[aggBd x,aggOp o,.int .i64 kd] w fun e w'=>e=.returned (.bool v)∧Below w.heap.size w w':=hv ▸ RfitsKind_any x o kd w h ho (opErr_ty hE)
end Go.Proofs.YtfgacmgjpikgaaaGreatDoor
namespace Go.Proofs.YtfgacmgjpikgaaaGreatDoor
open Go.Joins Go.ChangeShapes Go.WideShapes Go.ChangeAt Go.ChangeMaps Go.RowKit Go.WideElems
theorem gOps:Tryz.prog.globalNamed "mirtower/valid.operators"=some 0:=by kernel_rfl
theorem tOps:(Tryz.prog.globals[0]?).map (·.type)=some 141:=by kernel_rfl
abbrev laid1:List (String×DataW Unit):=[("mirtower/valid.operators",Rows.laid_mirtower_valid_operators)]
theorem door_met (os:Os) (args:Array Value):laidMetH Tryz.prog laid1 ((World.doorLaid Tryz.prog 400 os).forCall (fun _ _=>0) ⟨#[],args,[]⟩).memory:=
 laidMetH_of_parts3 (fuel:=8) (laidMet_of_run' 8 (by kernel_rfl) (by kernel_rfl)) (by kernel_rfl) (by kernel_rfl)
theorem cells140:Tryz.prog.cellsOf 140=4:=by kernel_rfl
theorem cells141:Tryz.prog.cellsOf 141=32:=by kernel_rfl
theorem cellsI:Tryz.prog.cellsOf 3=1:=by kernel_rfl
theorem num1 {W:World} {n:Nat} {cs:List Value} {y:DataW Unit×List MemPlace} {a:Int} (h:DataW.trod (fun _=>()) Tryz.prog W 0 (fun _=>true) false n 3 cs=some y) (hy:y.1=.lit (.int .i64 a)):cs=[.int .i64 a]:=by
 obtain ⟨k,rfl,rfl,_⟩:=DataW.trod_int Tryz.underlying3 h
 have e:(DataW.lit (.int .i64 k):DataW Unit)=.lit (.int .i64 a):=hy
 injection e with e
 injection e with _ e
 rw [e]
theorem row4 {W:World} {n:Nat} {cs:List Value} {x:DataW Unit×List MemPlace} {a b c d:Int} (h:DataW.trod (fun _=>()) Tryz.prog W 0 (fun _=>true) false n 140 cs=some x) (hx:x.1=.agg [.lit (.int .i64 a),.lit (.int .i64 b),.lit (.int .i64 c),.lit (.int .i64 d)]):cs=[.int .i64 a,.int .i64 b,.int .i64 c,.int .i64 d]:=by
 obtain ⟨y0,y1,y2,y3,m,rfl,hl,h0,h1,h2,h3⟩:=trod_struct4 Tryz.underlying140 h
 have e:(DataW.agg [y0.1,y1.1,y2.1,y3.1]:DataW Unit)=.agg [.lit (.int .i64 a),.lit (.int .i64 b),.lit (.int .i64 c),.lit (.int .i64 d)]:=hx
 injection e with e
 injection e with e0 e
 injection e with e1 e
 injection e with e2 e
 injection e with e3 _
 rw [cells140] at hl
 have g0:=num1 h0 e0
 have g1:=num1 h1 e1
 have g2:=num1 h2 e2
 have g3:=num1 h3 e3
 simp only [cellsI] at g0 g1 g2 g3
 match cs,hl with
 | [c0,c1,c2,c3],_=>
  simp at g0 g1 g2 g3
  rw [g0,g1,g2,g3]
theorem opsT_of {W:World} (h:laidMetH Tryz.prog laid1 W):OpsT W:=by
 rw [MakeChecks.laidMetH_plain _ _ _ (by kernel_rfl)] at h
 obtain ⟨ps,⟨g0,t0,cs0,f0,p0,q0,hg0,ht0,hv0,hd0,_,_⟩,_,_⟩:=h
 obtain rfl:=Option.some.inj (gOps.symm.trans hg0)
 obtain rfl:=Option.some.inj (tOps.symm.trans ht0)
 obtain ⟨xs,m,_,hx,hlen,hn,hel⟩:=DataW.trod_array Tryz.underlying141 hd0
 rw [cells141] at hlen
 rw [cells140] at hel
 have hx1:(Rows.laid_mirtower_valid_operators:DataW Unit)=.agg (xs.map (·.1)):=by injection hx
 unfold Rows.laid_mirtower_valid_operators at hx1
 injection hx1 with hx1
 have hrow:∀ (j:Nat) (a b c d:Int),j < 8→xs[j]?.map Prod.fst=some (.agg [.lit (.int .i64 a),.lit (.int .i64 b),.lit (.int .i64 c),.lit (.int .i64 d)])→(cs0.toList.drop (j*4)).take 4=[.int .i64 a,.int .i64 b,.int .i64 c,.int .i64 d]:=by
  intro j a b c d hj hxj
  cases hq:xs[j]? with
  | none=>rw [hq] at hxj;cases hxj
  | some x=>
   rw [hq] at hxj
   exact row4 ((hel j hj).trans hq) (Option.some.inj hxj)
 have hmap:∀ j:Nat,xs[j]?.map Prod.fst=(xs.map (·.1))[j]?:=fun j=>by rw [List.getElem?_map]
 have r0:=hrow 0 2 0 2 2 (by omega) (by rw [hmap,← hx1];rfl)
 have r1:=hrow 1 2 1 1 1 (by omega) (by rw [hmap,← hx1];rfl)
 have r2:=hrow 2 3 0 2 2 (by omega) (by rw [hmap,← hx1];rfl)
 have r3:=hrow 3 3 1 2 2 (by omega) (by rw [hmap,← hx1];rfl)
 have r4:=hrow 4 3 2 2 2 (by omega) (by rw [hmap,← hx1];rfl)
 have r5:=hrow 5 3 3 2 1 (by omega) (by rw [hmap,← hx1];rfl)
 have r6:=hrow 6 3 4 2 1 (by omega) (by rw [hmap,← hx1];rfl)
 have r7:=hrow 7 3 5 1 1 (by omega) (by rw [hmap,← hx1];rfl)
 have hall:cs0.toList=opCells:=by
  have hs:∀ (l:List Value) (k:Nat),l.drop k=(l.drop k).take 4++l.drop (k+4):=fun l k=>by
   rw [←List.drop_drop]
   exact (List.take_append_drop 4 (l.drop k)).symm
  have e:cs0.toList=cs0.toList.drop 0:=rfl
  rw [e,hs _ 0,hs _ (0+4),hs _ (0+4+4),hs _ (0+4+4+4),hs _ (0+4+4+4+4),hs _ (0+4+4+4+4+4),hs _ (0+4+4+4+4+4+4),hs _ (0+4+4+4+4+4+4+4)]
  rw [List.drop_of_length_le (i:=0+4+4+4+4+4+4+4+4) (by rw [hlen];omega)]
  have q0:(cs0.toList.drop 0).take 4=_:=r0
  have q1:(cs0.toList.drop (0+4)).take 4=_:=r1
  have q2:(cs0.toList.drop (0+4+4)).take 4=_:=r2
  have q3:(cs0.toList.drop (0+4+4+4)).take 4=_:=r3
  have q4:(cs0.toList.drop (0+4+4+4+4)).take 4=_:=r4
  have q5:(cs0.toList.drop (0+4+4+4+4+4)).take 4=_:=r5
  have q6:(cs0.toList.drop (0+4+4+4+4+4+4)).take 4=_:=r6
  have q7:(cs0.toList.drop (0+4+4+4+4+4+4+4)).take 4=_:=r7
  rw [q0,q1,q2,q3,q4,q5,q6,q7]
  rfl
 intro j u hu
 have hc:=World.var?_cell hg0 hv0 j
 rw [←hall] at hu
 exact hc.trans (by simpa using hu)
end Go.Proofs.YtfgacmgjpikgaaaGreatDoor
