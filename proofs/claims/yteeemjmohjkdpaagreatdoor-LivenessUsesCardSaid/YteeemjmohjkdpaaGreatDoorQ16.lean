/- Part 17 of the contracts and their mathematics. -/
import Derived.Test.YteeemjmohjkdpaaGreatDoorQ15
import Derived.Scope
set_option linter.unusedVariables false
set_option linter.unusedSimpArgs false
set_option maxRecDepth 100000
set_option maxHeartbeats 8000000
namespace Go.Proofs.YteeemjmohjkdpaaGreatDoor
open Go.RowKit
def AtRx (L:List ByteArray) (s:ByteArray) (k:Int):Prop:=(∃ j:Nat,L[j]?=some s∧k=(j:Int))∨(s∉L∧k=-1)
theorem RefIndexX_any (A:Option Addr) (n c:Nat) (L:List ByteArray) (s:ByteArray) (w:World) (B:Nat) (hA:Rd w B A n (sV L)) (hn:n≤maxLen) :
 Calls Tryz.prog 95 #[.slice A n c,.string s] w fun x w'=>∃ k,x=.returned (.int .i64 k)∧AtRx L s k∧w=w':=by
 have HA:=hide hA
 have hl:=sV_len hA
 unfold maxLen at hn
 clear hA
 go_enter Tryz.func95,Tryz.ntmps95
 go_wp2
 go_loopw [5] (fun i wr=>∃ k:Nat,i=.int .i64 (k:Int)∧k≤n∧Hid (∀ j,j < k→L[j]?≠some s)∧w=wr) (fun i _=>n - (intOf i).toNat)
 case atStart=>exact ⟨0,rfl,Nat.zero_le _,fun j h=>absurd h (by omega),rfl⟩
 case round=>
  obtain ⟨k,rfl,hk,HN,rfl⟩:=hrel
  by_cases hlt:k < n
  ·
   have hex:∃ a,L[k]?=some a:=⟨_,List.getElem?_eq_getElem (by omega)⟩
   obtain ⟨a,ha⟩:=hex
   have hlt':(k:Int) < (n:Int):=by omega
   obtain ⟨b,o,rfl,hbB,c0⟩:=HA.out.str ha
   have Ha:=hide ha
   by_cases hs:a=s
   ·
    subst hs
    clear ha
    have e2:(a.toList == a.toList)=true:=beq_iff_eq.2 rfl
    go_wp2
    go_ret
    exact ⟨_,rfl,.inl ⟨k,Ha.out,rfl⟩,rfl⟩
   ·
    have e2:(a.toList == s.toList)=false:=by rw [eqS_def];exact decide_eq_false hs
    have HN2:=hide (show ∀ j,j < k+1→L[j]?≠some s from fun j hj hjs=>by
     rcases Nat.lt_or_ge j k with c | c
     ·
      exact HN.out j c hjs
     ·
      obtain rfl:j=k:=by omega
      rw [ha] at hjs
      injection hjs with e
      exact hs e)
    clear ha
    go_wp2
    go_roundw
    case rel=>exact ⟨k+1,by go_num,by omega,HN2.out,trivial⟩
    case measure=>simp [intOf];omega
  ·
   obtain rfl:k=n:=by omega
   have hno:s∉L:=fun h=>by
    obtain ⟨j,hj⟩:=List.getElem?_of_mem h
    exact HN.out j (by have:=(List.getElem?_eq_some_iff.1 hj).1;omega) hj
   have HNo:=hide hno
   clear hno
   go_wp2
   go_ret
   exact ⟨_,rfl,.inr ⟨HNo.out,rfl⟩,rfl⟩
theorem RIndex_yes {A:Option Addr} {n c:Nat} {L:List ByteArray} {s:ByteArray} {w:World} {B:Nat} (h:hasB L s=true) (hA:Rd w B A n (sV L)) (hn:n≤maxLen) :
 Calls Tryz.prog 95 #[.slice A n c,.string s] w fun x w'=>∃ k,x=.returned (.int .i64 k)∧0≤k∧w=w':=
 (RefIndexX_any A n c L s w B hA hn).mono fun x w' ⟨k,h1,h2,h3⟩=>⟨k,h1,by rcases h2 with ⟨j,_,rfl⟩ | ⟨h4,_⟩;omega;exact absurd (hasB_iff.1 h) h4,h3⟩
theorem RIndex_no {A:Option Addr} {n c:Nat} {L:List ByteArray} {s:ByteArray} {w:World} {B:Nat} (h:hasB L s=false) (hA:Rd w B A n (sV L)) (hn:n≤maxLen) :
 Calls Tryz.prog 95 #[.slice A n c,.string s] w fun x w'=>x=.returned (.int .i64 (-1))∧w=w':=
 (RefIndexX_any A n c L s w B hA hn).mono fun x w' ⟨k,h1,h2,h3⟩=>⟨by rcases h2 with ⟨j,h4,_⟩ | ⟨_,h4⟩;exact absurd (List.mem_of_getElem? h4) (hasB_not.1 h);rw [h1,h4],h3⟩
theorem strs_rd10 {w:World} {B:Nat} {s:SlW ByteArray} (h:Strs w B s):Rd w B s.A s.n (sV s.L):=by
 refine ⟨by rw [List.length_map];exact h.len,fun hn=>?_⟩
 obtain ⟨b,o,h1,h2,h3⟩:=h.cells.2 hn
 refine ⟨b,o,h1,h2,fun j u hu=>?_⟩
 rw [List.getElem?_map] at hu
 cases hx:s.L[j]? with
 | none=>rw [hx] at hu;cases hu
 | some x=>
  rw [hx] at hu
  injection hu with hu
  have:=h3 j x hx 0 (.string x) rfl
  rw [←hu]
  simpa using this
theorem own_slice10 {w:World} {base:Nat} {e:TypeId} {size n:Nat} {v:Value} {xs:List Value} (h:w.ownsRow base e size v n xs):∃ A c,v=.slice A n c:=by
 obtain ⟨h1,h2⟩:=h
 rcases h2 with ⟨rfl,rfl⟩ | ⟨g,cap,cur,rfl,_⟩
 ·
  exact ⟨_,_,rfl⟩
 ·
  exact ⟨_,_,rfl⟩
theorem lcErr_nil9 {nt:Nat} {pre:List ByteArray} {l:List LcV} {k:Nat} (h:l.length≤k):lcErr nt pre (l.drop k)=0:=by rw [drop_end10 h];rfl
theorem ValDz0 {P:Prop} (h:P:=by
 refine (RefIdent_is HIB.out _ HSZ.out).mono ?_
 rintro e8 w8 ⟨rfl,rfl⟩
 go_wp2_with fail
 refine (RIndex_no (c:=c) HHZ.out HRd.out hjm).mono ?_
 rintro e7 w7 ⟨rfl,rfl⟩
 go_wp2
 have HD28:=hide (HYr.out.drew)
 refine wp_region_held_drew (S:=(fun w'=>w'.cell? ⟨w.heap.size,4,none⟩=some (.slice (some ⟨b,o,none⟩) ln lc)∧w'.cell? ⟨b,o+j*2+1,none⟩=some (.int .i64 ty)∧w'.cell? ⟨w.heap.size,3,none⟩=some (.slice tA tm tc))) (by kernel_rfl) (hc28.out _ HD28.out) (fun hHeld=>?_)
 refine planS [0,1,2,3,4,5,6,7,8,9,10,11,12,13,14,15,16,17,18] ?_
 repeat' (first | refine pT hHeld rfl ?_ | refine pS hHeld rfl ?_)
 refine planE ?_
 refine wpAnyH_done (by kernel_rfl) ?_ _
 have HZ:=hide (HW.out.trans (HD28.out.mono HW.out.size))
 go_wp2
 go_ret
 exact ⟨congrArg (fun v=>Ending.returned (.int .i64 v)) HN.out.symm,HB.out.trans (HZ.out.mono HB.out.size)⟩):P:=h
theorem ValDz1 {P:Prop} (h:P:=by
 go_enter Tryz.func60,Tryz.ntmps60
 go_wp2_with fail
 refine (RefIdent_is HID.out _ HNM.out).mono ?_
 rintro e9 w1 ⟨rfl,rfl⟩
 go_wp2
 go_ret
 exact ⟨rfl,HB.out.trans (HW0.out.mono HB.out.size)⟩):P:=h
theorem ValDz2 {P:Prop} (h:P:=by
 go_ret
 exact ⟨rfl,HB.out.trans (HW.out.mono HB.out.size)⟩):P:=h
theorem ValDz3 {P:Prop} (h:P:=by
 go_ret
 exact ⟨congrArg (fun v=>Ending.returned (.int .i64 v)) HN.out.symm,HB.out.trans (HW.out.mono HB.out.size)⟩):P:=h
theorem RDecl_is {x:BdW} {v:Int} {w:World} (h:OneBd w w.heap.size x) (hv:deErr x.v=v) :
 Calls Tryz.prog 60 #[aggBd x] w fun e w'=>e=.returned (.int .i64 v)∧Below w.heap.size w w':=by
 obtain ⟨i0,hi,hz0,hz1,hz2⟩:=info_parts infoS
 have hrn:=h.regions.len
 have hrm:=h.regions.nm
 have hrc:=h.regions.nc
 have hon:=h.outl.nm
 have htm:=h.types.nm
 have htc:=h.types.nc
 have htl:=h.types.len
 have hln:=h.locals.len
 have hlm:=h.locals.nm
 have hbm:=h.blocks.nm
 have hbl:=h.blocks.len
 have hnm:=h.name
 obtain ⟨nm,⟨rA,rn,rc,rL⟩,⟨oA,on,oc,oL⟩,⟨tA,tm,tc,tL⟩,⟨lA,ln,lc,lL⟩,ar,⟨bA,bn,bc,bL⟩⟩:=x
 have hrn:rL.length=rn:=hrn
 have htl:tL.length=tm:=htl
 have hln:lL.length=ln:=hln
 have hbl:bL.length=bn:=hbl
 have hrm:rn≤maxLen:=hrm
 have hrc:rn≤rc:=hrc
 have hlm:ln≤maxLen:=hlm
 have hbm:bn≤maxLen:=hbm
 obtain ⟨id,hid⟩:∃ u,identB nm=u:=⟨_,rfl⟩
 obtain ⟨e1,he1⟩:∃ u,rgErr [] rL=u:=⟨_,rfl⟩
 obtain ⟨e2,he2⟩:∃ u,prChk oL (rn:Int)=u:=⟨_,rfl⟩
 obtain ⟨e3,he3⟩:∃ u,tyChk (tys tL) (rn:Int)=u:=⟨_,rfl⟩
 obtain ⟨e4,he4⟩:∃ u,lcErr tm [] (lL.map LcW.v)=u:=⟨_,rfl⟩
 have hv9:(if id=false then 12 else if 65535 < rn then 15 else if e1≠0 then e1 else if e2≠0 then e2 else if e3≠0 then e3 else if 65535 < ln then 15 else if e4≠0 then e4 else if ar < 0∨(ln:Int) < ar then 3 else if bn=0∨65535 < bn then 15 else 0)=v:=by
  rw [←hv,← hid,← he1,← he2,← he3,← he4]
  unfold deErr
  have q1:(BdW.v ⟨nm,⟨rA,rn,rc,rL⟩,⟨oA,on,oc,oL⟩,⟨tA,tm,tc,tL⟩,⟨lA,ln,lc,lL⟩,ar,⟨bA,bn,bc,bL⟩⟩).regions.length=rn:=hrn
  have q2:(BdW.v ⟨nm,⟨rA,rn,rc,rL⟩,⟨oA,on,oc,oL⟩,⟨tA,tm,tc,tL⟩,⟨lA,ln,lc,lL⟩,ar,⟨bA,bn,bc,bL⟩⟩).types.length=tm:=(List.length_map _).trans htl
  have q3:(BdW.v ⟨nm,⟨rA,rn,rc,rL⟩,⟨oA,on,oc,oL⟩,⟨tA,tm,tc,tL⟩,⟨lA,ln,lc,lL⟩,ar,⟨bA,bn,bc,bL⟩⟩).locals.length=ln:=(List.length_map _).trans hln
  have q4:(BdW.v ⟨nm,⟨rA,rn,rc,rL⟩,⟨oA,on,oc,oL⟩,⟨tA,tm,tc,tL⟩,⟨lA,ln,lc,lL⟩,ar,⟨bA,bn,bc,bL⟩⟩).blocks.length=bn:=(List.length_map _).trans hbl
  rw [q1,q2,q3,q4]
  rfl
 clear hv
 have HB:=hide (show Below w.heap.size w (w.alloc (.cells #[.string nm,.slice rA rn rc,.slice oA on oc,.slice tA tm tc,.slice lA ln lc,.int .i64 ar,.slice bA bn bc] 28)) from (Below.refl w.heap.size w).alloc (Nat.le_refl _) _)
 have HX:=hide (h.up HB.out)
 have hcs:=hide fun (w':World) (y:Below (w.alloc (.cells #[.string nm,.slice rA rn rc,.slice oA on oc,.slice tA tm tc,.slice lA ln lc,.int .i64 ar,.slice bA bn bc] 28)).heap.size (w.alloc (.cells #[.string nm,.slice rA rn rc,.slice oA on oc,.slice tA tm tc,.slice lA ln lc,.int .i64 ar,.slice bA bn bc] 28)) w')=>cells7 y
 have HW0:=hide (Below.refl (w.alloc (.cells #[.string nm,.slice rA rn rc,.slice oA on oc,.slice tA tm tc,.slice lA ln lc,.int .i64 ar,.slice bA bn bc] 28)).heap.size (w.alloc (.cells #[.string nm,.slice rA rn rc,.slice oA on oc,.slice tA tm tc,.slice lA ln lc,.int .i64 ar,.slice bA bn bc] 28)))
 have HID:=hide hid
 have HNM:=hide hnm
 have HE1:=hide he1
 have HE2:=hide he2
 have HE3:=hide he3
 have HE4:=hide he4
 have HRL:=hide hrn
 have HLL:=hide hln
 have HON:=hide hon
 have HTM:=hide htm
 have HTC:=hide htc
 unfold maxLen at hrm hlm hbm
 clear h he1 he2 he3 he4 hid hrn htl hln hbl hnm hon htm htc
 cases id
 case false=>
  obtain rfl:v=12:=by rw [←hv9];rfl
  clear hv9
  exact ValDz1
 have hv8:=hv9
 rw [if_neg (by simp)] at hv8
 clear hv9
 by_cases q1:65535 < rn
 case pos=>
  have q1i:(65535:Int) < (rn:Int):=by omega
  obtain rfl:v=15:=by rw [←hv8,if_pos q1]
  clear hv8 q1
  exact ValDz1
 have q1i:¬(65535:Int) < (rn:Int):=by omega
 rw [if_neg q1] at hv8
 clear q1
 have HV:=hide hv8
 clear hv8
 go_enter Tryz.func60,Tryz.ntmps60
 go_wp2_with fail
 refine (RefIdent_is HID.out _ HNM.out).mono ?_
 rintro e9 w1 ⟨rfl,rfl⟩
 go_wp2
 go_loopw [3] (fun i wr=>∃ j:Nat,i=.int .i64 (j:Int)∧j≤rn∧Hid (rgErr (rL.take j) (rL.drop j)=e1)∧Hid (Below (w.alloc (.cells #[.string nm,.slice rA rn rc,.slice oA on oc,.slice tA tm tc,.slice lA ln lc,.int .i64 ar,.slice bA bn bc] 28)).heap.size (w.alloc (.cells #[.string nm,.slice rA rn rc,.slice oA on oc,.slice tA tm tc,.slice lA ln lc,.int .i64 ar,.slice bA bn bc] 28)) wr)) (fun i _=>rn - (intOf i).toNat)
 case atStart=>exact ⟨0,rfl,Nat.zero_le _,hide HE1.out,hide HW0.out⟩
 case round=>
  obtain ⟨j,rfl,hj,HE,HW⟩:=hrel
  obtain ⟨c0,c1,c2,c3,c4,c5,c6⟩:=hcs.out _ HW.out
  by_cases hlt:j < rn
  ·
   have hlt':(j:Int) < (rn:Int):=by omega
   obtain ⟨s,hs⟩:∃ s,rL[j]?=some s:=⟨_,List.getElem?_eq_getElem (by have:rL.length=rn:=HRL.out;omega)⟩
   have hax:=(HX.out.up HW.out).regions
   obtain ⟨b,o,hA,hb,hsz,hc⟩:=hax.at_ hs
   have hA:rA=some ⟨b,o,none⟩:=hA
   subst hA
   have cs0:wr.cell? ⟨b,o+j,none⟩=some (.string s):=by have:=hc 0 _ rfl;simpa using this
   have HRd:=hide (show Rd wr wr.heap.size (some ⟨b,o,none⟩) j (sV (rL.take j)) from by have h9:=Rd.to_ (strs_rd10 hax) (k:=j) (by show j≤rn;omega);unfold sV at h9 ⊢;rw [List.map_take];exact h9)
   have HS:=hide (rgErr_at (l:=rL) hs)
   obtain ⟨ib,hib⟩:∃ u,identB s=u:=⟨_,rfl⟩
   obtain ⟨hz,hhz⟩:∃ u,hasB (rL.take j) s=u:=⟨_,rfl⟩
   clear hs hax hc
   have HIB:=hide hib
   clear hib
   have HHZ:=hide hhz
   clear hhz
   have HSZ:=hide hsz
   clear hsz
   cases ib
   case false=>
    have HN:=hide (show v=12 from by have z:e1=12:=(by rw [←HE.out,HS.out,HIB.out];rfl);rw [←HV.out,z];rfl)
    go_wp2_with fail
    refine (RefIdent_is HIB.out _ HSZ.out).mono ?_
    rintro e8 w8 ⟨rfl,rfl⟩
    go_wp2
    exact ValDz3
   have hc10:=hide fun (w':World) (y:Below wr.heap.size wr w')=>(show w'.cell? ⟨w.heap.size,1,none⟩=some (.slice (some ⟨b,o,none⟩) rn rc)∧w'.cell? ⟨b,o+j,none⟩=some (.string s) from ⟨(hcs.out _ (HW.out.trans (y.mono HW.out.size))).2.1,(y.cell (p:=⟨b,o+j,none⟩) hb).trans cs0⟩)
   have HYr:=hide (Below.refl wr.heap.size wr)
   have hjm:j≤maxLen:=by unfold maxLen;omega
   have hjI:(0:Int)≤(j:Int):=by omega
   have hjc:(j:Int)≤(rc:Int):=by omega
   cases hz
   case true=>
    have HIX:=hide fun (w':World) (y:Below wr.heap.size wr w')=>RIndex_yes (c:=rc) HHZ.out ((HRd.out.below y)) hjm
    have HN:=hide (show v=21 from by have z:e1=21:=(by rw [←HE.out,HS.out,HIB.out,HHZ.out];rfl);rw [←HV.out,z];rfl)
    go_wp2_with fail
    refine (RefIdent_is HIB.out _ HSZ.out).mono ?_
    rintro e8 w8 ⟨rfl,rfl⟩
    go_wp2
    have HD10:=hide (HYr.out.drew)
    refine wp_region_held_drew (S:=(fun w'=>w'.cell? ⟨w.heap.size,1,none⟩=some (.slice (some ⟨b,o,none⟩) rn rc)∧w'.cell? ⟨b,o+j,none⟩=some (.string s))) (by kernel_rfl) (hc10.out _ HD10.out) (fun hHeld=>?_)
    refine planS [0,1,2,3,4,5,6,7,8] ?_
    repeat' (first | refine pT hHeld rfl ?_ | refine pS hHeld rfl ?_)
    refine planE ?_
    refine wpAnyH_ready (rs:=[9]) (by kernel_rfl) (by simp) ?_
    refine AllReadyH.cons rfl (fun KZ hK=>?_) AllReadyH.nil
    go_simp
    refine (HIX.out _ HD10.out).mono ?_
    rintro e7 w7 ⟨k,rfl,hk0,rfl⟩
    refine hK.out _ _ (hc10.out _ HD10.out) (fun hHeld=>?_)
    clear hK KZ
    try simp only [Act.put,List.setIfInBounds_toArray,List.set_cons_zero,List.set_cons_succ]
    refine planS [10] ?_
    repeat' (first | refine pT hHeld rfl ?_ | refine pS hHeld rfl ?_)
    refine planE ?_
    refine wpAnyH_done (by kernel_rfl) ?_ _
    have HZ:=hide (HW.out.trans (HD10.out.mono HW.out.size))
    go_wp2
    go_ret
    exact ⟨congrArg (fun v=>Ending.returned (.int .i64 v)) HN.out.symm,HB.out.trans (HZ.out.mono HB.out.size)⟩
   case false=>
    have HIX:=hide fun (w':World) (y:Below wr.heap.size wr w')=>RIndex_no (c:=rc) HHZ.out ((HRd.out.below y)) hjm
    have HN:=hide (show rgErr (rL.take (j+1)) (rL.drop (j+1))=e1 from by rw [←HE.out,HS.out,HIB.out,HHZ.out];rfl)
    go_wp2_with fail
    refine (RefIdent_is HIB.out _ HSZ.out).mono ?_
    rintro e8 w8 ⟨rfl,rfl⟩
    go_wp2
    have HD10:=hide (HYr.out.drew)
    refine wp_region_held_drew (S:=(fun w'=>w'.cell? ⟨w.heap.size,1,none⟩=some (.slice (some ⟨b,o,none⟩) rn rc)∧w'.cell? ⟨b,o+j,none⟩=some (.string s))) (by kernel_rfl) (hc10.out _ HD10.out) (fun hHeld=>?_)
    refine planS [0,1,2,3,4,5,6,7,8] ?_
    repeat' (first | refine pT hHeld rfl ?_ | refine pS hHeld rfl ?_)
    refine planE ?_
    refine wpAnyH_ready (rs:=[9]) (by kernel_rfl) (by simp) ?_
    refine AllReadyH.cons rfl (fun KZ hK=>?_) AllReadyH.nil
    go_simp
    refine (HIX.out _ HD10.out).mono ?_
    rintro e7 w7 ⟨rfl,rfl⟩
    refine hK.out _ _ (hc10.out _ HD10.out) (fun hHeld=>?_)
    clear hK KZ
    try simp only [Act.put,List.setIfInBounds_toArray,List.set_cons_zero,List.set_cons_succ]
    refine planS [10] ?_
    repeat' (first | refine pT hHeld rfl ?_ | refine pS hHeld rfl ?_)
    refine planE ?_
    refine wpAnyH_done (by kernel_rfl) ?_ _
    have HZ:=hide (HW.out.trans (HD10.out.mono HW.out.size))
    go_wp2
    go_roundw
    case rel=>exact ⟨j+1,by go_num,by omega,hide HN.out,hide HZ.out⟩
    case measure=>simp [intOf];omega
  ·
   obtain rfl:rn=j:=by omega
   have z1:e1=0:=by rw [←HE.out];exact rgErr_end (by have:rL.length=rn:=HRL.out;omega)
   have hv7:=HV.out
   rw [if_neg (by rw [z1];simp)] at hv7
   clear z1 hlt hj
   generalize wr=wq at *
   have HRG:=hide fun (w':World) (y:Below (w.alloc (.cells #[.string nm,.slice rA rn rc,.slice oA on oc,.slice tA tm tc,.slice lA ln lc,.int .i64 ar,.slice bA bn bc] 28)).heap.size (w.alloc (.cells #[.string nm,.slice rA rn rc,.slice oA on oc,.slice tA tm tc,.slice lA ln lc,.int .i64 ar,.slice bA bn bc] 28)) w')=>RRegCheck_is (c:=oc) HE2.out w' ((HX.out.up y).prs) HON.out
   have HTY:=hide fun (w':World) (y:Below (w.alloc (.cells #[.string nm,.slice rA rn rc,.slice oA on oc,.slice tA tm tc,.slice lA ln lc,.int .i64 ar,.slice bA bn bc] 28)).heap.size (w.alloc (.cells #[.string nm,.slice rA rn rc,.slice oA on oc,.slice tA tm tc,.slice lA ln lc,.int .i64 ar,.slice bA bn bc] 28)) w')=>RCheckT_is (c:=tc) HE3.out w' ((HX.out.up y).typs) HTM.out HTC.out
   by_cases q2:e2=0
   case neg=>
    have t2:(e2 != 0)=true:=by simp [q2]
    obtain rfl:v=e2:=by rw [←hv7,if_pos q2]
    clear hv7 q2
    go_wp2_with fail
    refine (HRG.out _ HW.out).mono ?_
    rintro e6 w6 ⟨rfl,rfl⟩
    go_wp2
    exact ValDz2
   have t2:(e2 != 0)=false:=by simp [q2]
   rw [if_neg (by omega)] at hv7
   clear q2
   by_cases q3:e3=0
   case neg=>
    have t3:(e3 != 0)=true:=by simp [q3]
    obtain rfl:v=e3:=by rw [←hv7,if_pos q3]
    clear hv7 q3
    go_wp2_with fail
    refine (HRG.out _ HW.out).mono ?_
    rintro e6 w6 ⟨rfl,rfl⟩
    go_wp2_with fail
    refine (HTY.out _ HW.out).mono ?_
    rintro e5 w5 ⟨rfl,hb5⟩
    have HW5:=hide (HW.out.trans (hb5.mono HW.out.size))
    clear hb5
    go_wp2
    go_ret
    exact ⟨rfl,HB.out.trans (HW5.out.mono HB.out.size)⟩
   have t3:(e3 != 0)=false:=by simp [q3]
   rw [if_neg (by omega)] at hv7
   clear q3
   by_cases q4:65535 < ln
   case pos=>
    have q4i:(65535:Int) < (ln:Int):=by omega
    obtain rfl:v=15:=by rw [←hv7,if_pos q4]
    clear hv7 q4
    go_wp2_with fail
    refine (HRG.out _ HW.out).mono ?_
    rintro e6 w6 ⟨rfl,rfl⟩
    go_wp2_with fail
    refine (HTY.out _ HW.out).mono ?_
    rintro e5 w5 ⟨rfl,hb5⟩
    have HW5:=hide (HW.out.trans (hb5.mono HW.out.size))
    clear hb5
    obtain ⟨d0,d1,d2,d3,d4,d5,d6⟩:=hcs.out _ HW5.out
    go_wp2
    go_ret
    exact ⟨rfl,HB.out.trans (HW5.out.mono HB.out.size)⟩
   have q4i:¬(65535:Int) < (ln:Int):=by omega
   rw [if_neg q4] at hv7
   clear q4
   have HV2:=hide hv7
   clear hv7
   go_wp2_with fail
   refine (HRG.out _ HW.out).mono ?_
   rintro e6 w6 ⟨rfl,rfl⟩
   go_wp2_with fail
   refine (HTY.out _ HW.out).mono ?_
   rintro e5 w5 ⟨rfl,hb5⟩
   have HW5:=hide (HW.out.trans (hb5.mono HW.out.size))
   clear hb5
   obtain ⟨d0,d1,d2,d3,d4,d5,d6⟩:=hcs.out _ HW5.out
   go_wp2
   clear d0 d1 d2 d3 d4 d5 d6 c0 c1 c2 c3 c4 c5 c6
   obtain ⟨base,hbase⟩:∃ b,(w.alloc (.cells #[.string nm,.slice rA rn rc,.slice oA on oc,.slice tA tm tc,.slice lA ln lc,.int .i64 ar,.slice bA bn bc] 28)).heap.size=b:=⟨_,rfl⟩
   have Hbase:=hide hbase
   clear hbase
   go_loopw [5,6] (fun nv i wr=>∃ (j:Nat) (A:Option Addr) (c:Nat),nv=.slice A j c∧i=.int .i64 (j:Int)∧j≤ln∧Hid (lcErr tm ((lL.take j).map (fun l=>l.v.name)) ((lL.map LcW.v).drop j)=e4)∧Hid (wr.ownsRow base 9 1 (.slice A j c) j (sV ((lL.take j).map (fun l=>l.v.name))))∧Hid (Below (w.alloc (.cells #[.string nm,.slice rA rn rc,.slice oA on oc,.slice tA tm tc,.slice lA ln lc,.int .i64 ar,.slice bA bn bc] 28)).heap.size (w.alloc (.cells #[.string nm,.slice rA rn rc,.slice oA on oc,.slice tA tm tc,.slice lA ln lc,.int .i64 ar,.slice bA bn bc] 28)) wr)) (fun _ i _=>ln - (intOf i).toNat)
   case atStart=>exact ⟨0,none,0,rfl,rfl,Nat.zero_le _,hide HE4.out,hide (World.ownsRow_nil _ _ _ _),hide HW5.out⟩
   case round=>
    obtain ⟨j,A,c,rfl,rfl,hj,HE,HO,HW⟩:=hrel
    generalize wr=wl at *
    obtain ⟨c0,c1,c2,c3,c4,c5,c6⟩:=hcs.out _ HW.out
    have hsz:base≤wl.heap.size:=by rw [←Hbase.out];exact HW.out.size
    by_cases hlt:j < ln
    ·
     have hlt':(j:Int) < (ln:Int):=by omega
     obtain ⟨p,hp⟩:∃ s,lL[j]?=some s:=⟨_,List.getElem?_eq_getElem (by have:lL.length=ln:=HLL.out;omega)⟩
     have hpv:(lL.map LcW.v)[j]?=some p.v:=by rw [List.getElem?_map,hp];rfl
     obtain ⟨b,o,hA,hb,hone,hc⟩:=(HX.out.up HW.out).locals.at_ hp
     have hA:lA=some ⟨b,o,none⟩:=hA
     subst hA
     obtain ⟨s,ty⟩:=p
     have cs0:wl.cell? ⟨b,o+j*2,none⟩=some (.string s):=hc 0 _ rfl
     have cs1:wl.cell? ⟨b,o+j*2+1,none⟩=some (.int .i64 ty):=hc 1 _ rfl
     have hl9:∀ k,((lL.map LcW.v).take k).map LcV.name=(lL.take k).map (fun l=>l.v.name):=fun k=>by rw [←List.map_take,List.map_map];rfl
     have hS0:=lcErr_at (nt:=tm) hpv
     rw [hl9,hl9] at hS0
     have HS:=hide hS0
     obtain ⟨X,hX⟩:∃ u,(lL.take j).map (fun l=>l.v.name)=u:=⟨_,rfl⟩
     have HXX:=hide (show (lL.take (j+1)).map (fun l=>l.v.name)=X++[s] from by rw [take_up10 hp,List.map_append,hX];rfl)
     rw [hX] at HE HO HS
     obtain ⟨ib,hib⟩:∃ u,identB s=u:=⟨_,rfl⟩
     obtain ⟨hz,hhz⟩:∃ u,hasB X s=u:=⟨_,rfl⟩
     clear hp hpv hc hS0 hl9 hX
     have HIB:=hide hib
     clear hib
     have HHZ:=hide hhz
     clear hhz
     have HSZ:=hide hone.2
     clear hone
     have HRd:=hide (Rd.of_own HO.out)
     have hjm:j≤maxLen:=by unfold maxLen;omega
     cases ib
     case false=>
      have HN:=hide (show v=12 from by have z:e4=12:=(by rw [←HE.out,HS.out];show (if identB s=false then (12:Int) else _)=12;rw [HIB.out];rfl);rw [←HV2.out,z];rfl)
      go_wp2_with fail
      refine (RefIdent_is HIB.out _ HSZ.out).mono ?_
      rintro e8 w8 ⟨rfl,rfl⟩
      go_wp2
      exact ValDz3
     cases hz
     case true=>
      have HN:=hide (show v=21 from by have z:e4=21:=(by rw [←HE.out,HS.out];show (if identB s=false then (12:Int) else if hasB X s=true then 21 else _)=21;rw [HIB.out,HHZ.out];rfl);rw [←HV2.out,z];rfl)
      go_wp2_with fail
      refine (RefIdent_is HIB.out _ HSZ.out).mono ?_
      rintro e8 w8 ⟨rfl,rfl⟩
      go_wp2_with fail
      refine (RIndex_yes (c:=c) HHZ.out HRd.out hjm).mono ?_
      rintro e7 w7 ⟨k,rfl,hk0,rfl⟩
      go_wp2
      exact ValDz3
     have HS2:=hide (show (if ty < 0∨(tm:Int)≤ty then 3 else lcErr tm (X++[s]) ((lL.map LcW.v).drop (j+1)))=e4 from by rw [←HE.out,HS.out];show _=(if identB s=false then (12:Int) else if hasB X s=true then 21 else _);rw [HIB.out,HHZ.out,HXX.out];rfl)
     have hc28:=hide fun (w':World) (y:Below wl.heap.size wl w')=>(show w'.cell? ⟨w.heap.size,4,none⟩=some (.slice (some ⟨b,o,none⟩) ln lc)∧w'.cell? ⟨b,o+j*2+1,none⟩=some (.int .i64 ty)∧w'.cell? ⟨w.heap.size,3,none⟩=some (.slice tA tm tc) from ⟨(hcs.out _ (HW.out.trans (y.mono HW.out.size))).2.2.2.2.1,(y.cell (p:=⟨b,o+j*2+1,none⟩) hb).trans cs1,(hcs.out _ (HW.out.trans (y.mono HW.out.size))).2.2.2.1⟩)
     have HYr:=hide (Below.refl wl.heap.size wl)
     by_cases q6:ty < 0
     case pos=>
      have q6d:decide (ty < 0)=true:=decide_eq_true q6
      have HN:=hide (show v=3 from by have z:e4=3:=(by rw [←HS2.out,if_pos (.inl q6)]);rw [←HV2.out,z];rfl)
      go_wp2_with fail
      exact ValDz0
     have q6n:0≤ty:=by omega
     have q6d:decide (ty < 0)=false:=decide_eq_false q6
     by_cases q7:(tm:Int)≤ty
     case pos=>
      have q7d:decide ((tm:Int)≤ty)=true:=decide_eq_true q7
      have HN:=hide (show v=3 from by have z:e4=3:=(by rw [←HS2.out,if_pos (.inr q7)]);rw [←HV2.out,z];rfl)
      go_wp2_with fail
      exact ValDz0
     have q7n:ty < (tm:Int):=by omega
     have q7d:decide ((tm:Int)≤ty)=false:=decide_eq_false q7
     have HN:=hide (show lcErr tm ((lL.take (j+1)).map (fun l=>l.v.name)) ((lL.map LcW.v).drop (j+1))=e4 from by rw [HXX.out,← HS2.out,if_neg (by omega)])
     go_wp2_with fail
     refine (RefIdent_is HIB.out _ HSZ.out).mono ?_
     rintro e8 w8 ⟨rfl,rfl⟩
     go_wp2_with fail
     refine (RIndex_no (c:=c) HHZ.out HRd.out hjm).mono ?_
     rintro e7 w7 ⟨rfl,rfl⟩
     go_wp2
     have HD28:=hide (HYr.out.drew)
     refine wp_region_held_drew (S:=(fun w'=>w'.cell? ⟨w.heap.size,4,none⟩=some (.slice (some ⟨b,o,none⟩) ln lc)∧w'.cell? ⟨b,o+j*2+1,none⟩=some (.int .i64 ty)∧w'.cell? ⟨w.heap.size,3,none⟩=some (.slice tA tm tc))) (by kernel_rfl) (hc28.out _ HD28.out) (fun hHeld=>?_)
     refine planS [0,1,2,3,4,5,6,7,8,9,10,11,12,13,14,15,16,17,18] ?_
     repeat' (first | refine pT hHeld rfl ?_ | refine pS hHeld rfl ?_)
     refine planE ?_
     refine wpAnyH_done (by kernel_rfl) ?_ _
     have HZ:=hide (HW.out.trans (HD28.out.mono HW.out.size))
     have hs5:=(hcs.out _ HZ.out).2.2.2.2.1
     have hc5:=(hc28.out _ HD28.out).2.1
     have hn5:wl.drew.cell? ⟨b,o+j*2,none⟩=some (.string s):=(HD28.out.cell (p:=⟨b,o+j*2,none⟩) hb).trans cs0
     have ho0:=hide (show (wl.drew).ownsRow base 9 1 (.slice A j c) j (sV X) from World.ownsRow.drew HO.out)
     have ho1:=hide (ho0.out.alloc (.cells #[.string s] 9))
     have hb1:=hide ((Hbase.out ▸ HZ.out:Below base _ wl.drew).alloc hsz (.cells #[.string s] 9))
     go_wp2_with (at_builtin;refine wpList_append_own_at _ rfl (.tmp 105) (.tmp 112) 22 rfl base 9 i0 (.string .empty) 1 16 Tryz.underlying22 hi hz0 hz1 hz2 rfl (by decide) _ j _ rfl ho1.out ⟨wl.drew.heap.size,0,none⟩ 1 1 [.string s] rfl rfl (strLit wl.drew [.string s] 9) (sV_one [s]) (by unfold maxLen;omega) (by omega) (by simp;exact Nat.le_trans hsz (Nat.le_succ _)) ?_;intro v5 w5 hown5 hg5 _ hat5;have HO5:=hide hown5;have HB5:=hide (below_app hb1.out ho1.out (by simp;exact Nat.le_trans hsz (Nat.le_succ _)) hg5);clear hown5 hg5 hat5)
     obtain ⟨A5,c5q,hv5⟩:=own_slice10 HO5.out
     subst hv5
     go_roundw
     case rel=>exact ⟨j+1,A5,c5q,rfl,by go_num,by omega,hide HN.out,hide (by rw [HXX.out,← sV_app9];exact HO5.out),hide (Hbase.out ▸ HB5.out)⟩
     case measure=>simp [intOf];omega
    ·
     obtain rfl:ln=j:=by omega
     have z4:e4=0:=by rw [←HE.out];exact lcErr_nil9 (by rw [List.length_map];have:lL.length=ln:=HLL.out;omega)
     have hv6:=HV2.out
     rw [if_neg (by rw [z4];simp)] at hv6
     clear z4 hlt hj
     by_cases p1:ar < 0
     case pos=>
      obtain rfl:v=3:=by rw [←hv6,if_pos (.inl p1)]
      clear hv6
      go_wp2
      exact ValDz2
     have p1n:0≤ar:=by omega
     by_cases p2:(ln:Int) < ar
     case pos=>
      obtain rfl:v=3:=by rw [←hv6,if_pos (.inr p2)]
      clear hv6
      go_wp2
      exact ValDz2
     have p2n:ar≤(ln:Int):=by omega
     rw [if_neg (by omega)] at hv6
     by_cases p3:bn=0
     case pos=>
      have p3t:((bn:Int) == 0)=true:=by simp [p3]
      obtain rfl:v=15:=by rw [←hv6,if_pos (.inl p3)]
      clear hv6 p3
      go_wp2
      exact ValDz2
     have p3t:((bn:Int) == 0)=false:=by simp [p3]
     by_cases p4:65535 < bn
     case pos=>
      have p4t:(65535:Int) < (bn:Int):=by omega
      obtain rfl:v=15:=by rw [←hv6,if_pos (.inr p4)]
      clear hv6 p3 p4
      go_wp2
      exact ValDz2
     have p4t:¬(65535:Int) < (bn:Int):=by omega
     obtain rfl:v=0:=by rw [←hv6,if_neg (by omega)]
     clear hv6 p3 p4
     go_wp2
     exact ValDz2
theorem boxes77 (w:World) (a0 a1 a2 a3 a4 a5 a6 b0 b1 b2 b3 b4 b5 b6:Value) (T U:TypeId):∃ WW,WW=(w.alloc (.cells #[a0,a1,a2,a3,a4,a5,a6] T)).alloc (.cells #[b0,b1,b2,b3,b4,b5,b6] U)∧Below w.heap.size w WW∧(∀ w',Below WW.heap.size WW w'→(∀ (j:Nat) (u:Value),[a0,a1,a2,a3,a4,a5,a6][j]?=some u→w'.cell? ⟨w.heap.size,j,none⟩=some u)∧(∀ (j:Nat) (u:Value),[b0,b1,b2,b3,b4,b5,b6][j]?=some u→w'.cell? ⟨w.heap.size+1,j,none⟩=some u))∧∀ w',Below WW.heap.size WW w'→w'.cell? ⟨w.heap.size,0,none⟩=some a0∧w'.cell? ⟨w.heap.size,1,none⟩=some a1∧w'.cell? ⟨w.heap.size,2,none⟩=some a2∧w'.cell? ⟨w.heap.size,3,none⟩=some a3∧w'.cell? ⟨w.heap.size,4,none⟩=some a4∧w'.cell? ⟨w.heap.size,5,none⟩=some a5∧w'.cell? ⟨w.heap.size,6,none⟩=some a6∧w'.cell? ⟨w.heap.size+1,0,none⟩=some b0∧w'.cell? ⟨w.heap.size+1,1,none⟩=some b1∧w'.cell? ⟨w.heap.size+1,2,none⟩=some b2∧w'.cell? ⟨w.heap.size+1,3,none⟩=some b3∧w'.cell? ⟨w.heap.size+1,4,none⟩=some b4∧w'.cell? ⟨w.heap.size+1,5,none⟩=some b5∧w'.cell? ⟨w.heap.size+1,6,none⟩=some b6:=
 ⟨_,rfl,two_below w [a0,a1,a2,a3,a4,a5,a6] T [b0,b1,b2,b3,b4,b5,b6] U,(fun w' y=>two_cells (w:=w) (cs:=[a0,a1,a2,a3,a4,a5,a6]) (T:=T) (ds:=[b0,b1,b2,b3,b4,b5,b6]) (U:=U) y),fun w' y=>by
  obtain ⟨a,b⟩:=two_cells (w:=w) (cs:=[a0,a1,a2,a3,a4,a5,a6]) (T:=T) (ds:=[b0,b1,b2,b3,b4,b5,b6]) (U:=U) y
  exact ⟨a 0 _ rfl,a 1 _ rfl,a 2 _ rfl,a 3 _ rfl,a 4 _ rfl,a 5 _ rfl,a 6 _ rfl,b 0 _ rfl,b 1 _ rfl,b 2 _ rfl,b 3 _ rfl,b 4 _ rfl,b 5 _ rfl,b 6 _ rfl⟩⟩
theorem boxes76 (w:World) (a0 a1 a2 a3 a4 a5 a6 b0 b1 b2 b3 b4 b5:Value) (T U:TypeId):∃ WW,WW=(w.alloc (.cells #[a0,a1,a2,a3,a4,a5,a6] T)).alloc (.cells #[b0,b1,b2,b3,b4,b5] U)∧Below w.heap.size w WW∧(∀ w',Below WW.heap.size WW w'→(∀ (j:Nat) (u:Value),[a0,a1,a2,a3,a4,a5,a6][j]?=some u→w'.cell? ⟨w.heap.size,j,none⟩=some u)∧(∀ (j:Nat) (u:Value),[b0,b1,b2,b3,b4,b5][j]?=some u→w'.cell? ⟨w.heap.size+1,j,none⟩=some u))∧∀ w',Below WW.heap.size WW w'→w'.cell? ⟨w.heap.size,0,none⟩=some a0∧w'.cell? ⟨w.heap.size,1,none⟩=some a1∧w'.cell? ⟨w.heap.size,2,none⟩=some a2∧w'.cell? ⟨w.heap.size,3,none⟩=some a3∧w'.cell? ⟨w.heap.size,4,none⟩=some a4∧w'.cell? ⟨w.heap.size,5,none⟩=some a5∧w'.cell? ⟨w.heap.size,6,none⟩=some a6∧w'.cell? ⟨w.heap.size+1,0,none⟩=some b0∧w'.cell? ⟨w.heap.size+1,1,none⟩=some b1∧w'.cell? ⟨w.heap.size+1,2,none⟩=some b2∧w'.cell? ⟨w.heap.size+1,3,none⟩=some b3∧w'.cell? ⟨w.heap.size+1,4,none⟩=some b4∧w'.cell? ⟨w.heap.size+1,5,none⟩=some b5:=
 ⟨_,rfl,two_below w [a0,a1,a2,a3,a4,a5,a6] T [b0,b1,b2,b3,b4,b5] U,(fun w' y=>two_cells (w:=w) (cs:=[a0,a1,a2,a3,a4,a5,a6]) (T:=T) (ds:=[b0,b1,b2,b3,b4,b5]) (U:=U) y),fun w' y=>by
  obtain ⟨a,b⟩:=two_cells (w:=w) (cs:=[a0,a1,a2,a3,a4,a5,a6]) (T:=T) (ds:=[b0,b1,b2,b3,b4,b5]) (U:=U) y
  exact ⟨a 0 _ rfl,a 1 _ rfl,a 2 _ rfl,a 3 _ rfl,a 4 _ rfl,a 5 _ rfl,a 6 _ rfl,b 0 _ rfl,b 1 _ rfl,b 2 _ rfl,b 3 _ rfl,b 4 _ rfl,b 5 _ rfl⟩⟩
theorem boxes76a (w:World) (a0 a1 a2 a3 a4 a5 a6 b0 b1 b2 b3 b4 b5:Value) (T U V:TypeId) (L:List Value):∃ WW,WW=((w.alloc (.cells #[a0,a1,a2,a3,a4,a5,a6] T)).alloc (.cells #[b0,b1,b2,b3,b4,b5] U)).alloc (.cells L.toArray V)∧Below w.heap.size w WW∧(∀ w',Below WW.heap.size WW w'→w'.cell? ⟨w.heap.size,0,none⟩=some a0∧w'.cell? ⟨w.heap.size,1,none⟩=some a1∧w'.cell? ⟨w.heap.size,2,none⟩=some a2∧w'.cell? ⟨w.heap.size,3,none⟩=some a3∧w'.cell? ⟨w.heap.size,4,none⟩=some a4∧w'.cell? ⟨w.heap.size,5,none⟩=some a5∧w'.cell? ⟨w.heap.size,6,none⟩=some a6∧w'.cell? ⟨w.heap.size+1,0,none⟩=some b0∧w'.cell? ⟨w.heap.size+1,1,none⟩=some b1∧w'.cell? ⟨w.heap.size+1,2,none⟩=some b2∧w'.cell? ⟨w.heap.size+1,3,none⟩=some b3∧w'.cell? ⟨w.heap.size+1,4,none⟩=some b4∧w'.cell? ⟨w.heap.size+1,5,none⟩=some b5)∧∀ w',Below WW.heap.size WW w'→∀ (j:Nat) (u:Value),L[j]?=some u→w'.cell? ⟨w.heap.size+1+1,j,none⟩=some u:=
 ⟨_,rfl,(two_below w [a0,a1,a2,a3,a4,a5,a6] T [b0,b1,b2,b3,b4,b5] U).alloc (by simp [two];omega) _,(fun w' y=>by
  have y2:=((Below.refl _ (two w [a0,a1,a2,a3,a4,a5,a6] T [b0,b1,b2,b3,b4,b5] U)).alloc (Nat.le_refl _) (.cells L.toArray V)).trans (y.mono (by simp [two]))
  obtain ⟨a,b⟩:=two_cells (w:=w) (cs:=[a0,a1,a2,a3,a4,a5,a6]) (T:=T) (ds:=[b0,b1,b2,b3,b4,b5]) (U:=U) y2
  exact ⟨a 0 _ rfl,a 1 _ rfl,a 2 _ rfl,a 3 _ rfl,a 4 _ rfl,a 5 _ rfl,a 6 _ rfl,b 0 _ rfl,b 1 _ rfl,b 2 _ rfl,b 3 _ rfl,b 4 _ rfl,b 5 _ rfl⟩),fun w' y j u hu=>by
  have hz:(two w [a0,a1,a2,a3,a4,a5,a6] T [b0,b1,b2,b3,b4,b5] U).heap.size=w.heap.size+1+1:=by simp [two]
  have h9:=one_cells (w:=two w [a0,a1,a2,a3,a4,a5,a6] T [b0,b1,b2,b3,b4,b5] U) (cs:=L) (T:=V) y j u hu
  rw [hz] at h9
  exact h9⟩
def opRows:List (List Int):=[[2,0,2,2],[2,1,1,1],[3,0,2,2],[3,1,2,2],[3,2,2,2],[3,3,2,1],[3,4,2,1],[3,5,1,1]]
def opCells:List Value:=opRows.flatten.map fun k=>.int .i64 k
def OpsT (w:World):Prop:=∀ (j:Nat) (u:Value),opCells[j]?=some u→w.cell? ⟨0,j,none⟩=some u
theorem OpsT.lt {w:World} (h:OpsT w):0 < w.heap.size:=by
 have h1:=h 0 (.int .i64 2) rfl
 apply Nat.pos_of_ne_zero
 intro e
 have h2:w.heap[0]?=none:=Array.getElem?_eq_none (by omega)
 simp [World.cell?,h2] at h1
theorem OpsT.keep {w w':World} (h:OpsT w) (hb:w'.heap[0]?=w.heap[0]?):OpsT w':=fun j u hu=>(World.cell?_of_block (w:=w) (a:=⟨0,j,none⟩) hb).trans (h j u hu)
theorem OpsT.up {w w':World} (h:OpsT w) (hb:Below w.heap.size w w'):OpsT w':=h.keep (hb.block 0 h.lt)
def MapI (b N:Nat) (f:Int→Bool) (w:World):Prop:=∃ m Dm,w.ownsMap (H:=Unit) Tryz.prog 3 (plainElem Tryz.prog 4) b m Dm ∧
 ∀ q,IntR q→Maps.has Dm (.int .i64 q)=true→0≤q∧q < (N:Int)∧∀ z,Dm.atKey (.int .i64 q) z=.lit (.bool (f q))
def MapP (b N:Nat) (f:Int→Int→Bool) (w:World):Prop:=∃ (M:List Pr) (m:Nat) (Dm:DataW Unit),w.ownsMap (H:=Unit) Tryz.prog 47 (plainElem Tryz.prog 4) b m Dm∧m≤M.length∧M.Nodup ∧
 (∀ p∈M,(0≤p.1∧p.1 < (N:Int))∧0≤p.2∧p.2 < (N:Int))∧(∀ p,IntP p→(Maps.has Dm (keyP p)=true↔p∈M))∧∀ p∈M,∀ z,Dm.atKey (keyP p) z=.lit (.bool (f p.1 p.2))
section
variable {b N:Nat} {w w':World}
theorem MapI.block {f:Int→Bool} (h:MapI b N f w) (hb:w'.heap[b]?=w.heap[b]?):MapI b N f w':=by
 obtain ⟨m,Dm,h1,h2⟩:=h
 exact ⟨m,Dm,owns_block h1 hb,h2⟩
theorem MapP.block {f:Int→Int→Bool} (h:MapP b N f w) (hb:w'.heap[b]?=w.heap[b]?):MapP b N f w':=by
 obtain ⟨M,m,Dm,h1,h2⟩:=h
 exact ⟨M,m,Dm,owns_block h1 hb,h2⟩
theorem MapI.lt {f:Int→Bool} (h:MapI b N f w):b < w.heap.size:=by
 obtain ⟨m,Dm,h1,_⟩:=h
 exact owns_lt h1
theorem MapP.lt {f:Int→Int→Bool} (h:MapP b N f w):b < w.heap.size:=by
 obtain ⟨M,m,Dm,h1,_⟩:=h
 exact owns_lt h1
theorem owns_nocell {H:Type} {P:Program} {k:TypeId} {R:Value→Option (DataW H×List MemPlace)} {m:Nat} {D:DataW H} (h:w.ownsMap P k R b m D) (o:Nat):w.cell? ⟨b,o,none⟩=none:=by
 obtain ⟨es,clock,h1,_⟩:=h
 simp [World.cell?,h1]
theorem MapI.nocell {f:Int→Bool} (h:MapI b N f w) (o:Nat):w.cell? ⟨b,o,none⟩=none:=by
 obtain ⟨m,Dm,h1,_⟩:=h
 exact owns_nocell h1 o
theorem MapP.nocell {f:Int→Int→Bool} (h:MapP b N f w) (o:Nat):w.cell? ⟨b,o,none⟩=none:=by
 obtain ⟨M,m,Dm,h1,_⟩:=h
 exact owns_nocell h1 o
end
def NoPtr (w w':World):Prop:=w.heap.size≤w'.heap.size∧∀ (b o:Nat) (v:Value),w.cell? ⟨b,o,none⟩=some v→(∀ p,v≠.pointer p)→w'.cell? ⟨b,o,none⟩=some v
theorem Rd.noptr {w w':World} {B n:Nat} {A:Option Addr} {xs:List Value} (h:Rd w B A n xs) (hk:NoPtr w w') (hx:∀ u∈xs,∀ p,u≠.pointer p):Rd w' B A n xs:=
 ⟨h.1,fun hn=>by
  obtain ⟨b,o,e,hb,hc⟩:=h.2 hn
  exact ⟨b,o,e,hb,fun j u hu=>hk.2 _ _ _ (hc j u hu) (hx u (List.mem_of_getElem? hu))⟩⟩
theorem Rel.noptr {w w':World} {B r:Nat} {ps:List Pr} {rg:Int} (h:Rel w B r ps rg) (hk:NoPtr w w'):Rel w' B r ps rg:=by
 obtain ⟨A1,nD,cD,D,A2,c2,L,h⟩:=h
 have hi:∀ (xs:List Int),∀ u∈i64s xs,∀ p,u≠.pointer p:=by
  intro xs u hu p e
  obtain ⟨x,_,rfl⟩:=List.mem_map.1 hu
  cases e
 exact ⟨A1,nD,cD,D,A2,c2,L,h.lt,hk.2 _ _ _ h.d0 (fun p e=>by cases e),hk.2 _ _ _ h.d1 (fun p e=>by cases e),hk.2 _ _ _ h.d2 (fun p e=>by cases e),h.nc,h.nc2,h.dec.noptr hk (hi _),
  h.above.noptr hk (by
   intro u hu p e
   obtain ⟨x,_,rfl⟩:=List.mem_map.1 hu
   cases e),fun x hx=>⟨(h.rows x hx).1.noptr hk (hi _),(h.rows x hx).2⟩,h.rel,h.few,h.ok⟩
theorem NoPtr.of_block {w w':World} {b:Nat} (hs:w.heap.size≤w'.heap.size) (hn:∀ o,w.cell? ⟨b,o,none⟩=none) (hk:∀ k,k < w.heap.size→k≠b→w'.heap[k]?=w.heap[k]?):NoPtr w w':=
 ⟨hs,fun c o v hv _=>by
  have hc:c < w.heap.size:=by
   apply Decidable.byContradiction
   intro hge
   have h2:w.heap[c]?=none:=Array.getElem?_eq_none (by omega)
   simp [World.cell?,h2] at hv
  have hne:c≠b:=fun e=>by subst e;rw [hn o] at hv;cases hv
  exact (World.cell?_of_block (w:=w) (a:=⟨c,o,none⟩) (hk c hc hne)).trans hv⟩
theorem NoPtr.of_set {w:World} {b o:Nat} {p:Option Addr} (h:w.cell? ⟨b,o,none⟩=some (.pointer p)) (q:Option Addr):NoPtr w (w.setCell ⟨b,o,none⟩ (.pointer q)):=
 ⟨by simp [World.setCell],fun c j v hv hp=>by
  have hne:(⟨b,o,none⟩:Addr)≠⟨c,j,none⟩:=fun e=>by rw [←e,h] at hv;injection hv with hv;exact hp _ hv.symm
  exact (World.cell?_setCell_other _ _ _ _ hne).trans hv⟩
structure CkW where
 B:Nat
 g:Nat
 m1:Nat
 m2:Nat
 m3:Nat
 x:BdW
def CkW.S (K:CkW):Nat→Prop:=fun k=>k=K.g∨k=K.m1∨k=K.m2∨k=K.m3
abbrev CkW.E (K:CkW):Env:=wE K.x
def RelC (K:CkW) (w:World):Prop:=w.cell? ⟨K.g,7,none⟩=some (.pointer none)∨∃ r,w.cell? ⟨K.g,7,none⟩=some (.pointer (some ⟨r,0,none⟩))∧Rel w w.heap.size r K.x.outl.L ((K.x.regions.L.length:Nat):Int)
structure Ck (K:CkW) (w:World):Prop where
 b0:0 < K.B
 hB:K.B≤K.g∧K.B≤K.m1∧K.B≤K.m2∧K.B≤K.m3
 lt:K.g < w.heap.size
 one:OneBd w K.B K.x
 ok:DeOk K.x.v
 few:K.x.types.n≤1000
 cells:∀ (j:Nat) (u:Value),(cBd K.x)[j]?=some u→w.cell? ⟨K.g,j,none⟩=some u
 c8:w.cell? ⟨K.g,8,none⟩=some (.map (some K.m1))
 c9:w.cell? ⟨K.g,9,none⟩=some (.map (some K.m2))
 c10:w.cell? ⟨K.g,10,none⟩=some (.map (some K.m3))
 fr:∀ j,w.frozen? ⟨K.g,j,none⟩=false
 rel:RelC K w
 cop:MapI K.m1 K.x.types.n (fun t=>tyCop (tys K.x.types.L) t) w
 subt:MapP K.m2 K.x.types.n (fun s t=>sub (out K.x.outl.L ((K.x.regions.L.length:Nat):Int)) (tys K.x.types.L) s t) w
 outl:MapP K.m3 K.x.regions.n (fun a b=>out K.x.outl.L ((K.x.regions.L.length:Nat):Int) a b) w
 m12:K.m1≠K.m2
 m13:K.m1≠K.m3
 m23:K.m2≠K.m3
 tab:OpsT w
theorem Ck.bs {K:CkW} {w:World} (h:Ck K w):K.B≤w.heap.size:=Nat.le_trans h.hB.1 (Nat.le_of_lt h.lt)
theorem Ck.g1 {K:CkW} {w:World} (h:Ck K w):K.g≠K.m1:=fun e=>by have:=h.cop.nocell 8;rw [←e,h.c8] at this;cases this
theorem Ck.g2 {K:CkW} {w:World} (h:Ck K w):K.g≠K.m2:=fun e=>by have:=h.subt.nocell 8;rw [←e,h.c8] at this;cases this
theorem Ck.g3 {K:CkW} {w:World} (h:Ck K w):K.g≠K.m3:=fun e=>by have:=h.outl.nocell 8;rw [←e,h.c8] at this;cases this
theorem Ck.sLt {K:CkW} {w:World} (h:Ck K w):∀ k,K.S k→k < w.heap.size:=by
 rintro k (rfl | rfl | rfl | rfl)
 ·
  exact h.lt
 ·
  exact h.cop.lt
 ·
  exact h.subt.lt
 ·
  exact h.outl.lt
theorem Ck.sB {K:CkW} {w:World} (h:Ck K w):∀ k,K.S k→K.B≤k:=by
 rintro k (rfl | rfl | rfl | rfl)
 ·
  exact h.hB.1
 ·
  exact h.hB.2.1
 ·
  exact h.hB.2.2.1
 ·
  exact h.hB.2.2.2
theorem Ck.up {K:CkW} {w w':World} (h:Ck K w) (hb:Below w.heap.size w w'):Ck K w':=
 ⟨h.b0,h.hB,Nat.lt_of_lt_of_le h.lt hb.size,h.one.below (hb.mono h.bs),h.ok,h.few,fun j u hu=>(hb.cell (p:=⟨K.g,j,none⟩) h.lt).trans (h.cells j u hu),
  (hb.cell (p:=⟨K.g,8,none⟩) h.lt).trans h.c8,(hb.cell (p:=⟨K.g,9,none⟩) h.lt).trans h.c9,(hb.cell (p:=⟨K.g,10,none⟩) h.lt).trans h.c10,
  fun j=>(hb.frozen (p:=⟨K.g,j,none⟩) h.lt).trans (h.fr j),(by
   rcases h.rel with e | ⟨r,e,hr⟩
   ·
    exact .inl ((hb.cell (p:=⟨K.g,7,none⟩) h.lt).trans e)
   ·
    exact .inr ⟨r,(hb.cell (p:=⟨K.g,7,none⟩) h.lt).trans e,(hr.below hb).more hb.size⟩),
  h.cop.block (hb.block _ h.cop.lt),h.subt.block (hb.block _ h.subt.lt),h.outl.block (hb.block _ h.outl.lt),h.m12,h.m13,h.m23,h.tab.up hb⟩
theorem Ck.map {K:CkW} {w w':World} (h:Ck K w) {m:Nat} (hm:m=K.m1∨m=K.m2∨m=K.m3) (hg:w.grownBy w' (some m))
  (h1:m=K.m1→MapI K.m1 K.x.types.n (fun t=>tyCop (tys K.x.types.L) t) w')
  (h2:m=K.m2→MapP K.m2 K.x.types.n (fun s t=>sub (out K.x.outl.L ((K.x.regions.L.length:Nat):Int)) (tys K.x.types.L) s t) w')
  (h3:m=K.m3→MapP K.m3 K.x.regions.n (fun a b=>out K.x.outl.L ((K.x.regions.L.length:Nat):Int) a b) w'):Ck K w':=by
 have hgm:K.g≠m:=by rcases hm with rfl | rfl | rfl;exact h.g1;exact h.g2;exact h.g3
 have hBm:K.B≤m:=by rcases hm with rfl | rfl | rfl;exact h.hB.2.1;exact h.hB.2.2.1;exact h.hB.2.2.2
 have hno:∀ o,w.cell? ⟨m,o,none⟩=none:=by rcases hm with rfl | rfl | rfl;exact h.cop.nocell;exact h.subt.nocell;exact h.outl.nocell
 have hk:∀ k,k < w.heap.size→k≠m→w'.heap[k]?=w.heap[k]?:=fun k hk hn=>hg.block k hk (fun e=>hn (by injection e))
 have hc:∀ j,w'.cell? ⟨K.g,j,none⟩=w.cell? ⟨K.g,j,none⟩:=fun j=>World.cell?_of_block (w:=w) (a:=⟨K.g,j,none⟩) (hk _ h.lt hgm)
 have hf:∀ j,w'.frozen? ⟨K.g,j,none⟩=w.frozen? ⟨K.g,j,none⟩:=fun j=>World.frozen?_of_block (w:=w) (a:=⟨K.g,j,none⟩) (hk _ h.lt hgm)
 have hbl:Below K.B w w':=(Below.refl K.B w).grown hg h.bs (fun k e=>by injection e with e;omega)
 have hnp:NoPtr w w':=NoPtr.of_block hg.size hno hk
 refine ⟨h.b0,h.hB,Nat.lt_of_lt_of_le h.lt hg.size,h.one.below hbl,h.ok,h.few,fun j u hu=>(hc j).trans (h.cells j u hu),(hc 8).trans h.c8,(hc 9).trans h.c9,(hc 10).trans h.c10,fun j=>(hf j).trans (h.fr j),?_,?_,?_,?_,h.m12,h.m13,h.m23,h.tab.keep (hk 0 h.tab.lt (by have:=h.b0;omega))⟩
 ·
  rcases h.rel with e | ⟨r,e,hr⟩
  ·
   exact .inl ((hc 7).trans e)
  ·
   exact .inr ⟨r,(hc 7).trans e,(hr.noptr hnp).more hg.size⟩
 ·
  by_cases e:m=K.m1
  ·
   exact h1 e
  ·
   exact h.cop.block (hk _ h.cop.lt (fun e'=>e e'.symm))
 ·
  by_cases e:m=K.m2
  ·
   exact h2 e
  ·
   exact h.subt.block (hk _ h.subt.lt (fun e'=>e e'.symm))
 ·
  by_cases e:m=K.m3
  ·
   exact h3 e
  ·
   exact h.outl.block (hk _ h.outl.lt (fun e'=>e e'.symm))
theorem Ck.stored {K:CkW} {w:World} (h:Ck K w) {r:Nat} (hr:Rel w w.heap.size r K.x.outl.L ((K.x.regions.L.length:Nat):Int)):Ck K (w.setCell ⟨K.g,7,none⟩ (.pointer (some ⟨r,0,none⟩))):=by
 obtain ⟨p,hp⟩:∃ p,w.cell? ⟨K.g,7,none⟩=some (.pointer p):=by
  rcases h.rel with e | ⟨r,e,_⟩
  ·
   exact ⟨_,e⟩
  ·
   exact ⟨_,e⟩
 have hs:(w.setCell ⟨K.g,7,none⟩ (.pointer (some ⟨r,0,none⟩))).heap.size=w.heap.size:=by simp [World.setCell]
 have hk:∀ k,k≠K.g→(w.setCell ⟨K.g,7,none⟩ (.pointer (some ⟨r,0,none⟩))).heap[k]?=w.heap[k]?:=fun k hk=>Below.heap_setCell w _ _ k hk
 have ho:∀ (b j:Nat) (u:Value),(⟨K.g,7,none⟩:Addr)≠⟨b,j,none⟩→w.cell? ⟨b,j,none⟩=some u→(w.setCell ⟨K.g,7,none⟩ (.pointer (some ⟨r,0,none⟩))).cell? ⟨b,j,none⟩=some u:=fun b j u hn hu=>(World.cell?_setCell_other _ _ _ _ hn).trans hu
 refine ⟨h.b0,h.hB,hs.symm ▸ h.lt,h.one.below ((Below.refl K.B w).setCell (p:=⟨K.g,7,none⟩) h.hB.1 _),h.ok,h.few,fun j u hu=>ho _ _ _ (fun e=>?_) (h.cells j u hu),ho _ _ _ (fun e=>by injection e with _ e;cases e) h.c8,ho _ _ _ (fun e=>by injection e with _ e;cases e) h.c9,ho _ _ _ (fun e=>by injection e with _ e;cases e) h.c10,fun j=>(World.frozen?_setCell _ _ _ _).trans (h.fr j),.inr ⟨r,World.cell?_setCell_same _ _ _ hp,?_⟩,h.cop.block (hk _ (Ne.symm h.g1)),h.subt.block (hk _ (Ne.symm h.g2)),h.outl.block (hk _ (Ne.symm h.g3)),h.m12,h.m13,h.m23,h.tab.keep (hk 0 (by have:=h.b0;have:=h.hB.1;omega))⟩
 ·
  injection e with _ e
  have hj:j < (cBd K.x).length:=(List.getElem?_eq_some_iff.1 hu).1
  rw [cBd_len] at hj
  omega
 ·
  rw [hs]
  exact hr.noptr (NoPtr.of_set hp _)
structure Wy (K:CkW) (w w':World):Prop where
 turn:Turn K.S w w'
 ck:Ck K w'
theorem Wy.refl {K:CkW} {w:World} (h:Ck K w):Wy K w w:=⟨Turn.refl _ _,h⟩
theorem Wy.trans {K:CkW} {w w' w'':World} (h:Wy K w w') (k:Wy K w' w''):Wy K w w'':=⟨h.turn.trans k.turn,k.ck⟩
theorem Wy.up {K:CkW} {w w' w'':World} (h:Wy K w w') (hb:Below w'.heap.size w' w''):Wy K w w'':=⟨h.turn.trans (Turn.of_below hb),h.ck.up hb⟩
theorem Wy.new {K:CkW} {w w':World} (h:Ck K w) (hb:Below w.heap.size w w'):Wy K w w':=⟨Turn.of_below hb,h.up hb⟩
theorem Wy.low {K:CkW} {w w':World} (h0:Ck K w) (h:Wy K w w'):Below K.B w w':=h.turn.below h0.bs h0.sB
theorem Wy.box {K:CkW} {w w':World} {cs:List Value} {T:TypeId} (h0:Ck K w) (h:Wy K (w.alloc (.cells cs.toArray T)) w'):∀ (j:Nat) (u:Value),cs[j]?=some u→w'.cell? ⟨w.heap.size,j,none⟩=some u:=fun j u hu=>
 (h.turn.cell (p:=⟨w.heap.size,j,none⟩) (by simp) (fun hs=>Nat.lt_irrefl _ (h0.sLt _ hs))).trans ((cell_of_heap (heap_alloc_new w _) j).trans (by rw [List.getElem?_toArray];exact hu))
theorem Wy.drew {K:CkW} {w w':World} (h:Wy K w w'):Wy K w w'.drew:=⟨h.turn.drew,h.ck.up (Below.refl _ _).drew⟩
section
variable {b N:Nat} {w w':World}
theorem VcCz0 {P:Prop} (h:P:=by
 obtain ⟨c,rfl,hc⟩:=plainElem_bool_inv Tryz.underlying4 hv
 injection hc with hc _
 injection hc with hc
 injection hc with hc
 rw [hc]):P:=h
theorem MapI.look {f:Int→Bool} (h:MapI b N f w) {q:Int} (hq:IntR q) :
 ((Instr.lookup 74 (.map (some b)) (.int .i64 q) true).run Tryz.prog w=.ok (.tuple #[.bool (f q),.bool true]) w)∨((Instr.lookup 74 (.map (some b)) (.int .i64 q) true).run Tryz.prog w=.ok (.tuple #[.bool false,.bool false]) w):=by
 obtain ⟨m,Dm,h1,h2⟩:=h
 obtain ⟨v,ps,hrun,hv⟩:=h1.look_ok intK mapKB (zeroB w) (zd:=.lit (.bool false)) (zp:=[]) (plainElem_bool Tryz.underlying4 false) (keyOf_i hq)
 cases hh:Maps.has Dm (.int .i64 q)
 ·
  right
  rw [Maps.atKey_of_not_has hh] at hv
  rw [hrun,hh]
  exact VcCz0
 ·
  left
  rw [(h2 q hq hh).2.2] at hv
  rw [hrun,hh]
  exact VcCz0
theorem MapI.put {f:Int→Bool} {Dm:DataW Unit} (h1:w.ownsMap (H:=Unit) Tryz.prog 3 (plainElem Tryz.prog 4) b N Dm)
 (h2:∀ q,IntR q→Maps.has Dm (.int .i64 q)=true→0≤q∧q < (N:Int)∧∀ z,Dm.atKey (.int .i64 q) z=.lit (.bool (f q))) {i:Int} (h0:0≤i) (hi:i < (N:Int))
 (hw:w'.ownsMap (H:=Unit) Tryz.prog 3 (plainElem Tryz.prog 4) b (N+1) (Dm.put (.int .i64 i) (.lit (.bool (f i))))):MapI b N f w':=by
 refine ⟨N+1,_,hw,fun q hq hh=>?_⟩
 by_cases hqi:q=i
 ·
  subst hqi
  exact ⟨h0,hi,fun z=>Maps.atKey_put_same ⟨_,h1.entries intK |>.choose_spec.1⟩ (show Go.WideAt.IsKeyLit (.int .i64 q) from trivial) _ z⟩
 ·
  have hne:Lit.int .i64 q≠Lit.int .i64 i:=fun e=>by injection e with _ e;exact hqi e
  rw [Maps.has_put_other hne] at hh
  obtain ⟨a,c,d⟩:=h2 q hq hh
  exact ⟨a,c,fun z=>(Maps.atKey_put_other hne _ z).trans (d z)⟩
def InP (N:Nat) (p:Pr):Prop:=(0≤p.1∧p.1 < (N:Int))∧0≤p.2∧p.2 < (N:Int)
structure PL (b N:Nat) (f:Int→Int→Bool) (w:World) (M:List Pr) (m:Nat) (Dm:DataW Unit):Prop where
 own:w.ownsMap (H:=Unit) Tryz.prog 47 (plainElem Tryz.prog 4) b m Dm
 le:m≤M.length
 nd:M.Nodup
 rng:∀ p∈M,InP N p
 has:∀ p,IntP p→(Maps.has Dm (keyP p)=true↔p∈M)
 val:∀ p∈M,∀ z,Dm.atKey (keyP p) z=.lit (.bool (f p.1 p.2))
theorem MapP.pl {f:Int→Int→Bool} (h:MapP b N f w):∃ M m Dm,PL b N f w M m Dm:=by
 obtain ⟨M,m,Dm,a1,a2,a3,a4,a5,a6⟩:=h
 exact ⟨M,m,Dm,a1,a2,a3,a4,a5,a6⟩
theorem PL.few {f:Int→Int→Bool} {M:List Pr} {m:Nat} {Dm:DataW Unit} (h:PL b N f w M m Dm):m≤N*N:=by
 have h1:=nodup_sub h.nd (m:=grid N) fun p hp=>grid_mem (h.rng p hp).1 (h.rng p hp).2
 rw [grid_len] at h1
 exact Nat.le_trans h.le h1
theorem PL.hit {f:Int→Int→Bool} {M:List Pr} {m:Nat} {Dm:DataW Unit} (h:PL b N f w M m Dm) {p:Pr} (hp:IntP p) (hm:p∈M) :
 (Instr.lookup 188 (.map (some b)) (aggP p) true).run Tryz.prog w=.ok (.tuple #[.bool (f p.1 p.2),.bool true]) w:=by
 obtain ⟨v,ps,hrun,hv⟩:=h.own.look_ok pair_law mapPair (zeroB w) (zd:=.lit (.bool false)) (zp:=[]) (plainElem_bool Tryz.underlying4 false) (keyOf_pair hp)
 rw [h.val p hm] at hv
 rw [hrun,(h.has p hp).2 hm]
 exact VcCz0
theorem PL.put {f:Int→Int→Bool} {M:List Pr} {m:Nat} {Dm:DataW Unit} (h:PL b N f w M m Dm) {p:Pr} (hp:IntP p) (hN:InP N p)
    (hw:w'.ownsMap (H:=Unit) Tryz.prog 47 (plainElem Tryz.prog 4) b (m+1) (Dm.put (keyP p) (.lit (.bool (f p.1 p.2))))) (hm:p∉M) (h65:N≤65535):MapP b N f w':=by
  have hmap:Maps.IsMap Dm:=⟨_,(h.own.entries pair_law).choose_spec.1⟩
  refine ⟨M++[p],m+1,_,hw,by have:=h.le;simp;omega,?_,?_,fun u hu=>?_,fun u hu z=>?_⟩
  · rw [List.nodup_append]
    exact ⟨h.nd,by simp,fun a ha c hc=>by
      obtain rfl:c=p:=by simpa using hc
      exact fun e=>hm (e ▸ ha)⟩
  · intro u hu
    rcases List.mem_append.1 hu with hu | hu
    · exact h.rng u hu
    · obtain rfl:u=p:=by simpa using hu
      exact hN
  · by_cases hut:u=p
    · subst hut
      rw [Maps.has_put_same hmap keyP_key]
      simp
    · have hne:keyP u≠keyP p:=fun e=>hut (keyP_inj hu hp e)
      rw [Maps.has_put_other hne,h.has u hu]
      simp [hut]
  · rcases List.mem_append.1 hu with hu | hu
    · have hui : IntP u := by
        have h9:=h.rng u hu
        unfold InP at h9
        unfold IntP IntR
        omega
      have hne:keyP u≠keyP p:=fun e=>hm ((keyP_inj hui hp e) ▸ hu)
      exact (Maps.atKey_put_other hne _ z).trans (h.val u hu z)
    · obtain rfl:u=p:=by simpa using hu
      exact Maps.atKey_put_same hmap keyP_key _ z
end
theorem sub_self {K:CkW} {w:World} (h:Ck K w) {i:Nat} (hi:i < K.x.types.n):sub (out K.x.outl.L ((K.x.regions.L.length:Nat):Int)) (tys K.x.types.L) (i:Int) (i:Int)=true:=by
 have hex:∃ ty,K.x.types.L[i]?=some ty:=⟨_,List.getElem?_eq_getElem (by have:=h.one.types.len;omega)⟩
 obtain ⟨ty,hty⟩:=hex
 have htt:(tys K.x.types.L)[i]?=some ty.t:=by
  show (K.x.types.L.map TyW.t)[i]?=_
  rw [List.getElem?_map,hty]
  rfl
 exact sub_iff.2 (sub_refl (O:=out K.x.outl.L ((K.x.regions.L.length:Nat):Int)) (tyChk_iff.1 h.ok.ty) (fun x hx hx2=>out_iff.2 (Out.refl ⟨hx,hx2⟩)) _ _ _ (Nat.lt_succ_self _) (by rw [tyAt_nat];exact htt))
theorem opErr_zero {E:Env} {o:OpV} (h:opErr E o=0):(o.kind=2∨o.kind=3∨o.kind=4)∨((o.kind=0∨o.kind=1)∧(tyV E o.pl).2=0):=by
 unfold opErr at h
 split at h
 ·
  cases h
 rename_i h1
 split at h
 ·
  cases h
 split at h
 ·
  cases h
 split at h
 ·
  left;omega
 rename_i h4
 split at h
 ·
  rename_i h5;exact absurd h h5
 rename_i h5
 right
 exact ⟨by omega,Decidable.not_not.1 h5⟩
theorem ROperand_is {x:BdW} {o:OpW} {v:Int} {w:World} (h:VB w x) (ho:OneOp w w.heap.size o) (hv:opErr (wE x) o.v=v) :
  Calls Tryz.prog 102 #[aggBd x,aggOp o] w fun e w'=>e=.returned (.int .i64 v)∧Below w.heap.size w w':=hv ▸ ROperand_any x o w h ho
theorem opErr_ty {E:Env} {o:OpV} (h:opErr E o=0):o.kind≤1→(tyV E o.pl).2=0:=fun hk=>by
 rcases opErr_zero h with h | h
 ·
  omega
 ·
  exact h.2
theorem RfitsKind_is {x:BdW} {o:OpW} {kd:Int} {v:Bool} {w:World} (h:VB w x) (ho:OneOp w w.heap.size o) (hE:opErr (wE x) o.v=0) (hv:fitK (wE x) o.v kd=v) :
  Calls Tryz.prog 103 #[aggBd x,aggOp o,.int .i64 kd] w fun e w'=>e=.returned (.bool v)∧Below w.heap.size w w':=hv ▸ RfitsKind_any x o kd w h ho (opErr_ty hE)
theorem Rfits_is {x:BdW} {o:OpW} {i:Nat} {ty:TyW} {v:Bool} {w:World} (h:VB w x) (ho:OneOp w w.heap.size o) (hE:opErr (wE x) o.v=0) (ht:x.types.L[i]?=some ty) (hv:fitT (wE x) o.v (i:Int)=v) :
  Calls Tryz.prog 142 #[aggBd x,aggOp o,.int .i64 (i:Int)] w fun e w'=>e=.returned (.bool v)∧Below w.heap.size w w':=hv ▸ Rfits_any x o i ty w h ho (opErr_ty hE) ht
noncomputable def tuV (E:Env) (r:RvV) (t:Int):Int:=if (tyGet E.T t).kind≠4∨(tyGet E.T t).fields.length≠r.args.length then 22 else tupErr E r.args (tyGet E.T t).fields
def regErr (O:Int→Int→Bool) (r:Int):List Int→Int
 | []=>0
 | a :: l=>if O a r=false then 22 else regErr O r l
theorem regErr_all {O:Int→Int→Bool} {r:Int}:∀ (l:List Int),regErr O r l=if l.all (fun a=>O a r) then 0 else 22
 | []=>rfl
 | a :: l=>by
  show (if O a r=false then (22:Int) else regErr O r l)=_
  rw [regErr_all l,List.all_cons]
  cases O a r <;> simp
theorem regErr_at {O:Int→Int→Bool} {r a:Int} {l:List Int} {k:Nat} (h:l[k]?=some a):regErr O r (l.drop k)=if O a r=false then 22 else regErr O r (l.drop (k+1)):=by rw [drop_at10 h];rfl
theorem regErr_end {O:Int→Int→Bool} {r:Int} {l:List Int} {k:Nat} (h:l.length≤k):regErr O r (l.drop k)=0:=by rw [drop_end10 h];rfl
theorem OpsT.range {w:World} (h:OpsT w):w.rangeAt 0 0 opCells:=fun j v hv=>by rw [Nat.zero_add];exact h j v hv
noncomputable def asgV (E:Env) (p:PlV) (r:RvV):Int:=if (tyV E p).2≠0 then (tyV E p).2 else if muV E p=false then 22 else asErr E r (tyV E p).1
theorem shErr_zero {r:RvV} (h:shErr r=0):(0≤r.kind∧r.kind≤4)∧((r.kind=0∨r.kind=2)→r.args.length=1)∧(r.kind=3→r.args.length=2):=by
 unfold shErr at h
 split at h
 ·
  cases h
 rename_i h1
 split at h
 ·
  cases h
 split at h
 ·
  cases h
 rename_i h3
 refine ⟨by omega,fun hk=>?_,fun hk=>?_⟩
 ·
  apply Decidable.byContradiction;intro hn;exact h3 (.inl ⟨hk,hn⟩)
 ·
  apply Decidable.byContradiction;intro hn;exact h3 (.inr ⟨hk,hn⟩)
theorem asErr_bor {E:Env} {r:RvV} {t:Int} (hk:r.kind=1) (hs:shErr r=0):asErr E r t=boErr E r t:=by
 unfold asErr
 rw [if_neg (by omega),if_pos hk]
theorem asErr_tup {E:Env} {r:RvV} {t:Int} (hk:r.kind=4) (hs:shErr r=0):asErr E r t=tuV E r t:=by
 unfold asErr tuV
 rw [if_neg (by omega),if_neg (by omega),if_neg (by omega),if_pos hk]
theorem stErr_asg {E:Env} {s:StV} (hk:s.kind=0) (hl:s.loc=0):stErr E s=asgV E s.pl s.rv:=by
 unfold stErr asgV
 rw [if_pos hk,if_neg (by omega)]
theorem toList_empty:ByteArray.empty.toList=[]:=by
 unfold ByteArray.toList
 unfold ByteArray.toList.loop
 simp
theorem emptyS {s:ByteArray} (h:s=.empty):s.toList.isEmpty=true:=by rw [h,toList_empty];rfl
theorem emptyS_not {s:ByteArray} (h:¬s=.empty):s.toList.isEmpty=false:=by
 have h1:=eqS_def s .empty
 rw [decide_eq_false h,toList_empty] at h1
 rw [List.isEmpty_eq_false_iff]
 intro e
 rw [e] at h1
 cases h1
def tmSh (t:TmV):Int:=
 if t.kind < 0∨5 < t.kind then 14
 else if t.targets.length≠tmTgs t.kind∨(t.kind≠3∧t.name≠.empty)∨(t.kind≠3∧t.kind≠4∧noP t.pl=false)∨(t.kind=1∧t.args.length≠1)∨(t.kind≠1∧t.kind≠3∧0 < t.args.length) then 2
 else 0
theorem tmErr_sh {E:Env} {t:TmV}:tmErr E t=if tmSh t≠0 then tmSh t else if tgErr E t.targets≠0 then tgErr E t.targets
 else if t.kind=3∧identB t.name=false then 12
 else if 65535 < t.args.length then 15
 else if opsErr E t.args≠0 then opsErr E t.args
 else if t.kind=1∧t.args.all (fun o=>fitK E o 1)=false then 22
 else if t.kind≠3∧t.kind≠4 then 0
 else if (tyV E t.pl).2≠0 then (tyV E t.pl).2
 else if (t.kind=3∧muV E t.pl=false)∨(t.kind=4∧hasD t.pl.ps 0=true) then 22
 else 0:=by
 unfold tmErr tmSh
 by_cases h1:t.kind < 0∨5 < t.kind
 ·
  rw [if_pos h1,if_pos h1,if_pos (by decide)]
 ·
  rw [if_neg h1,if_neg h1]
  by_cases h2:t.targets.length≠tmTgs t.kind∨(t.kind≠3∧t.name≠.empty)∨(t.kind≠3∧t.kind≠4∧noP t.pl=false)∨(t.kind=1∧t.args.length≠1)∨(t.kind≠1∧t.kind≠3∧0 < t.args.length)
  ·
   rw [if_pos h2,if_pos h2,if_pos (by decide)]
  ·
   rw [if_neg h2,if_neg h2,if_neg (show ¬(0:Int)≠0 by simp)]
end Go.Proofs.YteeemjmohjkdpaaGreatDoor
