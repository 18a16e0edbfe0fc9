/- ValidTerms: for every body with a valid declaration part and every terminator, Term returns the same result as the reference. Its condition: the lengths of the arguments are within the reach. -/
import Derived.Test.YtfgacmgjpikgaaaGreatDoorQ24
import Derived.Test.YtfgacmgjpikgaaaGreatDoorQ40
import Derived.Test.YtfgacmgjpikgaaaGreatDoorQ42
import Derived.Test.YtfgacmgjpikgaaaGreatDoorTie
import Derived.Test.YtfgacmgjpikgaaaGreatDoorCards
import Derived.SevenTiedAt
set_option linter.unusedVariables false
set_option linter.unusedSimpArgs false
set_option maxRecDepth 100000
set_option maxHeartbeats 4000000
namespace Go.Proofs.YtfgacmgjpikgaaaGreatDoor.validTerms
open Go.ChangeShapes Go.WideShapes Go.ChangeAt Go.ChangeMaps Go.RowKit Go.Shelf Go.WideElems
theorem walk (x0:BdW) (x1:TmW) (w:World) (h0:OneBd w w.heap.size x0) (h1:OneTm w w.heap.size x1) (s0:FitBd x0) (s1:FitTm x1) (hT:OpsT w) :
  Calls Tryz.prog 6 #[aggBd x0,aggTm x1] w fun e w'=>e=.returned (.bool true)∧Below w.heap.size w w':=by
 obtain ⟨de,hde⟩:∃ u,deErr x0.v=u:=⟨_,rfl⟩
 obtain ⟨v,hv⟩:∃ u,tmErr (wE x0) x1.v=u:=⟨_,rfl⟩
 obtain ⟨nm,⟨rA,rn,rc,rL⟩,⟨oA,on,oc,oL⟩,⟨tA,tm,tc,tL⟩,⟨lA,ln,lc,lL⟩,ar,⟨bA,bn,bc,bL⟩⟩:=x0
 obtain ⟨k,⟨sA,sn,sc,sL⟩,⟨gA,gn,gc,gL⟩,⟨l,pA,pn,pc,ps⟩,tnm⟩:=x1
 have HB:=hide (two_below w [.string nm,.slice rA rn rc,.slice oA on oc,.slice tA tm tc,.slice lA ln lc,.int .i64 ar,.slice bA bn bc] 28 [.int .i64 k,.slice sA sn sc,.slice gA gn gc,.int .i64 l,.slice pA pn pc,.string tnm] 50)
 have HX:=hide (h0.up HB.out)
 have HO:=hide (h1.up HB.out)
 have HF:=hide s0
 have HT:=hide (hT.up HB.out)
 have HDE:=hide hde
 have HV:=hide hv
 have hcs:=hide fun (w':World) (y:Below (two w [.string nm,.slice rA rn rc,.slice oA on oc,.slice tA tm tc,.slice lA ln lc,.int .i64 ar,.slice bA bn bc] 28 [.int .i64 k,.slice sA sn sc,.slice gA gn gc,.int .i64 l,.slice pA pn pc,.string tnm] 50).heap.size (two w [.string nm,.slice rA rn rc,.slice oA on oc,.slice tA tm tc,.slice lA ln lc,.int .i64 ar,.slice bA bn bc] 28 [.int .i64 k,.slice sA sn sc,.slice gA gn gc,.int .i64 l,.slice pA pn pc,.string tnm] 50) w')=>(show w'.cell? ⟨w.heap.size,0,none⟩=some (.string nm)∧w'.cell? ⟨w.heap.size,1,none⟩=some (.slice rA rn rc)∧w'.cell? ⟨w.heap.size,2,none⟩=some (.slice oA on oc)∧w'.cell? ⟨w.heap.size,3,none⟩=some (.slice tA tm tc)∧w'.cell? ⟨w.heap.size,4,none⟩=some (.slice lA ln lc)∧w'.cell? ⟨w.heap.size,5,none⟩=some (.int .i64 ar)∧w'.cell? ⟨w.heap.size,6,none⟩=some (.slice bA bn bc)∧w'.cell? ⟨w.heap.size+1,0,none⟩=some (.int .i64 k)∧w'.cell? ⟨w.heap.size+1,1,none⟩=some (.slice sA sn sc)∧w'.cell? ⟨w.heap.size+1,2,none⟩=some (.slice gA gn gc)∧w'.cell? ⟨w.heap.size+1,3,none⟩=some (.int .i64 l)∧w'.cell? ⟨w.heap.size+1,4,none⟩=some (.slice pA pn pc)∧w'.cell? ⟨w.heap.size+1,5,none⟩=some (.string tnm) from by
  obtain ⟨hcx,hco⟩:=two_cells (w:=w) (cs:=[.string nm,.slice rA rn rc,.slice oA on oc,.slice tA tm tc,.slice lA ln lc,.int .i64 ar,.slice bA bn bc]) (T:=28) (ds:=[.int .i64 k,.slice sA sn sc,.slice gA gn gc,.int .i64 l,.slice pA pn pc,.string tnm]) (U:=50) y
  exact ⟨hcx 0 _ rfl,hcx 1 _ rfl,hcx 2 _ rfl,hcx 3 _ rfl,hcx 4 _ rfl,hcx 5 _ rfl,hcx 6 _ rfl,hco 0 _ rfl,hco 1 _ rfl,hco 2 _ rfl,hco 3 _ rfl,hco 4 _ rfl,hco 5 _ rfl⟩)
 have HF1:=hide s1
 clear h0 h1 s0 s1 hT hde hv
 go_enter Tryz.func6,Tryz.ntmps6
 go_wp2_with fail
 refine (Skip10_any ⟨nm,⟨rA,rn,rc,rL⟩,⟨oA,on,oc,oL⟩,⟨tA,tm,tc,tL⟩,⟨lA,ln,lc,lL⟩,ar,⟨bA,bn,bc,bL⟩⟩ _ HX.out HF.out).mono ?_
 rintro e1 w1 ⟨h1,hb1⟩
 have HW1:=hide (show Below (two w [.string nm,.slice rA rn rc,.slice oA on oc,.slice tA tm tc,.slice lA ln lc,.int .i64 ar,.slice bA bn bc] 28 [.int .i64 k,.slice sA sn sc,.slice gA gn gc,.int .i64 l,.slice pA pn pc,.string tnm] 50).heap.size (two w [.string nm,.slice rA rn rc,.slice oA on oc,.slice tA tm tc,.slice lA ln lc,.int .i64 ar,.slice bA bn bc] 28 [.int .i64 k,.slice sA sn sc,.slice gA gn gc,.int .i64 l,.slice pA pn pc,.string tnm] 50) w1 from hb1)
 clear hb1
 rcases h1 with rfl | ⟨rfl,hn,_,_⟩
 case inl=>
  go_wp2_with fail
  refine (alive10_any _ (HT.out.up HW1.out)).mono ?_
  rintro e9 w9 ⟨rfl,hb9⟩
  have HW9:=hide (HW1.out.trans (hb9.mono HW1.out.size))
  clear hb9
  go_wp2
  go_ret
  exact ⟨rfl,HB.out.trans (HW9.out.mono HB.out.size)⟩
 have HN:=hide hn
 clear hn
 obtain ⟨b1_0,b1_1,b1_2,b1_3,b1_4,b1_5,b1_6,o1_0,o1_1,o1_2,o1_3,o1_4,o1_5⟩:=hcs.out _ HW1.out
 have hbl:=(Below.refl w1.heap.size w1).alloc (Nat.le_refl _) (.cells #[.slice none 0 0,.int .i64 k,.slice sA sn sc,.slice gA gn gc,.int .i64 l,.slice pA pn pc,.string tnm] 52)
 have HWL:=hide (HW1.out.trans (hbl.mono HW1.out.size))
 clear hbl
 have hol:=HO.out.up HWL.out
 have HXL:=hide (show OneBd (w1.alloc (.cells #[.slice none 0 0,.int .i64 k,.slice sA sn sc,.slice gA gn gc,.int .i64 l,.slice pA pn pc,.string tnm] 52)) (w1.alloc (.cells #[.slice none 0 0,.int .i64 k,.slice sA sn sc,.slice gA gn gc,.int .i64 l,.slice pA pn pc,.string tnm] 52)).heap.size ⟨.empty,⟨none,0,0,[]⟩,⟨none,0,0,[]⟩,⟨none,0,0,[]⟩,⟨none,0,0,[]⟩,0,⟨some ⟨w1.heap.size,0,none⟩,1,1,[⟨⟨none,0,0,[]⟩,⟨k,⟨sA,sn,sc,sL⟩,⟨gA,gn,gc,gL⟩,⟨l,pA,pn,pc,ps⟩,tnm⟩⟩]⟩⟩ from by
  have c2:=cells_new10 w1 cBk cBk_len [⟨⟨none,0,0,[]⟩,⟨k,⟨sA,sn,sc,sL⟩,⟨gA,gn,gc,gL⟩,⟨l,pA,pn,pc,ps⟩,tnm⟩⟩] 52
  exact ⟨(show (0:Nat)≤maxLen by decide),slH_nil10 _ _ _ _ _,slH_nil10 _ _ _ _ _,slH_nil10 _ _ _ _ _,slH_nil10 _ _ _ _ _,i0_10,⟨Nat.le_refl _,(show (1:Nat)≤maxLen by decide),c2.more (by simp),fun y hy=>by obtain rfl:y=⟨⟨none,0,0,[]⟩,⟨k,⟨sA,sn,sc,sL⟩,⟨gA,gn,gc,gL⟩,⟨l,pA,pn,pc,ps⟩,tnm⟩⟩:=(by simpa using hy);exact ⟨slH_nil10 _ _ _ _ _,hol⟩⟩⟩)
 have HFL:=hide (show FitBd ⟨.empty,⟨none,0,0,[]⟩,⟨none,0,0,[]⟩,⟨none,0,0,[]⟩,⟨none,0,0,[]⟩,0,⟨some ⟨w1.heap.size,0,none⟩,1,1,[⟨⟨none,0,0,[]⟩,⟨k,⟨sA,sn,sc,sL⟩,⟨gA,gn,gc,gL⟩,⟨l,pA,pn,pc,ps⟩,tnm⟩⟩]⟩⟩ from ⟨(show (0:Nat)≤2 ^ 47 by decide),(show (0:Nat)≤2 ^ 47 by decide),(show (0:Nat)≤2 ^ 47 by decide),(show (0:Nat)≤2 ^ 47 by decide),fun y hy=>by obtain rfl:y=⟨⟨none,0,0,[]⟩,⟨k,⟨sA,sn,sc,sL⟩,⟨gA,gn,gc,gL⟩,⟨l,pA,pn,pc,ps⟩,tnm⟩⟩:=(by simpa using hy);exact ⟨(show (0:Nat)≤2 ^ 47 by decide),HF1.out.1,HF1.out.2,fun y hy=>by cases hy⟩⟩)
 clear hol
 go_wp2_with fail
 refine (Large_any ⟨.empty,⟨none,0,0,[]⟩,⟨none,0,0,[]⟩,⟨none,0,0,[]⟩,⟨none,0,0,[]⟩,0,⟨some ⟨w1.heap.size,0,none⟩,1,1,[⟨⟨none,0,0,[]⟩,⟨k,⟨sA,sn,sc,sL⟩,⟨gA,gn,gc,gL⟩,⟨l,pA,pn,pc,ps⟩,tnm⟩⟩]⟩⟩ _ HXL.out HFL.out).mono ?_
 rintro e2 w2 ⟨h2,hb2⟩
 have HW2:=hide (HWL.out.trans (hb2.mono HWL.out.size))
 clear hb2 HXL HFL
 obtain ⟨b2_0,b2_1,b2_2,b2_3,b2_4,b2_5,b2_6,o2_0,o2_1,o2_2,o2_3,o2_4,o2_5⟩:=hcs.out _ HW2.out
 rcases h2 with rfl | ⟨rfl,_⟩
 case inl=>
  go_wp2_with fail
  refine (alive10_any _ (HT.out.up HW2.out)).mono ?_
  rintro e9 w9 ⟨rfl,hb9⟩
  have HW9:=hide (HW2.out.trans (hb9.mono HW2.out.size))
  clear hb9
  go_wp2
  go_ret
  exact ⟨rfl,HB.out.trans (HW9.out.mono HB.out.size)⟩
 by_cases q2:de=0
 case neg=>
  have t2:(de != 0)=true:=by simp [q2]
  clear q2
  go_wp2_with fail
  refine (RDecl_is (HX.out.up HW2.out) HDE.out).mono ?_
  rintro e3 w3 ⟨rfl,hb3⟩
  have HW3:=hide (HW2.out.trans (hb3.mono HW2.out.size))
  clear hb3
  go_wp2_with fail
  refine (alive10_any _ (HT.out.up HW3.out)).mono ?_
  rintro e9 w9 ⟨rfl,hb9⟩
  have HW9:=hide (HW3.out.trans (hb9.mono HW3.out.size))
  clear hb9
  go_wp2
  go_ret
  exact ⟨rfl,HB.out.trans (HW9.out.mono HB.out.size)⟩
 have HVB:=hide (show VB (two w [.string nm,.slice rA rn rc,.slice oA on oc,.slice tA tm tc,.slice lA ln lc,.int .i64 ar,.slice bA bn bc] 28 [.int .i64 k,.slice sA sn sc,.slice gA gn gc,.int .i64 l,.slice pA pn pc,.string tnm] 50) ⟨nm,⟨rA,rn,rc,rL⟩,⟨oA,on,oc,oL⟩,⟨tA,tm,tc,tL⟩,⟨lA,ln,lc,lL⟩,ar,⟨bA,bn,bc,bL⟩⟩ from ⟨HX.out,deErr_ok (HDE.out.trans q2)⟩)
 have t2:(de != 0)=false:=by simp [q2]
 clear q2
 go_wp2_with fail
 refine (RDecl_is (HX.out.up HW2.out) HDE.out).mono ?_
 rintro e3 w3 ⟨rfl,hb3⟩
 have HW3:=hide (HW2.out.trans (hb3.mono HW2.out.size))
 clear hb3
 go_wp2
 have HD3:=hide HW3.out.drew
 refine wp_region_held_drew (S:=(fun w'=>w'.cell? ⟨w.heap.size,0,none⟩=some (.string nm)∧w'.cell? ⟨w.heap.size,1,none⟩=some (.slice rA rn rc)∧w'.cell? ⟨w.heap.size,2,none⟩=some (.slice oA on oc)∧w'.cell? ⟨w.heap.size,3,none⟩=some (.slice tA tm tc)∧w'.cell? ⟨w.heap.size,4,none⟩=some (.slice lA ln lc)∧w'.cell? ⟨w.heap.size,5,none⟩=some (.int .i64 ar)∧w'.cell? ⟨w.heap.size,6,none⟩=some (.slice bA bn bc)∧w'.cell? ⟨w.heap.size+1,0,none⟩=some (.int .i64 k)∧w'.cell? ⟨w.heap.size+1,1,none⟩=some (.slice sA sn sc)∧w'.cell? ⟨w.heap.size+1,2,none⟩=some (.slice gA gn gc)∧w'.cell? ⟨w.heap.size+1,3,none⟩=some (.int .i64 l)∧w'.cell? ⟨w.heap.size+1,4,none⟩=some (.slice pA pn pc)∧w'.cell? ⟨w.heap.size+1,5,none⟩=some (.string tnm))) (by kernel_rfl) (hcs.out _ HD3.out) (fun hHeld=>?_)
 refine wpAnyH_ready (rs:=[0]) (by kernel_rfl) (by simp) ?_
 refine AllReadyH.cons rfl (fun KZ hK=>?_) AllReadyH.nil
 go_simp
 refine (alive10_any _ (HT.out.up HD3.out)).mono ?_
 rintro f1 v1 ⟨rfl,hb0⟩
 have HY1:=hide (HD3.out.trans (hb0.mono HD3.out.size))
 clear hb0
 refine hK.out _ _ (hcs.out _ HY1.out) (fun hHeld=>?_)
 clear hK KZ
 try simp only [Act.put,List.setIfInBounds_toArray,List.set_cons_zero,List.set_cons_succ]
 refine plan [(1,some 23,true),(2,some 24,true),(3,some 25,true),(5,some 27,true),(6,some 28,true)] ?_
 repeat' ((first | refine pN hHeld rfl rfl ?_ | (refine pY (v:=?_) hHeld rfl rfl ?_ ?_;rotate_left;(· (intro w9 hS9;obtain ⟨s0,s1,s2,s3,s4,s5,s6,s7,s8,s9,s10,s11,s12⟩:=hS9;first | (go_simp;done) | (go_simp;with_reducible rfl)))));try simp only [Act.put,List.setIfInBounds_toArray,List.set_cons_zero,List.set_cons_succ])
 refine plan0 ?_
 refine wpAnyH_ready (rs:=[4]) (by kernel_rfl) (by simp) ?_
 refine AllReadyH.cons rfl (fun KZ hK=>?_) AllReadyH.nil
 go_simp
 refine (vTerm_is (x:=⟨nm,⟨rA,rn,rc,rL⟩,⟨oA,on,oc,oL⟩,⟨tA,tm,tc,tL⟩,⟨lA,ln,lc,lL⟩,ar,⟨bA,bn,bc,bL⟩⟩) (HVB.out.up HY1.out) HN.out (HT.out.up HY1.out) (HO.out.up HY1.out) HV.out).mono ?_
 rintro f2 v2 ⟨rfl,hb0⟩
 have HY2:=hide (HY1.out.trans (hb0.mono HY1.out.size))
 clear hb0
 refine hK.out _ _ (hcs.out _ HY2.out) (fun hHeld=>?_)
 clear hK KZ
 try simp only [Act.put,List.setIfInBounds_toArray,List.set_cons_zero,List.set_cons_succ]
 refine wpAnyH_ready (rs:=[7]) (by kernel_rfl) (by simp) ?_
 refine AllReadyH.cons rfl (fun KZ hK=>?_) AllReadyH.nil
 go_simp
 refine (RTerm_is (x:=⟨nm,⟨rA,rn,rc,rL⟩,⟨oA,on,oc,oL⟩,⟨tA,tm,tc,tL⟩,⟨lA,ln,lc,lL⟩,ar,⟨bA,bn,bc,bL⟩⟩) _ _ _ (HVB.out.up HY2.out) (HO.out.up HY2.out) HV.out).mono ?_
 rintro f3 v3 ⟨rfl,hb0⟩
 have HY3:=hide (HY2.out.trans (hb0.mono HY2.out.size))
 clear hb0
 refine hK.out _ _ (hcs.out _ HY3.out) (fun hHeld=>?_)
 clear hK KZ
 try simp only [Act.put,List.setIfInBounds_toArray,List.set_cons_zero,List.set_cons_succ]
 refine plan [(8,some 30,true),(9,some 31,true),(10,some 4,true)] ?_
 repeat' ((first | refine pN hHeld rfl rfl ?_ | (refine pY (v:=?_) hHeld rfl rfl ?_ ?_;rotate_left;(· (intro w9 hS9;obtain ⟨s0,s1,s2,s3,s4,s5,s6,s7,s8,s9,s10,s11,s12⟩:=hS9;first | (go_simp;done) | (go_simp;with_reducible rfl)))));try simp only [Act.put,List.setIfInBounds_toArray,List.set_cons_zero,List.set_cons_succ])
 refine plan0 ?_
 refine wpAnyH_done (by kernel_rfl) ?_ _
 go_wp2
 go_ret
 exact ⟨rfl,HB.out.trans (HY3.out.mono HB.out.size)⟩
theorem own:ownKnob Tryz.prog.godebug=none:=by kernel_rfl
theorem laidOut:laidOutB Tryz.prog=true:=by kernel_rfl
theorem contract (H:Type) (enc:TypeId×Value→H) (W:World) (base:Nat) (args:Array Value) (ds gs:List (DataW H)) (before:List MemPlace)
  (hval0:∀ (j:Nat) t v,Tryz.f6.params[j]?=some t→args[j]?=some v→Value.okWide Tryz.prog W .any base t v)
  (hW:DataW.Whole enc Tryz.prog Tryz.f6.params.toList Rows.validTermsSpec.vars false W args.toList ds gs before) (hsz0:(DataW.weightsEach Tryz.prog (Tryz.f6.params.toList++Rows.validTermsSpec.plain.varTypes Tryz.prog) (ds++gs)).all (·≤reachBytes)=true) (hT:OpsT W) :
  Calls Tryz.prog 6 args W fun e W'=>∃ v,e=.returned v∧Rows.validTermsSpec.post enc Tryz.prog Tryz.f6 false true false false W args v W':=by
 have hval:∀ (j:Nat) t v,Tryz.f6.params[j]?=some t→args[j]?=some v→Value.okWide Tryz.prog W .any base t v:=hval0
 have hW':=hW
 obtain ⟨p,q,hA0,hV,rfl,hfz,hnd⟩:=hW
 have hA:DataW.TrodAll enc Tryz.prog W 0 (fun _=>true) true Tryz.f6.params.toList args.toList ds p:=hA0
 have hsz:(DataW.weightsEach Tryz.prog (Tryz.f6.params.toList++Rows.validTermsSpec.plain.varTypes Tryz.prog) (ds++gs)).all (·≤reachBytes)=true:=hsz0
 rw [Tryz.params6] at hA hval hsz
 obtain ⟨v0,vs0,d0,ds0,p0,q0,hargs,rfl,rfl,h0,r0⟩:=trodAll_cons hA
 obtain ⟨v1,vs1,d1,ds1,p1,q1,rfl,rfl,rfl,h1,r1⟩:=trodAll_cons r0
 obtain ⟨rfl,rfl,rfl⟩:=trodAll_nil r1
 obtain rfl:args=#[v0,v1]:=by cases args;simp_all
 obtain ⟨rfl,rfl⟩:=trodVars_none hV
 have k0:=h0
 have lt0:∀ x∈p0,x.block < W.heap.size:=by obtain ⟨m,hm⟩:=k0;exact DataW.trod_lt m _ _ _ hm
 obtain ⟨x0,rfl,g0,f0⟩:=openBody (hval 0 28 v0 rfl rfl) h0
 have k1:=h1
 have lt1:∀ x∈p1,x.block < W.heap.size:=by obtain ⟨m,hm⟩:=k1;exact DataW.trod_lt m _ _ _ hm
 obtain ⟨x1,rfl,g1,f1⟩:=openTerm (hval 1 50 v1 rfl rfl) h1
 have s0:FitBd x0:=f0 (List.all_eq_true.2 fun n hn=>List.all_eq_true.1 hsz n (DataW.weights_mem_each (j:=0) (t:=28) rfl rfl n hn))
 have s1:FitTm x1:=f1 (List.all_eq_true.2 fun n hn=>List.all_eq_true.1 hsz n (DataW.weights_mem_each (j:=1) (t:=50) rfl rfl n hn))
 clear hA0 hval0 hsz hsz0
 simp only [List.append_nil] at hW'
 refine (walk x0 x1 W g0 g1 s0 s1 hT).mono fun e W' ⟨he,bel⟩=>?_
 subst he
 exact ⟨_,rfl,_,_,_,[],_,[],hW',trodAll_mk1 (shut_bool Tryz.underlying4 _),(trodAll_cons_mk (Below.trod laidOut (by kernel_rfl) (of_decide_eq_true (by kernel_rfl)) k0 bel lt0) (trodAll_cons_mk (Below.trod laidOut (by kernel_rfl) (of_decide_eq_true (by kernel_rfl)) k1 bel lt1) trodAll_mk0)),rfl,bel.frame _,fun h=>by cases h⟩
theorem lifted (os:Os) (started:os.Started) (H:Type) (enc:TypeId×Value→H) :
  ReturnsInHanded {} Tryz.checked os 6 .any (fun w args=>(Rows.validTermsSpec.pre enc Tryz.prog Tryz.f6 [] false w args∧laidMetH Tryz.prog laid1 w)∧sizedMet enc Tryz.prog Tryz.f6 (OpenSpec.ofChange Rows.validTermsSpec) false w args) (Rows.validTermsSpec.post enc Tryz.prog Tryz.f6 false true false false):=by
 refine returnsInHanded_of_change_and (C:=Tryz.checked) (X:=fun w _=>laidMetH Tryz.prog laid1 w) (fun _ _ _ hh h=>h.of_heap hh) own started (by kernel_rfl) Tryz.func6
  (ChangeSpec.witness_shaped (enc:=enc) (C:=Tryz.checked) (os:=os) (X:=fun w _=>laidMetH Tryz.prog laid1 w) false (World.doorLaid Tryz.prog 400 os) #[.agg #[.string .empty,.slice none 0 0,.slice none 0 0,.slice none 0 0,.slice none 0 0,.int .i64 0,.slice none 0 0],.agg #[.int .i64 0,.slice none 0 0,.slice none 0 0,.int .i64 0,.slice none 0 0,.string .empty]] 8 rfl (World.shaped_of_RefB (by kernel_rfl) (by kernel_rfl)) (by kernel_rfl) (by kernel_rfl) (by kernel_rfl) (door_met os _)) ?_
 intro W base args ds gs before hval hW _ hsz hL _
 exact contract H enc W base args ds gs before hval hW hsz (opsT_of hL)
theorem rowProved:Rows.ValidTermsSaid:=
 OpenClaim.holds_of_wide 6 Tryz.f6 rfl rfl rfl rfl rfl rfl rfl ⟨rfl,rfl,rfl,rfl,rfl⟩ rfl rfl rfl rfl rfl (by kernel_rfl) Tryz.func6 (by kernel_rfl)
  (of_decide_eq_true (by kernel_rfl)) (by unfold Func.isWrapper;first | (rw [if_pos (by decide +kernel)];kernel_rfl) | (rw [if_neg (by decide +kernel)];exact ⟨rfl,rfl⟩))
  (fun os started H enc _=>lifted os started H enc)
theorem proved:Rows.ValidTermsCardSaid:=
 Claim7.holds_tied_plain_at .later [] [.data] true Rows.validTermsCard.stood.harness false
  rowProved (fun _ h=>by cases h) (by kernel_rfl) (fun _ h=>by cases h) validTerms_row_tie rfl ⟨rfl,rfl⟩ (by kernel_rfl) rfl
  (fun f fn hf hfn=>by
   obtain rfl:f=6:=Option.some.inj ((show Tryz.prog.funcNamed "mirtower/mirtowerlaw10.ValidTerms"=some 6 by kernel_rfl).symm.trans hf) |>.symm
   obtain rfl:fn=Tryz.f6:=(Option.some.inj (Tryz.func6.symm.trans hfn)).symm
   exact ⟨by kernel_rfl,fun j t ht=>by
    rw [Tryz.params6] at ht
    have hm:t∈[28,50]:=by simpa using Array.mem_of_getElem? ht
    have hall:([28,50].all fun u=>!Tryz.prog.wantsStandIn u)=true:=by kernel_rfl
    exact (show Tryz.prog.wantsStandIn t=false by simpa using List.all_eq_true.1 hall t hm)⟩)
  (by kernel_rfl)
end Go.Proofs.YtfgacmgjpikgaaaGreatDoor.validTerms
