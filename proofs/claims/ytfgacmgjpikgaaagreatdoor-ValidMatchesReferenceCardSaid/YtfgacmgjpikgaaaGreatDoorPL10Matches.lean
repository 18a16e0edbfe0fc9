/- ValidMatchesReference: for every body Check returns the same result as the reference. Its condition: the lengths of the argument are within the reach. -/
import Derived.Test.YtfgacmgjpikgaaaGreatDoorQ24
import Derived.Test.YtfgacmgjpikgaaaGreatDoorQ39
import Derived.Test.YtfgacmgjpikgaaaGreatDoorQ40
import Derived.Test.YtfgacmgjpikgaaaGreatDoorQ46
import Derived.Test.YtfgacmgjpikgaaaGreatDoorTie
import Derived.Test.YtfgacmgjpikgaaaGreatDoorCards
import Derived.SevenTiedAt
set_option linter.unusedVariables false
set_option linter.unusedSimpArgs false
set_option maxRecDepth 100000
set_option maxHeartbeats 8000000
namespace Go.Proofs.YtfgacmgjpikgaaaGreatDoor.validMatchesReference
open Go.ChangeShapes Go.WideShapes Go.ChangeAt Go.ChangeMaps Go.RowKit Go.Shelf Go.WideElems
theorem RCheck_is {x:BdW} {v:Int} {w:World} (h:OneBd w w.heap.size x) (hv:bdErr x.v=v) :
  Calls Tryz.prog 12 #[aggBd x] w fun e w'=>e=.returned (.int .i64 v)∧Below w.heap.size w w':=
 RCheck_of (fun w' y=>RDecl_is (h.up y) rfl) RStmt_is RTerm_is h hv
theorem walk (x0:BdW) (w:World) (h0:OneBd w w.heap.size x0) (s0:FitBd x0) (hT:OpsT w) :
  Calls Tryz.prog 3 #[aggBd x0] w fun e w'=>e=.returned (.bool true)∧Below w.heap.size w w':=by
 obtain ⟨de,hde⟩:∃ u,deErr x0.v=u:=⟨_,rfl⟩
 obtain ⟨v,hv⟩:∃ u,bdErr x0.v=u:=⟨_,rfl⟩
 obtain ⟨nm,⟨rA,rn,rc,rL⟩,⟨oA,on,oc,oL⟩,⟨tA,tm,tc,tL⟩,⟨lA,ln,lc,lL⟩,ar,⟨bA,bn,bc,bL⟩⟩:=x0
 have HB:=hide (show Below w.heap.size w (w.alloc (.cells #[.string nm,.slice rA rn rc,.slice oA on oc,.slice tA tm tc,.slice lA ln lc,.int .i64 ar,.slice bA bn bc] 28)) from (Below.refl w.heap.size w).alloc (Nat.le_refl _) _)
 have HX:=hide (h0.up HB.out)
 have HF:=hide s0
 have HT:=hide (hT.up HB.out)
 have HDE:=hide hde
 have HV:=hide hv
 have hcs:=hide fun (w':World) (y:Below (w.alloc (.cells #[.string nm,.slice rA rn rc,.slice oA on oc,.slice tA tm tc,.slice lA ln lc,.int .i64 ar,.slice bA bn bc] 28)).heap.size (w.alloc (.cells #[.string nm,.slice rA rn rc,.slice oA on oc,.slice tA tm tc,.slice lA ln lc,.int .i64 ar,.slice bA bn bc] 28)) w')=>(show w'.cell? ⟨w.heap.size,0,none⟩=some (.string nm)∧w'.cell? ⟨w.heap.size,1,none⟩=some (.slice rA rn rc)∧w'.cell? ⟨w.heap.size,2,none⟩=some (.slice oA on oc)∧w'.cell? ⟨w.heap.size,3,none⟩=some (.slice tA tm tc)∧w'.cell? ⟨w.heap.size,4,none⟩=some (.slice lA ln lc)∧w'.cell? ⟨w.heap.size,5,none⟩=some (.int .i64 ar)∧w'.cell? ⟨w.heap.size,6,none⟩=some (.slice bA bn bc) from ⟨one_cells (cs:=[.string nm,.slice rA rn rc,.slice oA on oc,.slice tA tm tc,.slice lA ln lc,.int .i64 ar,.slice bA bn bc]) y 0 _ rfl,one_cells (cs:=[.string nm,.slice rA rn rc,.slice oA on oc,.slice tA tm tc,.slice lA ln lc,.int .i64 ar,.slice bA bn bc]) y 1 _ rfl,one_cells (cs:=[.string nm,.slice rA rn rc,.slice oA on oc,.slice tA tm tc,.slice lA ln lc,.int .i64 ar,.slice bA bn bc]) y 2 _ rfl,one_cells (cs:=[.string nm,.slice rA rn rc,.slice oA on oc,.slice tA tm tc,.slice lA ln lc,.int .i64 ar,.slice bA bn bc]) y 3 _ rfl,one_cells (cs:=[.string nm,.slice rA rn rc,.slice oA on oc,.slice tA tm tc,.slice lA ln lc,.int .i64 ar,.slice bA bn bc]) y 4 _ rfl,one_cells (cs:=[.string nm,.slice rA rn rc,.slice oA on oc,.slice tA tm tc,.slice lA ln lc,.int .i64 ar,.slice bA bn bc]) y 5 _ rfl,one_cells (cs:=[.string nm,.slice rA rn rc,.slice oA on oc,.slice tA tm tc,.slice lA ln lc,.int .i64 ar,.slice bA bn bc]) y 6 _ rfl⟩)
 clear h0 s0 hT hde hv
 go_enter Tryz.func3,Tryz.ntmps3
 go_wp2_with fail
 refine (Skip10_any ⟨nm,⟨rA,rn,rc,rL⟩,⟨oA,on,oc,oL⟩,⟨tA,tm,tc,tL⟩,⟨lA,ln,lc,lL⟩,ar,⟨bA,bn,bc,bL⟩⟩ _ HX.out HF.out).mono ?_
 rintro e1 w1 ⟨h1,hb1⟩
 have HW1:=hide (show Below (w.alloc (.cells #[.string nm,.slice rA rn rc,.slice oA on oc,.slice tA tm tc,.slice lA ln lc,.int .i64 ar,.slice bA bn bc] 28)).heap.size (w.alloc (.cells #[.string nm,.slice rA rn rc,.slice oA on oc,.slice tA tm tc,.slice lA ln lc,.int .i64 ar,.slice bA bn bc] 28)) w1 from hb1)
 clear hb1
 rcases h1 with rfl | ⟨rfl,hn,hsz,hbk⟩
 case inl=>
  go_wp2_with fail
  refine (alive10_any _ (HT.out.up HW1.out)).mono ?_
  rintro e9 w9 ⟨rfl,hb9⟩
  have HW9:=hide (HW1.out.trans (hb9.mono HW1.out.size))
  clear hb9
  go_wp2
  go_ret
  exact ⟨rfl,HB.out.trans (HW9.out.mono HB.out.size)⟩
 have HN:=hide hn
 have HSZ:=hide hsz
 have HBK:=hide hbk
 clear hn hsz hbk
 obtain ⟨b1_0,b1_1,b1_2,b1_3,b1_4,b1_5,b1_6⟩:=hcs.out _ HW1.out
 go_wp2
 have HD3:=hide HW1.out.drew
 refine wp_region_held_drew (S:=(fun w'=>w'.cell? ⟨w.heap.size,0,none⟩=some (.string nm)∧w'.cell? ⟨w.heap.size,1,none⟩=some (.slice rA rn rc)∧w'.cell? ⟨w.heap.size,2,none⟩=some (.slice oA on oc)∧w'.cell? ⟨w.heap.size,3,none⟩=some (.slice tA tm tc)∧w'.cell? ⟨w.heap.size,4,none⟩=some (.slice lA ln lc)∧w'.cell? ⟨w.heap.size,5,none⟩=some (.int .i64 ar)∧w'.cell? ⟨w.heap.size,6,none⟩=some (.slice bA bn bc))) (by kernel_rfl) (hcs.out _ HD3.out) (fun hHeld=>?_)
 refine wpAnyH_ready (rs:=[0]) (by kernel_rfl) (by simp) ?_
 refine AllReadyH.cons rfl (fun KZ hK=>?_) AllReadyH.nil
 go_simp
 refine (alive10_any _ (HT.out.up HD3.out)).mono ?_
 rintro f1 v1 ⟨rfl,hb0⟩
 have HY1:=hide (HD3.out.trans (hb0.mono HD3.out.size))
 clear hb0
 refine hK.out _ _ (hcs.out _ HY1.out) (fun hHeld=>?_)
 clear hK KZ
 try simp only [Act.put,List.setIfInBounds_toArray,List.set_cons_zero,List.set_cons_succ]
 refine plan [(1,some 8,true),(2,some 9,true),(4,some 11,true)] ?_
 repeat' ((first | refine pN hHeld rfl rfl ?_ | (refine pY (v:=?_) hHeld rfl rfl ?_ ?_;rotate_left;(· (intro w9 hS9;obtain ⟨s0,s1,s2,s3,s4,s5,s6⟩:=hS9;first | (go_simp;done) | (go_simp;with_reducible rfl)))));try simp only [Act.put,List.setIfInBounds_toArray,List.set_cons_zero,List.set_cons_succ])
 refine plan0 ?_
 refine wpAnyH_ready (rs:=[3]) (by kernel_rfl) (by simp) ?_
 refine AllReadyH.cons rfl (fun KZ hK=>?_) AllReadyH.nil
 go_simp
 refine (vCheck_is (x:=⟨nm,⟨rA,rn,rc,rL⟩,⟨oA,on,oc,oL⟩,⟨tA,tm,tc,tL⟩,⟨lA,ln,lc,lL⟩,ar,⟨bA,bn,bc,bL⟩⟩) (HX.out.up HY1.out) HN.out (HT.out.up HY1.out) HV.out).mono ?_
 rintro f2 v2 ⟨rfl,hb0⟩
 have HY2:=hide (HY1.out.trans (hb0.mono HY1.out.size))
 clear hb0
 refine hK.out _ _ (hcs.out _ HY2.out) (fun hHeld=>?_)
 clear hK KZ
 try simp only [Act.put,List.setIfInBounds_toArray,List.set_cons_zero,List.set_cons_succ]
 refine wpAnyH_ready (rs:=[5]) (by kernel_rfl) (by simp) ?_
 refine AllReadyH.cons rfl (fun KZ hK=>?_) AllReadyH.nil
 go_simp
 refine (RCheck_is (HX.out.up HY2.out) HV.out).mono ?_
 rintro f3 v3 ⟨rfl,hb0⟩
 have HY3:=hide (HY2.out.trans (hb0.mono HY2.out.size))
 clear hb0
 refine hK.out _ _ (hcs.out _ HY3.out) (fun hHeld=>?_)
 clear hK KZ
 try simp only [Act.put,List.setIfInBounds_toArray,List.set_cons_zero,List.set_cons_succ]
 refine plan [(6,some 13,true),(7,some 14,true),(8,some 2,true)] ?_
 repeat' ((first | refine pN hHeld rfl rfl ?_ | (refine pY (v:=?_) hHeld rfl rfl ?_ ?_;rotate_left;(· (intro w9 hS9;obtain ⟨s0,s1,s2,s3,s4,s5,s6⟩:=hS9;first | (go_simp;done) | (go_simp;with_reducible rfl)))));try simp only [Act.put,List.setIfInBounds_toArray,List.set_cons_zero,List.set_cons_succ])
 refine plan0 ?_
 refine wpAnyH_done (by kernel_rfl) ?_ _
 go_wp2
 go_ret
 exact ⟨rfl,HB.out.trans (HY3.out.mono HB.out.size)⟩
theorem own:ownKnob Tryz.prog.godebug=none:=by kernel_rfl
theorem laidOut:laidOutB Tryz.prog=true:=by kernel_rfl
theorem contract (H:Type) (enc:TypeId×Value→H) (W:World) (base:Nat) (args:Array Value) (ds gs:List (DataW H)) (before:List MemPlace)
  (hval0:∀ (j:Nat) t v,Tryz.f3.params[j]?=some t→args[j]?=some v→Value.okWide Tryz.prog W .any base t v)
  (hW:DataW.Whole enc Tryz.prog Tryz.f3.params.toList Rows.validMatchesReferenceSpec.vars false W args.toList ds gs before) (hsz0:(DataW.weightsEach Tryz.prog (Tryz.f3.params.toList++Rows.validMatchesReferenceSpec.plain.varTypes Tryz.prog) (ds++gs)).all (·≤reachBytes)=true) (hT:OpsT W) :
  Calls Tryz.prog 3 args W fun e W'=>∃ v,e=.returned v∧Rows.validMatchesReferenceSpec.post enc Tryz.prog Tryz.f3 false true false false W args v W':=by
 have hval:∀ (j:Nat) t v,Tryz.f3.params[j]?=some t→args[j]?=some v→Value.okWide Tryz.prog W .any base t v:=hval0
 have hW':=hW
 obtain ⟨p,q,hA0,hV,rfl,hfz,hnd⟩:=hW
 have hA:DataW.TrodAll enc Tryz.prog W 0 (fun _=>true) true Tryz.f3.params.toList args.toList ds p:=hA0
 have hsz:(DataW.weightsEach Tryz.prog (Tryz.f3.params.toList++Rows.validMatchesReferenceSpec.plain.varTypes Tryz.prog) (ds++gs)).all (·≤reachBytes)=true:=hsz0
 rw [Tryz.params3] at hA hval hsz
 obtain ⟨v0,vs0,d0,ds0,p0,q0,hargs,rfl,rfl,h0,r0⟩:=trodAll_cons hA
 obtain ⟨rfl,rfl,rfl⟩:=trodAll_nil r0
 obtain rfl:args=#[v0]:=by cases args;simp_all
 obtain ⟨rfl,rfl⟩:=trodVars_none hV
 have k0:=h0
 have lt0:∀ x∈p0,x.block < W.heap.size:=by obtain ⟨m,hm⟩:=k0;exact DataW.trod_lt m _ _ _ hm
 obtain ⟨x0,rfl,g0,f0⟩:=openBody (hval 0 28 v0 rfl rfl) h0
 have s0:FitBd x0:=f0 (List.all_eq_true.2 fun n hn=>List.all_eq_true.1 hsz n (DataW.weights_mem_each (j:=0) (t:=28) rfl rfl n hn))
 clear hA0 hval0 hsz hsz0
 simp only [List.append_nil] at hW'
 refine (walk x0 W g0 s0 hT).mono fun e W' ⟨he,bel⟩=>?_
 subst he
 exact ⟨_,rfl,_,_,_,[],_,[],hW',trodAll_mk1 (shut_bool Tryz.underlying4 _),(trodAll_cons_mk (Below.trod laidOut (by kernel_rfl) (of_decide_eq_true (by kernel_rfl)) k0 bel lt0) trodAll_mk0),rfl,bel.frame _,fun h=>by cases h⟩
theorem lifted (os:Os) (started:os.Started) (H:Type) (enc:TypeId×Value→H) :
  ReturnsInHanded {} Tryz.checked os 3 .any (fun w args=>(Rows.validMatchesReferenceSpec.pre enc Tryz.prog Tryz.f3 [] false w args∧laidMetH Tryz.prog laid1 w)∧sizedMet enc Tryz.prog Tryz.f3 (OpenSpec.ofChange Rows.validMatchesReferenceSpec) false w args) (Rows.validMatchesReferenceSpec.post enc Tryz.prog Tryz.f3 false true false false):=by
 refine returnsInHanded_of_change_and (C:=Tryz.checked) (X:=fun w _=>laidMetH Tryz.prog laid1 w) (fun _ _ _ hh h=>h.of_heap hh) own started (by kernel_rfl) Tryz.func3
  (ChangeSpec.witness_shaped (enc:=enc) (C:=Tryz.checked) (os:=os) (X:=fun w _=>laidMetH Tryz.prog laid1 w) false (World.doorLaid Tryz.prog 400 os) #[.agg #[.string .empty,.slice none 0 0,.slice none 0 0,.slice none 0 0,.slice none 0 0,.int .i64 0,.slice none 0 0]] 8 rfl (World.shaped_of_RefB (by kernel_rfl) (by kernel_rfl)) (by kernel_rfl) (by kernel_rfl) (by kernel_rfl) (door_met os _)) ?_
 intro W base args ds gs before hval hW _ hsz hL _
 exact contract H enc W base args ds gs before hval hW hsz (opsT_of hL)
theorem rowProved:Rows.ValidMatchesReferenceSaid:=
 OpenClaim.holds_of_wide 3 Tryz.f3 rfl rfl rfl rfl rfl rfl rfl ⟨rfl,rfl,rfl,rfl,rfl⟩ rfl rfl rfl rfl rfl (by kernel_rfl) Tryz.func3 (by kernel_rfl)
  (of_decide_eq_true (by kernel_rfl)) (by unfold Func.isWrapper;first | (rw [if_pos (by decide +kernel)];kernel_rfl) | (rw [if_neg (by decide +kernel)];exact ⟨rfl,rfl⟩))
  (fun os started H enc _=>lifted os started H enc)
theorem proved:Rows.ValidMatchesReferenceCardSaid:=
 Claim7.holds_tied_plain_at .later [] [.data] true Rows.validMatchesReferenceCard.stood.harness false
  rowProved (fun _ h=>by cases h) (by kernel_rfl) (fun _ h=>by cases h) validMatchesReference_row_tie rfl ⟨rfl,rfl⟩ (by kernel_rfl) rfl
  (fun f fn hf hfn=>by
   obtain rfl:f=3:=Option.some.inj ((show Tryz.prog.funcNamed "mirtower/mirtowerlaw10.ValidMatchesReference"=some 3 by kernel_rfl).symm.trans hf) |>.symm
   obtain rfl:fn=Tryz.f3:=(Option.some.inj (Tryz.func3.symm.trans hfn)).symm
   exact ⟨by kernel_rfl,fun j t ht=>by
    rw [Tryz.params3] at ht
    have hm:t∈[28]:=by simpa using Array.mem_of_getElem? ht
    have hall:([28].all fun u=>!Tryz.prog.wantsStandIn u)=true:=by kernel_rfl
    exact (show Tryz.prog.wantsStandIn t=false by simpa using List.all_eq_true.1 hall t hm)⟩)
  (by kernel_rfl)
end Go.Proofs.YtfgacmgjpikgaaaGreatDoor.validMatchesReference
