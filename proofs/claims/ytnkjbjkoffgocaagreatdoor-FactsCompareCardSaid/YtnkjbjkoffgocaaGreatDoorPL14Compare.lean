/- FactsCompare. Its condition: the lengths of the argument are within the reach. -/
import Derived.Test.YtnkjbjkoffgocaaGreatDoorQ38
import Derived.Test.YtnkjbjkoffgocaaGreatDoorTie
import Derived.Test.YtnkjbjkoffgocaaGreatDoorCards
import Derived.SevenTiedAt
set_option linter.unusedVariables false
set_option linter.unusedSimpArgs false
set_option linter.unusedSectionVars false
set_option maxRecDepth 100000
set_option maxHeartbeats 8000000
namespace Go.Proofs.YtnkjbjkoffgocaaGreatDoor.factsCompare
open _root_.Go.Proofs.Tryz Go.ChangeShapes Go.WideShapes Go.ChangeAt Go.ChangeMaps Go.RowKit Go.Shelf Go.WideElems
theorem walk (a b:FcW) (w:World) (c:vO w w.heap.size a) (d:vO w w.heap.size b) (f:oJ a) (g:oJ b) (h:mV w) :
 Calls prog 5 #[wG a,wG b] w fun e i=>e=.returned (.bool true)/\Ab w i:=PB a b w c d f g h
theorem own:ownKnob prog.godebug=none:=by kernel_rfl
theorem laidOut:laidOutB prog=true:=by kernel_rfl
theorem contract (H:Type) (enc:TypeId×Value->H) (W:World) (base:Nat) (args:Array Value) (ds l:List (DataW H)) (c:List MemPlace)
 (a:∀ (j:Nat) t v,Tryz.f5.params[j]?=some t->args[j]?=some v->Value.okWide prog W .any base t v)
 (y:DataW.Whole enc prog Tryz.f5.params.toList Rows.factsCompareSpec.vars false W args.toList ds l c) (f:(DataW.weightsEach prog (Tryz.f5.params.toList++Rows.factsCompareSpec.plain.varTypes prog) (ds++l)).all (·<=reachBytes)=true) (K:mV W) :
 Calls prog 5 args W fun e z=>∃ v,e=.returned v/\Rows.factsCompareSpec.post enc prog Tryz.f5 false true false false W args v z:=by
 have b:∀ (j:Nat) t v,Tryz.f5.params[j]?=some t->args[j]?=some v->Value.okWide prog W .any base t v:=a;have i:=y;obtain ⟨p,q,k,L,rfl,M,N⟩:=y;have A:DataW.TrodAll enc prog W 0 (fun _=>true) true Tryz.f5.params.toList args.toList ds p:=k;have d:(DataW.weightsEach prog (Tryz.f5.params.toList++Rows.factsCompareSpec.plain.varTypes prog) (ds++l)).all (·<=reachBytes)=true:=f;rw [Tryz.params5] at A b d;obtain ⟨B,O,d0,P,Q,q0,o,rfl,rfl,C,R⟩:=trodAll_cons A;obtain ⟨D,S,d1,T,U,q1,rfl,rfl,rfl,E,V⟩:=trodAll_cons R;obtain ⟨rfl,rfl,rfl⟩:=trodAll_nil V;obtain rfl:args=#[B,D]:=by cases args;simp_all
 obtain ⟨rfl,rfl⟩:=trodVars_none L;have F:=C;have r:∀ x∈Q,x.block < W.heap.size:=by obtain ⟨m,s⟩:=F;exact Gi m _ _ _ s
 obtain ⟨G,rfl,X,Y⟩:=dM (b 0 33 B rfl rfl) C;have I:=E;have u:∀ x∈U,x.block < W.heap.size:=by obtain ⟨m,s⟩:=I;exact Gi m _ _ _ s
 obtain ⟨J,rfl,Z,f1⟩:=dM (b 1 33 D rfl rfl) E;have s0:oJ G:=Y (Cb.2 fun n w=>Cb.1 d n (D5 (j:=0) (t:=33) rfl rfl n w));have s1:oJ J:=f1 (Cb.2 fun n w=>Cb.1 d n (D5 (j:=1) (t:=33) rfl rfl n w));clear k a d f;simp only [B5] at i;refine (walk G J W X Z s0 s1 K).mono fun e z ⟨he,g⟩=>?_
 subst he;exact ⟨_,rfl,_,_,_,[],_,[],i,trodAll_mk1 (shut_bool underlying4 _),(trodAll_cons_mk (Below.trod laidOut fL (of_decide_eq_true fL) F g r) (trodAll_cons_mk (Below.trod laidOut fL (of_decide_eq_true fL) I g u) trodAll_mk0)),rfl,g.frame _,fun h=>by cases h⟩
theorem lifted (os:Os) (b:os.Started) (H:Type) (enc:TypeId×Value->H) :
 ReturnsInHanded {} Tryz.checked os 5 .any (fun w a=>(Rows.factsCompareSpec.pre enc prog Tryz.f5 [] false w a/\laidMetH prog cW w)/\sizedMet enc prog Tryz.f5 (OpenSpec.ofChange Rows.factsCompareSpec) false w a) (Rows.factsCompareSpec.post enc prog Tryz.f5 false true false false):=by
 refine returnsInHanded_of_change_and (C:=Tryz.checked) (X:=fun w _=>laidMetH prog cW w) (fun _ _ _ g h=>h.of_heap g) own b fL func5
  (ChangeSpec.witness_shaped (enc:=enc) (C:=Tryz.checked) (os:=os) (X:=fun w _=>laidMetH prog cW w) false (World.doorLaid prog 400 os) #[.agg #[.slice none 0 0,.slice none 0 0,.slice none 0 0,.slice none 0 0,.slice none 0 0],.agg #[.slice none 0 0,.slice none 0 0,.slice none 0 0,.slice none 0 0,.slice none 0 0]] 8 rfl (World.shaped_of_RefB fL fL) fL fL fL (rN os _)) ?_
 intro W d a i j c e k _ f l _;exact contract H enc W d a i j c e k f (FB l)
theorem facts:joinedFacts prog 5 Tryz.f5 Rows.factsCompareSpec Rows.factsCompareRow=true:=by
 simp only [joinedFacts,En]
 and_intros
 all_goals (as_aux_lemma=>kernel_rfl)
theorem rowProved:Rows.FactsCompareSaid:=
 OpenClaim.holds_of_wide 5 Tryz.f5 rfl rfl rfl rfl rfl rfl rfl ⟨rfl,rfl,rfl,rfl,rfl⟩ rfl rfl rfl rfl rfl fL func5 facts
  (of_decide_eq_true fL) (by unfold Func.isWrapper;first | (rw [if_pos (by decide +kernel)];kernel_rfl) | (rw [if_neg (by decide +kernel)];exact ⟨rfl,rfl⟩))
  (fun c a H b _=>lifted c a H b)
theorem proved:Rows.FactsCompareCardSaid:=
 Claim7.holds_tied_plain_at .later [] [.data] true Rows.factsCompareCard.stood.harness false
  rowProved (fun _ h=>by cases h) fL (fun _ h=>by cases h) factsCompare_row_tie rfl ⟨rfl,rfl⟩ fL rfl
  (fun f fn d b=>by
   obtain rfl:f=5:=B8 ((show prog.funcNamed "mirtower/mirtowerlaw14.FactsCompare"=some 5 by kernel_rfl).symm.trans d) |>.symm;obtain rfl:fn=Tryz.f5:=(B8 (func5.symm.trans b)).symm;exact ⟨fL,fun j t c=>by
    rw [Tryz.params5] at c;have e:t∈[33,33]:=(by simpa using Fl c);have a:([33,33].all fun u=>!prog.wantsStandIn u)=true:=fL;exact (show prog.wantsStandIn t=false by simpa using Cb.1 a t e)⟩)
  fL
end Go.Proofs.YtnkjbjkoffgocaaGreatDoor.factsCompare
