/- FactsCheck. Its condition: the lengths of the argument are within the reach. -/
import Derived.Test.YtnkjbjkoffgocaaGreatDoorQ36
import Derived.Test.YtnkjbjkoffgocaaGreatDoorTie
import Derived.Test.YtnkjbjkoffgocaaGreatDoorCards
import Derived.SevenTiedAt
set_option linter.unusedVariables false
set_option linter.unusedSimpArgs false
set_option linter.unusedSectionVars false
set_option maxRecDepth 100000
set_option maxHeartbeats 8000000
namespace Go.Proofs.YtnkjbjkoffgocaaGreatDoor.factsCheck
open _root_.Go.Proofs.Tryz Go.ChangeShapes Go.WideShapes Go.ChangeAt Go.ChangeMaps Go.RowKit Go.Shelf Go.WideElems
theorem walk (a:FcW) (N R:Int) (w:World) (b:vO w w.heap.size a) (c:uH N) (d:uH R) (f:oJ a) (g:mV w) :
 Calls prog 4 #[wG a,.int .i64 N,.int .i64 R] w fun e h=>e=.returned (.bool true)/\Ab w h:=XC a N R w b c d f g
theorem own:ownKnob prog.godebug=none:=by kernel_rfl
theorem laidOut:laidOutB prog=true:=by kernel_rfl
theorem contract (H:Type) (enc:TypeId×Value->H) (W:World) (base:Nat) (args:Array Value) (ds l:List (DataW H)) (c:List MemPlace)
 (b:∀ (j:Nat) t v,Tryz.f4.params[j]?=some t->args[j]?=some v->Value.okWide prog W .any base t v)
 (w:DataW.Whole enc prog Tryz.f4.params.toList Rows.factsCheckSpec.vars false W args.toList ds l c) (d:(DataW.weightsEach prog (Tryz.f4.params.toList++Rows.factsCheckSpec.plain.varTypes prog) (ds++l)).all (·<=reachBytes)=true) (J:mV W) :
 Calls prog 4 args W fun e y=>∃ v,e=.returned v/\Rows.factsCheckSpec.post enc prog Tryz.f4 false true false false W args v y:=by
 have a:∀ (j:Nat) t v,Tryz.f4.params[j]?=some t->args[j]?=some v->Value.okWide prog W .any base t v:=b;have g:=w;obtain ⟨p,q,i,K,rfl,L,M⟩:=w;have z:DataW.TrodAll enc prog W 0 (fun _=>true) true Tryz.f4.params.toList args.toList ds p:=i;have f:(DataW.weightsEach prog (Tryz.f4.params.toList++Rows.factsCheckSpec.plain.varTypes prog) (ds++l)).all (·<=reachBytes)=true:=d;rw [Tryz.params4] at z a f;obtain ⟨A,N,d0,O,P,q0,o,rfl,rfl,B,Q⟩:=trodAll_cons z;obtain ⟨C,R,d1,S,p1,q1,rfl,rfl,rfl,T,U⟩:=trodAll_cons Q;obtain ⟨D,V,d2,X,p2,q2,rfl,rfl,rfl,Y,Z⟩:=trodAll_cons U;obtain ⟨rfl,rfl,rfl⟩:=trodAll_nil Z;obtain rfl:args=#[A,C,D]:=by cases args;simp_all
 obtain ⟨rfl,rfl⟩:=trodVars_none K;have E:=B;have r:∀ x∈P,x.block < W.heap.size:=by obtain ⟨m,hm⟩:=E;exact Gi m _ _ _ hm
 obtain ⟨F,rfl,g0,f0⟩:=dM (a 0 33 A rfl rfl) B;obtain ⟨s,rfl,rfl,rfl,G⟩:=open_int underlying3 (a 1 3 C rfl rfl) T;have g1:-9223372036854775808<=s/\s<=9223372036854775807:=by simpa [Lit.wf,IntKind.min,IntKind.max,IntKind.signed,IntKind.bits] using G
 obtain ⟨u,rfl,rfl,rfl,I⟩:=open_int underlying3 (a 2 3 D rfl rfl) Y;have g2:-9223372036854775808<=u/\u<=9223372036854775807:=by simpa [Lit.wf,IntKind.min,IntKind.max,IntKind.signed,IntKind.bits] using I
 have s0:oJ F:=f0 (Cb.2 fun n hn=>Cb.1 f n (D5 (j:=0) (t:=33) rfl rfl n hn));clear i b f d;simp only [B5] at g;refine (walk F s u W g0 g1 g2 s0 J).mono fun e y ⟨he,k⟩=>?_
 subst he;exact ⟨_,rfl,_,_,_,[],_,[],g,trodAll_mk1 (shut_bool underlying4 _),(trodAll_cons_mk (Below.trod laidOut fL (of_decide_eq_true fL) E k r) (trodAll_cons_mk (shut_int underlying3 G) (trodAll_cons_mk (shut_int underlying3 I) trodAll_mk0))),rfl,k.frame _,fun h=>by cases h⟩
theorem lifted (os:Os) (b:os.Started) (H:Type) (enc:TypeId×Value->H) :
 ReturnsInHanded {} Tryz.checked os 4 .any (fun w a=>(Rows.factsCheckSpec.pre enc prog Tryz.f4 [] false w a/\laidMetH prog cW w)/\sizedMet enc prog Tryz.f4 (OpenSpec.ofChange Rows.factsCheckSpec) false w a) (Rows.factsCheckSpec.post enc prog Tryz.f4 false true false false):=by
 refine returnsInHanded_of_change_and (C:=Tryz.checked) (X:=fun w _=>laidMetH prog cW w) (fun _ _ _ g h=>h.of_heap g) own b fL func4
  (ChangeSpec.witness_shaped (enc:=enc) (C:=Tryz.checked) (os:=os) (X:=fun w _=>laidMetH prog cW w) false (World.doorLaid prog 400 os) #[.agg #[.slice none 0 0,.slice none 0 0,.slice none 0 0,.slice none 0 0,.slice none 0 0],.int .i64 0,.int .i64 0] 8 rfl (World.shaped_of_RefB fL fL) fL fL fL (rN os _)) ?_
 intro W d a i j c e k _ f l _;exact contract H enc W d a i j c e k f (FB l)
theorem facts:joinedFacts prog 4 Tryz.f4 Rows.factsCheckSpec Rows.factsCheckRow=true:=by
 simp only [joinedFacts,En]
 and_intros
 all_goals (as_aux_lemma=>kernel_rfl)
theorem rowProved:Rows.FactsCheckSaid:=
 OpenClaim.holds_of_wide 4 Tryz.f4 rfl rfl rfl rfl rfl rfl rfl ⟨rfl,rfl,rfl,rfl,rfl⟩ rfl rfl rfl rfl rfl fL func4 facts
  (of_decide_eq_true fL) (by unfold Func.isWrapper;first | (rw [if_pos (by decide +kernel)];kernel_rfl) | (rw [if_neg (by decide +kernel)];exact ⟨rfl,rfl⟩))
  (fun c a H b _=>lifted c a H b)
theorem proved:Rows.FactsCheckCardSaid:=
 Claim7.holds_tied_plain_at .later [] [.data] true Rows.factsCheckCard.stood.harness false
  rowProved (fun _ h=>by cases h) fL (fun _ h=>by cases h) factsCheck_row_tie rfl ⟨rfl,rfl⟩ fL rfl
  (fun f fn d b=>by
   obtain rfl:f=4:=B8 ((show prog.funcNamed "mirtower/mirtowerlaw14.FactsCheck"=some 4 by kernel_rfl).symm.trans d) |>.symm;obtain rfl:fn=Tryz.f4:=(B8 (func4.symm.trans b)).symm;exact ⟨fL,fun j t c=>by
    rw [Tryz.params4] at c;have e:t∈[33,3,3]:=(by simpa using Fl c);have a:([33,3,3].all fun u=>!prog.wantsStandIn u)=true:=fL;exact (show prog.wantsStandIn t=false by simpa using Cb.1 a t e)⟩)
  fL
end Go.Proofs.YtnkjbjkoffgocaaGreatDoor.factsCheck
