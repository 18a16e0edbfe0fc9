import Derived.Test.YtnkjbjkoffgocaaGreatDoorQ9
import Derived.Stop.RegionWithIn
set_option linter.unusedVariables false
set_option linter.unusedSimpArgs false
set_option maxRecDepth 100000
set_option maxHeartbeats 8000000
namespace Go.Proofs.YtnkjbjkoffgocaaGreatDoor
open Tryz Go.RowKit
section
open Go.Shelf
attribute [local go_sem] Oper.semAt_some
theorem aB {P:Program} {fn:Func} {p u:Tmp} {c a:TypeId} (h:fn.results=#[.cell p c,.cell u a]) (tmps:Array Value) (w:World) (g e:Nat) (t:TypeId) (cs:Array Value) (j:Nat×Nat) (d:TypeDesc) (v:Value)
 (k:tmps.getD p undef=.pointer (some ⟨g,0,none⟩)) (l:w.heap[g]?=some (.cells cs t j))
 (m:P.underlying c=some d) (n:(match d with | .struct _ | .array _ _=>true | _=>false)=true) (o:(P.info? c).map (·.size)=some cs.size)
 (f:tmps.getD u undef=.pointer (some ⟨e,0,none⟩)) (q:(loadVar a ⟨e,0,none⟩).run P w=.ok v w) :
 (results fn tmps).run P w=.ok (.tuple #[.agg cs,v]) w:=by
 have i:tmps[p]?.getD undef=.pointer (some ⟨g,0,none⟩):=by simpa using k
 have b:tmps[u]?.getD undef=.pointer (some ⟨e,0,none⟩):=by simpa using f
 simp [results,h,i,b,asAddr,run_loadVar_row w g t c cs j d l m n o,q,Fd,Result.andThen]
def vSp:Option (Nat×Nat)->Int->Value
 | some x,p=>.tuple #[.agg #[.int .i64 p,.int .i64 (x.1:Int),.int .i64 (x.2:Int)],.bool true]
 | none,_=>.tuple #[.agg #[.int .i64 0,.int .i64 0,.int .i64 0],.bool false]
def QR {a:List BkV} (g h:Nat) (pre:List (SpX a)) (W:World):Prop:=∃ s,pre=[s]/\W.heap[g]?=some (.cells #[.int .i64 (s.1.1:Int),.int .i64 (s.1.2.1:Int),.int .i64 (s.1.2.2:Int)] 159 (0,0))/\Boxed W h 4 (.bool true)
theorem wQ {W W':World} {row:Option Nat} {B:Nat} {cs:Array Value} {t:TypeId} {b:Nat×Nat} (h:W.heap[B]?=some (.cells cs t b)) (c:W.grownBy W' row) (d:∀ r,row=some r->∃ o:Obj,W.heap[r]?=some o/\o.isCells=false):W'.heap[B]?=some (.cells cs t b):=
 (c.block B (Ag.1 h).1 (fun e=>by
  obtain ⟨o,a,f⟩:=d B e.symm;rw [h] at a;injection a with a;subst a;cases f)).trans h
theorem QR.own {c:List BkV} {g h:Nat} {pre:List (SpX c)} {W W':World} {row:Option Nat} (H:QR g h pre W) (a:W.grownBy W' row) (b:∀ r,row=some r->∃ o:Obj,W.heap[r]?=some o/\o.isCells=false):QR g h pre W':=by
 obtain ⟨s,d,e,f⟩:=H;exact ⟨s,d,wQ e a b,wQ f a b⟩
theorem XO (x:BdW) (pt:Int) (w:World) (t:pt < 0) :
 Calls prog 228 #[vR x,.int .i64 pt] w fun e y=>e=.returned (vSp none pt)/\Ab w y:=by
 obtain ⟨a,⟨b,c,d,B⟩,⟨f,on,g,C⟩,⟨i,j,k,D⟩,⟨l,m,n,E⟩,o,⟨p,q,r,F⟩⟩:=x;go_enter func228,ntmps228
 go_wp2;have u:=(uB w (.cells #[.string a,.slice b c d,.slice f on g,.slice i j k,.slice l m n,.int .i64 o,.slice p q r] 28)).trans ((uB (w.alloc (.cells #[.string a,.slice b c d,.slice f on g,.slice i j k,.slice l m n,.int .i64 o,.slice p q r] 28)) (.cells #[.int .i64 0,.int .i64 0,.int .i64 0] 159)).mono (uB w (.cells #[.string a,.slice b c d,.slice f on g,.slice i j k,.slice l m n,.int .i64 o,.slice p q r] 28)).size);have s:=u.trans ((uB _ (.cells #[.bool false] 4)).mono u.size);refine bodyPost_ret (v:=vSp none pt) ?_ rfl ⟨rfl,s⟩;refine aB rfl _ _ (w.heap.size+1) (w.heap.size+1+1) 159 #[.int .i64 0,.int .i64 0,.int .i64 0] (0,0) _ (.bool false) rfl ?_ underlying159 rfl fL rfl ?_
 ·have h:=heap_alloc_new (w.alloc (.cells #[.string a,.slice b c d,.slice f on g,.slice i j k,.slice l m n,.int .i64 o,.slice p q r] 28)) (.cells #[.int .i64 0,.int .i64 0,.int .i64 0] 159);have z:(w.alloc (.cells #[.string a,.slice b c d,.slice f on g,.slice i j k,.slice l m n,.int .i64 o,.slice p q r] 28)).heap.size=w.heap.size+1:=by simp
  rw [z] at h;have A:((w.alloc (.cells #[.string a,.slice b c d,.slice f on g,.slice i j k,.slice l m n,.int .i64 o,.slice p q r] 28)).alloc (.cells #[.int .i64 0,.int .i64 0,.int .i64 0] 159)).heap.size=w.heap.size+1+1:=by simp
  exact ((uB ((w.alloc (.cells #[.string a,.slice b c d,.slice f on g,.slice i j k,.slice l m n,.int .i64 o,.slice p q r] 28)).alloc (.cells #[.int .i64 0,.int .i64 0,.int .i64 0] 159)) (.cells #[.bool false] 4)).block (w.heap.size+1) (by rw [A];omega)).trans h
 ·go_simp
theorem YK (x:BdW) (pt:Int) (w:World) (hx:uS w w.heap.size x) (hN:uF x.v.blocks<=2 ^ 62) (hI:uH pt) (ak:0<=pt) :
 Calls prog 228 #[vR x,.int .i64 pt] w fun e B=>e=.returned (vSp (vB x.v.blocks pt) pt)/\Ab w B:=by
 refine (callsIn_wide (n:=9)).1 ?_;obtain ⟨BL,G⟩:∃ l,x.v.blocks=l:=⟨_,rfl⟩;obtain ⟨C,hC⟩:∃ n,uF BL=n:=⟨_,rfl⟩;rw [G,hC] at hN;rw [G];have HX:=uA hx;have al:=uA G;have a9:=uA hC;have HI:=uA hI;have Z:=uA fun (n:Nat) (hn:1<=n) (Bb Bf:Nat) (B:World) (aa:B.heap[Bb]?=some (.cells (cBd x).toArray 28 (0,0))) (ab:Boxed B Bf 3 (.int .i64 pt)) (hx:uS B w.heap.size x) (ac:w.heap.size<=B.heap.size)=>fY n hn Bb Bf w.heap.size x BL G pt C hC hN hI B aa ab hx ac
 clear hx G hC hI;obtain ⟨b,⟨c,d,f,rL⟩,⟨g,on,h,oL⟩,⟨i,k,m,tL⟩,⟨o,q,u,lL⟩,v,⟨y,z,A,bL⟩⟩:=x;have ad:=uA fun (n:Nat) (B:World)=>(show CallsIn Fence.wide n prog 84 #[.agg #[.string b,.slice c d f,.slice g on h,.slice i k m,.slice o q u,.int .i64 v,.slice y z A],.int .i64 pt] B fun e w2=>e=.returned (.func (.func 135) #[] #[.pointer (some ⟨B.heap.size,0,none⟩),.pointer (some ⟨B.heap.size+1,0,none⟩)]) /\
  w2=(B.alloc (.cells #[.string b,.slice c d f,.slice g on h,.slice i k m,.slice o q u,.int .i64 v,.slice y z A] 28)).alloc (.cells #[.int .i64 pt] 3) from CM n ⟨b,⟨c,d,f,rL⟩,⟨g,on,h,oL⟩,⟨i,k,m,tL⟩,⟨o,q,u,lL⟩,v,⟨y,z,A,bL⟩⟩ pt B)
 refine callsIn_of_wp_marks func228 rfl trivial ?_ rfl;simp only [ntmps228,Bc,As,Br,Nat.reduceAdd,Nat.reduceSub,Ay,Az,Be,Ba,Bj,Bg];gi_wp2_with (refine ⟨trivial,?_⟩;gi_at_call 84;refine (ad.o _ _).mono ?_;rintro e w2 ⟨rfl,rfl⟩)
 have bS:=((((Bx.new (w.alloc (.cells #[.string b,.slice c d f,.slice g on h,.slice i k m,.slice o q u,.int .i64 v,.slice y z A] 28)) [.int .i64 0,.int .i64 0,.int .i64 0] 159).below (uB _ (.cells #[.bool false] 4))).below (uB _ (.cells #[.string b,.slice c d f,.slice g on h,.slice i k m,.slice o q u,.int .i64 v,.slice y z A] 28))).below (uB _ (.cells #[.int .i64 pt] 3)));have bF:=(((Bx.new ((w.alloc (.cells #[.string b,.slice c d f,.slice g on h,.slice i k m,.slice o q u,.int .i64 v,.slice y z A] 28)).alloc (.cells #[.int .i64 0,.int .i64 0,.int .i64 0] 159)) [.bool false] 4).below (uB _ (.cells #[.string b,.slice c d f,.slice g on h,.slice i k m,.slice o q u,.int .i64 v,.slice y z A] 28))).below (uB _ (.cells #[.int .i64 pt] 3)));have bC:=(Bx.new (((w.alloc (.cells #[.string b,.slice c d f,.slice g on h,.slice i k m,.slice o q u,.int .i64 v,.slice y z A] 28)).alloc (.cells #[.int .i64 0,.int .i64 0,.int .i64 0] 159)).alloc (.cells #[.bool false] 4)) [.string b,.slice c d f,.slice g on h,.slice i k m,.slice o q u,.int .i64 v,.slice y z A] 28).below (uB _ (.cells #[.int .i64 pt] 3));have bP:=Bx.new ((((w.alloc (.cells #[.string b,.slice c d f,.slice g on h,.slice i k m,.slice o q u,.int .i64 v,.slice y z A] 28)).alloc (.cells #[.int .i64 0,.int .i64 0,.int .i64 0] 159)).alloc (.cells #[.bool false] 4)).alloc (.cells #[.string b,.slice c d f,.slice g on h,.slice i k m,.slice o q u,.int .i64 v,.slice y z A] 28)) [.int .i64 pt] 3;have a5:Ab w (((((w.alloc (.cells #[.string b,.slice c d f,.slice g on h,.slice i k m,.slice o q u,.int .i64 v,.slice y z A] 28)).alloc (.cells #[.int .i64 0,.int .i64 0,.int .i64 0] 159)).alloc (.cells #[.bool false] 4)).alloc (.cells #[.string b,.slice c d f,.slice g on h,.slice i k m,.slice o q u,.int .i64 v,.slice y z A] 28)).alloc (.cells #[.int .i64 pt] 3)):=(((((Below.refl _ w).alloc (Ae _) _).alloc nF _).alloc (by simp;omega) _).alloc (by simp;omega) _).alloc (by simp;omega) _;have am:(((((w.alloc (.cells #[.string b,.slice c d f,.slice g on h,.slice i k m,.slice o q u,.int .i64 v,.slice y z A] 28)).alloc (.cells #[.int .i64 0,.int .i64 0,.int .i64 0] 159)).alloc (.cells #[.bool false] 4)).alloc (.cells #[.string b,.slice c d f,.slice g on h,.slice i k m,.slice o q u,.int .i64 v,.slice y z A] 28)).alloc (.cells #[.int .i64 pt] 3)).heap.size=w.heap.size+5:=by simp
 simp only [Ak] at bS bF bC bP;generalize (((((w.alloc (.cells #[.string b,.slice c d f,.slice g on h,.slice i k m,.slice o q u,.int .i64 v,.slice y z A] 28)).alloc (.cells #[.int .i64 0,.int .i64 0,.int .i64 0] 159)).alloc (.cells #[.bool false] 4)).alloc (.cells #[.string b,.slice c d f,.slice g on h,.slice i k m,.slice o q u,.int .i64 v,.slice y z A] 28)).alloc (.cells #[.int .i64 pt] 3))=W0 at *;have ae:=uA (HX.o.below a5);have af:=uA a5;have ag:((pt.toNat:Nat):Int)=pt:=by omega
 refine wpIn_rangeFunc_ownH rfl bB (gf:=135) (lb:=#[.pointer (some ⟨w.heap.size+1+1+1,0,none⟩),.pointer (some ⟨w.heap.size+1+1+1+1,0,none⟩)]) rfl trivial (enters_of func135 fL rfl)
  (Z.o _ bB (w.heap.size+1+1+1) (w.heap.size+1+1+1+1) W0 bC bP ae.o bB) QA (FT bB) (Below.refl _ _) (fun _=>rfl)
  (fun E W=>(E=[]/\w.heap.size+5<=W.heap.size/\W.heap[w.heap.size+1]?=some (.cells #[.int .i64 0,.int .i64 0,.int .i64 0] 159 (0,0))/\Boxed W (w.heap.size+1+1) 4 (.bool false))/\Ab w W)
  (fun cd E W=>(cd=.ret/\QR (w.heap.size+1) (w.heap.size+1+1) E W)/\Ab w W)
  (Dg (Ed (fun s X Y a6 F hg hr=>⟨F.1,Ai F.2.1 hg.size,wQ F.2.2.1 hg hr,wQ F.2.2.2 hg hr⟩) _) (ownFrom_below (Ae _) bB))
  (fun cd=>Dg (Ed (fun s X Y a6 F hg hr=>⟨F.1,F.2.own hg hr⟩) _) (ownFrom_below (Ae _) bB))
  ⟨⟨rfl,bB,bS,bF⟩,af.o⟩
  (fun s a' W=>∃ Bq,w.heap.size+5<=Bq/\W.heap[Bq]?=some (.cells #[.int .i64 (s.1.1:Int),.int .i64 (s.1.2.1:Int),.int .i64 (s.1.2.2:Int)] 159 (0,0))/\a'={ tmps:=#[vR ⟨b,⟨c,d,f,rL⟩,⟨g,on,h,oL⟩,⟨i,k,m,tL⟩,⟨o,q,u,lL⟩,v,⟨y,z,A,bL⟩⟩,.int .i64 pt,.pointer (some ⟨w.heap.size,0,none⟩),undef,.pointer (some ⟨w.heap.size+1,0,none⟩),.pointer (some ⟨w.heap.size+1+1,0,none⟩),.pointer (some ⟨Bq,0,none⟩),.int .i64 pt,.bool (decide (pt < 0)),undef,.agg #[.string b,.slice c d f,.slice g on h,.slice i k m,.slice o q u,.int .i64 v,.slice y z A],.int .i64 pt,.func (.func 135) #[] #[.pointer (some ⟨w.heap.size+1+1+1,0,none⟩),.pointer (some ⟨w.heap.size+1+1+1+1,0,none⟩)],RH s.1.1 s.1.2.1 s.1.2.2,undef,undef],defers:=[] })
  (fun s a' _ X Y a6 F hg hr=>by obtain ⟨Bq,h1,h2,h3⟩:=F;exact ⟨Bq,h1,wQ h2 hg (fun r e=>(hr r e).2),h3⟩)
  ?assign ?body ?done ?stop
 case assign=>
  rintro l E s W K ⟨⟨h1,F,L,M⟩,J⟩ N;obtain ⟨⟨H,O,P⟩,Q⟩:=s;have hb:=uB W (.cells #[.int .i64 (H:Int),.int .i64 (O:Int),.int .i64 (P:Int)] 159);have ah:vQ w.heap.size iW W _:=vQ.of_below hb bB;have HK:=uA N;clear N;dsimp only [IB];gi_wp2;exact HK.o _ _ ((KeepsOthers.alloc _ _).from _) ah ⟨⟨h1,by simp;omega,(hb.block _ bB).trans L,M.alloc _⟩,(Aa J hb)⟩ ⟨W.heap.size,F,heap_alloc_new W _,rfl⟩
 case body=>
  rintro l E s a' W hl an ⟨⟨h1,F,L,M⟩,J⟩ ⟨Bq,ao,bX,rfl⟩ ap;obtain ⟨⟨H,O,P⟩,Q⟩:=s;subst h1;have d0:=uE bX 0;have d1:=uE bX 1;have d2:=uE bX 2;have R:Bx W (w.heap.size+1) [.int .i64 0,.int .i64 0,.int .i64 0] 159:=L;have S:=R.set 0 (.int .i64 (H:Int));have T:=S.set 1 (.int .i64 (O:Int));have s3:=T.set 2 (.int .i64 (P:Int));have U:=(((show Bx W (w.heap.size+1+1) [.bool false] 4 from M).other (a:=⟨w.heap.size+1,0,none⟩) nF (.int .i64 (H:Int))).other (a:=⟨w.heap.size+1,1,none⟩) nF (.int .i64 (O:Int))).other (a:=⟨w.heap.size+1,2,none⟩) nF (.int .i64 (P:Int));have k0:=R.q 0 rfl;have k1:=S.q 1 rfl;have k2:=T.q 2 rfl;have f0:=R.frozen 0;have f1:=S.frozen 1;have f2:=T.frozen 2;have k3:=U.q 0 rfl;have f3:=U.frozen 0;have a0:=uA (s3.other (a:=⟨w.heap.size+1+1,0,none⟩) nF (.bool true));have a1:=uA (U.set 0 (.bool true));have HB:=uA ((((J.setCell (p:=⟨w.heap.size+1,0,none⟩) nF (.int .i64 (H:Int))).setCell (p:=⟨w.heap.size+1,1,none⟩) nF (.int .i64 (O:Int))).setCell (p:=⟨w.heap.size+1,2,none⟩) nF (.int .i64 (P:Int))).setCell (p:=⟨w.heap.size+1+1,0,none⟩) (by simp;omega) (.bool true));clear R S T s3 U L M J;gi_wp2;exact ⟨(((Bz W ⟨w.heap.size+1,0,none⟩ (.int .i64 (H:Int))).trans (Bz _ ⟨w.heap.size+1,1,none⟩ (.int .i64 (O:Int)))).trans ((Bz _ ⟨w.heap.size+1,2,none⟩ (.int .i64 (P:Int))).trans (Bz _ ⟨w.heap.size+1+1,0,none⟩ (.bool true)))).from _,⟨rfl,⟨⟨(H,O,P),Q⟩,rfl,a0.o,a1.o⟩⟩,HB.o⟩
 case done=>
  rintro D ys W hD ai ⟨⟨rfl,F,L,M⟩,J⟩ N;have hz:C - pt.toNat=0:=by
   have:=congrArg List.length ai;rw [F1] at this;exact this.symm
  have HV:=uA (show vB BL pt=none from by
   unfold vB;rw [if_neg bB];exact rZ.2 (by rw [a9.o];omega))
  have R:Bx W (w.heap.size+1) [.int .i64 0,.int .i64 0,.int .i64 0] 159:=L;have S:=R.set 0 (.int .i64 0);have T:=S.set 1 (.int .i64 0);have s3:=T.set 2 (.int .i64 0);have U:=(((show Bx W (w.heap.size+1+1) [.bool false] 4 from M).other (a:=⟨w.heap.size+1,0,none⟩) nF (.int .i64 0)).other (a:=⟨w.heap.size+1,1,none⟩) nF (.int .i64 0)).other (a:=⟨w.heap.size+1,2,none⟩) nF (.int .i64 0);have k0:=R.q 0 rfl;have k1:=S.q 1 rfl;have k2:=T.q 2 rfl;have f0:=R.frozen 0;have f1:=S.frozen 1;have f2:=T.frozen 2;have k3:=U.q 0 rfl;have f3:=U.frozen 0;have a0:=uA (s3.other (a:=⟨w.heap.size+1+1,0,none⟩) nF (.bool false));have a1:=uA (U.set 0 (.bool false));have HB:=uA ((((J.setCell (p:=⟨w.heap.size+1,0,none⟩) nF (.int .i64 0)).setCell (p:=⟨w.heap.size+1,1,none⟩) nF (.int .i64 0)).setCell (p:=⟨w.heap.size+1,2,none⟩) nF (.int .i64 0)).setCell (p:=⟨w.heap.size+1+1,0,none⟩) (by simp;omega) (.bool false));have a7:=((((Bz W ⟨w.heap.size+1,0,none⟩ (.int .i64 0)).trans (Bz _ ⟨w.heap.size+1,1,none⟩ (.int .i64 0))).trans ((Bz _ ⟨w.heap.size+1,2,none⟩ (.int .i64 0)).trans (Bz _ ⟨w.heap.size+1+1,0,none⟩ (.bool false))))).same D _ N rfl;have V:=uA a7;have a2:w.heap.size<=D:=by omega
  clear R S T s3 U L M J a7;gi_wp2;generalize (((W.setCell ⟨w.heap.size+1,0,none⟩ (.int .i64 0)).setCell ⟨w.heap.size+1,1,none⟩ (.int .i64 0)).setCell ⟨w.heap.size+1,2,none⟩ (.int .i64 0)).setCell ⟨w.heap.size+1+1,0,none⟩ (.bool false)=W5 at *;refine ⟨nF,.inl ⟨_,_,rfl,run_takeDeferred V.o,?_⟩⟩;have a3:=wQ a0.o (grownBy_putObj' W5 D (.deferred none)) (fun r e=>by cases e;exact ⟨_,V.o,rfl⟩);have a4:=cell_kept (a1.o.q 0 rfl) (grownBy_putObj' _ D (.deferred none)) (fun r e=>by cases e;exact ⟨_,V.o,rfl⟩);refine ⟨_,aB rfl _ _ (w.heap.size+1) (w.heap.size+1+1) 159 _ (0,0) _ (.bool false) rfl a3 underlying159 rfl fL rfl ?_,(by rw [HV.o];rfl),HB.o.trans (belowK_b (w:=w) (Ae _) W5 D _ _ a2 V.o rfl rfl)⟩;simp [go_sem,a4]
 case stop=>
  rintro D cd E W hD a8 ⟨⟨rfl,⟨⟨⟨H,O,P⟩,Q⟩,rfl,L,M⟩⟩,J⟩ N;have I:H=pt.toNat/\pt.toNat < C:=by
   obtain ⟨t,ht⟩:=a8;have h0:=congrArg (fun l=>l[0]?) ht;simp only [C6,D2,Bg,Bj,List.getElem?_cons_zero] at h0;have hl:=congrArg List.length ht;rw [F1] at hl;simp only [C6,D2,Bg,Bj,As] at hl;rw [List.getElem?_range' bB] at h0;injection h0 with h0;have h0:H=pt.toNat:=(by simpa [spP] using h0);exact ⟨h0,bB⟩
  have HV:=uA (show vB BL pt=some (O,P) from by
   unfold vB;rw [if_neg bB,<- I.1];exact Q)
  have a2:w.heap.size<=D:=by omega
  have aj:(H:Int)=pt:=by rw [I.1];exact ag
  have a3:=wQ L (grownBy_putObj' W D (.deferred none)) (fun r e=>by cases e;exact ⟨_,N,rfl⟩);have a4:=cell_kept M.cell (grownBy_putObj' _ D (.deferred none)) (fun r e=>by cases e;exact ⟨_,N,rfl⟩);gi_wp2;refine ⟨nF,.inl ⟨_,_,rfl,run_takeDeferred N,?_⟩⟩;refine ⟨_,aB rfl _ _ (w.heap.size+1) (w.heap.size+1+1) 159 _ (0,0) _ (.bool true) rfl a3 underlying159 rfl fL rfl ?_,?_,J.trans (belowK_b (w:=w) (Ae _) W D _ _ a2 N rfl rfl)⟩
  ·simp [go_sem,a4]
  ·rw [HV.o];dsimp only [vSp];rw [aj]
theorem YT (x:BdW) (pt:Int) (w:World) (a:uS w w.heap.size x) (b:uF x.v.blocks<=2 ^ 62) (c:uH pt) :
 Calls prog 228 #[vR x,.int .i64 pt] w fun e d=>e=.returned (vSp (vB x.v.blocks pt) pt)/\Ab w d:=by
 by_cases h:pt < 0
 ·have e:vB x.v.blocks pt=none:=by unfold vB;rw [if_pos h]
  rw [e];exact XO x pt w h
 ·exact YK x pt w a b c bB
end
theorem bU:∀ {a b:List Int},a.Pairwise (· < ·)->b.Pairwise (· < ·)->(∀ z,z∈a↔z∈b)->a=b
 | [],[],_,_,_=>rfl
 | [],y :: b,_,_,h=>by have:=(h y).2 nF;cases this
 | x :: a,[],_,_,h=>by have:=(h x).1 nF;cases this
 | x :: a,y :: b,d,f,h=>by
   rw [Dq] at d f;have e:x=y:=by
    rcases Av.1 ((h x).1 nF) with e | hx
    ·exact e
    ·rcases Av.1 ((h y).2 nF) with e | hy
     ·exact e.symm
     ·have g:=f.1 x hx;have i:=d.1 y hy;omega
   subst e;congr 1;refine bU d.2 f.2 fun z=>⟨fun c=>?_,fun c=>?_⟩
   ·rcases Av.1 ((h z).1 (Cj _ c)) with e | hz'
    ·have:=d.1 z c;omega
    ·exact hz'
   ·rcases Av.1 ((h z).2 (Cj _ c)) with e | hz'
    ·have:=f.1 z c;omega
    ·exact hz'
theorem AQ (l:List BkV) (p:Int):(mG l p).Pairwise (· < ·):=by
 unfold mG nxI;refine Gw List.filter_sublist ?_;rw [Ec];exact List.Pairwise.imp (fun h=>by omega) Fe
theorem nX {l:List BkV} {p z:Int}:z∈mG l p↔(0<=z/\z < (uF l:Int))/\bQ l p z=true:=by
 unfold mG nxI;rw [Cx,Bw];refine ⟨fun ⟨⟨k,a,e⟩,h⟩=>⟨?_,h⟩,fun ⟨b,h⟩=>⟨⟨z.toNat,B1.2 bB,bB⟩,h⟩⟩;have:=B1.1 a;omega
theorem vX {l:List BkV} {i j:Nat} (h:i < j) (b:j<=l.length):uD l i < uD l j:=by
 have a:=vW (show l[i]?=some (l[i]'bB) from Ad _);have c:=uO l (show i+1<=j from h);unfold ptN at a;omega
theorem LR {l:List BkV} {i:Nat} (h:i < l.length):uD l i < uF l:=by
 rw [<-zM (Ae l.length)];exact vX h (Ae _)
theorem UA {l:List BkV} {p:Int} (h:vB l p=none):mG l p=[]:=by
 refine Fm.2 fun z a=>?_
 have:=(nX.1 a).2;rw [GQ h] at this;cases this
theorem CC {l:List BkV} {p:Int} {i k:Nat} {b:BkV} (h:vB l p=some (i,k)) (a:l[i]?=some b) (c:k < b.stmts.length):mG l p=[p+1]:=by
 refine bU (AQ _ _) (List.pairwise_singleton _ _) fun z=>?_
 rw [nX,CI h a,if_pos c,decide_eq_true_iff,An];refine ⟨fun h=>h.2,fun e=>⟨?_,e⟩⟩;obtain ⟨d,j,f,_,g⟩:=kM h;have m:=aQ a (show k+1<=b.stmts.length from c);omega
theorem uCw {l:List BkV} {L:List Int}:(jmI l l.length L).Pairwise (· < ·):=by
 unfold jmI;rw [Ec];refine Gg ?_ (show (tgI l.length L).Pairwise (· < ·) from fB _);intro a b c d e;have f:=aD.1 c;have g:=aD.1 d;have:=vX (l:=l) (show a.toNat < b.toNat by omega) bB;omega
theorem CH {l:List BkV} {p:Int} {i k:Nat} {b:BkV} (h:vB l p=some (i,k)) (f:l[i]?=some b) (g:¬k < b.stmts.length):mG l p=jmI l l.length b.term.targets:=by
 refine bU (AQ _ _) uCw fun z=>?_
 rw [nX,CI h f,if_neg g,Em];unfold jmI;rw [Bw];constructor
 ·rintro ⟨_,t,a,j⟩;obtain ⟨c,d,e⟩:=of_decide_eq_true j;exact ⟨t,aD.2 ⟨a,c,d⟩,e⟩
 ·rintro ⟨t,a,rfl⟩;obtain ⟨c,d,e⟩:=aD.1 a;have m:=LR (l:=l) (show t.toNat < l.length by omega);exact ⟨⟨bB,bB⟩,t,c,decide_eq_true ⟨d,e,rfl⟩⟩
theorem VT (r:Option (Nat×Nat)) (p:Int):∃ c a b:Int,∃ v:Bool,vSp r p=.tuple #[.agg #[.int .i64 c,.int .i64 a,.int .i64 b],.bool v]/\uCs r=.tuple #[.int .i64 a,.int .i64 b,.bool v]:=by
 cases r with
 | none=>exact ⟨0,0,0,false,rfl,rfl⟩
 | some z=>exact ⟨p,z.1,z.2,true,rfl,rfl⟩
theorem nW:∀ l:List BkV,l.length<=uF l
 | []=>Am _
 | b :: l=>by
   have a:=nW l;have c:uF (b :: l)=b.stmts.length+1+uF l:=by unfold uF;rw [dQ];rfl
   rw [As];omega
theorem JM (x:BdW) (pt:Int) (w:World) (H:uS w w.heap.size x) (L:uF x.v.blocks<=2 ^ 62) (M:uH pt) :
 Calls prog 175 #[vR x,.int .i64 pt] w fun e c=>e=.returned (uCs (vB x.v.blocks pt))/\Ab w c:=by
 obtain ⟨r,d⟩:∃ r,vB x.v.blocks pt=r:=⟨_,rfl⟩;rw [d];have I:=uA fun (c:World) (y:Ab w c)=>d ▸ YT x pt c (H.up y) L M
 obtain ⟨f,g,h,v,J,K⟩:=VT r pt;rw [J] at I;rw [K];obtain ⟨i,⟨k,l,m,Y⟩,⟨n,on,o,Z⟩,⟨p,q,s,tL⟩,⟨t,u,z,lL⟩,A,⟨B,C,D,bL⟩⟩:=x;have E:=uA (uB w (.cells #[.string i,.slice k l m,.slice n on o,.slice p q s,.slice t u z,.int .i64 A,.slice B C D] 28));obtain ⟨N,O,P,Q,R,S,T⟩:=xB (Below.refl (w.alloc (.cells #[.string i,.slice k l m,.slice n on o,.slice p q s,.slice t u z,.int .i64 A,.slice B C D] 28)).heap.size (w.alloc (.cells #[.string i,.slice k l m,.slice n on o,.slice p q s,.slice t u z,.int .i64 A,.slice B C D] 28)));clear J K H d;go_enter func175,ntmps175
 go_wp2_with fail
 refine (I.o _ E.o).mono ?_;rintro e F ⟨rfl,a⟩;have G:=uB F (.cells #[.int .i64 f,.int .i64 g,.int .i64 h] 159);have U:=uA fun (V:Nat)=>E.o.trans ((a.trans ((G.trans ((ZV (F.alloc (.cells #[.int .i64 f,.int .i64 g,.int .i64 h] 159)) V).mono G.size)).mono a.size)).mono E.o.size)
 have b:=Bx.new F [.int .i64 f,.int .i64 g,.int .i64 h] 159;have z1:=b.q 1 rfl;have z2:=b.q 2 rfl;clear a G b N O P Q R S T;go_wp2;go_quiet (fail)
 go_wp2;go_ret3
 exact ⟨rfl,U.o _⟩
theorem uDx (args:SlW OpW) (c:Option Addr) (d e:Nat) (b:Bool) (a:PlW):(#[Value.slice args.A args.n args.c,.slice c d e,.bool b,.int .i64 a.l,.slice a.A a.n a.c]:Array Value).all Value.oneCell'=true:=
 all_oneCell_toArray (cs:=[.slice args.A args.n args.c,.slice c d e,.bool b,.int .i64 a.l,.slice a.A a.n a.c]) (fun u f=>by simp only [Av,Cd,or_false] at f;rcases f with rfl | rfl | rfl | rfl | rfl <;> rfl)
theorem kN (x:BdW) (p:Int) (w:World) (hx:uS w w.heap.size x) (hN:uF x.v.blocks<=2 ^ 62) (hI:uH p) {i k:Nat} (hr:vB x.v.blocks p=some (i,k)) {pb:BkW} (G:x.blocks.L[i]?=some pb) (args:SlW OpW) (t:List AcW) (q:Bool) (pl:PlW)
 (hS:∀ s,pb.stmts.L[k]?=some s->∀ a,Calls prog 176 #[KV s] a (pE a args t q pl)) (hT:pb.stmts.L[k]?=none->∀ a,Calls prog 177 #[fZ pb.term] a (pE a args t q pl)) :
 Calls prog 128 #[vR x,.int .i64 p] w (pE w args t q pl):=by
 have ag:=uA fun (a:World) (y:Ab w a)=>(show Calls prog 175 #[vR x,.int .i64 p] a fun e w2=>e=.returned (uCs (some (i,k)))/\Ab a w2 from by
  have h:=JM x p a (hx.up y) hN hI;rw [hr] at h;exact h)
 have hi:i < x.blocks.n:=by
  have h1:=(Ah.1 G).1;have h2:=hx.blocks.len;omega
 have H:=hx.blocks.nm;unfold maxLen at H;obtain ⟨ah,b,o,E,a5,a6,I,hA,hb,J,F⟩:=tH hx hi;have K:some pb=some ah:=G.symm.trans E;injection K with K;subst K;obtain ⟨ai,b',a7,hk,aj⟩:=kM hr;clear ai aj;have K:some pb.v=some b':=a5.symm.trans a7;injection K with K;subst K;rw [a6] at hk;have HX:=uA hx;obtain ⟨L,⟨M,N,O,rL⟩,⟨P,on,Q,oL⟩,⟨B,R,C,tL⟩,⟨S,T,U,lL⟩,V,⟨bA,A,Y,bL⟩⟩:=x;have hA:bA=some ⟨b,o,none⟩:=hA;subst hA;have H:A<=2 ^ 63 - 1:=H;have hi:i < A:=hi;obtain ⟨⟨sA,v,sc,sL⟩,⟨bk,⟨gA,gn,gc,gL⟩,⟨aA,an,ac,aL⟩,⟨l,pA,pn,pc,ps⟩,r⟩⟩:=pb;have hk:k<=v:=hk;have I:v<=maxLen:=I;unfold maxLen at I;have a8:Hdd (sL.length=v):=J.stmts.len;have a9:=uA J.stmts;have HS:Hdd (∀ s,sL[k]?=some s->∀ a,Calls prog 176 #[KV s] a (pE a args t q pl)):=hS;have HT:Hdd (sL[k]?=none->∀ a,Calls prog 177 #[fZ ⟨bk,⟨gA,gn,gc,gL⟩,⟨aA,an,ac,aL⟩,⟨l,pA,pn,pc,ps⟩,r⟩] a (pE a args t q pl)):=hT;obtain ⟨W0,n⟩:∃ W0,W0=(w.alloc (.cells #[.string L,.slice M N O,.slice P on Q,.slice B R C,.slice S T U,.int .i64 V,.slice (some ⟨b,o,none⟩) A Y] 28)).alloc (.cells #[.slice none 0 0,.slice none 0 0,.bool false,.int .i64 0,.slice none 0 0] 223):=⟨_,rfl⟩;have f:=uB w (.cells #[.string L,.slice M N O,.slice P on Q,.slice B R C,.slice S T U,.int .i64 V,.slice (some ⟨b,o,none⟩) A Y] 28);have Z:=uB (w.alloc (.cells #[.string L,.slice M N O,.slice P on Q,.slice B R C,.slice S T U,.int .i64 V,.slice (some ⟨b,o,none⟩) A Y] 28)) (.cells #[.slice none 0 0,.slice none 0 0,.bool false,.int .i64 0,.slice none 0 0] 223);have d:=(Bx.new w [.string L,.slice M N O,.slice P on Q,.slice B R C,.slice S T U,.int .i64 V,.slice (some ⟨b,o,none⟩) A Y] 28).below Z;have z:=Bx.new (w.alloc (.cells #[.string L,.slice M N O,.slice P on Q,.slice B R C,.slice S T U,.int .i64 V,.slice (some ⟨b,o,none⟩) A Y] 28)) [.slice none 0 0,.slice none 0 0,.bool false,.int .i64 0,.slice none 0 0] 223;rw [show (w.alloc (.cells #[.string L,.slice M N O,.slice P on Q,.slice B R C,.slice S T U,.int .i64 V,.slice (some ⟨b,o,none⟩) A Y] 28)).heap.size=w.heap.size+1 by simp] at z;have HB:Hdd (Ab w W0):=n ▸ (Aa f Z);have d:Bx W0 w.heap.size [.string L,.slice M N O,.slice P on Q,.slice B R C,.slice S T U,.int .i64 V,.slice (some ⟨b,o,none⟩) A Y] 28:=n ▸ d;have z:Bx W0 (w.heap.size+1) [.slice none 0 0,.slice none 0 0,.bool false,.int .i64 0,.slice none 0 0] 223:=n ▸ z;have ak:=uA d;have al:=uA z;have am:=uA n;have ao:=uA (show W0.heap.size=w.heap.size+2 by rw [n];simp);have x0:=d.q 0 rfl;have x1:=d.q 1 rfl;have x2:=d.q 2 rfl;have x3:=d.q 3 rfl;have x4:=d.q 4 rfl;have x5:=d.q 5 rfl;have x6:=d.q 6 rfl;have ap:=uA (show (prog.info? 223).map (·.size)=some 5 by kernel_rfl);rw [n] at x0 x1 x2 x3 x4 x5 x6;have aq:=uA fun (a:World) (y:Ab w a)=>(show a.cell? ⟨b,o+i*7,none⟩=some (.slice sA v sc)/\a.cell? ⟨b,o+i*7+1,none⟩=some (.int .i64 bk)/\a.cell? ⟨b,o+i*7+2,none⟩=some (.slice gA gn gc)/\a.cell? ⟨b,o+i*7+3,none⟩=some (.slice aA an ac)/\a.cell? ⟨b,o+i*7+4,none⟩=some (.int .i64 l)/\a.cell? ⟨b,o+i*7+5,none⟩=some (.slice pA pn pc)/\a.cell? ⟨b,o+i*7+6,none⟩=some (.string r) from
  have hz:=fun j=>y.cell (p:=⟨b,o+i*7+j,none⟩) hb
  ⟨(hz 0).trans (F 0 _ rfl),(hz 1).trans (F 1 _ rfl),(hz 2).trans (F 2 _ rfl),(hz 3).trans (F 3 _ rfl),(hz 4).trans (F 4 _ rfl),(hz 5).trans (F 5 _ rfl),(hz 6).trans (F 6 _ rfl)⟩)
 have b9:(i:Int) < (A:Int):=by omega
 have ba:(0:Int)<=(i:Int):=by omega
 clear a5 a6 hb F a7 G E J hS hT hN hx hr f Z d z n;go_enter func128,ntmps128
 go_wp2_with fail
 rw [<-am.o];refine (ag.o _ HB.o).mono ?_;rintro e w1 ⟨rfl,f⟩;have bb:=uA f;have a0:=uA (Aa HB.o f);clear x0 x1 x2 x3 x4 x5 x6;unfold uCs;have y6:=(ak.o.below f).q 6 rfl;obtain ⟨z0,z1,z2,z3,z4,z5,z6⟩:=aq.o _ a0.o;have D:=uB w1 (.cells #[.slice sA v sc,.int .i64 bk,.slice gA gn gc,.slice aA an ac,.int .i64 l,.slice pA pn pc,.string r] 65);have a1:=uA (Aa a0.o D);have au:=uA (show w.heap.size+2<=(w1.alloc (.cells #[.slice sA v sc,.int .i64 bk,.slice gA gn gc,.slice aA an ac,.int .i64 l,.slice pA pn pc,.string r] 65)).heap.size by have h1:=ao.o;have h2:=f.size;have h3:=D.size;omega);have m:=Bx.new w1 [.slice sA v sc,.int .i64 bk,.slice gA gn gc,.slice aA an ac,.int .i64 l,.slice pA pn pc,.string r] 65;have b0:=m.q 0 rfl;have b1:=m.q 1 rfl;have b2:=m.q 2 rfl;have b3:=m.q 3 rfl;have b4:=m.q 4 rfl;have b5:=m.q 5 rfl;have b6:=m.q 6 rfl;have av:=uA ((al.o.below f).below D);clear f D m;by_cases aw:k < v
 case' pos=>
  have aa:(k:Int) < (v:Int):=by omega
  have bd:(0:Int)<=(k:Int):=by omega
  obtain ⟨s,hs⟩:∃ s,sL[k]?=some s:=⟨_,Ad (by rw [a8.o];exact aw)⟩;obtain ⟨gs,zs,a2,ax,ay,ab⟩:=a9.o.at_ hs;have a2:sA=some ⟨gs,zs,none⟩:=a2;subst a2;have a3:=uA (HS.o s hs);obtain ⟨kd,⟨ql,qA,qn,qc,qs⟩,⟨rk,ro,rr,rm,⟨tl,B,tn,C,ts⟩,⟨dA,dn,dc,dL⟩⟩,az⟩:=s;have c:∀ i u,(cSt ⟨kd,⟨ql,qA,qn,qc,qs⟩,⟨rk,ro,rr,rm,⟨tl,B,tn,C,ts⟩,⟨dA,dn,dc,dL⟩⟩,az⟩)[i]?=some u->(w1.alloc (.cells #[.slice (some ⟨gs,zs,none⟩) v sc,.int .i64 bk,.slice gA gn gc,.slice aA an ac,.int .i64 l,.slice pA pn pc,.string r] 65)).cell? ⟨gs,zs+k*11+i,none⟩=some u:=fun i u hu=>(a1.o.cell (p:=⟨gs,zs+k*11+i,none⟩) ax).trans (ab i u hu)
  have g0:=c 0 _ rfl;have g1:=c 1 _ rfl;have g2:=c 2 _ rfl;have g3:=c 3 _ rfl;have g4:=c 4 _ rfl;have g5:=c 5 _ rfl;have g6:=c 6 _ rfl;have g7:=c 7 _ rfl;have g8:=c 8 _ rfl;have g9:=c 9 _ rfl;have be:=c 10 _ rfl;simp only [Dl] at g0;clear hs ay ab c;go_wp2_with fail
  refine (a3.o _).mono ?_
 case' neg=>
  have aa:¬(k:Int) < (v:Int):=by omega
  have a3:=uA (HT.o (Bh (by rw [a8.o];omega)));go_wp2_with fail
  refine (a3.o _).mono ?_
 all_goals
  rintro e w4 ⟨A4,n4,c4,rfl,ad,a4⟩;have ae:=uA (av.o.below a4);have b7:=uA (Aa a1.o a4);have b8:=uA (uI ad au.o);have af:=uA (uDx args A4 n4 c4 q pl);clear ad a4 z0 z1 z2 z3 z4 z5 z6 b0 b1 b2 b3 b4 b5 b6 y6;go_wp2_with (refine wpList_store_row rfl 223 _ _ rfl (w.heap.size+1) _ rfl rfl 223 #[.slice none 0 0,.slice none 0 0,.bool false,.int .i64 0,.slice none 0 0] ?_ ?_ ?_ ?_ ?_;exact ae.o;exact ap.o;rfl;exact af.o)
  refine bodyPost_ret (results_cell_row rfl _ _ (w.heap.size+1) _ _ (0,0) _ rfl (setRow_heap _ _ _ _ _ _ ae.o) underlying223 rfl fL) rfl ?_;exact ⟨A4,n4,c4,rfl,uI (vU b8.o (yJ.setRow9 (g:=w.heap.size+1) (lo:=w.heap.size+2) bB _ w4)) (C7 _ 2),xS b7.o (Cc _) _⟩
theorem rQ {A:Option Addr} {n c:Nat} {L:List TyW} {i:Nat} {x:TyW} (a:L[i]?=some x) (w:World) (d:yH w w.heap.size A n L) (h:n<=maxLen) :
 Calls prog 288 #[.slice A n c,.int .i64 (i:Int)] w fun e j=>e=.returned (xU x)/\Ab w j:=by
 obtain ⟨⟨k,l,r,m,v⟩,p,q,s⟩:=x;have y:i < n:=by have:=(Ah.1 a).1;have:=d.len;omega
 have f:(i:Int) < (n:Int):=by omega
 have t:=uA ((Below.refl w.heap.size w).alloc (Ae _) (.cells #[.int .i64 0,.bool false,.int .i64 0,.int .i64 0,.slice none 0 0] 123));have g:Hdd (vD (i:Int) (n:Int)=true):=uW.2 ⟨bB,f⟩;obtain ⟨b,o,rfl,u,_,z,B,C,D,E⟩:=(d.below t.o).at_ a;unfold maxLen at h;clear d a;go_enter func288,ntmps288
 go_wp2_with fail
 refine (nY g.o _).mono ?_;rintro e F ⟨rfl,rfl⟩;go_wp2_with fail
 refine bodyPost_ret (results_cell_row rfl _ _ w.heap.size _ #[.int .i64 k,.bool l,.int .i64 r,.int .i64 m,.slice p q s] (0,0) _ rfl (heap_alloc_new w _) underlying123 rfl fL) rfl ⟨rfl,(Below.refl w.heap.size w).alloc (Ae _) _⟩
theorem jV {A:Option Addr} {n c:Nat} {L:List TyW} {i:Nat} {x:TyW} (H:L[i]?=some x) (p:Pr) (w:World) (I:yH w w.heap.size A n L) (Q:n<=maxLen) :
 Calls prog 280 #[.slice A n c,.int .i64 (i:Int),AF p] w fun e s=>e=.returned (.tuple #[.int .i64 (vK x.t p).1,.int .i64 (vK x.t p).2])/\Ab w s:=by
 obtain ⟨j,y⟩:=p;have J:=uA ((Below.refl w.heap.size w).alloc (Ae _) (.cells #[.int .i64 j,.int .i64 y] 52));have R:=uA (I.up J.o);have K:=I.one x (Aj H);have HO:=uA K;have l:=K.ok;have S:=uA fun (s:World) (h:Ab (w.alloc (.cells #[.int .i64 j,.int .i64 y] 52)) s)=>show s.cell? ⟨w.heap.size,0,none⟩=some (.int .i64 j)/\s.cell? ⟨w.heap.size,1,none⟩=some (.int .i64 y) from
  ⟨(h.cell (p:=⟨w.heap.size,0,none⟩) nF).trans (by simp [go_sem]),(h.cell (p:=⟨w.heap.size,1,none⟩) nF).trans (by simp [go_sem])⟩
 have HS:=uA (aY x.t (j,y));have T:=uA fun s M=>rQ (A:=A) (n:=n) (c:=c) H s M Q
 obtain ⟨⟨k,U,r,V,fs⟩,Y,t,E⟩:=x;have B:fs.length=t:=l.len;have a0:t<=E:=l.nc;have N:E<=maxLen:=l.cm;have HW:=uA (Co (Dr w.heap.size));unfold maxLen at Q N;clear I H K l;go_enter func280,ntmps280
 go_wp2_with fail
 refine (T.o _ R.o).mono ?_;rintro e w1 ⟨rfl,F⟩;obtain ⟨c0,c1⟩:=S.o _ (F.alloc F.size (.cells #[.int .i64 k,.bool U,.int .i64 r,.int .i64 V,.slice Y t E] 123));have Z:=uA (Aa J.o F);have a:=uA (Z.o.alloc Z.o.size (.cells #[.int .i64 k,.bool U,.int .i64 r,.int .i64 V,.slice Y t E] 123));clear F T S R;rcases HS.o with ⟨f,g,d⟩ | ⟨f,g,q,v,hq,O,d⟩ | ⟨f,g,h4,d⟩ | ⟨f,g,d⟩
 ·subst f g;have m:=uA d;clear d;go_wp2;refine bodyPost_ret (results_tmp2 rfl _ _ _) rfl ?_;exact ⟨congrArg (fun z:Int×Int=>Ending.returned (.tuple #[.int .i64 z.1,.int .i64 z.2])) m.o.symm,a.o⟩
 ·subst f g hq;have a1:=(Ah.1 O).1;have C:(q:Int) < (t:Int):=by omega
  have u:Hdd (vD (q:Int) (t:Int)=true):=uW.2 ⟨bB,C⟩;have m:=uA d;obtain ⟨b,o,D,_,d0⟩:=(HO.o.below a.o).rd.int O;simp only [] at D;subst D;clear d O;go_wp2_with fail
  refine (nY u.o _).mono ?_;rintro e w2 ⟨rfl,rfl⟩;go_wp2;refine bodyPost_ret (results_tmp2 rfl _ _ _) rfl ?_;exact ⟨congrArg (fun z:Int×Int=>Ending.returned (.tuple #[.int .i64 z.1,.int .i64 z.2])) m.o.symm,a.o⟩
 ·subst f g;have u:Hdd (vD y (t:Int)=false):=wP.2 (B ▸ h4);have m:=uA d;clear d h4;go_wp2_with fail
  refine (nY u.o _).mono ?_;rintro e w2 ⟨rfl,rfl⟩;go_wp2;refine bodyPost_ret (results_tmp2 rfl _ _ _) rfl ?_;exact ⟨congrArg (fun z:Int×Int=>Ending.returned (.tuple #[.int .i64 z.1,.int .i64 z.2])) m.o.symm,a.o⟩
 ·have m:=uA d;clear d;by_cases G:j=0
  ·subst G;have k3:¬k=3:=fun h=>f ⟨rfl,h⟩
   have t1:(k == 3)=false:=(by simpa using k3);clear f g k3;go_wp2;refine bodyPost_ret (results_tmp2 rfl _ _ _) rfl ?_;exact ⟨congrArg (fun z:Int×Int=>Ending.returned (.tuple #[.int .i64 z.1,.int .i64 z.2])) m.o.symm,a.o⟩
  ·have t0:(j == 0)=false:=(by simpa using G);by_cases P:j=1
   ·subst P;have k4:¬k=4:=fun h=>g ⟨rfl,h⟩
    have t1:(k != 4)=true:=by rw [bne_iff_ne];exact k4
    clear f g k4 t0 G;go_wp2;refine bodyPost_ret (results_tmp2 rfl _ _ _) rfl ?_;exact ⟨congrArg (fun z:Int×Int=>Ending.returned (.tuple #[.int .i64 z.1,.int .i64 z.2])) m.o.symm,a.o⟩
   ·have t2:(j != 1)=true:=by rw [bne_iff_ne];exact P
    clear f g G P;go_wp2;refine bodyPost_ret (results_tmp2 rfl _ _ _) rfl ?_;exact ⟨congrArg (fun z:Int×Int=>Ending.returned (.tuple #[.int .i64 z.1,.int .i64 z.2])) m.o.symm,a.o⟩
section
open Go.Shelf
attribute [local go_sem] Oper.semAt_some
structure vJ (n₀:Nat) (Ts:List TypeId) (X:Nat) (W W':World):Prop where
 low:Below n₀ W W'
 cells:∀ (t:TypeId) (B:Nat) (cs:Array Value) (fr:Nat×Nat),t∈Ts->B≠X->W.heap[B]?=some (.cells cs t fr)->W'.heap[B]?=some (.cells cs t fr)
section
variable {n₀ X:Nat} {Ts:List TypeId} {W W' W'':World}
theorem vJ.refl (n₀:Nat) (Ts:List TypeId) (X:Nat) (W:World):vJ n₀ Ts X W W:=⟨Below.refl _ _,fun _ _ _ _ _ _ h=>h⟩
theorem vJ.trans (h:vJ n₀ Ts X W W') (k:vJ n₀ Ts X W' W''):vJ n₀ Ts X W W'':=⟨h.low.trans k.low,fun t B a b c d e=>k.cells t B a b c d (h.cells t B a b c d e)⟩
theorem vJ.of_t (h:vQ n₀ Ts W W'):vJ n₀ Ts X W W':=⟨h.1,fun t B a b c _ d=>h.2 t B a b c d⟩
theorem vJ.of_below (h:Ab W W') (a:n₀<=W.heap.size):vJ n₀ Ts X W W':=.of_t (.of_below h a)
theorem vJ.boxX {t:TypeId} {v:Value} (h:Boxed W X t v) (c:n₀<=X) (a:Value):vJ n₀ Ts X W (W.setCell ⟨X,0,none⟩ a):=
 ⟨(Below.refl n₀ W).grown (grownBy_setCell' W X a) (Ai c (Co h.lt)) (fun k e=>by cases e;exact c),fun t B f g i b d=>((grownBy_setCell' W X a).block B (Ag.1 d).1 (fun e=>b (by injection e))).trans d⟩
theorem KN {A B C:World} (h:vJ n₀ Ts X A B) (k:vJ n₀ Ts X B C):vJ n₀ Ts X A C:=h.trans k
theorem KD {w:World} (b:n₀<=w.heap.size) (W:World) (l:Nat) (o a:Obj) (c:w.heap.size<=l) (h:W.heap[l]?=some o) (d:o.isCells=false) (e:o.isWalk=false):vJ n₀ Ts X W (W.putObj l a):=.of_t (FT b W l o a c h d e)
end
theorem AM {a:Type} {B:Nat} {J:a->World->Prop} (h:AbidesFrom B J) {s:a} {W W':World} (b:J s W) (c:Ab W W'):J s W':=
 h s W W' none b (bY c) (fun r e=>by cases e)
def jC:List TypeId:=[24,25,48,52]
abbrev StX (T:List Ty) (t:Int) (ps:List Pr):={ m:Nat // Stp T t ps m }
def RZ (x:PlW) (T:List Ty) (t:Int) (m:StX T t x.ps):Array Value:=#[.agg #[.int .i64 x.l,.slice x.A m.1 x.c],.int .i64 (tyA T t x.ps m.1)]
def uHf (T:List Ty) (t:Int) (ps:List Pr) (ys:List (StX T t ps)):Prop:=∃ m,Stp T t ps m/\ys.map (·.1)=List.range (m+1)/\(m=ps.length\/∃ p,ps[m]?=some p/\(vK (uR T (tyA T t ps m)) p).2≠0)
theorem PU {T:List Ty} {t:Int} {ps:List Pr} {pre:List (StX T t ps)} {m:Nat} (h:pre.map (·.1)=List.range m) (a:Stp T t ps m):(pre++[(⟨m,a⟩:StX T t ps)]).map (·.1)=List.range (m+1):=by
 rw [By,h,Dx];rfl
theorem uBn {T:List Ty} {t:Int} {ps:List Pr} {pre:List (StX T t ps)} {m:Nat} (h:pre.map (·.1)=List.range m):pre.length=m:=by
 have:=congrArg List.length h;simpa using this
def uHu {a:Type} (_:List a):Prop:=True
def uI2 {a:Type} (J c:List a->World->Prop) (d:World->World->Prop) (pre:List a) (f:World) (e:Ending) (W':World):Prop:=∃ b:Bool,e=.returned (.bool b)/\(b=true->J pre W'/\d f W')/\(b=false->c pre W')
theorem uDe {a:Type} {J b:List a->World->Prop} {c:World->World->Prop} {pre:List a} {d:World} (e:Ending) (W':World) (h:(e=.returned (.bool true)/\J pre W'/\c d W')\/(e=.returned (.bool false)/\b pre W')):uI2 J b c pre d e W':=by
 rcases h with ⟨rfl,h⟩ | ⟨rfl,h⟩
 ·exact ⟨true,rfl,fun _=>h,(fun e=>by cases e)⟩
 ·exact ⟨false,rfl,(fun e=>by cases e),fun _=>h⟩
theorem JE (n:Nat) (a b:Option Addr) (nt ct d cl:Nat) (x:PlW) (w:World) :
 CallsIn Fence.wide n prog 279 #[.slice a nt ct,.slice b d cl,uV x] w fun e f=>e=.returned (.func (.func 292) #[] #[.pointer (some ⟨w.heap.size+2,0,none⟩),.pointer (some ⟨w.heap.size+1,0,none⟩),.pointer (some ⟨w.heap.size,0,none⟩)]) /\
  f=((w.alloc (.cells #[.slice a nt ct] 24)).alloc (.cells #[.slice b d cl] 25)).alloc (.cells #[.int .i64 x.l,.slice x.A x.n x.c] 48):=by
 obtain ⟨l,A,m,c,g⟩:=x;refine callsIn_of_wp func279 rfl trivial ?_ rfl;simp only [ntmps279,Bc,As,Br,Nat.reduceAdd,Nat.reduceSub,Ay,Az,Be,Ba,Bj,Bg];gi_wp2;go_ret;exact ⟨rfl,rfl⟩
theorem SN (n:Nat) (hn:1<=n) (l Bt Bl s X n₀:Nat) (P Al:Option Addr) (nt ct nl cl:Nat) (L:List TyW) (LL:List LcW) (x:PlW) (k:Nat) (lc:LcW) (r:Int)
 (hT:TyOk (tys L) r) (a0:nt<=maxLen) (al:nl<=maxLen) (am:x.n<=x.c) (a1:x.c<=maxLen) (hk:x.l=(k:Int)) (a2:LL[k]?=some lc) (an:0<=lc.ty) (ao:lc.ty < (L.length:Int))
 (J Jx:List (StX (tys L) lc.ty x.ps)->World->Prop) (B0:Nat) (hJ:AbidesFrom B0 J) (b7:AbidesFrom B0 Jx)
 (hY:∀ a y W,J a W->a.length < x.ps.length+1->YieldAt Fence.wide (n - 1) prog l (RZ x (tys L) lc.ty y) W fun e W'=>
  (e=.returned (.bool true)/\J (a++[y]) W'/\vJ n₀ jC X W W')\/(e=.returned (.bool false)/\Jx (a++[y]) W'))
 (W:World) (a3:Boxed W Bt 24 (.slice P nt ct)) (ap:Boxed W Bl 25 (.slice Al nl cl)) (F:W.heap[s]?=some (.cells #[.int .i64 x.l,.slice x.A x.n x.c] 48 (0,0)))
 (a4:Bt≠X) (b8:Bl≠X) (aq:s≠X) (ar:X < W.heap.size)
 (hA:yH W n₀ P nt L) (hL:cG W n₀ Al nl LL) (hP:Prs W n₀ x.A x.n x.ps) (a5:n₀<=W.heap.size) (h0:J [] W) :
 CallsIn Fence.wide n prog 292 #[.func (.yield l) #[] #[],.pointer (some ⟨s,0,none⟩),.pointer (some ⟨Bl,0,none⟩),.pointer (some ⟨Bt,0,none⟩)] W fun e W'=>(∃ v,e=.returned v) /\
  ((∃ ys,uHf (tys L) lc.ty x.ps ys/\J ys W')\/(∃ a,uHu a/\Jx a W')):=by
 have HJ:=uA fun (a:List (StX (tys L) lc.ty x.ps)) (W W':World) (h:J a W) (hb:Ab W W')=>AM hJ h hb
 have au:=uA fun (i:Nat) (u:TyW) (hu:L[i]?=some u) (p:Pr) (w:World) (h:yH w w.heap.size P nt L)=>jV (c:=ct) hu p w h a0
 have a6:=uA hY;have b9:=uA hT;have a7:x.ps.length=x.n:=hP.len;have ba:=(Ah.1 a2).1;have b4:=hL.len;have av:Hdd (vD (k:Int) (nl:Int)=true):=uW.2 ⟨bB,bB⟩;obtain ⟨bl,ol,rfl,bc,q0,q1⟩:=hL.at_ a2;have c0:W.cell? ⟨s,0,none⟩=some (.int .i64 x.l):=uE F 0;have c1:W.cell? ⟨s,1,none⟩=some (.slice x.A x.n x.c):=uE F 1;have bd:=ap.cell;have a8:=uA fun (m:Nat) (h:Stp (tys L) lc.ty x.ps m)=>h.lt hT an (by rw [zE];exact ao)
 obtain ⟨lx,Ax,Q,cx,C⟩:=x;simp only [] at hk am a1 a7 F hP c0 c1;subst hk;have be:(k:Int) < (nl:Int):=by omega
 have bf:=uA (HJ.o [] W W.drew h0 (Below.refl _ _).drew);obtain ⟨bg,d⟩:=lc;unfold maxLen at a0 al a1;clear hJ hY hT;refine callsIn_of_wp func292 rfl trivial ?_ rfl;simp only [ntmps292,Bc,As,Br,Nat.reduceAdd,Nat.reduceSub,Ay,Az,Be,Ba,Bj,Bg];gi_wp2_with (refine ⟨trivial,?_⟩;gi_at_call 278;refine (callsIn_wide.2 (nY av.o _)).mono ?_;rintro e w1 ⟨rfl,rfl⟩)
 have aw:=uA (vJ.refl n₀ jC X W);gi_loopw [5,25] (fun p q wr=>∃ (a:List (StX (tys L) d C)) (m:Nat),p=.int .i64 (tyA (tys L) d C m)/\q=.int .i64 (m:Int)/\Hdd (a.map (·.1)=List.range m)/\Hdd (Stp (tys L) d C m)/\m<=Q/\J a wr/\vJ n₀ jC X W wr/\n₀<=wr.heap.size)
  (fun _ q _=>Q - (intOf q).toNat)
 case atStart=>
  exact ⟨[],0,rfl,rfl,rfl,Stp.zero _ _ _,Am _,h0,aw.o,a5⟩
 case round=>
  obtain ⟨a,m,rfl,rfl,G,N,hm,a9,R,ax⟩:=hrel;have bh:wr.heap[Bt]?=some (.cells #[.slice P nt ct] 24 (0,0)):=R.cells _ _ _ _ (by simp [jC]) a4 a3;have j:wr.heap[s]?=some (.cells #[.int .i64 (k:Int),.slice Ax Q cx] 48 (0,0)):=R.cells _ _ _ _ (by simp [jC]) aq F;have b5:X < wr.heap.size:=Ap ar (R.low.size);have HK:=uA R;have bi:=uA (hA.below R.low);have ay:=uA (hP.below R.low);clear R;by_cases bj:m < Q
  ·have b6:(m:Int) < (Q:Int):=bB;obtain ⟨p,hp⟩:∃ p,C[m]?=some p:=⟨_,Ad bB⟩;obtain ⟨b,o,rfl,bk,hi,d0,d1⟩:=ay.o.at_ hp;obtain ⟨D,E⟩:=p;simp only [] at d0 d1;have H:=uA ((Below.refl wr.heap.size wr).alloc (Ae _) (.cells #[.int .i64 D,.int .i64 E] 52));have e0:((wr.alloc (.cells #[.int .i64 D,.int .i64 E] 52)).drew).cell? ⟨s,0,none⟩=some (.int .i64 (k:Int)):=uE ((H.o.drew.block s (Ag.1 j).1).trans j) 0;have e1:((wr.alloc (.cells #[.int .i64 D,.int .i64 E] 52)).drew).cell? ⟨s,1,none⟩=some (.slice (some ⟨b,o,none⟩) Q cx):=uE ((H.o.drew.block s (Ag.1 j).1).trans j) 1;have aa:=HJ.o _ _ _ a9 H.o.drew;have A:=a6.o a ⟨m,N.o⟩ _ aa (by have:=uBn G.o;omega);have I:=uA (PU G.o N.o);simp only [RZ] at A;have bm:m<=cx:=bB;clear aa hi;obtain ⟨fn,tmps,assign,body,hy,hR⟩:=A;have ab:=hR.mono uDe;have ac:=uA hp;clear hR hp;gi_wp2;gi_region_with (first | (refine ab.mono ?_;rintro e z ⟨bb,rfl,ad,ae⟩))
   all_goals
    clear ab hy;have S:=uA ad;have af:=uA ae;clear ad ae;cases bb
    ·gi_wp2;refine bodyPost_ret (results_none rfl _ _ _) rfl ?_;exact ⟨⟨_,rfl⟩,.inr ⟨_,True.intro,af.o (by trivial)⟩⟩
    ·have K:=(S.o (by trivial)).2;have ag:=uA (S.o (by trivial)).1;have M:=uA (HK.o.trans ((vJ.of_below H.o.drew ax).trans K));have bn:wr.heap.size+1<=z.heap.size:=by
      have:=K.low.size;simpa using this
     have U:z.heap[wr.heap.size]?=some (.cells #[.int .i64 D,.int .i64 E] 52 (0,0)):=K.cells _ _ _ _ (by simp [jC]) bB (heap_alloc_new wr _);have O:z.heap[Bt]?=some (.cells #[.slice P nt ct] 24 (0,0)):=M.o.cells _ _ _ _ (by simp [jC]) a4 a3;have x0:z.cell? ⟨wr.heap.size,0,none⟩=some (.int .i64 D):=uE U 0;have x1:z.cell? ⟨wr.heap.size,1,none⟩=some (.int .i64 E):=uE U 1;have t0:z.cell? ⟨Bt,0,none⟩=some (.slice P nt ct):=uE O 0;obtain ⟨i,u,V,hu⟩:=a8.o m N.o;obtain ⟨y,hy,ah⟩:=bH hu;obtain ⟨g1,g2⟩:=FU (T:=tys L) (t:=d) ac.o N.o.ok;have f:=uA fun (he:(vK (uR (tys L) (tyA (tys L) d C m)) (D,E)).2≠0)=>(show uHf (tys L) d C _ from ⟨m,N.o,I.o,.inr ⟨_,ac.o,he⟩⟩)
     have ai:uR (tys L) (tyA (tys L) d C m)=y.t:=by rw [V,ah];exact mH hu
     rw [ai] at g1 g2 f;have Y:=uA (show Calls prog 280 #[.slice P nt ct,.int .i64 (tyA (tys L) d C m),.agg #[.int .i64 D,.int .i64 E]] z fun e w'=>e=.returned (.tuple #[.int .i64 (tyA (tys L) d C (m+1)),.int .i64 (vK y.t (D,E)).2])/\Ab z w' by
      rw [V,g1];exact au.o i y hy (D,E) z ((hA.below M.o.low).more (Ai a5 M.o.low.size)))
     obtain ⟨ev,aj⟩:∃ ev,(vK y.t (D,E)).2=ev:=⟨_,rfl⟩;rw [aj] at Y g2 f;have az:=uA g2;clear K S af U O V hu hy ah g1 g2 ai aj;have ak:n₀<=z.heap.size:=bB;by_cases g:ev=0
     ·subst g;have b0:Hdd (Stp (tys L) d C (m+1)):=(show Stp _ _ _ _ from ⟨bB,az.o⟩);clear f;gi_wp2_with (refine ⟨trivial,?_⟩;gi_at_call 280;refine (callsIn_wide.2 Y.o).mono ?_;rintro e w4 ⟨rfl,B⟩)
      have b1:=uA (HJ.o _ _ _ ag.o B);have b2:=uA (M.o.trans (vJ.of_below B ak));have b3:=Ai ak B.size;exact ⟨⟨_,m+1,rfl,by go_num,I,b0,bB,b1.o,b2.o,b3⟩,by simp [intOf];omega⟩
     ·have bo:(ev != 0)=true:=by rw [bne_iff_ne];exact g
      have HE:=uA (f.o g);clear g f;gi_wp2_with (refine ⟨trivial,?_⟩;gi_at_call 280;refine (callsIn_wide.2 Y.o).mono ?_;rintro e w4 ⟨rfl,B⟩)
      refine bodyPost_ret (results_none rfl _ _ _) rfl ?_;exact ⟨⟨_,rfl⟩,.inl ⟨_,HE.o,HJ.o _ _ _ ag.o B⟩⟩
  ·obtain rfl:m=Q:=by omega
   have e0:wr.cell? ⟨s,0,none⟩=some (.int .i64 (k:Int)):=uE j 0;have e1:wr.cell? ⟨s,1,none⟩=some (.slice Ax m cx):=uE j 1;have A:=a6.o a ⟨m,N.o⟩ _ a9 (by have:=uBn G.o;omega);have I:=uA (PU G.o N.o);simp only [RZ] at A;obtain ⟨fn,tmps,assign,body,hy,hR⟩:=A;gi_wp2;refine hR.mono ?_;rintro e z (⟨rfl,Z,_⟩ | ⟨rfl,Z⟩)
   ·gi_wp2;go_end0
    exact ⟨⟨_,rfl⟩,.inl ⟨_,⟨m,N.o,I.o,.inl a7.symm⟩,Z⟩⟩
   ·gi_wp2;go_end0
    exact ⟨⟨_,rfl⟩,.inr ⟨_,True.intro,Z⟩⟩
structure uH9 (At Al:Option Addr) (nt nl:Nat) (L:List TyW) (LL:List LcW) (x:PlW) (k:Nat) (lc:LcW) (r:Int):Prop where
 ok:TyOk (tys L) r
 nt:nt<=maxLen
 nl:nl<=maxLen
 nc:x.n<=x.c
 cm:x.c<=maxLen
 l:x.l=(k:Int)
 at_:LL[k]?=some lc
 t0:0<=lc.ty
 t1:lc.ty < (L.length:Int)
theorem kK (n:Nat) (y:1<=n) (d e f X n₀:Nat) (j m:Option Addr) (nt ct o cl:Nat) (L:List TyW) (p:List LcW) (x:PlW) (k:Nat) (lc:LcW) (r:Int) (a:uH9 j m nt o L p x k lc r)
 (w:World) (g:Boxed w d 24 (.slice j nt ct)) (h:Boxed w e 25 (.slice m o cl)) (i:w.heap[f]?=some (.cells #[.int .i64 x.l,.slice x.A x.n x.c] 48 (0,0)))
 (q:d≠X) (s:e≠X) (t:f≠X) (u:X < w.heap.size)
 (z:yH w n₀ j nt L) (A:cG w n₀ m o p) (B:Prs w n₀ x.A x.n x.ps) (b:n₀<=w.heap.size) :
 SeqStopsK Fence.wide n prog 292 #[.pointer (some ⟨f,0,none⟩),.pointer (some ⟨e,0,none⟩),.pointer (some ⟨d,0,none⟩)] (RZ x (tys L) lc.ty) (vJ n₀ jC X) (uHf (tys L) lc.ty x.ps) uHu (x.ps.length+1) w:=fun l J C W c D v E F=>
 SN n y l d e f X n₀ j m nt ct o cl L p x k lc r a.ok a.nt a.nl a.nc a.cm a.l a.at_ a.t0 a.t1 J C W.heap.size D v E W ((c.block d g.lt).trans g) ((c.block e h.lt).trans h) ((c.block f (Ag.1 i).1).trans i) q s t (Ap u c.size) (z.below (c.mono b)) (A.below (c.mono b)) (B.below (c.mono b)) (Ai b c.size) F
end
end Go.Proofs.YtnkjbjkoffgocaaGreatDoor
