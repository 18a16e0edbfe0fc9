import Derived.Test.YtnkjbjkoffgocaaGreatDoorQ0
import Derived.Maps.RangeWalk
import Derived.Sort.KeysCollected
import Derived.StillTailTactics
set_option linter.unusedVariables false
set_option linter.unusedSimpArgs false
set_option maxRecDepth 100000
set_option maxHeartbeats 8000000
namespace Go.Proofs.YtnkjbjkoffgocaaGreatDoor
open Tryz Go.RowKit
structure cS (K:FuncId) (caps:Array Value) (ret:Int->Value) (ps:List Int) (w0:World) (S:Nat->Prop) (J:World->(Int->Prop)->Prop) (men:Int->Int->Prop):Prop where
 enter:∀ (args:Array Value) (w:World),(callFunc K args).run prog w=.ok (.enter K args) w
 call:∀ p∈ps,∀ w D,Turn S w0 w->J w D->Calls prog K (#[.int .i64 p]++caps) w fun e w'=>e=.returned (ret p)/\J w' (fun r=>D r\/men p r)/\Turn S w w'
theorem cS.later {K:FuncId} {caps:Array Value} {a:Int->Value} {ps:List Int} {d e:World} {S:Nat->Prop} {J:World->(Int->Prop)->Prop} {men:Int->Int->Prop} (h:cS K caps a ps d S J men) (f:Turn S d e):cS K caps a ps e S J men:=
 ⟨h.enter,fun p g w D i=>h.call p g w D (f.trans i)⟩
def ED (w:World) (x:TyW) (e:Ending) (w':World):Prop:=∃ A n c,e=.returned (.slice A n c)/\n<=c/\c<=maxLen/\(uG x.t).length=n/\Rd w' w'.heap.size A n (vC (uG x.t))/\Ab w w'/\∀ b o,A=some ⟨b,o,none⟩->(x.A=some ⟨b,o,none⟩/\x.n=n)\/w.heap.size<=b
theorem eY (x:TyW) (w:World) (hx:wF w w.heap.size x):Calls prog 167 #[xU x] w (ED w x):=by
 have g:=uA ((Below.refl w.heap.size w).alloc (Ae _) (.cells (c5 x).toArray 123));have p:=uA ((hx.below g.o).more (B':=(w.alloc (.cells (c5 x).toArray 123)).heap.size) nF);have i:=uA hx.ok;by_cases a:x.t.kind=3
 ·have r:(x.t.kind == 3)=true:=beq_iff_eq.2 a;have j:=uA (g.o.alloc nF (.cells #[.int .i64 x.t.elem] 3));have l:ED w x (.returned (.slice (some ⟨w.heap.size+1,0,none⟩) 1 1)) ((w.alloc (.cells (c5 x).toArray 123)).alloc (.cells #[.int .i64 x.t.elem] 3)):=by
   refine ⟨_,1,1,rfl,Ae _,eW,by rw [xN a];rfl,?_,j.o,fun b o e=>by injection e with e;injection e with e;omega⟩;have h:=QL (w.alloc (.cells (c5 x).toArray 123)) x.t.elem 3;rw [xN a];rw [Ak] at h;exact h.more nF
  have f:=uA l;clear hx a l;go_enter func167,ntmps167
  go_wp2;go_ret;exact f.o
 ·have r:(x.t.kind == 3)=false:=beq_eq_false_iff_ne.2 a;by_cases d:x.t.kind=4
  ·have s:(x.t.kind == 4)=true:=beq_iff_eq.2 d;have f:Hdd (ED w x (.returned (.slice x.A x.n x.c)) (w.alloc (.cells (c5 x).toArray 123))):=⟨_,_,_,rfl,i.o.nc,i.o.cm,by rw [vY d];exact i.o.len,by rw [vY d];exact p.o.rd,g.o,fun _ _ e=>.inl ⟨e,rfl⟩⟩;clear hx a d;go_enter func167,ntmps167
   go_wp2;go_ret;exact f.o
  ·have s:(x.t.kind == 4)=false:=beq_eq_false_iff_ne.2 d;have f:Hdd (ED w x (.returned (.slice none 0 0)) (w.alloc (.cells (c5 x).toArray 123))):=⟨_,_,_,rfl,Ae _,Am _,by rw [yP a d];rfl,by rw [yP a d];exact Rd.nil _ _ _,g.o,fun _ _ e=>by cases e⟩;clear hx a d;go_enter func167,ntmps167
   go_wp2;go_ret;exact f.o
def dV (D:Int->Prop) (ps:List Int) (men:Int->Int->Prop) (j:Nat):Int->Prop:=fun r=>D r\/∃ p∈ps.take j,men p r
theorem dT (D:Int->Prop) (ps:List Int) (men:Int->Int->Prop):dV D ps men 0=D:=by
 funext r;simp [dV]
theorem pL (D:Int->Prop) {ps:List Int} (men:Int->Int->Prop) {j:Nat} {p:Int} (h:ps[j]?=some p):(fun r=>dV D ps men j r\/men p r)=dV D ps men (j+1):=by
 funext r;unfold dV;rw [Bm,h];simp only [Option.toList_some,Aq,An,eq_iff_iff];constructor
 ·rintro ((h | ⟨q,a,h⟩) | h)
  ·exact .inl h
  ·exact .inr ⟨q,.inl a,h⟩
  ·exact .inr ⟨p,.inr rfl,h⟩
 ·rintro (g | ⟨q,a | rfl,g⟩)
  ·exact .inl (.inl g)
  ·exact .inl (.inr ⟨q,a,g⟩)
  ·exact .inr g
theorem gN (D:Int->Prop) (ps:List Int) (men:Int->Int->Prop) {j:Nat} (h:ps.length<=j):dV D ps men j=fun r=>D r\/∃ p∈ps,men p r:=by
 unfold dV;rw [Au h]
def cV (ps:List Int) (d:Int->Int) (j:Nat):Int:=((ps.take j).map d).foldl max 0
theorem PG {ps:List Int} (d:Int->Int) {j:Nat} {p:Int} (h:ps[j]?=some p):cV ps d (j+1)=max (cV ps d j) (d p):=by
 unfold cV;rw [Bm,h];simp
theorem VQ {ps:List Int} {d:Int->Int} (a:∀ p∈ps,0<=d p/\d p<=65535) (j:Nat):0<=cV ps d j/\cV ps d j<=65535:=by
 obtain ⟨f,_,h3⟩:=fH ((ps.take j).map d) 0;refine ⟨f,?_⟩;unfold cV;rcases h3 with h3 | h3
 ·rw [h3];omega
 ·obtain ⟨p,g,e⟩:=Bw.1 h3;rw [<-e];exact (a p (Ex g)).2
def uG4 (t:Ty) (cp:Int->Bool):Bool:=if t.kind=3 then !t.mut_ else (uG t).all cp
section
variable (x:TyW) (K:FuncId) (caps:Array Value) (w:World) (hx:wF w w.heap.size x) (S:Nat->Prop) (J:World->(Int->Prop)->Prop) (men:Int->Int->Prop) (D:Int->Prop)
  (hst:∀ w w' D,J w D->Ab w w'->J w' D) (hJ:J w D) (hfar:0 < x.n->∀ b o,x.A=some ⟨b,o,none⟩->¬S b) (hS:∀ k,S k->k < w.heap.size)
include hx hst hJ hfar hS
theorem uGx (d:Int->Int) (hd:∀ p∈uG x.t,0<=d p/\d p<=65535) (V:cS K caps (fun p=>.int .i64 (d p)) (uG x.t) w S J men) :
 Calls prog 194 #[xU x,.func (.func K) #[] caps] w fun e w'=>e=.returned (.int .i64 (((uG x.t).map d).foldl max 0+1))/\J w' (fun r=>D r\/∃ p∈uG x.t,men p r)/\Turn S w w':=by
 have N:=uA ((Below.refl w.heap.size w).alloc (Ae _) (.cells (c5 x).toArray 123));have HX:=uA ((hx.below N.o).more (B':=(w.alloc (.cells (c5 x).toArray 123)).heap.size) nF);have HF:=uA hfar;have HS:=uA hS;have HJ:=uA hJ;have O:=uA hst;have HD:=uA hd;have HV:=uA V;have a3:=V.enter;clear hx hst hJ hfar hS hd V;go_enter func194,ntmps194
 go_wp2_with fail
 refine (eY _ _ HX.o).mono ?_;rintro e w1 ⟨A1,l,c1,rfl,h1,h2,h3,h4,Q,h6⟩;have T:=uA h3;have HR:=uA h4;have g:=uA (Aa N.o Q);have HN:Hdd (0 < l->∀ b o,A1=some ⟨b,o,none⟩->¬S b):=fun h0 b o e hs=>by
  rcases h6 b o e with ⟨h,hn⟩ | h
  ·exact HF.o bB b o h hs
  ·have:=HS.o b hs;simp at h;omega
 have U:=Q.size;simp only [Ak] at U;unfold maxLen at h2;clear h3 h4 Q h6;go_wp2_with fail
 go_loopw [5,11] (fun v i wr=>∃ j:Nat,i=.int .i64 (j:Int)/\j<=l/\v=.int .i64 (cV (uG x.t) d j)/\Hdd (J wr (dV D (uG x.t) men j))/\Turn S w1 wr) (fun _ i _=>l - (intOf i).toNat)
 case atStart=>exact ⟨0,rfl,Am _,rfl,by show J w1 _;rw [dT];exact O.o _ _ _ HJ.o g.o,Turn.refl _ _⟩
 case round=>
  obtain ⟨j,rfl,hj,rfl,t,ht⟩:=hrel;have I:=uA ht;clear ht;have X:=VQ HD.o j;obtain ⟨a5,a6⟩:=X;by_cases a7:j < l
  ·have a4:(j:Int) < (l:Int):=bB;have Y:∃ a,(uG x.t)[j]?=some a:=⟨_,Ad (by have:=T.o;omega)⟩;obtain ⟨p,s⟩:=Y;obtain ⟨b,o,rfl,hb,c0⟩:=(HR.o.turn I.o (Ae _) HN.o).int s;have HP:=uA s;have Z:=HD.o p (Aj s);have u:=PG d s;have HM:=uA u;have a0:=uA (HV.o.call p (Aj s) wr _ (((Turn.of_below g.o).trans I.o)) t.o);obtain ⟨a8,a9⟩:=Z;generalize d p=q at *;generalize cV (uG x.t) d j=mm at *;clear s u;go_wp2_with fail
   refine a0.o.mono ?_;rintro e w2 ⟨rfl,y,B⟩;have f:Hdd (J w2 (dV D (uG x.t) men (j+1))):=by show J w2 _;rw [<-pL D men HP.o];exact y
   have a1:=uA (I.o.trans B);clear y B;go_wp2_with fail
   go_roundw
   case rel=>exact ⟨j+1,by go_num,bB,by rw [HM.o];first | rfl | go_num,f.o,a1.o⟩
   case measure=>simp [intOf];omega
  ·obtain rfl:j=l:=by omega
   have f:=t.o;rw [gN _ _ _ (by rw [T.o];exact Ae _)] at f;have E:cV (uG x.t) d j=((uG x.t).map d).foldl max 0:=by unfold cV;rw [Au (by rw [T.o];exact Ae _)]
   have HM:=uA E;have a2:=uA f;generalize cV (uG x.t) d j=mm at *;clear E f;go_wp2;go_ret;exact ⟨congrArg (fun z=>Ending.returned (.int .i64 (z+1))) HM.o,a2.o,(Turn.of_below g.o).trans I.o⟩
theorem VF (cp:Int->Bool) (d:∀ w D D',J w D->(∀ r,D r->D' r)->J w D') (hk:x.t.kind≠3->uG x.t=x.t.fields) (V:x.t.kind≠3->cS K caps (fun p=>.bool (cp p)) (uG x.t) w S J men) (O:∀ (y:Array Value) (w:World),(callFunc K y).run prog w=.ok (.enter K y) w) :
 Calls prog 296 #[xU x,.func (.func K) #[] caps] w fun e w'=>e=.returned (.bool (uG4 x.t cp))/\J w' (fun r=>D r\/∃ p∈uG x.t,men p r)/\Turn S w w':=by
 have I:=uA ((Below.refl w.heap.size w).alloc (Ae _) (.cells (c5 x).toArray 123));have HX:=uA ((hx.below I.o).more (B':=(w.alloc (.cells (c5 x).toArray 123)).heap.size) nF);have HF:=uA hfar;have HS:=uA hS;have HJ:=uA hJ;have a4:=uA hst;have Q:=uA d;have T:=uA (hst _ _ _ hJ I.o);by_cases z:x.t.kind=3
 ·have e3:(x.t.kind == 3)=true:=beq_iff_eq.2 z;have HR:Hdd (uG4 x.t cp=!x.t.mut_):=if_pos z;clear hx hst hJ hfar hS d hk V z O;go_enter func296,ntmps296
  go_wp2;go_ret;exact ⟨congrArg (fun b=>Ending.returned (.bool b)) HR.o.symm,Q.o _ _ _ T.o (fun r h=>.inl h),Turn.of_below I.o⟩
 ·have e3:(x.t.kind == 3)=false:=beq_eq_false_iff_ne.2 z;have HV:=uA (V z);have v:=hk z;have HK:=uA v;have HL:=uA (show (uG x.t).length=x.n by rw [v];exact hx.ok.len);have U:=uA (show Rd (w.alloc (.cells (c5 x).toArray 123)) (w.alloc (.cells (c5 x).toArray 123)).heap.size x.A x.n (vC (uG x.t)) by rw [v];exact HX.o.rd);have HR:Hdd (uG4 x.t cp=(uG x.t).all cp):=if_neg z;have hn:x.n<=maxLen:=Ai hx.ok.nc hx.ok.cm;unfold maxLen at hn;clear hx hst hJ hfar hS d hk v V z;obtain ⟨t,A1,N,c1⟩:=x;simp only [] at hn HL U;go_enter func296,ntmps296
  go_wp2;go_loopw [16] (fun i wr=>∃ j:Nat,i=.int .i64 (j:Int)/\j<=N/\Hdd (((uG t).take j).all cp=true)/\Hdd (J wr (dV D (uG t) men j))/\Turn S (w.alloc (.cells (c5 ⟨t,A1,N,c1⟩).toArray 123)) wr) (fun i _=>N - (intOf i).toNat)
  case atStart=>exact ⟨0,rfl,Am _,rfl,by show J _ _;rw [dT];exact T.o,Turn.refl _ _⟩
  case round=>
   obtain ⟨j,rfl,hj,HT,X,ht⟩:=hrel;have g:=uA ht;clear ht;by_cases a5:j < N
   ·have a3:(j:Int) < (N:Int):=bB;have a0:∃ a,(uG t)[j]?=some a:=⟨_,Ad (by have:=HL.o;omega)⟩;obtain ⟨p,B⟩:=a0;obtain ⟨b,o,rfl,hb,c0⟩:=(U.o.turn g.o (Ae _) HF.o).int B;have HP:=uA B;have Y:=uA (HV.o.call p (Aj B) wr _ (((Turn.of_below I.o).trans g.o)) X.o);cases hc:cp p
    ·have HC:=uA hc;have l:=uA (show (uG t).all cp=false by
      cases h:(uG t).all cp
      ·rfl
      ·rw [Cb.1 h p (Aj B)] at hc;cases hc)
     clear B hc;go_wp2_with fail
     refine Y.o.mono ?_;rintro e Z ⟨rfl,s,u⟩;have f:Hdd (J Z (dV D (uG t) men (j+1))):=by show J Z _;rw [<-pL D men HP.o];exact s
     have E:=uA (g.o.trans u);clear s u;rw [HC.o];go_wp2_with fail
     go_ret;refine ⟨congrArg (fun b=>Ending.returned (.bool b)) (HR.o.trans l.o).symm,Q.o _ _ _ f.o (fun r h=>?_),(Turn.of_below I.o).trans E.o⟩;rcases h with h | ⟨q,hq,h⟩
     ·exact .inl h
     ·exact .inr ⟨q,Ex hq,h⟩
    ·have HC:=uA hc;have HA:=uA (show ((uG t).take (j+1)).all cp=true by
      rw [Bm,B,List.all_append,HT.o];simp [hc])
     clear B hc;go_wp2_with fail
     refine Y.o.mono ?_;rintro e Z ⟨rfl,s,u⟩;have f:Hdd (J Z (dV D (uG t) men (j+1))):=by show J Z _;rw [<-pL D men HP.o];exact s
     have E:=uA (g.o.trans u);clear s u;rw [HC.o];go_wp2_with fail
     go_roundw
     case rel=>exact ⟨j+1,by go_num,bB,HA.o,f.o,E.o⟩
     case measure=>simp [intOf];omega
   ·obtain rfl:j=N:=by omega
    have f:=X.o;rw [gN _ _ _ (by rw [HL.o];exact Ae _)] at f;have l:=HT.o;rw [Au (by rw [HL.o];exact Ae _)] at l;have a1:=uA l;have a2:=uA f;clear f l;go_wp2;go_ret;exact ⟨congrArg (fun b=>Ending.returned (.bool b)) (HR.o.trans a1.o).symm,a2.o,(Turn.of_below I.o).trans g.o⟩
end
theorem zS:Go.Maps.Keyed prog 3:=Go.Maps.int_keyed underlying3
theorem wY {r:Int} (h:uH r):keyOf prog 3 (.int .i64 r)=some (.int .i64 r):=Go.Maps.keyOf_int_mk underlying3 (aW h)
theorem dJ {P:Program} {f:FuncId} {fn:Func} {c:Code} (d:P.funcs[f]?=some fn) (a:(fn.name == "runtime.NumGoroutine")=false) (e:fn.body=some c) (args:Array Value) (w:World):(callFunc f args).run P w=.ok (.enter f args) w:=by
 have g:¬fn.name = "runtime.NumGoroutine":=by simpa using a
 simp [callFunc,d,g,e]
theorem uP {P:Program} (w:World) {e:Array Oper} {d:List Oper} {o:Oper} {a:Act} {Q:Exit->Act->World->Prop} (l:o.guard=none) (m x:Operand) (t:TypeId) (c:Bool) (h:o.op=Op.lookup t m x c)
 (j f v:Value) (p:a.eval m=j) (hx:a.eval x=f) (g:(Instr.lookup t j f c).run P w=.ok v w) (r:wpList P e Q d (a.put o.dst v) w):wpList P e Q (o :: d) a w:=by
 refine wpList_plain l fun s i=>?_
 unfold Oper.wp;simp [execOp,h,p,hx,g,Result.andThen];exact i _ _ r
theorem uQ {H:Type} {P:Program} {e:TypeId} (d:P.underlying e=some .bool) {v:Value} {z:DataW H×List MemPlace} (h:plainElem P e v=some z):∃ a,v=.bool a/\z=(.lit (.bool a),[]):=by
 unfold plainElem at h;rw [d] at h;cases v <;> simp at h;exact ⟨_,rfl,h.symm⟩
section
variable {H:Type} {P:Program} {k:TypeId} {R:Value->Option (DataW H×List MemPlace)} {w w':World} {b m:Nat} {D:DataW H}
theorem uN (h:w.ownsMap P k R b m D) (d:w'.heap[b]?=w.heap[b]?):w'.ownsMap P k R b m D:=by
 obtain ⟨e,a,f,g⟩:=h;exact ⟨e,a,d.trans f,g⟩
theorem EK (h:w.ownsMap P k R b m D):b < w.heap.size:=h.lt
def ZH:Lit->Int
 | .int _ x=>x
 | _=>0
theorem lV (K:Go.Maps.Keyed P k) (T:P.underlying k=some (.int .i64)) (h:w.ownsMap P k R b m D) (u:List Int) (z:∀ q,(Lit.int .i64 q).wf=true->Maps.has D (.int .i64 q)=true->q∈u):w.ownsMap P k R b u.length D:=by
 obtain ⟨s,O,B,_⟩:=h.entries K;obtain ⟨f,j,E⟩:=h.keysOf;obtain rfl:s=f:=by rw [O] at j;simpa using j
 subst O;have hx:∀ p∈s,∃ x:Int,p.1=.int .i64 x/\(Lit.int .i64 x).wf=true:=fun p i=>by
  obtain ⟨v,U⟩:=E p i;obtain ⟨x,_,hx,I⟩:=Maps.keyOf_int_inv T U;exact ⟨x,hx,I⟩
 have N:(s.map fun p=>ZH p.1).Nodup:=by
  refine Ec.2 (B.imp_of_mem ?_);intro p q i z o e;obtain ⟨a,t,_⟩:=hx p i;obtain ⟨c,V,_⟩:=hx q z;rw [t,V] at e o;exact o (congrArg (Lit.int .i64) e)
 have r:(s.map fun p=>ZH p.1).length<=u.length:=by
  refine pP N ?_;intro y X;obtain ⟨p,i,e⟩:=Bw.1 X;obtain ⟨a,t,I⟩:=hx p i;rw [t] at e;have Y:a=y:=e;subst Y;refine z a I ?_;rw [Maps.has_eq,Em];exact ⟨p,i,by rw [t];simp [Lit.sameKey]⟩
 obtain ⟨f,g,Z,h2,_,Q⟩:=h;refine ⟨f,g,Z,h2,?_,Q⟩;have e:=congrArg (fun d:DataW H=>match d with | .map l=>l.length | _=>0) Q;simp only [Go.length_sorted,Ao,Fv] at e;rw [Ao] at r;omega
end
structure Ctx where
 b3:Nat
 b5:Nat
 b7:Nat
 b8:Nat
 bm:Nat
 A:Option Addr
 n:Nat
 c:Nat
 L:List TyW
 S:Nat->Prop
 KP:FuncId
 cp:Array Value
abbrev Ctx.self (C:Ctx) (K:FuncId):Value:=.func (.func K) #[] #[.pointer (some ⟨C.b7,0,none⟩),.pointer (some ⟨C.b3,0,none⟩),.pointer (some ⟨C.b5,0,none⟩),.pointer (some ⟨C.b8,0,none⟩)]
structure Ctx.fix (C:Ctx):Prop where
 n3:¬C.S C.b3
 n5:¬C.S C.b5
 n7:¬C.S C.b7
 n8:¬C.S C.b8
 sm:C.S C.bm
 fA:0 < C.n->∀ b o,C.A=some ⟨b,o,none⟩->¬C.S b
 fx:∀ x∈C.L,0 < x.n->∀ b o,x.A=some ⟨b,o,none⟩->¬C.S b
 nc:C.n<=C.c
 cm:C.c<=maxLen
 few:C.n<=65535
structure uCy (C:Ctx) (K:FuncId) (w:World):Prop where
 c3:w.cell? ⟨C.b3,0,none⟩=some (.slice C.A C.n C.c)
 c5:w.cell? ⟨C.b5,0,none⟩=some (.func (.func C.KP) #[] C.cp)
 c7:w.cell? ⟨C.b7,0,none⟩=some (.map (some C.bm))
 c8:w.cell? ⟨C.b8,0,none⟩=some (C.self K)
 l3:C.b3 < w.heap.size
 l5:C.b5 < w.heap.size
 l7:C.b7 < w.heap.size
 l8:C.b8 < w.heap.size
 ls:∀ k,C.S k->k < w.heap.size
 ty:yH w w.heap.size C.A C.n C.L
theorem uM.turn {α:Type} {S:Nat->Prop} {w w':World} {B k:Nat} {f:α->List Value} {A:Option Addr} {n:Nat} {L:List α} (h:uM w B k f A n L) (e:Turn S w w') (t:B<=w.heap.size) (g:0 < n->∀ b o,A=some ⟨b,o,none⟩->¬S b):uM w' B k f A n L:=
 ⟨h.1,fun a=>by
  obtain ⟨b,o,d,l,r⟩:=h.2 a;exact ⟨b,o,d,l,fun i x hx j u s=>(e.cell (p:=⟨b,o+i*k+j,none⟩) (by simp;omega) (g a b o d)).trans (r i x hx j u s)⟩⟩
theorem wF.turn {S:Nat->Prop} {w w':World} {B:Nat} {x:TyW} (h:wF w B x) (a:Turn S w w') (d:B<=w.heap.size) (e:0 < x.n->∀ b o,x.A=some ⟨b,o,none⟩->¬S b):wF w' B x:=⟨h.ok,h.rd.turn a d e⟩
theorem uCy.turn {C:Ctx} {K:FuncId} {w w':World} (h:uCy C K w) (e:C.fix) {S':Nat->Prop} (d:Turn S' w w') (f:∀ k,S' k->C.S k):uCy C K w':=by
 have a:=d.weak f;exact ⟨(a.cell (p:=⟨C.b3,0,none⟩) h.l3 e.n3).trans h.c3,(a.cell (p:=⟨C.b5,0,none⟩) h.l5 e.n5).trans h.c5,(a.cell (p:=⟨C.b7,0,none⟩) h.l7 e.n7).trans h.c7,(a.cell (p:=⟨C.b8,0,none⟩) h.l8 e.n8).trans h.c8,
  Ap h.l3 d.size,Ap h.l5 d.size,Ap h.l7 d.size,Ap h.l8 d.size,fun k g=>Ap (h.ls k g) d.size,
  ⟨(h.ty.cells.turn a (Ae _) e.fA).more d.size,fun x hx=>((h.ty.one x hx).turn a (Ae _) (e.fx x hx)).more d.size⟩⟩
structure QB (C:Ctx) (ret:Int->Value) (men:Int->Int->Prop) (J:World->(Int->Prop)->Prop):Prop where
 enter:∀ (args:Array Value) (w:World),(callFunc C.KP args).run prog w=.ok (.enter C.KP args) w
 call:∀ (i:Nat) (x:TyW),C.L[i]?=some x->∀ (w:World) (D:Int->Prop) (K:FuncId) (caps:Array Value),wF w w.heap.size x->(∀ k,C.S k->k < w.heap.size)->J w D->cS K caps ret (uG x.t) w C.S J men ->
  Calls prog C.KP (#[xU x,.func (.func K) #[] caps]++C.cp) w fun e w'=>e=.returned (ret (i:Int))/\J w' (fun r=>D r\/men (i:Int) r)/\Turn C.S w w'
theorem BJ:prog.underlying 245=some (.map 3 4):=underlying245
theorem gE (w:World):(zeroValue 4).run prog w=.ok (.bool false) w:=by kernel_rfl
def KnB (C:Ctx) (men:Int->Int->Prop) (val:Int->Bool) (w:World) (D:Int->Prop):Prop:=∃ m a,w.ownsMap (H:=Unit) prog 3 (plainElem prog 4) C.bm m a /\
 ∀ q,uH q->Maps.has a (.int .i64 q)=true->0<=q/\q < (C.n:Int)/\(∀ z,a.atKey (.int .i64 q) z=.lit (.bool (val q)))/\∀ r,men q r->D r
structure JB (C:Ctx) (men:Int->Int->Prop) (val:Int->Bool) (M:World->(Int->Prop)->Prop) (w:World) (D:Int->Prop):Prop where
 fr:uCy C 220 w
 kn:KnB C men val w D
 m:M w D
section
variable {C:Ctx} {men:Int->Int->Prop} {val:Int->Bool} {M:World->(Int->Prop)->Prop}
theorem KnB.block {w w':World} {D:Int->Prop} (h:KnB C men val w D) (a:w'.heap[C.bm]?=w.heap[C.bm]?):KnB C men val w' D:=by
 obtain ⟨m,d,e,f⟩:=h;exact ⟨m,d,uN e a,f⟩
theorem KnB.grow {w:World} {D e:Int->Prop} (h:KnB C men val w D) (f:∀ r,D r->e r):KnB C men val w e:=by
 obtain ⟨m,g,i,j⟩:=h;exact ⟨m,g,i,fun q l o=>by obtain ⟨a,b,c,d⟩:=j q l o;exact ⟨a,b,c,fun r p=>f r (d r p)⟩⟩
theorem JB.below {w w':World} {D:Int->Prop} (h:JB C men val M w D) (d:C.fix) (e:∀ w w' D,M w D->Turn (fun k=>k=C.bm) w w'->M w' D) (a:Ab w w'):JB C men val M w' D:=by
 have f:C.bm < w.heap.size:=h.fr.ls _ d.sm;exact ⟨h.fr.turn d (Turn.of_below (S:=C.S) a) fun _ g=>g,h.kn.block (a.block _ f),e _ _ _ h.m (Turn.of_below a)⟩
theorem uJc {w:World} {m:Nat} {e:DataW Unit} {i:Int} (h:uH i) (j:w.ownsMap (H:=Unit) prog 3 (plainElem prog 4) C.bm m e) (l:Maps.has e (.int .i64 i)=true) (f:∀ z,e.atKey (.int .i64 i) z=.lit (.bool (val i))) :
 (Instr.lookup 245 (.map (some C.bm)) (.int .i64 i) true).run prog w=.ok (.tuple #[.bool (val i),.bool true]) w:=by
 obtain ⟨v,o,d,g⟩:=j.look_ok zS BJ (gE w) (zd:=.lit (.bool false)) (zp:=[]) (plainElem_bool underlying4 false) (wY h);rw [f] at g;rw [d,l];obtain ⟨c,rfl,a⟩:=uQ underlying4 g;injection a with a _;injection a with a;injection a with a;rw [a]
theorem uH2 {w:World} {m:Nat} {e:DataW Unit} {i:Int} (h:uH i) (j:w.ownsMap (H:=Unit) prog 3 (plainElem prog 4) C.bm m e) (f:Maps.has e (.int .i64 i)=false) :
 (Instr.lookup 245 (.map (some C.bm)) (.int .i64 i) true).run prog w=.ok (.tuple #[(.bool false),.bool false]) w:=by
 obtain ⟨v,l,d,g⟩:=j.look_ok zS BJ (gE w) (zd:=.lit (.bool false)) (zp:=[]) (plainElem_bool underlying4 false) (wY h);rw [Cm f] at g;rw [d,f];obtain ⟨c,rfl,a⟩:=uQ underlying4 g;injection a with a _;injection a with a;injection a with a;rw [a]
theorem uGu (w:World) (D:Int->Prop) (f:JB C men val M w D) (g:Nat) (a:Nat) (o:a<=31) (r:w.cell? ⟨g,0,none⟩=some (.int .i64 ((a+1:Nat):Int))) (p:Int) (R:Ending->World->Prop)
 (h:Calls prog 220 #[.int .i64 p,.int .i64 (a:Int),.pointer (some ⟨C.b7,0,none⟩),.pointer (some ⟨C.b3,0,none⟩),.pointer (some ⟨C.b5,0,none⟩),.pointer (some ⟨C.b8,0,none⟩)] w fun e w'=>e=.returned (.bool (val p))/\R e w') :
 Calls prog 222 #[.int .i64 p,.pointer (some ⟨C.b8,0,none⟩),.pointer (some ⟨g,0,none⟩)] w fun e w'=>e=.returned (.bool (val p))/\R e w':=by
 have t:=f.fr.c8;have i:=uA h;have u:((a+1:Nat):Int) - 1=(a:Int):=by omega
 have d:∃ v:Value,v=.bool (val p):=⟨_,rfl⟩;obtain ⟨v,j⟩:=d;rw [<-j] at i ⊢;clear h f j;go_enter func222,ntmps222
 go_wp2_with fail
 refine i.o.mono ?_;rintro e y ⟨rfl,l⟩;have s:=uA l;clear l;go_wp2_with fail
 go_ret;exact ⟨rfl,s.o⟩
theorem uBx (args:Array Value) (w:World):(callFunc 222 args).run prog w=.ok (.enter 222 args) w:=dJ func222 fL rfl args w
theorem JB.turn {w w':World} {D:Int->Prop} (h:JB C men val M w D) (a:C.fix) (f:∀ w w' D,M w D->Turn (fun k=>k=C.bm) w w'->M w' D) (d:Turn (fun k=>k=C.bm) w w') (g:KnB C men val w' D):JB C men val M w' D:=
 ⟨h.fr.turn a d (fun k e=>by rw [e];exact a.sm),g,f _ _ _ h.m d⟩
theorem uH7 (hf:C.fix) {r:Int} (B:TyOk (tys C.L) r) (hM:∀ w w' D,M w D->Turn (fun k=>k=C.bm) w w'->M w' D) (hP:QB C (fun p=>.bool (val p)) men (JB C men val M)) (E:True) (Y:C.L.length=C.n) :
 ∀ Z:Nat,Z<=32->∀ (i:Nat) (x:TyW) (w:World) (D:Int->Prop),C.L[i]?=some x->mK (tys C.L) (i:Int)<=(Z:Int)->JB C men val M w D ->
   Calls prog 220 #[.int .i64 (i:Int),.int .i64 (Z:Int),.pointer (some ⟨C.b7,0,none⟩),.pointer (some ⟨C.b3,0,none⟩),.pointer (some ⟨C.b5,0,none⟩),.pointer (some ⟨C.b8,0,none⟩)] w fun e w'=>e=.returned (.bool (val (i:Int)))/\JB C men val M w' (fun r=>D r\/men (i:Int) r)/\Turn C.S w w':=by
 intro Z
 induction Z with
 | zero=>
   intro _ i x w D hx hd _;have:=(B.dep_pos (nK hx)).1;omega
 | succ Z ih=>
   intro b4 i x w D hx I o;have b5:i < C.n:=by have:=(Ah.1 hx).1;omega
   have N:uH (i:Int):=by have:=hf.few;unfold uH;omega
   have O:∃ z:Int,z=((Z+1:Nat):Int):=⟨_,rfl⟩;obtain ⟨z,hz⟩:=O;rw [<-hz];have HB:=uA ((Below.refl w.heap.size w).alloc (Ae _) (.cells #[.int .i64 z] 3));have f:=o.below hf hM HB.o;obtain ⟨m,Dm,s,l⟩:=f.kn;cases hhas:Maps.has Dm (.int .i64 (i:Int))
   case true=>
    obtain ⟨_,_,a6,a0⟩:=l _ N hhas;have g:=uJc N s hhas a6;have t:=uA g;have HJ:Hdd (JB C men val M (w.alloc (.cells #[.int .i64 z] 3)) (fun r=>D r\/men (i:Int) r)):=by
     have e:(fun r=>D r\/men (i:Int) r)=D:=by
      funext r;exact propext ⟨fun h=>h.elim id (a0 r),.inl⟩
     rw [e];exact f
    have c7:=o.fr.c7;have l7:=o.fr.l7;have O:∃ v:Value,v=.bool (val (i:Int)):=⟨_,rfl⟩;obtain ⟨v,hv⟩:=O;rw [<-hv] at t ⊢;clear ih hx I o f s l hhas a6 a0 g hf B hM hP E Y hv hz;go_enter func220,ntmps220
    go_wp2_with (at_lookup;refine uP _ rfl _ _ _ true rfl _ _ _ rfl rfl t.o ?_)
    go_ret;exact ⟨rfl,HJ.o,Turn.of_below HB.o⟩
   case false=>
    have g:=uH2 N s hhas;have t:=uA g;have c7:=o.fr.c7;have l7:=o.fr.l7;have c5:=o.fr.c5;have l5:=o.fr.l5;have c3:=o.fr.c3;have l3:=o.fr.l3;have b1:=hP.enter;have b2:(z == 0)=false:=beq_eq_false_iff_ne.2 bB;have af:Hdd (vD (i:Int) (C.n:Int)=true):=uW.2 bB;obtain ⟨gA,oA,hA,b6,a1,k0,k1,k2,k3,k4⟩:=f.fr.ty.at_ hx;have V:=f.fr.c3;rw [hA] at c3 V;have K0:=uA k0;have K1:=uA k1;have K2:=uA k2;have K3:=uA k3;have K4:=uA k4;have C3:=uA V;have C5:=uA f.fr.c5;have C8:=uA f.fr.c8;have b3:(i:Int) < (C.n:Int):=bB;have ag:Hdd ((w.alloc (.cells #[.int .i64 z] 3)).cell? ⟨w.heap.size,0,none⟩=some (.int .i64 z)):=by
     show (w.alloc (.cells #[.int .i64 z] 3)).cell? _=_;simp [go_sem]
    have ah:Hdd (w.heap.size < (w.alloc (.cells #[.int .i64 z] 3)).heap.size):=by show w.heap.size < (w.alloc (.cells #[.int .i64 z] 3)).heap.size;simp
    have ai:Hdd (¬C.S w.heap.size):=fun h=>Cg _ (o.fr.ls _ h);have aj:=uA (o.below hf hM HB.o.drew);have ak:Hdd (∀ k,C.S k->k < (w.alloc (.cells #[.int .i64 z] 3)).drew.heap.size):=fun k hk=>Ap (o.fr.ls k hk) HB.o.size;have al:Hdd (wF (w.alloc (.cells #[.int .i64 z] 3)).drew (w.alloc (.cells #[.int .i64 z] 3)).drew.heap.size x):=a1.below ((Below.refl _ _).drew);have HC:=uA (hP.call i x hx (w.alloc (.cells #[.int .i64 z] 3)).drew D 222 #[.pointer (some ⟨C.b8,0,none⟩),.pointer (some ⟨w.heap.size,0,none⟩)] al.o ak.o aj.o
     ⟨uBx,fun p hp w1 D1 am a7=>by
      obtain ⟨q,u,rfl,hq,hu⟩:=B.elem (nK hx) hp;obtain ⟨y,hy,rfl⟩:=bH hu;have b7:=(B.dep_pos (nK hx)).2.2 _ hp;have Q:=(am.cell (p:=⟨w.heap.size,0,none⟩) ah.o ai.o).trans ag.o;rw [hz] at Q;exact uGu (val:=val) w1 D1 a7 w.heap.size Z bB Q (q:Int) (fun e w'=>JB C men val M w' (fun r=>D1 r\/men (q:Int) r)/\Turn C.S w1 w') (ih bB q y w1 D1 hy (by push_cast at I;omega) a7)⟩)
    have a2:=uA hf;have HM:=uA hM;have HV:=uA E;have an:=uA N;have ao:=uA HB.o.drew;have O:∃ v:Value,v=.bool (val (i:Int)):=⟨_,rfl⟩;obtain ⟨v,hv⟩:=O;have ap:=uA hv;rw [<-hv] at HC ⊢;clear ih hx I o f s l hhas g hf B hM hP E Y hv a1 hA N k0 k1 k2 k3 k4 V hz;go_enter func220,ntmps220
    go_wp2_with (first | (at_lookup;refine uP _ rfl _ _ _ true rfl _ _ _ rfl rfl t.o ?_) | (go_at_call 221;refine (qC af.o _).mono ?_;rintro e w1 ⟨rfl,rfl⟩))
    generalize (w.alloc (.cells #[.int .i64 z] 3))=W at *;have k0:=K0.o;have k1:=K1.o;have k2:=K2.o;have k3:=K3.o;have k4:=K4.o;have V:=C3.o;have b8:=C5.o;clear c3 c5 c7 K0 K1 K2 K3 K4 C3 C5;go_still_tail 6,fL
    go_wp2_with fail
    refine HC.o.mono ?_;rintro e w2 ⟨rfl,X,a8⟩;have aq:=uA X;have ar:=uA ((Turn.of_below (S:=C.S) ao.o).trans a8);have d7:=X.fr.c7;obtain ⟨m2,au,T,a3⟩:=X.kn;have av:=uA a3;have a4:=uA (lV zS underlying3 T ((List.range C.n).map fun (j:Nat)=>(j:Int)) fun q hw hh=>by
     obtain ⟨h0,h1,_⟩:=a3 q (by simpa [Lit.wf,IntKind.min,IntKind.max,IntKind.signed,IntKind.bits,uH] using hw) hh;exact Bw.2 ⟨q.toNat,B1.2 bB,bB⟩)
    clear X a8 T a3;rw [Ao,C0] at a4;have aw:Hdd (plainElem (H:=Unit) prog 4 v=some (.lit (.bool (val (i:Int))),[])):=by show _=_;rw [ap.o];exact plainElem_bool underlying4 _
    have a9:C.n < maxLen:=by have:=a2.o.few;unfold maxLen;omega
    go_wp2_with (at_mapUpdate;refine wpList_mapUpdate_own _ rfl _ _ _ 245 rfl 3 4 zS BJ _ C.bm C.n au rfl a4.o a9 _ v (.int .i64 (i:Int)) rfl rfl (wY an.o) (.lit (.bool (val (i:Int)))) [] aw.o ?_;intro w3 U aa;have ax:=uA U;have ay:=uA aa;clear U aa)
    have a5:Turn (fun k=>k=C.bm) w2 w3:=(Turn.refl _ w2).grown ay.o (fun k hk=>by injection hk with hk;exact .inl hk.symm);have ac:KnB C men val w3 (fun r=>D r\/men (i:Int) r):=by
     refine ⟨C.n+1,_,ax.o,fun q hq hh=>?_⟩;by_cases ad:q=(i:Int)
     ·subst ad;exact ⟨bB,bB,fun z=>Cn ⟨_,a4.o.entries zS |>.choose_spec.1⟩ (show Go.WideAt.IsKeyLit (.int .i64 (i:Int)) from trivial) _ z,fun r hr=>.inr hr⟩
     ·have ae:Lit.int .i64 q≠Lit.int .i64 (i:Int):=fun e=>by injection e with _ e;exact ad e
      rw [B7 ae] at hh;obtain ⟨a,b,c,d⟩:=av.o q hq hh;exact ⟨a,b,fun z=>(Ci ae _ z).trans (c z),d⟩
    have az:=uA (aq.o.turn a2.o HM.o a5 ac);have b0:=uA (ar.o.trans (a5.weak fun k e=>by rw [e];exact a2.o.sm));clear a5 ac;go_ret;exact ⟨rfl,az.o,b0.o⟩
end
def sH (w:World) (A:Option Addr) (n c:Nat) (L:List TyW) (Sx:Nat->Prop) (KP:FuncId) (cp:Array Value):Ctx:=
 { b3:=w.heap.size,b5:=w.heap.size+1,b7:=w.heap.size+3,b8:=w.heap.size+4,bm:=w.heap.size+2,A:=A,n:=n,c:=c,L:=L,S:=fun k=>k=w.heap.size+2\/Sx k,KP:=KP,cp:=cp }
def cP (w:World) (A:Option Addr) (n c:Nat) (KP:FuncId) (cp:Array Value):World:=
 ((((w.alloc (.cells #[.slice A n c] 24)).alloc (.cells #[.func (.func KP) #[] cp] 269)).alloc (.map #[] 0)).alloc (.cells #[.map (some (w.heap.size+2))] 245)).alloc
   (.cells #[.func (.func 220) #[] #[.pointer (some ⟨w.heap.size+3,0,none⟩),.pointer (some ⟨w.heap.size,0,none⟩),.pointer (some ⟨w.heap.size+1,0,none⟩),.pointer (some ⟨w.heap.size+4,0,none⟩)]] 164)
section
variable {A:Option Addr} {n c:Nat} {L:List TyW} {w:World} {Sx:Nat->Prop} {KP:FuncId} {cp:Array Value} {men:Int->Int->Prop} {val:Int->Bool} {M:World->(Int->Prop)->Prop} {D0:Int->Prop}
theorem jW:Ab w (cP w A n c KP cp):=by
 unfold cP;exact (((((Below.refl _ _).alloc (Ae _) _).alloc nF _).alloc (by simp;omega) _).alloc (by simp;omega) _).alloc (by simp;omega) _
theorem uEo (i:yH w w.heap.size A n L) (a:∀ k,Sx k->k < w.heap.size) (j:∀ d,w.heap.size<=d->∀ e f D,M e D->Turn (fun k=>k=d) e f->M f D) (l:M w D0) :
 JB (sH w A n c L Sx KP cp) men val M (cP w A n c KP cp) D0:=by
 have g:=jW (w:=w) (A:=A) (n:=n) (c:=c) (KP:=KP) (cp:=cp);have p:(cP w A n c KP cp).heap.size=w.heap.size+5:=by simp [cP]
 refine ⟨⟨by simp [cP,sH,go_sem],by simp [cP,sH,go_sem],by simp [cP,sH,go_sem],by simp [cP,sH,go_sem,Ctx.self],?_,?_,?_,?_,?_,(i.below g).more bB⟩,?_,?_⟩
 ·show w.heap.size < _;omega
 ·show w.heap.size+1 < _;omega
 ·show w.heap.size+3 < _;omega
 ·show w.heap.size+4 < _;omega
 ·rintro k (rfl | hk)
  ·omega
  ·have:=a k hk;omega
 ·refine ⟨0,.map [],?_,fun q _ o=>by simp [Maps.has] at o⟩;have h:=Cu (H:=Unit) ((w.alloc (.cells #[.slice A n c] 24)).alloc (.cells #[.func (.func KP) #[] cp] 269)) prog 3 (plainElem prog 4);simp only [Ak] at h;exact (h.alloc _).alloc _
 ·exact j (w.heap.size+2) bB _ _ _ l (Turn.of_below g)
end
theorem uC4:prog.underlying 260=some (.map 3 4):=underlying260
structure wC (w:World) (b:Nat) (L:List Int):Prop where
 own:∃ Dm,w.ownsMap (H:=Unit) prog 3 (plainElem prog 4) b L.length Dm/\(∀ q,uH q->(Maps.has Dm (.int .i64 q)=true↔q∈L))/\∀ q,Maps.has Dm (.int .i64 q)=true->∀ z,Dm.atKey (.int .i64 q) z=.lit (.bool true)
 rng:∀ q∈L,uH q
section
variable {w w':World} {b:Nat} {L:List Int} {q:Int}
theorem wC.lt (h:wC w b L):b < w.heap.size:=by
 obtain ⟨_,a,_⟩:=h.own;exact a.lt
theorem wC.turn {S:Nat->Prop} (h:wC w b L) (d:Turn S w w') (e:¬S b):wC w' b L:=by
 obtain ⟨f,a,g⟩:=h.own;exact ⟨⟨f,uN a (d.block b a.lt e),g⟩,h.rng⟩
theorem wC.below (h:wC w b L) (a:Ab w w'):wC w' b L:=h.turn (S:=fun _=>False) (Turn.of_below a) id
theorem wC.new (w:World):wC (w.alloc (.map #[] 0)) w.heap.size []:=
 ⟨⟨_,Cu _ _ _ _,fun q _=>⟨fun h=>by simp [Maps.has] at h,fun h=>by cases h⟩,fun q h=>by simp [Maps.has] at h⟩,fun q h=>by cases h⟩
theorem wC.look {T:TypeId} (i:prog.underlying T=some (.map 3 4)) (h:wC w b L) (f:uH q):(Instr.lookup T (.map (some b)) (.int .i64 q) false).run prog w=.ok (.bool (decide (q∈L))) w:=by
 obtain ⟨j,l,g,o⟩:=h.own;obtain ⟨v,p,d,e⟩:=l.lookup zS i (gE w) (zd:=.lit (.bool false)) (zp:=[]) (plainElem_bool underlying4 false) (wY f);rw [d];cases hh:Maps.has j (.int .i64 q)
 ·rw [Cm hh] at e;obtain ⟨c,rfl,a⟩:=uQ underlying4 e;injection a with a _;injection a with a;injection a with a;rw [decide_eq_false (fun h=>by rw [(g q f).2 h] at hh;cases hh),a]
 ·rw [o q hh] at e;obtain ⟨c,rfl,a⟩:=uQ underlying4 e;injection a with a _;injection a with a;injection a with a;rw [decide_eq_true ((g q f).1 hh),a]
theorem zI {p q:Int} (h:p≠q):Lit.int .i64 p≠Lit.int .i64 q:=fun e=>by injection e with _ e;exact h e
theorem wC.put {a:DataW Unit} (g:∀ q∈L,uH q) (h:w.ownsMap (H:=Unit) prog 3 (plainElem prog 4) b L.length a) (i:∀ q,uH q->(Maps.has a (.int .i64 q)=true↔q∈L)) (j:∀ q,Maps.has a (.int .i64 q)=true->∀ z,a.atKey (.int .i64 q) z=.lit (.bool true)) (l:uH q)
 (o:w'.ownsMap (H:=Unit) prog 3 (plainElem prog 4) b (L.length+1) (a.put (.int .i64 q) (.lit (.bool true)))):wC w' b (L++[q]):=by
 have d:=h.isMap;have r:(L++[q]).length=L.length+1:=by simp
 refine ⟨⟨_,r ▸ o,fun p hp=>?_,fun p f z=>?_⟩,fun p hp=>?_⟩
 ·by_cases e:p=q
  ·subst e;rw [Da d (show Go.WideAt.IsKeyLit (.int .i64 p) from trivial)];simp
  ·rw [B7 (zI e),i p hp];simp [e]
 ·by_cases e:p=q
  ·subst e;exact Cn d (show Go.WideAt.IsKeyLit (.int .i64 p) from trivial) _ z
  ·rw [B7 (zI e)] at f;exact (Ci (zI e) _ z).trans (j p f z)
 ·rcases Aq.1 hp with hp | hp
  ·exact g p hp
  ·rw [An.1 hp];exact l
end
theorem bM {w:World} {b:Nat} {L:List Int} (h:wC w b L) {q:Int} (g:uH q) (o:L.length<=1000000000) :
 Calls prog 169 #[.map (some b),.int .i64 q] w fun e w'=>e=.returned (.bool (!decide (q∈L)))/\wC w' b (L++[q])/\Turn (fun k=>k=b) w w':=by
 have p:=uA (h.look uC4 g);obtain ⟨z,i,r,s⟩:=h.own;have t:=uA i;have u:=uA fun w'=>wC.put (w':=w') h.rng i r s g
 obtain ⟨n,d⟩:∃ n,L.length=n:=⟨_,rfl⟩;obtain ⟨v,y⟩:∃ v,decide (q∈L)=v:=⟨_,rfl⟩;rw [d] at t u o;rw [y] at p ⊢;have B:n < maxLen:=by unfold maxLen;omega
 have E:=uA (wY g);clear h i r s g d y o;go_enter func169,ntmps169
 go_wp2_with (first
  | (at_lookup;refine uP _ rfl _ _ _ _ rfl _ _ _ rfl rfl p.o ?_)
  | (at_mapUpdate;refine wpList_mapUpdate_own _ rfl _ _ _ 260 rfl 3 4 zS uC4 _ b n z rfl t.o B _ _ (.int .i64 q) rfl rfl E.o (.lit (.bool true)) [] (plainElem_bool underlying4 true) ?_;intro I a f;have j:=uA a;have l:=uA f;clear a f))
 go_ret;exact ⟨rfl,u.o _ j.o,(Turn.refl _ _).grown l.o fun k e=>by injection e with e;exact .inl e.symm⟩
abbrev Pr:=Int×Int
def gG (p q:Pr):Bool:=decide (p.1 < q.1\/(p.1=q.1/\p.2 < q.2))
def yG (a:Option Pr) (p:Pr) (n:Int):Int:=
 if vD p.1 n=false\/vD p.2 n=false then 3
 else if p.1=p.2 then 2
 else match a with
  | none=>0
  | some q=>if gG q p=true then 0 else 21
def nE (n:Int):Option Pr->List Pr->Int
 | _,[]=>0
 | q,p :: a=>if yG q p n=0 then nE n (some p) a else yG q p n
def xP (l:List Pr) (n:Int):Int:=if 65535 < l.length then 15 else nE n none l
def prv (l:List Pr) (k:Nat):Option Pr:=if k=0 then none else l[k - 1]?
theorem uAs {l:List Pr} {k:Nat} {p:Pr} (h:l[k]?=some p):prv l (k+1)=some p:=by
 unfold prv;rw [if_neg bB,F0,h]
theorem CD {l:List Pr} (h:65535 < l.length) (n:Int):xP l n=15:=by unfold xP;rw [if_pos h]
theorem uBb {l:List Pr} (h:l.length<=65535) (n:Int):xP l n=nE n (prv l 0) (l.drop 0):=by unfold xP;rw [if_neg bB];rfl
theorem BI {l:List Pr} {n:Int} {k:Nat} {p:Pr} (h:l[k]?=some p):nE n (prv l k) (l.drop k)=if yG (prv l k) p n=0 then nE n (prv l (k+1)) (l.drop (k+1)) else yG (prv l k) p n:=by
 have a:k < l.length:=(Ah.1 h).1;have e:l.drop k=p :: l.drop (k+1):=by
  rw [Cq a];rw [Ad a] at h;injection h with h;rw [h]
 rw [e,uAs h];rfl
theorem PO {l:List Pr} {n:Int} {k:Nat} (h:l.length<=k):nE n (prv l k) (l.drop k)=0:=by
 rw [Cs h];cases prv l k <;> rfl
structure XT (l:List Pr) (n:Int):Prop where
 len:l.length<=65535
 a:∀ p∈l,0<=p.1/\p.1 < n
 b:∀ p∈l,0<=p.2/\p.2 < n
theorem OA {q:Option Pr} {p:Pr} {n:Int} (h:yG q p n=0):(0<=p.1/\p.1 < n)/\0<=p.2/\p.2 < n:=by
 unfold yG at h;by_cases c:vD p.1 n=false\/vD p.2 n=false
 ·rw [if_pos c] at h;cases h
 ·have a:vD p.1 n=true:=by cases e:vD p.1 n;exact absurd (.inl e) c;rfl
  have d:vD p.2 n=true:=by cases e:vD p.2 n;exact absurd (.inr e) c;rfl
  exact ⟨uW.1 a,uW.1 d⟩
theorem jB {n:Int}:∀ (l:List Pr) (q:Option Pr),nE n q l=0->∀ p∈l,(0<=p.1/\p.1 < n)/\0<=p.2/\p.2 < n
 | [],_,_,p,hp=>by cases hp
 | x :: l,q,h,p,hp=>by
   unfold nE at h;by_cases a:yG q x n=0
   ·rw [if_pos a] at h;rcases Av.1 hp with rfl | hp
    ·exact OA a
    ·exact jB l _ h p hp
   ·rw [if_neg a] at h;exact absurd h a
theorem YJ {l:List Pr} {n:Int} (h:xP l n=0):XT l n:=by
 have d:l.length<=65535:=by
  rcases Bs 65535 l.length with h' | h'
  ·rw [CD h'] at h;cases h
  ·exact h'
 unfold xP at h;rw [if_neg bB] at h;exact ⟨d,fun p a=>(jB l _ h p a).1,fun p a=>(jB l _ h p a).2⟩
inductive Way (ps:List Pr):Int->Int->Prop
 | refl (a:Int):Way ps a a
 | step {a b c:Int}:(a,b)∈ps->Way ps b c->Way ps a c
def Out (ps:List Pr) (n a b:Int):Prop:=(0<=a/\a < n)/\(0<=b/\b < n)/\Way ps a b
noncomputable def out (ps:List Pr) (n a b:Int):Bool:=@decide (Out ps n a b) (Classical.propDecidable _)
theorem fS {ps:List Pr} {n a b:Int}:out ps n a b=true↔Out ps n a b:=by unfold out;exact @decide_eq_true_iff _ (Classical.propDecidable _)
theorem uDr {ps:List Pr} {n a b:Int}:out ps n a b=false↔¬Out ps n a b:=by rw [<-fS];simp
theorem Out.refl {ps:List Pr} {n a:Int} (h:0<=a/\a < n):Out ps n a a:=⟨h,h,.refl _⟩
def kS (ps:List Pr) (n:Int) (l:List Int) (a:Int):Prop:=∃ b∈l,Out ps n a b
structure ZG (ps:List Pr) (n:Int) (D:List Int) (ab:List (List Int)):Prop where
 asc:D.Pairwise (· < ·)
 mem:∀ x,x∈D↔∃ p∈ps,x=p.1\/x=p.2
 len:ab.length=D.length
 rng:∀ (j:Nat) xs,ab[j]?=some xs->∀ i∈xs,0<=i/\i < (D.length:Int)
 ab:∀ (j:Nat) xs b,ab[j]?=some xs->D[j]?=some b->∀ (i:Nat) a,D[i]?=some a->((i:Int)∈xs↔(a,b)∈ps)
theorem cE {D:List Int} (h:D.Pairwise (· < ·)) {i j:Nat} {a:Int} (f:D[i]?=some a) (g:D[j]?=some a):i=j:=by
 obtain ⟨d,l⟩:=Ah.1 f;obtain ⟨e,o⟩:=Ah.1 g;rcases Cl i j with hl | hl | hl
 ·have:=C4.1 h i j d e hl;omega
 ·exact hl
 ·have:=C4.1 h j i e d hl;omega
theorem iR:∀ {D:List Int},D.Pairwise (· < ·)->∀ {i:Nat} {a:Int},D[i]?=some a->D.countP (· < a)=i
 | [],_,i,a,h=>by simp at h
 | x :: D,d,0,a,h=>by
   obtain ⟨f,g⟩:=Dq.1 d;have e:x=a:=(by simpa using h);subst e;rw [Ek.2];intro y hy;rcases Av.1 hy with rfl | hy
   ·simp
   ·have:=f y hy;simp;omega
 | x :: D,d,i+1,a,h=>by
   obtain ⟨f,g⟩:=Dq.1 d;have j:D[i]?=some a:=(by simpa using h);have:=f a (Aj j);rw [Dc,iR g j,if_pos (by simpa using this)]
theorem uGo {D:List Int} (h:D.Pairwise (· < ·)):D.Pairwise (·<=·):=h.imp fun h=>by omega
def Fnd (F:List Bool) (x:Int):Prop:=F[x.toNat]?=some true
structure Sr (D:List Int) (ab:List (List Int)) (G:Int->Prop) (S Ix W:List Int) (F:List Bool) (ys:List Int):Prop where
 len:F.length=D.length
 start:∀ s∈S,Fnd F s\/s∈Ix
 front:∀ (i:Nat),F[i]?=some true->(i:Int)∈W\/∀ xs,ab[i]?=some xs->∀ x∈xs,Fnd F x\/x∈Ix
 wait:∀ x∈W,Fnd F x/\0<=x
 ix:∀ x∈Ix,(0<=x/\x < (D.length:Int))/\∀ a,D[x.toNat]?=some a->G a
 come:∀ a,a∈ys↔∃ i:Nat,F[i]?=some true/\D[i]?=some a
 good:∀ a∈ys,G a
def qH (F:List Bool):Nat:=F.countP fun b=>!b
theorem Fnd.set {F:List Bool} {x:Int} {k:Nat} (h:Fnd F x):Fnd (F.set k true) x:=by
 unfold Fnd at h ⊢;rw [Cp]
 split
 ·rename_i e;subst e;rw [if_pos ((Ah.1 h).1)]
 ·exact h
theorem lF {F:List Bool} {x:Int} (h:x.toNat < F.length):Fnd (F.set x.toNat true) x:=by
 unfold Fnd;rw [Gp h]
theorem KX {F:List Bool} {i k:Nat} (h:(F.set k true)[i]?=some true):i=k\/F[i]?=some true:=by
 rw [Cp] at h
 split at h
 ·rename_i e;exact .inl e.symm
 ·exact .inr h
theorem JT:∀ {F:List Bool} {k:Nat},F[k]?=some false->qH (F.set k true)+1=qH F
 | [],k,h=>by simp at h
 | b :: F,0,h=>by
   have e:b=false:=(by simpa using h);subst e;simp [qH]
 | b :: F,k+1,h=>by
   have a:F[k]?=some false:=(by simpa using h);have d:=JT a;unfold qH at d ⊢;rw [List.set_cons_succ,Dc,Dc];omega
section
variable {D:List Int} {ab:List (List Int)} {G:Int->Prop} {S Ix W:List Int} {F:List Bool} {ys:List Int}
theorem Sr.begin (e:∀ x∈S,(0<=x/\x < (D.length:Int))/\∀ a,D[x.toNat]?=some a->G a):Sr D ab G S S [] (List.replicate D.length false) []:=by
 have d:∀ i:Nat,¬(List.replicate D.length false)[i]?=some true:=fun i h=>by
  rw [Gj] at h
  split at h <;> cases h
 exact ⟨nF,fun s h=>.inr h,fun i h=>absurd h (d i),(fun x h=>by cases h),e,fun a=>⟨(fun h=>by cases h),fun ⟨i,h,_⟩=>absurd h (d i)⟩,(fun a h=>by cases h)⟩
theorem Sr.skip {x:Int} (h:Sr D ab G S (x :: Ix) W F ys) (hx:Fnd F x):Sr D ab G S Ix W F ys:=by
 refine ⟨h.len,fun s e=>?_,fun i f=>?_,h.wait,fun y a=>h.ix y (by simp [a]),h.come,h.good⟩
 ·rcases h.start s e with h1 | h1
  ·exact .inl h1
  ·rcases Av.1 h1 with rfl | h1
   ·exact .inl hx
   ·exact .inr h1
 ·rcases h.front i f with h1 | h1
  ·exact .inl h1
  ·refine .inr fun g d y a=>?_
   rcases h1 g d y a with h2 | h2
   ·exact .inl h2
   ·rcases Av.1 h2 with rfl | h2
    ·exact .inl hx
    ·exact .inr h2
theorem Sr.take {x a:Int} (h:Sr D ab G S (x :: Ix) W F ys) (e:D[x.toNat]?=some a):Sr D ab G S Ix (W++[x]) (F.set x.toNat true) (ys++[a]):=by
 obtain ⟨⟨f,j⟩,l⟩:=h.ix x nF;have d:x.toNat < F.length:=by rw [h.len];omega
 refine ⟨by rw [D9,h.len],fun s o=>?_,fun i hi=>?_,fun y hy=>?_,fun y hy=>h.ix y (by simp [hy]),fun b=>?_,fun b hb=>?_⟩
 ·rcases h.start s o with h1 | h1
  ·exact .inl h1.set
  ·rcases Av.1 h1 with rfl | h1
   ·exact .inl (lF d)
   ·exact .inr h1
 ·rcases KX hi with rfl | hi
  ·exact .inl (by simp;right;omega)
  ·rcases h.front i hi with h1 | h1
   ·exact .inl (by simp [h1])
   ·refine .inr fun p g y hy=>?_
    rcases h1 p g y hy with h2 | h2
    ·exact .inl h2.set
    ·rcases Av.1 h2 with rfl | h2
     ·exact .inl (lF d)
     ·exact .inr h2
 ·rcases Aq.1 hy with hy | hy
  ·exact ⟨(h.wait y hy).1.set,(h.wait y hy).2⟩
  ·obtain rfl:y=x:=by simpa using hy
   exact ⟨lF d,f⟩
 ·rw [Aq,h.come];constructor
  ·rintro (⟨i,h1,h2⟩ | h1)
   ·exact ⟨i,by have:=Fnd.set (k:=x.toNat) (show Fnd F (i:Int) from h1);exact this,h2⟩
   ·obtain rfl:b=a:=by simpa using h1
    exact ⟨x.toNat,lF d,e⟩
  ·rintro ⟨i,h1,h2⟩;rcases KX h1 with rfl | h1
   ·rw [e] at h2;injection h2 with h2;exact .inr (by simp [h2])
   ·exact .inl ⟨i,h1,h2⟩
 ·rcases Aq.1 hb with hb | hb
  ·exact h.good b hb
  ·obtain rfl:b=a:=by simpa using hb
   exact l _ e
theorem Sr.pop {x:Int} {xs:List Int} (h:Sr D ab G S [] (W++[x]) F ys) (g:ab[x.toNat]?=some xs) (l:∀ i∈xs,0<=i/\i < (D.length:Int)) (o:∀ i∈xs,∀ a,D[i.toNat]?=some a->G a):Sr D ab G S xs W F ys:=by
 refine ⟨h.len,fun s p=>?_,fun i r=>?_,fun y f=>h.wait y (by simp [f]),fun y f=>⟨l y f,o y f⟩,h.come,h.good⟩
 ·rcases h.start s p with h1 | h1
  ·exact .inl h1
  ·cases h1
 ·rcases h.front i r with h1 | h1
  ·rcases Aq.1 h1 with h1 | h1
   ·exact .inl h1
   ·have e:(i:Int)=x:=(by simpa using h1);subst e;refine .inr fun j d y f=>.inr ?_
    rw [A3] at g;rw [g] at d;injection d with d;rw [d];exact f
  ·refine .inr fun j d y f=>?_
   rcases h1 j d y f with h2 | h2
   ·exact .inl h2
   ·cases h2
theorem Sr.end_ {ps:List Pr} {n:Int} (h:Sr D ab G S [] [] F ys) (f:ZG ps n D ab) {s:Int} (t:s∈S) {b:Int} (o:D[s.toNat]?=some b) {a:Int} (w:Way ps a b):a∈ys:=by
 induction w with
 | refl=>
   rcases h.start s t with h1 | h1
   ·exact (h.come _).2 ⟨s.toNat,h1,o⟩
   ·cases h1
 | @step a c b m w u=>
   obtain ⟨i,v,p⟩:=(h.come _).1 (u o);have g:i < ab.length:=by rw [f.len];exact (Ah.1 p).1
   have l:∃ e,ab[i]?=some e:=⟨_,Ad g⟩;obtain ⟨e,d⟩:=l;obtain ⟨j,r⟩:=B2 ((f.mem a).2 ⟨_,m,.inl rfl⟩);have y:=(f.ab i e c d p j a r).2 m;rcases h.front i v with h1 | h1
   ·cases h1
   ·rcases h1 e d _ y with h2 | h2
    ·exact (h.come _).2 ⟨j,by unfold Fnd at h2;rw [A3] at h2;exact h2,r⟩
    ·cases h2
end
end Go.Proofs.YtnkjbjkoffgocaaGreatDoor
