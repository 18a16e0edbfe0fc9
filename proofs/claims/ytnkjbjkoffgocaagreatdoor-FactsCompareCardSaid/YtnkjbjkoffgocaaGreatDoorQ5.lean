import Derived.Test.YtnkjbjkoffgocaaGreatDoorQ4
import Derived.DeepKeys5
import Derived.Lib.BitFns
import Derived.Lib.AppendStr
import Derived.Lib.SlicesCompact
import Derived.Lib.Strings
import Derived.Maps.OwnIn
import Derived.TacticsInMore
set_option linter.unusedVariables false
set_option linter.unusedSimpArgs false
set_option maxRecDepth 100000
set_option maxHeartbeats 8000000
namespace Go.Proofs.YtnkjbjkoffgocaaGreatDoor
open Tryz Go.RowKit
def kb (a:List Int):List Int:=a.flatMap fun f=>[f % 256,f / 256 % 256]
theorem uFz (a:List Int):(kb a).length=2*a.length:=by
 induction a with
 | nil=>rfl
 | cons f a g=>unfold kb at g ⊢;rw [Ct,Aw,g];simp;omega
theorem uBd (a:List Int):Byt (kb a):=by
 intro y g;obtain ⟨f,_,h⟩:=Dt.1 g;simp only [Av,Cd,or_false] at h;rcases h with rfl | rfl <;> omega
theorem XI:∀ {i j:List Int},(∀ f∈i,0<=f/\f < 65536)->(∀ f∈j,0<=f/\f < 65536)->kb i=kb j->i=j
 | [],[],_,_,_=>rfl
 | [],g :: j,_,_,h=>by simp [kb] at h
 | f :: i,[],_,_,h=>by simp [kb] at h
 | f :: i,g :: j,l,m,h=>by
   have e:∀ x (o:List Int),kb (x :: o)=x % 256 :: x / 256 % 256 :: kb o:=fun _ _=>rfl
   rw [e,e] at h;injection h with r p;injection p with p q;have a:=l f nF;have b:=m g nF;rw [XI (fun x k=>l x (by simp [k])) (fun x k=>m x (by simp [k])) q,show f=g by omega]
theorem uH3 {f:List Int} {j:Nat} {a:Int} (h:f[j]?=some a):kb (f.take (j+1))=kb (f.take j)++[a % 256,a / 256 % 256]:=by
 rw [Bm,h];simp [kb]
abbrev XK (t:Ty):Value:=.agg #[.int .i64 t.kind,.int .i64 t.region,.int .i64 t.elem,.bool t.mut_,.string (strOfNums (kb t.fields))]
def qM (t:Ty):Lit:=.string (keyBytes [.int .i64 t.kind,.int .i64 t.region,.int .i64 t.elem,.bool t.mut_,.string (strOfNums (kb t.fields)).data.toList])
theorem AH {w:World} {base:Nat} {e:TypeId} {a n:Nat} {v:Value} {xs:List Value} (h:w.ownsRow base e a v n xs):∃ A c,v=.slice A n c/\n<=c/\c<=maxLen:=by
 rcases h.2 with ⟨rfl,f⟩ | ⟨g,i,j,rfl,_,_,k,l,_⟩
 ·exact ⟨none,0,by rw [f],bB,Am _⟩
 ·exact ⟨_,_,rfl,k,l⟩
theorem TD (x:TyW) (w:World) (D:wF w w.heap.size x) (hf:∀ f∈x.t.fields,0<=f/\f < 65536) (hn:x.n<=65535) :
 Calls prog 196 #[xU x] w fun e w'=>e=.returned (XK x.t)/\Ab w w':=by
 obtain ⟨i0,hi,E,F,G⟩:=info_parts uGa;have H:=D.ok;obtain ⟨⟨k,m,r,C,u⟩,A,n,c⟩:=x;have HB:=uA (BA w (.cells #[.int .i64 k,.bool m,.int .i64 r,.int .i64 C,.slice A n c] 123) (.cells #[.int .i64 0,.int .i64 0,.int .i64 0,.bool false,.string .empty] 293));have HX:=uA (D.rd.below HB.o);have hl:u.length=n:=H.len;have HL:=uA hl;have HF:=uA hf;simp only [] at hn;clear D H hl hf;go_enter func196,ntmps196
 go_wp2_with (at_make;refine wpList_make_own _ rfl _ _ _ rfl (w.heap.size+2) 5 i0 _ 1 underlying322 hi E F .i64 .i64 _ (2*n) rfl rfl nF (by rw [G];omega) (by unfold maxLen;omega) nF ?_;intro w1 q I;have J:=uA ((Below.refl (w.heap.size+2) ((w.alloc (.cells #[.int .i64 k,.bool m,.int .i64 r,.int .i64 C,.slice A n c] 123)).alloc (.cells #[.int .i64 0,.int .i64 0,.int .i64 0,.bool false,.string .empty] 293))).grown I nF (fun _ h=>by cases h));have V:Hdd (w1.ownsRow (w.heap.size+2) 5 1 (.slice (some ⟨w.heap.size+1+1,0,none⟩) 0 (2*n)) 0 []):=(by have h:=q;simp only [Ak] at h;exact h);have d4:w1.cell? ⟨w.heap.size,4,none⟩=some (.slice A n c):=(J.o.cell (p:=⟨w.heap.size,4,none⟩) nF).trans (by simp [go_sem]);clear q I)
 go_loopw [3,14] (fun v i wr=>∃ j:Nat,i=.int .i64 (j:Int)/\j<=n/\wr.ownsRow (w.heap.size+2) 5 1 v (2*j) (u8s (kb (u.take j)))/\Below (w.heap.size+2) ((w.alloc (.cells #[.int .i64 k,.bool m,.int .i64 r,.int .i64 C,.slice A n c] 123)).alloc (.cells #[.int .i64 0,.int .i64 0,.int .i64 0,.bool false,.string .empty] 293)) wr) (fun _ i _=>n - (intOf i).toNat)
 case atStart=>exact ⟨0,rfl,Am _,V.o,J.o⟩
 case round=>
  obtain ⟨j,rfl,hj,N,y⟩:=hrel;have R:=uA N;have l:=uA y;have W:=y.size;simp only [Ak] at W;have a5:w.heap.size < wr.heap.size:=by omega
  have a6:w.heap.size+1 < wr.heap.size:=by omega
  have e0:wr.cell? ⟨w.heap.size,0,none⟩=some (.int .i64 k):=(y.cell (p:=⟨w.heap.size,0,none⟩) nF).trans (by simp [go_sem]);have e1:wr.cell? ⟨w.heap.size,1,none⟩=some (.bool m):=(y.cell (p:=⟨w.heap.size,1,none⟩) nF).trans (by simp [go_sem]);have e2:wr.cell? ⟨w.heap.size,2,none⟩=some (.int .i64 r):=(y.cell (p:=⟨w.heap.size,2,none⟩) nF).trans (by simp [go_sem]);have e3:wr.cell? ⟨w.heap.size,3,none⟩=some (.int .i64 C):=(y.cell (p:=⟨w.heap.size,3,none⟩) nF).trans (by simp [go_sem]);clear y;by_cases a8:j < n
  ·have z:∃ a,u[j]?=some a:=⟨_,Ad (by have:=HL.o;omega)⟩;obtain ⟨a,T⟩:=z;obtain ⟨g,o,rfl,hg,c0⟩:=(HX.o.keep (w':=wr) fun p hp=>l.o.cell bB).int T;have a7:(j:Int) < (n:Int):=bB;have X:=HF.o a (Aj T);obtain ⟨a9,aa⟩:=X;have Y:=uH3 T;rw [show a / 256 % 256=a / 256 by omega] at Y;have HU:=uA Y;clear T Y;go_wp2_with (at_builtin;refine iV _ rfl (.tmp 18) (.tmp 24) 322 rfl (w.heap.size+2) 5 i0 (.int .u8 0) 1 underlying322 hi E F G rfl _ (2*j) (u8s (kb (u.take j))) rfl (R.o.alloc _) (wr.heap.size+1) _ 2 2 (u8s [a % 256,a / 256]) rfl (uHg wr [a % 256,a / 256] 5) (ints_oneCell _ _) (by unfold maxLen;omega) bB (by simp;omega) ?_;intro v3 w3 s O Q;have Z:=uA (mM (l.o.alloc bB _) (R.o.alloc _) (by simp;omega) O);have a0:=uA s;clear O Q s)
   go_roundw
   case rel=>
    refine ⟨j+1,by go_num,bB,?_,Z.o⟩;have h:=a0.o;rw [<-By,<- HU.o] at h;exact h
   case measure=>simp [intOf];omega
  ·obtain rfl:j=n:=by omega
   obtain ⟨A2,c2,rfl,a1,a2⟩:=AH R.o;have z:∃ U,U=kb u:=⟨_,rfl⟩;obtain ⟨U,B⟩:=z;have hr:=Rd.of_own R.o;rw [Au (by have:=HL.o;omega),<- B] at hr;have ab:=hr.convert (c:=c2) 322 5 9 underlying322 underlying5 underlying9;have a3:=uA B;have q0:wr.cell? ⟨w.heap.size+1,0,none⟩=some (.int .i64 0):=(l.o.cell (p:=⟨w.heap.size+1,0,none⟩) nF).trans (by simp [go_sem]);have q1:wr.cell? ⟨w.heap.size+1,1,none⟩=some (.int .i64 0):=(l.o.cell (p:=⟨w.heap.size+1,1,none⟩) nF).trans (by simp [go_sem]);have q2:wr.cell? ⟨w.heap.size+1,2,none⟩=some (.int .i64 0):=(l.o.cell (p:=⟨w.heap.size+1,2,none⟩) nF).trans (by simp [go_sem]);have q3:wr.cell? ⟨w.heap.size+1,3,none⟩=some (.bool false):=(l.o.cell (p:=⟨w.heap.size+1,3,none⟩) nF).trans (by simp [go_sem]);have q4:wr.cell? ⟨w.heap.size+1,4,none⟩=some (.string .empty):=(l.o.cell (p:=⟨w.heap.size+1,4,none⟩) nF).trans (by simp [go_sem]);have fz:∀ j,wr.frozen? ⟨w.heap.size+1,j,none⟩=false:=fun j=>(l.o.frozen (p:=⟨w.heap.size+1,j,none⟩) nF).trans (by simp [go_sem])
   clear B hr a1 a2;go_wp2;have a4:=(((((HB.o.trans (l.o.mono (C7 _ _))).setCell (p:=⟨w.heap.size+1,0,none⟩) (Cc _) (.int .i64 k)).setCell (p:=⟨w.heap.size+1,1,none⟩) (Cc _) (.int .i64 r)).setCell (p:=⟨w.heap.size+1,2,none⟩) (Cc _) (.int .i64 C)).setCell (p:=⟨w.heap.size+1,3,none⟩) (Cc _) (.bool m)).setCell (p:=⟨w.heap.size+1,4,none⟩) (Cc _) (.string (strOfNums U));have D:U=kb u:=a3.o;subst D;exact bodyPost_ret (v:=XK ⟨k,m,r,C,u⟩) (by simp [results,Tryz.results196,go_sem,q0,q1,q2,q3,q4]) rfl ⟨rfl,a4⟩
theorem LB:prog.keyType 293=true:=by kernel_rfl
theorem iH:Go.Maps.Keyed prog 293:=Fo (deep_law_gate fL (of_decide_eq_true fL) (of_decide_eq_true fL) LB (by rw [underlying293]))
theorem sC (xs:List Int):(strOfNums xs).size=xs.length:=by simp [strOfNums,ByteArray.size]
section
variable {P:Program} {d:Nat} {t:TypeId}
theorem oT {q:IntKind} (a:P.underlying t=some (.int q)) {n:Int} (f:(Lit.int q n).wf=true):P.keyLits (d+1) t [.int q n]=some [.int q n]:=by
 simp [Program.keyLits,a,f]
theorem gS (a:P.underlying t=some .bool) (b:Bool):P.keyLits (d+1) t [.bool b]=some [.bool b]:=by
 simp [Program.keyLits,a]
theorem GG (a:P.underlying t=some .string) {s:ByteArray} (f:s.size<=maxLen):P.keyLits (d+1) t [.string s]=some [.string s.data.toList]:=by
 simp [Program.keyLits,a,f]
theorem fU {k:TypeId} {g:Array Field} {cs:List Value} {f:List Lit} (h:P.underlying k=some (.struct g)) (i:P.keyType k=true) (a:cs.length=P.cellsOf k) (j:P.keyLits (P.types.size+1) k cs=some f):keyOf P k (.agg cs.toArray)=some (.string (keyBytes f)):=by
 simp [keyOf,h,i,Value.formed,a,Value.cells,j]
theorem bW {a:Array Field} {cs:List Value} (h:P.underlying t=some (.struct a)) (g:cs.length=P.cellsOf t) (i:a.all (·.name != "_")=true):P.keyLits (d+1) t cs=(a.toList.mapM fun f=>P.keyLits d f.type ((cs.drop f.offset).take (P.cellsOf f.type))).map List.flatten:=by
 conv=>lhs;unfold Program.keyLits
 simp only [h];rw [if_pos ⟨g,i⟩]
end
theorem jD {t:Ty} (f:uH t.kind) (g:uH t.region) (i:uH t.elem) (q:t.fields.length<=65535):keyOf prog 293 (XK t)=some (qM t):=by
 have j:(strOfNums (kb t.fields)).size<=maxLen:=by rw [sC,uFz];unfold maxLen;omega
 have k:prog.cellsOf 3=1:=by kernel_rfl
 have l:prog.cellsOf 4=1:=by kernel_rfl
 have m:prog.cellsOf 9=1:=by kernel_rfl
 have a:prog.cellsOf 293=5:=by kernel_rfl
 have o:∃ d,prog.types.size=d+1:=⟨prog.types.size - 1,by have h:0 < prog.types.size:=of_decide_eq_true fL;omega⟩;obtain ⟨d,p⟩:=o;refine fU underlying293 LB (by rw [a];rfl) ?_;rw [bW underlying293 (by rw [a];rfl) fL,p];simp only [G0,G4,k,l,m];simp [oT underlying3 (aW f),oT underlying3 (aW g),oT underlying3 (aW i),gS underlying4,GG underlying9 j]
theorem ZQ {t u:Ty} (p:uH t.kind) (q:uH t.region) (r:uH t.elem) (s:t.fields.length<=65535) (g:uH u.kind) (i:uH u.region) (j:uH u.elem) (k:u.fields.length<=65535)
 (v:∀ f∈t.fields,0<=f/\f < 65536) (x:∀ f∈u.fields,0<=f/\f < 65536) (h:qM t=qM u):t=u:=by
 have m:=jD p q r s;rw [h] at m;have l:=iH.inj m (jD g i j k);injection l with l;have o:=congrArg Array.toList l;simp only [E7,and_true,Gt,Value.bool.injEq,Value.string.injEq,true_and] at o;obtain ⟨a,b,c,d,e⟩:=o;exact Ty.ext' a d b c (XI v x (AI (uBd _) (uBd _) e))
theorem IA {t:Ty}:Go.WideAt.IsKeyLit (qM t):=trivial
section
variable {A:Option Addr} {n c:Nat} {L:List TyW} {w:World} {Sx:Nat->Prop} {KP:FuncId} {cp:Array Value} {men:Int->Int->Prop} {val:Int->Bool} {M:World->(Int->Prop)->Prop} {D0:Int->Prop}
theorem WO {B:Nat} (p:yH w B A n L) (C:B<=w.heap.size) (j:n<=c) (l:c<=maxLen) (r:n<=65535) (g:∀ k,Sx k->B<=k/\k < w.heap.size):(sH w A n c L Sx KP cp).fix:=by
 have a:∀ d:Nat,d≠2->¬(w.heap.size+d=w.heap.size+2\/Sx (w.heap.size+d)):=fun d D h=>by
  rcases h with h | h
  ·omega
  ·have:=g _ h;omega
 have i:∀ b,b < B->¬(b=w.heap.size+2\/Sx b):=fun b q h=>by
  rcases h with h | h
  ·omega
  ·have:=g _ h;omega
 refine ⟨a 0 bB,a 1 bB,a 3 bB,a 4 bB,.inl rfl,fun m b o e=>?_,fun x s m b o e=>?_,j,l,r⟩
 ·obtain ⟨u,v,f,q,_⟩:=p.cells.2 m;have y:A=some ⟨b,o,none⟩:=e;rw [y] at f;injection f with f;injection f with z _;exact i b bB
 ·obtain ⟨u,v,f,q,_⟩:=(p.one x s).rd.2 m;rw [e] at f;injection f with f;injection f with z _;exact i b bB
theorem KQ (i:Int) (R:Ending->World->Prop) (g:∀ e w',R e w'->∃ v,e=.returned v)
 (h:Calls prog 220 #[.int .i64 i,.int .i64 32,.pointer (some ⟨w.heap.size+3,0,none⟩),.pointer (some ⟨w.heap.size,0,none⟩),.pointer (some ⟨w.heap.size+1,0,none⟩),.pointer (some ⟨w.heap.size+4,0,none⟩)] (cP w A n c KP cp) R) :
 Calls prog 165 #[.slice A n c,.int .i64 i,.func (.func KP) #[] cp] w R:=by
 have j:=uA h;have k:=uA g;unfold cP at j;clear h g;have l:=@run_makeMap prog;go_enter func165,ntmps165
 go_wp2_with fail
 refine j.o.mono ?_;intro e m a;obtain ⟨v,rfl⟩:=k.o _ _ a;have f:=uA a;clear a;go_wp2_with fail
 exact f.o
theorem kE {B:Nat} (o:yH w B A n L) (v:B<=w.heap.size) (s:n<=c) (u:c<=maxLen) (H:n<=65535) {r:Int} (f:TyOk (tys L) r) (g:∀ k,Sx k->B<=k/\k < w.heap.size) (y:∀ C,w.heap.size<=C->∀ E F D,M E D->Turn (fun k=>k=C) E F->M F D) (I:M w D0)
 (J:(sH w A n c L Sx KP cp).fix->QB (sH w A n c L Sx KP cp) (fun p=>.bool (val p)) men (JB (sH w A n c L Sx KP cp) men val M)) (j:True) (i:Nat) (x:TyW) (z:L[i]?=some x) :
 Calls prog 165 #[.slice A n c,.int .i64 (i:Int),.func (.func KP) #[] cp] w fun e w'=>e=.returned (.bool (val (i:Int)))/\M w' (fun q=>D0 q\/men (i:Int) q)/\Turn Sx w w':=by
 have G:=WO (KP:=KP) (cp:=cp) o v s u H g;have N:=uEo (c:=c) (KP:=KP) (cp:=cp) (men:=men) (val:=val) (o.more v) (fun k m=>(g k m).2) y I;have O:=(f.dep_pos (nK z)).2.1;refine KQ (i:Int) _ (fun e w' h=>⟨_,h.1⟩) ((uH7 G f (y (w.heap.size+2) bB) (J G) j o.len 32 (Ae _) i x _ D0 z O N).mono ?_);rintro e w' ⟨Q,R,l⟩;refine ⟨Q,R.m,?_⟩;have a:=jW (w:=w) (A:=A) (n:=n) (c:=c) (KP:=KP) (cp:=cp);refine ⟨l.os.trans a.os,l.tape.trans a.tape,l.output.trans a.output,Ai a.size l.size,fun k m T=>(l.block k (Ap m a.size) ?_).trans (a.block k m)⟩;rintro (rfl | h)
 ·omega
 ·exact T h
end
theorem XY {l:List Ty} {r:Int} (h:TyOk l r) (p:Int):0<=mK l p/\mK l p<=65535:=by
 rcases Bs p.toNat l.length with hl | hl
 ·have a:∃ t,l[p.toNat]?=some t:=⟨_,Ad hl⟩;obtain ⟨t,f⟩:=a;have:=h.dep_pos f;have e:mK l ((p.toNat:Nat):Int)=mK l p:=by unfold mK;rw [A3]
  rw [e] at this;omega
 ·have e:mK l p=0:=by
   unfold mK;rw [Bn,Bh (by unfold wT;rw [zN];exact hl)];rfl
  omega
theorem uDz (D:Int->Prop) (ps:List Int):(fun r=>D r\/∃ p∈ps,False)=fun r=>D r\/False:=by
 funext r;simp
theorem uCc {C:Ctx} {r:Int} (f:TyOk (tys C.L) r) (o:C.KP=296) (u:C.cp=#[]) (q:C.fix) :
 QB C (fun p=>.bool (mF (tys C.L) p)) (fun _ _=>False) (JB C (fun _ _=>False) (mF (tys C.L)) fun _ _=>True):=by
 have g:∀ (a:Array Value) (w:World),(callFunc C.KP a).run prog w=.ok (.enter C.KP a) w:=fun a w=>by
  rw [o];exact dJ func296 fL rfl a w
 refine ⟨g,fun i x l w D K j v y z V=>?_⟩;rw [o,u,Array.append_empty];have h:=VF x K j w v C.S (JB C (fun _ _=>False) (mF (tys C.L)) fun _ _=>True) (fun _ _=>False) D (fun w w' D k B=>k.below q (fun _ _ _ _ _=>trivial) B) z (q.fx x (Aj l)) y (mF (tys C.L))
  (fun w D F k E=>⟨k.fr,k.kn.grow E,trivial⟩) (fun m=>f.fields (nK l) m) (fun _=>V) V.enter
 refine h.mono ?_;rintro e w' ⟨rfl,s,m⟩;rw [uDz] at s;refine ⟨?_,s,m⟩;rw [f.cop_at (nK l)];rfl
theorem GS (A:Option Addr) (n c:Nat) (i:Int) (v:Bool) (w:World) (R:World->Prop)
 (a:Calls prog 165 #[.slice A n c,.int .i64 i,.func (.func 296) #[] #[]] w fun e w'=>e=.returned (.bool v)/\R w') :
 Calls prog 291 #[.slice A n c,.int .i64 i] w fun e w'=>e=.returned (.bool v)/\R w':=by
 have g:=uA a;clear a;go_enter func291,ntmps291
 go_wp2_with fail
 refine g.o.mono ?_;rintro e j ⟨rfl,f⟩;have h:=uA f;clear f;go_wp2_with fail
 go_ret;exact ⟨rfl,h.o⟩
theorem LT {A:Option Addr} {n c:Nat} {L:List TyW} {w:World} {B:Nat} (l:yH w B A n L) (m:B<=w.heap.size) (f:n<=c) (g:c<=maxLen) (o:n<=65535) {r:Int} (a:TyOk (tys L) r) (i:Nat) (v:i < n) :
 Calls prog 291 #[.slice A n c,.int .i64 (i:Int)] w fun e w'=>e=.returned (.bool (mF (tys L) (i:Int)))/\Ab w w':=by
 have j:∃ x,L[i]?=some x:=⟨_,Ad (by have:=l.len;omega)⟩;obtain ⟨x,p⟩:=j;refine GS A n c _ _ w _ ((kE (Sx:=fun _=>False) (D0:=fun _=>False) (men:=fun _ _=>False) (M:=fun _ _=>True) l m f g o a (fun k h=>h.elim) (fun _ _ _ _ _ _ _=>trivial) trivial (fun q=>uCc (C:=sH w A n c L (fun _=>False) 296 #[]) a rfl rfl q) trivial i x p).mono ?_);rintro e w' ⟨s,_,u⟩;exact ⟨s,u.below (Ae _) fun k h=>h.elim⟩
structure TyB (t:Ty):Prop where
 k:uH t.kind
 r:uH t.region
 e:uH t.elem
 n:t.fields.length<=65535
 f:∀ f∈t.fields,0<=f/\f < 65536
theorem TyB.inj {t u:Ty} (h:TyB t) (a:TyB u) (e:qM t=qM u):t=u:=ZQ h.k h.r h.e h.n a.k a.r a.e a.n h.f a.f e
theorem TyB.key {t:Ty} (h:TyB t):keyOf prog 293 (XK t)=some (qM t):=jD h.k h.r h.e h.n
structure fN (b n:Nat) (pre:List Ty) (w:World):Prop where
 dep:∀ j v,(wT pre)[j]?=some v->w.cell? ⟨b,j,none⟩=some (.int .i64 v)
 rest:∀ j,pre.length<=j->j < n->∃ v,w.cell? ⟨b,j,none⟩=some (.int .i64 v)
 fz:∀ j,w.frozen? ⟨b,j,none⟩=false
theorem fN.block {b n:Nat} {pre:List Ty} {w w':World} (h:fN b n pre w) (f:w'.heap[b]?=w.heap[b]?):fN b n pre w':=
 ⟨fun j v g=>(Ce (w:=w) f).trans (h.dep j v g),fun j i k=>by obtain ⟨v,g⟩:=h.rest j i k;exact ⟨v,(Ce (w:=w) f).trans g⟩,fun j=>(World.frozen?_of_block (w:=w) (a:=⟨b,j,none⟩) f).trans (h.fz j)⟩
theorem fN.set {b n:Nat} {pre:List Ty} {w:World} (h:fN b n pre w) {t:Ty} (i:pre.length < n):fN b n (pre++[t]) (w.setCell ⟨b,pre.length,none⟩ (.int .i64 (pO (wT pre) t))):=by
 have f:(wT pre).length=pre.length:=by unfold wT;exact zN _ _
 have k:wT (pre++[t])=wT pre++[pO (wT pre) t]:=rE _ _ _;obtain ⟨u,l⟩:=h.rest pre.length (Ae _) i;refine ⟨fun j v a=>?_,fun j m o=>?_,fun j=>(Ev w _ _ _).trans (h.fz j)⟩
 ·rw [k] at a;rcases Bs j pre.length with hj | hj
  ·rw [Cr bB] at a;exact (B3 w ⟨b,pre.length,none⟩ ⟨b,j,none⟩ _ (by simp <;> omega)).trans (h.dep j v a)
  ·rw [B4 bB] at a;have g:j=pre.length:=by
    rcases Ca (j - (wT pre).length) with h0 | h0
    ·omega
    ·rw [Bh (by simp;omega)] at a;cases a
   subst g;rw [f,D3] at a;obtain rfl:_=v:=by simpa using a
   exact Dk _ _ _ l
 ·simp only [Aw,Cv] at m;obtain ⟨v,a⟩:=h.rest j bB o;exact ⟨v,(B3 w ⟨b,pre.length,none⟩ ⟨b,j,none⟩ _ (by simp <;> omega)).trans a⟩
theorem fN.again {b n:Nat} {pre:List Ty} {w:World} (h:fN b n pre w) {k:Nat} (m:pre.length=k) (v:Int):fN b n pre (w.setCell ⟨b,k,none⟩ (.int .i64 v)):=by
 have a:(wT pre).length=pre.length:=by unfold wT;exact zN _ _
 refine ⟨fun j u f=>?_,fun j i l=>?_,fun j=>(Ev w _ _ _).trans (h.fz j)⟩
 ·have o:j < pre.length:=by rw [<-a];exact (Ah.1 f).1
  exact (B3 w ⟨b,k,none⟩ ⟨b,j,none⟩ _ (by simp <;> omega)).trans (h.dep j u f)
 ·obtain ⟨u,f⟩:=h.rest j i l;by_cases g:j=k
  ·subst g;exact ⟨v,Dk _ _ _ f⟩
  ·exact ⟨u,(B3 w ⟨b,k,none⟩ ⟨b,j,none⟩ _ (by simp <;> omega)).trans f⟩
def DP (b:Nat) (pre:List Ty) (w:World):Prop:=∃ m a,w.ownsMap (H:=Unit) prog 293 (plainElem prog 4) b m a/\m<=pre.length /\
 (∀ t,TyB t->(Maps.has a (qM t)=true↔t∈pre))/\∀ t,Maps.has a (qM t)=true->∀ z,a.atKey (qM t) z=.lit (.bool true)
theorem DP.block {b:Nat} {pre:List Ty} {w w':World} (h:DP b pre w) (a:w'.heap[b]?=w.heap[b]?):DP b pre w':=by
 obtain ⟨m,f,g,i⟩:=h;exact ⟨m,f,uN g a,i⟩
theorem ZM:prog.underlying 289=some (.map 293 4):=underlying289
theorem DP.look {b:Nat} {pre:List Ty} {w:World} (h:DP b pre w) {t:Ty} (i:TyB t):(Instr.lookup 289 (.map (some b)) (XK t) false).run prog w=.ok (.bool (decide (t∈pre))) w:=by
 obtain ⟨m,k,l,_,j,o⟩:=h;obtain ⟨v,q,f,g⟩:=l.lookup iH ZM (gE w) (zd:=.lit (.bool false)) (zp:=[]) (plainElem_bool underlying4 false) i.key;rw [f];cases hh:Maps.has k (qM t)
 ·rw [Cm hh] at g;obtain ⟨c,rfl,a⟩:=uQ underlying4 g;injection a with a _;injection a with a;injection a with a;have p:¬t∈pre:=fun h=>by rw [(j t i).2 h] at hh;cases hh
  rw [decide_eq_false p,a]
 ·rw [o t hh] at g;obtain ⟨c,rfl,a⟩:=uQ underlying4 g;injection a with a _;injection a with a;injection a with a;rw [decide_eq_true ((j t i).1 hh),a]
theorem DP.put {b:Nat} {pre:List Ty} {w w':World} {m:Nat} {f:DataW Unit} {t:Ty} (k:∀ u∈pre,TyB u) (l:w.ownsMap (H:=Unit) prog 293 (plainElem prog 4) b m f) (s:m<=pre.length)
 (o:∀ t,TyB t->(Maps.has f (qM t)=true↔t∈pre)) (p:∀ t,Maps.has f (qM t)=true->∀ z,f.atKey (qM t) z=.lit (.bool true)) (q:TyB t)
 (r:w'.ownsMap (H:=Unit) prog 293 (plainElem prog 4) b (m+1) (f.put (qM t) (.lit (.bool true)))):DP b (pre++[t]) w':=by
 have h:Maps.IsMap f:=⟨_,(l.entries iH).choose_spec.1⟩;refine ⟨m+1,_,r,by simp;omega,fun u i=>?_,fun u j z=>?_⟩
 ·by_cases a:u=t
  ·subst a;rw [Da h IA];simp
  ·have g:qM u≠qM t:=fun e=>a (i.inj q e)
   rw [B7 g,o u i];simp [a]
 ·by_cases a:qM u=qM t
  ·rw [a];exact Cn h IA _ z
  ·rw [B7 a] at j;exact (Ci a _ z).trans (p u j z)
def sB (s:ByteArray):List Int:=s.data.toList.map fun b=>(b.toNat:Int)
theorem TC (s:ByteArray):(sB s).length=s.size:=by
 rw [sB,Ao,Fv];rfl
section
variable {ys:List Int} {e:Int}
end
structure uI9 where
 k:Int
 u:Int
 n:Int
 s:ByteArray
def wt (a:uI9):Nat:=1+min a.s.size 5000
def key (s:ByteArray):List UInt8:=s.data.toList
theorem uDs {a b:ByteArray} (h:key a=key b):a=b:=by
 apply ByteArray.ext;exact F7 h
def ltS (a b:ByteArray):Bool:=Op.bytesLess (key a) (key b)
def uH5:List ByteArray->ByteArray->List ByteArray
 | [],s=>[s]
 | x :: L,s=>if ltS s x then s :: x :: L else if s=x then x :: L else x :: uH5 L s
def tab (a:List ByteArray):List ByteArray:=a.foldl uH5 []
def tU (c:Int):Bool:=decide (c=95\/(65<=c/\c<=90)\/(97<=c/\c<=122))
def LO (c:Int):Bool:=decide (48<=c/\c<=57)
theorem VV {c:Int} (h:c=95\/(65<=c/\c<=90)\/(97<=c/\c<=122)):tU c=true:=decide_eq_true h
theorem uCb {c:Int} (h:¬(c=95\/(65<=c/\c<=90)\/(97<=c/\c<=122))):tU c=false:=decide_eq_false h
theorem YH {c:Int} (h:48<=c/\c<=57):LO c=true:=decide_eq_true h
theorem uCu {c:Int} (h:¬(48<=c/\c<=57)):LO c=false:=decide_eq_false h
def fD (xs:List Int) (k:Nat):Prop:=∀ j,j < k->∀ c,xs[j]?=some c->tU c=true\/(j≠0/\LO c=true)
noncomputable instance (xs:List Int) (k:Nat):Decidable (fD xs k):=Classical.propDecidable _
noncomputable def vE (s:ByteArray):Bool:=decide (1<=s.size/\s.size<=255/\fD (sB s) s.size)
theorem LZ (xs:List Int):fD xs 0:=fun _ h=>absurd h bB
theorem jZ {xs:List Int} {k:Nat} {c:Int} (h:fD xs k) (f:xs[k]?=some c) (g:tU c=true\/(k≠0/\LO c=true)):fD xs (k+1):=fun j l i a=>by
 rcases Bs j k with h' | h'
 ·exact h j h' i a
 ·obtain rfl:j=k:=by omega
  rw [f] at a;injection a with e;subst e;exact g
theorem sR {s:ByteArray} (a:1<=s.size) (f:s.size<=255) (h:fD (sB s) s.size):vE s=true:=by unfold vE;exact decide_eq_true ⟨a,f,h⟩
theorem kO {s:ByteArray} (h:s.size < 1\/255 < s.size):vE s=false:=by unfold vE;exact decide_eq_false fun k=>by have:=k.1;have:=k.2.1;omega
theorem CO {s:ByteArray} {k:Nat} {c:Int} (a:(sB s)[k]?=some c) (g:tU c=false) (i:k=0\/LO c=false):vE s=false:=by
 unfold vE;refine decide_eq_false fun h=>?_
 have j:k < s.size:=by
  rw [<-TC];exact (Ah.1 a).1
 rcases h.2.2 k j c a with e | ⟨e,f⟩
 ·rw [g] at e;cases e
 ·rcases i with h0 | h0
  ·exact e h0
  ·rw [h0] at f;cases f
theorem cR {α:Type} {w:World} {g k B:Nat} {T:TypeId} {f:α->List Value} (a:∀ x,(f x).length=k) {L:List α} (h:Bx w g (L.flatMap f) T) (m:g < B):uM w B k f (some ⟨g,0,none⟩) L.length L:=by
 refine ⟨rfl,fun _=>⟨g,0,rfl,m,fun i x o j u l=>?_⟩⟩;have p:j < k:=by have:=(Ah.1 l).1;rwa [a] at this
 rw [cell_of_row w g (0+i*k+j) (L.flatMap f).toArray T (0,0) h,Ea];rw [C9,zG a o p,l]
theorem kH {α:Type} (w:World) (B k:Nat) (f:α->List Value) (Q:α->Prop):SlH w B k f Q ⟨none,0,0,[]⟩:=⟨Ae _,Am _,⟨rfl,fun h=>absurd h (Cg 0)⟩,fun x a=>by cases a⟩
theorem mE {x:Int} (h:-100<=x/\x<=100):uH x:=⟨bB,bB⟩
theorem nJ:uH 0:=mE eW
theorem uI3:uH 2:=mE eW
theorem uB6 (w:World) (B:Nat) {l:Int} (h:-100<=l/\l<=100):uL w B ⟨l,none,0,0,[]⟩:=⟨Ae _,Am _,mE h,⟨⟨rfl,fun h=>absurd h (Cg 0)⟩,fun x a=>by cases a⟩⟩
def lay (w:World) (L:List Obj):World:=L.foldl World.alloc w
theorem IP:∀ (L:List Obj) (w:World),(lay w L).heap.size=w.heap.size+L.length
 | [],w=>rfl
 | o :: L,w=>by
   show (lay (w.alloc o) L).heap.size=_;rw [IP L];simp;omega
theorem jH:∀ (L:List Obj) (w:World) (B:Nat),B<=w.heap.size->Below B w (lay w L)
 | [],w,B,h=>Below.refl _ _
 | o :: L,w,B,h=>((Below.refl B w).alloc h o).trans (jH L (w.alloc o) B (by simp;omega))
theorem WU:∀ (L:List Obj) (w:World) (i:Nat) (a:List Value) (T:TypeId),L[i]?=some (.cells a.toArray T)->Bx (lay w L) (w.heap.size+i) a T
 | o :: L,w,0,a,T,h=>by
   injection h with h;subst h;exact (Bx.new w a T).below (jH L _ _ (Ae _))
 | o :: L,w,i+1,a,T,h=>by
   have e:=WU L (w.alloc o) i a T h;rw [show (w.alloc o).heap.size+i=w.heap.size+(i+1) by simp;omega] at e;exact e
theorem uDc {s:ByteArray} {c:Int} (h:sB s=[c]) (g:s.size=1) (f:tU c=true):vE s=true:=
 sR bB bB fun j i d a=>by
  rw [h] at a;have:j=0:=by omega
  subst this;injection a with a;exact .inl (a ▸ f)
theorem uH4:vE ⟨#[102]⟩=true:=uDc (c:=102) rfl rfl rfl
theorem uH8:vE ⟨#[120]⟩=true:=uDc (c:=120) rfl rfl rfl
section
open Go.Shelf
attribute [local go_sem] Oper.semAt_some
def IZ (v:Value):Option (DataW Value×List MemPlace):=some (.held v,[])
def wV (kt:TypeId) (w:World) (b:Nat) (S:Lit->Value) (K:List Lit):Prop:=∃ a,w.ownsMap prog kt IZ b K.length a/\(∀ q,Go.WideAt.IsKeyLit q->(Maps.has a q=true↔q∈K))/\∀ q,Maps.has a q=true->∀ z,a.atKey q z=.held (S q)
section
variable {kt:TypeId} {w w':World} {b:Nat} {S:Lit->Value} {K:List Lit}
theorem wV.lt (h:wV kt w b S K):b < w.heap.size:=by
 obtain ⟨_,a,_⟩:=h;exact a.lt
theorem wV.blk (h:wV kt w b S K) (a:w'.heap[b]?=w.heap[b]?):wV kt w' b S K:=by
 obtain ⟨f,g,i⟩:=h;exact ⟨f,uN g a,i⟩
theorem wV.below (h:wV kt w b S K) (a:Ab w w'):wV kt w' b S K:=h.blk (a.block b h.lt)
theorem wV.new (kt:TypeId) (w:World) (S:Lit->Value):wV kt (w.alloc (.map #[] 0)) w.heap.size S []:=
 ⟨_,Cu _ _ _ _,(fun q _=>⟨fun h=>by simp [Maps.has] at h,fun h=>by cases h⟩),fun q h=>by simp [Maps.has] at h⟩
theorem wV.look (h:wV kt w b S K) {T E:TypeId} (l:Go.Maps.Keyed prog kt) (m:prog.underlying T=some (.map kt E)) {z:Value} (o:(zeroValue E).run prog w=.ok z w) {k:Value} {q:Lit} (g:keyOf prog kt k=some q) (i:Go.WideAt.IsKeyLit q) {v:Value} (p:q∈K->S q=v) (r:q∉K->z=v) :
 (Instr.lookup T (.map (some b)) k false).run prog w=.ok v w:=by
 obtain ⟨s,x,j,y⟩:=h;obtain ⟨u,B,f,a⟩:=x.lookup l m o (zd:=.held z) (zp:=[]) rfl g;rw [f];unfold IZ at a;injection a with a;injection a with a _;cases hh:Maps.has s q
 ·rw [Cm hh] at a;injection a with a;rw [a,r fun g=>by rw [(j q i).2 g] at hh;cases hh]
 ·rw [y q hh] at a;injection a with a;rw [a,p ((j q i).1 hh)]
theorem wV.put {q:Lit} {v:Value} {f:DataW Value} {S':Lit->Value} (j:∀ q,Go.WideAt.IsKeyLit q->(Maps.has f q=true↔q∈K)) (k:∀ q,Maps.has f q=true->∀ z,f.atKey q z=.held (S q)) (g:Maps.IsMap f) (h:Go.WideAt.IsKeyLit q) (l:w'.ownsMap prog kt IZ b (K.length+1) (f.put q (.held v)))
 (m:S' q=v) (o:∀ p,p≠q->S' p=S p):wV kt w' b S' (q :: K):=by
 refine ⟨_,l,fun p r=>?_,fun p i z=>?_⟩
 ·by_cases a:p=q
  ·subst a;rw [Da g h];simp
  ·rw [B7 a,j p r];simp [a]
 ·by_cases a:p=q
  ·subst a;rw [m];exact Cn g h _ z
  ·rw [B7 a] at i;rw [o p a];exact (Ci a _ z).trans (k p i z)
end
theorem uF8 (w:World):(zeroValue 102).run prog w=.ok (.pointer none) w:=by kernel_rfl
theorem uFe:prog.underlying 108=some (.map 3 102):=underlying108
def fcS (F:Nat) (q:Lit):Value:=match q with
 | .int _ k=>.pointer (some ⟨F,k.toNat+1,none⟩)
 | _=>undef
def rO:Nat->List Lit
 | 0=>[]
 | n+1=>.int .i64 (n:Int) :: rO n
theorem IY (n:Nat):(rO n).length=n:=by
 induction n with
 | zero=>rfl
 | succ n a=>show (rO n).length+1=n+1;rw [a]
theorem ER (f B F:Nat) (w:World) (Z:wV 3 w f (fcS F) []) (hB:Bx w B [.pointer (some ⟨F,0,none⟩)] 101) :
 Calls prog 94 #[.map (some f),.func (.func 91) #[] #[.pointer (some ⟨B,0,none⟩)]] w fun e w'=>(∃ v,e=.returned v)/\wV 3 w' f (fcS F) (rO 4)/\Turn (fun q=>q=f) w w':=by
 refine (callsIn_wide (n:=12)).1 ?_;have ac:=Z.lt;have y:=uB w (.cells #[.map (some f)] 108);have E:wV 3 (w.alloc (.cells #[.map (some f)] 108)) f (fcS F) (rO 0):=Z.below y;have hO:=hB.below y;have hX:=Bx.new w [.map (some f)] 108;have a0:=uA E;have HX:=uA hX;have HO:=uA hO;have a1:=uA ((Turn.refl (fun q=>q=f) w).alloc (.cells #[.map (some f)] 108));have hZ:w.heap.size < (w.alloc (.cells #[.map (some f)] 108)).heap.size:=by simp
 have G:=uA hZ;clear y E hO hX Z hB hZ;refine callsIn_of_wp_marks func94 rfl trivial ?_ rfl;simp only [ntmps94,Bc,As,Br,Nat.reduceAdd,Nat.reduceSub,Ay,Az,Be,Ba,Bj,Bg];gi_wp2;generalize w.alloc (.cells #[.map (some f)] 108)=W3 at *;refine wB eW (gf:=91) (lb:=#[.pointer (some ⟨B,0,none⟩)]) rfl (enters_of func91 fL rfl)
  (zK (n₀:=0) (Ts:=[101]) (An.2 rfl) _ eW B F W3 HO.o) (Below.refl _ _) (fun _=>rfl)
  (fun g W=>(wV 3 W f (fcS F) (rO g.length)/\w.heap.size < W.heap.size/\Bx W w.heap.size [.map (some f)] 108)/\Turn (fun q=>q=f) w W)
  (fun _ _ _=>False)
  (fun s X Y a2 l H T=>⟨⟨l.1.1.blk (H.block _ l.1.1.lt (fun e=>by have:=(T _ e.symm).1;have:=G.o;omega)),Ap l.1.2.1 H.size,l.1.2.2.owns H (fun r e=>(T r e).2)⟩,l.2.grown H (fun k e=>.inr (by have:=(T k e).1;have:=G.o;omega))⟩)
  (fun _ _ _ _ _ l _ _=>l)
  ⟨⟨a0.o,G.o,HX.o⟩,a1.o⟩
  (fun x a' W=>a'={ tmps:=#[.map (some f),.func (.func 91) #[] #[.pointer (some ⟨B,0,none⟩)],.pointer (some ⟨w.heap.size,0,none⟩),undef,.int .i64 x.1,.pointer (some ⟨F,x.2,none⟩),.func (.func 91) #[] #[.pointer (some ⟨B,0,none⟩)],.int .i64 x.1,.pointer (some ⟨F,x.2,none⟩),undef,undef,undef],defers:=[] })
  (fun x a' _ X Y a2 l H T=>l)
  ?assign ?body ?done ?stop
 case assign=>
  rintro l' g ⟨x1,x2⟩ C K hI m U;have HK:=uA U;have HI:=uA hI;clear U hI m;dsimp only;gi_wp2;exact HK.o _ _ ((KeepsOthers.refl _).from _) (uT.refl _ _ _) HI.o rfl
 case body=>
  rintro l' g ⟨x1,x2⟩ a' C ⟨⟨o,V,I⟩,J⟩ rfl m;obtain ⟨hx,N⟩:=pX m;rw [Eh] at hx;obtain ⟨rfl,rfl⟩:=hx;have p:=uA (show (g++[((g.length:Int),g.length+1)]).length=g.length+1 by simp);obtain ⟨k,hk⟩:∃ k,g.length=k:=⟨_,rfl⟩;simp only [hk] at o N p ⊢;clear m hk;obtain ⟨Dm,m1,m2,m3⟩:=o;rw [IY] at m1;have z:=uA m1;have a3:=uA m2;have a4:=uA m3;have a5:Hdd (k < maxLen):=Gq N eW;have a6:=uA (wY (mE (show (-100:Int)<=(k:Int)/\(k:Int)<=100 by omega)));have z1:=I.q 0 rfl;have H3:=uA I;have H2:=uA V;have HT:=uA J;clear m1 m2 m3 V I J;gi_wp2_with (refine wpListIn_mapUpdate_own _ rfl _ _ _ 108 rfl 3 102 zS uFe IZ f k Dm rfl z.o a5.o _ _ (.int .i64 (k:Int)) rfl rfl a6.o (.held (.pointer (some ⟨F,k+1,none⟩))) [] rfl ?_;intro w7 h O;have a7:=uA h;have i:=uA O;clear h O)
  have a8:f < W3.heap.size:=by have:=G.o;omega
  have u:∃ Q a,C.heap[f]?=some (.map Q a):=by
   obtain ⟨Q,a,R,_⟩:=z.o;exact ⟨Q,a,R⟩
  have a9:uT 0 [101] C w7:=uT.recs i.o (fun r e=>by
   cases e;obtain ⟨Q,a,R⟩:=u;exact ⟨_,R,rfl⟩)
  refine ⟨KeepsFrom.of_grownBy i.o (fun j e=>by cases e;exact a8),a9,⟨?_,Ap H2.o i.o.size,H3.o.owns i.o (fun r e=>by
   cases e;obtain ⟨Q,a,R⟩:=u;exact ⟨_,R,rfl⟩)⟩,HT.o.grown i.o (fun r e=>.inl (by cases e;rfl))⟩
  rw [p.o];exact wV.put (q:=.int .i64 (k:Int)) (v:=.pointer (some ⟨F,k+1,none⟩)) a3.o a4.o z.o.isMap trivial (by rw [IY];exact a7.o) (by simp [fcS]) (fun _ _=>rfl)
 case done=>
  rintro D ys C hD aa ⟨⟨o,V,I⟩,J⟩ U;have o:wV 3 C f (fcS F) (rO 4):=by
   rw [aa] at o;exact o
  have H1:=uA o;have HT:=uA J;have ad:w.heap.size < D:=Ap G.o hD;clear o V I J;gi_wp2;refine ⟨nF,.inl ⟨_,_,rfl,run_takeDeferred U,?_⟩⟩;exact ⟨_,results_none rfl _ _ _,⟨_,rfl⟩,H1.o.blk (Cf bB),HT.o.grown (grownBy_putObj' _ D _) (fun k e=>.inr (by cases e;omega))⟩
 case stop=>
  rintro D cd g C hD ab hF;exact hF.elim
theorem AB (f F:Nat) (w:World) (h:Bx w f [.pointer (some ⟨F,0,none⟩)] 101) :
 Calls prog 53 #[.func (.func 91) #[] #[.pointer (some ⟨f,0,none⟩)]] w fun e w'=>e=.returned (.map (some w.heap.size))/\wV 3 w' w.heap.size (fcS F) (rO 4)/\Ab w w':=by
 have a:=uB w (.map #[] 0);have m:=uA (ER w.heap.size f F (w.alloc (.map #[] 0)) (wV.new _ w _) (h.below a));have i:=uA a;clear a h;have o:=@run_makeMap prog;go_enter func53,ntmps53
 go_wp2_with fail
 refine m.o.mono ?_;rintro e r ⟨⟨v,rfl⟩,j,l⟩;have p:=uA j;have g:=uA (i.o.trans (l.below i.o.size (fun k q=>Cw q.symm)));clear j l;go_wp2;go_ret;exact ⟨rfl,p.o,g.o⟩
end
def aT (ps:List Pr) (f:Int):Bool:=(List.range ps.length).any fun i=>decide (f<=(i:Int)) && (match ps[i]? with | some p=>decide (p.1=0) | none=>false)
def GZ (ps:List Pr) (f:Int) (k:Nat):Prop:=∀ i p,i < k->f<=(i:Int)->ps[i]?=some p->p.1≠0
theorem JL {ps:List Pr} {f:Int} {k:Nat} {p:Pr} (h:GZ ps f k) (j:ps[k]?=some p) (l:f<=(k:Int)->p.1≠0):GZ ps f (k+1):=fun i q m g a=>by
 rcases Bs i k with h1 | h1
 ·exact h i q h1 g a
 ·obtain rfl:i=k:=by omega
  rw [j] at a;injection a with a;exact a ▸ l g
theorem uAd {ps:List Pr} {f:Int} {k:Nat} {p:Pr} (a:ps[k]?=some p) (g:f<=(k:Int)) (h:p.1=0):aT ps f=true:=by
 unfold aT;rw [Em];refine ⟨k,B1.2 (Ah.1 a).1,?_⟩;rw [a];simp [g,h]
theorem uDw {ps:List Pr} {f:Int} (h:GZ ps f ps.length):aT ps f=false:=by
 cases e:aT ps f with
 | false=>rfl
 | true=>
   unfold aT at e;rw [Em] at e;obtain ⟨i,g,a⟩:=e;cases hp:ps[i]? with
   | none=>rw [hp] at a;simp at a
   | some p=>
     rw [hp] at a;simp at a;exact absurd a.2 (h i p (B1.1 g) a.1 hp)
theorem ES (x:PlW) (f:Int) (w:World) (m:uL w w.heap.size x) :
 Calls prog 126 #[uV x,.int .i64 f] w fun e w'=>e=.returned (.bool (aT x.ps f))/\Ab w w':=by
 obtain ⟨l,A,n,c,g⟩:=x;have D:=Ai m.nc m.cm;simp only [] at D;have H:=uA m.prs;have E:=uA m.prs.len;have I:=uA ((Below.refl w.heap.size w).alloc (Ae _) (.cells #[.int .i64 l,.slice A n c] 48));clear m;unfold maxLen at D;go_enter func126,ntmps126
 go_wp2;go_loopw [10] (fun i wr=>∃ j:Nat,i=.int .i64 (j:Int)/\j<=n/\Hdd (GZ g f j)/\Ab w wr) (fun i _=>n - (intOf i).toNat)
 case atStart=>exact ⟨0,rfl,Am _,fun i p h=>absurd h (E8 _),I.o⟩
 case round=>
  obtain ⟨j,rfl,U,s,F⟩:=hrel;have q:=uA F;clear F;by_cases J:j < n
  ·have G:(j:Int) < (n:Int):=bB;obtain ⟨p,u⟩:∃ p,g[j]?=some p:=⟨_,Ad (by have:g.length=n:=E.o;omega)⟩;obtain ⟨b,o,rfl,_,N,O,Q⟩:=(H.o.below q.o).at_ u;obtain ⟨k,R⟩:=p;simp only [] at O Q;have a:=uA (q.o.alloc q.o.size (.cells #[.int .i64 k,.int .i64 R] 52));have y:=uA u;clear u N;by_cases z:f<=(j:Int)
   ·by_cases r:k=0
    ·subst r;have B:=uA (uAd y.o z rfl);go_wp2;go_ret;exact ⟨congrArg (fun v=>Ending.returned (.bool v)) B.o.symm,a.o⟩
    ·have V:(k == 0)=false:=(by simpa using r);have C:=uA (JL s.o y.o fun _=>r);clear r;go_wp2;go_roundw
     case rel=>exact ⟨j+1,by go_num,bB,C.o,a.o⟩
     case measure=>simp [intOf];omega
   ·have T:(j:Int) < f:=bB;have C:=uA (JL s.o y.o fun h=>absurd h z);clear z;go_wp2;go_roundw
    case rel=>exact ⟨j+1,by go_num,bB,C.o,a.o⟩
    case measure=>simp [intOf];omega
  ·obtain rfl:j=n:=by omega
   have B:=uA (uDw (show GZ g f g.length from (show g.length=j from E.o) ▸ s.o));go_wp2;go_ret;exact ⟨congrArg (fun v=>Ending.returned (.bool v)) B.o.symm,q.o⟩
theorem oW {x:PlW} {f:Int} {v:Bool} (h:aT x.ps f=v) (w:World) (a:uL w w.heap.size x) :
 Calls prog 126 #[uV x,.int .i64 f] w fun e w'=>e=.returned (.bool v)/\Ab w w':=h ▸ ES x f w a
theorem JO:prog.keyType 214=true:=by kernel_rfl
theorem qP:Go.Maps.Keyed prog 214:=Fo (deep_law_gate fL (of_decide_eq_true fL) (of_decide_eq_true fL) JO (by rw [underlying214]))
theorem CS:prog.underlying 83=some (.map 214 211):=underlying83
theorem IK:prog.underlying 84=some (.map 214 211):=underlying84
theorem RK (w:World):(zeroValue 211).run prog w=.ok (.pointer none) w:=by kernel_rfl
def kZ (l:Int) (m:Bool):Lit:=.string (keyBytes [.int .i64 l,.bool m])
theorem mT {l:Int} (f:uH l) (m:Bool):keyOf prog 214 (.agg #[.int .i64 l,.bool m])=some (kZ l m):=by
 have g:prog.cellsOf 3=1:=by kernel_rfl
 have i:prog.cellsOf 4=1:=by kernel_rfl
 have a:prog.cellsOf 214=2:=by kernel_rfl
 have j:∃ d,prog.types.size=d+1:=⟨prog.types.size - 1,by have h:0 < prog.types.size:=of_decide_eq_true fL;omega⟩;obtain ⟨d,k⟩:=j;refine fU (cs:=[.int .i64 l,.bool m]) underlying214 JO (by rw [a];rfl) ?_;rw [bW underlying214 (by rw [a];rfl) fL,k];simp only [G0,G4,g,i];simp [oT underlying3 (aW f),gS underlying4]
theorem VW {l a:Int} {m f:Bool} (o:uH l) (g:uH a) (h:kZ l m=kZ a f):l=a/\m=f:=by
 have j:=mT o m;rw [h] at j;have i:=qP.inj j (mT g f);injection i with i;have k:=congrArg Array.toList i;simp only [E7,and_true,Gt,Value.bool.injEq,true_and] at k;exact k
abbrev qF (a b c:Value) (f g h:Int) (i:Nat):List Value:=[a,.int .i64 f,b,.int .i64 g,c,.int .i64 h,.map (some i)]
theorem FW (M:Nat) (l:Int) (f:Bool) (w:World) (Q:uH l) (s:∀ S,wV 214 w M S []) :
 Calls prog 124 #[.map (some M),.agg #[.int .i64 l,.bool f]] w fun e w'=>e=.returned (.pointer (some ⟨w.heap.size+1+1,0,none⟩))/\wV 214 w' M (fun _=>.pointer (some ⟨w.heap.size+1+1,0,none⟩)) [kZ l f]/\Bx w' (w.heap.size+1+1) (qF (.slice none 0 0) (.slice none 0 0) (.slice none 0 0) 0 0 0 (w.heap.size+1)) 218/\wV 52 w' (w.heap.size+1) (fun _=>.pointer none) []/\Turn (fun q=>q=M) w w':=by
 have u:=(s (fun _=>undef)).lt;have i:=uB w (.cells #[.int .i64 l,.bool f] 214);have W:=((s (fun _=>undef)).below i).look qP CS (RK _) (mT Q f) trivial (v:=.pointer none) (fun h=>by cases h) (fun _=>rfl);have X:=@run_makeMap prog;have HM:=uA s;have R:=uA (mT Q f);have x:=uA u;have m:=uB (w.alloc (.cells #[.int .i64 l,.bool f] 214)) (.map #[] 0);have o:=uB ((w.alloc (.cells #[.int .i64 l,.bool f] 214)).alloc (.map #[] 0)) (.cells #[.slice none 0 0,.int .i64 0,.slice none 0 0,.int .i64 0,.slice none 0 0,.int .i64 0,.map (some (w.heap.size+1))] 218);have g:=i.trans ((Aa m o).mono i.size);have G:=Bx.new ((w.alloc (.cells #[.int .i64 l,.bool f] 214)).alloc (.map #[] 0)) [.slice none 0 0,.int .i64 0,.slice none 0 0,.int .i64 0,.slice none 0 0,.int .i64 0,.map (some (w.heap.size+1))] 218;have p:=wV.new 52 (w.alloc (.cells #[.int .i64 l,.bool f] 214)) (fun _=>.pointer none);simp only [Ak] at G p;obtain ⟨Y,T,U,V⟩:=(s (fun _=>.pointer (some ⟨w.heap.size+1+1,0,none⟩))).below g;have y:=uA T;have H:=uA U;have I:=uA V;have Z:=uA G;have z:=uA (((Bx.new w [.int .i64 l,.bool f] 214).below m).below o);have J:=uA (p.below o);have B:=uA g;have N:=uA (show (((w.alloc (.cells #[.int .i64 l,.bool f] 214)).alloc (.map #[] 0)).alloc (.cells #[.slice none 0 0,.int .i64 0,.slice none 0 0,.int .i64 0,.slice none 0 0,.int .i64 0,.map (some (w.heap.size+1))] 218)).heap.size=w.heap.size+3 by simp);clear s u i m o g G p T U V;go_enter func124,ntmps124
 go_wp2_with (at_mapUpdate;(refine wpList_mapUpdate_own _ rfl _ _ _ 83 rfl 214 211 qP CS IZ M 0 Y rfl y.o eW _ _ (kZ l f) rfl rfl R.o (.held (.pointer (some ⟨w.heap.size+1+1,0,none⟩))) [] rfl ?_;intro O a r;have a0:=uA a;have C:=uA r;have D:=uA (wV.put (kt:=214) (w':=O) (b:=M) (K:=[]) (S:=fun _=>.pointer (some ⟨w.heap.size+1+1,0,none⟩)) (S':=fun _=>.pointer (some ⟨w.heap.size+1+1,0,none⟩)) (q:=kZ l f) (v:=.pointer (some ⟨w.heap.size+1+1,0,none⟩)) H.o I.o y.o.isMap trivial a rfl (fun _ _=>rfl));have a1:=D.o.look qP CS (RK _) R.o trivial (v:=.pointer (some ⟨w.heap.size+1+1,0,none⟩)) (fun _=>rfl) (fun hn=>absurd (An.2 rfl) hn);have E:Bx O w.heap.size [.int .i64 l,.bool f] 214:=(r.block w.heap.size (Ag.1 z.o).1 (fun e=>by injection e with e;have:=x.o;omega)).trans z.o;have x0:=E.q 0 rfl;have x1:=E.q 1 rfl;clear a r))
 go_ret;have a2:=N.o;have F:∀ k,w.heap.size<=k->k < w.heap.size+3->O.heap[k]?=_:=fun k h1 h2=>C.o.block k bB (fun e=>by injection e with e;have:=x.o;omega)
 exact ⟨rfl,D.o,(F _ bB bB).trans Z.o,J.o.blk (F _ bB bB),(Turn.of_below B.o).grown C.o (fun k e=>.inl (by cases e;rfl))⟩
theorem Turn.newer {S S':Nat->Prop} {w f g:World} (h:Turn S w f) (k:Turn S' f g) (j:∀ b,S' b->S b\/w.heap.size<=b):Turn S w g:=
 ⟨k.os.trans h.os,k.tape.trans h.tape,k.output.trans h.output,Ai h.size k.size,fun b a i=>(k.block b (Ap a h.size) (fun l=>(j b l).elim i (fun m=>absurd a (Nat.not_lt.2 m)))).trans (h.block b a i)⟩
theorem uL.zero {w:World} {B:Nat} {l:Int} {A:Option Addr} {c:Nat} (h:uL w B ⟨l,A,0,c,[]⟩) (w':World) (B':Nat):uL w' B' ⟨l,A,0,c,[]⟩:=
 ⟨h.nc,h.cm,h.l,⟨⟨rfl,fun h=>absurd h (Cg _)⟩,fun p a=>by cases a⟩⟩
def VN (f:World) (N g:Nat) (wr:World):Prop:=∃ a h,Bx wr N (qF (.slice none 0 0) (.slice (some ⟨a,0,none⟩) 1 h) (.slice none 0 0) 0 0 0 g) 218/\wr.cell? ⟨a,0,none⟩=some (.int .i64 0)/\f.heap.size<=a/\a < wr.heap.size/\Turn (fun q=>q=N) f wr
def VS (w:World) (M:Nat) (l:Int) (g:Bool) (w':World):Prop:=∃ N f h i a j,Bx w' N (qF (.slice (some ⟨h,0,none⟩) 1 i) (.slice (some ⟨a,0,none⟩) 1 j) (.slice none 0 0) 0 0 0 f) 218/\w'.cell? ⟨a,0,none⟩=some (.int .i64 0)/\w.heap.size<=N/\w.heap.size<=a/\a < w'.heap.size/\a≠N /\
 wV 214 w' M (fun _=>.pointer (some ⟨N,0,none⟩)) [kZ l g]/\wV 52 w' f (fun _=>.pointer none) []/\Turn (fun q=>q=M) w w'
theorem MS (M:Nat) (q:LnW) (w:World) (W:zP w w.heap.size q) (r:q.pl.ps=[]) (Z:∀ S,wV 214 w M S []) :
 Calls prog 77 #[.map (some M),.int .i64 0,KY q] w fun e w'=>(∃ v,e=.returned v)/\VS w M q.pl.l q.mut_ w':=by
 have s:q.pl.n=0:=by rw [<-W.pl.prs.len,r];rfl
 have hl:=W.pl.l;have I:=W.pl;have J:=(Z (fun _=>undef)).lt;obtain ⟨X,Y,N,⟨l,A,n,c,ps⟩⟩:=q;have s:n=0:=s;have r:ps=[]:=r;subst s r;have a0:=uA fun (w':World) (B:Nat)=>uL.zero I w' B
 have u:=uB w (.cells #[.int .i64 X,.int .i64 Y,.bool N,.int .i64 l,.slice A 0 c] 50);have a1:=uA u;have a2:=uA (Bx.new w [.int .i64 X,.int .i64 Y,.bool N,.int .i64 l,.slice A 0 c] 50);have a3:=uA (FW M l N (w.alloc (.cells #[.int .i64 X,.int .i64 Y,.bool N,.int .i64 l,.slice A 0 c] 50)) hl (fun S=>(Z S).below u));have y:=uA J;clear W hl Z u J I;go_enter func77,ntmps77
 go_wp2_with fail
 refine a3.o.mono ?_;rintro e H ⟨rfl,hm,hn,z,g⟩;rw [Ak] at hn hm z ⊢;have HM:=uA hm;have HN:=uA hn;have a4:=uA z;have HT:Hdd (Turn (fun q=>q=M) w H):=(Turn.of_below a1.o).trans g;have f:Hdd (Bx H w.heap.size [.int .i64 X,.int .i64 Y,.bool N,.int .i64 l,.slice A 0 c] 50):=(g.block w.heap.size nF (by have:=y.o;omega)).trans a2.o;have x3:=f.o.q 3 rfl;have x4:=f.o.q 4 rfl;have ac:=HT.o.size;have ad:=uA (HT.o.below (B:=M) (Co y.o) (fun k hk=>Cw hk.symm));clear hm hn z g;go_wp2_with fail
 have O:Hdd (w.heap.size < H.heap.size/\(w.heap.size+1+1+1) < H.heap.size):=⟨by have:=(Ag.1 f.o).1;omega,(Ag.1 HN.o).1⟩;clear x3 x4;go_loopw [6,21] (fun v i wr=>v=.pointer (some ⟨w.heap.size+1+1+1,0,none⟩)/\((i=.int .i64 0/\wr=H)\/(i=.int .i64 1/\Hdd (VN H (w.heap.size+1+1+1) (w.heap.size+1+1) wr)))) (fun _ i _=>1 - (intOf i).toNat)
 case atStart=>exact ⟨rfl,.inl ⟨rfl,rfl⟩⟩
 case round=>
  rcases hrel with ⟨rfl,⟨rfl,rfl⟩ | ⟨rfl,C⟩⟩
  ·have x3:=f.o.q 3 rfl;have x4:=f.o.q 4 rfl;go_wp2_with fail
   refine (oW (x:=⟨l,A,0,c,[]⟩) (v:=false) rfl _ (a0.o _ _)).mono ?_;rintro e w2 ⟨rfl,D⟩;have E:=HN.o.below D;have z0:=E.q 0 rfl;have F:=uA (rG (w.heap.size+1+1+1) 2 _ _ 0 w2 E rfl);have Q:=uA D;clear E D x3 x4;go_wp2_with fail
   refine F.o.mono ?_;rintro e w3 ⟨⟨v,rfl⟩,R,pc,a,h,m,o,g⟩;have C:Hdd (VN wr (w.heap.size+1+1+1) (w.heap.size+1+1) w3):=⟨R,pc,a,h,Ai Q.o.size m,o,(Turn.of_below Q.o).trans g⟩;clear a h m o g;go_wp2;go_roundw
   case rel=>exact ⟨rfl,.inr ⟨by go_num,C⟩⟩
   case measure=>simp [intOf]
  ·obtain ⟨R,pc,a,h,m,o,g⟩:=C.o;have F:=uA (rG (w.heap.size+1+1+1) 0 _ _ 0 wr a rfl);have z0:=a.q 0 rfl;have a5:=uA h;have T:=uA m;have U:=uA o;have a6:=uA g;clear a h m o g;go_wp2_with fail
   refine F.o.mono ?_;rintro e w3 ⟨⟨v,rfl⟩,og,oc,a,a7,a8,a9,g⟩;have V:=uA a;have G:=uA (a6.o.trans g);have aa:=uA ((g.cell (p:=⟨R,0,none⟩) U.o (by have h1:=O.o;have h2:=T.o;show ¬R=w.heap.size+1+1+1;omega)).trans a5.o);have ab:=uA (Ap U.o g.size);clear a a7 a8 a9 g;go_wp2;go_end0
   have h1:=O.o;have h2:=T.o;have h3:=y.o;exact ⟨⟨_,rfl⟩,_,_,og,oc,R,pc,V.o,aa.o,bB,bB,ab.o,bB,HM.o.blk (G.o.block M bB bB),a4.o.blk (G.o.block _ bB bB),HT.o.newer G.o (fun b hb=>.inr bB)⟩
theorem uGq (w:World) (a f g h:Obj):let W:=((((w.alloc a).alloc f).alloc g).alloc h).drew
 W.heap[w.heap.size]?=some a/\W.heap[w.heap.size+1]?=some f/\W.heap[w.heap.size+1+1]?=some g/\W.heap[w.heap.size+1+1+1]?=some h/\Ab w W/\W.heap.size=w.heap.size+4:=by
 intro W;have l:=uB w a;have k:=uB (w.alloc a) f;have i:=uB ((w.alloc a).alloc f) g;have j:=(uB (((w.alloc a).alloc f).alloc g) h).drew;have u:=heap_alloc_new w a;have m:=heap_alloc_new (w.alloc a) f;have o:=heap_alloc_new ((w.alloc a).alloc f) g;have p:W.heap[(((w.alloc a).alloc f).alloc g).heap.size]?=some h:=heap_alloc_new (((w.alloc a).alloc f).alloc g) h;have q:(w.alloc a).heap.size=w.heap.size+1:=Ak ..;have r:((w.alloc a).alloc f).heap.size=w.heap.size+1+1:=by rw [Ak,q]
 have s:(((w.alloc a).alloc f).alloc g).heap.size=w.heap.size+1+1+1:=by rw [Ak,r]
 have v:W.heap.size=w.heap.size+4:=by
  show ((((w.alloc a).alloc f).alloc g).alloc h).heap.size=_;rw [Ak,s]
 rw [q] at m;rw [r] at o;rw [s] at p;refine ⟨?_,?_,?_,p,l.trans ((k.trans ((Aa i j).mono k.size)).mono l.size),v⟩
 ·exact (j.block _ bB).trans ((i.block _ bB).trans ((k.block _ bB).trans u))
 ·exact (j.block _ bB).trans ((i.block _ bB).trans m)
 ·exact (j.block _ bB).trans o
theorem wV.of_empty (kt:TypeId) {W:World} {b:Nat} (h:W.heap[b]?=some (.map #[] 0)) (S:Lit->Value):wV kt W b S []:=by
 have j:=(Ag.1 h).1;obtain ⟨a,i⟩:∃ a:World,a.heap.size=b:=⟨{ W with heap:=W.heap.extract 0 b },by simp;omega⟩;have f:=wV.new kt a S;have g:=heap_alloc_new a (.map #[] 0);rw [i] at f g;exact f.blk (h.trans g.symm)
def uFb (w:World) (A:Option Addr) (c:Nat) (E M a f:Nat) (W:World):Prop:=(∀ S,wV 214 W M S [])/\Bx W a [.slice none 0 0] 60/\Bx W f [.slice none 0 0] 60/\Bx W E [.slice A 1 c,.map (some M),.slice (some ⟨a,0,none⟩) 1 1,.slice (some ⟨f,0,none⟩) 1 1] 88/\Ab w W/\(w.heap.size<=M/\w.heap.size<=a/\w.heap.size<=f/\w.heap.size<=E)/\M≠a/\M≠f/\a≠f/\E≠M/\E≠a/\E≠f
end Go.Proofs.YtnkjbjkoffgocaaGreatDoor
