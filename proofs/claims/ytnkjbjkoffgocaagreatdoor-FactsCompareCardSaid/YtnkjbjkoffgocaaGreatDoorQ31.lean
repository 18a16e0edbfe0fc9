import Derived.Test.YtnkjbjkoffgocaaGreatDoorQ30
set_option linter.unusedVariables false
set_option linter.unusedSimpArgs false
set_option maxRecDepth 100000
set_option maxHeartbeats 16000000
namespace Go.Proofs.YtnkjbjkoffgocaaGreatDoor
open Tryz Go.RowKit
def uJg (T:Int->Int) (L:List CgW) (a b:Nat) (e:Ending) (w':World):Prop:=∃ d,e=.returned (.bool d)/\yV w' b (a+xQ L) (nL T L)/\(d=false->eK T (nL T L))
theorem yV.cells {w w':World} {b f:Nat} {T:Int->Int} (h:yV w b f T) (g:Turn (fun k=>k=b) w w') {p:Addr} {v:Value} (a:w.cell? p=some v):w'.cell? p=some v:=by
 have i:p.block < w.heap.size:=by
  refine Dw fun j=>?_
  have:w.heap[p.block]?=none:=Dd bB;simp [World.cell?,this] at a
 refine (g.cell i fun e=>?_).trans a;obtain ⟨_,⟨l,c,d,_⟩,_⟩:=h.own;rw [<-e] at d;simp [World.cell?,d] at a
theorem yV.cellsW {α:Type} {w w':World} {b d k:Nat} {T:Int->Int} {f:α->List Value} {A:Option Addr} {n:Nat} {L:List α} (h:yV w b d T) (a:Turn (fun k=>k=b) w w') (c:uM w w.heap.size k f A n L):uM w' w'.heap.size k f A n L:=
 ⟨c.1,fun e=>by
  obtain ⟨g,o,l,m,p⟩:=c.2 e;exact ⟨g,o,l,Ap m a.size,fun i x q j u r=>h.cells a (p i x q j u r)⟩⟩
theorem TO {w:World} {b I:Nat} {T:Int->Int} (h:yV w b I T) (A:Option Addr) (n c:Nat) (L:List CgW) (hL:uM w w.heap.size 2 cCg A n L) (hR:∀ g∈L,uM w w.heap.size 1 uX g.1.A g.1.n g.1.L/\(g.2=1\/g.2=-1)/\∀ q∈g.1.L,uH q) (hn:n<=1000000000) (hs:I+xQ L<=1000000000) :
 Calls prog 74 #[.map (some b),.slice A n c] w fun e w'=>uJg T L I b e w'/\Turn (fun k=>k=b) w w':=by
 have HH:=uA h;have a2:=uA (show L.length=n from hL.1);have an:=uA fun (w':World) (y:Turn (fun k=>k=b) w w')=>h.cellsW y hL
 have a3:=uA fun (w':World) (y:Turn (fun k=>k=b) w w') (g:CgW) (J:g∈L)=>h.cellsW y (hR g J).1
 have ao:=uA fun (g:CgW) (J:g∈L)=>(hR g J).2
 have b3:=h.lt;have ap:=uA (Turn.refl (fun k=>k=b) w);clear h hL hR;go_enter func74,ntmps74
 go_wp2;go_loopw [5,13] (fun dv i wr=>∃ (j:Nat) (D:Bool),i=.int .i64 (j:Int)/\dv=.bool D/\j<=n/\Hdd (yV wr b (I+xQ (L.take j)) (nL T (L.take j)))/\Hdd (D=false->eK T (nL T (L.take j)))/\Hdd (Turn (fun k=>k=b) w wr)) (fun _ i _=>n - (intOf i).toNat)
 case atStart=>exact ⟨0,false,rfl,rfl,Am _,HH,uA (fun _ q=>Iff.rfl),ap⟩
 case round=>
  obtain ⟨j,D,rfl,rfl,hj,o,K,u⟩:=hrel;have b4:=u.o.size;by_cases a4:j < n
  ·have a5:(j:Int) < (n:Int):=bB;have b5:(0:Int)<=(j:Int):=bB;obtain ⟨g,J⟩:∃ g,L[j]?=some g:=⟨_,Ad (by rw [a2.o];exact a4)⟩;have x:=Aj J;obtain ⟨gb,a6,O,aq,p⟩:=(an.o wr u.o).at_ J;subst O;have a7:=uA (show L.take (j+1)=L.take j++[g] by rw [Bm,J];rfl);have P:I+xQ (L.take j)+g.1.n<=1000000000:=by
    have h1:=NA (L:=L) (j+1);rw [a7.o,LS] at h1;omega
   have a8:=a3.o w (Turn.refl _ _) g x;have Q:=uA fun (w':World) (y:Turn (fun k=>k=b) w w')=>a3.o w' y g x
   obtain ⟨z,a9⟩:=ao.o g x;have ar:=uA a9;obtain ⟨⟨B,f,M,r⟩,d⟩:=g;have z:d=1\/d=-1:=z;have P:I+xQ (L.take j)+f<=1000000000:=P;have aa:=uA (show r.length=f from a8.1);have Q:=uA (show ∀ (w':World) (y:Turn (fun k=>k=b) w w'),uM w' w'.heap.size 1 uX B f r from Q.o);have C:=uA (show nL T (L.take (j+1))=aV (nL T (L.take j)) d r/\xQ (L.take (j+1))=xQ (L.take j)+f by rw [a7.o,VO,LS];exact ⟨rfl,rfl⟩);have c0:wr.cell? ⟨gb,a6+j*2,none⟩=some (.slice B f M):=(by simpa using p 0 _ rfl);have c1:wr.cell? ⟨gb,a6+j*2+1,none⟩=some (.int .i64 d):=p 1 _ rfl;have R:=uB wr (.cells #[.slice B f M,.int .i64 d] 205);obtain ⟨S,ab⟩:∃ U,nL T (L.take j)=U:=⟨_,rfl⟩;obtain ⟨V,ac⟩:∃ m,I+xQ (L.take j)=m:=⟨_,rfl⟩;rw [ab] at o K C;rw [ac] at o P;have N:I+xQ (L.take (j+1))=V+f:=by rw [C.o.2];omega
   have au:=uA N;have ad:=uA (show yV (wr.alloc (.cells #[.slice B f M,.int .i64 d] 205)) b (V+0) (aV S d (r.take 0)) from o.o.below R);have l:=uA (Bx.new wr [.slice B f M,.int .i64 d] 205);have ae:=uA (u.o.trans (Turn.of_below R));have y0:=l.o.q 0 rfl;have af:=uA (show D=false->eK T (aV S d (r.take 0)) from K.o);have av:b < wr.heap.size:=bB;clear J x p aq a8 a9 R ab ac N;go_wp2;obtain ⟨xk,W⟩:∃ k,wr.heap.size=k:=⟨_,rfl⟩;have l:=uA (show Bx (wr.alloc (.cells #[.slice B f M,.int .i64 d] 205)) xk [.slice B f M,.int .i64 d] 205 from W ▸ l.o);rw [W] at av ⊢;clear W y0;generalize wr.alloc (.cells #[.slice B f M,.int .i64 d] 205)=wb at *;go_loopw [5,20] (fun dv i wr=>∃ (k:Nat) (D:Bool),i=.int .i64 (k:Int)/\dv=.bool D/\k<=f/\Hdd (yV wr b (V+k) (aV S d (r.take k)))/\Hdd (D=false->eK T (aV S d (r.take k)))/\Hdd (Turn (fun k=>k=b) w wr)/\Hdd (Bx wr xk [.slice B f M,.int .i64 d] 205)) (fun _ i _=>f - (intOf i).toNat)
   case atStart=>exact ⟨0,D,rfl,rfl,Am _,ad,af,ae,l⟩
   case round=>
    clear ad af ae l o K u;obtain ⟨k,D,rfl,rfl,hk,o,K,u,l⟩:=hrel;by_cases aw:k < f
    ·have ag:(k:Int) < (f:Int):=bB;have b6:(0:Int)<=(k:Int):=bB;obtain ⟨q,hq⟩:∃ q,r[k]?=some q:=⟨_,Ad (by rw [aa.o];exact aw)⟩;obtain ⟨gr,zr,O,_,p⟩:=(Q.o wr u.o).at_ hq;subst O;have HQ:=uA (ar.o q (Aj hq));have c0:wr.cell? ⟨gr,zr+k,none⟩=some (.int .i64 q):=(by simpa using p 0 _ rfl);have X:=uA (show aV S d (r.take (k+1))=dX (aV S d (r.take k)) q d by rw [Bm,hq];exact uEl _ _ _ _);obtain ⟨Tk,ah⟩:∃ U,aV S d (r.take k)=U:=⟨_,rfl⟩;rw [ah] at o K X;obtain ⟨v,hv⟩:∃ v,Tk q=v:=⟨_,rfl⟩;have ai:=o.o.bd q;rw [hv] at ai;have aj:=uA (o.o.look uEn HQ.o);rw [hv] at aj;obtain ⟨Dm,m1,m2,m3⟩:=o.o.own;have HM:=uA m1;have E:=uA fun (w':World)=>yV.put (w':=w') (q:=q) (d:=d) o.o.bd m1 m2 m3 z
     have F:=uA fun (w':World)=>yV.del (w':=w') (b:=b) (q:=q) (d:=d) (n:=0) o.o.bd m2 m3 z
     have ak:=m1.isMap;have ax:=uA fun (w':World) (hw:w'.ownsMap (H:=Unit) prog 3 (plainElem prog 3) b (V+k+1) (Dm.put (.int .i64 q) (.lit (.int .i64 (v+d)))))=>GO (v:=v+d) uEn hw HQ.o (Cn ak (show Go.WideAt.IsKeyLit (.int .i64 q) from trivial) _ _)
     rw [hv] at E F;have HV:=uA hv;have y1:=l.o.q 1 rfl;have s1:IntKind.i64.wrap (v+d)=v+d:=vV _ bB bB;have ay:V+k < maxLen:=by unfold maxLen;omega
     have az:(Lit.int .i64 (v+d)).wf=true:=by
      have:-9223372036854775808<=v+d/\v+d<=9223372036854775807:=by omega
      simpa [Lit.wf,IntKind.min,IntKind.max,IntKind.signed,IntKind.bits] using this
     clear hq p ah hv ai m1 m2 m3 ak;by_cases h0:v+d=0
     case' pos=>
      have t0:(v+d == 0)=true:=(by simp [h0]);have HP:=uA fun (w':World)=>F.o w' h0
      clear h0 E F
     case' neg=>
      have t0:(v+d == 0)=false:=(by simp [h0]);have HP:=uA fun (w':World)=>E.o w' h0
      clear h0 E F
     all_goals
      cases D <;> by_cases G:v=0
     all_goals
      first
      | (have t1:(v == 0)=true:=by simp [G])
      | (have t1:(v == 0)=false:=by simp [G])
     all_goals
      have b0:=uA G;clear G;go_wp2_with (first
       | (at_lookup;refine uP _ rfl _ _ _ _ rfl _ _ _ rfl rfl aj.o ?_)
       | (at_lookup;refine uP _ rfl _ _ _ _ rfl _ _ _ rfl rfl (ax.o _ Z.o) ?_)
       | (at_mapUpdate;refine wpList_mapUpdate_own _ rfl _ _ _ 135 rfl 3 3 zS uEn _ b (V+k) Dm rfl HM.o ay _ _ (.int .i64 q) rfl rfl (wY HQ.o) (.lit (.int .i64 (v+d))) [] (plainElem_int underlying3 az) ?_;intro w7 s Y;have Z:=uA s;have a0:=uA (l.o.turn (Turn.grown (Turn.refl (fun k=>k=b) wr) Y (fun i e=>by injection e with e;exact .inl e.symm)) (show ¬xk=b by omega));have z1:=a0.o.q 1 rfl;have al:=uA (u.o.grown Y (fun i e=>by injection e with e;exact .inl e.symm));clear s Y)
       | (at_delete;refine wpList_delete_own _ rfl _ _ 135 3 rfl 3 zS uEn _ b (V+k+1) _ rfl Z.o _ (.int .i64 q) rfl (wY HQ.o) ?_;intro w8 t a1;have b1:=uA t;have am:=uA (a0.o.turn (Turn.grown (Turn.refl (fun k=>k=b) w7) a1.grown (fun i e=>by injection e with e;exact .inl e.symm)) (show ¬xk=b by omega));have z2:=am.o.q 1 rfl;have b2:=uA (al.o.grown a1.grown (fun i e=>by injection e with e;exact .inl e.symm));clear t a1))
      go_roundw
      case rel=>
       refine ⟨k+1,_,by go_num,rfl,bB,?_,?_,?_,?_⟩
       ·rw [X.o];first
        | exact uA (HP.o _ b1.o)
        | exact uA (HP.o _ Z.o)
       ·rw [X.o];first
        | exact uA fun h=>Bool.noConfusion h
        | exact uA fun _=>eK.add (K.o rfl) (by rw [HV.o];exact b0.o) (by rw [HV.o];simpa using t0)
       ·first
        | exact b2
        | exact al
       ·first
        | exact am
        | exact a0
      case measure=>simp [intOf];omega
    ·have ag:¬(k:Int) < (f:Int):=bB;have hF:r.take k=r:=Au (by rw [aa.o];omega);have HF:=uA hF;obtain rfl:f=k:=by omega
     clear hF;go_wp2_with fail
     go_roundw
     case rel=>exact ⟨j+1,D,by go_num,rfl,a4,uA (by rw [au.o,C.o.1];have h:=o.o;rwa [HF.o] at h),uA (by rw [C.o.1];have h:=K.o;rwa [HF.o] at h),u⟩
     case measure=>simp [intOf];omega
  ·have a5:¬(j:Int) < (n:Int):=bB;have hF:L.take j=L:=Au (by rw [a2.o];omega);have HF:=uA hF;clear hF;go_wp2;go_ret;exact ⟨⟨D,rfl,by have h:=o.o;rwa [HF.o] at h,by have h:=K.o;rwa [HF.o] at h⟩,u.o⟩
def EC (G:List (SlW CgW)) (p:Nat) (q:Int):Int:=match p with | 0=>0 | p+1=>pK G p q
theorem uC5 (G:List (SlW CgW)) (p:Nat) (q:Int):EC G (p+1) q=EC G p q+pZ (tV G p) q:=by
 cases p with
 | zero=>show pK G 0 q=0+_;unfold pK;simp
 | succ p=>exact EQ G p q
theorem XA {L:List CgW} {m:Nat} (h:∀ g∈L,g.1.n<=m):xQ L<=L.length*m:=by
 induction L with
 | nil=>exact Am _
 | cons g L a=>
   have d:=a fun x c=>h x (Cj _ c)
   have e:=h g nF;unfold xQ at *;rw [C6,Gh,As,G9];omega
def AK (T:Int->Int) (n:Nat):List Int:=((List.range n).map fun (k:Nat)=>(k:Int)).filter fun q=>decide (T q≠0)
theorem gP {T:Int->Int} {n:Nat} (h:∀ q,T q≠0->0<=q/\q < (n:Int)) {q:Int}:q∈AK T n↔T q≠0:=by
 unfold AK;rw [Cx,decide_eq_true_iff,Bw];refine ⟨fun h=>h.2,fun a=>⟨⟨q.toNat,B1.2 ?_,?_⟩,a⟩⟩ <;> have:=h q a <;> omega
theorem XU (T:Int->Int) (n:Nat):(AK T n).length<=n:=by
 unfold AK;refine Ai (D6 _ _) ?_;simp
theorem uDu {x:BdW} {p:Nat} {T:Int->Int} (f:∀ q,T q=oK x.v.blocks (FK x) x.locals.n p q) (g:∀ i,i < x.locals.n->∀ q,q∈FK x i↔wO (tys x.types.L) (EI (lcs x.locals.L) (i:Int)) q) (r:Int) :
 (∃ q,T q≠0/\Out x.outl.L (x.regions.n:Int) r q)↔rgB (tys x.types.L) (lcs x.locals.L) x.outl.L x.regions.n (lvI x.v.blocks p x.locals.n) r=true:=by
 rw [EL];constructor
 ·rintro ⟨q,h,a⟩;rw [f] at h;obtain ⟨i,k,c,d⟩:=gV.2.1 h;have j:=a.2.1;refine ⟨(i:Int),lK.2 ⟨⟨bB,bB⟩,c⟩,q.toNat,bB,?_,?_⟩
  ·rw [Dv j.1];exact (g i k q).1 d
  ·rw [Dv j.1];exact fS.2 a
 ·rintro ⟨z,l,s,n,d,a⟩;obtain ⟨m,c⟩:=lK.1 l;refine ⟨(s:Int),?_,fS.1 a⟩;rw [f];have e:((z.toNat:Nat):Int)=z:=Dv m.1;exact gV.2.2 ⟨z.toNat,bB,by rw [e];exact c,(g _ bB _).2 (by rw [e];exact d)⟩
theorem uDq {T:List Ty} {lc:List Int} {ps:List Pr} {a:Nat} {r:Int}:rgB T lc ps a [] r=false:=uF2 fun ⟨z,c,_⟩=>by cases c
theorem ZW {l:List BkV} {n:Nat}:lvI l (uF l) n=[]:=by
 unfold lvI;rw [List.filter_eq_nil_iff];intro a _;rw [CF];decide
noncomputable def onR (f:List Int->Int->Bool) (a:List (List Int)) (r p:Nat):List Nat:=(List.range p).filter fun q=>f ((a[q]?).getD []) (r:Int)
theorem YZ (f:List Int->Int->Bool) (a:List (List Int)) (r p:Nat):onR f a r (p+1)=onR f a r p++if f ((a[p]?).getD []) (r:Int)=true then [p] else []:=by
 unfold onR;rw [Dx,List.filter_append,List.filter_cons,List.filter_nil]
theorem uCr (f:List Int->Int->Bool) (a:List (List Int)) (r p:Nat):NO f a r p=(onR f a r p).map fun (q:Nat)=>((r:Int),(q:Int)):=rfl
theorem QF (f:List Int->Int->Bool) (a:List (List Int)) (r p:Nat):(onR f a r p).length<=p:=by
 unfold onR;refine Ai (D6 _ _) ?_;simp
theorem nI.turn {w w':World} {i d lo C n:Nat} {G:List (SlW CgW)} {X:Nat->Prop} (h:nI w i d lo C n G) (o:Turn X w w') (q:∀ k,X k->k < lo) (f:lo<=d) (l:lo<=i):nI w' i d lo C n G:=by
 have r:∀ {a k n:Nat} {e:TypeId} {v:Value} {t:List Value},lo<=a->w.ownsRow a e k v n t->w'.ownsRow a e k v n t:=fun x u=>yZ u o fun b l m=>by have y:=q b m;have z:=(u.lt b l).1;omega
 exact ⟨⟨(o.block d h.grid.lt (fun m=>by have:=q d m;omega)).trans h.grid.blk,fun j s c=>r l (h.grid.own j s c),h.grid.dis⟩,h.len,fun p s c=>⟨(h.all p s c).1,fun g f=>⟨r (Ae _) ((h.all p s c).2 g f).row,((h.all p s c).2 g f).by_,((h.all p s c).2 g f).rng,((h.all p s c).2 g f).few⟩⟩⟩
theorem uHb:Go.Maps.Keyed prog 9:=Go.Maps.string_keyed underlying9
theorem WT:prog.underlying 287=some (.map 9 4):=underlying287
def iA (s:ByteArray):Lit:=.string s.data.toList
theorem QY {s:ByteArray} (h:s.size<=maxLen):keyOf prog 9 (.string s)=some (iA s):=Go.WideMaps.keyOf_string_mk underlying9 h
theorem GH {s t:ByteArray} (h:iA s=iA t):s=t:=by
 unfold iA at h;injection h with h;apply ByteArray.ext;exact F7 h
theorem LQ {s:ByteArray}:Go.WideAt.IsKeyLit (iA s):=trivial
structure GF (b:Nat) (pre:List ByteArray) (w:World) (m:Nat) (Dm:DataW Unit):Prop where
 own:w.ownsMap (H:=Unit) prog 9 (plainElem prog 4) b m Dm
 le:m<=pre.length
 has:∀ s,Maps.has Dm (iA s)=true↔s∈pre
 val:∀ s,s∈pre->∀ z,Dm.atKey (iA s) z=.lit (.bool true)
def nQ (b:Nat) (pre:List ByteArray) (w:World):Prop:=∃ m a,GF b pre w m a
section
variable {b:Nat} {pre:List ByteArray} {w w':World}
theorem nQ.block (h:nQ b pre w) (a:w'.heap[b]?=w.heap[b]?):nQ b pre w':=by
 obtain ⟨m,c,d,e,f,g⟩:=h;exact ⟨m,c,uN d a,e,f,g⟩
theorem nQ.lt (h:nQ b pre w):b < w.heap.size:=by
 obtain ⟨m,c,a,_⟩:=h;exact EK a
theorem nQ.made (w:World):nQ w.heap.size [] (w.alloc (.map #[] 0)):=
 ⟨0,.map [],Cu (H:=Unit) w prog 9 (plainElem prog 4),Ae _,(fun s=>by simp [Maps.has]),(fun s h=>by cases h)⟩
theorem GF.look {m:Nat} {i:DataW Unit} (h:GF b pre w m i) {s:ByteArray} (j:s.size<=maxLen) {v:Bool} (g:aI pre s=v) :
 (Instr.lookup 287 (.map (some b)) (.string s) false).run prog w=.ok (.bool v) w:=by
 obtain ⟨u,l,d,f⟩:=h.own.lookup uHb WT (gE w) (zd:=.lit (.bool false)) (zp:=[]) (plainElem_bool underlying4 false) (QY j);rw [d,<- g];cases hh:Maps.has i (iA s)
 ·rw [Cm hh] at f;obtain ⟨c,rfl,a⟩:=uQ underlying4 f;injection a with a _;injection a with a;injection a with a;have k:s∉pre:=fun q=>by rw [(h.has s).2 q] at hh;cases hh
  rw [iC.2 k,a]
 ·have e:=(h.has s).1 hh;rw [h.val s e] at f;obtain ⟨c,rfl,a⟩:=uQ underlying4 f;injection a with a _;injection a with a;injection a with a;rw [JZ.2 e,a]
theorem GF.put {m:Nat} {f:DataW Unit} (h:GF b pre w m f) {s:ByteArray} (g:w'.ownsMap (H:=Unit) prog 9 (plainElem prog 4) b (m+1) (f.put (iA s) (.lit (.bool true)))):nQ b (pre++[s]) w':=by
 have c:Maps.IsMap f:=⟨_,(h.own.entries uHb).choose_spec.1⟩;refine ⟨m+1,_,g,by have:=h.le;simp;omega,fun u=>?_,fun u hu z=>?_⟩
 ·by_cases a:u=s
  ·subst a;rw [Da c LQ];simp
  ·have d:iA u≠iA s:=fun e=>a (GH e)
   rw [B7 d,h.has u];simp [a]
 ·by_cases a:u=s
  ·subst a;exact Cn c LQ _ z
  ·have d:iA u≠iA s:=fun e=>a (GH e)
   rcases Aq.1 hu with hu | hu
   ·exact (Ci d _ z).trans (h.val u hu z)
   ·exact absurd (by simpa using hu) a
end
noncomputable def eF (pre:List ByteArray) (s:ByteArray):Int:=if vE s=false then 12 else if aI pre s=true then 21 else 0
def uIa (b:Nat) (pre:List ByteArray) (s:ByteArray) (v:Int) (w:World) (e:Ending) (w':World):Prop:=e=.returned (.int .i64 v)/\(v≠0->w=w')/\(v=0->nQ b (pre++[s]) w'/\w.grownBy w' (some b))
theorem JJ {b:Nat} {pre:List ByteArray} {s:ByteArray} {v:Int} {w:World} (h:nQ b pre w) (l:pre.length < maxLen) (j:s.size<=maxLen) (d:eF pre s=v) :
 Calls prog 192 #[.map (some b),.string s] w (uIa b pre s v w):=by
 obtain ⟨m,x,h⟩:=h;have n:=uA j;unfold eF at d;obtain ⟨y,a⟩:∃ z,vE s=z:=⟨_,rfl⟩;have i:=uA a;rw [a] at d;cases y
 ·obtain rfl:v=12:=d.symm;clear h l j d a;go_enter func192,ntmps192
  go_wp2_with fail
  refine (wS i.o _ n.o).mono ?_;rintro q r ⟨rfl,rfl⟩;go_wp2;go_ret;exact ⟨rfl,fun _=>rfl,fun e=>absurd e eW⟩
 obtain ⟨A,f⟩:∃ z,aI pre s=z:=⟨_,rfl⟩;have t:=uA (h.look j f);rw [f,if_neg nF] at d;have u:=uA h;have g:m < maxLen:=Nat.lt_of_le_of_lt h.le l;cases A
 ·obtain rfl:v=0:=d.symm;clear h l j d a f;go_enter func192,ntmps192
  go_wp2_with fail
  refine (wS i.o _ n.o).mono ?_;rintro q r ⟨rfl,rfl⟩;go_wp2_with (first | (at_lookup;refine uP _ rfl _ _ _ false rfl _ _ _ rfl rfl t.o ?_) | (at_mapUpdate;refine wpList_mapUpdate_own _ rfl _ _ _ 287 rfl 9 4 uHb WT _ b m x rfl u.o.own g _ _ (iA s) rfl rfl (QY n.o) (.lit (.bool true)) [] (plainElem_bool underlying4 true) ?_;intro B c k;have o:=uA c;have p:=uA k;clear c k))
  go_ret;exact ⟨rfl,fun e=>absurd rfl e,fun _=>⟨u.o.put o.o,p.o⟩⟩
 ·obtain rfl:v=21:=d.symm;clear h l j d a f g;go_enter func192,ntmps192
  go_wp2_with fail
  refine (wS i.o _ n.o).mono ?_;rintro q r ⟨rfl,rfl⟩;go_wp2_with (first | (at_lookup;refine uP _ rfl _ _ _ false rfl _ _ _ rfl rfl t.o ?_))
  go_ret;exact ⟨rfl,fun _=>rfl,fun e=>absurd e eW⟩
theorem WK {L:List ByteArray} {j:Nat} {s:ByteArray} (h:L[j]?=some s):nO (L.take j) (L.drop j)=if eF (L.take j) s≠0 then eF (L.take j) s else nO (L.take (j+1)) (L.drop (j+1)):=by
 rw [WE h];unfold eF;cases vE s <;> cases aI (L.take j) s <;> simp
theorem WJ {x:SlW ByteArray} {v:Int} {w:World} (B:uGn w w.heap.size x) (P:(if 65535 < x.L.length then (15:Int) else nO [] x.L)=v) :
 Calls prog 151 #[x.val] w fun e w'=>e=.returned (.int .i64 v)/\Ab w w':=by
 have W:=uA B;have g:=B.len;have E:=B.nm;unfold maxLen at E;obtain ⟨A,n,c,L⟩:=x;have g:L.length=n:=g;have E:n<=2 ^ 63 - 1:=E;have a:(if 65535 < n then (15:Int) else nO [] L)=v:=by rw [<-P,<- g]
 clear P B;show Calls prog 151 #[.slice A n c] w _;by_cases C:65535 < n
 ·have X:(65535:Int) < (n:Int):=by omega
  rw [if_pos C] at a;obtain rfl:v=15:=a.symm;clear C a g;go_enter func151,ntmps151
  go_wp2;go_ret;exact ⟨rfl,Below.refl _ _⟩
 have X:(n:Int)<=65535:=by omega
 rw [if_neg C] at a;have Y:=uA a;have d:=uA g;have F:=uA (nQ.made w);have G:=uA (uB w (.map #[] 0));have Z:=@run_makeMap prog;clear C a g;go_enter func151,ntmps151
 go_wp2;go_loopw [13] (fun i wr=>∃ j:Nat,i=.int .i64 (j:Int)/\j<=n/\Hdd (nO (L.take j) (L.drop j)=v)/\Hdd (nQ w.heap.size (L.take j) wr)/\Hdd (Ab w wr)) (fun i _=>n - (intOf i).toNat)
 case atStart=>exact ⟨0,rfl,Am _,uA Y.o,uA F.o,uA G.o⟩
 case round=>
  obtain ⟨j,rfl,hj,H,HS,l⟩:=hrel;by_cases a0:j < n
  ·have Q:(j:Int) < (n:Int):=bB;obtain ⟨s,D⟩:∃ p,L[j]?=some p:=⟨_,Ad (by have:L.length=n:=d.o;omega)⟩;have m:uGn wr w.heap.size ⟨A,n,c,L⟩:=SlH.below W.o l.o fun _ h=>h
   obtain ⟨b,o,I,_,r,R⟩:=m.at_ D;have I:A=some ⟨b,o,none⟩:=I;subst I;have cs:wr.cell? ⟨b,o+j,none⟩=some (.string s):=by have h1:=R 0 _ rfl;rwa [Ey] at h1
   have S:=uA (WK D);obtain ⟨q,J⟩:∃ q,eF (L.take j) s=q:=⟨_,rfl⟩;have T:=uA J;have U:=uA (JJ HS.o (by rw [B9];unfold maxLen;omega) r J);have HT:=uA (dB D);clear D m r R J;by_cases t:q=0
   ·subst t;have K:=uA (show nO (L.take (j+1)) (L.drop (j+1))=v by rw [<-H.o,S.o,if_neg (by rw [T.o];simp)]);go_wp2_with fail
    refine U.o.mono ?_;rintro e1 V ⟨rfl,_,u⟩;obtain ⟨y,z⟩:=u rfl;have M:=uA (show nQ w.heap.size (L.take (j+1)) V by rw [HT.o];exact y);have N:=uA (l.o.grown z l.o.size (fun k e=>by injection e with e;omega));clear u y z;go_wp2;go_roundw
    case rel=>exact ⟨j+1,by go_num,bB,uA K.o,uA M.o,uA N.o⟩
    case measure=>simp [intOf];omega
   ·have t0:(q != 0)=true:=(by simp [t]);have f:=uA (show v=q by rw [<-H.o,S.o,T.o,if_pos t]);have O:=uA t;clear t;go_wp2_with fail
    refine U.o.mono ?_;rintro e1 V ⟨rfl,u,_⟩;obtain rfl:=u O.o;clear u;go_wp2;go_ret;exact ⟨congrArg (fun v=>Ending.returned (.int .i64 v)) f.o.symm,l.o⟩
  ·obtain rfl:n=j:=by omega
   have f:=uA (show v=0 by rw [<-H.o];exact ST (by have:L.length=n:=d.o;omega));go_wp2;go_ret;exact ⟨congrArg (fun v=>Ending.returned (.int .i64 v)) f.o.symm,l.o⟩
theorem uAh {nt:Nat} {L:List LcV} {j:Nat} {x:LcV} (h:L[j]?=some x):zV nt ((L.take j).map LcV.name) (L.drop j)=if eF ((L.take j).map LcV.name) x.name≠0 then eF ((L.take j).map LcV.name) x.name else if vD x.ty (nt:Int)=false then 3 else zV nt ((L.take (j+1)).map LcV.name) (L.drop (j+1)):=by
 rw [XH h];unfold eF;have a:(x.ty < 0\/(nt:Int)<=x.ty)↔vD x.ty (nt:Int)=false:=by rw [wP];omega
 cases vE x.name
 ·simp
 ·cases aI ((L.take j).map LcV.name) x.name
  ·simp only [a,Bool.true_eq_false,Bool.false_eq_true,if_false,ne_eq,not_true_eq_false]
  ·simp
theorem XJ {x:SlW LcW} {nt:Nat} {v:Int} {w:World} (O:SlH w w.heap.size 2 cLc (fun y=>uH y.ty/\y.name.size<=maxLen) x) (R:nt<=maxLen) (hv:(if 65535 < x.L.length then (15:Int) else zV nt [] (x.L.map LcW.v))=v) :
 Calls prog 153 #[x.val,.int .i64 (nt:Int)] w fun e w'=>e=.returned (.int .i64 v)/\Ab w w':=by
 have HX:=uA O;have G:=O.len;have S:=O.nm;unfold maxLen at S R;obtain ⟨A,n,c,L⟩:=x;have G:L.length=n:=G;have S:n<=2 ^ 63 - 1:=S;have d:(if 65535 < n then (15:Int) else zV nt [] (L.map LcW.v))=v:=by rw [<-hv,<- G]
 clear hv O;show Calls prog 153 #[.slice A n c,.int .i64 (nt:Int)] w _;by_cases P:65535 < n
 ·have tb:(65535:Int) < (n:Int):=by omega
  rw [if_pos P] at d;obtain rfl:v=15:=d.symm;clear P d G;go_enter func153,ntmps153
  go_wp2;go_ret;exact ⟨rfl,Below.refl _ _⟩
 have tb:(n:Int)<=65535:=by omega
 rw [if_neg P] at d;have HV:=uA d;have u:=uA G;have T:=uA (nQ.made w);have U:=uA (uB w (.map #[] 0));have a5:=@run_makeMap prog;clear P d G;go_enter func153,ntmps153
 go_wp2;go_loopw [15] (fun i wr=>∃ j:Nat,i=.int .i64 (j:Int)/\j<=n/\Hdd (zV nt (((L.map LcW.v).take j).map LcV.name) ((L.map LcW.v).drop j)=v)/\Hdd (nQ w.heap.size (((L.map LcW.v).take j).map LcV.name) wr)/\Hdd (Ab w wr)) (fun i _=>n - (intOf i).toNat)
 case atStart=>exact ⟨0,rfl,Am _,uA HV.o,uA T.o,uA U.o⟩
 case round=>
  obtain ⟨j,rfl,hj,Q,V,l⟩:=hrel;by_cases a6:j < n
  ·have a4:(j:Int) < (n:Int):=bB;obtain ⟨⟨s,m⟩,W⟩:∃ p,L[j]?=some p:=⟨_,Ad (by have:L.length=n:=u.o;omega)⟩;have C:(L.map LcW.v)[j]?=some ⟨s,m⟩:=by rw [Ar,W];rfl
   have H:SlH wr w.heap.size 2 cLc (fun y=>uH y.ty/\y.name.size<=maxLen) ⟨A,n,c,L⟩:=SlH.below HX.o l.o fun _ h=>h
   obtain ⟨b,o,X,_,I,Y⟩:=H.at_ W;have X:A=some ⟨b,o,none⟩:=X;subst X;have a7:wr.cell? ⟨b,o+j*2,none⟩=some (.string s):=Y 0 _ rfl;have a8:wr.cell? ⟨b,o+j*2+1,none⟩=some (.int .i64 m):=Y 1 _ rfl;have Z:=uA (uAh (nt:=nt) C);obtain ⟨q,hq⟩:∃ q,eF (((L.map LcW.v).take j).map LcV.name) s=q:=⟨_,rfl⟩;have HQ:=uA hq;have D:=(Below.refl wr.heap.size wr).alloc (Ae _) (.cells #[.string s,.int .i64 m] 125);have f:=uA D;have a0:=uA (V.o.block (D.block _ V.o.lt));have J:=uA V.o.lt;have HC:=uA (JJ a0.o (by rw [Ao,B9,Ao];unfold maxLen;omega) I.2 hq);have HT:=uA (show ((L.map LcW.v).take (j+1)).map LcV.name=((L.map LcW.v).take j).map LcV.name++[s] by rw [dB C,By];rfl);clear W C H I Y hq D;by_cases K:q=0
   ·subst K;obtain ⟨ti,E⟩:∃ z,vD m (nt:Int)=z:=⟨_,rfl⟩;have r:=uA E;cases ti
    ·have g:=uA (show v=3 by rw [<-Q.o,Z.o,if_neg (by rw [HQ.o];simp),if_pos r.o]);clear E;go_wp2_with fail
     refine HC.o.mono ?_;rintro e1 M ⟨rfl,_,B⟩;obtain ⟨t,a⟩:=B rfl;have N:=((Aa l.o f.o).grown a (Ai l.o.size f.o.size) (fun k e=>by injection e with e;omega));have F:=uA N;have x1:M.cell? ⟨wr.heap.size,1,none⟩=some (.int .i64 m):=a.cell (show (wr.alloc (.cells #[.string s,.int .i64 m] 125)).cell? ⟨wr.heap.size,1,none⟩=some (.int .i64 m) from uE (heap_alloc_new wr _) 1) (fun e=>by injection e with e;have h9:=J.o;have e2:wr.heap.size=w.heap.size:=e;omega);clear B t a N;go_wp2_with fail
     refine (xE r.o _).mono ?_;rintro e2 w2 ⟨rfl,rfl⟩;go_wp2;go_ret;exact ⟨congrArg (fun v=>Ending.returned (.int .i64 v)) g.o.symm,F.o⟩
    ·have a1:=uA (show zV nt (((L.map LcW.v).take (j+1)).map LcV.name) ((L.map LcW.v).drop (j+1))=v by rw [<-Q.o,Z.o,if_neg (by rw [HQ.o];simp),if_neg (by rw [r.o];simp)]);clear E;go_wp2_with fail
     refine HC.o.mono ?_;rintro e1 M ⟨rfl,_,B⟩;obtain ⟨t,a⟩:=B rfl;have a2:=uA (show nQ w.heap.size (((L.map LcW.v).take (j+1)).map LcV.name) M by rw [HT.o];exact t);have F:=uA ((Aa l.o f.o).grown a (Ai l.o.size f.o.size) (fun k e=>by injection e with e;omega));have x1:M.cell? ⟨wr.heap.size,1,none⟩=some (.int .i64 m):=a.cell (show (wr.alloc (.cells #[.string s,.int .i64 m] 125)).cell? ⟨wr.heap.size,1,none⟩=some (.int .i64 m) from uE (heap_alloc_new wr _) 1) (fun e=>by injection e with e;have h9:=J.o;have e2:wr.heap.size=w.heap.size:=e;omega);clear B t a;go_wp2_with fail
     refine (xE r.o _).mono ?_;rintro e2 w2 ⟨rfl,rfl⟩;go_wp2;go_roundw
     case rel=>exact ⟨j+1,by go_num,bB,uA a1.o,uA a2.o,uA F.o⟩
     case measure=>simp [intOf];omega
   ·have t0:(q != 0)=true:=(by simp [K]);have g:=uA (show v=q by rw [<-Q.o,Z.o,HQ.o,if_pos K]);have a3:=uA K;clear K;go_wp2_with fail
    refine HC.o.mono ?_;rintro e1 M ⟨rfl,B,_⟩;obtain rfl:=B a3.o;clear B;go_wp2;go_ret;exact ⟨congrArg (fun v=>Ending.returned (.int .i64 v)) g.o.symm,(Aa l.o f.o)⟩
  ·obtain rfl:n=j:=by omega
   have g:=uA (show v=0 by rw [<-Q.o];exact TT (by rw [Ao];have:L.length=n:=u.o;omega));go_wp2;go_ret;exact ⟨congrArg (fun v=>Ending.returned (.int .i64 v)) g.o.symm,l.o⟩
theorem cH {x:TyW} {er rg v:Int} (h:yB x.t er rg=v) (w:World) (a:wF w w.heap.size x) :
 Calls prog 193 #[xU x,.int .i64 er,.int .i64 rg] w fun e w'=>e=.returned (.int .i64 v)/\Ab w w':=h ▸ kR x er rg w a
structure WL (b n:Nat) (pre:List Ty) (w:World):Prop where
 box:w.cell? ⟨b+1,0,none⟩=some (.slice (some ⟨b,0,none⟩) n n)
 d:fN b n pre w
 m:DP (b+2) pre w
 sz:b+3<=w.heap.size
theorem WL.below {b n:Nat} {pre:List Ty} {w w':World} (h:WL b n pre w) (a:Ab w w'):WL b n pre w':=
 ⟨(a.cell (p:=⟨b+1,0,none⟩) (by have:=h.sz;simp;omega)).trans h.box,h.d.block (a.block _ (by have:=h.sz;omega)),h.m.block (a.block _ (by have:=h.sz;omega)),Ai h.sz a.size⟩
def uH6 (L:List TyW) (rg:Int) (w:World) (n k:Nat) (wr:World):Prop:=
 xY (tys L) rg=aC rg ((tys L).take k) ((tys L).drop k)/\TyOk ((tys L).take k) rg/\WL w.heap.size n ((tys L).take k) wr/\Ab w wr
theorem TF {l:List Ty} {r:Int} (h:TyOk l r):∀ v∈wT l,0<=v/\v<=65535:=fun v a=>by
 obtain ⟨j,c⟩:=B2 a;have:=XY h (j:Int);unfold mK at this;rw [A3,Bn,c] at this;exact this
theorem TyOk.b {l:List Ty} {r:Int} (h:TyOk l r) (n:∀ t∈l,uH t.kind/\uH t.region/\uH t.elem):∀ t∈l,TyB t:=fun t e=>by
 obtain ⟨j,g⟩:=B2 e;have c:=h.own g;obtain ⟨i,k,m⟩:=n t e;have o:=(Ah.1 g).1;have p:=h.len;by_cases d:t.kind=4
 ·refine ⟨i,k,m,(c.2.2.2.2.2 d).2,fun f a=>?_⟩;have:=c.2.2.2.2.1 f (by rw [vY d];exact a);omega
 ·have a:=c.2.2.1 d;exact ⟨i,k,m,by rw [a];simp,fun f h=>by rw [a] at h;cases h⟩
theorem TyOk.snoc {l:List Ty} {r:Int} (h:TyOk l r) {t:Ty} (e:l.length < 65535) (d:mA l t r=0):TyOk (l++[t]) r:=by
 refine ⟨by simp;omega,fun j u a=>?_⟩;rcases Bs j l.length with hj | hj
 ·rw [Cr hj] at a;rw [D4 bB];exact h.err j u a
 ·have c:j < (l++[t]).length:=(Ah.1 a).1;simp only [Aw,Cv] at c;obtain rfl:j=l.length:=by omega
  rw [B4 (Ae _),D3] at a;obtain rfl:t=u:=by simpa using a
  rw [Gy];exact d
theorem SF (A:Option Addr) (n c:Nat) (rg:Int) (w:World) (f:65535 < n) (a:n<=maxLen) :
 Calls prog 152 #[.slice A n c,.int .i64 rg] w fun e w'=>e=.returned (.int .i64 15)/\Ab w w':=by
 have d:(65535:Int) < (n:Int):=by omega
 unfold maxLen at a;go_enter func152,ntmps152
 go_wp2;go_ret;exact ⟨rfl,Below.refl _ _⟩
theorem GW (A:Option Addr) (n c:Nat) (L:List TyW) (rg:Int) (w:World) (hA:yH w w.heap.size A n L) (hn:n<=65535) :
 Calls prog 152 #[.slice A n c,.int .i64 rg] w fun e w'=>e=.returned (.int .i64 (xY (tys L) rg))/\Below w.heap.size w w':=by
 obtain ⟨i0,hi,b1,b2,b3⟩:=info_parts qY;have HA:=uA hA;have HL:=uA hA.len;have b4:¬(65535:Int) < (n:Int):=by omega
 have bt:=@run_makeMap prog;have b5:Hdd (Below w.heap.size w (((w.alloc (.cells (madeCells #[.int .i64 0] n) 3)).alloc (.cells #[.slice (some ⟨w.heap.size,0,none⟩) n n] 60)).alloc (.map #[] 0))):=(((Below.refl _ _).alloc (Ae _) _).alloc nF _).alloc (by simp;omega) _;have b6:Hdd (uH6 L rg w n 0 (((w.alloc (.cells (madeCells #[.int .i64 0] n) 3)).alloc (.cells #[.slice (some ⟨w.heap.size,0,none⟩) n n] 60)).alloc (.map #[] 0))):=by
  refine ⟨rU (by rw [zE,hA.len];exact hn) rg,⟨nF,fun j t h=>by simp at h⟩,⟨by simp [go_sem],⟨fun j v h=>by simp [wT,yT] at h,fun j _ hj=>⟨0,?_⟩,fun j=>by simp [go_sem]⟩,?_,nF⟩,b5.o⟩
  ·rw [Ef _ _ _ (by simp;omega),Ef _ _ _ nF];exact TM w n 3 hj
  ·refine ⟨0,.map [],?_,Ae _,fun t _=>?_,fun t h=>by simp [Maps.has] at h⟩
   ·have h0:=Cu (H:=Unit) ((w.alloc (.cells (madeCells #[.int .i64 0] n) 3)).alloc (.cells #[.slice (some ⟨w.heap.size,0,none⟩) n n] 60)) prog 293 (plainElem prog 4);simp only [Ak] at h0;exact h0
   ·simp [Maps.has]
 clear hA;go_enter func152,ntmps152
 go_wp2_with (refine wpList_make_row _ rfl _ _ 60 rfl 3 i0 _ underlying60 hi b1 b2 rfl .i64 .i64 n rfl rfl (by rw [b3];omega) bB ?_)
 go_loopw [20] (fun i wr=>∃ k:Nat,i=.int .i64 (k:Int)/\k<=n/\Hdd (uH6 L rg w n k wr)) (fun i _=>n - (intOf i).toNat)
 case atStart=>exact ⟨0,rfl,Am _,b6.o⟩
 case round=>
  obtain ⟨k,rfl,hk,Q⟩:=hrel;by_cases b7:k < n
  ·have bs:(k:Int) < (n:Int):=bB;have s:∃ a,L[k]?=some a:=⟨_,Ad (by have:=HL.o;omega)⟩;obtain ⟨x,hx⟩:=s;obtain ⟨g,o,rfl,bu,h1,c0,c1,c2,c3,c4⟩:=(HA.o.below Q.o.2.2.2).at_ hx;have a7:=Q.o.2.2.2.size;have R:Ab wr (wr.alloc (.cells (c5 x).toArray 123)):=(Below.refl _ _).alloc (Ae _) _;have HX:=uA (((h1.more a7).below R).more (B':=(wr.alloc (.cells (c5 x).toArray 123)).heap.size) nF);have ab:=uA (Q.o.2.2.2.alloc a7 (.cells (c5 x).toArray 123));have Z:=nK hx;have D:=jI (r:=rg) Z;have a0:((tys L).take k).length=k:=by rw [B9,zE];have:=HL.o;omega
   have s:∃ v,yB x.t (k:Int) rg=v:=⟨_,rfl⟩;obtain ⟨v,hv⟩:=s;have HV:=uA hv;by_cases S:v=0
   ·subst S;have ak:=(fE.1 hv).2.2.2.2.1;have s:∃ b,b=w.heap.size:=⟨_,rfl⟩;obtain ⟨b,hb⟩:=s;have s:∃ pre,pre=(tys L).take k:=⟨_,rfl⟩;obtain ⟨pre,E⟩:=s;have s:∃ P,P=pO (wT pre) x.t:=⟨_,rfl⟩;obtain ⟨P,al⟩:=s;have T:=uA al;have a8:pre.length=k:=by rw [E];exact a0
    have l:=uA a8;have F:=uA E;have am:TyOk pre rg:=by rw [E];exact Q.o.2.1
    have ac:WL b n pre wr:=by rw [E,hb];exact Q.o.2.2.1
    have a9:wF wr b x:=by rw [hb];exact h1
    have ad:=uA am;have an:b+3<=wr.heap.size:=ac.sz;have ao:=ac.below R;have b8:=uA ao;have b9:=uA (a9.below (R.mono (Ai (C7 _ _) an)));have ba:=uA Z;have bb:=uA hx;have G:=uA D;have bc:=uA ak;clear hx h1 R Z D a0 hv ak al E am ac a9 ao a8;go_wp2_with fail
    refine (cH HV.o _ HX.o).mono ?_;rintro e I ⟨rfl,d⟩;have ap:=uA d;have J:=b8.o.below d;have aq:=uA J;have bd:=uA J.d;have l8:wr.heap.size < (wr.alloc (.cells (c5 x).toArray 123)).heap.size:=nF;have f0:I.cell? ⟨wr.heap.size,0,none⟩=some (.int .i64 x.t.kind):=(d.cell (p:=⟨wr.heap.size,0,none⟩) l8).trans (by simp [go_sem,c5]);have f1:I.cell? ⟨wr.heap.size,1,none⟩=some (.bool x.t.mut_):=(d.cell (p:=⟨wr.heap.size,1,none⟩) l8).trans (by simp [go_sem,c5]);have f2:I.cell? ⟨wr.heap.size,2,none⟩=some (.int .i64 x.t.region):=(d.cell (p:=⟨wr.heap.size,2,none⟩) l8).trans (by simp [go_sem,c5]);have f3:I.cell? ⟨wr.heap.size,3,none⟩=some (.int .i64 x.t.elem):=(d.cell (p:=⟨wr.heap.size,3,none⟩) l8).trans (by simp [go_sem,c5]);have f4:I.cell? ⟨wr.heap.size,4,none⟩=some (.slice x.A x.n x.c):=(d.cell (p:=⟨wr.heap.size,4,none⟩) l8).trans (by simp [go_sem,c5]);have K:wr.heap.size < I.heap.size:=Ap l8 d.size;have q5:I.cell? ⟨b+1,0,none⟩=some (.slice (some ⟨b,0,none⟩) n n):=J.box;have U:wF I b x:=b9.o.below (d.mono (by simp;omega));have hS:=uA fun (w':World) (M:Turn (fun q=>q=b) I w') (hd:fN b n pre w')=>(⟨M,hd,(M.cell (p:=⟨b+1,0,none⟩) (by show b+1 < _;omega) (by show ¬b+1=b;omega)).trans q5,
     (M.cell (p:=⟨wr.heap.size,0,none⟩) K (by show ¬wr.heap.size=b;omega)).trans f0,(M.cell (p:=⟨wr.heap.size,1,none⟩) K (by show ¬wr.heap.size=b;omega)).trans f1,(M.cell (p:=⟨wr.heap.size,2,none⟩) K (by show ¬wr.heap.size=b;omega)).trans f2,
     (M.cell (p:=⟨wr.heap.size,3,none⟩) K (by show ¬wr.heap.size=b;omega)).trans f3,(M.cell (p:=⟨wr.heap.size,4,none⟩) K (by show ¬wr.heap.size=b;omega)).trans f4⟩ :
     Turn (fun q=>q=b) I w'/\fN b n pre w'/\w'.cell? ⟨b+1,0,none⟩=some (.slice (some ⟨b,0,none⟩) n n)/\w'.cell? ⟨wr.heap.size,0,none⟩=some (.int .i64 x.t.kind)/\w'.cell? ⟨wr.heap.size,1,none⟩=some (.bool x.t.mut_) /\
     w'.cell? ⟨wr.heap.size,2,none⟩=some (.int .i64 x.t.region)/\w'.cell? ⟨wr.heap.size,3,none⟩=some (.int .i64 x.t.elem)/\w'.cell? ⟨wr.heap.size,4,none⟩=some (.slice x.A x.n x.c))
    have HC:=uA fun (w':World) (M:Turn (fun q=>q=b) I w') (hd:fN b n pre w')=>
     uG8 x w' ((U.below (M.below (B:=b) bB fun q hq=>by omega)).more (by have:=M.size;omega)) (b+1) b n n (wT pre) ((M.cell (p:=⟨b+1,0,none⟩) (by show b+1 < _;omega) (by show ¬b+1=b;omega)).trans q5) hd.dep (by have:=M.size;omega) (by have:=M.size;omega)
      (fun p hp=>by have:=bc.o p hp;have hl:(wT pre).length=pre.length:=zN _ _;have:=l.o;omega) (by have hl:(wT pre).length=pre.length:=zN _ _;have:=l.o;omega) hn (TF ad.o)
    rw [<-T.o] at HC;have V:=uA hb;rw [<-hb];have ar:=uA U;have au:=uA (Below.trans (ab.o.mono (B':=b) bB) (d.mono (by simp;omega)));clear J d l8 U hb;go_wp2_with fail
    go_region_held3 (fun w'=>Turn (fun q=>q=b) I w'/\fN b n pre w'/\w'.cell? ⟨b+1,0,none⟩=some (.slice (some ⟨b,0,none⟩) n n)/\w'.cell? ⟨wr.heap.size,0,none⟩=some (.int .i64 x.t.kind)/\w'.cell? ⟨wr.heap.size,1,none⟩=some (.bool x.t.mut_) /\
     w'.cell? ⟨wr.heap.size,2,none⟩=some (.int .i64 x.t.region)/\w'.cell? ⟨wr.heap.size,3,none⟩=some (.int .i64 x.t.elem)/\w'.cell? ⟨wr.heap.size,4,none⟩=some (.slice x.A x.n x.c))
     (first | exact hS.o _ (Turn.refl _ _).drew (bd.o.block rfl) | exact hS.o _ a2 N | exact hS.o _ (a2.setCell (.inl rfl) _) (N.again l.o _))
     ((go_at_call 194;go_split_ands;have a1:=(by assumption:Turn (fun q=>q=b) I _);have ae:=(by assumption:fN b n pre _);refine (HC.o _ a1 ae).mono ?_;rintro e w3 ⟨rfl,af⟩;have a2:=a1.trans (Turn.of_below af);have N:=ae.block (af.block b (by have:=a1.size;omega));have av:=uA N;have s:=N.rest k (by have:=l.o;omega) b7;obtain ⟨u3,aw⟩:=s;have be:=N.fz k))
    all_goals
     have bf:=hS.o _ (a2.setCell (a:=⟨b,k,none⟩) (.inl rfl) (.int .i64 P)) (av.o.again l.o P);obtain ⟨t4,_,r5,r0,r1,r2,r3,r4⟩:=bf;have rk:(w3.setCell ⟨b,k,none⟩ (.int .i64 P)).cell? ⟨b,k,none⟩=some (.int .i64 P):=Dk _ _ _ aw;have ag:=av.o.set (t:=x.t) (by have:=l.o;omega);rw [l.o,<- T.o] at ag;have bg:=uA ag;have bh:wr.heap.size < (w3.setCell ⟨b,k,none⟩ (.int .i64 P)).heap.size:=Ap K t4.size;have bi:=uA (aq.o.m.block (t4.block (b+2) bB (by show ¬b+2=b;omega)));have aa:=uA ((ar.o.below (t4.below (B:=b) bB fun q hq=>by omega)).more (B':=(w3.setCell ⟨b,k,none⟩ (.int .i64 P)).heap.size) bB);have ah:=uA (au.o.trans (t4.below (B:=b) bB fun q hq=>by omega));clear ag t4 aw be a2 N a1 ae hS HC af f0 f1 f2 f3 f4 q5;generalize w3.setCell ⟨b,k,none⟩ (.int .i64 P)=w4 at *;have W:Hdd (Below w.heap.size w w4):=by show Below w.heap.size w w4;rw [<-V.o];exact ah.o
     by_cases bj:32 < P
     ·have HF:=uA (show xY (tys L) rg=19 from by
       have he:mA pre x.t rg=19:=by
        unfold mA;rw [l.o,if_neg (by rw [HV.o];simp),<- T.o,if_pos bj]
       rw [Q.o.1,G.o,<- F.o,he,if_neg eW])
      go_wp2_with fail
      go_ret;exact ⟨kC HF.o,W.o⟩
     ·have ai:TyB x.t:=by
       have ho:=fE.1 HV.o;have O:=(HA.o.one x (Aj bb.o)).ok;by_cases h4:x.t.kind=4
       ·exact ⟨O.k,O.r,O.e,(ho.2.2.2.2.2 h4).2,fun f hf=>by have:=ho.2.2.2.2.1 f (by rw [vY h4];exact hf);omega⟩
       ·have hf:=ho.2.2.1 h4;exact ⟨O.k,O.r,O.e,by rw [hf];simp,fun f h=>by rw [hf] at h;cases h⟩
      have a3:=uA ai;have bk:x.n<=65535:=by rw [<-aa.o.ok.len];exact ai.n
      have R5:=uA r5;have bl:=uA bh;have bv:=uA an;clear ai b4;go_wp2_with fail
      clear r0 r1 r2 r3 r4 r5 rk;refine (TD x w4 aa.o a3.o.f bk).mono ?_;rintro e w5 ⟨rfl,a4⟩;have aj:=uA (a4.trans ((Below.refl w5.heap.size w5).alloc (Ae _) (.cells #[.int .i64 x.t.kind,.int .i64 x.t.region,.int .i64 x.t.elem,.bool x.t.mut_,.string (strOfNums (kb x.t.fields))] 293) |>.mono a4.size));have a5:=bi.o.block (aj.o.block (b+2) bB);have bw:=uA a5;have z:=a5.look a3.o;have ax:=uA (W.o.trans (aj.o.mono (by have:=ah.o.size;have:=V.o;omega)));by_cases C:x.t∈pre
      ·have HF:=uA (show xY (tys L) rg=21 from by
        have he:mA pre x.t rg=21:=by
         unfold mA;rw [l.o,if_neg (by rw [HV.o];simp),<- T.o,if_neg (show ¬32 < P by omega),if_pos C]
        rw [Q.o.1,G.o,<- F.o,he,if_neg eW])
       rw [decide_eq_true C] at z;have X:=uA z;clear z a5 C a4;go_wp2_with (at_lookup;refine uP _ rfl _ _ _ false rfl _ _ _ rfl rfl X.o ?_)
       go_ret;exact ⟨kC HF.o,ax.o⟩
      ·have he:mA pre x.t rg=0:=by
        unfold mA;rw [l.o,if_neg (by rw [HV.o];simp),<- T.o,if_neg (show ¬32 < P by omega),if_neg C]
       have HE:=uA he;rw [decide_eq_false C] at z;have X:=uA z;obtain ⟨m,Dm,o1,o2,o3,o4⟩:=a5;have ay:=uA o1;have bm:=uA o3;have bn:=uA o4;have bo:m < maxLen:=by have:=l.o;unfold maxLen;omega
       clear z C he o1 o3 o4 a4;go_wp2_with (first
        | (at_lookup;refine uP _ rfl _ _ _ false rfl _ _ _ rfl rfl X.o ?_)
        | (at_mapUpdate;refine wpList_mapUpdate_own _ rfl _ _ _ 289 rfl 293 4 iH ZM _ (b+2) m Dm rfl ay.o bo _ _ (qM x.t) rfl rfl a3.o.key (.lit (.bool true)) [] (plainElem_bool underlying4 true) ?_;intro w7 Y az;have bp:=uA Y;have bq:=uA az;clear Y az))
       have a6:Turn (fun q=>q=b+2) w4 w7:=(Turn.of_below aj.o).grown bq.o (fun q hq=>by injection hq with hq;exact .inl hq.symm);have br:b=w.heap.size:=V.o;subst br;go_roundw
       case rel=>
        refine ⟨k+1,by go_num,bB,?_⟩;have b0:(tys L).take (k+1)=pre++[x.t]:=(by rw [cO ba.o,F.o]);refine ⟨?_,?_,?_,?_⟩
        ·rw [Q.o.1,G.o,<- F.o,if_pos HE.o]
        ·rw [b0];exact ad.o.snoc (by have:=l.o;omega) HE.o
        ·rw [b0];refine ⟨(a6.cell (p:=⟨w.heap.size+1,0,none⟩) (by show w.heap.size+1 < _;omega) (by show ¬w.heap.size+1=w.heap.size+2;omega)).trans R5.o,bg.o.block (a6.block w.heap.size bB bB),?_,by have:=a6.size;have:=bl.o;omega⟩;refine DP.put (ad.o.b fun u hu=>?_) ay.o o2 bm.o bn.o a3.o bp.o;rw [F.o] at hu;obtain ⟨y,hy,rfl⟩:=Bw.1 (Ex hu);have:=(HA.o.one y hy).ok;exact ⟨this.k,this.r,this.e⟩
        ·exact W.o.trans (a6.below (by have:=ah.o.size;have:=V.o;omega) fun q hq=>by have:=V.o;omega)
       case measure=>simp [intOf];omega
   ·have bx:(v != 0)=true:=by rw [bne_iff_ne];exact S
    have HF:=uA (show xY (tys L) rg=v from by
     have he:mA ((tys L).take k) x.t rg=v:=by
      unfold mA;rw [a0,hv,if_pos S]
     rw [Q.o.1,D,he,if_neg S])
    clear hx h1 R Z D a0 hv S;go_wp2_with fail
    refine (cH HV.o _ HX.o).mono ?_;rintro e I ⟨rfl,d⟩;have ap:=uA (Aa ab.o d);clear d;go_wp2_with fail
    go_ret;exact ⟨kC HF.o,ap.o⟩
  ·obtain rfl:k=n:=by omega
   have HF:Hdd (xY (tys L) rg=0):=Q.o.1.trans (rC (by rw [zE,HL.o];exact Ae _));go_wp2;go_ret;exact ⟨kC HF.o,Q.o.2.2.2⟩
theorem OE (A:Option Addr) (n c:Nat) (L:List TyW) (rg:Int) (w:World) (a:yH w w.heap.size A n L) (d:n<=maxLen) :
 Calls prog 152 #[.slice A n c,.int .i64 rg] w fun e w'=>e=.returned (.int .i64 (xY (tys L) rg))/\Ab w w':=by
 rcases Bs 65535 n with h | h
 ·rw [AZ (by rw [zE,a.len];exact h)];exact SF A n c rg w h d
 ·exact GW A n c L rg w a h
theorem UR {A:Option Addr} {n c:Nat} {L:List TyW} {rg v:Int} (h:xY (tys L) rg=v) (w:World) (a:yH w w.heap.size A n L) (d:n<=maxLen) :
 Calls prog 152 #[.slice A n c,.int .i64 rg] w fun e w'=>e=.returned (.int .i64 v)/\Ab w w':=h ▸ OE A n c L rg w a d
end Go.Proofs.YtnkjbjkoffgocaaGreatDoor
