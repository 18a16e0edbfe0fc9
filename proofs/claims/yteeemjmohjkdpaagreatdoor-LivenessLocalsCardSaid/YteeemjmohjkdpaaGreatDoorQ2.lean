/- Part 3 of the contracts and their mathematics. -/
import Derived.Test.YteeemjmohjkdpaaGreatDoorQ1
import Derived.Deep.RegionHeld3
import Derived.Maps.AppendAt
set_option linter.unusedVariables false
set_option linter.unusedSimpArgs false
set_option maxRecDepth 100000
set_option maxHeartbeats 8000000
namespace Go.Proofs.YteeemjmohjkdpaaGreatDoor
open Go.ChangeShapes Go.WideShapes Go.ChangeAt Go.RowKit
def fieldAt (P:Program) (fs:Array Field) (j off k:Nat) (t:TypeId):Bool:=match fs[j]? with
 | some f=>f.offset == off && P.cellsOf f.type == k && f.type == t
 | none=>false
def Fit {H:Type} (P:Program) (t:TypeId) (d:DataW H):Prop:=(d.weights P t).all (·≤reachBytes)=true
theorem Fit.of_sub {H:Type} {P:Program} {t t':TypeId} {d d':DataW H} (h:Fit P t d) (hs:∀ n∈d'.weights P t',n∈d.weights P t):Fit P t' d':=by
 unfold Fit at *
 rw [List.all_eq_true] at *
 exact fun n hn=>h n (hs n hn)
theorem Fit.part {H:Type} {P:Program} {e:TypeId} {fs:Array Field} (he:P.underlying e=some (.struct fs)) {parts:List (DataW H)} (h:Fit P e (.agg parts)) {j:Nat} {f:Field} {d:DataW H} (hf:fs[j]?=some f) (hd:parts[j]?=some d):Fit P f.type d:=by
 refine h.of_sub fun n hn=>?_
 have e1:(DataW.agg parts).weights P e=DataW.weightsEach P (fs.toList.map (·.type)) parts:=by simp [DataW.weights,he]
 rw [e1]
 exact DataW.weights_mem_each (by rw [List.getElem?_map,Array.getElem?_toList,hf];rfl) hd n hn
theorem weights_all_mem {H:Type} {P:Program} {e:TypeId}:∀ {ds:List (DataW H)} {d:DataW H},d∈ds→∀ n∈d.weights P e,n∈DataW.weightsAll P e ds
 | x :: r,d,h,n,hn=>by
  rw [DataW.weightsAll]
  rcases List.mem_cons.1 h with rfl | h
  ·
   exact List.mem_append_left _ hn
  ·
   exact List.mem_append_right _ (weights_all_mem h n hn)
theorem Fit.elem {H:Type} {P:Program} {t e:TypeId} (ht:P.underlying t=some (.slice e)) {es sp:List (DataW H)} (h:Fit P t (.slice es sp)) {d:DataW H} (hd:d∈es):Fit P e d:=by
 refine h.of_sub fun n hn=>?_
 have e1:(DataW.slice es sp).weights P t=(es.length+sp.length)*P.bytesOf e :: (DataW.weightsAll P e es++DataW.weightsAll P e sp):=by simp [DataW.weights,ht]
 rw [e1]
 exact List.mem_cons_of_mem _ (List.mem_append_left _ (weights_all_mem hd n hn))
theorem Fit.len {H:Type} {P:Program} {t e:TypeId} (ht:P.underlying t=some (.slice e)) {es sp:List (DataW H)} (h:Fit P t (.slice es sp)) (hb:0 < P.bytesOf e):es.length≤2 ^ 47:=by
 have e1:(DataW.slice es sp).weights P t=(es.length+sp.length)*P.bytesOf e :: (DataW.weightsAll P e es++DataW.weightsAll P e sp):=by simp [DataW.weights,ht]
 unfold Fit at h
 rw [e1,List.all_cons,Bool.and_eq_true] at h
 have h1:=of_decide_eq_true h.1
 have h2:es.length+sp.length≤(es.length+sp.length)*P.bytesOf e:=Nat.le_mul_of_pos_right _ hb
 unfold reachBytes at h1
 omega
theorem trodPart {H:Type} {enc:TypeId×Value→H} {P:Program} {W:World} {e:TypeId} {fs:Array Field} {fuel:Nat} {cs:List Value} {z:DataW H×List MemPlace} (he:P.underlying e=some (.struct fs)) {j off k:Nat} {t:TypeId} (hf:fieldAt P fs j off k t=true)
  (h:DataW.trod enc P W 0 (fun _=>true) true fuel e cs=some z):∃ m y,DataW.trod enc P W 0 (fun _=>true) true m t ((cs.drop off).take k)=some y∧(Fit P e z.1→Fit P t y.1):=by
 obtain ⟨ys,m,_,hz,_,hyl,hfld⟩:=DataW.trod_struct he h
 unfold fieldAt at hf
 split at hf
 ·
  rename_i f hj
  simp only [Bool.and_eq_true,beq_iff_eq] at hf
  obtain ⟨⟨h1,h2⟩,h3⟩:=hf
  have hb:=hfld j f hj
  rw [h1,h2] at hb
  have hy:ys[j]?=some (ys[j]'(by rw [hyl];exact (Array.getElem?_eq_some_iff.1 hj).1)):=List.getElem?_eq_getElem _
  refine ⟨m,ys[j]'(by rw [hyl];exact (Array.getElem?_eq_some_iff.1 hj).1),?_,fun hF=>?_⟩
  ·
   rw [←h3,hb]
   exact hy
  ·
   subst hz
   have:=Fit.part he hF hj (d:=(ys[j]'(by rw [hyl];exact (Array.getElem?_eq_some_iff.1 hj).1)).1) (by rw [List.getElem?_map,hy];rfl)
   rwa [h3] at this
 ·
  cases hf
theorem trodCellsF {H:Type} {enc:TypeId×Value→H} {P:Program} {W:World} {t e:TypeId} {fuel:Nat} {u:Value} {z:DataW H×List MemPlace} {α:Type} (f:α→List Value) (Q R:α→Prop) {k:Nat} (hk:0 < k) (hf:∀ x,(f x).length=k)
  (ht:P.underlying t=some (.slice e)) (hC:P.cellsOf e=k) (hB:0 < P.bytesOf e) (elem:∀ (fuel:Nat) (cs:List Value) (z:DataW H×List MemPlace),cs.length=k→DataW.trod enc P W 0 (fun _=>true) true fuel e cs=some z→∃ x,cs=f x∧Q x∧(Fit P e z.1→R x))
  (h:DataW.trod enc P W 0 (fun _=>true) true fuel t [u]=some z):∃ A n c L,u=.slice A n c∧n≤c∧c≤maxLen∧Cells W W.heap.size k f A n L∧(∀ x∈L,Q x)∧(Fit P t z.1→n≤2 ^ 47∧∀ x∈L,R x):=by
 rcases Go.Deep.open_slice ht h with ⟨hcs,_⟩ | ⟨a,len,cap,m,nn,D,Pl,hcs,_,hlc,hcm,hm,hz,hi⟩
 ·
  injection hcs with hcs
  subst hcs
  exact ⟨none,0,0,[],rfl,Nat.le_refl _,Nat.zero_le _,⟨rfl,fun h=>absurd h (by omega)⟩,(fun x hx=>by cases hx),fun _=>⟨by omega,fun x hx=>by cases hx⟩⟩
 ·
  injection hcs with hcs
  subst hcs
  simp only [if_true] at hm
  subst hm
  have hfit:Fit P t z.1→len≤2 ^ 47∧∀ i,i < len→Fit P e (D i):=fun hF=>by
   rw [hz] at hF
   refine ⟨by simpa using hF.len ht hB,fun i hi=>hF.elem ht (List.mem_map.2 ⟨i,List.mem_range.2 hi,rfl⟩)⟩
  have key:∀ i,i < len→∃ x:α,(Q x∧(Fit P t z.1→R x))∧∀ j v,(f x)[j]?=some v→W.cell? ((a.add (i*k)).add j)=some v:=by
   intro i hin
   obtain ⟨cs,hcs,htr⟩:=hi i (by omega)
   rw [hC] at hcs
   obtain ⟨_,hlen,hat⟩:=World.cells?_some hcs
   obtain ⟨x,rfl,hq,hr⟩:=elem nn cs _ hlen htr
   refine ⟨x,⟨hq,fun hF=>hr ((hfit hF).2 i hin)⟩,fun j v hv=>?_⟩
   have hj:j < k:=by have:=(List.getElem?_eq_some_iff.1 hv).1;rwa [hf] at this
   exact (hat j hj).trans hv
  obtain ⟨L,hL,hq⟩:=listL_of len key
  refine ⟨some a,len,m,L,rfl,hlc,hcm,⟨hL,fun hn=>?_⟩,fun x hx=>?_,fun hF=>⟨(hfit hF).1,fun x hx=>?_⟩⟩
  ·
   obtain ⟨x0,hx0⟩:∃ x,L[0]?=some x:=⟨_,List.getElem?_eq_getElem (by omega)⟩
   obtain ⟨v0,hv0⟩:∃ v,(f x0)[0]?=some v:=⟨_,List.getElem?_eq_getElem (by rw [hf];exact hk)⟩
   obtain ⟨b,o,spot⟩:=a
   have hc0:=(hq 0 x0 hx0).2 0 v0 hv0
   have hspot:spot=none:=by
    have:=World.cell?_spot hc0
    simpa [Addr.add] using this
   subst hspot
   have hadd:∀ i j,((⟨b,o,none⟩:Addr).add i).add j=⟨b,o+i+j,none⟩:=fun i j=>by unfold Addr.add;split <;> split <;> simp_all
   refine ⟨b,o,rfl,?_,fun i x hx j u hu=>?_⟩
   ·
    have:=cellLt hc0
    rw [hadd] at this
    exact this
   ·
    have:=(hq i x hx).2 j u hu
    rwa [hadd] at this
  ·
   obtain ⟨i,hix⟩:=List.getElem?_of_mem hx
   exact (hq i x hix).1.1
  ·
   obtain ⟨i,hix⟩:=List.getElem?_of_mem hx
   exact (hq i x hix).1.2 hF
structure FitBk (b:BkW):Prop where
 stmts:b.stmts.n≤2 ^ 47
 targets:b.term.targets.n≤2 ^ 47
 pl:b.term.pl.n≤2 ^ 47
 sts:∀ s∈b.stmts.L,s.pl.n≤2 ^ 47∧s.rv.pl.n≤2 ^ 47
structure FitBd (x:BdW):Prop where
 regions:x.regions.n≤2 ^ 47
 outl:x.outl.n≤2 ^ 47
 types:x.types.n≤2 ^ 47
 locals:x.locals.n≤2 ^ 47
 blocks:∀ b∈x.blocks.L,FitBk b
section
variable {H:Type} {enc:TypeId×Value→H} {P:Program} {W:World} {fuel:Nat} {u:Value} {t:TypeId} {z:DataW H×List MemPlace}
theorem one_int (ht:P.underlying t=some (.int .i64)) (h:DataW.trod enc P W 0 (fun _=>true) true fuel t [u]=some z):∃ x:Int,u=.int .i64 x∧IntR x:=by
 obtain ⟨x,q,_,w⟩:=DataW.trod_int ht h
 injection q with q
 exact ⟨x,q,rngL w⟩
theorem one_bool (ht:P.underlying t=some .bool) (h:DataW.trod enc P W 0 (fun _=>true) true fuel t [u]=some z):∃ b:Bool,u=.bool b:=by
 obtain ⟨b,q,_⟩:=DataW.trod_bool ht h
 injection q with q
 exact ⟨b,q⟩
theorem one_str (ht:P.underlying t=some .string) (h:DataW.trod enc P W 0 (fun _=>true) true fuel t [u]=some z):∃ s:ByteArray,u=.string s∧s.size≤maxLen:=by
 obtain ⟨s,q,_,w⟩:=DataW.trod_string ht h
 injection q with q
 exact ⟨s,q,w⟩
theorem one_slice {e:TypeId} {α:Type} (f:α→List Value) (Q R:α→Prop) {k:Nat} (hk:0 < k) (hf:∀ x,(f x).length=k) (ht:P.underlying t=some (.slice e)) (hC:P.cellsOf e=k) (hB:0 < P.bytesOf e)
  (elem:∀ (fuel:Nat) (cs:List Value) (z:DataW H×List MemPlace),cs.length=k→DataW.trod enc P W 0 (fun _=>true) true fuel e cs=some z→∃ x,cs=f x∧Q x∧(Fit P e z.1→R x)) (h:DataW.trod enc P W 0 (fun _=>true) true fuel t [u]=some z):∃ s:SlW α,u=.slice s.A s.n s.c∧SlH W W.heap.size k f Q s∧(Fit P t z.1→s.n≤2 ^ 47∧∀ x∈s.L,R x):=by
 obtain ⟨A,n,c,L,rfl,h1,h2,h3,h4,h5⟩:=trodCellsF f Q R hk hf ht hC hB elem h
 exact ⟨⟨A,n,c,L⟩,rfl,⟨h1,h2,h3,h4⟩,h5⟩
end
theorem len1 {cs:List Value} (h:cs.length=1):∃ u,cs=[u]:=by
 match cs,h with
 | [u],_=>exact ⟨u,rfl⟩
section
variable {H:Type} {enc:TypeId×Value→H} {W:World} {fuel:Nat} {cs:List Value} {u:Value} {z:DataW H×List MemPlace}
theorem trodInts (h:DataW.trod enc Tryz.prog W 0 (fun _=>true) true fuel 34 [u]=some z):∃ s:SlW Int,u=.slice s.A s.n s.c∧Ints W W.heap.size s∧(Fit Tryz.prog 34 z.1→s.n≤2 ^ 47∧∀ x∈s.L,True):=
 one_slice cInt IntR (fun _=>True) (by decide) cInt_len Tryz.underlying34 (by kernel_rfl) (of_decide_eq_true (by kernel_rfl)) (fun fuel cs z hl h=>by
  obtain ⟨u,rfl⟩:=len1 hl
  obtain ⟨x,rfl,hx⟩:=one_int Tryz.underlying3 h
  exact ⟨x,rfl,hx,fun _=>trivial⟩) h
theorem trodStrs (h:DataW.trod enc Tryz.prog W 0 (fun _=>true) true fuel 22 [u]=some z):∃ s:SlW ByteArray,u=.slice s.A s.n s.c∧Strs W W.heap.size s∧(Fit Tryz.prog 22 z.1→s.n≤2 ^ 47∧∀ x∈s.L,True):=
 one_slice cStr (fun x=>x.size≤maxLen) (fun _=>True) (by decide) cStr_len Tryz.underlying22 (by kernel_rfl) (of_decide_eq_true (by kernel_rfl)) (fun fuel cs z hl h=>by
  obtain ⟨u,rfl⟩:=len1 hl
  obtain ⟨x,rfl,hx⟩:=one_str Tryz.underlying9 h
  exact ⟨x,rfl,hx,fun _=>trivial⟩) h
theorem trodPl (hl:cs.length=2) (h:DataW.trod enc Tryz.prog W 0 (fun _=>true) true fuel 58 cs=some z):∃ x:PlW,cs=[.int .i64 x.l,.slice x.A x.n x.c]∧OnePl W W.heap.size x∧(Fit Tryz.prog 58 z.1→x.n≤2 ^ 47):=by
 match cs,hl with
 | [u0,u1],_=>
  obtain ⟨m0,y0,r0,q0⟩:=trodPart (j:=0) (off:=0) (k:=1) (t:=3) Tryz.underlying58 (by kernel_rfl) h
  obtain ⟨m1,y1,r1,q1⟩:=trodPart (j:=1) (off:=1) (k:=1) (t:=56) Tryz.underlying58 (by kernel_rfl) h
  obtain ⟨l,rfl,hl⟩:=one_int Tryz.underlying3 (show DataW.trod enc Tryz.prog W 0 (fun _=>true) true m0 3 [u0]=some y0 from r0)
  obtain ⟨A,n,c,L,rfl,h1,h2,h3,h4,h5⟩:=trodCellsF pV IntP (fun _=>True) (by decide) pV_len Tryz.underlying56 (by kernel_rfl) (of_decide_eq_true (by kernel_rfl)) (fun fuel cs z hl h=>by
   obtain ⟨p,e,hp⟩:=two_fields Tryz.underlying205 (by kernel_rfl) Tryz.underlying3 Tryz.underlying3 hl h
   exact ⟨p,e,hp,fun _=>trivial⟩) (show DataW.trod enc Tryz.prog W 0 (fun _=>true) true m1 56 [u1]=some y1 from r1)
  exact ⟨⟨l,A,n,c,L⟩,rfl,⟨h1,h2,hl,h3,h4⟩,fun hF=>(h5 (q1 hF)).1⟩
theorem trodOp (hl:cs.length=4) (h:DataW.trod enc Tryz.prog W 0 (fun _=>true) true fuel 69 cs=some z):∃ x:OpW,cs=cOp x∧OneOp W W.heap.size x:=by
 match cs,hl with
 | [u0,u1,u2,u3],_=>
  obtain ⟨m0,y0,r0,q0⟩:=trodPart (j:=0) (off:=0) (k:=1) (t:=3) Tryz.underlying69 (by kernel_rfl) h
  obtain ⟨m1,y1,r1,q1⟩:=trodPart (j:=1) (off:=1) (k:=2) (t:=58) Tryz.underlying69 (by kernel_rfl) h
  obtain ⟨m2,y2,r2,q2⟩:=trodPart (j:=2) (off:=3) (k:=1) (t:=2) Tryz.underlying69 (by kernel_rfl) h
  obtain ⟨x0,rfl,h0⟩:=one_int Tryz.underlying3 (show DataW.trod enc Tryz.prog W 0 (fun _=>true) true m0 3 [u0]=some y0 from r0)
  obtain ⟨p,e1,h1,_⟩:=trodPl (cs:=[u1,u2]) rfl (show DataW.trod enc Tryz.prog W 0 (fun _=>true) true m1 58 [u1,u2]=some y1 from r1)
  obtain ⟨x3,rfl,h3⟩:=one_int Tryz.underlying2 (show DataW.trod enc Tryz.prog W 0 (fun _=>true) true m2 2 [u3]=some y2 from r2)
  injection e1 with e1 e2
  injection e2 with e2 _
  subst e1 e2
  exact ⟨⟨x0,p,x3⟩,rfl,h0,h1,h3⟩
theorem trodOps (h:DataW.trod enc Tryz.prog W 0 (fun _=>true) true fuel 55 [u]=some z):∃ s:SlW OpW,u=.slice s.A s.n s.c∧Ops W W.heap.size s∧(Fit Tryz.prog 55 z.1→s.n≤2 ^ 47∧∀ x∈s.L,True):=
 one_slice cOp (OneOp W W.heap.size) (fun _=>True) (by decide) cOp_len Tryz.underlying55 (by kernel_rfl) (of_decide_eq_true (by kernel_rfl)) (fun fuel cs z hl h=>by
  obtain ⟨x,e,hx⟩:=trodOp hl h
  exact ⟨x,e,hx,fun _=>trivial⟩) h
theorem trodRv (hl:cs.length=7) (h:DataW.trod enc Tryz.prog W 0 (fun _=>true) true fuel 71 cs=some z):∃ x:RvW,cs=cRv x∧OneRv W W.heap.size x∧(Fit Tryz.prog 71 z.1→x.pl.n≤2 ^ 47):=by
 match cs,hl with
 | [u0,u1,u2,u3,u4,u5,u6],_=>
  obtain ⟨m0,y0,r0,q0⟩:=trodPart (j:=0) (off:=0) (k:=1) (t:=3) Tryz.underlying71 (by kernel_rfl) h
  obtain ⟨m1,y1,r1,q1⟩:=trodPart (j:=1) (off:=1) (k:=1) (t:=3) Tryz.underlying71 (by kernel_rfl) h
  obtain ⟨m2,y2,r2,q2⟩:=trodPart (j:=2) (off:=2) (k:=1) (t:=3) Tryz.underlying71 (by kernel_rfl) h
  obtain ⟨m3,y3,r3,q3⟩:=trodPart (j:=3) (off:=3) (k:=1) (t:=4) Tryz.underlying71 (by kernel_rfl) h
  obtain ⟨m4,y4,r4,q4⟩:=trodPart (j:=4) (off:=4) (k:=2) (t:=58) Tryz.underlying71 (by kernel_rfl) h
  obtain ⟨m5,y5,r5,q5⟩:=trodPart (j:=5) (off:=6) (k:=1) (t:=55) Tryz.underlying71 (by kernel_rfl) h
  obtain ⟨x0,rfl,h0⟩:=one_int Tryz.underlying3 (show DataW.trod enc Tryz.prog W 0 (fun _=>true) true m0 3 [u0]=some y0 from r0)
  obtain ⟨x1,rfl,h1⟩:=one_int Tryz.underlying3 (show DataW.trod enc Tryz.prog W 0 (fun _=>true) true m1 3 [u1]=some y1 from r1)
  obtain ⟨x2,rfl,h2⟩:=one_int Tryz.underlying3 (show DataW.trod enc Tryz.prog W 0 (fun _=>true) true m2 3 [u2]=some y2 from r2)
  obtain ⟨x3,rfl⟩:=one_bool Tryz.underlying4 (show DataW.trod enc Tryz.prog W 0 (fun _=>true) true m3 4 [u3]=some y3 from r3)
  obtain ⟨p,e1,h4,f4⟩:=trodPl (cs:=[u4,u5]) rfl (show DataW.trod enc Tryz.prog W 0 (fun _=>true) true m4 58 [u4,u5]=some y4 from r4)
  obtain ⟨s,rfl,h5,_⟩:=trodOps (show DataW.trod enc Tryz.prog W 0 (fun _=>true) true m5 55 [u6]=some y5 from r5)
  injection e1 with e1 e2
  injection e2 with e2 _
  subst e1 e2
  exact ⟨⟨x0,x1,x2,x3,p,s⟩,rfl,⟨h0,h1,h2,h4,h5⟩,fun hF=>f4 (q4 hF)⟩
theorem trodSt (hl:cs.length=11) (h:DataW.trod enc Tryz.prog W 0 (fun _=>true) true fuel 73 cs=some z):∃ x:StW,cs=cSt x∧OneSt W W.heap.size x∧(Fit Tryz.prog 73 z.1→x.pl.n≤2 ^ 47∧x.rv.pl.n≤2 ^ 47):=by
 match cs,hl with
 | [u0,u1,u2,u3,u4,u5,u6,u7,u8,u9,u10],_=>
  obtain ⟨m0,y0,r0,q0⟩:=trodPart (j:=0) (off:=0) (k:=1) (t:=3) Tryz.underlying73 (by kernel_rfl) h
  obtain ⟨m1,y1,r1,q1⟩:=trodPart (j:=1) (off:=1) (k:=2) (t:=58) Tryz.underlying73 (by kernel_rfl) h
  obtain ⟨m2,y2,r2,q2⟩:=trodPart (j:=2) (off:=3) (k:=7) (t:=71) Tryz.underlying73 (by kernel_rfl) h
  obtain ⟨m3,y3,r3,q3⟩:=trodPart (j:=3) (off:=10) (k:=1) (t:=3) Tryz.underlying73 (by kernel_rfl) h
  obtain ⟨x0,rfl,h0⟩:=one_int Tryz.underlying3 (show DataW.trod enc Tryz.prog W 0 (fun _=>true) true m0 3 [u0]=some y0 from r0)
  obtain ⟨p,e1,h1,f1⟩:=trodPl (cs:=[u1,u2]) rfl (show DataW.trod enc Tryz.prog W 0 (fun _=>true) true m1 58 [u1,u2]=some y1 from r1)
  obtain ⟨rv,e2,h2,f2⟩:=trodRv (cs:=[u3,u4,u5,u6,u7,u8,u9]) rfl (show DataW.trod enc Tryz.prog W 0 (fun _=>true) true m2 71 [u3,u4,u5,u6,u7,u8,u9]=some y2 from r2)
  obtain ⟨x3,rfl,h3⟩:=one_int Tryz.underlying3 (show DataW.trod enc Tryz.prog W 0 (fun _=>true) true m3 3 [u10]=some y3 from r3)
  injection e1 with e1 e1'
  injection e1' with e1' _
  unfold cRv at e2
  injection e2 with a0 e2
  injection e2 with a1 e2
  injection e2 with a2 e2
  injection e2 with a3 e2
  injection e2 with a4 e2
  injection e2 with a5 e2
  injection e2 with a6 _
  subst e1 e1' a0 a1 a2 a3 a4 a5 a6
  exact ⟨⟨x0,p,rv,x3⟩,rfl,⟨h0,h1,h2,h3⟩,fun hF=>⟨f1 (q1 hF),f2 (q2 hF)⟩⟩
theorem trodTm (hl:cs.length=6) (h:DataW.trod enc Tryz.prog W 0 (fun _=>true) true fuel 60 cs=some z):∃ x:TmW,cs=cTm x∧OneTm W W.heap.size x∧(Fit Tryz.prog 60 z.1→x.targets.n≤2 ^ 47∧x.pl.n≤2 ^ 47):=by
 match cs,hl with
 | [u0,u1,u2,u3,u4,u5],_=>
  obtain ⟨m0,y0,r0,q0⟩:=trodPart (j:=0) (off:=0) (k:=1) (t:=3) Tryz.underlying60 (by kernel_rfl) h
  obtain ⟨m1,y1,r1,q1⟩:=trodPart (j:=1) (off:=1) (k:=1) (t:=34) Tryz.underlying60 (by kernel_rfl) h
  obtain ⟨m2,y2,r2,q2⟩:=trodPart (j:=2) (off:=2) (k:=1) (t:=55) Tryz.underlying60 (by kernel_rfl) h
  obtain ⟨m3,y3,r3,q3⟩:=trodPart (j:=3) (off:=3) (k:=2) (t:=58) Tryz.underlying60 (by kernel_rfl) h
  obtain ⟨m4,y4,r4,q4⟩:=trodPart (j:=4) (off:=5) (k:=1) (t:=9) Tryz.underlying60 (by kernel_rfl) h
  obtain ⟨x0,rfl,h0⟩:=one_int Tryz.underlying3 (show DataW.trod enc Tryz.prog W 0 (fun _=>true) true m0 3 [u0]=some y0 from r0)
  obtain ⟨ts,rfl,h1,f1⟩:=trodInts (show DataW.trod enc Tryz.prog W 0 (fun _=>true) true m1 34 [u1]=some y1 from r1)
  obtain ⟨s,rfl,h2,_⟩:=trodOps (show DataW.trod enc Tryz.prog W 0 (fun _=>true) true m2 55 [u2]=some y2 from r2)
  obtain ⟨p,e1,h3,f3⟩:=trodPl (cs:=[u3,u4]) rfl (show DataW.trod enc Tryz.prog W 0 (fun _=>true) true m3 58 [u3,u4]=some y3 from r3)
  obtain ⟨nm,rfl,h4⟩:=one_str Tryz.underlying9 (show DataW.trod enc Tryz.prog W 0 (fun _=>true) true m4 9 [u5]=some y4 from r4)
  injection e1 with e1 e2
  injection e2 with e2 _
  subst e1 e2
  exact ⟨⟨x0,ts,s,p,nm⟩,rfl,⟨h0,h1,h2,h3,h4⟩,fun hF=>⟨(f1 (q1 hF)).1,f3 (q3 hF)⟩⟩
theorem trodBk (hl:cs.length=7) (h:DataW.trod enc Tryz.prog W 0 (fun _=>true) true fuel 62 cs=some z):∃ x:BkW,cs=cBk x∧OneBk W W.heap.size x∧(Fit Tryz.prog 62 z.1→FitBk x):=by
 match cs,hl with
 | [u0,u1,u2,u3,u4,u5,u6],_=>
  obtain ⟨m0,y0,r0,q0⟩:=trodPart (j:=0) (off:=0) (k:=1) (t:=54) Tryz.underlying62 (by kernel_rfl) h
  obtain ⟨m1,y1,r1,q1⟩:=trodPart (j:=1) (off:=1) (k:=6) (t:=60) Tryz.underlying62 (by kernel_rfl) h
  obtain ⟨ss,rfl,h0,f0⟩:=one_slice cSt (OneSt W W.heap.size) (fun s=>s.pl.n≤2 ^ 47∧s.rv.pl.n≤2 ^ 47) (by decide) cSt_len Tryz.underlying54 (by kernel_rfl) (of_decide_eq_true (by kernel_rfl)) (fun fuel cs z hl h=>trodSt hl h) (show DataW.trod enc Tryz.prog W 0 (fun _=>true) true m0 54 [u0]=some y0 from r0)
  obtain ⟨tm,e2,h1,f1⟩:=trodTm (cs:=[u1,u2,u3,u4,u5,u6]) rfl (show DataW.trod enc Tryz.prog W 0 (fun _=>true) true m1 60 [u1,u2,u3,u4,u5,u6]=some y1 from r1)
  unfold cTm at e2
  injection e2 with a0 e2
  injection e2 with a1 e2
  injection e2 with a2 e2
  injection e2 with a3 e2
  injection e2 with a4 e2
  injection e2 with a5 _
  subst a0 a1 a2 a3 a4 a5
  exact ⟨⟨ss,tm⟩,rfl,⟨h0,h1⟩,fun hF=>⟨(f0 (q0 hF)).1,(f1 (q1 hF)).1,(f1 (q1 hF)).2,(f0 (q0 hF)).2⟩⟩
theorem trodTy (hl:cs.length=5) (h:DataW.trod enc Tryz.prog W 0 (fun _=>true) true fuel 65 cs=some z):∃ x:TyW,cs=c5 x∧OneT W W.heap.size x:=by
 match cs,hl with
 | [u0,u1,u2,u3,u4],_=>
  obtain ⟨m0,y0,r0,q0⟩:=trodPart (j:=0) (off:=0) (k:=1) (t:=3) Tryz.underlying65 (by kernel_rfl) h
  obtain ⟨m1,y1,r1,q1⟩:=trodPart (j:=1) (off:=1) (k:=1) (t:=4) Tryz.underlying65 (by kernel_rfl) h
  obtain ⟨m2,y2,r2,q2⟩:=trodPart (j:=2) (off:=2) (k:=1) (t:=3) Tryz.underlying65 (by kernel_rfl) h
  obtain ⟨m3,y3,r3,q3⟩:=trodPart (j:=3) (off:=3) (k:=1) (t:=3) Tryz.underlying65 (by kernel_rfl) h
  obtain ⟨m4,y4,r4,q4⟩:=trodPart (j:=4) (off:=4) (k:=1) (t:=34) Tryz.underlying65 (by kernel_rfl) h
  obtain ⟨x0,rfl,h0⟩:=one_int Tryz.underlying3 (show DataW.trod enc Tryz.prog W 0 (fun _=>true) true m0 3 [u0]=some y0 from r0)
  obtain ⟨x1,rfl⟩:=one_bool Tryz.underlying4 (show DataW.trod enc Tryz.prog W 0 (fun _=>true) true m1 4 [u1]=some y1 from r1)
  obtain ⟨x2,rfl,h2⟩:=one_int Tryz.underlying3 (show DataW.trod enc Tryz.prog W 0 (fun _=>true) true m2 3 [u2]=some y2 from r2)
  obtain ⟨x3,rfl,h3⟩:=one_int Tryz.underlying3 (show DataW.trod enc Tryz.prog W 0 (fun _=>true) true m3 3 [u3]=some y3 from r3)
  obtain ⟨s,rfl,h4,_⟩:=trodInts (show DataW.trod enc Tryz.prog W 0 (fun _=>true) true m4 34 [u4]=some y4 from r4)
  exact ⟨⟨⟨x0,x1,x2,x3,s.L⟩,s.A,s.n,s.c⟩,rfl,⟨h4.nc,h4.cm,h4.len,h0,h2,h3,h4.all⟩,h4.rd⟩
theorem trodLc (hl:cs.length=2) (h:DataW.trod enc Tryz.prog W 0 (fun _=>true) true fuel 67 cs=some z):∃ x:LcW,cs=cLc x∧IntR x.ty∧x.name.size≤maxLen:=by
 match cs,hl with
 | [u0,u1],_=>
  obtain ⟨m0,y0,r0,q0⟩:=trodPart (j:=0) (off:=0) (k:=1) (t:=9) Tryz.underlying67 (by kernel_rfl) h
  obtain ⟨m1,y1,r1,q1⟩:=trodPart (j:=1) (off:=1) (k:=1) (t:=3) Tryz.underlying67 (by kernel_rfl) h
  obtain ⟨s,rfl,h0⟩:=one_str Tryz.underlying9 (show DataW.trod enc Tryz.prog W 0 (fun _=>true) true m0 9 [u0]=some y0 from r0)
  obtain ⟨x1,rfl,h1⟩:=one_int Tryz.underlying3 (show DataW.trod enc Tryz.prog W 0 (fun _=>true) true m1 3 [u1]=some y1 from r1)
  exact ⟨⟨s,x1⟩,rfl,h1,h0⟩
theorem trodPair (hl:cs.length=2) (h:DataW.trod enc Tryz.prog W 0 (fun _=>true) true fuel 47 cs=some z):∃ p:Pr,cs=pV p∧IntP p:=by
 obtain ⟨xs,m,_,_,hlen,hxl,hat⟩:=DataW.trod_array Tryz.underlying47 h
 match cs,hl with
 | [u0,u1],_=>
  have hc:Tryz.prog.cellsOf 3=1:=by kernel_rfl
  have g0:=hat 0 (by omega)
  have g1:=hat 1 (by omega)
  rw [hc] at g0 g1
  have t0:DataW.trod enc Tryz.prog W 0 (fun _=>true) true m 3 [u0]=some (xs[0]'(by omega)):=by
   have:=g0.trans (List.getElem?_eq_getElem (by omega))
   simpa [Value.cells] using this
  have t1:DataW.trod enc Tryz.prog W 0 (fun _=>true) true m 3 [u1]=some (xs[1]'(by omega)):=by
   have:=g1.trans (List.getElem?_eq_getElem (by omega))
   simpa [Value.cells] using this
  obtain ⟨x0,rfl,h0⟩:=one_int Tryz.underlying3 t0
  obtain ⟨x1,rfl,h1⟩:=one_int Tryz.underlying3 t1
  exact ⟨(x0,x1),rfl,h0,h1⟩
theorem trodBd (hl:cs.length=7) (h:DataW.trod enc Tryz.prog W 0 (fun _=>true) true fuel 28 cs=some z):∃ x:BdW,cs=cBd x∧OneBd W W.heap.size x∧(Fit Tryz.prog 28 z.1→FitBd x):=by
 match cs,hl with
 | [u0,u1,u2,u3,u4,u5,u6],_=>
  obtain ⟨m0,y0,r0,q0⟩:=trodPart (j:=0) (off:=0) (k:=1) (t:=9) Tryz.underlying28 (by kernel_rfl) h
  obtain ⟨m1,y1,r1,q1⟩:=trodPart (j:=1) (off:=1) (k:=1) (t:=22) Tryz.underlying28 (by kernel_rfl) h
  obtain ⟨m2,y2,r2,q2⟩:=trodPart (j:=2) (off:=2) (k:=1) (t:=23) Tryz.underlying28 (by kernel_rfl) h
  obtain ⟨m3,y3,r3,q3⟩:=trodPart (j:=3) (off:=3) (k:=1) (t:=24) Tryz.underlying28 (by kernel_rfl) h
  obtain ⟨m4,y4,r4,q4⟩:=trodPart (j:=4) (off:=4) (k:=1) (t:=25) Tryz.underlying28 (by kernel_rfl) h
  obtain ⟨m5,y5,r5,q5⟩:=trodPart (j:=5) (off:=5) (k:=1) (t:=3) Tryz.underlying28 (by kernel_rfl) h
  obtain ⟨m6,y6,r6,q6⟩:=trodPart (j:=6) (off:=6) (k:=1) (t:=26) Tryz.underlying28 (by kernel_rfl) h
  obtain ⟨nm,rfl,h0⟩:=one_str Tryz.underlying9 (show DataW.trod enc Tryz.prog W 0 (fun _=>true) true m0 9 [u0]=some y0 from r0)
  obtain ⟨rs,rfl,h1,f1⟩:=trodStrs (show DataW.trod enc Tryz.prog W 0 (fun _=>true) true m1 22 [u1]=some y1 from r1)
  obtain ⟨os,rfl,h2,f2⟩:=one_slice pV IntP (fun _=>True) (by decide) pV_len Tryz.underlying23 (by kernel_rfl) (of_decide_eq_true (by kernel_rfl)) (fun fuel cs z hl h=>by
   obtain ⟨x,e,hx⟩:=trodPair hl h
   exact ⟨x,e,hx,fun _=>trivial⟩) (show DataW.trod enc Tryz.prog W 0 (fun _=>true) true m2 23 [u2]=some y2 from r2)
  obtain ⟨ts,rfl,h3,f3⟩:=one_slice c5 (OneT W W.heap.size) (fun _=>True) (by decide) c5_len Tryz.underlying24 (by kernel_rfl) (of_decide_eq_true (by kernel_rfl)) (fun fuel cs z hl h=>by
   obtain ⟨x,e,hx⟩:=trodTy hl h
   exact ⟨x,e,hx,fun _=>trivial⟩) (show DataW.trod enc Tryz.prog W 0 (fun _=>true) true m3 24 [u3]=some y3 from r3)
  obtain ⟨ls,rfl,h4,f4⟩:=one_slice cLc (fun y=>IntR y.ty∧y.name.size≤maxLen) (fun _=>True) (by decide) cLc_len Tryz.underlying25 (by kernel_rfl) (of_decide_eq_true (by kernel_rfl)) (fun fuel cs z hl h=>by
   obtain ⟨x,e,hx⟩:=trodLc hl h
   exact ⟨x,e,hx,fun _=>trivial⟩) (show DataW.trod enc Tryz.prog W 0 (fun _=>true) true m4 25 [u4]=some y4 from r4)
  obtain ⟨x5,rfl,h5⟩:=one_int Tryz.underlying3 (show DataW.trod enc Tryz.prog W 0 (fun _=>true) true m5 3 [u5]=some y5 from r5)
  obtain ⟨bs,rfl,h6,f6⟩:=one_slice cBk (OneBk W W.heap.size) FitBk (by decide) cBk_len Tryz.underlying26 (by kernel_rfl) (of_decide_eq_true (by kernel_rfl)) (fun fuel cs z hl h=>trodBk hl h) (show DataW.trod enc Tryz.prog W 0 (fun _=>true) true m6 26 [u6]=some y6 from r6)
  exact ⟨⟨nm,rs,os,ts,ls,x5,bs⟩,rfl,⟨h0,h1,h2,h3,h4,h5,h6⟩,fun hF=>⟨(f1 (q1 hF)).1,(f2 (q2 hF)).1,(f3 (q3 hF)).1,(f4 (q4 hF)).1,(f6 (q6 hF)).2⟩⟩
end
theorem openBody {H:Type} {enc:TypeId×Value→H} {W:World} {base:Nat} {v:Value} {d:DataW H} {p:List MemPlace} (hv:Value.okWide Tryz.prog W .any base 28 v) (h:DataW.Trod enc Tryz.prog W 0 (fun _=>true) true 28 v d p):∃ x,v=aggBd x∧OneBd W W.heap.size x∧(Fit Tryz.prog 28 d→FitBd x):=by
 obtain ⟨cs,rfl,hsz⟩:=okWide_struct Tryz.underlying28 hv
 obtain ⟨fuel,hf⟩:=h
 obtain ⟨l⟩:=cs
 have hC:Tryz.prog.cellsOf 28=7:=by kernel_rfl
 obtain ⟨x,e,hx⟩:=trodBd (cs:=l) (hsz.trans hC) (by simpa [Value.cells] using hf)
 exact ⟨x,by rw [e];rfl,hx⟩
end Go.Proofs.YteeemjmohjkdpaaGreatDoor
namespace Go.Proofs.YteeemjmohjkdpaaGreatDoor
open Go.RowKit
def szOps (s:SlW OpW):Nat:=s.n+sumN (fun o=>o.pl.n) s.L
def szSt (s:StW):Nat:=s.pl.n+s.rv.pl.n+szOps s.rv.args
def szBk (b:BkW):Nat:=1+b.stmts.n+b.term.targets.n+b.term.pl.n+min b.term.name.size 9000+sumN szSt b.stmts.L+szOps b.term.args
def szR (s:ByteArray):Nat:=1+min s.size 9000
def szT (t:TyW):Nat:=1+min t.n 9000
def szL (l:LcW):Nat:=1+min l.name.size 9000
def szB (x:BdW):Nat:=min x.name.size 9000+x.outl.n+sumN szR x.regions.L+sumN szT x.types.L+sumN szL x.locals.L+sumN szBk x.blocks.L
def st1 (w:World) (x:StW):World:=w.alloc (.cells #[.int .i64 x.kind,.int .i64 x.pl.l,.slice x.pl.A x.pl.n x.pl.c,.int .i64 x.rv.kind,.int .i64 x.rv.op,.int .i64 x.rv.region,.bool x.rv.mut_,.int .i64 x.rv.pl.l,.slice x.rv.pl.A x.rv.pl.n x.rv.pl.c,.slice x.rv.args.A x.rv.args.n x.rv.args.c,.int .i64 x.loc] 73)
theorem st1_size (w:World) (x:StW):(st1 w x).heap.size=w.heap.size+1:=by simp [st1]
theorem st1_below (w:World) (x:StW):Below w.heap.size w (st1 w x):=(Below.refl _ w).alloc (Nat.le_refl _) _
theorem st1_cells {w w':World} {x:StW} (h:Below (st1 w x).heap.size (st1 w x) w'):∀ j u,(cSt x)[j]?=some u→w'.cell? ⟨w.heap.size,j,none⟩=some u:=by
 have hs:=st1_size w x
 intro j u hu
 refine (h.cell (show w.heap.size < (st1 w x).heap.size by omega)).trans ?_
 unfold st1
 simp only [cSt] at hu
 rw [←hu]
 rcases j with _ | _ | _ | _ | _ | _ | _ | _ | _ | _ | _ | j <;> simp [go_sem]
def LargeOut (w:World) (x:BdW) (e:Ending) (w':World):Prop:=(e=.returned (.int .i64 1)∨e=.returned (.int .i64 0)∧szB x≤3000)∧Below w.heap.size w w'
theorem BodVz1 {P:Prop} (h:P:=by
 have t1:IntKind.i64.wrap ((m:Int)+9001)=(m:Int)+9001:=wrapI9 _ (by omega) (by omega)
 have t2:IntKind.i64.wrap (1+9000)=1+9000:=wrapI9 _ (by omega) (by omega)
 clear c0 h1 hu hp
 go_wp2
 go_roundw
 case rel=>exact ⟨j+1,m+(1+9000),by go_num,congrArg (fun z:Int=>Value.int .i64 z) (by omega),by omega,by omega,HM2,HB2⟩
 case measure=>simp [intOf];omega):P:=h
theorem BodVz0 {P:Prop} (h:P:=by
 clear hq0
 go_enter Tryz.func44,Tryz.ntmps44
 go_wp2
 go_loopw [3,25] (fun v i wr=>∃ j m:Nat,i=.int .i64 (j:Int)∧v=.int .i64 (m:Int)∧j≤rn∧m≤140737488364328+9001*(0+j)∧Hid (m=q0+on+sumN szR (rL.take j))∧Hid (Below (bd1 w ⟨nm,⟨rA,rn,rc,rL⟩,⟨oA,on,oc,oL⟩,⟨tA,tn,tc,tL⟩,⟨lA,ln,lc,lL⟩,ar,⟨bA,bn,bc,bL⟩⟩).heap.size (bd1 w ⟨nm,⟨rA,rn,rc,rL⟩,⟨oA,on,oc,oL⟩,⟨tA,tn,tc,tL⟩,⟨lA,ln,lc,lL⟩,ar,⟨bA,bn,bc,bL⟩⟩) wr)) (fun _ i _=>rn - (intOf i).toNat)
 case atStart=>exact ⟨0,q0+on,rfl,congrArg (fun z:Int=>Value.int .i64 z) (by have:=hq.out;omega),Nat.zero_le _,by omega,hide (by simp [sumN]),hide (Below.refl _ _)⟩
 case round=>
  clear t0
  obtain ⟨j,m,rfl,rfl,hj,hm,HM,HR1⟩:=hrel
  have hsz:(bd1 w ⟨nm,⟨rA,rn,rc,rL⟩,⟨oA,on,oc,oL⟩,⟨tA,tn,tc,tL⟩,⟨lA,ln,lc,lL⟩,ar,⟨bA,bn,bc,bL⟩⟩).heap.size≤wr.heap.size:=HR1.out.size
  by_cases hlt:j < rn
  ·
   obtain ⟨p,hp⟩:=HX.out.regions.get hlt
   obtain ⟨g,o,hA,hg,h1,c0⟩:=HX.out.regions.at_ hp
   simp only [] at hA
   subst hA
   have hlt':(j:Int) < (rn:Int):=by omega
   have c0_:=(HR1.out.cell hg).trans (c0 0 _ rfl)
   simp only [Nat.mul_one,Nat.add_zero] at c0_
   have hu:=sumN_up (f:=szR) hp
   have HB2:=hide (HR1.out)
   by_cases hb:9000 < p.size
   ·
    have hb1:(9000:Int) < (p.size:Int):=by omega
    have hb2:(9000:Int)≤(p.size:Int):=by omega
    have HM2:=hide (show m+(1+9000)=q0+on+sumN szR (rL.take (j+1)) by rw [hu,HM.out,show szR p=1+9000 by unfold szR;omega,Nat.add_assoc])
    exact BodVz1
   ·
    have hb1:¬(9000:Int) < (p.size:Int):=by omega
    have hb2:(p.size:Int)≤9000:=by omega
    have HM2:=hide (show m+(1+p.size)=q0+on+sumN szR (rL.take (j+1)) by rw [hu,HM.out,show szR p=1+p.size by unfold szR;omega,Nat.add_assoc])
    have t1:IntKind.i64.wrap ((m:Int)+(1+(p.size:Int)))=(m:Int)+(1+(p.size:Int)):=wrapI9 _ (by omega) (by omega)
    have t2:IntKind.i64.wrap (1+(p.size:Int))=1+(p.size:Int):=wrapI9 _ (by omega) (by omega)
    clear c0 h1 hu hp
    go_wp2
    go_roundw
    case rel=>exact ⟨j+1,m+(1+p.size),by go_num,congrArg (fun z:Int=>Value.int .i64 z) (by omega),by omega,by omega,HM2,HB2⟩
    case measure=>simp [intOf];omega
  ·
   have hjn:rn=j:=by omega
   have hge:¬(j:Int) < (rn:Int):=by omega
   have HM1:=hide (show m=q0+on+S1 by rw [HM.out,← hjn,sumN_all _ HRL.out,HS1.out])
   have hm2:m≤140737488364328+9001*rn:=by omega
   clear hjn HM
   have v3:=hs.out _ HR1.out 3 _ rfl
   simp only [] at v3
   go_wp2
   clear v3 hge hlt hj hm hsz
   go_loopw [3,39] (fun v i wr=>∃ j m:Nat,i=.int .i64 (j:Int)∧v=.int .i64 (m:Int)∧j≤tn∧m≤140737488364328+9001*(rn+j)∧Hid (m=q0+on+S1+sumN szT (tL.take j))∧Hid (Below (bd1 w ⟨nm,⟨rA,rn,rc,rL⟩,⟨oA,on,oc,oL⟩,⟨tA,tn,tc,tL⟩,⟨lA,ln,lc,lL⟩,ar,⟨bA,bn,bc,bL⟩⟩).heap.size (bd1 w ⟨nm,⟨rA,rn,rc,rL⟩,⟨oA,on,oc,oL⟩,⟨tA,tn,tc,tL⟩,⟨lA,ln,lc,lL⟩,ar,⟨bA,bn,bc,bL⟩⟩) wr)) (fun _ i _=>tn - (intOf i).toNat)
   case atStart=>exact ⟨0,m,rfl,rfl,Nat.zero_le _,by omega,hide (by rw [HM1.out];simp [sumN]),HR1⟩
   case round=>
    clear hm2 HR1 HM1
    obtain ⟨j,m,rfl,rfl,hj,hm,HM,HR2⟩:=hrel
    have hsz:(bd1 w ⟨nm,⟨rA,rn,rc,rL⟩,⟨oA,on,oc,oL⟩,⟨tA,tn,tc,tL⟩,⟨lA,ln,lc,lL⟩,ar,⟨bA,bn,bc,bL⟩⟩).heap.size≤wr.heap.size:=HR2.out.size
    by_cases hlt:j < tn
    ·
     obtain ⟨p,hp⟩:=HX.out.types.get hlt
     obtain ⟨g,o,hA,hg,h1,c0⟩:=HX.out.types.at_ hp
     simp only [] at hA
     subst hA
     have hlt':(j:Int) < (tn:Int):=by omega
     have c0_:=(HR2.out.cell hg).trans (c0 0 _ rfl)
     have c1_:=(HR2.out.cell hg).trans (c0 1 _ rfl)
     have c2_:=(HR2.out.cell hg).trans (c0 2 _ rfl)
     have c3_:=(HR2.out.cell hg).trans (c0 3 _ rfl)
     have c4_:=(HR2.out.cell hg).trans (c0 4 _ rfl)
     simp only [Nat.mul_one,Nat.add_zero] at c0_ c1_ c2_ c3_ c4_
     have hu:=sumN_up (f:=szT) hp
     have HB2:=hide (HR2.out.alloc hsz (.cells #[.int .i64 p.t.kind,.bool p.t.mut_,.int .i64 p.t.region,.int .i64 p.t.elem,.slice p.A p.n p.c] 65))
     by_cases hb:9000 < p.n
     ·
      have hb1:(9000:Int) < (p.n:Int):=by omega
      have hb2:(9000:Int)≤(p.n:Int):=by omega
      have HM2:=hide (show m+(1+9000)=q0+on+S1+sumN szT (tL.take (j+1)) by rw [hu,HM.out,show szT p=1+9000 by unfold szT;omega,Nat.add_assoc])
      exact BodVz1
     ·
      have hb1:¬(9000:Int) < (p.n:Int):=by omega
      have hb2:(p.n:Int)≤9000:=by omega
      have HM2:=hide (show m+(1+p.n)=q0+on+S1+sumN szT (tL.take (j+1)) by rw [hu,HM.out,show szT p=1+p.n by unfold szT;omega,Nat.add_assoc])
      have t1:IntKind.i64.wrap ((m:Int)+(1+(p.n:Int)))=(m:Int)+(1+(p.n:Int)):=wrapI9 _ (by omega) (by omega)
      have t2:IntKind.i64.wrap (1+(p.n:Int))=1+(p.n:Int):=wrapI9 _ (by omega) (by omega)
      clear c0 h1 hu hp
      go_wp2
      go_roundw
      case rel=>exact ⟨j+1,m+(1+p.n),by go_num,congrArg (fun z:Int=>Value.int .i64 z) (by omega),by omega,by omega,HM2,HB2⟩
      case measure=>simp [intOf];omega
    ·
     have hjn:tn=j:=by omega
     have hge:¬(j:Int) < (tn:Int):=by omega
     have HM2:=hide (show m=q0+on+S1+S2 by rw [HM.out,← hjn,sumN_all _ HTL.out,HS2.out])
     have hm2:m≤140737488364328+9001*(rn+tn):=by omega
     clear hjn HM
     have v4:=hs.out _ HR2.out 4 _ rfl
     simp only [] at v4
     go_wp2
     clear v4 hge hlt hj hm hsz
     go_loopw [3,54] (fun v i wr=>∃ j m:Nat,i=.int .i64 (j:Int)∧v=.int .i64 (m:Int)∧j≤ln∧m≤140737488364328+9001*((rn+tn)+j)∧Hid (m=q0+on+S1+S2+sumN szL (lL.take j))∧Hid (Below (bd1 w ⟨nm,⟨rA,rn,rc,rL⟩,⟨oA,on,oc,oL⟩,⟨tA,tn,tc,tL⟩,⟨lA,ln,lc,lL⟩,ar,⟨bA,bn,bc,bL⟩⟩).heap.size (bd1 w ⟨nm,⟨rA,rn,rc,rL⟩,⟨oA,on,oc,oL⟩,⟨tA,tn,tc,tL⟩,⟨lA,ln,lc,lL⟩,ar,⟨bA,bn,bc,bL⟩⟩) wr)) (fun _ i _=>ln - (intOf i).toNat)
     case atStart=>exact ⟨0,m,rfl,rfl,Nat.zero_le _,by omega,hide (by rw [HM2.out];simp [sumN]),HR2⟩
     case round=>
      clear hm2 HR2 HM2
      obtain ⟨j,m,rfl,rfl,hj,hm,HM,HR3⟩:=hrel
      have hsz:(bd1 w ⟨nm,⟨rA,rn,rc,rL⟩,⟨oA,on,oc,oL⟩,⟨tA,tn,tc,tL⟩,⟨lA,ln,lc,lL⟩,ar,⟨bA,bn,bc,bL⟩⟩).heap.size≤wr.heap.size:=HR3.out.size
      by_cases hlt:j < ln
      ·
       obtain ⟨p,hp⟩:=HX.out.locals.get hlt
       obtain ⟨g,o,hA,hg,h1,c0⟩:=HX.out.locals.at_ hp
       simp only [] at hA
       subst hA
       have hlt':(j:Int) < (ln:Int):=by omega
       have c0_:=(HR3.out.cell hg).trans (c0 0 _ rfl)
       have c1_:=(HR3.out.cell hg).trans (c0 1 _ rfl)
       simp only [Nat.mul_one,Nat.add_zero] at c0_ c1_
       have hu:=sumN_up (f:=szL) hp
       have HB2:=hide (HR3.out.alloc hsz (.cells #[.string p.name,.int .i64 p.ty] 67))
       by_cases hb:9000 < p.name.size
       ·
        have hb1:(9000:Int) < (p.name.size:Int):=by omega
        have hb2:(9000:Int)≤(p.name.size:Int):=by omega
        have HM2:=hide (show m+(1+9000)=q0+on+S1+S2+sumN szL (lL.take (j+1)) by rw [hu,HM.out,show szL p=1+9000 by unfold szL;omega,Nat.add_assoc])
        exact BodVz1
       ·
        have hb1:¬(9000:Int) < (p.name.size:Int):=by omega
        have hb2:(p.name.size:Int)≤9000:=by omega
        have HM2:=hide (show m+(1+p.name.size)=q0+on+S1+S2+sumN szL (lL.take (j+1)) by rw [hu,HM.out,show szL p=1+p.name.size by unfold szL;omega,Nat.add_assoc])
        have t1:IntKind.i64.wrap ((m:Int)+(1+(p.name.size:Int)))=(m:Int)+(1+(p.name.size:Int)):=wrapI9 _ (by omega) (by omega)
        have t2:IntKind.i64.wrap (1+(p.name.size:Int))=1+(p.name.size:Int):=wrapI9 _ (by omega) (by omega)
        clear c0 h1 hu hp
        go_wp2
        go_roundw
        case rel=>exact ⟨j+1,m+(1+p.name.size),by go_num,congrArg (fun z:Int=>Value.int .i64 z) (by omega),by omega,by omega,HM2,HB2⟩
        case measure=>simp [intOf];omega
      ·
       have hjn:ln=j:=by omega
       have hge:¬(j:Int) < (ln:Int):=by omega
       have HM3:=hide (show m=q0+on+S1+S2+S3 by rw [HM.out,← hjn,sumN_all _ HLL.out,HS3.out])
       have hm2:m≤140737488364328+9001*(rn+tn+ln):=by omega
       clear hjn HM
       have v6:=hs.out _ HR3.out 6 _ rfl
       simp only [] at v6
       by_cases h30:3000 < m
       ·
        have hi30:(3000:Int) < (m:Int):=by omega
        go_wp2
        go_ret
        exact ⟨.inl rfl,HB.out.trans (HR3.out.mono HB.out.size)⟩
       have hi30:¬(3000:Int) < (m:Int):=by omega
       go_wp2
       clear v6 hge hlt hj hm hsz hm2 hi30
       go_loopw [3,71] (fun v i wr=>∃ j m:Nat,i=.int .i64 (j:Int)∧v=.int .i64 (m:Int)∧j≤bn∧m≤21000∧Hid (m≤3000→m=q0+on+S1+S2+S3+sumN szBk (bL.take j))∧Hid (Below (bd1 w ⟨nm,⟨rA,rn,rc,rL⟩,⟨oA,on,oc,oL⟩,⟨tA,tn,tc,tL⟩,⟨lA,ln,lc,lL⟩,ar,⟨bA,bn,bc,bL⟩⟩).heap.size (bd1 w ⟨nm,⟨rA,rn,rc,rL⟩,⟨oA,on,oc,oL⟩,⟨tA,tn,tc,tL⟩,⟨lA,ln,lc,lL⟩,ar,⟨bA,bn,bc,bL⟩⟩) wr)) (fun _ i _=>bn - (intOf i).toNat)
       case atStart=>exact ⟨0,m,rfl,rfl,Nat.zero_le _,by omega,hide (fun _=>by rw [HM3.out];simp [sumN]),HR3⟩
       case round=>
        clear HM3 HR3 h30
        rename World=>wo
        obtain ⟨j,m,rfl,rfl,hj,hm,HM,HR4⟩:=hrel
        by_cases hlt:j < bn
        ·
         obtain ⟨p,hp⟩:=HX.out.blocks.get hlt
         obtain ⟨g,o,hA,hg,h1,c0⟩:=HX.out.blocks.at_ hp
         have hfb:=HFB.out p (List.mem_of_getElem? hp)
         simp only [] at hA
         subst hA
         have hu:=sumN_up (f:=szBk) hp
         obtain ⟨⟨sA,sn,sc,sL⟩,⟨tk,⟨uA,un,uc,uL⟩,⟨gA,gn,gc,gL⟩,⟨pl,pA,pn,pc,ps⟩,tnm⟩⟩:=p
         have hlt':(j:Int) < (bn:Int):=by omega
         have f1:=hfb.stmts
         have f2:=hfb.targets
         have f3:=hfb.pl
         have HF4:=hide hfb.sts
         have HP:=hide h1
         have HSL:=hide h1.stmts.len
         have hsn:=h1.stmts.nm
         unfold maxLen at hsn
         have htz:tnm.size≤9223372036854775807:=h1.term.name
         simp only [] at f1 f2 f3 hsn
         clear hfb h1 hp
         have HU:=hide hu
         clear hu
         have c0_:=(HR4.out.cell hg).trans (c0 0 _ rfl)
         have c1_:=(HR4.out.cell hg).trans (c0 1 _ rfl)
         have c2_:=(HR4.out.cell hg).trans (c0 2 _ rfl)
         have c3_:=(HR4.out.cell hg).trans (c0 3 _ rfl)
         have c4_:=(HR4.out.cell hg).trans (c0 4 _ rfl)
         have c5_:=(HR4.out.cell hg).trans (c0 5 _ rfl)
         have c6_:=(HR4.out.cell hg).trans (c0 6 _ rfl)
         simp only [Nat.add_zero] at c0_ c1_ c2_ c3_ c4_ c5_ c6_
         clear c0
         have HBK:=hide (bk1_below wo ⟨⟨sA,sn,sc,sL⟩,⟨tk,⟨uA,un,uc,uL⟩,⟨gA,gn,gc,gL⟩,⟨pl,pA,pn,pc,ps⟩,tnm⟩⟩)
         by_cases hb:9000 < tnm.size
         ·
          have hb1:(9000:Int) < (tnm.size:Int):=by omega
          have hb2:(9000:Int)≤(tnm.size:Int):=by omega
          have k0:IntKind.i64.wrap (1+(sn:Int))=1+(sn:Int):=wrapI9 _ (by omega) (by omega)
          have k1:IntKind.i64.wrap (1+(sn:Int)+(un:Int))=1+(sn:Int)+(un:Int):=wrapI9 _ (by omega) (by omega)
          have k2:IntKind.i64.wrap (1+(sn:Int)+(un:Int)+(pn:Int))=1+(sn:Int)+(un:Int)+(pn:Int):=wrapI9 _ (by omega) (by omega)
          have k3:IntKind.i64.wrap (1+(sn:Int)+(un:Int)+(pn:Int)+9000)=1+(sn:Int)+(un:Int)+(pn:Int)+9000:=wrapI9 _ (by omega) (by omega)
          have k4:IntKind.i64.wrap ((m:Int)+(1+(sn:Int)+(un:Int)+(pn:Int)+9000))=(m:Int)+(1+(sn:Int)+(un:Int)+(pn:Int)+9000):=wrapI9 _ (by omega) (by omega)
          have h3:(3000:Int) < (m:Int)+(1+(sn:Int)+(un:Int)+(pn:Int)+9000):=by omega
          go_wp2
          go_ret
          exact ⟨.inl rfl,HB.out.trans ((HR4.out.trans (HBK.out.mono HR4.out.size)).mono HB.out.size)⟩
         have hb1:¬(9000:Int) < (tnm.size:Int):=by omega
         have hb2:(tnm.size:Int)≤9000:=by omega
         have k0:IntKind.i64.wrap (1+(sn:Int))=1+(sn:Int):=wrapI9 _ (by omega) (by omega)
         have k1:IntKind.i64.wrap (1+(sn:Int)+(un:Int))=1+(sn:Int)+(un:Int):=wrapI9 _ (by omega) (by omega)
         have k2:IntKind.i64.wrap (1+(sn:Int)+(un:Int)+(pn:Int))=1+(sn:Int)+(un:Int)+(pn:Int):=wrapI9 _ (by omega) (by omega)
         have k3:IntKind.i64.wrap (1+(sn:Int)+(un:Int)+(pn:Int)+(tnm.size:Int))=1+(sn:Int)+(un:Int)+(pn:Int)+(tnm.size:Int):=wrapI9 _ (by omega) (by omega)
         have k4:IntKind.i64.wrap ((m:Int)+(1+(sn:Int)+(un:Int)+(pn:Int)+(tnm.size:Int)))=(m:Int)+(1+(sn:Int)+(un:Int)+(pn:Int)+(tnm.size:Int)):=wrapI9 _ (by omega) (by omega)
         obtain ⟨m1,hm1⟩:∃ m1,m+(1+sn+un+pn+tnm.size)=m1:=⟨_,rfl⟩
         have hm1i:(m:Int)+(1+(sn:Int)+(un:Int)+(pn:Int)+(tnm.size:Int))=(m1:Int):=by omega
         replace k4:=k4.trans hm1i
         by_cases h30:3000 < m1
         ·
          have h3:(3000:Int) < (m1:Int):=by omega
          clear hm1i
          go_wp2
          go_ret
          exact ⟨.inl rfl,HB.out.trans ((HR4.out.trans (HBK.out.mono HR4.out.size)).mono HB.out.size)⟩
         have h3:¬(3000:Int) < (m1:Int):=by omega
         have HM1:=hide (show m1=q0+on+S1+S2+S3+sumN szBk (bL.take j)+(1+sn+un+pn+min tnm.size 9000) by rw [←HM.out (by omega),← hm1,Nat.min_eq_left (by omega)])
         clear hm1i hm1
         go_wp2
         clear c0_ c1_ c2_ c3_ c4_ c5_ c6_ h3 hb1 hb2 k0 k1 k2 k3 k4
         go_loopw [3,103] (fun v i wr=>∃ j2 m2:Nat,i=.int .i64 (j2:Int)∧v=.int .i64 (m2:Int)∧j2≤sn∧m2≤3000∧Hid (m2=m1+sumN szSt (sL.take j2))∧Hid (Below (bk1 wo ⟨⟨sA,sn,sc,sL⟩,⟨tk,⟨uA,un,uc,uL⟩,⟨gA,gn,gc,gL⟩,⟨pl,pA,pn,pc,ps⟩,tnm⟩⟩).heap.size (bk1 wo ⟨⟨sA,sn,sc,sL⟩,⟨tk,⟨uA,un,uc,uL⟩,⟨gA,gn,gc,gL⟩,⟨pl,pA,pn,pc,ps⟩,tnm⟩⟩) wr)) (fun _ i _=>sn - (intOf i).toNat)
         case atStart=>exact ⟨0,m1,rfl,rfl,Nat.zero_le _,by omega,hide (by simp [sumN]),hide (Below.refl _ _)⟩
         case round=>
          obtain ⟨j2,m2,rfl,rfl,hj2,hm2,HM2,HW2⟩:=hrel
          have HRC:=hide (HR4.out.trans ((HBK.out.trans (HW2.out.mono HBK.out.size)).mono HR4.out.size))
          by_cases hlt2:j2 < sn
          ·
           obtain ⟨s,hs2⟩:=HP.out.stmts.get hlt2
           obtain ⟨g3,o3,hA3,hg3,h13,c03⟩:=HP.out.stmts.at_ hs2
           have hf4:=HF4.out s (List.mem_of_getElem? hs2)
           have hu3:=sumN_up (f:=szSt) hs2
           simp only [] at hA3
           subst hA3
           have hlt2':(j2:Int) < (sn:Int):=by omega
           have f5:=hf4.1
           have f6:=hf4.2
           have c0_:=(HRC.out.cell hg3).trans (c03 0 _ rfl)
           have c1_:=(HRC.out.cell hg3).trans (c03 1 _ rfl)
           have c2_:=(HRC.out.cell hg3).trans (c03 2 _ rfl)
           have c3_:=(HRC.out.cell hg3).trans (c03 3 _ rfl)
           have c4_:=(HRC.out.cell hg3).trans (c03 4 _ rfl)
           have c5_:=(HRC.out.cell hg3).trans (c03 5 _ rfl)
           have c6_:=(HRC.out.cell hg3).trans (c03 6 _ rfl)
           have c7_:=(HRC.out.cell hg3).trans (c03 7 _ rfl)
           have c8_:=(HRC.out.cell hg3).trans (c03 8 _ rfl)
           have c9_:=(HRC.out.cell hg3).trans (c03 9 _ rfl)
           have c10_:=(HRC.out.cell hg3).trans (c03 10 _ rfl)
           simp only [Nat.add_zero] at c0_ c1_ c2_ c3_ c4_ c5_ c6_ c7_ c8_ c9_ c10_
           have HS2:=hide (st1_below wr s)
           have HA:=hide (h13.rv.args.up (HRC.out.trans (HS2.out.mono HRC.out.size)))
           have hcs:=hide fun (w':World) (h:Below (st1 wr s).heap.size (st1 wr s) w')=>(show w'.cell? ⟨wr.heap.size,2,none⟩=some (.slice s.pl.A s.pl.n s.pl.c)∧w'.cell? ⟨wr.heap.size,8,none⟩=some (.slice s.rv.pl.A s.rv.pl.n s.rv.pl.c)∧w'.cell? ⟨wr.heap.size,9,none⟩=some (.slice s.rv.args.A s.rv.args.n s.rv.args.c) from ⟨st1_cells h 2 _ rfl,st1_cells h 8 _ rfl,st1_cells h 9 _ rfl⟩)
           have hst:szSt s=s.pl.n+s.rv.pl.n+szOps s.rv.args:=rfl
           obtain ⟨T3,hT3⟩:∃ T,sumN szSt (List.take j2 sL)=T:=⟨_,rfl⟩
           obtain ⟨T4,hT4⟩:∃ T,sumN szSt (List.take (j2+1) sL)=T:=⟨_,rfl⟩
           obtain ⟨O3,hO3⟩:∃ T,szOps s.rv.args=T:=⟨_,rfl⟩
           have HN:=hide (show ∀ r,m2+(s.pl.n+s.rv.pl.n+r)≤3000→(r≤3000→O3=r)→m2+(s.pl.n+s.rv.pl.n+r)=m1+T4 from fun r h1 h2=>by
            have:=HM2.out
            have h3:=h2 (by omega)
            simp only [] at hu3
            rw [hT4,hT3,hst,hO3] at hu3
            rw [hT3] at this
            omega)
           have HO3:=hide hO3
           have HT4:=hide hT4
           have s1:IntKind.i64.wrap ((s.pl.n:Int)+(s.rv.pl.n:Int))=(s.pl.n:Int)+(s.rv.pl.n:Int):=wrapI9 _ (by omega) (by omega)
           clear c03 h13 hf4 hu3 hst hT3 hT4 hO3 hs2
           go_wp2
           clear c0_ c1_ c2_ c3_ c4_ c5_ c6_ c7_ c8_ c9_ c10_
           change Code.wp _ _ _ _ (st1 wr s)
           go_region_held3 (fun w'=>Below (st1 wr s).heap.size (st1 wr s) w'∧w'.cell? ⟨wr.heap.size,2,none⟩=some (.slice s.pl.A s.pl.n s.pl.c)∧w'.cell? ⟨wr.heap.size,8,none⟩=some (.slice s.rv.pl.A s.rv.pl.n s.rv.pl.c)∧w'.cell? ⟨wr.heap.size,9,none⟩=some (.slice s.rv.args.A s.rv.args.n s.rv.args.c))
            (first | exact ⟨by assumption,hcs.out _ (by assumption)⟩ | exact ⟨Below.refl _ _,hcs.out _ (Below.refl _ _)⟩ | exact ⟨(Below.refl _ _).drew,hcs.out _ (Below.refl _ _).drew⟩)
            (first | (go_at_call 77;go_split_ands;refine (LOperands_any s.rv.args _ (HA.out.up (by assumption))).mono ?_;rintro x9 w1 ⟨r,rfl,hr1,hr2,hb0⟩;have hb1:=Below.trans (by assumption:Below (st1 wr s).heap.size (st1 wr s) _) (hb0.mono (Below.size (by assumption:Below (st1 wr s).heap.size (st1 wr s) _)));have s2:IntKind.i64.wrap ((s.pl.n:Int)+(s.rv.pl.n:Int)+(r:Int))=(s.pl.n:Int)+(s.rv.pl.n:Int)+(r:Int):=wrapI9 _ (by omega) (by omega);have s3:IntKind.i64.wrap ((m2:Int)+((s.pl.n:Int)+(s.rv.pl.n:Int)+(r:Int)))=(m2:Int)+((s.pl.n:Int)+(s.rv.pl.n:Int)+(r:Int)):=wrapI9 _ (by omega) (by omega)))
           all_goals
            go_split_ands
            by_cases h4:3000 < m2+(s.pl.n+s.rv.pl.n+r)
            ·
             have h4i:(3000:Int) < (m2:Int)+((s.pl.n:Int)+(s.rv.pl.n:Int)+(r:Int)):=by omega
             go_wp2
             go_ret
             exact ⟨.inl rfl,HB.out.trans ((HRC.out.trans ((HS2.out.trans (Below.mono (by assumption) HS2.out.size)).mono HRC.out.size)).mono HB.out.size)⟩
            ·
             have h4i:¬(3000:Int) < (m2:Int)+((s.pl.n:Int)+(s.rv.pl.n:Int)+(r:Int)):=by omega
             go_wp2
             go_roundw
             case rel=>exact ⟨j2+1,m2+(s.pl.n+s.rv.pl.n+r),by go_num,congrArg (fun z:Int=>Value.int .i64 z) (by omega),by omega,by omega,hide (by rw [HT4.out];exact HN.out r (by omega) (fun h=>HO3.out ▸ hr2 h)),hide (HW2.out.trans (Below.mono (HS2.out.trans (Below.mono (by assumption) HS2.out.size)) HW2.out.size))⟩
             case measure=>simp [intOf];omega
          ·
           have hjn:sn=j2:=by omega
           have hge:¬(j2:Int) < (sn:Int):=by omega
           have HM5:=hide (show m2=m1+sumN szSt sL by rw [HM2.out,← hjn,sumN_all _ HSL.out])
           have v3:=bk1_cells HW2.out 3 _ rfl
           simp only [] at v3
           clear hjn HM2
           go_wp2_with fail
           refine (LOperands_any ⟨gA,gn,gc,gL⟩ _ (HP.out.term.args.up HRC.out)).mono ?_
           rintro e w3 ⟨r,rfl,hr1,hr2,hb⟩
           have HW3:=hide (HRC.out.trans (hb.mono HRC.out.size))
           have s1:IntKind.i64.wrap ((m2:Int)+(r:Int))=(m2:Int)+(r:Int):=wrapI9 _ (by omega) (by omega)
           have HFIN:=hide (show m2+r≤3000→m2+r=q0+on+S1+S2+S3+sumN szBk (bL.take (j+1)) from fun h=>by
            have h2:=hr2 (by omega)
            have h3:=HU.out
            simp only [] at h2 h3
            rw [h3,HM5.out,HM1.out,← h2]
            unfold szBk szOps
            simp only []
            omega)
           clear hb hr2 v3
           go_wp2
           go_roundw
           case rel=>exact ⟨j+1,m2+r,by go_num,congrArg (fun z:Int=>Value.int .i64 z) (by omega),by omega,by omega,HFIN,HW3⟩
           case measure=>simp [intOf];omega
        ·
         have hjn:bn=j:=by omega
         have hge:¬(j:Int) < (bn:Int):=by omega
         have HFIN:=hide (show m≤3000→szB ⟨nm,⟨rA,rn,rc,rL⟩,⟨oA,on,oc,oL⟩,⟨tA,tn,tc,tL⟩,⟨lA,ln,lc,lL⟩,ar,⟨bA,bn,bc,bL⟩⟩≤3000 from fun h=>HSZ.out 3000 (by have:=HM.out h;rw [←hjn,sumN_all _ HBL.out] at this;omega))
         clear hjn
         by_cases h4:3000 < m
         ·
          have h4i:(3000:Int) < (m:Int):=by omega
          go_wp2
          go_ret
          exact ⟨.inl rfl,HB.out.trans (HR4.out.mono HB.out.size)⟩
         ·
          have h4i:¬(3000:Int) < (m:Int):=by omega
          go_wp2
          go_ret
          exact ⟨.inr ⟨rfl,HFIN.out (by omega)⟩,HB.out.trans (HR4.out.mono HB.out.size)⟩):P:=h
theorem Large_any (x:BdW) (w:World) (hx:OneBd w w.heap.size x) (hF:FitBd x) :
 Calls Tryz.prog 44 #[aggBd x] w (LargeOut w x):=by
 have HB:=hide (bd1_below w x)
 have HX:=hide (hx.up HB.out)
 have HRL:=hide hx.regions.len
 have HTL:=hide hx.types.len
 have HLL:=hide hx.locals.len
 have HBL:=hide hx.blocks.len
 have hbn:=hx.blocks.nm
 have hs:=hide fun (w':World) (h:Below (bd1 w x).heap.size (bd1 w x) w')=>bd1_cells h
 have hr47:=hF.regions
 have ho47:=hF.outl
 have ht47:=hF.types
 have hl47:=hF.locals
 have HFB:=hide hF.blocks
 clear hF
 have hnm:=hx.name
 clear hx
 obtain ⟨nm,⟨rA,rn,rc,rL⟩,⟨oA,on,oc,oL⟩,⟨tA,tn,tc,tL⟩,⟨lA,ln,lc,lL⟩,ar,⟨bA,bn,bc,bL⟩⟩:=x
 simp only [] at hbn hr47 ho47 ht47 hl47 hnm
 unfold maxLen at hbn hnm
 obtain ⟨q0,hq0⟩:∃ q,min nm.size 9000=q:=⟨_,rfl⟩
 have hq9:q0≤9000:=by omega
 obtain ⟨S1,hS1⟩:∃ S,sumN szR rL=S:=⟨_,rfl⟩
 obtain ⟨S2,hS2⟩:∃ S,sumN szT tL=S:=⟨_,rfl⟩
 obtain ⟨S3,hS3⟩:∃ S,sumN szL lL=S:=⟨_,rfl⟩
 have HSZ:=hide (show ∀ r,q0+on+S1+S2+S3+sumN szBk bL≤r→szB ⟨nm,⟨rA,rn,rc,rL⟩,⟨oA,on,oc,oL⟩,⟨tA,tn,tc,tL⟩,⟨lA,ln,lc,lL⟩,ar,⟨bA,bn,bc,bL⟩⟩≤r from fun r h=>by unfold szB;simp only [hq0,hS1,hS2,hS3];exact h)
 have HS1:=hide hS1
 clear hS1
 have HS2:=hide hS2
 clear hS2
 have HS3:=hide hS3
 clear hS3
 by_cases h9:9000 < nm.size
 ·
  have hi1:(9000:Int) < (nm.size:Int):=by omega
  have hi2:(9000:Int)≤(nm.size:Int):=by omega
  have hq:=hide (show q0=9000 by omega)
  have t0:IntKind.i64.wrap (9000+(on:Int))=9000+(on:Int):=wrapI9 _ (by omega) (by omega)
  exact BodVz0
 ·
  have hi1:¬(9000:Int) < (nm.size:Int):=by omega
  have hi2:(nm.size:Int)≤9000:=by omega
  have hq:=hide (show q0=nm.size by omega)
  have t0:IntKind.i64.wrap ((nm.size:Int)+(on:Int))=(nm.size:Int)+(on:Int):=wrapI9 _ (by omega) (by omega)
  exact BodVz0
theorem two_alloc (w:World) (o p:Obj):Below w.heap.size w ((w.alloc o).alloc p):=((Below.refl _ _).alloc (Nat.le_refl _) _).alloc (by simp) _
theorem eqTy_no {a b:Ty} (h:a≠b):eqTy a b=false:=by simp [eqTy,h]
def FirstT (l:List Ty) (t:Ty) (k:Nat):Prop:=l[k]?=some t∧∀ i,i < k→l[i]?≠some t
theorem firstT_ex:∀ {l:List Ty} {t:Ty},t∈l→∃ k,FirstT l t k
  | [],_,h=>by cases h
  | x :: l,t,h=>by
    by_cases hx:x=t
    · exact ⟨0,by simp [hx],fun i hi=>absurd hi (by omega)⟩
    · have hm : t ∈ l := by
        rcases List.mem_cons.1 h with e | h
        · exact absurd e.symm hx
        · exact h
      obtain ⟨k,h1,h2⟩:=firstT_ex hm
      refine ⟨k+1,by simpa using h1,fun i hi=>?_⟩
      cases i with
      | zero=>simp [hx]
      | succ i=>simpa using h2 i (by omega)
theorem box_at {w wr:World} {cs:Array Value} {t:TypeId} (h:Below (w.heap.size+1) (w.alloc (.cells cs t)) wr) {j:Nat} {u:Value} (hj:cs[j]?=some u):wr.cell? ⟨w.heap.size,j,none⟩=some u:=by
 rw [h.cell (p:=⟨w.heap.size,j,none⟩) (Nat.lt_succ_self _),cell_of_row (w.alloc (.cells cs t)) w.heap.size j cs t (0,0) (heap_alloc_new w _),hj]
theorem box_below {w wr:World} {o:Obj} (h:Below (w.heap.size+1) (w.alloc o) wr):Below w.heap.size w wr:=((Below.refl _ _).alloc (Nat.le_refl _) o).trans (h.mono (Nat.le_succ _))
section
variable {P:Program} (w:World)
theorem run_append_nil (base:Nat) (t ty e:TypeId) (i:TypeInfo) (size:Nat) (ht:P.underlying t=some (.slice e)) (hi:P.info? e=some i)
  (v:Value) (n:Nat) (xs:List Value) (hown:w.ownsRow base e size v n xs) (c:Nat):(Builtin.append_ #[t,t] ty #[v,.slice none 0 c]).run P w=.ok v w:=by
 rcases hown.2 with ⟨rfl,rfl⟩ | ⟨g,cap,cur,rfl,_,_,hnc,_⟩
 ·
  simp [Builtin.append_,run_underlying ht,sizeOf,typeInfo,hi,Builtin.lenOf,Builtin.firstCells]
 ·
  simp [Builtin.append_,run_underlying ht,sizeOf,typeInfo,hi,Builtin.lenOf,Builtin.firstCells,hnc,storeCells]
end
theorem below_app {w w0 w1:World} {base:Nat} {e:TypeId} {size n:Nat} {v:Value} {xs:List Value} (hb:Below base w0 w) (hown:w.ownsRow base e size v n xs) (hle:base≤w.heap.size) (hg:w.grownBy w1 v.ownBlock):Below base w0 w1:=
 hb.grown hg hle (fun k hk=>(hown.lt k hk).1)
def Part (w:World) (B:Nat) (v:Value) (xs:List Int):Prop:=∃ A c,v=.slice A xs.length c∧Rd w B A xs.length (u8s xs)
theorem Part.below {w w':World} {B:Nat} {v:Value} {xs:List Int} (h:Part w B v xs) (hb:Below B w w'):Part w' B v xs:=by
 obtain ⟨A,c,e,hr⟩:=h
 exact ⟨A,c,e,hr.below hb⟩
def Parts (w:World) (B:Nat):List Value→List (List Int)→Prop
 | [],[]=>True
 | v :: vs,xs :: xss=>Part w B v xs∧Parts w B vs xss
 | _,_=>False
theorem Parts.below {w w':World} {B:Nat} (hb:Below B w w'):∀ {vs:List Value} {xss:List (List Int)},Parts w B vs xss→Parts w' B vs xss
 | [],[],h=>h
 | _ :: _,_ :: _,h=>⟨h.1.below hb,Parts.below hb h.2⟩
theorem Parts.len {w:World} {B:Nat}:∀ {vs:List Value} {xss:List (List Int)},Parts w B vs xss→vs.length=xss.length
 | [],[],_=>rfl
 | _ :: _,_ :: _,h=>by simp [h.2.len]
theorem Parts.at_ {w:World} {B:Nat}:∀ {vs:List Value} {xss:List (List Int)},Parts w B vs xss→∀ k,k < vs.length→∃ v xs,vs[k]?=some v∧xss[k]?=some xs∧Part w B v xs
 | _ :: _,_ :: _,h,0,_=>⟨_,_,rfl,rfl,h.1⟩
 | _ :: _,_ :: _,h,k+1,hk=>by simpa using h.2.at_ k (by simpa using hk)
end Go.Proofs.YteeemjmohjkdpaaGreatDoor
