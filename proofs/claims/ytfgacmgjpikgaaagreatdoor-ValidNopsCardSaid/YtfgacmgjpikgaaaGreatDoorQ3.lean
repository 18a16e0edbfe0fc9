/- Part 4 of the contracts and their mathematics. -/
import Derived.Test.YtfgacmgjpikgaaaGreatDoorQ2
set_option linter.unusedVariables false
set_option linter.unusedSimpArgs false
set_option maxRecDepth 100000
namespace Go.Proofs.YtfgacmgjpikgaaaGreatDoor
open Go.ChangeShapes Go.WideShapes Go.ChangeAt Go.RowKit
def fieldAt (P:Program) (fs:Array Field) (j off k:Nat) (t:TypeId):Bool:=match fs[j]? with
 | some f=>f.offset == off && P.cellsOf f.type == k && f.type == t
 | none=>false
def Fit {H:Type} (P:Program) (t:TypeId) (d:DataW H):Prop:=(d.weights P t).all (·≤reachBytes)=true
theorem Fit.of_sub {H:Type} {P:Program} {t t':TypeId} {d d':DataW H} (h:Fit P t d) (hs:∀ n∈d'.weights P t',n∈d.weights P t):Fit P t' d':=by
 unfold Fit at *
 rw [List.all_eq_true] at *
 exact fun n hn=>h n (hs n hn)
theorem Fit.part {H:Type} {P:Program} {e:TypeId} {fs:Array Field} (he:P.underlying e=some (.struct fs)) {parts:List (DataW H)} (h:Fit P e (.agg parts)) {j:Nat} {f:Field} {d:DataW H} (hf:fs[j]?=some f) (hd:parts[j]?=some d):Fit P f.type d:=by
 refine h.of_sub fun n hn=>?_
 have e1:(DataW.agg parts).weights P e=DataW.weightsEach P (fs.toList.map (·.type)) parts:=by simp [DataW.weights,he]
 rw [e1]
 exact DataW.weights_mem_each (by rw [List.getElem?_map,Array.getElem?_toList,hf];rfl) hd n hn
theorem weights_all_mem {H:Type} {P:Program} {e:TypeId}:∀ {ds:List (DataW H)} {d:DataW H},d∈ds→∀ n∈d.weights P e,n∈DataW.weightsAll P e ds
 | x :: r,d,h,n,hn=>by
  rw [DataW.weightsAll]
  rcases List.mem_cons.1 h with rfl | h
  ·
   exact List.mem_append_left _ hn
  ·
   exact List.mem_append_right _ (weights_all_mem h n hn)
theorem Fit.elem {H:Type} {P:Program} {t e:TypeId} (ht:P.underlying t=some (.slice e)) {es sp:List (DataW H)} (h:Fit P t (.slice es sp)) {d:DataW H} (hd:d∈es):Fit P e d:=by
 refine h.of_sub fun n hn=>?_
 have e1:(DataW.slice es sp).weights P t=(es.length+sp.length)*P.bytesOf e :: (DataW.weightsAll P e es++DataW.weightsAll P e sp):=by simp [DataW.weights,ht]
 rw [e1]
 exact List.mem_cons_of_mem _ (List.mem_append_left _ (weights_all_mem hd n hn))
theorem Fit.len {H:Type} {P:Program} {t e:TypeId} (ht:P.underlying t=some (.slice e)) {es sp:List (DataW H)} (h:Fit P t (.slice es sp)) (hb:0 < P.bytesOf e):es.length≤2 ^ 47:=by
 have e1:(DataW.slice es sp).weights P t=(es.length+sp.length)*P.bytesOf e :: (DataW.weightsAll P e es++DataW.weightsAll P e sp):=by simp [DataW.weights,ht]
 unfold Fit at h
 rw [e1,List.all_cons,Bool.and_eq_true] at h
 have h1:=of_decide_eq_true h.1
 have h2:es.length+sp.length≤(es.length+sp.length)*P.bytesOf e:=Nat.le_mul_of_pos_right _ hb
 unfold reachBytes at h1
 omega
theorem trodPart {H:Type} {enc:TypeId×Value→H} {P:Program} {W:World} {e:TypeId} {fs:Array Field} {fuel:Nat} {cs:List Value} {z:DataW H×List MemPlace} (he:P.underlying e=some (.struct fs)) {j off k:Nat} {t:TypeId} (hf:fieldAt P fs j off k t=true)
  (h:DataW.trod enc P W 0 (fun _=>true) true fuel e cs=some z):∃ m y,DataW.trod enc P W 0 (fun _=>true) true m t ((cs.drop off).take k)=some y∧(Fit P e z.1→Fit P t y.1):=by
 obtain ⟨ys,m,_,hz,_,hyl,hfld⟩:=DataW.trod_struct he h
 unfold fieldAt at hf
 split at hf
 ·
  rename_i f hj
  simp only [Bool.and_eq_true,beq_iff_eq] at hf
  obtain ⟨⟨h1,h2⟩,h3⟩:=hf
  have hb:=hfld j f hj
  rw [h1,h2] at hb
  have hy:ys[j]?=some (ys[j]'(by rw [hyl];exact (Array.getElem?_eq_some_iff.1 hj).1)):=List.getElem?_eq_getElem _
  refine ⟨m,ys[j]'(by rw [hyl];exact (Array.getElem?_eq_some_iff.1 hj).1),?_,fun hF=>?_⟩
  ·
   rw [←h3,hb]
   exact hy
  ·
   subst hz
   have:=Fit.part he hF hj (d:=(ys[j]'(by rw [hyl];exact (Array.getElem?_eq_some_iff.1 hj).1)).1) (by rw [List.getElem?_map,hy];rfl)
   rwa [h3] at this
 ·
  cases hf
theorem trodCellsF {H:Type} {enc:TypeId×Value→H} {P:Program} {W:World} {t e:TypeId} {fuel:Nat} {u:Value} {z:DataW H×List MemPlace} {α:Type} (f:α→List Value) (Q R:α→Prop) {k:Nat} (hk:0 < k) (hf:∀ x,(f x).length=k)
  (ht:P.underlying t=some (.slice e)) (hC:P.cellsOf e=k) (hB:0 < P.bytesOf e) (elem:∀ (fuel:Nat) (cs:List Value) (z:DataW H×List MemPlace),cs.length=k→DataW.trod enc P W 0 (fun _=>true) true fuel e cs=some z→∃ x,cs=f x∧Q x∧(Fit P e z.1→R x))
  (h:DataW.trod enc P W 0 (fun _=>true) true fuel t [u]=some z):∃ A n c L,u=.slice A n c∧n≤c∧c≤maxLen∧Cells W W.heap.size k f A n L∧(∀ x∈L,Q x)∧(Fit P t z.1→n≤2 ^ 47∧∀ x∈L,R x):=by
 rcases Go.Deep.open_slice ht h with ⟨hcs,_⟩ | ⟨a,len,cap,m,nn,D,Pl,hcs,_,hlc,hcm,hm,hz,hi⟩
 ·
  injection hcs with hcs
  subst hcs
  exact ⟨none,0,0,[],rfl,Nat.le_refl _,Nat.zero_le _,⟨rfl,fun h=>absurd h (by omega)⟩,(fun x hx=>by cases hx),fun _=>⟨by omega,fun x hx=>by cases hx⟩⟩
 ·
  injection hcs with hcs
  subst hcs
  simp only [if_true] at hm
  subst hm
  have hfit:Fit P t z.1→len≤2 ^ 47∧∀ i,i < len→Fit P e (D i):=fun hF=>by
   rw [hz] at hF
   refine ⟨by simpa using hF.len ht hB,fun i hi=>hF.elem ht (List.mem_map.2 ⟨i,List.mem_range.2 hi,rfl⟩)⟩
  have key:∀ i,i < len→∃ x:α,(Q x∧(Fit P t z.1→R x))∧∀ j v,(f x)[j]?=some v→W.cell? ((a.add (i*k)).add j)=some v:=by
   intro i hin
   obtain ⟨cs,hcs,htr⟩:=hi i (by omega)
   rw [hC] at hcs
   obtain ⟨_,hlen,hat⟩:=World.cells?_some hcs
   obtain ⟨x,rfl,hq,hr⟩:=elem nn cs _ hlen htr
   refine ⟨x,⟨hq,fun hF=>hr ((hfit hF).2 i hin)⟩,fun j v hv=>?_⟩
   have hj:j < k:=by have:=(List.getElem?_eq_some_iff.1 hv).1;rwa [hf] at this
   exact (hat j hj).trans hv
  obtain ⟨L,hL,hq⟩:=listL_of len key
  refine ⟨some a,len,m,L,rfl,hlc,hcm,⟨hL,fun hn=>?_⟩,fun x hx=>?_,fun hF=>⟨(hfit hF).1,fun x hx=>?_⟩⟩
  ·
   obtain ⟨x0,hx0⟩:∃ x,L[0]?=some x:=⟨_,List.getElem?_eq_getElem (by omega)⟩
   obtain ⟨v0,hv0⟩:∃ v,(f x0)[0]?=some v:=⟨_,List.getElem?_eq_getElem (by rw [hf];exact hk)⟩
   obtain ⟨b,o,spot⟩:=a
   have hc0:=(hq 0 x0 hx0).2 0 v0 hv0
   have hspot:spot=none:=by
    have:=World.cell?_spot hc0
    simpa [Addr.add] using this
   subst hspot
   have hadd:∀ i j,((⟨b,o,none⟩:Addr).add i).add j=⟨b,o+i+j,none⟩:=fun i j=>by unfold Addr.add;split <;> split <;> simp_all
   refine ⟨b,o,rfl,?_,fun i x hx j u hu=>?_⟩
   ·
    have:=cellLt hc0
    rw [hadd] at this
    exact this
   ·
    have:=(hq i x hx).2 j u hu
    rwa [hadd] at this
  ·
   obtain ⟨i,hix⟩:=List.getElem?_of_mem hx
   exact (hq i x hix).1.1
  ·
   obtain ⟨i,hix⟩:=List.getElem?_of_mem hx
   exact (hq i x hix).1.2 hF
structure FitBk (b:BkW):Prop where
 stmts:b.stmts.n≤2 ^ 47
 targets:b.term.targets.n≤2 ^ 47
 pl:b.term.pl.n≤2 ^ 47
 sts:∀ s∈b.stmts.L,s.pl.n≤2 ^ 47∧s.rv.pl.n≤2 ^ 47
structure FitBd (x:BdW):Prop where
 regions:x.regions.n≤2 ^ 47
 outl:x.outl.n≤2 ^ 47
 types:x.types.n≤2 ^ 47
 locals:x.locals.n≤2 ^ 47
 blocks:∀ b∈x.blocks.L,FitBk b
section
variable {H:Type} {enc:TypeId×Value→H} {P:Program} {W:World} {fuel:Nat} {u:Value} {t:TypeId} {z:DataW H×List MemPlace}
theorem one_int (ht:P.underlying t=some (.int .i64)) (h:DataW.trod enc P W 0 (fun _=>true) true fuel t [u]=some z):∃ x:Int,u=.int .i64 x∧IntR x:=by
 obtain ⟨x,q,_,w⟩:=DataW.trod_int ht h
 injection q with q
 exact ⟨x,q,rngL w⟩
theorem one_bool (ht:P.underlying t=some .bool) (h:DataW.trod enc P W 0 (fun _=>true) true fuel t [u]=some z):∃ b:Bool,u=.bool b:=by
 obtain ⟨b,q,_⟩:=DataW.trod_bool ht h
 injection q with q
 exact ⟨b,q⟩
theorem one_str (ht:P.underlying t=some .string) (h:DataW.trod enc P W 0 (fun _=>true) true fuel t [u]=some z):∃ s:ByteArray,u=.string s∧s.size≤maxLen:=by
 obtain ⟨s,q,_,w⟩:=DataW.trod_string ht h
 injection q with q
 exact ⟨s,q,w⟩
theorem one_slice {e:TypeId} {α:Type} (f:α→List Value) (Q R:α→Prop) {k:Nat} (hk:0 < k) (hf:∀ x,(f x).length=k) (ht:P.underlying t=some (.slice e)) (hC:P.cellsOf e=k) (hB:0 < P.bytesOf e)
  (elem:∀ (fuel:Nat) (cs:List Value) (z:DataW H×List MemPlace),cs.length=k→DataW.trod enc P W 0 (fun _=>true) true fuel e cs=some z→∃ x,cs=f x∧Q x∧(Fit P e z.1→R x)) (h:DataW.trod enc P W 0 (fun _=>true) true fuel t [u]=some z):∃ s:SlW α,u=.slice s.A s.n s.c∧SlH W W.heap.size k f Q s∧(Fit P t z.1→s.n≤2 ^ 47∧∀ x∈s.L,R x):=by
 obtain ⟨A,n,c,L,rfl,h1,h2,h3,h4,h5⟩:=trodCellsF f Q R hk hf ht hC hB elem h
 exact ⟨⟨A,n,c,L⟩,rfl,⟨h1,h2,h3,h4⟩,h5⟩
end
theorem len1 {cs:List Value} (h:cs.length=1):∃ u,cs=[u]:=by
 match cs,h with
 | [u],_=>exact ⟨u,rfl⟩
section
variable {H:Type} {enc:TypeId×Value→H} {W:World} {fuel:Nat} {cs:List Value} {u:Value} {z:DataW H×List MemPlace}
theorem trodInts (h:DataW.trod enc Tryz.prog W 0 (fun _=>true) true fuel 48 [u]=some z):∃ s:SlW Int,u=.slice s.A s.n s.c∧Ints W W.heap.size s∧(Fit Tryz.prog 48 z.1→s.n≤2 ^ 47∧∀ x∈s.L,True):=
 one_slice cInt IntR (fun _=>True) (by decide) cInt_len Tryz.underlying48 (by kernel_rfl) (of_decide_eq_true (by kernel_rfl)) (fun fuel cs z hl h=>by
  obtain ⟨u,rfl⟩:=len1 hl
  obtain ⟨x,rfl,hx⟩:=one_int Tryz.underlying3 h
  exact ⟨x,rfl,hx,fun _=>trivial⟩) h
theorem trodStrs (h:DataW.trod enc Tryz.prog W 0 (fun _=>true) true fuel 22 [u]=some z):∃ s:SlW ByteArray,u=.slice s.A s.n s.c∧Strs W W.heap.size s∧(Fit Tryz.prog 22 z.1→s.n≤2 ^ 47∧∀ x∈s.L,True):=
 one_slice cStr (fun x=>x.size≤maxLen) (fun _=>True) (by decide) cStr_len Tryz.underlying22 (by kernel_rfl) (of_decide_eq_true (by kernel_rfl)) (fun fuel cs z hl h=>by
  obtain ⟨u,rfl⟩:=len1 hl
  obtain ⟨x,rfl,hx⟩:=one_str Tryz.underlying9 h
  exact ⟨x,rfl,hx,fun _=>trivial⟩) h
theorem trodPl (hl:cs.length=2) (h:DataW.trod enc Tryz.prog W 0 (fun _=>true) true fuel 36 cs=some z):∃ x:PlW,cs=[.int .i64 x.l,.slice x.A x.n x.c]∧OnePl W W.heap.size x∧(Fit Tryz.prog 36 z.1→x.n≤2 ^ 47):=by
 match cs,hl with
 | [u0,u1],_=>
  obtain ⟨m0,y0,r0,q0⟩:=trodPart (j:=0) (off:=0) (k:=1) (t:=3) Tryz.underlying36 (by kernel_rfl) h
  obtain ⟨m1,y1,r1,q1⟩:=trodPart (j:=1) (off:=1) (k:=1) (t:=34) Tryz.underlying36 (by kernel_rfl) h
  obtain ⟨l,rfl,hl⟩:=one_int Tryz.underlying3 (show DataW.trod enc Tryz.prog W 0 (fun _=>true) true m0 3 [u0]=some y0 from r0)
  obtain ⟨A,n,c,L,rfl,h1,h2,h3,h4,h5⟩:=trodCellsF pV IntP (fun _=>True) (by decide) pV_len Tryz.underlying34 (by kernel_rfl) (of_decide_eq_true (by kernel_rfl)) (fun fuel cs z hl h=>by
   obtain ⟨p,e,hp⟩:=two_fields Tryz.underlying102 (by kernel_rfl) Tryz.underlying3 Tryz.underlying3 hl h
   exact ⟨p,e,hp,fun _=>trivial⟩) (show DataW.trod enc Tryz.prog W 0 (fun _=>true) true m1 34 [u1]=some y1 from r1)
  exact ⟨⟨l,A,n,c,L⟩,rfl,⟨h1,h2,hl,h3,h4⟩,fun hF=>(h5 (q1 hF)).1⟩
theorem trodOp (hl:cs.length=4) (h:DataW.trod enc Tryz.prog W 0 (fun _=>true) true fuel 38 cs=some z):∃ x:OpW,cs=cOp x∧OneOp W W.heap.size x:=by
 match cs,hl with
 | [u0,u1,u2,u3],_=>
  obtain ⟨m0,y0,r0,q0⟩:=trodPart (j:=0) (off:=0) (k:=1) (t:=3) Tryz.underlying38 (by kernel_rfl) h
  obtain ⟨m1,y1,r1,q1⟩:=trodPart (j:=1) (off:=1) (k:=2) (t:=36) Tryz.underlying38 (by kernel_rfl) h
  obtain ⟨m2,y2,r2,q2⟩:=trodPart (j:=2) (off:=3) (k:=1) (t:=2) Tryz.underlying38 (by kernel_rfl) h
  obtain ⟨x0,rfl,h0⟩:=one_int Tryz.underlying3 (show DataW.trod enc Tryz.prog W 0 (fun _=>true) true m0 3 [u0]=some y0 from r0)
  obtain ⟨p,e1,h1,_⟩:=trodPl (cs:=[u1,u2]) rfl (show DataW.trod enc Tryz.prog W 0 (fun _=>true) true m1 36 [u1,u2]=some y1 from r1)
  obtain ⟨x3,rfl,h3⟩:=one_int Tryz.underlying2 (show DataW.trod enc Tryz.prog W 0 (fun _=>true) true m2 2 [u3]=some y2 from r2)
  injection e1 with e1 e2
  injection e2 with e2 _
  subst e1 e2
  exact ⟨⟨x0,p,x3⟩,rfl,h0,h1,h3⟩
theorem trodOps (h:DataW.trod enc Tryz.prog W 0 (fun _=>true) true fuel 42 [u]=some z):∃ s:SlW OpW,u=.slice s.A s.n s.c∧Ops W W.heap.size s∧(Fit Tryz.prog 42 z.1→s.n≤2 ^ 47∧∀ x∈s.L,True):=
 one_slice cOp (OneOp W W.heap.size) (fun _=>True) (by decide) cOp_len Tryz.underlying42 (by kernel_rfl) (of_decide_eq_true (by kernel_rfl)) (fun fuel cs z hl h=>by
  obtain ⟨x,e,hx⟩:=trodOp hl h
  exact ⟨x,e,hx,fun _=>trivial⟩) h
theorem trodRv (hl:cs.length=7) (h:DataW.trod enc Tryz.prog W 0 (fun _=>true) true fuel 44 cs=some z):∃ x:RvW,cs=cRv x∧OneRv W W.heap.size x∧(Fit Tryz.prog 44 z.1→x.pl.n≤2 ^ 47):=by
 match cs,hl with
 | [u0,u1,u2,u3,u4,u5,u6],_=>
  obtain ⟨m0,y0,r0,q0⟩:=trodPart (j:=0) (off:=0) (k:=1) (t:=3) Tryz.underlying44 (by kernel_rfl) h
  obtain ⟨m1,y1,r1,q1⟩:=trodPart (j:=1) (off:=1) (k:=1) (t:=3) Tryz.underlying44 (by kernel_rfl) h
  obtain ⟨m2,y2,r2,q2⟩:=trodPart (j:=2) (off:=2) (k:=1) (t:=3) Tryz.underlying44 (by kernel_rfl) h
  obtain ⟨m3,y3,r3,q3⟩:=trodPart (j:=3) (off:=3) (k:=1) (t:=4) Tryz.underlying44 (by kernel_rfl) h
  obtain ⟨m4,y4,r4,q4⟩:=trodPart (j:=4) (off:=4) (k:=2) (t:=36) Tryz.underlying44 (by kernel_rfl) h
  obtain ⟨m5,y5,r5,q5⟩:=trodPart (j:=5) (off:=6) (k:=1) (t:=42) Tryz.underlying44 (by kernel_rfl) h
  obtain ⟨x0,rfl,h0⟩:=one_int Tryz.underlying3 (show DataW.trod enc Tryz.prog W 0 (fun _=>true) true m0 3 [u0]=some y0 from r0)
  obtain ⟨x1,rfl,h1⟩:=one_int Tryz.underlying3 (show DataW.trod enc Tryz.prog W 0 (fun _=>true) true m1 3 [u1]=some y1 from r1)
  obtain ⟨x2,rfl,h2⟩:=one_int Tryz.underlying3 (show DataW.trod enc Tryz.prog W 0 (fun _=>true) true m2 3 [u2]=some y2 from r2)
  obtain ⟨x3,rfl⟩:=one_bool Tryz.underlying4 (show DataW.trod enc Tryz.prog W 0 (fun _=>true) true m3 4 [u3]=some y3 from r3)
  obtain ⟨p,e1,h4,f4⟩:=trodPl (cs:=[u4,u5]) rfl (show DataW.trod enc Tryz.prog W 0 (fun _=>true) true m4 36 [u4,u5]=some y4 from r4)
  obtain ⟨s,rfl,h5,_⟩:=trodOps (show DataW.trod enc Tryz.prog W 0 (fun _=>true) true m5 42 [u6]=some y5 from r5)
  injection e1 with e1 e2
  injection e2 with e2 _
  subst e1 e2
  exact ⟨⟨x0,x1,x2,x3,p,s⟩,rfl,⟨h0,h1,h2,h4,h5⟩,fun hF=>f4 (q4 hF)⟩
theorem trodSt (hl:cs.length=11) (h:DataW.trod enc Tryz.prog W 0 (fun _=>true) true fuel 46 cs=some z):∃ x:StW,cs=cSt x∧OneSt W W.heap.size x∧(Fit Tryz.prog 46 z.1→x.pl.n≤2 ^ 47∧x.rv.pl.n≤2 ^ 47):=by
 match cs,hl with
 | [u0,u1,u2,u3,u4,u5,u6,u7,u8,u9,u10],_=>
  obtain ⟨m0,y0,r0,q0⟩:=trodPart (j:=0) (off:=0) (k:=1) (t:=3) Tryz.underlying46 (by kernel_rfl) h
  obtain ⟨m1,y1,r1,q1⟩:=trodPart (j:=1) (off:=1) (k:=2) (t:=36) Tryz.underlying46 (by kernel_rfl) h
  obtain ⟨m2,y2,r2,q2⟩:=trodPart (j:=2) (off:=3) (k:=7) (t:=44) Tryz.underlying46 (by kernel_rfl) h
  obtain ⟨m3,y3,r3,q3⟩:=trodPart (j:=3) (off:=10) (k:=1) (t:=3) Tryz.underlying46 (by kernel_rfl) h
  obtain ⟨x0,rfl,h0⟩:=one_int Tryz.underlying3 (show DataW.trod enc Tryz.prog W 0 (fun _=>true) true m0 3 [u0]=some y0 from r0)
  obtain ⟨p,e1,h1,f1⟩:=trodPl (cs:=[u1,u2]) rfl (show DataW.trod enc Tryz.prog W 0 (fun _=>true) true m1 36 [u1,u2]=some y1 from r1)
  obtain ⟨rv,e2,h2,f2⟩:=trodRv (cs:=[u3,u4,u5,u6,u7,u8,u9]) rfl (show DataW.trod enc Tryz.prog W 0 (fun _=>true) true m2 44 [u3,u4,u5,u6,u7,u8,u9]=some y2 from r2)
  obtain ⟨x3,rfl,h3⟩:=one_int Tryz.underlying3 (show DataW.trod enc Tryz.prog W 0 (fun _=>true) true m3 3 [u10]=some y3 from r3)
  injection e1 with e1 e1'
  injection e1' with e1' _
  unfold cRv at e2
  injection e2 with a0 e2
  injection e2 with a1 e2
  injection e2 with a2 e2
  injection e2 with a3 e2
  injection e2 with a4 e2
  injection e2 with a5 e2
  injection e2 with a6 _
  subst e1 e1' a0 a1 a2 a3 a4 a5 a6
  exact ⟨⟨x0,p,rv,x3⟩,rfl,⟨h0,h1,h2,h3⟩,fun hF=>⟨f1 (q1 hF),f2 (q2 hF)⟩⟩
theorem trodTm (hl:cs.length=6) (h:DataW.trod enc Tryz.prog W 0 (fun _=>true) true fuel 50 cs=some z):∃ x:TmW,cs=cTm x∧OneTm W W.heap.size x∧(Fit Tryz.prog 50 z.1→x.targets.n≤2 ^ 47∧x.pl.n≤2 ^ 47):=by
 match cs,hl with
 | [u0,u1,u2,u3,u4,u5],_=>
  obtain ⟨m0,y0,r0,q0⟩:=trodPart (j:=0) (off:=0) (k:=1) (t:=3) Tryz.underlying50 (by kernel_rfl) h
  obtain ⟨m1,y1,r1,q1⟩:=trodPart (j:=1) (off:=1) (k:=1) (t:=48) Tryz.underlying50 (by kernel_rfl) h
  obtain ⟨m2,y2,r2,q2⟩:=trodPart (j:=2) (off:=2) (k:=1) (t:=42) Tryz.underlying50 (by kernel_rfl) h
  obtain ⟨m3,y3,r3,q3⟩:=trodPart (j:=3) (off:=3) (k:=2) (t:=36) Tryz.underlying50 (by kernel_rfl) h
  obtain ⟨m4,y4,r4,q4⟩:=trodPart (j:=4) (off:=5) (k:=1) (t:=9) Tryz.underlying50 (by kernel_rfl) h
  obtain ⟨x0,rfl,h0⟩:=one_int Tryz.underlying3 (show DataW.trod enc Tryz.prog W 0 (fun _=>true) true m0 3 [u0]=some y0 from r0)
  obtain ⟨ts,rfl,h1,f1⟩:=trodInts (show DataW.trod enc Tryz.prog W 0 (fun _=>true) true m1 48 [u1]=some y1 from r1)
  obtain ⟨s,rfl,h2,_⟩:=trodOps (show DataW.trod enc Tryz.prog W 0 (fun _=>true) true m2 42 [u2]=some y2 from r2)
  obtain ⟨p,e1,h3,f3⟩:=trodPl (cs:=[u3,u4]) rfl (show DataW.trod enc Tryz.prog W 0 (fun _=>true) true m3 36 [u3,u4]=some y3 from r3)
  obtain ⟨nm,rfl,h4⟩:=one_str Tryz.underlying9 (show DataW.trod enc Tryz.prog W 0 (fun _=>true) true m4 9 [u5]=some y4 from r4)
  injection e1 with e1 e2
  injection e2 with e2 _
  subst e1 e2
  exact ⟨⟨x0,ts,s,p,nm⟩,rfl,⟨h0,h1,h2,h3,h4⟩,fun hF=>⟨(f1 (q1 hF)).1,f3 (q3 hF)⟩⟩
theorem trodBk (hl:cs.length=7) (h:DataW.trod enc Tryz.prog W 0 (fun _=>true) true fuel 52 cs=some z):∃ x:BkW,cs=cBk x∧OneBk W W.heap.size x∧(Fit Tryz.prog 52 z.1→FitBk x):=by
 match cs,hl with
 | [u0,u1,u2,u3,u4,u5,u6],_=>
  obtain ⟨m0,y0,r0,q0⟩:=trodPart (j:=0) (off:=0) (k:=1) (t:=47) Tryz.underlying52 (by kernel_rfl) h
  obtain ⟨m1,y1,r1,q1⟩:=trodPart (j:=1) (off:=1) (k:=6) (t:=50) Tryz.underlying52 (by kernel_rfl) h
  obtain ⟨ss,rfl,h0,f0⟩:=one_slice cSt (OneSt W W.heap.size) (fun s=>s.pl.n≤2 ^ 47∧s.rv.pl.n≤2 ^ 47) (by decide) cSt_len Tryz.underlying47 (by kernel_rfl) (of_decide_eq_true (by kernel_rfl)) (fun fuel cs z hl h=>trodSt hl h) (show DataW.trod enc Tryz.prog W 0 (fun _=>true) true m0 47 [u0]=some y0 from r0)
  obtain ⟨tm,e2,h1,f1⟩:=trodTm (cs:=[u1,u2,u3,u4,u5,u6]) rfl (show DataW.trod enc Tryz.prog W 0 (fun _=>true) true m1 50 [u1,u2,u3,u4,u5,u6]=some y1 from r1)
  unfold cTm at e2
  injection e2 with a0 e2
  injection e2 with a1 e2
  injection e2 with a2 e2
  injection e2 with a3 e2
  injection e2 with a4 e2
  injection e2 with a5 _
  subst a0 a1 a2 a3 a4 a5
  exact ⟨⟨ss,tm⟩,rfl,⟨h0,h1⟩,fun hF=>⟨(f0 (q0 hF)).1,(f1 (q1 hF)).1,(f1 (q1 hF)).2,(f0 (q0 hF)).2⟩⟩
theorem trodTy (hl:cs.length=5) (h:DataW.trod enc Tryz.prog W 0 (fun _=>true) true fuel 62 cs=some z):∃ x:TyW,cs=c5 x∧OneT W W.heap.size x:=by
 match cs,hl with
 | [u0,u1,u2,u3,u4],_=>
  obtain ⟨m0,y0,r0,q0⟩:=trodPart (j:=0) (off:=0) (k:=1) (t:=3) Tryz.underlying62 (by kernel_rfl) h
  obtain ⟨m1,y1,r1,q1⟩:=trodPart (j:=1) (off:=1) (k:=1) (t:=4) Tryz.underlying62 (by kernel_rfl) h
  obtain ⟨m2,y2,r2,q2⟩:=trodPart (j:=2) (off:=2) (k:=1) (t:=3) Tryz.underlying62 (by kernel_rfl) h
  obtain ⟨m3,y3,r3,q3⟩:=trodPart (j:=3) (off:=3) (k:=1) (t:=3) Tryz.underlying62 (by kernel_rfl) h
  obtain ⟨m4,y4,r4,q4⟩:=trodPart (j:=4) (off:=4) (k:=1) (t:=48) Tryz.underlying62 (by kernel_rfl) h
  obtain ⟨x0,rfl,h0⟩:=one_int Tryz.underlying3 (show DataW.trod enc Tryz.prog W 0 (fun _=>true) true m0 3 [u0]=some y0 from r0)
  obtain ⟨x1,rfl⟩:=one_bool Tryz.underlying4 (show DataW.trod enc Tryz.prog W 0 (fun _=>true) true m1 4 [u1]=some y1 from r1)
  obtain ⟨x2,rfl,h2⟩:=one_int Tryz.underlying3 (show DataW.trod enc Tryz.prog W 0 (fun _=>true) true m2 3 [u2]=some y2 from r2)
  obtain ⟨x3,rfl,h3⟩:=one_int Tryz.underlying3 (show DataW.trod enc Tryz.prog W 0 (fun _=>true) true m3 3 [u3]=some y3 from r3)
  obtain ⟨s,rfl,h4,_⟩:=trodInts (show DataW.trod enc Tryz.prog W 0 (fun _=>true) true m4 48 [u4]=some y4 from r4)
  exact ⟨⟨⟨x0,x1,x2,x3,s.L⟩,s.A,s.n,s.c⟩,rfl,⟨h4.nc,h4.cm,h4.len,h0,h2,h3,h4.all⟩,h4.rd⟩
theorem trodLc (hl:cs.length=2) (h:DataW.trod enc Tryz.prog W 0 (fun _=>true) true fuel 64 cs=some z):∃ x:LcW,cs=cLc x∧IntR x.ty∧x.name.size≤maxLen:=by
 match cs,hl with
 | [u0,u1],_=>
  obtain ⟨m0,y0,r0,q0⟩:=trodPart (j:=0) (off:=0) (k:=1) (t:=9) Tryz.underlying64 (by kernel_rfl) h
  obtain ⟨m1,y1,r1,q1⟩:=trodPart (j:=1) (off:=1) (k:=1) (t:=3) Tryz.underlying64 (by kernel_rfl) h
  obtain ⟨s,rfl,h0⟩:=one_str Tryz.underlying9 (show DataW.trod enc Tryz.prog W 0 (fun _=>true) true m0 9 [u0]=some y0 from r0)
  obtain ⟨x1,rfl,h1⟩:=one_int Tryz.underlying3 (show DataW.trod enc Tryz.prog W 0 (fun _=>true) true m1 3 [u1]=some y1 from r1)
  exact ⟨⟨s,x1⟩,rfl,h1,h0⟩
theorem trodPair (hl:cs.length=2) (h:DataW.trod enc Tryz.prog W 0 (fun _=>true) true fuel 99 cs=some z):∃ p:Pr,cs=pV p∧IntP p:=by
 obtain ⟨xs,m,_,_,hlen,hxl,hat⟩:=DataW.trod_array Tryz.underlying99 h
 match cs,hl with
 | [u0,u1],_=>
  have hc:Tryz.prog.cellsOf 3=1:=by kernel_rfl
  have g0:=hat 0 (by omega)
  have g1:=hat 1 (by omega)
  rw [hc] at g0 g1
  have t0:DataW.trod enc Tryz.prog W 0 (fun _=>true) true m 3 [u0]=some (xs[0]'(by omega)):=by
   have:=g0.trans (List.getElem?_eq_getElem (by omega))
   simpa [Value.cells] using this
  have t1:DataW.trod enc Tryz.prog W 0 (fun _=>true) true m 3 [u1]=some (xs[1]'(by omega)):=by
   have:=g1.trans (List.getElem?_eq_getElem (by omega))
   simpa [Value.cells] using this
  obtain ⟨x0,rfl,h0⟩:=one_int Tryz.underlying3 t0
  obtain ⟨x1,rfl,h1⟩:=one_int Tryz.underlying3 t1
  exact ⟨(x0,x1),rfl,h0,h1⟩
theorem trodBd (hl:cs.length=7) (h:DataW.trod enc Tryz.prog W 0 (fun _=>true) true fuel 28 cs=some z):∃ x:BdW,cs=cBd x∧OneBd W W.heap.size x∧(Fit Tryz.prog 28 z.1→FitBd x):=by
 match cs,hl with
 | [u0,u1,u2,u3,u4,u5,u6],_=>
  obtain ⟨m0,y0,r0,q0⟩:=trodPart (j:=0) (off:=0) (k:=1) (t:=9) Tryz.underlying28 (by kernel_rfl) h
  obtain ⟨m1,y1,r1,q1⟩:=trodPart (j:=1) (off:=1) (k:=1) (t:=22) Tryz.underlying28 (by kernel_rfl) h
  obtain ⟨m2,y2,r2,q2⟩:=trodPart (j:=2) (off:=2) (k:=1) (t:=23) Tryz.underlying28 (by kernel_rfl) h
  obtain ⟨m3,y3,r3,q3⟩:=trodPart (j:=3) (off:=3) (k:=1) (t:=24) Tryz.underlying28 (by kernel_rfl) h
  obtain ⟨m4,y4,r4,q4⟩:=trodPart (j:=4) (off:=4) (k:=1) (t:=25) Tryz.underlying28 (by kernel_rfl) h
  obtain ⟨m5,y5,r5,q5⟩:=trodPart (j:=5) (off:=5) (k:=1) (t:=3) Tryz.underlying28 (by kernel_rfl) h
  obtain ⟨m6,y6,r6,q6⟩:=trodPart (j:=6) (off:=6) (k:=1) (t:=26) Tryz.underlying28 (by kernel_rfl) h
  obtain ⟨nm,rfl,h0⟩:=one_str Tryz.underlying9 (show DataW.trod enc Tryz.prog W 0 (fun _=>true) true m0 9 [u0]=some y0 from r0)
  obtain ⟨rs,rfl,h1,f1⟩:=trodStrs (show DataW.trod enc Tryz.prog W 0 (fun _=>true) true m1 22 [u1]=some y1 from r1)
  obtain ⟨os,rfl,h2,f2⟩:=one_slice pV IntP (fun _=>True) (by decide) pV_len Tryz.underlying23 (by kernel_rfl) (of_decide_eq_true (by kernel_rfl)) (fun fuel cs z hl h=>by
   obtain ⟨x,e,hx⟩:=trodPair hl h
   exact ⟨x,e,hx,fun _=>trivial⟩) (show DataW.trod enc Tryz.prog W 0 (fun _=>true) true m2 23 [u2]=some y2 from r2)
  obtain ⟨ts,rfl,h3,f3⟩:=one_slice c5 (OneT W W.heap.size) (fun _=>True) (by decide) c5_len Tryz.underlying24 (by kernel_rfl) (of_decide_eq_true (by kernel_rfl)) (fun fuel cs z hl h=>by
   obtain ⟨x,e,hx⟩:=trodTy hl h
   exact ⟨x,e,hx,fun _=>trivial⟩) (show DataW.trod enc Tryz.prog W 0 (fun _=>true) true m3 24 [u3]=some y3 from r3)
  obtain ⟨ls,rfl,h4,f4⟩:=one_slice cLc (fun y=>IntR y.ty∧y.name.size≤maxLen) (fun _=>True) (by decide) cLc_len Tryz.underlying25 (by kernel_rfl) (of_decide_eq_true (by kernel_rfl)) (fun fuel cs z hl h=>by
   obtain ⟨x,e,hx⟩:=trodLc hl h
   exact ⟨x,e,hx,fun _=>trivial⟩) (show DataW.trod enc Tryz.prog W 0 (fun _=>true) true m4 25 [u4]=some y4 from r4)
  obtain ⟨x5,rfl,h5⟩:=one_int Tryz.underlying3 (show DataW.trod enc Tryz.prog W 0 (fun _=>true) true m5 3 [u5]=some y5 from r5)
  obtain ⟨bs,rfl,h6,f6⟩:=one_slice cBk (OneBk W W.heap.size) FitBk (by decide) cBk_len Tryz.underlying26 (by kernel_rfl) (of_decide_eq_true (by kernel_rfl)) (fun fuel cs z hl h=>trodBk hl h) (show DataW.trod enc Tryz.prog W 0 (fun _=>true) true m6 26 [u6]=some y6 from r6)
  exact ⟨⟨nm,rs,os,ts,ls,x5,bs⟩,rfl,⟨h0,h1,h2,h3,h4,h5,h6⟩,fun hF=>⟨(f1 (q1 hF)).1,(f2 (q2 hF)).1,(f3 (q3 hF)).1,(f4 (q4 hF)).1,(f6 (q6 hF)).2⟩⟩
end
theorem openBody {H:Type} {enc:TypeId×Value→H} {W:World} {base:Nat} {v:Value} {d:DataW H} {p:List MemPlace} (hv:Value.okWide Tryz.prog W .any base 28 v) (h:DataW.Trod enc Tryz.prog W 0 (fun _=>true) true 28 v d p):∃ x,v=aggBd x∧OneBd W W.heap.size x∧(Fit Tryz.prog 28 d→FitBd x):=by
 obtain ⟨cs,rfl,hsz⟩:=okWide_struct Tryz.underlying28 hv
 obtain ⟨fuel,hf⟩:=h
 obtain ⟨l⟩:=cs
 have hC:Tryz.prog.cellsOf 28=7:=by kernel_rfl
 obtain ⟨x,e,hx⟩:=trodBd (cs:=l) (hsz.trans hC) (by simpa [Value.cells] using hf)
 exact ⟨x,by rw [e];rfl,hx⟩
end Go.Proofs.YtfgacmgjpikgaaaGreatDoor
