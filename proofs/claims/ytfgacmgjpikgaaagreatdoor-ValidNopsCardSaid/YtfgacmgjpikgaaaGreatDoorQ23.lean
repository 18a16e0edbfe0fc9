/- Part 24 of the contracts and their mathematics. -/
import Derived.Test.YtfgacmgjpikgaaaGreatDoorQ4
import Derived.Test.YtfgacmgjpikgaaaGreatDoorQ7
import Derived.Laws.EntriesVeiled
import Derived.Shelf.Abstract
set_option linter.unusedVariables false
set_option linter.unusedSimpArgs false
set_option maxRecDepth 100000
set_option maxHeartbeats 8000000
namespace Go.Proofs.YtfgacmgjpikgaaaGreatDoor
open Go.RowKit
section
variable {α:Type}
theorem sumN_le (f:α→Nat) (l:List α) (j:Nat):sumN f (l.take j)≤sumN f l:=by
 have:=sumN_append f (l.take j) (l.drop j)
 rw [List.take_append_drop] at this
 omega
theorem sumN_map {β:Type} (g:β→α) (f:α→Nat) (l:List β):sumN f (l.map g)=sumN (fun x=>f (g x)) l:=by simp [sumN,Function.comp_def]
theorem sumN_one {f:α→Nat} {l:List α} {p:α} (h:p∈l):f p≤sumN f l:=by
 induction l with
 | nil=>cases h
 | cons x l ih=>
  rw [sumN_cons]
  rcases List.mem_cons.1 h with rfl | h
  ·
   omega
  ·
   have:=ih h
   omega
theorem sumN_len {f:α→Nat} {l:List α} (h:∀ x,1≤f x):l.length≤sumN f l:=by
 induction l with
 | nil=>exact Nat.le_refl _
 | cons x l ih=>
  rw [sumN_cons,List.length_cons]
  have:=h x
  omega
end
def plN (x:PlV):Nat:=1+x.ps.length
def opN (x:OpV):Nat:=1+plN x.pl
def opsN (l:List OpV):Nat:=sumN opN l
theorem plN_w {w:World} {B:Nat} {x:PlW} (h:OnePl w B x):plN x.v=1+x.n:=by
 have:=h.prs.len
 unfold plN PlW.v
 simp only [] at this ⊢
 omega
theorem RPlace_any (x:PlW) (w:World) (k:Nat) (hx:OnePl w k x) (h:plN x.v≤2 ^ 62) :
  Calls Tryz.prog 44 #[aggPl x] w fun e w'=>e=.returned (.int .i64 (plN x.v:Int))∧Below w.heap.size w w':=by
 have HF:=hide (plN_w hx)
 rw [plN_w hx] at h
 have HB:=hide ((Below.refl w.heap.size w).alloc (Nat.le_refl _) (.cells #[.int .i64 x.l,.slice x.A x.n x.c] 36))
 clear hx
 obtain ⟨l,A,n,c,ps⟩:=x
 simp only [] at h
 have t1:IntKind.i64.wrap (1+(n:Int))=1+(n:Int):=wrapI9 _ (by omega) (by omega)
 go_enter Tryz.func44,Tryz.ntmps44
 go_wp2
 go_ret
 refine ⟨?_,HB.out⟩
 rw [HF.out]
 exact congrArg (fun z:Int=>Ending.returned (.int .i64 z)) (by omega)
theorem ROperands_any (s:SlW OpW) (w:World) (k:Nat) (hs:Ops w k s) (hk:k≤w.heap.size) (h:opsN (s.L.map OpW.v)≤2 ^ 62) :
  Calls Tryz.prog 45 #[s.val] w fun e w'=>e=.returned (.int .i64 (opsN (s.L.map OpW.v):Int))∧Below w.heap.size w w':=by
 have HX:=hide (SlH.more hs hk (fun _ h=>h.more hk):Ops w w.heap.size s)
 have HL:=hide hs.len
 have hn:=hs.nm
 have HN:=hide h
 clear hs h hk
 obtain ⟨A,n,c,xs⟩:=s
 simp only [] at hn
 unfold maxLen at hn
 show Calls Tryz.prog 45 #[.slice A n c] w _
 go_enter Tryz.func45,Tryz.ntmps45
 go_wp2
 go_loopw [3,4] (fun v i wr=>∃ j:Nat,i=.int .i64 (j:Int)∧v=.int .i64 (sumN (fun x=>opN x.v) (xs.take j):Nat)∧j≤n∧Below w.heap.size w wr) (fun _ i _=>n - (intOf i).toNat)
 case atStart=>exact ⟨0,rfl,rfl,Nat.zero_le _,Below.refl _ _⟩
 case round=>
  obtain ⟨j,rfl,rfl,hj,hb⟩:=hrel
  have HB:=hide hb
  clear hb
  by_cases hlt:j < n
  ·
   obtain ⟨p,hp⟩:=HX.out.get hlt
   obtain ⟨g,o,hA,hg,h1,c0⟩:=HX.out.at_ hp
   simp only [] at hA
   subst hA
   have hlt':(j:Int) < (n:Int):=by omega
   have hpp:=hide h1.pl
   have c1:=(HB.out.cell hg).trans (c0 1 _ rfl)
   have c2:=(HB.out.cell hg).trans (c0 2 _ rfl)
   clear c0 h1
   have hb1:sumN (fun x=>opN x.v) (xs.take (j+1))≤2 ^ 62:=Nat.le_trans (sumN_le _ _ _) (by have:=HN.out;unfold opsN at this;rwa [sumN_map] at this)
   have hb2:=sumN_up (f:=fun x=>opN x.v) hp
   have hb3:opN p.v=1+plN p.pl.v:=rfl
   have HS:=hide hb2
   have HP:=hide hp
   clear hp
   obtain ⟨m,hm⟩:∃ m,sumN (fun x=>opN x.v) (xs.take j)=m:=⟨_,rfl⟩
   obtain ⟨q,hq⟩:∃ q,plN p.pl.v=q:=⟨_,rfl⟩
   have HQ:=hide hq
   have hS:sumN (fun x=>opN x.v) (xs.take (j+1))=m+(1+q):=by rw [hb2,hb3,hm,hq]
   have HS2:=hide hS
   have hq2:m+(1+q)≤2 ^ 62:=hS ▸ hb1
   rw [hm]
   clear hb1 hb2 hb3 hm hq hS
   have t1:IntKind.i64.wrap (1+(q:Int))=1+(q:Int):=wrapI9 _ (by omega) (by omega)
   have t2:IntKind.i64.wrap ((m:Int)+(1+(q:Int)))=(m:Int)+(1+(q:Int)):=wrapI9 _ (by omega) (by omega)
   have HC:=hide (show ∀ w',Below w.heap.size w w'→Calls Tryz.prog 44 #[aggPl p.pl] w' fun e w2=>e=.returned (.int .i64 (q:Int))∧Below w'.heap.size w' w2 from fun w' hb'=>HQ.out ▸ RPlace_any p.pl w' _ (hpp.out.below hb') (by rw [HQ.out];omega))
   go_wp2_with fail
   refine (HC.out _ HB.out).mono ?_
   rintro e w1 ⟨rfl,hb⟩
   have HB2:=hide (HB.out.trans (hb.mono HB.out.size))
   clear hb
   go_wp2
   go_roundw
   case rel=>exact ⟨j+1,by go_num,by rw [HS2.out];exact congrArg (fun z:Int=>Value.int .i64 z) (by omega),by omega,HB2.out⟩
   case measure=>simp [intOf];omega
  ·
   obtain rfl:j=n:=by omega
   have HF:=hide (show sumN (fun x=>opN x.v) (xs.take j)=opsN (xs.map OpW.v) by rw [sumN_all _ HL.out,opsN,sumN_map])
   go_wp2
   go_ret
   exact ⟨congrArg (fun z:Nat=>Ending.returned (.int .i64 (z:Int))) HF.out,HB.out⟩
def stN (x:StV):Nat:=1+plN x.pl+1+plN x.rv.pl+opsN x.rv.args
def tmN (x:TmV):Nat:=1+x.targets.length+opsN x.args+plN x.pl
def bkN (x:BkV):Nat:=sumN stN x.stmts+tmN x.term
def bdN0 (x:BdV):Nat:=1+x.regions.length+x.outl.length+x.locals.length+x.blocks.length+x.types.length
def bdN (x:BdV):Nat:=bdN0 x+sumN (fun t=>t.fields.length) x.types+sumN bkN x.blocks
def tm1 (w:World) (x:TmW):World:=w.alloc (.cells #[.int .i64 x.kind,.slice x.targets.A x.targets.n x.targets.c,.slice x.args.A x.args.n x.args.c,.int .i64 x.pl.l,.slice x.pl.A x.pl.n x.pl.c,.string x.name] 50)
theorem tm1_size (w:World) (x:TmW):(tm1 w x).heap.size=w.heap.size+1:=by simp [tm1]
theorem tm1_below (w:World) (x:TmW):Below w.heap.size w (tm1 w x):=(Below.refl _ w).alloc (Nat.le_refl _) _
theorem tm1_cells {w w':World} {x:TmW} (h:Below (tm1 w x).heap.size (tm1 w x) w'):∀ j u,(cTm x)[j]?=some u→w'.cell? ⟨w.heap.size,j,none⟩=some u:=by
 have hs:=tm1_size w x
 intro j u hu
 refine (h.cell (show w.heap.size < (tm1 w x).heap.size by omega)).trans ?_
 unfold tm1
 simp only [cTm] at hu
 rw [←hu]
 rcases j with _ | _ | _ | _ | _ | _ | j <;> simp [go_sem]
theorem RPlace_is {x:PlW} {q:Nat} (hq:plN x.v=q) (w:World) {k:Nat} (hx:OnePl w k x) (h:q≤2 ^ 62) :
  Calls Tryz.prog 44 #[aggPl x] w fun e w'=>e=.returned (.int .i64 (q:Int))∧Below w.heap.size w w':=by subst hq;exact RPlace_any x w k hx h
theorem ROperands_is {s:SlW OpW} {q:Nat} (hq:opsN (s.L.map OpW.v)=q) (w:World) (hs:Ops w w.heap.size s) (h:q≤2 ^ 62) :
  Calls Tryz.prog 45 #[s.val] w fun e w'=>e=.returned (.int .i64 (q:Int))∧Below w.heap.size w w':=by subst hq;exact ROperands_any s w _ hs (Nat.le_refl _) h
theorem RNodes_any (x:BdW) (w:World) (hx:OneBd w w.heap.size x) (hN:bdN x.v≤2 ^ 62) :
  Calls Tryz.prog 21 #[aggBd x] w fun e w'=>e=.returned (.int .i64 (bdN x.v:Int))∧Below w.heap.size w w':=by
 have HB:=hide (bd1_below w x)
 have HX:=hide (hx.up HB.out)
 have HTL:=hide hx.types.len
 have HBL:=hide hx.blocks.len
 have htn:=hx.types.nm
 have hbn:=hx.blocks.nm
 have hs:=hide fun (w':World) (h:Below (bd1 w x).heap.size (bd1 w x) w')=>bd1_cells h
 have HN:=hide (show bdN x.v=1+x.regions.n+x.outl.n+x.locals.n+x.blocks.n+x.types.n+sumN (fun t:TyW=>t.t.fields.length) x.types.L+sumN (fun b=>bkN b.v) x.blocks.L by
  have h1:=hx.regions.len
  have h2:=hx.outl.len
  have h3:=hx.locals.len
  have h4:=hx.blocks.len
  have h5:=hx.types.len
  unfold bdN bdN0 BdW.v tys
  simp only [sumN_map,List.length_map,h1,h2,h3,h4,h5])
 clear hx
 obtain ⟨N,hNN⟩:∃ N,bdN x.v=N:=⟨_,rfl⟩
 rw [hNN] at hN HN ⊢
 clear hNN
 obtain ⟨nm,⟨rA,rn,rc,rL⟩,⟨oA,on,oc,oL⟩,⟨tA,tn,tc,tL⟩,⟨lA,ln,lc,lL⟩,ar,⟨bA,bn,bc,bL⟩⟩:=x
 simp only [] at htn hbn HN
 unfold maxLen at htn hbn
 obtain ⟨n0,hn0⟩:∃ n0,1+rn+on+ln+bn+tn=n0:=⟨_,rfl⟩
 obtain ⟨S1,hS1⟩:∃ S,sumN (fun t:TyW=>t.t.fields.length) tL=S:=⟨_,rfl⟩
 obtain ⟨S2,hS2⟩:∃ S,sumN (fun b=>bkN b.v) bL=S:=⟨_,rfl⟩
 have HN2:=hide (show N=n0+S1+S2 by rw [HN.out,hn0,hS1,hS2])
 have hN3:n0+S1+S2≤2 ^ 62:=HN2.out ▸ hN
 have HS1:=hide hS1
 have HS2:=hide hS2
 clear HN hS1 hS2 hN
 have w1:IntKind.i64.wrap (1+(rn:Int))=1+(rn:Int):=wrapI9 _ (by omega) (by omega)
 have w2:IntKind.i64.wrap (1+(rn:Int)+(on:Int))=1+(rn:Int)+(on:Int):=wrapI9 _ (by omega) (by omega)
 have w3:IntKind.i64.wrap (1+(rn:Int)+(on:Int)+(ln:Int))=1+(rn:Int)+(on:Int)+(ln:Int):=wrapI9 _ (by omega) (by omega)
 have w4:IntKind.i64.wrap (1+(rn:Int)+(on:Int)+(ln:Int)+(bn:Int))=1+(rn:Int)+(on:Int)+(ln:Int)+(bn:Int):=wrapI9 _ (by omega) (by omega)
 have w5:IntKind.i64.wrap (1+(rn:Int)+(on:Int)+(ln:Int)+(bn:Int)+(tn:Int))=(n0:Int):=by rw [wrapI9 _ (by omega) (by omega)];omega
 have Hn0:=hide hn0
 clear hn0
 go_enter Tryz.func21,Tryz.ntmps21
 go_wp2
 clear w1 w2 w3 w4 w5
 go_loopw [3,4] (fun v i wr=>∃ j m:Nat,i=.int .i64 (j:Int)∧v=.int .i64 (m:Int)∧j≤tn∧Hid (m=n0+sumN (fun t:TyW=>t.t.fields.length) (tL.take j))∧(Below (bd1 w ⟨nm,⟨rA,rn,rc,rL⟩,⟨oA,on,oc,oL⟩,⟨tA,tn,tc,tL⟩,⟨lA,ln,lc,lL⟩,ar,⟨bA,bn,bc,bL⟩⟩).heap.size (bd1 w ⟨nm,⟨rA,rn,rc,rL⟩,⟨oA,on,oc,oL⟩,⟨tA,tn,tc,tL⟩,⟨lA,ln,lc,lL⟩,ar,⟨bA,bn,bc,bL⟩⟩) wr)) (fun _ i _=>tn - (intOf i).toNat)
 case atStart=>exact ⟨0,n0,rfl,rfl,Nat.zero_le _,hide (by simp [sumN]),Below.refl _ _⟩
 case round=>
  obtain ⟨j,m,rfl,rfl,hj,HM,hb⟩:=hrel
  have HR:=hide hb
  clear hb
  have v3:=hs.out _ HR.out 3 _ rfl
  have v6:=hs.out _ HR.out 6 _ rfl
  simp only [] at v3 v6
  by_cases hlt:j < tn
  ·
   obtain ⟨p,hp⟩:=HX.out.types.get hlt
   obtain ⟨g,o,hA,hg,h1,c0⟩:=HX.out.types.at_ hp
   simp only [] at hA
   subst hA
   have hlt':(j:Int) < (tn:Int):=by omega
   have c4:=(HR.out.cell hg).trans (c0 4 _ rfl)
   have hu:=sumN_up (f:=fun t:TyW=>t.t.fields.length) hp
   have hle:=sumN_le (fun t:TyW=>t.t.fields.length) tL (j+1)
   have hl:p.t.fields.length=p.n:=h1.ok.len
   have HM2:=hide (show m+p.n=n0+sumN (fun t:TyW=>t.t.fields.length) (tL.take (j+1)) by rw [hu,HM.out,hl,Nat.add_assoc])
   have hbd:m+p.n≤2 ^ 62:=by rw [HM2.out];rw [HS1.out] at hle;omega
   have t1:IntKind.i64.wrap ((m:Int)+(p.n:Int))=(m:Int)+(p.n:Int):=wrapI9 _ (by omega) (by omega)
   clear c0 h1 hu hle hl hp
   go_wp2
   go_roundw
   case rel=>exact ⟨j+1,m+p.n,by go_num,congrArg (fun z:Int=>Value.int .i64 z) (by omega),by omega,HM2,HR.out⟩
   case measure=>simp [intOf];omega
  ·
   have hjn:tn=j:=by omega
   have hge:¬(j:Int) < (tn:Int):=by omega
   have HM1:=hide (show m=n0+S1 by rw [HM.out,← hjn,sumN_all _ HTL.out,HS1.out])
   clear HM hjn
   go_wp2
   clear v3 v6 hge
   go_loopw [3,5] (fun v i wr=>∃ j m:Nat,i=.int .i64 (j:Int)∧v=.int .i64 (m:Int)∧j≤bn∧Hid (m=n0+S1+sumN (fun b=>bkN b.v) (bL.take j))∧(Below (bd1 w ⟨nm,⟨rA,rn,rc,rL⟩,⟨oA,on,oc,oL⟩,⟨tA,tn,tc,tL⟩,⟨lA,ln,lc,lL⟩,ar,⟨bA,bn,bc,bL⟩⟩).heap.size (bd1 w ⟨nm,⟨rA,rn,rc,rL⟩,⟨oA,on,oc,oL⟩,⟨tA,tn,tc,tL⟩,⟨lA,ln,lc,lL⟩,ar,⟨bA,bn,bc,bL⟩⟩) wr)) (fun _ i _=>bn - (intOf i).toNat)
   case atStart=>exact ⟨0,m,rfl,rfl,Nat.zero_le _,hide (by rw [HM1.out];simp [sumN]),HR.out⟩
   case round=>
    clear HM1 HR hj hlt
    obtain ⟨j2,m2,rfl,rfl,hj2,HM2,hb⟩:=hrel
    have HR2:=hide hb
    clear hb
    have v6:=hs.out _ HR2.out 6 _ rfl
    simp only [] at v6
    by_cases hlt:j2 < bn
    ·
     obtain ⟨p,hp⟩:=HX.out.blocks.get hlt
     obtain ⟨g,o,hA,hg,h1,c0⟩:=HX.out.blocks.at_ hp
     obtain ⟨⟨sA,sn,sc,sL⟩,tt⟩:=p
     simp only [] at hA
     subst hA
     have hlt':(j2:Int) < (bn:Int):=by omega
     have HP:=hide h1
     have hu:=sumN_up (f:=fun b:BkW=>bkN b.v) hp
     have hle:=sumN_le (fun b:BkW=>bkN b.v) bL (j2+1)
     obtain ⟨ts,hts⟩:∃ ts,sumN (fun s:StW=>stN s.v) sL=ts:=⟨_,rfl⟩
     obtain ⟨q1,hq1⟩:∃ q,opsN (tt.args.L.map OpW.v)=q:=⟨_,rfl⟩
     obtain ⟨q2,hq2⟩:∃ q,plN tt.pl.v=q:=⟨_,rfl⟩
     have hbk:bkN (BkW.v ⟨⟨sA,sn,sc,sL⟩,tt⟩)=ts+(1+tt.targets.n+q1+q2):=by
      have:=h1.term.targets.len
      unfold bkN tmN BkW.v TmW.v
      simp only [sumN_map,this,hts,hq1,hq2]
     have HM3:=hide (show m2+(ts+(1+tt.targets.n+q1+q2))=n0+S1+sumN (fun b=>bkN b.v) (bL.take (j2+1)) by rw [hu,HM2.out];simp only [hbk];omega)
     have hbd:m2+(ts+(1+tt.targets.n+q1+q2))≤2 ^ 62:=by rw [HM3.out];rw [HS2.out] at hle;omega
     have hcs:=hide fun (w':World) (h:(Below (bd1 w ⟨nm,⟨rA,rn,rc,rL⟩,⟨oA,on,oc,oL⟩,⟨tA,tn,tc,tL⟩,⟨lA,ln,lc,lL⟩,ar,⟨some ⟨g,o,none⟩,bn,bc,bL⟩⟩).heap.size (bd1 w ⟨nm,⟨rA,rn,rc,rL⟩,⟨oA,on,oc,oL⟩,⟨tA,tn,tc,tL⟩,⟨lA,ln,lc,lL⟩,ar,⟨some ⟨g,o,none⟩,bn,bc,bL⟩⟩) w'))=>(show w'.cell? ⟨g,o+j2*7,none⟩=some (.slice sA sn sc)∧w'.cell? ⟨g,o+j2*7+1,none⟩=some (.int .i64 tt.kind)∧w'.cell? ⟨g,o+j2*7+2,none⟩=some (.slice tt.targets.A tt.targets.n tt.targets.c)∧w'.cell? ⟨g,o+j2*7+3,none⟩=some (.slice tt.args.A tt.args.n tt.args.c)∧w'.cell? ⟨g,o+j2*7+4,none⟩=some (.int .i64 tt.pl.l)∧w'.cell? ⟨g,o+j2*7+5,none⟩=some (.slice tt.pl.A tt.pl.n tt.pl.c)∧w'.cell? ⟨g,o+j2*7+6,none⟩=some (.string tt.name) from ⟨(h.cell hg).trans (c0 0 _ rfl),(h.cell hg).trans (c0 1 _ rfl),(h.cell hg).trans (c0 2 _ rfl),(h.cell hg).trans (c0 3 _ rfl),(h.cell hg).trans (c0 4 _ rfl),(h.cell hg).trans (c0 5 _ rfl),(h.cell hg).trans (c0 6 _ rfl)⟩)
     have Hts:=hide hts
     have Hq1:=hide hq1
     have Hq2:=hide hq2
     have hsn:=h1.stmts.nm
     unfold maxLen at hsn
     simp only [] at hsn
     have HSL:=hide h1.stmts.len
     clear c0 h1 hu hle hbk hts hq1 hq2 hp
     obtain ⟨d0,d1,d2,d3,d4,d5,d6⟩:=(hcs.out _ HR2.out)
     go_wp2
     clear v6 d0 d1 d2 d3 d4 d5 d6
     go_loopw [3,7] (fun v i wr=>∃ j m:Nat,i=.int .i64 (j:Int)∧v=.int .i64 (m:Int)∧j≤sn∧Hid (m=m2+sumN (fun s=>stN s.v) (sL.take j))∧(Below (bd1 w ⟨nm,⟨rA,rn,rc,rL⟩,⟨oA,on,oc,oL⟩,⟨tA,tn,tc,tL⟩,⟨lA,ln,lc,lL⟩,ar,⟨some ⟨g,o,none⟩,bn,bc,bL⟩⟩).heap.size (bd1 w ⟨nm,⟨rA,rn,rc,rL⟩,⟨oA,on,oc,oL⟩,⟨tA,tn,tc,tL⟩,⟨lA,ln,lc,lL⟩,ar,⟨some ⟨g,o,none⟩,bn,bc,bL⟩⟩) wr)) (fun _ i _=>sn - (intOf i).toNat)
     case atStart=>exact ⟨0,m2,rfl,rfl,Nat.zero_le _,hide (by simp [sumN]),HR2.out⟩
     case round=>
      obtain ⟨j3,m3,rfl,rfl,hj3,HM4,hb⟩:=hrel
      have HR3:=hide hb
      clear hb HR2
      by_cases hlt3:j3 < sn
      ·
       obtain ⟨s,hs3⟩:=HP.out.stmts.get hlt3
       obtain ⟨g3,o3,hA,hg3,h1,c0⟩:=HP.out.stmts.at_ hs3
       simp only [] at hA
       subst hA
       have hlt3':(j3:Int) < (sn:Int):=by omega
       have HSt:=hide h1
       have hu:=sumN_up (f:=fun s:StW=>stN s.v) hs3
       have hle:=sumN_le (fun s:StW=>stN s.v) sL (j3+1)
       obtain ⟨a1,ha1⟩:∃ q,plN s.pl.v=q:=⟨_,rfl⟩
       obtain ⟨a2,ha2⟩:∃ q,plN s.rv.pl.v=q:=⟨_,rfl⟩
       obtain ⟨a3,ha3⟩:∃ q,opsN (s.rv.args.L.map OpW.v)=q:=⟨_,rfl⟩
       have hst:stN s.v=1+a1+1+a2+a3:=by
        unfold stN StW.v RvW.v
        simp only [ha1,ha2,ha3]
       have HM5:=hide (show m3+(1+a1+1+a2+a3)=m2+sumN (fun s=>stN s.v) (sL.take (j3+1)) by rw [hu,HM4.out];simp only [hst];omega)
       have hbd3:m3+(1+a1+1+a2+a3)≤2 ^ 62:=by rw [HM5.out];rw [Hts.out] at hle;omega
       have hcs3:=hide fun (w':World) (h:(Below (bd1 w ⟨nm,⟨rA,rn,rc,rL⟩,⟨oA,on,oc,oL⟩,⟨tA,tn,tc,tL⟩,⟨lA,ln,lc,lL⟩,ar,⟨some ⟨g,o,none⟩,bn,bc,bL⟩⟩).heap.size (bd1 w ⟨nm,⟨rA,rn,rc,rL⟩,⟨oA,on,oc,oL⟩,⟨tA,tn,tc,tL⟩,⟨lA,ln,lc,lL⟩,ar,⟨some ⟨g,o,none⟩,bn,bc,bL⟩⟩) w'))=>(show w'.cell? ⟨g3,o3+j3*11+1,none⟩=some (.int .i64 s.pl.l)∧w'.cell? ⟨g3,o3+j3*11+2,none⟩=some (.slice s.pl.A s.pl.n s.pl.c)∧w'.cell? ⟨g3,o3+j3*11+7,none⟩=some (.int .i64 s.rv.pl.l)∧w'.cell? ⟨g3,o3+j3*11+8,none⟩=some (.slice s.rv.pl.A s.rv.pl.n s.rv.pl.c)∧w'.cell? ⟨g3,o3+j3*11+9,none⟩=some (.slice s.rv.args.A s.rv.args.n s.rv.args.c) from ⟨(h.cell hg3).trans (c0 1 _ rfl),(h.cell hg3).trans (c0 2 _ rfl),(h.cell hg3).trans (c0 7 _ rfl),(h.cell hg3).trans (c0 8 _ rfl),(h.cell hg3).trans (c0 9 _ rfl)⟩)
       have HC1:=hide fun (w':World) (h:(Below (bd1 w ⟨nm,⟨rA,rn,rc,rL⟩,⟨oA,on,oc,oL⟩,⟨tA,tn,tc,tL⟩,⟨lA,ln,lc,lL⟩,ar,⟨some ⟨g,o,none⟩,bn,bc,bL⟩⟩).heap.size (bd1 w ⟨nm,⟨rA,rn,rc,rL⟩,⟨oA,on,oc,oL⟩,⟨tA,tn,tc,tL⟩,⟨lA,ln,lc,lL⟩,ar,⟨some ⟨g,o,none⟩,bn,bc,bL⟩⟩) w'))=>RPlace_is ha1 w' (HSt.out.pl.below h) (by omega)
       have HC2:=hide fun (w':World) (h:(Below (bd1 w ⟨nm,⟨rA,rn,rc,rL⟩,⟨oA,on,oc,oL⟩,⟨tA,tn,tc,tL⟩,⟨lA,ln,lc,lL⟩,ar,⟨some ⟨g,o,none⟩,bn,bc,bL⟩⟩).heap.size (bd1 w ⟨nm,⟨rA,rn,rc,rL⟩,⟨oA,on,oc,oL⟩,⟨tA,tn,tc,tL⟩,⟨lA,ln,lc,lL⟩,ar,⟨some ⟨g,o,none⟩,bn,bc,bL⟩⟩) w'))=>RPlace_is ha2 w' (HSt.out.rv.pl.below h) (by omega)
       have HC3:=hide fun (w':World) (h:(Below (bd1 w ⟨nm,⟨rA,rn,rc,rL⟩,⟨oA,on,oc,oL⟩,⟨tA,tn,tc,tL⟩,⟨lA,ln,lc,lL⟩,ar,⟨some ⟨g,o,none⟩,bn,bc,bL⟩⟩).heap.size (bd1 w ⟨nm,⟨rA,rn,rc,rL⟩,⟨oA,on,oc,oL⟩,⟨tA,tn,tc,tL⟩,⟨lA,ln,lc,lL⟩,ar,⟨some ⟨g,o,none⟩,bn,bc,bL⟩⟩) w'))=>ROperands_is ha3 w' (HSt.out.rv.args.up h) (by omega)
       have s1:IntKind.i64.wrap (1+(a1:Int))=1+(a1:Int):=wrapI9 _ (by omega) (by omega)
       have s2:IntKind.i64.wrap (1+(a1:Int)+1)=1+(a1:Int)+1:=wrapI9 _ (by omega) (by omega)
       have s3:IntKind.i64.wrap (1+(a1:Int)+1+(a2:Int))=1+(a1:Int)+1+(a2:Int):=wrapI9 _ (by omega) (by omega)
       have s4:IntKind.i64.wrap (1+(a1:Int)+1+(a2:Int)+(a3:Int))=1+(a1:Int)+1+(a2:Int)+(a3:Int):=wrapI9 _ (by omega) (by omega)
       have s5:IntKind.i64.wrap ((m3:Int)+(1+(a1:Int)+1+(a2:Int)+(a3:Int)))=(m3:Int)+(1+(a1:Int)+1+(a2:Int)+(a3:Int)):=wrapI9 _ (by omega) (by omega)
       clear c0 h1 hu hle hst ha1 ha2 ha3 hs3
       go_wp2
       go_region_held3 (fun w'=>(Below (bd1 w ⟨nm,⟨rA,rn,rc,rL⟩,⟨oA,on,oc,oL⟩,⟨tA,tn,tc,tL⟩,⟨lA,ln,lc,lL⟩,ar,⟨some ⟨g,o,none⟩,bn,bc,bL⟩⟩).heap.size (bd1 w ⟨nm,⟨rA,rn,rc,rL⟩,⟨oA,on,oc,oL⟩,⟨tA,tn,tc,tL⟩,⟨lA,ln,lc,lL⟩,ar,⟨some ⟨g,o,none⟩,bn,bc,bL⟩⟩) w')∧w'.cell? ⟨g3,o3+j3*11+1,none⟩=some (.int .i64 s.pl.l)∧w'.cell? ⟨g3,o3+j3*11+2,none⟩=some (.slice s.pl.A s.pl.n s.pl.c)∧w'.cell? ⟨g3,o3+j3*11+7,none⟩=some (.int .i64 s.rv.pl.l)∧w'.cell? ⟨g3,o3+j3*11+8,none⟩=some (.slice s.rv.pl.A s.rv.pl.n s.rv.pl.c)∧w'.cell? ⟨g3,o3+j3*11+9,none⟩=some (.slice s.rv.args.A s.rv.args.n s.rv.args.c))
        (first | exact ⟨by assumption,hcs3.out _ (by assumption)⟩ | exact ⟨HR3.out,hcs3.out _ HR3.out⟩ | exact ⟨HR3.out.drew,hcs3.out _ HR3.out.drew⟩)
        (first
         | (go_at_call 44;go_split_ands;with_reducible change Calls _ _ #[aggPl s.pl] _ _;refine (HC1.out _ (by assumption)).mono ?_;rintro x9 w1 ⟨rfl,hb0⟩;have hb1:=Below.trans (by assumption:(Below (bd1 w ⟨nm,⟨rA,rn,rc,rL⟩,⟨oA,on,oc,oL⟩,⟨tA,tn,tc,tL⟩,⟨lA,ln,lc,lL⟩,ar,⟨some ⟨g,o,none⟩,bn,bc,bL⟩⟩).heap.size (bd1 w ⟨nm,⟨rA,rn,rc,rL⟩,⟨oA,on,oc,oL⟩,⟨tA,tn,tc,tL⟩,⟨lA,ln,lc,lL⟩,ar,⟨some ⟨g,o,none⟩,bn,bc,bL⟩⟩) _)) (hb0.mono (Below.size (by assumption:(Below (bd1 w ⟨nm,⟨rA,rn,rc,rL⟩,⟨oA,on,oc,oL⟩,⟨tA,tn,tc,tL⟩,⟨lA,ln,lc,lL⟩,ar,⟨some ⟨g,o,none⟩,bn,bc,bL⟩⟩).heap.size (bd1 w ⟨nm,⟨rA,rn,rc,rL⟩,⟨oA,on,oc,oL⟩,⟨tA,tn,tc,tL⟩,⟨lA,ln,lc,lL⟩,ar,⟨some ⟨g,o,none⟩,bn,bc,bL⟩⟩) _)))))
         | (go_at_call 44;go_split_ands;with_reducible change Calls _ _ #[aggPl s.rv.pl] _ _;refine (HC2.out _ (by assumption)).mono ?_;rintro x9 w1 ⟨rfl,hb0⟩;have hb1:=Below.trans (by assumption:(Below (bd1 w ⟨nm,⟨rA,rn,rc,rL⟩,⟨oA,on,oc,oL⟩,⟨tA,tn,tc,tL⟩,⟨lA,ln,lc,lL⟩,ar,⟨some ⟨g,o,none⟩,bn,bc,bL⟩⟩).heap.size (bd1 w ⟨nm,⟨rA,rn,rc,rL⟩,⟨oA,on,oc,oL⟩,⟨tA,tn,tc,tL⟩,⟨lA,ln,lc,lL⟩,ar,⟨some ⟨g,o,none⟩,bn,bc,bL⟩⟩) _)) (hb0.mono (Below.size (by assumption:(Below (bd1 w ⟨nm,⟨rA,rn,rc,rL⟩,⟨oA,on,oc,oL⟩,⟨tA,tn,tc,tL⟩,⟨lA,ln,lc,lL⟩,ar,⟨some ⟨g,o,none⟩,bn,bc,bL⟩⟩).heap.size (bd1 w ⟨nm,⟨rA,rn,rc,rL⟩,⟨oA,on,oc,oL⟩,⟨tA,tn,tc,tL⟩,⟨lA,ln,lc,lL⟩,ar,⟨some ⟨g,o,none⟩,bn,bc,bL⟩⟩) _)))))
         | (go_at_call 45;go_split_ands;refine (HC3.out _ (by assumption)).mono ?_;rintro x9 w1 ⟨rfl,hb0⟩;have hb1:=Below.trans (by assumption:(Below (bd1 w ⟨nm,⟨rA,rn,rc,rL⟩,⟨oA,on,oc,oL⟩,⟨tA,tn,tc,tL⟩,⟨lA,ln,lc,lL⟩,ar,⟨some ⟨g,o,none⟩,bn,bc,bL⟩⟩).heap.size (bd1 w ⟨nm,⟨rA,rn,rc,rL⟩,⟨oA,on,oc,oL⟩,⟨tA,tn,tc,tL⟩,⟨lA,ln,lc,lL⟩,ar,⟨some ⟨g,o,none⟩,bn,bc,bL⟩⟩) _)) (hb0.mono (Below.size (by assumption:(Below (bd1 w ⟨nm,⟨rA,rn,rc,rL⟩,⟨oA,on,oc,oL⟩,⟨tA,tn,tc,tL⟩,⟨lA,ln,lc,lL⟩,ar,⟨some ⟨g,o,none⟩,bn,bc,bL⟩⟩).heap.size (bd1 w ⟨nm,⟨rA,rn,rc,rL⟩,⟨oA,on,oc,oL⟩,⟨tA,tn,tc,tL⟩,⟨lA,ln,lc,lL⟩,ar,⟨some ⟨g,o,none⟩,bn,bc,bL⟩⟩) _))))))
       all_goals
        go_split_ands
        go_wp2
        go_roundw
        case rel=>exact ⟨j3+1,m3+(1+a1+1+a2+a3),by go_num,congrArg (fun z:Int=>Value.int .i64 z) (by omega),by omega,HM5,by assumption⟩
        case measure=>simp [intOf];omega
      ·
       have hjn:sn=j3:=by omega
       have hge:¬(j3:Int) < (sn:Int):=by omega
       have HM6:=hide (show m3=m2+ts by rw [HM4.out,← hjn,sumN_all _ HSL.out,Hts.out])
       have HM7:=hide (show m3+(1+tt.targets.n+q1+q2)=n0+S1+sumN (fun b=>bkN b.v) (bL.take (j2+1)) by rw [←HM3.out,HM6.out];omega)
       have hbd3:m3+(1+tt.targets.n+q1+q2)≤2 ^ 62:=by rw [HM6.out];omega
       clear hjn HM4
       have HT2:=hide (tm1_below wr tt)
       have HTT:=hide ((HP.out.term.up HR3.out).up HT2.out)
       have hts:=hide fun (w':World) (h:Below (tm1 wr tt).heap.size (tm1 wr tt) w')=>(show w'.cell? ⟨wr.heap.size,1,none⟩=some (.slice tt.targets.A tt.targets.n tt.targets.c)∧w'.cell? ⟨wr.heap.size,2,none⟩=some (.slice tt.args.A tt.args.n tt.args.c)∧w'.cell? ⟨wr.heap.size,3,none⟩=some (.int .i64 tt.pl.l)∧w'.cell? ⟨wr.heap.size,4,none⟩=some (.slice tt.pl.A tt.pl.n tt.pl.c) from ⟨tm1_cells h 1 _ rfl,tm1_cells h 2 _ rfl,tm1_cells h 3 _ rfl,tm1_cells h 4 _ rfl⟩)
       have HC1:=hide fun (w':World) (h:Below (tm1 wr tt).heap.size (tm1 wr tt) w')=>ROperands_is Hq1.out w' (HTT.out.args.up h) (by omega)
       have HC2:=hide fun (w':World) (h:Below (tm1 wr tt).heap.size (tm1 wr tt) w')=>RPlace_is Hq2.out w' (HTT.out.pl.below h) (by omega)
       obtain ⟨tn',htn'⟩:∃ n,tt.targets.n=n:=⟨_,rfl⟩
       have s1:IntKind.i64.wrap (1+(tt.targets.n:Int))=1+(tt.targets.n:Int):=wrapI9 _ (by omega) (by omega)
       have s2:IntKind.i64.wrap (1+(tt.targets.n:Int)+(q1:Int))=1+(tt.targets.n:Int)+(q1:Int):=wrapI9 _ (by omega) (by omega)
       have s3:IntKind.i64.wrap (1+(tt.targets.n:Int)+(q1:Int)+(q2:Int))=1+(tt.targets.n:Int)+(q1:Int)+(q2:Int):=wrapI9 _ (by omega) (by omega)
       have s4:IntKind.i64.wrap ((m3:Int)+(1+(tt.targets.n:Int)+(q1:Int)+(q2:Int)))=(m3:Int)+(1+(tt.targets.n:Int)+(q1:Int)+(q2:Int)):=wrapI9 _ (by omega) (by omega)
       clear htn' tn'
       have v6:=hs.out _ HR3.out 6 _ rfl
       simp only [] at v6
       obtain ⟨d0,d1,d2,d3,d4,d5,d6⟩:=(hcs.out _ HR3.out)
       go_wp2
       clear v6 d0 d1 d2 d3 d4 d5 d6
       change Code.wp _ _ _ _ (tm1 wr tt)
       go_region_held3 (fun w'=>Below (tm1 wr tt).heap.size (tm1 wr tt) w'∧w'.cell? ⟨wr.heap.size,1,none⟩=some (.slice tt.targets.A tt.targets.n tt.targets.c)∧w'.cell? ⟨wr.heap.size,2,none⟩=some (.slice tt.args.A tt.args.n tt.args.c)∧w'.cell? ⟨wr.heap.size,3,none⟩=some (.int .i64 tt.pl.l)∧w'.cell? ⟨wr.heap.size,4,none⟩=some (.slice tt.pl.A tt.pl.n tt.pl.c))
        (first | exact ⟨by assumption,hts.out _ (by assumption)⟩ | exact ⟨Below.refl _ _,hts.out _ (Below.refl _ _)⟩ | exact ⟨(Below.refl _ _).drew,hts.out _ (Below.refl _ _).drew⟩)
        (first
         | (go_at_call 45;go_split_ands;refine (HC1.out _ (by assumption)).mono ?_;rintro x9 w1 ⟨rfl,hb0⟩;have hb1:=Below.trans (by assumption:Below (tm1 wr tt).heap.size (tm1 wr tt) _) (hb0.mono (Below.size (by assumption:Below (tm1 wr tt).heap.size (tm1 wr tt) _))))
         | (go_at_call 44;go_split_ands;refine (HC2.out _ (by assumption)).mono ?_;rintro x9 w1 ⟨rfl,hb0⟩;have hb1:=Below.trans (by assumption:Below (tm1 wr tt).heap.size (tm1 wr tt) _) (hb0.mono (Below.size (by assumption:Below (tm1 wr tt).heap.size (tm1 wr tt) _)))))
       all_goals
        go_split_ands
        go_wp2
        go_roundw
        case rel=>exact ⟨j2+1,m3+(1+tt.targets.n+q1+q2),by go_num,congrArg (fun z:Int=>Value.int .i64 z) (by omega),by omega,HM7,HR3.out.trans (Below.mono (HT2.out.trans (Below.mono (by assumption) HT2.out.size)) HR3.out.size)⟩
        case measure=>simp [intOf];omega
    ·
     have hjn:bn=j2:=by omega
     have hge:¬(j2:Int) < (bn:Int):=by omega
     have HF:=hide (show m2=N by rw [HM2.out,← hjn,sumN_all _ HBL.out,HS2.out,HN2.out])
     clear hjn
     go_wp2
     go_ret
     exact ⟨congrArg (fun z:Nat=>Ending.returned (.int .i64 (z:Int))) HF.out,HB.out.trans (HR2.out.mono HB.out.size)⟩
section
variable {P:Program} (w:World) {α:Type} {f:α→List Value} {k:Nat}
theorem run_append_cells (hk:∀ x,(f x).length=k) (h0:0 < k) (hone:∀ x,∀ u∈f x,u.oneCell'=true) (base:Nat) (t ty e:TypeId) (i:TypeInfo) (z:Value) (bytes:Nat) (ht:P.underlying t=some (.slice e)) (hi:P.info? e=some i) (hz:i.zero=some z)
    (hsize:i.size=k) (hby:i.bytes=bytes) (hzs:z.cells.size=k)
    (v:Value) (n:Nat) (xs:List Value) (hown:w.ownsRow base e k v n xs)
    (B:Nat) (A:Option Addr) (m c:Nat) (L:List α) (hr:Cells w B k f A m L)
    (h63:n+m≤maxLen) (hbytes:(n+m)*bytes≤140737488355328) (hbase:base≤w.heap.size) :
    ∃ v' w',(Builtin.append_ #[t,t] ty #[v,.slice A m c]).run P w=.ok v' w'∧w'.ownsRow base e k v' (n+m) (xs++L.flatMap f)∧w.grownBy w' v.ownBlock ∧
      (v'.ownBlock=v.ownBlock∨v'.ownBlock=some w.heap.size):=by
  rcases A with _ | ad
  · have hm:m=0:=by
      rcases Nat.eq_zero_or_pos m with h | h
      · exact h
      · obtain ⟨b,o,h,_⟩:=hr.2 h
        cases h
    subst hm
    have hn:L=[]:=List.eq_nil_of_length_eq_zero hr.1
    subst hn
    exact ⟨v,w,run_append_nil w base t ty e i k ht hi v n xs hown c,by simpa using hown,World.grownBy.refl w _,.inl rfl⟩
  · have hcells:∀ j u,(L.flatMap f)[j]?=some u→w.cell? (ad.add j)=some u:=by
      intro j u hu
      have hj:j < (L.flatMap f).length:=by
        rcases Nat.lt_or_ge j (L.flatMap f).length with h' | h'
        · exact h'
        · rw [List.getElem?_eq_none h'] at hu;cases hu
      rw [flatMap_len hk] at hj
      have hi':j / k < L.length:=Nat.div_lt_of_lt_mul (by rw [Nat.mul_comm];exact hj)
      have hr':j % k < k:=Nat.mod_lt _ h0
      have hx:L[j / k]?=some L[j / k]:=List.getElem?_eq_getElem hi'
      have hjj:j / k*k+j % k=j:=by rw [Nat.mul_comm];exact Nat.div_add_mod j k
      obtain ⟨b,o,h,_,hc⟩:=hr.at_ hx
      injection h with h
      subst h
      have hadd:(⟨b,o,none⟩:Addr).add j=⟨b,o+j,none⟩:=by unfold Addr.add;split <;> simp_all
      rw [hadd]
      have:=hc (j % k) u (by rw [←flatMap_at hk hx hr',hjj];exact hu)
      rwa [Nat.add_assoc,hjj] at this
    obtain ⟨v',w',hrun,h2,h3,_,h5⟩:=run_append_own_at (P:=P) w base t ty e i z k bytes ht hi hz hsize hby hzs h0 v n xs hown ad m c (L.flatMap f) (by rw [flatMap_len hk,hr.1]) hcells (fun u hu=>by
      obtain ⟨x,_,hx⟩:=List.mem_flatMap.1 hu
      exact hone x u hx) h63 hbytes hbase
    exact ⟨v',w',hrun,h2,h3,h5⟩
theorem wpList_append_cells {ops:Array Oper} {rest:List Oper} {o:Oper} {a:Act} {Q:Exit→Act→World→Prop} (hgd:o.guard=none) (s x:Operand) (t:TypeId)
  (ho:o.op=.call { callee:=.builtin .append,args:=#[s,x],argTypes:=#[t,t] })
  (hk:∀ x,(f x).length=k) (h0:0 < k) (hone:∀ x,∀ u∈f x,u.oneCell'=true)
  (base:Nat) (e:TypeId) (i:TypeInfo) (z:Value) (bytes:Nat) (ht:P.underlying t=some (.slice e)) (hi:P.info? e=some i) (hz:i.zero=some z)
  (hsize:i.size=k) (hby:i.bytes=bytes) (hzs:z.cells.size=k)
  (v:Value) (n:Nat) (xs:List Value) (hs:a.eval s=v) (hown:w.ownsRow base e k v n xs)
  (B:Nat) (A:Option Addr) (m c:Nat) (L:List α) (hx:a.eval x=.slice A m c) (hr:Cells w B k f A m L)
  (h63:n+m≤maxLen) (hbytes:(n+m)*bytes≤140737488355328) (hbase:base≤w.heap.size)
  (h:∀ v' w',w'.ownsRow base e k v' (n+m) (xs++L.flatMap f)→w.grownBy w' v.ownBlock→(v'.ownBlock=v.ownBlock∨v'.ownBlock=some w.heap.size)→wpList P ops Q rest (a.put o.dst v') w'):wpList P ops Q (o :: rest) a w:=
 wpList_plain hgd fun K hK=>by
  obtain ⟨v',w',hrun,h2,h3,h4⟩:=run_append_cells (P:=P) w hk h0 hone base t o.type e i z bytes ht hi hz hsize hby hzs v n xs hown B A m c L hr h63 hbytes hbase
  unfold Oper.wp execOp
  simp only [ho,resolve,invoke,builtin,Sem.run_bind,Sem.run_pure,Result.andThen_ok,List.map_toArray,List.map_cons,List.map_nil,hs,hx,hrun]
  exact hK _ _ (h v' w' h2 h3 h4)
end
def opsOf (x:BkW):List OpW:=x.stmts.L.flatMap (fun s=>s.rv.args.L)++x.term.args.L
def nopSt:StV:=⟨2,⟨0,[]⟩,⟨0,0,0,false,⟨0,[]⟩,[]⟩,0⟩
def nopBk (b:BkV):BkV:=⟨nopSt :: b.stmts,b.term⟩
def nopBd (b:BdV):BdV:={ b with blocks:=b.blocks.map nopBk }
def endBk:BkV:=⟨[],⟨5,[],[],⟨0,[]⟩,.empty⟩⟩
def endBd (b:BdV):BdV:={ b with blocks:=b.blocks++[endBk] }
theorem stErr_nop (E:Env):stErr E nopSt=0:=by simp [stErr,nopSt,noP,noR]
theorem bkErr_nop (E:Env) {b:BkV} (h:b.stmts.length≤65534):bkErr E (nopBk b)=bkErr E b:=by
 have e:stsErr E (nopSt :: b.stmts)=stsErr E b.stmts:=by
  show (if stErr E nopSt≠0 then stErr E nopSt else stsErr E b.stmts)=_
  rw [stErr_nop];rfl
 show (if 65535 < b.stmts.length+1 then (15:Int) else if stsErr E (nopSt :: b.stmts)≠0 then stsErr E (nopSt :: b.stmts) else tmErr E b.term)=if 65535 < b.stmts.length then 15 else if stsErr E b.stmts≠0 then stsErr E b.stmts else tmErr E b.term
 rw [if_neg (show ¬65535 < b.stmts.length+1 by omega),if_neg (show ¬65535 < b.stmts.length by omega),e]
theorem bksErr_nop (E:Env):∀ {l:List BkV},(∀ b∈l,b.stmts.length≤65534)→bksErr E (l.map nopBk)=bksErr E l
 | [],_=>rfl
 | b :: l,h=>by
  show (if bkErr E (nopBk b)≠0 then bkErr E (nopBk b) else bksErr E (l.map nopBk))=if bkErr E b≠0 then bkErr E b else bksErr E l
  rw [bkErr_nop E (h b List.mem_cons_self),bksErr_nop E (fun c hc=>h c (List.mem_cons_of_mem _ hc))]
theorem nop_env (b:BdV):(nopBd b).env=b.env:=by
 unfold BdV.env nopBd
 simp only [List.length_map]
theorem nop_de (b:BdV):deErr (nopBd b)=deErr b:=by
 unfold deErr nopBd
 simp only [List.length_map]
theorem bdErr_nop {b:BdV} (h:∀ k∈b.blocks,k.stmts.length≤65534):bdErr (nopBd b)=bdErr b:=by
 unfold bdErr
 rw [nop_de,nop_env]
 show (if deErr b≠0 then deErr b else bksErr b.env (b.blocks.map nopBk))=_
 rw [bksErr_nop _ h]
section
variable (T:List Ty) (lc:List Int) (ps:List Pr) (rg nb nb':Nat)
theorem op_nb (o:OpV):opErr ⟨T,lc,ps,rg,nb⟩ o=opErr ⟨T,lc,ps,rg,nb'⟩ o:=rfl
theorem fitT_nb (o:OpV) (t:Int):fitT ⟨T,lc,ps,rg,nb⟩ o t=fitT ⟨T,lc,ps,rg,nb'⟩ o t:=rfl
theorem ops_nb:∀ l:List OpV,opsErr ⟨T,lc,ps,rg,nb⟩ l=opsErr ⟨T,lc,ps,rg,nb'⟩ l
 | []=>rfl
 | o :: l=>by
  show (if opErr ⟨T,lc,ps,rg,nb⟩ o≠0 then opErr ⟨T,lc,ps,rg,nb⟩ o else opsErr ⟨T,lc,ps,rg,nb⟩ l)=if opErr ⟨T,lc,ps,rg,nb'⟩ o≠0 then opErr ⟨T,lc,ps,rg,nb'⟩ o else opsErr ⟨T,lc,ps,rg,nb'⟩ l
  rw [ops_nb l,op_nb T lc ps rg nb nb' o]
theorem tup_nb:∀ (l:List OpV) (fs:List Int),tupErr ⟨T,lc,ps,rg,nb⟩ l fs=tupErr ⟨T,lc,ps,rg,nb'⟩ l fs
 | [],_=>rfl
 | o :: l,fs=>by
  show (if opErr ⟨T,lc,ps,rg,nb⟩ o≠0 then opErr ⟨T,lc,ps,rg,nb⟩ o else if fitT ⟨T,lc,ps,rg,nb⟩ o (fs.headD 0)=false then 22 else tupErr ⟨T,lc,ps,rg,nb⟩ l fs.tail) =
   if opErr ⟨T,lc,ps,rg,nb'⟩ o≠0 then opErr ⟨T,lc,ps,rg,nb'⟩ o else if fitT ⟨T,lc,ps,rg,nb'⟩ o (fs.headD 0)=false then 22 else tupErr ⟨T,lc,ps,rg,nb'⟩ l fs.tail
  rw [tup_nb l,op_nb T lc ps rg nb nb' o,fitT_nb T lc ps rg nb nb' o]
theorem as_nb (r:RvV) (t:Int):asErr ⟨T,lc,ps,rg,nb⟩ r t=asErr ⟨T,lc,ps,rg,nb'⟩ r t:=by
 unfold asErr
 rw [tup_nb T lc ps rg nb nb',ops_nb T lc ps rg nb nb']
 rfl
theorem st_nb (s:StV):stErr ⟨T,lc,ps,rg,nb⟩ s=stErr ⟨T,lc,ps,rg,nb'⟩ s:=by
 unfold stErr
 rw [as_nb T lc ps rg nb nb']
 rfl
theorem tg_nb (h:nb≤nb'):∀ {l:List Int},tgErr ⟨T,lc,ps,rg,nb⟩ l=0→tgErr ⟨T,lc,ps,rg,nb'⟩ l=0
 | [],_=>rfl
 | t :: l,e=>by
  have e1:(if t < 0∨(nb:Int)≤t then (3:Int) else tgErr ⟨T,lc,ps,rg,nb⟩ l)=0:=e
  by_cases hc:t < 0∨(nb:Int)≤t
  ·
   rw [if_pos hc] at e1;cases e1
  ·
   rw [if_neg hc] at e1
   show (if t < 0∨(nb':Int)≤t then (3:Int) else tgErr ⟨T,lc,ps,rg,nb'⟩ l)=0
   rw [if_neg (by omega)]
   exact tg_nb h e1
theorem tm_nb (h:nb≤nb') {t:TmV} (e:tmErr ⟨T,lc,ps,rg,nb⟩ t=0):tmErr ⟨T,lc,ps,rg,nb'⟩ t=0:=by
 unfold tmErr at e ⊢
 by_cases h1:t.kind < 0∨5 < t.kind
 ·
  rw [if_pos h1] at e;cases e
 rw [if_neg h1] at e ⊢
 split at e
 ·
  cases e
 rename_i h2
 rw [if_neg h2]
 by_cases h3:tgErr ⟨T,lc,ps,rg,nb⟩ t.targets=0
 ·
  rw [if_neg (by simp [h3])] at e
  rw [if_neg (by simp [tg_nb T lc ps rg nb nb' h h3])]
  rw [ops_nb T lc ps rg nb nb'] at e
  exact e
 ·
  rw [if_pos h3] at e
  exact absurd e h3
theorem bk_nb (h:nb≤nb') {b:BkV} (e:bkErr ⟨T,lc,ps,rg,nb⟩ b=0):bkErr ⟨T,lc,ps,rg,nb'⟩ b=0:=by
 obtain ⟨h1,h2,h3⟩:=bkErr_zero.1 e
 refine bkErr_zero.2 ⟨h1,fun s hs=>?_,tm_nb T lc ps rg nb nb' h h3⟩
 rw [←st_nb T lc ps rg nb nb']
 exact h2 s hs
end
theorem endBk_ok (E:Env):bkErr E endBk=0:=by simp [bkErr,endBk,stsErr,tmErr,tmTgs,tgErr,opsErr,noP]
theorem bdErr_end {b:BdV} (h:bdErr b=0) (hb:b.blocks.length < 65535):bdErr (endBd b)=0:=by
 unfold bdErr at h
 by_cases hd:deErr b=0
 ·
  rw [if_neg (by simp [hd])] at h
  have hd2:deErr (endBd b)=0:=by
   revert hd
   unfold deErr endBd
   simp only [List.length_append,List.length_singleton]
   intro hd
   by_cases h0:identB b.name=false
   ·
    rw [if_pos h0] at hd;cases hd
   rw [if_neg h0] at hd ⊢
   by_cases h1:65535 < b.regions.length
   ·
    rw [if_pos h1] at hd;cases hd
   rw [if_neg h1] at hd ⊢
   by_cases h2:rgErr [] b.regions≠0
   ·
    rw [if_pos h2] at hd;exact absurd hd h2
   rw [if_neg h2] at hd ⊢
   by_cases h3:prChk b.outl b.regions.length≠0
   ·
    rw [if_pos h3] at hd;exact absurd hd h3
   rw [if_neg h3] at hd ⊢
   by_cases h4:tyChk b.types b.regions.length≠0
   ·
    rw [if_pos h4] at hd;exact absurd hd h4
   rw [if_neg h4] at hd ⊢
   by_cases h5:65535 < b.locals.length
   ·
    rw [if_pos h5] at hd;cases hd
   rw [if_neg h5] at hd ⊢
   by_cases h6:lcErr b.types.length [] b.locals≠0
   ·
    rw [if_pos h6] at hd;exact absurd hd h6
   rw [if_neg h6] at hd ⊢
   by_cases h7:b.args < 0∨(b.locals.length:Int) < b.args
   ·
    rw [if_pos h7] at hd;cases hd
   rw [if_neg h7,if_neg (by omega)]
  unfold bdErr
  rw [if_neg (by simp [hd2])]
  refine bksErr_zero.2 fun k hk=>?_
  show bkErr ⟨b.types,b.locals.map LcV.ty,b.outl,b.regions.length,(b.blocks++[endBk]).length⟩ k=0
  rcases List.mem_append.1 hk with hk | hk
  ·
   exact bk_nb b.types (b.locals.map LcV.ty) b.outl b.regions.length b.blocks.length _ (by simp) (bksErr_zero.1 h k hk)
  ·
   obtain rfl:=List.mem_singleton.1 hk
   exact endBk_ok _
 ·
  rw [if_pos hd] at h
  exact absurd h hd
theorem bkN_nop (b:BkV):bkN (nopBk b)=bkN b+4:=by
 have e:sumN stN (nopSt :: b.stmts)=4+sumN stN b.stmts:=sumN_cons _ _ _
 show sumN stN (nopSt :: b.stmts)+tmN b.term=sumN stN b.stmts+tmN b.term+4
 rw [e];omega
theorem sumN_nop:∀ l:List BkV,sumN bkN (l.map nopBk)=sumN bkN l+4*l.length
 | []=>rfl
 | b :: l=>by
  rw [List.map_cons,sumN_cons,sumN_cons,bkN_nop,sumN_nop l,List.length_cons];omega
theorem bdN_nop (b:BdV):bdN (endBd (nopBd b))=bdN b+4*b.blocks.length+3:=by
 have e1:sumN bkN ((b.blocks.map nopBk)++[endBk])=sumN bkN b.blocks+4*b.blocks.length+2:=by
  rw [sumN_append,sumN_nop];rfl
 show 1+b.regions.length+b.outl.length+b.locals.length+((b.blocks.map nopBk)++[endBk]).length+b.types.length+sumN (fun t=>t.fields.length) b.types+sumN bkN ((b.blocks.map nopBk)++[endBk])=_
 rw [e1,List.length_append,List.length_map]
 show _=1+b.regions.length+b.outl.length+b.locals.length+b.blocks.length+b.types.length+sumN (fun t=>t.fields.length) b.types+sumN bkN b.blocks+4*b.blocks.length+3
 simp only [List.length_singleton]
 omega
end Go.Proofs.YtfgacmgjpikgaaaGreatDoor
namespace Go.Proofs.YtfgacmgjpikgaaaGreatDoor
open Go.RowKit Go.Shelf
theorem Ints.up {w w':World} {s:SlW Int} (h:Ints w w.heap.size s) (hb:Below w.heap.size w w'):Ints w' w'.heap.size s:=SlH.more (SlH.below h hb fun _ h=>h) hb.size fun _ h=>h
theorem Strs.up {w w':World} {s:SlW ByteArray} (h:Strs w w.heap.size s) (hb:Below w.heap.size w w'):Strs w' w'.heap.size s:=SlH.more (SlH.below h hb fun _ h=>h) hb.size fun _ h=>h
theorem Prs2.up {w w':World} {s:SlW Pr} (h:SlH w w.heap.size 2 pV IntP s) (hb:Below w.heap.size w w'):SlH w' w'.heap.size 2 pV IntP s:=SlH.more (SlH.below h hb fun _ h=>h) hb.size fun _ h=>h
theorem Lcs2.up {w w':World} {s:SlW LcW} (h:SlH w w.heap.size 2 cLc (fun y=>IntR y.ty∧y.name.size≤maxLen) s) (hb:Below w.heap.size w w'):SlH w' w'.heap.size 2 cLc (fun y=>IntR y.ty∧y.name.size≤maxLen) s:=SlH.more (SlH.below h hb fun _ h=>h) hb.size fun _ h=>h
theorem Tys2.up {w w':World} {s:SlW TyW} (h:SlH w w.heap.size 5 c5 (OneT w w.heap.size) s) (hb:Below w.heap.size w w'):SlH w' w'.heap.size 5 c5 (OneT w' w'.heap.size) s:=SlH.more (SlH.below h hb fun _ h=>OneT.below h hb) hb.size fun _ h=>OneT.more h hb.size
theorem Sts.up {w w':World} {s:SlW StW} (h:SlH w w.heap.size 11 cSt (OneSt w w.heap.size) s) (hb:Below w.heap.size w w'):SlH w' w'.heap.size 11 cSt (OneSt w' w'.heap.size) s:=SlH.more (SlH.below h hb fun _ h=>h.below hb) hb.size fun _ h=>h.more hb.size
theorem Bks2.up {w w':World} {s:SlW BkW} (h:SlH w w.heap.size 7 cBk (OneBk w w.heap.size) s) (hb:Below w.heap.size w w'):SlH w' w'.heap.size 7 cBk (OneBk w' w'.heap.size) s:=SlH.more (SlH.below h hb fun _ h=>h.below hb) hb.size fun _ h=>h.more hb.size
end Go.Proofs.YtfgacmgjpikgaaaGreatDoor
namespace Go.Proofs.YtfgacmgjpikgaaaGreatDoor
open Go.RowKit Go.Shelf
end Go.Proofs.YtfgacmgjpikgaaaGreatDoor
namespace Go.Proofs.YtfgacmgjpikgaaaGreatDoor
open Go.RowKit Go.Shelf
end Go.Proofs.YtfgacmgjpikgaaaGreatDoor
namespace Go.Proofs.YtfgacmgjpikgaaaGreatDoor
open Go.RowKit Go.Shelf
end Go.Proofs.YtfgacmgjpikgaaaGreatDoor
