/- Part 21 of the contracts and their mathematics. -/
import Derived.Test.YtfgacmgjpikgaaaGreatDoorQ19
import Derived.Lib.Slices
import Derived.Lib.Small
import Derived.Lib.Walk
set_option linter.unusedVariables false
set_option linter.unusedSimpArgs false
set_option maxRecDepth 100000
set_option maxHeartbeats 4000000
namespace Go.Proofs.YtfgacmgjpikgaaaGreatDoor
open Go.RowKit
theorem below_drewN {B:Nat} {a w:World} (h:Below B a w) (n:Nat):Below B a (w.drewN n):=⟨h.os,h.tape,h.output,h.size,h.block⟩
structure CRat (w:World) (g:Nat) (A:Option Addr) (n c p:Nat) (xs:List Int) (e:Int):Prop where
 c0:w.cell? ⟨g,0,none⟩=some (.slice A n c)
 c1:w.cell? ⟨g,1,none⟩=some (.int .i64 (p:Int))
 c2:w.cell? ⟨g,2,none⟩=some (.int .i64 e)
 fr:∀ j,w.frozen? ⟨g,j,none⟩=false
 lt:g < w.heap.size
 nc:n≤c
 cm:c≤maxLen
 pn:p≤n
 byt:Byt xs
 rd:Rd w g A n (u8s xs)
 sm:n≤1099511627776
def CR (w:World) (g:Nat) (ys:List Int) (e:Int):Prop:=
 ∃ (A:Option Addr) (n c p:Nat) (xs:List Int),CRat w g A n c p xs e∧(e=0→ys=xs.drop p)∧(e≠0→ys=[])
section
variable {w w':World} {g n c p:Nat} {A:Option Addr} {xs ys:List Int} {e:Int}
theorem CRat.len (h:CRat w g A n c p xs e):xs.length=n:=by simpa using h.rd.1
theorem CRat.keep (h:CRat w g A n c p xs e) (hs:w.heap.size≤w'.heap.size) (hk:∀ q:Addr,q.block≤g→w'.cell? q=w.cell? q) (hf:∀ q:Addr,q.block≤g→w'.frozen? q=w.frozen? q):CRat w' g A n c p xs e:=
 ⟨(hk _ (Nat.le_refl _)).trans h.c0,(hk _ (Nat.le_refl _)).trans h.c1,(hk _ (Nat.le_refl _)).trans h.c2,fun j=>(hf _ (Nat.le_refl _)).trans (h.fr j),Nat.lt_of_lt_of_le h.lt hs,h.nc,h.cm,h.pn,h.byt,
  h.rd.keep (fun q hq=>hk q (Nat.le_of_lt hq)),h.sm⟩
theorem CR.keep (h:CR w g ys e) (hs:w.heap.size≤w'.heap.size) (hk:∀ q:Addr,q.block≤g→w'.cell? q=w.cell? q) (hf:∀ q:Addr,q.block≤g→w'.frozen? q=w.frozen? q):CR w' g ys e:=by
 obtain ⟨A,n,c,p,xs,h,r⟩:=h
 exact ⟨A,n,c,p,xs,h.keep hs hk hf,r⟩
theorem CR.lt (h:CR w g ys e):g < w.heap.size:=by
 obtain ⟨A,n,c,p,xs,h,r⟩:=h
 exact h.lt
theorem CR.below {B:Nat} (h:CR w g ys e) (hb:Below B w w') (hB:g < B):CR w' g ys e:=
 h.keep hb.size (fun q hq=>hb.cell (by omega)) (fun q hq=>hb.frozen (by omega))
theorem CR.far {h:Nat} (hr:CR w g ys e) (hg:w.grownBy w' (some h)) (hh:g < h):CR w' g ys e:=
 hr.keep hg.size (fun q hq=>hg.cell_far q (by have:=hr.lt;omega) (fun x=>by injection x with x;omega)) (fun q hq=>hg.frozen_far q (by have:=hr.lt;omega) (fun x=>by injection x with x;omega))
theorem CR.byt (h:CR w g ys e):Byt ys:=by
 obtain ⟨A,n,c,p,xs,h,r1,r2⟩:=h
 by_cases he:e=0
 ·
  rw [r1 he];exact h.byt.drop p
 ·
  rw [r2 he];exact Byt.nil
theorem CRat.drewN (h:CRat w g A n c p xs e) (k:Nat):CRat (w.drewN k) g A n c p xs e:=⟨h.c0,h.c1,h.c2,h.fr,h.lt,h.nc,h.cm,h.pn,h.byt,h.rd,h.sm⟩
end
def ErrOf (w:World) (q:Option Addr) (e:Int):Prop:=(q=none∧e=1)∨∃ g,q=some ⟨g,0,none⟩∧g < w.heap.size∧w.cell? ⟨g,2,none⟩=some (.int .i64 e)
theorem ErrOf.alloc {w:World} {q:Option Addr} {e:Int} (h:ErrOf w q e) (o:Obj):ErrOf (w.alloc o) q e:=by
 rcases h with h | ⟨g,h1,h2,h3⟩
 ·
  exact .inl h
 ·
  exact .inr ⟨g,h1,by simp;omega,(World.cell?_alloc_lt w o _ h2).trans h3⟩
theorem CRat.left {w:World} {g n c p:Nat} {A:Option Addr} {xs ys:List Int} {e:Int} (h:CRat w g A n c p xs e) (hy:ys=xs.drop p):((ys.length:Nat):Int)=(n:Int) - (p:Int):=by
 rw [hy,List.length_drop,h.len]
 have:=h.pn
 omega
theorem CR.drewN {w:World} {g:Nat} {ys:List Int} {e:Int} (h:CR w g ys e) (k:Nat):CR (w.drewN k) g ys e:=by
 obtain ⟨A,n,c,p,xs,h,r⟩:=h
 exact ⟨A,n,c,p,xs,h.drewN k,r⟩
theorem eqS_def (a b:ByteArray):(a.toList == b.toList)=decide (a=b):=by
 rw [Bool.eq_iff_iff,beq_iff_eq,decide_eq_true_iff,ByteArray.toList_eq,ByteArray.toList_eq]
 exact ⟨fun h=>key_inj h,fun h=>by rw [h]⟩
abbrev sV (L:List ByteArray):List Value:=L.map Value.string
theorem sV_one (L:List ByteArray):∀ u∈sV L,u.oneCell'=true:=by
 intro u hu
 obtain ⟨s,_,rfl⟩:=List.mem_map.1 hu
 rfl
theorem infoS:(Tryz.prog.info? 9).map (fun i=>(i.zero,i.size,i.bytes))=some (some (.string .empty),1,16):=by kernel_rfl
theorem sV_at {L:List ByteArray} {k:Nat} {s:ByteArray} (h:L[k]?=some s):(sV L)[k]?=some (.string s):=by rw [List.getElem?_map,h];rfl
theorem sV_len {w:World} {B n:Nat} {A:Option Addr} {L:List ByteArray} (h:Rd w B A n (sV L)):L.length=n:=by simpa using h.1
theorem Rd.str {w:World} {B n:Nat} {A:Option Addr} {L:List ByteArray} (h:Rd w B A n (sV L)) {k:Nat} {s:ByteArray} (hs:L[k]?=some s):∃ b o,A=some ⟨b,o,none⟩∧b < B∧w.cell? ⟨b,o+k,none⟩=some (.string s):=h.cell (sV_at hs)
structure TabAt (w:World) (g:Nat) (A:Option Addr) (n c:Nat) (L:List ByteArray):Prop where
 c0:w.cell? ⟨g,0,none⟩=some (.slice A n c)
 lt:g < w.heap.size
 nc:n≤c
 cm:c≤maxLen
 rd:Rd w g A n (sV L)
def Tab (w:World) (g:Nat) (L:List ByteArray):Prop:=∃ A n c,TabAt w g A n c L
theorem TabAt.len {w:World} {g n c:Nat} {A:Option Addr} {L:List ByteArray} (h:TabAt w g A n c L):L.length=n:=sV_len h.rd
theorem Tab.below {w w':World} {g B:Nat} {L:List ByteArray} (h:Tab w g L) (hb:Below B w w') (hB:g < B):Tab w' g L:=by
 obtain ⟨A,n,c,h⟩:=h
 exact ⟨A,n,c,(hb.cell hB).trans h.c0,Nat.lt_of_lt_of_le h.lt hb.size,h.nc,h.cm,h.rd.below (hb.mono (by omega))⟩
theorem Tab.lt {w:World} {g:Nat} {L:List ByteArray} (h:Tab w g L):g < w.heap.size:=by obtain ⟨A,n,c,h⟩:=h;exact h.lt
theorem strLit (w:World) (cs:List Value) (t:TypeId):∀ j u,cs[j]?=some u→(w.alloc (.cells cs.toArray t)).cell? ((⟨w.heap.size,0,none⟩:Addr).add j)=some u:=by
 intro j u hu
 have e:(⟨w.heap.size,0,none⟩:Addr).add j=⟨w.heap.size,0+j,none⟩:=by unfold Addr.add;split <;> simp_all
 rw [e,cell_of_row (w.alloc (.cells cs.toArray t)) w.heap.size (0+j) cs.toArray t (0,0) (heap_alloc_new w _)]
 simpa using hu
theorem toList_empty:ByteArray.empty.toList=[]:=by
 unfold ByteArray.toList
 unfold ByteArray.toList.loop
 simp
theorem emptyS {s:ByteArray} (h:s=.empty):s.toList.isEmpty=true:=by rw [h,toList_empty];rfl
theorem emptyS_not {s:ByteArray} (h:¬s=.empty):s.toList.isEmpty=false:=by
 have h1:=eqS_def s .empty
 rw [decide_eq_false h,toList_empty] at h1
 rw [List.isEmpty_eq_false_iff]
 intro e
 rw [e] at h1
 cases h1
def tmSh (t:TmV):Int:=
 if t.kind < 0∨5 < t.kind then 14
 else if t.targets.length≠tmTgs t.kind∨(t.kind≠3∧t.name≠.empty)∨(t.kind≠3∧t.kind≠4∧noP t.pl=false)∨(t.kind=1∧t.args.length≠1)∨(t.kind≠1∧t.kind≠3∧0 < t.args.length) then 2
 else 0
theorem VcTz4 {P:Prop} (h:P:=by
 go_quiet (fail)
 go_wp2
 go_ret
 exact ⟨rfl,below_drewN HE1.out _⟩):P:=h
theorem VcTz0 {P:Prop} (h:P:=by
 go_enter Tryz.func65,Tryz.ntmps65
 go_wp2_with fail
 refine (cZero_is (x:=⟨l,pA,pn,pc,ps⟩) hz _ HX.out.pl).mono ?_
 rintro e w1 ⟨rfl,hb1⟩
 have HW1:=hide hb1
 clear hb1
 have HE1:=hide (HB.out.trans (HW1.out.mono HB.out.size))
 obtain ⟨x0,x1,x2,x3,x4,x5⟩:=cells6 HW1.out
 go_wp2
 exact VcTz4):P:=h
theorem VcTz5 {P:Prop} (h:P:=by
 have hz:noP (PlW.v ⟨l,pA,pn,pc,ps⟩)=false:=by simpa using hz
 obtain rfl:v=2:=by
  rw [←hv]
  simp [tmTgs,he,hz]
 clear he hv
 exact VcTz0):P:=h
theorem VcTz1 {P:Prop} (h:P:=by
 by_cases hgn:gn=0
 ·
  have tgn:((gn:Int) == 0)=true:=by simp [hgn]
  obtain rfl:v=0:=by
   rw [←hv]
   simp [tmTgs,he,hz,htn,hgn]
  clear he htn hgn hv
  exact VcTz0
 ·
  have tgn:((gn:Int) == 0)=false:=by rw [beq_eq_false_iff_ne];omega
  have hgnp:0 < gn:=by omega
  obtain rfl:v=2:=by
   rw [←hv]
   simp [tmTgs,he,hz,htn,hgn,hgnp]
  clear he htn hgn hgnp hv
  exact VcTz0):P:=h
theorem VcTz2 {P:Prop} (h:P:=by
 have ttn:((tn:Int) == 1)=false:=by rw [beq_eq_false_iff_ne];omega
 obtain rfl:v=2:=by
  rw [←hv]
  simp [tmTgs,he,hz,htn]
 clear he htn hv
 exact VcTz0):P:=h
theorem VcTz3 {P:Prop} (h:P:=by
 have te:nm.toList.isEmpty=true:=emptyS he
 by_cases hz:noP (PlW.v ⟨l,pA,pn,pc,ps⟩)=true
 ·
  by_cases htn:tn=0
  ·
   have ttn:((tn:Int) == 0)=true:=by simp [htn]
   exact VcTz1
  ·
   have ttn:((tn:Int) == 0)=false:=by rw [beq_eq_false_iff_ne];omega
   have htnp:0 < tn:=by omega
   obtain rfl:v=2:=by
    rw [←hv]
    simp [tmTgs,he,hz,htn,htnp]
   clear he htn htnp hv
   exact VcTz0
 ·
  exact VcTz5):P:=h
theorem VcTz6 {P:Prop} (h:P:=by
 clear he htn hv
 go_enter Tryz.func65,Tryz.ntmps65
 have HE1:=HB
 obtain ⟨x0,x1,x2,x3,x4,x5⟩:=self6 w (.int .i64 (3)) (.slice tA tn tc) (.slice gA gn gc) (.int .i64 l) (.slice pA pn pc) (.string nm) 50
 go_wp2
 exact VcTz4):P:=h
theorem VcTz7 {P:Prop} (h:P:=by
 by_cases htn:tn=1
 ·
  have ttn:((tn:Int) == 1)=true:=by simp [htn]
  exact VcTz1
 ·
  exact VcTz2):P:=h
theorem VcTz8 {P:Prop} (h:P:=by
 by_cases htn:tn=1
 ·
  have ttn:((tn:Int) == 1)=true:=by simp [htn]
  obtain rfl:v=0:=by
   rw [←hv]
   simp [tmTgs,he,hz,htn]
  clear he htn hv
  exact VcTz0
 ·
  exact VcTz2):P:=h
theorem cTm_any (x:TmW) (w:World) (h:OneTm w w.heap.size x) :
 Calls Tryz.prog 65 #[aggTm x] w fun e w'=>e=.returned (.int .i64 (tmSh x.v))∧Below w.heap.size w w':=by
 obtain ⟨k,⟨tA,tn,tc,tL⟩,⟨gA,gn,gc,gL⟩,⟨l,pA,pn,pc,ps⟩,nm⟩:=x
 have hgn:gL.length=gn:=h.args.len
 have htn:tL.length=tn:=h.targets.len
 obtain ⟨v,hv⟩:∃ v,tmSh (TmW.v ⟨k,⟨tA,tn,tc,tL⟩,⟨gA,gn,gc,gL⟩,⟨l,pA,pn,pc,ps⟩,nm⟩)=v:=⟨_,rfl⟩
 rw [hv]
 unfold tmSh at hv
 simp only [TmW.v,List.length_map,hgn,htn] at hv
 clear hgn htn
 by_cases hk:0≤k∧k≤5
 ·
  have hk:k=0∨k=1∨k=2∨k=3∨k=4∨k=5:=by omega
  rcases hk with rfl | rfl | rfl | rfl | rfl | rfl
  ·
   -- kind 0
   have HB:=hide (below1 w (.cells (cTm ⟨0,⟨tA,tn,tc,tL⟩,⟨gA,gn,gc,gL⟩,⟨l,pA,pn,pc,ps⟩,nm⟩).toArray 50))
   have HX:=hide (h.up HB.out)
   clear h
   by_cases he:nm=.empty
   ·
    have te:nm.toList.isEmpty=true:=emptyS he
    by_cases hz:noP (PlW.v ⟨l,pA,pn,pc,ps⟩)=true
    ·
     exact VcTz7
    ·
     exact VcTz5
   ·
    have te:nm.toList.isEmpty=false:=emptyS_not he
    obtain rfl:v=2:=by
     rw [←hv]
     simp [tmTgs,he]
    clear he hv
    go_enter Tryz.func65,Tryz.ntmps65
    have HE1:=HB
    obtain ⟨x0,x1,x2,x3,x4,x5⟩:=self6 w (.int .i64 (0)) (.slice tA tn tc) (.slice gA gn gc) (.int .i64 l) (.slice pA pn pc) (.string nm) 50
    go_wp2
    exact VcTz4
  ·
   -- kind 1
   have HB:=hide (below1 w (.cells (cTm ⟨1,⟨tA,tn,tc,tL⟩,⟨gA,gn,gc,gL⟩,⟨l,pA,pn,pc,ps⟩,nm⟩).toArray 50))
   have HX:=hide (h.up HB.out)
   clear h
   by_cases he:nm=.empty
   ·
    have te:nm.toList.isEmpty=true:=emptyS he
    by_cases hz:noP (PlW.v ⟨l,pA,pn,pc,ps⟩)=true
    ·
     by_cases htn:tn=2
     ·
      have ttn:((tn:Int) == 2)=true:=by simp [htn]
      by_cases hgn:gn=1
      ·
       have tgn:((gn:Int) == 1)=true:=by simp [hgn]
       obtain rfl:v=0:=by
        rw [←hv]
        simp [tmTgs,he,hz,htn,hgn]
       clear he htn hgn hv
       exact VcTz0
      ·
       have tgn:((gn:Int) == 1)=false:=by rw [beq_eq_false_iff_ne];omega
       obtain rfl:v=2:=by
        rw [←hv]
        simp [tmTgs,he,hz,htn,hgn]
       clear he htn hgn hv
       exact VcTz0
     ·
      have ttn:((tn:Int) == 2)=false:=by rw [beq_eq_false_iff_ne];omega
      obtain rfl:v=2:=by
       rw [←hv]
       simp [tmTgs,he,hz,htn]
      clear he htn hv
      exact VcTz0
    ·
     exact VcTz5
   ·
    have te:nm.toList.isEmpty=false:=emptyS_not he
    obtain rfl:v=2:=by
     rw [←hv]
     simp [tmTgs,he]
    clear he hv
    go_enter Tryz.func65,Tryz.ntmps65
    have HE1:=HB
    obtain ⟨x0,x1,x2,x3,x4,x5⟩:=self6 w (.int .i64 (1)) (.slice tA tn tc) (.slice gA gn gc) (.int .i64 l) (.slice pA pn pc) (.string nm) 50
    go_wp2
    exact VcTz4
  ·
   -- kind 2
   have HB:=hide (below1 w (.cells (cTm ⟨2,⟨tA,tn,tc,tL⟩,⟨gA,gn,gc,gL⟩,⟨l,pA,pn,pc,ps⟩,nm⟩).toArray 50))
   have HX:=hide (h.up HB.out)
   clear h
   by_cases he:nm=.empty
   ·
    exact VcTz3
   ·
    have te:nm.toList.isEmpty=false:=emptyS_not he
    obtain rfl:v=2:=by
     rw [←hv]
     simp [tmTgs,he]
    clear he hv
    go_enter Tryz.func65,Tryz.ntmps65
    have HE1:=HB
    obtain ⟨x0,x1,x2,x3,x4,x5⟩:=self6 w (.int .i64 (2)) (.slice tA tn tc) (.slice gA gn gc) (.int .i64 l) (.slice pA pn pc) (.string nm) 50
    go_wp2
    exact VcTz4
  ·
   -- kind 3
   have HB:=hide (below1 w (.cells (cTm ⟨3,⟨tA,tn,tc,tL⟩,⟨gA,gn,gc,gL⟩,⟨l,pA,pn,pc,ps⟩,nm⟩).toArray 50))
   have HX:=hide (h.up HB.out)
   clear h
   by_cases he:nm=.empty
   ·
    have te:nm.toList.isEmpty=true:=emptyS he
    by_cases hz:noP (PlW.v ⟨l,pA,pn,pc,ps⟩)=true
    ·
     exact VcTz8
    ·
     have hz:noP (PlW.v ⟨l,pA,pn,pc,ps⟩)=false:=by simpa using hz
     exact VcTz8
   ·
    have te:nm.toList.isEmpty=false:=emptyS_not he
    by_cases htn:tn=1
    ·
     have ttn:((tn:Int) == 1)=true:=by simp [htn]
     obtain rfl:v=0:=by
      rw [←hv]
      simp [tmTgs,he,htn]
     exact VcTz6
    ·
     have ttn:((tn:Int) == 1)=false:=by rw [beq_eq_false_iff_ne];omega
     obtain rfl:v=2:=by
      rw [←hv]
      simp [tmTgs,he,htn]
     exact VcTz6
  ·
   -- kind 4
   have HB:=hide (below1 w (.cells (cTm ⟨4,⟨tA,tn,tc,tL⟩,⟨gA,gn,gc,gL⟩,⟨l,pA,pn,pc,ps⟩,nm⟩).toArray 50))
   have HX:=hide (h.up HB.out)
   clear h
   by_cases he:nm=.empty
   ·
    have te:nm.toList.isEmpty=true:=emptyS he
    by_cases hz:noP (PlW.v ⟨l,pA,pn,pc,ps⟩)=true
    ·
     exact VcTz7
    ·
     have hz:noP (PlW.v ⟨l,pA,pn,pc,ps⟩)=false:=by simpa using hz
     exact VcTz7
   ·
    have te:nm.toList.isEmpty=false:=emptyS_not he
    obtain rfl:v=2:=by
     rw [←hv]
     simp [tmTgs,he]
    clear he hv
    go_enter Tryz.func65,Tryz.ntmps65
    have HE1:=HB
    obtain ⟨x0,x1,x2,x3,x4,x5⟩:=self6 w (.int .i64 (4)) (.slice tA tn tc) (.slice gA gn gc) (.int .i64 l) (.slice pA pn pc) (.string nm) 50
    go_wp2
    exact VcTz4
  ·
   -- kind 5
   have HB:=hide (below1 w (.cells (cTm ⟨5,⟨tA,tn,tc,tL⟩,⟨gA,gn,gc,gL⟩,⟨l,pA,pn,pc,ps⟩,nm⟩).toArray 50))
   have HX:=hide (h.up HB.out)
   clear h
   by_cases he:nm=.empty
   ·
    exact VcTz3
   ·
    have te:nm.toList.isEmpty=false:=emptyS_not he
    obtain rfl:v=2:=by
     rw [←hv]
     simp [tmTgs,he]
    clear he hv
    go_enter Tryz.func65,Tryz.ntmps65
    have HE1:=HB
    obtain ⟨x0,x1,x2,x3,x4,x5⟩:=self6 w (.int .i64 (5)) (.slice tA tn tc) (.slice gA gn gc) (.int .i64 l) (.slice pA pn pc) (.string nm) 50
    go_wp2
    exact VcTz4
 ·
  have hk2:k < 0∨5 < k:=by omega
  rw [if_pos hk2] at hv
  subst hv
  have t0:(k == 0)=false:=by rw [beq_eq_false_iff_ne];omega
  have t1:(k == 1)=false:=by rw [beq_eq_false_iff_ne];omega
  have t2:(k == 2)=false:=by rw [beq_eq_false_iff_ne];omega
  have t3:(k == 3)=false:=by rw [beq_eq_false_iff_ne];omega
  have t4:(k == 4)=false:=by rw [beq_eq_false_iff_ne];omega
  have t5:(k == 5)=false:=by rw [beq_eq_false_iff_ne];omega
  clear hk hk2
  have HB:=hide (below1 w (.cells (cTm ⟨k,⟨tA,tn,tc,tL⟩,⟨gA,gn,gc,gL⟩,⟨l,pA,pn,pc,ps⟩,nm⟩).toArray 50))
  have HX:=hide (h.up HB.out)
  clear h
  by_cases he:nm=.empty
  ·
   have te:nm.toList.isEmpty=true:=emptyS he
   by_cases hz:noP (PlW.v ⟨l,pA,pn,pc,ps⟩)=true
   ·
    clear he
    exact VcTz0
   ·
    have hz:noP (PlW.v ⟨l,pA,pn,pc,ps⟩)=false:=by simpa using hz
    clear he
    exact VcTz0
  ·
   have te:nm.toList.isEmpty=false:=emptyS_not he
   clear he
   go_enter Tryz.func65,Tryz.ntmps65
   have HE1:=HB
   obtain ⟨x0,x1,x2,x3,x4,x5⟩:=self6 w (.int .i64 k) (.slice tA tn tc) (.slice gA gn gc) (.int .i64 l) (.slice pA pn pc) (.string nm) 50
   go_wp2
   exact VcTz4
theorem cTm_is {x:TmW} {v:Int} (h:tmSh x.v=v) (w:World) (hx:OneTm w w.heap.size x) :
 Calls Tryz.prog 65 #[aggTm x] w fun e w'=>e=.returned (.int .i64 v)∧Below w.heap.size w w':=h ▸ cTm_any x w hx
end Go.Proofs.YtfgacmgjpikgaaaGreatDoor
