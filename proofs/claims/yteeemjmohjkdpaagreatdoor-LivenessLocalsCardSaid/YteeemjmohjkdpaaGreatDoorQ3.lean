/- Part 4 of the contracts and their mathematics. -/
import Derived.Test.YteeemjmohjkdpaaGreatDoorQ2
import Derived.StillTailTactics
import Derived.Maps.OwnSet
import Derived.Maps.RangeWalk
import Derived.Sort.KeysCollected
import Derived.Deep.OwnRows
import Derived.Laws.EntriesVeiled
set_option linter.unusedVariables false
set_option linter.unusedSimpArgs false
set_option maxRecDepth 100000
set_option maxHeartbeats 4000000
namespace Go.Proofs.YteeemjmohjkdpaaGreatDoor
open Go.RowKit
theorem eqTy_fields {k r el:Int} {m:Bool} {fs fs':List Int} (h:fs=fs'):eqTy ⟨k,m,r,el,fs⟩ ⟨k,m,r,el,fs'⟩=true:=by rw [h,eqTy_self]
theorem bnot_eq {a b:Int} (h:a≠b):(a != b)=true:=by rw [bne_iff_ne];exact h
theorem TypQz0 {P:Prop} (h:P:=by
 go_enter Tryz.func148,Tryz.ntmps148
 go_wp2
 go_ret
 exact ⟨congrArg (fun v=>Ending.returned (.bool v)) HF.out.symm,HB.out⟩):P:=h
theorem REqT_any (x y:TyW) (w:World) (hx:OneT w w.heap.size x) (hy:OneT w w.heap.size y) :
 Calls Tryz.prog 148 #[aggT x,aggT y] w fun e w'=>e=.returned (.bool (eqTy x.t y.t))∧Below w.heap.size w w':=by
 obtain ⟨⟨k,m,r,el,fs⟩,A,n,c⟩:=x
 obtain ⟨⟨k',m',r',el',fs'⟩,A',n',c'⟩:=y
 have HB:=hide (two_alloc w (.cells #[.int .i64 k,.bool m,.int .i64 r,.int .i64 el,.slice A n c] 65) (.cells #[.int .i64 k',.bool m',.int .i64 r',.int .i64 el',.slice A' n' c'] 65))
 have HX:=hide (hx.rd.below HB.out)
 have HY:=hide (hy.rd.below HB.out)
 have h1n:n≤maxLen:=Nat.le_trans hx.ok.nc hx.ok.cm
 have h2n:n'≤maxLen:=Nat.le_trans hy.ok.nc hy.ok.cm
 have hl1:=hx.ok.len
 have hl2:=hy.ok.len
 simp only [] at hl1 hl2
 unfold maxLen at h1n h2n
 clear hx hy
 by_cases h1:k=k'
 ·
  subst h1
  have e1:(k != k)=false:=by simp
  by_cases h2:m=m'
  ·
   subst h2
   have e2:(m != m)=false:=by simp
   by_cases h3:r=r'
   ·
    subst h3
    have e3:(r != r)=false:=by simp
    by_cases h4:el=el'
    ·
     subst h4
     have e4:(el != el)=false:=by simp
     by_cases h5:n=n'
     ·
      subst h5
      have e5:((n:Int) != (n:Int))=false:=by simp
      have HL1:=hide hl1
      clear hl1
      have HL2:=hide hl2
      clear hl2
      go_enter Tryz.func148,Tryz.ntmps148
      go_wp2
      go_loopw [5] (fun i wr=>∃ j:Nat,i=.int .i64 (j:Int)∧j≤n∧Hid (eqUpto fs fs' j)∧Below w.heap.size w wr∧wr.heap.size=w.heap.size+2∧(∀ p,wr.cell? p=((w.alloc (.cells #[.int .i64 k,.bool m,.int .i64 r,.int .i64 el,.slice A n c] 65)).alloc (.cells #[.int .i64 k,.bool m,.int .i64 r,.int .i64 el,.slice A' n c'] 65)).cell? p)) (fun i _=>n - (intOf i).toNat)
      case atStart=>exact ⟨0,rfl,Nat.zero_le _,fun j h=>absurd h (by omega),HB.out,by simp,fun _=>rfl⟩
      case round=>
       obtain ⟨j,rfl,hj,HE,hb,hsz,hc⟩:=hrel
       have HB1:=hide hb
       have HC:=hide hc
       have d4:wr.cell? ⟨w.heap.size,4,none⟩=some (.slice A n c):=by rw [hc];simp [go_sem]
       have d4':wr.cell? ⟨w.heap.size+1,4,none⟩=some (.slice A' n c'):=by rw [hc];simp [go_sem]
       have hlt0:w.heap.size < wr.heap.size:=by omega
       clear hb hc
       by_cases hlt:j < n
       ·
        have hex:∃ a,fs[j]?=some a:=⟨_,List.getElem?_eq_getElem (by have:=HL1.out;omega)⟩
        obtain ⟨a,ha⟩:=hex
        have hex:∃ a,fs'[j]?=some a:=⟨_,List.getElem?_eq_getElem (by have:=HL2.out;omega)⟩
        obtain ⟨b,hb⟩:=hex
        obtain ⟨g,o,rfl,_,c0⟩:=HX.out.int ha
        obtain ⟨g',o',rfl,_,c1⟩:=HY.out.int hb
        rw [←HC.out] at c0 c1
        have hlt':(j:Int) < (n:Int):=by omega
        have HA':=hide ha
        clear ha
        have HB':=hide hb
        clear hb
        by_cases hab:a=b
        ·
         subst hab
         have e6:((a:Int) != (a:Int))=false:=by simp
         have HE2:=hide (show eqUpto fs fs' (j+1) from fun i hi=>by
          rcases Nat.lt_or_ge i j with h | h
          ·
           exact HE.out i h
          ·
           obtain rfl:i=j:=by omega
           rw [HA'.out,HB'.out])
         go_wp2
         go_quiet (fail)
         go_wp2
         go_roundw
         case rel=>exact ⟨j+1,by go_num,by omega,HE2.out,tyN HB1.out _,hsz,HC.out⟩
         case measure=>simp [intOf];omega
        ·
         have e6:((a:Int) != (b:Int))=true:=bnot_eq hab
         have HF:=hide (eqTy_no (a:=⟨k,m,r,el,fs⟩) (b:=⟨k,m,r,el,fs'⟩) fun h=>by
          have h0:fs=fs':=congrArg Ty.fields h
          subst h0
          have h1:=HA'.out
          rw [HB'.out] at h1
          injection h1 with h1
          exact absurd h1.symm hab)
         clear hab
         go_wp2
         go_quiet (fail)
         go_wp2
         go_ret
         exact ⟨congrArg (fun v=>Ending.returned (.bool v)) HF.out.symm,tyN HB1.out _⟩
       ·
        obtain rfl:j=n:=by omega
        have HF:=hide (eqTy_fields (k:=k) (m:=m) (r:=r) (el:=el) (show fs=fs' from by
         refine List.ext_getElem? fun i=>?_
         rcases Nat.lt_or_ge i j with h | h
         ·
          exact HE.out i h
         ·
          rw [List.getElem?_eq_none (by have:=HL1.out;omega),List.getElem?_eq_none (by have:=HL2.out;omega)]))
        go_wp2
        go_ret
        exact ⟨congrArg (fun v=>Ending.returned (.bool v)) HF.out.symm,HB1.out⟩
     ·
      have e5:((n:Int) != (n':Int))=true:=bnot_eq (by omega)
      have HF:=hide (eqTy_no (a:=⟨k,m,r,el,fs⟩) (b:=⟨k,m,r,el,fs'⟩) fun e=>by
       have h0:fs=fs':=congrArg Ty.fields e
       subst h0
       omega)
      clear h5 hl1 hl2
      exact TypQz0
    ·
     clear hl1 hl2
     have e4:(el != el')=true:=bnot_eq h4
     have HF:=hide (eqTy_no (a:=⟨k,m,r,el,fs⟩) (b:=⟨k,m,r,el',fs'⟩) fun e=>h4 (congrArg Ty.elem e))
     clear h4
     exact TypQz0
   ·
    clear hl1 hl2
    have e3:(r != r')=true:=bnot_eq h3
    have HF:=hide (eqTy_no (a:=⟨k,m,r,el,fs⟩) (b:=⟨k,m,r',el',fs'⟩) fun e=>h3 (congrArg Ty.region e))
    clear h3
    exact TypQz0
  ·
   clear hl1 hl2
   have HF:=hide (eqTy_no (a:=⟨k,m,r,el,fs⟩) (b:=⟨k,m',r',el',fs'⟩) fun e=>h2 (congrArg Ty.mut_ e))
   cases m <;> cases m'
   ·
    exact absurd rfl h2
   ·
    clear h2
    exact TypQz0
   ·
    clear h2
    exact TypQz0
   ·
    exact absurd rfl h2
 ·
  clear hl1 hl2
  have e1:(k != k')=true:=bnot_eq h1
  have HF:=hide (eqTy_no (a:=⟨k,m,r,el,fs⟩) (b:=⟨k',m',r',el',fs'⟩) fun e=>h1 (congrArg Ty.kind e))
  clear h1
  exact TypQz0
theorem REqT_is {x y:TyW} {b:Bool} (h:eqTy x.t y.t=b) (w:World) (hx:OneT w w.heap.size x) (hy:OneT w w.heap.size y) :
 Calls Tryz.prog 148 #[aggT x,aggT y] w fun e w'=>e=.returned (.bool b)∧Below w.heap.size w w':=h ▸ REqT_any x y w hx hy
theorem RFindT_any (A:Option Addr) (n c:Nat) (L:List TyW) (y:TyW) (w:World) (hA:Typs w w.heap.size A n L) (hy:OneT w w.heap.size y) (hn:n≤maxLen) (s:Nat) (hs:s≤n) (hno:∀ i,i < s→(tys L)[i]?≠some y.t) (hst:s < n→(tys L)[s]?=some y.t) :
 Calls Tryz.prog 121 #[.slice A n c,aggT y] w fun e w'=>e=.returned (.int .i64 (if s < n then (s:Int) else -1))∧Below w.heap.size w w':=by
 have HL:=hide hA.len
 have HA:=hide hA
 have HY:=hide hy
 have HN:=hide hno
 have HS:=hide hst
 unfold maxLen at hn
 clear hA hy hno hst
 go_enter Tryz.func121,Tryz.ntmps121
 go_wp2
 go_loopw [5] (fun i wr=>∃ j:Nat,i=.int .i64 (j:Int)∧j≤s∧Below (w.heap.size+1) (w.alloc (.cells (c5 y).toArray 65)) wr) (fun i _=>n - (intOf i).toNat)
 case atStart=>exact ⟨0,rfl,Nat.zero_le _,Below.refl _ _⟩
 case round=>
  obtain ⟨j,rfl,hj,hb⟩:=hrel
  have HB:=hide hb
  have hbw:=box_below hb
  have HBW:=hide hbw
  have d0:wr.cell? ⟨w.heap.size,0,none⟩=some (.int .i64 y.t.kind):=box_at hb rfl
  have d1:wr.cell? ⟨w.heap.size,1,none⟩=some (.bool y.t.mut_):=box_at hb rfl
  have d2:wr.cell? ⟨w.heap.size,2,none⟩=some (.int .i64 y.t.region):=box_at hb rfl
  have d3:wr.cell? ⟨w.heap.size,3,none⟩=some (.int .i64 y.t.elem):=box_at hb rfl
  have d4:wr.cell? ⟨w.heap.size,4,none⟩=some (.slice y.A y.n y.c):=box_at hb rfl
  have hsz:=hb.size
  simp only [World.size_alloc] at hsz
  clear hb hbw
  have hlt0:w.heap.size < wr.heap.size:=hsz
  by_cases hlt:j < n
  ·
   have hex:∃ a,L[j]?=some a:=⟨_,List.getElem?_eq_getElem (by have:=HL.out;omega)⟩
   obtain ⟨x,hx⟩:=hex
   obtain ⟨g,o,rfl,hgB,h1,c0,c1,c2,c3,c4⟩:=(HA.out.below HBW.out).at_ hx
   have HX:=hide (h1.more (Nat.le_trans (Nat.le_of_lt (Nat.lt_succ_self _)) hsz))
   have HY2:=hide ((HY.out.below HBW.out).more (Nat.le_trans (Nat.le_of_lt (Nat.lt_succ_self _)) hsz))
   have HXd:=hide (show OneT wr.drew wr.drew.heap.size x from HX.out.below ((Below.refl wr.heap.size wr).drew))
   have HYd:=hide (show OneT wr.drew wr.drew.heap.size y from HY2.out.below ((Below.refl wr.heap.size wr).drew))
   have hlt':(j:Int) < (n:Int):=by omega
   by_cases hjs:j < s
   ·
    clear h1
    have he:=hide (show eqTy x.t y.t=false from eqTy_no fun e=>HN.out j hjs (e ▸ tys_at hx))
    clear hx
    go_wp2_with fail
    go_still_tail 5,(by kernel_rfl)
    go_wp2_with fail
    refine (REqT_is he.out _ HXd.out HYd.out).mono ?_
    rintro e w1 ⟨rfl,hb⟩
    have HB3:=hide (HB.out.drew.trans (hb.mono hsz))
    clear hb
    go_wp2_with fail
    go_roundw
    case rel=>exact ⟨j+1,by go_num,by omega,HB3.out⟩
    case measure=>simp [intOf];omega
   ·
    obtain rfl:j=s:=by omega
    have he:=hide (show eqTy x.t y.t=true by
     have h1:=tys_at hx
     rw [HS.out hlt] at h1
     injection h1 with h1
     rw [eqTy_iff,h1])
    clear hx h1
    go_wp2_with fail
    go_still_tail 5,(by kernel_rfl)
    go_wp2_with fail
    refine (REqT_is he.out _ HXd.out HYd.out).mono ?_
    rintro e w1 ⟨rfl,hb⟩
    have HB3:=hide (HB.out.drew.trans (hb.mono hsz))
    clear hb
    go_wp2_with fail
    go_ret
    exact ⟨by simp,box_below HB3.out⟩
  ·
   obtain rfl:j=n:=by omega
   obtain rfl:s=j:=by omega
   go_wp2
   go_ret
   exact ⟨by simp,HBW.out⟩
end Go.Proofs.YteeemjmohjkdpaaGreatDoor
namespace Go.Proofs.YteeemjmohjkdpaaGreatDoor
open Go.RowKit
structure Turn (S:Nat→Prop) (w w':World):Prop where
 os:w'.os=w.os
 tape:w'.tape=w.tape
 output:w'.output=w.output
 size:w.heap.size≤w'.heap.size
 block:∀ k,k < w.heap.size→¬S k→w'.heap[k]?=w.heap[k]?
namespace Turn
variable {S S':Nat→Prop} {w w' w'':World}
theorem refl (S:Nat→Prop) (w:World):Turn S w w:=⟨rfl,rfl,rfl,Nat.le_refl _,fun _ _ _=>rfl⟩
theorem trans (h:Turn S w w') (k:Turn S w' w''):Turn S w w'':=
 ⟨k.os.trans h.os,k.tape.trans h.tape,k.output.trans h.output,Nat.le_trans h.size k.size,fun i hi hs=>(k.block i (Nat.lt_of_lt_of_le hi h.size) hs).trans (h.block i hi hs)⟩
theorem of_below (h:Below w.heap.size w w'):Turn S w w':=⟨h.os,h.tape,h.output,h.size,fun k hk _=>h.block k hk⟩
theorem weak (h:Turn S w w') (hs:∀ k,S k→S' k):Turn S' w w':=⟨h.os,h.tape,h.output,h.size,fun k hk hn=>h.block k hk fun hk'=>hn (hs k hk')⟩
theorem alloc (h:Turn S w w') (o:Obj):Turn S w (w'.alloc o):=h.trans (of_below ((Below.refl _ _).alloc (Nat.le_refl _) o))
theorem drew (h:Turn S w w'):Turn S w w'.drew:=⟨h.os,h.tape,h.output,h.size,h.block⟩
theorem drewN (h:Turn S w w') (n:Nat):Turn S w (w'.drewN n):=⟨h.os,h.tape,h.output,h.size,h.block⟩
theorem grown (h:Turn S w w') {row:Option Nat} (hg:w'.grownBy w'' row) (hr:∀ k,row=some k→S k∨w.heap.size≤k):Turn S w w'':=
 ⟨hg.os.trans h.os,hg.tape.trans h.tape,hg.output.trans h.output,Nat.le_trans h.size hg.size,fun k hk hs=>
  (hg.block k (Nat.lt_of_lt_of_le hk h.size) (fun e=>by rcases hr k e.symm with h' | h' <;> first | exact hs h' | omega)).trans (h.block k hk hs)⟩
theorem setCell (h:Turn S w w') {a:Addr} (ha:S a.block∨w.heap.size≤a.block) (v:Value):Turn S w (w'.setCell a v):=
 ⟨h.os,h.tape,h.output,Nat.le_trans h.size (by simp [World.setCell]),fun k hk hs=>(Below.heap_setCell w' a v k (fun e=>by subst e;rcases ha with h' | h' <;> first | exact hs h' | omega)).trans (h.block k hk hs)⟩
theorem cell (h:Turn S w w') {p:Addr} (hp:p.block < w.heap.size) (hs:¬S p.block):w'.cell? p=w.cell? p:=World.cell?_of_block (w:=w) (h.block p.block hp hs)
theorem frozen (h:Turn S w w') {p:Addr} (hp:p.block < w.heap.size) (hs:¬S p.block):w'.frozen? p=w.frozen? p:=World.frozen?_of_block (w:=w) (h.block p.block hp hs)
theorem below (h:Turn S w w') {B:Nat} (hB:B≤w.heap.size) (hs:∀ k,S k→B≤k):Below B w w':=
 ⟨h.os,h.tape,h.output,h.size,fun k hk=>h.block k (by omega) fun h'=>by have:=hs k h';omega⟩
end Turn
theorem Rd.turn {S:Nat→Prop} {w w':World} {B:Nat} {A:Option Addr} {n:Nat} {xs:List Value} (h:Rd w B A n xs) (ht:Turn S w w') (hB:B≤w.heap.size) (hS:0 < n→∀ b o,A=some ⟨b,o,none⟩→¬S b):Rd w' B A n xs:=
 ⟨h.1,fun hn=>by
  obtain ⟨b,o,e,hb,hc⟩:=h.2 hn
  exact ⟨b,o,e,hb,fun j u hu=>(ht.cell (p:=⟨b,o+j,none⟩) (by simp;omega) (hS hn b o e)).trans (hc j u hu)⟩⟩
end Go.Proofs.YteeemjmohjkdpaaGreatDoor
namespace Go.Proofs.YteeemjmohjkdpaaGreatDoor
open Go.RowKit
structure Visits (K:FuncId) (caps:Array Value) (ret:Int→Value) (ps:List Int) (w0:World) (S:Nat→Prop) (J:World→(Int→Prop)→Prop) (men:Int→Int→Prop):Prop where
 enter:∀ (args:Array Value) (w:World),(callFunc K args).run Tryz.prog w=.ok (.enter K args) w
 call:∀ p∈ps,∀ w D,Turn S w0 w→J w D→Calls Tryz.prog K (#[.int .i64 p]++caps) w fun e w'=>e=.returned (ret p)∧J w' (fun r=>D r∨men p r)∧Turn S w w'
theorem Visits.later {K:FuncId} {caps:Array Value} {ret:Int→Value} {ps:List Int} {w0 w1:World} {S:Nat→Prop} {J:World→(Int→Prop)→Prop} {men:Int→Int→Prop} (h:Visits K caps ret ps w0 S J men) (ht:Turn S w0 w1):Visits K caps ret ps w1 S J men:=
 ⟨h.enter,fun p hp w D hw=>h.call p hp w D (ht.trans hw)⟩
def maxTo (ps:List Int) (d:Int→Int) (j:Nat):Int:=((ps.take j).map d).foldl max 0
theorem maxTo_succ {ps:List Int} (d:Int→Int) {j:Nat} {p:Int} (h:ps[j]?=some p):maxTo ps d (j+1)=max (maxTo ps d j) (d p):=by
 unfold maxTo;rw [List.take_add_one,h];simp
theorem maxTo_bd {ps:List Int} {d:Int→Int} (hd:∀ p∈ps,0≤d p∧d p≤65535) (j:Nat):0≤maxTo ps d j∧maxTo ps d j≤65535:=by
 obtain ⟨h1,_,h3⟩:=foldMax_le ((ps.take j).map d) 0
 refine ⟨h1,?_⟩
 unfold maxTo
 rcases h3 with h3 | h3
 ·
  rw [h3];omega
 ·
  obtain ⟨p,hp,e⟩:=List.mem_map.1 h3
  rw [←e]
  exact (hd p (List.mem_of_mem_take hp)).2
section
variable (x:TyW) (K:FuncId) (caps:Array Value) (w:World) (hx:OneT w w.heap.size x) (S:Nat→Prop) (J:World→(Int→Prop)→Prop) (men:Int→Int→Prop) (D:Int→Prop)
  (hst:∀ w w' D,J w D→Below w.heap.size w w'→J w' D) (hJ:J w D) (hfar:0 < x.n→∀ b o,x.A=some ⟨b,o,none⟩→¬S b) (hS:∀ k,S k→k < w.heap.size)
include hx hst hJ hfar hS
end
theorem intK:Go.Maps.Keyed Tryz.prog 3:=Go.Maps.int_keyed Tryz.underlying3
theorem keyOf_i {r:Int} (h:IntR r):keyOf Tryz.prog 3 (.int .i64 r)=some (.int .i64 r):=Go.Maps.keyOf_int_mk Tryz.underlying3 (wf_i64 h)
theorem wpList_look {P:Program} (w:World) {ops:Array Oper} {rest:List Oper} {o:Oper} {a:Act} {Q:Exit→Act→World→Prop} (hg:o.guard=none) (m x:Operand) (t:TypeId) (c:Bool) (hop:o.op=Op.lookup t m x c)
  (mv key v:Value) (hm:a.eval m=mv) (hx:a.eval x=key) (hrun:(Instr.lookup t mv key c).run P w=.ok v w) (hK:wpList P ops Q rest (a.put o.dst v) w):wpList P ops Q (o :: rest) a w:=by
 refine wpList_plain hg fun K' hK'=>?_
 unfold Oper.wp
 simp [execOp,hop,hm,hx,hrun,Result.andThen]
 exact hK' _ _ hK
theorem plainElem_bool_inv {H:Type} {P:Program} {e:TypeId} (he:P.underlying e=some .bool) {v:Value} {z:DataW H×List MemPlace} (h:plainElem P e v=some z):∃ a,v=.bool a∧z=(.lit (.bool a),[]):=by
 unfold plainElem at h
 rw [he] at h
 cases v <;> simp at h
 exact ⟨_,rfl,h.symm⟩
section
variable {H:Type} {P:Program} {k:TypeId} {R:Value→Option (DataW H×List MemPlace)} {w w':World} {b m:Nat} {D:DataW H}
theorem owns_block (h:w.ownsMap P k R b m D) (hb:w'.heap[b]?=w.heap[b]?):w'.ownsMap P k R b m D:=by
 obtain ⟨es,clock,h1,h2⟩:=h
 exact ⟨es,clock,hb.trans h1,h2⟩
theorem owns_lt (h:w.ownsMap P k R b m D):b < w.heap.size:=h.lt
def litInt:Lit→Int
 | .int _ x=>x
 | _=>0
theorem owns_few (K:Go.Maps.Keyed P k) (hk:P.underlying k=some (.int .i64)) (h:w.ownsMap P k R b m D) (qs:List Int) (hq:∀ q,(Lit.int .i64 q).wf=true→Maps.has D (.int .i64 q)=true→q∈qs):w.ownsMap P k R b qs.length D:=by
 obtain ⟨es,hD,hpw,_⟩:=h.entries K
 obtain ⟨es',hD',hko⟩:=h.keysOf
 obtain rfl:es=es':=by rw [hD] at hD';simpa using hD'
 subst hD
 have hx:∀ p∈es,∃ x:Int,p.1=.int .i64 x∧(Lit.int .i64 x).wf=true:=fun p hp=>by
  obtain ⟨v,hv⟩:=hko p hp
  obtain ⟨x,_,hx,hw⟩:=Maps.keyOf_int_inv hk hv
  exact ⟨x,hx,hw⟩
 have hnd:(es.map fun p=>litInt p.1).Nodup:=by
  refine List.pairwise_map.2 (hpw.imp_of_mem ?_)
  intro p q hp hq hne e
  obtain ⟨a,ha,_⟩:=hx p hp
  obtain ⟨c,hc,_⟩:=hx q hq
  rw [ha,hc] at e hne
  exact hne (congrArg (Lit.int .i64) e)
 have hlen:(es.map fun p=>litInt p.1).length≤qs.length:=by
  refine nodup_sub hnd ?_
  intro y hy
  obtain ⟨p,hp,e⟩:=List.mem_map.1 hy
  obtain ⟨a,ha,hw⟩:=hx p hp
  rw [ha] at e
  have e':a=y:=e
  subst e'
  refine hq a hw ?_
  rw [Maps.has_eq,List.any_eq_true]
  exact ⟨p,hp,by rw [ha];simp [Lit.sameKey]⟩
 obtain ⟨es',clock,h1,h2,_,h4⟩:=h
 refine ⟨es',clock,h1,h2,?_,h4⟩
 have e:=congrArg (fun d:DataW H=>match d with | .map l=>l.length | _=>0) h4
 simp only [Go.length_sorted,List.length_map,Array.length_toList] at e
 rw [List.length_map] at hlen
 omega
end
structure Ctx where
 b3:Nat
 b5:Nat
 b7:Nat
 b8:Nat
 bm:Nat
 A:Option Addr
 n:Nat
 c:Nat
 L:List TyW
 S:Nat→Prop
 KP:FuncId
 cp:Array Value
abbrev Ctx.self (C:Ctx) (K:FuncId):Value:=.func (.func K) #[] #[.pointer (some ⟨C.b7,0,none⟩),.pointer (some ⟨C.b3,0,none⟩),.pointer (some ⟨C.b5,0,none⟩),.pointer (some ⟨C.b8,0,none⟩)]
structure Ctx.fix (C:Ctx):Prop where
 n3:¬C.S C.b3
 n5:¬C.S C.b5
 n7:¬C.S C.b7
 n8:¬C.S C.b8
 sm:C.S C.bm
 fA:0 < C.n→∀ b o,C.A=some ⟨b,o,none⟩→¬C.S b
 fx:∀ x∈C.L,0 < x.n→∀ b o,x.A=some ⟨b,o,none⟩→¬C.S b
 nc:C.n≤C.c
 cm:C.c≤maxLen
 few:C.n≤65535
structure TyFr (C:Ctx) (K:FuncId) (w:World):Prop where
 c3:w.cell? ⟨C.b3,0,none⟩=some (.slice C.A C.n C.c)
 c5:w.cell? ⟨C.b5,0,none⟩=some (.func (.func C.KP) #[] C.cp)
 c7:w.cell? ⟨C.b7,0,none⟩=some (.map (some C.bm))
 c8:w.cell? ⟨C.b8,0,none⟩=some (C.self K)
 l3:C.b3 < w.heap.size
 l5:C.b5 < w.heap.size
 l7:C.b7 < w.heap.size
 l8:C.b8 < w.heap.size
 ls:∀ k,C.S k→k < w.heap.size
 ty:Typs w w.heap.size C.A C.n C.L
theorem Cells.turn {α:Type} {S:Nat→Prop} {w w':World} {B k:Nat} {f:α→List Value} {A:Option Addr} {n:Nat} {L:List α} (h:Cells w B k f A n L) (ht:Turn S w w') (hB:B≤w.heap.size) (hS:0 < n→∀ b o,A=some ⟨b,o,none⟩→¬S b):Cells w' B k f A n L:=
 ⟨h.1,fun hn=>by
  obtain ⟨b,o,h1,h2,h3⟩:=h.2 hn
  exact ⟨b,o,h1,h2,fun i x hx j u hu=>(ht.cell (p:=⟨b,o+i*k+j,none⟩) (by simp;omega) (hS hn b o h1)).trans (h3 i x hx j u hu)⟩⟩
theorem OneT.turn {S:Nat→Prop} {w w':World} {B:Nat} {x:TyW} (h:OneT w B x) (ht:Turn S w w') (hB:B≤w.heap.size) (hS:0 < x.n→∀ b o,x.A=some ⟨b,o,none⟩→¬S b):OneT w' B x:=⟨h.ok,h.rd.turn ht hB hS⟩
theorem TyFr.turn {C:Ctx} {K:FuncId} {w w':World} (h:TyFr C K w) (hf:C.fix) {S':Nat→Prop} (ht:Turn S' w w') (hs:∀ k,S' k→C.S k):TyFr C K w':=by
 have ht':=ht.weak hs
 exact ⟨(ht'.cell (p:=⟨C.b3,0,none⟩) h.l3 hf.n3).trans h.c3,(ht'.cell (p:=⟨C.b5,0,none⟩) h.l5 hf.n5).trans h.c5,(ht'.cell (p:=⟨C.b7,0,none⟩) h.l7 hf.n7).trans h.c7,(ht'.cell (p:=⟨C.b8,0,none⟩) h.l8 hf.n8).trans h.c8,
  Nat.lt_of_lt_of_le h.l3 ht.size,Nat.lt_of_lt_of_le h.l5 ht.size,Nat.lt_of_lt_of_le h.l7 ht.size,Nat.lt_of_lt_of_le h.l8 ht.size,fun k hk=>Nat.lt_of_lt_of_le (h.ls k hk) ht.size,
  ⟨(h.ty.cells.turn ht' (Nat.le_refl _) hf.fA).more ht.size,fun x hx=>((h.ty.one x hx).turn ht' (Nat.le_refl _) (hf.fx x hx)).more ht.size⟩⟩
theorem tyDpt_bd {ds:List Int} (h:∀ v∈ds,0≤v∧v≤65535) (p:Int):0≤ds.getD p.toNat 0∧ds.getD p.toNat 0≤65535:=by
 rw [List.getD_eq_getElem?_getD]
 cases hx:ds[p.toNat]? with
 | none=>exact ⟨Int.le_refl _,by decide⟩
 | some v=>exact h v (List.mem_of_getElem? hx)
def KnI (C:Ctx) (men:Int→Int→Prop) (val:Int→Int) (w:World) (D:Int→Prop):Prop:=∃ m Dm,w.ownsMap (H:=Unit) Tryz.prog 3 (plainElem Tryz.prog 3) C.bm m Dm ∧
 ∀ q,IntR q→Maps.has Dm (.int .i64 q)=true→0≤q∧q < (C.n:Int)∧(∀ z,Dm.atKey (.int .i64 q) z=.lit (.int .i64 (val q)))∧∀ r,men q r→D r
section
variable {C:Ctx} {men:Int→Int→Prop} {val:Int→Int} {M:World→(Int→Prop)→Prop}
theorem KnI.block {w w':World} {D:Int→Prop} (h:KnI C men val w D) (hb:w'.heap[C.bm]?=w.heap[C.bm]?):KnI C men val w' D:=by
 obtain ⟨m,Dm,h1,h2⟩:=h
 exact ⟨m,Dm,owns_block h1 hb,h2⟩
theorem KnI.grow {w:World} {D D':Int→Prop} (h:KnI C men val w D) (hd:∀ r,D r→D' r):KnI C men val w D':=by
 obtain ⟨m,Dm,h1,h2⟩:=h
 exact ⟨m,Dm,h1,fun q hq hh=>by obtain ⟨a,b,c,d⟩:=h2 q hq hh;exact ⟨a,b,c,fun r hr=>hd r (d r hr)⟩⟩
end
section
variable {A:Option Addr} {n c:Nat} {L:List TyW} {w:World} {Sx:Nat→Prop} {KP:FuncId} {cp:Array Value} {men:Int→Int→Prop} {val:Int→Int} {M:World→(Int→Prop)→Prop} {D0:Int→Prop}
end
theorem mapKB:Tryz.prog.underlying 74=some (.map 3 4):=Tryz.underlying74
theorem zeroB (w:World):(zeroValue 4).run Tryz.prog w=.ok (.bool false) w:=by kernel_rfl
def KnB (C:Ctx) (men:Int→Int→Prop) (val:Int→Bool) (w:World) (D:Int→Prop):Prop:=∃ m Dm,w.ownsMap (H:=Unit) Tryz.prog 3 (plainElem Tryz.prog 4) C.bm m Dm ∧
 ∀ q,IntR q→Maps.has Dm (.int .i64 q)=true→0≤q∧q < (C.n:Int)∧(∀ z,Dm.atKey (.int .i64 q) z=.lit (.bool (val q)))∧∀ r,men q r→D r
structure JB (C:Ctx) (men:Int→Int→Prop) (val:Int→Bool) (M:World→(Int→Prop)→Prop) (w:World) (D:Int→Prop):Prop where
 fr:TyFr C 174 w
 kn:KnB C men val w D
 m:M w D
section
variable {C:Ctx} {men:Int→Int→Prop} {val:Int→Bool} {M:World→(Int→Prop)→Prop}
theorem KnB.block {w w':World} {D:Int→Prop} (h:KnB C men val w D) (hb:w'.heap[C.bm]?=w.heap[C.bm]?):KnB C men val w' D:=by
 obtain ⟨m,Dm,h1,h2⟩:=h
 exact ⟨m,Dm,owns_block h1 hb,h2⟩
theorem KnB.grow {w:World} {D D':Int→Prop} (h:KnB C men val w D) (hd:∀ r,D r→D' r):KnB C men val w D':=by
 obtain ⟨m,Dm,h1,h2⟩:=h
 exact ⟨m,Dm,h1,fun q hq hh=>by obtain ⟨a,b,c,d⟩:=h2 q hq hh;exact ⟨a,b,c,fun r hr=>hd r (d r hr)⟩⟩
theorem JB.below {w w':World} {D:Int→Prop} (h:JB C men val M w D) (hf:C.fix) (hM:∀ w w' D,M w D→Turn (fun k=>k=C.bm) w w'→M w' D) (hb:Below w.heap.size w w'):JB C men val M w' D:=by
 have hl:C.bm < w.heap.size:=h.fr.ls _ hf.sm
 exact ⟨h.fr.turn hf (Turn.of_below (S:=C.S) hb) fun _ hk=>hk,h.kn.block (hb.block _ hl),hM _ _ _ h.m (Turn.of_below hb)⟩
theorem JB.turn {w w':World} {D:Int→Prop} (h:JB C men val M w D) (hf:C.fix) (hM:∀ w w' D,M w D→Turn (fun k=>k=C.bm) w w'→M w' D) (hb:Turn (fun k=>k=C.bm) w w') (hk:KnB C men val w' D):JB C men val M w' D:=
 ⟨h.fr.turn hf hb (fun k e=>by rw [e];exact hf.sm),hk,hM _ _ _ h.m hb⟩
end
section
variable {A:Option Addr} {n c:Nat} {L:List TyW} {w:World} {Sx:Nat→Prop} {KP:FuncId} {cp:Array Value} {men:Int→Int→Prop} {val:Int→Bool} {M:World→(Int→Prop)→Prop} {D0:Int→Prop}
end
theorem tyDep_bd {l:List Ty} {r:Int} (h:TyOk l r) (p:Int):0≤tyDep l p∧tyDep l p≤65535:=by
  rcases Nat.lt_or_ge p.toNat l.length with hl | hl
  · have hex:∃ t,l[p.toNat]?=some t:=⟨_,List.getElem?_eq_getElem hl⟩
    obtain ⟨t,ht⟩:=hex
    have:=h.dep_pos ht
    have e:tyDep l ((p.toNat:Nat):Int)=tyDep l p:=by unfold tyDep;rw [Int.toNat_natCast]
    rw [e] at this
    omega
  · have e : tyDep l p = 0 := by
      unfold tyDep
      rw [List.getD_eq_getElem?_getD,List.getElem?_eq_none (by unfold tyDeps;rw [tyTab_len];exact hl)]
      rfl
    omega
theorem ownsRow_shape3 {w:World} {base:Nat} {e:TypeId} {size n:Nat} {v:Value} {xs:List Value} (h:w.ownsRow base e size v n xs):∃ A c,v=.slice A n c∧n≤c∧c≤maxLen:=by
 rcases h.2 with ⟨rfl,h0⟩ | ⟨g,cap,cur,rfl,_,_,h1,h2,_⟩
 ·
  exact ⟨none,0,by rw [h0],by omega,Nat.zero_le _⟩
 ·
  exact ⟨_,_,rfl,h1,h2⟩
theorem cell_int2 (w:World) (x:Int) (t:TypeId):∀ j u,(i64s [x])[j]?=some u→(w.alloc (.cells #[.int .i64 x] t)).cell? ((⟨w.heap.size,0,none⟩:Addr).add j)=some u:=
 World.news_of_block (heap_alloc_new w _)
theorem ite_max (a b:Int):(if a < b then b else a)=max a b:=by split <;> omega
theorem tyDeps_len (l:List Ty):(tyDeps l).length=l.length:=tyTab_len _ _
theorem tyDeps_bd2 {l:List Ty} {r:Int} (h:TyOk l r):∀ v∈tyDeps l,0≤v∧v≤65535:=fun v hv=>by
 obtain ⟨j,hj⟩:=List.getElem?_of_mem hv
 have:=tyDep_bd h (j:Int)
 unfold tyDep at this
 rw [Int.toNat_natCast,List.getD_eq_getElem?_getD,hj] at this
 exact this
theorem tyDeps_take {l:List Ty} {k:Nat} (hk:k≤l.length):tyDeps (l.take k)=(tyDeps l).take k:=tyTab_take _ _ _ hk
theorem tyDeps_snoc (l:List Ty) (t:Ty):tyDeps (l++[t])=tyDeps l++[tyDpt (tyDeps l) t]:=tyTab_snoc _ _ _
theorem tyDpt_ref {ds:List Int} {t:Ty} (h:t.kind=3) {v:Int} (hv:ds.getD t.elem.toNat 0=v) (h0:0≤v):tyDpt ds t=v+1:=by
 unfold tyDpt
 rw [tyParts_ref h]
 simp only [List.map_cons,List.map_nil,List.foldl_cons,List.foldl_nil,hv]
 rw [Int.max_eq_right h0]
theorem tyDpt_to {ds:List Int} {t:Ty} {fs:List Int} (h:tyParts t=fs) {n:Nat} (hn:fs.length≤n):tyDpt ds t=maxTo fs (fun p=>ds.getD p.toNat 0) n+1:=by
 unfold tyDpt maxTo
 rw [h,List.take_of_length_le hn]
theorem depths_any (A:Option Addr) (n c:Nat) (L:List TyW) (m:Nat) (rg:Int) (w:World) (hA:Typs w w.heap.size A n L) (hm:m≤n) (hn:n≤65535) (hok:TyOk ((tys L).take m) rg) :
  Calls Tryz.prog 81 #[.slice A n c,.int .i64 (m:Int)] w fun e w'=>∃ A' c',e=.returned (.slice A' m c')∧m≤c'∧c'≤maxLen∧w'.ownsRow w.heap.size 3 1 (.slice A' m c') m (i64s (tyDeps ((tys L).take m)))∧Below w.heap.size w w':=by
 obtain ⟨i0,hi,hz0,hz1,hz2⟩:=info_parts infoInt
 have HA:=hide hA
 have HL:=hide hA.len
 have HOK:=hide hok
 clear hA hok
 go_enter Tryz.func81,Tryz.ntmps81
 go_wp2
 go_loopw [5,6] (fun v i wr=>∃ k:Nat,i=.int .i64 (k:Int)∧k≤m∧wr.ownsRow w.heap.size 3 1 v k (i64s (tyDeps ((tys L).take k)))∧Below w.heap.size w wr) (fun _ i _=>m - (intOf i).toNat)
 case atStart=>exact ⟨0,rfl,Nat.zero_le _,World.ownsRow_nil _ _ _ _,Below.refl _ _⟩
 case round=>
  obtain ⟨k,rfl,hk,hown,hb⟩:=hrel
  obtain ⟨A1,c1,rfl,hk1,hc1⟩:=ownsRow_shape3 hown
  have HO:=hide hown
  have HB:=hide hb
  have hsz:=hb.size
  unfold maxLen at hc1
  clear hown hb
  by_cases hlt:k < m
  ·
   have hlt':(k:Int) < (m:Int):=by omega
   have hkn:(k:Int) < (n:Int):=by omega
   have hex:∃ a,L[k]?=some a:=⟨_,List.getElem?_eq_getElem (by have:=HL.out;omega)⟩
   obtain ⟨x,hx⟩:=hex
   obtain ⟨g,o,rfl,hgB,h1,c0,_,_,c3,c4⟩:=(HA.out.below HB.out).at_ hx
   have hat:=tys_at hx
   have hat':((tys L).take m)[k]?=some x.t:=by rw [List.getElem?_take,if_pos hlt];exact hat
   have how:=HOK.out.own hat'
   have hsn:=tyTake_snoc hat
   have hpre:TyOk ((tys L).take k) rg:=by
    have:=HOK.out.take k
    rwa [List.take_take,Nat.min_eq_left (by omega)] at this
   have hbd:=tyDeps_bd2 hpre
   have hdl:(tyDeps ((tys L).take k)).length=k:=by rw [tyDeps_len,List.length_take,tys_len];have:=HL.out;omega
   have hup:=tyDeps_snoc ((tys L).take k) x.t
   rw [←hsn] at hup
   generalize hds:tyDeps ((tys L).take k)=ds at *
   have HR:=hide (Rd.of_own HO.out)
   have HUP:=hide hup
   have HDL:=hide hdl
   have HBD:=hide hbd
   by_cases h3:x.t.kind=3
   ·
    have e3:(x.t.kind == 3)=true:=beq_iff_eq.2 h3
    have hfs:x.n=0:=by rw [←h1.ok.len,how.2.2.1 (by omega)];rfl
    have hp:=how.2.2.2.2.1 x.t.elem (by rw [tyParts_ref h3];simp)
    obtain ⟨hp0,hp1⟩:=hp
    obtain ⟨q,hq⟩:=Int.eq_ofNat_of_zero_le hp0
    rw [hq] at c3 hp1
    have hex:∃ v,ds[q]?=some v:=⟨_,List.getElem?_eq_getElem (by omega)⟩
    obtain ⟨v,hv⟩:=hex
    have hv1:=hbd v (List.mem_of_getElem? hv)
    obtain ⟨g1,o1,rfl,hg1,d0⟩:=HR.out.int hv
    have hd:tyDpt ds x.t=v+1:=tyDpt_ref h3 (by rw [hq,Int.toNat_natCast,List.getD_eq_getElem?_getD,hv];rfl) hv1.1
    have HD:=hide hd
    rw [hfs] at c4
    obtain ⟨hv0,hv2⟩:=hv1
    clear hx hat hat' how hsn hpre hbd hdl hup hds h3 h1 hfs hv hd hq
    go_wp2_with fail
    go_loop [7,8] (fun kk j=>j=.int .i64 0∧kk=.int .i64 v) (fun _ _=>0)
    case atStart=>exact ⟨rfl,rfl⟩
    case round=>
     obtain ⟨rfl,rfl⟩:=hrel
     go_wp2_with (at_builtin;refine wpList_append_own_at _ rfl (.tmp 51) (.tmp 54) 34 rfl w.heap.size 3 i0 (.int .i64 0) 1 8 Tryz.underlying34 hi hz0 hz1 hz2 rfl (by decide) _ k _ rfl (HO.out.alloc _) ⟨wr.heap.size,0,none⟩ 1 1 (i64s [v+1]) rfl rfl (cell_int2 wr (v+1) 3) (ints_oneCell _ _) (by unfold maxLen;omega) (by omega) (by simp;omega) ?_;intro v5 w5 hown5 hg5 _ hat5;have HO5:=hide hown5;have HB5:=hide (below_app (HB.out.alloc hsz _) (HO.out.alloc _) (by simp;omega) hg5);clear hown5 hg5 hat5)
     go_roundw
     case rel=>
      refine ⟨k+1,by go_num,by omega,?_,HB5.out⟩
      have h:=HO5.out
      rw [←List.map_append] at h
      rw [HUP.out,HD.out]
      exact h
     case measure=>simp [intOf];omega
   ·
    have e3:(x.t.kind == 3)=false:=beq_eq_false_iff_ne.2 h3
    have hpf:tyParts x.t=x.t.fields:=by
     by_cases h4:x.t.kind=4
     ·
      exact tyParts_tup h4
     ·
      rw [tyParts_none h3 h4,how.2.2.1 h4]
    have hfl:=h1.ok.len
    have HFL:=hide hfl
    have HRF:=hide h1.rd
    have HP:=hide (fun p hp=>how.2.2.2.2.1 p (by rw [hpf];exact hp):∀ p∈x.t.fields,0≤p∧p < (k:Int))
    have HD:=hide (tyDpt_to (ds:=ds) hpf (Nat.le_of_eq hfl))
    have HMB:=hide (maxTo_bd (ps:=x.t.fields) (d:=fun p=>ds.getD p.toNat 0) (fun p _=>tyDpt_bd hbd p))
    have hxn:x.n≤maxLen:=Nat.le_trans h1.ok.nc h1.ok.cm
    unfold maxLen at hxn
    clear hx hat hat' how hsn hpre hbd hdl hup hds h3 h1 hpf hfl
    go_wp2_with fail
    go_loop [7,8] (fun kk j=>∃ i:Nat,j=.int .i64 (i:Int)∧i≤x.n∧kk=.int .i64 (maxTo x.t.fields (fun p=>ds.getD p.toNat 0) i)) (fun _ j=>x.n - (intOf j).toNat)
    case atStart=>exact ⟨0,rfl,Nat.zero_le _,rfl⟩
    case round=>
     obtain ⟨i,rfl,hi',rfl⟩:=hrel
     by_cases hlt2:i < x.n
     ·
      have hlt2':(i:Int) < (x.n:Int):=by omega
      have hex:∃ p,x.t.fields[i]?=some p:=⟨_,List.getElem?_eq_getElem (by have:=HFL.out;omega)⟩
      obtain ⟨p,hp⟩:=hex
      obtain ⟨gf,of,hAf,hgf,df⟩:=HRF.out.int hp
      rw [hAf] at c4
      have hpp:=HP.out p (List.mem_of_getElem? hp)
      obtain ⟨hp0,hp1⟩:=hpp
      obtain ⟨q,rfl⟩:=Int.eq_ofNat_of_zero_le hp0
      have hex:∃ v,ds[q]?=some v:=⟨_,List.getElem?_eq_getElem (by have:=HDL.out;omega)⟩
      obtain ⟨v,hv⟩:=hex
      obtain ⟨g1,o1,rfl,hg1,d0⟩:=HR.out.int hv
      have hms:=maxTo_succ (fun p:Int=>ds.getD p.toNat 0) hp
      have he:ds.getD ((q:Int)).toNat 0=v:=by rw [Int.toNat_natCast,List.getD_eq_getElem?_getD,hv];rfl
      simp only [he] at hms
      have HMS:=hide hms
      have hv1:=HBD.out v (List.mem_of_getElem? hv)
      obtain ⟨hv0,hv2⟩:=hv1
      have hb1:=HMB.out i
      obtain ⟨hb0,hb2⟩:=hb1
      generalize maxTo x.t.fields (fun p=>ds.getD p.toNat 0) i=mm at *
      clear hp hv hms he hAf
      go_wp2_with fail
      go_round
      case rel=>exact ⟨i+1,by go_num,by omega,by rw [HMS.out,ite_max]⟩
      case measure=>simp [intOf];omega
     ·
      obtain rfl:i=x.n:=by omega
      have hb1:=HMB.out x.n
      obtain ⟨hb0,hb2⟩:=hb1
      have hex:∃ mm,mm=maxTo x.t.fields (fun p=>ds.getD p.toNat 0) x.n:=⟨_,rfl⟩
      obtain ⟨mm,hmm⟩:=hex
      rw [←hmm] at HD hb0 hb2 ⊢
      clear hmm
      go_wp2_with (at_builtin;refine wpList_append_own_at _ rfl (.tmp 51) (.tmp 54) 34 rfl w.heap.size 3 i0 (.int .i64 0) 1 8 Tryz.underlying34 hi hz0 hz1 hz2 rfl (by decide) _ k _ rfl (HO.out.alloc _) ⟨wr.heap.size,0,none⟩ 1 1 (i64s [mm+1]) rfl rfl (cell_int2 wr (mm+1) 3) (ints_oneCell _ _) (by unfold maxLen;omega) (by omega) (by simp;omega) ?_;intro v5 w5 hown5 hg5 _ hat5;have HO5:=hide hown5;have HB5:=hide (below_app (HB.out.alloc hsz _) (HO.out.alloc _) (by simp;omega) hg5);clear hown5 hg5 hat5)
      go_roundw
      case rel=>
       refine ⟨k+1,by go_num,by omega,?_,HB5.out⟩
       have h:=HO5.out
       rw [←List.map_append] at h
       rw [HUP.out,HD.out]
       exact h
      case measure=>simp [intOf];omega
  ·
   obtain rfl:k=m:=by omega
   go_wp2
   go_ret
   exact ⟨A1,c1,rfl,hk1,by unfold maxLen;omega,HO.out,HB.out⟩
theorem tyBig_at:∀ {l:List Ty} {k:Nat} {m:Nat} {t:Ty},l[k]?=some t→tyBig m (l.drop k)=if 200 < m+(1+min t.fields.length 500) then true else tyBig (m+(1+min t.fields.length 500)) (l.drop (k+1)):=by
 intro l k m t h
 have hk:k < l.length:=(List.getElem?_eq_some_iff.1 h).1
 have e:l.drop k=t :: l.drop (k+1):=by
  rw [List.drop_eq_getElem_cons hk]
  rw [List.getElem?_eq_getElem hk] at h
  injection h with h
  rw [h]
 rw [e]
 rfl
def largeN (L:List TyW):Int:=if tyLarge (tys L)=true then 1 else 0
theorem LargeT_any (A:Option Addr) (n c:Nat) (L:List TyW) (w:World) (hA:Typs w w.heap.size A n L) (hn:n≤maxLen) :
 Calls Tryz.prog 78 #[.slice A n c] w fun e w'=>e=.returned (.int .i64 (largeN L))∧Below w.heap.size w w':=by
 have HA:=hide hA
 have HL:=hide hA.len
 unfold maxLen at hn
 clear hA
 go_enter Tryz.func78,Tryz.ntmps78
 go_wp2_with fail
 go_loopw [3,8] (fun s i wr=>∃ k m:Nat,i=.int .i64 (k:Int)∧k≤n∧s=.int .i64 (m:Int)∧m≤200∧Hid (tyLarge (tys L)=tyBig m ((tys L).drop k))∧Below w.heap.size w wr) (fun _ i _=>n - (intOf i).toNat)
 case atStart=>exact ⟨0,0,rfl,Nat.zero_le _,rfl,Nat.zero_le _,rfl,Below.refl _ _⟩
 case round=>
  obtain ⟨k,m,rfl,hk,rfl,hm,HT,hb⟩:=hrel
  have HB:=hide hb
  have hsz:=hb.size
  by_cases hlt:k < n
  ·
   have hlt':(k:Int) < (n:Int):=by omega
   have hex:∃ a,L[k]?=some a:=⟨_,List.getElem?_eq_getElem (by have:=HL.out;omega)⟩
   obtain ⟨x,hx⟩:=hex
   obtain ⟨g,o,rfl,hgB,hone,c0,c1,c2,c3,c4⟩:=(HA.out.below hb).at_ hx
   have hst:=tyBig_at (m:=m) (tys_at hx)
   rw [hone.ok.len] at hst
   have hxn:x.n≤maxLen:=Nat.le_trans hone.ok.nc hone.ok.cm
   unfold maxLen at hxn
   have HB2:=hide (hb.alloc hsz (.cells (c5 x).toArray 65))
   by_cases h5:x.n < 500
   ·
    have h5':(x.n:Int) < 500:=by omega
    have h5m:min x.n 500=x.n:=Nat.min_eq_left (by omega)
    rw [h5m] at hst
    by_cases hbig:200 < m+(1+x.n)
    ·
     have hbig':(200:Int) < (m:Int)+(1+(x.n:Int)):=by omega
     clear hx hone hb h5 h5m
     have HF:=hide (show largeN L=1 from if_pos (by rw [HT.out,hst,if_pos hbig]))
     clear hst hbig
     go_wp2_with fail
     all_goals
      go_ret
      exact ⟨congrArg (fun z=>Ending.returned (.int .i64 z)) HF.out.symm,HB2.out⟩
    ·
     have hbig':(m:Int)+(1+(x.n:Int))≤200:=by omega
     clear hx hone hb h5 h5m
     have HT2:=hide (HT.out.trans (hst.trans (if_neg hbig)))
     clear hst hbig
     go_wp2_with fail
     all_goals
      go_roundw
      case rel=>exact ⟨k+1,m+(1+x.n),by go_num,by omega,by go_num,by omega,HT2.out,HB2.out⟩
      case measure=>simp [intOf];omega
   ·
    have h5':(500:Int)≤(x.n:Int):=by omega
    have h5m:min x.n 500=500:=Nat.min_eq_right (by omega)
    rw [h5m] at hst
    have hbig':(200:Int) < (m:Int)+(1+500):=by omega
    have HF:=hide (show largeN L=1 from if_pos (by rw [HT.out,hst,if_pos (by omega)]))
    clear hx hone hst hb h5 h5m
    go_wp2_with fail
    all_goals
     go_ret
     exact ⟨congrArg (fun z=>Ending.returned (.int .i64 z)) HF.out.symm,HB2.out⟩
  ·
   obtain rfl:k=n:=by omega
   have HF:=hide (show largeN L=0 from if_neg (by rw [HT.out,List.drop_of_length_le (by rw [tys_len,HL.out];exact Nat.le_refl _)];simp [tyBig]))
   go_wp2_with fail
   go_ret
   exact ⟨congrArg (fun z=>Ending.returned (.int .i64 z)) HF.out.symm,HB.out⟩
def SomeB (e:Ending):Prop:=∃ b,e=.returned (.bool b)
def SkipE (L:List TyW) (e:Ending):Prop:=∃ v:Int,e=.returned (.int .i64 v)∧(tyLarge (tys L)=true→v=1)∧(v=0∨v=1)
theorem cell_last (w:World) (o:Obj) (x:Int) (t:TypeId):∀ j u,(i64s [x])[j]?=some u→((w.alloc o).alloc (.cells #[.int .i64 x] t)).cell? ((⟨w.heap.size+1,0,none⟩:Addr).add j)=some u:=by
 have h:=heap_alloc_new (w.alloc o) (.cells #[.int .i64 x] t)
 rw [World.size_alloc] at h
 exact World.news_of_block h
theorem Law06z1 {P:Prop} (h:P:=by
 obtain rfl:i=nf:=by omega
 have hvb:0≤vv∧vv≤2001+(k:Int):=⟨hv0,hv1⟩
 go_wp2_with (at_builtin;refine wpList_append_own_at _ rfl _ _ 34 rfl w.heap.size 3 i0 (.int .i64 0) 1 8 Tryz.underlying34 hi hz0 hz1 hz2 rfl (by decide) _ k _ rfl ((HO.out.alloc _).alloc _) ⟨wr.heap.size+1,0,none⟩ 1 1 (i64s [vv]) rfl rfl (cell_last wr _ vv 3) (ints_oneCell _ _) (by unfold maxLen;omega) (by omega) (by simp;omega) ?_;intro v5 w5 hown5 hg5 _ hat5;have HO5:=hide hown5;have HB5:=hide (below_app ((HB.out.alloc hsz _).alloc (by simp;omega) _) ((HO.out.alloc _).alloc _) (by simp;omega) hg5);clear hown5 hg5 hat5)
 go_roundw
 case rel=>
  refine ⟨k+1,ys++[vv],by go_num,by omega,by simp [HYL.out],?_,fun y hy=>?_,HB5.out⟩
  ·
   have h:=HO5.out
   rw [←List.map_append] at h
   exact h
  ·
   rcases List.mem_append.1 hy with hy | hy
   ·
    have:=HYB.out y hy;omega
   ·
    obtain rfl:y=vv:=by simpa using hy
    omega
 case measure=>simp [intOf];omega):P:=h
theorem Law06z2 {P:Prop} (h:P:=by
 by_cases hbig:2000 < vv
 ·
  go_wp2_with fail
  go_ret
  exact ⟨⟨_,rfl⟩,HB2.out⟩
 ·
  have hbig':vv≤2000:=by omega
  clear hbig
  go_wp2_with fail
  go_round
  case rel=>exact ⟨i+1,vv,by go_num,by omega,rfl,by omega,by omega⟩
  case measure=>simp [intOf];omega):P:=h
theorem Law06z3 {P:Prop} (h:P:=by
 by_cases hbig:2000 < vv+u
 ·
  go_wp2_with fail
  go_ret
  exact ⟨⟨_,rfl⟩,HB2.out⟩
 ·
  have hbig':vv+u≤2000:=by omega
  clear hbig
  go_wp2_with fail
  go_round
  case rel=>exact ⟨i+1,vv+u,by go_num,by omega,by go_num,by omega,by omega⟩
  case measure=>simp [intOf];omega):P:=h
theorem Law06z0 {P:Prop} (h:P:=by
 have HB2:=hide (hb.alloc hsz (.cells #[.int .i64 kd,.bool mu,.int .i64 rg,.int .i64 el,.slice F nf cf] 65))
 clear hb
 go_wp2_with fail
 go_loop [6,40] (fun v j=>∃ (i:Nat) (vv:Int),j=.int .i64 (i:Int)∧i≤nf∧v=.int .i64 vv∧0≤vv∧vv≤2001+(k:Int)) (fun _ j=>nf - (intOf j).toNat)
 case atStart=>exact ⟨0,1,rfl,Nat.zero_le _,rfl,by omega,by omega⟩
 case round=>
  obtain ⟨i,vv,rfl,hi',rfl,hv0,hv1⟩:=hrel
  by_cases hlt2:i < nf
  ·
   have hlt2':(i:Int) < (nf:Int):=by omega
   have hex:∃ p,fs[i]?=some p:=⟨_,List.getElem?_eq_getElem (by have:=HFL.out;omega)⟩
   obtain ⟨p,hp⟩:=hex
   obtain ⟨gf,of,hAf,hgf,df⟩:=(HRF.out.below HB.out).int hp
   rw [hAf] at HB2 ⊢
   have hgf2:gf < wr.heap.size:=by omega
   clear hp hAf
   by_cases hp0:0≤p
   ·
    by_cases hp1:p < (k:Int)
    ·
     obtain ⟨q,rfl⟩:=Int.eq_ofNat_of_zero_le hp0
     have hex:∃ u,ys[q]?=some u:=⟨_,List.getElem?_eq_getElem (by have:=HYL.out;omega)⟩
     obtain ⟨u,hu⟩:=hex
     have hub:=HYB.out u (List.mem_of_getElem? hu)
     obtain ⟨hu0,hu1⟩:=hub
     obtain ⟨gy,oy,rfl,hgy,dy⟩:=HR.out.int hu
     clear hu
     exact Law06z3
    ·
     have hp2:decide (p < (k:Int))=false:=by simpa using hp1
     clear hp1
     exact Law06z2
   ·
    have hp2:decide (0≤p)=false:=by simpa using hp0
    clear hp0
    exact Law06z2
  ·
   exact Law06z1):P:=h
theorem wide_any (A:Option Addr) (n c:Nat) (L:List TyW) (w:World) (hA:Typs w w.heap.size A n L) (hn:n≤65535) :
 Calls Tryz.prog 79 #[.slice A n c] w fun e w'=>SomeB e∧Below w.heap.size w w':=by
 obtain ⟨i0,hi,hz0,hz1,hz2⟩:=info_parts infoInt
 have HA:=hide hA
 have HL:=hide hA.len
 clear hA
 go_enter Tryz.func79,Tryz.ntmps79
 go_wp2
 go_loopw [3,11] (fun pa i wr=>∃ (k:Nat) (ys:List Int),i=.int .i64 (k:Int)∧k≤n∧ys.length=k∧wr.ownsRow w.heap.size 3 1 pa k (i64s ys)∧(∀ y∈ys,0≤y∧y≤2000+(k:Int))∧Below w.heap.size w wr) (fun _ i _=>n - (intOf i).toNat)
 case atStart=>exact ⟨0,[],rfl,Nat.zero_le _,rfl,World.ownsRow_nil _ _ _ _,(fun y hy=>by cases hy),Below.refl _ _⟩
 case round=>
  obtain ⟨k,ys,rfl,hk,hyl,hown,hyb,hb⟩:=hrel
  obtain ⟨A1,c1,rfl,hk1,hc1⟩:=ownsRow_shape3 hown
  have HO:=hide hown
  have HB:=hide hb
  have HYL:=hide hyl
  have HYB:=hide hyb
  have hsz:=hb.size
  unfold maxLen at hc1
  by_cases hlt:k < n
  ·
   have hlt':(k:Int) < (n:Int):=by omega
   have hex:∃ a,L[k]?=some a:=⟨_,List.getElem?_eq_getElem (by have:=HL.out;omega)⟩
   obtain ⟨x,hx⟩:=hex
   obtain ⟨g,o,rfl,hgB,hone,d0,d1,d2,d3,d4⟩:=(HA.out.below hb).at_ hx
   have hrf:=(HA.out.one x (List.mem_of_getElem? hx)).rd
   obtain ⟨⟨kd,mu,rg,el,fs⟩,F,nf,cf⟩:=x
   simp only [] at d0 d1 d2 d3 d4 hrf
   have HRF:=hide hrf
   have HFL:Hid (fs.length=nf):=hone.ok.len
   have hxn:nf≤maxLen:=Nat.le_trans hone.ok.nc hone.ok.cm
   unfold maxLen at hxn
   clear hx hone hown hyl hyb hrf
   have HR:=hide ((Rd.of_own HO.out))
   by_cases h3:kd=3
   ·
    have e3:(kd == 3)=true:=beq_iff_eq.2 h3
    clear h3
    by_cases he0:0≤el
    ·
     by_cases he1:el < (k:Int)
     ·
      obtain ⟨q,rfl⟩:=Int.eq_ofNat_of_zero_le he0
      have hex:∃ u,ys[q]?=some u:=⟨_,List.getElem?_eq_getElem (by have:=HYL.out;omega)⟩
      obtain ⟨ue,hu⟩:=hex
      have hub:=HYB.out ue (List.mem_of_getElem? hu)
      obtain ⟨hu0,hu1⟩:=hub
      obtain ⟨ge,oe,rfl,hge,de⟩:=HR.out.int hu
      clear hu
      have HB2:=hide (hb.alloc hsz (.cells #[.int .i64 kd,.bool mu,.int .i64 rg,.int .i64 (q:Int),.slice F nf cf] 65))
      clear hb
      go_wp2_with fail
      go_loop [6,40] (fun v j=>∃ (i:Nat) (vv:Int),j=.int .i64 (i:Int)∧i≤nf∧v=.int .i64 vv∧0≤vv∧vv≤2001+(k:Int)) (fun _ j=>nf - (intOf j).toNat)
      case atStart=>exact ⟨0,1+ue,rfl,Nat.zero_le _,rfl,by omega,by omega⟩
      case round=>
       obtain ⟨i,vv,rfl,hi',rfl,hv0,hv1⟩:=hrel
       by_cases hlt2:i < nf
       ·
        have hlt2':(i:Int) < (nf:Int):=by omega
        have hex:∃ p,fs[i]?=some p:=⟨_,List.getElem?_eq_getElem (by have:=HFL.out;omega)⟩
        obtain ⟨p,hp⟩:=hex
        obtain ⟨gf,of,hAf,hgf,df⟩:=(HRF.out.below HB.out).int hp
        rw [hAf] at HB2 ⊢
        have hgf2:gf < wr.heap.size:=by omega
        clear hp hAf
        by_cases hp0:0≤p
        ·
         by_cases hp1:p < (k:Int)
         ·
          obtain ⟨q,rfl⟩:=Int.eq_ofNat_of_zero_le hp0
          have hex:∃ u,ys[q]?=some u:=⟨_,List.getElem?_eq_getElem (by have:=HYL.out;omega)⟩
          obtain ⟨u,hu⟩:=hex
          have hub:=HYB.out u (List.mem_of_getElem? hu)
          obtain ⟨hu0,hu1⟩:=hub
          obtain ⟨gy,oy,e9,hgy,dy⟩:=HR.out.int hu
          cases e9
          clear hu
          exact Law06z3
         ·
          have hp2:decide (p < (k:Int))=false:=by simpa using hp1
          clear hp1
          exact Law06z2
        ·
         have hp2:decide (0≤p)=false:=by simpa using hp0
         clear hp0
         exact Law06z2
       ·
        exact Law06z1
     ·
      have hp9:decide (el < (k:Int))=false:=by simpa using he1
      clear he1
      exact Law06z0
    ·
     have hp9:decide (0≤el)=false:=by simpa using he0
     clear he0
     exact Law06z0
   ·
    have e3:(kd == 3)=false:=beq_eq_false_iff_ne.2 h3
    clear h3
    exact Law06z0
  ·
   obtain rfl:k=n:=by omega
   go_wp2_with fail
   go_ret
   exact ⟨⟨_,rfl⟩,HB.out⟩
theorem Skip_any (A:Option Addr) (n c:Nat) (L:List TyW) (w:World) (hA:Typs w w.heap.size A n L) (hn:n≤maxLen) :
 Calls Tryz.prog 45 #[.slice A n c] w fun e w'=>SkipE L e∧Below w.heap.size w w':=by
 go_enter Tryz.func45,Tryz.ntmps45
 go_wp2_with fail
 refine (LargeT_any A n c L w hA hn).mono ?_
 rintro e w1 ⟨rfl,hb⟩
 cases hl:tyLarge (tys L) with
 | true=>
  have e1:largeN L=1:=if_pos hl
  rw [e1]
  go_wp2_with fail
  go_ret
  exact ⟨⟨1,rfl,fun _=>rfl,.inr rfl⟩,hb⟩
 | false=>
  have e1:largeN L=0:=if_neg (by rw [hl];exact Bool.false_ne_true)
  rw [e1]
  have hA1:=hA.below hb
  have hsm:=tyLarge_small hl
  go_wp2_with fail
  refine (wide_any A n c L w1 (hA1.more hb.size) (by have:=hA.len;rw [tys_len] at hsm;omega)).mono ?_
  rintro e w2 ⟨⟨b,rfl⟩,hb2⟩
  have HB:=hide (hb.trans (hb2.mono hb.size))
  cases b with
  | true=>
   go_wp2_with fail
   go_ret
   exact ⟨⟨1,rfl,fun _=>rfl,.inr rfl⟩,HB.out⟩
  | false=>
   go_wp2_with fail
   go_ret
   exact ⟨⟨0,rfl,fun h=>Bool.noConfusion (hl.symm.trans h),.inl rfl⟩,HB.out⟩
end Go.Proofs.YteeemjmohjkdpaaGreatDoor
