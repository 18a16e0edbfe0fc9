/- Part 6 of the contracts and their mathematics. -/
import Derived.Test.YtfgacmgjpikgaaaGreatDoorQ4
import Derived.StillTailTactics
import Derived.Maps.OwnSet
import Derived.Maps.RangeWalk
import Derived.Sort.KeysCollected
import Derived.Deep.OwnRows
set_option linter.unusedVariables false
set_option linter.unusedSimpArgs false
set_option maxRecDepth 100000
set_option maxHeartbeats 4000000
namespace Go.Proofs.YtfgacmgjpikgaaaGreatDoor
open Go.RowKit
theorem eqTy_fields {k r el:Int} {m:Bool} {fs fs':List Int} (h:fs=fs'):eqTy ⟨k,m,r,el,fs⟩ ⟨k,m,r,el,fs'⟩=true:=by rw [h,eqTy_self]
theorem bnot_eq {a b:Int} (h:a≠b):(a != b)=true:=by rw [bne_iff_ne];exact h
theorem TypQz0 {P:Prop} (h:P:=by
 go_enter Tryz.func96,Tryz.ntmps96
 go_wp2
 go_ret
 exact ⟨congrArg (fun v=>Ending.returned (.bool v)) HF.out.symm,HB.out⟩):P:=h
theorem REqT_any (x y:TyW) (w:World) (hx:OneT w w.heap.size x) (hy:OneT w w.heap.size y) :
 Calls Tryz.prog 96 #[aggT x,aggT y] w fun e w'=>e=.returned (.bool (eqTy x.t y.t))∧Below w.heap.size w w':=by
 obtain ⟨⟨k,m,r,el,fs⟩,A,n,c⟩:=x
 obtain ⟨⟨k',m',r',el',fs'⟩,A',n',c'⟩:=y
 have HB:=hide (two_alloc w (.cells #[.int .i64 k,.bool m,.int .i64 r,.int .i64 el,.slice A n c] 62) (.cells #[.int .i64 k',.bool m',.int .i64 r',.int .i64 el',.slice A' n' c'] 62))
 have HX:=hide (hx.rd.below HB.out)
 have HY:=hide (hy.rd.below HB.out)
 have h1n:n≤maxLen:=Nat.le_trans hx.ok.nc hx.ok.cm
 have h2n:n'≤maxLen:=Nat.le_trans hy.ok.nc hy.ok.cm
 have hl1:=hx.ok.len
 have hl2:=hy.ok.len
 simp only [] at hl1 hl2
 unfold maxLen at h1n h2n
 clear hx hy
 by_cases h1:k=k'
 ·
  subst h1
  have e1:(k != k)=false:=by simp
  by_cases h2:m=m'
  ·
   subst h2
   have e2:(m != m)=false:=by simp
   by_cases h3:r=r'
   ·
    subst h3
    have e3:(r != r)=false:=by simp
    by_cases h4:el=el'
    ·
     subst h4
     have e4:(el != el)=false:=by simp
     by_cases h5:n=n'
     ·
      subst h5
      have e5:((n:Int) != (n:Int))=false:=by simp
      have HL1:=hide hl1
      clear hl1
      have HL2:=hide hl2
      clear hl2
      go_enter Tryz.func96,Tryz.ntmps96
      go_wp2
      go_loopw [5] (fun i wr=>∃ j:Nat,i=.int .i64 (j:Int)∧j≤n∧Hid (eqUpto fs fs' j)∧Below w.heap.size w wr∧wr.heap.size=w.heap.size+2∧(∀ p,wr.cell? p=((w.alloc (.cells #[.int .i64 k,.bool m,.int .i64 r,.int .i64 el,.slice A n c] 62)).alloc (.cells #[.int .i64 k,.bool m,.int .i64 r,.int .i64 el,.slice A' n c'] 62)).cell? p)) (fun i _=>n - (intOf i).toNat)
      case atStart=>exact ⟨0,rfl,Nat.zero_le _,fun j h=>absurd h (by omega),HB.out,by simp,fun _=>rfl⟩
      case round=>
       obtain ⟨j,rfl,hj,HE,hb,hsz,hc⟩:=hrel
       have HB1:=hide hb
       have HC:=hide hc
       have d4:wr.cell? ⟨w.heap.size,4,none⟩=some (.slice A n c):=by rw [hc];simp [go_sem]
       have d4':wr.cell? ⟨w.heap.size+1,4,none⟩=some (.slice A' n c'):=by rw [hc];simp [go_sem]
       have hlt0:w.heap.size < wr.heap.size:=by omega
       clear hb hc
       by_cases hlt:j < n
       ·
        have hex:∃ a,fs[j]?=some a:=⟨_,List.getElem?_eq_getElem (by have:=HL1.out;omega)⟩
        obtain ⟨a,ha⟩:=hex
        have hex:∃ a,fs'[j]?=some a:=⟨_,List.getElem?_eq_getElem (by have:=HL2.out;omega)⟩
        obtain ⟨b,hb⟩:=hex
        obtain ⟨g,o,rfl,_,c0⟩:=HX.out.int ha
        obtain ⟨g',o',rfl,_,c1⟩:=HY.out.int hb
        rw [←HC.out] at c0 c1
        have hlt':(j:Int) < (n:Int):=by omega
        have HA':=hide ha
        clear ha
        have HB':=hide hb
        clear hb
        by_cases hab:a=b
        ·
         subst hab
         have e6:((a:Int) != (a:Int))=false:=by simp
         have HE2:=hide (show eqUpto fs fs' (j+1) from fun i hi=>by
          rcases Nat.lt_or_ge i j with h | h
          ·
           exact HE.out i h
          ·
           obtain rfl:i=j:=by omega
           rw [HA'.out,HB'.out])
         go_wp2
         go_quiet (fail)
         go_wp2
         go_roundw
         case rel=>exact ⟨j+1,by go_num,by omega,HE2.out,tyN HB1.out _,hsz,HC.out⟩
         case measure=>simp [intOf];omega
        ·
         have e6:((a:Int) != (b:Int))=true:=bnot_eq hab
         have HF:=hide (eqTy_no (a:=⟨k,m,r,el,fs⟩) (b:=⟨k,m,r,el,fs'⟩) fun h=>by
          have h0:fs=fs':=congrArg Ty.fields h
          subst h0
          have h1:=HA'.out
          rw [HB'.out] at h1
          injection h1 with h1
          exact absurd h1.symm hab)
         clear hab
         go_wp2
         go_quiet (fail)
         go_wp2
         go_ret
         exact ⟨congrArg (fun v=>Ending.returned (.bool v)) HF.out.symm,tyN HB1.out _⟩
       ·
        obtain rfl:j=n:=by omega
        have HF:=hide (eqTy_fields (k:=k) (m:=m) (r:=r) (el:=el) (show fs=fs' from by
         refine List.ext_getElem? fun i=>?_
         rcases Nat.lt_or_ge i j with h | h
         ·
          exact HE.out i h
         ·
          rw [List.getElem?_eq_none (by have:=HL1.out;omega),List.getElem?_eq_none (by have:=HL2.out;omega)]))
        go_wp2
        go_ret
        exact ⟨congrArg (fun v=>Ending.returned (.bool v)) HF.out.symm,HB1.out⟩
     ·
      have e5:((n:Int) != (n':Int))=true:=bnot_eq (by omega)
      have HF:=hide (eqTy_no (a:=⟨k,m,r,el,fs⟩) (b:=⟨k,m,r,el,fs'⟩) fun e=>by
       have h0:fs=fs':=congrArg Ty.fields e
       subst h0
       omega)
      clear h5 hl1 hl2
      exact TypQz0
    ·
     clear hl1 hl2
     have e4:(el != el')=true:=bnot_eq h4
     have HF:=hide (eqTy_no (a:=⟨k,m,r,el,fs⟩) (b:=⟨k,m,r,el',fs'⟩) fun e=>h4 (congrArg Ty.elem e))
     clear h4
     exact TypQz0
   ·
    clear hl1 hl2
    have e3:(r != r')=true:=bnot_eq h3
    have HF:=hide (eqTy_no (a:=⟨k,m,r,el,fs⟩) (b:=⟨k,m,r',el',fs'⟩) fun e=>h3 (congrArg Ty.region e))
    clear h3
    exact TypQz0
  ·
   clear hl1 hl2
   have HF:=hide (eqTy_no (a:=⟨k,m,r,el,fs⟩) (b:=⟨k,m',r',el',fs'⟩) fun e=>h2 (congrArg Ty.mut_ e))
   cases m <;> cases m'
   ·
    exact absurd rfl h2
   ·
    clear h2
    exact TypQz0
   ·
    clear h2
    exact TypQz0
   ·
    exact absurd rfl h2
 ·
  clear hl1 hl2
  have e1:(k != k')=true:=bnot_eq h1
  have HF:=hide (eqTy_no (a:=⟨k,m,r,el,fs⟩) (b:=⟨k',m',r',el',fs'⟩) fun e=>h1 (congrArg Ty.kind e))
  clear h1
  exact TypQz0
theorem REqT_is {x y:TyW} {b:Bool} (h:eqTy x.t y.t=b) (w:World) (hx:OneT w w.heap.size x) (hy:OneT w w.heap.size y) :
 Calls Tryz.prog 96 #[aggT x,aggT y] w fun e w'=>e=.returned (.bool b)∧Below w.heap.size w w':=h ▸ REqT_any x y w hx hy
theorem RFindT_any (A:Option Addr) (n c:Nat) (L:List TyW) (y:TyW) (w:World) (hA:Typs w w.heap.size A n L) (hy:OneT w w.heap.size y) (hn:n≤maxLen) (s:Nat) (hs:s≤n) (hno:∀ i,i < s→(tys L)[i]?≠some y.t) (hst:s < n→(tys L)[s]?=some y.t) :
 Calls Tryz.prog 69 #[.slice A n c,aggT y] w fun e w'=>e=.returned (.int .i64 (if s < n then (s:Int) else -1))∧Below w.heap.size w w':=by
 have HL:=hide hA.len
 have HA:=hide hA
 have HY:=hide hy
 have HN:=hide hno
 have HS:=hide hst
 unfold maxLen at hn
 clear hA hy hno hst
 go_enter Tryz.func69,Tryz.ntmps69
 go_wp2
 go_loopw [5] (fun i wr=>∃ j:Nat,i=.int .i64 (j:Int)∧j≤s∧Below (w.heap.size+1) (w.alloc (.cells (c5 y).toArray 62)) wr) (fun i _=>n - (intOf i).toNat)
 case atStart=>exact ⟨0,rfl,Nat.zero_le _,Below.refl _ _⟩
 case round=>
  obtain ⟨j,rfl,hj,hb⟩:=hrel
  have HB:=hide hb
  have hbw:=box_below hb
  have HBW:=hide hbw
  have d0:wr.cell? ⟨w.heap.size,0,none⟩=some (.int .i64 y.t.kind):=box_at hb rfl
  have d1:wr.cell? ⟨w.heap.size,1,none⟩=some (.bool y.t.mut_):=box_at hb rfl
  have d2:wr.cell? ⟨w.heap.size,2,none⟩=some (.int .i64 y.t.region):=box_at hb rfl
  have d3:wr.cell? ⟨w.heap.size,3,none⟩=some (.int .i64 y.t.elem):=box_at hb rfl
  have d4:wr.cell? ⟨w.heap.size,4,none⟩=some (.slice y.A y.n y.c):=box_at hb rfl
  have hsz:=hb.size
  simp only [World.size_alloc] at hsz
  clear hb hbw
  have hlt0:w.heap.size < wr.heap.size:=hsz
  by_cases hlt:j < n
  ·
   have hex:∃ a,L[j]?=some a:=⟨_,List.getElem?_eq_getElem (by have:=HL.out;omega)⟩
   obtain ⟨x,hx⟩:=hex
   obtain ⟨g,o,rfl,hgB,h1,c0,c1,c2,c3,c4⟩:=(HA.out.below HBW.out).at_ hx
   have HX:=hide (h1.more (Nat.le_trans (Nat.le_of_lt (Nat.lt_succ_self _)) hsz))
   have HY2:=hide ((HY.out.below HBW.out).more (Nat.le_trans (Nat.le_of_lt (Nat.lt_succ_self _)) hsz))
   have HXd:=hide (show OneT wr.drew wr.drew.heap.size x from HX.out.below ((Below.refl wr.heap.size wr).drew))
   have HYd:=hide (show OneT wr.drew wr.drew.heap.size y from HY2.out.below ((Below.refl wr.heap.size wr).drew))
   have hlt':(j:Int) < (n:Int):=by omega
   by_cases hjs:j < s
   ·
    clear h1
    have he:=hide (show eqTy x.t y.t=false from eqTy_no fun e=>HN.out j hjs (e ▸ tys_at hx))
    clear hx
    go_wp2_with fail
    go_still_tail 5,(by kernel_rfl)
    go_wp2_with fail
    refine (REqT_is he.out _ HXd.out HYd.out).mono ?_
    rintro e w1 ⟨rfl,hb⟩
    have HB3:=hide (HB.out.drew.trans (hb.mono hsz))
    clear hb
    go_wp2_with fail
    go_roundw
    case rel=>exact ⟨j+1,by go_num,by omega,HB3.out⟩
    case measure=>simp [intOf];omega
   ·
    obtain rfl:j=s:=by omega
    have he:=hide (show eqTy x.t y.t=true by
     have h1:=tys_at hx
     rw [HS.out hlt] at h1
     injection h1 with h1
     rw [eqTy_iff,h1])
    clear hx h1
    go_wp2_with fail
    go_still_tail 5,(by kernel_rfl)
    go_wp2_with fail
    refine (REqT_is he.out _ HXd.out HYd.out).mono ?_
    rintro e w1 ⟨rfl,hb⟩
    have HB3:=hide (HB.out.drew.trans (hb.mono hsz))
    clear hb
    go_wp2_with fail
    go_ret
    exact ⟨by simp,box_below HB3.out⟩
  ·
   obtain rfl:j=n:=by omega
   obtain rfl:s=j:=by omega
   go_wp2
   go_ret
   exact ⟨by simp,HBW.out⟩
theorem within_any (i n:Int) (w:World):Calls Tryz.prog 97 #[.int .i64 i,.int .i64 n] w fun e w'=>e=.returned (.bool (tyIn i n))∧w=w':=by
 by_cases h1:0≤i
 ·
  by_cases h2:i < n
  ·
   have e:=hide (show tyIn i n=true from tyIn_iff.2 ⟨h1,h2⟩)
   go_enter Tryz.func97,Tryz.ntmps97
   go_wp2
   go_ret
   exact ⟨congrArg (fun v=>Ending.returned (.bool v)) e.out.symm,rfl⟩
  ·
   have e:=hide (show tyIn i n=false from tyIn_not.2 (by omega))
   have h3:decide (i < n)=false:=by simpa using h2
   go_enter Tryz.func97,Tryz.ntmps97
   go_wp2
   go_ret
   exact ⟨congrArg (fun v=>Ending.returned (.bool v)) e.out.symm,rfl⟩
 ·
  have e:=hide (show tyIn i n=false from tyIn_not.2 (by omega))
  have h3:decide (0≤i)=false:=by simpa using h1
  go_enter Tryz.func97,Tryz.ntmps97
  go_wp2
  go_ret
  exact ⟨congrArg (fun v=>Ending.returned (.bool v)) e.out.symm,rfl⟩
theorem within_is {i n:Int} {b:Bool} (h:tyIn i n=b) (w:World):Calls Tryz.prog 97 #[.int .i64 i,.int .i64 n] w fun e w'=>e=.returned (.bool b)∧w=w':=h ▸ within_any i n w
theorem Rd_int1 (w:World) (x:Int) (t:TypeId):Rd (w.alloc (.cells #[.int .i64 x] t)) (w.heap.size+1) (some ⟨w.heap.size,0,none⟩) 1 (i64s [x]):=
 ⟨rfl,fun _=>⟨w.heap.size,0,rfl,by omega,fun j u hu=>by
  rw [cell_of_row (w.alloc (.cells #[.int .i64 x] t)) w.heap.size (0+j) _ t (0,0) (heap_alloc_new w _)]
  simpa using hu⟩⟩
def PartsR (w:World) (x:TyW) (e:Ending) (w':World):Prop:=∃ A n c,e=.returned (.slice A n c)∧n≤c∧c≤maxLen∧(tyParts x.t).length=n∧Rd w' w'.heap.size A n (i64s (tyParts x.t))∧Below w.heap.size w w'
theorem parts_any (x:TyW) (w:World) (hx:OneT w w.heap.size x):Calls Tryz.prog 99 #[aggT x] w (PartsR w x):=by
 have HB:=hide ((Below.refl w.heap.size w).alloc (Nat.le_refl _) (.cells (c5 x).toArray 62))
 have HX:=hide ((hx.below HB.out).more (B':=(w.alloc (.cells (c5 x).toArray 62)).heap.size) (by simp))
 have HF:=hide hx.ok
 by_cases h3:x.t.kind=3
 ·
  have e3:(x.t.kind == 3)=true:=beq_iff_eq.2 h3
  have HB2:=hide (HB.out.alloc (by simp) (.cells #[.int .i64 x.t.elem] 3))
  have hp:PartsR w x (.returned (.slice (some ⟨w.heap.size+1,0,none⟩) 1 1)) ((w.alloc (.cells (c5 x).toArray 62)).alloc (.cells #[.int .i64 x.t.elem] 3)):=by
   refine ⟨_,1,1,rfl,Nat.le_refl _,by decide,by rw [tyParts_ref h3];rfl,?_,HB2.out⟩
   have h:=Rd_int1 (w.alloc (.cells (c5 x).toArray 62)) x.t.elem 3
   rw [tyParts_ref h3]
   rw [World.size_alloc] at h
   exact h.more (by simp)
  have HP:=hide hp
  clear hx h3 hp
  go_enter Tryz.func99,Tryz.ntmps99
  go_wp2
  go_ret
  exact HP.out
 ·
  have e3:(x.t.kind == 3)=false:=beq_eq_false_iff_ne.2 h3
  by_cases h4:x.t.kind=4
  ·
   have e4:(x.t.kind == 4)=true:=beq_iff_eq.2 h4
   have HP:Hid (PartsR w x (.returned (.slice x.A x.n x.c)) (w.alloc (.cells (c5 x).toArray 62))):=⟨_,_,_,rfl,HF.out.nc,HF.out.cm,by rw [tyParts_tup h4];exact HF.out.len,by rw [tyParts_tup h4];exact HX.out.rd,HB.out⟩
   clear hx h3 h4
   go_enter Tryz.func99,Tryz.ntmps99
   go_wp2
   go_ret
   exact HP.out
  ·
   have e4:(x.t.kind == 4)=false:=beq_eq_false_iff_ne.2 h4
   have HP:Hid (PartsR w x (.returned (.slice none 0 0)) (w.alloc (.cells (c5 x).toArray 62))):=⟨_,_,_,rfl,Nat.le_refl _,Nat.zero_le _,by rw [tyParts_none h3 h4];rfl,by rw [tyParts_none h3 h4];exact Rd.nil _ _ _,HB.out⟩
   clear hx h3 h4
   go_enter Tryz.func99,Tryz.ntmps99
   go_wp2
   go_ret
   exact HP.out
theorem areWithin_any (A:Option Addr) (n c:Nat) (xs:List Int) (m:Int) (w:World) (B:Nat) (hx:Rd w B A n (i64s xs)) (hn:n≤maxLen) :
  Calls Tryz.prog 98 #[.slice A n c,.int .i64 m] w fun e w'=>e=.returned (.bool (tyAllIn xs m))∧w=w':=by
 have HX:=hide hx
 have HL:=hide hx.ilen
 unfold maxLen at hn
 clear hx
 go_enter Tryz.func98,Tryz.ntmps98
 go_wp2
 go_loop [9] (fun i=>∃ j:Nat,i=.int .i64 (j:Int)∧j≤n∧Hid (tyAllIn (xs.take j) m=true)) (fun i=>n - (intOf i).toNat)
 case atStart=>exact ⟨0,rfl,Nat.zero_le _,rfl⟩
 case round=>
  obtain ⟨j,rfl,hj,HT⟩:=hrel
  by_cases hlt:j < n
  ·
   have hex:∃ a,xs[j]?=some a:=⟨_,List.getElem?_eq_getElem (by have:=HL.out;omega)⟩
   obtain ⟨a,ha⟩:=hex
   obtain ⟨g,o,rfl,_,c0⟩:=HX.out.int ha
   have hlt':(j:Int) < (n:Int):=by omega
   have HA:=hide ha
   clear ha
   cases hin:tyIn a m
   ·
    have HE:=hide hin
    have HF:=hide (show tyAllIn xs m=false by
     cases h:tyAllIn xs m
     ·
      rfl
     ·
      have:=tyAllIn_iff.1 h a (List.mem_of_getElem? HA.out)
      rw [tyIn_iff.2 this] at hin
      cases hin)
    clear hin
    go_wp2_with (go_at_call 97;refine (within_is HE.out _).mono ?_;rintro e w1 ⟨rfl,rfl⟩)
    go_ret
    exact ⟨congrArg (fun v=>Ending.returned (.bool v)) HF.out.symm,rfl⟩
   ·
    have HE:=hide hin
    have HF:=hide (show tyAllIn (xs.take (j+1)) m=true by
     rw [tyAllIn_iff]
     intro i hi
     rw [List.take_add_one,HA.out] at hi
     rcases List.mem_append.1 hi with hi | hi
     ·
      exact tyAllIn_iff.1 HT.out i hi
     ·
      obtain rfl:i=a:=by simpa using hi
      exact tyIn_iff.1 hin)
    clear hin
    go_wp2_with (go_at_call 97;refine (within_is HE.out _).mono ?_;rintro e w1 ⟨rfl,rfl⟩)
    go_round
    case rel=>exact ⟨j+1,by go_num,by omega,HF.out⟩
    case measure=>simp [intOf];omega
  ·
   obtain rfl:j=n:=by omega
   have hT:=HT.out
   rw [List.take_of_length_le (by have:=HL.out;omega)] at hT
   have HF:=hide hT
   clear hT
   go_wp2
   go_ret
   exact ⟨congrArg (fun v=>Ending.returned (.bool v)) HF.out.symm,rfl⟩
theorem areWithin_is {A:Option Addr} {n c:Nat} {xs:List Int} {m:Int} {w:World} {B:Nat} {b:Bool} (h:tyAllIn xs m=b) (hx:Rd w B A n (i64s xs)) (hn:n≤maxLen) :
  Calls Tryz.prog 98 #[.slice A n c,.int .i64 m] w fun e w'=>e=.returned (.bool b)∧w=w':=h ▸ areWithin_any A n c xs m w B hx hn
end Go.Proofs.YtfgacmgjpikgaaaGreatDoor
namespace Go.Proofs.YtfgacmgjpikgaaaGreatDoor
open Go.RowKit
structure Turn (S:Nat→Prop) (w w':World):Prop where
 os:w'.os=w.os
 tape:w'.tape=w.tape
 output:w'.output=w.output
 size:w.heap.size≤w'.heap.size
 block:∀ k,k < w.heap.size→¬S k→w'.heap[k]?=w.heap[k]?
namespace Turn
variable {S S':Nat→Prop} {w w' w'':World}
theorem refl (S:Nat→Prop) (w:World):Turn S w w:=⟨rfl,rfl,rfl,Nat.le_refl _,fun _ _ _=>rfl⟩
theorem trans (h:Turn S w w') (k:Turn S w' w''):Turn S w w'':=
 ⟨k.os.trans h.os,k.tape.trans h.tape,k.output.trans h.output,Nat.le_trans h.size k.size,fun i hi hs=>(k.block i (Nat.lt_of_lt_of_le hi h.size) hs).trans (h.block i hi hs)⟩
theorem of_below (h:Below w.heap.size w w'):Turn S w w':=⟨h.os,h.tape,h.output,h.size,fun k hk _=>h.block k hk⟩
theorem weak (h:Turn S w w') (hs:∀ k,S k→S' k):Turn S' w w':=⟨h.os,h.tape,h.output,h.size,fun k hk hn=>h.block k hk fun hk'=>hn (hs k hk')⟩
theorem alloc (h:Turn S w w') (o:Obj):Turn S w (w'.alloc o):=h.trans (of_below ((Below.refl _ _).alloc (Nat.le_refl _) o))
theorem drew (h:Turn S w w'):Turn S w w'.drew:=⟨h.os,h.tape,h.output,h.size,h.block⟩
theorem drewN (h:Turn S w w') (n:Nat):Turn S w (w'.drewN n):=⟨h.os,h.tape,h.output,h.size,h.block⟩
theorem grown (h:Turn S w w') {row:Option Nat} (hg:w'.grownBy w'' row) (hr:∀ k,row=some k→S k∨w.heap.size≤k):Turn S w w'':=
 ⟨hg.os.trans h.os,hg.tape.trans h.tape,hg.output.trans h.output,Nat.le_trans h.size hg.size,fun k hk hs=>
  (hg.block k (Nat.lt_of_lt_of_le hk h.size) (fun e=>by rcases hr k e.symm with h' | h' <;> first | exact hs h' | omega)).trans (h.block k hk hs)⟩
theorem setCell (h:Turn S w w') {a:Addr} (ha:S a.block∨w.heap.size≤a.block) (v:Value):Turn S w (w'.setCell a v):=
 ⟨h.os,h.tape,h.output,Nat.le_trans h.size (by simp [World.setCell]),fun k hk hs=>(Below.heap_setCell w' a v k (fun e=>by subst e;rcases ha with h' | h' <;> first | exact hs h' | omega)).trans (h.block k hk hs)⟩
theorem cell (h:Turn S w w') {p:Addr} (hp:p.block < w.heap.size) (hs:¬S p.block):w'.cell? p=w.cell? p:=World.cell?_of_block (w:=w) (h.block p.block hp hs)
theorem frozen (h:Turn S w w') {p:Addr} (hp:p.block < w.heap.size) (hs:¬S p.block):w'.frozen? p=w.frozen? p:=World.frozen?_of_block (w:=w) (h.block p.block hp hs)
theorem below (h:Turn S w w') {B:Nat} (hB:B≤w.heap.size) (hs:∀ k,S k→B≤k):Below B w w':=
 ⟨h.os,h.tape,h.output,h.size,fun k hk=>h.block k (by omega) fun h'=>by have:=hs k h';omega⟩
end Turn
theorem Rd.turn {S:Nat→Prop} {w w':World} {B:Nat} {A:Option Addr} {n:Nat} {xs:List Value} (h:Rd w B A n xs) (ht:Turn S w w') (hB:B≤w.heap.size) (hS:0 < n→∀ b o,A=some ⟨b,o,none⟩→¬S b):Rd w' B A n xs:=
 ⟨h.1,fun hn=>by
  obtain ⟨b,o,e,hb,hc⟩:=h.2 hn
  exact ⟨b,o,e,hb,fun j u hu=>(ht.cell (p:=⟨b,o+j,none⟩) (by simp;omega) (hS hn b o e)).trans (hc j u hu)⟩⟩
end Go.Proofs.YtfgacmgjpikgaaaGreatDoor
namespace Go.Proofs.YtfgacmgjpikgaaaGreatDoor
open Go.RowKit
structure Visits (K:FuncId) (caps:Array Value) (ret:Int→Value) (ps:List Int) (w0:World) (S:Nat→Prop) (J:World→(Int→Prop)→Prop) (men:Int→Int→Prop):Prop where
 enter:∀ (args:Array Value) (w:World),(callFunc K args).run Tryz.prog w=.ok (.enter K args) w
 call:∀ p∈ps,∀ w D,Turn S w0 w→J w D→Calls Tryz.prog K (#[.int .i64 p]++caps) w fun e w'=>e=.returned (ret p)∧J w' (fun r=>D r∨men p r)∧Turn S w w'
theorem Visits.later {K:FuncId} {caps:Array Value} {ret:Int→Value} {ps:List Int} {w0 w1:World} {S:Nat→Prop} {J:World→(Int→Prop)→Prop} {men:Int→Int→Prop} (h:Visits K caps ret ps w0 S J men) (ht:Turn S w0 w1):Visits K caps ret ps w1 S J men:=
 ⟨h.enter,fun p hp w D hw=>h.call p hp w D (ht.trans hw)⟩
def PartsF (w:World) (x:TyW) (e:Ending) (w':World):Prop:=∃ A n c,e=.returned (.slice A n c)∧n≤c∧c≤maxLen∧(tyParts x.t).length=n∧Rd w' w'.heap.size A n (i64s (tyParts x.t))∧Below w.heap.size w w'∧∀ b o,A=some ⟨b,o,none⟩→(x.A=some ⟨b,o,none⟩∧x.n=n)∨w.heap.size≤b
theorem partsF_any (x:TyW) (w:World) (hx:OneT w w.heap.size x):Calls Tryz.prog 99 #[aggT x] w (PartsF w x):=by
 have HB:=hide ((Below.refl w.heap.size w).alloc (Nat.le_refl _) (.cells (c5 x).toArray 62))
 have HX:=hide ((hx.below HB.out).more (B':=(w.alloc (.cells (c5 x).toArray 62)).heap.size) (by simp))
 have HF:=hide hx.ok
 by_cases h3:x.t.kind=3
 ·
  have e3:(x.t.kind == 3)=true:=beq_iff_eq.2 h3
  have HB2:=hide (HB.out.alloc (by simp) (.cells #[.int .i64 x.t.elem] 3))
  have hp:PartsF w x (.returned (.slice (some ⟨w.heap.size+1,0,none⟩) 1 1)) ((w.alloc (.cells (c5 x).toArray 62)).alloc (.cells #[.int .i64 x.t.elem] 3)):=by
   refine ⟨_,1,1,rfl,Nat.le_refl _,by decide,by rw [tyParts_ref h3];rfl,?_,HB2.out,fun b o e=>by injection e with e;injection e with e;omega⟩
   have h:=Rd_int1 (w.alloc (.cells (c5 x).toArray 62)) x.t.elem 3
   rw [tyParts_ref h3]
   rw [World.size_alloc] at h
   exact h.more (by simp)
  have HP:=hide hp
  clear hx h3 hp
  go_enter Tryz.func99,Tryz.ntmps99
  go_wp2
  go_ret
  exact HP.out
 ·
  have e3:(x.t.kind == 3)=false:=beq_eq_false_iff_ne.2 h3
  by_cases h4:x.t.kind=4
  ·
   have e4:(x.t.kind == 4)=true:=beq_iff_eq.2 h4
   have HP:Hid (PartsF w x (.returned (.slice x.A x.n x.c)) (w.alloc (.cells (c5 x).toArray 62))):=⟨_,_,_,rfl,HF.out.nc,HF.out.cm,by rw [tyParts_tup h4];exact HF.out.len,by rw [tyParts_tup h4];exact HX.out.rd,HB.out,fun _ _ e=>.inl ⟨e,rfl⟩⟩
   clear hx h3 h4
   go_enter Tryz.func99,Tryz.ntmps99
   go_wp2
   go_ret
   exact HP.out
  ·
   have e4:(x.t.kind == 4)=false:=beq_eq_false_iff_ne.2 h4
   have HP:Hid (PartsF w x (.returned (.slice none 0 0)) (w.alloc (.cells (c5 x).toArray 62))):=⟨_,_,_,rfl,Nat.le_refl _,Nat.zero_le _,by rw [tyParts_none h3 h4];rfl,by rw [tyParts_none h3 h4];exact Rd.nil _ _ _,HB.out,fun _ _ e=>by cases e⟩
   clear hx h3 h4
   go_enter Tryz.func99,Tryz.ntmps99
   go_wp2
   go_ret
   exact HP.out
def upTo (D:Int→Prop) (ps:List Int) (men:Int→Int→Prop) (j:Nat):Int→Prop:=fun r=>D r∨∃ p∈ps.take j,men p r
theorem upTo_zero (D:Int→Prop) (ps:List Int) (men:Int→Int→Prop):upTo D ps men 0=D:=by
 funext r;simp [upTo]
theorem upTo_succ (D:Int→Prop) {ps:List Int} (men:Int→Int→Prop) {j:Nat} {p:Int} (h:ps[j]?=some p):(fun r=>upTo D ps men j r∨men p r)=upTo D ps men (j+1):=by
 funext r
 unfold upTo
 rw [List.take_add_one,h]
 simp only [Option.toList_some,List.mem_append,List.mem_singleton,eq_iff_iff]
 constructor
 ·
  rintro ((h | ⟨q,hq,h⟩) | h)
  ·
   exact .inl h
  ·
   exact .inr ⟨q,.inl hq,h⟩
  ·
   exact .inr ⟨p,.inr rfl,h⟩
 ·
  rintro (g | ⟨q,hq | rfl,g⟩)
  ·
   exact .inl (.inl g)
  ·
   exact .inl (.inr ⟨q,hq,g⟩)
  ·
   exact .inr g
theorem upTo_all (D:Int→Prop) (ps:List Int) (men:Int→Int→Prop) {j:Nat} (h:ps.length≤j):upTo D ps men j=fun r=>D r∨∃ p∈ps,men p r:=by
 unfold upTo;rw [List.take_of_length_le h]
def maxTo (ps:List Int) (d:Int→Int) (j:Nat):Int:=((ps.take j).map d).foldl max 0
theorem maxTo_succ {ps:List Int} (d:Int→Int) {j:Nat} {p:Int} (h:ps[j]?=some p):maxTo ps d (j+1)=max (maxTo ps d j) (d p):=by
 unfold maxTo;rw [List.take_add_one,h];simp
theorem maxTo_bd {ps:List Int} {d:Int→Int} (hd:∀ p∈ps,0≤d p∧d p≤65535) (j:Nat):0≤maxTo ps d j∧maxTo ps d j≤65535:=by
 obtain ⟨h1,_,h3⟩:=foldMax_le ((ps.take j).map d) 0
 refine ⟨h1,?_⟩
 unfold maxTo
 rcases h3 with h3 | h3
 ·
  rw [h3];omega
 ·
  obtain ⟨p,hp,e⟩:=List.mem_map.1 h3
  rw [←e]
  exact (hd p (List.mem_of_mem_take hp)).2
def copV (t:Ty) (cp:Int→Bool):Bool:=if t.kind=3 then !t.mut_ else (tyParts t).all cp
section
variable (x:TyW) (K:FuncId) (caps:Array Value) (w:World) (hx:OneT w w.heap.size x) (S:Nat→Prop) (J:World→(Int→Prop)→Prop) (men:Int→Int→Prop) (D:Int→Prop)
  (hst:∀ w w' D,J w D→Below w.heap.size w w'→J w' D) (hJ:J w D) (hfar:0 < x.n→∀ b o,x.A=some ⟨b,o,none⟩→¬S b) (hS:∀ k,S k→k < w.heap.size)
include hx hst hJ hfar hS
theorem depthV (d:Int→Int) (hd:∀ p∈tyParts x.t,0≤d p∧d p≤65535) (V:Visits K caps (fun p=>.int .i64 (d p)) (tyParts x.t) w S J men) :
  Calls Tryz.prog 76 #[aggT x,.func (.func K) #[] caps] w fun e w'=>e=.returned (.int .i64 (((tyParts x.t).map d).foldl max 0+1))∧J w' (fun r=>D r∨∃ p∈tyParts x.t,men p r)∧Turn S w w':=by
 have HB:=hide ((Below.refl w.heap.size w).alloc (Nat.le_refl _) (.cells (c5 x).toArray 62))
 have HX:=hide ((hx.below HB.out).more (B':=(w.alloc (.cells (c5 x).toArray 62)).heap.size) (by simp))
 have HF:=hide hfar
 have HS:=hide hS
 have HJ:=hide hJ
 have HST:=hide hst
 have HD:=hide hd
 have HV:=hide V
 have hent:=V.enter
 clear hx hst hJ hfar hS hd V
 go_enter Tryz.func76,Tryz.ntmps76
 go_wp2_with fail
 refine (partsF_any _ _ HX.out).mono ?_
 rintro e w1 ⟨A1,n1,c1,rfl,h1,h2,h3,h4,h5,h6⟩
 have HL:=hide h3
 have HR:=hide h4
 have HB1:=hide (HB.out.trans (h5.mono HB.out.size))
 have HN:=hide (show 0 < n1→∀ b o,A1=some ⟨b,o,none⟩→¬S b from fun h0 b o e hs=>by
  rcases h6 b o e with ⟨h,hn⟩ | h
  ·
   exact HF.out (by omega) b o h hs
  ·
   have:=HS.out b hs
   simp at h
   omega)
 have hsz:=h5.size
 simp only [World.size_alloc] at hsz
 unfold maxLen at h2
 clear h3 h4 h5 h6
 go_wp2_with fail
 go_loopw [5,11] (fun v i wr=>∃ j:Nat,i=.int .i64 (j:Int)∧j≤n1∧v=.int .i64 (maxTo (tyParts x.t) d j)∧Hid (J wr (upTo D (tyParts x.t) men j))∧Turn S w1 wr) (fun _ i _=>n1 - (intOf i).toNat)
 case atStart=>exact ⟨0,rfl,Nat.zero_le _,rfl,by show J w1 _;rw [upTo_zero];exact HST.out _ _ _ HJ.out HB1.out,Turn.refl _ _⟩
 case round=>
  obtain ⟨j,rfl,hj,rfl,HJ1,ht⟩:=hrel
  have HT:=hide ht
  clear ht
  have hmb:=maxTo_bd HD.out j
  obtain ⟨hm0,hm1⟩:=hmb
  by_cases hlt:j < n1
  ·
   have hlt':(j:Int) < (n1:Int):=by omega
   have hex:∃ a,(tyParts x.t)[j]?=some a:=⟨_,List.getElem?_eq_getElem (by have:=HL.out;omega)⟩
   obtain ⟨p,hp⟩:=hex
   obtain ⟨b,o,rfl,hb,c0⟩:=(HR.out.turn HT.out (Nat.le_refl _) HN.out).int hp
   have HP:=hide hp
   have hdp:=HD.out p (List.mem_of_getElem? hp)
   have hms:=maxTo_succ d hp
   have HM:=hide hms
   have HV1:=hide (HV.out.call p (List.mem_of_getElem? hp) wr _ (((Turn.of_below HB1.out).trans HT.out)) HJ1.out)
   obtain ⟨hd0,hd1⟩:=hdp
   generalize d p=q at *
   generalize maxTo (tyParts x.t) d j=mm at *
   clear hp hms
   go_wp2_with fail
   refine HV1.out.mono ?_
   rintro e w2 ⟨rfl,hj2,ht2⟩
   have HJ2:Hid (J w2 (upTo D (tyParts x.t) men (j+1))):=by show J w2 _;rw [←upTo_succ D men HP.out];exact hj2
   have HT2:=hide (HT.out.trans ht2)
   clear hj2 ht2
   go_wp2_with fail
   go_roundw
   case rel=>exact ⟨j+1,by go_num,by omega,by rw [HM.out];first | rfl | go_num,HJ2.out,HT2.out⟩
   case measure=>simp [intOf];omega
  ·
   obtain rfl:j=n1:=by omega
   have HJ2:=HJ1.out
   rw [upTo_all _ _ _ (by rw [HL.out];exact Nat.le_refl _)] at HJ2
   have hmm:maxTo (tyParts x.t) d j=((tyParts x.t).map d).foldl max 0:=by unfold maxTo;rw [List.take_of_length_le (by rw [HL.out];exact Nat.le_refl _)]
   have HM:=hide hmm
   have HJ3:=hide HJ2
   generalize maxTo (tyParts x.t) d j=mm at *
   clear hmm HJ2
   go_wp2
   go_ret
   exact ⟨congrArg (fun z=>Ending.returned (.int .i64 (z+1))) HM.out,HJ3.out,(Turn.of_below HB1.out).trans HT.out⟩
theorem copyableV (cp:Int→Bool) (hmono:∀ w D D',J w D→(∀ r,D r→D' r)→J w D') (hk:x.t.kind≠3→tyParts x.t=x.t.fields) (V:x.t.kind≠3→Visits K caps (fun p=>.bool (cp p)) (tyParts x.t) w S J men) (hent:∀ (args:Array Value) (w:World),(callFunc K args).run Tryz.prog w=.ok (.enter K args) w) :
  Calls Tryz.prog 115 #[aggT x,.func (.func K) #[] caps] w fun e w'=>e=.returned (.bool (copV x.t cp))∧J w' (fun r=>D r∨∃ p∈tyParts x.t,men p r)∧Turn S w w':=by
 have HB:=hide ((Below.refl w.heap.size w).alloc (Nat.le_refl _) (.cells (c5 x).toArray 62))
 have HX:=hide ((hx.below HB.out).more (B':=(w.alloc (.cells (c5 x).toArray 62)).heap.size) (by simp))
 have HF:=hide hfar
 have HS:=hide hS
 have HJ:=hide hJ
 have HST:=hide hst
 have HMO:=hide hmono
 have HJB:=hide (hst _ _ _ hJ HB.out)
 by_cases h3:x.t.kind=3
 ·
  have e3:(x.t.kind == 3)=true:=beq_iff_eq.2 h3
  have HR:=hide (show copV x.t cp=!x.t.mut_ from if_pos h3)
  clear hx hst hJ hfar hS hmono hk V h3 hent
  go_enter Tryz.func115,Tryz.ntmps115
  go_wp2
  go_ret
  exact ⟨congrArg (fun b=>Ending.returned (.bool b)) HR.out.symm,HMO.out _ _ _ HJB.out (fun r h=>.inl h),Turn.of_below HB.out⟩
 ·
  have e3:(x.t.kind == 3)=false:=beq_eq_false_iff_ne.2 h3
  have HV:=hide (V h3)
  have hk':=hk h3
  have HK:=hide hk'
  have HL:=hide (show (tyParts x.t).length=x.n by rw [hk'];exact hx.ok.len)
  have HRD:=hide (show Rd (w.alloc (.cells (c5 x).toArray 62)) (w.alloc (.cells (c5 x).toArray 62)).heap.size x.A x.n (i64s (tyParts x.t)) by rw [hk'];exact HX.out.rd)
  have HR:=hide (show copV x.t cp=(tyParts x.t).all cp from if_neg h3)
  have hn:x.n≤maxLen:=Nat.le_trans hx.ok.nc hx.ok.cm
  unfold maxLen at hn
  clear hx hst hJ hfar hS hmono hk hk' V h3
  obtain ⟨t,A1,n1,c1⟩:=x
  simp only [] at hn HL HRD
  go_enter Tryz.func115,Tryz.ntmps115
  go_wp2
  go_loopw [16] (fun i wr=>∃ j:Nat,i=.int .i64 (j:Int)∧j≤n1∧Hid (((tyParts t).take j).all cp=true)∧Hid (J wr (upTo D (tyParts t) men j))∧Turn S (w.alloc (.cells (c5 ⟨t,A1,n1,c1⟩).toArray 62)) wr) (fun i _=>n1 - (intOf i).toNat)
  case atStart=>exact ⟨0,rfl,Nat.zero_le _,rfl,by show J _ _;rw [upTo_zero];exact HJB.out,Turn.refl _ _⟩
  case round=>
   obtain ⟨j,rfl,hj,HT,HJ1,ht⟩:=hrel
   have HTU:=hide ht
   clear ht
   by_cases hlt:j < n1
   ·
    have hlt':(j:Int) < (n1:Int):=by omega
    have hex:∃ a,(tyParts t)[j]?=some a:=⟨_,List.getElem?_eq_getElem (by have:=HL.out;omega)⟩
    obtain ⟨p,hp⟩:=hex
    obtain ⟨b,o,rfl,hb,c0⟩:=(HRD.out.turn HTU.out (Nat.le_refl _) HF.out).int hp
    have HP:=hide hp
    have HV1:=hide (HV.out.call p (List.mem_of_getElem? hp) wr _ (((Turn.of_below HB.out).trans HTU.out)) HJ1.out)
    cases hc:cp p
    ·
     have HC:=hide hc
     have HR2:=hide (show (tyParts t).all cp=false by
      cases h:(tyParts t).all cp
      ·
       rfl
      ·
       rw [List.all_eq_true.1 h p (List.mem_of_getElem? hp)] at hc;cases hc)
     clear hp hc
     go_wp2_with fail
     refine HV1.out.mono ?_
     rintro e w2 ⟨rfl,hj2,ht2⟩
     have HJ2:Hid (J w2 (upTo D (tyParts t) men (j+1))):=by show J w2 _;rw [←upTo_succ D men HP.out];exact hj2
     have HT2:=hide (HTU.out.trans ht2)
     clear hj2 ht2
     rw [HC.out]
     go_wp2_with fail
     go_ret
     refine ⟨congrArg (fun b=>Ending.returned (.bool b)) (HR.out.trans HR2.out).symm,HMO.out _ _ _ HJ2.out (fun r h=>?_),(Turn.of_below HB.out).trans HT2.out⟩
     rcases h with h | ⟨q,hq,h⟩
     ·
      exact .inl h
     ·
      exact .inr ⟨q,List.mem_of_mem_take hq,h⟩
    ·
     have HC:=hide hc
     have HA:=hide (show ((tyParts t).take (j+1)).all cp=true by
      rw [List.take_add_one,hp,List.all_append,HT.out];simp [hc])
     clear hp hc
     go_wp2_with fail
     refine HV1.out.mono ?_
     rintro e w2 ⟨rfl,hj2,ht2⟩
     have HJ2:Hid (J w2 (upTo D (tyParts t) men (j+1))):=by show J w2 _;rw [←upTo_succ D men HP.out];exact hj2
     have HT2:=hide (HTU.out.trans ht2)
     clear hj2 ht2
     rw [HC.out]
     go_wp2_with fail
     go_roundw
     case rel=>exact ⟨j+1,by go_num,by omega,HA.out,HJ2.out,HT2.out⟩
     case measure=>simp [intOf];omega
   ·
    obtain rfl:j=n1:=by omega
    have HJ2:=HJ1.out
    rw [upTo_all _ _ _ (by rw [HL.out];exact Nat.le_refl _)] at HJ2
    have HR2:=HT.out
    rw [List.take_of_length_le (by rw [HL.out];exact Nat.le_refl _)] at HR2
    have HR3:=hide HR2
    have HJ3:=hide HJ2
    clear HJ2 HR2
    go_wp2
    go_ret
    exact ⟨congrArg (fun b=>Ending.returned (.bool b)) (HR.out.trans HR3.out).symm,HJ3.out,(Turn.of_below HB.out).trans HTU.out⟩
end
theorem intK:Go.Maps.Keyed Tryz.prog 3:=Go.Maps.int_keyed Tryz.underlying3
theorem keyOf_i {r:Int} (h:IntR r):keyOf Tryz.prog 3 (.int .i64 r)=some (.int .i64 r):=Go.Maps.keyOf_int_mk Tryz.underlying3 (wf_i64 h)
theorem run_enter {P:Program} {f:FuncId} {fn:Func} {c:Code} (hf:P.funcs[f]?=some fn) (hname:(fn.name == "runtime.NumGoroutine")=false) (hb:fn.body=some c) (args:Array Value) (w:World):(callFunc f args).run P w=.ok (.enter f args) w:=by
 have h1:¬fn.name = "runtime.NumGoroutine":=by simpa using hname
 simp [callFunc,hf,h1,hb]
theorem wpList_look {P:Program} (w:World) {ops:Array Oper} {rest:List Oper} {o:Oper} {a:Act} {Q:Exit→Act→World→Prop} (hg:o.guard=none) (m x:Operand) (t:TypeId) (c:Bool) (hop:o.op=Op.lookup t m x c)
  (mv key v:Value) (hm:a.eval m=mv) (hx:a.eval x=key) (hrun:(Instr.lookup t mv key c).run P w=.ok v w) (hK:wpList P ops Q rest (a.put o.dst v) w):wpList P ops Q (o :: rest) a w:=by
 refine wpList_plain hg fun K' hK'=>?_
 unfold Oper.wp
 simp [execOp,hop,hm,hx,hrun,Result.andThen]
 exact hK' _ _ hK
theorem plainElem_bool_inv {H:Type} {P:Program} {e:TypeId} (he:P.underlying e=some .bool) {v:Value} {z:DataW H×List MemPlace} (h:plainElem P e v=some z):∃ a,v=.bool a∧z=(.lit (.bool a),[]):=by
 unfold plainElem at h
 rw [he] at h
 cases v <;> simp at h
 exact ⟨_,rfl,h.symm⟩
section
variable {H:Type} {P:Program} {k:TypeId} {R:Value→Option (DataW H×List MemPlace)} {w w':World} {b m:Nat} {D:DataW H}
theorem owns_block (h:w.ownsMap P k R b m D) (hb:w'.heap[b]?=w.heap[b]?):w'.ownsMap P k R b m D:=by
 obtain ⟨es,clock,h1,h2⟩:=h
 exact ⟨es,clock,hb.trans h1,h2⟩
theorem owns_lt (h:w.ownsMap P k R b m D):b < w.heap.size:=h.lt
def litInt:Lit→Int
 | .int _ x=>x
 | _=>0
theorem owns_few (K:Go.Maps.Keyed P k) (hk:P.underlying k=some (.int .i64)) (h:w.ownsMap P k R b m D) (qs:List Int) (hq:∀ q,(Lit.int .i64 q).wf=true→Maps.has D (.int .i64 q)=true→q∈qs):w.ownsMap P k R b qs.length D:=by
 obtain ⟨es,hD,hpw,_⟩:=h.entries K
 obtain ⟨es',hD',hko⟩:=h.keysOf
 obtain rfl:es=es':=by rw [hD] at hD';simpa using hD'
 subst hD
 have hx:∀ p∈es,∃ x:Int,p.1=.int .i64 x∧(Lit.int .i64 x).wf=true:=fun p hp=>by
  obtain ⟨v,hv⟩:=hko p hp
  obtain ⟨x,_,hx,hw⟩:=Maps.keyOf_int_inv hk hv
  exact ⟨x,hx,hw⟩
 have hnd:(es.map fun p=>litInt p.1).Nodup:=by
  refine List.pairwise_map.2 (hpw.imp_of_mem ?_)
  intro p q hp hq hne e
  obtain ⟨a,ha,_⟩:=hx p hp
  obtain ⟨c,hc,_⟩:=hx q hq
  rw [ha,hc] at e hne
  exact hne (congrArg (Lit.int .i64) e)
 have hlen:(es.map fun p=>litInt p.1).length≤qs.length:=by
  refine nodup_sub hnd ?_
  intro y hy
  obtain ⟨p,hp,e⟩:=List.mem_map.1 hy
  obtain ⟨a,ha,hw⟩:=hx p hp
  rw [ha] at e
  have e':a=y:=e
  subst e'
  refine hq a hw ?_
  rw [Maps.has_eq,List.any_eq_true]
  exact ⟨p,hp,by rw [ha];simp [Lit.sameKey]⟩
 obtain ⟨es',clock,h1,h2,_,h4⟩:=h
 refine ⟨es',clock,h1,h2,?_,h4⟩
 have e:=congrArg (fun d:DataW H=>match d with | .map l=>l.length | _=>0) h4
 simp only [Go.length_sorted,List.length_map,Array.length_toList] at e
 rw [List.length_map] at hlen
 omega
end
structure Ctx where
 b3:Nat
 b5:Nat
 b7:Nat
 b8:Nat
 bm:Nat
 A:Option Addr
 n:Nat
 c:Nat
 L:List TyW
 S:Nat→Prop
 KP:FuncId
 cp:Array Value
abbrev Ctx.self (C:Ctx) (K:FuncId):Value:=.func (.func K) #[] #[.pointer (some ⟨C.b7,0,none⟩),.pointer (some ⟨C.b3,0,none⟩),.pointer (some ⟨C.b5,0,none⟩),.pointer (some ⟨C.b8,0,none⟩)]
structure Ctx.fix (C:Ctx):Prop where
 n3:¬C.S C.b3
 n5:¬C.S C.b5
 n7:¬C.S C.b7
 n8:¬C.S C.b8
 sm:C.S C.bm
 fA:0 < C.n→∀ b o,C.A=some ⟨b,o,none⟩→¬C.S b
 fx:∀ x∈C.L,0 < x.n→∀ b o,x.A=some ⟨b,o,none⟩→¬C.S b
 nc:C.n≤C.c
 cm:C.c≤maxLen
 few:C.n≤65535
structure TyFr (C:Ctx) (K:FuncId) (w:World):Prop where
 c3:w.cell? ⟨C.b3,0,none⟩=some (.slice C.A C.n C.c)
 c5:w.cell? ⟨C.b5,0,none⟩=some (.func (.func C.KP) #[] C.cp)
 c7:w.cell? ⟨C.b7,0,none⟩=some (.map (some C.bm))
 c8:w.cell? ⟨C.b8,0,none⟩=some (C.self K)
 l3:C.b3 < w.heap.size
 l5:C.b5 < w.heap.size
 l7:C.b7 < w.heap.size
 l8:C.b8 < w.heap.size
 ls:∀ k,C.S k→k < w.heap.size
 ty:Typs w w.heap.size C.A C.n C.L
theorem Cells.turn {α:Type} {S:Nat→Prop} {w w':World} {B k:Nat} {f:α→List Value} {A:Option Addr} {n:Nat} {L:List α} (h:Cells w B k f A n L) (ht:Turn S w w') (hB:B≤w.heap.size) (hS:0 < n→∀ b o,A=some ⟨b,o,none⟩→¬S b):Cells w' B k f A n L:=
 ⟨h.1,fun hn=>by
  obtain ⟨b,o,h1,h2,h3⟩:=h.2 hn
  exact ⟨b,o,h1,h2,fun i x hx j u hu=>(ht.cell (p:=⟨b,o+i*k+j,none⟩) (by simp;omega) (hS hn b o h1)).trans (h3 i x hx j u hu)⟩⟩
theorem OneT.turn {S:Nat→Prop} {w w':World} {B:Nat} {x:TyW} (h:OneT w B x) (ht:Turn S w w') (hB:B≤w.heap.size) (hS:0 < x.n→∀ b o,x.A=some ⟨b,o,none⟩→¬S b):OneT w' B x:=⟨h.ok,h.rd.turn ht hB hS⟩
theorem TyFr.turn {C:Ctx} {K:FuncId} {w w':World} (h:TyFr C K w) (hf:C.fix) {S':Nat→Prop} (ht:Turn S' w w') (hs:∀ k,S' k→C.S k):TyFr C K w':=by
 have ht':=ht.weak hs
 exact ⟨(ht'.cell (p:=⟨C.b3,0,none⟩) h.l3 hf.n3).trans h.c3,(ht'.cell (p:=⟨C.b5,0,none⟩) h.l5 hf.n5).trans h.c5,(ht'.cell (p:=⟨C.b7,0,none⟩) h.l7 hf.n7).trans h.c7,(ht'.cell (p:=⟨C.b8,0,none⟩) h.l8 hf.n8).trans h.c8,
  Nat.lt_of_lt_of_le h.l3 ht.size,Nat.lt_of_lt_of_le h.l5 ht.size,Nat.lt_of_lt_of_le h.l7 ht.size,Nat.lt_of_lt_of_le h.l8 ht.size,fun k hk=>Nat.lt_of_lt_of_le (h.ls k hk) ht.size,
  ⟨(h.ty.cells.turn ht' (Nat.le_refl _) hf.fA).more ht.size,fun x hx=>((h.ty.one x hx).turn ht' (Nat.le_refl _) (hf.fx x hx)).more ht.size⟩⟩
structure PropC (C:Ctx) (ret:Int→Value) (men:Int→Int→Prop) (J:World→(Int→Prop)→Prop):Prop where
 enter:∀ (args:Array Value) (w:World),(callFunc C.KP args).run Tryz.prog w=.ok (.enter C.KP args) w
 call:∀ (i:Nat) (x:TyW),C.L[i]?=some x→∀ (w:World) (D:Int→Prop) (K:FuncId) (caps:Array Value),OneT w w.heap.size x→(∀ k,C.S k→k < w.heap.size)→J w D→Visits K caps ret (tyParts x.t) w C.S J men →
  Calls Tryz.prog C.KP (#[aggT x,.func (.func K) #[] caps]++C.cp) w fun e w'=>e=.returned (ret (i:Int))∧J w' (fun r=>D r∨men (i:Int) r)∧Turn C.S w w'
theorem depthAt (bx d n c:Nat) (p v:Int) (w:World) (hbx:w.cell? ⟨bx,0,none⟩=some (.slice (some ⟨d,0,none⟩) n c)) (h0:0≤p) (h1:p < (n:Int)) (hn:n≤65535) (hv:w.cell? ⟨d,p.toNat,none⟩=some (.int .i64 v)) :
  Calls Tryz.prog 77 #[.int .i64 p,.pointer (some ⟨bx,0,none⟩)] w fun e w'=>e=.returned (.int .i64 v)∧w=w':=by
 obtain ⟨q,rfl⟩:=Int.eq_ofNat_of_zero_le h0
 rw [Int.toNat_natCast] at hv
 go_enter Tryz.func77,Tryz.ntmps77
 go_wp2
 go_ret
 exact ⟨rfl,rfl⟩
theorem tyDpt_bd {ds:List Int} (h:∀ v∈ds,0≤v∧v≤65535) (p:Int):0≤ds.getD p.toNat 0∧ds.getD p.toNat 0≤65535:=by
 rw [List.getD_eq_getElem?_getD]
 cases hx:ds[p.toNat]? with
 | none=>exact ⟨Int.le_refl _,by decide⟩
 | some v=>exact h v (List.mem_of_getElem? hx)
theorem enterChk (args:Array Value) (w:World):(callFunc 77 args).run Tryz.prog w=.ok (.enter 77 args) w:=run_enter Tryz.func77 (by kernel_rfl) rfl args w
theorem depthC (x:TyW) (w:World) (hx:OneT w w.heap.size x) (bx d n c:Nat) (ds:List Int) (hbx:w.cell? ⟨bx,0,none⟩=some (.slice (some ⟨d,0,none⟩) n c)) (hds:∀ j v,ds[j]?=some v→w.cell? ⟨d,j,none⟩=some (.int .i64 v))
  (hlb:bx < w.heap.size) (hld:d < w.heap.size) (hp:∀ p∈tyParts x.t,0≤p∧p < (ds.length:Int)) (hn:ds.length≤n) (hn':n≤65535) (hbd:∀ v∈ds,0≤v∧v≤65535) :
  Calls Tryz.prog 76 #[aggT x,.func (.func 77) #[] #[.pointer (some ⟨bx,0,none⟩)]] w fun e w'=>e=.returned (.int .i64 (tyDpt ds x.t))∧Below w.heap.size w w':=by
 have V:Visits 77 #[.pointer (some ⟨bx,0,none⟩)] (fun p=>.int .i64 (ds.getD p.toNat 0)) (tyParts x.t) w (fun _=>False) (fun _ _=>True) (fun _ _=>False):=by
  refine ⟨enterChk,?_⟩
  intro p hpp w1 D ht _
  obtain ⟨h0,h1⟩:=hp p hpp
  have hex:∃ v,ds[p.toNat]?=some v:=⟨_,List.getElem?_eq_getElem (by omega)⟩
  obtain ⟨v,hv⟩:=hex
  have e:ds.getD p.toNat 0=v:=by rw [List.getD_eq_getElem?_getD,hv];rfl
  have hc:=depthAt bx d n c p v w1 ((ht.cell (p:=⟨bx,0,none⟩) hlb (fun h=>h)).trans hbx) h0 (by omega) hn' ((ht.cell (p:=⟨d,p.toNat,none⟩) hld (fun h=>h)).trans (hds _ _ hv))
  rw [e]
  have h2:Calls Tryz.prog 77 (#[.int .i64 p]++#[.pointer (some ⟨bx,0,none⟩)]) w1 fun e w'=>e=.returned (.int .i64 v)∧w1=w':=hc
  refine h2.mono ?_
  rintro e w2 ⟨rfl,rfl⟩
  exact ⟨rfl,trivial,Turn.refl _ _⟩
 have h:=depthV x 77 #[.pointer (some ⟨bx,0,none⟩)] w hx (fun _=>False) (fun _ _=>True) (fun _ _=>False) (fun _=>False) (fun _ _ _ _ _=>trivial) trivial (fun _ _ _ _ h=>h) (fun _ h=>h.elim) (fun p=>ds.getD p.toNat 0) (fun p _=>tyDpt_bd hbd p) V
 refine h.mono ?_
 rintro e w' ⟨rfl,_,ht⟩
 exact ⟨rfl,ht.below (Nat.le_refl _) fun k h=>h.elim⟩
theorem made_cell (w:World) (n:Nat) (t:TypeId) {j:Nat} (hj:j < n):(w.alloc (.cells (madeCells #[.int .i64 0] n) t)).cell? ⟨w.heap.size,j,none⟩=some (.int .i64 0):=by
 rw [cell_of_row (w.alloc (.cells (madeCells #[.int .i64 0] n) t)) w.heap.size j _ t (0,0) (heap_alloc_new w _),← Array.getElem?_toList,toList_madeCells_one]
 simp [hj]
end Go.Proofs.YtfgacmgjpikgaaaGreatDoor
