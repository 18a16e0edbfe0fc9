/- Part 2 of the contracts and their mathematics. -/
import Derived.Test.YteeemjmohjkdpaaGreatDoorQ0
import Derived.Test.YteeemjmohjkdpaaGreatDoorProg
import Derived.Laws.Rows
import Derived.Outline
import Derived.Deep.QuietTactic
import Derived.BigQuiet
import Derived.OpenShut
import Derived.ProofKit
import Derived.ShutString
import Derived.ChangeOld
import Derived.SizedLaws
import Derived.Deep.Slices
import Derived.Deep.Fields
import Derived.ChangeMaps5
set_option linter.unusedVariables false
set_option linter.unusedSimpArgs false
set_option maxRecDepth 100000
set_option maxHeartbeats 4000000
namespace Go.Proofs.YteeemjmohjkdpaaGreatDoor
open Go.RowKit
abbrev i64s (xs:List Int):List Value:=xs.map (Value.int .i64)
def IntR (x:Int):Prop:=-9223372036854775808≤x∧x≤9223372036854775807
theorem wf_i64 {x:Int} (h:IntR x):(Lit.int .i64 x).wf=true:=by
 simp [Lit.wf,IntKind.min,IntKind.max,IntKind.signed,IntKind.bits];exact h
theorem infoInt:(Tryz.prog.info? 3).map (fun i=>(i.zero,i.size,i.bytes))=some (some (.int .i64 0),1,8):=by kernel_rfl
structure TyW where
 t:Ty
 A:Option Addr
 n:Nat
 c:Nat
structure TyW.ok (x:TyW):Prop where
 nc:x.n≤x.c
 cm:x.c≤maxLen
 len:x.t.fields.length=x.n
 k:IntR x.t.kind
 r:IntR x.t.region
 e:IntR x.t.elem
 f:∀ y∈x.t.fields,IntR y
def c5 (x:TyW):List Value:=[.int .i64 x.t.kind,.bool x.t.mut_,.int .i64 x.t.region,.int .i64 x.t.elem,.slice x.A x.n x.c]
abbrev aggT (x:TyW):Value:=.agg #[.int .i64 x.t.kind,.bool x.t.mut_,.int .i64 x.t.region,.int .i64 x.t.elem,.slice x.A x.n x.c]
theorem c5_len (x:TyW):(c5 x).length=5:=rfl
theorem c5_one (x:TyW):∀ u∈c5 x,u.oneCell'=true:=by intro u hu;simp only [c5,List.mem_cons,List.not_mem_nil,or_false] at hu;rcases hu with rfl | rfl | rfl | rfl | rfl <;> rfl
structure OneT (w:World) (B:Nat) (x:TyW):Prop where
 ok:x.ok
 rd:Rd w B x.A x.n (i64s x.t.fields)
theorem OneT.below {w w':World} {B:Nat} {x:TyW} (h:OneT w B x) (hb:Below B w w'):OneT w' B x:=⟨h.ok,h.rd.below hb⟩
theorem OneT.more {w:World} {B B':Nat} {x:TyW} (h:OneT w B x) (hb:B≤B'):OneT w B' x:=⟨h.ok,h.rd.more hb⟩
structure Typs (w:World) (B:Nat) (A:Option Addr) (n:Nat) (L:List TyW):Prop where
 cells:Cells w B 5 c5 A n L
 one:∀ x∈L,OneT w B x
theorem Typs.below {w w':World} {B:Nat} {A:Option Addr} {n:Nat} {L:List TyW} (h:Typs w B A n L) (hb:Below B w w'):Typs w' B A n L:=⟨h.cells.below hb,fun x hx=>(h.one x hx).below hb⟩
theorem Typs.more {w:World} {B B':Nat} {A:Option Addr} {n:Nat} {L:List TyW} (h:Typs w B A n L) (hb:B≤B'):Typs w B' A n L:=⟨h.cells.more hb,fun x hx=>(h.one x hx).more hb⟩
theorem Typs.len {w:World} {B:Nat} {A:Option Addr} {n:Nat} {L:List TyW} (h:Typs w B A n L):L.length=n:=h.cells.1
theorem Typs.nil (w:World) (B:Nat) (A:Option Addr):Typs w B A 0 []:=⟨⟨rfl,fun h=>absurd h (by omega)⟩,fun x hx=>by cases hx⟩
theorem Typs.at_ {w:World} {B:Nat} {A:Option Addr} {n:Nat} {L:List TyW} (h:Typs w B A n L) {i:Nat} {x:TyW} (hx:L[i]?=some x) :
  ∃ b o,A=some ⟨b,o,none⟩∧b < B∧OneT w B x∧w.cell? ⟨b,o+i*5,none⟩=some (.int .i64 x.t.kind)∧w.cell? ⟨b,o+i*5+1,none⟩=some (.bool x.t.mut_) ∧
   w.cell? ⟨b,o+i*5+2,none⟩=some (.int .i64 x.t.region)∧w.cell? ⟨b,o+i*5+3,none⟩=some (.int .i64 x.t.elem)∧w.cell? ⟨b,o+i*5+4,none⟩=some (.slice x.A x.n x.c):=by
 obtain ⟨b,o,h1,h2,h3⟩:=h.cells.at_ hx
 exact ⟨b,o,h1,h2,h.one x (List.mem_of_getElem? hx),h3 0 _ rfl,h3 1 _ rfl,h3 2 _ rfl,h3 3 _ rfl,h3 4 _ rfl⟩
theorem Typs.take {w:World} {B:Nat} {A:Option Addr} {n:Nat} {L:List TyW} (h:Typs w B A n L) {k:Nat} (hk:k≤n):Typs w B A k (L.take k):=by
 have hl:=h.len
 refine ⟨⟨by rw [List.length_take];omega,fun h0=>?_⟩,fun x hx=>h.one x (List.mem_of_mem_take hx)⟩
 obtain ⟨b,o,h1,h2,h3⟩:=h.cells.2 (by omega)
 refine ⟨b,o,h1,h2,fun i x hx=>h3 i x ?_⟩
 rw [List.getElem?_take] at hx
 split at hx
 ·
  exact hx
 ·
  cases hx
abbrev tys (L:List TyW):List Ty:=L.map TyW.t
theorem tys_at {L:List TyW} {k:Nat} {x:TyW} (h:L[k]?=some x):(tys L)[k]?=some x.t:=by rw [List.getElem?_map,h];rfl
theorem tys_len (L:List TyW):(tys L).length=L.length:=List.length_map _
theorem tys_back {L:List TyW} {k:Nat} {t:Ty} (h:(tys L)[k]?=some t):∃ x,L[k]?=some x∧x.t=t:=by
 rw [List.getElem?_map] at h
 cases hx:L[k]? with
 | none=>rw [hx] at h;cases h
 | some x=>rw [hx] at h;exact ⟨x,rfl,by injection h⟩
theorem Rd.int {w:World} {B n:Nat} {A:Option Addr} {xs:List Int} (h:Rd w B A n (i64s xs)) {k:Nat} {x:Int} (hx:xs[k]?=some x):∃ b o,A=some ⟨b,o,none⟩∧b < B∧w.cell? ⟨b,o+k,none⟩=some (.int .i64 x):=
 h.cell (by rw [List.getElem?_map,hx];rfl)
theorem Rd.ilen {w:World} {B n:Nat} {A:Option Addr} {xs:List Int} (h:Rd w B A n (i64s xs)):xs.length=n:=by have:=h.len;simpa using this
theorem tyN {B:Nat} {w w':World} (h:Below B w w') (n:Nat):Below B w (w'.drewN n):=⟨h.os,h.tape,h.output,h.size,h.block⟩
def eqIs (xs ys:List Int):Bool:=decide (xs=ys)
theorem eqIs_iff {xs ys:List Int}:eqIs xs ys=true↔xs=ys:=by simp [eqIs]
def eqUpto (xs ys:List Int) (k:Nat):Prop:=∀ j,j < k→xs[j]?=ys[j]?
theorem EqI_any (A B:Option Addr) (n m c d:Nat) (xs ys:List Int) (w:World) (k l:Nat) (hx:Rd w k A n (i64s xs)) (hy:Rd w l B m (i64s ys)) (hn:n≤maxLen) (hm:m≤maxLen) :
  Calls Tryz.prog 13 #[.slice A n c,.slice B m d] w fun e w'=>e=.returned (.bool (eqIs xs ys))∧Below w.heap.size w w':=by
 have hxl:=hx.ilen
 have hyl:=hy.ilen
 have HX:=hide hx
 have HY:=hide hy
 have HXL:=hide hxl
 have HYL:=hide hyl
 unfold maxLen at hn hm
 clear hx hy
 by_cases hnm:n=m
 ·
  subst hnm
  clear hxl hyl
  go_enter Tryz.func13,Tryz.ntmps13
  go_wp2
  go_loopw [13] (fun i wr=>∃ j:Nat,i=.int .i64 (j:Int)∧j≤n∧Hid (eqUpto xs ys j)∧Below w.heap.size w wr∧(∀ p,wr.cell? p=w.cell? p)) (fun i _=>n - (intOf i).toNat)
  case atStart=>exact ⟨0,rfl,Nat.zero_le _,fun j h=>absurd h (by omega),Below.refl _ _,fun _=>rfl⟩
  case round=>
   obtain ⟨j,rfl,hj,HE,hb,hc⟩:=hrel
   have HB:=hide hb
   have HC:=hide hc
   clear hb hc
   by_cases hlt:j < n
   ·
    have hex:∃ a,xs[j]?=some a:=⟨_,List.getElem?_eq_getElem (by have:=HXL.out;omega)⟩
    obtain ⟨a,ha⟩:=hex
    have hex:∃ a,ys[j]?=some a:=⟨_,List.getElem?_eq_getElem (by have:=HYL.out;omega)⟩
    obtain ⟨b,hb⟩:=hex
    obtain ⟨g,o,rfl,_,c0⟩:=HX.out.int ha
    obtain ⟨g',o',rfl,_,c1⟩:=HY.out.int hb
    rw [←HC.out] at c0 c1
    have hlt':(j:Int) < (n:Int):=by omega
    have HA':=hide ha
    have HB':=hide hb
    clear ha hb
    by_cases hab:a=b
    ·
     subst hab
     have e1:((a:Int) != (a:Int))=false:=by simp
     have HE2:=hide (show eqUpto xs ys (j+1) from fun i hi=>by
      rcases Nat.lt_or_ge i j with h | h
      ·
       exact HE.out i h
      ·
       obtain rfl:i=j:=by omega
       rw [HA'.out,HB'.out])
     go_wp2
     go_quiet (fail)
     go_wp2
     go_roundw
     case rel=>exact ⟨j+1,by go_num,by omega,HE2.out,tyN HB.out _,HC.out⟩
     case measure=>simp [intOf];omega
    ·
     have e1:((a:Int) != (b:Int))=true:=by simp [hab]
     have HF:=hide (show eqIs xs ys=false by
      cases h:eqIs xs ys
      ·
       rfl
      ·
       rw [eqIs_iff] at h
       subst h
       have h1:=HA'.out
       rw [HB'.out] at h1
       injection h1 with h1
       exact absurd h1.symm hab)
     clear hab
     go_wp2
     go_quiet (fail)
     go_wp2
     go_ret
     exact ⟨congrArg (fun v=>Ending.returned (.bool v)) HF.out.symm,tyN HB.out _⟩
   ·
    obtain rfl:j=n:=by omega
    have HF:=hide (show eqIs xs ys=true by
     rw [eqIs_iff]
     refine List.ext_getElem? fun i=>?_
     rcases Nat.lt_or_ge i j with h | h
     ·
      exact HE.out i h
     ·
      rw [List.getElem?_eq_none (by have:=HXL.out;omega),List.getElem?_eq_none (by have:=HYL.out;omega)])
    go_wp2
    go_ret
    exact ⟨congrArg (fun v=>Ending.returned (.bool v)) HF.out.symm,HB.out⟩
 ·
  have e1:((n:Int) != (m:Int))=true:=by simp;omega
  have HF:=hide (show eqIs xs ys=false by
   cases h:eqIs xs ys
   ·
    rfl
   ·
    rw [eqIs_iff] at h
    subst h
    omega)
  clear hxl hyl
  go_enter Tryz.func13,Tryz.ntmps13
  go_wp2
  go_ret
  exact ⟨congrArg (fun v=>Ending.returned (.bool v)) HF.out.symm,Below.refl _ _⟩
def pV (p:Pr):List Value:=[.int .i64 p.1,.int .i64 p.2]
theorem pV_len (p:Pr):(pV p).length=2:=rfl
abbrev aggP (p:Pr):Value:=.agg #[.int .i64 p.1,.int .i64 p.2]
def IntP (p:Pr):Prop:=IntR p.1∧IntR p.2
structure Prs (w:World) (B:Nat) (A:Option Addr) (n:Nat) (L:List Pr):Prop where
 cells:Cells w B 2 pV A n L
 int:∀ p∈L,IntP p
theorem Prs.below {w w':World} {B:Nat} {A:Option Addr} {n:Nat} {L:List Pr} (h:Prs w B A n L) (hb:Below B w w'):Prs w' B A n L:=⟨h.cells.below hb,h.int⟩
theorem Prs.more {w:World} {B B':Nat} {A:Option Addr} {n:Nat} {L:List Pr} (h:Prs w B A n L) (hb:B≤B'):Prs w B' A n L:=⟨h.cells.more hb,h.int⟩
theorem Prs.len {w:World} {B:Nat} {A:Option Addr} {n:Nat} {L:List Pr} (h:Prs w B A n L):L.length=n:=h.cells.1
theorem Prs.at_ {w:World} {B:Nat} {A:Option Addr} {n:Nat} {L:List Pr} (h:Prs w B A n L) {i:Nat} {p:Pr} (hp:L[i]?=some p) :
  ∃ b o,A=some ⟨b,o,none⟩∧b < B∧IntP p∧w.cell? ⟨b,o+i*2,none⟩=some (.int .i64 p.1)∧w.cell? ⟨b,o+i*2+1,none⟩=some (.int .i64 p.2):=by
 obtain ⟨b,o,h1,h2,h3⟩:=h.cells.at_ hp
 exact ⟨b,o,h1,h2,h.int p (List.mem_of_getElem? hp),h3 0 _ rfl,h3 1 _ rfl⟩
theorem Prs.get {w:World} {B:Nat} {A:Option Addr} {n:Nat} {L:List Pr} (h:Prs w B A n L) {i:Nat} (hi:i < n):∃ p,L[i]?=some p:=⟨_,List.getElem?_eq_getElem (by have:=h.len;omega)⟩
structure LcW where
 name:ByteArray
 ty:Int
def cLc (x:LcW):List Value:=[.string x.name,.int .i64 x.ty]
theorem cLc_len (x:LcW):(cLc x).length=2:=rfl
structure Locs (w:World) (B:Nat) (A:Option Addr) (n:Nat) (L:List LcW):Prop where
 cells:Cells w B 2 cLc A n L
 int:∀ x∈L,IntR x.ty
theorem Locs.below {w w':World} {B:Nat} {A:Option Addr} {n:Nat} {L:List LcW} (h:Locs w B A n L) (hb:Below B w w'):Locs w' B A n L:=⟨h.cells.below hb,h.int⟩
theorem Locs.more {w:World} {B B':Nat} {A:Option Addr} {n:Nat} {L:List LcW} (h:Locs w B A n L) (hb:B≤B'):Locs w B' A n L:=⟨h.cells.more hb,h.int⟩
theorem Locs.len {w:World} {B:Nat} {A:Option Addr} {n:Nat} {L:List LcW} (h:Locs w B A n L):L.length=n:=h.cells.1
theorem Locs.at_ {w:World} {B:Nat} {A:Option Addr} {n:Nat} {L:List LcW} (h:Locs w B A n L) {i:Nat} {x:LcW} (hp:L[i]?=some x) :
 ∃ b o,A=some ⟨b,o,none⟩∧b < B∧w.cell? ⟨b,o+i*2,none⟩=some (.string x.name)∧w.cell? ⟨b,o+i*2+1,none⟩=some (.int .i64 x.ty):=by
 obtain ⟨b,o,h1,h2,h3⟩:=h.cells.at_ hp
 exact ⟨b,o,h1,h2,h3 0 _ rfl,h3 1 _ rfl⟩
abbrev lcs (L:List LcW):List Int:=L.map LcW.ty
theorem lcs_at {L:List LcW} {k:Nat} {x:LcW} (h:L[k]?=some x):(lcs L)[k]?=some x.ty:=by rw [List.getElem?_map,h];rfl
theorem lcs_len (L:List LcW):(lcs L).length=L.length:=List.length_map _
structure PlW where
 l:Int
 A:Option Addr
 n:Nat
 c:Nat
 ps:List Pr
abbrev aggPl (x:PlW):Value:=.agg #[.int .i64 x.l,.slice x.A x.n x.c]
structure OnePl (w:World) (B:Nat) (x:PlW):Prop where
 nc:x.n≤x.c
 cm:x.c≤maxLen
 l:IntR x.l
 prs:Prs w B x.A x.n x.ps
theorem OnePl.below {w w':World} {B:Nat} {x:PlW} (h:OnePl w B x) (hb:Below B w w'):OnePl w' B x:=⟨h.nc,h.cm,h.l,h.prs.below hb⟩
theorem OnePl.more {w:World} {B B':Nat} {x:PlW} (h:OnePl w B x) (hb:B≤B'):OnePl w B' x:=⟨h.nc,h.cm,h.l,h.prs.more hb⟩
theorem OnePl.up {w w':World} {x:PlW} (h:OnePl w w.heap.size x) (hb:Below w.heap.size w w'):OnePl w' w'.heap.size x:=(h.below hb).more hb.size
theorem Typs.up {w w':World} {A:Option Addr} {n:Nat} {L:List TyW} (h:Typs w w.heap.size A n L) (hb:Below w.heap.size w w'):Typs w' w'.heap.size A n L:=(h.below hb).more hb.size
theorem Locs.up {w w':World} {A:Option Addr} {n:Nat} {L:List LcW} (h:Locs w w.heap.size A n L) (hb:Below w.heap.size w w'):Locs w' w'.heap.size A n L:=(h.below hb).more hb.size
def PlW.take (x:PlW) (k:Nat):PlW:=⟨x.l,x.A,k,x.c,x.ps.take k⟩
theorem Prs.take {w:World} {B:Nat} {A:Option Addr} {n:Nat} {L:List Pr} (h:Prs w B A n L) {k:Nat} (hk:k≤n):Prs w B A k (L.take k):=by
 have hl:=h.len
 refine ⟨⟨by rw [List.length_take];omega,fun h0=>?_⟩,fun p hp=>h.int p (List.mem_of_mem_take hp)⟩
 obtain ⟨b,o,h1,h2,h3⟩:=h.cells.2 (by omega)
 refine ⟨b,o,h1,h2,fun i x hx=>h3 i x ?_⟩
 rw [List.getElem?_take] at hx
 split at hx
 ·
  exact hx
 ·
  cases hx
theorem OnePl.take {w:World} {B:Nat} {x:PlW} (h:OnePl w B x) {k:Nat} (hk:k≤x.n):OnePl w B (x.take k):=⟨Nat.le_trans hk h.nc,h.cm,h.l,h.prs.take hk⟩
structure SlW (α:Type) where
 A:Option Addr
 n:Nat
 c:Nat
 L:List α
abbrev SlW.val {α:Type} (s:SlW α):Value:=.slice s.A s.n s.c
structure SlH {α:Type} (w:World) (B:Nat) (k:Nat) (f:α→List Value) (Q:α→Prop) (s:SlW α):Prop where
 nc:s.n≤s.c
 cm:s.c≤maxLen
 cells:Cells w B k f s.A s.n s.L
 all:∀ x∈s.L,Q x
section
variable {α:Type} {w w':World} {B B' k:Nat} {f:α→List Value} {Q Q':α→Prop} {s:SlW α}
theorem SlH.below (h:SlH w B k f Q s) (hb:Below B w w') (hQ:∀ x,Q x→Q' x):SlH w' B k f Q' s:=⟨h.nc,h.cm,h.cells.below hb,fun x hx=>hQ x (h.all x hx)⟩
theorem SlH.more (h:SlH w B k f Q s) (hb:B≤B') (hQ:∀ x,Q x→Q' x):SlH w B' k f Q' s:=⟨h.nc,h.cm,h.cells.more hb,fun x hx=>hQ x (h.all x hx)⟩
theorem SlH.len (h:SlH w B k f Q s):s.L.length=s.n:=h.cells.1
theorem SlH.nm (h:SlH w B k f Q s):s.n≤maxLen:=Nat.le_trans h.nc h.cm
theorem SlH.get (h:SlH w B k f Q s) {i:Nat} (hi:i < s.n):∃ x,s.L[i]?=some x:=⟨_,List.getElem?_eq_getElem (by have:=h.len;omega)⟩
theorem SlH.at_ (h:SlH w B k f Q s) {i:Nat} {x:α} (hx:s.L[i]?=some x):∃ b o,s.A=some ⟨b,o,none⟩∧b < B∧Q x∧∀ j u,(f x)[j]?=some u→w.cell? ⟨b,o+i*k+j,none⟩=some u:=by
 obtain ⟨b,o,h1,h2,h3⟩:=h.cells.at_ hx
 exact ⟨b,o,h1,h2,h.all x (List.mem_of_getElem? hx),h3⟩
end
def cInt (x:Int):List Value:=[.int .i64 x]
def cStr (s:ByteArray):List Value:=[.string s]
abbrev Ints (w:World) (B:Nat) (s:SlW Int):Prop:=SlH w B 1 cInt IntR s
abbrev Strs (w:World) (B:Nat) (s:SlW ByteArray):Prop:=SlH w B 1 cStr (fun x=>x.size≤maxLen) s
theorem Ints.rd {w:World} {B:Nat} {s:SlW Int} (h:Ints w B s):Rd w B s.A s.n (i64s s.L):=by
 refine ⟨by rw [List.length_map];exact h.len,fun hn=>?_⟩
 obtain ⟨b,o,h1,h2,h3⟩:=h.cells.2 hn
 refine ⟨b,o,h1,h2,fun j u hu=>?_⟩
 rw [List.getElem?_map] at hu
 cases hx:s.L[j]? with
 | none=>rw [hx] at hu;cases hu
 | some x=>
  rw [hx] at hu
  injection hu with hu
  have:=h3 j x hx 0 (.int .i64 x) rfl
  rw [←hu]
  simpa using this
structure PlV where
 l:Int
 ps:List Pr
structure OpV where
 kind:Int
 pl:PlV
 n:Int
structure RvV where
 kind:Int
 op:Int
 region:Int
 mut_:Bool
 pl:PlV
 args:List OpV
structure StV where
 kind:Int
 pl:PlV
 rv:RvV
 loc:Int
structure TmV where
 kind:Int
 targets:List Int
 args:List OpV
 pl:PlV
 name:ByteArray
structure BkV where
 stmts:List StV
 term:TmV
structure LcV where
 name:ByteArray
 ty:Int
structure BdV where
 name:ByteArray
 regions:List ByteArray
 outl:List Pr
 types:List Ty
 locals:List LcV
 args:Int
 blocks:List BkV
structure OpW where
 kind:Int
 pl:PlW
 n:Int
structure RvW where
 kind:Int
 op:Int
 region:Int
 mut_:Bool
 pl:PlW
 args:SlW OpW
structure StW where
 kind:Int
 pl:PlW
 rv:RvW
 loc:Int
structure TmW where
 kind:Int
 targets:SlW Int
 args:SlW OpW
 pl:PlW
 name:ByteArray
structure BkW where
 stmts:SlW StW
 term:TmW
structure BdW where
 name:ByteArray
 regions:SlW ByteArray
 outl:SlW Pr
 types:SlW TyW
 locals:SlW LcW
 args:Int
 blocks:SlW BkW
def PlW.v (x:PlW):PlV:=⟨x.l,x.ps⟩
def OpW.v (x:OpW):OpV:=⟨x.kind,x.pl.v,x.n⟩
def RvW.v (x:RvW):RvV:=⟨x.kind,x.op,x.region,x.mut_,x.pl.v,x.args.L.map OpW.v⟩
def StW.v (x:StW):StV:=⟨x.kind,x.pl.v,x.rv.v,x.loc⟩
def TmW.v (x:TmW):TmV:=⟨x.kind,x.targets.L,x.args.L.map OpW.v,x.pl.v,x.name⟩
def BkW.v (x:BkW):BkV:=⟨x.stmts.L.map StW.v,x.term.v⟩
def LcW.v (x:LcW):LcV:=⟨x.name,x.ty⟩
def BdW.v (x:BdW):BdV:=⟨x.name,x.regions.L,x.outl.L,tys x.types.L,x.locals.L.map LcW.v,x.args,x.blocks.L.map BkW.v⟩
def cOp (x:OpW):List Value:=[.int .i64 x.kind,.int .i64 x.pl.l,.slice x.pl.A x.pl.n x.pl.c,.int .i64 x.n]
def cRv (x:RvW):List Value:=[.int .i64 x.kind,.int .i64 x.op,.int .i64 x.region,.bool x.mut_,.int .i64 x.pl.l,.slice x.pl.A x.pl.n x.pl.c,.slice x.args.A x.args.n x.args.c]
def cSt (x:StW):List Value:=[.int .i64 x.kind,.int .i64 x.pl.l,.slice x.pl.A x.pl.n x.pl.c,.int .i64 x.rv.kind,.int .i64 x.rv.op,.int .i64 x.rv.region,.bool x.rv.mut_,.int .i64 x.rv.pl.l,.slice x.rv.pl.A x.rv.pl.n x.rv.pl.c,.slice x.rv.args.A x.rv.args.n x.rv.args.c,.int .i64 x.loc]
def cTm (x:TmW):List Value:=[.int .i64 x.kind,.slice x.targets.A x.targets.n x.targets.c,.slice x.args.A x.args.n x.args.c,.int .i64 x.pl.l,.slice x.pl.A x.pl.n x.pl.c,.string x.name]
def cBk (x:BkW):List Value:=[.slice x.stmts.A x.stmts.n x.stmts.c,.int .i64 x.term.kind,.slice x.term.targets.A x.term.targets.n x.term.targets.c,.slice x.term.args.A x.term.args.n x.term.args.c,.int .i64 x.term.pl.l,.slice x.term.pl.A x.term.pl.n x.term.pl.c,.string x.term.name]
def cBd (x:BdW):List Value:=[.string x.name,.slice x.regions.A x.regions.n x.regions.c,.slice x.outl.A x.outl.n x.outl.c,.slice x.types.A x.types.n x.types.c,.slice x.locals.A x.locals.n x.locals.c,.int .i64 x.args,.slice x.blocks.A x.blocks.n x.blocks.c]
theorem cOp_len (x:OpW):(cOp x).length=4:=rfl
theorem cSt_len (x:StW):(cSt x).length=11:=rfl
theorem cBk_len (x:BkW):(cBk x).length=7:=rfl
theorem cBd_len (x:BdW):(cBd x).length=7:=rfl
theorem cInt_len (x:Int):(cInt x).length=1:=rfl
theorem cStr_len (x:ByteArray):(cStr x).length=1:=rfl
abbrev aggOp (x:OpW):Value:=.agg #[.int .i64 x.kind,.int .i64 x.pl.l,.slice x.pl.A x.pl.n x.pl.c,.int .i64 x.n]
abbrev aggRv (x:RvW):Value:=.agg #[.int .i64 x.kind,.int .i64 x.op,.int .i64 x.region,.bool x.mut_,.int .i64 x.pl.l,.slice x.pl.A x.pl.n x.pl.c,.slice x.args.A x.args.n x.args.c]
abbrev aggSt (x:StW):Value:=.agg #[.int .i64 x.kind,.int .i64 x.pl.l,.slice x.pl.A x.pl.n x.pl.c,.int .i64 x.rv.kind,.int .i64 x.rv.op,.int .i64 x.rv.region,.bool x.rv.mut_,.int .i64 x.rv.pl.l,.slice x.rv.pl.A x.rv.pl.n x.rv.pl.c,.slice x.rv.args.A x.rv.args.n x.rv.args.c,.int .i64 x.loc]
abbrev aggTm (x:TmW):Value:=.agg #[.int .i64 x.kind,.slice x.targets.A x.targets.n x.targets.c,.slice x.args.A x.args.n x.args.c,.int .i64 x.pl.l,.slice x.pl.A x.pl.n x.pl.c,.string x.name]
abbrev aggBk (x:BkW):Value:=.agg #[.slice x.stmts.A x.stmts.n x.stmts.c,.int .i64 x.term.kind,.slice x.term.targets.A x.term.targets.n x.term.targets.c,.slice x.term.args.A x.term.args.n x.term.args.c,.int .i64 x.term.pl.l,.slice x.term.pl.A x.term.pl.n x.term.pl.c,.string x.term.name]
abbrev aggBd (x:BdW):Value:=.agg #[.string x.name,.slice x.regions.A x.regions.n x.regions.c,.slice x.outl.A x.outl.n x.outl.c,.slice x.types.A x.types.n x.types.c,.slice x.locals.A x.locals.n x.locals.c,.int .i64 x.args,.slice x.blocks.A x.blocks.n x.blocks.c]
structure OneOp (w:World) (B:Nat) (x:OpW):Prop where
 kind:IntR x.kind
 pl:OnePl w B x.pl
 n:IntR x.n
abbrev Ops (w:World) (B:Nat) (s:SlW OpW):Prop:=SlH w B 4 cOp (OneOp w B) s
structure OneRv (w:World) (B:Nat) (x:RvW):Prop where
 kind:IntR x.kind
 op:IntR x.op
 region:IntR x.region
 pl:OnePl w B x.pl
 args:Ops w B x.args
structure OneSt (w:World) (B:Nat) (x:StW):Prop where
 kind:IntR x.kind
 pl:OnePl w B x.pl
 rv:OneRv w B x.rv
 loc:IntR x.loc
structure OneTm (w:World) (B:Nat) (x:TmW):Prop where
 kind:IntR x.kind
 targets:Ints w B x.targets
 args:Ops w B x.args
 pl:OnePl w B x.pl
 name:x.name.size≤maxLen
structure OneBk (w:World) (B:Nat) (x:BkW):Prop where
 stmts:SlH w B 11 cSt (OneSt w B) x.stmts
 term:OneTm w B x.term
structure OneBd (w:World) (B:Nat) (x:BdW):Prop where
 name:x.name.size≤maxLen
 regions:Strs w B x.regions
 outl:SlH w B 2 pV IntP x.outl
 types:SlH w B 5 c5 (OneT w B) x.types
 locals:SlH w B 2 cLc (fun y=>IntR y.ty∧y.name.size≤maxLen) x.locals
 args:IntR x.args
 blocks:SlH w B 7 cBk (OneBk w B) x.blocks
section
variable {w w':World} {B B':Nat} (hb:Below B w w')
include hb
theorem OneOp.below {x:OpW} (h:OneOp w B x):OneOp w' B x:=⟨h.kind,h.pl.below hb,h.n⟩
theorem Ops.below {s:SlW OpW} (h:Ops w B s):Ops w' B s:=SlH.below h hb fun _ h=>h.below hb
theorem OneRv.below {x:RvW} (h:OneRv w B x):OneRv w' B x:=⟨h.kind,h.op,h.region,h.pl.below hb,Ops.below hb h.args⟩
theorem OneSt.below {x:StW} (h:OneSt w B x):OneSt w' B x:=⟨h.kind,h.pl.below hb,h.rv.below hb,h.loc⟩
theorem OneTm.below {x:TmW} (h:OneTm w B x):OneTm w' B x:=⟨h.kind,SlH.below h.targets hb fun _ h=>h,Ops.below hb h.args,h.pl.below hb,h.name⟩
theorem OneBk.below {x:BkW} (h:OneBk w B x):OneBk w' B x:=⟨SlH.below h.stmts hb fun _ h=>h.below hb,h.term.below hb⟩
theorem OneBd.below {x:BdW} (h:OneBd w B x):OneBd w' B x:=⟨h.name,SlH.below h.regions hb fun _ h=>h,SlH.below h.outl hb fun _ h=>h,SlH.below h.types hb fun _ h=>OneT.below h hb,SlH.below h.locals hb fun _ h=>h,h.args,SlH.below h.blocks hb fun _ h=>h.below hb⟩
end
section
variable {w:World} {B B':Nat} (hb:B≤B')
include hb
theorem OneOp.more {x:OpW} (h:OneOp w B x):OneOp w B' x:=⟨h.kind,h.pl.more hb,h.n⟩
theorem Ops.more {s:SlW OpW} (h:Ops w B s):Ops w B' s:=SlH.more h hb fun _ h=>h.more hb
theorem OneRv.more {x:RvW} (h:OneRv w B x):OneRv w B' x:=⟨h.kind,h.op,h.region,h.pl.more hb,Ops.more hb h.args⟩
theorem OneSt.more {x:StW} (h:OneSt w B x):OneSt w B' x:=⟨h.kind,h.pl.more hb,h.rv.more hb,h.loc⟩
theorem OneTm.more {x:TmW} (h:OneTm w B x):OneTm w B' x:=⟨h.kind,SlH.more h.targets hb fun _ h=>h,Ops.more hb h.args,h.pl.more hb,h.name⟩
theorem OneBk.more {x:BkW} (h:OneBk w B x):OneBk w B' x:=⟨SlH.more h.stmts hb fun _ h=>h.more hb,h.term.more hb⟩
theorem OneBd.more {x:BdW} (h:OneBd w B x):OneBd w B' x:=⟨h.name,SlH.more h.regions hb fun _ h=>h,SlH.more h.outl hb fun _ h=>h,SlH.more h.types hb fun _ h=>OneT.more h hb,SlH.more h.locals hb fun _ h=>h,h.args,SlH.more h.blocks hb fun _ h=>h.more hb⟩
end
theorem OneBd.up {w w':World} {x:BdW} (h:OneBd w w.heap.size x) (hb:Below w.heap.size w w'):OneBd w' w'.heap.size x:=(h.below hb).more hb.size
theorem OneBk.up {w w':World} {x:BkW} (h:OneBk w w.heap.size x) (hb:Below w.heap.size w w'):OneBk w' w'.heap.size x:=(h.below hb).more hb.size
theorem OneTm.up {w w':World} {x:TmW} (h:OneTm w w.heap.size x) (hb:Below w.heap.size w w'):OneTm w' w'.heap.size x:=(h.below hb).more hb.size
theorem OneSt.up {w w':World} {x:StW} (h:OneSt w w.heap.size x) (hb:Below w.heap.size w w'):OneSt w' w'.heap.size x:=(h.below hb).more hb.size
theorem OneRv.up {w w':World} {x:RvW} (h:OneRv w w.heap.size x) (hb:Below w.heap.size w w'):OneRv w' w'.heap.size x:=(h.below hb).more hb.size
theorem OneOp.up {w w':World} {x:OpW} (h:OneOp w w.heap.size x) (hb:Below w.heap.size w w'):OneOp w' w'.heap.size x:=(h.below hb).more hb.size
theorem Ops.up {w w':World} {s:SlW OpW} (h:Ops w w.heap.size s) (hb:Below w.heap.size w w'):Ops w' w'.heap.size s:=Ops.more hb.size (Ops.below hb h)
theorem OneBd.typs {w:World} {B:Nat} {x:BdW} (h:OneBd w B x):Typs w B x.types.A x.types.n x.types.L:=⟨h.types.cells,h.types.all⟩
theorem OneBd.locs {w:World} {B:Nat} {x:BdW} (h:OneBd w B x):Locs w B x.locals.A x.locals.n x.locals.L:=⟨h.locals.cells,fun y hy=>(h.locals.all y hy).1⟩
theorem OneBd.prs {w:World} {B:Nat} {x:BdW} (h:OneBd w B x):Prs w B x.outl.A x.outl.n x.outl.L:=⟨h.outl.cells,h.outl.all⟩
section
variable {α:Type}
def sumN (f:α→Nat) (l:List α):Nat:=(l.map f).sum
theorem sumN_nil (f:α→Nat):sumN f []=0:=rfl
theorem sumN_cons (f:α→Nat) (x:α) (l:List α):sumN f (x :: l)=f x+sumN f l:=by simp [sumN]
theorem sumN_append (f:α→Nat) (l m:List α):sumN f (l++m)=sumN f l+sumN f m:=by simp [sumN]
theorem sumN_up {f:α→Nat} {l:List α} {j:Nat} {p:α} (h:l[j]?=some p):sumN f (l.take (j+1))=sumN f (l.take j)+f p:=by
 rw [List.take_add_one,h,sumN_append]
 simp [sumN]
theorem sumN_all (f:α→Nat) {l:List α} {n:Nat} (h:l.length=n):sumN f (l.take n)=sumN f l:=by rw [List.take_of_length_le (by omega)]
theorem sumN_one {f:α→Nat} {l:List α} {p:α} (h:p∈l):f p≤sumN f l:=by
 induction l with
 | nil=>cases h
 | cons x l ih=>
  rw [sumN_cons]
  rcases List.mem_cons.1 h with rfl | h
  ·
   omega
  ·
   have:=ih h
   omega
end
theorem wrapI9 (n:Int) (h0:-9223372036854775808≤n) (h1:n≤9223372036854775807):IntKind.i64.wrap n=n:=by
 simp [IntKind.wrap,IntKind.bits,IntKind.signed]
 omega
def bd1 (w:World) (x:BdW):World:=w.alloc (.cells #[.string x.name,.slice x.regions.A x.regions.n x.regions.c,.slice x.outl.A x.outl.n x.outl.c,.slice x.types.A x.types.n x.types.c,.slice x.locals.A x.locals.n x.locals.c,.int .i64 x.args,.slice x.blocks.A x.blocks.n x.blocks.c] 28)
theorem bd1_size (w:World) (x:BdW):(bd1 w x).heap.size=w.heap.size+1:=by simp [bd1]
theorem bd1_below (w:World) (x:BdW):Below w.heap.size w (bd1 w x):=(Below.refl _ w).alloc (Nat.le_refl _) _
theorem bd1_cells {w w':World} {x:BdW} (h:Below (bd1 w x).heap.size (bd1 w x) w'):∀ j u,(cBd x)[j]?=some u→w'.cell? ⟨w.heap.size,j,none⟩=some u:=by
 have hs:=bd1_size w x
 intro j u hu
 refine (h.cell (show w.heap.size < (bd1 w x).heap.size by omega)).trans ?_
 unfold bd1
 simp only [cBd] at hu
 rw [←hu]
 rcases j with _ | _ | _ | _ | _ | _ | _ | j <;> simp [go_sem]
def bk1 (w:World) (x:BkW):World:=w.alloc (.cells #[.slice x.stmts.A x.stmts.n x.stmts.c,.int .i64 x.term.kind,.slice x.term.targets.A x.term.targets.n x.term.targets.c,.slice x.term.args.A x.term.args.n x.term.args.c,.int .i64 x.term.pl.l,.slice x.term.pl.A x.term.pl.n x.term.pl.c,.string x.term.name] 62)
theorem bk1_size (w:World) (x:BkW):(bk1 w x).heap.size=w.heap.size+1:=by simp [bk1]
theorem bk1_below (w:World) (x:BkW):Below w.heap.size w (bk1 w x):=(Below.refl _ w).alloc (Nat.le_refl _) _
theorem bk1_cells {w w':World} {x:BkW} (h:Below (bk1 w x).heap.size (bk1 w x) w'):∀ j u,(cBk x)[j]?=some u→w'.cell? ⟨w.heap.size,j,none⟩=some u:=by
 have hs:=bk1_size w x
 intro j u hu
 refine (h.cell (show w.heap.size < (bk1 w x).heap.size by omega)).trans ?_
 unfold bk1
 simp only [cBk] at hu
 rw [←hu]
 rcases j with _ | _ | _ | _ | _ | _ | _ | j <;> simp [go_sem]
theorem sumN_min {α:Type} {f:α→Nat} {l:List α} {k:Nat} (h:sumN (fun x=>min (f x) k) l < k):sumN f l=sumN (fun x=>min (f x) k) l:=by
 induction l with
 | nil=>rfl
 | cons x l ih=>
  rw [sumN_cons,sumN_cons] at *
  have h1:min (f x) k=f x:=by omega
  rw [ih (by omega),h1]
def LOpsOut (w:World) (s:SlW OpW) (e:Ending) (w':World):Prop:=∃ r:Nat,e=.returned (.int .i64 (r:Int))∧r≤18000∧(r≤3000→s.n+sumN (fun o=>o.pl.n) s.L=r)∧Below w.heap.size w w'
theorem BodWz0 {P:Prop} (h:P:=by
 have t1:IntKind.i64.wrap ((m:Int)+(pn:Int))=(m:Int)+(pn:Int):=wrapI9 _ (by omega) (by omega)
 by_cases h0:9000 < m+pn
 ·
  have hg2:(9000:Int) < (m:Int)+(pn:Int):=by omega
  clear c0 h1 hu hp
  go_wp2
  go_ret
  exact ⟨m+pn,congrArg (fun z:Int=>Ending.returned (.int .i64 z)) (by omega),by omega,fun h=>absurd h (by omega),HB2.out⟩
 ·
  have hg2:¬(9000:Int) < (m:Int)+(pn:Int):=by omega
  clear c0 h1 hu hp
  go_wp2
  go_roundw
  case rel=>exact ⟨j+1,m+pn,by go_num,congrArg (fun z:Int=>Value.int .i64 z) (by omega),by omega,by omega,HM2,HB2⟩
  case measure=>simp [intOf];omega):P:=h
theorem BodWz1 {P:Prop} (h:P:=by
 have hg2:(9000:Int) < (m:Int)+9000:=by omega
 clear c0 h1 hu hp
 go_wp2
 go_ret
 exact ⟨m+9000,congrArg (fun z:Int=>Ending.returned (.int .i64 z)) (by omega),by omega,fun h=>absurd h (by omega),HB2.out⟩):P:=h
theorem LOperands_any (s:SlW OpW) (w:World) (hs:Ops w w.heap.size s) :
 Calls Tryz.prog 77 #[s.val] w (LOpsOut w s):=by
 have HX:=hide hs
 have HL:=hide hs.len
 have hn:=hs.nm
 have hnc:=hs.nc
 clear hs
 obtain ⟨A,n,c,xs⟩:=s
 simp only [] at hn hnc
 unfold maxLen at hn
 show Calls Tryz.prog 77 #[.slice A n c] w _
 by_cases h9:9000 < n
 ·
  have hi1:(9000:Int) < (n:Int):=by omega
  have hi2:(9000:Int)≤(n:Int):=by omega
  have hi3:¬(n:Int)≤9000:=by omega
  have hi4:¬(n:Int) < 9000:=by omega
  have hc1:(9000:Int)≤(c:Int):=by omega
  have hc2:9000≤c:=by omega
  go_enter Tryz.func77,Tryz.ntmps77
  go_wp2
  go_loopw [3,13] (fun v i wr=>∃ j m:Nat,i=.int .i64 (j:Int)∧v=.int .i64 (m:Int)∧j≤9000∧m≤9000∧Hid (m=9000+sumN (fun o=>min o.pl.n 9000) (xs.take j))∧Hid (Below w.heap.size w wr)) (fun _ i _=>9000 - (intOf i).toNat)
  case atStart=>exact ⟨0,9000,rfl,rfl,Nat.zero_le _,by omega,hide (by simp [sumN]),hide (Below.refl _ _)⟩
  case round=>
   obtain ⟨j,m,rfl,rfl,hj,hm,HM,HB⟩:=hrel
   have hsz:=HB.out.size
   by_cases hlt:j < 9000
   ·
    obtain ⟨p,hp⟩:=HX.out.get (show j < n by omega)
    obtain ⟨g,o,hA,hg,h1,c0⟩:=HX.out.at_ hp
    simp only [] at hA
    subst hA
    obtain ⟨k,⟨l,pA,pn,pc,ps⟩,z⟩:=p
    have hlt':(j:Int) < (9000:Int):=by omega
    have hltn:(j:Int) < (n:Int):=by omega
    have c1:=(HB.out.cell hg).trans (c0 0 _ rfl)
    have c2:=(HB.out.cell hg).trans (c0 1 _ rfl)
    have c3:=(HB.out.cell hg).trans (c0 2 _ rfl)
    have c4:=(HB.out.cell hg).trans (c0 3 _ rfl)
    simp only [Nat.add_zero] at c1 c2 c3 c4
    have hpn:pn≤9223372036854775807:=Nat.le_trans h1.pl.nc h1.pl.cm
    have hu:=sumN_up (f:=fun o:OpW=>min o.pl.n 9000) hp
    simp only [] at hu
    have HB2:=hide (HB.out.alloc hsz (.cells #[.int .i64 k,.int .i64 l,.slice pA pn pc,.int .i64 z] 69))
    by_cases hb:9000 < pn
    ·
     have hb1:(9000:Int) < (pn:Int):=by omega
     have hb2:(9000:Int)≤(pn:Int):=by omega
     have hb3:¬(pn:Int)≤9000:=by omega
     have HM2:=hide (show m+9000=9000+sumN (fun o=>min o.pl.n 9000) (xs.take (j+1)) by rw [hu,HM.out,Nat.min_eq_right (Nat.le_of_lt hb),Nat.add_assoc])
     have t1:IntKind.i64.wrap ((m:Int)+9000)=(m:Int)+9000:=wrapI9 _ (by omega) (by omega)
     by_cases h0:0 < m
     ·
      exact BodWz1
     ·
      have hm0:m=0:=by omega
      have:9000≤m:=by rw [HM.out];omega
      omega
    ·
     have hb1:¬(9000:Int) < (pn:Int):=by omega
     have hb2:(pn:Int)≤9000:=by omega
     have HM2:=hide (show m+pn=9000+sumN (fun o=>min o.pl.n 9000) (xs.take (j+1)) by rw [hu,HM.out,Nat.min_eq_left (by omega),Nat.add_assoc])
     exact BodWz0
   ·
    have hjn:9000=j:=by omega
    have hge:¬(j:Int) < (9000:Int):=by omega
    have HF:=hide (show m≤3000→n+sumN (fun o:OpW=>o.pl.n) xs=m from fun h=>by
     have h1:=HM.out
     omega)
    clear hjn
    go_wp2
    go_ret
    exact ⟨m,rfl,by omega,HF.out,HB.out⟩
 ·
  have hi1:¬(9000:Int) < (n:Int):=by omega
  have hi2:(n:Int)≤9000:=by omega
  have hc1:(n:Int)≤(c:Int):=by omega
  go_enter Tryz.func77,Tryz.ntmps77
  go_wp2
  go_loopw [3,13] (fun v i wr=>∃ j m:Nat,i=.int .i64 (j:Int)∧v=.int .i64 (m:Int)∧j≤n∧m≤9000∧Hid (m=n+sumN (fun o=>min o.pl.n 9000) (xs.take j))∧Hid (Below w.heap.size w wr)) (fun _ i _=>n - (intOf i).toNat)
  case atStart=>exact ⟨0,n,rfl,rfl,Nat.zero_le _,by omega,hide (by simp [sumN]),hide (Below.refl _ _)⟩
  case round=>
   obtain ⟨j,m,rfl,rfl,hj,hm,HM,HB⟩:=hrel
   have hsz:=HB.out.size
   by_cases hlt:j < n
   ·
    obtain ⟨p,hp⟩:=HX.out.get (show j < n by omega)
    obtain ⟨g,o,hA,hg,h1,c0⟩:=HX.out.at_ hp
    simp only [] at hA
    subst hA
    obtain ⟨k,⟨l,pA,pn,pc,ps⟩,z⟩:=p
    have hlt':(j:Int) < (n:Int):=by omega
    have hltn:(j:Int) < (n:Int):=by omega
    have c1:=(HB.out.cell hg).trans (c0 0 _ rfl)
    have c2:=(HB.out.cell hg).trans (c0 1 _ rfl)
    have c3:=(HB.out.cell hg).trans (c0 2 _ rfl)
    have c4:=(HB.out.cell hg).trans (c0 3 _ rfl)
    simp only [Nat.add_zero] at c1 c2 c3 c4
    have hpn:pn≤9223372036854775807:=Nat.le_trans h1.pl.nc h1.pl.cm
    have hu:=sumN_up (f:=fun o:OpW=>min o.pl.n 9000) hp
    simp only [] at hu
    have HB2:=hide (HB.out.alloc hsz (.cells #[.int .i64 k,.int .i64 l,.slice pA pn pc,.int .i64 z] 69))
    by_cases hb:9000 < pn
    ·
     have hb1:(9000:Int) < (pn:Int):=by omega
     have hb2:(9000:Int)≤(pn:Int):=by omega
     have hb3:¬(pn:Int)≤9000:=by omega
     have HM2:=hide (show m+9000=n+sumN (fun o=>min o.pl.n 9000) (xs.take (j+1)) by rw [hu,HM.out,Nat.min_eq_right (Nat.le_of_lt hb),Nat.add_assoc])
     have t1:IntKind.i64.wrap ((m:Int)+9000)=(m:Int)+9000:=wrapI9 _ (by omega) (by omega)
     by_cases h0:0 < m
     ·
      exact BodWz1
     ·
      have hm0:m=0:=by omega
      have:n≤m:=by rw [HM.out];omega
      omega
    ·
     have hb1:¬(9000:Int) < (pn:Int):=by omega
     have hb2:(pn:Int)≤9000:=by omega
     have HM2:=hide (show m+pn=n+sumN (fun o=>min o.pl.n 9000) (xs.take (j+1)) by rw [hu,HM.out,Nat.min_eq_left (by omega),Nat.add_assoc])
     exact BodWz0
   ·
    have hjn:n=j:=by omega
    have hge:¬(j:Int) < (n:Int):=by omega
    have HF:=hide (show m≤3000→n+sumN (fun o:OpW=>o.pl.n) xs=m from fun h=>by
     have h1:=HM.out
     rw [←hjn,sumN_all _ HL.out] at h1
     rw [sumN_min (f:=fun o:OpW=>o.pl.n) (k:=9000) (by omega),h1])
    clear hjn
    go_wp2
    go_ret
    exact ⟨m,rfl,by omega,HF.out,HB.out⟩
end Go.Proofs.YteeemjmohjkdpaaGreatDoor
namespace Go.Proofs.YteeemjmohjkdpaaGreatDoor
open Go.ChangeShapes Go.WideShapes Go.ChangeAt Go.RowKit
theorem cellLt {w:World} {a:Addr} {v:Value} (h:w.cell? a=some v):a.block < w.heap.size:=by
 rcases Nat.lt_or_ge a.block w.heap.size with h' | h'
 ·
  exact h'
 ·
  unfold World.cell? at h
  rw [Array.getElem?_eq_none h'] at h
  simp at h
end Go.Proofs.YteeemjmohjkdpaaGreatDoor
namespace Go.Proofs.YteeemjmohjkdpaaGreatDoor
open Go.ChangeShapes Go.WideShapes Go.ChangeAt Go.RowKit
theorem listL_of {α:Type} {Q:Nat→α→Prop}:∀ n:Nat,(∀ i,i < n→∃ a,Q i a)→∃ L:List α,L.length=n∧∀ i a,L[i]?=some a→Q i a
 | 0,_=>⟨[],rfl,fun i a h=>by simp at h⟩
 | n+1,h=>by
  obtain ⟨L,hl,hq⟩:=listL_of n fun i hi=>h i (by omega)
  obtain ⟨a,ha⟩:=h n (by omega)
  refine ⟨L++[a],by simp [hl],fun i b hb=>?_⟩
  rcases Nat.lt_or_ge i L.length with hi | hi
  ·
   rw [List.getElem?_append_left hi] at hb
   exact hq i b hb
  ·
   rw [List.getElem?_append_right hi] at hb
   have hi0:i - L.length=0:=by
    rcases Nat.eq_zero_or_pos (i - L.length) with h0 | h0
    ·
     exact h0
    ·
     rw [List.getElem?_eq_none (by simp;omega)] at hb;cases hb
   rw [hi0] at hb
   simp at hb
   subst hb
   rw [show i=n by omega]
   exact ha
theorem rngL {x:Int} (h:(Lit.int .i64 x).wf=true):IntR x:=by simpa [IntR,Lit.wf,IntKind.min,IntKind.max,IntKind.signed,IntKind.bits] using h
theorem trodFields {H:Type} {enc:TypeId×Value→H} {P:Program} {W:World} {e:TypeId} {fs:Array Field} {fuel:Nat} {cs:List Value} {z:DataW H×List MemPlace} (he:P.underlying e=some (.struct fs)) (hone:Go.Deep.oneCellFields P fs=true) (hl:cs.length=fs.size)
  (h:DataW.trod enc P W 0 (fun _=>true) true fuel e cs=some z):∃ k,∀ (j:Nat) (f:Field),fs[j]?=some f→∃ u y,cs[j]?=some u∧DataW.trod enc P W 0 (fun _=>true) true k f.type [u]=some y:=by
 obtain ⟨ys,k,_,_,_,hyl,hfld⟩:=DataW.trod_struct he h
 refine ⟨k,fun j f hj=>?_⟩
 obtain ⟨ho,hc1⟩:=Go.Deep.hone_of hone j f hj
 have hb:=hfld j f hj
 have hjl:j < cs.length:=by rw [hl];exact (Array.getElem?_eq_some_iff.1 hj).1
 rw [ho,hc1,Go.Deep.take1_drop cs j (.int .i64 0) hjl] at hb
 refine ⟨cs.getD j (.int .i64 0),ys[j]'(by rw [hyl];rw [←hl];exact hjl),by simp [List.getD_eq_getElem?_getD,List.getElem?_eq_getElem hjl],?_⟩
 rw [hb]
 exact List.getElem?_eq_getElem _
theorem two_fields {H:Type} {enc:TypeId×Value→H} {P:Program} {W:World} {e:TypeId} {f0 f1:Field} {fuel:Nat} {cs:List Value} {z:DataW H×List MemPlace} (he:P.underlying e=some (.struct #[f0,f1])) (hone:Go.Deep.oneCellFields P #[f0,f1]=true)
  (h0:P.underlying f0.type=some (.int .i64)) (h1:P.underlying f1.type=some (.int .i64)) (hl:cs.length=2) (h:DataW.trod enc P W 0 (fun _=>true) true fuel e cs=some z):∃ p:Pr,cs=pV p∧IntP p:=by
 obtain ⟨k,hk⟩:=trodFields he hone (by rw [hl];rfl) h
 match cs,hl with
 | [u0,u1],_=>
  obtain ⟨v0,y0,e0,r0⟩:=hk 0 f0 rfl
  obtain ⟨v1,y1,e1,r1⟩:=hk 1 f1 rfl
  injection e0 with e0
  injection e1 with e1
  subst e0 e1
  obtain ⟨k0,q0,_,w0⟩:=DataW.trod_int h0 r0
  obtain ⟨k1,q1,_,w1⟩:=DataW.trod_int h1 r1
  injection q0 with q0
  injection q1 with q1
  subst q0 q1
  exact ⟨(k0,k1),rfl,rngL w0,rngL w1⟩
end Go.Proofs.YteeemjmohjkdpaaGreatDoor
