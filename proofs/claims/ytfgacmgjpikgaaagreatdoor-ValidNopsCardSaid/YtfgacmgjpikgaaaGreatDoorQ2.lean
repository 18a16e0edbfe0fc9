/- Part 3 of the contracts and their mathematics. -/
import Derived.Test.YtfgacmgjpikgaaaGreatDoorQ1
import Derived.OpenShut
import Derived.ProofKit
import Derived.ShutString
import Derived.ChangeOld
import Derived.SizedLaws
import Derived.Deep.Slices
import Derived.Deep.Fields
import Derived.ChangeMaps5
set_option linter.unusedVariables false
set_option linter.unusedSimpArgs false
set_option maxRecDepth 100000
set_option maxHeartbeats 4000000
namespace Go.Proofs.YtfgacmgjpikgaaaGreatDoor
open Go.RowKit
structure SlW (α:Type) where
 A:Option Addr
 n:Nat
 c:Nat
 L:List α
abbrev SlW.val {α:Type} (s:SlW α):Value:=.slice s.A s.n s.c
structure SlH {α:Type} (w:World) (B:Nat) (k:Nat) (f:α→List Value) (Q:α→Prop) (s:SlW α):Prop where
 nc:s.n≤s.c
 cm:s.c≤maxLen
 cells:Cells w B k f s.A s.n s.L
 all:∀ x∈s.L,Q x
section
variable {α:Type} {w w':World} {B B' k:Nat} {f:α→List Value} {Q Q':α→Prop} {s:SlW α}
theorem SlH.below (h:SlH w B k f Q s) (hb:Below B w w') (hQ:∀ x,Q x→Q' x):SlH w' B k f Q' s:=⟨h.nc,h.cm,h.cells.below hb,fun x hx=>hQ x (h.all x hx)⟩
theorem SlH.more (h:SlH w B k f Q s) (hb:B≤B') (hQ:∀ x,Q x→Q' x):SlH w B' k f Q' s:=⟨h.nc,h.cm,h.cells.more hb,fun x hx=>hQ x (h.all x hx)⟩
theorem SlH.len (h:SlH w B k f Q s):s.L.length=s.n:=h.cells.1
theorem SlH.nm (h:SlH w B k f Q s):s.n≤maxLen:=Nat.le_trans h.nc h.cm
theorem SlH.get (h:SlH w B k f Q s) {i:Nat} (hi:i < s.n):∃ x,s.L[i]?=some x:=⟨_,List.getElem?_eq_getElem (by have:=h.len;omega)⟩
theorem SlH.at_ (h:SlH w B k f Q s) {i:Nat} {x:α} (hx:s.L[i]?=some x):∃ b o,s.A=some ⟨b,o,none⟩∧b < B∧Q x∧∀ j u,(f x)[j]?=some u→w.cell? ⟨b,o+i*k+j,none⟩=some u:=by
 obtain ⟨b,o,h1,h2,h3⟩:=h.cells.at_ hx
 exact ⟨b,o,h1,h2,h.all x (List.mem_of_getElem? hx),h3⟩
end
def cInt (x:Int):List Value:=[.int .i64 x]
def cStr (s:ByteArray):List Value:=[.string s]
abbrev Ints (w:World) (B:Nat) (s:SlW Int):Prop:=SlH w B 1 cInt IntR s
abbrev Strs (w:World) (B:Nat) (s:SlW ByteArray):Prop:=SlH w B 1 cStr (fun x=>x.size≤maxLen) s
theorem Ints.rd {w:World} {B:Nat} {s:SlW Int} (h:Ints w B s):Rd w B s.A s.n (i64s s.L):=by
 refine ⟨by rw [List.length_map];exact h.len,fun hn=>?_⟩
 obtain ⟨b,o,h1,h2,h3⟩:=h.cells.2 hn
 refine ⟨b,o,h1,h2,fun j u hu=>?_⟩
 rw [List.getElem?_map] at hu
 cases hx:s.L[j]? with
 | none=>rw [hx] at hu;cases hu
 | some x=>
  rw [hx] at hu
  injection hu with hu
  have:=h3 j x hx 0 (.int .i64 x) rfl
  rw [←hu]
  simpa using this
structure PlV where
 l:Int
 ps:List Pr
structure OpV where
 kind:Int
 pl:PlV
 n:Int
structure RvV where
 kind:Int
 op:Int
 region:Int
 mut_:Bool
 pl:PlV
 args:List OpV
structure StV where
 kind:Int
 pl:PlV
 rv:RvV
 loc:Int
structure TmV where
 kind:Int
 targets:List Int
 args:List OpV
 pl:PlV
 name:ByteArray
structure BkV where
 stmts:List StV
 term:TmV
structure LcV where
 name:ByteArray
 ty:Int
structure BdV where
 name:ByteArray
 regions:List ByteArray
 outl:List Pr
 types:List Ty
 locals:List LcV
 args:Int
 blocks:List BkV
structure OpW where
 kind:Int
 pl:PlW
 n:Int
structure RvW where
 kind:Int
 op:Int
 region:Int
 mut_:Bool
 pl:PlW
 args:SlW OpW
structure StW where
 kind:Int
 pl:PlW
 rv:RvW
 loc:Int
structure TmW where
 kind:Int
 targets:SlW Int
 args:SlW OpW
 pl:PlW
 name:ByteArray
structure BkW where
 stmts:SlW StW
 term:TmW
structure BdW where
 name:ByteArray
 regions:SlW ByteArray
 outl:SlW Pr
 types:SlW TyW
 locals:SlW LcW
 args:Int
 blocks:SlW BkW
def PlW.v (x:PlW):PlV:=⟨x.l,x.ps⟩
def OpW.v (x:OpW):OpV:=⟨x.kind,x.pl.v,x.n⟩
def RvW.v (x:RvW):RvV:=⟨x.kind,x.op,x.region,x.mut_,x.pl.v,x.args.L.map OpW.v⟩
def StW.v (x:StW):StV:=⟨x.kind,x.pl.v,x.rv.v,x.loc⟩
def TmW.v (x:TmW):TmV:=⟨x.kind,x.targets.L,x.args.L.map OpW.v,x.pl.v,x.name⟩
def BkW.v (x:BkW):BkV:=⟨x.stmts.L.map StW.v,x.term.v⟩
def LcW.v (x:LcW):LcV:=⟨x.name,x.ty⟩
def BdW.v (x:BdW):BdV:=⟨x.name,x.regions.L,x.outl.L,tys x.types.L,x.locals.L.map LcW.v,x.args,x.blocks.L.map BkW.v⟩
def cOp (x:OpW):List Value:=[.int .i64 x.kind,.int .i64 x.pl.l,.slice x.pl.A x.pl.n x.pl.c,.int .i64 x.n]
def cRv (x:RvW):List Value:=[.int .i64 x.kind,.int .i64 x.op,.int .i64 x.region,.bool x.mut_,.int .i64 x.pl.l,.slice x.pl.A x.pl.n x.pl.c,.slice x.args.A x.args.n x.args.c]
def cSt (x:StW):List Value:=[.int .i64 x.kind,.int .i64 x.pl.l,.slice x.pl.A x.pl.n x.pl.c,.int .i64 x.rv.kind,.int .i64 x.rv.op,.int .i64 x.rv.region,.bool x.rv.mut_,.int .i64 x.rv.pl.l,.slice x.rv.pl.A x.rv.pl.n x.rv.pl.c,.slice x.rv.args.A x.rv.args.n x.rv.args.c,.int .i64 x.loc]
def cTm (x:TmW):List Value:=[.int .i64 x.kind,.slice x.targets.A x.targets.n x.targets.c,.slice x.args.A x.args.n x.args.c,.int .i64 x.pl.l,.slice x.pl.A x.pl.n x.pl.c,.string x.name]
def cBk (x:BkW):List Value:=[.slice x.stmts.A x.stmts.n x.stmts.c,.int .i64 x.term.kind,.slice x.term.targets.A x.term.targets.n x.term.targets.c,.slice x.term.args.A x.term.args.n x.term.args.c,.int .i64 x.term.pl.l,.slice x.term.pl.A x.term.pl.n x.term.pl.c,.string x.term.name]
def cBd (x:BdW):List Value:=[.string x.name,.slice x.regions.A x.regions.n x.regions.c,.slice x.outl.A x.outl.n x.outl.c,.slice x.types.A x.types.n x.types.c,.slice x.locals.A x.locals.n x.locals.c,.int .i64 x.args,.slice x.blocks.A x.blocks.n x.blocks.c]
theorem cOp_len (x:OpW):(cOp x).length=4:=rfl
theorem cSt_len (x:StW):(cSt x).length=11:=rfl
theorem cBk_len (x:BkW):(cBk x).length=7:=rfl
theorem cBd_len (x:BdW):(cBd x).length=7:=rfl
theorem cInt_len (x:Int):(cInt x).length=1:=rfl
theorem cStr_len (x:ByteArray):(cStr x).length=1:=rfl
abbrev aggOp (x:OpW):Value:=.agg #[.int .i64 x.kind,.int .i64 x.pl.l,.slice x.pl.A x.pl.n x.pl.c,.int .i64 x.n]
abbrev aggRv (x:RvW):Value:=.agg #[.int .i64 x.kind,.int .i64 x.op,.int .i64 x.region,.bool x.mut_,.int .i64 x.pl.l,.slice x.pl.A x.pl.n x.pl.c,.slice x.args.A x.args.n x.args.c]
abbrev aggSt (x:StW):Value:=.agg #[.int .i64 x.kind,.int .i64 x.pl.l,.slice x.pl.A x.pl.n x.pl.c,.int .i64 x.rv.kind,.int .i64 x.rv.op,.int .i64 x.rv.region,.bool x.rv.mut_,.int .i64 x.rv.pl.l,.slice x.rv.pl.A x.rv.pl.n x.rv.pl.c,.slice x.rv.args.A x.rv.args.n x.rv.args.c,.int .i64 x.loc]
abbrev aggTm (x:TmW):Value:=.agg #[.int .i64 x.kind,.slice x.targets.A x.targets.n x.targets.c,.slice x.args.A x.args.n x.args.c,.int .i64 x.pl.l,.slice x.pl.A x.pl.n x.pl.c,.string x.name]
abbrev aggBk (x:BkW):Value:=.agg #[.slice x.stmts.A x.stmts.n x.stmts.c,.int .i64 x.term.kind,.slice x.term.targets.A x.term.targets.n x.term.targets.c,.slice x.term.args.A x.term.args.n x.term.args.c,.int .i64 x.term.pl.l,.slice x.term.pl.A x.term.pl.n x.term.pl.c,.string x.term.name]
abbrev aggBd (x:BdW):Value:=.agg #[.string x.name,.slice x.regions.A x.regions.n x.regions.c,.slice x.outl.A x.outl.n x.outl.c,.slice x.types.A x.types.n x.types.c,.slice x.locals.A x.locals.n x.locals.c,.int .i64 x.args,.slice x.blocks.A x.blocks.n x.blocks.c]
structure OneOp (w:World) (B:Nat) (x:OpW):Prop where
 kind:IntR x.kind
 pl:OnePl w B x.pl
 n:IntR x.n
abbrev Ops (w:World) (B:Nat) (s:SlW OpW):Prop:=SlH w B 4 cOp (OneOp w B) s
structure OneRv (w:World) (B:Nat) (x:RvW):Prop where
 kind:IntR x.kind
 op:IntR x.op
 region:IntR x.region
 pl:OnePl w B x.pl
 args:Ops w B x.args
structure OneSt (w:World) (B:Nat) (x:StW):Prop where
 kind:IntR x.kind
 pl:OnePl w B x.pl
 rv:OneRv w B x.rv
 loc:IntR x.loc
structure OneTm (w:World) (B:Nat) (x:TmW):Prop where
 kind:IntR x.kind
 targets:Ints w B x.targets
 args:Ops w B x.args
 pl:OnePl w B x.pl
 name:x.name.size≤maxLen
structure OneBk (w:World) (B:Nat) (x:BkW):Prop where
 stmts:SlH w B 11 cSt (OneSt w B) x.stmts
 term:OneTm w B x.term
structure OneBd (w:World) (B:Nat) (x:BdW):Prop where
 name:x.name.size≤maxLen
 regions:Strs w B x.regions
 outl:SlH w B 2 pV IntP x.outl
 types:SlH w B 5 c5 (OneT w B) x.types
 locals:SlH w B 2 cLc (fun y=>IntR y.ty∧y.name.size≤maxLen) x.locals
 args:IntR x.args
 blocks:SlH w B 7 cBk (OneBk w B) x.blocks
section
variable {w w':World} {B B':Nat} (hb:Below B w w')
include hb
theorem OneOp.below {x:OpW} (h:OneOp w B x):OneOp w' B x:=⟨h.kind,h.pl.below hb,h.n⟩
theorem Ops.below {s:SlW OpW} (h:Ops w B s):Ops w' B s:=SlH.below h hb fun _ h=>h.below hb
theorem OneRv.below {x:RvW} (h:OneRv w B x):OneRv w' B x:=⟨h.kind,h.op,h.region,h.pl.below hb,Ops.below hb h.args⟩
theorem OneSt.below {x:StW} (h:OneSt w B x):OneSt w' B x:=⟨h.kind,h.pl.below hb,h.rv.below hb,h.loc⟩
theorem OneTm.below {x:TmW} (h:OneTm w B x):OneTm w' B x:=⟨h.kind,SlH.below h.targets hb fun _ h=>h,Ops.below hb h.args,h.pl.below hb,h.name⟩
theorem OneBk.below {x:BkW} (h:OneBk w B x):OneBk w' B x:=⟨SlH.below h.stmts hb fun _ h=>h.below hb,h.term.below hb⟩
theorem OneBd.below {x:BdW} (h:OneBd w B x):OneBd w' B x:=⟨h.name,SlH.below h.regions hb fun _ h=>h,SlH.below h.outl hb fun _ h=>h,SlH.below h.types hb fun _ h=>OneT.below h hb,SlH.below h.locals hb fun _ h=>h,h.args,SlH.below h.blocks hb fun _ h=>h.below hb⟩
end
section
variable {w:World} {B B':Nat} (hb:B≤B')
include hb
theorem OneOp.more {x:OpW} (h:OneOp w B x):OneOp w B' x:=⟨h.kind,h.pl.more hb,h.n⟩
theorem Ops.more {s:SlW OpW} (h:Ops w B s):Ops w B' s:=SlH.more h hb fun _ h=>h.more hb
theorem OneRv.more {x:RvW} (h:OneRv w B x):OneRv w B' x:=⟨h.kind,h.op,h.region,h.pl.more hb,Ops.more hb h.args⟩
theorem OneSt.more {x:StW} (h:OneSt w B x):OneSt w B' x:=⟨h.kind,h.pl.more hb,h.rv.more hb,h.loc⟩
theorem OneTm.more {x:TmW} (h:OneTm w B x):OneTm w B' x:=⟨h.kind,SlH.more h.targets hb fun _ h=>h,Ops.more hb h.args,h.pl.more hb,h.name⟩
theorem OneBk.more {x:BkW} (h:OneBk w B x):OneBk w B' x:=⟨SlH.more h.stmts hb fun _ h=>h.more hb,h.term.more hb⟩
theorem OneBd.more {x:BdW} (h:OneBd w B x):OneBd w B' x:=⟨h.name,SlH.more h.regions hb fun _ h=>h,SlH.more h.outl hb fun _ h=>h,SlH.more h.types hb fun _ h=>OneT.more h hb,SlH.more h.locals hb fun _ h=>h,h.args,SlH.more h.blocks hb fun _ h=>h.more hb⟩
end
theorem OneBd.up {w w':World} {x:BdW} (h:OneBd w w.heap.size x) (hb:Below w.heap.size w w'):OneBd w' w'.heap.size x:=(h.below hb).more hb.size
theorem OneBk.up {w w':World} {x:BkW} (h:OneBk w w.heap.size x) (hb:Below w.heap.size w w'):OneBk w' w'.heap.size x:=(h.below hb).more hb.size
theorem OneTm.up {w w':World} {x:TmW} (h:OneTm w w.heap.size x) (hb:Below w.heap.size w w'):OneTm w' w'.heap.size x:=(h.below hb).more hb.size
theorem OneSt.up {w w':World} {x:StW} (h:OneSt w w.heap.size x) (hb:Below w.heap.size w w'):OneSt w' w'.heap.size x:=(h.below hb).more hb.size
theorem OneRv.up {w w':World} {x:RvW} (h:OneRv w w.heap.size x) (hb:Below w.heap.size w w'):OneRv w' w'.heap.size x:=(h.below hb).more hb.size
theorem OneOp.up {w w':World} {x:OpW} (h:OneOp w w.heap.size x) (hb:Below w.heap.size w w'):OneOp w' w'.heap.size x:=(h.below hb).more hb.size
theorem Ops.up {w w':World} {s:SlW OpW} (h:Ops w w.heap.size s) (hb:Below w.heap.size w w'):Ops w' w'.heap.size s:=Ops.more hb.size (Ops.below hb h)
theorem OneBd.typs {w:World} {B:Nat} {x:BdW} (h:OneBd w B x):Typs w B x.types.A x.types.n x.types.L:=⟨h.types.cells,h.types.all⟩
theorem OneBd.locs {w:World} {B:Nat} {x:BdW} (h:OneBd w B x):Locs w B x.locals.A x.locals.n x.locals.L:=⟨h.locals.cells,fun y hy=>(h.locals.all y hy).1⟩
theorem OneBd.prs {w:World} {B:Nat} {x:BdW} (h:OneBd w B x):Prs w B x.outl.A x.outl.n x.outl.L:=⟨h.outl.cells,h.outl.all⟩
section
variable {α:Type}
def sumN (f:α→Nat) (l:List α):Nat:=(l.map f).sum
theorem sumN_cons (f:α→Nat) (x:α) (l:List α):sumN f (x :: l)=f x+sumN f l:=by simp [sumN]
theorem sumN_append (f:α→Nat) (l m:List α):sumN f (l++m)=sumN f l+sumN f m:=by simp [sumN]
theorem sumN_up {f:α→Nat} {l:List α} {j:Nat} {p:α} (h:l[j]?=some p):sumN f (l.take (j+1))=sumN f (l.take j)+f p:=by
 rw [List.take_add_one,h,sumN_append]
 simp [sumN]
theorem sumN_all (f:α→Nat) {l:List α} {n:Nat} (h:l.length=n):sumN f (l.take n)=sumN f l:=by rw [List.take_of_length_le (by omega)]
end
theorem wrapI9 (n:Int) (h0:-9223372036854775808≤n) (h1:n≤9223372036854775807):IntKind.i64.wrap n=n:=by
 simp [IntKind.wrap,IntKind.bits,IntKind.signed]
 omega
def bd1 (w:World) (x:BdW):World:=w.alloc (.cells #[.string x.name,.slice x.regions.A x.regions.n x.regions.c,.slice x.outl.A x.outl.n x.outl.c,.slice x.types.A x.types.n x.types.c,.slice x.locals.A x.locals.n x.locals.c,.int .i64 x.args,.slice x.blocks.A x.blocks.n x.blocks.c] 28)
theorem bd1_size (w:World) (x:BdW):(bd1 w x).heap.size=w.heap.size+1:=by simp [bd1]
theorem bd1_below (w:World) (x:BdW):Below w.heap.size w (bd1 w x):=(Below.refl _ w).alloc (Nat.le_refl _) _
theorem bd1_cells {w w':World} {x:BdW} (h:Below (bd1 w x).heap.size (bd1 w x) w'):∀ j u,(cBd x)[j]?=some u→w'.cell? ⟨w.heap.size,j,none⟩=some u:=by
 have hs:=bd1_size w x
 intro j u hu
 refine (h.cell (show w.heap.size < (bd1 w x).heap.size by omega)).trans ?_
 unfold bd1
 simp only [cBd] at hu
 rw [←hu]
 rcases j with _ | _ | _ | _ | _ | _ | _ | j <;> simp [go_sem]
def bk1 (w:World) (x:BkW):World:=w.alloc (.cells #[.slice x.stmts.A x.stmts.n x.stmts.c,.int .i64 x.term.kind,.slice x.term.targets.A x.term.targets.n x.term.targets.c,.slice x.term.args.A x.term.args.n x.term.args.c,.int .i64 x.term.pl.l,.slice x.term.pl.A x.term.pl.n x.term.pl.c,.string x.term.name] 52)
theorem bk1_size (w:World) (x:BkW):(bk1 w x).heap.size=w.heap.size+1:=by simp [bk1]
theorem bk1_below (w:World) (x:BkW):Below w.heap.size w (bk1 w x):=(Below.refl _ w).alloc (Nat.le_refl _) _
theorem bk1_cells {w w':World} {x:BkW} (h:Below (bk1 w x).heap.size (bk1 w x) w'):∀ j u,(cBk x)[j]?=some u→w'.cell? ⟨w.heap.size,j,none⟩=some u:=by
 have hs:=bk1_size w x
 intro j u hu
 refine (h.cell (show w.heap.size < (bk1 w x).heap.size by omega)).trans ?_
 unfold bk1
 simp only [cBk] at hu
 rw [←hu]
 rcases j with _ | _ | _ | _ | _ | _ | _ | j <;> simp [go_sem]
theorem sumN_min {α:Type} {f:α→Nat} {l:List α} {k:Nat} (h:sumN (fun x=>min (f x) k) l < k):sumN f l=sumN (fun x=>min (f x) k) l:=by
 induction l with
 | nil=>rfl
 | cons x l ih=>
  rw [sumN_cons,sumN_cons] at *
  have h1:min (f x) k=f x:=by omega
  rw [ih (by omega),h1]
def LOpsOut (w:World) (s:SlW OpW) (e:Ending) (w':World):Prop:=∃ r:Nat,e=.returned (.int .i64 (r:Int))∧r≤18000∧(r≤3000→s.n+sumN (fun o=>o.pl.n) s.L=r)∧Below w.heap.size w w'
theorem BodWz0 {P:Prop} (h:P:=by
 have t1:IntKind.i64.wrap ((m:Int)+(pn:Int))=(m:Int)+(pn:Int):=wrapI9 _ (by omega) (by omega)
 by_cases h0:9000 < m+pn
 ·
  have hg2:(9000:Int) < (m:Int)+(pn:Int):=by omega
  clear c0 h1 hu hp
  go_wp2
  go_ret
  exact ⟨m+pn,congrArg (fun z:Int=>Ending.returned (.int .i64 z)) (by omega),by omega,fun h=>absurd h (by omega),HB2.out⟩
 ·
  have hg2:¬(9000:Int) < (m:Int)+(pn:Int):=by omega
  clear c0 h1 hu hp
  go_wp2
  go_roundw
  case rel=>exact ⟨j+1,m+pn,by go_num,congrArg (fun z:Int=>Value.int .i64 z) (by omega),by omega,by omega,HM2,HB2⟩
  case measure=>simp [intOf];omega):P:=h
theorem BodWz1 {P:Prop} (h:P:=by
 have hg2:(9000:Int) < (m:Int)+9000:=by omega
 clear c0 h1 hu hp
 go_wp2
 go_ret
 exact ⟨m+9000,congrArg (fun z:Int=>Ending.returned (.int .i64 z)) (by omega),by omega,fun h=>absurd h (by omega),HB2.out⟩):P:=h
theorem LOperands_any (s:SlW OpW) (w:World) (hs:Ops w w.heap.size s) :
 Calls Tryz.prog 37 #[s.val] w (LOpsOut w s):=by
 have HX:=hide hs
 have HL:=hide hs.len
 have hn:=hs.nm
 have hnc:=hs.nc
 clear hs
 obtain ⟨A,n,c,xs⟩:=s
 simp only [] at hn hnc
 unfold maxLen at hn
 show Calls Tryz.prog 37 #[.slice A n c] w _
 by_cases h9:9000 < n
 ·
  have hi1:(9000:Int) < (n:Int):=by omega
  have hi2:(9000:Int)≤(n:Int):=by omega
  have hi3:¬(n:Int)≤9000:=by omega
  have hi4:¬(n:Int) < 9000:=by omega
  have hc1:(9000:Int)≤(c:Int):=by omega
  have hc2:9000≤c:=by omega
  go_enter Tryz.func37,Tryz.ntmps37
  go_wp2
  go_loopw [3,13] (fun v i wr=>∃ j m:Nat,i=.int .i64 (j:Int)∧v=.int .i64 (m:Int)∧j≤9000∧m≤9000∧Hid (m=9000+sumN (fun o=>min o.pl.n 9000) (xs.take j))∧Hid (Below w.heap.size w wr)) (fun _ i _=>9000 - (intOf i).toNat)
  case atStart=>exact ⟨0,9000,rfl,rfl,Nat.zero_le _,by omega,hide (by simp [sumN]),hide (Below.refl _ _)⟩
  case round=>
   obtain ⟨j,m,rfl,rfl,hj,hm,HM,HB⟩:=hrel
   have hsz:=HB.out.size
   by_cases hlt:j < 9000
   ·
    obtain ⟨p,hp⟩:=HX.out.get (show j < n by omega)
    obtain ⟨g,o,hA,hg,h1,c0⟩:=HX.out.at_ hp
    simp only [] at hA
    subst hA
    obtain ⟨k,⟨l,pA,pn,pc,ps⟩,z⟩:=p
    have hlt':(j:Int) < (9000:Int):=by omega
    have hltn:(j:Int) < (n:Int):=by omega
    have c1:=(HB.out.cell hg).trans (c0 0 _ rfl)
    have c2:=(HB.out.cell hg).trans (c0 1 _ rfl)
    have c3:=(HB.out.cell hg).trans (c0 2 _ rfl)
    have c4:=(HB.out.cell hg).trans (c0 3 _ rfl)
    simp only [Nat.add_zero] at c1 c2 c3 c4
    have hpn:pn≤9223372036854775807:=Nat.le_trans h1.pl.nc h1.pl.cm
    have hu:=sumN_up (f:=fun o:OpW=>min o.pl.n 9000) hp
    simp only [] at hu
    have HB2:=hide (HB.out.alloc hsz (.cells #[.int .i64 k,.int .i64 l,.slice pA pn pc,.int .i64 z] 38))
    by_cases hb:9000 < pn
    ·
     have hb1:(9000:Int) < (pn:Int):=by omega
     have hb2:(9000:Int)≤(pn:Int):=by omega
     have hb3:¬(pn:Int)≤9000:=by omega
     have HM2:=hide (show m+9000=9000+sumN (fun o=>min o.pl.n 9000) (xs.take (j+1)) by rw [hu,HM.out,Nat.min_eq_right (Nat.le_of_lt hb),Nat.add_assoc])
     have t1:IntKind.i64.wrap ((m:Int)+9000)=(m:Int)+9000:=wrapI9 _ (by omega) (by omega)
     by_cases h0:0 < m
     ·
      exact BodWz1
     ·
      have hm0:m=0:=by omega
      have:9000≤m:=by rw [HM.out];omega
      omega
    ·
     have hb1:¬(9000:Int) < (pn:Int):=by omega
     have hb2:(pn:Int)≤9000:=by omega
     have HM2:=hide (show m+pn=9000+sumN (fun o=>min o.pl.n 9000) (xs.take (j+1)) by rw [hu,HM.out,Nat.min_eq_left (by omega),Nat.add_assoc])
     exact BodWz0
   ·
    have hjn:9000=j:=by omega
    have hge:¬(j:Int) < (9000:Int):=by omega
    have HF:=hide (show m≤3000→n+sumN (fun o:OpW=>o.pl.n) xs=m from fun h=>by
     have h1:=HM.out
     omega)
    clear hjn
    go_wp2
    go_ret
    exact ⟨m,rfl,by omega,HF.out,HB.out⟩
 ·
  have hi1:¬(9000:Int) < (n:Int):=by omega
  have hi2:(n:Int)≤9000:=by omega
  have hc1:(n:Int)≤(c:Int):=by omega
  go_enter Tryz.func37,Tryz.ntmps37
  go_wp2
  go_loopw [3,13] (fun v i wr=>∃ j m:Nat,i=.int .i64 (j:Int)∧v=.int .i64 (m:Int)∧j≤n∧m≤9000∧Hid (m=n+sumN (fun o=>min o.pl.n 9000) (xs.take j))∧Hid (Below w.heap.size w wr)) (fun _ i _=>n - (intOf i).toNat)
  case atStart=>exact ⟨0,n,rfl,rfl,Nat.zero_le _,by omega,hide (by simp [sumN]),hide (Below.refl _ _)⟩
  case round=>
   obtain ⟨j,m,rfl,rfl,hj,hm,HM,HB⟩:=hrel
   have hsz:=HB.out.size
   by_cases hlt:j < n
   ·
    obtain ⟨p,hp⟩:=HX.out.get (show j < n by omega)
    obtain ⟨g,o,hA,hg,h1,c0⟩:=HX.out.at_ hp
    simp only [] at hA
    subst hA
    obtain ⟨k,⟨l,pA,pn,pc,ps⟩,z⟩:=p
    have hlt':(j:Int) < (n:Int):=by omega
    have hltn:(j:Int) < (n:Int):=by omega
    have c1:=(HB.out.cell hg).trans (c0 0 _ rfl)
    have c2:=(HB.out.cell hg).trans (c0 1 _ rfl)
    have c3:=(HB.out.cell hg).trans (c0 2 _ rfl)
    have c4:=(HB.out.cell hg).trans (c0 3 _ rfl)
    simp only [Nat.add_zero] at c1 c2 c3 c4
    have hpn:pn≤9223372036854775807:=Nat.le_trans h1.pl.nc h1.pl.cm
    have hu:=sumN_up (f:=fun o:OpW=>min o.pl.n 9000) hp
    simp only [] at hu
    have HB2:=hide (HB.out.alloc hsz (.cells #[.int .i64 k,.int .i64 l,.slice pA pn pc,.int .i64 z] 38))
    by_cases hb:9000 < pn
    ·
     have hb1:(9000:Int) < (pn:Int):=by omega
     have hb2:(9000:Int)≤(pn:Int):=by omega
     have hb3:¬(pn:Int)≤9000:=by omega
     have HM2:=hide (show m+9000=n+sumN (fun o=>min o.pl.n 9000) (xs.take (j+1)) by rw [hu,HM.out,Nat.min_eq_right (Nat.le_of_lt hb),Nat.add_assoc])
     have t1:IntKind.i64.wrap ((m:Int)+9000)=(m:Int)+9000:=wrapI9 _ (by omega) (by omega)
     by_cases h0:0 < m
     ·
      exact BodWz1
     ·
      have hm0:m=0:=by omega
      have:n≤m:=by rw [HM.out];omega
      omega
    ·
     have hb1:¬(9000:Int) < (pn:Int):=by omega
     have hb2:(pn:Int)≤9000:=by omega
     have HM2:=hide (show m+pn=n+sumN (fun o=>min o.pl.n 9000) (xs.take (j+1)) by rw [hu,HM.out,Nat.min_eq_left (by omega),Nat.add_assoc])
     exact BodWz0
   ·
    have hjn:n=j:=by omega
    have hge:¬(j:Int) < (n:Int):=by omega
    have HF:=hide (show m≤3000→n+sumN (fun o:OpW=>o.pl.n) xs=m from fun h=>by
     have h1:=HM.out
     rw [←hjn,sumN_all _ HL.out] at h1
     rw [sumN_min (f:=fun o:OpW=>o.pl.n) (k:=9000) (by omega),h1])
    clear hjn
    go_wp2
    go_ret
    exact ⟨m,rfl,by omega,HF.out,HB.out⟩
end Go.Proofs.YtfgacmgjpikgaaaGreatDoor
namespace Go.Proofs.YtfgacmgjpikgaaaGreatDoor
open Go.ChangeShapes Go.WideShapes Go.ChangeAt Go.RowKit
theorem cellLt {w:World} {a:Addr} {v:Value} (h:w.cell? a=some v):a.block < w.heap.size:=by
 rcases Nat.lt_or_ge a.block w.heap.size with h' | h'
 ·
  exact h'
 ·
  unfold World.cell? at h
  rw [Array.getElem?_eq_none h'] at h
  simp at h
end Go.Proofs.YtfgacmgjpikgaaaGreatDoor
namespace Go.Proofs.YtfgacmgjpikgaaaGreatDoor
open Go.ChangeShapes Go.WideShapes Go.ChangeAt Go.RowKit
theorem listL_of {α:Type} {Q:Nat→α→Prop}:∀ n:Nat,(∀ i,i < n→∃ a,Q i a)→∃ L:List α,L.length=n∧∀ i a,L[i]?=some a→Q i a
 | 0,_=>⟨[],rfl,fun i a h=>by simp at h⟩
 | n+1,h=>by
  obtain ⟨L,hl,hq⟩:=listL_of n fun i hi=>h i (by omega)
  obtain ⟨a,ha⟩:=h n (by omega)
  refine ⟨L++[a],by simp [hl],fun i b hb=>?_⟩
  rcases Nat.lt_or_ge i L.length with hi | hi
  ·
   rw [List.getElem?_append_left hi] at hb
   exact hq i b hb
  ·
   rw [List.getElem?_append_right hi] at hb
   have hi0:i - L.length=0:=by
    rcases Nat.eq_zero_or_pos (i - L.length) with h0 | h0
    ·
     exact h0
    ·
     rw [List.getElem?_eq_none (by simp;omega)] at hb;cases hb
   rw [hi0] at hb
   simp at hb
   subst hb
   rw [show i=n by omega]
   exact ha
theorem rngL {x:Int} (h:(Lit.int .i64 x).wf=true):IntR x:=by simpa [IntR,Lit.wf,IntKind.min,IntKind.max,IntKind.signed,IntKind.bits] using h
theorem trodFields {H:Type} {enc:TypeId×Value→H} {P:Program} {W:World} {e:TypeId} {fs:Array Field} {fuel:Nat} {cs:List Value} {z:DataW H×List MemPlace} (he:P.underlying e=some (.struct fs)) (hone:Go.Deep.oneCellFields P fs=true) (hl:cs.length=fs.size)
  (h:DataW.trod enc P W 0 (fun _=>true) true fuel e cs=some z):∃ k,∀ (j:Nat) (f:Field),fs[j]?=some f→∃ u y,cs[j]?=some u∧DataW.trod enc P W 0 (fun _=>true) true k f.type [u]=some y:=by
 obtain ⟨ys,k,_,_,_,hyl,hfld⟩:=DataW.trod_struct he h
 refine ⟨k,fun j f hj=>?_⟩
 obtain ⟨ho,hc1⟩:=Go.Deep.hone_of hone j f hj
 have hb:=hfld j f hj
 have hjl:j < cs.length:=by rw [hl];exact (Array.getElem?_eq_some_iff.1 hj).1
 rw [ho,hc1,Go.Deep.take1_drop cs j (.int .i64 0) hjl] at hb
 refine ⟨cs.getD j (.int .i64 0),ys[j]'(by rw [hyl];rw [←hl];exact hjl),by simp [List.getD_eq_getElem?_getD,List.getElem?_eq_getElem hjl],?_⟩
 rw [hb]
 exact List.getElem?_eq_getElem _
theorem two_fields {H:Type} {enc:TypeId×Value→H} {P:Program} {W:World} {e:TypeId} {f0 f1:Field} {fuel:Nat} {cs:List Value} {z:DataW H×List MemPlace} (he:P.underlying e=some (.struct #[f0,f1])) (hone:Go.Deep.oneCellFields P #[f0,f1]=true)
  (h0:P.underlying f0.type=some (.int .i64)) (h1:P.underlying f1.type=some (.int .i64)) (hl:cs.length=2) (h:DataW.trod enc P W 0 (fun _=>true) true fuel e cs=some z):∃ p:Pr,cs=pV p∧IntP p:=by
 obtain ⟨k,hk⟩:=trodFields he hone (by rw [hl];rfl) h
 match cs,hl with
 | [u0,u1],_=>
  obtain ⟨v0,y0,e0,r0⟩:=hk 0 f0 rfl
  obtain ⟨v1,y1,e1,r1⟩:=hk 1 f1 rfl
  injection e0 with e0
  injection e1 with e1
  subst e0 e1
  obtain ⟨k0,q0,_,w0⟩:=DataW.trod_int h0 r0
  obtain ⟨k1,q1,_,w1⟩:=DataW.trod_int h1 r1
  injection q0 with q0
  injection q1 with q1
  subst q0 q1
  exact ⟨(k0,k1),rfl,rngL w0,rngL w1⟩
end Go.Proofs.YtfgacmgjpikgaaaGreatDoor
