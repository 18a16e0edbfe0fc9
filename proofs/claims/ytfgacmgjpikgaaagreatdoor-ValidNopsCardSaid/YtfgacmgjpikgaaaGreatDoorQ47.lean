/- Part 48 of the contracts and their mathematics. -/
import Derived.Test.YtfgacmgjpikgaaaGreatDoorQ20
import Derived.Test.YtfgacmgjpikgaaaGreatDoorQ23
import Derived.Lib.LazyBuf
import Derived.Deep.MidRow
set_option linter.unusedVariables false
set_option linter.unusedSimpArgs false
namespace Go.Proofs.YtfgacmgjpikgaaaGreatDoor
open Go.RowKit
theorem own_slice9 {w:World} {base:Nat} {e:TypeId} {size n:Nat} {v:Value} {xs:List Value} (h:w.ownsRow base e size v n xs):∃ A c,v=.slice A n c:=by
 obtain ⟨h1,h2⟩:=h
 rcases h2 with ⟨rfl,rfl⟩ | ⟨g,cap,cur,rfl,_⟩
 ·
  exact ⟨_,_,rfl⟩
 ·
  exact ⟨_,_,rfl⟩
theorem cSt_one (x:StW):∀ u∈cSt x,u.oneCell'=true:=by intro u hu;simp only [cSt,List.mem_cons,List.not_mem_nil,or_false] at hu;rcases hu with rfl | rfl | rfl | rfl | rfl | rfl | rfl | rfl | rfl | rfl | rfl <;> rfl
theorem cBk_one (x:BkW):∀ u∈cBk x,u.oneCell'=true:=by intro u hu;simp only [cBk,List.mem_cons,List.not_mem_nil,or_false] at hu;rcases hu with rfl | rfl | rfl | rfl | rfl | rfl | rfl <;> rfl
theorem info9St:(Tryz.prog.info? 46).map (fun i=>(i.zero,i.size,i.bytes))=some (some (.agg #[.int .i64 0,.int .i64 0,.slice none 0 0,.int .i64 0,.int .i64 0,.int .i64 0,.bool false,.int .i64 0,.slice none 0 0,.slice none 0 0,.int .i64 0]),11,136):=by kernel_rfl
theorem info9Bk:(Tryz.prog.info? 52).map (fun i=>(i.zero,i.size,i.bytes))=some (some (.agg #[.slice none 0 0,.int .i64 0,.slice none 0 0,.slice none 0 0,.int .i64 0,.slice none 0 0,.string .empty]),7,128):=by kernel_rfl
def Bx (w:World) (g:Nat) (cs:List Value) (T:TypeId):Prop:=w.heap[g]?=some (.cells cs.toArray T (0,0))
section
variable {w w':World} {g:Nat} {cs:List Value} {T:TypeId}
theorem Bx.lt (h:Bx w g cs T):g < w.heap.size:=(Array.getElem?_eq_some_iff.1 h).1
theorem Bx.cell (h:Bx w g cs T) {j:Nat} {u:Value} (hj:cs[j]?=some u):w.cell? ⟨g,j,none⟩=some u:=by
 rw [cell_of_row w g j cs.toArray T (0,0) h]
 simpa using hj
theorem Bx.frozen (h:Bx w g cs T) (j:Nat):w.frozen? ⟨g,j,none⟩=false:=by
 unfold Bx at h
 simp [World.frozen?,h]
theorem Bx.below (h:Bx w g cs T) (hb:Below w.heap.size w w'):Bx w' g cs T:=(hb.block g h.lt).trans h
theorem Bx.set (h:Bx w g cs T) (j:Nat) (v:Value):Bx (w.setCell ⟨g,j,none⟩ v) g (cs.set j v) T:=by
 have h':=h
 unfold Bx at *
 rw [setCell_eq_setRow w g j _ _ _ v h',setRow_heap _ _ _ _ _ _ h']
 simp
theorem Bx.other (h:Bx w g cs T) {a:Addr} (ha:a.block≠g) (v:Value):Bx (w.setCell a v) g cs T:=(Below.heap_setCell w a v g ha.symm).trans h
theorem Bx.new (w:World) (cs:List Value) (T:TypeId):Bx (w.alloc (.cells cs.toArray T)) w.heap.size cs T:=heap_alloc_new w _
end
structure Keep (lo:Nat) (w w':World):Prop where
 size:w.heap.size≤w'.heap.size
 block:∀ k,lo≤k→k < w.heap.size→w'.heap[k]?=w.heap[k]?
section
variable {lo:Nat} {w w' w'':World}
theorem Keep.refl (lo:Nat) (w:World):Keep lo w w:=⟨Nat.le_refl _,fun _ _ _=>rfl⟩
theorem Keep.of_below (h:Below w.heap.size w w'):Keep lo w w':=⟨h.size,fun k _ hk=>h.block k hk⟩
theorem Keep.trans (h:Keep lo w w') (h':Keep lo w' w''):Keep lo w w'':=⟨Nat.le_trans h.size h'.size,fun k hk hl=>(h'.block k hk (Nat.lt_of_lt_of_le hl h.size)).trans (h.block k hk hl)⟩
theorem Keep.setCell {a:Addr} (ha:a.block < lo) (v:Value):Keep lo w (w.setCell a v):=⟨by simp,fun k hk _=>Below.heap_setCell w a v k (by omega)⟩
theorem own_keep {e:TypeId} {size n:Nat} {v:Value} {xs:List Value} (h:w.ownsRow lo e size v n xs) (hk:Keep lo w w'):w'.ownsRow lo e size v n xs:=by
 obtain ⟨h1,h2⟩:=h
 refine ⟨h1,?_⟩
 rcases h2 with h2 | ⟨g,cap,cur,hv,hb,hg,r⟩
 ·
  exact .inl h2
 ·
  exact .inr ⟨g,cap,cur,hv,hb,(hk.block g hb (Array.getElem?_eq_some_iff.1 hg).1).trans hg,r⟩
end
structure OwSl {α:Type} (w:World) (lo:Nat) (e:TypeId) (k:Nat) (f:α→List Value) (R:α→Prop) (s:SlW α):Prop where
 row:w.ownsRow lo e k s.val s.n (s.L.flatMap f)
 all:∀ x∈s.L,R x
section
variable {α β:Type} {w w':World} {lo lo':Nat} {e:TypeId} {k:Nat} {f:α→List Value} {R R' Q:α→Prop} {s s':SlW α} {v:α→β}
theorem OwSl.keep (h:OwSl w lo e k f R s) (hk:Keep lo w w') (hR:∀ x,R x→R' x):OwSl w' lo e k f R' s:=⟨own_keep h.row hk,fun x hx=>hR x (h.all x hx)⟩
theorem OwSl.base (h:OwSl w lo e k f R s) (hl:lo'≤lo) (hR:∀ x,R x→R' x):OwSl w lo' e k f R' s:=⟨ownsRow_base h.row hl,fun x hx=>hR x (h.all x hx)⟩
theorem own_sl (hk:∀ x,(f x).length=k) (h0:0 < k) (h:w.ownsRow lo e k s.val s.n (s.L.flatMap f)) (hQ:∀ x∈s.L,Q x):SlH w w.heap.size k f Q s:=by
 obtain ⟨A,n,c,L⟩:=s
 have hc:n≤c∧c≤maxLen:=by
  rcases h.2 with ⟨h2,rfl⟩ | ⟨g,cap,cur,hv,_,_,h3,h4,_⟩
  ·
   injection h2 with _ _ h2
   subst h2
   exact ⟨Nat.le_refl _,Nat.zero_le _⟩
  ·
   injection hv with _ _ hv
   subst hv
   exact ⟨h3,h4⟩
 exact ⟨hc.1,hc.2,Cells.of_own hk h0 h,hQ⟩
theorem all_of_map {Q':α→Prop} {L L':List α} (he:L'.map v=L.map v) (hR:∀ x∈L',R x) (hQ:∀ x∈L,Q x) (hall:∀ x x',v x'=v x→R x'→Q x→Q' x'):∀ x'∈L',Q' x':=fun x' hx'=>by
 have:v x'∈L.map v:=he ▸ List.mem_map.2 ⟨x',hx',rfl⟩
 obtain ⟨x,hx,e⟩:=List.mem_map.1 this
 exact hall x x' e.symm (hR x' hx') (hQ x hx)
end
abbrev OwPl (w:World) (lo:Nat) (x:PlW):Prop:=w.ownsRow lo 102 2 (.slice x.A x.n x.c) x.n (x.ps.flatMap pV)
abbrev OwOp (w:World) (lo:Nat) (x:OpW):Prop:=OwPl w lo x.pl
abbrev OwOps (w:World) (lo:Nat) (s:SlW OpW):Prop:=OwSl w lo 38 4 cOp (OwOp w lo) s
abbrev OwInts (w:World) (lo:Nat) (s:SlW Int):Prop:=w.ownsRow lo 3 1 s.val s.n (s.L.flatMap cInt)
structure OwRv (w:World) (lo:Nat) (x:RvW):Prop where
 pl:OwPl w lo x.pl
 args:OwOps w lo x.args
structure OwSt (w:World) (lo:Nat) (x:StW):Prop where
 pl:OwPl w lo x.pl
 rv:OwRv w lo x.rv
structure OwTm (w:World) (lo:Nat) (x:TmW):Prop where
 targets:OwInts w lo x.targets
 args:OwOps w lo x.args
 pl:OwPl w lo x.pl
abbrev OwSts (w:World) (lo:Nat) (s:SlW StW):Prop:=OwSl w lo 46 11 cSt (OwSt w lo) s
structure OwBk (w:World) (lo:Nat) (x:BkW):Prop where
 stmts:OwSts w lo x.stmts
 term:OwTm w lo x.term
abbrev OwTy (w:World) (lo:Nat) (x:TyW):Prop:=w.ownsRow lo 3 1 (.slice x.A x.n x.c) x.n (x.t.fields.flatMap cInt)
structure OwBd (w:World) (lo:Nat) (x:BdW):Prop where
 regions:w.ownsRow lo 9 1 x.regions.val x.regions.n (x.regions.L.flatMap cStr)
 outl:w.ownsRow lo 99 2 x.outl.val x.outl.n (x.outl.L.flatMap pV)
 types:OwSl w lo 62 5 c5 (OwTy w lo) x.types
 locals:w.ownsRow lo 64 2 x.locals.val x.locals.n (x.locals.L.flatMap cLc)
 blocks:OwSl w lo 52 7 cBk (OwBk w lo) x.blocks
section
variable {w w':World} {lo lo':Nat}
theorem OwOps.keep {s:SlW OpW} (h:OwOps w lo s) (hk:Keep lo w w'):OwOps w' lo s:=OwSl.keep h hk fun _ h=>own_keep h hk
theorem OwRv.keep {x:RvW} (h:OwRv w lo x) (hk:Keep lo w w'):OwRv w' lo x:=⟨own_keep h.pl hk,OwOps.keep h.args hk⟩
theorem OwSt.keep {x:StW} (h:OwSt w lo x) (hk:Keep lo w w'):OwSt w' lo x:=⟨own_keep h.pl hk,h.rv.keep hk⟩
theorem OwTm.keep {x:TmW} (h:OwTm w lo x) (hk:Keep lo w w'):OwTm w' lo x:=⟨own_keep h.targets hk,OwOps.keep h.args hk,own_keep h.pl hk⟩
theorem OwSts.keep {s:SlW StW} (h:OwSts w lo s) (hk:Keep lo w w'):OwSts w' lo s:=OwSl.keep h hk fun _ h=>h.keep hk
theorem OwBk.keep {x:BkW} (h:OwBk w lo x) (hk:Keep lo w w'):OwBk w' lo x:=⟨OwSts.keep h.stmts hk,h.term.keep hk⟩
theorem OwBd.keep {x:BdW} (h:OwBd w lo x) (hk:Keep lo w w'):OwBd w' lo x:=⟨own_keep h.regions hk,own_keep h.outl hk,OwSl.keep h.types hk fun _ h=>own_keep h hk,own_keep h.locals hk,OwSl.keep h.blocks hk fun _ h=>h.keep hk⟩
theorem OwOps.base {s:SlW OpW} (h:OwOps w lo s) (hk:lo'≤lo):OwOps w lo' s:=OwSl.base h hk fun _ h=>ownsRow_base h hk
theorem OwRv.base {x:RvW} (h:OwRv w lo x) (hk:lo'≤lo):OwRv w lo' x:=⟨ownsRow_base h.pl hk,OwOps.base h.args hk⟩
theorem OwSt.base {x:StW} (h:OwSt w lo x) (hk:lo'≤lo):OwSt w lo' x:=⟨ownsRow_base h.pl hk,h.rv.base hk⟩
theorem OwTm.base {x:TmW} (h:OwTm w lo x) (hk:lo'≤lo):OwTm w lo' x:=⟨ownsRow_base h.targets hk,OwOps.base h.args hk,ownsRow_base h.pl hk⟩
theorem OwSts.base {s:SlW StW} (h:OwSts w lo s) (hk:lo'≤lo):OwSts w lo' s:=OwSl.base h hk fun _ h=>h.base hk
theorem OwBk.base {x:BkW} (h:OwBk w lo x) (hk:lo'≤lo):OwBk w lo' x:=⟨OwSts.base h.stmts hk,h.term.base hk⟩
end
section
variable {w w':World} {lo B:Nat}
theorem OnePl.of_own {x x':PlW} (h:OnePl w B x) (e:x'.v=x.v) (o:OwPl w' lo x'):OnePl w' w'.heap.size x':=by
 obtain ⟨l,A,n,c,ps⟩:=x
 obtain ⟨l',A',n',c',ps'⟩:=x'
 simp only [PlW.v,PlV.mk.injEq] at e
 obtain ⟨rfl,rfl⟩:=e
 have hs:SlH w' w'.heap.size 2 pV IntP ⟨A',n',c',ps'⟩:=own_sl (s:=⟨A',n',c',ps'⟩) pV_len (by decide) o h.prs.int
 exact ⟨hs.nc,hs.cm,h.l,⟨hs.cells,hs.all⟩⟩
theorem OneOp.of_own {x x':OpW} (h:OneOp w B x) (e:x'.v=x.v) (o:OwOp w' lo x'):OneOp w' w'.heap.size x':=by
 obtain ⟨k,p,z⟩:=x
 obtain ⟨k',p',z'⟩:=x'
 simp only [OpW.v,OpV.mk.injEq] at e
 obtain ⟨rfl,e2,rfl⟩:=e
 exact ⟨h.kind,h.pl.of_own e2 o,h.n⟩
theorem Ops.of_own {s s':SlW OpW} (h:Ops w B s) (e:s'.L.map OpW.v=s.L.map OpW.v) (o:OwOps w' lo s'):Ops w' w'.heap.size s':=
 own_sl cOp_len (by decide) o.row (all_of_map e o.all h.all fun _ _ e' o' h'=>h'.of_own e' o')
theorem OneRv.of_own {x x':RvW} (h:OneRv w B x) (e:x'.v=x.v) (o:OwRv w' lo x'):OneRv w' w'.heap.size x':=by
 obtain ⟨k,op,r,m,p,a⟩:=x
 obtain ⟨k',op',r',m',p',a'⟩:=x'
 simp only [RvW.v,RvV.mk.injEq] at e
 obtain ⟨rfl,rfl,rfl,rfl,e2,e3⟩:=e
 exact ⟨h.kind,h.op,h.region,h.pl.of_own e2 o.pl,Ops.of_own h.args e3 o.args⟩
theorem OneSt.of_own {x x':StW} (h:OneSt w B x) (e:x'.v=x.v) (o:OwSt w' lo x'):OneSt w' w'.heap.size x':=by
 obtain ⟨k,p,r,z⟩:=x
 obtain ⟨k',p',r',z'⟩:=x'
 simp only [StW.v,StV.mk.injEq] at e
 obtain ⟨rfl,e2,e3,rfl⟩:=e
 exact ⟨h.kind,h.pl.of_own e2 o.pl,h.rv.of_own e3 o.rv,h.loc⟩
theorem Ints.of_own {s s':SlW Int} (h:Ints w B s) (e:s'.L=s.L) (o:OwInts w' lo s'):Ints w' w'.heap.size s':=own_sl cInt_len (by decide) o (e ▸ h.all)
theorem OneTm.of_own {x x':TmW} (h:OneTm w B x) (e:x'.v=x.v) (o:OwTm w' lo x'):OneTm w' w'.heap.size x':=by
 obtain ⟨k,t,a,p,nm⟩:=x
 obtain ⟨k',t',a',p',nm'⟩:=x'
 simp only [TmW.v,TmV.mk.injEq] at e
 obtain ⟨rfl,e1,e2,e3,rfl⟩:=e
 exact ⟨h.kind,Ints.of_own h.targets e1 o.targets,Ops.of_own h.args e2 o.args,h.pl.of_own e3 o.pl,h.name⟩
theorem OneBk.of_own {x x':BkW} (h:OneBk w B x) (e:x'.v=x.v) (o:OwBk w' lo x'):OneBk w' w'.heap.size x':=by
 obtain ⟨s,t⟩:=x
 obtain ⟨s',t'⟩:=x'
 simp only [BkW.v,BkV.mk.injEq] at e
 exact ⟨own_sl cSt_len (by decide) o.stmts.row (all_of_map e.1 o.stmts.all h.stmts.all fun _ _ e' o' h'=>h'.of_own e' o'),h.term.of_own e.2 o.term⟩
theorem OneT.of_own {x x':TyW} (h:OneT w B x) (e:x'.t=x.t) (o:OwTy w' lo x'):OneT w' w'.heap.size x':=by
 obtain ⟨t,A,n,c⟩:=x
 obtain ⟨t',A',n',c'⟩:=x'
 simp only [] at e
 subst e
 have hs:Ints w' w'.heap.size ⟨A',n',c',t'.fields⟩:=own_sl (s:=⟨A',n',c',t'.fields⟩) cInt_len (by decide) o h.ok.f
 exact ⟨⟨hs.nc,hs.cm,hs.len,h.ok.k,h.ok.r,h.ok.e,hs.all⟩,hs.rd⟩
theorem OneBd.of_own {x x':BdW} (h:OneBd w B x) (e:x'.v=x.v) (o:OwBd w' lo x'):OneBd w' w'.heap.size x':=by
 obtain ⟨nm,r,ol,t,l,a,b⟩:=x
 obtain ⟨nm',r',ol',t',l',a',b'⟩:=x'
 simp only [BdW.v,BdV.mk.injEq,tys] at e
 obtain ⟨rfl,e1,e2,e3,e4,rfl,e5⟩:=e
 refine ⟨h.name,own_sl cStr_len (by decide) o.regions (e1 ▸ h.regions.all),own_sl pV_len (by decide) o.outl (e2 ▸ h.outl.all),own_sl c5_len (by decide) o.types.row (all_of_map (v:=TyW.t) e3 o.types.all h.types.all fun _ _ e' o' h'=>h'.of_own e' o'),
  own_sl cLc_len (by decide) o.locals (all_of_map (v:=LcW.v) (R:=fun _=>True) e4 (fun _ _=>trivial) h.locals.all fun y y' e' _ h'=>?_),h.args,own_sl cBk_len (by decide) o.blocks.row (all_of_map e5 o.blocks.all h.blocks.all fun _ _ e' o' h'=>h'.of_own e' o')⟩
 simp only [LcW.v,LcV.mk.injEq] at e'
 rw [e'.1,e'.2]
 exact h'
end
end Go.Proofs.YtfgacmgjpikgaaaGreatDoor
namespace Go.Proofs.YtfgacmgjpikgaaaGreatDoor
open Go.RowKit Go.Shelf
end Go.Proofs.YtfgacmgjpikgaaaGreatDoor
namespace Go.Proofs.YtfgacmgjpikgaaaGreatDoor
open Go.RowKit Go.Shelf
def SmOp (x:OpW):Prop:=x.pl.n≤2 ^ 39
structure SmOps (s:SlW OpW):Prop where
 n:s.n≤2 ^ 39
 all:∀ x∈s.L,SmOp x
structure SmSt (x:StW):Prop where
 pl:x.pl.n≤2 ^ 39
 rpl:x.rv.pl.n≤2 ^ 39
 args:SmOps x.rv.args
structure SmTm (x:TmW):Prop where
 targets:x.targets.n≤2 ^ 39
 args:SmOps x.args
 pl:x.pl.n≤2 ^ 39
structure SmBk (x:BkW):Prop where
 n:x.stmts.n≤2 ^ 39
 all:∀ s∈x.stmts.L,SmSt s
 term:SmTm x.term
end Go.Proofs.YtfgacmgjpikgaaaGreatDoor
namespace Go.Proofs.YtfgacmgjpikgaaaGreatDoor
open Go.RowKit Go.Shelf
end Go.Proofs.YtfgacmgjpikgaaaGreatDoor
namespace Go.Proofs.YtfgacmgjpikgaaaGreatDoor
open Go.RowKit Go.Shelf
end Go.Proofs.YtfgacmgjpikgaaaGreatDoor
namespace Go.Proofs.YtfgacmgjpikgaaaGreatDoor
open Go.RowKit
def KT (e:TypeId) (w w':World):Prop:=∀ (k:Nat) (cs:Array Value) (e':TypeId) (fz:Nat×Nat),w.heap[k]?=some (.cells cs e' fz)→e'≠e→w'.heap[k]?=w.heap[k]?
section
variable {e e':TypeId} {w w':World} {lo k n:Nat} {v:Value} {xs:List Value}
theorem KT.of_grown (hg:w.grownBy w' v.ownBlock) (ho:w.ownsRow lo e k v n xs):KT e w w':=fun j cs e1 fz hj he=>by
 refine hg.block j (Array.getElem?_eq_some_iff.1 hj).1 fun h=>?_
 rcases ho.2 with ⟨rfl,_⟩ | ⟨g,cap,cur,rfl,_,h2,_⟩
 ·
  cases h
 ·
  injection h with h
  subst h
  rw [h2] at hj
  injection hj with hj
  injection hj with _ hj _
  exact he hj.symm
theorem KT.of_set {g:Nat} {cs:List Value} {T:TypeId} (h:Bx w g cs T) (j:Nat) (u:Value):KT T w (w.setCell ⟨g,j,none⟩ u):=fun i cs' e1 fz hi he=>by
 refine Below.heap_setCell w _ u i fun h'=>?_
 subst h'
 unfold Bx at h
 rw [h] at hi
 injection hi with hi
 injection hi with _ hi _
 exact he hi.symm
theorem own_kt (h:w.ownsRow lo e' k v n xs) (hk:KT e w w') (he:e'≠e):w'.ownsRow lo e' k v n xs:=by
 obtain ⟨h1,h2⟩:=h
 refine ⟨h1,?_⟩
 rcases h2 with h2 | ⟨g,cap,cur,hv,hb,hg,r⟩
 ·
  exact .inl h2
 ·
  exact .inr ⟨g,cap,cur,hv,hb,(hk _ _ _ _ hg he).trans hg,r⟩
theorem Bx.kt {g:Nat} {cs:List Value} {T:TypeId} (h:Bx w g cs T) (hk:KT e w w') (he:T≠e):Bx w' g cs T:=(hk _ _ _ _ h he).trans h
structure Inner9 (e:TypeId):Prop where
 p:102≠e
 o:38≠e
 s:46≠e
 i:3≠e
variable (hk:KT e w w') (hi:Inner9 e)
include hk hi
theorem OwPl.kt {x:PlW} (h:OwPl w lo x):OwPl w' lo x:=own_kt h hk hi.p
theorem OwOps.kt {s:SlW OpW} (h:OwOps w lo s):OwOps w' lo s:=⟨own_kt h.row hk hi.o,fun x hx=>own_kt (h.all x hx) hk hi.p⟩
theorem OwRv.kt {x:RvW} (h:OwRv w lo x):OwRv w' lo x:=⟨own_kt h.pl hk hi.p,OwOps.kt hk hi h.args⟩
theorem OwSt.kt {x:StW} (h:OwSt w lo x):OwSt w' lo x:=⟨own_kt h.pl hk hi.p,OwRv.kt hk hi h.rv⟩
theorem OwTm.kt {x:TmW} (h:OwTm w lo x):OwTm w' lo x:=⟨own_kt h.targets hk hi.i,OwOps.kt hk hi h.args,own_kt h.pl hk hi.p⟩
theorem OwBk.kt {x:BkW} (h:OwBk w lo x):OwBk w' lo x:=⟨⟨own_kt h.stmts.row hk hi.s,fun x hx=>OwSt.kt hk hi (h.stmts.all x hx)⟩,OwTm.kt hk hi h.term⟩
theorem OwTy.kt {x:TyW} (h:OwTy w lo x):OwTy w' lo x:=own_kt h hk hi.i
end
def Like (u v:Value):Prop:=u=v∨(∃ a b,u=.int .i64 a∧v=.int .i64 b∧IntR b)∨(∃ s t,u=.string s∧v=.string t)
theorem Like.int {a:Int} {v:Value} (h:Like (.int .i64 a) v) (ha:IntR a):∃ b,v=.int .i64 b∧IntR b:=by
 rcases h with rfl | ⟨_,b,_,rfl,hb⟩ | ⟨s,t,h,_⟩
 ·
  exact ⟨a,rfl,ha⟩
 ·
  exact ⟨b,rfl,hb⟩
 ·
  cases h
theorem Like.bool {a:Bool} {v:Value} (h:Like (.bool a) v):v=.bool a:=by
 rcases h with rfl | ⟨_,b,h,_⟩ | ⟨s,t,h,_⟩
 ·
  rfl
 ·
  cases h
 ·
  cases h
theorem Like.slice {A:Option Addr} {n c:Nat} {v:Value} (h:Like (.slice A n c) v):v=.slice A n c:=by
 rcases h with rfl | ⟨_,b,h,_⟩ | ⟨s,t,h,_⟩
 ·
  rfl
 ·
  cases h
 ·
  cases h
theorem Like.str {s:ByteArray} {v:Value} (h:Like (.string s) v):∃ t,v=.string t:=by
 rcases h with rfl | ⟨_,b,h,_⟩ | ⟨_,t,_,rfl⟩
 ·
  exact ⟨s,rfl⟩
 ·
  cases h
 ·
  exact ⟨t,rfl⟩
structure Sim (lo hi:Nat) (w w':World):Prop where
 os:w'.os=w.os
 tape:w'.tape=w.tape
 output:w'.output=w.output
 size:w.heap.size≤w'.heap.size
 out:∀ k,k < w.heap.size→(k < lo∨hi≤k)→w'.heap[k]?=w.heap[k]?
 mid:∀ (k:Nat) (cur:Array Value) (e:TypeId) (fz:Nat×Nat),lo≤k→k < hi→w.heap[k]?=some (.cells cur e fz)→∃ cur',w'.heap[k]?=some (.cells cur' e fz)∧cur'.size=cur.size∧∀ (p:Nat) (u:Value),cur[p]?=some u→∃ v,cur'[p]?=some v∧Like u v
section
variable {lo hi:Nat} {w w' w'':World}
theorem Sim.refl (lo hi:Nat) (w:World):Sim lo hi w w:=⟨rfl,rfl,rfl,Nat.le_refl _,fun _ _ _=>rfl,fun k cur e fz _ _ h=>⟨cur,h,rfl,fun p u hu=>⟨u,hu,.inl rfl⟩⟩⟩
theorem Sim.below (h:Sim lo hi w w') (hl:lo≤w.heap.size):Below lo w w':=⟨h.os,h.tape,h.output,h.size,fun k hk=>h.out k (Nat.lt_of_lt_of_le hk hl) (.inl hk)⟩
theorem Sim.keep (h:Sim lo hi w w'):Keep hi w w':=⟨h.size,fun k hk hl=>h.out k hl (.inr hk)⟩
theorem Sim.more (h:Sim lo hi w w') (hb:Below w'.heap.size w' w'') (hh:hi≤w.heap.size):Sim lo hi w w'':=
 ⟨hb.os.trans h.os,hb.tape.trans h.tape,hb.output.trans h.output,Nat.le_trans h.size hb.size,fun k hk ho=>(hb.block k (Nat.lt_of_lt_of_le hk h.size)).trans (h.out k hk ho),fun k cur e fz h1 h2 h3=>by
  obtain ⟨cur',k1,k2,k3⟩:=h.mid k cur e fz h1 h2 h3
  exact ⟨cur',(hb.block k (by have:=h.size;omega)).trans k1,k2,k3⟩⟩
theorem Sim.drew (h:Sim lo hi w w'):Sim lo hi w w'.drew:=⟨h.os,h.tape,h.output,h.size,h.out,h.mid⟩
theorem Sim.box (h:Sim lo hi w w') {g:Nat} {cs:List Value} {T:TypeId} (hx:Bx w g cs T) (hg:hi≤g):Bx w' g cs T:=(h.out g hx.lt (.inr hg)).trans hx
end
theorem Strs.rd {w:World} {B:Nat} {s:SlW ByteArray} (h:Strs w B s):Rd w B s.A s.n (sV s.L):=by
 refine ⟨by rw [List.length_map];exact h.len,fun hn=>?_⟩
 obtain ⟨b,o,h1,h2,h3⟩:=h.cells.2 hn
 refine ⟨b,o,h1,h2,fun j u hu=>?_⟩
 rw [List.getElem?_map] at hu
 cases hx:s.L[j]? with
 | none=>rw [hx] at hu;cases hu
 | some x=>
  rw [hx] at hu
  injection hu with hu
  have:=h3 j x hx 0 (.string x) rfl
  rw [←hu]
  simpa using this
theorem sumN_bound {α:Type} {f:α→Nat} {l:List α} {C:Nat} (h:∀ x∈l,f x≤C):sumN f l≤l.length*C:=by
 induction l with
 | nil=>simp [sumN]
 | cons a l ih=>
  rw [sumN_cons,List.length_cons,Nat.add_mul,Nat.one_mul]
  have h1:=h a (List.mem_cons_self ..)
  have h2:=ih fun x hx=>h x (List.mem_cons_of_mem _ hx)
  omega
theorem min_le9 {n:Nat} (h:min n 9000≤3000):n≤3000:=by omega
theorem sz_ops {s:SlW OpW} (hl:s.L.length=s.n) (h:szOps s≤3000):s.n≤3000∧(∀ o∈s.L,o.pl.n≤3000)∧sumN (fun o:OpW=>o.pl.n) s.L≤3000:=by
 unfold szOps at h
 exact ⟨by omega,fun o ho=>by have:=sumN_one (f:=fun o:OpW=>o.pl.n) ho;omega,by omega⟩
theorem le39 {n:Nat} (h:n≤3000):n≤2 ^ 39:=Nat.le_trans h (by decide)
theorem sm_ops {s:SlW OpW} (hl:s.L.length=s.n) (h:szOps s≤3000):SmOps s:=⟨le39 (sz_ops hl h).1,fun o ho=>le39 ((sz_ops hl h).2.1 o ho)⟩
theorem opsN_bound {w:World} {B:Nat} {s:SlW OpW} (hs:Ops w B s) (h:szOps s≤3000):opsN (s.L.map OpW.v)≤10000000:=by
 have h1:=sz_ops hs.len h
 rw [opsN,sumN_map]
 have h2:sumN (fun x=>opN (OpW.v x)) s.L≤s.L.length*3002:=sumN_bound fun o ho=>by
  have e:=(hs.all o ho).pl.prs.len
  have:=h1.2.1 o ho
  show 1+(1+o.pl.ps.length)≤3002
  rw [e]
  omega
 have h3:=hs.len
 have h4:s.L.length*3002≤3000*3002:=Nat.mul_le_mul_right _ (by omega)
 omega
theorem sz_st {w:World} {B:Nat} {x:StW} (hx:OneSt w B x) (h:szSt x≤3000):SmSt x∧stN x.v≤20000000∧x.rv.args.n≤3000:=by
 unfold szSt at h
 have h1:szOps x.rv.args≤3000:=by omega
 have h2:=opsN_bound hx.rv.args h1
 have e1:=hx.pl.prs.len
 have e2:=hx.rv.pl.prs.len
 refine ⟨⟨le39 (by omega),le39 (by omega),sm_ops hx.rv.args.len h1⟩,?_,(sz_ops hx.rv.args.len h1).1⟩
 show 1+(1+x.pl.ps.length)+1+(1+x.rv.pl.ps.length)+opsN (x.rv.args.L.map OpW.v)≤20000000
 rw [e1,e2]
 omega
theorem sz_bk {w:World} {B:Nat} {x:BkW} (hx:OneBk w B x) (h:szBk x≤3000):SmBk x∧bkN x.v≤100000000000∧(opsOf x).length≤2 ^ 39∧x.term.name.size≤3000:=by
 unfold szBk at h
 have hst:∀ s∈x.stmts.L,szSt s≤3000:=fun s hs=>by have:=sumN_one (f:=szSt) hs;omega
 have h1:szOps x.term.args≤3000:=by omega
 have hl:=hx.stmts.len
 have el:=hx.term.targets.len
 have ep:=hx.term.pl.prs.len
 have h2:=opsN_bound hx.term.args h1
 have ha:=sz_ops hx.term.args.len h1
 refine ⟨⟨le39 (by omega),fun s hs=>(sz_st (hx.stmts.all s hs) (hst s hs)).1,⟨le39 (by omega),sm_ops hx.term.args.len h1,le39 (by omega)⟩⟩,?_,?_,by omega⟩
 ·
  show sumN stN (x.stmts.L.map StW.v)+(1+x.term.targets.L.length+opsN (x.term.args.L.map OpW.v)+(1+x.term.pl.ps.length))≤100000000000
  rw [sumN_map]
  have h3:sumN (fun s=>stN (StW.v s)) x.stmts.L≤x.stmts.L.length*20000000:=sumN_bound fun s hs=>(sz_st (hx.stmts.all s hs) (hst s hs)).2.1
  have h4:x.stmts.L.length*20000000≤3000*20000000:=Nat.mul_le_mul_right _ (by omega)
  rw [ep,el]
  omega
 ·
  unfold opsOf
  rw [List.length_append,hx.term.args.len]
  have h3:(x.stmts.L.flatMap (fun s:StW=>s.rv.args.L)).length≤x.stmts.L.length*3000:=by
   have:(x.stmts.L.flatMap (fun s:StW=>s.rv.args.L)).length=sumN (fun s:StW=>s.rv.args.L.length) x.stmts.L:=by rw [List.length_flatMap];rfl
   rw [this]
   exact sumN_bound fun s hs=>by rw [(hx.stmts.all s hs).rv.args.len];exact (sz_st (hx.stmts.all s hs) (hst s hs)).2.2
  have h4:x.stmts.L.length*3000≤3000*3000:=Nat.mul_le_mul_right _ (by omega)
  have h5:=ha.1
  omega
end Go.Proofs.YtfgacmgjpikgaaaGreatDoor
