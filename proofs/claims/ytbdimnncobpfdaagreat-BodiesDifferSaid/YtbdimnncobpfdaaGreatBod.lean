/- Bodies in memory: operands, rvalues, statements, terminators, blocks, a body; each with the cells in which it lies, and with its value. -/
import Derived.Test.YtbdimnncobpfdaaGreatPla
set_option linter.unusedVariables false
namespace Go.Proofs.YtbdimnncobpfdaaGreat
open Go.RowKit

/-! ### slices -/
/-- a slice, and what it holds -/
structure SlW (α : Type) where
  A : Option Addr
  n : Nat
  c : Nat
  L : List α
abbrev SlW.val {α : Type} (s : SlW α) : Value := .slice s.A s.n s.c
/-- how it lies: rows of k cells, f of each, and Q of each -/
structure SlH {α : Type} (w : World) (B : Nat) (k : Nat) (f : α → List Value) (Q : α → Prop) (s : SlW α) : Prop where
  nc : s.n ≤ s.c
  cm : s.c ≤ maxLen
  cells : Cells w B k f s.A s.n s.L
  all : ∀ x ∈ s.L, Q x
section
variable {α : Type} {w w' : World} {B B' k : Nat} {f : α → List Value} {Q Q' : α → Prop} {s : SlW α}
theorem SlH.below (h : SlH w B k f Q s) (hb : Below B w w') (hQ : ∀ x, Q x → Q' x) : SlH w' B k f Q' s := ⟨h.nc, h.cm, h.cells.below hb, fun x hx => hQ x (h.all x hx)⟩
theorem SlH.more (h : SlH w B k f Q s) (hb : B ≤ B') (hQ : ∀ x, Q x → Q' x) : SlH w B' k f Q' s := ⟨h.nc, h.cm, h.cells.more hb, fun x hx => hQ x (h.all x hx)⟩
theorem SlH.len (h : SlH w B k f Q s) : s.L.length = s.n := h.cells.1
theorem SlH.nm (h : SlH w B k f Q s) : s.n ≤ maxLen := Nat.le_trans h.nc h.cm
theorem SlH.get (h : SlH w B k f Q s) {i : Nat} (hi : i < s.n) : ∃ x, s.L[i]? = some x := ⟨_, List.getElem?_eq_getElem (by have := h.len; omega)⟩
theorem SlH.at_ (h : SlH w B k f Q s) {i : Nat} {x : α} (hx : s.L[i]? = some x) : ∃ b o, s.A = some ⟨b, o, none⟩ ∧ b < B ∧ Q x ∧ ∀ j u, (f x)[j]? = some u → w.cell? ⟨b, o + i * k + j, none⟩ = some u := by
  obtain ⟨b, o, h1, h2, h3⟩ := h.cells.at_ hx
  exact ⟨b, o, h1, h2, h.all x (List.mem_of_getElem? hx), h3⟩
end

/-- a list of numbers, of strings -/
def cInt (x : Int) : List Value := [.int .i64 x]
def cStr (s : ByteArray) : List Value := [.string s]
abbrev Ints (w : World) (B : Nat) (s : SlW Int) : Prop := SlH w B 1 cInt IntR s
abbrev Strs (w : World) (B : Nat) (s : SlW ByteArray) : Prop := SlH w B 1 cStr (fun x => x.size ≤ maxLen) s
theorem Ints.rd {w : World} {B : Nat} {s : SlW Int} (h : Ints w B s) : Rd w B s.A s.n (i64s s.L) := by
  refine ⟨by rw [List.length_map]; exact h.len, fun hn => ?_⟩
  obtain ⟨b, o, h1, h2, h3⟩ := h.cells.2 hn
  refine ⟨b, o, h1, h2, fun j u hu => ?_⟩
  rw [List.getElem?_map] at hu
  cases hx : s.L[j]? with
  | none => rw [hx] at hu; cases hu
  | some x =>
    rw [hx] at hu
    injection hu with hu
    have := h3 j x hx 0 (.int .i64 x) rfl
    rw [← hu]
    simpa using this

/-! ### values -/
structure PlV where
  l : Int
  ps : List Pr
structure OpV where
  kind : Int
  pl : PlV
  n : Int
structure RvV where
  kind : Int
  op : Int
  region : Int
  mut_ : Bool
  pl : PlV
  args : List OpV
structure StV where
  kind : Int
  pl : PlV
  rv : RvV
  loc : Int
structure TmV where
  kind : Int
  targets : List Int
  args : List OpV
  pl : PlV
  name : ByteArray
structure BkV where
  stmts : List StV
  term : TmV
structure LcV where
  name : ByteArray
  ty : Int
structure BdV where
  name : ByteArray
  regions : List ByteArray
  outl : List Pr
  types : List Ty
  locals : List LcV
  args : Int
  blocks : List BkV

/-! ### .. with their addresses -/
structure OpW where
  kind : Int
  pl : PlW
  n : Int
structure RvW where
  kind : Int
  op : Int
  region : Int
  mut_ : Bool
  pl : PlW
  args : SlW OpW
structure StW where
  kind : Int
  pl : PlW
  rv : RvW
  loc : Int
structure TmW where
  kind : Int
  targets : SlW Int
  args : SlW OpW
  pl : PlW
  name : ByteArray
structure BkW where
  stmts : SlW StW
  term : TmW
structure BdW where
  name : ByteArray
  regions : SlW ByteArray
  outl : SlW Pr
  types : SlW TyW
  locals : SlW LcW
  args : Int
  blocks : SlW BkW
def PlW.v (x : PlW) : PlV := ⟨x.l, x.ps⟩
def OpW.v (x : OpW) : OpV := ⟨x.kind, x.pl.v, x.n⟩
def RvW.v (x : RvW) : RvV := ⟨x.kind, x.op, x.region, x.mut_, x.pl.v, x.args.L.map OpW.v⟩
def StW.v (x : StW) : StV := ⟨x.kind, x.pl.v, x.rv.v, x.loc⟩
def TmW.v (x : TmW) : TmV := ⟨x.kind, x.targets.L, x.args.L.map OpW.v, x.pl.v, x.name⟩
def BkW.v (x : BkW) : BkV := ⟨x.stmts.L.map StW.v, x.term.v⟩
def LcW.v (x : LcW) : LcV := ⟨x.name, x.ty⟩
def BdW.v (x : BdW) : BdV := ⟨x.name, x.regions.L, x.outl.L, tys x.types.L, x.locals.L.map LcW.v, x.args, x.blocks.L.map BkW.v⟩

/-! ### their cells -/
def cOp (x : OpW) : List Value := [.int .i64 x.kind, .int .i64 x.pl.l, .slice x.pl.A x.pl.n x.pl.c, .int .i64 x.n]
def cRv (x : RvW) : List Value := [.int .i64 x.kind, .int .i64 x.op, .int .i64 x.region, .bool x.mut_, .int .i64 x.pl.l, .slice x.pl.A x.pl.n x.pl.c, .slice x.args.A x.args.n x.args.c]
def cSt (x : StW) : List Value := [.int .i64 x.kind, .int .i64 x.pl.l, .slice x.pl.A x.pl.n x.pl.c, .int .i64 x.rv.kind, .int .i64 x.rv.op, .int .i64 x.rv.region, .bool x.rv.mut_, .int .i64 x.rv.pl.l, .slice x.rv.pl.A x.rv.pl.n x.rv.pl.c, .slice x.rv.args.A x.rv.args.n x.rv.args.c, .int .i64 x.loc]
def cTm (x : TmW) : List Value := [.int .i64 x.kind, .slice x.targets.A x.targets.n x.targets.c, .slice x.args.A x.args.n x.args.c, .int .i64 x.pl.l, .slice x.pl.A x.pl.n x.pl.c, .string x.name]
def cBk (x : BkW) : List Value := [.slice x.stmts.A x.stmts.n x.stmts.c, .int .i64 x.term.kind, .slice x.term.targets.A x.term.targets.n x.term.targets.c, .slice x.term.args.A x.term.args.n x.term.args.c, .int .i64 x.term.pl.l, .slice x.term.pl.A x.term.pl.n x.term.pl.c, .string x.term.name]
def cBd (x : BdW) : List Value := [.string x.name, .slice x.regions.A x.regions.n x.regions.c, .slice x.outl.A x.outl.n x.outl.c, .slice x.types.A x.types.n x.types.c, .slice x.locals.A x.locals.n x.locals.c, .int .i64 x.args, .slice x.blocks.A x.blocks.n x.blocks.c]
theorem cOp_len (x : OpW) : (cOp x).length = 4 := rfl
theorem cRv_len (x : RvW) : (cRv x).length = 7 := rfl
theorem cSt_len (x : StW) : (cSt x).length = 11 := rfl
theorem cTm_len (x : TmW) : (cTm x).length = 6 := rfl
theorem cBk_len (x : BkW) : (cBk x).length = 7 := rfl
theorem cBd_len (x : BdW) : (cBd x).length = 7 := rfl
theorem cInt_len (x : Int) : (cInt x).length = 1 := rfl
theorem cStr_len (x : ByteArray) : (cStr x).length = 1 := rfl
/-- .. as values -/
abbrev aggOp (x : OpW) : Value := .agg #[.int .i64 x.kind, .int .i64 x.pl.l, .slice x.pl.A x.pl.n x.pl.c, .int .i64 x.n]
abbrev aggRv (x : RvW) : Value := .agg #[.int .i64 x.kind, .int .i64 x.op, .int .i64 x.region, .bool x.mut_, .int .i64 x.pl.l, .slice x.pl.A x.pl.n x.pl.c, .slice x.args.A x.args.n x.args.c]
abbrev aggSt (x : StW) : Value := .agg #[.int .i64 x.kind, .int .i64 x.pl.l, .slice x.pl.A x.pl.n x.pl.c, .int .i64 x.rv.kind, .int .i64 x.rv.op, .int .i64 x.rv.region, .bool x.rv.mut_, .int .i64 x.rv.pl.l, .slice x.rv.pl.A x.rv.pl.n x.rv.pl.c, .slice x.rv.args.A x.rv.args.n x.rv.args.c, .int .i64 x.loc]
abbrev aggTm (x : TmW) : Value := .agg #[.int .i64 x.kind, .slice x.targets.A x.targets.n x.targets.c, .slice x.args.A x.args.n x.args.c, .int .i64 x.pl.l, .slice x.pl.A x.pl.n x.pl.c, .string x.name]
abbrev aggBk (x : BkW) : Value := .agg #[.slice x.stmts.A x.stmts.n x.stmts.c, .int .i64 x.term.kind, .slice x.term.targets.A x.term.targets.n x.term.targets.c, .slice x.term.args.A x.term.args.n x.term.args.c, .int .i64 x.term.pl.l, .slice x.term.pl.A x.term.pl.n x.term.pl.c, .string x.term.name]
abbrev aggBd (x : BdW) : Value := .agg #[.string x.name, .slice x.regions.A x.regions.n x.regions.c, .slice x.outl.A x.outl.n x.outl.c, .slice x.types.A x.types.n x.types.c, .slice x.locals.A x.locals.n x.locals.c, .int .i64 x.args, .slice x.blocks.A x.blocks.n x.blocks.c]

/-! ### how they lie -/
structure OneOp (w : World) (B : Nat) (x : OpW) : Prop where
  kind : IntR x.kind
  pl : OnePl w B x.pl
  n : IntR x.n
abbrev Ops (w : World) (B : Nat) (s : SlW OpW) : Prop := SlH w B 4 cOp (OneOp w B) s
structure OneRv (w : World) (B : Nat) (x : RvW) : Prop where
  kind : IntR x.kind
  op : IntR x.op
  region : IntR x.region
  pl : OnePl w B x.pl
  args : Ops w B x.args
structure OneSt (w : World) (B : Nat) (x : StW) : Prop where
  kind : IntR x.kind
  pl : OnePl w B x.pl
  rv : OneRv w B x.rv
  loc : IntR x.loc
structure OneTm (w : World) (B : Nat) (x : TmW) : Prop where
  kind : IntR x.kind
  targets : Ints w B x.targets
  args : Ops w B x.args
  pl : OnePl w B x.pl
  name : x.name.size ≤ maxLen
structure OneBk (w : World) (B : Nat) (x : BkW) : Prop where
  stmts : SlH w B 11 cSt (OneSt w B) x.stmts
  term : OneTm w B x.term
structure OneBd (w : World) (B : Nat) (x : BdW) : Prop where
  name : x.name.size ≤ maxLen
  regions : Strs w B x.regions
  outl : SlH w B 2 pV IntP x.outl
  types : SlH w B 5 c5 (OneT w B) x.types
  locals : SlH w B 2 cLc (fun y => IntR y.ty ∧ y.name.size ≤ maxLen) x.locals
  args : IntR x.args
  blocks : SlH w B 7 cBk (OneBk w B) x.blocks
section
variable {w w' : World} {B B' : Nat} (hb : Below B w w')
include hb
theorem OneOp.below {x : OpW} (h : OneOp w B x) : OneOp w' B x := ⟨h.kind, h.pl.below hb, h.n⟩
theorem Ops.below {s : SlW OpW} (h : Ops w B s) : Ops w' B s := SlH.below h hb fun _ h => h.below hb
theorem OneRv.below {x : RvW} (h : OneRv w B x) : OneRv w' B x := ⟨h.kind, h.op, h.region, h.pl.below hb, Ops.below hb h.args⟩
theorem OneSt.below {x : StW} (h : OneSt w B x) : OneSt w' B x := ⟨h.kind, h.pl.below hb, h.rv.below hb, h.loc⟩
theorem OneTm.below {x : TmW} (h : OneTm w B x) : OneTm w' B x := ⟨h.kind, SlH.below h.targets hb fun _ h => h, Ops.below hb h.args, h.pl.below hb, h.name⟩
theorem OneBk.below {x : BkW} (h : OneBk w B x) : OneBk w' B x := ⟨SlH.below h.stmts hb fun _ h => h.below hb, h.term.below hb⟩
theorem OneBd.below {x : BdW} (h : OneBd w B x) : OneBd w' B x := ⟨h.name, SlH.below h.regions hb fun _ h => h, SlH.below h.outl hb fun _ h => h, SlH.below h.types hb fun _ h => OneT.below h hb, SlH.below h.locals hb fun _ h => h, h.args, SlH.below h.blocks hb fun _ h => h.below hb⟩
end
section
variable {w : World} {B B' : Nat} (hb : B ≤ B')
include hb
theorem OneOp.more {x : OpW} (h : OneOp w B x) : OneOp w B' x := ⟨h.kind, h.pl.more hb, h.n⟩
theorem Ops.more {s : SlW OpW} (h : Ops w B s) : Ops w B' s := SlH.more h hb fun _ h => h.more hb
theorem OneRv.more {x : RvW} (h : OneRv w B x) : OneRv w B' x := ⟨h.kind, h.op, h.region, h.pl.more hb, Ops.more hb h.args⟩
theorem OneSt.more {x : StW} (h : OneSt w B x) : OneSt w B' x := ⟨h.kind, h.pl.more hb, h.rv.more hb, h.loc⟩
theorem OneTm.more {x : TmW} (h : OneTm w B x) : OneTm w B' x := ⟨h.kind, SlH.more h.targets hb fun _ h => h, Ops.more hb h.args, h.pl.more hb, h.name⟩
theorem OneBk.more {x : BkW} (h : OneBk w B x) : OneBk w B' x := ⟨SlH.more h.stmts hb fun _ h => h.more hb, h.term.more hb⟩
theorem OneBd.more {x : BdW} (h : OneBd w B x) : OneBd w B' x := ⟨h.name, SlH.more h.regions hb fun _ h => h, SlH.more h.outl hb fun _ h => h, SlH.more h.types hb fun _ h => OneT.more h hb, SlH.more h.locals hb fun _ h => h, h.args, SlH.more h.blocks hb fun _ h => h.more hb⟩
end
/-- in a later world -/
theorem OneBd.up {w w' : World} {x : BdW} (h : OneBd w w.heap.size x) (hb : Below w.heap.size w w') : OneBd w' w'.heap.size x := (h.below hb).more hb.size
theorem OneBk.up {w w' : World} {x : BkW} (h : OneBk w w.heap.size x) (hb : Below w.heap.size w w') : OneBk w' w'.heap.size x := (h.below hb).more hb.size
theorem OneTm.up {w w' : World} {x : TmW} (h : OneTm w w.heap.size x) (hb : Below w.heap.size w w') : OneTm w' w'.heap.size x := (h.below hb).more hb.size
theorem OneSt.up {w w' : World} {x : StW} (h : OneSt w w.heap.size x) (hb : Below w.heap.size w w') : OneSt w' w'.heap.size x := (h.below hb).more hb.size
theorem OneRv.up {w w' : World} {x : RvW} (h : OneRv w w.heap.size x) (hb : Below w.heap.size w w') : OneRv w' w'.heap.size x := (h.below hb).more hb.size
theorem OneOp.up {w w' : World} {x : OpW} (h : OneOp w w.heap.size x) (hb : Below w.heap.size w w') : OneOp w' w'.heap.size x := (h.below hb).more hb.size
theorem Ops.up {w w' : World} {s : SlW OpW} (h : Ops w w.heap.size s) (hb : Below w.heap.size w w') : Ops w' w'.heap.size s := Ops.more hb.size (Ops.below hb h)
/-- the words of the stages before -/
theorem OneBd.typs {w : World} {B : Nat} {x : BdW} (h : OneBd w B x) : Typs w B x.types.A x.types.n x.types.L := ⟨h.types.cells, h.types.all⟩
theorem OneBd.locs {w : World} {B : Nat} {x : BdW} (h : OneBd w B x) : Locs w B x.locals.A x.locals.n x.locals.L := ⟨h.locals.cells, fun y hy => (h.locals.all y hy).1⟩
theorem OneBd.prs {w : World} {B : Nat} {x : BdW} (h : OneBd w B x) : Prs w B x.outl.A x.outl.n x.outl.L := ⟨h.outl.cells, h.outl.all⟩
end Go.Proofs.YtbdimnncobpfdaaGreat
