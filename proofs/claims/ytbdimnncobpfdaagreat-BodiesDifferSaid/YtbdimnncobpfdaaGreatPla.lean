/- Places and locals in memory, and the form of a place: checkProj, Check, within, the reference's Check. -/
import Derived.Test.YtbdimnncobpfdaaGreatPlaM
import Derived.Test.YtbdimnncobpfdaaGreatPairs
set_option linter.unusedVariables false
namespace Go.Proofs.YtbdimnncobpfdaaGreat
open Go.RowKit

/-! ### a local: its name and its type -/
structure LcW where
  name : ByteArray
  ty : Int
def cLc (x : LcW) : List Value := [.string x.name, .int .i64 x.ty]
theorem cLc_len (x : LcW) : (cLc x).length = 2 := rfl
theorem cLc_one (x : LcW) : ∀ u ∈ cLc x, u.oneCell' = true := by intro u hu; simp only [cLc, List.mem_cons, List.not_mem_nil, or_false] at hu; rcases hu with rfl | rfl <;> rfl
structure Locs (w : World) (B : Nat) (A : Option Addr) (n : Nat) (L : List LcW) : Prop where
  cells : Cells w B 2 cLc A n L
  int : ∀ x ∈ L, IntR x.ty
theorem Locs.below {w w' : World} {B : Nat} {A : Option Addr} {n : Nat} {L : List LcW} (h : Locs w B A n L) (hb : Below B w w') : Locs w' B A n L := ⟨h.cells.below hb, h.int⟩
theorem Locs.more {w : World} {B B' : Nat} {A : Option Addr} {n : Nat} {L : List LcW} (h : Locs w B A n L) (hb : B ≤ B') : Locs w B' A n L := ⟨h.cells.more hb, h.int⟩
theorem Locs.len {w : World} {B : Nat} {A : Option Addr} {n : Nat} {L : List LcW} (h : Locs w B A n L) : L.length = n := h.cells.1
theorem Locs.at_ {w : World} {B : Nat} {A : Option Addr} {n : Nat} {L : List LcW} (h : Locs w B A n L) {i : Nat} {x : LcW} (hp : L[i]? = some x) :
    ∃ b o, A = some ⟨b, o, none⟩ ∧ b < B ∧ w.cell? ⟨b, o + i * 2, none⟩ = some (.string x.name) ∧ w.cell? ⟨b, o + i * 2 + 1, none⟩ = some (.int .i64 x.ty) := by
  obtain ⟨b, o, h1, h2, h3⟩ := h.cells.at_ hp
  exact ⟨b, o, h1, h2, h3 0 _ rfl, h3 1 _ rfl⟩
/-- the locals' types -/
abbrev lcs (L : List LcW) : List Int := L.map LcW.ty
theorem lcs_at {L : List LcW} {k : Nat} {x : LcW} (h : L[k]? = some x) : (lcs L)[k]? = some x.ty := by rw [List.getElem?_map, h]; rfl
theorem lcs_len (L : List LcW) : (lcs L).length = L.length := List.length_map _

/-! ### a place -/
structure PlW where
  l : Int
  A : Option Addr
  n : Nat
  c : Nat
  ps : List Pr
abbrev aggPl (x : PlW) : Value := .agg #[.int .i64 x.l, .slice x.A x.n x.c]
structure OnePl (w : World) (B : Nat) (x : PlW) : Prop where
  nc : x.n ≤ x.c
  cm : x.c ≤ maxLen
  l : IntR x.l
  prs : Prs w B x.A x.n x.ps
theorem OnePl.below {w w' : World} {B : Nat} {x : PlW} (h : OnePl w B x) (hb : Below B w w') : OnePl w' B x := ⟨h.nc, h.cm, h.l, h.prs.below hb⟩
theorem OnePl.more {w : World} {B B' : Nat} {x : PlW} (h : OnePl w B x) (hb : B ≤ B') : OnePl w B' x := ⟨h.nc, h.cm, h.l, h.prs.more hb⟩
/-- in a later world -/
theorem OnePl.up {w w' : World} {x : PlW} (h : OnePl w w.heap.size x) (hb : Below w.heap.size w w') : OnePl w' w'.heap.size x := (h.below hb).more hb.size
theorem Typs.up {w w' : World} {A : Option Addr} {n : Nat} {L : List TyW} (h : Typs w w.heap.size A n L) (hb : Below w.heap.size w w') : Typs w' w'.heap.size A n L := (h.below hb).more hb.size
theorem Locs.up {w w' : World} {A : Option Addr} {n : Nat} {L : List LcW} (h : Locs w w.heap.size A n L) (hb : Below w.heap.size w w') : Locs w' w'.heap.size A n L := (h.below hb).more hb.size
/-- the first k projections -/
def PlW.take (x : PlW) (k : Nat) : PlW := ⟨x.l, x.A, k, x.c, x.ps.take k⟩
theorem Prs.take {w : World} {B : Nat} {A : Option Addr} {n : Nat} {L : List Pr} (h : Prs w B A n L) {k : Nat} (hk : k ≤ n) : Prs w B A k (L.take k) := by
  have hl := h.len
  refine ⟨⟨by rw [List.length_take]; omega, fun h0 => ?_⟩, fun p hp => h.int p (List.mem_of_mem_take hp)⟩
  obtain ⟨b, o, h1, h2, h3⟩ := h.cells.2 (by omega)
  refine ⟨b, o, h1, h2, fun i x hx => h3 i x ?_⟩
  rw [List.getElem?_take] at hx
  split at hx
  · exact hx
  · cases hx
theorem OnePl.take {w : World} {B : Nat} {x : PlW} (h : OnePl w B x) {k : Nat} (hk : k ≤ x.n) : OnePl w B (x.take k) := ⟨Nat.le_trans hk h.nc, h.cm, h.l, h.prs.take hk⟩

/-! ### within -/
/-! ### the form of a projection -/
end Go.Proofs.YtbdimnncobpfdaaGreat
