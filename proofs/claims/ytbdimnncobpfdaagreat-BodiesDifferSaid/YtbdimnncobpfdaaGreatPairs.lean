/- Pairs in memory: a slice of arrays of two numbers. -/
import Derived.Test.YtbdimnncobpfdaaGreatRegM
import Derived.Test.YtbdimnncobpfdaaGreatTyp
set_option linter.unusedVariables false
namespace Go.Proofs.YtbdimnncobpfdaaGreat
open Go.RowKit

/-- a pair's cells -/
def pV (p : Pr) : List Value := [.int .i64 p.1, .int .i64 p.2]
theorem pV_len (p : Pr) : (pV p).length = 2 := rfl
theorem pV_one (p : Pr) : ∀ u ∈ pV p, u.oneCell' = true := by intro u hu; simp only [pV, List.mem_cons, List.not_mem_nil, or_false] at hu; rcases hu with rfl | rfl <;> rfl
/-- .. as a value -/
abbrev aggP (p : Pr) : Value := .agg #[.int .i64 p.1, .int .i64 p.2]
def IntP (p : Pr) : Prop := IntR p.1 ∧ IntR p.2

structure Prs (w : World) (B : Nat) (A : Option Addr) (n : Nat) (L : List Pr) : Prop where
  cells : Cells w B 2 pV A n L
  int : ∀ p ∈ L, IntP p
theorem Prs.below {w w' : World} {B : Nat} {A : Option Addr} {n : Nat} {L : List Pr} (h : Prs w B A n L) (hb : Below B w w') : Prs w' B A n L := ⟨h.cells.below hb, h.int⟩
theorem Prs.more {w : World} {B B' : Nat} {A : Option Addr} {n : Nat} {L : List Pr} (h : Prs w B A n L) (hb : B ≤ B') : Prs w B' A n L := ⟨h.cells.more hb, h.int⟩
theorem Prs.len {w : World} {B : Nat} {A : Option Addr} {n : Nat} {L : List Pr} (h : Prs w B A n L) : L.length = n := h.cells.1
theorem Prs.at_ {w : World} {B : Nat} {A : Option Addr} {n : Nat} {L : List Pr} (h : Prs w B A n L) {i : Nat} {p : Pr} (hp : L[i]? = some p) :
    ∃ b o, A = some ⟨b, o, none⟩ ∧ b < B ∧ IntP p ∧ w.cell? ⟨b, o + i * 2, none⟩ = some (.int .i64 p.1) ∧ w.cell? ⟨b, o + i * 2 + 1, none⟩ = some (.int .i64 p.2) := by
  obtain ⟨b, o, h1, h2, h3⟩ := h.cells.at_ hp
  exact ⟨b, o, h1, h2, h.int p (List.mem_of_getElem? hp), h3 0 _ rfl, h3 1 _ rfl⟩
theorem Prs.get {w : World} {B : Nat} {A : Option Addr} {n : Nat} {L : List Pr} (h : Prs w B A n L) {i : Nat} (hi : i < n) : ∃ p, L[i]? = some p := ⟨_, List.getElem?_eq_getElem (by have := h.len; omega)⟩
end Go.Proofs.YtbdimnncobpfdaaGreat
