/- A reader of package wire in memory, and what its inner functions do. -/
import Derived.Test.YtbdimnncobpfdaaGreatWireM
import Derived.Test.YtbdimnncobpfdaaGreatOwn
import Derived.Test.YtbdimnncobpfdaaGreatGet
import Derived.Deep.QuietTactic
import Derived.BigQuiet
set_option linter.unusedVariables false
namespace Go.Proofs.YtbdimnncobpfdaaGreat
open Go.RowKit

theorem below_drewN {B : Nat} {a w : World} (h : Below B a w) (n : Nat) : Below B a (w.drewN n) := ⟨h.os, h.tape, h.output, h.size, h.block⟩
theorem only_drewN {a w : World} {row : Option Nat} (h : a.grownBy w row) (n : Nat) : a.grownBy (w.drewN n) row := ⟨h.os, h.tape, h.output, h.size, h.block⟩
theorem only_setCell {a w : World} {g : Nat} (h : a.grownBy w (some g)) (j : Nat) (u : Value) : a.grownBy (w.setCell ⟨g, j, none⟩ u) (some g) :=
  ⟨h.os, h.tape, h.output, by simpa [World.setCell] using h.size, fun i hi hne => (Below.heap_setCell w ⟨g, j, none⟩ u i (by
    rintro rfl
    exact hne rfl)).trans (h.block i hi hne)⟩
theorem only_of_below {a w : World} (h : Below a.heap.size a w) (row : Option Nat) : a.grownBy w row := ⟨h.os, h.tape, h.output, h.size, fun i hi _ => h.block i hi⟩
theorem below_only {B : Nat} {a w w' : World} {g : Nat} (h : Below B a w) (hB : B ≤ w.heap.size) (hg : B ≤ g) (k : w.grownBy w' (some g)) : Below B a w' :=
  h.grown k hB (fun i hi => by injection hi with hi; omega)

/-- the reader of block g: what is left, and the error -/
structure CRat (w : World) (g : Nat) (A : Option Addr) (n c p : Nat) (xs : List Int) (e : Int) : Prop where
  c0 : w.cell? ⟨g, 0, none⟩ = some (.slice A n c)
  c1 : w.cell? ⟨g, 1, none⟩ = some (.int .i64 (p : Int))
  c2 : w.cell? ⟨g, 2, none⟩ = some (.int .i64 e)
  fr : ∀ j, w.frozen? ⟨g, j, none⟩ = false
  lt : g < w.heap.size
  nc : n ≤ c
  cm : c ≤ maxLen
  pn : p ≤ n
  byt : Byt xs
  rd : Rd w g A n (u8s xs)
  sm : n ≤ 1099511627776
def CR (w : World) (g : Nat) (ys : List Int) (e : Int) : Prop :=
  ∃ (A : Option Addr) (n c p : Nat) (xs : List Int), CRat w g A n c p xs e ∧ (e = 0 → ys = xs.drop p) ∧ (e ≠ 0 → ys = [])

section
variable {w w' : World} {g n c p : Nat} {A : Option Addr} {xs ys : List Int} {e : Int}
theorem CRat.len (h : CRat w g A n c p xs e) : xs.length = n := by simpa using h.rd.1
theorem CRat.keep (h : CRat w g A n c p xs e) (hs : w.heap.size ≤ w'.heap.size) (hk : ∀ q : Addr, q.block ≤ g → w'.cell? q = w.cell? q) (hf : ∀ q : Addr, q.block ≤ g → w'.frozen? q = w.frozen? q) : CRat w' g A n c p xs e :=
  ⟨(hk _ (Nat.le_refl _)).trans h.c0, (hk _ (Nat.le_refl _)).trans h.c1, (hk _ (Nat.le_refl _)).trans h.c2, fun j => (hf _ (Nat.le_refl _)).trans (h.fr j), Nat.lt_of_lt_of_le h.lt hs, h.nc, h.cm, h.pn, h.byt,
    h.rd.keep (fun q hq => hk q (Nat.le_of_lt hq)), h.sm⟩
theorem CR.keep (h : CR w g ys e) (hs : w.heap.size ≤ w'.heap.size) (hk : ∀ q : Addr, q.block ≤ g → w'.cell? q = w.cell? q) (hf : ∀ q : Addr, q.block ≤ g → w'.frozen? q = w.frozen? q) : CR w' g ys e := by
  obtain ⟨A, n, c, p, xs, h, r⟩ := h
  exact ⟨A, n, c, p, xs, h.keep hs hk hf, r⟩
theorem CR.lt (h : CR w g ys e) : g < w.heap.size := by
  obtain ⟨A, n, c, p, xs, h, r⟩ := h
  exact h.lt
/-- nothing up to the reader has turned -/
theorem CR.below {B : Nat} (h : CR w g ys e) (hb : Below B w w') (hB : g < B) : CR w' g ys e :=
  h.keep hb.size (fun q hq => hb.cell (by omega)) (fun q hq => hb.frozen (by omega))
/-- another block behind the reader has turned -/
theorem CR.far {h : Nat} (hr : CR w g ys e) (hg : w.grownBy w' (some h)) (hh : g < h) : CR w' g ys e :=
  hr.keep hg.size (fun q hq => hg.cell_far q (by have := hr.lt; omega) (fun x => by injection x with x; omega)) (fun q hq => hg.frozen_far q (by have := hr.lt; omega) (fun x => by injection x with x; omega))
theorem CR.sane (h : CR w g ys e) (h0 : -9223372036854775808 ≤ e) (h1 : e ≤ 9223372036854775807) : Sane ys e := by
  obtain ⟨A, n, c, p, xs, h, r1, r2⟩ := h
  refine ⟨?_, r2, h0, h1⟩
  by_cases he : e = 0
  · rw [r1 he]; exact h.byt.drop p
  · rw [r2 he]; exact Byt.nil
theorem CR.byt (h : CR w g ys e) : Byt ys := by
  obtain ⟨A, n, c, p, xs, h, r1, r2⟩ := h
  by_cases he : e = 0
  · rw [r1 he]; exact h.byt.drop p
  · rw [r2 he]; exact Byt.nil
/-- the position is moved -/
theorem CRat.move (h : CRat w g A n c p xs e) {p' : Nat} (hp : p' ≤ n) {v : Int} (hv : v = (p' : Int)) : CRat (w.setCell ⟨g, 1, none⟩ (.int .i64 v)) g A n c p' xs e where
  c0 := (World.cell?_setCell_other _ _ _ _ (by simp)).trans h.c0
  c1 := by rw [hv]; exact World.cell?_setCell_same _ _ _ h.c1
  c2 := (World.cell?_setCell_other _ _ _ _ (by simp)).trans h.c2
  fr := fun j => by rw [World.frozen?_setCell]; exact h.fr j
  lt := by simpa [World.setCell] using h.lt
  nc := h.nc
  cm := h.cm
  pn := hp
  byt := h.byt
  rd := h.rd.keep fun q hq => World.cell?_setCell_other _ _ _ _ (by rintro rfl; simp at hq)
  sm := h.sm
/-- the error is noted -/
theorem CRat.note (h : CRat w g A n c p xs e) (f : Int) : CRat (w.setCell ⟨g, 2, none⟩ (.int .i64 f)) g A n c p xs f where
  c0 := (World.cell?_setCell_other _ _ _ _ (by simp)).trans h.c0
  c1 := (World.cell?_setCell_other _ _ _ _ (by simp)).trans h.c1
  c2 := World.cell?_setCell_same _ _ _ h.c2
  fr := fun j => by rw [World.frozen?_setCell]; exact h.fr j
  lt := by simpa [World.setCell] using h.lt
  nc := h.nc
  cm := h.cm
  pn := h.pn
  byt := h.byt
  rd := h.rd.keep fun q hq => World.cell?_setCell_other _ _ _ _ (by rintro rfl; simp at hq)
  sm := h.sm
theorem CRat.drewN (h : CRat w g A n c p xs e) (k : Nat) : CRat (w.drewN k) g A n c p xs e := ⟨h.c0, h.c1, h.c2, h.fr, h.lt, h.nc, h.cm, h.pn, h.byt, h.rd, h.sm⟩
theorem CR.note (h : CR w g ys e) (f : Int) (hf : f ≠ 0) : CR (w.setCell ⟨g, 2, none⟩ (.int .i64 f)) g [] f := by
  obtain ⟨A, n, c, p, xs, h, r1, r2⟩ := h
  exact ⟨A, n, c, p, xs, h.note f, fun h0 => absurd h0 hf, fun _ => rfl⟩
theorem CR.note0 (h : CR w g ys 0) : CR (w.setCell ⟨g, 2, none⟩ (.int .i64 0)) g ys 0 := by
  obtain ⟨A, n, c, p, xs, h, r1, r2⟩ := h
  exact ⟨A, n, c, p, xs, h.note 0, r1, r2⟩
end

/-- the error that Err returns for a pointer: of nil it is 1 -/
def ErrOf (w : World) (q : Option Addr) (e : Int) : Prop := (q = none ∧ e = 1) ∨ ∃ g, q = some ⟨g, 0, none⟩ ∧ g < w.heap.size ∧ w.cell? ⟨g, 2, none⟩ = some (.int .i64 e)
theorem ErrOf.none_ (w : World) : ErrOf w none 1 := .inl ⟨rfl, rfl⟩
theorem CR.errOf {w : World} {g : Nat} {ys : List Int} {e : Int} (h : CR w g ys e) : ErrOf w (some ⟨g, 0, none⟩) e := by
  obtain ⟨A, n, c, p, xs, h, r1, r2⟩ := h
  exact .inr ⟨g, rfl, h.lt, h.c2⟩
theorem ErrOf.alloc {w : World} {q : Option Addr} {e : Int} (h : ErrOf w q e) (o : Obj) : ErrOf (w.alloc o) q e := by
  rcases h with h | ⟨g, h1, h2, h3⟩
  · exact .inl h
  · exact .inr ⟨g, h1, by simp; omega, (World.cell?_alloc_lt w o _ h2).trans h3⟩

theorem CRat.left {w : World} {g n c p : Nat} {A : Option Addr} {xs ys : List Int} {e : Int} (h : CRat w g A n c p xs e) (hy : ys = xs.drop p) : ((ys.length : Nat) : Int) = (n : Int) - (p : Int) := by
  rw [hy, List.length_drop, h.len]
  have := h.pn
  omega
theorem CR.len_le {w : World} {g : Nat} {ys : List Int} {e : Int} (h : CR w g ys e) : ys.length ≤ 1099511627776 := by
  obtain ⟨A, n, c, p, xs, h, r1, r2⟩ := h
  by_cases he : e = 0
  · rw [r1 he, List.length_drop, h.len]
    have := h.sm
    omega
  · rw [r2 he]; simp
theorem CR.drewN {w : World} {g : Nat} {ys : List Int} {e : Int} (h : CR w g ys e) (k : Nat) : CR (w.drewN k) g ys e := by
  obtain ⟨A, n, c, p, xs, h, r⟩ := h
  exact ⟨A, n, c, p, xs, h.drewN k, r⟩
/-! ### part -/
/-- what part returns where it succeeds -/
def PartOk (w : World) (g k : Nat) (ys : List Int) (x : Ending) (w' : World) : Prop :=
  ∃ A' c', x = .returned (.tuple #[.slice A' k c', .int .i64 0]) ∧ k ≤ c' ∧ c' ≤ maxLen ∧ Rd w' g A' k (u8s (ys.take k)) ∧ CR w' g (ys.drop k) 0 ∧ w.grownBy w' (some g)

/-! ### length -/
/-- what an inner function returns: a value and an error; the reader's position has moved -/
def Inner (w : World) (g : Nat) (v : Value) (er : Int) (zs : List Int) (x : Ending) (w' : World) : Prop :=
  x = .returned (.tuple #[v, .int .i64 er]) ∧ CR w' g zs 0 ∧ w.grownBy w' (some g)

theorem u64_of (k : Int) (h0 : 0 ≤ k) (h1 : k ≤ 9223372036854775807) : 0 ≤ k ∧ k ≤ 18446744073709551615 := by omega

end Go.Proofs.YtbdimnncobpfdaaGreat
