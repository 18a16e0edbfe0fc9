/- Sections in memory: a slice of them that came in or was made, two or four cells each. -/
import Derived.Test.YtgfeimlieibjhaaContN
import Derived.Test.YtgfeimlieibjhaaOwn
import Derived.Test.YtgfeimlieibjhaaAppend
import Derived.Deep.AppendLies
set_option linter.unusedVariables false
namespace Go.Proofs.Ytgfeimlieibjhaa
open Go.RowKit

/-- a section as it lies in memory -/
structure SecW where
  id : Int
  A : Option Addr
  n : Nat
  c : Nat
  xs : List Int
  fr : Nat
  to : Nat
def SecW.v (x : SecW) : Sec := (x.id, x.xs)
structure SecW.ok (x : SecW) : Prop where
  nc : x.n ≤ x.c
  cm : x.c ≤ maxLen
  byt : Byt x.xs
  len : x.xs.length = x.n
  id0 : -9223372036854775808 ≤ x.id
  id1 : x.id ≤ 9223372036854775807
def c2 (x : SecW) : List Value := [.int .i64 x.id, .slice x.A x.n x.c]
def c4 (x : SecW) : List Value := [.int .i64 x.id, .slice x.A x.n x.c, .int .i64 x.fr, .int .i64 x.to]
theorem c2_len (x : SecW) : (c2 x).length = 2 := rfl
theorem c4_len (x : SecW) : (c4 x).length = 4 := rfl
theorem c2_one (x : SecW) : ∀ u ∈ c2 x, u.oneCell' = true := by intro u hu; simp only [c2, List.mem_cons, List.not_mem_nil, or_false] at hu; rcases hu with rfl | rfl <;> rfl
theorem c4_one (x : SecW) : ∀ u ∈ c4 x, u.oneCell' = true := by intro u hu; simp only [c4, List.mem_cons, List.not_mem_nil, or_false] at hu; rcases hu with rfl | rfl | rfl | rfl <;> rfl

/-- the slice '.slice A n c' holds rows of k cells, f of each element -/
def Cells {α : Type} (w : World) (B : Nat) (k : Nat) (f : α → List Value) (A : Option Addr) (n : Nat) (L : List α) : Prop :=
  L.length = n ∧ (0 < n → ∃ b o, A = some ⟨b, o, none⟩ ∧ b < B ∧ ∀ (i : Nat) (x : α), L[i]? = some x → ∀ j u, (f x)[j]? = some u → w.cell? ⟨b, o + i * k + j, none⟩ = some u)
theorem Cells.below {α : Type} {w w' : World} {B k : Nat} {f : α → List Value} {A : Option Addr} {n : Nat} {L : List α} (h : Cells w B k f A n L) (hb : Below B w w') : Cells w' B k f A n L :=
  ⟨h.1, fun hn => by
    obtain ⟨b, o, h1, h2, h3⟩ := h.2 hn
    exact ⟨b, o, h1, h2, fun i x hx j u hu => (hb.cell (p := ⟨b, o + i * k + j, none⟩) h2).trans (h3 i x hx j u hu)⟩⟩
theorem Cells.more {α : Type} {w : World} {B B' k : Nat} {f : α → List Value} {A : Option Addr} {n : Nat} {L : List α} (h : Cells w B k f A n L) (hb : B ≤ B') : Cells w B' k f A n L :=
  ⟨h.1, fun hn => by
    obtain ⟨b, o, h1, h2, h3⟩ := h.2 hn
    exact ⟨b, o, h1, by omega, h3⟩⟩
theorem Cells.at_ {α : Type} {w : World} {B k : Nat} {f : α → List Value} {A : Option Addr} {n : Nat} {L : List α} (h : Cells w B k f A n L) {i : Nat} {x : α} (hx : L[i]? = some x) :
    ∃ b o, A = some ⟨b, o, none⟩ ∧ b < B ∧ ∀ j u, (f x)[j]? = some u → w.cell? ⟨b, o + i * k + j, none⟩ = some u := by
  have hi : i < L.length := by
    rcases Nat.lt_or_ge i L.length with h' | h'
    · exact h'
    · rw [List.getElem?_eq_none h'] at hx; cases hx
  obtain ⟨b, o, h1, h2, h3⟩ := h.2 (by have := h.1; omega)
  exact ⟨b, o, h1, h2, h3 i x hx⟩
theorem flatMap_at {α : Type} {f : α → List Value} {k : Nat} (hk : ∀ x, (f x).length = k) : ∀ {L : List α} {i : Nat} {x : α} {j : Nat}, L[i]? = some x → j < k → (L.flatMap f)[i * k + j]? = (f x)[j]?
  | [], i, x, j, h, _ => by simp at h
  | y :: L, 0, x, j, h, hj => by
    simp at h
    subst h
    rw [List.flatMap_cons, Nat.zero_mul, Nat.zero_add, List.getElem?_append_left (by rw [hk]; exact hj)]
  | y :: L, i + 1, x, j, h, hj => by
    have h' : L[i]? = some x := by simpa using h
    have ih := flatMap_at hk h' hj
    have e : (i + 1) * k + j = k + (i * k + j) := by rw [Nat.add_mul]; omega
    rw [List.flatMap_cons, e, List.getElem?_append_right (by rw [hk]; omega), hk, Nat.add_sub_cancel_left, ih]
theorem flatMap_len {α : Type} {f : α → List Value} {k : Nat} (hk : ∀ x, (f x).length = k) (L : List α) : (L.flatMap f).length = L.length * k := by
  induction L with
  | nil => simp
  | cons y L ih => rw [List.flatMap_cons, List.length_append, ih, hk, List.length_cons, Nat.add_mul]; omega
theorem Cells.of_own {α : Type} {w : World} {base k : Nat} {e : TypeId} {f : α → List Value} (hk : ∀ x, (f x).length = k) (h0 : 0 < k) {A : Option Addr} {n c : Nat} {L : List α} (h : w.ownsRow base e k (.slice A n c) n (L.flatMap f)) : Cells w w.heap.size k f A n L := by
  have hl : L.length = n := by
    have := h.1
    rw [flatMap_len hk] at this
    exact Nat.eq_of_mul_eq_mul_right h0 this
  refine ⟨hl, fun hn => ?_⟩
  obtain ⟨g, cap, hv, _, hlt⟩ := h.form hn
  have hA : A = some ⟨g, 0, none⟩ := by injection hv
  subst hA
  refine ⟨g, 0, rfl, hlt, fun i x hx j u hu => ?_⟩
  have hj : j < k := by
    rcases Nat.lt_or_ge j k with h' | h'
    · exact h'
    · rw [List.getElem?_eq_none (by rw [hk]; exact h')] at hu; cases hu
  have := h.cells (g := g) rfl (i * k + j) u (by rw [flatMap_at hk hx hj]; exact hu)
  unfold Addr.add at this
  split at this <;> simp_all

/-- the data of sections lie below B -/
def Data (w : World) (B : Nat) (L : List SecW) : Prop := ∀ x ∈ L, x.ok ∧ Rd w B x.A x.n (u8s x.xs)
theorem Data.below {w w' : World} {B : Nat} {L : List SecW} (h : Data w B L) (hb : Below B w w') : Data w' B L := fun x hx => ⟨(h x hx).1, (h x hx).2.below hb⟩
theorem Data.more {w : World} {B B' : Nat} {L : List SecW} (h : Data w B L) (hb : B ≤ B') : Data w B' L := fun x hx => ⟨(h x hx).1, (h x hx).2.more hb⟩
/-- the slice holds the sections L -/
def Secs (w : World) (B : Nat) (k : Nat) (f : SecW → List Value) (A : Option Addr) (n : Nat) (L : List SecW) : Prop := Cells w B k f A n L ∧ Data w B L
theorem Secs.below {w w' : World} {B k : Nat} {f : SecW → List Value} {A : Option Addr} {n : Nat} {L : List SecW} (h : Secs w B k f A n L) (hb : Below B w w') : Secs w' B k f A n L := ⟨h.1.below hb, h.2.below hb⟩
theorem Secs.more {w : World} {B B' k : Nat} {f : SecW → List Value} {A : Option Addr} {n : Nat} {L : List SecW} (h : Secs w B k f A n L) (hb : B ≤ B') : Secs w B' k f A n L := ⟨h.1.more hb, h.2.more hb⟩
theorem Secs.len {w : World} {B k : Nat} {f : SecW → List Value} {A : Option Addr} {n : Nat} {L : List SecW} (h : Secs w B k f A n L) : L.length = n := h.1.1
theorem Secs.at2 {w : World} {B : Nat} {A : Option Addr} {n : Nat} {L : List SecW} (h : Secs w B 2 c2 A n L) {i : Nat} {x : SecW} (hx : L[i]? = some x) :
    ∃ b o, A = some ⟨b, o, none⟩ ∧ b < B ∧ x.ok ∧ Rd w B x.A x.n (u8s x.xs) ∧ w.cell? ⟨b, o + i * 2, none⟩ = some (.int .i64 x.id) ∧ w.cell? ⟨b, o + i * 2 + 1, none⟩ = some (.slice x.A x.n x.c) := by
  obtain ⟨b, o, h1, h2, h3⟩ := h.1.at_ hx
  obtain ⟨h4, h5⟩ := h.2 x (List.mem_of_getElem? hx)
  exact ⟨b, o, h1, h2, h4, h5, h3 0 _ rfl, h3 1 _ rfl⟩
theorem Secs.at4 {w : World} {B : Nat} {A : Option Addr} {n : Nat} {L : List SecW} (h : Secs w B 4 c4 A n L) {i : Nat} {x : SecW} (hx : L[i]? = some x) :
    ∃ b o, A = some ⟨b, o, none⟩ ∧ b < B ∧ x.ok ∧ Rd w B x.A x.n (u8s x.xs) ∧ w.cell? ⟨b, o + i * 4, none⟩ = some (.int .i64 x.id) ∧ w.cell? ⟨b, o + i * 4 + 1, none⟩ = some (.slice x.A x.n x.c) ∧
      w.cell? ⟨b, o + i * 4 + 2, none⟩ = some (.int .i64 x.fr) ∧ w.cell? ⟨b, o + i * 4 + 3, none⟩ = some (.int .i64 x.to) := by
  obtain ⟨b, o, h1, h2, h3⟩ := h.1.at_ hx
  obtain ⟨h4, h5⟩ := h.2 x (List.mem_of_getElem? hx)
  exact ⟨b, o, h1, h2, h4, h5, h3 0 _ rfl, h3 1 _ rfl, h3 2 _ rfl, h3 3 _ rfl⟩
/-- the sections as the mathematics takes them -/
abbrev vals (L : List SecW) : List Sec := L.map SecW.v
theorem vals_take (L : List SecW) (k : Nat) : vals (L.take k) = (vals L).take k := List.map_take
theorem vals_at {L : List SecW} {k : Nat} {x : SecW} (h : L[k]? = some x) : (vals L)[k]? = some (x.id, x.xs) := by rw [List.getElem?_map, h]; rfl
theorem drop_cons {α : Type} {L : List α} {k : Nat} {x : α} (h : L[k]? = some x) : L.drop k = x :: L.drop (k + 1) := by
  have hk : k < L.length := by
    rcases Nat.lt_or_ge k L.length with h' | h'
    · exact h'
    · rw [List.getElem?_eq_none h'] at h; cases h
  rw [List.drop_eq_getElem_cons hk]
  rw [List.getElem?_eq_getElem hk] at h
  injection h with h
  rw [h]

/-- data that lie at or beyond lo, and that a row of the call's own does not overwrite -/
def Dat (w : World) (lo : Nat) (no : Option Nat) (x : SecW) : Prop := x.ok ∧ (0 < x.n → ∃ b o, x.A = some ⟨b, o, none⟩ ∧ lo ≤ b ∧ b < w.heap.size ∧ some b ≠ no ∧ ∀ j u, (u8s x.xs)[j]? = some u → w.cell? ⟨b, o + j, none⟩ = some u)
theorem Dat.below {w w' : World} {lo : Nat} {no : Option Nat} {x : SecW} (h : Dat w lo no x) (hb : Below w.heap.size w w') : Dat w' lo no x := ⟨h.1, fun hn => by
  obtain ⟨b, o, h1, h0, h2, h3, h4⟩ := h.2 hn
  exact ⟨b, o, h1, h0, Nat.lt_of_lt_of_le h2 hb.size, h3, fun j u hu => (hb.cell (p := ⟨b, o + j, none⟩) h2).trans (h4 j u hu)⟩⟩
theorem Dat.grown {w w' : World} {lo : Nat} {no no' : Option Nat} {x : SecW} (h : Dat w lo no x) (hg : w.grownBy w' no) (hn : no' = no ∨ no' = some w.heap.size) : Dat w' lo no' x := ⟨h.1, fun h0 => by
  obtain ⟨b, o, h1, hl, h2, h3, h4⟩ := h.2 h0
  refine ⟨b, o, h1, hl, Nat.lt_of_lt_of_le h2 hg.size, ?_, fun j u hu => (hg.cell_far ⟨b, o + j, none⟩ h2 h3).trans (h4 j u hu)⟩
  rcases hn with rfl | rfl
  · exact h3
  · intro e; injection e with e; omega⟩
theorem size_set (w : World) (a : Addr) (v : Value) : (w.setCell a v).heap.size = w.heap.size := by simp [World.setCell]
theorem Dat.setCell {w : World} {lo : Nat} {no : Option Nat} {x : SecW} (h : Dat w lo no x) {a : Addr} (ha : a.block < lo) (v : Value) : Dat (w.setCell a v) lo no x := ⟨h.1, fun h0 => by
  obtain ⟨b, o, h1, hl, h2, h3, h4⟩ := h.2 h0
  refine ⟨b, o, h1, hl, by rw [size_set]; exact h2, h3, fun j u hu => (World.cell?_setCell_other w a ⟨b, o + j, none⟩ v (fun e => ?_)).trans (h4 j u hu)⟩
  rw [e] at ha
  have : b < lo := ha
  omega⟩
theorem Dat.rd {w : World} {lo : Nat} {no : Option Nat} {x : SecW} (h : Dat w lo no x) : x.ok ∧ Rd w w.heap.size x.A x.n (u8s x.xs) := ⟨h.1, by simpa using h.1.len, fun hn => by
  obtain ⟨b, o, h1, _, h2, _, h4⟩ := h.2 hn
  exact ⟨b, o, h1, h2, h4⟩⟩
theorem Dat.of {w : World} {lo : Nat} {no : Option Nat} {x : SecW} (h : x.ok) (hr : Rd w w.heap.size x.A x.n (u8s x.xs)) (hlo : ∀ b, (Value.slice x.A x.n x.c).ownBlock = some b → lo ≤ b ∧ some b ≠ no) : Dat w lo no x := ⟨h, fun hn => by
  obtain ⟨b, o, h1, h2, h4⟩ := hr.2 hn
  have := hlo b (by rw [h1]; rfl)
  exact ⟨b, o, h1, this.1, h2, this.2, h4⟩⟩
/-- a struct written out lies in a block of its own -/
theorem news_new (w : World) (cs : List Value) (t : TypeId) : ∀ j u, cs[j]? = some u → (w.alloc (.cells cs.toArray t)).cell? ((⟨w.heap.size, 0, none⟩ : Addr).add j) = some u :=
  World.news_of_block (heap_alloc_new w _)
end Go.Proofs.Ytgfeimlieibjhaa
