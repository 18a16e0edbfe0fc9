/- Slices of structs: rows of k cells each. -/
import Derived.Test.YtbdimnncobpfdaaGreatBase
import Derived.OwnWalk
import Derived.Deep.AppendLies
set_option linter.unusedVariables false
namespace Go.Proofs.YtbdimnncobpfdaaGreat
open Go.RowKit

/-- the slice '.slice A n c' holds rows of k cells, f of each element -/
def Cells {α : Type} (w : World) (B : Nat) (k : Nat) (f : α → List Value) (A : Option Addr) (n : Nat) (L : List α) : Prop :=
  L.length = n ∧ (0 < n → ∃ b o, A = some ⟨b, o, none⟩ ∧ b < B ∧ ∀ (i : Nat) (x : α), L[i]? = some x → ∀ j u, (f x)[j]? = some u → w.cell? ⟨b, o + i * k + j, none⟩ = some u)
theorem Cells.below {α : Type} {w w' : World} {B k : Nat} {f : α → List Value} {A : Option Addr} {n : Nat} {L : List α} (h : Cells w B k f A n L) (hb : Below B w w') : Cells w' B k f A n L :=
  ⟨h.1, fun hn => by
    obtain ⟨b, o, h1, h2, h3⟩ := h.2 hn
    exact ⟨b, o, h1, h2, fun i x hx j u hu => (hb.cell (p := ⟨b, o + i * k + j, none⟩) h2).trans (h3 i x hx j u hu)⟩⟩
theorem Cells.more {α : Type} {w : World} {B B' k : Nat} {f : α → List Value} {A : Option Addr} {n : Nat} {L : List α} (h : Cells w B k f A n L) (hb : B ≤ B') : Cells w B' k f A n L :=
  ⟨h.1, fun hn => by
    obtain ⟨b, o, h1, h2, h3⟩ := h.2 hn
    exact ⟨b, o, h1, by omega, h3⟩⟩
theorem Cells.at_ {α : Type} {w : World} {B k : Nat} {f : α → List Value} {A : Option Addr} {n : Nat} {L : List α} (h : Cells w B k f A n L) {i : Nat} {x : α} (hx : L[i]? = some x) :
    ∃ b o, A = some ⟨b, o, none⟩ ∧ b < B ∧ ∀ j u, (f x)[j]? = some u → w.cell? ⟨b, o + i * k + j, none⟩ = some u := by
  have hi : i < L.length := by
    rcases Nat.lt_or_ge i L.length with h' | h'
    · exact h'
    · rw [List.getElem?_eq_none h'] at hx; cases hx
  obtain ⟨b, o, h1, h2, h3⟩ := h.2 (by have := h.1; omega)
  exact ⟨b, o, h1, h2, h3 i x hx⟩
theorem flatMap_at {α : Type} {f : α → List Value} {k : Nat} (hk : ∀ x, (f x).length = k) : ∀ {L : List α} {i : Nat} {x : α} {j : Nat}, L[i]? = some x → j < k → (L.flatMap f)[i * k + j]? = (f x)[j]?
  | [], i, x, j, h, _ => by simp at h
  | y :: L, 0, x, j, h, hj => by
    simp at h
    subst h
    rw [List.flatMap_cons, Nat.zero_mul, Nat.zero_add, List.getElem?_append_left (by rw [hk]; exact hj)]
  | y :: L, i + 1, x, j, h, hj => by
    have h' : L[i]? = some x := by simpa using h
    have ih := flatMap_at hk h' hj
    have e : (i + 1) * k + j = k + (i * k + j) := by rw [Nat.add_mul]; omega
    rw [List.flatMap_cons, e, List.getElem?_append_right (by rw [hk]; omega), hk, Nat.add_sub_cancel_left, ih]
theorem flatMap_len {α : Type} {f : α → List Value} {k : Nat} (hk : ∀ x, (f x).length = k) (L : List α) : (L.flatMap f).length = L.length * k := by
  induction L with
  | nil => simp
  | cons y L ih => rw [List.flatMap_cons, List.length_append, ih, hk, List.length_cons, Nat.add_mul]; omega
theorem Cells.of_own {α : Type} {w : World} {base k : Nat} {e : TypeId} {f : α → List Value} (hk : ∀ x, (f x).length = k) (h0 : 0 < k) {A : Option Addr} {n c : Nat} {L : List α} (h : w.ownsRow base e k (.slice A n c) n (L.flatMap f)) : Cells w w.heap.size k f A n L := by
  have hl : L.length = n := by
    have := h.1
    rw [flatMap_len hk] at this
    exact Nat.eq_of_mul_eq_mul_right h0 this
  refine ⟨hl, fun hn => ?_⟩
  obtain ⟨g, cap, hv, _, hlt⟩ := h.form hn
  have hA : A = some ⟨g, 0, none⟩ := by injection hv
  subst hA
  refine ⟨g, 0, rfl, hlt, fun i x hx j u hu => ?_⟩
  have hj : j < k := by
    rcases Nat.lt_or_ge j k with h' | h'
    · exact h'
    · rw [List.getElem?_eq_none (by rw [hk]; exact h')] at hu; cases hu
  have := h.cells (g := g) rfl (i * k + j) u (by rw [flatMap_at hk hx hj]; exact hu)
  unfold Addr.add at this
  split at this <;> simp_all

theorem drop_cons {α : Type} {L : List α} {k : Nat} {x : α} (h : L[k]? = some x) : L.drop k = x :: L.drop (k + 1) := by
  have hk : k < L.length := by
    rcases Nat.lt_or_ge k L.length with h' | h'
    · exact h'
    · rw [List.getElem?_eq_none h'] at h; cases h
  rw [List.drop_eq_getElem_cons hk]
  rw [List.getElem?_eq_getElem hk] at h
  injection h with h
  rw [h]
end Go.Proofs.YtbdimnncobpfdaaGreat
