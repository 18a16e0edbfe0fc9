/- Two types compared, and a type looked for in a list: the code's Equal and Find, and the reference's. -/
import Derived.Test.YtphfiohjkjipiaaTyp
set_option linter.unusedVariables false
namespace Go.Proofs.Ytphfiohjkjipiaa
open Go.RowKit

theorem two_alloc (w : World) (o p : Obj) : Below w.heap.size w ((w.alloc o).alloc p) := ((Below.refl _ _).alloc (Nat.le_refl _) _).alloc (by simp) _

theorem eqTy_no {a b : Ty} (h : a ≠ b) : eqTy a b = false := by simp [eqTy, h]

/-! ### Find -/
/-- t stands at k, and not before -/
def FirstT (l : List Ty) (t : Ty) (k : Nat) : Prop := l[k]? = some t ∧ ∀ i, i < k → l[i]? ≠ some t
theorem firstT_one {l : List Ty} {t : Ty} {j k : Nat} (h : FirstT l t j) (h' : FirstT l t k) : j = k := by
  rcases Nat.lt_trichotomy j k with c | c | c
  · exact absurd h.1 (h'.2 j c)
  · exact c
  · exact absurd h'.1 (h.2 k c)
theorem firstT_ex : ∀ {l : List Ty} {t : Ty}, t ∈ l → ∃ k, FirstT l t k
  | [], _, h => by cases h
  | x :: l, t, h => by
    by_cases hx : x = t
    · exact ⟨0, by simp [hx], fun i hi => absurd hi (by omega)⟩
    · have hm : t ∈ l := by
        rcases List.mem_cons.1 h with e | h
        · exact absurd e.symm hx
        · exact h
      obtain ⟨k, h1, h2⟩ := firstT_ex hm
      refine ⟨k + 1, by simpa using h1, fun i hi => ?_⟩
      cases i with
      | zero => simp [hx]
      | succ i => simpa using h2 i (by omega)
theorem firstT_ok {l : List Ty} {r : Int} (h : TyOk l r) {t : Ty} {k : Nat} (hk : l[k]? = some t) : FirstT l t k := ⟨hk, fun i hi e => by have := h.inj e hk; omega⟩

/-- what a box holds is there while nothing that lies is turned -/
theorem box_at {w wr : World} {cs : Array Value} {t : TypeId} (h : Below (w.heap.size + 1) (w.alloc (.cells cs t)) wr) {j : Nat} {u : Value} (hj : cs[j]? = some u) : wr.cell? ⟨w.heap.size, j, none⟩ = some u := by
  rw [h.cell (p := ⟨w.heap.size, j, none⟩) (Nat.lt_succ_self _), cell_of_row (w.alloc (.cells cs t)) w.heap.size j cs t (0, 0) (heap_alloc_new w _), hj]
theorem box_below {w wr : World} {o : Obj} (h : Below (w.heap.size + 1) (w.alloc o) wr) : Below w.heap.size w wr := ((Below.refl _ _).alloc (Nat.le_refl _) o).trans (h.mono (Nat.le_succ _))

end Go.Proofs.Ytphfiohjkjipiaa
