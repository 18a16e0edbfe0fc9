/- What several layers share: a slice of bytes that a function returns, bytes.Equal, bytes.HasPrefix. -/
import Derived.Test.YtbdimnncobpfdaaGreatBase
import Derived.Test.YtbdimnncobpfdaaGreatProg
import Derived.WalkKit
import Derived.OwnWalk
import Derived.Laws.Rows
import Derived.Outline
set_option linter.unusedVariables false
namespace Go.Proofs.YtbdimnncobpfdaaGreat
open Go.RowKit

theorem infoU8 : (Tryz.prog.info? 5).map (fun i => (i.zero, i.size, i.bytes)) = some (some (.int .u8 0), 1, 1) := by kernel_rfl

/-- the slice that a function returns: its own memory, read as bytes -/
def OwnB (w w' : World) (v : Value) (xs : List Int) : Prop := ∃ A c, v = .slice A xs.length c ∧ xs.length ≤ c ∧ c ≤ maxLen ∧ Rd w' w'.heap.size A xs.length (u8s xs) ∧ w'.ownsRow w.heap.size 5 1 v xs.length (u8s xs)

theorem ownB_of {w w' : World} {v : Value} {xs : List Int} (h : w'.ownsRow w.heap.size 5 1 v xs.length (u8s xs)) : OwnB w w' v xs := by
  rcases h.2 with ⟨rfl, hx⟩ | ⟨g, cap, cur, rfl, _, _, hnc, hcap, _⟩
  · have : xs = [] := by simpa using hx
    subst this
    exact ⟨none, 0, rfl, Nat.le_refl _, Nat.zero_le _, Rd.nil _ _ _, h⟩
  · exact ⟨_, _, rfl, hnc, hcap, Rd.of_own h, h⟩

/-- the same, its length as a variable: a compound length is spelled anew by the walk -/
theorem OwnB.var {w w' : World} {v : Value} {xs : List Int} (h : OwnB w w' v xs) : ∃ A n c, v = .slice A n c ∧ n ≤ c ∧ c ≤ maxLen ∧ Rd w' w'.heap.size A n (u8s xs) ∧ w'.ownsRow w.heap.size 5 1 (.slice A n c) n (u8s xs) ∧ Hid (n = xs.length) := by
  obtain ⟨A, c, rfl, h1, h2, h3, h4⟩ := h
  exact ⟨A, _, c, rfl, h1, h2, h3, h4, rfl⟩

/-- a slice written out lies in a block of its own -/
theorem Rd_lit (w : World) (xs : List Int) (t : TypeId) : Rd (w.alloc (.cells (u8s xs).toArray t)) (w.heap.size + 1) (some ⟨w.heap.size, 0, none⟩) xs.length (u8s xs) :=
  ⟨by simp, fun _ => ⟨w.heap.size, 0, rfl, by omega, fun j u hu => by
    rw [cell_of_row (w.alloc (.cells (u8s xs).toArray t)) w.heap.size (0 + j) (u8s xs).toArray t (0, 0) (heap_alloc_new w _)]
    simpa using hu⟩⟩

/-- a constant's bytes: a row with the run-time's mark behind it -/
theorem Rd_mark (w : World) (xs : List Int) (t : TypeId) (fr : Nat × Nat) : Rd (w.alloc (.cells (u8s xs).toArray t fr)) (w.heap.size + 1) (some ⟨w.heap.size, 0, none⟩) xs.length (u8s xs) :=
  ⟨by simp, fun _ => ⟨w.heap.size, 0, rfl, by omega, fun j u hu => by
    rw [cell_of_row (w.alloc (.cells (u8s xs).toArray t fr)) w.heap.size (0 + j) (u8s xs).toArray t fr (heap_alloc_new w _)]
    simpa using hu⟩⟩

/-! ### the library -/
end Go.Proofs.YtbdimnncobpfdaaGreat
