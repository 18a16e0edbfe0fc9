/- compute at int, whole. -/
import Derived.Test.YtphfiohjkjipiaaTypI
import Derived.Laws.EntriesVeiled
set_option linter.unusedVariables false
namespace Go.Proofs.Ytphfiohjkjipiaa
open Go.RowKit

section
variable {A : Option Addr} {n c : Nat} {L : List TyW} {w : World} {Sx : Nat → Prop} {KP : FuncId} {cp : Array Value} {men : Int → Int → Prop} {val : Int → Int} {M : World → (Int → Prop) → Prop} {D0 : Int → Prop}
theorem ctxI_fix {B : Nat} (hA : Typs w B A n L) (hB : B ≤ w.heap.size) (hnc : n ≤ c) (hcm : c ≤ maxLen) (hn : n ≤ 65535) (hSx : ∀ k, Sx k → B ≤ k ∧ k < w.heap.size) : (ctxI w A n c L Sx KP cp).fix := by
  have far : ∀ d : Nat, d ≠ 2 → ¬ (w.heap.size + d = w.heap.size + 2 ∨ Sx (w.heap.size + d)) := fun d hd h => by
    rcases h with h | h
    · omega
    · have := hSx _ h; omega
  have low : ∀ b, b < B → ¬ (b = w.heap.size + 2 ∨ Sx b) := fun b hb h => by
    rcases h with h | h
    · omega
    · have := hSx _ h; omega
  refine ⟨far 0 (by omega), far 1 (by omega), far 3 (by omega), far 4 (by omega), .inl rfl, fun h0 b o e => ?_, fun x hx h0 b o e => ?_, hnc, hcm, hn⟩
  · obtain ⟨b', o', e', hb, _⟩ := hA.cells.2 h0
    have e2 : A = some ⟨b, o, none⟩ := e
    rw [e2] at e'
    injection e' with e'
    injection e' with e1 _
    exact low b (by omega)
  · obtain ⟨b', o', e', hb, _⟩ := (hA.one x hx).rd.2 h0
    rw [e] at e'
    injection e' with e'
    injection e' with e1 _
    exact low b (by omega)

end
end Go.Proofs.Ytphfiohjkjipiaa
