/- compute at bool: the closure that calls itself, and compute. -/
import Derived.Test.YtphfiohjkjipiaaTypF
import Derived.StillTailTactics
set_option linter.unusedVariables false
namespace Go.Proofs.Ytphfiohjkjipiaa
open Go.RowKit

theorem zeroB (w : World) : (zeroValue 4).run Try.prog w = .ok (.bool false) w := by kernel_rfl
/-- what the map of what is known says -/
def KnB (C : Ctx) (men : Int → Int → Prop) (val : Int → Bool) (w : World) (D : Int → Prop) : Prop := ∃ m Dm, w.ownsMap (H := Unit) Try.prog 3 (plainElem Try.prog 4) C.bm m Dm ∧
  ∀ q, IntR q → Maps.has Dm (.int .i64 q) = true → 0 ≤ q ∧ q < (C.n : Int) ∧ (∀ z, Dm.atKey (.int .i64 q) z = .lit (.bool (val q))) ∧ ∀ r, men q r → D r
section
variable {C : Ctx} {men : Int → Int → Prop} {val : Int → Bool} {M : World → (Int → Prop) → Prop}
theorem KnB.block {w w' : World} {D : Int → Prop} (h : KnB C men val w D) (hb : w'.heap[C.bm]? = w.heap[C.bm]?) : KnB C men val w' D := by
  obtain ⟨m, Dm, h1, h2⟩ := h
  exact ⟨m, Dm, owns_block h1 hb, h2⟩
theorem KnB.grow {w : World} {D D' : Int → Prop} (h : KnB C men val w D) (hd : ∀ r, D r → D' r) : KnB C men val w D' := by
  obtain ⟨m, Dm, h1, h2⟩ := h
  exact ⟨m, Dm, h1, fun q hq hh => by obtain ⟨a, b, c, d⟩ := h2 q hq hh; exact ⟨a, b, c, fun r hr => hd r (d r hr)⟩⟩
end

/-- the frame that compute lays -/
def ctxB (w : World) (A : Option Addr) (n c : Nat) (L : List TyW) (Sx : Nat → Prop) (KP : FuncId) (cp : Array Value) : Ctx :=
  { b3 := w.heap.size, b5 := w.heap.size + 1, b7 := w.heap.size + 3, b8 := w.heap.size + 4, bm := w.heap.size + 2, A := A, n := n, c := c, L := L, S := fun k => k = w.heap.size + 2 ∨ Sx k, KP := KP, cp := cp }
section
variable {A : Option Addr} {n c : Nat} {L : List TyW} {w : World} {Sx : Nat → Prop} {KP : FuncId} {cp : Array Value} {men : Int → Int → Prop} {val : Int → Bool} {M : World → (Int → Prop) → Prop} {D0 : Int → Prop}
end
end Go.Proofs.Ytphfiohjkjipiaa
