/- Part 48 of the contracts and their mathematics. -/
import Derived.Test.YtfgacmgjpikgaaaGreatDoorQ45
import Derived.Test.YtfgacmgjpikgaaaGreatDoorQ46
set_option linter.unusedVariables false
set_option linter.unusedSimpArgs false
namespace Go.Proofs.YtfgacmgjpikgaaaGreatDoor
open Go.RowKit
theorem Rch.next {ps : List Pr} {a b : Int} {Z : List Int} {i : Nat} (h : Rch ps a b Z i) {z : Int} (hz : Z[i]? = some z) (hb : z ≠ b) (hd : ∀ c, (z, c) ∈ ps → c ∈ Z) : Rch ps a b Z (i + 1) := by
 refine ⟨h.bound, h.way, h.start, fun t y ht hy => ?_, fun t y ht hy => ?_⟩
 ·
  rcases Nat.lt_or_ge t i with h1 | h1
  ·
   exact h.no t y h1 hy
  ·
   obtain rfl : t = i := by omega
   rw [hz] at hy; injection hy with hy; exact hy ▸ hb
 ·
  rcases Nat.lt_or_ge t i with h1 | h1
  ·
   exact h.done t y h1 hy
  ·
   obtain rfl : t = i := by omega
   rw [hz] at hy; injection hy with hy; exact hy ▸ hd
theorem ROperand_is {x : BdW} {o : OpW} {v : Int} {w : World} (h : VB w x) (ho : OneOp w w.heap.size o) (hv : opErr (wE x) o.v = v) :
  Calls Tryz.prog 15 #[aggBd x, aggOp o] w fun e w' => e = .returned (.int .i64 v) ∧ Below w.heap.size w w' := hv ▸ ROperand_any x o w h ho
end Go.Proofs.YtfgacmgjpikgaaaGreatDoor
namespace Go.Proofs.YtfgacmgjpikgaaaGreatDoor
open Go.ChangeShapes Go.WideShapes Go.ChangeAt Go.RowKit
set_option maxRecDepth 100000 in
theorem openOpnd {H : Type} {enc : TypeId × Value → H} {W : World} {base : Nat} {v : Value} {d : DataW H} {p : List MemPlace} (hv : Value.okWide Tryz.prog W .any base 38 v) (h : DataW.Trod enc Tryz.prog W 0 (fun _ => true) true 38 v d p) : ∃ x, v = aggOp x ∧ OneOp W W.heap.size x := by
 obtain ⟨cs, rfl, hsz⟩ := okWide_struct Tryz.underlying38 hv
 obtain ⟨fuel, hf⟩ := h
 obtain ⟨l⟩ := cs
 have hC : Tryz.prog.cellsOf 38 = 4 := by kernel_rfl
 obtain ⟨x, e, hx⟩ := trodOp (cs := l) (hsz.trans hC) (by simpa [Value.cells] using hf)
 exact ⟨x, by rw [e]; rfl, hx⟩
end Go.Proofs.YtfgacmgjpikgaaaGreatDoor
