/- How an argument of type []string that came in reads. -/
import Derived.Test.YtbkgooeghmaokaaOpen
import Derived.Test.YtbkgooeghmaokaaIntT
import Derived.SliceStrings
import Derived.ChangeMaps5
set_option linter.unusedVariables false
namespace Go.Proofs.Ytbkgooeghmaokaa
open Go.ChangeShapes Go.WideShapes Go.ChangeAt Go.RowKit

/-- what the walk is told of an argument of type []string -/
structure ArgT (w : World) (A : Option Addr) (n c : Nat) (L : List ByteArray) : Prop where
  nc : n ≤ c
  cm : c ≤ maxLen
  rd : Rd w w.heap.size A n (sV L)
  sz : ∀ s ∈ L, s.size ≤ maxLen

theorem openStrs {H : Type} {enc : TypeId × Value → H} {P : Program} {W : World} {base : Nat} {t e : TypeId} {v : Value} {d : DataW H} {p : List MemPlace} (ht : P.underlying t = some (.slice e)) (he : P.underlying e = some .string) (hc : P.cellsOf e = 1)
    (hv : Value.okWide P W .any base t v) (h : DataW.Trod enc P W 0 (fun _ => true) true t v d p) :
    ∃ A n c L, v = .slice A n c ∧ ArgT W A n c L := by
  obtain ⟨a, n, c, rfl⟩ := okWide_slice ht hv
  obtain ⟨fuel, hf⟩ := h
  rcases open_strings ht he hc hf with ⟨hcs, _⟩ | ⟨x, l, c', ss, hcs, _, hl, hm, hz, _, hcell, hwz⟩
  · simp [Value.cells] at hcs
    obtain ⟨rfl, rfl, rfl⟩ := hcs
    exact ⟨none, 0, 0, [], rfl, Nat.le_refl _, Nat.zero_le _, Rd.nil _ _ _, fun s hs => by cases hs⟩
  · simp [Value.cells] at hcs
    obtain ⟨rfl, rfl, rfl⟩ := hcs
    simp only [if_true] at hz
    refine ⟨some x, n, c, ss.take n, rfl, hl, hm, ⟨by simp; omega, fun hn => ?_⟩, fun s hs => hwz s (List.mem_of_mem_take hs)⟩
    obtain ⟨b, o, spot⟩ := x
    have h00 := hcell 0 (by omega)
    have hspot : spot = none := by simpa [Addr.add] using World.cell?_spot h00
    subst hspot
    have hadd : ∀ j, (⟨b, o, none⟩ : Addr).add j = ⟨b, o + j, none⟩ := fun j => by unfold Addr.add; split <;> simp_all
    refine ⟨b, o, rfl, cellLt h00, fun j u hu => ?_⟩
    have hj : j < n := by
      rcases Nat.lt_or_ge j n with h' | h'
      · exact h'
      · rw [List.getElem?_eq_none (by simp; omega)] at hu; cases hu
    have := hcell j (by omega)
    rw [hadd] at this
    rw [this]
    simp [hj, List.getElem?_eq_getElem (show j < ss.length by omega)] at hu
    rw [← hu]
    simp [List.getD, List.getElem?_eq_getElem (show j < ss.length by omega)]
end Go.Proofs.Ytbkgooeghmaokaa
