/- How an argument of type []byte that came in reads. -/
import Derived.Test.YtbdimnncobpfdaaGreatBase
import Derived.OpenShut
import Derived.ProofKit
import Derived.ShutString
import Derived.ChangeOld
import Derived.SizedLaws
set_option linter.unusedVariables false
namespace Go.Proofs.YtbdimnncobpfdaaGreat
open Go.ChangeShapes Go.WideShapes Go.ChangeAt Go.RowKit

/-- what the walk is told of an argument of type []byte -/
structure Arg (w : World) (A : Option Addr) (n c : Nat) (xs : List Int) : Prop where
  nc : n ≤ c
  cm : c ≤ maxLen
  byt : Byt xs
  rd : Rd w w.heap.size A n (u8s xs)

theorem cellLt {w : World} {a : Addr} {v : Value} (h : w.cell? a = some v) : a.block < w.heap.size := by
  rcases Nat.lt_or_ge a.block w.heap.size with h' | h'
  · exact h'
  · unfold World.cell? at h
    rw [Array.getElem?_eq_none h'] at h
    simp at h

theorem okWide_slice_cases {P : Program} {W : World} {base : Nat} {t e : TypeId} {v : Value} (ht : P.underlying t = some (.slice e)) (h : Value.okWide P W .any base t v) : ∃ a n c, v = .slice a n c := okWide_slice ht h

theorem openBytes {H : Type} {enc : TypeId × Value → H} {P : Program} {W : World} {base : Nat} {t e : TypeId} {v : Value} {d : DataW H} {p : List MemPlace} (ht : P.underlying t = some (.slice e)) (he : P.underlying e = some (.int .u8)) (hc : P.cellsOf e = 1)
    (hv : Value.okWide P W .any base t v) (h : DataW.Trod enc P W 0 (fun _ => true) true t v d p) :
    ∃ A n c xs, v = .slice A n c ∧ Arg W A n c xs ∧
      (∀ (bulk : DataW H → Nat) (all : List (DataW H) → Nat), all [] = 0 → (∀ d l, all (d :: l) = bulk d + all l) → (∀ l, bulk (.lit l) ≥ 1) → (∀ e s, bulk (.slice e s) = all e + all s + 1) → bulk .nil = 1 → n + 1 ≤ bulk d) := by
  obtain ⟨a, n, c, rfl⟩ := okWide_slice ht hv
  obtain ⟨fuel, hf⟩ := h
  rcases open_ints ht he hc hf with ⟨hcs, hd⟩ | ⟨x, l, c', zs, hcs, _, hl, hm, hz, hd, hcell, hwz⟩
  · simp [Value.cells] at hcs
    obtain ⟨rfl, rfl, rfl⟩ := hcs
    refine ⟨none, 0, 0, [], rfl, ⟨Nat.le_refl _, Nat.zero_le _, Byt.nil, Rd.nil _ _ _⟩, ?_⟩
    intro bulk all h0 h1 h2 h3 h4
    simp at hd
    rw [hd.1, h4]
    omega
  · simp [Value.cells] at hcs
    obtain ⟨rfl, rfl, rfl⟩ := hcs
    have hzl : zs.length = c := by simpa using hz
    refine ⟨some x, n, c, zs.take n, rfl, ⟨hl, hm, fun y hy => ?_, ?_, fun hn => ?_⟩, ?_⟩
    · have := hwz y (List.mem_of_mem_take hy)
      simp [Lit.wf, IntKind.min, IntKind.max, IntKind.signed, IntKind.bits] at this
      omega
    · simp; omega
    · obtain ⟨b, o, spot⟩ := x
      have h0 := hcell 0 (by omega)
      have hspot : spot = none := by simpa [Addr.add] using World.cell?_spot h0
      subst hspot
      have hadd : ∀ j, (⟨b, o, none⟩ : Addr).add j = ⟨b, o + j, none⟩ := fun j => by unfold Addr.add; split <;> simp_all
      refine ⟨b, o, rfl, ?_, fun j u hu => ?_⟩
      · exact cellLt h0
      · have hj : j < n := by
          rcases Nat.lt_or_ge j n with h' | h'
          · exact h'
          · rw [List.getElem?_eq_none (by simp; omega)] at hu; cases hu
        have := hcell j (by omega)
        rw [hadd] at this
        rw [this]
        simp [hj, List.getElem?_eq_getElem (show j < zs.length by omega)] at hu
        rw [← hu]
        simp [List.getD, List.getElem?_eq_getElem (show j < zs.length by omega)]
    · intro bulk all h0 h1 h2 h3 h4
      have hll : ∀ l : List (DataW H), (∀ d ∈ l, 1 ≤ bulk d) → l.length ≤ all l := by
        intro l
        induction l with
        | nil => intro _; simp
        | cons d l ih => intro h; have := ih (fun d hd => h d (by simp [hd])); have := h d (by simp); rw [h1]; simp; omega
      simp at hd
      rw [hd.1, h3]
      have := hll (lits .u8 (zs.take n)) (fun d hd => by
        unfold lits at hd
        obtain ⟨y, _, rfl⟩ := List.mem_map.1 hd
        exact h2 _)
      have hlen : (lits (H := H) .u8 (zs.take n)).length = n := by simp [lits]; omega
      rw [hlen] at this
      omega

/-- a slice that came in takes no more than the reach -/
theorem bytesSized {H : Type} {enc : TypeId × Value → H} {P : Program} {W : World} {t e : TypeId} {a : Option Addr} {n c R : Nat} {d : DataW H} {p : List MemPlace} (ht : P.underlying t = some (.slice e)) (he : P.underlying e = some (.int .u8)) (hc : P.cellsOf e = 1)
    (h : DataW.Trod enc P W 0 (fun _ => true) true t (.slice a n c) d p) (hR : ∀ es sp, d = .slice es sp → es.length + sp.length ≤ R) : c ≤ R := by
  obtain ⟨fuel, hf⟩ := h
  rcases open_ints ht he hc hf with ⟨hcs, hd⟩ | ⟨x, l, c', zs, hcs, _, hl, hm, hz, hd, hcell, hwz⟩
  · simp [Value.cells] at hcs
    omega
  · simp [Value.cells] at hcs
    obtain ⟨rfl, rfl, rfl⟩ := hcs
    simp at hd
    have hzl : zs.length = c := by simpa using hz
    have := hR _ _ hd.1
    simp [lits] at this
    omega
end Go.Proofs.YtbdimnncobpfdaaGreat
