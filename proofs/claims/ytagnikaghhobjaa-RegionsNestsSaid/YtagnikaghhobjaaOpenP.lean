/- How arguments of types [][2]int, [2]int, [3]uint8 and []int that came in read. -/
import Derived.Test.YtagnikaghhobjaaOpen
import Derived.Test.YtagnikaghhobjaaPairs
import Derived.Deep.Slices
import Derived.Deep.Fields
import Derived.ChangeMaps5
set_option linter.unusedVariables false
namespace Go.Proofs.Ytagnikaghhobjaa
open Go.ChangeShapes Go.WideShapes Go.ChangeAt Go.RowKit

/-- what the walk is told of an argument of type [][2]int -/
structure ArgP (w : World) (A : Option Addr) (n c : Nat) (L : List Pr) : Prop where
  nc : n ≤ c
  cm : c ≤ maxLen
  prs : Prs w w.heap.size A n L
/-- .. of type []int -/
structure ArgN (w : World) (A : Option Addr) (n c : Nat) (xs : List Int) : Prop where
  nc : n ≤ c
  cm : c ≤ maxLen
  rd : Rd w w.heap.size A n (i64s xs)
  int : ∀ x ∈ xs, IntR x

theorem listP_of {α : Type} {Q : Nat → α → Prop} : ∀ n : Nat, (∀ i, i < n → ∃ a, Q i a) → ∃ L : List α, L.length = n ∧ ∀ i a, L[i]? = some a → Q i a
  | 0, _ => ⟨[], rfl, fun i a h => by simp at h⟩
  | n + 1, h => by
    obtain ⟨L, hl, hq⟩ := listP_of n fun i hi => h i (by omega)
    obtain ⟨a, ha⟩ := h n (by omega)
    refine ⟨L ++ [a], by simp [hl], fun i b hb => ?_⟩
    rcases Nat.lt_or_ge i L.length with hi | hi
    · rw [List.getElem?_append_left hi] at hb
      exact hq i b hb
    · rw [List.getElem?_append_right hi] at hb
      have hi0 : i - L.length = 0 := by
        rcases Nat.eq_zero_or_pos (i - L.length) with h0 | h0
        · exact h0
        · rw [List.getElem?_eq_none (by simp; omega)] at hb; cases hb
      rw [hi0] at hb
      simp at hb
      subst hb
      rw [show i = n by omega]
      exact ha
theorem rng_i64 {x : Int} (h : (Lit.int .i64 x).wf = true) : IntR x := by simpa [IntR, Lit.wf, IntKind.min, IntKind.max, IntKind.signed, IntKind.bits] using h

/-- two numbers, read as an array -/
theorem two_ints {H : Type} {enc : TypeId × Value → H} {P : Program} {W : World} {t e : TypeId} {fuel : Nat} {cs : List Value} {z : DataW H × List MemPlace} (ht : P.underlying t = some (.array 2 e)) (he : P.underlying e = some (.int .i64)) (hc : P.cellsOf e = 1) (hl : cs.length = 2)
    (hf : DataW.trod enc P W 0 (fun _ => true) true fuel t cs = some z) : ∃ p : Pr, cs = pV p ∧ IntP p := by
  obtain ⟨xs, m, _, _, hlen, hxl, hat⟩ := DataW.trod_array ht hf
  match cs, hl with
  | [u0, u1], _ =>
    have g0 := hat 0 (by omega)
    have g1 := hat 1 (by omega)
    rw [hc] at g0 g1
    have t0 : DataW.trod enc P W 0 (fun _ => true) true m e [u0] = some (xs[0]'(by omega)) := by
      have := g0.trans (List.getElem?_eq_getElem (by omega))
      simpa [Value.cells] using this
    have t1 : DataW.trod enc P W 0 (fun _ => true) true m e [u1] = some (xs[1]'(by omega)) := by
      have := g1.trans (List.getElem?_eq_getElem (by omega))
      simpa [Value.cells] using this
    obtain ⟨k0, q0, _, w0⟩ := DataW.trod_int he t0
    obtain ⟨k1, q1, _, w1⟩ := DataW.trod_int he t1
    injection q0 with q0
    injection q1 with q1
    subst q0 q1
    exact ⟨(k0, k1), rfl, rng_i64 w0, rng_i64 w1⟩

theorem openPrs {H : Type} {enc : TypeId × Value → H} {P : Program} {W : World} {base : Nat} {t a2 e : TypeId} {v : Value} {d : DataW H} {p : List MemPlace} (ht : P.underlying t = some (.slice a2)) (ha : P.underlying a2 = some (.array 2 e)) (he : P.underlying e = some (.int .i64)) (hc1 : P.cellsOf e = 1) (hC : P.cellsOf a2 = 2)
    (hv : Value.okWide P W .any base t v) (h : DataW.Trod enc P W 0 (fun _ => true) true t v d p) :
    ∃ A n c L, v = .slice A n c ∧ ArgP W A n c L := by
  obtain ⟨A, n, c, rfl⟩ := okWide_slice ht hv
  obtain ⟨fuel, hf⟩ := h
  rcases Go.Deep.open_slice ht hf with ⟨hcs, _⟩ | ⟨a, len, cap, m, nn, D, Pl, hcs, _, hlc, hcm, hm, _, hi⟩
  · simp [Value.cells] at hcs
    obtain ⟨rfl, rfl, rfl⟩ := hcs
    exact ⟨none, 0, 0, [], rfl, Nat.le_refl _, Nat.zero_le _, ⟨⟨rfl, fun h => absurd h (by omega)⟩, fun x hx => by cases hx⟩⟩
  · simp [Value.cells] at hcs
    obtain ⟨rfl, rfl, rfl⟩ := hcs
    simp only [if_true] at hm
    subst hm
    have key : ∀ i, i < n → ∃ q : Pr, IntP q ∧ W.cell? ((a.add (i * 2)).add 0) = some (.int .i64 q.1) ∧ W.cell? ((a.add (i * 2)).add 1) = some (.int .i64 q.2) := by
      intro i hin
      obtain ⟨cs, hcs, htr⟩ := hi i (by omega)
      rw [hC] at hcs
      obtain ⟨_, hlen, hat⟩ := World.cells?_some hcs
      obtain ⟨q, rfl, hq⟩ := two_ints ha he hc1 hlen htr
      exact ⟨q, hq, (hat 0 (by omega)).trans rfl, (hat 1 (by omega)).trans rfl⟩
    obtain ⟨L, hL, hq⟩ := listP_of n key
    refine ⟨some a, n, _, L, rfl, hlc, hcm, ⟨⟨hL, fun hn => ?_⟩, fun x hx => ?_⟩⟩
    · obtain ⟨x0, hx0⟩ : ∃ x, L[0]? = some x := ⟨_, List.getElem?_eq_getElem (by omega)⟩
      obtain ⟨b, o, spot⟩ := a
      have hc0 := (hq 0 x0 hx0).2.1
      have hspot : spot = none := by
        have := World.cell?_spot hc0
        simpa [Addr.add] using this
      subst hspot
      have hadd : ∀ i j, ((⟨b, o, none⟩ : Addr).add i).add j = ⟨b, o + i + j, none⟩ := fun i j => by unfold Addr.add; split <;> split <;> simp_all
      refine ⟨b, o, rfl, ?_, fun i x hx j u hu => ?_⟩
      · have := cellLt hc0
        rw [hadd] at this
        exact this
      · obtain ⟨_, a0, a1⟩ := hq i x hx
        rw [hadd] at a0 a1
        match j, hu with
        | 0, hu => obtain rfl : _ = u := by simpa [pV] using hu
                   exact a0
        | 1, hu => obtain rfl : _ = u := by simpa [pV] using hu
                   exact a1
        | j + 2, hu => simp [pV] at hu
    · obtain ⟨i, hix⟩ := List.getElem?_of_mem hx
      exact (hq i x hix).1

/-- an array of two numbers -/
theorem openPairI {H : Type} {enc : TypeId × Value → H} {P : Program} {W : World} {base : Nat} {t e : TypeId} {v : Value} {d : DataW H} {p : List MemPlace} (ht : P.underlying t = some (.array 2 e)) (he : P.underlying e = some (.int .i64)) (hc : P.cellsOf e = 1) (hC : P.cellsOf t = 2)
    (hv : Value.okWide P W .any base t v) (h : DataW.Trod enc P W 0 (fun _ => true) true t v d p) :
    ∃ a b : Int, v = .agg #[.int .i64 a, .int .i64 b] ∧ IntR a ∧ IntR b := by
  simp only [Value.okWide, ht] at hv
  obtain ⟨cs, rfl, hs, _⟩ := hv
  obtain ⟨fuel, hf⟩ := h
  rw [hC] at hs
  obtain ⟨l⟩ := cs
  obtain ⟨q, e1, h1, h2⟩ := two_ints (cs := l) ht he hc hs (by simpa [Value.cells] using hf)
  subst e1
  exact ⟨q.1, q.2, rfl, h1, h2⟩

/-- an array of three bytes -/
theorem openTri8 {H : Type} {enc : TypeId × Value → H} {P : Program} {W : World} {base : Nat} {t e : TypeId} {v : Value} {d : DataW H} {p : List MemPlace} (ht : P.underlying t = some (.array 3 e)) (he : P.underlying e = some (.int .u8)) (hc : P.cellsOf e = 1) (hC : P.cellsOf t = 3)
    (hv : Value.okWide P W .any base t v) (h : DataW.Trod enc P W 0 (fun _ => true) true t v d p) :
    ∃ a b c : Int, v = .agg #[.int .u8 a, .int .u8 b, .int .u8 c] ∧ (0 ≤ a ∧ a ≤ 255) ∧ (0 ≤ b ∧ b ≤ 255) ∧ 0 ≤ c ∧ c ≤ 255 := by
  simp only [Value.okWide, ht] at hv
  obtain ⟨cs, rfl, hs, _⟩ := hv
  obtain ⟨fuel, hf⟩ := h
  obtain ⟨xs, m, _, _, hlen, hxl, hat⟩ := DataW.trod_array ht hf
  rw [hC] at hs
  obtain ⟨l⟩ := cs
  match l, hs with
  | [u0, u1, u2], _ =>
    have g0 := hat 0 (by omega)
    have g1 := hat 1 (by omega)
    have g2 := hat 2 (by omega)
    rw [hc] at g0 g1 g2
    have t0 : DataW.trod enc P W 0 (fun _ => true) true m e [u0] = some (xs[0]'(by omega)) := by
      have := g0.trans (List.getElem?_eq_getElem (by omega))
      simpa [Value.cells] using this
    have t1 : DataW.trod enc P W 0 (fun _ => true) true m e [u1] = some (xs[1]'(by omega)) := by
      have := g1.trans (List.getElem?_eq_getElem (by omega))
      simpa [Value.cells] using this
    have t2 : DataW.trod enc P W 0 (fun _ => true) true m e [u2] = some (xs[2]'(by omega)) := by
      have := g2.trans (List.getElem?_eq_getElem (by omega))
      simpa [Value.cells] using this
    obtain ⟨k0, q0, _, w0⟩ := DataW.trod_int he t0
    obtain ⟨k1, q1, _, w1⟩ := DataW.trod_int he t1
    obtain ⟨k2, q2, _, w2⟩ := DataW.trod_int he t2
    injection q0 with q0
    injection q1 with q1
    injection q2 with q2
    subst q0 q1 q2
    exact ⟨k0, k1, k2, rfl, by simpa [Lit.wf, IntKind.min, IntKind.max, IntKind.signed, IntKind.bits] using w0, by simpa [Lit.wf, IntKind.min, IntKind.max, IntKind.signed, IntKind.bits] using w1, by simpa [Lit.wf, IntKind.min, IntKind.max, IntKind.signed, IntKind.bits] using w2⟩

theorem openNums {H : Type} {enc : TypeId × Value → H} {P : Program} {W : World} {base : Nat} {t e : TypeId} {v : Value} {d : DataW H} {p : List MemPlace} (ht : P.underlying t = some (.slice e)) (he : P.underlying e = some (.int .i64)) (hc : P.cellsOf e = 1)
    (hv : Value.okWide P W .any base t v) (h : DataW.Trod enc P W 0 (fun _ => true) true t v d p) :
    ∃ A n c xs, v = .slice A n c ∧ ArgN W A n c xs := by
  obtain ⟨a, n, c, rfl⟩ := okWide_slice ht hv
  obtain ⟨fuel, hf⟩ := h
  rcases open_ints ht he hc hf with ⟨hcs, hd⟩ | ⟨x, l, c', zs, hcs, _, hl, hm, hz, hd, hcell, hwz⟩
  · simp [Value.cells] at hcs
    obtain ⟨rfl, rfl, rfl⟩ := hcs
    exact ⟨none, 0, 0, [], rfl, Nat.le_refl _, Nat.zero_le _, Rd.nil _ _ _, fun x hx => by cases hx⟩
  · simp [Value.cells] at hcs
    obtain ⟨rfl, rfl, rfl⟩ := hcs
    have hzl : zs.length = c := by simpa using hz
    refine ⟨some x, n, c, zs.take n, rfl, ⟨hl, hm, ⟨?_, fun hn => ?_⟩, fun y hy => rng_i64 (hwz y (List.mem_of_mem_take hy))⟩⟩
    · simp; omega
    · obtain ⟨b, o, spot⟩ := x
      have h0 := hcell 0 (by omega)
      have hspot : spot = none := by simpa [Addr.add] using World.cell?_spot h0
      subst hspot
      have hadd : ∀ j, (⟨b, o, none⟩ : Addr).add j = ⟨b, o + j, none⟩ := fun j => by unfold Addr.add; split <;> simp_all
      refine ⟨b, o, rfl, cellLt h0, fun j u hu => ?_⟩
      have hj : j < n := by
        rcases Nat.lt_or_ge j n with h' | h'
        · exact h'
        · rw [List.getElem?_eq_none (by simp; omega)] at hu; cases hu
      have := hcell j (by omega)
      rw [hadd] at this
      rw [this]
      simp [hj, List.getElem?_eq_getElem (show j < zs.length by omega)] at hu
      rw [← hu]
      simp [List.getD, List.getElem?_eq_getElem (show j < zs.length by omega)]
end Go.Proofs.Ytagnikaghhobjaa
