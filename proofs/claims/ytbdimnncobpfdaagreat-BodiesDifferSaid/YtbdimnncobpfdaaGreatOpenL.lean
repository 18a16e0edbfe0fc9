/- How arguments of the types []api.Local and api.Place that came in read; and, for any slice of structs, how its rows are read off a reader of one of them. -/
import Derived.Test.YtbdimnncobpfdaaGreatOpen
import Derived.Test.YtbdimnncobpfdaaGreatPla
import Derived.Deep.Slices
import Derived.Deep.Fields
import Derived.ChangeMaps5
set_option linter.unusedVariables false
namespace Go.Proofs.YtbdimnncobpfdaaGreat
open Go.ChangeShapes Go.WideShapes Go.ChangeAt Go.RowKit

theorem listL_of {α : Type} {Q : Nat → α → Prop} : ∀ n : Nat, (∀ i, i < n → ∃ a, Q i a) → ∃ L : List α, L.length = n ∧ ∀ i a, L[i]? = some a → Q i a
  | 0, _ => ⟨[], rfl, fun i a h => by simp at h⟩
  | n + 1, h => by
    obtain ⟨L, hl, hq⟩ := listL_of n fun i hi => h i (by omega)
    obtain ⟨a, ha⟩ := h n (by omega)
    refine ⟨L ++ [a], by simp [hl], fun i b hb => ?_⟩
    rcases Nat.lt_or_ge i L.length with hi | hi
    · rw [List.getElem?_append_left hi] at hb
      exact hq i b hb
    · rw [List.getElem?_append_right hi] at hb
      have hi0 : i - L.length = 0 := by
        rcases Nat.eq_zero_or_pos (i - L.length) with h0 | h0
        · exact h0
        · rw [List.getElem?_eq_none (by simp; omega)] at hb; cases hb
      rw [hi0] at hb
      simp at hb
      subst hb
      rw [show i = n by omega]
      exact ha
theorem rngL {x : Int} (h : (Lit.int .i64 x).wf = true) : IntR x := by simpa [IntR, Lit.wf, IntKind.min, IntKind.max, IntKind.signed, IntKind.bits] using h

/-- a slice, whatever its elements: if the cells of one element read as those of some x with Q x, the slice holds a list of such -/
theorem trodCells {H : Type} {enc : TypeId × Value → H} {P : Program} {W : World} {t e : TypeId} {fuel : Nat} {u : Value} {z : DataW H × List MemPlace} {α : Type} (f : α → List Value) (Q : α → Prop) {k : Nat} (hk : 0 < k) (hf : ∀ x, (f x).length = k)
    (ht : P.underlying t = some (.slice e)) (hC : P.cellsOf e = k) (elem : ∀ (fuel : Nat) (cs : List Value) (z : DataW H × List MemPlace), cs.length = k → DataW.trod enc P W 0 (fun _ => true) true fuel e cs = some z → ∃ x, cs = f x ∧ Q x)
    (h : DataW.trod enc P W 0 (fun _ => true) true fuel t [u] = some z) : ∃ A n c L, u = .slice A n c ∧ n ≤ c ∧ c ≤ maxLen ∧ Cells W W.heap.size k f A n L ∧ ∀ x ∈ L, Q x := by
  rcases Go.Deep.open_slice ht h with ⟨hcs, _⟩ | ⟨a, len, cap, m, nn, D, Pl, hcs, _, hlc, hcm, hm, _, hi⟩
  · injection hcs with hcs
    subst hcs
    exact ⟨none, 0, 0, [], rfl, Nat.le_refl _, Nat.zero_le _, ⟨rfl, fun h => absurd h (by omega)⟩, fun x hx => by cases hx⟩
  · injection hcs with hcs
    subst hcs
    simp only [if_true] at hm
    subst hm
    have key : ∀ i, i < len → ∃ x : α, Q x ∧ ∀ j v, (f x)[j]? = some v → W.cell? ((a.add (i * k)).add j) = some v := by
      intro i hin
      obtain ⟨cs, hcs, htr⟩ := hi i (by omega)
      rw [hC] at hcs
      obtain ⟨_, hlen, hat⟩ := World.cells?_some hcs
      obtain ⟨x, rfl, hq⟩ := elem nn cs _ hlen htr
      refine ⟨x, hq, fun j v hv => ?_⟩
      have hj : j < k := by have := (List.getElem?_eq_some_iff.1 hv).1; rwa [hf] at this
      exact (hat j hj).trans hv
    obtain ⟨L, hL, hq⟩ := listL_of len key
    refine ⟨some a, len, m, L, rfl, hlc, hcm, ⟨hL, fun hn => ?_⟩, fun x hx => ?_⟩
    · obtain ⟨x0, hx0⟩ : ∃ x, L[0]? = some x := ⟨_, List.getElem?_eq_getElem (by omega)⟩
      obtain ⟨v0, hv0⟩ : ∃ v, (f x0)[0]? = some v := ⟨_, List.getElem?_eq_getElem (by rw [hf]; exact hk)⟩
      obtain ⟨b, o, spot⟩ := a
      have hc0 := (hq 0 x0 hx0).2 0 v0 hv0
      have hspot : spot = none := by
        have := World.cell?_spot hc0
        simpa [Addr.add] using this
      subst hspot
      have hadd : ∀ i j, ((⟨b, o, none⟩ : Addr).add i).add j = ⟨b, o + i + j, none⟩ := fun i j => by unfold Addr.add; split <;> split <;> simp_all
      refine ⟨b, o, rfl, ?_, fun i x hx j u hu => ?_⟩
      · have := cellLt hc0
        rw [hadd] at this
        exact this
      · have := (hq i x hx).2 j u hu
        rwa [hadd] at this
    · obtain ⟨i, hix⟩ := List.getElem?_of_mem hx
      exact (hq i x hix).1

/-- the parts of a struct whose fields are one cell each -/
theorem trodFields {H : Type} {enc : TypeId × Value → H} {P : Program} {W : World} {e : TypeId} {fs : Array Field} {fuel : Nat} {cs : List Value} {z : DataW H × List MemPlace} (he : P.underlying e = some (.struct fs)) (hone : Go.Deep.oneCellFields P fs = true) (hl : cs.length = fs.size)
    (h : DataW.trod enc P W 0 (fun _ => true) true fuel e cs = some z) : ∃ k, ∀ (j : Nat) (f : Field), fs[j]? = some f → ∃ u y, cs[j]? = some u ∧ DataW.trod enc P W 0 (fun _ => true) true k f.type [u] = some y := by
  obtain ⟨ys, k, _, _, _, hyl, hfld⟩ := DataW.trod_struct he h
  refine ⟨k, fun j f hj => ?_⟩
  obtain ⟨ho, hc1⟩ := Go.Deep.hone_of hone j f hj
  have hb := hfld j f hj
  have hjl : j < cs.length := by rw [hl]; exact (Array.getElem?_eq_some_iff.1 hj).1
  rw [ho, hc1, Go.Deep.take1_drop cs j (.int .i64 0) hjl] at hb
  refine ⟨cs.getD j (.int .i64 0), ys[j]'(by rw [hyl]; rw [← hl]; exact hjl), by simp [List.getD_eq_getElem?_getD, List.getElem?_eq_getElem hjl], ?_⟩
  rw [hb]
  exact List.getElem?_eq_getElem _

/-- a struct of two numbers -/
theorem two_fields {H : Type} {enc : TypeId × Value → H} {P : Program} {W : World} {e : TypeId} {f0 f1 : Field} {fuel : Nat} {cs : List Value} {z : DataW H × List MemPlace} (he : P.underlying e = some (.struct #[f0, f1])) (hone : Go.Deep.oneCellFields P #[f0, f1] = true)
    (h0 : P.underlying f0.type = some (.int .i64)) (h1 : P.underlying f1.type = some (.int .i64)) (hl : cs.length = 2) (h : DataW.trod enc P W 0 (fun _ => true) true fuel e cs = some z) : ∃ p : Pr, cs = pV p ∧ IntP p := by
  obtain ⟨k, hk⟩ := trodFields he hone (by rw [hl]; rfl) h
  match cs, hl with
  | [u0, u1], _ =>
    obtain ⟨v0, y0, e0, r0⟩ := hk 0 f0 rfl
    obtain ⟨v1, y1, e1, r1⟩ := hk 1 f1 rfl
    injection e0 with e0
    injection e1 with e1
    subst e0 e1
    obtain ⟨k0, q0, _, w0⟩ := DataW.trod_int h0 r0
    obtain ⟨k1, q1, _, w1⟩ := DataW.trod_int h1 r1
    injection q0 with q0
    injection q1 with q1
    subst q0 q1
    exact ⟨(k0, k1), rfl, rngL w0, rngL w1⟩
/-- a struct of a string and a number -/
theorem str_int {H : Type} {enc : TypeId × Value → H} {P : Program} {W : World} {e : TypeId} {f0 f1 : Field} {fuel : Nat} {cs : List Value} {z : DataW H × List MemPlace} (he : P.underlying e = some (.struct #[f0, f1])) (hone : Go.Deep.oneCellFields P #[f0, f1] = true)
    (h0 : P.underlying f0.type = some .string) (h1 : P.underlying f1.type = some (.int .i64)) (hl : cs.length = 2) (h : DataW.trod enc P W 0 (fun _ => true) true fuel e cs = some z) : ∃ x : LcW, cs = cLc x ∧ IntR x.ty := by
  obtain ⟨k, hk⟩ := trodFields he hone (by rw [hl]; rfl) h
  match cs, hl with
  | [u0, u1], _ =>
    obtain ⟨v0, y0, e0, r0⟩ := hk 0 f0 rfl
    obtain ⟨v1, y1, e1, r1⟩ := hk 1 f1 rfl
    injection e0 with e0
    injection e1 with e1
    subst e0 e1
    obtain ⟨s, q0, _, _⟩ := DataW.trod_string h0 r0
    obtain ⟨k1, q1, _, w1⟩ := DataW.trod_int h1 r1
    injection q0 with q0
    injection q1 with q1
    subst q0 q1
    exact ⟨⟨s, k1⟩, rfl, rngL w1⟩

/-- what the walk is told of an argument of type []api.Local -/
structure ArgL (w : World) (A : Option Addr) (n c : Nat) (L : List LcW) : Prop where
  nc : n ≤ c
  cm : c ≤ maxLen
  locs : Locs w w.heap.size A n L
theorem openLocs {H : Type} {enc : TypeId × Value → H} {P : Program} {W : World} {base : Nat} {t e : TypeId} {f0 f1 : Field} {v : Value} {d : DataW H} {p : List MemPlace} (ht : P.underlying t = some (.slice e)) (he : P.underlying e = some (.struct #[f0, f1])) (hone : Go.Deep.oneCellFields P #[f0, f1] = true) (hC : P.cellsOf e = 2)
    (h0 : P.underlying f0.type = some .string) (h1 : P.underlying f1.type = some (.int .i64)) (hv : Value.okWide P W .any base t v) (h : DataW.Trod enc P W 0 (fun _ => true) true t v d p) :
    ∃ A n c L, v = .slice A n c ∧ ArgL W A n c L := by
  obtain ⟨A0, n0, c0, rfl⟩ := okWide_slice ht hv
  obtain ⟨fuel, hf⟩ := h
  obtain ⟨A, n, c, L, e1, hnc, hcm, hcells, hq⟩ := trodCells (u := .slice A0 n0 c0) cLc (fun x => IntR x.ty) (by decide) cLc_len ht hC (fun fuel cs z hl h => str_int he hone h0 h1 hl h) (by simpa [Value.cells] using hf)
  exact ⟨A, n, c, L, e1, hnc, hcm, hcells, hq⟩

/-- a place by value -/
theorem openPlace {H : Type} {enc : TypeId × Value → H} {P : Program} {W : World} {base : Nat} {e ep : TypeId} {f0 f1 g0 g1 : Field} {v : Value} {d : DataW H} {p : List MemPlace} (he : P.underlying e = some (.struct #[f0, f1])) (hone : Go.Deep.oneCellFields P #[f0, f1] = true) (hC : P.cellsOf e = 2)
    (h0 : P.underlying f0.type = some (.int .i64)) (h1 : P.underlying f1.type = some (.slice ep)) (hep : P.underlying ep = some (.struct #[g0, g1])) (hpone : Go.Deep.oneCellFields P #[g0, g1] = true) (hpC : P.cellsOf ep = 2) (k0 : P.underlying g0.type = some (.int .i64)) (k1 : P.underlying g1.type = some (.int .i64))
    (hv : Value.okWide P W .any base e v) (h : DataW.Trod enc P W 0 (fun _ => true) true e v d p) : ∃ x, v = aggPl x ∧ OnePl W W.heap.size x := by
  obtain ⟨cs, rfl, hsz⟩ := okWide_struct he hv
  obtain ⟨fuel, hf⟩ := h
  obtain ⟨l⟩ := cs
  match l, hsz.trans hC with
  | [v0, v1], _ =>
    obtain ⟨k, hk⟩ := trodFields (cs := [v0, v1]) he hone rfl (by simpa [Value.cells] using hf)
    obtain ⟨u0, y0, e0, r0⟩ := hk 0 f0 rfl
    obtain ⟨u1, y1, e1, r1⟩ := hk 1 f1 rfl
    injection e0 with e0
    injection e1 with e1
    subst e0 e1
    obtain ⟨l0, q0, _, w0⟩ := DataW.trod_int h0 r0
    injection q0 with q0
    subst q0
    obtain ⟨A, n, c, L, rfl, hnc, hcm, hcells, hq⟩ := trodCells pV IntP (by decide) pV_len h1 hpC (fun fuel cs z hl h => two_fields hep hpone k0 k1 hl h) r1
    exact ⟨⟨l0, A, n, c, L⟩, rfl, hnc, hcm, rngL w0, hcells, hq⟩
end Go.Proofs.YtbdimnncobpfdaaGreat
