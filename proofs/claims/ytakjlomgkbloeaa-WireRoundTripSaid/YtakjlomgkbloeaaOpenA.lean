/- How an argument of type []Act that came in reads. -/
import Derived.Test.YtakjlomgkbloeaaOpen
import Derived.Test.YtakjlomgkbloeaaActs
import Derived.Deep.Slices
import Derived.Deep.Fields
import Derived.ChangeMaps5
set_option linter.unusedVariables false
namespace Go.Proofs.Ytakjlomgkbloeaa
open Go.ChangeShapes Go.WideShapes Go.ChangeAt Go.RowKit

/-- what the walk is told of an argument of type []Act -/
structure ArgA (w : World) (A : Option Addr) (n c : Nat) (L : List ActV) : Prop where
  nc : n ≤ c
  cm : c ≤ maxLen
  acts : Acts w w.heap.size A n L

theorem list_of {α : Type} {Q : Nat → α → Prop} : ∀ n : Nat, (∀ i, i < n → ∃ a, Q i a) → ∃ L : List α, L.length = n ∧ ∀ i a, L[i]? = some a → Q i a
  | 0, _ => ⟨[], rfl, fun i a h => by simp at h⟩
  | n + 1, h => by
    obtain ⟨L, hl, hq⟩ := list_of n fun i hi => h i (by omega)
    obtain ⟨a, ha⟩ := h n (by omega)
    refine ⟨L ++ [a], by simp [hl], fun i b hb => ?_⟩
    rcases Nat.lt_or_ge i L.length with hi | hi
    · rw [List.getElem?_append_left hi] at hb
      exact hq i b hb
    · rw [List.getElem?_append_right hi] at hb
      have hi0 : i - L.length = 0 := by
        rcases Nat.eq_zero_or_pos (i - L.length) with h0 | h0
        · exact h0
        · rw [List.getElem?_eq_none (by simp; omega)] at hb; cases hb
      rw [hi0] at hb
      simp at hb
      subst hb
      rw [show i = n by omega]
      exact ha

theorem openActs {H : Type} {enc : TypeId × Value → H} {P : Program} {W : World} {base : Nat} {t e : TypeId} {fs : Array Field} {f0 f1 f2 f3 : Field} {v : Value} {d : DataW H} {p : List MemPlace} (ht : P.underlying t = some (.slice e)) (he : P.underlying e = some (.struct fs))
    (hfs : fs = #[f0, f1, f2, f3]) (hone : Go.Deep.oneCellFields P fs = true) (hC : P.cellsOf e = 4) (h0 : P.underlying f0.type = some (.int .i64)) (h1 : P.underlying f1.type = some (.int .u64)) (h2 : P.underlying f2.type = some (.int .i64)) (h3 : P.underlying f3.type = some .string)
    (hv : Value.okWide P W .any base t v) (h : DataW.Trod enc P W 0 (fun _ => true) true t v d p) :
    ∃ A n c L, v = .slice A n c ∧ ArgA W A n c L := by
  obtain ⟨A, n, c, rfl⟩ := okWide_slice ht hv
  obtain ⟨fuel, hf⟩ := h
  rcases Go.Deep.open_slice ht hf with ⟨hcs, _⟩ | ⟨a, len, cap, m, nn, D, Pl, hcs, _, hlc, hcm, hm, _, hi⟩
  · simp [Value.cells] at hcs
    obtain ⟨rfl, rfl, rfl⟩ := hcs
    exact ⟨none, 0, 0, [], rfl, Nat.le_refl _, Nat.zero_le _, rfl, (fun a ha => by cases ha), (fun h => absurd h (by omega))⟩
  · simp [Value.cells] at hcs
    obtain ⟨rfl, rfl, rfl⟩ := hcs
    simp only [if_true] at hm
    subst hm
    subst hfs
    have key : ∀ i, i < n → ∃ x : ActV, x.ok ∧ W.cell? ((a.add (i * 4)).add 0) = some (.int .i64 x.k) ∧ W.cell? ((a.add (i * 4)).add 1) = some (.int .u64 x.u) ∧ W.cell? ((a.add (i * 4)).add 2) = some (.int .i64 x.n) ∧ W.cell? ((a.add (i * 4)).add 3) = some (.string x.s) := by
      intro i hin
      obtain ⟨cs, hcs, htr⟩ := hi i (by omega)
      rw [hC] at hcs
      obtain ⟨_, hlen, hat⟩ := World.cells?_some hcs
      obtain ⟨ys, k, _, _, _, hyl, hfld⟩ := DataW.trod_struct he htr
      have one := Go.Deep.hone_of hone
      have part : ∀ (j : Nat) (f : Field), (#[f0, f1, f2, f3] : Array Field)[j]? = some f → j < 4 → ∃ u y, cs[j]? = some u ∧ DataW.trod enc P W 0 (fun _ => true) true k f.type [u] = some y := by
        intro j f hj hj4
        obtain ⟨ho, hc1⟩ := one j f hj
        have hb := hfld j f hj
        have hjl : j < cs.length := by omega
        rw [ho, hc1, Go.Deep.take1_drop cs j (.int .i64 0) hjl] at hb
        refine ⟨cs.getD j (.int .i64 0), ys[j]'(by rw [hyl]; exact hj4), by simp [List.getD_eq_getElem?_getD, List.getElem?_eq_getElem hjl], ?_⟩
        rw [hb]
        exact List.getElem?_eq_getElem _
      obtain ⟨u0, y0, e0, t0⟩ := part 0 f0 rfl (by omega)
      obtain ⟨u1, y1, e1, t1⟩ := part 1 f1 rfl (by omega)
      obtain ⟨u2, y2, e2, t2⟩ := part 2 f2 rfl (by omega)
      obtain ⟨u3, y3, e3, t3⟩ := part 3 f3 rfl (by omega)
      obtain ⟨k0, q0, _, w0⟩ := DataW.trod_int h0 t0
      obtain ⟨k1, q1, _, w1⟩ := DataW.trod_int h1 t1
      obtain ⟨k2, q2, _, w2⟩ := DataW.trod_int h2 t2
      obtain ⟨k3, q3, _, w3⟩ := DataW.trod_string h3 t3
      injection q0 with q0
      injection q1 with q1
      injection q2 with q2
      injection q3 with q3
      subst q0 q1 q2 q3
      refine ⟨⟨k0, k1, k2, k3⟩, ⟨?_, ?_, ?_, w3⟩, (hat 0 (by omega)).trans e0, (hat 1 (by omega)).trans e1, (hat 2 (by omega)).trans e2, (hat 3 (by omega)).trans e3⟩
      · simpa [Lit.wf, IntKind.min, IntKind.max, IntKind.signed, IntKind.bits] using w0
      · simpa [Lit.wf, IntKind.min, IntKind.max, IntKind.signed, IntKind.bits] using w1
      · simpa [Lit.wf, IntKind.min, IntKind.max, IntKind.signed, IntKind.bits] using w2
    obtain ⟨L, hL, hq⟩ := list_of n key
    refine ⟨some a, n, _, L, rfl, hlc, hcm, hL, fun x hx => ?_, fun hn => ?_⟩
    · obtain ⟨i, hix⟩ := List.getElem?_of_mem hx
      exact (hq i x hix).1
    · obtain ⟨x0, hx0⟩ : ∃ x, L[0]? = some x := ⟨_, List.getElem?_eq_getElem (by omega)⟩
      obtain ⟨b, o, spot⟩ := a
      have hc0 := (hq 0 x0 hx0).2.1
      have hspot : spot = none := by
        have := World.cell?_spot hc0
        simpa [Addr.add] using this
      subst hspot
      have hadd : ∀ i j, ((⟨b, o, none⟩ : Addr).add i).add j = ⟨b, o + i + j, none⟩ := fun i j => by unfold Addr.add; split <;> split <;> simp_all
      refine ⟨b, o, rfl, ?_, fun i x hx => ?_⟩
      · have := cellLt hc0
        rw [hadd] at this
        exact this
      · obtain ⟨_, a0, a1, a2, a3⟩ := hq i x hx
        rw [hadd] at a0 a1 a2 a3
        exact ⟨a0, a1, a2, a3⟩
end Go.Proofs.Ytakjlomgkbloeaa
