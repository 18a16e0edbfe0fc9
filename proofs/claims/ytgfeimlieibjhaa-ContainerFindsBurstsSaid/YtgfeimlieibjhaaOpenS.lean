/- How an argument of type []Section that came in reads; and an array of two small numbers. -/
import Derived.Test.YtgfeimlieibjhaaOpen
import Derived.Test.YtgfeimlieibjhaaSecs
import Derived.Deep.Slices
import Derived.Deep.Fields
import Derived.ChangeMaps5
set_option linter.unusedVariables false
namespace Go.Proofs.Ytgfeimlieibjhaa
open Go.ChangeShapes Go.WideShapes Go.ChangeAt Go.RowKit

/-- what the walk is told of an argument of type []Section -/
structure ArgS (w : World) (A : Option Addr) (n c : Nat) (L : List SecW) : Prop where
  nc : n ≤ c
  cm : c ≤ maxLen
  secs : Secs w w.heap.size 2 c2 A n L
  zero : ∀ x ∈ L, x.fr = 0 ∧ x.to = 0

theorem listS_of {α : Type} {Q : Nat → α → Prop} : ∀ n : Nat, (∀ i, i < n → ∃ a, Q i a) → ∃ L : List α, L.length = n ∧ ∀ i a, L[i]? = some a → Q i a
  | 0, _ => ⟨[], rfl, fun i a h => by simp at h⟩
  | n + 1, h => by
    obtain ⟨L, hl, hq⟩ := listS_of n fun i hi => h i (by omega)
    obtain ⟨a, ha⟩ := h n (by omega)
    refine ⟨L ++ [a], by simp [hl], fun i b hb => ?_⟩
    rcases Nat.lt_or_ge i L.length with hi | hi
    · rw [List.getElem?_append_left hi] at hb
      exact hq i b hb
    · rw [List.getElem?_append_right hi] at hb
      have hi0 : i - L.length = 0 := by
        rcases Nat.eq_zero_or_pos (i - L.length) with h0 | h0
        · exact h0
        · rw [List.getElem?_eq_none (by simp; omega)] at hb; cases hb
      rw [hi0] at hb
      simp at hb
      subst hb
      rw [show i = n by omega]
      exact ha

theorem openSecs {H : Type} {enc : TypeId × Value → H} {P : Program} {W : World} {base : Nat} {t e e1 : TypeId} {fs : Array Field} {f0 f1 : Field} {v : Value} {d : DataW H} {p : List MemPlace} (ht : P.underlying t = some (.slice e)) (he : P.underlying e = some (.struct fs))
    (hfs : fs = #[f0, f1]) (hone : Go.Deep.oneCellFields P fs = true) (hC : P.cellsOf e = 2) (h0 : P.underlying f0.type = some (.int .i64)) (h1 : P.underlying f1.type = some (.slice e1)) (he1 : P.underlying e1 = some (.int .u8)) (hc1 : P.cellsOf e1 = 1)
    (hv : Value.okWide P W .any base t v) (h : DataW.Trod enc P W 0 (fun _ => true) true t v d p) :
    ∃ A n c L, v = .slice A n c ∧ ArgS W A n c L := by
  obtain ⟨A, n, c, rfl⟩ := okWide_slice ht hv
  obtain ⟨fuel, hf⟩ := h
  rcases Go.Deep.open_slice ht hf with ⟨hcs, _⟩ | ⟨a, len, cap, m, nn, D, Pl, hcs, _, hlc, hcm, hm, _, hi⟩
  · simp [Value.cells] at hcs
    obtain ⟨rfl, rfl, rfl⟩ := hcs
    exact ⟨none, 0, 0, [], rfl, Nat.le_refl _, Nat.zero_le _, ⟨⟨rfl, fun h => absurd h (by omega)⟩, fun x hx => by cases hx⟩, fun x hx => by cases hx⟩
  · simp [Value.cells] at hcs
    obtain ⟨rfl, rfl, rfl⟩ := hcs
    simp only [if_true] at hm
    subst hm
    subst hfs
    have key : ∀ i, i < n → ∃ x : SecW, (x.ok ∧ Rd W W.heap.size x.A x.n (u8s x.xs)) ∧ (x.fr = 0 ∧ x.to = 0) ∧ W.cell? ((a.add (i * 2)).add 0) = some (.int .i64 x.id) ∧ W.cell? ((a.add (i * 2)).add 1) = some (.slice x.A x.n x.c) := by
      intro i hin
      obtain ⟨cs, hcs, htr⟩ := hi i (by omega)
      rw [hC] at hcs
      obtain ⟨_, hlen, hat⟩ := World.cells?_some hcs
      obtain ⟨ys, k, _, _, _, hyl, hfld⟩ := DataW.trod_struct he htr
      have one := Go.Deep.hone_of hone
      have part : ∀ (j : Nat) (f : Field), (#[f0, f1] : Array Field)[j]? = some f → j < 2 → ∃ u y, cs[j]? = some u ∧ DataW.trod enc P W 0 (fun _ => true) true k f.type [u] = some y := by
        intro j f hj hj4
        obtain ⟨ho, hc1⟩ := one j f hj
        have hb := hfld j f hj
        have hjl : j < cs.length := by omega
        rw [ho, hc1, Go.Deep.take1_drop cs j (.int .i64 0) hjl] at hb
        refine ⟨cs.getD j (.int .i64 0), ys[j]'(by rw [hyl]; exact hj4), by simp [List.getD_eq_getElem?_getD, List.getElem?_eq_getElem hjl], ?_⟩
        rw [hb]
        exact List.getElem?_eq_getElem _
      obtain ⟨u0, y0, e0, t0⟩ := part 0 f0 rfl (by omega)
      obtain ⟨u1, y1, e1', t1⟩ := part 1 f1 rfl (by omega)
      obtain ⟨k0, q0, _, w0⟩ := DataW.trod_int h0 t0
      injection q0 with q0
      subst q0
      have hw : -9223372036854775808 ≤ k0 ∧ k0 ≤ 9223372036854775807 := by simpa [Lit.wf, IntKind.min, IntKind.max, IntKind.signed, IntKind.bits] using w0
      rcases open_ints h1 he1 hc1 t1 with ⟨hcs1, _⟩ | ⟨x, l, c', zs, hcs1, _, hl, hm1, hz, _, hcell, hwz⟩
      · injection hcs1 with hcs1
        subst hcs1
        exact ⟨⟨k0, none, 0, 0, [], 0, 0⟩, ⟨⟨Nat.le_refl _, Nat.zero_le _, Byt.nil, rfl, hw.1, hw.2⟩, Rd.nil _ _ _⟩, ⟨rfl, rfl⟩, (hat 0 (by omega)).trans e0, (hat 1 (by omega)).trans e1'⟩
      · injection hcs1 with hcs1
        subst hcs1
        simp only [if_true] at hz
        refine ⟨⟨k0, some x, l, c', zs.take l, 0, 0⟩, ⟨⟨hl, hm1, fun y hy => ?_, ?_, hw.1, hw.2⟩, ⟨?_, fun hn => ?_⟩⟩, ⟨rfl, rfl⟩, (hat 0 (by omega)).trans e0, (hat 1 (by omega)).trans e1'⟩
        · have := hwz y (List.mem_of_mem_take hy)
          simp [Lit.wf, IntKind.min, IntKind.max, IntKind.signed, IntKind.bits] at this
          omega
        · simp; omega
        · simp; omega
        · obtain ⟨b, o, spot⟩ := x
          have h00 := hcell 0 (by simp only [] at hn; omega)
          have hspot : spot = none := by simpa [Addr.add] using World.cell?_spot h00
          subst hspot
          have hadd : ∀ j, (⟨b, o, none⟩ : Addr).add j = ⟨b, o + j, none⟩ := fun j => by unfold Addr.add; split <;> simp_all
          refine ⟨b, o, rfl, cellLt h00, fun j u hu => ?_⟩
          have hj : j < l := by
            rcases Nat.lt_or_ge j l with h' | h'
            · exact h'
            · rw [List.getElem?_eq_none (by simp; omega)] at hu; cases hu
          have := hcell j (by omega)
          rw [hadd] at this
          rw [this]
          simp [hj, List.getElem?_eq_getElem (show j < zs.length by omega)] at hu
          rw [← hu]
          simp [List.getD, List.getElem?_eq_getElem (show j < zs.length by omega)]
    obtain ⟨L, hL, hq⟩ := listS_of n key
    refine ⟨some a, n, _, L, rfl, hlc, hcm, ⟨⟨hL, fun hn => ?_⟩, fun x hx => ?_⟩, fun x hx => ?_⟩
    · obtain ⟨x0, hx0⟩ : ∃ x, L[0]? = some x := ⟨_, List.getElem?_eq_getElem (by omega)⟩
      obtain ⟨b, o, spot⟩ := a
      have hc0 := (hq 0 x0 hx0).2.2.1
      have hspot : spot = none := by
        have := World.cell?_spot hc0
        simpa [Addr.add] using this
      subst hspot
      have hadd : ∀ i j, ((⟨b, o, none⟩ : Addr).add i).add j = ⟨b, o + i + j, none⟩ := fun i j => by unfold Addr.add; split <;> split <;> simp_all
      refine ⟨b, o, rfl, ?_, fun i x hx j u hu => ?_⟩
      · have := cellLt hc0
        rw [hadd] at this
        exact this
      · obtain ⟨_, _, a0, a1⟩ := hq i x hx
        rw [hadd] at a0 a1
        match j, hu with
        | 0, hu => obtain rfl : _ = u := by simpa [c2] using hu
                   exact a0
        | 1, hu => obtain rfl : _ = u := by simpa [c2] using hu
                   exact a1
        | j + 2, hu => simp [c2] at hu
    · obtain ⟨i, hix⟩ := List.getElem?_of_mem hx
      exact (hq i x hix).1
    · obtain ⟨i, hix⟩ := List.getElem?_of_mem hx
      exact (hq i x hix).2.1

/-- an array of two numbers of sixteen bits -/
theorem openPair16 {H : Type} {enc : TypeId × Value → H} {P : Program} {W : World} {base : Nat} {t e : TypeId} {v : Value} {d : DataW H} {p : List MemPlace} (ht : P.underlying t = some (.array 2 e)) (he : P.underlying e = some (.int .u16)) (hc : P.cellsOf e = 1) (hC : P.cellsOf t = 2)
    (hv : Value.okWide P W .any base t v) (h : DataW.Trod enc P W 0 (fun _ => true) true t v d p) :
    ∃ a b : Int, v = .agg #[.int .u16 a, .int .u16 b] ∧ (0 ≤ a ∧ a ≤ 65535) ∧ 0 ≤ b ∧ b ≤ 65535 := by
  simp only [Value.okWide, ht] at hv
  obtain ⟨cs, rfl, hs, _⟩ := hv
  obtain ⟨fuel, hf⟩ := h
  obtain ⟨xs, m, _, _, hlen, hxl, hat⟩ := DataW.trod_array ht hf
  rw [hC] at hs
  obtain ⟨l⟩ := cs
  match l, hs with
  | [u0, u1], _ =>
    have g0 := hat 0 (by omega)
    have g1 := hat 1 (by omega)
    rw [hc] at g0 g1
    have t0 : DataW.trod enc P W 0 (fun _ => true) true m e [u0] = some (xs[0]'(by omega)) := by
      have := g0.trans (List.getElem?_eq_getElem (by omega))
      simpa [Value.cells] using this
    have t1 : DataW.trod enc P W 0 (fun _ => true) true m e [u1] = some (xs[1]'(by omega)) := by
      have := g1.trans (List.getElem?_eq_getElem (by omega))
      simpa [Value.cells] using this
    obtain ⟨k0, q0, _, w0⟩ := DataW.trod_int he t0
    obtain ⟨k1, q1, _, w1⟩ := DataW.trod_int he t1
    injection q0 with q0
    injection q1 with q1
    subst q0 q1
    exact ⟨k0, k1, rfl, by simpa [Lit.wf, IntKind.min, IntKind.max, IntKind.signed, IntKind.bits] using w0, by simpa [Lit.wf, IntKind.min, IntKind.max, IntKind.signed, IntKind.bits] using w1⟩
end Go.Proofs.Ytgfeimlieibjhaa
