/- How an argument of type []api.Type, and one of type api.Type, that came in reads. -/
import Derived.Test.YtphfiohjkjipiaaOpen
import Derived.Test.YtphfiohjkjipiaaTyp
import Derived.Deep.Slices
import Derived.Deep.Fields
import Derived.ChangeMaps5
set_option linter.unusedVariables false
namespace Go.Proofs.Ytphfiohjkjipiaa
open Go.ChangeShapes Go.WideShapes Go.ChangeAt Go.RowKit

/-- what the walk is told of an argument of type []api.Type -/
structure ArgY (w : World) (A : Option Addr) (n c : Nat) (L : List TyW) : Prop where
  nc : n ≤ c
  cm : c ≤ maxLen
  typs : Typs w w.heap.size A n L

theorem listY_of {α : Type} {Q : Nat → α → Prop} : ∀ n : Nat, (∀ i, i < n → ∃ a, Q i a) → ∃ L : List α, L.length = n ∧ ∀ i a, L[i]? = some a → Q i a
  | 0, _ => ⟨[], rfl, fun i a h => by simp at h⟩
  | n + 1, h => by
    obtain ⟨L, hl, hq⟩ := listY_of n fun i hi => h i (by omega)
    obtain ⟨a, ha⟩ := h n (by omega)
    refine ⟨L ++ [a], by simp [hl], fun i b hb => ?_⟩
    rcases Nat.lt_or_ge i L.length with hi | hi
    · rw [List.getElem?_append_left hi] at hb
      exact hq i b hb
    · rw [List.getElem?_append_right hi] at hb
      have hi0 : i - L.length = 0 := by
        rcases Nat.eq_zero_or_pos (i - L.length) with h0 | h0
        · exact h0
        · rw [List.getElem?_eq_none (by simp; omega)] at hb; cases hb
      rw [hi0] at hb
      simp at hb
      subst hb
      rw [show i = n by omega]
      exact ha

/-- the five fields, read one by one, are those of a type -/
theorem open_five {H : Type} {enc : TypeId × Value → H} {P : Program} {W : World} {t0 t1 t2 t3 t4 e4 : TypeId} {k : Nat} {u0 u1 u2 u3 u4 : Value} {y0 y1 y2 y3 y4 : DataW H × List MemPlace}
    (h0 : P.underlying t0 = some (.int .i64)) (h1 : P.underlying t1 = some .bool) (h2 : P.underlying t2 = some (.int .i64)) (h3 : P.underlying t3 = some (.int .i64)) (h4 : P.underlying t4 = some (.slice e4)) (he4 : P.underlying e4 = some (.int .i64)) (hc4 : P.cellsOf e4 = 1)
    (r0 : DataW.trod enc P W 0 (fun _ => true) true k t0 [u0] = some y0) (r1 : DataW.trod enc P W 0 (fun _ => true) true k t1 [u1] = some y1) (r2 : DataW.trod enc P W 0 (fun _ => true) true k t2 [u2] = some y2) (r3 : DataW.trod enc P W 0 (fun _ => true) true k t3 [u3] = some y3) (r4 : DataW.trod enc P W 0 (fun _ => true) true k t4 [u4] = some y4) :
    ∃ x : TyW, OneT W W.heap.size x ∧ u0 = .int .i64 x.t.kind ∧ u1 = .bool x.t.mut_ ∧ u2 = .int .i64 x.t.region ∧ u3 = .int .i64 x.t.elem ∧ u4 = .slice x.A x.n x.c := by
  obtain ⟨k0, q0, _, w0⟩ := DataW.trod_int h0 r0
  obtain ⟨k1, q1, _⟩ := DataW.trod_bool h1 r1
  obtain ⟨k2, q2, _, w2⟩ := DataW.trod_int h2 r2
  obtain ⟨k3, q3, _, w3⟩ := DataW.trod_int h3 r3
  injection q0 with q0
  injection q1 with q1
  injection q2 with q2
  injection q3 with q3
  subst q0 q1 q2 q3
  have rng : ∀ {x : Int}, (Lit.int .i64 x).wf = true → IntR x := fun h => by simpa [IntR, Lit.wf, IntKind.min, IntKind.max, IntKind.signed, IntKind.bits] using h
  rcases open_ints h4 he4 hc4 r4 with ⟨hcs1, _⟩ | ⟨x, l, c', zs, hcs1, _, hl, hm1, hz, _, hcell, hwz⟩
  · injection hcs1 with hcs1
    subst hcs1
    exact ⟨⟨⟨k0, k1, k2, k3, []⟩, none, 0, 0⟩, ⟨⟨Nat.le_refl _, Nat.zero_le _, rfl, rng w0, rng w2, rng w3, fun y hy => by cases hy⟩, Rd.nil _ _ _⟩, rfl, rfl, rfl, rfl, rfl⟩
  · injection hcs1 with hcs1
    subst hcs1
    simp only [if_true] at hz
    refine ⟨⟨⟨k0, k1, k2, k3, zs.take l⟩, some x, l, c'⟩, ⟨⟨hl, hm1, ?_, rng w0, rng w2, rng w3, fun y hy => rng (hwz y (List.mem_of_mem_take hy))⟩, ⟨?_, fun hn => ?_⟩⟩, rfl, rfl, rfl, rfl, rfl⟩
    · simp; omega
    · simp; omega
    · obtain ⟨b, o, spot⟩ := x
      have h00 := hcell 0 (by simp only [] at hn; omega)
      have hspot : spot = none := by simpa [Addr.add] using World.cell?_spot h00
      subst hspot
      have hadd : ∀ j, (⟨b, o, none⟩ : Addr).add j = ⟨b, o + j, none⟩ := fun j => by unfold Addr.add; split <;> simp_all
      refine ⟨b, o, rfl, cellLt h00, fun j u hu => ?_⟩
      have hj : j < l := by
        rcases Nat.lt_or_ge j l with h' | h'
        · exact h'
        · rw [List.getElem?_eq_none (by simp; omega)] at hu; cases hu
      have := hcell j (by omega)
      rw [hadd] at this
      rw [this]
      simp [hj, List.getElem?_eq_getElem (show j < zs.length by omega)] at hu
      rw [← hu]
      simp [List.getD, List.getElem?_eq_getElem (show j < zs.length by omega)]

theorem openTyps {H : Type} {enc : TypeId × Value → H} {P : Program} {W : World} {base : Nat} {t e e4 : TypeId} {fs : Array Field} {f0 f1 f2 f3 f4 : Field} {v : Value} {d : DataW H} {p : List MemPlace} (ht : P.underlying t = some (.slice e)) (he : P.underlying e = some (.struct fs))
    (hfs : fs = #[f0, f1, f2, f3, f4]) (hone : Go.Deep.oneCellFields P fs = true) (hC : P.cellsOf e = 5) (h0 : P.underlying f0.type = some (.int .i64)) (h1 : P.underlying f1.type = some .bool) (h2 : P.underlying f2.type = some (.int .i64)) (h3 : P.underlying f3.type = some (.int .i64)) (h4 : P.underlying f4.type = some (.slice e4)) (he4 : P.underlying e4 = some (.int .i64)) (hc4 : P.cellsOf e4 = 1)
    (hv : Value.okWide P W .any base t v) (h : DataW.Trod enc P W 0 (fun _ => true) true t v d p) :
    ∃ A n c L, v = .slice A n c ∧ ArgY W A n c L := by
  obtain ⟨A, n, c, rfl⟩ := okWide_slice ht hv
  obtain ⟨fuel, hf⟩ := h
  rcases Go.Deep.open_slice ht hf with ⟨hcs, _⟩ | ⟨a, len, cap, m, nn, D, Pl, hcs, _, hlc, hcm, hm, _, hi⟩
  · simp [Value.cells] at hcs
    obtain ⟨rfl, rfl, rfl⟩ := hcs
    exact ⟨none, 0, 0, [], rfl, Nat.le_refl _, Nat.zero_le _, ⟨⟨rfl, fun h => absurd h (by omega)⟩, fun x hx => by cases hx⟩⟩
  · simp [Value.cells] at hcs
    obtain ⟨rfl, rfl, rfl⟩ := hcs
    simp only [if_true] at hm
    subst hm
    subst hfs
    have key : ∀ i, i < n → ∃ x : TyW, OneT W W.heap.size x ∧ W.cell? ((a.add (i * 5)).add 0) = some (.int .i64 x.t.kind) ∧ W.cell? ((a.add (i * 5)).add 1) = some (.bool x.t.mut_) ∧ W.cell? ((a.add (i * 5)).add 2) = some (.int .i64 x.t.region) ∧ W.cell? ((a.add (i * 5)).add 3) = some (.int .i64 x.t.elem) ∧ W.cell? ((a.add (i * 5)).add 4) = some (.slice x.A x.n x.c) := by
      intro i hin
      obtain ⟨cs, hcs, htr⟩ := hi i (by omega)
      rw [hC] at hcs
      obtain ⟨_, hlen, hat⟩ := World.cells?_some hcs
      obtain ⟨ys, k, _, _, _, hyl, hfld⟩ := DataW.trod_struct he htr
      have one := Go.Deep.hone_of hone
      have part : ∀ (j : Nat) (f : Field), (#[f0, f1, f2, f3, f4] : Array Field)[j]? = some f → j < 5 → ∃ u y, cs[j]? = some u ∧ DataW.trod enc P W 0 (fun _ => true) true k f.type [u] = some y := by
        intro j f hj hj4
        obtain ⟨ho, hc1⟩ := one j f hj
        have hb := hfld j f hj
        have hjl : j < cs.length := by omega
        rw [ho, hc1, Go.Deep.take1_drop cs j (.int .i64 0) hjl] at hb
        refine ⟨cs.getD j (.int .i64 0), ys[j]'(by rw [hyl]; exact hj4), by simp [List.getD_eq_getElem?_getD, List.getElem?_eq_getElem hjl], ?_⟩
        rw [hb]
        exact List.getElem?_eq_getElem _
      obtain ⟨u0, y0, e0, r0⟩ := part 0 f0 rfl (by omega)
      obtain ⟨u1, y1, e1, r1⟩ := part 1 f1 rfl (by omega)
      obtain ⟨u2, y2, e2, r2⟩ := part 2 f2 rfl (by omega)
      obtain ⟨u3, y3, e3, r3⟩ := part 3 f3 rfl (by omega)
      obtain ⟨u4, y4, e4', r4⟩ := part 4 f4 rfl (by omega)
      obtain ⟨x, hx, q0, q1, q2, q3, q4⟩ := open_five h0 h1 h2 h3 h4 he4 hc4 r0 r1 r2 r3 r4
      subst q0 q1 q2 q3 q4
      exact ⟨x, hx, (hat 0 (by omega)).trans e0, (hat 1 (by omega)).trans e1, (hat 2 (by omega)).trans e2, (hat 3 (by omega)).trans e3, (hat 4 (by omega)).trans e4'⟩
    obtain ⟨L, hL, hq⟩ := listY_of n key
    refine ⟨some a, n, _, L, rfl, hlc, hcm, ⟨⟨hL, fun hn => ?_⟩, fun x hx => ?_⟩⟩
    · obtain ⟨x0, hx0⟩ : ∃ x, L[0]? = some x := ⟨_, List.getElem?_eq_getElem (by omega)⟩
      obtain ⟨b, o, spot⟩ := a
      have hc0 := (hq 0 x0 hx0).2.1
      have hspot : spot = none := by
        have := World.cell?_spot hc0
        simpa [Addr.add] using this
      subst hspot
      have hadd : ∀ i j, ((⟨b, o, none⟩ : Addr).add i).add j = ⟨b, o + i + j, none⟩ := fun i j => by unfold Addr.add; split <;> split <;> simp_all
      refine ⟨b, o, rfl, ?_, fun i x hx j u hu => ?_⟩
      · have := cellLt hc0
        rw [hadd] at this
        exact this
      · obtain ⟨_, a0, a1, a2, a3, a4⟩ := hq i x hx
        rw [hadd] at a0 a1 a2 a3 a4
        match j, hu with
        | 0, hu => obtain rfl : _ = u := by simpa [c5] using hu
                   exact a0
        | 1, hu => obtain rfl : _ = u := by simpa [c5] using hu
                   exact a1
        | 2, hu => obtain rfl : _ = u := by simpa [c5] using hu
                   exact a2
        | 3, hu => obtain rfl : _ = u := by simpa [c5] using hu
                   exact a3
        | 4, hu => obtain rfl : _ = u := by simpa [c5] using hu
                   exact a4
        | j + 5, hu => simp [c5] at hu
    · obtain ⟨i, hix⟩ := List.getElem?_of_mem hx
      exact (hq i x hix).1

/-- one type by value -/
theorem openTyp {H : Type} {enc : TypeId × Value → H} {P : Program} {W : World} {base : Nat} {e e4 : TypeId} {fs : Array Field} {f0 f1 f2 f3 f4 : Field} {v : Value} {d : DataW H} {p : List MemPlace} (he : P.underlying e = some (.struct fs))
    (hfs : fs = #[f0, f1, f2, f3, f4]) (hone : Go.Deep.oneCellFields P fs = true) (hC : P.cellsOf e = 5) (h0 : P.underlying f0.type = some (.int .i64)) (h1 : P.underlying f1.type = some .bool) (h2 : P.underlying f2.type = some (.int .i64)) (h3 : P.underlying f3.type = some (.int .i64)) (h4 : P.underlying f4.type = some (.slice e4)) (he4 : P.underlying e4 = some (.int .i64)) (hc4 : P.cellsOf e4 = 1)
    (hv : Value.okWide P W .any base e v) (h : DataW.Trod enc P W 0 (fun _ => true) true e v d p) :
    ∃ x, v = aggT x ∧ OneT W W.heap.size x := by
  obtain ⟨cs, rfl, hsz⟩ := okWide_struct he hv
  subst hfs
  obtain ⟨fuel, hf⟩ := h
  obtain ⟨ys, k, _, _, _, hyl, hfld⟩ := DataW.trod_struct he hf
  obtain ⟨l⟩ := cs
  match l, hsz.trans hC with
  | [v0, v1, v2, v3, v4], _ =>
    have one := Go.Deep.hone_of hone
    match ys, hyl with
    | [y0, y1, y2, y3, y4], _ =>
      obtain ⟨o0, k0⟩ := one 0 f0 rfl
      obtain ⟨o1, k1⟩ := one 1 f1 rfl
      obtain ⟨o2, k2⟩ := one 2 f2 rfl
      obtain ⟨o3, k3⟩ := one 3 f3 rfl
      obtain ⟨o4, k4⟩ := one 4 f4 rfl
      obtain ⟨x, hx, q0, q1, q2, q3, q4⟩ := open_five h0 h1 h2 h3 h4 he4 hc4 (by simpa [Value.cells, o0, k0] using hfld 0 f0 rfl) (by simpa [Value.cells, o1, k1] using hfld 1 f1 rfl) (by simpa [Value.cells, o2, k2] using hfld 2 f2 rfl) (by simpa [Value.cells, o3, k3] using hfld 3 f3 rfl) (by simpa [Value.cells, o4, k4] using hfld 4 f4 rfl)
      subst q0 q1 q2 q3 q4
      exact ⟨x, rfl, hx⟩
end Go.Proofs.Ytphfiohjkjipiaa
