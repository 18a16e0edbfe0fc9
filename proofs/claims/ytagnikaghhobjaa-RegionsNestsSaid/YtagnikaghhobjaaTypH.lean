/- Check of the code: what its loop keeps. -/
import Derived.Test.YtagnikaghhobjaaTypC
import Derived.Test.YtagnikaghhobjaaTypO
import Derived.Test.YtagnikaghhobjaaTypK
import Derived.Test.YtagnikaghhobjaaTypX
import Derived.Deep.RegionHeld3
import Derived.Laws.EntriesVeiled
set_option linter.unusedVariables false
namespace Go.Proofs.Ytagnikaghhobjaa
open Go.RowKit

/-- a type whose key is its own -/
structure TyB (t : Ty) : Prop where
  k : IntR t.kind
  r : IntR t.region
  e : IntR t.elem
  n : t.fields.length ≤ 65535
  f : ∀ f ∈ t.fields, 0 ≤ f ∧ f < 65536
/-- the row of depths in block b, those of pre told -/
structure ChkD (b n : Nat) (pre : List Ty) (w : World) : Prop where
  dep : ∀ j v, (tyDeps pre)[j]? = some v → w.cell? ⟨b, j, none⟩ = some (.int .i64 v)
  rest : ∀ j, pre.length ≤ j → j < n → ∃ v, w.cell? ⟨b, j, none⟩ = some (.int .i64 v)
  fz : ∀ j, w.frozen? ⟨b, j, none⟩ = false
theorem ChkD.block {b n : Nat} {pre : List Ty} {w w' : World} (h : ChkD b n pre w) (hb : w'.heap[b]? = w.heap[b]?) : ChkD b n pre w' :=
  ⟨fun j v hv => (World.cell?_of_block (w := w) hb).trans (h.dep j v hv), fun j h1 h2 => by obtain ⟨v, hv⟩ := h.rest j h1 h2; exact ⟨v, (World.cell?_of_block (w := w) hb).trans hv⟩, fun j => (World.frozen?_of_block (w := w) (a := ⟨b, j, none⟩) hb).trans (h.fz j)⟩
/-- the next depth is laid -/
theorem ChkD.set {b n : Nat} {pre : List Ty} {w : World} (h : ChkD b n pre w) {t : Ty} (hk : pre.length < n) : ChkD b n (pre ++ [t]) (w.setCell ⟨b, pre.length, none⟩ (.int .i64 (tyDpt (tyDeps pre) t))) := by
  have hlen : (tyDeps pre).length = pre.length := by unfold tyDeps; exact tyTab_len _ _
  have hs : tyDeps (pre ++ [t]) = tyDeps pre ++ [tyDpt (tyDeps pre) t] := tyTab_snoc _ _ _
  obtain ⟨u, hu⟩ := h.rest pre.length (Nat.le_refl _) hk
  refine ⟨fun j v hv => ?_, fun j h1 h2 => ?_, fun j => (World.frozen?_setCell w _ _ _).trans (h.fz j)⟩
  · rw [hs] at hv
    rcases Nat.lt_or_ge j pre.length with hj | hj
    · rw [List.getElem?_append_left (by omega)] at hv
      exact (World.cell?_setCell_other w ⟨b, pre.length, none⟩ ⟨b, j, none⟩ _ (by simp <;> omega)).trans (h.dep j v hv)
    · rw [List.getElem?_append_right (by omega)] at hv
      have hj0 : j = pre.length := by
        rcases Nat.eq_zero_or_pos (j - (tyDeps pre).length) with h0 | h0
        · omega
        · rw [List.getElem?_eq_none (by simp; omega)] at hv; cases hv
      subst hj0
      rw [hlen, Nat.sub_self] at hv
      obtain rfl : _ = v := by simpa using hv
      exact World.cell?_setCell_same _ _ _ hu
  · simp only [List.length_append, List.length_singleton] at h1
    obtain ⟨v, hv⟩ := h.rest j (by omega) h2
    exact ⟨v, (World.cell?_setCell_other w ⟨b, pre.length, none⟩ ⟨b, j, none⟩ _ (by simp <;> omega)).trans hv⟩

/-- a depth that is not told is laid: those told stay -/
theorem ChkD.again {b n : Nat} {pre : List Ty} {w : World} (h : ChkD b n pre w) {k : Nat} (hk : pre.length = k) (v : Int) : ChkD b n pre (w.setCell ⟨b, k, none⟩ (.int .i64 v)) := by
  have hlen : (tyDeps pre).length = pre.length := by unfold tyDeps; exact tyTab_len _ _
  refine ⟨fun j u hu => ?_, fun j h1 h2 => ?_, fun j => (World.frozen?_setCell w _ _ _).trans (h.fz j)⟩
  · have hj : j < pre.length := by rw [← hlen]; exact (List.getElem?_eq_some_iff.1 hu).1
    exact (World.cell?_setCell_other w ⟨b, k, none⟩ ⟨b, j, none⟩ _ (by simp <;> omega)).trans (h.dep j u hu)
  · obtain ⟨u, hu⟩ := h.rest j h1 h2
    by_cases hjk : j = k
    · subst hjk
      exact ⟨v, World.cell?_setCell_same _ _ _ hu⟩
    · exact ⟨u, (World.cell?_setCell_other w ⟨b, k, none⟩ ⟨b, j, none⟩ _ (by simp <;> omega)).trans hu⟩

end Go.Proofs.Ytagnikaghhobjaa
