/- Check of the code: what its loop keeps. -/
import Derived.Test.YtkcgonggokhneaaTypC
import Derived.Test.YtkcgonggokhneaaTypO
import Derived.Test.YtkcgonggokhneaaTypK
import Derived.Test.YtkcgonggokhneaaTypX
import Derived.Deep.RegionHeld3
import Derived.Laws.EntriesVeiled
set_option linter.unusedVariables false
namespace Go.Proofs.Ytkcgonggokhneaa
open Go.RowKit

/-- a type whose key is its own -/
structure TyB (t : Ty) : Prop where
  k : IntR t.kind
  r : IntR t.region
  e : IntR t.elem
  n : t.fields.length ≤ 65535
  f : ∀ f ∈ t.fields, 0 ≤ f ∧ f < 65536
theorem TyB.inj {t u : Ty} (h : TyB t) (h' : TyB u) (e : keyL t = keyL u) : t = u := keyL_inj h.k h.r h.e h.n h'.k h'.r h'.e h'.n h.f h'.f e
theorem TyB.key {t : Ty} (h : TyB t) : keyOf Try.prog 49 (keyV t) = some (keyL t) := keyOf_key h.k h.r h.e h.n

/-- the row of depths in block b, those of pre told -/
structure ChkD (b n : Nat) (pre : List Ty) (w : World) : Prop where
  dep : ∀ j v, (tyDeps pre)[j]? = some v → w.cell? ⟨b, j, none⟩ = some (.int .i64 v)
  rest : ∀ j, pre.length ≤ j → j < n → ∃ v, w.cell? ⟨b, j, none⟩ = some (.int .i64 v)
  fz : ∀ j, w.frozen? ⟨b, j, none⟩ = false
theorem ChkD.block {b n : Nat} {pre : List Ty} {w w' : World} (h : ChkD b n pre w) (hb : w'.heap[b]? = w.heap[b]?) : ChkD b n pre w' :=
  ⟨fun j v hv => (World.cell?_of_block (w := w) hb).trans (h.dep j v hv), fun j h1 h2 => by obtain ⟨v, hv⟩ := h.rest j h1 h2; exact ⟨v, (World.cell?_of_block (w := w) hb).trans hv⟩, fun j => (World.frozen?_of_block (w := w) (a := ⟨b, j, none⟩) hb).trans (h.fz j)⟩
/-- the next depth is laid -/
theorem ChkD.set {b n : Nat} {pre : List Ty} {w : World} (h : ChkD b n pre w) {t : Ty} (hk : pre.length < n) : ChkD b n (pre ++ [t]) (w.setCell ⟨b, pre.length, none⟩ (.int .i64 (tyDpt (tyDeps pre) t))) := by
  have hlen : (tyDeps pre).length = pre.length := by unfold tyDeps; exact tyTab_len _ _
  have hs : tyDeps (pre ++ [t]) = tyDeps pre ++ [tyDpt (tyDeps pre) t] := tyTab_snoc _ _ _
  obtain ⟨u, hu⟩ := h.rest pre.length (Nat.le_refl _) hk
  refine ⟨fun j v hv => ?_, fun j h1 h2 => ?_, fun j => (World.frozen?_setCell w _ _ _).trans (h.fz j)⟩
  · rw [hs] at hv
    rcases Nat.lt_or_ge j pre.length with hj | hj
    · rw [List.getElem?_append_left (by omega)] at hv
      exact (World.cell?_setCell_other w ⟨b, pre.length, none⟩ ⟨b, j, none⟩ _ (by simp <;> omega)).trans (h.dep j v hv)
    · rw [List.getElem?_append_right (by omega)] at hv
      have hj0 : j = pre.length := by
        rcases Nat.eq_zero_or_pos (j - (tyDeps pre).length) with h0 | h0
        · omega
        · rw [List.getElem?_eq_none (by simp; omega)] at hv; cases hv
      subst hj0
      rw [hlen, Nat.sub_self] at hv
      obtain rfl : _ = v := by simpa using hv
      exact World.cell?_setCell_same _ _ _ hu
  · simp only [List.length_append, List.length_singleton] at h1
    obtain ⟨v, hv⟩ := h.rest j (by omega) h2
    exact ⟨v, (World.cell?_setCell_other w ⟨b, pre.length, none⟩ ⟨b, j, none⟩ _ (by simp <;> omega)).trans hv⟩

/-- a depth that is not told is laid: those told stay -/
theorem ChkD.again {b n : Nat} {pre : List Ty} {w : World} (h : ChkD b n pre w) {k : Nat} (hk : pre.length = k) (v : Int) : ChkD b n pre (w.setCell ⟨b, k, none⟩ (.int .i64 v)) := by
  have hlen : (tyDeps pre).length = pre.length := by unfold tyDeps; exact tyTab_len _ _
  refine ⟨fun j u hu => ?_, fun j h1 h2 => ?_, fun j => (World.frozen?_setCell w _ _ _).trans (h.fz j)⟩
  · have hj : j < pre.length := by rw [← hlen]; exact (List.getElem?_eq_some_iff.1 hu).1
    exact (World.cell?_setCell_other w ⟨b, k, none⟩ ⟨b, j, none⟩ _ (by simp <;> omega)).trans (h.dep j u hu)
  · obtain ⟨u, hu⟩ := h.rest j h1 h2
    by_cases hjk : j = k
    · subst hjk
      exact ⟨v, World.cell?_setCell_same _ _ _ hu⟩
    · exact ⟨u, (World.cell?_setCell_other w ⟨b, k, none⟩ ⟨b, j, none⟩ _ (by simp <;> omega)).trans hu⟩

/-- the map of the types seen -/
def ChkM (b : Nat) (pre : List Ty) (w : World) : Prop := ∃ m Dm, w.ownsMap (H := Unit) Try.prog 49 (plainElem Try.prog 4) b m Dm ∧ m ≤ pre.length ∧
  (∀ t, TyB t → (Maps.has Dm (keyL t) = true ↔ t ∈ pre)) ∧ ∀ t, Maps.has Dm (keyL t) = true → ∀ z, Dm.atKey (keyL t) z = .lit (.bool true)
theorem ChkM.block {b : Nat} {pre : List Ty} {w w' : World} (h : ChkM b pre w) (hb : w'.heap[b]? = w.heap[b]?) : ChkM b pre w' := by
  obtain ⟨m, Dm, h1, h2⟩ := h
  exact ⟨m, Dm, owns_block h1 hb, h2⟩
theorem mapKey : Try.prog.underlying 44 = some (.map 49 4) := Try.underlying44
/-- is it there? -/
theorem ChkM.look {b : Nat} {pre : List Ty} {w : World} (h : ChkM b pre w) {t : Ty} (ht : TyB t) : (Instr.lookup 44 (.map (some b)) (keyV t) false).run Try.prog w = .ok (.bool (decide (t ∈ pre))) w := by
  obtain ⟨m, Dm, h1, _, h3, h4⟩ := h
  obtain ⟨v, ps, hrun, hv⟩ := h1.lookup seen_law mapKey (zeroB w) (zd := .lit (.bool false)) (zp := []) (plainElem_bool Try.underlying4 false) ht.key
  rw [hrun]
  cases hh : Maps.has Dm (keyL t)
  · rw [Maps.atKey_of_not_has hh] at hv
    obtain ⟨c, rfl, hc⟩ := plainElem_bool_inv Try.underlying4 hv
    injection hc with hc _
    injection hc with hc
    injection hc with hc
    have hn : ¬ t ∈ pre := fun h => by rw [(h3 t ht).2 h] at hh; cases hh
    rw [decide_eq_false hn, hc]
  · rw [h4 t hh] at hv
    obtain ⟨c, rfl, hc⟩ := plainElem_bool_inv Try.underlying4 hv
    injection hc with hc _
    injection hc with hc
    injection hc with hc
    rw [decide_eq_true ((h3 t ht).1 hh), hc]
/-- one more is noted -/
theorem ChkM.put {b : Nat} {pre : List Ty} {w w' : World} {m : Nat} {Dm : DataW Unit} {t : Ty} (hbd : ∀ u ∈ pre, TyB u) (h1 : w.ownsMap (H := Unit) Try.prog 49 (plainElem Try.prog 4) b m Dm) (h2 : m ≤ pre.length)
    (h3 : ∀ t, TyB t → (Maps.has Dm (keyL t) = true ↔ t ∈ pre)) (h4 : ∀ t, Maps.has Dm (keyL t) = true → ∀ z, Dm.atKey (keyL t) z = .lit (.bool true)) (ht : TyB t)
    (hw : w'.ownsMap (H := Unit) Try.prog 49 (plainElem Try.prog 4) b (m + 1) (Dm.put (keyL t) (.lit (.bool true)))) : ChkM b (pre ++ [t]) w' := by
  have hm : Maps.IsMap Dm := ⟨_, (h1.entries seen_law).choose_spec.1⟩
  refine ⟨m + 1, _, hw, by simp; omega, fun u hu => ?_, fun u hh z => ?_⟩
  · by_cases hut : u = t
    · subst hut
      rw [Maps.has_put_same hm keyL_key]
      simp
    · have hne : keyL u ≠ keyL t := fun e => hut (hu.inj ht e)
      rw [Maps.has_put_other hne, h3 u hu]
      simp [hut]
  · by_cases hut : keyL u = keyL t
    · rw [hut]
      exact Maps.atKey_put_same hm keyL_key _ z
    · rw [Maps.has_put_other hut] at hh
      exact (Maps.atKey_put_other hut _ z).trans (h4 u hh z)
end Go.Proofs.Ytkcgonggokhneaa
