/- The mathematics of subtypes. No program is named here. -/
import Derived.Test.YtagnikaghhobjaaRegM
set_option linter.unusedVariables false
namespace Go.Proofs.Ytagnikaghhobjaa
open Go.RowKit

def tyAt (L : List Ty) (s : Int) : Option Ty := if 0 ≤ s then L[s.toNat]? else none
theorem tyAt_nat {L : List Ty} {i : Nat} : tyAt L (i : Int) = L[i]? := by unfold tyAt; rw [if_pos (Int.natCast_nonneg _), Int.toNat_natCast]
theorem tyAt_some {L : List Ty} {s : Int} {a : Ty} (h : tyAt L s = some a) : ∃ i : Nat, s = (i : Int) ∧ L[i]? = some a := by
  unfold tyAt at h
  split at h
  · rename_i h0
    exact ⟨s.toNat, (Int.toNat_of_nonneg h0).symm, h⟩
  · cases h
theorem tyAt_rng {L : List Ty} {s : Int} {a : Ty} (h : tyAt L s = some a) : 0 ≤ s ∧ s < (L.length : Int) := by
  obtain ⟨i, rfl, h⟩ := tyAt_some h
  have := (List.getElem?_eq_some_iff.1 h).1
  omega
/-- the pairs that have to be subtypes as well -/
def needs (a b : Ty) : List Pr := if a.kind = 3 then (a.elem, b.elem) :: (if a.mut_ = true then [(b.elem, a.elem)] else []) else if a.kind = 4 then a.fields.zip b.fields else []
/-- can it be one at all? -/
def poss (O : Int → Int → Bool) (a b : Ty) : Bool :=
  if a.kind ≠ b.kind then false
  else if a.kind = 0 ∨ a.kind = 1 ∨ a.kind = 2 then true
  else if a.kind = 3 then (a.mut_ == b.mut_) && O a.region b.region
  else if a.kind = 4 then decide (a.fields.length = b.fields.length)
  else false
inductive Sub (O : Int → Int → Bool) (L : List Ty) : Int → Int → Prop
  | mk {s t : Int} {a b : Ty} : tyAt L s = some a → tyAt L t = some b → poss O a b = true → (∀ p : Pr, p ∈ needs a b → Sub O L p.1 p.2) → Sub O L s t
noncomputable def sub (O : Int → Int → Bool) (L : List Ty) (s t : Int) : Bool := @decide (Sub O L s t) (Classical.propDecidable _)
theorem sub_iff {O : Int → Int → Bool} {L : List Ty} {s t : Int} : sub O L s t = true ↔ Sub O L s t := by unfold sub; exact @decide_eq_true_iff _ (Classical.propDecidable _)
theorem sub_not {O : Int → Int → Bool} {L : List Ty} {s t : Int} : sub O L s t = false ↔ ¬ Sub O L s t := by rw [← sub_iff]; simp
theorem sub_eq {O : Int → Int → Bool} {L : List Ty} {s t : Int} {v : Bool} (h : v = true ↔ Sub O L s t) : v = sub O L s t := by rw [Bool.eq_iff_iff, sub_iff, h]

section
variable {O : Int → Int → Bool} {L : List Ty} {r : Int} {s t u : Int} {a b c : Ty}
theorem Sub.inv (h : Sub O L s t) : ∃ a b, tyAt L s = some a ∧ tyAt L t = some b ∧ poss O a b = true ∧ ∀ p : Pr, p ∈ needs a b → Sub O L p.1 p.2 := by
  cases h with
  | mk h1 h2 h3 h4 => exact ⟨_, _, h1, h2, h3, h4⟩
theorem Sub.at_ (h : Sub O L s t) (ha : tyAt L s = some a) (hb : tyAt L t = some b) : poss O a b = true ∧ ∀ p : Pr, p ∈ needs a b → Sub O L p.1 p.2 := by
  obtain ⟨a', b', h1, h2, h3, h4⟩ := h.inv
  rw [ha] at h1; injection h1 with h1; subst h1
  rw [hb] at h2; injection h2 with h2; subst h2
  exact ⟨h3, h4⟩
theorem poss_kind (h : poss O a b = true) : a.kind = b.kind := by
  unfold poss at h
  by_cases e : a.kind = b.kind
  · exact e
  · rw [if_pos e] at h; cases h
theorem poss_ref (h : poss O a b = true) (h3 : a.kind = 3) : a.mut_ = b.mut_ ∧ O a.region b.region = true := by
  have e := poss_kind h
  unfold poss at h
  rw [if_neg (fun h => h e), if_neg (by omega), if_pos h3, Bool.and_eq_true] at h
  exact ⟨by simpa using h.1, h.2⟩
theorem poss_tup (h : poss O a b = true) (h4 : a.kind = 4) : a.fields.length = b.fields.length := by
  have e := poss_kind h
  unfold poss at h
  rw [if_neg (fun h => h e), if_neg (by omega), if_neg (by omega), if_pos h4] at h
  simpa using h
theorem poss_flat (e : a.kind = b.kind) (h : a.kind = 0 ∨ a.kind = 1 ∨ a.kind = 2) : poss O a b = true := by unfold poss; rw [if_neg (fun h => h e), if_pos h]
theorem poss_mkref (e : a.kind = b.kind) (h3 : a.kind = 3) (hm : a.mut_ = b.mut_) (ho : O a.region b.region = true) : poss O a b = true := by
  unfold poss; rw [if_neg (fun h => h e), if_neg (by omega), if_pos h3, hm, ho]; simp
theorem poss_mktup (e : a.kind = b.kind) (h4 : a.kind = 4) (hl : a.fields.length = b.fields.length) : poss O a b = true := by
  unfold poss; rw [if_neg (fun h => h e), if_neg (by omega), if_neg (by omega), if_pos h4]; simpa using hl
theorem needs_ref (h3 : a.kind = 3) : needs a b = (a.elem, b.elem) :: (if a.mut_ = true then [(b.elem, a.elem)] else []) := by unfold needs; rw [if_pos h3]
theorem needs_tup (h4 : a.kind = 4) : needs a b = a.fields.zip b.fields := by unfold needs; rw [if_neg (by omega), if_pos h4]
theorem needs_flat (h : a.kind ≠ 3) (h' : a.kind ≠ 4) : needs a b = [] := by unfold needs; rw [if_neg h, if_neg h']
theorem zip_at {xs ys : List Int} {p : Pr} (h : p ∈ xs.zip ys) : ∃ i : Nat, xs[i]? = some p.1 ∧ ys[i]? = some p.2 := by
  obtain ⟨i, hi⟩ := List.getElem?_of_mem h
  exact ⟨i, List.getElem?_zip_eq_some.1 hi⟩
theorem zip_mk {xs ys : List Int} {i : Nat} {x y : Int} (hx : xs[i]? = some x) (hy : ys[i]? = some y) : (x, y) ∈ xs.zip ys := List.mem_of_getElem? (List.getElem?_zip_eq_some.2 ⟨hx, hy⟩)

/-- what is needed lies before -/
theorem need_less (h : TyOk L r) (ha : tyAt L s = some a) (hb : tyAt L t = some b) (hp : a.kind = b.kind) {p : Pr} (hn : p ∈ needs a b) : 0 ≤ p.1 ∧ 0 ≤ p.2 ∧ p.1 + p.2 < s + t ∧ p.1 < (L.length : Int) ∧ p.2 < (L.length : Int) := by
  obtain ⟨i, rfl, hi⟩ := tyAt_some ha
  obtain ⟨j, rfl, hj⟩ := tyAt_some hb
  have hil := (List.getElem?_eq_some_iff.1 hi).1
  have hjl := (List.getElem?_eq_some_iff.1 hj).1
  by_cases h3 : a.kind = 3
  · rw [needs_ref h3] at hn
    have h1 := h.part hi (p := a.elem) (by rw [tyParts_ref h3]; simp)
    have h2 := h.part hj (p := b.elem) (by rw [tyParts_ref (by omega)]; simp)
    rcases List.mem_cons.1 hn with rfl | hn
    · simp only []; omega
    · split at hn
      · have e : p = (b.elem, a.elem) := by simpa using hn
        subst e
        simp only []; omega
      · cases hn
  · by_cases h4 : a.kind = 4
    · rw [needs_tup h4] at hn
      obtain ⟨k, hx, hy⟩ := zip_at hn
      have h1 := h.part hi (p := p.1) (by rw [tyParts_tup h4]; exact List.mem_of_getElem? hx)
      have h2 := h.part hj (p := p.2) (by rw [tyParts_tup (by omega)]; exact List.mem_of_getElem? hy)
      omega
    · rw [needs_flat h3 h4] at hn; cases hn
/-- a set of pairs that has all that it needs holds subtypes alone -/
theorem closed_sub (h : TyOk L r) {M : List Pr} (hM : ∀ p ∈ M, ∃ a b, tyAt L p.1 = some a ∧ tyAt L p.2 = some b ∧ poss O a b = true ∧ ∀ q ∈ needs a b, q ∈ M) : ∀ p ∈ M, Sub O L p.1 p.2 := by
  have key : ∀ n : Nat, ∀ p ∈ M, (p.1 + p.2).toNat < n → Sub O L p.1 p.2 := by
    intro n
    induction n with
    | zero => intro p _ h; omega
    | succ n ih =>
      intro p hp hlt
      obtain ⟨a, b, h1, h2, h3, h4⟩ := hM p hp
      refine .mk h1 h2 h3 fun q hq => ih q (h4 q hq) ?_
      have := need_less h h1 h2 (poss_kind h3) hq
      omega
  intro p hp
  exact key _ p hp (Nat.lt_succ_self _)
theorem sub_refl (h : TyOk L r) (hO : ∀ x, 0 ≤ x → x < r → O x x = true) : ∀ (n : Nat) (s : Int) (a : Ty), s.toNat < n → tyAt L s = some a → Sub O L s s
  | 0, s, a, hn, _ => by omega
  | n + 1, s, a, hn, ha => by
    obtain ⟨i, rfl, hi⟩ := tyAt_some ha
    have hil := (List.getElem?_eq_some_iff.1 hi).1
    have ho := h.own hi
    have sm : ∀ p : Int, p ∈ tyParts a → Sub O L p p := fun p hp => by
      obtain ⟨q, w, rfl, hq, hw⟩ := h.elem hi hp
      exact sub_refl h hO n q w (by omega) (by rw [tyAt_nat]; exact hw)
    by_cases h3 : a.kind = 3
    · have hr := ho.2.2.2.1 h3
      refine .mk ha ha (poss_mkref rfl h3 rfl (hO _ hr.1 hr.2)) fun p hp => ?_
      rw [needs_ref h3] at hp
      have hp' : p = (a.elem, a.elem) := by
        rcases List.mem_cons.1 hp with e | e
        · exact e
        · split at e
          · simpa using e
          · cases e
      subst hp'
      exact sm _ (by rw [tyParts_ref h3]; simp)
    · by_cases h4 : a.kind = 4
      · refine .mk ha ha (poss_mktup rfl h4 rfl) fun p hp => ?_
        rw [needs_tup h4] at hp
        obtain ⟨k, hx, hy⟩ := zip_at hp
        rw [hx] at hy
        injection hy with hy
        rw [← hy]
        exact sm _ (by rw [tyParts_tup h4]; exact List.mem_of_getElem? hx)
      · exact .mk ha ha (poss_flat rfl (by omega)) fun p hp => by rw [needs_flat h3 h4] at hp; cases hp
theorem sub_trans (h : TyOk L r) (hO : ∀ x y z, O x y = true → O y z = true → O x z = true) : ∀ (n : Nat) (s t u : Int), (s + t + u).toNat < n → Sub O L s t → Sub O L t u → Sub O L s u
  | 0, s, t, u, hn, _, _ => by omega
  | n + 1, s, t, u, hn, h1, h2 => by
    obtain ⟨a, b, ha, hb, p1, n1⟩ := h1.inv
    obtain ⟨b', c, hb', hc, p2, n2⟩ := h2.inv
    rw [hb] at hb'; injection hb' with hb'; subst hb'
    have k1 := poss_kind p1
    have k2 := poss_kind p2
    have ra := tyAt_rng ha
    have rb := tyAt_rng hb
    have rc := tyAt_rng hc
    by_cases h3 : a.kind = 3
    · obtain ⟨m1, o1⟩ := poss_ref p1 h3
      obtain ⟨m2, o2⟩ := poss_ref p2 (by omega)
      refine .mk ha hc (poss_mkref (by omega) h3 (m1.trans m2) (hO _ _ _ o1 o2)) fun p hp => ?_
      have e1 : (a.elem, b.elem) ∈ needs a b := by rw [needs_ref h3]; simp
      have e2 : (b.elem, c.elem) ∈ needs b c := by rw [needs_ref (by omega)]; simp
      have l1 := need_less h ha hb k1 e1
      have l2 := need_less h hb hc k2 e2
      obtain ⟨i, rfl, hi⟩ := tyAt_some ha
      obtain ⟨k, rfl, hk⟩ := tyAt_some hc
      obtain ⟨j, rfl, hj⟩ := tyAt_some hb
      have q1 := h.part hi (p := a.elem) (by rw [tyParts_ref h3]; simp)
      have q2 := h.part hj (p := b.elem) (by rw [tyParts_ref (by omega)]; simp)
      have q3 := h.part hk (p := c.elem) (by rw [tyParts_ref (by omega)]; simp)
      rw [needs_ref h3] at hp
      rcases List.mem_cons.1 hp with rfl | hp
      · exact sub_trans h hO n a.elem b.elem c.elem (by omega) (n1 (a.elem, b.elem) e1) (n2 (b.elem, c.elem) e2)
      · split at hp
        · rename_i hm
          have e : p = (c.elem, a.elem) := by simpa using hp
          subst e
          have e3 : (b.elem, a.elem) ∈ needs a b := by rw [needs_ref h3, if_pos hm]; simp
          have e4 : (c.elem, b.elem) ∈ needs b c := by rw [needs_ref (by omega), if_pos (by rw [← m1]; exact hm)]; simp
          exact sub_trans h hO n c.elem b.elem a.elem (by omega) (n2 (c.elem, b.elem) e4) (n1 (b.elem, a.elem) e3)
        · cases hp
    · by_cases h4 : a.kind = 4
      · have f1 := poss_tup p1 h4
        have f2 := poss_tup p2 (by omega)
        refine .mk ha hc (poss_mktup (by omega) h4 (f1.trans f2)) fun p hp => ?_
        rw [needs_tup h4] at hp
        obtain ⟨i, hx, hy⟩ := zip_at hp
        have hil := (List.getElem?_eq_some_iff.1 hx).1
        have hex : ∃ z, b.fields[i]? = some z := ⟨_, List.getElem?_eq_getElem (by omega)⟩
        obtain ⟨z, hz⟩ := hex
        have e1 : (p.1, z) ∈ needs a b := by rw [needs_tup h4]; exact zip_mk hx hz
        have e2 : (z, p.2) ∈ needs b c := by rw [needs_tup (by omega)]; exact zip_mk hz hy
        have l1 := need_less h ha hb k1 e1
        have l2 := need_less h hb hc k2 e2
        obtain ⟨i', rfl, hi'⟩ := tyAt_some ha
        obtain ⟨k', rfl, hk'⟩ := tyAt_some hc
        obtain ⟨j', rfl, hj'⟩ := tyAt_some hb
        have q1 := h.part hi' (p := p.1) (by rw [tyParts_tup h4]; exact List.mem_of_getElem? hx)
        have q2 := h.part hj' (p := z) (by rw [tyParts_tup (by omega)]; exact List.mem_of_getElem? hz)
        have q3 := h.part hk' (p := p.2) (by rw [tyParts_tup (by omega)]; exact List.mem_of_getElem? hy)
        exact sub_trans h hO n p.1 z p.2 (by omega) (n1 (p.1, z) e1) (n2 (z, p.2) e2)
      · obtain ⟨i, rfl, hi⟩ := tyAt_some ha
        have ho := h.own hi
        exact .mk ha hc (poss_flat (by omega) (by omega)) fun p hp => by rw [needs_flat h3 h4] at hp; cases hp
theorem sub_shape (h : TyOk L r) (hs : Sub O L s t) : ∃ a b, tyAt L s = some a ∧ tyAt L t = some b ∧ a.kind = b.kind ∧ a.mut_ = b.mut_ ∧ tyDep L s = tyDep L t := by
  induction hs with
  | @mk s t a b ha hb hp hn ih =>
    have k := poss_kind hp
    obtain ⟨i, rfl, hi⟩ := tyAt_some ha
    obtain ⟨j, rfl, hj⟩ := tyAt_some hb
    have oa := h.own hi
    have ob := h.own hj
    refine ⟨a, b, ha, hb, k, ?_, ?_⟩
    · by_cases h3 : a.kind = 3
      · exact (poss_ref hp h3).1
      · rw [(oa.2.1 h3).1, (ob.2.1 (by omega)).1]
    · rw [h.dep_at hi, h.dep_at hj]
      congr 2
      by_cases h3 : a.kind = 3
      · rw [tyParts_ref h3, tyParts_ref (by omega)]
        obtain ⟨_, _, _, _, _, _, e⟩ := ih (a.elem, b.elem) (by rw [needs_ref h3]; simp)
        simp only [List.map_cons, List.map_nil]
        rw [e]
      · by_cases h4 : a.kind = 4
        · rw [tyParts_tup h4, tyParts_tup (by omega)]
          have hl := poss_tup hp h4
          apply List.ext_getElem?
          intro q
          rw [List.getElem?_map, List.getElem?_map]
          rcases Nat.lt_or_ge q a.fields.length with hq | hq
          · have hx : a.fields[q]? = some (a.fields[q]) := List.getElem?_eq_getElem hq
            have hy : b.fields[q]? = some (b.fields[q]'(by omega)) := List.getElem?_eq_getElem (by omega)
            obtain ⟨_, _, _, _, _, _, e⟩ := ih _ (by rw [needs_tup h4]; exact zip_mk hx hy)
            rw [hx, hy]
            exact congrArg some e
          · rw [List.getElem?_eq_none hq, List.getElem?_eq_none (by omega)]
        · rw [tyParts_none h3 h4, tyParts_none (by omega) (by omega)]
end
end Go.Proofs.Ytagnikaghhobjaa
