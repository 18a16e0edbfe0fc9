/- The mathematics of layer 8: the form of a place, its type, the references along it. No program is named here. -/
import Derived.Test.YtbdimnncobpfdaaGreatRegM
set_option linter.unusedVariables false
namespace Go.Proofs.YtbdimnncobpfdaaGreat
open Go.RowKit

/-! ### the form of a place; a projection is a pair of its kind and its field -/
def pjErr (p : Pr) : Int := if p.1 ≠ 0 ∧ p.1 ≠ 1 then 14 else if p.1 = 0 ∧ p.2 ≠ 0 then 2 else if p.2 < 0 then 3 else 0
theorem pjErr_cases (p : Pr) : pjErr p = 14 ∨ pjErr p = 2 ∨ pjErr p = 3 ∨ pjErr p = 0 := by
  unfold pjErr
  split
  · exact .inl rfl
  · split
    · exact .inr (.inl rfl)
    · split
      · exact .inr (.inr (.inl rfl))
      · exact .inr (.inr (.inr rfl))
theorem pjErr_zero {p : Pr} (h : pjErr p = 0) : (p.1 = 0 ∧ p.2 = 0) ∨ (p.1 = 1 ∧ 0 ≤ p.2) := by
  unfold pjErr at h
  split at h
  · cases h
  · split at h
    · cases h
    · split at h
      · cases h
      · omega
/-- the first error of the projections -/
def pjsErr : List Pr → Int
  | [] => 0
  | p :: l => if pjErr p = 0 then pjsErr l else pjErr p
theorem pjsErr_at {l : List Pr} {k : Nat} {p : Pr} (h : l[k]? = some p) : pjsErr (l.drop k) = if pjErr p = 0 then pjsErr (l.drop (k + 1)) else pjErr p := by
  have hk := (List.getElem?_eq_some_iff.1 h).1
  have e : l.drop k = p :: l.drop (k + 1) := by
    rw [List.drop_eq_getElem_cons hk]
    rw [List.getElem?_eq_getElem hk] at h
    injection h with h
    rw [h]
  rw [e]
  rfl
theorem pjsErr_zero : ∀ {l : List Pr}, pjsErr l = 0 ↔ ∀ p ∈ l, pjErr p = 0
  | [] => ⟨(fun _ p h => by cases h), fun _ => rfl⟩
  | p :: l => by
    show (if pjErr p = 0 then pjsErr l else pjErr p) = 0 ↔ _
    by_cases hp : pjErr p = 0
    · rw [if_pos hp, pjsErr_zero]
      exact ⟨(fun h q hq => by rcases List.mem_cons.1 hq with rfl | hq; exact hp; exact h q hq), fun h q hq => h q (by simp [hq])⟩
    · rw [if_neg hp]
      exact ⟨fun h => absurd h hp, fun h => h p (by simp)⟩
/-- the error of a place -/
def plErr (l : Int) (ps : List Pr) : Int := if l < 0 then 3 else if 32 < ps.length then 19 else pjsErr ps
theorem plErr_zero {l : Int} {ps : List Pr} : plErr l ps = 0 ↔ 0 ≤ l ∧ ps.length ≤ 32 ∧ ∀ p ∈ ps, pjErr p = 0 := by
  unfold plErr
  split
  · exact ⟨fun h => (by cases h), fun h => by omega⟩
  · split
    · exact ⟨fun h => (by cases h), fun h => by omega⟩
    · rw [pjsErr_zero]
      exact ⟨fun h => ⟨by omega, by omega, h⟩, fun h => h.2.2⟩
theorem plErr_take {l : Int} {ps : List Pr} (h : plErr l ps = 0) (k : Nat) : plErr l (ps.take k) = 0 := by
  obtain ⟨h1, h2, h3⟩ := plErr_zero.1 h
  exact plErr_zero.2 ⟨h1, by rw [List.length_take]; omega, fun p hp => h3 p (List.mem_of_mem_take hp)⟩
theorem pjsErr_rng : ∀ l : List Pr, 0 ≤ pjsErr l ∧ pjsErr l ≤ 14
  | [] => ⟨by decide, by decide⟩
  | p :: l => by
    show 0 ≤ (if pjErr p = 0 then pjsErr l else pjErr p) ∧ (if pjErr p = 0 then pjsErr l else pjErr p) ≤ 14
    split
    · exact pjsErr_rng l
    · have := pjErr_cases p
      omega
theorem plErr_rng (l : Int) (ps : List Pr) : 0 ≤ plErr l ps ∧ plErr l ps ≤ 19 := by
  unfold plErr
  split
  · omega
  · split
    · omega
    · have := pjsErr_rng ps; omega

/-! ### the type of a place -/
/-- a projection of something of type t: the type that it has, or an error -/
def stepT (t : Ty) (p : Pr) : Int × Int :=
  if p.1 = 0 ∧ t.kind = 3 then (t.elem, 0)
  else if p.1 = 1 ∧ t.kind = 4 then (if 0 ≤ p.2 ∧ p.2 < (t.fields.length : Int) then (t.fields.getD p.2.toNat 0, 0) else (0, 3))
  else (0, 22)
theorem stepT_ref {t : Ty} {p : Pr} (h0 : p.1 = 0) (h3 : t.kind = 3) : stepT t p = (t.elem, 0) := if_pos ⟨h0, h3⟩
theorem stepT_tup {t : Ty} {p : Pr} (h1 : p.1 = 1) (h4 : t.kind = 4) {k : Nat} {x : Int} (hk : p.2 = (k : Int)) (hx : t.fields[k]? = some x) : stepT t p = (x, 0) := by
  have hl := (List.getElem?_eq_some_iff.1 hx).1
  unfold stepT
  rw [if_neg (by omega), if_pos ⟨h1, h4⟩, if_pos (by omega), hk, Int.toNat_natCast, List.getD_eq_getElem?_getD, hx]
  rfl
theorem stepT_out {t : Ty} {p : Pr} (h1 : p.1 = 1) (h4 : t.kind = 4) (h : ¬ (0 ≤ p.2 ∧ p.2 < (t.fields.length : Int))) : stepT t p = (0, 3) := by
  unfold stepT
  rw [if_neg (by omega), if_pos ⟨h1, h4⟩, if_neg h]
theorem stepT_bad {t : Ty} {p : Pr} (h : ¬ (p.1 = 0 ∧ t.kind = 3)) (h' : ¬ (p.1 = 1 ∧ t.kind = 4)) : stepT t p = (0, 22) := by
  unfold stepT
  rw [if_neg h, if_neg h']
theorem stepT_cases (t : Ty) (p : Pr) : (p.1 = 0 ∧ t.kind = 3 ∧ stepT t p = (t.elem, 0)) ∨ (p.1 = 1 ∧ t.kind = 4 ∧ ∃ (k : Nat) (x : Int), p.2 = (k : Int) ∧ t.fields[k]? = some x ∧ stepT t p = (x, 0)) ∨ (p.1 = 1 ∧ t.kind = 4 ∧ ¬ (0 ≤ p.2 ∧ p.2 < (t.fields.length : Int)) ∧ stepT t p = (0, 3)) ∨ (¬ (p.1 = 0 ∧ t.kind = 3) ∧ ¬ (p.1 = 1 ∧ t.kind = 4) ∧ stepT t p = (0, 22)) := by
  by_cases h : p.1 = 0 ∧ t.kind = 3
  · exact .inl ⟨h.1, h.2, stepT_ref h.1 h.2⟩
  by_cases h' : p.1 = 1 ∧ t.kind = 4
  · by_cases h2 : 0 ≤ p.2 ∧ p.2 < (t.fields.length : Int)
    · have hx : t.fields[p.2.toNat]? = some (t.fields[p.2.toNat]'(by omega)) := List.getElem?_eq_getElem (by omega)
      exact .inr (.inl ⟨h'.1, h'.2, p.2.toNat, _, by omega, hx, stepT_tup h'.1 h'.2 (by omega) hx⟩)
    · exact .inr (.inr (.inl ⟨h'.1, h'.2, h2, stepT_out h'.1 h'.2 h2⟩))
  · exact .inr (.inr (.inr ⟨h, h', stepT_bad h h'⟩))
/-- where there is an error there is no type -/
theorem stepT_err {t : Ty} {p : Pr} (h : (stepT t p).2 ≠ 0) : stepT t p = (0, (stepT t p).2) := by
  rcases stepT_cases t p with ⟨_, _, e⟩ | ⟨_, _, _, _, _, _, e⟩ | ⟨_, _, _, e⟩ | ⟨_, _, e⟩ <;> rw [e] at h ⊢ <;> first | rfl | exact absurd rfl h
theorem stepT_part {t : Ty} {p : Pr} (h : (stepT t p).2 = 0) : (stepT t p).1 ∈ tyParts t := by
  rcases stepT_cases t p with ⟨_, k, e⟩ | ⟨_, k, _, _, _, hx, e⟩ | ⟨_, _, _, e⟩ | ⟨_, _, e⟩
  · rw [e, tyParts_ref k]; simp
  · rw [e, tyParts_tup k]; exact List.mem_of_getElem? hx
  · rw [e] at h; cases h
  · rw [e] at h; cases h

/-- the type with a number -/
def tyGet (T : List Ty) (i : Int) : Ty := T.getD i.toNat ⟨0, false, 0, 0, []⟩
theorem tyGet_at {T : List Ty} {i : Nat} {t : Ty} (h : T[i]? = some t) : tyGet T (i : Int) = t := by
  unfold tyGet
  rw [Int.toNat_natCast, List.getD_eq_getElem?_getD, h]
  rfl
/-- from the type t along projections -/
def goL (T : List Ty) : Int → List Pr → Int × Int
  | t, [] => (t, 0)
  | t, p :: ps => if (stepT (tyGet T t) p).2 = 0 then goL T (stepT (tyGet T t) p).1 ps else (0, (stepT (tyGet T t) p).2)
theorem goL_snoc (T : List Ty) : ∀ (ps : List Pr) (t : Int) (p : Pr), goL T t (ps ++ [p]) = if (goL T t ps).2 = 0 then stepT (tyGet T (goL T t ps).1) p else (0, (goL T t ps).2)
  | [], t, p => by
    show (if (stepT (tyGet T t) p).2 = 0 then ((stepT (tyGet T t) p).1, 0) else (0, (stepT (tyGet T t) p).2)) = if (0 : Int) = 0 then stepT (tyGet T t) p else _
    rw [if_pos rfl]
    by_cases h : (stepT (tyGet T t) p).2 = 0
    · rw [if_pos h, ← h]
    · rw [if_neg h]; exact (stepT_err h).symm
  | q :: ps, t, p => by
    show (if (stepT (tyGet T t) q).2 = 0 then goL T (stepT (tyGet T t) q).1 (ps ++ [p]) else (0, (stepT (tyGet T t) q).2)) = _
    by_cases h : (stepT (tyGet T t) q).2 = 0
    · have e : goL T t (q :: ps) = goL T (stepT (tyGet T t) q).1 ps := if_pos h
      rw [if_pos h, e, goL_snoc T ps]
    · have e : goL T t (q :: ps) = (0, (stepT (tyGet T t) q).2) := if_neg h
      rw [if_neg h, e, if_neg h]
/-- .. along the first n of them -/
def tyA (T : List Ty) (t : Int) (ps : List Pr) (n : Nat) : Int := (goL T t (ps.take n)).1
def erA (T : List Ty) (t : Int) (ps : List Pr) (n : Nat) : Int := (goL T t (ps.take n)).2
theorem tyA_zero (T : List Ty) (t : Int) (ps : List Pr) : tyA T t ps 0 = t := rfl
theorem erA_zero (T : List Ty) (t : Int) (ps : List Pr) : erA T t ps 0 = 0 := rfl
theorem plTake_snoc {l : List Pr} {k : Nat} {p : Pr} (h : l[k]? = some p) : l.take (k + 1) = l.take k ++ [p] := by
  rw [List.take_add_one, h]; rfl
theorem goA_up {T : List Ty} {t : Int} {ps : List Pr} {n : Nat} {p : Pr} (h : ps[n]? = some p) : goL T t (ps.take (n + 1)) = if erA T t ps n = 0 then stepT (tyGet T (tyA T t ps n)) p else (0, erA T t ps n) := by
  rw [plTake_snoc h, goL_snoc]; rfl
theorem erA_up {T : List Ty} {t : Int} {ps : List Pr} {n : Nat} {p : Pr} (h : ps[n]? = some p) (h0 : erA T t ps n = 0) : tyA T t ps (n + 1) = (stepT (tyGet T (tyA T t ps n)) p).1 ∧ erA T t ps (n + 1) = (stepT (tyGet T (tyA T t ps n)) p).2 := by
  unfold tyA
  rw [show erA T t ps (n + 1) = (goL T t (ps.take (n + 1))).2 from rfl, goA_up h, if_pos h0]
  exact ⟨rfl, rfl⟩
/-- an error stays -/
theorem erA_stays {T : List Ty} {t : Int} {ps : List Pr} {n : Nat} (h : erA T t ps n ≠ 0) : ∀ m, n ≤ m → goL T t (ps.take m) = (0, erA T t ps n)
  | 0, hm => by
    obtain rfl : n = 0 := by omega
    exact absurd (erA_zero T t ps) h
  | m + 1, hm => by
    have key : ∀ k, n = k + 1 → goL T t (ps.take n) = (0, erA T t ps n) := by
      intro k hk
      subst hk
      cases hp : ps[k]? with
      | none =>
        have e : ps.take (k + 1) = ps.take k := by rw [List.take_of_length_le (by have := List.getElem?_eq_none_iff.1 hp; omega), List.take_of_length_le (by have := List.getElem?_eq_none_iff.1 hp; omega)]
        have e1 : erA T t ps (k + 1) = erA T t ps k := by unfold erA; rw [e]
        have e2 := erA_stays (n := k) (by rw [← e1]; exact h) k (Nat.le_refl _)
        rw [e, e2, e1]
      | some p =>
        have e := goA_up (T := T) (t := t) hp
        by_cases h0 : erA T t ps k = 0
        · rw [if_pos h0] at e
          have e1 : erA T t ps (k + 1) = (stepT (tyGet T (tyA T t ps k)) p).2 := (erA_up hp h0).2
          rw [e, e1]
          exact stepT_err (by rw [← e1]; exact h)
        · rw [if_neg h0] at e
          have e1 : erA T t ps (k + 1) = erA T t ps k := by show (goL T t (ps.take (k + 1))).2 = _; rw [e]
          rw [e, e1]
    rcases Nat.eq_or_lt_of_le hm with e | hlt
    · exact e ▸ key m e
    · have ih := erA_stays h m (by omega)
      cases hp : ps[m]? with
      | none =>
        have e : ps.take (m + 1) = ps.take m := by rw [List.take_of_length_le (by have := List.getElem?_eq_none_iff.1 hp; omega), List.take_of_length_le (by have := List.getElem?_eq_none_iff.1 hp; omega)]
        rw [e, ih]
      | some p =>
        have e0 : erA T t ps m = erA T t ps n := by show (goL T t (ps.take m)).2 = _; rw [ih]
        rw [goA_up hp, if_neg (by rw [e0]; exact h), e0]
theorem goL_take_all (T : List Ty) (t : Int) (ps : List Pr) : goL T t (ps.take ps.length) = goL T t ps := by rw [List.take_length]
/-- there is a type after n projections -/
structure Stp (T : List Ty) (t : Int) (ps : List Pr) (n : Nat) : Prop where
  le : n ≤ ps.length
  ok : erA T t ps n = 0
theorem Stp.zero (T : List Ty) (t : Int) (ps : List Pr) : Stp T t ps 0 := ⟨Nat.zero_le _, erA_zero T t ps⟩
theorem Stp.down {T : List Ty} {t : Int} {ps : List Pr} {n m : Nat} (h : Stp T t ps n) (hm : m ≤ n) : Stp T t ps m := ⟨by have := h.le; omega, by
  by_cases h0 : erA T t ps m = 0
  · exact h0
  · have e := erA_stays h0 n hm
    have := h.ok
    unfold erA at this
    rw [e] at this
    exact absurd this h0⟩
theorem goA_none {T : List Ty} {t : Int} {ps : List Pr} {n : Nat} {p : Pr} (h : Stp T t ps n) (hp : ps[n]? = some p) (he : (stepT (tyGet T (tyA T t ps n)) p).2 ≠ 0) : goL T t ps = (0, (stepT (tyGet T (tyA T t ps n)) p).2) := by
  have e1 := (erA_up hp h.ok).2
  have hn := (List.getElem?_eq_some_iff.1 hp).1
  have := erA_stays (T := T) (t := t) (ps := ps) (n := n + 1) (by rw [e1]; exact he) ps.length (by omega)
  rw [goL_take_all, e1] at this
  exact this
/-- the types on the way are elements of a valid list -/
theorem Stp.lt {T : List Ty} {r t : Int} {ps : List Pr} (hT : TyOk T r) (h0 : 0 ≤ t) (h1 : t < (T.length : Int)) : ∀ {n : Nat}, Stp T t ps n → ∃ (i : Nat) (u : Ty), tyA T t ps n = (i : Int) ∧ T[i]? = some u
  | 0, _ => ⟨t.toNat, _, by rw [tyA_zero]; omega, List.getElem?_eq_getElem (by omega)⟩
  | n + 1, h => by
    obtain ⟨i, u, hi, hu⟩ := Stp.lt hT h0 h1 (h.down (Nat.le_succ n))
    have hn := h.le
    have hp : ps[n]? = some (ps[n]'(by omega)) := List.getElem?_eq_getElem (by omega)
    obtain ⟨e1, e2⟩ := erA_up (T := T) (t := t) hp (h.down (Nat.le_succ n)).ok
    rw [hi, tyGet_at hu] at e1 e2
    have hm := stepT_part (t := u) (p := ps[n]'(by omega)) (by rw [← e2]; exact h.ok)
    obtain ⟨q, v, hq, _, hv⟩ := hT.elem hu hm
    exact ⟨q, v, by rw [e1, hq], hv⟩

/-! ### the references along a place -/
/-- what the n-th projection dereferences -/
def refAt {α : Type} (G : List α) (T : List Ty) (t : Int) (ps : List Pr) (n : Nat) : Option α := match ps[n]? with
  | some p => if p.1 = 0 then G[(tyA T t ps n).toNat]? else none
  | none => none
def refTo {α : Type} (G : List α) (T : List Ty) (t : Int) (ps : List Pr) (n : Nat) : List α := (List.range n).filterMap (refAt G T t ps)
theorem refTo_zero {α : Type} (G : List α) (T : List Ty) (t : Int) (ps : List Pr) : refTo G T t ps 0 = [] := rfl
theorem refTo_up {α : Type} (G : List α) (T : List Ty) (t : Int) (ps : List Pr) (n : Nat) : refTo G T t ps (n + 1) = refTo G T t ps n ++ (refAt G T t ps n).toList := by
  unfold refTo
  rw [List.range_succ, List.filterMap_append]
  congr 1
theorem refTo_yes {α : Type} {G : List α} {T : List Ty} {t : Int} {ps : List Pr} {n : Nat} {p : Pr} {x : α} (hp : ps[n]? = some p) (h0 : p.1 = 0) {i : Nat} (hi : tyA T t ps n = (i : Int)) (hx : G[i]? = some x) : refTo G T t ps (n + 1) = refTo G T t ps n ++ [x] := by
  rw [refTo_up]
  unfold refAt
  rw [hp]
  simp only [h0, if_true]
  rw [hi, Int.toNat_natCast, hx]
  rfl
theorem refTo_no {α : Type} {G : List α} {T : List Ty} {t : Int} {ps : List Pr} {n : Nat} (h : ∀ p, ps[n]? = some p → p.1 ≠ 0) : refTo G T t ps (n + 1) = refTo G T t ps n := by
  rw [refTo_up]
  unfold refAt
  cases hp : ps[n]? with
  | none => simp
  | some p => simp [h p hp]
theorem refTo_len {α : Type} (G : List α) (T : List Ty) (t : Int) (ps : List Pr) (n : Nat) : (refTo G T t ps n).length ≤ n := by
  unfold refTo
  have := List.length_filterMap_le (refAt G T t ps) (List.range n)
  rwa [List.length_range] at this
theorem fMap_congr {α β : Type} {f g : α → Option β} : ∀ {l : List α}, (∀ x ∈ l, f x = g x) → l.filterMap f = l.filterMap g
  | [], _ => rfl
  | x :: l, h => by
    rw [List.filterMap_cons, List.filterMap_cons, h x (by simp), fMap_congr fun y hy => h y (by simp [hy])]
theorem refTo_map {α : Type} (f : α → Ty) (G : List α) (t : Int) (ps : List Pr) (n : Nat) : (refTo G (G.map f) t ps n).map f = refTo (G.map f) (G.map f) t ps n := by
  unfold refTo
  rw [List.map_filterMap]
  congr 1
  funext k
  unfold refAt
  cases ps[k]? with
  | none => rfl
  | some p => by_cases h : p.1 = 0 <;> simp [h]
theorem refTo_mem {α : Type} {G : List α} {T : List Ty} {t : Int} {ps : List Pr} {n : Nat} {x : α} (h : x ∈ refTo G T t ps n) : x ∈ G := by
  unfold refTo at h
  obtain ⟨k, _, hk⟩ := List.mem_filterMap.1 h
  unfold refAt at hk
  split at hk
  · split at hk
    · exact List.mem_of_getElem? hk
    · cases hk
  · cases hk
/-- the references of a place, if it has a type -/
def refsOf (T : List Ty) (t : Int) (ps : List Pr) : List Ty := if (goL T t ps).2 = 0 then refTo T T t ps ps.length else []
/-- a part of the way is the way's own beginning -/
theorem tyA_take {T : List Ty} {t : Int} {ps : List Pr} {k n : Nat} (h : n ≤ k) : tyA T t (ps.take k) n = tyA T t ps n := by
  unfold tyA; rw [List.take_take, Nat.min_eq_left h]
theorem erA_take {T : List Ty} {t : Int} {ps : List Pr} {k n : Nat} (h : n ≤ k) : erA T t (ps.take k) n = erA T t ps n := by
  unfold erA; rw [List.take_take, Nat.min_eq_left h]
theorem refTo_take {α : Type} {G : List α} {T : List Ty} {t : Int} {ps : List Pr} {k n : Nat} (h : n ≤ k) : refTo G T t (ps.take k) n = refTo G T t ps n := by
  unfold refTo
  refine fMap_congr fun j hj => ?_
  have hj' : j < n := List.mem_range.1 hj
  unfold refAt
  rw [List.getElem?_take, if_pos (by omega), tyA_take (by omega)]
theorem refTo_pre {α : Type} {G : List α} {T : List Ty} {t : Int} {ps : List Pr} {n m : Nat} (h : n ≤ m) : ∃ l, refTo G T t ps m = refTo G T t ps n ++ l := by
  induction m with
  | zero =>
    obtain rfl : n = 0 := by omega
    exact ⟨[], by simp⟩
  | succ m ih =>
    rcases Nat.eq_or_lt_of_le h with e | hlt
    · subst e; exact ⟨[], by simp⟩
    · obtain ⟨l, hl⟩ := ih (by omega)
      exact ⟨l ++ (refAt G T t ps m).toList, by rw [refTo_up, hl, List.append_assoc]⟩

/-! ### a place with locals of the types lc -/
/-- the type of a place -/
def tyOfP (T : List Ty) (lc : List Int) (l : Int) (ps : List Pr) : Int × Int :=
  if plErr l ps ≠ 0 then (0, plErr l ps) else if l < (lc.length : Int) then goL T (lc.getD l.toNat 0) ps else (0, 3)
theorem tyOfP_err {T : List Ty} {lc : List Int} {l : Int} {ps : List Pr} {e : Int} (h : plErr l ps = e) (he : e ≠ 0) : tyOfP T lc l ps = (0, e) := by
  unfold tyOfP; rw [h, if_pos he]
theorem tyOfP_out {T : List Ty} {lc : List Int} {l : Int} {ps : List Pr} (h : plErr l ps = 0) (hl : ¬ l < (lc.length : Int)) : tyOfP T lc l ps = (0, 3) := by
  unfold tyOfP; rw [h, if_neg (by simp), if_neg hl]
theorem tyOfP_in {T : List Ty} {lc : List Int} {l : Int} {ps : List Pr} {k : Nat} {t : Int} (h : plErr l ps = 0) (hk : l = (k : Int)) (ht : lc[k]? = some t) : tyOfP T lc l ps = goL T t ps := by
  have := (List.getElem?_eq_some_iff.1 ht).1
  unfold tyOfP; rw [h, if_neg (by simp), if_pos (by omega), hk, Int.toNat_natCast, List.getD_eq_getElem?_getD, ht]; rfl
/-- what is dereferenced by a place that has a type -/
def refP (T : List Ty) (lc : List Int) (l : Int) (ps : List Pr) : List Ty := if (tyOfP T lc l ps).2 = 0 then refTo T T (lc.getD l.toNat 0) ps ps.length else []
def mutP (T : List Ty) (lc : List Int) (l : Int) (ps : List Pr) : Bool := decide ((tyOfP T lc l ps).2 = 0) && (refP T lc l ps).all Ty.mut_
def regP (T : List Ty) (lc : List Int) (l : Int) (ps : List Pr) : List Int := (refP T lc l ps).map Ty.region
/-- do all the locals have a type? -/
def LcOk (T : List Ty) (lc : List Int) : Prop := ∀ t ∈ lc, 0 ≤ t ∧ t < (T.length : Int)
theorem tyOfP_zero {T : List Ty} {lc : List Int} {l : Int} {ps : List Pr} (h : (tyOfP T lc l ps).2 = 0) : plErr l ps = 0 ∧ ∃ (k : Nat) (t : Int), l = (k : Int) ∧ lc[k]? = some t ∧ tyOfP T lc l ps = goL T t ps := by
  have h0 : plErr l ps = 0 := by
    by_cases h0 : plErr l ps = 0
    · exact h0
    · rw [tyOfP_err rfl h0] at h; exact absurd h h0
  have hl : l < (lc.length : Int) := by
    by_cases hl : l < (lc.length : Int)
    · exact hl
    · rw [tyOfP_out h0 hl] at h; cases h
  have := (plErr_zero.1 h0).1
  have ht : lc[l.toNat]? = some (lc[l.toNat]'(by omega)) := List.getElem?_eq_getElem (by omega)
  exact ⟨h0, l.toNat, _, by omega, ht, tyOfP_in h0 (by omega) ht⟩
end Go.Proofs.YtbdimnncobpfdaaGreat
