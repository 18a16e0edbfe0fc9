/- The mathematics of layer 7: lists of pairs, the regions that outlive others, the search, subtypes. No program is named here. -/
import Derived.Test.YtbdimnncobpfdaaGreatTypM
set_option linter.unusedVariables false
namespace Go.Proofs.YtbdimnncobpfdaaGreat
open Go.RowKit

/-- a pair -/
abbrev Pr := Int × Int
def prLt (p q : Pr) : Bool := decide (p.1 < q.1 ∨ (p.1 = q.1 ∧ p.2 < q.2))
/-- the error of a pair behind another one -/
def prErr (prev : Option Pr) (p : Pr) (n : Int) : Int :=
  if tyIn p.1 n = false ∨ tyIn p.2 n = false then 3
  else if p.1 = p.2 then 2
  else match prev with
    | none => 0
    | some q => if prLt q p = true then 0 else 21
def prChkR (n : Int) : Option Pr → List Pr → Int
  | _, [] => 0
  | q, p :: rest => if prErr q p n = 0 then prChkR n (some p) rest else prErr q p n
def prChk (l : List Pr) (n : Int) : Int := if 65535 < l.length then 15 else prChkR n none l
/-- the pair before the k-th -/
def prv (l : List Pr) (k : Nat) : Option Pr := if k = 0 then none else l[k - 1]?
theorem prv_up {l : List Pr} {k : Nat} {p : Pr} (h : l[k]? = some p) : prv l (k + 1) = some p := by
  unfold prv; rw [if_neg (by omega), Nat.add_sub_cancel, h]
theorem prChk_big {l : List Pr} (h : 65535 < l.length) (n : Int) : prChk l n = 15 := by unfold prChk; rw [if_pos h]
theorem prChk_at {l : List Pr} (h : l.length ≤ 65535) (n : Int) : prChk l n = prChkR n (prv l 0) (l.drop 0) := by unfold prChk; rw [if_neg (by omega)]; rfl
theorem prChkR_at {l : List Pr} {n : Int} {k : Nat} {p : Pr} (h : l[k]? = some p) : prChkR n (prv l k) (l.drop k) = if prErr (prv l k) p n = 0 then prChkR n (prv l (k + 1)) (l.drop (k + 1)) else prErr (prv l k) p n := by
  have hk : k < l.length := (List.getElem?_eq_some_iff.1 h).1
  have e : l.drop k = p :: l.drop (k + 1) := by
    rw [List.drop_eq_getElem_cons hk]
    rw [List.getElem?_eq_getElem hk] at h
    injection h with h
    rw [h]
  rw [e, prv_up h]
  rfl
theorem prChkR_end {l : List Pr} {n : Int} {k : Nat} (h : l.length ≤ k) : prChkR n (prv l k) (l.drop k) = 0 := by
  rw [List.drop_of_length_le h]; cases prv l k <;> rfl
/-- a valid list -/
structure PrOk (l : List Pr) (n : Int) : Prop where
  len : l.length ≤ 65535
  a : ∀ p ∈ l, 0 ≤ p.1 ∧ p.1 < n
  b : ∀ p ∈ l, 0 ≤ p.2 ∧ p.2 < n
theorem prErr_zero {q : Option Pr} {p : Pr} {n : Int} (h : prErr q p n = 0) : (0 ≤ p.1 ∧ p.1 < n) ∧ 0 ≤ p.2 ∧ p.2 < n := by
  unfold prErr at h
  by_cases c : tyIn p.1 n = false ∨ tyIn p.2 n = false
  · rw [if_pos c] at h; cases h
  · have h1 : tyIn p.1 n = true := by cases e : tyIn p.1 n; exact absurd (.inl e) c; rfl
    have h2 : tyIn p.2 n = true := by cases e : tyIn p.2 n; exact absurd (.inr e) c; rfl
    exact ⟨tyIn_iff.1 h1, tyIn_iff.1 h2⟩
theorem prChkR_ok {n : Int} : ∀ (l : List Pr) (q : Option Pr), prChkR n q l = 0 → ∀ p ∈ l, (0 ≤ p.1 ∧ p.1 < n) ∧ 0 ≤ p.2 ∧ p.2 < n
  | [], _, _, p, hp => by cases hp
  | x :: l, q, h, p, hp => by
    unfold prChkR at h
    by_cases he : prErr q x n = 0
    · rw [if_pos he] at h
      rcases List.mem_cons.1 hp with rfl | hp
      · exact prErr_zero he
      · exact prChkR_ok l _ h p hp
    · rw [if_neg he] at h
      exact absurd h he
theorem prChk_ok {l : List Pr} {n : Int} (h : prChk l n = 0) : PrOk l n := by
  have hl : l.length ≤ 65535 := by
    rcases Nat.lt_or_ge 65535 l.length with h' | h'
    · rw [prChk_big h'] at h; cases h
    · exact h'
  unfold prChk at h
  rw [if_neg (by omega)] at h
  exact ⟨hl, fun p hp => (prChkR_ok l _ h p hp).1, fun p hp => (prChkR_ok l _ h p hp).2⟩
theorem prErr_rng (q : Option Pr) (p : Pr) (n : Int) : 0 ≤ prErr q p n ∧ prErr q p n ≤ 21 := by
  unfold prErr; split <;> try split
  · omega
  · omega
  · split <;> try split
    all_goals omega
theorem prChkR_rng (n : Int) : ∀ (l : List Pr) (q : Option Pr), 0 ≤ prChkR n q l ∧ prChkR n q l ≤ 21
  | [], q => by cases q <;> simp [prChkR]
  | x :: l, q => by
    unfold prChkR
    split
    · exact prChkR_rng n l _
    · exact prErr_rng _ _ _
theorem prChk_rng (l : List Pr) (n : Int) : 0 ≤ prChk l n ∧ prChk l n ≤ 21 := by
  unfold prChk; split
  · omega
  · exact prChkR_rng _ _ _

/-! ### which region outlives which -/
inductive Way (ps : List Pr) : Int → Int → Prop
  | refl (a : Int) : Way ps a a
  | step {a b c : Int} : (a, b) ∈ ps → Way ps b c → Way ps a c
theorem Way.trans {ps : List Pr} {a b c : Int} (h : Way ps a b) (k : Way ps b c) : Way ps a c := by
  induction h with
  | refl => exact k
  | step m _ ih => exact .step m (ih k)
theorem Way.one {ps : List Pr} {a b : Int} (h : (a, b) ∈ ps) : Way ps a b := .step h (.refl _)
theorem Way.snoc {ps : List Pr} {a b c : Int} (h : Way ps a b) (k : (b, c) ∈ ps) : Way ps a c := h.trans (.one k)
def Out (ps : List Pr) (n a b : Int) : Prop := (0 ≤ a ∧ a < n) ∧ (0 ≤ b ∧ b < n) ∧ Way ps a b
noncomputable def out (ps : List Pr) (n a b : Int) : Bool := @decide (Out ps n a b) (Classical.propDecidable _)
theorem out_iff {ps : List Pr} {n a b : Int} : out ps n a b = true ↔ Out ps n a b := by unfold out; exact @decide_eq_true_iff _ (Classical.propDecidable _)
theorem out_not {ps : List Pr} {n a b : Int} : out ps n a b = false ↔ ¬ Out ps n a b := by rw [← out_iff]; simp
theorem out_eq {ps : List Pr} {n a b : Int} {v : Bool} (h : v = true ↔ Out ps n a b) : v = out ps n a b := by
  rw [Bool.eq_iff_iff, out_iff, h]
theorem Out.trans {ps : List Pr} {n a b c : Int} (h : Out ps n a b) (k : Out ps n b c) : Out ps n a c := ⟨h.1, k.2.1, h.2.2.trans k.2.2⟩
theorem Out.refl {ps : List Pr} {n a : Int} (h : 0 ≤ a ∧ a < n) : Out ps n a a := ⟨h, h, .refl _⟩
theorem Out.pair {ps : List Pr} {n : Int} (hk : PrOk ps n) {p : Pr} (h : p ∈ ps) : Out ps n p.1 p.2 := ⟨hk.a p h, hk.b p h, .one h⟩
/-- .. one of a list -/
def OutL (ps : List Pr) (n : Int) (l : List Int) (a : Int) : Prop := ∃ b ∈ l, Out ps n a b

/-- what a relation holds: the declared regions, and for each the indices of those above it -/
structure RelD (ps : List Pr) (n : Int) (D : List Int) (ab : List (List Int)) : Prop where
  asc : D.Pairwise (· < ·)
  mem : ∀ x, x ∈ D ↔ ∃ p ∈ ps, x = p.1 ∨ x = p.2
  len : ab.length = D.length
  rng : ∀ (j : Nat) xs, ab[j]? = some xs → ∀ i ∈ xs, 0 ≤ i ∧ i < (D.length : Int)
  ab : ∀ (j : Nat) xs b, ab[j]? = some xs → D[j]? = some b → ∀ (i : Nat) a, D[i]? = some a → ((i : Int) ∈ xs ↔ (a, b) ∈ ps)

/-! ### ascending lists of numbers -/
theorem asc_injR {D : List Int} (h : D.Pairwise (· < ·)) {i j : Nat} {a : Int} (hi : D[i]? = some a) (hj : D[j]? = some a) : i = j := by
  obtain ⟨h1, e1⟩ := List.getElem?_eq_some_iff.1 hi
  obtain ⟨h2, e2⟩ := List.getElem?_eq_some_iff.1 hj
  rcases Nat.lt_trichotomy i j with hl | hl | hl
  · have := List.pairwise_iff_getElem.1 h i j h1 h2 hl
    omega
  · exact hl
  · have := List.pairwise_iff_getElem.1 h j i h2 h1 hl
    omega
theorem asc_uniq : ∀ {xs ys : List Int}, xs.Pairwise (· < ·) → ys.Pairwise (· < ·) → (∀ a, a ∈ xs ↔ a ∈ ys) → xs = ys
  | [], [], _, _, _ => rfl
  | [], y :: ys, _, _, h => by have := (h y).2 (by simp); cases this
  | x :: xs, [], _, _, h => by have := (h x).1 (by simp); cases this
  | x :: xs, y :: ys, hx, hy, h => by
    obtain ⟨x1, x2⟩ := List.pairwise_cons.1 hx
    obtain ⟨y1, y2⟩ := List.pairwise_cons.1 hy
    have e : x = y := by
      rcases List.mem_cons.1 ((h x).1 (by simp)) with h1 | h1
      · exact h1
      · rcases List.mem_cons.1 ((h y).2 (by simp)) with h2 | h2
        · exact h2.symm
        · have := y1 _ h1; have := x1 _ h2; omega
    subst e
    rw [asc_uniq x2 y2 fun a => ⟨fun ha => ?_, fun ha => ?_⟩]
    · rcases List.mem_cons.1 ((h a).1 (by simp [ha])) with rfl | h'
      · have := x1 _ ha; omega
      · exact h'
    · rcases List.mem_cons.1 ((h a).2 (by simp [ha])) with rfl | h'
      · have := y1 _ ha; omega
      · exact h'
/-- how many are less than an element: its index -/
theorem asc_count : ∀ {D : List Int}, D.Pairwise (· < ·) → ∀ {i : Nat} {a : Int}, D[i]? = some a → D.countP (· < a) = i
  | [], _, i, a, h => by simp at h
  | x :: D, hD, 0, a, h => by
    obtain ⟨h1, h2⟩ := List.pairwise_cons.1 hD
    have e : x = a := by simpa using h
    subst e
    rw [List.countP_eq_zero.2]
    intro y hy
    rcases List.mem_cons.1 hy with rfl | hy
    · simp
    · have := h1 y hy; simp; omega
  | x :: D, hD, i + 1, a, h => by
    obtain ⟨h1, h2⟩ := List.pairwise_cons.1 hD
    have h' : D[i]? = some a := by simpa using h
    have := h1 a (List.mem_of_getElem? h')
    rw [List.countP_cons, asc_count h2 h', if_pos (by simpa using this)]
theorem asc_le {D : List Int} (h : D.Pairwise (· < ·)) : D.Pairwise (· ≤ ·) := h.imp fun h => by omega

/-! ### the search -/
/-- a number has been found -/
def Fnd (F : List Bool) (x : Int) : Prop := F[x.toNat]? = some true
/-- where the search stands: S the starts, Ix the indices that are looked at next, W those that wait, ys what has come -/
structure Sr (D : List Int) (ab : List (List Int)) (G : Int → Prop) (S Ix W : List Int) (F : List Bool) (ys : List Int) : Prop where
  len : F.length = D.length
  start : ∀ s ∈ S, Fnd F s ∨ s ∈ Ix
  front : ∀ (i : Nat), F[i]? = some true → (i : Int) ∈ W ∨ ∀ xs, ab[i]? = some xs → ∀ x ∈ xs, Fnd F x ∨ x ∈ Ix
  wait : ∀ x ∈ W, Fnd F x ∧ 0 ≤ x
  ix : ∀ x ∈ Ix, (0 ≤ x ∧ x < (D.length : Int)) ∧ ∀ a, D[x.toNat]? = some a → G a
  come : ∀ a, a ∈ ys ↔ ∃ i : Nat, F[i]? = some true ∧ D[i]? = some a
  good : ∀ a ∈ ys, G a
/-- how many have not been found -/
def left_ (F : List Bool) : Nat := F.countP fun b => !b
theorem Fnd.set {F : List Bool} {x : Int} {k : Nat} (h : Fnd F x) : Fnd (F.set k true) x := by
  unfold Fnd at h ⊢
  rw [List.getElem?_set]
  split
  · rename_i e
    subst e
    rw [if_pos ((List.getElem?_eq_some_iff.1 h).1)]
  · exact h
theorem fnd_set {F : List Bool} {x : Int} (h : x.toNat < F.length) : Fnd (F.set x.toNat true) x := by
  unfold Fnd
  rw [List.getElem?_set_self h]
theorem set_back {F : List Bool} {i k : Nat} (h : (F.set k true)[i]? = some true) : i = k ∨ F[i]? = some true := by
  rw [List.getElem?_set] at h
  split at h
  · rename_i e; exact .inl e.symm
  · exact .inr h
theorem left_set : ∀ {F : List Bool} {k : Nat}, F[k]? = some false → left_ (F.set k true) + 1 = left_ F
  | [], k, h => by simp at h
  | b :: F, 0, h => by
    have e : b = false := by simpa using h
    subst e
    simp [left_]
  | b :: F, k + 1, h => by
    have h' : F[k]? = some false := by simpa using h
    have ih := left_set h'
    unfold left_ at ih ⊢
    rw [List.set_cons_succ, List.countP_cons, List.countP_cons]
    omega

section
variable {D : List Int} {ab : List (List Int)} {G : Int → Prop} {S Ix W : List Int} {F : List Bool} {ys : List Int}
theorem Sr.begin (hs : ∀ x ∈ S, (0 ≤ x ∧ x < (D.length : Int)) ∧ ∀ a, D[x.toNat]? = some a → G a) : Sr D ab G S S [] (List.replicate D.length false) [] := by
  have hno : ∀ i : Nat, ¬ (List.replicate D.length false)[i]? = some true := fun i h => by
    rw [List.getElem?_replicate] at h
    split at h <;> cases h
  exact ⟨by simp, fun s h => .inr h, fun i h => absurd h (hno i), (fun x h => by cases h), hs, fun a => ⟨(fun h => by cases h), fun ⟨i, h, _⟩ => absurd h (hno i)⟩, (fun a h => by cases h)⟩
/-- an index that has been found already -/
theorem Sr.skip {x : Int} (h : Sr D ab G S (x :: Ix) W F ys) (hx : Fnd F x) : Sr D ab G S Ix W F ys := by
  refine ⟨h.len, fun s hs => ?_, fun i hi => ?_, h.wait, fun y hy => h.ix y (by simp [hy]), h.come, h.good⟩
  · rcases h.start s hs with h1 | h1
    · exact .inl h1
    · rcases List.mem_cons.1 h1 with rfl | h1
      · exact .inl hx
      · exact .inr h1
  · rcases h.front i hi with h1 | h1
    · exact .inl h1
    · refine .inr fun xs hxs y hy => ?_
      rcases h1 xs hxs y hy with h2 | h2
      · exact .inl h2
      · rcases List.mem_cons.1 h2 with rfl | h2
        · exact .inl hx
        · exact .inr h2
/-- a new one -/
theorem Sr.take {x a : Int} (h : Sr D ab G S (x :: Ix) W F ys) (ha : D[x.toNat]? = some a) : Sr D ab G S Ix (W ++ [x]) (F.set x.toNat true) (ys ++ [a]) := by
  obtain ⟨⟨hx0, hx1⟩, hg⟩ := h.ix x (by simp)
  have hl : x.toNat < F.length := by rw [h.len]; omega
  refine ⟨by rw [List.length_set, h.len], fun s hs => ?_, fun i hi => ?_, fun y hy => ?_, fun y hy => h.ix y (by simp [hy]), fun b => ?_, fun b hb => ?_⟩
  · rcases h.start s hs with h1 | h1
    · exact .inl h1.set
    · rcases List.mem_cons.1 h1 with rfl | h1
      · exact .inl (fnd_set hl)
      · exact .inr h1
  · rcases set_back hi with rfl | hi
    · exact .inl (by simp; right; omega)
    · rcases h.front i hi with h1 | h1
      · exact .inl (by simp [h1])
      · refine .inr fun xs hxs y hy => ?_
        rcases h1 xs hxs y hy with h2 | h2
        · exact .inl h2.set
        · rcases List.mem_cons.1 h2 with rfl | h2
          · exact .inl (fnd_set hl)
          · exact .inr h2
  · rcases List.mem_append.1 hy with hy | hy
    · exact ⟨(h.wait y hy).1.set, (h.wait y hy).2⟩
    · obtain rfl : y = x := by simpa using hy
      exact ⟨fnd_set hl, hx0⟩
  · rw [List.mem_append, h.come]
    constructor
    · rintro (⟨i, h1, h2⟩ | h1)
      · exact ⟨i, by have := Fnd.set (k := x.toNat) (show Fnd F (i : Int) from h1); exact this, h2⟩
      · obtain rfl : b = a := by simpa using h1
        exact ⟨x.toNat, fnd_set hl, ha⟩
    · rintro ⟨i, h1, h2⟩
      rcases set_back h1 with rfl | h1
      · rw [ha] at h2
        injection h2 with h2
        exact .inr (by simp [h2])
      · exact .inl ⟨i, h1, h2⟩
  · rcases List.mem_append.1 hb with hb | hb
    · exact h.good b hb
    · obtain rfl : b = a := by simpa using hb
      exact hg _ ha
/-- the next that waits -/
theorem Sr.pop {x : Int} {xs : List Int} (h : Sr D ab G S [] (W ++ [x]) F ys) (hxs : ab[x.toNat]? = some xs) (hr : ∀ i ∈ xs, 0 ≤ i ∧ i < (D.length : Int)) (hG : ∀ i ∈ xs, ∀ a, D[i.toNat]? = some a → G a) : Sr D ab G S xs W F ys := by
  refine ⟨h.len, fun s hs => ?_, fun i hi => ?_, fun y hy => h.wait y (by simp [hy]), fun y hy => ⟨hr y hy, hG y hy⟩, h.come, h.good⟩
  · rcases h.start s hs with h1 | h1
    · exact .inl h1
    · cases h1
  · rcases h.front i hi with h1 | h1
    · rcases List.mem_append.1 h1 with h1 | h1
      · exact .inl h1
      · have e : (i : Int) = x := by simpa using h1
        subst e
        refine .inr fun zs hzs y hy => .inr ?_
        rw [Int.toNat_natCast] at hxs
        rw [hxs] at hzs
        injection hzs with hzs
        rw [hzs]; exact hy
    · refine .inr fun zs hzs y hy => ?_
      rcases h1 zs hzs y hy with h2 | h2
      · exact .inl h2
      · cases h2
/-- all that lead to a start have been found -/
theorem Sr.end_ {ps : List Pr} {n : Int} (h : Sr D ab G S [] [] F ys) (hr : RelD ps n D ab) {s : Int} (hs : s ∈ S) {b : Int} (hb : D[s.toNat]? = some b) {a : Int} (w : Way ps a b) : a ∈ ys := by
  induction w with
  | refl =>
    rcases h.start s hs with h1 | h1
    · exact (h.come _).2 ⟨s.toNat, h1, hb⟩
    · cases h1
  | @step a c b m w ih =>
    obtain ⟨i, hi, hc⟩ := (h.come _).1 (ih hb)
    have hi2 : i < ab.length := by rw [hr.len]; exact (List.getElem?_eq_some_iff.1 hc).1
    have hex : ∃ xs, ab[i]? = some xs := ⟨_, List.getElem?_eq_getElem hi2⟩
    obtain ⟨xs, hxs⟩ := hex
    obtain ⟨j, hj⟩ := List.getElem?_of_mem ((hr.mem a).2 ⟨_, m, .inl rfl⟩)
    have hm := (hr.ab i xs c hxs hc j a hj).2 m
    rcases h.front i hi with h1 | h1
    · cases h1
    · rcases h1 xs hxs _ hm with h2 | h2
      · exact (h.come _).2 ⟨j, by unfold Fnd at h2; rw [Int.toNat_natCast] at h2; exact h2, hj⟩
      · cases h2
end
end Go.Proofs.YtbdimnncobpfdaaGreat
