/- Sorting, compacting and searching numbers; a relation in memory; index. -/
import Derived.Test.YtagnikaghhobjaaPairs
import Derived.Test.YtagnikaghhobjaaTypS
import Derived.Test.YtagnikaghhobjaaShelf
import Derived.Lib.OwnBridge
import Derived.Sort.OwnSortedInts
import Derived.Lib.SlicesCompact
set_option linter.unusedVariables false
namespace Go.Proofs.Ytagnikaghhobjaa
open Go.RowKit

/-! ### what sorting and compacting leave -/
theorem icompact_mem {zs : List Int} {x : Int} : x ∈ Lib.compact zs ↔ x ∈ zs := by
  unfold Lib.compact Lib.compactUpTo
  constructor
  · intro h
    obtain ⟨i, hi, rfl⟩ := List.mem_map.1 h
    have hi' : i < zs.length := List.mem_range.1 (List.mem_filter.1 hi).1
    simp [getElem!_pos, hi']
  · intro h
    obtain ⟨i, hi, rfl⟩ := List.mem_iff_getElem.1 h
    have key : ∀ n, ∀ i (hi : i < zs.length), i ≤ n → ∃ j, j < zs.length ∧ Lib.keeps zs.toArray j = true ∧ zs.toArray[j]! = zs[i] := by
      intro n
      induction n with
      | zero =>
        intro i hi h0
        obtain rfl : i = 0 := by omega
        exact ⟨0, hi, by simp [Lib.keeps], by simp [getElem!_pos, hi]⟩
      | succ n ih =>
        intro i hi hn
        by_cases hk : Lib.keeps zs.toArray i = true
        · exact ⟨i, hi, hk, by simp [getElem!_pos, hi]⟩
        · have hk' : ¬ (i = 0 ∨ zs.toArray[i]! ≠ zs.toArray[i - 1]!) := by simpa [Lib.keeps] using hk
          have h0 : i ≠ 0 := fun e => hk' (.inl e)
          have he : zs.toArray[i]! = zs.toArray[i - 1]! := Classical.byContradiction fun e => hk' (.inr e)
          obtain ⟨j, h1, h2, h3⟩ := ih (i - 1) (by omega) (by omega)
          refine ⟨j, h1, h2, h3.trans ?_⟩
          simp only [getElem!_pos, hi, show i - 1 < zs.length by omega, List.size_toArray, List.getElem_toArray] at he
          exact he.symm
    obtain ⟨j, h1, h2, h3⟩ := key i i hi (Nat.le_refl _)
    exact List.mem_map.2 ⟨j, List.mem_filter.2 ⟨List.mem_range.2 h1, h2⟩, h3⟩
theorem icompact_asc {zs : List Int} (h : zs.Pairwise (· ≤ ·)) : (Lib.compact zs).Pairwise (· < ·) := by
  unfold Lib.compact Lib.compactUpTo
  refine List.pairwise_map.2 ?_
  have hr : ((List.range zs.length).filter (Lib.keeps zs.toArray)).Pairwise (· < ·) := List.Pairwise.sublist List.filter_sublist List.pairwise_lt_range
  refine List.Pairwise.imp_of_mem ?_ hr
  intro i j hi hj hij
  obtain ⟨hi1, hi2⟩ := List.mem_filter.1 hi
  obtain ⟨hj1, hj2⟩ := List.mem_filter.1 hj
  have hjl := List.mem_range.1 hj1
  have hil := List.mem_range.1 hi1
  have hne : zs.toArray[j]! ≠ zs.toArray[j - 1]! := by
    have : j = 0 ∨ zs.toArray[j]! ≠ zs.toArray[j - 1]! := by simpa [Lib.keeps] using hj2
    rcases this with h | h
    · omega
    · exact h
  simp only [getElem!_pos, hjl, hil, show j - 1 < zs.length by omega, List.size_toArray, List.getElem_toArray] at hne ⊢
  have hp := List.pairwise_iff_getElem.1 h
  have h1 : zs[j - 1] ≤ zs[j] := hp (j - 1) j (by omega) hjl (by omega)
  rcases Nat.lt_or_ge i (j - 1) with c | c
  · have h3 : zs[i] ≤ zs[j - 1] := hp i (j - 1) hil (by omega) c
    omega
  · obtain rfl : i = j - 1 := by omega
    omega
theorem isort_le (zs : List Int) : (zs.mergeSort fun x y => decide (x ≤ y)).Pairwise (· ≤ ·) := by
  have hs := List.pairwise_mergeSort (le := fun x y : Int => decide (x ≤ y)) (fun a b c h1 h2 => by simp at h1 h2 ⊢; omega) (fun a b => by simp; omega) zs
  exact hs.imp fun h => by simpa using h
/-- the ascending list of what is in a list -/
def idedup (zs : List Int) : List Int := Lib.compact (zs.mergeSort fun x y => decide (x ≤ y))
theorem idedup_mem {zs : List Int} {x : Int} : x ∈ idedup zs ↔ x ∈ zs := by unfold idedup; rw [icompact_mem, (List.mergeSort_perm _ _).mem_iff]
theorem idedup_asc (zs : List Int) : (idedup zs).Pairwise (· < ·) := icompact_asc (isort_le zs)
theorem idedup_len (zs : List Int) : (idedup zs).length ≤ zs.length := by
  have h := Lib.compact_length_le (zs.mergeSort fun x y => decide (x ≤ y))
  rw [List.length_mergeSort] at h
  exact h

/-- slices.Sort on a row of one's own -/
theorem SortRowI {w : World} {base n : Nat} {v : Value} {zs : List Int} (h : w.ownsRow base 3 1 v n (i64s zs)) (hn : n ≤ 4611686018427387903) :
    Calls Try.prog 27 #[v] w fun e w' => e = .returned (.tuple #[]) ∧ w'.ownsRow base 3 1 v n (i64s (zs.mergeSort fun x y => decide (x ≤ y))) ∧ (base ≤ w.heap.size → Below base w w') := by
  have hl : zs.length = n := by simpa using h.1
  rcases h.2 with ⟨rfl, hx⟩ | ⟨g, cap, cur, rfl, hbase, hb, h1, h2, h3, h4⟩
  · subst hx
    obtain rfl : zs = [] := List.eq_nil_of_length_eq_zero hl
    refine (Try.slices_Sort_int_none none 0 w).mono ?_
    rintro e w' ⟨rfl, rfl⟩
    exact ⟨rfl, by simpa using h, fun _ => Below.refl _ _⟩
  · subst hl
    have hH := Go.holds_of_blockI hb (by simpa using h4)
    have hg : g < w.heap.size := (Array.getElem?_eq_some_iff.1 hb).1
    refine (Try.slices_Sort_int g 0 cap zs w hH hg (by omega)).mono ?_
    rintro e w' ⟨rfl, m, os, rfl⟩
    refine ⟨rfl, Go.ownsRow_sortedI (by simp) hbase hb h1 h2 h3, fun hs => ?_⟩
    exact (Below.refl base w).grown (Go.grownBy_sortedI _) hs (fun j hj => by cases hj; exact hbase)

/-- slices.Compact on a row of one's own -/
theorem CompactRowI {w : World} {base n : Nat} {v : Value} {zs : List Int} (h : w.ownsRow base 3 1 v n (i64s zs)) (hn : n ≤ 4611686018427387903) :
    Calls Try.prog 28 #[v] w fun e w' => ∃ A m c, e = .returned (.slice A m c) ∧ m ≤ c ∧ c ≤ maxLen ∧ w'.ownsRow base 3 1 (.slice A m c) m (i64s (Lib.compact zs)) ∧ Below base w w' := by
  have hl : zs.length = n := by simpa using h.1
  by_cases hv : v = .slice none 0 0
  · subst hv
    have hz : n = 0 := by
      rcases h.2 with ⟨_, hx⟩ | ⟨g, cap, cur, h0, _⟩
      · exact hx
      · cases h0
    subst hz
    obtain rfl : zs = [] := List.eq_nil_of_length_eq_zero hl
    refine (Try.slices_Compact_int_empty none 0 w).mono ?_
    rintro e w' ⟨rfl, rfl⟩
    refine ⟨none, 0, 0, rfl, Nat.le_refl _, Nat.zero_le _, ?_, Below.refl _ _⟩
    have e : Lib.compact ([] : List Int) = [] := rfl
    rw [e]
    exact h
  · obtain ⟨g, cap, rfl, hbg, hgl, hncap, hcm, _, hH⟩ := Lib.holds_of_ownsRow h hv
    subst hl
    refine (Try.slices_Compact_int g 0 cap zs w hH (by omega) hncap).mono ?_
    rintro e w' ⟨rfl, q, rfl⟩
    have hle := Lib.compact_length_le zs
    have hc := Lib.ownsRow_putRow (q := q) (k := (Lib.compact zs).length) (ys := Lib.compact zs ++ List.replicate (zs.length - (Lib.compact zs).length) 0) h (by simp; omega) hle
    rw [List.take_left] at hc
    exact ⟨_, _, _, rfl, by omega, hcm, hc, Lib.below_putRow (Below.refl _ _) hbg⟩

set_option maxHeartbeats 1000000 in
theorem BSearch_none (A : Option Addr) (c : Nat) (x : Int) (w : World) : Calls Try.prog 42 #[.slice A 0 c, .int .i64 x] w fun e w' => e = .returned (.tuple #[.int .i64 0, .bool false]) ∧ ∃ q, w' = w.drewN q := by
  go_enter Try.func42, Try.ntmps42
  go_wp2
  go_loop [7, 8] (fun i j => i = .int .i64 0 ∧ j = .int .i64 0) (fun _ _ => 0)
  case atStart => exact ⟨rfl, rfl⟩
  case round =>
    obtain ⟨rfl, rfl⟩ := hrel
    go_wp2
    go_ret2
    exact ⟨rfl, 0, rfl⟩
theorem BSearch_any {A : Option Addr} {n c : Nat} {D : List Int} (x : Int) (w : World) {B : Nat} (hD : Rd w B A n (i64s D)) (hs : D.Pairwise (· < ·)) (hn : n ≤ 1000000) :
    Calls Try.prog 42 #[.slice A n c, .int .i64 x] w fun e w' => e = .returned (.tuple #[.int .i64 ((D.countP (· < x) : Nat) : Int), .bool (D.contains x)]) ∧ ∃ q, w' = w.drewN q := by
  have hl := hD.ilen
  rcases Nat.eq_zero_or_pos n with h0 | h0
  · subst h0
    obtain rfl : D = [] := List.eq_nil_of_length_eq_zero hl
    exact BSearch_none A c x w
  · obtain ⟨b, o, rfl, hb, hc⟩ := hD.2 h0
    have h := Try.slices_BinarySearch_int b o n c D x w (by omega) (by omega) (fun j hj => hc j _ (by rw [List.getElem?_map, List.getElem?_eq_getElem hj, List.getD_eq_getElem?_getD, List.getElem?_eq_getElem hj]; rfl)) (by rw [← hl, List.take_length]; exact asc_le hs)
    rw [← hl, List.take_length, hl] at h
    exact h

/-! ### a relation in memory -/
/-- a slice of numbers, and where it lies -/
structure RowW where
  xs : List Int
  A : Option Addr
  n : Nat
  c : Nat
abbrev rowV (x : RowW) : Value := .slice x.A x.n x.c
structure RelW (w : World) (B r : Nat) (ps : List Pr) (rg : Int) (A1 : Option Addr) (nD cD : Nat) (D : List Int) (A2 : Option Addr) (c2 : Nat) (L : List RowW) : Prop where
  lt : r < B
  d0 : w.cell? ⟨r, 0, none⟩ = some (.int .i64 rg)
  d1 : w.cell? ⟨r, 1, none⟩ = some (.slice A1 nD cD)
  d2 : w.cell? ⟨r, 2, none⟩ = some (.slice A2 nD c2)
  nc : nD ≤ cD
  nc2 : nD ≤ c2
  dec : Rd w B A1 nD (i64s D)
  above : Rd w B A2 nD (L.map rowV)
  rows : ∀ x ∈ L, Rd w B x.A x.n (i64s x.xs) ∧ x.n ≤ x.c ∧ x.n ≤ 140737488355327
  rel : RelD ps rg D (L.map RowW.xs)
  few : nD ≤ 200000
  ok : PrOk ps rg
theorem RelW.below {w w' : World} {B r : Nat} {ps : List Pr} {rg : Int} {A1 : Option Addr} {nD cD : Nat} {D : List Int} {A2 : Option Addr} {c2 : Nat} {L : List RowW} (h : RelW w B r ps rg A1 nD cD D A2 c2 L) (hb : Below B w w') : RelW w' B r ps rg A1 nD cD D A2 c2 L :=
  ⟨h.lt, (hb.cell (p := ⟨r, 0, none⟩) h.lt).trans h.d0, (hb.cell (p := ⟨r, 1, none⟩) h.lt).trans h.d1, (hb.cell (p := ⟨r, 2, none⟩) h.lt).trans h.d2, h.nc, h.nc2, h.dec.below hb, h.above.below hb, fun x hx => ⟨(h.rows x hx).1.below hb, (h.rows x hx).2⟩, h.rel, h.few, h.ok⟩
theorem RelW.more {w : World} {B B' r : Nat} {ps : List Pr} {rg : Int} {A1 : Option Addr} {nD cD : Nat} {D : List Int} {A2 : Option Addr} {c2 : Nat} {L : List RowW} (h : RelW w B r ps rg A1 nD cD D A2 c2 L) (hb : B ≤ B') : RelW w B' r ps rg A1 nD cD D A2 c2 L :=
  ⟨Nat.lt_of_lt_of_le h.lt hb, h.d0, h.d1, h.d2, h.nc, h.nc2, h.dec.more hb, h.above.more hb, fun x hx => ⟨(h.rows x hx).1.more hb, (h.rows x hx).2⟩, h.rel, h.few, h.ok⟩
/-- .. whatever its parts are -/
def Rel (w : World) (B r : Nat) (ps : List Pr) (rg : Int) : Prop := ∃ A1 nD cD D A2 c2 L, RelW w B r ps rg A1 nD cD D A2 c2 L
theorem Rel.below {w w' : World} {B r : Nat} {ps : List Pr} {rg : Int} (h : Rel w B r ps rg) (hb : Below B w w') : Rel w' B r ps rg := by
  obtain ⟨A1, nD, cD, D, A2, c2, L, h⟩ := h
  exact ⟨A1, nD, cD, D, A2, c2, L, h.below hb⟩
theorem Rel.more {w : World} {B B' r : Nat} {ps : List Pr} {rg : Int} (h : Rel w B r ps rg) (hb : B ≤ B') : Rel w B' r ps rg := by
  obtain ⟨A1, nD, cD, D, A2, c2, L, h⟩ := h
  exact ⟨A1, nD, cD, D, A2, c2, L, h.more hb⟩

/-- index, of what holds the declared regions -/
theorem index_raw {A1 : Option Addr} {nD cD : Nat} {D : List Int} {r : Nat} (x : Int) (w : World) {B : Nat} (h1 : w.cell? ⟨r, 1, none⟩ = some (.slice A1 nD cD)) (hD : Rd w B A1 nD (i64s D)) (hs : D.Pairwise (· < ·)) (hn : nD ≤ 1000000) :
    Calls Try.prog 29 #[.pointer (some ⟨r, 0, none⟩), .int .i64 x] w fun e w' => e = .returned (.tuple #[.int .i64 ((D.countP (· < x) : Nat) : Int), .bool (D.contains x)]) ∧ ∃ q, w' = w.drewN q := by
  have HS := hide (BSearch_any (c := cD) x w hD hs hn)
  clear hD hs
  generalize D.countP (· < x) = k at *
  generalize D.contains x = b at *
  go_enter Try.func29, Try.ntmps29
  go_wp2_with (go_at_call 42; refine HS.out.mono ?_; rintro e w1 ⟨rfl, q, rfl⟩)
  go_ret2
  exact ⟨rfl, q, rfl⟩
theorem index_yes {A1 : Option Addr} {nD cD : Nat} {D : List Int} {r : Nat} {x : Int} {i : Nat} (hi : D[i]? = some x) (w : World) {B : Nat} (h1 : w.cell? ⟨r, 1, none⟩ = some (.slice A1 nD cD)) (hD : Rd w B A1 nD (i64s D)) (hs : D.Pairwise (· < ·)) (hn : nD ≤ 1000000) :
    Calls Try.prog 29 #[.pointer (some ⟨r, 0, none⟩), .int .i64 x] w fun e w' => e = .returned (.tuple #[.int .i64 (i : Int), .bool true]) ∧ ∃ q, w' = w.drewN q := by
  have h := index_raw (cD := cD) x w h1 hD hs hn
  rw [asc_count hs hi, show D.contains x = true by simpa using List.mem_of_getElem? hi] at h
  exact h
theorem index_no {A1 : Option Addr} {nD cD : Nat} {D : List Int} {r : Nat} {x : Int} (hi : x ∉ D) (w : World) {B : Nat} (h1 : w.cell? ⟨r, 1, none⟩ = some (.slice A1 nD cD)) (hD : Rd w B A1 nD (i64s D)) (hs : D.Pairwise (· < ·)) (hn : nD ≤ 1000000) :
    Calls Try.prog 29 #[.pointer (some ⟨r, 0, none⟩), .int .i64 x] w fun e w' => (∃ k : Nat, e = .returned (.tuple #[.int .i64 (k : Int), .bool false])) ∧ ∃ q, w' = w.drewN q := by
  refine (index_raw (cD := cD) x w h1 hD hs hn).mono ?_
  rintro e w' ⟨rfl, q, rfl⟩
  exact ⟨⟨_, by rw [show D.contains x = false by simpa using hi]⟩, q, rfl⟩
end Go.Proofs.Ytagnikaghhobjaa
