/- Index of a table: the binary search. -/
import Derived.Test.YtbkgooeghmaokaaIntT
set_option linter.unusedVariables false
namespace Go.Proofs.Ytbkgooeghmaokaa
open Go.RowKit

theorem less_any (a s : ByteArray) (b : Nat) (w : World) (hb : w.cell? ⟨b, 0, none⟩ = some (.string s)) :
    Calls Try.prog 31 #[.string a, .pointer (some ⟨b, 0, none⟩)] w fun e w' => e = .returned (.bool (ltS a s)) ∧ w = w' := by
  go_enter Try.func31, Try.ntmps31
  go_wp2
  go_ret
  exact ⟨congrArg (fun v => Ending.returned (.bool v)) (ltS_def a s), rfl⟩
theorem less_is {a s : ByteArray} {v : Bool} (h : ltS a s = v) (b : Nat) (w : World) (hb : w.cell? ⟨b, 0, none⟩ = some (.string s)) :
    Calls Try.prog 31 #[.string a, .pointer (some ⟨b, 0, none⟩)] w fun e w' => e = .returned (.bool v) ∧ w = w' := h ▸ less_any a s b w hb

/-- the first k of L lie below s -/
def lowS (L : List ByteArray) (s : ByteArray) (k : Nat) : Prop := ∀ j a, j < k → L[j]? = some a → ltS a s = true
/-- from the k-th on none does -/
def highS (L : List ByteArray) (s : ByteArray) (k : Nat) : Prop := ∀ j a, k ≤ j → L[j]? = some a → ltS a s = false
theorem low_up {L : List ByteArray} {s a : ByteArray} {m : Nat} (hL : Asc L) (ha : L[m]? = some a) (h : ltS a s = true) : lowS L s (m + 1) := fun j b hj hb => by
  rcases Nat.lt_or_ge j m with c | c
  · exact ltS_trans (asc_at hL hb ha c) h
  · obtain rfl : j = m := by omega
    rw [ha] at hb
    injection hb with e
    subst e
    exact h
theorem high_up {L : List ByteArray} {s a : ByteArray} {m : Nat} (hL : Asc L) (ha : L[m]? = some a) (h : ltS a s = false) : highS L s m := fun j b hj hb => by
  rcases Nat.lt_or_ge m j with c | c
  · cases hc : ltS b s
    · rfl
    · have := ltS_trans (asc_at hL ha hb c) hc
      rw [this] at h
      cases h
  · obtain rfl : j = m := by omega
    rw [ha] at hb
    injection hb with e
    subst e
    exact h

set_option maxHeartbeats 2000000 in
set_option maxRecDepth 100000 in
theorem search_any (A : Option Addr) (n c : Nat) (L : List ByteArray) (s : ByteArray) (b : Nat) (w : World) (B : Nat) (hA : Rd w B A n (sV L)) (hL : Asc L) (hb : w.cell? ⟨b, 0, none⟩ = some (.string s)) (hn : n ≤ maxLen) :
    Calls Try.prog 30 #[.slice A n c, .func (.func 31) #[] #[.pointer (some ⟨b, 0, none⟩)]] w fun x w' => ∃ k : Nat, x = .returned (.int .i64 (k : Int)) ∧ k ≤ n ∧ lowS L s k ∧ highS L s k ∧ w = w' := by
  have HA := hide hA
  have hl := sV_len hA
  have HL := hide hL
  have hh : highS L s n := fun j a hj ha => by rw [List.getElem?_eq_none (by omega)] at ha; cases ha
  have HH := hide hh
  unfold maxLen at hn
  clear hA hL hh
  go_enter Try.func30, Try.ntmps30
  go_wp2
  go_loopw [5, 6] (fun f t wr => ∃ i j : Nat, f = .int .i64 (i : Int) ∧ t = .int .i64 (j : Int) ∧ i ≤ j ∧ j ≤ n ∧ Hid (lowS L s i) ∧ Hid (highS L s j) ∧ w = wr) (fun f t _ => (intOf t).toNat - (intOf f).toNat)
  case atStart => exact ⟨0, n, rfl, rfl, Nat.zero_le _, Nat.le_refl _, fun j a h => absurd h (by omega), HH.out, rfl⟩
  case round =>
    obtain ⟨i, j, rfl, rfl, hij, hj, H1, H2, rfl⟩ := hrel
    by_cases hlt : i < j
    · have hlt' : (i : Int) < (j : Int) := by omega
      have hex : ∃ m, m = i + (j - i) / 2 := ⟨_, rfl⟩
      obtain ⟨m, hm⟩ := hex
      have hmj : m < j := by omega
      have hex : ∃ a, L[m]? = some a := ⟨_, List.getElem?_eq_getElem (by omega)⟩
      obtain ⟨a, ha⟩ := hex
      obtain ⟨g, o, rfl, hgB, c0⟩ := HA.out.str ha
      have HM := hide ha
      clear ha
      have he : (i : Int) + ((j : Int) - (i : Int)) / 2 = (m : Int) := by omega
      have hmn : (m : Int) < (n : Int) := by omega
      clear hm
      cases hla : ltS a s
      · have HN := hide (high_up HL.out HM.out hla)
        have HE := hide hla
        clear hla
        go_wp2_with fail
        refine (less_is HE.out b _ hb).mono ?_
        rintro e w1 ⟨rfl, rfl⟩
        go_wp2_with fail
        go_roundw
        case rel => exact ⟨i, m, rfl, by go_num, by omega, by omega, H1.out, HN.out, trivial⟩
        case measure => simp [intOf]; omega
      · have HN := hide (low_up HL.out HM.out hla)
        have HE := hide hla
        clear hla
        go_wp2_with fail
        refine (less_is HE.out b _ hb).mono ?_
        rintro e w1 ⟨rfl, rfl⟩
        go_wp2_with fail
        go_roundw
        case rel => exact ⟨m + 1, j, by go_num, rfl, by omega, by omega, HN.out, H2.out, trivial⟩
        case measure => simp [intOf]; omega
    · obtain rfl : i = j := by omega
      go_wp2_with fail
      go_ret
      exact ⟨i, rfl, hj, H1.out, H2.out, rfl⟩

/-- where s stands in L, or that it doesn't -/
def At_ (L : List ByteArray) (s : ByteArray) (k : Int) (ok : Bool) : Prop := (∃ j : Nat, L[j]? = some s ∧ k = (j : Int) ∧ ok = true) ∨ (s ∉ L ∧ k = 0 ∧ ok = false)

theorem Index_nil (w : World) (s : ByteArray) :
    Calls Try.prog 14 #[.pointer none, .string s] w fun e w' => e = .returned (.tuple #[.int .i64 0, .bool false]) ∧ Below w.heap.size w w' := by
  go_enter Try.func14, Try.ntmps14
  go_wp2
  go_ret2
  exact ⟨rfl, (Below.refl _ _).alloc (Nat.le_refl _) _⟩

set_option maxHeartbeats 2000000 in
set_option maxRecDepth 100000 in
theorem Index_any {w : World} {g : Nat} {L : List ByteArray} (h : Tab w g L) (hL : Asc L) (s : ByteArray) :
    Calls Try.prog 14 #[.pointer (some ⟨g, 0, none⟩), .string s] w fun e w' => ∃ k ok, e = .returned (.tuple #[.int .i64 k, .bool ok]) ∧ At_ L s k ok ∧ Below w.heap.size w w' := by
  obtain ⟨A, n, c, h⟩ := h
  have HL := hide hL
  have hn := h.len
  have hlt := h.lt
  have hb := (Below.refl w.heap.size w).alloc (Nat.le_refl _) (.cells #[.string s] 9)
  have HB := hide hb
  have c0 := h.c0
  have HR := hide (h.rd.below (hb.mono (by omega)))
  have hnc := h.nc
  have hcm := h.cm
  unfold maxLen at hcm
  have HX := hide (search_any A n c L s w.heap.size _ g HR.out hL (by simp [go_sem]) (by unfold maxLen; omega))
  clear h hb hL
  go_enter Try.func14, Try.ntmps14
  go_wp2_with fail
  refine HX.out.mono ?_
  rintro e w1 ⟨k, rfl, hk, H1, H2, rfl⟩
  have hm : ∀ j a, j < k → L[j]? = some a → a ≠ s := fun j a hj ha => ltS_ne (H1 j a hj ha)
  by_cases hkn : k = n
  · subst hkn
    have hno : s ∉ L := fun hs => by
      obtain ⟨j, hj⟩ := List.getElem?_of_mem hs
      exact hm j s (by have := (List.getElem?_eq_some_iff.1 hj).1; omega) hj rfl
    have HN := hide hno
    have e1 : ((k : Int) == (k : Int)) = true := beq_iff_eq.2 rfl
    clear H1 H2 hm hno
    go_wp2
    go_quiet (fail)
    go_wp2
    go_ret2
    exact ⟨0, false, rfl, .inr ⟨HN.out, rfl, rfl⟩, below_drewN HB.out _⟩
  · have e1 : ((k : Int) == (n : Int)) = false := beq_eq_false_iff_ne.2 (by omega)
    have hex : ∃ a, L[k]? = some a := ⟨_, List.getElem?_eq_getElem (by omega)⟩
    obtain ⟨a, ha⟩ := hex
    obtain ⟨b, o, rfl, hbg, c1⟩ := HR.out.str ha
    have hk1 : (k : Int) < (n : Int) := by omega
    have hb1 : b < w.heap.size := by omega
    have c1' : w.cell? ⟨b, o + k, none⟩ = some (.string a) := by rwa [World.cell?_alloc_lt w _ _ hb1] at c1
    have HS := hide ha
    by_cases hs : a = s
    · subst hs
      have e2 : (a.toList == a.toList) = true := beq_iff_eq.2 rfl
      clear H1 H2 hm ha
      go_wp2
      go_quiet (fail)
      go_wp2
      go_ret2
      exact ⟨(k : Int), true, rfl, .inl ⟨k, HS.out, rfl, rfl⟩, below_drewN HB.out _⟩
    · have hno : s ∉ L := fun h => by
        obtain ⟨j, hj⟩ := List.getElem?_of_mem h
        rcases Nat.lt_trichotomy j k with c | c | c
        · exact hm j s c hj rfl
        · subst c
          rw [hj] at ha
          injection ha with ha
          exact hs ha.symm
        · have h1 := asc_at HL.out ha hj c
          rw [H2 k a (Nat.le_refl _) ha] at h1
          cases h1
      have HN := hide hno
      have e2 : (a.toList == s.toList) = false := by rw [eqS_def]; exact decide_eq_false hs
      clear H1 H2 hm ha hno
      go_wp2
      go_quiet (fail)
      go_wp2
      go_ret2
      exact ⟨0, false, rfl, .inr ⟨HN.out, rfl, rfl⟩, below_drewN HB.out _⟩
end Go.Proofs.Ytbkgooeghmaokaa
