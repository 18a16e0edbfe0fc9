/- slices.Equal, slices.Sort and slices.Compact at strings. -/
import Derived.Test.YtbdimnncobpfdaaGreatIntT
import Derived.Test.YtbdimnncobpfdaaGreatShelf
import Derived.Lib.OwnBridge
import Derived.Sort.OwnSorted
import Derived.Lib.SlicesCompact
set_option linter.unusedVariables false
namespace Go.Proofs.YtbdimnncobpfdaaGreat
open Go.RowKit

/-- slices.Equal at strings -/
theorem EqS_any (A1 A2 : Option Addr) (n c1 m c2 : Nat) (L M : List ByteArray) (w : World) (B1 B2 : Nat) (h1 : Rd w B1 A1 n (sV L)) (h2 : Rd w B2 A2 m (sV M)) (hn : n ≤ maxLen) (hm : m ≤ maxLen) :
    Calls Tryz.prog 13 #[.slice A1 n c1, .slice A2 m c2] w fun x w' => x = .returned (.bool (decide (L = M))) ∧ ∃ q, w' = w.drewN q := by
  have l1 := sV_len h1
  have l2 := sV_len h2
  unfold maxLen at hn hm
  rcases Nat.eq_zero_or_pos n with h0 | h0
  · subst h0
    refine (Tryz.slices_Equal_string_empty A1 A2 c1 m c2 w (by omega)).mono ?_
    rintro e w' ⟨rfl, rfl⟩
    obtain rfl : L = [] := List.eq_nil_of_length_eq_zero l1
    refine ⟨?_, 0, rfl⟩
    congr 2
    rw [decide_eq_decide]
    constructor
    · intro h
      exact (List.eq_nil_of_length_eq_zero (l2.trans h)).symm
    · intro h
      subst h
      simpa using l2.symm
  · by_cases hnm : n = m
    · obtain ⟨b1, o1, rfl, _, k1⟩ := h1.2 h0
      obtain ⟨b2, o2, rfl, _, k2⟩ := h2.2 (by omega)
      have key : ∀ (X : List ByteArray) (b o : Nat), (∀ j u, (sV X)[j]? = some u → w.cell? ⟨b, o + j, none⟩ = some u) → ∀ j, j < X.length → w.cell? ⟨b, o + j, none⟩ = some (.string (X.getD j ByteArray.empty)) := fun X b o k j hj => by
        refine k j _ (sV_at ?_)
        simp [List.getD, List.getElem?_eq_getElem hj]
      refine (Tryz.slices_Equal_string b1 o1 n c1 b2 o2 m c2 L M w (by omega) (by omega) (by omega) (by omega) (key L b1 o1 k1) (key M b2 o2 k2)).mono ?_
      rintro e w' ⟨rfl, q, rfl⟩
      refine ⟨?_, q, rfl⟩
      rw [List.take_of_length_le (by omega), List.take_of_length_le (by omega)]
    · refine (Tryz.slices_Equal_string_lens A1 A2 n c1 m c2 w hnm).mono ?_
      rintro e w' ⟨rfl, rfl⟩
      refine ⟨?_, 0, rfl⟩
      congr 2
      symm
      refine decide_eq_false fun h => hnm ?_
      rw [← l1, ← l2, h]
theorem EqS_same (A1 A2 : Option Addr) (n c1 m c2 : Nat) (L M : List ByteArray) (w : World) (B1 B2 : Nat) (h1 : Rd w B1 A1 n (sV L)) (h2 : Rd w B2 A2 m (sV M)) (hn : n ≤ maxLen) (hm : m ≤ maxLen) (he : L = M) :
    Calls Tryz.prog 13 #[.slice A1 n c1, .slice A2 m c2] w fun x w' => x = .returned (.bool true) ∧ Below w.heap.size w w' := by
  refine (EqS_any A1 A2 n c1 m c2 L M w B1 B2 h1 h2 hn hm).mono ?_
  rintro e w' ⟨rfl, q, rfl⟩
  exact ⟨by rw [decide_eq_true he], below_drewN (Below.refl _ _) q⟩
/-- slices.Sort on a row of one's own -/
theorem SortRow {w : World} {base n : Nat} {v : Value} {zs : List (List UInt8)} (h : w.ownsRow base 9 1 v n (zs.map Go.Proofs.encStr)) (hn : n ≤ 4611686018427387903) :
    Calls Tryz.prog 41 #[v] w fun e w' => e = .returned (.tuple #[]) ∧ w'.ownsRow base 9 1 v n ((zs.mergeSort fun x y => decide (x ≤ y)).map Go.Proofs.encStr) ∧ (base ≤ w.heap.size → Below base w w') := by
  have hl : zs.length = n := by simpa using h.1
  rcases h.2 with ⟨rfl, hx⟩ | ⟨g, cap, cur, rfl, hbase, hb, h1, h2, h3, h4⟩
  · subst hx
    obtain rfl : zs = [] := List.eq_nil_of_length_eq_zero hl
    refine (Tryz.slices_Sort_string_none none 0 w).mono ?_
    rintro e w' ⟨rfl, rfl⟩
    exact ⟨rfl, by simpa using h, fun _ => Below.refl _ _⟩
  · subst hl
    have hH := Go.holds_of_block hb (by simpa using h4)
    have hg : g < w.heap.size := (Array.getElem?_eq_some_iff.1 hb).1
    refine (Tryz.slices_Sort_string g 0 cap zs w hH hg (by omega)).mono ?_
    rintro e w' ⟨rfl, m, os, rfl⟩
    refine ⟨rfl, Go.ownsRow_sorted (by simp) hbase hb h1 h2 h3, fun hs => ?_⟩
    exact (Below.refl base w).grown (Go.grownBy_sorted _) hs (fun j hj => by cases hj; exact hbase)

/-- slices.Compact on a row of one's own -/
theorem CompactRow {w : World} {base n : Nat} {v : Value} {zs : List (List UInt8)} (h : w.ownsRow base 9 1 v n (zs.map Go.Proofs.encStr)) (hn : n ≤ 4611686018427387903) :
    Calls Tryz.prog 42 #[v] w fun e w' => ∃ A m c, e = .returned (.slice A m c) ∧ m ≤ c ∧ c ≤ maxLen ∧ w'.ownsRow base 9 1 (.slice A m c) m ((Lib.compact zs).map Go.Proofs.encStr) ∧ Below base w w' := by
  have hl : zs.length = n := by simpa using h.1
  by_cases hv : v = .slice none 0 0
  · subst hv
    have hz : n = 0 := by
      rcases h.2 with ⟨_, hx⟩ | ⟨g, cap, cur, h0, _⟩
      · exact hx
      · cases h0
    subst hz
    obtain rfl : zs = [] := List.eq_nil_of_length_eq_zero hl
    refine (Tryz.slices_Compact_string_empty none 0 w).mono ?_
    rintro e w' ⟨rfl, rfl⟩
    refine ⟨none, 0, 0, rfl, Nat.le_refl _, Nat.zero_le _, ?_, Below.refl _ _⟩
    have e : Lib.compact ([] : List (List UInt8)) = [] := rfl
    rw [e]
    exact h
  · obtain ⟨g, cap, rfl, hbg, hgl, hncap, hcm, _, hH⟩ := Lib.holds_of_ownsRow h hv
    subst hl
    refine (Tryz.slices_Compact_string g 0 cap zs w hH (by omega) hncap).mono ?_
    rintro e w' ⟨rfl, q, rfl⟩
    have hle := Lib.compact_length_le zs
    have hc := Lib.ownsRow_putRow (q := q) (k := (Lib.compact zs).length) (ys := Lib.compact zs ++ List.replicate (zs.length - (Lib.compact zs).length) []) h (by simp; omega) hle
    rw [List.take_left] at hc
    exact ⟨_, _, _, rfl, by omega, hcm, hc, Lib.below_putRow (Below.refl _ _) hbg⟩

theorem sV_keys (L : List ByteArray) : sV L = (L.map key).map Go.Proofs.encStr := (Lib.map_encStr L).symm
end Go.Proofs.YtbdimnncobpfdaaGreat
