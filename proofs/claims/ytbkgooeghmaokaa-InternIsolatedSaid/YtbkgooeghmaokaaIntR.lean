/- The reference's Index and Encode; slices.Equal and slices.Clone at strings. -/
import Derived.Test.YtbkgooeghmaokaaIntE
import Derived.Test.YtbkgooeghmaokaaIntX
import Derived.Test.YtbkgooeghmaokaaShelf
set_option linter.unusedVariables false
namespace Go.Proofs.Ytbkgooeghmaokaa
open Go.RowKit

def AtR (L : List ByteArray) (s : ByteArray) (k : Int) : Prop := (∃ j : Nat, L[j]? = some s ∧ k = (j : Int)) ∨ (s ∉ L ∧ k = -1)

set_option maxHeartbeats 1000000 in
set_option maxRecDepth 100000 in
theorem RefIndex_any (A : Option Addr) (n c : Nat) (L : List ByteArray) (s : ByteArray) (w : World) (B : Nat) (hA : Rd w B A n (sV L)) (hn : n ≤ maxLen) :
    Calls Try.prog 15 #[.slice A n c, .string s] w fun x w' => ∃ k, x = .returned (.int .i64 k) ∧ AtR L s k ∧ w = w' := by
  have HA := hide hA
  have hl := sV_len hA
  unfold maxLen at hn
  clear hA
  go_enter Try.func15, Try.ntmps15
  go_wp2
  go_loopw [5] (fun i wr => ∃ k : Nat, i = .int .i64 (k : Int) ∧ k ≤ n ∧ Hid (∀ j, j < k → L[j]? ≠ some s) ∧ w = wr) (fun i _ => n - (intOf i).toNat)
  case atStart => exact ⟨0, rfl, Nat.zero_le _, fun j h => absurd h (by omega), rfl⟩
  case round =>
    obtain ⟨k, rfl, hk, HN, rfl⟩ := hrel
    by_cases hlt : k < n
    · have hex : ∃ a, L[k]? = some a := ⟨_, List.getElem?_eq_getElem (by omega)⟩
      obtain ⟨a, ha⟩ := hex
      have hlt' : (k : Int) < (n : Int) := by omega
      obtain ⟨b, o, rfl, hbB, c0⟩ := HA.out.str ha
      have Ha := hide ha
      by_cases hs : a = s
      · subst hs
        have e2 : (a.toList == a.toList) = true := beq_iff_eq.2 rfl
        clear ha
        go_wp2
        go_ret
        exact ⟨_, rfl, .inl ⟨k, Ha.out, rfl⟩, rfl⟩
      · have e2 : (a.toList == s.toList) = false := by rw [eqS_def]; exact decide_eq_false hs
        have HN2 := hide (show ∀ j, j < k + 1 → L[j]? ≠ some s from fun j hj hjs => by
          rcases Nat.lt_or_ge j k with c | c
          · exact HN.out j c hjs
          · obtain rfl : j = k := by omega
            rw [ha] at hjs
            injection hjs with e
            exact hs e)
        clear ha
        go_wp2
        go_roundw
        case rel => exact ⟨k + 1, by go_num, by omega, HN2.out, trivial⟩
        case measure => simp [intOf]; omega
    · obtain rfl : k = n := by omega
      have hno : s ∉ L := fun h => by
        obtain ⟨j, hj⟩ := List.getElem?_of_mem h
        exact HN.out j (by have := (List.getElem?_eq_some_iff.1 hj).1; omega) hj
      have HNo := hide hno
      clear hno
      go_wp2
      go_ret
      exact ⟨_, rfl, .inr ⟨HNo.out, rfl⟩, rfl⟩
theorem At_ref {L : List ByteArray} (hL : Asc L) {s : ByteArray} {k r : Int} {ok : Bool} (h : At_ L s k ok) (h' : AtR L s r) : ok = decide (0 ≤ r) ∧ k = max r 0 := by
  rcases h with ⟨j, h1, rfl, rfl⟩ | ⟨h1, rfl, rfl⟩
  · rcases h' with ⟨i, h2, rfl⟩ | ⟨h2, rfl⟩
    · rw [asc_inj hL h1 h2]
      refine ⟨(decide_eq_true (by omega)).symm, by omega⟩
    · exact absurd (List.mem_of_getElem? h1) h2
  · rcases h' with ⟨i, h2, rfl⟩ | ⟨h2, rfl⟩
    · exact absurd (List.mem_of_getElem? h2) h1
    · exact ⟨rfl, rfl⟩

/-- slices.Equal at strings -/
theorem EqS_any (A1 A2 : Option Addr) (n c1 m c2 : Nat) (L M : List ByteArray) (w : World) (B1 B2 : Nat) (h1 : Rd w B1 A1 n (sV L)) (h2 : Rd w B2 A2 m (sV M)) (hn : n ≤ maxLen) (hm : m ≤ maxLen) :
    Calls Try.prog 18 #[.slice A1 n c1, .slice A2 m c2] w fun x w' => x = .returned (.bool (decide (L = M))) ∧ ∃ q, w' = w.drewN q := by
  have l1 := sV_len h1
  have l2 := sV_len h2
  unfold maxLen at hn hm
  rcases Nat.eq_zero_or_pos n with h0 | h0
  · subst h0
    refine (Try.slices_Equal_string_empty A1 A2 c1 m c2 w (by omega)).mono ?_
    rintro e w' ⟨rfl, rfl⟩
    obtain rfl : L = [] := List.eq_nil_of_length_eq_zero l1
    refine ⟨?_, 0, rfl⟩
    congr 2
    rw [decide_eq_decide]
    constructor
    · intro h
      exact (List.eq_nil_of_length_eq_zero (l2.trans h)).symm
    · intro h
      subst h
      simpa using l2.symm
  · by_cases hnm : n = m
    · obtain ⟨b1, o1, rfl, _, k1⟩ := h1.2 h0
      obtain ⟨b2, o2, rfl, _, k2⟩ := h2.2 (by omega)
      have key : ∀ (X : List ByteArray) (b o : Nat), (∀ j u, (sV X)[j]? = some u → w.cell? ⟨b, o + j, none⟩ = some u) → ∀ j, j < X.length → w.cell? ⟨b, o + j, none⟩ = some (.string (X.getD j ByteArray.empty)) := fun X b o k j hj => by
        refine k j _ (sV_at ?_)
        simp [List.getD, List.getElem?_eq_getElem hj]
      refine (Try.slices_Equal_string b1 o1 n c1 b2 o2 m c2 L M w (by omega) (by omega) (by omega) (by omega) (key L b1 o1 k1) (key M b2 o2 k2)).mono ?_
      rintro e w' ⟨rfl, q, rfl⟩
      refine ⟨?_, q, rfl⟩
      rw [List.take_of_length_le (by omega), List.take_of_length_le (by omega)]
    · refine (Try.slices_Equal_string_lens A1 A2 n c1 m c2 w hnm).mono ?_
      rintro e w' ⟨rfl, rfl⟩
      refine ⟨?_, 0, rfl⟩
      congr 2
      symm
      refine decide_eq_false fun h => hnm ?_
      rw [← l1, ← l2, h]
theorem EqS_same (A1 A2 : Option Addr) (n c1 m c2 : Nat) (L M : List ByteArray) (w : World) (B1 B2 : Nat) (h1 : Rd w B1 A1 n (sV L)) (h2 : Rd w B2 A2 m (sV M)) (hn : n ≤ maxLen) (hm : m ≤ maxLen) (he : L = M) :
    Calls Try.prog 18 #[.slice A1 n c1, .slice A2 m c2] w fun x w' => x = .returned (.bool true) ∧ Below w.heap.size w w' := by
  refine (EqS_any A1 A2 n c1 m c2 L M w B1 B2 h1 h2 hn hm).mono ?_
  rintro e w' ⟨rfl, q, rfl⟩
  exact ⟨by rw [decide_eq_true he], below_drewN (Below.refl _ _) q⟩
/-- slices.Clone at strings: a copy in a row of its own -/
theorem CloneS_any (A : Option Addr) (n c : Nat) (L : List ByteArray) (w : World) (B : Nat) (hA : Rd w B A n (sV L)) (hn : n * 16 ≤ 140737488355328) :
    Calls Try.prog 22 #[.slice A n c] w fun x w' => ∃ v, x = .returned v ∧ w'.ownsRow w.heap.size 9 1 v n (sV L) ∧ Below w.heap.size w w' := by
  have hl := sV_len hA
  rcases A with _ | a
  · have hn0 : n = 0 := by
      rcases Nat.eq_zero_or_pos n with h0 | h0
      · exact h0
      · obtain ⟨b, o, h, _⟩ := hA.2 h0
        cases h
    subst hn0
    obtain rfl : L = [] := List.eq_nil_of_length_eq_zero hl
    refine (Try.slices_Clone_string_nil 0 c w).mono ?_
    rintro e w' ⟨rfl, rfl⟩
    exact ⟨_, rfl, World.ownsRow_nil _ _ _ _, Below.refl _ _⟩
  · rcases Nat.eq_zero_or_pos n with h0 | h0
    · subst h0
      obtain rfl : L = [] := List.eq_nil_of_length_eq_zero hl
      refine (Try.slices_Clone_string_zero a c w).mono ?_
      rintro e w' ⟨v, rfl, h1, _, h3⟩
      exact ⟨v, rfl, h1, h3⟩
    · obtain ⟨b, o, e, _, k⟩ := hA.2 h0
      injection e with e
      subst e
      refine (Try.slices_Clone_string b o n c L w (by omega) hn (fun j hj => k j _ (sV_at (by simp [List.getD, List.getElem?_eq_getElem hj])))).mono ?_
      rintro e w' ⟨v, rfl, h1, _, h3⟩
      rw [List.take_of_length_le (by omega)] at h1
      exact ⟨v, rfl, h1, h3⟩
end Go.Proofs.Ytbkgooeghmaokaa
