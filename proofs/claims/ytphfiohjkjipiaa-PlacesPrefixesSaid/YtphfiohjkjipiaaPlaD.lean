/- HasDeref: the code's and the reference's. -/
import Derived.Test.YtphfiohjkjipiaaPla
set_option linter.unusedVariables false
namespace Go.Proofs.Ytphfiohjkjipiaa
open Go.RowKit

/-- is there a projection of the kind Deref from the index f on? -/
def hasD (ps : List Pr) (f : Int) : Bool := (List.range ps.length).any fun i => decide (f ≤ (i : Int)) && (match ps[i]? with | some p => decide (p.1 = 0) | none => false)
def noDTo (ps : List Pr) (f : Int) (k : Nat) : Prop := ∀ i p, i < k → f ≤ (i : Int) → ps[i]? = some p → p.1 ≠ 0
theorem noDTo_up {ps : List Pr} {f : Int} {k : Nat} {p : Pr} (h : noDTo ps f k) (hp : ps[k]? = some p) (hn : f ≤ (k : Int) → p.1 ≠ 0) : noDTo ps f (k + 1) := fun i q hi hf hq => by
  rcases Nat.lt_or_ge i k with h1 | h1
  · exact h i q h1 hf hq
  · obtain rfl : i = k := by omega
    rw [hp] at hq
    injection hq with hq
    exact hq ▸ hn hf
theorem hasD_yes {ps : List Pr} {f : Int} {k : Nat} {p : Pr} (hp : ps[k]? = some p) (hf : f ≤ (k : Int)) (h0 : p.1 = 0) : hasD ps f = true := by
  unfold hasD
  rw [List.any_eq_true]
  refine ⟨k, List.mem_range.2 (List.getElem?_eq_some_iff.1 hp).1, ?_⟩
  rw [hp]
  simp [hf, h0]
theorem hasD_no {ps : List Pr} {f : Int} (h : noDTo ps f ps.length) : hasD ps f = false := by
  cases e : hasD ps f with
  | false => rfl
  | true =>
    unfold hasD at e
    rw [List.any_eq_true] at e
    obtain ⟨i, hi, he⟩ := e
    cases hp : ps[i]? with
    | none => rw [hp] at he; simp at he
    | some p =>
      rw [hp] at he
      simp at he
      exact absurd he.2 (h i p (List.mem_range.1 hi) he.1 hp)

set_option maxHeartbeats 1000000 in
theorem HasDeref_any (x : PlW) (f : Int) (w : World) (hx : OnePl w w.heap.size x) :
    Calls Try.prog 24 #[aggPl x, .int .i64 f] w fun e w' => e = .returned (.bool (hasD x.ps f)) ∧ Below w.heap.size w w' := by
  obtain ⟨l, A, n, c, ps⟩ := x
  have hn := Nat.le_trans hx.nc hx.cm
  simp only [] at hn
  have HX := hide hx.prs
  have HL := hide hx.prs.len
  have HA := hide ((Below.refl w.heap.size w).alloc (Nat.le_refl _) (.cells #[.int .i64 l, .slice A n c] 24))
  clear hx
  unfold maxLen at hn
  go_enter Try.func24, Try.ntmps24
  go_wp2
  go_loopw [10] (fun i wr => ∃ j : Nat, i = .int .i64 (j : Int) ∧ j ≤ n ∧ Hid (noDTo ps f j) ∧ Below w.heap.size w wr) (fun i _ => n - (intOf i).toNat)
  case atStart => exact ⟨0, rfl, Nat.zero_le _, fun i p h => absurd h (Nat.not_lt_zero _), HA.out⟩
  case round =>
    obtain ⟨j, rfl, hj, HE, hb⟩ := hrel
    have HB := hide hb
    clear hb
    by_cases hlt : j < n
    · have hlt' : (j : Int) < (n : Int) := by omega
      obtain ⟨p, hp⟩ : ∃ p, ps[j]? = some p := ⟨_, List.getElem?_eq_getElem (by have : ps.length = n := HL.out; omega)⟩
      obtain ⟨b, o, rfl, _, hi, c0, c1⟩ := (HX.out.below HB.out).at_ hp
      obtain ⟨k, fl⟩ := p
      simp only [] at c0 c1
      have HB2 := hide (HB.out.alloc HB.out.size (.cells #[.int .i64 k, .int .i64 fl] 46))
      have HP := hide hp
      clear hp hi
      by_cases hf : f ≤ (j : Int)
      · by_cases h0 : k = 0
        · subst h0
          have HF := hide (hasD_yes HP.out hf rfl)
          go_wp2
          go_ret
          exact ⟨congrArg (fun v => Ending.returned (.bool v)) HF.out.symm, HB2.out⟩
        · have t0 : (k == 0) = false := by simpa using h0
          have HN := hide (noDTo_up HE.out HP.out fun _ => h0)
          clear h0
          go_wp2
          go_roundw
          case rel => exact ⟨j + 1, by go_num, by omega, HN.out, HB2.out⟩
          case measure => simp [intOf]; omega
      · have hf' : (j : Int) < f := by omega
        have HN := hide (noDTo_up HE.out HP.out fun h => absurd h hf)
        clear hf
        go_wp2
        go_roundw
        case rel => exact ⟨j + 1, by go_num, by omega, HN.out, HB2.out⟩
        case measure => simp [intOf]; omega
    · obtain rfl : j = n := by omega
      have HF := hide (hasD_no (show noDTo ps f ps.length from (show ps.length = j from HL.out) ▸ HE.out))
      go_wp2
      go_ret
      exact ⟨congrArg (fun v => Ending.returned (.bool v)) HF.out.symm, HB.out⟩
theorem HasDeref_is {x : PlW} {f : Int} {v : Bool} (h : hasD x.ps f = v) (w : World) (hx : OnePl w w.heap.size x) :
    Calls Try.prog 24 #[aggPl x, .int .i64 f] w fun e w' => e = .returned (.bool v) ∧ Below w.heap.size w w' := h ▸ HasDeref_any x f w hx

set_option maxHeartbeats 1000000 in
theorem RHasDeref_any (x : PlW) (f : Int) (w : World) (hx : OnePl w w.heap.size x) :
    Calls Try.prog 25 #[aggPl x, .int .i64 f] w fun e w' => e = .returned (.bool (hasD x.ps f)) ∧ Below w.heap.size w w' := by
  obtain ⟨l, A, n, c, ps⟩ := x
  have hn := Nat.le_trans hx.nc hx.cm
  simp only [] at hn
  have HX := hide hx.prs
  have HL := hide hx.prs.len
  have HA := hide ((Below.refl w.heap.size w).alloc (Nat.le_refl _) (.cells #[.int .i64 l, .slice A n c] 24))
  clear hx
  unfold maxLen at hn
  have c1 : (w.alloc (.cells #[.int .i64 l, .slice A n c] 24)).cell? ⟨w.heap.size, 1, none⟩ = some (.slice A n c) := by simp [go_sem]
  have HC1 := hide c1
  clear c1
  go_enter Try.func25, Try.ntmps25
  go_wp2
  go_loop [5] (fun i => ∃ j : Nat, i = .int .i64 (j : Int) ∧ j ≤ n ∧ Hid (noDTo ps f j)) (fun i => n - (intOf i).toNat)
  case atStart => exact ⟨0, rfl, Nat.zero_le _, fun i p h => absurd h (Nat.not_lt_zero _)⟩
  case round =>
    obtain ⟨j, rfl, hj, HE⟩ := hrel
    by_cases hlt : j < n
    · have hlt' : (j : Int) < (n : Int) := by omega
      obtain ⟨p, hp⟩ : ∃ p, ps[j]? = some p := ⟨_, List.getElem?_eq_getElem (by have : ps.length = n := HL.out; omega)⟩
      obtain ⟨b, o, rfl, _, hi, c0, c1⟩ := (HX.out.below HA.out).at_ hp
      obtain ⟨k, fl⟩ := p
      simp only [] at c0 c1
      have HP := hide hp
      clear hp hi
      by_cases hf : f ≤ (j : Int)
      · by_cases h0 : k = 0
        · subst h0
          have HF := hide (hasD_yes HP.out hf rfl)
          go_wp2
          go_ret
          exact ⟨congrArg (fun v => Ending.returned (.bool v)) HF.out.symm, HA.out⟩
        · have t0 : (k == 0) = false := by simpa using h0
          have HN := hide (noDTo_up HE.out HP.out fun _ => h0)
          clear h0
          go_wp2
          go_round
          case rel => exact ⟨j + 1, by go_num, by omega, HN.out⟩
          case measure => simp [intOf]; omega
      · have hf' : (j : Int) < f := by omega
        have HN := hide (noDTo_up HE.out HP.out fun h => absurd h hf)
        clear hf
        go_wp2
        go_round
        case rel => exact ⟨j + 1, by go_num, by omega, HN.out⟩
        case measure => simp [intOf]; omega
    · obtain rfl : j = n := by omega
      have HF := hide (hasD_no (show noDTo ps f ps.length from (show ps.length = j from HL.out) ▸ HE.out))
      go_wp2
      go_ret
      exact ⟨congrArg (fun v => Ending.returned (.bool v)) HF.out.symm, HA.out⟩
theorem RHasDeref_is {x : PlW} {f : Int} {v : Bool} (h : hasD x.ps f = v) (w : World) (hx : OnePl w w.heap.size x) :
    Calls Try.prog 25 #[aggPl x, .int .i64 f] w fun e w' => e = .returned (.bool v) ∧ Below w.heap.size w w' := h ▸ RHasDeref_any x f w hx
end Go.Proofs.Ytphfiohjkjipiaa
