/- What is checked of a type on its own: within, parts, areWithin, checkFields. -/
import Derived.Test.YtkcgonggokhneaaTypE
set_option linter.unusedVariables false
namespace Go.Proofs.Ytkcgonggokhneaa
open Go.RowKit

theorem within_any (i n : Int) (w : World) : Calls Try.prog 39 #[.int .i64 i, .int .i64 n] w fun e w' => e = .returned (.bool (tyIn i n)) ∧ w = w' := by
  by_cases h1 : 0 ≤ i
  · by_cases h2 : i < n
    · have e := hide (show tyIn i n = true from tyIn_iff.2 ⟨h1, h2⟩)
      go_enter Try.func39, Try.ntmps39
      go_wp2
      go_ret
      exact ⟨congrArg (fun v => Ending.returned (.bool v)) e.out.symm, rfl⟩
    · have e := hide (show tyIn i n = false from tyIn_not.2 (by omega))
      have h3 : decide (i < n) = false := by simpa using h2
      go_enter Try.func39, Try.ntmps39
      go_wp2
      go_ret
      exact ⟨congrArg (fun v => Ending.returned (.bool v)) e.out.symm, rfl⟩
  · have e := hide (show tyIn i n = false from tyIn_not.2 (by omega))
    have h3 : decide (0 ≤ i) = false := by simpa using h1
    go_enter Try.func39, Try.ntmps39
    go_wp2
    go_ret
    exact ⟨congrArg (fun v => Ending.returned (.bool v)) e.out.symm, rfl⟩
theorem within_is {i n : Int} {b : Bool} (h : tyIn i n = b) (w : World) : Calls Try.prog 39 #[.int .i64 i, .int .i64 n] w fun e w' => e = .returned (.bool b) ∧ w = w' := h ▸ within_any i n w

/-- a number written out as a slice of one -/
theorem Rd_int1 (w : World) (x : Int) (t : TypeId) : Rd (w.alloc (.cells #[.int .i64 x] t)) (w.heap.size + 1) (some ⟨w.heap.size, 0, none⟩) 1 (i64s [x]) :=
  ⟨rfl, fun _ => ⟨w.heap.size, 0, rfl, by omega, fun j u hu => by
    rw [cell_of_row (w.alloc (.cells #[.int .i64 x] t)) w.heap.size (0 + j) _ t (0, 0) (heap_alloc_new w _)]
    simpa using hu⟩⟩

/-- what 'parts' returns -/
def PartsR (w : World) (x : TyW) (e : Ending) (w' : World) : Prop := ∃ A n c, e = .returned (.slice A n c) ∧ n ≤ c ∧ c ≤ maxLen ∧ (tyParts x.t).length = n ∧ Rd w' w'.heap.size A n (i64s (tyParts x.t)) ∧ Below w.heap.size w w'

set_option maxRecDepth 100000 in
theorem parts_any (x : TyW) (w : World) (hx : OneT w w.heap.size x) : Calls Try.prog 35 #[aggT x] w (PartsR w x) := by
  have HB := hide ((Below.refl w.heap.size w).alloc (Nat.le_refl _) (.cells (c5 x).toArray 31))
  have HX := hide ((hx.below HB.out).more (B' := (w.alloc (.cells (c5 x).toArray 31)).heap.size) (by simp))
  have HF := hide hx.ok
  by_cases h3 : x.t.kind = 3
  · have e3 : (x.t.kind == 3) = true := beq_iff_eq.2 h3
    have HB2 := hide (HB.out.alloc (by simp) (.cells #[.int .i64 x.t.elem] 3))
    have hp : PartsR w x (.returned (.slice (some ⟨w.heap.size + 1, 0, none⟩) 1 1)) ((w.alloc (.cells (c5 x).toArray 31)).alloc (.cells #[.int .i64 x.t.elem] 3)) := by
      refine ⟨_, 1, 1, rfl, Nat.le_refl _, by decide, by rw [tyParts_ref h3]; rfl, ?_, HB2.out⟩
      have h := Rd_int1 (w.alloc (.cells (c5 x).toArray 31)) x.t.elem 3
      rw [tyParts_ref h3]
      rw [World.size_alloc] at h
      exact h.more (by simp)
    have HP := hide hp
    clear hx h3 hp
    go_enter Try.func35, Try.ntmps35
    go_wp2
    go_ret
    exact HP.out
  · have e3 : (x.t.kind == 3) = false := beq_eq_false_iff_ne.2 h3
    by_cases h4 : x.t.kind = 4
    · have e4 : (x.t.kind == 4) = true := beq_iff_eq.2 h4
      have HP : Hid (PartsR w x (.returned (.slice x.A x.n x.c)) (w.alloc (.cells (c5 x).toArray 31))) := ⟨_, _, _, rfl, HF.out.nc, HF.out.cm, by rw [tyParts_tup h4]; exact HF.out.len, by rw [tyParts_tup h4]; exact HX.out.rd, HB.out⟩
      clear hx h3 h4
      go_enter Try.func35, Try.ntmps35
      go_wp2
      go_ret
      exact HP.out
    · have e4 : (x.t.kind == 4) = false := beq_eq_false_iff_ne.2 h4
      have HP : Hid (PartsR w x (.returned (.slice none 0 0)) (w.alloc (.cells (c5 x).toArray 31))) := ⟨_, _, _, rfl, Nat.le_refl _, Nat.zero_le _, by rw [tyParts_none h3 h4]; rfl, by rw [tyParts_none h3 h4]; exact Rd.nil _ _ _, HB.out⟩
      clear hx h3 h4
      go_enter Try.func35, Try.ntmps35
      go_wp2
      go_ret
      exact HP.out

set_option maxHeartbeats 1000000 in
theorem areWithin_any (A : Option Addr) (n c : Nat) (xs : List Int) (m : Int) (w : World) (B : Nat) (hx : Rd w B A n (i64s xs)) (hn : n ≤ maxLen) :
    Calls Try.prog 40 #[.slice A n c, .int .i64 m] w fun e w' => e = .returned (.bool (tyAllIn xs m)) ∧ w = w' := by
  have HX := hide hx
  have HL := hide hx.ilen
  unfold maxLen at hn
  clear hx
  go_enter Try.func40, Try.ntmps40
  go_wp2
  go_loop [9] (fun i => ∃ j : Nat, i = .int .i64 (j : Int) ∧ j ≤ n ∧ Hid (tyAllIn (xs.take j) m = true)) (fun i => n - (intOf i).toNat)
  case atStart => exact ⟨0, rfl, Nat.zero_le _, rfl⟩
  case round =>
    obtain ⟨j, rfl, hj, HT⟩ := hrel
    by_cases hlt : j < n
    · have hex : ∃ a, xs[j]? = some a := ⟨_, List.getElem?_eq_getElem (by have := HL.out; omega)⟩
      obtain ⟨a, ha⟩ := hex
      obtain ⟨g, o, rfl, _, c0⟩ := HX.out.int ha
      have hlt' : (j : Int) < (n : Int) := by omega
      have HA := hide ha
      clear ha
      cases hin : tyIn a m
      · have HE := hide hin
        have HF := hide (show tyAllIn xs m = false by
          cases h : tyAllIn xs m
          · rfl
          · have := tyAllIn_iff.1 h a (List.mem_of_getElem? HA.out)
            rw [tyIn_iff.2 this] at hin
            cases hin)
        clear hin
        go_wp2_with (go_at_call 39; refine (within_is HE.out _).mono ?_; rintro e w1 ⟨rfl, rfl⟩)
        go_ret
        exact ⟨congrArg (fun v => Ending.returned (.bool v)) HF.out.symm, rfl⟩
      · have HE := hide hin
        have HF := hide (show tyAllIn (xs.take (j + 1)) m = true by
          rw [tyAllIn_iff]
          intro i hi
          rw [List.take_add_one, HA.out] at hi
          rcases List.mem_append.1 hi with hi | hi
          · exact tyAllIn_iff.1 HT.out i hi
          · obtain rfl : i = a := by simpa using hi
            exact tyIn_iff.1 hin)
        clear hin
        go_wp2_with (go_at_call 39; refine (within_is HE.out _).mono ?_; rintro e w1 ⟨rfl, rfl⟩)
        go_round
        case rel => exact ⟨j + 1, by go_num, by omega, HF.out⟩
        case measure => simp [intOf]; omega
    · obtain rfl : j = n := by omega
      have hT := HT.out
      rw [List.take_of_length_le (by have := HL.out; omega)] at hT
      have HF := hide hT
      clear hT
      go_wp2
      go_ret
      exact ⟨congrArg (fun v => Ending.returned (.bool v)) HF.out.symm, rfl⟩
theorem areWithin_is {A : Option Addr} {n c : Nat} {xs : List Int} {m : Int} {w : World} {B : Nat} {b : Bool} (h : tyAllIn xs m = b) (hx : Rd w B A n (i64s xs)) (hn : n ≤ maxLen) :
    Calls Try.prog 40 #[.slice A n c, .int .i64 m] w fun e w' => e = .returned (.bool b) ∧ w = w' := h ▸ areWithin_any A n c xs m w B hx hn
end Go.Proofs.Ytkcgonggokhneaa
