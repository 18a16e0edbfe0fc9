/- checkFields: a type on its own. -/
import Derived.Test.YtkcgonggokhneaaTypP
set_option linter.unusedVariables false
namespace Go.Proofs.Ytkcgonggokhneaa
open Go.RowKit

theorem ret_n {a b : Int} (h : a = b) : Ending.returned (.int .i64 b) = .returned (.int .i64 a) := by rw [h]


set_option maxHeartbeats 1000000 in
set_option maxRecDepth 100000 in
theorem checkFields_low (k : Int) (m : Bool) (r el : Int) (fs : List Int) (A : Option Addr) (n c : Nat) (er rg : Int) (w : World) (hx : OneT w w.heap.size ⟨⟨k, m, r, el, fs⟩, A, n, c⟩) (h0 : k < 0) :
    Calls Try.prog 25 #[aggT ⟨⟨k, m, r, el, fs⟩, A, n, c⟩, .int .i64 er, .int .i64 rg] w fun e w' => e = .returned (.int .i64 (tyOwn ⟨k, m, r, el, fs⟩ er rg)) ∧ Below w.heap.size w w' := by
  have HB := hide ((Below.refl w.heap.size w).alloc (Nat.le_refl _) (.cells #[.int .i64 k, .bool m, .int .i64 r, .int .i64 el, .slice A n c] 31))
  have HX0 := hide ((hx.below HB.out).more (B' := (w.alloc (.cells #[.int .i64 k, .bool m, .int .i64 r, .int .i64 el, .slice A n c] 31)).heap.size) (by simp))
  have HX := hide fun nq => (show OneT ((w.alloc (.cells #[.int .i64 k, .bool m, .int .i64 r, .int .i64 el, .slice A n c] 31)).drewN nq) ((w.alloc (.cells #[.int .i64 k, .bool m, .int .i64 r, .int .i64 el, .slice A n c] 31)).drewN nq).heap.size ⟨⟨k, m, r, el, fs⟩, A, n, c⟩ from HX0.out.below (tyN (Below.refl _ _) nq))
  have HBN := hide fun nq => tyN HB.out nq
  have hl : fs.length = n := hx.ok.len
  have hn : n ≤ maxLen := Nat.le_trans hx.ok.nc hx.ok.cm
  unfold maxLen at hn
  clear hx
  have HF := hide (show tyOwn ⟨k, m, r, el, fs⟩ er rg = 14 from if_pos (.inl h0))
  have e3 : (k == 3) = false := beq_eq_false_iff_ne.2 (by omega)
  have e4 : (k == 4) = false := beq_eq_false_iff_ne.2 (by omega)
  clear hl
  go_enter Try.func25, Try.ntmps25
  go_wp2
  go_quiet (fail)
  go_wp2
  go_ret
  exact ⟨ret_n HF.out, HBN.out _⟩

set_option maxHeartbeats 1000000 in
set_option maxRecDepth 100000 in
theorem checkFields_high (k : Int) (m : Bool) (r el : Int) (fs : List Int) (A : Option Addr) (n c : Nat) (er rg : Int) (w : World) (hx : OneT w w.heap.size ⟨⟨k, m, r, el, fs⟩, A, n, c⟩) (h0 : 4 < k) :
    Calls Try.prog 25 #[aggT ⟨⟨k, m, r, el, fs⟩, A, n, c⟩, .int .i64 er, .int .i64 rg] w fun e w' => e = .returned (.int .i64 (tyOwn ⟨k, m, r, el, fs⟩ er rg)) ∧ Below w.heap.size w w' := by
  have HB := hide ((Below.refl w.heap.size w).alloc (Nat.le_refl _) (.cells #[.int .i64 k, .bool m, .int .i64 r, .int .i64 el, .slice A n c] 31))
  have HX0 := hide ((hx.below HB.out).more (B' := (w.alloc (.cells #[.int .i64 k, .bool m, .int .i64 r, .int .i64 el, .slice A n c] 31)).heap.size) (by simp))
  have HX := hide fun nq => (show OneT ((w.alloc (.cells #[.int .i64 k, .bool m, .int .i64 r, .int .i64 el, .slice A n c] 31)).drewN nq) ((w.alloc (.cells #[.int .i64 k, .bool m, .int .i64 r, .int .i64 el, .slice A n c] 31)).drewN nq).heap.size ⟨⟨k, m, r, el, fs⟩, A, n, c⟩ from HX0.out.below (tyN (Below.refl _ _) nq))
  have HBN := hide fun nq => tyN HB.out nq
  have hl : fs.length = n := hx.ok.len
  have hn : n ≤ maxLen := Nat.le_trans hx.ok.nc hx.ok.cm
  unfold maxLen at hn
  clear hx
  have HF := hide (show tyOwn ⟨k, m, r, el, fs⟩ er rg = 14 from if_pos (.inr h0))
  have e3 : (k == 3) = false := beq_eq_false_iff_ne.2 (by omega)
  have e4 : (k == 4) = false := beq_eq_false_iff_ne.2 (by omega)
  have e0 : 0 ≤ k := by omega
  clear hl
  go_enter Try.func25, Try.ntmps25
  go_wp2
  go_quiet (fail)
  go_wp2
  go_ret
  exact ⟨ret_n HF.out, HBN.out _⟩

theorem tyOwn_in {k : Int} {m : Bool} {r el : Int} {fs : List Int} {er rg : Int} (h0 : 0 ≤ k) (h1 : k ≤ 4) : tyOwn ⟨k, m, r, el, fs⟩ er rg = if (k ≠ 3 ∧ (m = true ∨ r ≠ 0 ∨ el ≠ 0)) ∨ (k ≠ 4 ∧ 0 < fs.length) then 2 else if (k = 3 ∧ tyIn r rg = false) ∨ tyAllIn (tyParts ⟨k, m, r, el, fs⟩) er = false then 3 else if k = 4 ∧ (fs.length = 0 ∨ 65535 < fs.length) then 15 else 0 :=
  if_neg (show ¬ (k < 0 ∨ 4 < k) by omega)

set_option maxHeartbeats 1000000 in
set_option maxRecDepth 100000 in
theorem checkFields_full (k : Int) (m : Bool) (r el : Int) (fs : List Int) (A : Option Addr) (n c : Nat) (er rg : Int) (w : World) (hx : OneT w w.heap.size ⟨⟨k, m, r, el, fs⟩, A, n, c⟩) (h00 : 0 ≤ k) (h01 : k ≤ 4) (h4 : k ≠ 4) (hm : k ≠ 3 → m = false ∧ r = 0 ∧ el = 0) (hf : 0 < n) :
    Calls Try.prog 25 #[aggT ⟨⟨k, m, r, el, fs⟩, A, n, c⟩, .int .i64 er, .int .i64 rg] w fun e w' => e = .returned (.int .i64 (tyOwn ⟨k, m, r, el, fs⟩ er rg)) ∧ Below w.heap.size w w' := by
  have HB := hide ((Below.refl w.heap.size w).alloc (Nat.le_refl _) (.cells #[.int .i64 k, .bool m, .int .i64 r, .int .i64 el, .slice A n c] 31))
  have HX0 := hide ((hx.below HB.out).more (B' := (w.alloc (.cells #[.int .i64 k, .bool m, .int .i64 r, .int .i64 el, .slice A n c] 31)).heap.size) (by simp))
  have HX := hide fun nq => (show OneT ((w.alloc (.cells #[.int .i64 k, .bool m, .int .i64 r, .int .i64 el, .slice A n c] 31)).drewN nq) ((w.alloc (.cells #[.int .i64 k, .bool m, .int .i64 r, .int .i64 el, .slice A n c] 31)).drewN nq).heap.size ⟨⟨k, m, r, el, fs⟩, A, n, c⟩ from HX0.out.below (tyN (Below.refl _ _) nq))
  have HBN := hide fun nq => tyN HB.out nq
  have hl : fs.length = n := hx.ok.len
  have hn : n ≤ maxLen := Nat.le_trans hx.ok.nc hx.ok.cm
  unfold maxLen at hn
  clear hx
  have HF := hide (show tyOwn ⟨k, m, r, el, fs⟩ er rg = 2 from (tyOwn_in h00 h01).trans (if_pos (.inr ⟨h4, by omega⟩)))
  have e4 : (k == 4) = false := beq_eq_false_iff_ne.2 h4
  have hf1 : (0 : Int) < (n : Int) := by omega
  by_cases h3 : k = 3
  · have e3 : (k == 3) = true := beq_iff_eq.2 h3
    clear hl hm h3 h4 hf
    go_enter Try.func25, Try.ntmps25
    go_wp2
    go_quiet (fail)
    go_wp2
    go_ret
    exact ⟨ret_n HF.out, HBN.out _⟩
  · have e3 : (k == 3) = false := beq_eq_false_iff_ne.2 h3
    obtain ⟨rfl, rfl, rfl⟩ := hm h3
    clear hl hm h3 h4 hf
    go_enter Try.func25, Try.ntmps25
    go_wp2
    go_quiet (fail)
    go_wp2
    go_ret
    exact ⟨ret_n HF.out, HBN.out _⟩

set_option maxHeartbeats 1000000 in
set_option maxRecDepth 100000 in
theorem checkFields_ref (k : Int) (m : Bool) (r el : Int) (fs : List Int) (A : Option Addr) (n c : Nat) (er rg : Int) (w : World) (hx : OneT w w.heap.size ⟨⟨k, m, r, el, fs⟩, A, n, c⟩) (h3 : k = 3) (hf : n = 0) :
    Calls Try.prog 25 #[aggT ⟨⟨k, m, r, el, fs⟩, A, n, c⟩, .int .i64 er, .int .i64 rg] w fun e w' => e = .returned (.int .i64 (tyOwn ⟨k, m, r, el, fs⟩ er rg)) ∧ Below w.heap.size w w' := by
  have HB := hide ((Below.refl w.heap.size w).alloc (Nat.le_refl _) (.cells #[.int .i64 k, .bool m, .int .i64 r, .int .i64 el, .slice A n c] 31))
  have HX0 := hide ((hx.below HB.out).more (B' := (w.alloc (.cells #[.int .i64 k, .bool m, .int .i64 r, .int .i64 el, .slice A n c] 31)).heap.size) (by simp))
  have HX := hide fun nq => (show OneT ((w.alloc (.cells #[.int .i64 k, .bool m, .int .i64 r, .int .i64 el, .slice A n c] 31)).drewN nq) ((w.alloc (.cells #[.int .i64 k, .bool m, .int .i64 r, .int .i64 el, .slice A n c] 31)).drewN nq).heap.size ⟨⟨k, m, r, el, fs⟩, A, n, c⟩ from HX0.out.below (tyN (Below.refl _ _) nq))
  have HBN := hide fun nq => tyN HB.out nq
  have hl : fs.length = n := hx.ok.len
  have hn : n ≤ maxLen := Nat.le_trans hx.ok.nc hx.ok.cm
  unfold maxLen at hn
  clear hx
  subst hf
  have hfs : fs = [] := List.eq_nil_of_length_eq_zero hl
  have e3 : (k == 3) = true := beq_iff_eq.2 h3
  have e4 : (k == 4) = false := beq_eq_false_iff_ne.2 (by omega)
  have HO : Hid (tyOwn ⟨k, m, r, el, fs⟩ er rg = if (k = 3 ∧ tyIn r rg = false) ∨ tyAllIn (tyParts ⟨k, m, r, el, fs⟩) er = false then 3 else 0) := by
    show _ = _
    rw [tyOwn_in (by omega) (by omega), if_neg (by rw [hfs]; simp [h3]), if_neg (show ¬ (k = 4 ∧ (fs.length = 0 ∨ 65535 < fs.length)) by omega)]
  have h00 : 0 ≤ k := by omega
  have h01 : k ≤ 4 := by omega
  cases hw : tyIn r rg
  · have HF := hide (HO.out.trans (if_pos (.inl ⟨h3, hw⟩)))
    have HW := hide hw
    clear hl hfs h3 hw
    go_enter Try.func25, Try.ntmps25
    go_wp2
    go_quiet (fail)
    go_wp2_with (go_at_call 39; refine (within_is HW.out _).mono ?_; rintro e w1 ⟨rfl, rfl⟩)
    go_ret
    exact ⟨ret_n HF.out, HBN.out _⟩
  · have HW := hide hw
    cases ha : tyAllIn (tyParts ⟨k, m, r, el, fs⟩) er
    · have HF := hide (HO.out.trans (if_pos (.inr ha)))
      have HA := hide ha
      clear hl hfs h3 hw ha
      go_enter Try.func25, Try.ntmps25
      go_wp2
      go_quiet (fail)
      go_wp2_with fail
      refine (within_is HW.out _).mono ?_
      rintro e w1 ⟨rfl, rfl⟩
      go_wp2_with fail
      refine (parts_any _ _ (HX.out _)).mono ?_
      rintro e w1 ⟨A1, n1, c1, rfl, h1, h2, h3, h4, h5⟩
      have HB1 := hide ((HBN.out _).trans (h5.mono (HBN.out _).size))
      have HC := hide (areWithin_is (c := c1) HA.out h4 (Nat.le_trans h1 h2))
      clear h1 h2 h3 h4 h5
      go_wp2_with fail
      refine HC.out.mono ?_
      rintro e w2 ⟨rfl, rfl⟩
      go_wp2
      go_ret
      exact ⟨ret_n HF.out, HB1.out⟩
    · have HF := hide (HO.out.trans (if_neg (by simp [ha, hw])))
      have HA := hide ha
      clear hl hfs h3 hw ha
      go_enter Try.func25, Try.ntmps25
      go_wp2
      go_quiet (fail)
      go_wp2_with fail
      refine (within_is HW.out _).mono ?_
      rintro e w1 ⟨rfl, rfl⟩
      go_wp2_with fail
      refine (parts_any _ _ (HX.out _)).mono ?_
      rintro e w1 ⟨A1, n1, c1, rfl, h1, h2, h3, h4, h5⟩
      have HB1 := hide ((HBN.out _).trans (h5.mono (HBN.out _).size))
      have HC := hide (areWithin_is (c := c1) HA.out h4 (Nat.le_trans h1 h2))
      clear h1 h2 h3 h4 h5
      go_wp2_with fail
      refine HC.out.mono ?_
      rintro e w2 ⟨rfl, rfl⟩
      go_wp2
      go_ret
      exact ⟨ret_n HF.out, HB1.out⟩

set_option maxHeartbeats 1000000 in
set_option maxRecDepth 100000 in
theorem checkFields_bad (k : Int) (m : Bool) (r el : Int) (fs : List Int) (A : Option Addr) (n c : Nat) (er rg : Int) (w : World) (hx : OneT w w.heap.size ⟨⟨k, m, r, el, fs⟩, A, n, c⟩) (h00 : 0 ≤ k) (h01 : k ≤ 4) (h3 : k ≠ 3) (hbad : m = true ∨ r ≠ 0 ∨ el ≠ 0) :
    Calls Try.prog 25 #[aggT ⟨⟨k, m, r, el, fs⟩, A, n, c⟩, .int .i64 er, .int .i64 rg] w fun e w' => e = .returned (.int .i64 (tyOwn ⟨k, m, r, el, fs⟩ er rg)) ∧ Below w.heap.size w w' := by
  have HB := hide ((Below.refl w.heap.size w).alloc (Nat.le_refl _) (.cells #[.int .i64 k, .bool m, .int .i64 r, .int .i64 el, .slice A n c] 31))
  have HX0 := hide ((hx.below HB.out).more (B' := (w.alloc (.cells #[.int .i64 k, .bool m, .int .i64 r, .int .i64 el, .slice A n c] 31)).heap.size) (by simp))
  have HX := hide fun nq => (show OneT ((w.alloc (.cells #[.int .i64 k, .bool m, .int .i64 r, .int .i64 el, .slice A n c] 31)).drewN nq) ((w.alloc (.cells #[.int .i64 k, .bool m, .int .i64 r, .int .i64 el, .slice A n c] 31)).drewN nq).heap.size ⟨⟨k, m, r, el, fs⟩, A, n, c⟩ from HX0.out.below (tyN (Below.refl _ _) nq))
  have HBN := hide fun nq => tyN HB.out nq
  have hl : fs.length = n := hx.ok.len
  have hn : n ≤ maxLen := Nat.le_trans hx.ok.nc hx.ok.cm
  unfold maxLen at hn
  clear hx
  have HF := hide (show tyOwn ⟨k, m, r, el, fs⟩ er rg = 2 from (tyOwn_in h00 h01).trans (if_pos (.inl ⟨h3, hbad⟩)))
  have e3 : (k == 3) = false := beq_eq_false_iff_ne.2 h3
  have hex : ∃ b, (k == 4) = b := ⟨_, rfl⟩
  obtain ⟨b4, e4⟩ := hex
  clear hl h3
  cases m
  rotate_left
  · clear hbad
    go_enter Try.func25, Try.ntmps25
    go_wp2
    go_quiet (fail)
    go_wp2
    go_ret
    exact ⟨ret_n HF.out, HBN.out _⟩
  by_cases hr : r = 0
  rotate_left
  · have er0 : (r != 0) = true := by rw [bne_iff_ne]; exact hr
    clear hbad hr
    go_enter Try.func25, Try.ntmps25
    go_wp2
    go_quiet (fail)
    go_wp2
    go_ret
    exact ⟨ret_n HF.out, HBN.out _⟩
  have hel : el ≠ 0 := by
    rcases hbad with h | h | h
    · cases h
    · exact absurd hr h
    · exact h
  have el0 : (el != 0) = true := by rw [bne_iff_ne]; exact hel
  subst hr
  clear hbad hel
  go_enter Try.func25, Try.ntmps25
  go_wp2
  go_quiet (fail)
  go_wp2
  go_ret
  exact ⟨ret_n HF.out, HBN.out _⟩

set_option maxHeartbeats 1000000 in
set_option maxRecDepth 100000 in
theorem checkFields_tup (k : Int) (m : Bool) (r el : Int) (fs : List Int) (A : Option Addr) (n c : Nat) (er rg : Int) (w : World) (hx : OneT w w.heap.size ⟨⟨k, m, r, el, fs⟩, A, n, c⟩) (h4 : k = 4) (hm : m = false) (hr : r = 0) (he : el = 0) :
    Calls Try.prog 25 #[aggT ⟨⟨k, m, r, el, fs⟩, A, n, c⟩, .int .i64 er, .int .i64 rg] w fun e w' => e = .returned (.int .i64 (tyOwn ⟨k, m, r, el, fs⟩ er rg)) ∧ Below w.heap.size w w' := by
  have HB := hide ((Below.refl w.heap.size w).alloc (Nat.le_refl _) (.cells #[.int .i64 k, .bool m, .int .i64 r, .int .i64 el, .slice A n c] 31))
  have HX0 := hide ((hx.below HB.out).more (B' := (w.alloc (.cells #[.int .i64 k, .bool m, .int .i64 r, .int .i64 el, .slice A n c] 31)).heap.size) (by simp))
  have HX := hide fun nq => (show OneT ((w.alloc (.cells #[.int .i64 k, .bool m, .int .i64 r, .int .i64 el, .slice A n c] 31)).drewN nq) ((w.alloc (.cells #[.int .i64 k, .bool m, .int .i64 r, .int .i64 el, .slice A n c] 31)).drewN nq).heap.size ⟨⟨k, m, r, el, fs⟩, A, n, c⟩ from HX0.out.below (tyN (Below.refl _ _) nq))
  have HBN := hide fun nq => tyN HB.out nq
  have hl : fs.length = n := hx.ok.len
  have hn : n ≤ maxLen := Nat.le_trans hx.ok.nc hx.ok.cm
  unfold maxLen at hn
  clear hx
  subst hm hr he
  have e3 : (k == 3) = false := beq_eq_false_iff_ne.2 (by omega)
  have e4 : (k == 4) = true := beq_iff_eq.2 h4
  have HO : Hid (tyOwn ⟨k, false, 0, 0, fs⟩ er rg = if tyAllIn (tyParts ⟨k, false, 0, 0, fs⟩) er = false then 3 else if n = 0 ∨ 65535 < n then 15 else 0) := by
    show _ = _
    rw [tyOwn_in (by omega) (by omega), if_neg (by simp [h4]), hl]
    simp [h4]
  have h00 : 0 ≤ k := by omega
  have h01 : k ≤ 4 := by omega
  cases ha : tyAllIn (tyParts ⟨k, false, 0, 0, fs⟩) er
  · have HF := hide (HO.out.trans (if_pos ha))
    have HA := hide ha
    clear hl h4 ha
    go_enter Try.func25, Try.ntmps25
    go_wp2
    go_quiet (fail)
    go_wp2_with fail
    refine (parts_any _ _ (HX.out _)).mono ?_
    rintro e w1 ⟨A1, n1, c1, rfl, h1, h2, h3, h4, h5⟩
    have HB1 := hide ((HBN.out _).trans (h5.mono (HBN.out _).size))
    have HC := hide (areWithin_is (c := c1) HA.out h4 (Nat.le_trans h1 h2))
    have f4 : w1.cell? ⟨w.heap.size, 4, none⟩ = some (.slice A n c) := (h5.cell (p := ⟨w.heap.size, 4, none⟩) (by simp [go_sem])).trans (by simp [go_sem])
    clear h1 h2 h3 h4 h5
    go_wp2_with fail
    refine HC.out.mono ?_
    rintro e w2 ⟨rfl, rfl⟩
    go_wp2
    go_ret
    exact ⟨ret_n HF.out, HB1.out⟩
  · have HO3 := hide (HO.out.trans (if_neg (by simp [ha])))
    have HA := hide ha
    by_cases hf : n = 0
    · have HF := hide (HO3.out.trans (if_pos (.inl hf)))
      have e5 : ((n : Int) == 0) = true := beq_iff_eq.2 (by omega)
      clear hl h4 ha hf
      go_enter Try.func25, Try.ntmps25
      go_wp2
      go_quiet (fail)
      go_wp2_with fail
      refine (parts_any _ _ (HX.out _)).mono ?_
      rintro e w1 ⟨A1, n1, c1, rfl, h1, h2, h3, h4, h5⟩
      have HB1 := hide ((HBN.out _).trans (h5.mono (HBN.out _).size))
      have HC := hide (areWithin_is (c := c1) HA.out h4 (Nat.le_trans h1 h2))
      have f4 : w1.cell? ⟨w.heap.size, 4, none⟩ = some (.slice A n c) := (h5.cell (p := ⟨w.heap.size, 4, none⟩) (by simp [go_sem])).trans (by simp [go_sem])
      clear h1 h2 h3 h4 h5
      go_wp2_with fail
      refine HC.out.mono ?_
      rintro e w2 ⟨rfl, rfl⟩
      go_wp2
      go_ret
      exact ⟨ret_n HF.out, HB1.out⟩
    · have e5 : ((n : Int) == 0) = false := beq_eq_false_iff_ne.2 (by omega)
      by_cases hg : 65535 < n
      · have HF := hide (HO3.out.trans (if_pos (.inr hg)))
        have hg1 : (65535 : Int) < (n : Int) := by omega
        clear hl h4 ha hf hg
        go_enter Try.func25, Try.ntmps25
        go_wp2
        go_quiet (fail)
        go_wp2_with fail
        refine (parts_any _ _ (HX.out _)).mono ?_
        rintro e w1 ⟨A1, n1, c1, rfl, h1, h2, h3, h4, h5⟩
        have HB1 := hide ((HBN.out _).trans (h5.mono (HBN.out _).size))
        have HC := hide (areWithin_is (c := c1) HA.out h4 (Nat.le_trans h1 h2))
        have f4 : w1.cell? ⟨w.heap.size, 4, none⟩ = some (.slice A n c) := (h5.cell (p := ⟨w.heap.size, 4, none⟩) (by simp [go_sem])).trans (by simp [go_sem])
        clear h1 h2 h3 h4 h5
        go_wp2_with fail
        refine HC.out.mono ?_
        rintro e w2 ⟨rfl, rfl⟩
        go_wp2
        go_ret
        exact ⟨ret_n HF.out, HB1.out⟩
      · have HF := hide (HO3.out.trans (if_neg (by omega)))
        have hg1 : ¬ (65535 : Int) < (n : Int) := by omega
        clear hl h4 ha hf hg
        go_enter Try.func25, Try.ntmps25
        go_wp2
        go_quiet (fail)
        go_wp2_with fail
        refine (parts_any _ _ (HX.out _)).mono ?_
        rintro e w1 ⟨A1, n1, c1, rfl, h1, h2, h3, h4, h5⟩
        have HB1 := hide ((HBN.out _).trans (h5.mono (HBN.out _).size))
        have HC := hide (areWithin_is (c := c1) HA.out h4 (Nat.le_trans h1 h2))
        have f4 : w1.cell? ⟨w.heap.size, 4, none⟩ = some (.slice A n c) := (h5.cell (p := ⟨w.heap.size, 4, none⟩) (by simp [go_sem])).trans (by simp [go_sem])
        clear h1 h2 h3 h4 h5
        go_wp2_with fail
        refine HC.out.mono ?_
        rintro e w2 ⟨rfl, rfl⟩
        go_wp2
        go_ret
        exact ⟨ret_n HF.out, HB1.out⟩

set_option maxHeartbeats 1000000 in
set_option maxRecDepth 100000 in
theorem checkFields_plain (k : Int) (m : Bool) (r el : Int) (fs : List Int) (A : Option Addr) (n c : Nat) (er rg : Int) (w : World) (hx : OneT w w.heap.size ⟨⟨k, m, r, el, fs⟩, A, n, c⟩) (h00 : 0 ≤ k) (h01 : k ≤ 4) (h3 : k ≠ 3) (h4 : k ≠ 4) (hm : m = false) (hr : r = 0) (he : el = 0) (hf : n = 0) :
    Calls Try.prog 25 #[aggT ⟨⟨k, m, r, el, fs⟩, A, n, c⟩, .int .i64 er, .int .i64 rg] w fun e w' => e = .returned (.int .i64 (tyOwn ⟨k, m, r, el, fs⟩ er rg)) ∧ Below w.heap.size w w' := by
  have HB := hide ((Below.refl w.heap.size w).alloc (Nat.le_refl _) (.cells #[.int .i64 k, .bool m, .int .i64 r, .int .i64 el, .slice A n c] 31))
  have HX0 := hide ((hx.below HB.out).more (B' := (w.alloc (.cells #[.int .i64 k, .bool m, .int .i64 r, .int .i64 el, .slice A n c] 31)).heap.size) (by simp))
  have HX := hide fun nq => (show OneT ((w.alloc (.cells #[.int .i64 k, .bool m, .int .i64 r, .int .i64 el, .slice A n c] 31)).drewN nq) ((w.alloc (.cells #[.int .i64 k, .bool m, .int .i64 r, .int .i64 el, .slice A n c] 31)).drewN nq).heap.size ⟨⟨k, m, r, el, fs⟩, A, n, c⟩ from HX0.out.below (tyN (Below.refl _ _) nq))
  have HBN := hide fun nq => tyN HB.out nq
  have hl : fs.length = n := hx.ok.len
  have hn : n ≤ maxLen := Nat.le_trans hx.ok.nc hx.ok.cm
  unfold maxLen at hn
  clear hx
  subst hm hr he hf
  have hfs : fs = [] := List.eq_nil_of_length_eq_zero hl
  have e3 : (k == 3) = false := beq_eq_false_iff_ne.2 h3
  have e4 : (k == 4) = false := beq_eq_false_iff_ne.2 h4
  have ha : tyAllIn (tyParts ⟨k, false, 0, 0, fs⟩) er = true := by rw [tyParts_none h3 h4]; rfl
  have HF : Hid (tyOwn ⟨k, false, 0, 0, fs⟩ er rg = 0) := by
    show _ = _
    rw [tyOwn_in h00 h01, hfs]
    rw [hfs] at ha
    simp [h3, h4, ha]
  have HA := hide ha
  clear hl hfs h3 h4 ha
  go_enter Try.func25, Try.ntmps25
  go_wp2
  go_quiet (fail)
  go_wp2_with fail
  refine (parts_any _ _ (HX.out _)).mono ?_
  rintro e w1 ⟨A1, n1, c1, rfl, h1, h2, h3, h4, h5⟩
  have HB1 := hide ((HBN.out _).trans (h5.mono (HBN.out _).size))
  have HC := hide (areWithin_is (c := c1) HA.out h4 (Nat.le_trans h1 h2))
  clear h1 h2 h3 h4 h5
  go_wp2_with fail
  refine HC.out.mono ?_
  rintro e w2 ⟨rfl, rfl⟩
  go_wp2
  go_ret
  exact ⟨ret_n HF.out, HB1.out⟩

theorem checkFields_any (x : TyW) (er rg : Int) (w : World) (hx : OneT w w.heap.size x) :
    Calls Try.prog 25 #[aggT x, .int .i64 er, .int .i64 rg] w fun e w' => e = .returned (.int .i64 (tyOwn x.t er rg)) ∧ Below w.heap.size w w' := by
  obtain ⟨⟨k, m, r, el, fs⟩, A, n, c⟩ := x
  by_cases h0 : k < 0
  · exact checkFields_low k m r el fs A n c er rg w hx h0
  by_cases h1 : 4 < k
  · exact checkFields_high k m r el fs A n c er rg w hx h1
  by_cases h3 : k = 3
  · by_cases hf : n = 0
    · exact checkFields_ref k m r el fs A n c er rg w hx h3 hf
    · exact checkFields_full k m r el fs A n c er rg w hx (by omega) (by omega) (by omega) (fun h => absurd h3 h) (by omega)
  by_cases hbad : m = true ∨ r ≠ 0 ∨ el ≠ 0
  · exact checkFields_bad k m r el fs A n c er rg w hx (by omega) (by omega) h3 hbad
  have hm : m = false := by
    cases hm : m
    · rfl
    · exact absurd (.inl hm) hbad
  have hr : r = 0 := Classical.byContradiction fun h => hbad (.inr (.inl h))
  have he : el = 0 := Classical.byContradiction fun h => hbad (.inr (.inr h))
  by_cases h4 : k = 4
  · exact checkFields_tup k m r el fs A n c er rg w hx h4 hm hr he
  · by_cases hf : n = 0
    · exact checkFields_plain k m r el fs A n c er rg w hx (by omega) (by omega) h3 h4 hm hr he hf
    · exact checkFields_full k m r el fs A n c er rg w hx (by omega) (by omega) h4 (fun _ => ⟨hm, hr, he⟩) (by omega)
end Go.Proofs.Ytkcgonggokhneaa
