/- The law's size of operands. -/
import Derived.Test.YtbdimnncobpfdaaGreatBodN
set_option linter.unusedVariables false
namespace Go.Proofs.YtbdimnncobpfdaaGreat
open Go.RowKit

theorem sumN_min {α : Type} {f : α → Nat} {l : List α} {k : Nat} (h : sumN (fun x => min (f x) k) l < k) : sumN f l = sumN (fun x => min (f x) k) l := by
  induction l with
  | nil => rfl
  | cons x l ih =>
    rw [sumN_cons, sumN_cons] at *
    have h1 : min (f x) k = f x := by omega
    rw [ih (by omega), h1]
/-- what comes of the law's operands -/
def LOpsOut (w : World) (s : SlW OpW) (e : Ending) (w' : World) : Prop := ∃ r : Nat, e = .returned (.int .i64 (r : Int)) ∧ r ≤ 18000 ∧ (r ≤ 3000 → s.n + sumN (fun o => o.pl.n) s.L = r) ∧ Below w.heap.size w w'

set_option maxHeartbeats 4000000 in
set_option maxRecDepth 100000 in
theorem LOperands_any (s : SlW OpW) (w : World) (hs : Ops w w.heap.size s) :
    Calls Tryz.prog 25 #[s.val] w (LOpsOut w s) := by
  have HX := hide hs
  have HL := hide hs.len
  have hn := hs.nm
  have hnc := hs.nc
  clear hs
  obtain ⟨A, n, c, xs⟩ := s
  simp only [] at hn hnc
  unfold maxLen at hn
  show Calls Tryz.prog 25 #[.slice A n c] w _
  by_cases h9 : 9000 < n
  · have hi1 : (9000 : Int) < (n : Int) := by omega
    have hi2 : (9000 : Int) ≤ (n : Int) := by omega
    have hi3 : ¬ (n : Int) ≤ 9000 := by omega
    have hi4 : ¬ (n : Int) < 9000 := by omega
    have hc1 : (9000 : Int) ≤ (c : Int) := by omega
    have hc2 : 9000 ≤ c := by omega
    go_enter Tryz.func25, Tryz.ntmps25
    go_wp2
    go_loopw [3, 13] (fun v i wr => ∃ j m : Nat, i = .int .i64 (j : Int) ∧ v = .int .i64 (m : Int) ∧ j ≤ 9000 ∧ m ≤ 9000 ∧ Hid (m = 9000 + sumN (fun o => min o.pl.n 9000) (xs.take j)) ∧ Hid (Below w.heap.size w wr)) (fun _ i _ => 9000 - (intOf i).toNat)
    case atStart => exact ⟨0, 9000, rfl, rfl, Nat.zero_le _, by omega, hide (by simp [sumN]), hide (Below.refl _ _)⟩
    case round =>
      obtain ⟨j, m, rfl, rfl, hj, hm, HM, HB⟩ := hrel
      have hsz := HB.out.size
      by_cases hlt : j < 9000
      · obtain ⟨p, hp⟩ := HX.out.get (show j < n by omega)
        obtain ⟨g, o, hA, hg, h1, c0⟩ := HX.out.at_ hp
        simp only [] at hA
        subst hA
        obtain ⟨k, ⟨l, pA, pn, pc, ps⟩, z⟩ := p
        have hlt' : (j : Int) < (9000 : Int) := by omega
        have hltn : (j : Int) < (n : Int) := by omega
        have c1 := (HB.out.cell hg).trans (c0 0 _ rfl)
        have c2 := (HB.out.cell hg).trans (c0 1 _ rfl)
        have c3 := (HB.out.cell hg).trans (c0 2 _ rfl)
        have c4 := (HB.out.cell hg).trans (c0 3 _ rfl)
        simp only [Nat.add_zero] at c1 c2 c3 c4
        have hpn : pn ≤ 9223372036854775807 := Nat.le_trans h1.pl.nc h1.pl.cm
        have hu := sumN_up (f := fun o : OpW => min o.pl.n 9000) hp
        simp only [] at hu
        have HB2 := hide (HB.out.alloc hsz (.cells #[.int .i64 k, .int .i64 l, .slice pA pn pc, .int .i64 z] 96))
        by_cases hb : 9000 < pn
        · have hb1 : (9000 : Int) < (pn : Int) := by omega
          have hb2 : (9000 : Int) ≤ (pn : Int) := by omega
          have hb3 : ¬ (pn : Int) ≤ 9000 := by omega
          have HM2 := hide (show m + 9000 = 9000 + sumN (fun o => min o.pl.n 9000) (xs.take (j + 1)) by rw [hu, HM.out, Nat.min_eq_right (Nat.le_of_lt hb), Nat.add_assoc])
          have t1 : IntKind.i64.wrap ((m : Int) + 9000) = (m : Int) + 9000 := wrapI9 _ (by omega) (by omega)
          by_cases h0 : 0 < m
          · have hg2 : (9000 : Int) < (m : Int) + 9000 := by omega
            clear c0 h1 hu hp
            go_wp2
            go_ret
            exact ⟨m + 9000, congrArg (fun z : Int => Ending.returned (.int .i64 z)) (by omega), by omega, fun h => absurd h (by omega), HB2.out⟩
          · have hm0 : m = 0 := by omega
            have : 9000 ≤ m := by rw [HM.out]; omega
            omega
        · have hb1 : ¬ (9000 : Int) < (pn : Int) := by omega
          have hb2 : (pn : Int) ≤ 9000 := by omega
          have HM2 := hide (show m + pn = 9000 + sumN (fun o => min o.pl.n 9000) (xs.take (j + 1)) by rw [hu, HM.out, Nat.min_eq_left (by omega), Nat.add_assoc])
          have t1 : IntKind.i64.wrap ((m : Int) + (pn : Int)) = (m : Int) + (pn : Int) := wrapI9 _ (by omega) (by omega)
          by_cases h0 : 9000 < m + pn
          · have hg2 : (9000 : Int) < (m : Int) + (pn : Int) := by omega
            clear c0 h1 hu hp
            go_wp2
            go_ret
            exact ⟨m + pn, congrArg (fun z : Int => Ending.returned (.int .i64 z)) (by omega), by omega, fun h => absurd h (by omega), HB2.out⟩
          · have hg2 : ¬ (9000 : Int) < (m : Int) + (pn : Int) := by omega
            clear c0 h1 hu hp
            go_wp2
            go_roundw
            case rel => exact ⟨j + 1, m + pn, by go_num, congrArg (fun z : Int => Value.int .i64 z) (by omega), by omega, by omega, HM2, HB2⟩
            case measure => simp [intOf]; omega
      · have hjn : 9000 = j := by omega
        have hge : ¬ (j : Int) < (9000 : Int) := by omega
        have HF := hide (show m ≤ 3000 → n + sumN (fun o : OpW => o.pl.n) xs = m from fun h => by
          have h1 := HM.out
          omega)
        clear hjn
        go_wp2
        go_ret
        exact ⟨m, rfl, by omega, HF.out, HB.out⟩
  · have hi1 : ¬ (9000 : Int) < (n : Int) := by omega
    have hi2 : (n : Int) ≤ 9000 := by omega
    have hc1 : (n : Int) ≤ (c : Int) := by omega
    go_enter Tryz.func25, Tryz.ntmps25
    go_wp2
    go_loopw [3, 13] (fun v i wr => ∃ j m : Nat, i = .int .i64 (j : Int) ∧ v = .int .i64 (m : Int) ∧ j ≤ n ∧ m ≤ 9000 ∧ Hid (m = n + sumN (fun o => min o.pl.n 9000) (xs.take j)) ∧ Hid (Below w.heap.size w wr)) (fun _ i _ => n - (intOf i).toNat)
    case atStart => exact ⟨0, n, rfl, rfl, Nat.zero_le _, by omega, hide (by simp [sumN]), hide (Below.refl _ _)⟩
    case round =>
      obtain ⟨j, m, rfl, rfl, hj, hm, HM, HB⟩ := hrel
      have hsz := HB.out.size
      by_cases hlt : j < n
      · obtain ⟨p, hp⟩ := HX.out.get (show j < n by omega)
        obtain ⟨g, o, hA, hg, h1, c0⟩ := HX.out.at_ hp
        simp only [] at hA
        subst hA
        obtain ⟨k, ⟨l, pA, pn, pc, ps⟩, z⟩ := p
        have hlt' : (j : Int) < (n : Int) := by omega
        have hltn : (j : Int) < (n : Int) := by omega
        have c1 := (HB.out.cell hg).trans (c0 0 _ rfl)
        have c2 := (HB.out.cell hg).trans (c0 1 _ rfl)
        have c3 := (HB.out.cell hg).trans (c0 2 _ rfl)
        have c4 := (HB.out.cell hg).trans (c0 3 _ rfl)
        simp only [Nat.add_zero] at c1 c2 c3 c4
        have hpn : pn ≤ 9223372036854775807 := Nat.le_trans h1.pl.nc h1.pl.cm
        have hu := sumN_up (f := fun o : OpW => min o.pl.n 9000) hp
        simp only [] at hu
        have HB2 := hide (HB.out.alloc hsz (.cells #[.int .i64 k, .int .i64 l, .slice pA pn pc, .int .i64 z] 96))
        by_cases hb : 9000 < pn
        · have hb1 : (9000 : Int) < (pn : Int) := by omega
          have hb2 : (9000 : Int) ≤ (pn : Int) := by omega
          have hb3 : ¬ (pn : Int) ≤ 9000 := by omega
          have HM2 := hide (show m + 9000 = n + sumN (fun o => min o.pl.n 9000) (xs.take (j + 1)) by rw [hu, HM.out, Nat.min_eq_right (Nat.le_of_lt hb), Nat.add_assoc])
          have t1 : IntKind.i64.wrap ((m : Int) + 9000) = (m : Int) + 9000 := wrapI9 _ (by omega) (by omega)
          by_cases h0 : 0 < m
          · have hg2 : (9000 : Int) < (m : Int) + 9000 := by omega
            clear c0 h1 hu hp
            go_wp2
            go_ret
            exact ⟨m + 9000, congrArg (fun z : Int => Ending.returned (.int .i64 z)) (by omega), by omega, fun h => absurd h (by omega), HB2.out⟩
          · have hm0 : m = 0 := by omega
            have : n ≤ m := by rw [HM.out]; omega
            omega
        · have hb1 : ¬ (9000 : Int) < (pn : Int) := by omega
          have hb2 : (pn : Int) ≤ 9000 := by omega
          have HM2 := hide (show m + pn = n + sumN (fun o => min o.pl.n 9000) (xs.take (j + 1)) by rw [hu, HM.out, Nat.min_eq_left (by omega), Nat.add_assoc])
          have t1 : IntKind.i64.wrap ((m : Int) + (pn : Int)) = (m : Int) + (pn : Int) := wrapI9 _ (by omega) (by omega)
          by_cases h0 : 9000 < m + pn
          · have hg2 : (9000 : Int) < (m : Int) + (pn : Int) := by omega
            clear c0 h1 hu hp
            go_wp2
            go_ret
            exact ⟨m + pn, congrArg (fun z : Int => Ending.returned (.int .i64 z)) (by omega), by omega, fun h => absurd h (by omega), HB2.out⟩
          · have hg2 : ¬ (9000 : Int) < (m : Int) + (pn : Int) := by omega
            clear c0 h1 hu hp
            go_wp2
            go_roundw
            case rel => exact ⟨j + 1, m + pn, by go_num, congrArg (fun z : Int => Value.int .i64 z) (by omega), by omega, by omega, HM2, HB2⟩
            case measure => simp [intOf]; omega
      · have hjn : n = j := by omega
        have hge : ¬ (j : Int) < (n : Int) := by omega
        have HF := hide (show m ≤ 3000 → n + sumN (fun o : OpW => o.pl.n) xs = m from fun h => by
          have h1 := HM.out
          rw [← hjn, sumN_all _ HL.out] at h1
          rw [sumN_min (f := fun o : OpW => o.pl.n) (k := 9000) (by omega), h1])
        clear hjn
        go_wp2
        go_ret
        exact ⟨m, rfl, by omega, HF.out, HB.out⟩
end Go.Proofs.YtbdimnncobpfdaaGreat
