/- The reference's Check, IsPrefix, Equal, HasDeref; the code's Equal, IsPrefix, HasDeref; slices.Equal of projections. -/
import Derived.Test.YtphfiohjkjipiaaPla
set_option linter.unusedVariables false
namespace Go.Proofs.Ytphfiohjkjipiaa
open Go.RowKit

set_option maxHeartbeats 2000000 in
theorem RCheckP_any (x : PlW) (w : World) (hx : OnePl w w.heap.size x) :
    Calls Try.prog 11 #[aggPl x] w fun e w' => e = .returned (.int .i64 (plErr x.l x.ps)) ∧ Below w.heap.size w w' := by
  obtain ⟨l, A, n, c, ps⟩ := x
  have hcm := hx.cm
  have hnc := hx.nc
  simp only [] at hcm hnc
  have HX := hide hx.prs
  have HL := hide hx.prs.len
  have HA := hide ((Below.refl w.heap.size w).alloc (Nat.le_refl _) (.cells #[.int .i64 l, .slice A n c] 24))
  clear hx
  unfold maxLen at hcm
  by_cases hl : l < 0
  · have HF := hide (show plErr l ps = 3 from if_pos hl)
    go_enter Try.func11, Try.ntmps11
    go_wp2
    go_ret
    exact ⟨congrArg (fun v => Ending.returned (.int .i64 v)) HF.out.symm, HA.out⟩
  by_cases hn : 32 < n
  · have HF := hide (show plErr l ps = 19 from by unfold plErr; rw [if_neg hl, if_pos (by have : ps.length = n := HL.out; omega)])
    have hn' : (32 : Int) < (n : Int) := by omega
    go_enter Try.func11, Try.ntmps11
    go_wp2
    go_ret
    exact ⟨congrArg (fun v => Ending.returned (.int .i64 v)) HF.out.symm, HA.out⟩
  have HF := hide (show plErr l ps = pjsErr (ps.drop 0) from by unfold plErr; rw [if_neg hl, if_neg (by have : ps.length = n := HL.out; omega)]; rfl)
  have hn' : (n : Int) ≤ 32 := by omega
  have hl' : 0 ≤ l := by omega
  clear hl hn
  have HC := hide fun (w' : World) (h : Below (w.alloc (.cells #[.int .i64 l, .slice A n c] 24)).heap.size (w.alloc (.cells #[.int .i64 l, .slice A n c] 24)) w') => ((h.cell (p := ⟨w.heap.size, 1, none⟩) (by simp)).trans (by simp [go_sem]) : w'.cell? ⟨w.heap.size, 1, none⟩ = some (.slice A n c))
  go_enter Try.func11, Try.ntmps11
  go_wp2
  go_loopw [3] (fun i wr => ∃ j : Nat, i = .int .i64 (j : Int) ∧ j ≤ n ∧ Hid (pjsErr (ps.drop j) = pjsErr (ps.drop 0)) ∧ Below (w.alloc (.cells #[.int .i64 l, .slice A n c] 24)).heap.size (w.alloc (.cells #[.int .i64 l, .slice A n c] 24)) wr) (fun i _ => n - (intOf i).toNat)
  case atStart => exact ⟨0, rfl, Nat.zero_le _, rfl, Below.refl _ _⟩
  case round =>
    obtain ⟨j, rfl, hj, HE, hb⟩ := hrel
    have HB := hide (HA.out.trans (hb.mono (by simp)))
    have HB0 := hide hb
    have cz := HC.out _ hb
    clear hb
    by_cases hlt : j < n
    · have hlt' : (j : Int) < (n : Int) := by omega
      obtain ⟨p, hp⟩ : ∃ p, ps[j]? = some p := ⟨_, List.getElem?_eq_getElem (by have : ps.length = n := HL.out; omega)⟩
      obtain ⟨b, o, rfl, _, hi, c0, c1⟩ := (HX.out.below HB.out).at_ hp
      have HS := hide (pjsErr_at hp)
      obtain ⟨k, f⟩ := p
      simp only [] at c0 c1
      have HB2 := hide (HB.out.alloc HB.out.size (.cells #[.int .i64 k, .int .i64 f] 46))
      have HB3 := hide (HB0.out.alloc HB0.out.size (.cells #[.int .i64 k, .int .i64 f] 46))
      clear hp hi
      have good : ∀ v, pjErr (k, f) = v → v ≠ 0 → Hid (plErr l ps = v) := fun v hv hv0 => (show _ = _ by rw [HF.out, ← HE.out, HS.out, hv, if_neg hv0])
      have next : pjErr (k, f) = 0 → Hid (pjsErr (ps.drop (j + 1)) = pjsErr (ps.drop 0)) := fun hv => (show _ = _ by rw [← HE.out, HS.out, if_pos hv])
      by_cases h0 : k = 0
      · subst h0
        by_cases hf : f = 0
        · subst hf
          have HN := next (by decide)
          clear good next
          go_wp2
          go_roundw
          case rel => exact ⟨j + 1, by go_num, by omega, HN.out, HB3.out⟩
          case measure => simp [intOf]; omega
        · have t1 : (f != 0) = true := by rw [bne_iff_ne]; exact hf
          have HN := good 2 (by unfold pjErr; rw [if_neg (by omega), if_pos ⟨rfl, hf⟩]) (by decide)
          clear good next hf
          go_wp2
          go_ret
          exact ⟨congrArg (fun v => Ending.returned (.int .i64 v)) HN.out.symm, HB2.out⟩
      · have t0 : (k != 0) = true := by rw [bne_iff_ne]; exact h0
        have t00 : (k == 0) = false := by simpa using h0
        by_cases h1 : k = 1
        · subst h1
          clear h0 t0 t00
          by_cases hf : f < 0
          · have HN := good 3 (by unfold pjErr; rw [if_neg (by omega), if_neg (by omega), if_pos hf]) (by decide)
            clear good next
            go_wp2
            go_ret
            exact ⟨congrArg (fun v => Ending.returned (.int .i64 v)) HN.out.symm, HB2.out⟩
          · have HN := next (by unfold pjErr; rw [if_neg (by omega), if_neg (by omega), if_neg hf])
            clear good next
            have hf' : 0 ≤ f := by omega
            go_wp2
            go_roundw
            case rel => exact ⟨j + 1, by go_num, by omega, HN.out, HB3.out⟩
            case measure => simp [intOf]; omega
        · have t1 : (k != 1) = true := by rw [bne_iff_ne]; exact h1
          have HN := good 14 (by unfold pjErr; rw [if_pos ⟨h0, h1⟩]) (by decide)
          clear good next h0 h1
          go_wp2
          go_ret
          exact ⟨congrArg (fun v => Ending.returned (.int .i64 v)) HN.out.symm, HB2.out⟩
    · obtain rfl : j = n := by omega
      have HN := hide (show plErr l ps = 0 from by rw [HF.out, ← HE.out, List.drop_of_length_le (by have : ps.length = j := HL.out; omega)]; rfl)
      go_wp2
      go_ret
      exact ⟨congrArg (fun v => Ending.returned (.int .i64 v)) HN.out.symm, HB.out⟩
theorem RCheckP_is {x : PlW} {v : Int} (h : plErr x.l x.ps = v) (w : World) (hx : OnePl w w.heap.size x) :
    Calls Try.prog 11 #[aggPl x] w fun e w' => e = .returned (.int .i64 v) ∧ Below w.heap.size w w' := h ▸ RCheckP_any x w hx
end Go.Proofs.Ytphfiohjkjipiaa
