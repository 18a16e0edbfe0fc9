/- The reference's Equal and Find. -/
import Derived.Test.YtbdimnncobpfdaaGreatTypE
import Derived.StillTailTactics
set_option linter.unusedVariables false
namespace Go.Proofs.YtbdimnncobpfdaaGreat
open Go.RowKit

theorem eqTy_fields {k r el : Int} {m : Bool} {fs fs' : List Int} (h : fs = fs') : eqTy ⟨k, m, r, el, fs⟩ ⟨k, m, r, el, fs'⟩ = true := by rw [h, eqTy_self]
theorem bnot_eq {a b : Int} (h : a ≠ b) : (a != b) = true := by rw [bne_iff_ne]; exact h

set_option maxHeartbeats 4000000 in
set_option maxRecDepth 100000 in
theorem REqT_any (x y : TyW) (w : World) (hx : OneT w w.heap.size x) (hy : OneT w w.heap.size y) :
    Calls Tryz.prog 38 #[aggT x, aggT y] w fun e w' => e = .returned (.bool (eqTy x.t y.t)) ∧ Below w.heap.size w w' := by
  obtain ⟨⟨k, m, r, el, fs⟩, A, n, c⟩ := x
  obtain ⟨⟨k', m', r', el', fs'⟩, A', n', c'⟩ := y
  have HB := hide (two_alloc w (.cells #[.int .i64 k, .bool m, .int .i64 r, .int .i64 el, .slice A n c] 51) (.cells #[.int .i64 k', .bool m', .int .i64 r', .int .i64 el', .slice A' n' c'] 51))
  have HX := hide (hx.rd.below HB.out)
  have HY := hide (hy.rd.below HB.out)
  have h1n : n ≤ maxLen := Nat.le_trans hx.ok.nc hx.ok.cm
  have h2n : n' ≤ maxLen := Nat.le_trans hy.ok.nc hy.ok.cm
  have hl1 := hx.ok.len
  have hl2 := hy.ok.len
  simp only [] at hl1 hl2
  unfold maxLen at h1n h2n
  clear hx hy
  by_cases h1 : k = k'
  · subst h1
    have e1 : (k != k) = false := by simp
    by_cases h2 : m = m'
    · subst h2
      have e2 : (m != m) = false := by simp
      by_cases h3 : r = r'
      · subst h3
        have e3 : (r != r) = false := by simp
        by_cases h4 : el = el'
        · subst h4
          have e4 : (el != el) = false := by simp
          by_cases h5 : n = n'
          · subst h5
            have e5 : ((n : Int) != (n : Int)) = false := by simp
            have HL1 := hide hl1
            have HL2 := hide hl2
            clear hl1 hl2
            go_enter Tryz.func38, Tryz.ntmps38
            go_wp2
            go_loopw [5] (fun i wr => ∃ j : Nat, i = .int .i64 (j : Int) ∧ j ≤ n ∧ Hid (eqUpto fs fs' j) ∧ Below w.heap.size w wr ∧ wr.heap.size = w.heap.size + 2 ∧ (∀ p, wr.cell? p = ((w.alloc (.cells #[.int .i64 k, .bool m, .int .i64 r, .int .i64 el, .slice A n c] 51)).alloc (.cells #[.int .i64 k, .bool m, .int .i64 r, .int .i64 el, .slice A' n c'] 51)).cell? p)) (fun i _ => n - (intOf i).toNat)
            case atStart => exact ⟨0, rfl, Nat.zero_le _, fun j h => absurd h (by omega), HB.out, by simp, fun _ => rfl⟩
            case round =>
              obtain ⟨j, rfl, hj, HE, hb, hsz, hc⟩ := hrel
              have HB1 := hide hb
              have HC := hide hc
              have d4 : wr.cell? ⟨w.heap.size, 4, none⟩ = some (.slice A n c) := by rw [hc]; simp [go_sem]
              have d4' : wr.cell? ⟨w.heap.size + 1, 4, none⟩ = some (.slice A' n c') := by rw [hc]; simp [go_sem]
              have hlt0 : w.heap.size < wr.heap.size := by omega
              clear hb hc
              by_cases hlt : j < n
              · have hex : ∃ a, fs[j]? = some a := ⟨_, List.getElem?_eq_getElem (by have := HL1.out; omega)⟩
                obtain ⟨a, ha⟩ := hex
                have hex : ∃ a, fs'[j]? = some a := ⟨_, List.getElem?_eq_getElem (by have := HL2.out; omega)⟩
                obtain ⟨b, hb⟩ := hex
                obtain ⟨g, o, rfl, _, c0⟩ := HX.out.int ha
                obtain ⟨g', o', rfl, _, c1⟩ := HY.out.int hb
                rw [← HC.out] at c0 c1
                have hlt' : (j : Int) < (n : Int) := by omega
                have HA' := hide ha
                have HB' := hide hb
                clear ha hb
                by_cases hab : a = b
                · subst hab
                  have e6 : ((a : Int) != (a : Int)) = false := by simp
                  have HE2 := hide (show eqUpto fs fs' (j + 1) from fun i hi => by
                    rcases Nat.lt_or_ge i j with h | h
                    · exact HE.out i h
                    · obtain rfl : i = j := by omega
                      rw [HA'.out, HB'.out])
                  go_wp2
                  go_quiet (fail)
                  go_wp2
                  go_roundw
                  case rel => exact ⟨j + 1, by go_num, by omega, HE2.out, tyN HB1.out _, hsz, HC.out⟩
                  case measure => simp [intOf]; omega
                · have e6 : ((a : Int) != (b : Int)) = true := bnot_eq hab
                  have HF := hide (eqTy_no (a := ⟨k, m, r, el, fs⟩) (b := ⟨k, m, r, el, fs'⟩) fun h => by
                    have h0 : fs = fs' := congrArg Ty.fields h
                    subst h0
                    have h1 := HA'.out
                    rw [HB'.out] at h1
                    injection h1 with h1
                    exact absurd h1.symm hab)
                  clear hab
                  go_wp2
                  go_quiet (fail)
                  go_wp2
                  go_ret
                  exact ⟨congrArg (fun v => Ending.returned (.bool v)) HF.out.symm, tyN HB1.out _⟩
              · obtain rfl : j = n := by omega
                have HF := hide (eqTy_fields (k := k) (m := m) (r := r) (el := el) (show fs = fs' from by
                  refine List.ext_getElem? fun i => ?_
                  rcases Nat.lt_or_ge i j with h | h
                  · exact HE.out i h
                  · rw [List.getElem?_eq_none (by have := HL1.out; omega), List.getElem?_eq_none (by have := HL2.out; omega)]))
                go_wp2
                go_ret
                exact ⟨congrArg (fun v => Ending.returned (.bool v)) HF.out.symm, HB1.out⟩
          · have e5 : ((n : Int) != (n' : Int)) = true := bnot_eq (by omega)
            have HF := hide (eqTy_no (a := ⟨k, m, r, el, fs⟩) (b := ⟨k, m, r, el, fs'⟩) fun e => by
              have h0 : fs = fs' := congrArg Ty.fields e
              subst h0
              omega)
            clear h5 hl1 hl2
            go_enter Tryz.func38, Tryz.ntmps38
            go_wp2
            go_ret
            exact ⟨congrArg (fun v => Ending.returned (.bool v)) HF.out.symm, HB.out⟩
        · have e4 : (el != el') = true := bnot_eq h4
          have HF := hide (eqTy_no (a := ⟨k, m, r, el, fs⟩) (b := ⟨k, m, r, el', fs'⟩) fun e => h4 (congrArg Ty.elem e))
          clear h4 hl1 hl2
          go_enter Tryz.func38, Tryz.ntmps38
          go_wp2
          go_ret
          exact ⟨congrArg (fun v => Ending.returned (.bool v)) HF.out.symm, HB.out⟩
      · have e3 : (r != r') = true := bnot_eq h3
        have HF := hide (eqTy_no (a := ⟨k, m, r, el, fs⟩) (b := ⟨k, m, r', el', fs'⟩) fun e => h3 (congrArg Ty.region e))
        clear h3 hl1 hl2
        go_enter Tryz.func38, Tryz.ntmps38
        go_wp2
        go_ret
        exact ⟨congrArg (fun v => Ending.returned (.bool v)) HF.out.symm, HB.out⟩
    · have HF := hide (eqTy_no (a := ⟨k, m, r, el, fs⟩) (b := ⟨k, m', r', el', fs'⟩) fun e => h2 (congrArg Ty.mut_ e))
      clear hl1 hl2
      cases m <;> cases m'
      · exact absurd rfl h2
      · clear h2
        go_enter Tryz.func38, Tryz.ntmps38
        go_wp2
        go_ret
        exact ⟨congrArg (fun v => Ending.returned (.bool v)) HF.out.symm, HB.out⟩
      · clear h2
        go_enter Tryz.func38, Tryz.ntmps38
        go_wp2
        go_ret
        exact ⟨congrArg (fun v => Ending.returned (.bool v)) HF.out.symm, HB.out⟩
      · exact absurd rfl h2
  · have e1 : (k != k') = true := bnot_eq h1
    have HF := hide (eqTy_no (a := ⟨k, m, r, el, fs⟩) (b := ⟨k', m', r', el', fs'⟩) fun e => h1 (congrArg Ty.kind e))
    clear h1 hl1 hl2
    go_enter Tryz.func38, Tryz.ntmps38
    go_wp2
    go_ret
    exact ⟨congrArg (fun v => Ending.returned (.bool v)) HF.out.symm, HB.out⟩

theorem REqT_is {x y : TyW} {b : Bool} (h : eqTy x.t y.t = b) (w : World) (hx : OneT w w.heap.size x) (hy : OneT w w.heap.size y) :
    Calls Tryz.prog 38 #[aggT x, aggT y] w fun e w' => e = .returned (.bool b) ∧ Below w.heap.size w w' := h ▸ REqT_any x y w hx hy

end Go.Proofs.YtbdimnncobpfdaaGreat
