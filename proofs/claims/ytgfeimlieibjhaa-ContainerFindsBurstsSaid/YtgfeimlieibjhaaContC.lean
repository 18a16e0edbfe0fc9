/- container.Read and container.Spans. -/
import Derived.Test.YtgfeimlieibjhaaContI
import Derived.Test.YtgfeimlieibjhaaClone
import Derived.Deep.RegionHeld3
set_option linter.unusedVariables false
namespace Go.Proofs.Ytgfeimlieibjhaa
open Go.RowKit Go.Shelf

/-! ### what is made of a frame -/
/-- two cells that may be written -/
def HasFree (w : World) (R : Nat) : Prop := (∃ v, w.cell? ⟨R, 0, none⟩ = some v) ∧ (∃ v, w.cell? ⟨R, 1, none⟩ = some v) ∧ w.frozen? ⟨R, 0, none⟩ = false ∧ w.frozen? ⟨R, 1, none⟩ = false
theorem HasFree.drew {w : World} {R : Nat} (h : HasFree w R) : HasFree w.drew R := h
theorem HasFree.below {w w' : World} {R : Nat} (h : HasFree w R) (hb : Below w.heap.size w w') (hR : R < w.heap.size) : HasFree w' R := by
  obtain ⟨⟨a, h1⟩, ⟨b, h2⟩, h3, h4⟩ := h
  exact ⟨⟨a, (hb.cell (p := ⟨R, 0, none⟩) hR).trans h1⟩, ⟨b, (hb.cell (p := ⟨R, 1, none⟩) hR).trans h2⟩, (hb.frozen (p := ⟨R, 0, none⟩) hR).trans h3, (hb.frozen (p := ⟨R, 1, none⟩) hR).trans h4⟩
theorem HasFree.set {w : World} {R : Nat} (h : HasFree w R) (a b : Value) : HasFree ((w.setCell ⟨R, 0, none⟩ a).setCell ⟨R, 1, none⟩ b) R := by
  obtain ⟨⟨u, h1⟩, ⟨v, h2⟩, h3, h4⟩ := h
  have e1 : (w.setCell ⟨R, 0, none⟩ a).cell? ⟨R, 1, none⟩ = some v := by
    rw [World.cell?_setCell_other w _ _ _ (by simp)]; exact h2
  refine ⟨⟨a, ?_⟩, ⟨b, World.cell?_setCell_same _ _ _ e1⟩, by rw [World.frozen?_setCell, World.frozen?_setCell]; exact h3, by rw [World.frozen?_setCell, World.frozen?_setCell]; exact h4⟩
  rw [World.cell?_setCell_other _ _ _ _ (by simp)]
  exact World.cell?_setCell_same _ _ _ h1

set_option maxRecDepth 100000 in
set_option maxHeartbeats 2000000 in
theorem part1_any (Bx : Nat) (A : Option Addr) (nn c : Nat) (xs : List Int) (id : Int) (F T : Nat) (w : World) (n₀ : Nat) (hc : w.cell? ⟨Bx, 0, none⟩ = some (.slice A nn c)) (hr : Rd w n₀ A nn (u8s xs)) (hn0 : n₀ ≤ w.heap.size) (hFT : F ≤ T) (hT : T + 4 ≤ nn) (hnc : nn ≤ c) (hcm : c ≤ maxLen) (hle : nn ≤ 1000000) :
    Calls Try.prog 26 #[.agg #[.int .i64 id, .int .i64 (F : Int), .int .i64 (T : Int)], .pointer (some ⟨Bx, 0, none⟩)] w fun e w' => ∃ A' n' c', e = .returned (.agg #[.int .i64 id, .slice A' n' c']) ∧ n' ≤ c' ∧ c' ≤ maxLen ∧ Hid (n' = T - F) ∧
      Rd w' w'.heap.size A' n' (u8s ((xs.drop F).take (T - F))) ∧ (∀ b, (Value.slice A' n' c').ownBlock = some b → w.heap.size ≤ b) ∧ Below w.heap.size w w' := by
  have hl : xs.length = nn := by simpa using hr.1
  obtain ⟨b, o, rfl, hbB, _⟩ := hr.2 (by omega)
  unfold maxLen at hcm
  have k0 : (0 : Int) ≤ (F : Int) := by omega
  have k1 : (F : Int) ≤ (T : Int) := by omega
  have k2 : (T : Int) ≤ (c : Int) := by omega
  have k3 : ¬ c = F := by omega
  have hlt := World.block_lt_of_cell? w _ hc
  simp only [] at hlt
  have hsub := (hr.from_ (k := F) (cap := c) (by omega) (by omega)).to_ (k := T - F) (by omega)
  rw [if_neg (by omega), ← List.map_drop, ← List.map_take] at hsub
  simp only [Option.map_some, Addr.add] at hsub
  have hsub' : Rd w n₀ (some ⟨b, o + F, none⟩) (T - F) (u8s ((xs.drop F).take (T - F))) := by
    by_cases h0 : F = 0
    · subst h0; simpa using hsub
    · rwa [if_neg h0] at hsub
  generalize (xs.drop F).take (T - F) = ys at *
  have HR := hide hsub'
  clear hsub hsub' hr hl
  go_enter Try.func26, Try.ntmps26
  go_wp2
  have hb1 := ((Below.refl w.heap.size w).alloc (Nat.le_refl _) (.cells #[.int .i64 id, .int .i64 (F : Int), .int .i64 (T : Int)] 63)).alloc (by simp) (.cells #[.int .i64 0, .slice none 0 0] 56)
  have hc1 := (hb1.cell (p := ⟨Bx, 0, none⟩) hlt).trans hc
  have e0 : ((w.alloc (.cells #[.int .i64 id, .int .i64 (F : Int), .int .i64 (T : Int)] 63)).alloc (.cells #[.int .i64 0, .slice none 0 0] 56)).cell? ⟨w.heap.size, 0, none⟩ = some (.int .i64 id) := by simp [go_sem]
  have e1 : ((w.alloc (.cells #[.int .i64 id, .int .i64 (F : Int), .int .i64 (T : Int)] 63)).alloc (.cells #[.int .i64 0, .slice none 0 0] 56)).cell? ⟨w.heap.size, 1, none⟩ = some (.int .i64 (F : Int)) := by simp [go_sem]
  have e2 : ((w.alloc (.cells #[.int .i64 id, .int .i64 (F : Int), .int .i64 (T : Int)] 63)).alloc (.cells #[.int .i64 0, .slice none 0 0] 56)).cell? ⟨w.heap.size, 2, none⟩ = some (.int .i64 (T : Int)) := by simp [go_sem]
  have r0 : ((w.alloc (.cells #[.int .i64 id, .int .i64 (F : Int), .int .i64 (T : Int)] 63)).alloc (.cells #[.int .i64 0, .slice none 0 0] 56)).cell? ⟨w.heap.size + 1, 0, none⟩ = some (.int .i64 0) := by simp [go_sem]
  have r1 : ((w.alloc (.cells #[.int .i64 id, .int .i64 (F : Int), .int .i64 (T : Int)] 63)).alloc (.cells #[.int .i64 0, .slice none 0 0] 56)).cell? ⟨w.heap.size + 1, 1, none⟩ = some (.slice none 0 0) := by simp [go_sem]
  have z0 : ((w.alloc (.cells #[.int .i64 id, .int .i64 (F : Int), .int .i64 (T : Int)] 63)).alloc (.cells #[.int .i64 0, .slice none 0 0] 56)).frozen? ⟨w.heap.size + 1, 0, none⟩ = false := by simp [go_sem]
  have z1 : ((w.alloc (.cells #[.int .i64 id, .int .i64 (F : Int), .int .i64 (T : Int)] 63)).alloc (.cells #[.int .i64 0, .slice none 0 0] 56)).frozen? ⟨w.heap.size + 1, 1, none⟩ = false := by simp [go_sem]
  have hsz : ((w.alloc (.cells #[.int .i64 id, .int .i64 (F : Int), .int .i64 (T : Int)] 63)).alloc (.cells #[.int .i64 0, .slice none 0 0] 56)).heap.size = w.heap.size + 2 := by simp
  obtain ⟨W, hW⟩ : ∃ W, (w.alloc (.cells #[.int .i64 id, .int .i64 (F : Int), .int .i64 (T : Int)] 63)).alloc (.cells #[.int .i64 0, .slice none 0 0] 56) = W := ⟨_, rfl⟩
  rw [hW] at hb1 hc1 e0 e1 e2 r0 r1 z0 z1 hsz ⊢
  clear hW hc
  have hF0 := hide (show HasFree W (w.heap.size + 1) from ⟨⟨_, r0⟩, ⟨_, r1⟩, z0, z1⟩)
  have hS := hide fun (w' : World) (hb' : Below (w.heap.size + 1) W w') (hf : HasFree w' (w.heap.size + 1)) => (⟨hb', (hb'.cell (p := ⟨Bx, 0, none⟩) (by show Bx < _; omega)).trans hc1, (hb'.cell (p := ⟨w.heap.size, 0, none⟩) (by show w.heap.size < _; omega)).trans e0,
    (hb'.cell (p := ⟨w.heap.size, 1, none⟩) (by show w.heap.size < _; omega)).trans e1, (hb'.cell (p := ⟨w.heap.size, 2, none⟩) (by show w.heap.size < _; omega)).trans e2, hf⟩ : Below (w.heap.size + 1) W w' ∧ w'.cell? ⟨Bx, 0, none⟩ = some (.slice (some ⟨b, o, none⟩) nn c) ∧
    w'.cell? ⟨w.heap.size, 0, none⟩ = some (.int .i64 id) ∧ w'.cell? ⟨w.heap.size, 1, none⟩ = some (.int .i64 (F : Int)) ∧ w'.cell? ⟨w.heap.size, 2, none⟩ = some (.int .i64 (T : Int)) ∧ HasFree w' (w.heap.size + 1))
  have HC := hide fun (w' : World) (hb' : Below (w.heap.size + 1) W w') => Clone_any (some ⟨b, o + F, none⟩) (T - F) (c - F) ys w' (HR.out.below ((hb1.mono hn0).trans (hb'.mono (by omega)))) (by have := hb'.size; omega) (by omega)
  have hWs := hide (show w.heap.size + 1 < W.heap.size by omega)
  have HB1 := hide hb1
  clear hsz hb1 r0 r1 z0 z1
  go_region_held3 (fun w' => Below (w.heap.size + 1) W w' ∧ w'.cell? ⟨Bx, 0, none⟩ = some (.slice (some ⟨b, o, none⟩) nn c) ∧
    w'.cell? ⟨w.heap.size, 0, none⟩ = some (.int .i64 id) ∧ w'.cell? ⟨w.heap.size, 1, none⟩ = some (.int .i64 (F : Int)) ∧ w'.cell? ⟨w.heap.size, 2, none⟩ = some (.int .i64 (T : Int)) ∧ HasFree w' (w.heap.size + 1))
    (first | exact hS.out _ (Below.refl _ _).drew hF0.out.drew | exact hS.out _ hb4 hf4 | exact hS.out _ ((hb4.setCell (p := ⟨w.heap.size + 1, 0, none⟩) (Nat.le_refl _) _).setCell (p := ⟨w.heap.size + 1, 1, none⟩) (Nat.le_refl _) _) (hf4.set _ _))
    ((go_at_call 27; go_split_ands; refine (HC.out _ (by assumption)).mono ?_; rintro e w3 ⟨v3, rfl, ob3, hb3⟩; obtain ⟨A3, n3, c3, rfl, hn3, hm3, hr3, ho3, HN3⟩ := ob3.var; have hsz3 := Nat.le_trans hWs.out (by assumption : Below (w.heap.size + 1) W _).size; have hb4 := (by assumption : Below (w.heap.size + 1) W _).trans (hb3.mono (Nat.le_of_lt hsz3)); have hf4 := HasFree.below (by assumption) hb3 hsz3; have hf5 := hide hf4; have hf6 := hf4; obtain ⟨⟨u0, q0⟩, ⟨u1, q1⟩, q2, q3⟩ := hf6))
  all_goals
    have x0 : ((w3.setCell ⟨w.heap.size + 1, 0, none⟩ (.int .i64 id)).setCell ⟨w.heap.size + 1, 1, none⟩ (.slice A3 n3 c3)).cell? ⟨w.heap.size + 1, 0, none⟩ = some (.int .i64 id) := by
      rw [World.cell?_setCell_other _ _ _ _ (by simp)]
      exact World.cell?_setCell_same _ _ _ q0
    have x1 : ((w3.setCell ⟨w.heap.size + 1, 0, none⟩ (.int .i64 id)).setCell ⟨w.heap.size + 1, 1, none⟩ (.slice A3 n3 c3)).cell? ⟨w.heap.size + 1, 1, none⟩ = some (.slice A3 n3 c3) :=
      World.cell?_setCell_same _ _ _ ((World.cell?_setCell_other w3 ⟨w.heap.size + 1, 0, none⟩ _ _ (by simp)).trans q1)
    have ho4 := ownsRow_setCell_below (ownsRow_setCell_below ho3 (a := ⟨w.heap.size + 1, 0, none⟩) hsz3 (.int .i64 id)) (a := ⟨w.heap.size + 1, 1, none⟩) hsz3 (.slice A3 n3 c3)
    have hb5 := hide (HB1.out.trans (((hb4.setCell (p := ⟨w.heap.size + 1, 0, none⟩) (Nat.le_refl _) (.int .i64 id)).setCell (p := ⟨w.heap.size + 1, 1, none⟩) (Nat.le_refl _) (.slice A3 n3 c3)).mono (Nat.le_succ _)))
    have HN : Hid (n3 = T - F) := by show _ = _; rw [HN3.out]; simpa using HR.out.len
    clear hS HC q0 q1 q2 q3 hf4 hf5 hb4
    go_wp2
    refine bodyPost_ret (v := .agg #[.int .i64 id, .slice A3 n3 c3]) (by simp [results, Try.results26, go_sem, x0, x1]) rfl ?_
    exact ⟨A3, n3, c3, rfl, hn3, hm3, HN, Rd.of_own ho4, fun b hb => Nat.le_trans (by omega) (ho4.lt b hb).1, hb5.out⟩

set_option maxRecDepth 100000 in
theorem part2_any (id : Int) (F T : Nat) (w : World) :
    Calls Try.prog 29 #[.agg #[.int .i64 id, .int .i64 (F : Int), .int .i64 (T : Int)]] w fun e w' => e = .returned (.agg #[.int .i64 (F : Int), .int .i64 (T : Int)]) ∧ Below w.heap.size w w' := by
  go_enter Try.func29, Try.ntmps29
  go_wp2
  refine bodyPost_ret (v := .agg #[.int .i64 (F : Int), .int .i64 (T : Int)]) (by simp [results, Try.results29, go_sem]) rfl ⟨rfl, ?_⟩
  exact ((Below.refl w.heap.size w).alloc (Nat.le_refl _) _).alloc (by simp) _
end Go.Proofs.Ytgfeimlieibjhaa
