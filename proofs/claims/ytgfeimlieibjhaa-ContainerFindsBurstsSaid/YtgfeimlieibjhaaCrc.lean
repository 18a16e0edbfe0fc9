/- What the functions of package crc return: one contract a function. -/
import Derived.Test.YtgfeimlieibjhaaBase
import Derived.Test.YtgfeimlieibjhaaCrcM
import Derived.Test.YtgfeimlieibjhaaProg
import Derived.Laws.BitsAllLaws
import Derived.Laws.Rows
import Derived.Laws.Tables
import Derived.Deep.WholeRow
import Derived.Laws.CopyOwn
import Derived.WalkKit
import Derived.Outline
set_option linter.unusedVariables false
namespace Go.Proofs.Ytgfeimlieibjhaa
open Go.RowKit

/-! ### a whole array into the block that was made last -/
theorem wpList_store_new {P : Program} {ops : Array Oper} {rest : List Oper} {o : Oper} {a : Act} {w : World} {Q : Exit → Act → World → Prop} (hgd : o.guard = none) (ty : TypeId) (x y : Operand) (ho : o.op = .store ty x y)
    (t : TypeId) (c c' : Array Value) (hx : a.eval x = .pointer (some ⟨w.heap.size, 0, none⟩)) (hy : a.eval y = .agg c')
    (hi : (P.info? ty).map (·.size) = some c'.size) (hold : c.size = c'.size) (h1 : c'.all (·.oneCell') = true)
    (h : wpList P ops Q rest (a.put o.dst undef) (w.alloc (.cells c' t))) : wpList P ops Q (o :: rest) a (w.alloc (.cells c t)) :=
  wpList_store_row hgd ty x y ho w.heap.size c' hx hy t c (heap_alloc_last w _) hi hold h1 (by rw [World.setRow_alloc_new]; exact h)

/-! ### a byte's eight shifts -/
theorem u32_and1 (x : Nat) (hx : x < 4294967296) : bits .and .u32 (x : Int) 1 = ((x % 2 : Nat) : Int) := by
  rw [show ((1 : Int)) = ((1 : Nat) : Int) from rfl, u32_and_nat x 1 hx (by omega), Nat.and_one_is_mod]
theorem u32_ones (x : Nat) (hx : x < 4294967296) : bits .and .u32 (x : Int) 4294967295 = (x : Int) := by
  rw [show ((4294967295 : Int)) = ((4294967295 : Nat) : Int) from rfl, u32_and_nat x _ hx (by omega)]
  congr 1
  have h : (4294967295 : Nat) = 2 ^ 32 - 1 := by decide
  rw [h, Nat.and_two_pow_sub_one_eq_mod]
  exact Nat.mod_eq_of_lt (by omega)
theorem u32_none (x : Nat) (hx : x < 4294967296) : bits .and .u32 (x : Int) 0 = 0 := by
  rw [show ((0 : Int)) = ((0 : Nat) : Int) from rfl, u32_and_nat x 0 hx (by omega), Nat.and_zero]
theorem maskCode (x : Nat) (hx : x < 4294967296) :
    bits .xor .u32 ((x : Int) / 2) (bits .and .u32 3988292384 (-bits .and .u32 (x : Int) 1 % 4294967296)) = ((sh x : Nat) : Int) := by
  have e2 : (x : Int) / 2 = ((x / 2 : Nat) : Int) := by omega
  have e3 : (3988292384 : Int) = ((3988292384 : Nat) : Int) := rfl
  rw [u32_and1 x hx, e2]
  unfold sh
  by_cases h : x % 2 = 1
  · rw [if_pos h, show -((x % 2 : Nat) : Int) % 4294967296 = 4294967295 by omega, e3, u32_ones _ (by omega), u32_xor_nat _ _ (by omega) (by omega)]
  · rw [if_neg h, show -((x % 2 : Nat) : Int) % 4294967296 = 0 by omega, e3, u32_none _ (by omega), show ((0 : Int)) = ((0 : Nat) : Int) from rfl, u32_xor_nat _ _ (by omega) (by omega), Nat.xor_zero]

set_option maxHeartbeats 400000 in
theorem afterByte_any (s : Nat) (w : World) (hs : s < 4294967296) :
    Calls Try.prog 53 #[.int .u32 (s : Int)] w fun e w' => e = .returned (.int .u32 ((shN 8 s : Nat) : Int)) ∧ w = w' := by
  go_enter Try.func53, Try.ntmps53
  go_wp2
  go_loop [0, 4] (fun t i => ∃ k x : Nat, k ≤ 8 ∧ i = .int .i64 (k : Int) ∧ t = .int .u32 (x : Int) ∧ x < 4294967296 ∧ Hid (shN (8 - k) x = shN 8 s)) (fun _ i => 8 - (intOf i).toNat)
  case atStart => exact ⟨0, s, by omega, rfl, rfl, hs, rfl⟩
  case round =>
    obtain ⟨k, x, hk, rfl, rfl, hx, H⟩ := hrel
    by_cases hlt : k < 8
    · have hc := hide (maskCode x hx)
      go_wp2
      go_round
      case rel =>
        refine ⟨k + 1, sh x, by omega, by go_num, by rw [hc.out], sh_lt hx, ?_⟩
        have := H.out
        rw [show 8 - k = (8 - (k + 1)) + 1 by omega] at this
        exact this
      case measure => simp [intOf]; omega
    · obtain rfl : k = 8 := by omega
      go_wp2
      go_ret
      exact ⟨congrArg (fun n : Nat => Ending.returned (.int .u32 (n : Int))) H.out, rfl⟩

/-! ### the table -/
def tabTo : Nat → Array Value
  | 0 => Array.replicate 256 (.int .u32 0)
  | k + 1 => (tabTo k).setIfInBounds k (.int .u32 ((shN 8 k : Nat) : Int))
theorem tabTo_up (k : Nat) : (tabTo k).setIfInBounds k (.int .u32 ((shN 8 k : Nat) : Int)) = tabTo (k + 1) := rfl
theorem tabTo_size (k : Nat) : (tabTo k).size = 256 := by
  induction k with
  | zero => simp [tabTo]
  | succ k ih => rw [tabTo, Array.size_setIfInBounds, ih]
theorem tabTo_at (k : Nat) : ∀ j, j < 256 → (tabTo k)[j]? = some (.int .u32 (if j < k then ((shN 8 j : Nat) : Int) else 0)) := by
  induction k with
  | zero => intro j hj; simp [tabTo, hj]
  | succ k ih =>
    intro j hj
    rw [tabTo, Array.getElem?_setIfInBounds, tabTo_size]
    by_cases h : k = j
    · subst h
      rw [if_pos rfl, if_pos hj, if_pos (by omega)]
    · rw [if_neg h, ih j hj]
      by_cases h2 : j < k
      · rw [if_pos h2, if_pos (by omega)]
      · rw [if_neg h2, if_neg (by omega)]
theorem tabTo_one (k : Nat) : (tabTo k).all (·.oneCell') = true := by
  rw [Array.all_eq_true_iff_forall_mem]
  intro v hv
  obtain ⟨j, hj, rfl⟩ := Array.mem_iff_getElem.1 hv
  rw [tabTo_size] at hj
  have := tabTo_at k j hj
  rw [Array.getElem?_eq_getElem (by rw [tabTo_size]; exact hj)] at this
  injection this with this
  rw [this]
  rfl
theorem zeroTab : (Try.prog.info? 90).map (fun i => (i.zero, i.size)) = some (some (.agg (Array.replicate 256 (.int .u32 0))), 256) := by kernel_rfl
theorem sizeTab (k : Nat) : (Try.prog.info? 90).map (·.size) = some (tabTo k).size := by rw [tabTo_size]; exact (zero_of_info zeroTab).2

set_option maxRecDepth 100000 in
set_option maxHeartbeats 2000000 in
theorem states_any (w : World) :
    Calls Try.prog 48 #[] w fun e w' => e = .returned (.agg (tabTo 256)) ∧ Below w.heap.size w w' := by
  have hz := (zero_of_info zeroTab).1
  have hz0 : (Array.replicate 256 (Value.int .u32 0)) = tabTo 0 := rfl
  rw [hz0] at hz
  clear hz0
  go_enter Try.func48, Try.ntmps48
  go_wp2
  go_loopw [3] (fun i wr => ∃ k : Nat, k ≤ 256 ∧ i = .int .u32 (k : Int) ∧ wr = (w.alloc (.cells (tabTo 0) 90)).alloc (.cells (tabTo k) 90)) (fun i _ => 256 - (intOf i).toNat)
  case atStart => exact ⟨0, by omega, rfl, rfl⟩
  case round =>
    obtain ⟨k, hk, rfl, rfl⟩ := hrel
    by_cases hlt : k < 256
    · have hcell := tabTo_at k k hlt
      have hup := hide (tabTo_up k)
      go_wp2_with (go_at_call 53; refine (afterByte_any k _ (by omega)).mono ?_; rintro e w' ⟨rfl, rfl⟩)
      go_roundw
      case rel => exact ⟨k + 1, by omega, by go_num, by rw [hup.out]⟩
      case measure => simp [intOf]; omega
    · obtain rfl : k = 256 := by omega
      go_wp2_with (first
        | (refine wpList_load_row rfl 90 _ rfl (w.heap.size + 1) rfl _ (tabTo 256) (0, 0) _ (heap_alloc2_new w _ _) Try.underlying90 rfl (sizeTab 256) ?_)
        | (refine wpList_store_row rfl 90 _ _ rfl w.heap.size (tabTo 256) rfl rfl _ (tabTo 0) (heap_alloc2_old w _ _) (sizeTab 256) (by rw [tabTo_size, tabTo_size]) (tabTo_one 256) ?_))
      have hb := below_setRow (((Below.refl w.heap.size w).alloc (Nat.le_refl _) (.cells (tabTo 0) 90)).alloc (by simp) (.cells (tabTo 256) 90)) (Nat.le_refl _) (tabTo 256)
      refine bodyPost_ret (results_cell_row rfl _ _ w.heap.size _ (tabTo 256) (0, 0) _ rfl (setRow_heap _ _ _ _ _ _ (heap_alloc2_old w _ _)) Try.underlying90 rfl (sizeTab 256)) rfl ⟨rfl, hb⟩
end Go.Proofs.Ytgfeimlieibjhaa
