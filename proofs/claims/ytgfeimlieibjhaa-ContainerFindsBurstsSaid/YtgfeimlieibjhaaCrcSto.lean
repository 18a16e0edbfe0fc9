/- What crc.stored returns: the four bytes of a checksum, as an array. -/
import Derived.Test.YtgfeimlieibjhaaCrc
set_option linter.unusedVariables false
namespace Go.Proofs.Ytgfeimlieibjhaa
open Go.RowKit

def stoTo (s : Nat) : Nat → Array Value
  | 0 => #[.int .u8 0, .int .u8 0, .int .u8 0, .int .u8 0]
  | k + 1 => (stoTo s k).setIfInBounds k (.int .u8 ((s / 2 ^ (8 * k) % 256 : Nat) : Int))
theorem stoTo_up (s k : Nat) : (stoTo s k).setIfInBounds k (.int .u8 ((s / 2 ^ (8 * k) % 256 : Nat) : Int)) = stoTo s (k + 1) := rfl
theorem stoTo_four (s : Nat) : stoTo s 4 = (u8s (sto s)).toArray := by simp [stoTo, sto, u8s]
theorem stoTo_size (s k : Nat) : (stoTo s k).size = 4 := by
  induction k with
  | zero => rfl
  | succ k ih => rw [stoTo, Array.size_setIfInBounds, ih]
theorem stoTo_at (s k j : Nat) (hj : j < 4) : ∃ v, (stoTo s k)[j]? = some v := ⟨_, Array.getElem?_eq_getElem (by rw [stoTo_size]; exact hj)⟩
theorem stoTo_one (s : Nat) : (stoTo s 4).all (·.oneCell') = true := by rw [stoTo_four]; simp [u8s, sto, Value.oneCell']
theorem infoSto : (Try.prog.info? 75).map (·.size) = some 4 := by kernel_rfl
theorem sizeSto (s k : Nat) : (Try.prog.info? 75).map (·.size) = some (stoTo s k).size := by rw [stoTo_size]; exact infoSto

theorem stoB_size (s : Nat) : (u8s (sto s)).toArray.size = 4 := rfl
theorem sizeStoB (s : Nat) : (Try.prog.info? 75).map (·.size) = some (u8s (sto s)).toArray.size := by rw [stoB_size]; exact infoSto
theorem stoB_one (s : Nat) : (u8s (sto s)).toArray.all (·.oneCell') = true := by simp [u8s, sto, Value.oneCell']

set_option maxRecDepth 100000 in
set_option maxHeartbeats 2000000 in
theorem stored_any (s : Nat) (w : World) (hs : s < 4294967296) :
    Calls Try.prog 35 #[.int .u32 (s : Int)] w fun e w' => e = .returned (.agg (u8s (sto s)).toArray) ∧ Below w.heap.size w w' := by
  go_enter Try.func35, Try.ntmps35
  go_wp2
  go_loopw [5] (fun i wr => ∃ k : Nat, k ≤ 4 ∧ i = .int .i64 (k : Int) ∧ wr = (w.alloc (.cells (stoTo s 0) 75)).alloc (.cells (stoTo s k) 75)) (fun i _ => 4 - (intOf i).toNat)
  case atStart => exact ⟨0, by omega, rfl, rfl⟩
  case round =>
    obtain ⟨k, hk, rfl, rfl⟩ := hrel
    by_cases hlt : k < 4
    · obtain ⟨v, hcell⟩ := stoTo_at s k k hlt
      have he := hide (show ((s / 2 ^ (8 * k) % 256 : Nat) : Int) = (s : Int) / 2 ^ (8 * k) % 256 by simp)
      have hup := hide (stoTo_up s k)
      go_wp2
      go_roundw
      case rel => exact ⟨k + 1, by omega, by go_num, by rw [← hup.out, he.out]⟩
      case measure => simp [intOf]; omega
    · obtain rfl : k = 4 := by omega
      go_wp2_with (first
        | (refine wpList_load_row rfl 75 _ rfl (w.heap.size + 1) rfl _ (stoTo s 4) (0, 0) _ (heap_alloc2_new w _ _) Try.underlying75 rfl (sizeSto s 4) ?_)
        | (refine wpList_store_row rfl 75 _ _ rfl w.heap.size (stoTo s 4) rfl rfl _ (stoTo s 0) (heap_alloc2_old w _ _) (sizeSto s 4) (by rw [stoTo_size, stoTo_size]) (stoTo_one s) ?_))
      have hb := below_setRow (((Below.refl w.heap.size w).alloc (Nat.le_refl _) (.cells (stoTo s 0) 75)).alloc (by simp) (.cells (stoTo s 4) 75)) (Nat.le_refl _) (stoTo s 4)
      have he4 := hide (stoTo_four s)
      refine bodyPost_ret (results_cell_row rfl _ _ w.heap.size _ (stoTo s 4) (0, 0) _ rfl (setRow_heap _ _ _ _ _ _ (heap_alloc2_old w _ _)) Try.underlying75 rfl (sizeSto s 4)) rfl ⟨by rw [he4.out], hb⟩
end Go.Proofs.Ytgfeimlieibjhaa
