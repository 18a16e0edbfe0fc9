/- What the reference of layer 1 returns. -/
import Derived.Test.YtbkgooeghmaokaaPut
import Derived.Test.YtbkgooeghmaokaaGet
set_option linter.unusedVariables false
namespace Go.Proofs.Ytbkgooeghmaokaa
open Go.RowKit

theorem RefZigzag_any (n : Int) (w : World) (h0 : -9223372036854775808 ≤ n) (h1 : n ≤ 9223372036854775807) :
    Calls Try.prog 58 #[.int .i64 n] w fun e w' => e = .returned (.int .u64 (zz n)) ∧ w = w' := by
  by_cases h : n < 0
  · have e : zz n = 2 * -(n + 1) + 1 := by unfold zz; rw [if_pos h]; omega
    rw [e]
    clear e
    go_enter Try.func58, Try.ntmps58
    go_wp2
    go_ret
    exact ⟨rfl, rfl⟩
  · have e : zz n = 2 * n := by unfold zz; rw [if_neg h]
    rw [e]
    clear e
    go_enter Try.func58, Try.ntmps58
    go_wp2
    go_ret
    exact ⟨rfl, rfl⟩

set_option maxHeartbeats 1000000 in
theorem RefPut_own (k : Nat) : ∀ (a : Nat) (w : World), a ≤ k → a ≤ 18446744073709551615 →
    Calls Try.prog 57 #[.int .u64 (a : Int)] w fun e W' => ∃ v, e = .returned v ∧ W'.ownsRow w.heap.size 5 1 v (vput a).length (u8s (vput a)) ∧ Below w.heap.size w W' := by
  induction k using Nat.strongRecOn with
  | _ k ih =>
    intro a w hak ha
    obtain ⟨i0, hi, hz0, hz1, hz2⟩ := info_parts infoU8
    by_cases h : a < 128
    · have hv := vput_small h
      have ht : decide ((a : Int) < 128) = true := by simp; omega
      have h8 : (a : Int) % 256 = a := by omega
      rw [hv]
      clear hv
      go_enter Try.func57, Try.ntmps57
      go_wp2_with fail
      go_ret
      exact ⟨_, rfl, World.ownsRow_lit w #[.int .u8 (a : Int)] 1 (Nat.le_refl _) (by decide) rfl, (Below.refl _ _).alloc (Nat.le_refl _) _⟩
    · have hv : vput a = ((a : Int) % 128 + 128) :: vput (a / 128) := by rw [vput_big (by omega)]; simp
      have ht : decide ((a : Int) < 128) = false := by simp; omega
      have h8 : ((a : Int) % 128 + 128) % 256 = (a : Int) % 128 + 128 := by omega
      have hl10 := vput_le10 (a := a / 128) (by omega)
      have hl1 := vput_pos (a / 128)
      rw [hv]
      clear hv
      go_enter Try.func57, Try.ntmps57
      go_wp2_with (first
        | (go_at_call 57
           have hc := ih (a / 128) (by omega) (a / 128) (w.alloc (.cells #[.int .u8 ((a : Int) % 128 + 128)] 5)) (Nat.le_refl _) (by omega)
           refine hc.mono ?_
           rintro e w1 ⟨v, rfl, ho1, hb1⟩
           have hown := ownsRow_below (World.ownsRow_lit (base := w.heap.size) (e := 5) (size := 1) w #[.int .u8 ((a : Int) % 128 + 128)] 1 (Nat.le_refl _) (by decide) rfl) hb1
           obtain ⟨g, c1, rfl, hg1, hg2⟩ := ho1.form (by omega))
        | (at_builtin; refine wpList_append_own _ rfl _ _ 41 rfl w.heap.size 5 i0 (.int .u8 0) 1 1 Try.underlying41 hi hz0 hz1 hz2 rfl (by decide) _ _ _ rfl hown ⟨g, 0, none⟩ (vput (a / 128)).length c1 (u8s (vput (a / 128))) rfl (by simp) (ho1.cells rfl) (ints_oneCell _ _) (by unfold maxLen; omega) (by omega) (by have := hb1.size; simp at this; omega) ?_; intro v2 w2 hown2 hg2' _))
      go_ret
      refine ⟨v2, rfl, by simpa [Nat.add_comm] using hown2, ?_⟩
      exact (((Below.refl _ _).alloc (Nat.le_refl _) _).trans (hb1.mono (by simp))).grown hg2' (by have := hb1.size; simp at this; omega) (fun q hq => by
        have : (Value.slice (some ⟨w.heap.size, 0, none⟩) 1 1).ownBlock = some q := hq
        have : w.heap.size = q := by simpa [Value.ownBlock] using this
        omega)

theorem RefPut_any (a : Int) (h0 : 0 ≤ a) (h1 : a ≤ 18446744073709551615) (w : World) :
    Calls Try.prog 57 #[.int .u64 a] w fun e W' => ∃ v, e = .returned v ∧ OwnB w W' v (vput a.toNat) ∧ Below w.heap.size w W' := by
  obtain ⟨a, rfl⟩ := Int.eq_ofNat_of_zero_le h0
  rw [Int.toNat_natCast]
  exact (RefPut_own a a w (Nat.le_refl _) (by omega)).mono fun e W' ⟨v, he, ho, hb⟩ => ⟨v, he, ownB_of ho, hb⟩

/-- one more group, as the reference adds it -/
theorem refGroup (acc k p : Nat) (x : Int) (hp : p = 128 ^ k) (ha : acc < p) (hk : k ≤ 9) (h0 : 0 ≤ x) (h1 : x < 256) (h9 : k < 9 ∨ x ≤ 1) :
    IntKind.u64.wrap ((acc : Int) + IntKind.u64.wrap (x % 128 * (p : Int))) = ((acc + (x.toNat % 128) * 128 ^ k : Nat) : Int) := by
  obtain ⟨r, rfl⟩ := Int.eq_ofNat_of_zero_le h0
  rw [← hp]
  have hs : (r % 128) * p ≤ 2 ^ 63 ∧ p ≤ 2 ^ 63 := by
    rcases h9 with h9 | h9
    · have h2 : p ≤ 2 ^ 56 := by
        rw [hp, pow128]
        exact Nat.pow_le_pow_right (by decide) (by omega)
      have h3 : (r % 128) * p ≤ 127 * 2 ^ 56 := Nat.mul_le_mul (by omega) h2
      omega
    · have h2 : p ≤ 2 ^ 63 := by
        rw [hp, pow128]
        exact Nat.pow_le_pow_right (by decide) (by omega)
      have h3 : (r % 128) * p ≤ 1 * 2 ^ 63 := Nat.mul_le_mul (by omega) h2
      omega
  have e : ((r : Int) % 128 * (p : Int)) = (((r % 128) * p : Nat) : Int) := by simp
  rw [e, Int.toNat_natCast]
  generalize (r % 128) * p = g at *
  rw [wrapsU64 (g : Int) (by omega) (by omega), wrapsU64 _ (by omega) (by omega)]
  omega

end Go.Proofs.Ytbkgooeghmaokaa
