/- What varint.Get returns. -/
import Derived.Test.YtbdimnncobpfdaaGreatVar
set_option linter.unusedVariables false
namespace Go.Proofs.YtbdimnncobpfdaaGreat
open Go.RowKit

/-- what Get returns -/
def gRes (xs : List Int) (at_ : Int) : Value := .tuple #[.int .u64 (gN xs at_), .int .i64 (gT xs at_), .int .i64 (gE xs at_)]
theorem gRes_ok (xs : List Int) (a : Nat) {n l : Nat} (hk : a ≤ xs.length) (h : vgo (xs.drop a) 0 0 = (n, l, 0)) : gN xs a = n ∧ gT xs a = (a : Int) + l ∧ gE xs a = 0 := by
  unfold gN gT gE vget
  rw [if_neg (by omega), Int.toNat_natCast, h]
  simp
theorem gRes_err (xs : List Int) (a : Nat) {n l e : Nat} (hk : a ≤ xs.length) (h : vgo (xs.drop a) 0 0 = (n, l, e)) (he : e ≠ 0) : gRes xs a = .tuple #[.int .u64 0, .int .i64 0, .int .i64 e] := by
  unfold gRes gN gT gE vget
  rw [if_neg (by omega), Int.toNat_natCast, h]
  simp [he]

theorem andNotAll : ∀ a : Fin 256, bits .andNot .u8 (a.val : Int) 128 = ((a.val % 128 : Nat) : Int) := by decide +kernel
theorem andNot128 (x : Int) (h0 : 0 ≤ x) (h1 : x < 256) : bits .andNot .u8 x 128 = x % 128 := by
  obtain ⟨r, rfl⟩ := Int.eq_ofNat_of_zero_le h0
  rw [andNotAll ⟨r, by omega⟩]
  simp
theorem andAll : ∀ a : Fin 256, bits .and .u8 (a.val : Int) 128 = ((if a.val < 128 then 0 else 128 : Nat) : Int) := by decide +kernel
theorem and128 (x : Int) (h0 : 0 ≤ x) (h1 : x < 256) : bits .and .u8 x 128 = if x < 128 then 0 else 128 := by
  obtain ⟨r, rfl⟩ := Int.eq_ofNat_of_zero_le h0
  rw [andAll ⟨r, by omega⟩]
  simp only
  split <;> split <;> first | rfl | omega
theorem pow128 (k : Nat) : 128 ^ k = 2 ^ (7 * k) := by rw [Nat.pow_mul]
/-- one more group, as the code adds it -/
theorem orGroup (acc k : Nat) (x : Int) (ha : acc < 128 ^ k) (hk : k ≤ 9) (h0 : 0 ≤ x) (h1 : x < 256) (h9 : k < 9 ∨ x ≤ 1) :
    bits .or .u64 (acc : Int) (IntKind.u64.wrap (IntKind.u64.wrap (bits .andNot .u8 x 128) * 2 ^ (7 * k))) = ((acc + (x.toNat % 128) * 128 ^ k : Nat) : Int) := by
  rw [andNot128 x h0 h1, wrapsU64 (x % 128) (by omega) (by omega)]
  obtain ⟨r, rfl⟩ := Int.eq_ofNat_of_zero_le h0
  rw [pow128] at ha ⊢
  have hs : (r % 128) * 2 ^ (7 * k) < 2 ^ 64 := by
    rcases h9 with h9 | h9
    · have h2 : 2 ^ (7 * k) ≤ 2 ^ 56 := Nat.pow_le_pow_right (by decide) (by omega)
      have h3 : (r % 128) * 2 ^ (7 * k) ≤ 127 * 2 ^ 56 := Nat.mul_le_mul (by omega) h2
      omega
    · have h2 : 2 ^ (7 * k) ≤ 2 ^ 63 := Nat.pow_le_pow_right (by decide) (by omega)
      have h3 : (r % 128) * 2 ^ (7 * k) ≤ 1 * 2 ^ 63 := Nat.mul_le_mul (by omega) h2
      omega
  have h63 : (2 : Nat) ^ (7 * k) ≤ 2 ^ 63 := Nat.pow_le_pow_right (by decide) (by omega)
  have e : ((r : Int) % 128 * 2 ^ (7 * k)) = (((r % 128) * 2 ^ (7 * k) : Nat) : Int) := by simp
  rw [e]
  generalize hg : (r % 128) * 2 ^ (7 * k) = g at *
  have hgm : (g : Int) % 2 ^ (7 * k) = 0 := by
    have : g % 2 ^ (7 * k) = 0 := by rw [← hg]; exact Nat.mul_mod_left _ _
    exact_mod_cast this
  have hacc : (acc : Int) < 2 ^ (7 * k) := by exact_mod_cast ha
  rw [wrapsU64 _ (by omega) (by omega), bitsComm, orU64 (7 * k) (g : Int) (acc : Int) (by omega) (by omega) hgm (by omega) hacc (by omega)]
  rw [Int.toNat_natCast, hg]
  omega
theorem accUp (acc k r : Nat) (ha : acc < 128 ^ k) (hr : r < 128) : acc + r * 128 ^ k < 128 ^ (k + 1) := by
  have e : 128 ^ (k + 1) = 128 ^ k * 128 := Nat.pow_succ ..
  have : r * 128 ^ k ≤ 127 * 128 ^ k := Nat.mul_le_mul_right _ (by omega)
  omega

end Go.Proofs.YtbdimnncobpfdaaGreat
