/- What the functions of package varint, and the library's functions that they and the statements call, return: one contract a function. -/
import Derived.Test.YtbdimnncobpfdaaGreatBase
import Derived.Test.YtbdimnncobpfdaaGreatOwn
import Derived.Test.YtbdimnncobpfdaaGreatVarM
import Derived.Test.YtbdimnncobpfdaaGreatProg
import Derived.Test.YtbdimnncobpfdaaGreatLen
import Derived.RangeFuncBox
import Derived.RangeFuncLeaves
import Derived.Shelf.Abstract
import Derived.WalkKit
import Derived.OwnWalkIn
import Derived.TacticsInMore
import Derived.LoopNIn
import Derived.LoopIn
import Derived.Maps.AppendAt
import Derived.Outline
set_option linter.unusedVariables false
namespace Go.Proofs.YtbdimnncobpfdaaGreat
open Go.RowKit

/-! ### package varint -/
def vlen (n : Int) : Int := (vput n.toNat).length
theorem vlen_lo (n : Int) : 1 ≤ vlen n := by have := vput_pos n.toNat; unfold vlen; omega
theorem vlen_hi (n : Int) (h1 : n ≤ 18446744073709551615) : vlen n ≤ 10 := by
  have := vput_le10 (a := n.toNat) (by omega)
  unfold vlen; omega
theorem or1 (n : Int) (h0 : 0 ≤ n) (h1 : n ≤ 18446744073709551615) : bits .or .u64 n 1 = ((n.toNat ||| 1 : Nat) : Int) := by
  obtain ⟨a, rfl⟩ := Int.eq_ofNat_of_zero_le h0
  exact (bits_nat .u64 64 (by decide) wrapsU64 a 1 (by omega) (by decide)).2

/-- zigzag -/
def zz (n : Int) : Int := if n < 0 then -2 * n - 1 else 2 * n
def uz (u : Int) : Int := if u % 2 = 0 then u / 2 else -(u / 2) - 1
theorem zz_lo (n : Int) : 0 ≤ zz n := by unfold zz; split <;> omega
theorem zz_hi (n : Int) (h0 : -9223372036854775808 ≤ n) (h1 : n ≤ 9223372036854775807) : zz n ≤ 18446744073709551615 := by unfold zz; split <;> omega
theorem uz_lo (n : Int) (h0 : 0 ≤ n) (h1 : n ≤ 18446744073709551615) : -9223372036854775808 ≤ uz n := by unfold uz; split <;> omega
theorem uz_hi (n : Int) (h0 : 0 ≤ n) (h1 : n ≤ 18446744073709551615) : uz n ≤ 9223372036854775807 := by unfold uz; split <;> omega
theorem uz_zz (n : Int) : uz (zz n) = n := by unfold uz zz; split <;> split <;> omega
theorem zz_uz (n : Int) (h : 0 ≤ n) : zz (uz n) = n := by unfold uz zz; split <;> split <;> omega
theorem xor0 (x : Int) (h0 : 0 ≤ x) (h1 : x < 18446744073709551616) : bits .xor .u64 x 0 = x := by
  obtain ⟨a, rfl⟩ := Int.eq_ofNat_of_zero_le h0
  simp only [bits]
  have : (BitVec.ofInt IntKind.u64.bits (a : Int) ^^^ BitVec.ofInt IntKind.u64.bits 0) = BitVec.ofInt IntKind.u64.bits (a : Int) := by simp
  rw [this, BitVec.ofInt_natCast, BitVec.toNat_ofNat, Nat.mod_eq_of_lt (by simp [IntKind.bits]; omega)]
  exact wrapsU64 _ (by omega) (by omega)
theorem xor1 (x : Int) (h0 : 0 ≤ x) (h1 : x < 18446744073709551616) : bits .xor .u64 x 18446744073709551615 = 18446744073709551615 - x := by
  obtain ⟨a, rfl⟩ := Int.eq_ofNat_of_zero_le h0
  simp only [bits]
  have : (BitVec.ofInt IntKind.u64.bits (a : Int) ^^^ BitVec.ofInt IntKind.u64.bits 18446744073709551615) = ~~~ (BitVec.ofInt IntKind.u64.bits (a : Int)) := by
    have : BitVec.ofInt IntKind.u64.bits 18446744073709551615 = BitVec.allOnes 64 := by show BitVec.ofInt 64 18446744073709551615 = BitVec.allOnes 64; decide
    rw [this]; exact BitVec.xor_allOnes
  rw [this, BitVec.ofInt_natCast, BitVec.toNat_not, BitVec.toNat_ofNat, Nat.mod_eq_of_lt (by simp [IntKind.bits]; omega)]
  rw [wrapsU64 _ (by omega) (by simp [IntKind.bits]; omega)]
  simp [IntKind.bits]
  omega
theorem zzCode (n : Int) (h0 : -9223372036854775808 ≤ n) (h1 : n ≤ 9223372036854775807) :
    bits .xor .u64 (IntKind.u64.wrap (wrap64 (n * 2))) (IntKind.u64.wrap (n / 9223372036854775808)) = zz n := by
  have e : IntKind.u64.wrap (wrap64 (n * 2)) = (2 * n) % 18446744073709551616 := by rw [wrapU64]; unfold wrap64; omega
  rw [e, wrapU64]
  unfold zz
  by_cases h : n < 0
  · rw [if_pos h, show n / 9223372036854775808 % 18446744073709551616 = 18446744073709551615 by omega, xor1 _ (by omega) (by omega)]
    omega
  · rw [if_neg h, show n / 9223372036854775808 % 18446744073709551616 = 0 by omega, xor0 _ (by omega) (by omega)]
    omega
theorem and1 (n : Int) (h0 : 0 ≤ n) (h1 : n ≤ 18446744073709551615) : bits .and .u64 n 1 = n % 2 := by
  obtain ⟨a, rfl⟩ := Int.eq_ofNat_of_zero_le h0
  rw [show ((1 : Int)) = ((1 : Nat) : Int) from rfl, (bits_nat .u64 64 (by decide) wrapsU64 a 1 (by omega) (by decide)).1, Nat.and_one_is_mod]
  omega
theorem xorI0 (x : Int) (h0 : -9223372036854775808 ≤ x) (h1 : x ≤ 9223372036854775807) : bits .xor .i64 x 0 = x := by
  simp only [bits]
  have : (BitVec.ofInt IntKind.i64.bits x ^^^ BitVec.ofInt IntKind.i64.bits 0) = BitVec.ofInt IntKind.i64.bits x := by simp
  rw [this, IntKind.wrap_i64]
  simp only [IntKind.bits, BitVec.toNat_ofInt]
  omega
theorem xorI1 (x : Int) (h0 : -9223372036854775808 ≤ x) (h1 : x ≤ 9223372036854775807) : bits .xor .i64 x (-1) = -x - 1 := by
  simp only [bits]
  have : (BitVec.ofInt IntKind.i64.bits x ^^^ BitVec.ofInt IntKind.i64.bits (-1)) = ~~~ (BitVec.ofInt IntKind.i64.bits x) := by
    have : BitVec.ofInt IntKind.i64.bits (-1) = BitVec.allOnes 64 := by show BitVec.ofInt 64 (-1) = BitVec.allOnes 64; decide
    rw [this]; exact BitVec.xor_allOnes
  rw [this, IntKind.wrap_i64, BitVec.toNat_not]
  simp only [IntKind.bits, BitVec.toNat_ofInt]
  omega
theorem uzCode (n : Int) (h0 : 0 ≤ n) (h1 : n ≤ 18446744073709551615) :
    bits .xor .i64 (n / 2) (wrap64 (-wrap64 (bits .and .u64 n 1))) = uz n := by
  rw [and1 n h0 h1]
  unfold uz
  by_cases h : n % 2 = 0
  · rw [if_pos h, show wrap64 (-wrap64 (n % 2)) = 0 by unfold wrap64; omega, xorI0 _ (by omega) (by omega)]
  · rw [if_neg h, show wrap64 (-wrap64 (n % 2)) = -1 by unfold wrap64; omega, xorI1 _ (by omega) (by omega)]
end Go.Proofs.YtbdimnncobpfdaaGreat
