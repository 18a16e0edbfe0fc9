/- What the reference's Flip returns. -/
import Derived.Test.YtgfeimlieibjhaaCrcApp
set_option linter.unusedVariables false
namespace Go.Proofs.Ytgfeimlieibjhaa
open Go.RowKit

/-- the string that Flip returns: some of 32 consecutive bits of xs are inverted -/
def Flipped (xs : List Int) (from_ : Nat) (ys : List Int) : Prop := ys.length = xs.length ∧ Byt ys ∧ ∃ q, q < 4294967296 ∧ num ys = num xs ^^^ 2 ^ from_ * q

theorem xorPow (y : Int) (r : Nat) (hy : 0 ≤ y ∧ y < 256) (hr : r < 8) : bits .xor .u8 y (2 ^ r % 256) = ((y.toNat ^^^ 2 ^ r : Nat) : Int) := by
  have h2 : 2 ^ r < 2 ^ 8 := Nat.pow_lt_pow_right (by decide) hr
  have h : (2 : Int) ^ r = ((2 ^ r : Nat) : Int) := by simp
  rw [h]
  clear h
  generalize (2 ^ r : Nat) = t at *
  rw [show ((t : Nat) : Int) % 256 = ((t : Nat) : Int) by omega, u8_xor _ _ hy.1 hy.2 (by omega) (by omega), Int.toNat_natCast]
theorem bitCode (p k : Nat) : ((p : Int) / 2 ^ k).tmod 2 = ((p / 2 ^ k % 2 : Nat) : Int) := by
  have h : (p : Int) / 2 ^ k = ((p / 2 ^ k : Nat) : Int) := by simp
  rw [h, Int.tmod_eq_emod_of_nonneg (Int.natCast_nonneg _)]
  simp

set_option maxRecDepth 100000 in
set_option maxHeartbeats 4000000 in
theorem Flip_any (A : Option Addr) (n c : Nat) (xs : List Int) (from_ p : Nat) (w : World) (B : Nat) (hr : Rd w B A n (u8s xs)) (hB : B ≤ w.heap.size) (hx : Byt xs) (hn : n ≤ 1000000) (hf : from_ < 8 * n) (hp : p < 4294967296) :
    Calls Try.prog 19 #[.slice A n c, .int .i64 (from_ : Int), .int .u32 (p : Int)] w fun e w' => ∃ v ys, e = .returned v ∧ OwnB w w' v ys ∧ Flipped xs from_ ys ∧ Below w.heap.size w w' := by
  obtain ⟨i0, hi0, hz0, hz1, hz2⟩ := info_parts infoU8
  have hl := hide (show xs.length = n by simpa using hr.1)
  go_enter Try.func19, Try.ntmps19
  go_wp2_with (at_builtin; refine wpList_append_rd _ rfl (.tmp 10) (.tmp 11) 29 rfl w.heap.size 5 i0 (.int .u8 0) 1 Try.underlying29 hi0 hz0 hz1 hz2 rfl _ 0 [] rfl (own_empty w) B A n c (u8s xs) rfl (hr.alloc hB _) (ints_oneCell _ _) (by unfold maxLen; omega) (by omega) (by simp) ?_; intro v2 w2 hown2 hg2 hat2; have hb2 := below_app ((Below.refl w.heap.size w).alloc (Nat.le_refl _) _) (own_empty w) (by simp) hg2; clear hg2 hat2; simp only [Nat.zero_add, List.nil_append] at hown2; obtain ⟨g, cap, rfl, hcap, hgl⟩ := hown2.form (by omega))
  have hgb : w.heap.size ≤ g := hcap
  go_loopw [8] (fun i wr => ∃ (k q : Nat) (ys : List Int), i = .int .i64 (k : Int) ∧ k ≤ 32 ∧ Hid (ys.length = n) ∧ Byt ys ∧ q < 2 ^ k ∧ Hid (num ys = num xs ^^^ 2 ^ from_ * q) ∧
    wr.ownsRow w.heap.size 5 1 (.slice (some ⟨g, 0, none⟩) n cap) n (u8s ys) ∧ Below w.heap.size w wr) (fun i _ => 32 - (intOf i).toNat)
  case atStart => exact ⟨0, 0, xs, rfl, by omega, hl, hx, by omega, (show num xs = _ by rw [Nat.mul_zero, Nat.xor_zero]), hown2, hb2⟩
  case round =>
    obtain ⟨k, q, ys, rfl, hk, hly, hyb, hq, hnum, hown, hb⟩ := hrel
    by_cases hlt : k < 32
    · have hq2 := hide (show q < 2 ^ (k + 1) by rw [Nat.pow_succ]; omega)
      obtain ⟨K, hK⟩ : ∃ K : Nat, Hid (K = from_ + k) := ⟨_, rfl⟩
      have hKe : (from_ : Int) + (k : Int) = (K : Int) := by rw [hK.out]; omega
      have hK1 : K < 9000000 := by rw [hK.out]; omega
      obtain ⟨j, hj⟩ : ∃ j : Nat, Hid (j = K / 8) := ⟨_, rfl⟩
      obtain ⟨r, hr8⟩ : ∃ r : Nat, Hid (r = K % 8) := ⟨_, rfl⟩
      have hje : (K : Int) / 8 = (j : Int) := by rw [hj.out]; omega
      have hre : (K : Int) % 8 = (r : Int) := by rw [hr8.out]; omega
      have hr1 : r < 8 := by rw [hr8.out]; omega
      have Hq := hide hq
      clear hq
      by_cases hbit : p / 2 ^ k % 2 = 1
      · have hb1 : ((p : Int) / 2 ^ k).tmod 2 = 1 := by rw [bitCode, hbit]; rfl
        by_cases hjn : j < n
        · have hc := hown.cellAt j (by omega)
          have hfr := hown.frozenAt j
          obtain ⟨y, hy⟩ : ∃ y, ys[j]? = some y := ⟨_, List.getElem?_eq_getElem (by rw [hly.out]; exact hjn)⟩
          rw [List.getElem?_map, hy] at hc
          simp only [Option.map_some] at hc
          obtain ⟨y0, y1⟩ := hyb.at hy
          have hKlt : K < 8 * ys.length := by rw [hly.out]; have := hj.out; omega
          have hf1 := flip1_num (from_ := from_) (i := k) hyb (by rw [← hK.out]; exact hKlt) Hq.out hnum.out
          rw [← hK.out] at hf1
          have hnum2 := hide hf1.1
          have hq3 := hide hf1.2
          have hby2 := flip1_byt hKlt hyb
          have hly2 := hide (show (flip1 ys K).length = n by rw [flip1_len, hly.out])
          have HV := hide (xorPow y r ⟨y0, y1⟩ hr1)
          have HF := hide (show (u8s ys).set j (.int .u8 ((y.toNat ^^^ 2 ^ r : Nat) : Int)) = u8s (flip1 ys K) by
            unfold flip1 u8s
            rw [← hj.out, ← hr8.out, List.getD_eq_getElem?_getD, hy, List.map_set]
            rfl)
          have hst := (hown.stored j (.int .u8 ((y.toNat ^^^ 2 ^ r : Nat) : Int))).1
          rw [HF.out] at hst
          have hst2 := hide hst
          have hbl := hide (hb.setCell (p := ⟨g, j, none⟩) hgb (.int .u8 ((y.toNat ^^^ 2 ^ r : Nat) : Int)))
          clear hy hf1 hKlt hst
          go_wp2
          go_roundw
          case rel =>
            rw [HV.out]
            exact ⟨k + 1, q + 2 ^ k, flip1 ys K, by go_num, by omega, hly2, hby2, hq3.out, hnum2, hst2.out, hbl.out⟩
          case measure => simp [intOf]; omega
        · have hjd : decide (j < n) = false := by simpa using hjn
          go_wp2
          go_roundw
          case rel => exact ⟨k + 1, q, ys, by go_num, by omega, hly, hyb, hq2.out, hnum, hown, hb⟩
          case measure => simp [intOf]; omega
      · have hb0 : ((p : Int) / 2 ^ k).tmod 2 = 0 := by rw [bitCode, show p / 2 ^ k % 2 = 0 by omega]; rfl
        go_wp2
        go_roundw
        case rel => exact ⟨k + 1, q, ys, by go_num, by omega, hly, hyb, hq2.out, hnum, hown, hb⟩
        case measure => simp [intOf]; omega
    · obtain rfl : k = 32 := by omega
      have HF := hide (show Flipped xs from_ ys from ⟨by rw [hly.out, hl.out], hyb, q, hq, hnum.out⟩)
      have HO := hide (ownB_of (by rw [hly.out]; exact hown) : OwnB w wr (.slice (some ⟨g, 0, none⟩) n cap) ys)
      go_wp2
      go_ret
      exact ⟨_, ys, rfl, HO.out, HF.out, hb⟩
end Go.Proofs.Ytgfeimlieibjhaa
