/- What the reference of layer 1 returns. -/
import Derived.Test.YtgfeimlieibjhaaPut
import Derived.Test.YtgfeimlieibjhaaGet
set_option linter.unusedVariables false
namespace Go.Proofs.Ytgfeimlieibjhaa
open Go.RowKit

set_option maxHeartbeats 1000000 in
theorem RefPut_own (k : Nat) : ∀ (a : Nat) (w : World), a ≤ k → a ≤ 18446744073709551615 →
    Calls Try.prog 23 #[.int .u64 (a : Int)] w fun e W' => ∃ v, e = .returned v ∧ W'.ownsRow w.heap.size 5 1 v (vput a).length (u8s (vput a)) ∧ Below w.heap.size w W' := by
  induction k using Nat.strongRecOn with
  | _ k ih =>
    intro a w hak ha
    obtain ⟨i0, hi, hz0, hz1, hz2⟩ := info_parts infoU8
    by_cases h : a < 128
    · have hv := vput_small h
      have ht : decide ((a : Int) < 128) = true := by simp; omega
      have h8 : (a : Int) % 256 = a := by omega
      rw [hv]
      clear hv
      go_enter Try.func23, Try.ntmps23
      go_wp2_with fail
      go_ret
      exact ⟨_, rfl, World.ownsRow_lit w #[.int .u8 (a : Int)] 1 (Nat.le_refl _) (by decide) rfl, (Below.refl _ _).alloc (Nat.le_refl _) _⟩
    · have hv : vput a = ((a : Int) % 128 + 128) :: vput (a / 128) := by rw [vput_big (by omega)]; simp
      have ht : decide ((a : Int) < 128) = false := by simp; omega
      have h8 : ((a : Int) % 128 + 128) % 256 = (a : Int) % 128 + 128 := by omega
      have hl10 := vput_le10 (a := a / 128) (by omega)
      have hl1 := vput_pos (a / 128)
      rw [hv]
      clear hv
      go_enter Try.func23, Try.ntmps23
      go_wp2_with (first
        | (go_at_call 23
           have hc := ih (a / 128) (by omega) (a / 128) (w.alloc (.cells #[.int .u8 ((a : Int) % 128 + 128)] 5)) (Nat.le_refl _) (by omega)
           refine hc.mono ?_
           rintro e w1 ⟨v, rfl, ho1, hb1⟩
           have hown := ownsRow_below (World.ownsRow_lit (base := w.heap.size) (e := 5) (size := 1) w #[.int .u8 ((a : Int) % 128 + 128)] 1 (Nat.le_refl _) (by decide) rfl) hb1
           obtain ⟨g, c1, rfl, hg1, hg2⟩ := ho1.form (by omega))
        | (at_builtin; refine wpList_append_own _ rfl _ _ 29 rfl w.heap.size 5 i0 (.int .u8 0) 1 1 Try.underlying29 hi hz0 hz1 hz2 rfl (by decide) _ _ _ rfl hown ⟨g, 0, none⟩ (vput (a / 128)).length c1 (u8s (vput (a / 128))) rfl (by simp) (ho1.cells rfl) (ints_oneCell _ _) (by unfold maxLen; omega) (by omega) (by have := hb1.size; simp at this; omega) ?_; intro v2 w2 hown2 hg2' _))
      go_ret
      refine ⟨v2, rfl, by simpa [Nat.add_comm] using hown2, ?_⟩
      exact (((Below.refl _ _).alloc (Nat.le_refl _) _).trans (hb1.mono (by simp))).grown hg2' (by have := hb1.size; simp at this; omega) (fun q hq => by
        have : (Value.slice (some ⟨w.heap.size, 0, none⟩) 1 1).ownBlock = some q := hq
        have : w.heap.size = q := by simpa [Value.ownBlock] using this
        omega)

theorem RefPut_any (a : Int) (h0 : 0 ≤ a) (h1 : a ≤ 18446744073709551615) (w : World) :
    Calls Try.prog 23 #[.int .u64 a] w fun e W' => ∃ v, e = .returned v ∧ OwnB w W' v (vput a.toNat) ∧ Below w.heap.size w W' := by
  obtain ⟨a, rfl⟩ := Int.eq_ofNat_of_zero_le h0
  rw [Int.toNat_natCast]
  exact (RefPut_own a a w (Nat.le_refl _) (by omega)).mono fun e W' ⟨v, he, ho, hb⟩ => ⟨v, he, ownB_of ho, hb⟩

set_option maxHeartbeats 1000000 in
theorem RefGet_out {B : Nat} (A : Option Addr) (n c : Nat) (at_ : Int) (xs : List Int) (w : World) (hx : Rd w B A n (u8s xs)) (hn : n ≤ maxLen) (h : at_ < 0 ∨ (n : Int) < at_) :
    Calls Try.prog 30 #[.slice A n c, .int .i64 at_] w fun e w' => e = .returned (gRes xs at_) ∧ w = w' := by
  have hl : xs.length = n := by simpa using hx.1
  have HR : Hid (gRes xs at_ = .tuple #[.int .u64 0, .int .i64 0, .int .i64 2]) := by
    show _ = _
    unfold gRes gN gT gE vget
    rw [if_pos (by omega)]
  unfold maxLen at hn
  rcases h with h | h
  · go_enter Try.func30, Try.ntmps30
    go_wp2
    go_ret3
    exact ⟨congrArg Ending.returned HR.out.symm, rfl⟩
  · have h' : ¬ at_ < 0 := by omega
    go_enter Try.func30, Try.ntmps30
    go_wp2
    go_ret3
    exact ⟨congrArg Ending.returned HR.out.symm, rfl⟩

/-- one more group, as the reference adds it -/
theorem refGroup (acc k p : Nat) (x : Int) (hp : p = 128 ^ k) (ha : acc < p) (hk : k ≤ 9) (h0 : 0 ≤ x) (h1 : x < 256) (h9 : k < 9 ∨ x ≤ 1) :
    IntKind.u64.wrap ((acc : Int) + IntKind.u64.wrap (x % 128 * (p : Int))) = ((acc + (x.toNat % 128) * 128 ^ k : Nat) : Int) := by
  obtain ⟨r, rfl⟩ := Int.eq_ofNat_of_zero_le h0
  rw [← hp]
  have hs : (r % 128) * p ≤ 2 ^ 63 ∧ p ≤ 2 ^ 63 := by
    rcases h9 with h9 | h9
    · have h2 : p ≤ 2 ^ 56 := by
        rw [hp, pow128]
        exact Nat.pow_le_pow_right (by decide) (by omega)
      have h3 : (r % 128) * p ≤ 127 * 2 ^ 56 := Nat.mul_le_mul (by omega) h2
      omega
    · have h2 : p ≤ 2 ^ 63 := by
        rw [hp, pow128]
        exact Nat.pow_le_pow_right (by decide) (by omega)
      have h3 : (r % 128) * p ≤ 1 * 2 ^ 63 := Nat.mul_le_mul (by omega) h2
      omega
  have e : ((r : Int) % 128 * (p : Int)) = (((r % 128) * p : Nat) : Int) := by simp
  rw [e, Int.toNat_natCast]
  generalize (r % 128) * p = g at *
  rw [wrapsU64 (g : Int) (by omega) (by omega), wrapsU64 _ (by omega) (by omega)]
  omega

set_option maxHeartbeats 2000000 in
theorem RefGet_in {B : Nat} (A : Option Addr) (n c a : Nat) (xs : List Int) (w : World) (hx : Rd w B A n (u8s xs)) (bx : Byt xs) (hn : n ≤ maxLen) (ha : a ≤ n) :
    Calls Try.prog 30 #[.slice A n c, .int .i64 a] w fun e w' => e = .returned (gRes xs a) ∧ w = w' := by
  have hl : xs.length = n := by simpa using hx.1
  unfold maxLen at hn
  have t1 : decide ((a : Int) < 0) = false := by simp
  have t2 : decide ((n : Int) < (a : Int)) = false := by simp; omega
  go_enter Try.func30, Try.ntmps30
  go_wp2
  go_loop [7, 8, 9] (fun v u i => ∃ k acc p : Nat, i = .int .i64 (k : Int) ∧ u = .int .u64 (p : Int) ∧ Hid (p = 128 ^ k) ∧ p ≤ 9223372036854775808 ∧ v = .int .u64 (acc : Int) ∧ acc < p ∧ k ≤ 9 ∧ k ≤ n - a ∧ Hid (vgo (xs.drop a) 0 0 = vgo (xs.drop (a + k)) k acc)) (fun _ _ i => n - (intOf i).toNat)
  case atStart => exact ⟨0, 0, 1, rfl, rfl, rfl, by omega, rfl, by omega, by omega, by omega, rfl⟩
  case round =>
    obtain ⟨k, acc, p, rfl, rfl, hp, hp63, rfl, hacc, hk9, hkn, H⟩ := hrel
    by_cases hk : k < n - a
    · have hex : ∃ x, xs[a + k]? = some x := ⟨_, List.getElem?_eq_getElem (by omega)⟩
      obtain ⟨x, hxk⟩ := hex
      obtain ⟨b, o, rfl, _, hcell⟩ := hx.cell (k := a + k) (u := .int .u8 x) (by simp [hxk])
      have hxb := bx.at hxk
      have hd : xs.drop (a + k) = x :: xs.drop (a + (k + 1)) := by
        have h' := List.getElem?_eq_some_iff.1 hxk
        rw [List.drop_eq_getElem_cons h'.1, h'.2]; rfl
      have HV := hide (H.out.trans (congrArg (fun l => vgo l k acc) hd))
      clear H hd hxk
      have g1 : ¬ ((n : Int) - (a : Int) ≤ (k : Int)) := by omega
      by_cases hov : k = 9 ∧ 1 < x
      · have HR := hide (gRes_err xs a (n := 0) (l := 0) (e := 6) (by omega) (by rw [HV.out]; simp only [vgo]; rw [if_pos hov]) (by decide))
        have h9' : ((k : Int) == 9) = true := by simp; omega
        have hx1 : 1 < x := hov.2
        clear hov HV
        go_wp2
        go_ret3
        exact ⟨congrArg Ending.returned HR.out.symm, rfl⟩
      · have HO := hide (refGroup acc k p x hp.out hacc hk9 hxb.1 hxb.2 (by omega))
        by_cases hlt : x < 128
        · by_cases h0 : 0 < k ∧ x = 0
          · have HR := hide (gRes_err xs a (n := 0) (l := 0) (e := 5) (by omega) (by rw [HV.out]; simp only [vgo]; rw [if_neg hov, if_pos hlt, if_pos h0]) (by decide))
            have hk0 : 0 < (k : Int) := by omega
            have hx0 : (x == 0) = true := by simp; omega
            have hx1 : x ≤ 1 := by omega
            by_cases h9 : k = 9
            all_goals
              first
                | have h9' : ((k : Int) == 9) = true := by simp; omega
                | have h9' : ((k : Int) == 9) = false := by simp; omega
              clear h9 h0 hov HV
              go_wp2
              go_ret3
              exact ⟨congrArg Ending.returned HR.out.symm, rfl⟩
          · obtain ⟨e1, e2, e3⟩ := gRes_ok xs a (n := acc + x.toNat * 128 ^ k) (l := k + 1) (by omega) (by rw [HV.out]; simp only [vgo]; rw [if_neg hov, if_pos hlt, if_neg h0])
            have HR : Hid (gRes xs a = .tuple #[.int .u64 (IntKind.u64.wrap ((acc : Int) + IntKind.u64.wrap (x % 128 * (p : Int)))), .int .i64 ((a : Int) + k + 1), .int .i64 0]) := by
              show _ = _
              unfold gRes
              rw [e1, e2, e3, HO.out, Nat.mod_eq_of_lt (by omega)]
              simp [Int.add_assoc]
            clear e1 e2 e3 HV
            by_cases h9 : k = 9
            · have h9' : ((k : Int) == 9) = true := by simp; omega
              have hx1 : x ≤ 1 := by omega
              have hk0 : 0 < (k : Int) := by omega
              have hx0 : (x == 0) = false := by simp; omega
              clear h9 h0 hov
              go_wp2
              go_ret3
              exact ⟨congrArg Ending.returned HR.out.symm, rfl⟩
            · have h9' : ((k : Int) == 9) = false := by simp; omega
              by_cases hk0 : 0 < k
              · have hk0' : 0 < (k : Int) := by omega
                have hx0 : (x == 0) = false := by simp; omega
                clear h9 h0 hov
                go_wp2
                go_ret3
                exact ⟨congrArg Ending.returned HR.out.symm, rfl⟩
              · have hk0' : (k : Int) ≤ 0 := by omega
                clear h9 h0 hov hk0
                go_wp2
                go_ret3
                exact ⟨congrArg Ending.returned HR.out.symm, rfl⟩
        · have h9' : ((k : Int) == 9) = false := by simp; omega
          have hk8 : k ≤ 8 := by omega
          have HV2 : Hid (vgo (xs.drop a) 0 0 = vgo (xs.drop (a + (k + 1))) (k + 1) (acc + x.toNat % 128 * 128 ^ k)) := by
            show _ = _
            rw [HV.out]
            simp only [vgo]
            rw [if_neg hov, if_neg hlt, show x.toNat % 128 = x.toNat - 128 by omega]
          have hp8 : p ≤ 72057594037927936 := by
            rw [hp.out]
            exact Nat.pow_le_pow_right (n := 128) (by decide) hk8
          have hacc2 := accUp acc k (x.toNat % 128) (by rw [← hp.out]; exact hacc) (by omega)
          have HA := hide hacc2
          have hp2 : Hid (p * 128 = 128 ^ (k + 1)) := by
            show _ = _
            rw [hp.out, Nat.pow_succ]
          clear HV hov hacc2
          go_wp2
          go_round
          case rel => exact ⟨k + 1, acc + x.toNat % 128 * 128 ^ k, p * 128, by go_num, by go_num, hp2, by omega, by rw [HO.out], by rw [hp2.out]; exact HA.out, by omega, by omega, HV2⟩
          case measure => simp [intOf]; omega
    · have hke : k = n - a := by omega
      have HR := hide (gRes_err xs a (n := 0) (l := 0) (e := 4) (by omega) (by rw [H.out, List.drop_eq_nil_of_le (by omega)]; rfl) (by decide))
      have g1 : ((n : Int) - (a : Int) ≤ (k : Int)) := by omega
      clear hke
      go_wp2
      go_ret3
      exact ⟨congrArg Ending.returned HR.out.symm, rfl⟩
theorem RefGet_any {B : Nat} (A : Option Addr) (n c : Nat) (at_ : Int) (xs : List Int) (w : World) (hx : Rd w B A n (u8s xs)) (bx : Byt xs) (hn : n ≤ maxLen) :
    Calls Try.prog 30 #[.slice A n c, .int .i64 at_] w fun e w' => e = .returned (gRes xs at_) ∧ w = w' := by
  by_cases h : at_ < 0 ∨ (n : Int) < at_
  · exact RefGet_out A n c at_ xs w hx hn h
  · obtain ⟨a, rfl⟩ := Int.eq_ofNat_of_zero_le (show 0 ≤ at_ by omega)
    exact RefGet_in A n c a xs w hx bx hn (by omega)
end Go.Proofs.Ytgfeimlieibjhaa
