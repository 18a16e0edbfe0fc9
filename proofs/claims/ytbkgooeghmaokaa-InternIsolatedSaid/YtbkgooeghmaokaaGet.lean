/- What varint.Get returns. -/
import Derived.Test.YtbkgooeghmaokaaVar
set_option linter.unusedVariables false
namespace Go.Proofs.Ytbkgooeghmaokaa
open Go.RowKit

/-- what Get returns -/
def gRes (xs : List Int) (at_ : Int) : Value := .tuple #[.int .u64 (gN xs at_), .int .i64 (gT xs at_), .int .i64 (gE xs at_)]
theorem gRes_ok (xs : List Int) (a : Nat) {n l : Nat} (hk : a ≤ xs.length) (h : vgo (xs.drop a) 0 0 = (n, l, 0)) : gN xs a = n ∧ gT xs a = (a : Int) + l ∧ gE xs a = 0 := by
  unfold gN gT gE vget
  rw [if_neg (by omega), Int.toNat_natCast, h]
  simp
theorem gRes_err (xs : List Int) (a : Nat) {n l e : Nat} (hk : a ≤ xs.length) (h : vgo (xs.drop a) 0 0 = (n, l, e)) (he : e ≠ 0) : gRes xs a = .tuple #[.int .u64 0, .int .i64 0, .int .i64 e] := by
  unfold gRes gN gT gE vget
  rw [if_neg (by omega), Int.toNat_natCast, h]
  simp [he]

set_option maxHeartbeats 1000000 in
theorem Get_out {B : Nat} (A : Option Addr) (n c : Nat) (at_ : Int) (xs : List Int) (w : World) (hx : Rd w B A n (u8s xs)) (hn : n ≤ maxLen) (h : at_ < 0 ∨ (n : Int) < at_) :
    Calls Try.prog 81 #[.slice A n c, .int .i64 at_] w fun e w' => e = .returned (gRes xs at_) ∧ w = w' := by
  have hl : xs.length = n := by simpa using hx.1
  have HR : Hid (gRes xs at_ = .tuple #[.int .u64 0, .int .i64 0, .int .i64 2]) := by
    show _ = _
    unfold gRes gN gT gE vget
    rw [if_pos (by omega)]
  unfold maxLen at hn
  rcases h with h | h
  · go_enter Try.func81, Try.ntmps81
    go_wp2
    go_ret3
    exact ⟨congrArg Ending.returned HR.out.symm, rfl⟩
  · have h' : ¬ at_ < 0 := by omega
    go_enter Try.func81, Try.ntmps81
    go_wp2
    go_ret3
    exact ⟨congrArg Ending.returned HR.out.symm, rfl⟩

theorem andNotAll : ∀ a : Fin 256, bits .andNot .u8 (a.val : Int) 128 = ((a.val % 128 : Nat) : Int) := by decide +kernel
theorem andNot128 (x : Int) (h0 : 0 ≤ x) (h1 : x < 256) : bits .andNot .u8 x 128 = x % 128 := by
  obtain ⟨r, rfl⟩ := Int.eq_ofNat_of_zero_le h0
  rw [andNotAll ⟨r, by omega⟩]
  simp
theorem andAll : ∀ a : Fin 256, bits .and .u8 (a.val : Int) 128 = ((if a.val < 128 then 0 else 128 : Nat) : Int) := by decide +kernel
theorem and128 (x : Int) (h0 : 0 ≤ x) (h1 : x < 256) : bits .and .u8 x 128 = if x < 128 then 0 else 128 := by
  obtain ⟨r, rfl⟩ := Int.eq_ofNat_of_zero_le h0
  rw [andAll ⟨r, by omega⟩]
  simp only
  split <;> split <;> first | rfl | omega
theorem pow128 (k : Nat) : 128 ^ k = 2 ^ (7 * k) := by rw [Nat.pow_mul]
/-- one more group, as the code adds it -/
theorem orGroup (acc k : Nat) (x : Int) (ha : acc < 128 ^ k) (hk : k ≤ 9) (h0 : 0 ≤ x) (h1 : x < 256) (h9 : k < 9 ∨ x ≤ 1) :
    bits .or .u64 (acc : Int) (IntKind.u64.wrap (IntKind.u64.wrap (bits .andNot .u8 x 128) * 2 ^ (7 * k))) = ((acc + (x.toNat % 128) * 128 ^ k : Nat) : Int) := by
  rw [andNot128 x h0 h1, wrapsU64 (x % 128) (by omega) (by omega)]
  obtain ⟨r, rfl⟩ := Int.eq_ofNat_of_zero_le h0
  rw [pow128] at ha ⊢
  have hs : (r % 128) * 2 ^ (7 * k) < 2 ^ 64 := by
    rcases h9 with h9 | h9
    · have h2 : 2 ^ (7 * k) ≤ 2 ^ 56 := Nat.pow_le_pow_right (by decide) (by omega)
      have h3 : (r % 128) * 2 ^ (7 * k) ≤ 127 * 2 ^ 56 := Nat.mul_le_mul (by omega) h2
      omega
    · have h2 : 2 ^ (7 * k) ≤ 2 ^ 63 := Nat.pow_le_pow_right (by decide) (by omega)
      have h3 : (r % 128) * 2 ^ (7 * k) ≤ 1 * 2 ^ 63 := Nat.mul_le_mul (by omega) h2
      omega
  have h63 : (2 : Nat) ^ (7 * k) ≤ 2 ^ 63 := Nat.pow_le_pow_right (by decide) (by omega)
  have e : ((r : Int) % 128 * 2 ^ (7 * k)) = (((r % 128) * 2 ^ (7 * k) : Nat) : Int) := by simp
  rw [e]
  generalize hg : (r % 128) * 2 ^ (7 * k) = g at *
  have hgm : (g : Int) % 2 ^ (7 * k) = 0 := by
    have : g % 2 ^ (7 * k) = 0 := by rw [← hg]; exact Nat.mul_mod_left _ _
    exact_mod_cast this
  have hacc : (acc : Int) < 2 ^ (7 * k) := by exact_mod_cast ha
  rw [wrapsU64 _ (by omega) (by omega), bitsComm, orU64 (7 * k) (g : Int) (acc : Int) (by omega) (by omega) hgm (by omega) hacc (by omega)]
  rw [Int.toNat_natCast, hg]
  omega
theorem accUp (acc k r : Nat) (ha : acc < 128 ^ k) (hr : r < 128) : acc + r * 128 ^ k < 128 ^ (k + 1) := by
  have e : 128 ^ (k + 1) = 128 ^ k * 128 := Nat.pow_succ ..
  have : r * 128 ^ k ≤ 127 * 128 ^ k := Nat.mul_le_mul_right _ (by omega)
  omega

set_option maxHeartbeats 1000000 in
theorem Get_eof {B : Nat} (A : Option Addr) (n c : Nat) (xs : List Int) (w : World) (hx : Rd w B A n (u8s xs)) (hn : n ≤ maxLen) :
    Calls Try.prog 81 #[.slice A n c, .int .i64 n] w fun e w' => e = .returned (gRes xs n) ∧ w = w' := by
  have hl : xs.length = n := by simpa using hx.1
  have HR := hide (gRes_err xs n (n := 0) (l := 0) (e := 4) (by omega) (by rw [List.drop_eq_nil_of_le (by omega)]; rfl) (by decide))
  unfold maxLen at hn
  have t1 : decide ((n : Int) < 0) = false := by simp
  have t2 : decide ((n : Int) < (n : Int)) = false := by simp
  by_cases hca : c = n
  all_goals
    first | subst hca | skip
    go_enter Try.func81, Try.ntmps81
    go_wp2
    go_loop [22] (fun i => i = .int .i64 0) (fun _ => 0)
    case atStart => rfl
    case round =>
      obtain rfl := hrel
      go_wp2
      go_ret3
      exact ⟨congrArg Ending.returned HR.out.symm, rfl⟩

set_option maxHeartbeats 2000000 in
theorem Get_in (n c a b o : Nat) (xs : List Int) (w : World) (hl : xs.length = n) (hx : ∀ j u, (u8s xs)[j]? = some u → w.cell? ⟨b, o + j, none⟩ = some u) (bx : Byt xs) (hn : n ≤ c) (hc : c ≤ maxLen) (ha : a < n) :
    Calls Try.prog 81 #[.slice (some ⟨b, o, none⟩) n c, .int .i64 a] w fun e w' => e = .returned (gRes xs a) ∧ w = w' := by
  unfold maxLen at hc
  have hca : ¬ c = a := by omega
  have t1 : decide ((a : Int) < 0) = false := by simp
  have t2 : decide ((n : Int) < (a : Int)) = false := by simp; omega
  go_enter Try.func81, Try.ntmps81
  go_wp2
  go_loop [7, 22] (fun v i => ∃ k acc : Nat, i = .int .i64 (k : Int) ∧ v = .int .u64 (acc : Int) ∧ acc < 128 ^ k ∧ k ≤ 9 ∧ k ≤ n - a ∧ Hid (vgo (xs.drop a) 0 0 = vgo (xs.drop (a + k)) k acc)) (fun _ i => n - (intOf i).toNat)
  case atStart => exact ⟨0, 0, rfl, rfl, by simp, by omega, by omega, rfl⟩
  case round =>
    obtain ⟨k, acc, rfl, rfl, hacc, hk9, hkn, H⟩ := hrel
    by_cases hk : k < n - a
    · have hex : ∃ x, xs[a + k]? = some x := ⟨_, List.getElem?_eq_getElem (by omega)⟩
      obtain ⟨x, hxk⟩ := hex
      have hcell := hx (a + k) (.int .u8 x) (by simp [hxk])
      have hxb := bx.at hxk
      rw [← Nat.add_assoc] at hcell
      have hd : xs.drop (a + k) = x :: xs.drop (a + (k + 1)) := by
        have h' := List.getElem?_eq_some_iff.1 hxk
        rw [List.drop_eq_getElem_cons h'.1, h'.2]; rfl
      have HV := hide (H.out.trans (congrArg (fun l => vgo l k acc) hd))
      clear H hd hxk
      by_cases hov : k = 9 ∧ 1 < x
      · obtain ⟨rfl, hov⟩ := hov
        have HR := hide (gRes_err xs a (n := 0) (l := 0) (e := 6) (by omega) (by rw [HV.out]; simp only [vgo]; rw [if_pos ⟨trivial, by omega⟩]) (by decide))
        clear HV
        go_wp2
        go_ret3
        exact ⟨congrArg Ending.returned HR.out.symm, rfl⟩
      · have h91 : k < 9 ∨ x ≤ 1 := by omega
        have HO := hide (orGroup acc k x hacc hk9 hxb.1 hxb.2 h91)
        have h128 := and128 x hxb.1 hxb.2
        by_cases hlt : x < 128
        · rw [if_pos hlt] at h128
          by_cases h0 : 0 < k ∧ x = 0
          · obtain ⟨h0, rfl⟩ := h0
            have HR := hide (gRes_err xs a (n := 0) (l := 0) (e := 5) (by omega) (by rw [HV.out]; simp only [vgo]; rw [if_neg (by omega), if_pos (by omega), if_pos ⟨h0, trivial⟩]) (by decide))
            clear HV HO
            by_cases hk9' : k = 9
            · subst hk9'
              go_wp2
              go_ret3
              exact ⟨congrArg Ending.returned HR.out.symm, rfl⟩
            · have h9' : ((k : Int) == 9) = false := by simp; omega
              go_wp2
              go_ret3
              exact ⟨congrArg Ending.returned HR.out.symm, rfl⟩
          · obtain ⟨e1, e2, e3⟩ := gRes_ok xs a (n := acc + x.toNat * 128 ^ k) (l := k + 1) (by omega) (by rw [HV.out]; simp only [vgo]; rw [if_neg hov, if_pos hlt, if_neg h0])
            have HR : Hid (gRes xs a = .tuple #[.int .u64 (bits .or .u64 (acc : Int) (IntKind.u64.wrap (IntKind.u64.wrap (bits .andNot .u8 x 128) * 2 ^ (7 * k)))), .int .i64 ((a : Int) + k + 1), .int .i64 0]) := by
              show _ = _
              unfold gRes
              rw [e1, e2, e3, HO.out, Nat.mod_eq_of_lt (by omega)]
              simp [Int.add_assoc]
            clear HO HV e1 e2 e3
            by_cases hk9' : k = 9
            · have hx0 : (x == 0) = false := by simp; omega
              have hx1 : x ≤ 1 := by omega
              subst hk9'
              go_wp2
              go_ret3
              exact ⟨congrArg Ending.returned HR.out.symm, rfl⟩
            · have h9' : ((k : Int) == 9) = false := by simp; omega
              by_cases hz : x = 0
              · have hk0 : k = 0 := by omega
                subst hz
                have hk1 : (k : Int) ≤ 0 := by omega
                clear hk0 h9' hk9'
                have h9' : ((k : Int) == 9) = false := by simp; omega
                go_wp2
                go_ret3
                exact ⟨congrArg Ending.returned HR.out.symm, rfl⟩
              · have hx0 : (x == 0) = false := by simp; omega
                go_wp2
                go_ret3
                exact ⟨congrArg Ending.returned HR.out.symm, rfl⟩
        · rw [if_neg hlt] at h128
          have hk9' : ((k : Int) == 9) = false := by simp; omega
          have HV2 : Hid (vgo (xs.drop a) 0 0 = vgo (xs.drop (a + (k + 1))) (k + 1) (acc + x.toNat % 128 * 128 ^ k)) := by
            show _ = _
            rw [HV.out]
            simp only [vgo]
            rw [if_neg hov, if_neg hlt, show x.toNat % 128 = x.toNat - 128 by omega]
          clear HV
          go_wp2
          go_round
          case rel => exact ⟨k + 1, acc + x.toNat % 128 * 128 ^ k, by go_num, by rw [HO.out], accUp acc k _ hacc (by omega), by omega, by omega, HV2⟩
          case measure => simp [intOf]; omega
    · have hke : k = n - a := by omega
      have HR := hide (gRes_err xs a (n := 0) (l := 0) (e := 4) (by omega) (by rw [H.out, List.drop_eq_nil_of_le (by omega)]; rfl) (by decide))
      clear hke
      go_wp2
      go_ret3
      exact ⟨congrArg Ending.returned HR.out.symm, rfl⟩
/-- Get, of whatever arguments. -/
theorem Get_any {B : Nat} (A : Option Addr) (n c : Nat) (at_ : Int) (xs : List Int) (w : World) (hx : Rd w B A n (u8s xs)) (bx : Byt xs) (hn : n ≤ c) (hc : c ≤ maxLen) :
    Calls Try.prog 81 #[.slice A n c, .int .i64 at_] w fun e w' => e = .returned (gRes xs at_) ∧ w = w' := by
  have hl : xs.length = n := by simpa using hx.1
  by_cases h : at_ < 0 ∨ (n : Int) < at_
  · exact Get_out A n c at_ xs w hx (by omega) h
  · obtain ⟨a, rfl⟩ := Int.eq_ofNat_of_zero_le (show 0 ≤ at_ by omega)
    by_cases ha : a < n
    · obtain ⟨b, o, rfl, _, hcell⟩ := hx.2 (by omega)
      exact Get_in n c a b o xs w hl hcell bx hn hc ha
    · obtain rfl : a = n := by omega
      exact Get_eof A a c xs w hx (by omega)
end Go.Proofs.Ytbkgooeghmaokaa
