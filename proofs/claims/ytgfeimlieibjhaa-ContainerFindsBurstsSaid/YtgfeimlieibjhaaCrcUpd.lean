/- What crc.Update and crc.Sum return, and the same of the reference. -/
import Derived.Test.YtgfeimlieibjhaaCrc
set_option linter.unusedVariables false
namespace Go.Proofs.Ytgfeimlieibjhaa
open Go.RowKit

theorem u32_inv (s : Nat) (hs : s < 4294967296) : bits .xor .u32 IntKind.u32.max (s : Int) = ((inv s : Nat) : Int) := by
  rw [show IntKind.u32.max = ((4294967295 : Nat) : Int) by decide, u32_xor_nat _ s (by omega) hs, inv_def]
theorem crc_up (s : Nat) {xs : List Int} {k : Nat} {c : Int} (h : xs[k]? = some c) : crc s (xs.take (k + 1)) = stepc (crc s (xs.take k)) c := by
  rw [List.take_add_one, h]
  exact crc_snoc s _ c
theorem u8_pick (x : Nat) (c : Int) (hc : 0 ≤ c ∧ c < 256) : bits .xor .u8 ((x : Int) % 256) c = ((x % 256 ^^^ c.toNat : Nat) : Int) := by
  rw [show (x : Int) % 256 = ((x % 256 : Nat) : Int) by omega, u8_xor _ _ (by omega) (by omega) hc.1 hc.2, Int.toNat_natCast]
theorem pick_lt (x : Nat) (c : Int) (hc : 0 ≤ c ∧ c < 256) : x % 256 ^^^ c.toNat < 256 := by
  have := Nat.xor_lt_two_pow (n := 8) (x := x % 256) (y := c.toNat) (by omega) (by omega)
  omega
theorem tabCode (x : Nat) (c : Int) (hx : x < 4294967296) (hc : 0 ≤ c ∧ c < 256) : bits .xor .u32 ((shN 8 (x % 256 ^^^ c.toNat) : Nat) : Int) ((x : Int) / 256) = ((stepc x c : Nat) : Int) := by
  have h := shN_lt 8 (s := x % 256 ^^^ c.toNat) (by have := pick_lt x c hc; omega)
  rw [show (x : Int) / 256 = ((x / 256 : Nat) : Int) by omega, u32_xor_nat _ _ h (by omega), ← byte_step]
  rfl

set_option maxRecDepth 100000 in
set_option maxHeartbeats 2000000 in
theorem Update_any (s : Nat) (A : Option Addr) (n c : Nat) (xs : List Int) (w : World) (B : Nat) (hs : s < 4294967296) (hr : Rd w B A n (u8s xs)) (hB : B ≤ w.heap.size) (hx : Byt xs) (hn : n ≤ 9223372036854775807) :
    Calls Try.prog 42 #[.int .u32 (s : Int), .slice A n c] w fun e w' => e = .returned (.int .u32 ((upd s xs : Nat) : Int)) ∧ Below w.heap.size w w' := by
  have hl : xs.length = n := by simpa using hr.1
  have hi := hide (u32_inv s hs)
  have his := inv_lt hs
  have HL := hide hl
  have hz := (zero_of_info zeroTab).1
  have hz0 : (Array.replicate 256 (Value.int .u32 0)) = tabTo 0 := rfl
  rw [hz0] at hz
  clear hz0 hl
  go_enter Try.func42, Try.ntmps42
  go_wp2_with (first
    | (go_at_call 48; refine (states_any _).mono ?_; rintro e w1 ⟨rfl, hb1⟩)
    | (refine wpList_store_new rfl 90 _ _ rfl 90 (tabTo 0) (tabTo 256) rfl rfl (sizeTab 256) (by rw [tabTo_size, tabTo_size]) (tabTo_one 256) ?_))
  have hle := hb1.size
  have hr1 := hr.below (hb1.mono hB)
  go_loop [6, 14] (fun t i => ∃ k x : Nat, k ≤ n ∧ i = .int .i64 (k : Int) ∧ t = .int .u32 (x : Int) ∧ x < 4294967296 ∧ Hid (x = crc (inv s) (xs.take k))) (fun _ i => n - (intOf i).toNat)
  case atStart => exact ⟨0, inv s, by omega, rfl, by rw [hi.out], his, rfl⟩
  case round =>
    obtain ⟨k, x, hk, rfl, rfl, hx1, H⟩ := hrel
    by_cases hlt : k < n
    · obtain ⟨u, hu⟩ : ∃ u, xs[k]? = some u := ⟨_, List.getElem?_eq_getElem (by have := HL.out; omega)⟩
      obtain ⟨b, o, rfl, hb, hcell⟩ := hr1.cell (k := k) (u := .int .u8 u) (by rw [List.getElem?_map, hu]; rfl)
      have hbl : b < w1.heap.size := by omega
      have hub := hx.at hu
      have hH : Hid (stepc x u = crc (inv s) (xs.take (k + 1))) := by
        show _ = _
        rw [crc_up _ hu, ← H.out]
      have hcode := tabCode x u hx1 hub
      have hst := stepc_lt hub hx1
      have hpick := u8_pick x u hub
      have jlt := pick_lt x u hub
      clear hu
      generalize x % 256 ^^^ u.toNat = j at hcode hpick jlt
      have htab : (tabTo 256)[j]? = some (.int .u32 ((shN 8 j : Nat) : Int)) := by rw [tabTo_at 256 j jlt, if_pos jlt]
      have hcode2 := hide hcode
      clear hcode
      go_wp2
      go_round
      case rel => exact ⟨k + 1, stepc x u, by omega, by go_num, by rw [hcode2.out], hst, hH⟩
      case measure => simp [intOf]; omega
    · obtain rfl : k = n := by omega
      have hfin : Hid (((upd s xs : Nat) : Int) = bits .xor .u32 IntKind.u32.max (x : Int)) := by
        show _ = _
        rw [u32_inv x hx1, H.out, List.take_of_length_le (by have := HL.out; omega)]
        rfl
      go_wp2
      go_ret
      exact ⟨congrArg (fun v => Ending.returned (.int .u32 v)) hfin.out.symm, hb1.alloc hle _⟩

theorem Sum_any (A : Option Addr) (n c : Nat) (xs : List Int) (w : World) (B : Nat) (hr : Rd w B A n (u8s xs)) (hB : B ≤ w.heap.size) (hx : Byt xs) (hn : n ≤ 9223372036854775807) :
    Calls Try.prog 36 #[.slice A n c] w fun e w' => e = .returned (.int .u32 ((sum xs : Nat) : Int)) ∧ Below w.heap.size w w' := by
  go_enter Try.func36, Try.ntmps36
  go_wp2_with (go_at_call 42; refine (Update_any 0 A n c xs _ B (by decide) hr hB hx hn).mono ?_; rintro e w1 ⟨rfl, hb1⟩)
  go_ret
  exact ⟨rfl, hb1⟩

/-! ### the reference -/
theorem refCode (x : Nat) (hx : x < 4294967296) : bits .xor .u32 ((x : Int) / 2) 3988292384 = ((x / 2 ^^^ 3988292384 : Nat) : Int) := by
  rw [show (x : Int) / 2 = ((x / 2 : Nat) : Int) by omega, show (3988292384 : Int) = ((3988292384 : Nat) : Int) from rfl, u32_xor_nat _ _ (by omega) (by omega)]
theorem refIn (s : Nat) (u : Int) (hs : s < 4294967296) (hu : 0 ≤ u ∧ u < 256) : bits .xor .u32 (s : Int) u = ((s ^^^ u.toNat : Nat) : Int) := by
  rw [u32_xor _ _ (by omega) (by omega) hu.1 (by omega), Int.toNat_natCast]

set_option maxHeartbeats 1000000 in
theorem step_any (s : Nat) (u : Int) (w : World) (hs : s < 4294967296) (hu : 0 ≤ u ∧ u < 256) :
    Calls Try.prog 49 #[.int .u32 (s : Int), .int .u8 u] w fun e w' => e = .returned (.int .u32 ((stepc s u : Nat) : Int)) ∧ w = w' := by
  obtain ⟨hu0, hu1⟩ := hu
  have hin := refIn s u hs ⟨hu0, hu1⟩
  have hlt0 := xor32 hs (show u.toNat < 4294967296 by omega)
  have HS : Hid (shN 8 (s ^^^ u.toNat) = stepc s u) := rfl
  generalize s ^^^ u.toNat = s0 at *
  go_enter Try.func49, Try.ntmps49
  go_wp2
  go_loop [0, 5] (fun t i => ∃ k x : Nat, k ≤ 8 ∧ i = .int .i64 (k : Int) ∧ t = .int .u32 (x : Int) ∧ x < 4294967296 ∧ Hid (shN (8 - k) x = shN 8 s0)) (fun _ i => 8 - (intOf i).toNat)
  case atStart => exact ⟨0, s0, by omega, rfl, rfl, hlt0, rfl⟩
  case round =>
    obtain ⟨k, x, hk, rfl, rfl, hx, H⟩ := hrel
    by_cases hlt : k < 8
    · have hH : Hid (shN (8 - (k + 1)) (sh x) = shN 8 s0) := by
        have := H.out
        rw [show 8 - k = (8 - (k + 1)) + 1 by omega] at this
        exact this
      by_cases hb : x % 2 = 1
      · have hc := hide (refCode x hx)
        have hsh := hide (show sh x = x / 2 ^^^ 3988292384 by unfold sh; rw [if_pos hb])
        have hbit : (x : Int) % 2 = 1 := by omega
        have hlt2 := sh_lt hx
        clear hb
        go_wp2
        go_round
        case rel => exact ⟨k + 1, sh x, by omega, by go_num, by rw [hc.out, hsh.out], hlt2, hH⟩
        case measure => simp [intOf]; omega
      · have hsh := hide (show ((sh x : Nat) : Int) = (x : Int) / 2 by unfold sh; rw [if_neg hb]; omega)
        have hbit : (x : Int) % 2 = 0 := by omega
        have hlt2 := sh_lt hx
        clear hb
        go_wp2
        go_round
        case rel => exact ⟨k + 1, sh x, by omega, by go_num, by rw [hsh.out], hlt2, hH⟩
        case measure => simp [intOf]; omega
    · obtain rfl : k = 8 := by omega
      go_wp2
      go_ret
      exact ⟨congrArg (fun v : Nat => Ending.returned (.int .u32 (v : Int))) (H.out.trans HS.out), rfl⟩

set_option maxHeartbeats 1000000 in
theorem RefUpdate_any (s : Nat) (A : Option Addr) (n c : Nat) (xs : List Int) (w : World) (B : Nat) (hs : s < 4294967296) (hr : Rd w B A n (u8s xs)) (hx : Byt xs) (hn : n ≤ 9223372036854775807) :
    Calls Try.prog 44 #[.int .u32 (s : Int), .slice A n c] w fun e w' => e = .returned (.int .u32 ((upd s xs : Nat) : Int)) ∧ w = w' := by
  have hl : xs.length = n := by simpa using hr.1
  have hi := hide (u32_inv s hs)
  have his := inv_lt hs
  have HL := hide hl
  clear hl
  go_enter Try.func44, Try.ntmps44
  go_wp2
  go_loop [5, 6] (fun t i => ∃ k x : Nat, k ≤ n ∧ i = .int .i64 (k : Int) ∧ t = .int .u32 (x : Int) ∧ x < 4294967296 ∧ Hid (x = crc (inv s) (xs.take k))) (fun _ i => n - (intOf i).toNat)
  case atStart => exact ⟨0, inv s, by omega, rfl, by rw [hi.out], his, rfl⟩
  case round =>
    obtain ⟨k, x, hk, rfl, rfl, hx1, H⟩ := hrel
    by_cases hlt : k < n
    · obtain ⟨u, hu⟩ : ∃ u, xs[k]? = some u := ⟨_, List.getElem?_eq_getElem (by have := HL.out; omega)⟩
      obtain ⟨b, o, rfl, hb, hcell⟩ := hr.cell (k := k) (u := .int .u8 u) (by rw [List.getElem?_map, hu]; rfl)
      have hub := hx.at hu
      have hH : Hid (stepc x u = crc (inv s) (xs.take (k + 1))) := by
        show _ = _
        rw [crc_up _ hu, ← H.out]
      have hst := stepc_lt hub hx1
      clear hu
      go_wp2_with (go_at_call 49; refine (step_any x u _ hx1 hub).mono ?_; rintro e w1 ⟨rfl, rfl⟩)
      go_round
      case rel => exact ⟨k + 1, stepc x u, by omega, by go_num, rfl, hst, hH⟩
      case measure => simp [intOf]; omega
    · obtain rfl : k = n := by omega
      have hfin : Hid (((upd s xs : Nat) : Int) = bits .xor .u32 IntKind.u32.max (x : Int)) := by
        show _ = _
        rw [u32_inv x hx1, H.out, List.take_of_length_le (by have := HL.out; omega)]
        rfl
      go_wp2
      go_ret
      exact ⟨congrArg (fun v => Ending.returned (.int .u32 v)) hfin.out.symm, rfl⟩

theorem RefSum_any (A : Option Addr) (n c : Nat) (xs : List Int) (w : World) (B : Nat) (hr : Rd w B A n (u8s xs)) (hx : Byt xs) (hn : n ≤ 9223372036854775807) :
    Calls Try.prog 38 #[.slice A n c] w fun e w' => e = .returned (.int .u32 ((sum xs : Nat) : Int)) ∧ w = w' := by
  go_enter Try.func38, Try.ntmps38
  go_wp2_with (go_at_call 44; refine (RefUpdate_any 0 A n c xs _ B (by decide) hr hx hn).mono ?_; rintro e w1 ⟨rfl, rfl⟩)
  go_ret
  exact ⟨rfl, rfl⟩
end Go.Proofs.Ytgfeimlieibjhaa
