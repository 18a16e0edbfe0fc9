/- The law's own 'write' and 'written'. -/
import Derived.Test.YtakjlomgkbloeaaActs
import Derived.Test.YtakjlomgkbloeaaWtr
set_option linter.unusedVariables false
namespace Go.Proofs.Ytakjlomgkbloeaa
open Go.RowKit

theorem take_ok {L : List ActV} (h : ∀ a ∈ L, a.ok) (k : Nat) : ∀ a ∈ L.take k, a.ok := fun a ha => h a (List.mem_of_mem_take ha)
theorem encL_take_len {L : List ActV} (h : ∀ a ∈ L, a.ok) (hw : wts L ≤ 5000) (k : Nat) : (encL (L.take k)).length ≤ 50000 :=
  encL_len (take_ok h k) (Nat.le_trans (wts_take_le L k) hw)

set_option maxHeartbeats 2000000 in
set_option maxRecDepth 100000 in
theorem write_any {w : World} {g : Nat} (h : CW w g []) (A : Option Addr) (n c : Nat) (L : List ActV) (hA : Acts w g A n L) (hw : wts L ≤ 5000) (hn : n ≤ 5000) :
    Calls Try.prog 12 #[.pointer (some ⟨g, 0, none⟩), .slice A n c] w (Wrote w g (encL L)) := by
  have HA := hide hA
  have hl := hA.1
  have HW := hide h
  have HLen := hide fun k => encL_take_len hA.2.1 hw k
  have HSm := hide fun a (ha : a ∈ L) => small_of hw ha
  clear hA h
  go_enter Try.func12, Try.ntmps12
  go_wp2
  go_loopw [8] (fun i wr => ∃ k : Nat, i = .int .i64 (k : Int) ∧ k ≤ n ∧ CW wr g (encL (L.take k)) ∧ Below g w wr) (fun i _ => n - (intOf i).toNat)
  case atStart => exact ⟨0, rfl, Nat.zero_le _, HW.out, Below.refl _ _⟩
  case round =>
    obtain ⟨k, rfl, hk, hcw, hb⟩ := hrel
    by_cases hlt : k < n
    · have hex : ∃ a, L[k]? = some a := ⟨_, List.getElem?_eq_getElem (by omega)⟩
      obtain ⟨a, ha⟩ := hex
      obtain ⟨b, o, rfl, hbB, hok, c0, c1, c2, c3⟩ := (HA.out.below hb).at_ ha
      have hsm := HSm.out a (List.mem_of_getElem? ha)
      have HS := hide (encL_take_succ ha)
      have hle := HLen.out k
      have hbx := hide ((Below.refl wr.heap.size wr).alloc (Nat.le_refl _) (.cells (cells4 a) 39))
      have HCW := hide (hcw.below hbx.out (Nat.le_refl _))
      have HB := hide (hb.trans (hbx.out.mono (Nat.le_of_lt hcw.lt)))
      obtain ⟨K, U, N, S⟩ := a
      obtain ⟨hK, hU, hN, hS⟩ := hok
      simp only [cells4] at c0 c1 c2 c3 hsm HCW HB hK hU hN hS
      clear hl ha hbx hcw hb hw
      generalize encL (L.take k) = xs at *
      have hxs : xs.length ≤ 1099511627776 := by omega
      unfold maxLen at hS
      by_cases k0 : K = 0
      · subst k0
        have e : encA ⟨0, U, N, S⟩ = [U % 256] := by simp [encA]
        rw [e] at HS
        clear e
        go_wp2_with fail
        refine (wByte_any HCW.out (U % 256) (by omega) (by omega) hxs).mono ?_
        rintro x w1 ⟨⟨v, rfl⟩, h1, h2⟩
        have H1 := hide h1
        clear h1
        go_wp2_with fail
        go_roundw
        case rel => exact ⟨k + 1, by go_num, by omega, by rw [HS.out]; exact H1.out, HB.out.trans h2⟩
        case measure => simp [intOf]; omega
      · by_cases k1 : K = 1
        · subst k1
          have e : encA ⟨1, U, N, S⟩ = vput U.toNat := by simp [encA]
          rw [e] at HS
          clear e k0
          go_wp2_with fail
          refine (wUint_any HCW.out U hU.1 hU.2 hxs).mono ?_
          rintro x w1 ⟨⟨v, rfl⟩, h1, h2⟩
          have H1 := hide h1
          clear h1
          go_wp2_with fail
          go_roundw
          case rel => exact ⟨k + 1, by go_num, by omega, by rw [HS.out]; exact H1.out, HB.out.trans h2⟩
          case measure => simp [intOf]; omega
        · by_cases k2 : K = 2
          · subst k2
            have e : encA ⟨2, U, N, S⟩ = vput (zz N).toNat := by simp [encA, zzM, zz]
            rw [e] at HS
            clear e k0 k1
            go_wp2_with fail
            refine (wInt_any HCW.out N hN.1 hN.2 hxs).mono ?_
            rintro x w1 ⟨⟨v, rfl⟩, h1, h2⟩
            have H1 := hide h1
            clear h1
            go_wp2_with fail
            go_roundw
            case rel => exact ⟨k + 1, by go_num, by omega, by rw [HS.out]; exact H1.out, HB.out.trans h2⟩
            case measure => simp [intOf]; omega
          · by_cases k4 : K = 4
            · subst k4
              have e : encA ⟨4, U, N, S⟩ = encStr S := by simp [encA]
              rw [e] at HS
              clear e k0 k1 k2
              go_wp2_with fail
              refine (wStr_any HCW.out S (by omega) hxs).mono ?_
              rintro x w1 ⟨⟨v, rfl⟩, h1, h2⟩
              have H1 := hide h1
              clear h1
              go_wp2_with fail
              go_roundw
              case rel => exact ⟨k + 1, by go_num, by omega, by rw [HS.out]; exact H1.out, HB.out.trans h2⟩
              case measure => simp [intOf]; omega
            · have e : encA ⟨K, U, N, S⟩ = [] := by simp [encA, k0, k1, k2, k4]
              rw [e, List.append_nil] at HS
              have b0 : (K == 0) = false := by simpa using k0
              have b1 : (K == 1) = false := by simpa using k1
              have b2 : (K == 2) = false := by simpa using k2
              have b4 : (K == 4) = false := by simpa using k4
              clear e k0 k1 k2 k4
              go_wp2_with fail
              go_roundw
              case rel => exact ⟨k + 1, by go_num, by omega, by rw [HS.out]; exact HCW.out, HB.out⟩
              case measure => simp [intOf]; omega
    · obtain rfl : k = n := by omega
      rw [List.take_of_length_le (by omega)] at hcw
      clear hl
      have HC := hide hcw
      clear hcw
      go_wp2
      go_end0
      exact ⟨⟨_, rfl⟩, HC.out, hb⟩

set_option maxHeartbeats 2000000 in
set_option maxRecDepth 100000 in
theorem written_any {w : World} (A : Option Addr) (n c : Nat) (L : List ActV) (hA : Acts w w.heap.size A n L) (hw : wts L ≤ 5000) (hn : n ≤ 5000) :
    Calls Try.prog 14 #[.slice A n c] w fun x w' => ∃ v, x = .returned v ∧ OwnB w w' v (encL L) ∧ Below w.heap.size w w' := by
  obtain ⟨i0, hi, hz0, hz1, hz2⟩ := info_parts infoU8
  have HA := hide hA
  have hl := hA.1
  have HLen := hide fun k => encL_take_len hA.2.1 hw k
  have HSm := hide fun a (ha : a ∈ L) => small_of hw ha
  clear hA
  go_enter Try.func14, Try.ntmps14
  go_wp2
  go_loopw [3, 8] (fun v i wr => ∃ k m : Nat, i = .int .i64 (k : Int) ∧ k ≤ n ∧ wr.ownsRow w.heap.size 5 1 v m (u8s (encL (L.take k))) ∧ m ≤ 50000 ∧ Below w.heap.size w wr) (fun _ i _ => n - (intOf i).toNat)
  case atStart => exact ⟨0, 0, rfl, Nat.zero_le _, World.ownsRow_nil _ _ _ _, by omega, Below.refl _ _⟩
  case round =>
    obtain ⟨k, m, rfl, hk, hown, hm, hb⟩ := hrel
    by_cases hlt : k < n
    · have hex : ∃ a, L[k]? = some a := ⟨_, List.getElem?_eq_getElem (by omega)⟩
      obtain ⟨a, ha⟩ := hex
      obtain ⟨b, o, rfl, hbB, hok, c0, c1, c2, c3⟩ := (HA.out.below hb).at_ ha
      have hsm := HSm.out a (List.mem_of_getElem? ha)
      have HS := hide (encL_take_succ ha)
      have HL1 := hide (HLen.out (k + 1))
      have hbx := hide ((Below.refl wr.heap.size wr).alloc (Nat.le_refl _) (.cells (cells4 a) 39))
      have HO := hide (ownsRow_below hown hbx.out)
      have HB := hide (hb.trans (hbx.out.mono hb.size))
      have hsz := hb.size
      have hml := hown.1
      obtain ⟨K, U, N, S⟩ := a
      obtain ⟨hK, hU, hN, hS⟩ := hok
      simp only [cells4] at c0 c1 c2 c3 hsm HO HB hK hU hN hS
      clear hl ha hbx hown hb hw
      have hxl : (encL (L.take k)).length = m := by simpa [u8s] using hml
      clear hml
      generalize encL (L.take k) = xs at *
      unfold maxLen at hS
      by_cases k0 : K = 0
      · subst k0
        have e : encA ⟨0, U, N, S⟩ = [U % 256] := by simp [encA]
        rw [e] at HS
        have hm1 := HL1.out
        rw [HS.out, List.length_append, hxl] at hm1
        simp only [List.length_cons, List.length_nil] at hm1
        clear e hxl
        have hlit := Rd_lit (wr.alloc (.cells #[.int .i64 0, .int .u64 U, .int .i64 N, .string S] 39)) [U % 256] 5
        rw [World.size_alloc] at hlit
        go_wp2_with (at_builtin; refine wpList_append_rd _ rfl _ _ 28 rfl w.heap.size 5 i0 (.int .u8 0) 1 Try.underlying28 hi hz0 hz1 hz2 rfl _ m _ rfl (HO.out.alloc _) _ (some ⟨wr.heap.size + 1, 0, none⟩) 1 1 (u8s [U % 256]) rfl hlit (ints_oneCell _ _) (by unfold maxLen; omega) (by omega) (by simp; omega) ?_; intro v2 w2 hown2 hg2 hat2)
        have hb2 := below_app (HB.out.alloc HB.out.size _) (HO.out.alloc _) (by simp; omega) hg2
        go_roundw
        case rel => exact ⟨k + 1, m + 1, by go_num, by omega, by rw [HS.out]; simpa [u8s] using hown2, by omega, hb2⟩
        case measure => simp [intOf]; omega
      · by_cases k1 : K = 1
        · subst k1
          have e : encA ⟨1, U, N, S⟩ = vput U.toNat := by simp [encA]
          rw [e] at HS
          have hm1 := HL1.out
          rw [HS.out, List.length_append, hxl] at hm1
          clear e hxl k0
          go_wp2_with fail
          refine (RefPut_any U hU.1 hU.2 _).mono ?_
          rintro x w1 ⟨v1, rfl, hown0, hb1⟩
          obtain ⟨A1, n1, c1, rfl, hnc1, hcm1, hrd1, _, HN1⟩ := hown0.var
          rw [← HN1.out] at hm1
          have HR1 := hide hrd1
          have HO1 := hide (ownsRow_below HO.out (hb1.mono (by simp)))
          have HB1 := hide (HB.out.trans (hb1.mono HB.out.size))
          clear hown0 hrd1 hb1
          go_wp2_with (at_builtin; refine wpList_append_rd _ rfl (.tmp 24) (.tmp 27) 28 rfl w.heap.size 5 i0 (.int .u8 0) 1 Try.underlying28 hi hz0 hz1 hz2 rfl _ m _ rfl HO1.out _ A1 n1 c1 _ rfl HR1.out (ints_oneCell _ _) (by unfold maxLen; omega) (by omega) HB1.out.size ?_; intro v2 w2 hown2 hg2 hat2)
          have hb2 := below_app HB1.out HO1.out HB1.out.size hg2
          go_roundw
          case rel => exact ⟨k + 1, m + n1, by go_num, by omega, by rw [HS.out]; simpa [u8s] using hown2, by omega, hb2⟩
          case measure => simp [intOf]; omega
        · by_cases k2 : K = 2
          · subst k2
            have e : encA ⟨2, U, N, S⟩ = vput (zz N).toNat := by simp [encA, zzM, zz]
            rw [e] at HS
            have hm1 := HL1.out
            rw [HS.out, List.length_append, hxl] at hm1
            clear e hxl k0 k1
            go_wp2_with fail
            refine (rInt3_any _ N hN.1 hN.2).mono ?_
            rintro x w1 ⟨v1, rfl, hown0, hb1⟩
            obtain ⟨A1, n1, c1, rfl, hnc1, hcm1, hrd1, _, HN1⟩ := hown0.var
            rw [← HN1.out] at hm1
            have HR1 := hide hrd1
            have HO1 := hide (ownsRow_below HO.out (hb1.mono (by simp)))
            have HB1 := hide (HB.out.trans (hb1.mono HB.out.size))
            clear hown0 hrd1 hb1
            go_wp2_with (at_builtin; refine wpList_append_rd _ rfl (.tmp 31) (.tmp 34) 28 rfl w.heap.size 5 i0 (.int .u8 0) 1 Try.underlying28 hi hz0 hz1 hz2 rfl _ m _ rfl HO1.out _ A1 n1 c1 _ rfl HR1.out (ints_oneCell _ _) (by unfold maxLen; omega) (by omega) HB1.out.size ?_; intro v2 w2 hown2 hg2 hat2)
            have hb2 := below_app HB1.out HO1.out HB1.out.size hg2
            go_roundw
            case rel => exact ⟨k + 1, m + n1, by go_num, by omega, by rw [HS.out]; simpa [u8s] using hown2, by omega, hb2⟩
            case measure => simp [intOf]; omega
          · by_cases k4 : K = 4
            · subst k4
              have e : encA ⟨4, U, N, S⟩ = encStr S := by simp [encA]
              rw [e] at HS
              have hm1 := HL1.out
              rw [HS.out, List.length_append, hxl] at hm1
              clear e hxl k0 k1 k2
              go_wp2_with fail
              refine (rStr3_any _ S (by omega)).mono ?_
              rintro x w1 ⟨v1, rfl, hown0, hb1⟩
              obtain ⟨A1, n1, c1, rfl, hnc1, hcm1, hrd1, _, HN1⟩ := hown0.var
              rw [← HN1.out] at hm1
              have HR1 := hide hrd1
              have HO1 := hide (ownsRow_below HO.out (hb1.mono (by simp)))
              have HB1 := hide (HB.out.trans (hb1.mono HB.out.size))
              clear hown0 hrd1 hb1
              go_wp2_with (at_builtin; refine wpList_append_rd _ rfl (.tmp 38) (.tmp 41) 28 rfl w.heap.size 5 i0 (.int .u8 0) 1 Try.underlying28 hi hz0 hz1 hz2 rfl _ m _ rfl HO1.out _ A1 n1 c1 _ rfl HR1.out (ints_oneCell _ _) (by unfold maxLen; omega) (by omega) HB1.out.size ?_; intro v2 w2 hown2 hg2 hat2)
              have hb2 := below_app HB1.out HO1.out HB1.out.size hg2
              go_roundw
              case rel => exact ⟨k + 1, m + n1, by go_num, by omega, by rw [HS.out]; simpa [u8s] using hown2, by omega, hb2⟩
              case measure => simp [intOf]; omega
            · have e : encA ⟨K, U, N, S⟩ = [] := by simp [encA, k0, k1, k2, k4]
              rw [e, List.append_nil] at HS
              have b0 : (K == 0) = false := by simpa using k0
              have b1 : (K == 1) = false := by simpa using k1
              have b2 : (K == 2) = false := by simpa using k2
              have b4 : (K == 4) = false := by simpa using k4
              clear e k0 k1 k2 k4 hxl
              go_wp2_with fail
              go_roundw
              case rel => exact ⟨k + 1, m, by go_num, by omega, by rw [HS.out]; exact HO.out, hm, HB.out⟩
              case measure => simp [intOf]; omega
    · obtain rfl : k = n := by omega
      rw [List.take_of_length_le (by omega)] at hown
      have hml := hown.1
      have hxl : (encL L).length = m := by simpa [u8s] using hml
      have HO := hide hown
      have HX := hide hxl
      clear hl hown hml hxl
      go_wp2
      go_ret
      exact ⟨_, rfl, ownB_of (by rw [HX.out]; exact HO.out), hb⟩
end Go.Proofs.Ytakjlomgkbloeaa
