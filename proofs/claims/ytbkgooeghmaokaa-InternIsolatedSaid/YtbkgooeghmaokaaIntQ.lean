/- The reference's Encode. -/
import Derived.Test.YtbkgooeghmaokaaIntR
set_option linter.unusedVariables false
namespace Go.Proofs.Ytbkgooeghmaokaa
open Go.RowKit

set_option maxHeartbeats 1000000 in
theorem encCount_own (k : Nat) : ∀ (a : Nat) (w : World), a ≤ k → a ≤ 1099511627776 →
    Calls Try.prog 43 #[.int .i64 (a : Int)] w fun e W' => ∃ v, e = .returned v ∧ W'.ownsRow w.heap.size 5 1 v (vput a).length (u8s (vput a)) ∧ Below w.heap.size w W' := by
  induction k using Nat.strongRecOn with
  | _ k ih =>
    intro a w hak ha
    obtain ⟨i0, hi, hz0, hz1, hz2⟩ := info_parts infoU8
    by_cases h : a < 128
    · have hv := vput_small h
      have ht : (a : Int) < 128 := by omega
      have h8 : (a : Int) % 256 = a := by omega
      rw [hv]
      clear hv
      go_enter Try.func43, Try.ntmps43
      go_wp2_with fail
      go_ret
      exact ⟨_, rfl, World.ownsRow_lit w #[.int .u8 (a : Int)] 1 (Nat.le_refl _) (by decide) rfl, (Below.refl _ _).alloc (Nat.le_refl _) _⟩
    · have hv : vput a = ((a : Int) % 128 + 128) :: vput (a / 128) := by rw [vput_big (by omega)]; simp
      have ht : ¬ (a : Int) < 128 := by omega
      have h8 : ((a : Int) % 128 + 128) % 256 = (a : Int) % 128 + 128 := by omega
      have hl10 := vput_le10 (a := a / 128) (by omega)
      have hl1 := vput_pos (a / 128)
      rw [hv]
      clear hv
      go_enter Try.func43, Try.ntmps43
      go_wp2_with (first
        | (go_at_call 43
           have hc := ih (a / 128) (by omega) (a / 128) (w.alloc (.cells #[.int .u8 ((a : Int) % 128 + 128)] 5)) (Nat.le_refl _) (by omega)
           refine hc.mono ?_
           rintro e w1 ⟨v, rfl, ho1, hb1⟩
           have hown := ownsRow_below (World.ownsRow_lit (base := w.heap.size) (e := 5) (size := 1) w #[.int .u8 ((a : Int) % 128 + 128)] 1 (Nat.le_refl _) (by decide) rfl) hb1
           obtain ⟨g, c1, rfl, hg1, hg2⟩ := ho1.form (by omega))
        | (at_builtin; refine wpList_append_own _ rfl _ _ 41 rfl w.heap.size 5 i0 (.int .u8 0) 1 1 Try.underlying41 hi hz0 hz1 hz2 rfl (by decide) _ _ _ rfl hown ⟨g, 0, none⟩ (vput (a / 128)).length c1 (u8s (vput (a / 128))) rfl (by simp) (ho1.cells rfl) (ints_oneCell _ _) (by unfold maxLen; omega) (by omega) (by have := hb1.size; simp at this; omega) ?_; intro v2 w2 hown2 hg2' _))
      go_ret
      refine ⟨v2, rfl, by simpa [Nat.add_comm] using hown2, ?_⟩
      exact (((Below.refl _ _).alloc (Nat.le_refl _) _).trans (hb1.mono (by simp))).grown hg2' (by have := hb1.size; simp at this; omega) (fun q hq => by
        have : (Value.slice (some ⟨w.heap.size, 0, none⟩) 1 1).ownBlock = some q := hq
        have : w.heap.size = q := by simpa [Value.ownBlock] using this
        omega)
theorem encCount_lit (a m : Nat) (ys : List Int) (h1 : a ≤ 1099511627776) (hy : vput a = ys) (hm : ys.length = m) (w : World) :
    Calls Try.prog 43 #[.int .i64 (a : Int)] w fun e w' => ∃ g1 c1, e = .returned (.slice (some ⟨g1, 0, none⟩) m c1) ∧ (∀ j u, (u8s ys)[j]? = some u → w'.cell? ((⟨g1, 0, none⟩ : Addr).add j) = some u) ∧ Below w.heap.size w w' := by
  subst hy hm
  refine (encCount_own a a w (Nat.le_refl _) h1).mono ?_
  rintro e w' ⟨v, rfl, ho, hb⟩
  obtain ⟨g, c, rfl, _, _⟩ := ho.form (by have := vput_pos a; omega)
  exact ⟨g, c, rfl, ho.cells rfl, hb⟩
theorem own_zero {w : World} {base : Nat} {e : TypeId} {g n c : Nat} {xs : List Value} (h : w.ownsRow base e 1 (.slice (some ⟨g, 0, none⟩) n c) n xs) : w.ownsRow base e 1 (.slice (some ⟨g, 0, none⟩) 0 c) 0 [] := by
  rcases h.2 with ⟨h0, _⟩ | ⟨g', cap, cur, h0, h1, h2, h3, h4, h5, h6⟩
  · cases h0
  · injection h0 with e1 e2 e3
    injection e1 with e1
    injection e1 with e1
    subst e1 e3
    exact ⟨rfl, .inr ⟨g, c, cur, rfl, h1, h2, Nat.zero_le _, h4, h5, by simp⟩⟩

set_option maxHeartbeats 4000000 in
set_option maxRecDepth 100000 in
theorem RefEncode_any (A : Option Addr) (n c : Nat) (L : List ByteArray) (w : World) (hA : Rd w w.heap.size A n (sV L)) (hs : ∀ s ∈ L, s.size ≤ 255) (hn : n ≤ 8000) :
    Calls Try.prog 24 #[.slice A n c] w fun e w' => ∃ v, e = .returned v ∧ OwnB w w' v (encT L) ∧ Below w.heap.size w w' := by
  obtain ⟨i0, hi, hz0, hz1, hz2⟩ := info_parts infoU8
  have HA := hide hA
  have hl := sV_len hA
  have HZ := hide hs
  have hel : ∀ k, (encS (L.take k)).length ≤ 265 * n := fun k => hl ▸ encS_take_len hs k
  have HLen := hide hel
  have hex : ∃ ys, vput n = ys := ⟨_, rfl⟩
  obtain ⟨ys, hy⟩ := hex
  have hex : ∃ m, ys.length = m := ⟨_, rfl⟩
  obtain ⟨m, hm⟩ := hex
  have hp1 := vput_pos n
  have hp2 := vput_le10 (a := n) (by omega)
  rw [hy, hm] at hp1 hp2
  have HM := hide hm
  have HEC := hide fun w => encCount_lit n m ys (by omega) hy hm w
  have HT := hide (show encT L = ys ++ encS L by rw [encT, hl, hy])
  have HInt := hide (show Calls Try.prog 42 #[.int .i64 0] w fun x w' => ∃ g1 c1, x = .returned (.slice (some ⟨g1, 0, none⟩) 1 c1) ∧ c1 ≤ maxLen ∧ 1 ≤ c1 ∧ w'.ownsRow w.heap.size 5 1 (.slice (some ⟨g1, 0, none⟩) 0 c1) 0 [] ∧ Below w.heap.size w w' from by
    refine (rInt3_any w 0 (by omega) (by omega)).mono ?_
    rintro e w' ⟨v, rfl, ho, hb⟩
    obtain ⟨A, n, c, rfl, h1, h2, _, h4, hN⟩ := ho.var
    have e0 : (vput (zz 0).toNat).length = 1 := by
      have : (zz 0).toNat = 0 := rfl
      rw [this, vput_small (by decide)]
      rfl
    have hN' := hN.out
    rw [e0] at hN'
    subst hN'
    obtain ⟨g, c', hv, _, _⟩ := h4.form (by decide)
    injection hv with hv1 hv2 hv3
    subst hv1 hv3
    exact ⟨g, c, rfl, h2, h1, own_zero h4, hb⟩)
  clear hA hs hel hy hm
  go_enter Try.func24, Try.ntmps24
  go_wp2_with fail
  refine HInt.out.mono ?_
  rintro e w1 ⟨g, c1, rfl, hcm1, hc11, hown, hb⟩
  have HO := hide hown
  have HB := hide hb
  have hsz := hb.size
  unfold maxLen at hcm1
  clear hown hb
  go_wp2
  go_region_law (first
    | (refine step_append_lies _ (by rfl) (.tmp 7) (.tmp 10) 41 (by rfl) w.heap.size 5 i0 (.int .u8 0) 1 1 Try.underlying41 hi hz0 hz1 hz2 rfl (by omega) (.slice (some ⟨g, 0, none⟩) 0 c1) 0 [] (by rfl) (ownsRow_below HO.out hb2) ⟨g1, 0, none⟩ m c2 (u8s ys) (by rfl) (by have := HM.out; simp [u8s]; omega) hcs (ints_oneCell _ _) (by omega) (by unfold maxLen; omega) (by omega) (by have := hb2.size; omega) w2.heap.size rfl ?_; intro g3 c3 w3 hown3 hg3 hat3 hlt3; rw [Nat.zero_add, List.nil_append] at hown3; have HO3 := hide hown3; have HB3 := hide (below_app (HB.out.trans (hb2.mono hsz)) (ownsRow_below HO.out hb2) (Nat.le_trans hsz hb2.size) hg3); clear hown3 hg3 hat3 hlt3)
    | (go_simp; refine (HEC.out _).mono ?_; rintro e w2 ⟨g1, c2, rfl, hcs, hb0⟩; have hb2 : Below w1.heap.size w1 w2 := ⟨hb0.os, hb0.tape, hb0.output, hb0.size, hb0.block⟩; clear hb0))
  go_simp
  go_wp2_with fail
  go_loopw [3, 4] (fun v i wr => ∃ k q : Nat, i = .int .i64 (k : Int) ∧ k ≤ n ∧ q ≤ 2200000 ∧ wr.ownsRow w.heap.size 5 1 v q (u8s (ys ++ encS (L.take k))) ∧ Below w.heap.size w wr) (fun _ i _ => n - (intOf i).toNat)
  case atStart => exact ⟨0, m, rfl, Nat.zero_le _, by omega, by simpa [encS] using HO3.out, HB3.out⟩
  case round =>
    obtain ⟨k, q, rfl, hk, hq, hown, hb⟩ := hrel
    have HOw := hide hown
    have HBw := hide hb
    have hszw := hb.size
    have hle := HLen.out k
    have hql : (ys ++ encS (L.take k)).length = q := by have := hown.1; simpa using this
    rw [List.length_append, HM.out] at hql
    have hq2 : q ≤ 10 + 265 * n := by omega
    clear hown hb hle hql hq
    by_cases hlt : k < n
    · have hex : ∃ s, L[k]? = some s := ⟨_, List.getElem?_eq_getElem (by omega)⟩
      obtain ⟨s, hs⟩ := hex
      have hlt' : (k : Int) < (n : Int) := by omega
      obtain ⟨b, o, rfl, hbB, c0⟩ := (HA.out.below HBw.out).str hs
      have hsm := HZ.out s (List.mem_of_getElem? hs)
      have HS := hide (encS_take_succ hs)
      have hlen : (encStr s).length ≤ 265 := by
        have := vput_le10 (a := s.size) (by omega)
        rw [encStr, List.length_append, sB_length]
        omega
      have HL := hide hlen
      clear hs hlen
      go_wp2_with (first
        | (go_at_call 44; refine (rStr3_any wr s (by omega)).mono ?_; rintro e w4 ⟨v4, rfl, ho4, hb4⟩; obtain ⟨A4, n4, c4, rfl, h41, h42, hr4, _, HN4⟩ := ho4.var; have HR4 := hide hr4; have HB4 := hide (HBw.out.trans (hb4.mono hszw)); have HO4 := hide (ownsRow_below HOw.out hb4); have hs4 := hide (Nat.le_trans hszw hb4.size); have hn4 : n4 ≤ 265 := HN4.out ▸ HL.out; clear ho4 hr4 hb4 h41 h42)
        | (at_builtin; refine wpList_append_rd _ rfl (.tmp 18) (.tmp 23) 41 rfl w.heap.size 5 i0 (.int .u8 0) 1 Try.underlying41 hi hz0 hz1 hz2 rfl _ q _ rfl HO4.out _ A4 n4 c4 (u8s (encStr s)) rfl HR4.out (ints_oneCell _ _) (by unfold maxLen; omega) (by omega) hs4.out ?_; intro v5 w5 hown5 hg5 hat5; have HO5 := hide hown5; have HB5 := hide (below_app HB4.out HO4.out hs4.out hg5); clear hown5 hg5 hat5))
      go_roundw
      case rel => exact ⟨k + 1, q + n4, by go_num, by omega, by omega, by rw [HS.out, ← List.append_assoc]; have := HO5.out; rw [← List.map_append] at this; exact this, HB5.out⟩
      case measure => simp [intOf]; omega
    · obtain rfl : k = n := by omega
      have hown := HOw.out
      rw [List.take_of_length_le (by omega), ← HT.out] at hown
      have HO6 := hide hown
      clear hown
      go_wp2
      go_ret
      have hlen : q = (encT L).length := by have := HO6.out.1; simpa using this.symm
      exact ⟨_, rfl, ownB_of (hlen ▸ HO6.out), HBw.out⟩
end Go.Proofs.Ytbkgooeghmaokaa
