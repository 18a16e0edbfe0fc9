/- The examples of chapter 3 hold: 'alive' returns true and turns nothing that lay. -/
import Derived.Test.YtakjlomgkbloeaaRdrM
import Derived.Test.YtakjlomgkbloeaaWtr
set_option linter.unusedVariables false
namespace Go.Proofs.Ytakjlomgkbloeaa
open Go.RowKit

theorem put300 : vput (300 : Int).toNat = [172, 2] := by
  rw [show (300 : Int).toNat = 300 from rfl, vput_big (by omega), vput_small (by omega)]
  rfl
theorem encAB : encStr ⟨#[97, 98]⟩ = [2, 97, 98] := by
  unfold encStr
  rw [show (⟨#[97, 98]⟩ : ByteArray).size = 2 from rfl, vput_small (by omega)]
  rfl
theorem uint5 : aUint [5] 0 4 = (0, [], 15) := by decide +kernel
theorem str5 : aStr [5] 0 9 = ([], [], 4) := by decide +kernel

theorem aliveW (w : World) : Calls Try.prog 11 #[] w fun x w' => ∃ g, x = .returned (.pointer (some ⟨g, 0, none⟩)) ∧ w.heap.size ≤ g ∧ CW w' g [] ∧ Below w.heap.size w w' :=
  (NewWriter_any w).mono fun e w' ⟨g, h1, h2, h3, h4⟩ => ⟨g, h1, by omega, h3, h4⟩
theorem aliveU {w : World} {g : Nat} (h : CW w g []) : Calls Try.prog 30 #[.pointer (some ⟨g, 0, none⟩), .int .u64 300] w fun x w' => (∃ v, x = .returned v) ∧ CW w' g [172, 2] ∧ Below g w w' := by
  have H := wUint_any h 300 (by omega) (by omega) (by simp)
  rw [put300] at H
  exact H
theorem aliveS {w : World} {g : Nat} (h : CW w g [172, 2]) : Calls Try.prog 32 #[.pointer (some ⟨g, 0, none⟩), .string ⟨#[97, 98]⟩] w fun x w' => (∃ v, x = .returned v) ∧ CW w' g [172, 2, 2, 97, 98] ∧ Below g w w' := by
  have H := wStr_any h ⟨#[97, 98]⟩ (show 2 ≤ _ by omega) (by simp)
  rw [encAB] at H
  exact H
theorem aliveR (w : World) (g : Nat) (hg : g < w.heap.size) (hr : Rd w w.heap.size (some ⟨g, 0, none⟩) 1 (u8s [5])) : Calls Try.prog 16 #[.slice (some ⟨g, 0, none⟩) 1 1] w fun x w' => ∃ g, x = .returned (.pointer (some ⟨g, 0, none⟩)) ∧ w.heap.size ≤ g ∧ g < w'.heap.size ∧
      (∀ w2 : World, w'.heap.size ≤ w2.heap.size → (∀ k, w.heap.size ≤ k → k ≤ g → w2.heap[k]? = w'.heap[k]?) → CR w2 g [5] 0) ∧ Below w.heap.size w w' :=
  NewReader_new _ 1 1 [5] w hr (Nat.le_refl _) (by simp [Byt]) (by omega)
theorem aliveRU {w : World} {g : Nat} (h : CR w g [5] 0) : Calls Try.prog 19 #[.pointer (some ⟨g, 0, none⟩), .int .u64 4] w fun x w' => (∃ v, x = .returned v) ∧ CR w' g [] 15 ∧ w.grownBy w' (some g) := by
  refine (Uint_any h 4).mono ?_
  rw [uint5]
  rintro x w' ⟨v, rfl, _, h1, h2⟩
  exact ⟨⟨_, rfl⟩, h1, h2⟩
theorem aliveRS {w : World} {g : Nat} (h : CR w g [5] 0) : Calls Try.prog 21 #[.pointer (some ⟨g, 0, none⟩), .int .i64 9] w fun x w' => (∃ v, x = .returned v) ∧ CR w' g [] 4 ∧ w.grownBy w' (some g) := by
  refine (String_any h 9 (by omega) (by omega)).mono ?_
  rw [str5]
  rintro x w' ⟨v, rfl, _, h1, h2⟩
  exact ⟨⟨_, rfl⟩, h1, h2⟩

theorem aliveB {w : World} {g : Nat} (h : CW w g [172, 2, 2, 97, 98]) : Calls Try.prog 13 #[.pointer (some ⟨g, 0, none⟩)] w fun x w' => ∃ A c, x = .returned (.slice A 5 c) ∧ Rd w' w'.heap.size A 5 (u8s [172, 2, 2, 97, 98]) ∧ Below w.heap.size w w' := by
  refine (wBytes_any h (by simp)).mono ?_
  rintro e w8 ⟨v, rfl, ⟨A, c, rfl, k1, k2, hrd, _⟩, hw8, hb8⟩
  exact ⟨A, c, rfl, hrd, hb8⟩
theorem aliveE (w : World) (A : Option Addr) (c : Nat) (h : Rd w w.heap.size A 5 (u8s [172, 2, 2, 97, 98])) : Calls Try.prog 15 #[.slice A 5 c, .slice (some ⟨w.heap.size, 0, none⟩) 5 5] (w.alloc (.cells (u8s [172, 2, 2, 97, 98]).toArray 5)) fun x w' => x = .returned (.bool true) ∧ w.alloc (.cells (u8s [172, 2, 2, 97, 98]).toArray 5) = w' := by
  have H := Equal_any A (some ⟨w.heap.size, 0, none⟩) 5 5 c 5 [172, 2, 2, 97, 98] [172, 2, 2, 97, 98] _ _ _ (h.alloc (Nat.le_refl _) (.cells (u8s [172, 2, 2, 97, 98]).toArray 5)) (Rd_lit w [172, 2, 2, 97, 98] 5) (by simp [Byt]) (by simp [Byt])
  rw [eqB_self] at H
  exact H

set_option maxHeartbeats 2000000 in
theorem alive03_any (w : World) : Calls Try.prog 10 #[] w fun e w' => e = .returned (.bool true) ∧ Below w.heap.size w w' := by
  go_enter Try.func10, Try.ntmps10
  go_wp2_with fail
  refine (aliveW _).mono ?_
  rintro e w1 ⟨g, rfl, hg, hw1, hb1⟩
  go_wp2_with fail
  refine (aliveU hw1).mono ?_
  rintro e w2 ⟨⟨v, rfl⟩, hw2, hb2⟩
  go_wp2_with fail
  refine (aliveS hw2).mono ?_
  rintro e w3 ⟨⟨v, rfl⟩, hw3, hb3⟩
  have q3 := hide ((hb1.trans (hb2.mono hg)).trans (hb3.mono hg))
  have hW := hide hw3
  clear hb1 hb2 hb3 hw1 hw2 hw3
  go_wp2_with fail
  refine (aliveR _ _ (by simp) ((Rd_lit w3 [5] 5).more (by simp))).mono ?_
  rintro e w4 ⟨r, rfl, hr1, hr2, hr3, hb4⟩
  have hR := hide hr3
  have q4 := hide (((Below.refl w3.heap.size w3).alloc (Nat.le_refl _) _).trans (hb4.mono (by simp)))
  simp only [World.size_alloc] at hr1 hR
  clear hb4 hr3
  go_wp2_with fail
  refine (aliveR _ _ (by simp) ((Rd_lit w4 [5] 5).more (by simp))).mono ?_
  rintro e w5 ⟨q, rfl, hq1, hq2, hq3, hb5⟩
  have hQ := hide hq3
  have h45 := hide (((Below.refl w4.heap.size w4).alloc (Nat.le_refl _) _).trans (hb5.mono (by simp)))
  simp only [World.size_alloc] at hq1 hQ
  have hs4 : w4.heap.size ≤ w5.heap.size := h45.out.size
  have hs3 : w3.heap.size < r := by omega
  clear hb5 hq3
  have hr5 : CR w5 r [5] 0 := hR.out w5 hs4 (fun k _ hk => h45.out.block k (by omega))
  go_wp2_with fail
  refine (aliveRU hr5).mono ?_
  rintro e w6 ⟨⟨v, rfl⟩, hr6, hg6⟩
  have hq6 : CR w6 q [5] 0 := hQ.out w6 hg6.size (fun k hk1 hk2 => hg6.block k (by omega) (fun x => by injection x with x; omega))
  have H6 := hide hr6
  have G6 := hide hg6
  clear hr6 hg6 hr5
  go_wp2_with fail
  refine (aliveRS hq6).mono ?_
  rintro e w7 ⟨⟨v, rfl⟩, hq7, hg7⟩
  have hr7 : CR w7 r [] 15 := H6.out.far hg7 (by omega)
  have q57 := hide (below_only (B := w3.heap.size) (below_only (B := w3.heap.size) (q4.out.trans (h45.out.mono q4.out.size)) (by omega) (by omega) G6.out) (by have := G6.out.size; omega) (by omega) hg7)
  have hW7 := hW.out.below q57.out (Nat.le_refl _)
  have Q7 := hide hq7
  clear hg7 hq7 hq6
  go_wp2_with fail
  refine (aliveB hW7).mono ?_
  rintro e w8 ⟨A, c, rfl, hrd, hb8⟩
  have hr8 : CR w8 r [] 15 := hr7.below hb8 hr7.lt
  have hq8 : CR w8 q [] 4 := Q7.out.below hb8 Q7.out.lt
  have q8 := hide ((q3.out.trans (q57.out.mono q3.out.size)).trans (hb8.mono (Nat.le_trans q3.out.size q57.out.size)))
  have hr9 := hide (hr8.below (w' := w8.alloc (.cells (u8s [172, 2, 2, 97, 98]).toArray 5)) ((Below.refl w8.heap.size w8).alloc (Nat.le_refl _) _) hr8.lt).errOf
  have hq9 := hide (hq8.below (w' := w8.alloc (.cells (u8s [172, 2, 2, 97, 98]).toArray 5)) ((Below.refl w8.heap.size w8).alloc (Nat.le_refl _) _) hq8.lt).errOf
  have hE := hide (aliveE w8 A c hrd)
  clear hrd hb8 hr8 hq8 hr7 hW7
  go_wp2_with fail
  refine hE.out.mono ?_
  rintro e w9 ⟨rfl, rfl⟩
  go_wp2_with fail
  refine (Err_of _ _ _ hr9.out).mono ?_
  rintro e w9 ⟨rfl, rfl⟩
  go_wp2_with fail
  refine (Err_of _ _ _ hq9.out).mono ?_
  rintro e w9 ⟨rfl, rfl⟩
  go_wp2_with fail
  go_ret
  exact ⟨rfl, q8.out.alloc q8.out.size _⟩
end Go.Proofs.Ytakjlomgkbloeaa
