/- The examples of chapter 2 hold: 'alive' returns true and turns nothing that lay. -/
import Derived.Test.YtcmcjpimophpeaaCrcApp
import Derived.Test.YtcmcjpimophpeaaCrcChk
import Derived.Lib.SlBytesConst
set_option linter.unusedVariables false
namespace Go.Proofs.Ytcmcjpimophpeaa
open Go.RowKit

theorem sumNine : sum [49, 50, 51, 52, 53, 54, 55, 56, 57] = 3421780262 := by decide +kernel
theorem sumNil : sum [] = 0 := by decide +kernel

/-- a constant's bytes: a row with the run-time's mark behind it -/
theorem Rd_mark (w : World) (xs : List Int) (t : TypeId) (fr : Nat × Nat) : Rd (w.alloc (.cells (u8s xs).toArray t fr)) (w.heap.size + 1) (some ⟨w.heap.size, 0, none⟩) xs.length (u8s xs) :=
  ⟨by simp, fun _ => ⟨w.heap.size, 0, rfl, by omega, fun j u hu => by
    rw [cell_of_row (w.alloc (.cells (u8s xs).toArray t fr)) w.heap.size (0 + j) (u8s xs).toArray t fr (heap_alloc_new w _)]
    simpa using hu⟩⟩
theorem aliveSum (W : World) (g B : Nat) (hr : Rd W B (some ⟨g, 0, none⟩) 9 (u8s [49, 50, 51, 52, 53, 54, 55, 56, 57])) (hB : B ≤ W.heap.size) : Calls Try.prog 10 #[.slice (some ⟨g, 0, none⟩) 9 9] W fun e w' =>
    e = .returned (.int .u32 3421780262) ∧ Below W.heap.size W w' := by
  refine (Sum_any _ 9 9 [49, 50, 51, 52, 53, 54, 55, 56, 57] _ B hr hB (by simp [Byt]) (by decide)).mono ?_
  rintro e w' ⟨rfl, hb⟩
  rw [sumNine]
  exact ⟨rfl, hb⟩
theorem aliveNil (w : World) : Calls Try.prog 10 #[.slice none 0 0] w fun e w' => e = .returned (.int .u32 0) ∧ Below w.heap.size w w' := by
  refine (Sum_any none 0 0 [] w 0 (Rd.nil _ _ _) (Nat.zero_le _) (by simp [Byt]) (by decide)).mono ?_
  rintro e w' ⟨rfl, hb⟩
  rw [sumNil]
  exact ⟨rfl, hb⟩
theorem aliveApp (W : World) (g B : Nat) (hr : Rd W B (some ⟨g, 0, none⟩) 1 (u8s [97])) (hB : B ≤ W.heap.size) : Calls Try.prog 13 #[.slice (some ⟨g, 0, none⟩) 1 1] W fun e w' =>
    ∃ A n c, e = .returned (.slice A n c) ∧ n ≤ c ∧ c ≤ maxLen ∧ Rd w' w'.heap.size A n (u8s ([97] ++ sto (sum [97]))) ∧ Below W.heap.size W w' := by
  refine (Append_any _ 1 1 [97] _ B hr hB (by simp [Byt]) (by decide)).mono ?_
  rintro e w' ⟨v, rfl, ⟨A, c, rfl, k1, k2, k3, _⟩, hb⟩
  exact ⟨A, _, c, rfl, k1, k2, k3, hb⟩
theorem aliveChk (A : Option Addr) (n c : Nat) (w : World) (hr : Rd w w.heap.size A n (u8s ([97] ++ sto (sum [97])))) (hnc : n ≤ c) (hcm : c ≤ maxLen) : Calls Try.prog 15 #[.slice A n c] w fun e w' =>
    e = .returned (.bool true) ∧ Below w.heap.size w w' := by
  refine (Check_any A n c _ w _ hr (Nat.le_refl _) ((show Byt [97] by simp [Byt]).append (sto_byt _)) hnc hcm).mono ?_
  rintro e w' ⟨rfl, hb⟩
  rw [chk_app [97] (by simp [Byt])]
  exact ⟨rfl, hb⟩

set_option maxHeartbeats 1000000 in
theorem alive02_any (w : World) : Calls Try.prog 9 #[] w fun e w' => e = .returned (.bool true) ∧ Below w.heap.size w w' := by
  have kc := fun (w : World) (C : Array Value) (n c : Nat) => Lib.run_convert_bytes_const (P := Try.prog) w 22 5 C n c Try.underlying22 Try.underlying5
  go_enter Try.func9, Try.ntmps9
  go_wp2_with fail
  refine (aliveSum _ _ _ (Rd_mark w [49, 50, 51, 52, 53, 54, 55, 56, 57] _ _) (by simp)).mono ?_
  rintro e w1 ⟨rfl, hb1⟩
  have h1 : Below w.heap.size w w1 := ((Below.refl _ _).alloc (Nat.le_refl _) _).trans (hb1.mono (by simp))
  go_wp2_with fail
  refine (aliveNil _).mono ?_
  rintro e w2 ⟨rfl, hb2⟩
  have h2 := h1.trans (hb2.mono h1.size)
  go_wp2_with fail
  refine (aliveApp _ _ _ (Rd_mark w2 [97] _ _) (by simp)).mono ?_
  rintro e w3 ⟨A, n, c, rfl, hnc, hcm, hr, hb3⟩
  have h3 : Below w.heap.size w w3 := (h2.alloc h2.size _).trans (hb3.mono (by have := h2.size; simp; omega))
  go_wp2_with fail
  refine (aliveChk A n c _ hr hnc hcm).mono ?_
  rintro e w4 ⟨rfl, hb4⟩
  have h4 := h3.trans (hb4.mono h3.size)
  go_wp2_with fail
  go_ret
  exact ⟨rfl, h4⟩
end Go.Proofs.Ytcmcjpimophpeaa
