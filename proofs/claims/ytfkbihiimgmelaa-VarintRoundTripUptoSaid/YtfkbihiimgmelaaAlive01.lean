/- The examples of chapter 1 hold: 'alive' returns true and turns nothing that lay. -/
import Derived.Test.YtfkbihiimgmelaaRef01
set_option linter.unusedVariables false
namespace Go.Proofs.Ytfkbihiimgmelaa
open Go.RowKit

/-- a slice written out lies in a block of its own -/
theorem Rd_lit (w : World) (xs : List Int) (t : TypeId) : Rd (w.alloc (.cells (u8s xs).toArray t)) (w.heap.size + 1) (some ⟨w.heap.size, 0, none⟩) xs.length (u8s xs) :=
  ⟨by simp, fun _ => ⟨w.heap.size, 0, rfl, by omega, fun j u hu => by
    rw [cell_of_row (w.alloc (.cells (u8s xs).toArray t)) w.heap.size (0 + j) (u8s xs).toArray t (0, 0) (heap_alloc_new w _)]
    simpa using hu⟩⟩

theorem aliveGet1 (g : Nat) (w : World) (hg : g = w.heap.size) : Calls Try.prog 14 #[.slice (some ⟨g, 0, none⟩) 2 2, .int .i64 0] (w.alloc (.cells #[.int .u8 128, .int .u8 0] 5)) fun e w' => e = .returned (.tuple #[.int .u64 0, .int .i64 0, .int .i64 5]) ∧ (w.alloc (.cells #[.int .u8 128, .int .u8 0] 5)) = w' := by
  subst hg
  exact (Get_any _ 2 2 0 [128, 0] _ (Rd_lit w [128, 0] _) (by simp [Byt]) (by decide) (by decide)).mono fun _ _ ⟨h1, h2⟩ => ⟨h1.trans rfl, h2⟩
theorem aliveGet2 (g : Nat) (w : World) (hg : g = w.heap.size) : Calls Try.prog 14 #[.slice (some ⟨g, 0, none⟩) 1 1, .int .i64 0] (w.alloc (.cells #[.int .u8 128] 5)) fun e w' => e = .returned (.tuple #[.int .u64 0, .int .i64 0, .int .i64 4]) ∧ (w.alloc (.cells #[.int .u8 128] 5)) = w' := by
  subst hg
  exact (Get_any _ 1 1 0 [128] _ (Rd_lit w [128] _) (by simp [Byt]) (by decide) (by decide)).mono fun _ _ ⟨h1, h2⟩ => ⟨h1.trans rfl, h2⟩
theorem aliveGet3 (g : Nat) (w : World) (hg : g = w.heap.size) : Calls Try.prog 14 #[.slice (some ⟨g, 0, none⟩) 3 3, .int .i64 1] (w.alloc (.cells #[.int .u8 1, .int .u8 172, .int .u8 2] 5)) fun e w' => e = .returned (.tuple #[.int .u64 300, .int .i64 3, .int .i64 0]) ∧ (w.alloc (.cells #[.int .u8 1, .int .u8 172, .int .u8 2] 5)) = w' := by
  subst hg
  exact (Get_any _ 3 3 1 [1, 172, 2] _ (Rd_lit w [1, 172, 2] _) (by simp [Byt]) (by decide) (by decide)).mono fun _ _ ⟨h1, h2⟩ => ⟨h1.trans rfl, h2⟩
theorem vput300 : vput 300 = [172, 2] := by rw [vput_big (by decide), vput_small (by decide)]; rfl
theorem alivePut (w : World) : Calls Try.prog 9 #[.int .u64 300] w fun e w' => ∃ A c, e = .returned (.slice A 2 c) ∧ Rd w' w'.heap.size A 2 (u8s [172, 2]) ∧ Below w.heap.size w w' := by
  refine (Put_any 300 (by decide) (by decide) w).mono ?_
  rintro e w' ⟨v, rfl, ⟨A, c, rfl, _, _, hr, _⟩, hb⟩
  rw [show (300 : Int).toNat = 300 from rfl, vput300] at *
  exact ⟨A, c, rfl, hr, hb⟩

theorem aliveEq (A : Option Addr) (c g : Nat) (w : World) {B : Nat} (hr : Rd w B A 2 (u8s [172, 2])) (hB : B ≤ w.heap.size) (hg : g = w.heap.size) : Calls Try.prog 11 #[.slice A 2 c, .slice (some ⟨g, 0, none⟩) 2 2] (w.alloc (.cells #[.int .u8 172, .int .u8 2] 5)) fun e w' => e = .returned (.bool true) ∧ (w.alloc (.cells #[.int .u8 172, .int .u8 2] 5)) = w' := by
  subst hg
  exact (Equal_any A _ 2 2 c 2 [172, 2] [172, 2] _ _ _ (hr.alloc hB _) (Rd_lit w [172, 2] _) (by simp [Byt]) (by simp [Byt])).mono fun _ _ ⟨h1, h2⟩ => ⟨h1.trans rfl, h2⟩
theorem aliveZig (w : World) : Calls Try.prog 18 #[.int .i64 (-3)] w fun e w' => e = .returned (.int .u64 5) ∧ w = w' :=
  (Zigzag_any (-3) w (by decide) (by decide)).mono fun _ _ ⟨h1, h2⟩ => ⟨h1.trans rfl, h2⟩
theorem aliveUnzig (w : World) : Calls Try.prog 19 #[.int .u64 5] w fun e w' => e = .returned (.int .i64 (-3)) ∧ w = w' :=
  (Unzigzag_any 5 w (by decide) (by decide)).mono fun _ _ ⟨h1, h2⟩ => ⟨h1.trans rfl, h2⟩
theorem aliveSize (w : World) : Calls Try.prog 13 #[.int .u64 300] w fun e w' => e = .returned (.int .i64 2) ∧ w = w' :=
  (Size_any 300 w (by decide) (by decide)).mono fun _ _ ⟨h1, h2⟩ => ⟨h1.trans (by unfold vlen; rw [show (300 : Int).toNat = 300 from rfl, vput300]; rfl), h2⟩

set_option maxHeartbeats 1000000 in
theorem alive_any (w : World) : Calls Try.prog 10 #[] w fun e w' => e = .returned (.bool true) ∧ Below w.heap.size w w' := by
  go_enter Try.func10, Try.ntmps10
  go_wp2_with fail
  refine (aliveGet1 _ _ (by simp)).mono ?_
  rintro e w1 ⟨rfl, rfl⟩
  go_wp2_with fail
  refine (aliveGet2 _ _ (by simp)).mono ?_
  rintro e w1 ⟨rfl, rfl⟩
  go_wp2_with fail
  refine (aliveGet3 _ _ (by simp)).mono ?_
  rintro e w1 ⟨rfl, rfl⟩
  go_wp2_with fail
  refine (alivePut _).mono ?_
  rintro e w1 ⟨A, c, rfl, hr, hb⟩
  go_wp2_with fail
  refine (aliveEq _ _ _ _ hr (Nat.le_refl _) rfl).mono ?_
  rintro e w2 ⟨rfl, rfl⟩
  go_wp2_with fail
  refine (aliveZig _).mono ?_
  rintro e w2 ⟨rfl, rfl⟩
  go_wp2_with fail
  refine (aliveUnzig _).mono ?_
  rintro e w2 ⟨rfl, rfl⟩
  go_wp2_with fail
  refine (aliveSize _).mono ?_
  rintro e w2 ⟨rfl, rfl⟩
  go_wp2_with fail
  go_ret
  refine ⟨rfl, ?_⟩
  have h3 : Below w.heap.size w (((w.alloc (.cells #[.int .u8 128, .int .u8 0] 5)).alloc (.cells #[.int .u8 128] 5)).alloc (.cells #[.int .u8 1, .int .u8 172, .int .u8 2] 5)) := (((Below.refl _ _).alloc (Nat.le_refl _) _).alloc (by simp) _).alloc (by simp; omega) _
  have h4 := h3.trans (hb.mono (by simp; omega))
  exact h4.alloc h4.size _
end Go.Proofs.Ytfkbihiimgmelaa
