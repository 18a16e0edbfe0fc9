/- The examples of chapter 4 hold: 'alive' returns true and turns nothing that lay. -/
import Derived.Test.YtgfeimlieibjhaaContS
set_option linter.unusedVariables false
namespace Go.Proofs.Ytgfeimlieibjhaa
open Go.RowKit

theorem sumNil4 : sum [] = 0 := by decide +kernel
theorem enc0 : encC [] = magicL := rfl
theorem enc3 : encC [(3, [])] = [77, 73, 82, 84, 1, 3, 0, 0, 0, 0, 0] := by
  simp only [encC, encS, List.flatMap_cons, List.flatMap_nil, List.length_nil, sumNil4, vput_small (show 0 < 128 by decide)]
  rfl
theorem str0 : strOfNums magicL = ⟨#[77, 73, 82, 84, 1]⟩ := by decide
theorem str3 : strOfNums [77, 73, 82, 84, 1, 3, 0, 0, 0, 0, 0] = ⟨#[77, 73, 82, 84, 1, 3, 0, 0, 0, 0, 0]⟩ := by decide
theorem alive0 (w : World) : Calls Try.prog 12 #[.slice none 0 0] w fun e w' => ∃ A n c, e = .returned (.tuple #[.slice A n c, .int .i64 0]) ∧ Rd w' w'.heap.size A n (u8s magicL) ∧ Below w.heap.size w w' := by
  refine (Write_any none 0 0 [] w ⟨⟨rfl, fun h => absurd h (by decide)⟩, fun x hx => by cases hx⟩ (Nat.zero_le _) (by decide)).mono ?_
  rintro e w' ⟨v, rfl, hob, hb⟩
  obtain ⟨A, n, c, rfl, _, _, hr, _, _⟩ := hob.var
  exact ⟨A, n, c, rfl, hr, hb⟩
theorem alive1 (w : World) (g : Nat) (hg : w.heap[g]? = some (.cells #[.int .i64 3, .slice none 0 0] 56 (0, 0))) :
    Calls Try.prog 12 #[.slice (some ⟨g, 0, none⟩) 1 1] w fun e w' => ∃ A n c, e = .returned (.tuple #[.slice A n c, .int .i64 0]) ∧ Rd w' w'.heap.size A n (u8s [77, 73, 82, 84, 1, 3, 0, 0, 0, 0, 0]) ∧ Below w.heap.size w w' := by
  have hc : Secs w w.heap.size 2 c2 (some ⟨g, 0, none⟩) 1 [⟨3, none, 0, 0, [], 0, 0⟩] := by
    refine ⟨⟨rfl, fun _ => ⟨g, 0, rfl, (Array.getElem?_eq_some_iff.1 hg).1, fun i x hx j u hu => ?_⟩⟩, fun x hx => ?_⟩
    · have hi : i = 0 := by
        rcases Nat.eq_zero_or_pos i with h | h
        · exact h
        · rw [List.getElem?_eq_none (by simp; omega)] at hx; cases hx
      subst hi
      obtain rfl : _ = x := by simpa using hx
      rw [cell_of_row w g _ _ _ _ hg]
      simpa [c2] using hu
    · obtain rfl : x = _ := by simpa using hx
      exact ⟨⟨Nat.le_refl _, Nat.zero_le _, Byt.nil, rfl, by decide, by decide⟩, Rd.nil _ _ _⟩
  refine (Write_any _ 1 1 _ w hc (by unfold maxLen; omega) (by show (encC [(3, [])]).length ≤ _; rw [enc3]; decide)).mono ?_
  rintro e w' ⟨v, rfl, hob, hb⟩
  have h1 : wrB [(3, [])] = [77, 73, 82, 84, 1, 3, 0, 0, 0, 0, 0] := by unfold wrB; rw [if_pos (by decide), enc3]
  have h2 : vals [(⟨3, none, 0, 0, [], 0, 0⟩ : SecW)] = [(3, [])] := rfl
  have h3 : wrE [(3, [])] = 0 := by decide
  rw [h2, h1] at hob
  rw [h2, h3]
  obtain ⟨A, n, c, rfl, _, _, hr, _, _⟩ := hob.var
  exact ⟨A, n, c, rfl, hr, hb⟩
theorem alive2 (w : World) (g B : Nat) (hr : Rd w B (some ⟨g, 0, none⟩) 5 (u8s [77, 73, 82, 84, 2])) (hB : B ≤ w.heap.size) :
    Calls Try.prog 15 #[.slice (some ⟨g, 0, none⟩) 5 5] w fun e w' => ∃ v, e = .returned (.tuple #[v, .int .i64 8]) ∧ Below w.heap.size w w' := by
  refine (Read_any _ 5 5 [77, 73, 82, 84, 2] w (hr.more hB) (by intro x hx; simp only [List.mem_cons, List.not_mem_nil, or_false] at hx; omega) (Nat.le_refl _) (by unfold maxLen; omega) (by decide)).mono ?_
  rintro e w' ⟨v, rfl, _, hb⟩
  rw [(bad_hdr (xs := [77, 73, 82, 84, 2]) (e := 8) (by decide) (by decide)).out.1]
  exact ⟨v, rfl, hb⟩

set_option maxRecDepth 100000 in
set_option maxHeartbeats 2000000 in
theorem alive04_any (w : World) : Calls Try.prog 10 #[] w fun e w' => e = .returned (.bool true) ∧ Below w.heap.size w w' := by
  have kc := fun (w : World) (C : Array Value) (n c : Nat) => Lib.run_convert_bytes_const (P := Try.prog) w 29 5 C n c Try.underlying29 Try.underlying5
  go_enter Try.func10, Try.ntmps10
  go_wp2_with fail
  refine (alive0 _).mono ?_
  rintro e w1 ⟨A1, n1, c1, rfl, hr1, hb1⟩
  have HR1 := hide hr1
  have HB1 := hide hb1
  clear hr1 hb1
  go_wp2_with fail
  refine (alive1 _ w1.heap.size (heap_alloc_new w1 _)).mono ?_
  rintro e w2 ⟨A2, n2, c2', rfl, hr2, hb2⟩
  have HB2 := hide ((HB1.out.alloc HB1.out.size _).trans (hb2.mono (by have := HB1.out.size; simp; omega)))
  have HR12 := hide (((HR1.out.alloc (Nat.le_refl _) _).below (hb2.mono (by simp))).more (Nat.le_trans (by simp) hb2.size))
  have HR2 := hide hr2
  clear hr2 hb2
  go_wp2_with fail
  refine (alive2 _ _ _ (Rd_mark w2 [77, 73, 82, 84, 2] _ _) (by simp)).mono ?_
  rintro e w3 ⟨v3, rfl, hb3⟩
  have hb3' := ((Below.refl w2.heap.size w2).alloc (Nat.le_refl _) (.cells #[.int .u8 77, .int .u8 73, .int .u8 82, .int .u8 84, .int .u8 2] 5 (5, 6))).trans (hb3.mono (by simp))
  have HB3 := hide (HB2.out.trans (hb3'.mono HB2.out.size))
  have hcv1 := (HR12.out.below hb3').convert (c := c1) 29 5 9 Try.underlying29 Try.underlying5 Try.underlying9
  have hcv2 := (HR2.out.below hb3').convert (c := c2') 29 5 9 Try.underlying29 Try.underlying5 Try.underlying9
  rw [str0] at hcv1
  rw [str3] at hcv2
  clear hb3' hb3
  go_wp2_with fail
  go_ret
  exact ⟨rfl, HB3.out⟩
end Go.Proofs.Ytgfeimlieibjhaa
