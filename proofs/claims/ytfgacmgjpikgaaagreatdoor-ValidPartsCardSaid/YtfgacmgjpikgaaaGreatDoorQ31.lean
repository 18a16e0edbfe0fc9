/- Part 32 of the contracts and their mathematics. -/
import Derived.Test.YtfgacmgjpikgaaaGreatDoorQ30
set_option linter.unusedVariables false
set_option linter.unusedSimpArgs false
namespace Go.Proofs.YtfgacmgjpikgaaaGreatDoor
open Go.RowKit
set_option maxHeartbeats 1000000 in
theorem letter_any (c : Int) (w : World) (h0 : 0 ≤ c) (h1 : c < 256) :
  Calls Tryz.prog 70 #[.int .u8 c] w fun e w' => e = .returned (.bool (letB c)) ∧ w = w' := by
 by_cases a : c = 95
 ·
  subst a
  go_enter Tryz.func70, Tryz.ntmps70
  go_wp2
  go_ret
  exact ⟨rfl, rfl⟩
 ·
  have a' : (c == 95) = false := by simpa using a
  by_cases b : 65 ≤ c <;> by_cases d : c ≤ 90 <;> by_cases e : 97 ≤ c <;> by_cases f : c ≤ 122
  all_goals
   go_enter Tryz.func70, Tryz.ntmps70
   go_wp2
   go_ret
   first
    | exact ⟨congrArg (fun v => Ending.returned (.bool v)) (letB_yes (by omega)).symm, rfl⟩
    | exact ⟨congrArg (fun v => Ending.returned (.bool v)) (letB_no (by omega)).symm, rfl⟩
set_option maxHeartbeats 1000000 in
theorem digit_any (c : Int) (w : World) (h0 : 0 ≤ c) (h1 : c < 256) :
  Calls Tryz.prog 71 #[.int .u8 c] w fun e w' => e = .returned (.bool (digB c)) ∧ w = w' := by
 by_cases b : 48 ≤ c <;> by_cases d : c ≤ 57
 all_goals
  go_enter Tryz.func71, Tryz.ntmps71
  go_wp2
  go_ret
  first
   | exact ⟨congrArg (fun v => Ending.returned (.bool v)) (digB_yes (by omega)).symm, rfl⟩
   | exact ⟨congrArg (fun v => Ending.returned (.bool v)) (digB_no (by omega)).symm, rfl⟩
theorem letter_is {c : Int} {b : Bool} (h : letB c = b) (w : World) (h0 : 0 ≤ c) (h1 : c < 256) :
  Calls Tryz.prog 70 #[.int .u8 c] w fun e w' => e = .returned (.bool b) ∧ w = w' := h ▸ letter_any c w h0 h1
theorem digit_is {c : Int} {b : Bool} (h : digB c = b) (w : World) (h0 : 0 ≤ c) (h1 : c < 256) :
  Calls Tryz.prog 71 #[.int .u8 c] w fun e w' => e = .returned (.bool b) ∧ w = w' := h ▸ digit_any c w h0 h1
theorem sB_at (s : ByteArray) (k : Nat) (h : k < s.size) : (sB s)[k]? = some (((s[k]).toNat : Nat) : Int) := by
 have e : s.data.toList[k]? = some s[k] := by
  rw [List.getElem?_eq_getElem (by rw [Array.length_toList]; exact h)]
  rfl
 simp [sB, e]
theorem u8_lo (b : UInt8) : (0 : Int) ≤ ((b.toNat : Nat) : Int) := by omega
theorem u8_hi (b : UInt8) : ((b.toNat : Nat) : Int) < 256 := by have := b.toNat_lt; omega
set_option maxHeartbeats 1000000 in
theorem IsIdent_any (s : ByteArray) (w : World) (hs : s.size ≤ maxLen) :
  Calls Tryz.prog 50 #[.string s] w fun e w' => e = .returned (.bool (identB s)) ∧ w = w' := by
 unfold maxLen at hs
 by_cases h0 : s.size = 0
 ·
  have hn := hide (identB_long (s := s) (.inl (by omega)))
  go_enter Tryz.func50, Tryz.ntmps50
  go_wp2_with fail
  go_ret
  exact ⟨congrArg (fun v => Ending.returned (.bool v)) hn.out.symm, rfl⟩
 by_cases h1 : 255 < s.size
 ·
  have hn := hide (identB_long (s := s) (.inr h1))
  have h1' : (255 : Int) < (s.size : Int) := by omega
  go_enter Tryz.func50, Tryz.ntmps50
  go_wp2_with fail
  go_ret
  exact ⟨congrArg (fun v => Ending.returned (.bool v)) hn.out.symm, rfl⟩
 have h1' : (s.size : Int) ≤ 255 := by omega
 have h2' : 0 < s.size := by omega
 have hz : ((s.size : Int) == 0) = false := beq_eq_false_iff_ne.2 (by omega)
 have hd : decide ((255 : Int) < (s.size : Int)) = false := decide_eq_false (by omega)
 have Hc := hide (sB_at s 0 h2')
 cases hl : letB ((s[0].toNat : Nat) : Int)
 ·
  have hn := hide (identB_no Hc.out hl (.inl rfl))
  have HL := hide hl
  clear hl
  go_enter Tryz.func50, Tryz.ntmps50
  go_wp2_with fail
  refine (letter_is HL.out _ (u8_lo _) (u8_hi _)).mono ?_
  rintro e w1 ⟨rfl, rfl⟩
  go_wp2_with fail
  go_ret
  exact ⟨congrArg (fun v => Ending.returned (.bool v)) hn.out.symm, rfl⟩
 have HL := hide hl
 clear hl
 go_enter Tryz.func50, Tryz.ntmps50
 go_wp2_with fail
 refine (letter_is HL.out _ (u8_lo _) (u8_hi _)).mono ?_
 rintro e w1 ⟨rfl, rfl⟩
 go_wp2_with fail
 go_loopw [20] (fun i wr => ∃ k : Nat, i = .int .i64 (k : Int) ∧ k ≤ s.size ∧ Hid (headOk (sB s) k) ∧ w = wr) (fun i _ => s.size - (intOf i).toNat)
 case atStart => exact ⟨0, rfl, by omega, headOk_zero _, rfl⟩
 case round =>
  obtain ⟨k, rfl, hk, HH, rfl⟩ := hrel
  by_cases hlt : k < s.size
  ·
   have hi : (k : Int) < (s.size : Int) := by omega
   have Hk := hide (sB_at s k hlt)
   cases hl : letB ((s[k].toNat : Nat) : Int)
   ·
    have HL2 := hide hl
    cases hg : digB ((s[k].toNat : Nat) : Int)
    ·
     have HG := hide hg
     have hn := hide (identB_no Hk.out hl (.inr hg))
     clear hl hg
     go_wp2_with fail
     refine (letter_is HL2.out _ (u8_lo _) (u8_hi _)).mono ?_
     rintro e w1 ⟨rfl, rfl⟩
     go_wp2_with fail
     refine (digit_is HG.out _ (u8_lo _) (u8_hi _)).mono ?_
     rintro e w1 ⟨rfl, rfl⟩
     go_wp2_with fail
     go_ret
     exact ⟨congrArg (fun v => Ending.returned (.bool v)) hn.out.symm, rfl⟩
    ·
     have HG := hide hg
     have hk0 : k ≠ 0 := fun e => by
      subst e
      rw [HL.out] at hl
      cases hl
     have HN := hide (headOk_succ HH.out Hk.out (.inr ⟨hk0, hg⟩))
     clear hl hg
     go_wp2_with fail
     refine (letter_is HL2.out _ (u8_lo _) (u8_hi _)).mono ?_
     rintro e w1 ⟨rfl, rfl⟩
     go_wp2_with fail
     refine (digit_is HG.out _ (u8_lo _) (u8_hi _)).mono ?_
     rintro e w1 ⟨rfl, rfl⟩
     go_wp2_with fail
     go_roundw
     case rel => exact ⟨k + 1, by go_num, by omega, HN.out, trivial⟩
     case measure => simp [intOf]; omega
   ·
    have HL2 := hide hl
    have HN := hide (headOk_succ HH.out Hk.out (.inl hl))
    clear hl
    go_wp2_with fail
    refine (letter_is HL2.out _ (u8_lo _) (u8_hi _)).mono ?_
    rintro e w1 ⟨rfl, rfl⟩
    go_wp2_with fail
    go_roundw
    case rel => exact ⟨k + 1, by go_num, by omega, HN.out, trivial⟩
    case measure => simp [intOf]; omega
  ·
   obtain rfl : k = s.size := by omega
   have hn := hide (identB_yes h2' (by omega) HH.out)
   go_wp2_with fail
   go_ret
   exact ⟨congrArg (fun v => Ending.returned (.bool v)) hn.out.symm, rfl⟩
theorem IsIdent_is {s : ByteArray} {b : Bool} (h : identB s = b) (w : World) (hs : s.size ≤ maxLen) :
  Calls Tryz.prog 50 #[.string s] w fun e w' => e = .returned (.bool b) ∧ w = w' := h ▸ IsIdent_any s w hs
set_option maxHeartbeats 8000000 in
set_option maxRecDepth 100000 in
theorem RefIdent_any (s : ByteArray) (w : World) (hs : s.size ≤ maxLen) :
  Calls Tryz.prog 29 #[.string s] w fun e w' => e = .returned (.bool (identB s)) ∧ w = w' := by
 unfold maxLen at hs
 go_enter Tryz.func29, Tryz.ntmps29
 go_wp2_with fail
 go_loopw [3] (fun i wr => ∃ k : Nat, i = .int .i64 (k : Int) ∧ k ≤ s.size ∧ Hid (headOk (sB s) k) ∧ w = wr) (fun i _ => s.size - (intOf i).toNat)
 case atStart => exact ⟨0, rfl, by omega, headOk_zero _, rfl⟩
 case round =>
  obtain ⟨k, rfl, hk, HH, rfl⟩ := hrel
  by_cases hlt : k < s.size
  ·
   have hi : (k : Int) < (s.size : Int) := by omega
   have Hk := hide (sB_at s k hlt)
   have c0 := u8_lo s[k]
   have c1 := u8_hi s[k]
   have hcn : Hid (((s[k].toNat : Nat) : Int) = ((s[k].toNat : Nat) : Int)) := rfl
   cases hl : letB ((s[k].toNat : Nat) : Int)
   ·
    have hn1 : ¬ ((((s[k].toNat : Nat) : Int) = 95) ∨ (65 ≤ ((s[k].toNat : Nat) : Int) ∧ ((s[k].toNat : Nat) : Int) ≤ 90) ∨ (97 ≤ ((s[k].toNat : Nat) : Int) ∧ ((s[k].toNat : Nat) : Int) ≤ 122)) := fun h => by rw [letB_yes h] at hl; cases hl
    by_cases hk0 : k = 0
    ·
     subst hk0
     have hn := hide (identB_no Hk.out hl (.inl rfl))
     have hcl : (122 < ((s[0].toNat : Nat) : Int)) ∨ (90 < ((s[0].toNat : Nat) : Int) ∧ ((s[0].toNat : Nat) : Int) < 97 ∧ ¬ ((s[0].toNat : Nat) : Int) = 95) ∨ (48 ≤ ((s[0].toNat : Nat) : Int) ∧ ((s[0].toNat : Nat) : Int) ≤ 57) ∨ (((s[0].toNat : Nat) : Int) < 48) ∨ (57 < ((s[0].toNat : Nat) : Int) ∧ ((s[0].toNat : Nat) : Int) < 65) := by omega
     rcases hcl with hcl | hcl | hcl | hcl | hcl
     ·
      have hu : Hid True := trivial
      have f1 : (97 : Int) ≤ ((s[0].toNat : Nat) : Int) := by omega
      have f2 : ¬ ((s[0].toNat : Nat) : Int) ≤ 122 := by omega
      have f3 : (65 : Int) ≤ ((s[0].toNat : Nat) : Int) := by omega
      have f4 : ¬ ((s[0].toNat : Nat) : Int) ≤ 90 := by omega
      have f5 : (((s[0].toNat : Nat) : Int) == 95) = false := beq_eq_false_iff_ne.2 (by omega)
      have f6 : ¬ ((s[0].toNat : Nat) : Int) < 48 := by omega
      have f7 : (57 : Int) < ((s[0].toNat : Nat) : Int) := by omega
      clear hl
      go_wp2_with fail
      go_ret
      exact ⟨congrArg (fun v => Ending.returned (.bool v)) hn.out.symm, rfl⟩
     ·
      have hu : Hid True := trivial
      have f1 : ¬ (97 : Int) ≤ ((s[0].toNat : Nat) : Int) := by omega
      have f2 : ((s[0].toNat : Nat) : Int) ≤ 122 := by omega
      have f3 : (65 : Int) ≤ ((s[0].toNat : Nat) : Int) := by omega
      have f4 : ¬ ((s[0].toNat : Nat) : Int) ≤ 90 := by omega
      have f5 : (((s[0].toNat : Nat) : Int) == 95) = false := beq_eq_false_iff_ne.2 (by omega)
      have f6 : ¬ ((s[0].toNat : Nat) : Int) < 48 := by omega
      have f7 : (57 : Int) < ((s[0].toNat : Nat) : Int) := by omega
      clear hl
      go_wp2_with fail
      go_ret
      exact ⟨congrArg (fun v => Ending.returned (.bool v)) hn.out.symm, rfl⟩
     ·
      have hu : Hid True := trivial
      have f1 : ¬ (97 : Int) ≤ ((s[0].toNat : Nat) : Int) := by omega
      have f2 : ((s[0].toNat : Nat) : Int) ≤ 122 := by omega
      have f3 : ¬ (65 : Int) ≤ ((s[0].toNat : Nat) : Int) := by omega
      have f4 : ((s[0].toNat : Nat) : Int) ≤ 90 := by omega
      have f5 : (((s[0].toNat : Nat) : Int) == 95) = false := beq_eq_false_iff_ne.2 (by omega)
      have f6 : ¬ ((s[0].toNat : Nat) : Int) < 48 := by omega
      have f7 : ¬ (57 : Int) < ((s[0].toNat : Nat) : Int) := by omega
      clear hl
      go_wp2_with fail
      go_ret
      exact ⟨congrArg (fun v => Ending.returned (.bool v)) hn.out.symm, rfl⟩
     ·
      have hu : Hid True := trivial
      have f1 : ¬ (97 : Int) ≤ ((s[0].toNat : Nat) : Int) := by omega
      have f2 : ((s[0].toNat : Nat) : Int) ≤ 122 := by omega
      have f3 : ¬ (65 : Int) ≤ ((s[0].toNat : Nat) : Int) := by omega
      have f4 : ((s[0].toNat : Nat) : Int) ≤ 90 := by omega
      have f5 : (((s[0].toNat : Nat) : Int) == 95) = false := beq_eq_false_iff_ne.2 (by omega)
      have f6 : ((s[0].toNat : Nat) : Int) < 48 := by omega
      have f7 : ¬ (57 : Int) < ((s[0].toNat : Nat) : Int) := by omega
      clear hl
      go_wp2_with fail
      go_ret
      exact ⟨congrArg (fun v => Ending.returned (.bool v)) hn.out.symm, rfl⟩
     ·
      have hu : Hid True := trivial
      have f1 : ¬ (97 : Int) ≤ ((s[0].toNat : Nat) : Int) := by omega
      have f2 : ((s[0].toNat : Nat) : Int) ≤ 122 := by omega
      have f3 : ¬ (65 : Int) ≤ ((s[0].toNat : Nat) : Int) := by omega
      have f4 : ((s[0].toNat : Nat) : Int) ≤ 90 := by omega
      have f5 : (((s[0].toNat : Nat) : Int) == 95) = false := beq_eq_false_iff_ne.2 (by omega)
      have f6 : ¬ ((s[0].toNat : Nat) : Int) < 48 := by omega
      have f7 : (57 : Int) < ((s[0].toNat : Nat) : Int) := by omega
      clear hl
      go_wp2_with fail
      go_ret
      exact ⟨congrArg (fun v => Ending.returned (.bool v)) hn.out.symm, rfl⟩
    ·
     have hk0' : ((k : Int) == 0) = false := beq_eq_false_iff_ne.2 (by omega)
     have hcl : (122 < ((s[k].toNat : Nat) : Int)) ∨ (90 < ((s[k].toNat : Nat) : Int) ∧ ((s[k].toNat : Nat) : Int) < 97 ∧ ¬ ((s[k].toNat : Nat) : Int) = 95) ∨ (48 ≤ ((s[k].toNat : Nat) : Int) ∧ ((s[k].toNat : Nat) : Int) ≤ 57) ∨ (((s[k].toNat : Nat) : Int) < 48) ∨ (57 < ((s[k].toNat : Nat) : Int) ∧ ((s[k].toNat : Nat) : Int) < 65) := by omega
     rcases hcl with hcl | hcl | hcl | hcl | hcl
     ·
      have hn := hide (identB_no Hk.out hl (.inr (digB_no (by omega))))
      have f1 : (97 : Int) ≤ ((s[k].toNat : Nat) : Int) := by omega
      have f2 : ¬ ((s[k].toNat : Nat) : Int) ≤ 122 := by omega
      have f3 : (65 : Int) ≤ ((s[k].toNat : Nat) : Int) := by omega
      have f4 : ¬ ((s[k].toNat : Nat) : Int) ≤ 90 := by omega
      have f5 : (((s[k].toNat : Nat) : Int) == 95) = false := beq_eq_false_iff_ne.2 (by omega)
      have f6 : ¬ ((s[k].toNat : Nat) : Int) < 48 := by omega
      have f7 : (57 : Int) < ((s[k].toNat : Nat) : Int) := by omega
      clear hl
      go_wp2_with fail
      go_ret
      exact ⟨congrArg (fun v => Ending.returned (.bool v)) hn.out.symm, rfl⟩
     ·
      have hn := hide (identB_no Hk.out hl (.inr (digB_no (by omega))))
      have f1 : ¬ (97 : Int) ≤ ((s[k].toNat : Nat) : Int) := by omega
      have f2 : ((s[k].toNat : Nat) : Int) ≤ 122 := by omega
      have f3 : (65 : Int) ≤ ((s[k].toNat : Nat) : Int) := by omega
      have f4 : ¬ ((s[k].toNat : Nat) : Int) ≤ 90 := by omega
      have f5 : (((s[k].toNat : Nat) : Int) == 95) = false := beq_eq_false_iff_ne.2 (by omega)
      have f6 : ¬ ((s[k].toNat : Nat) : Int) < 48 := by omega
      have f7 : (57 : Int) < ((s[k].toNat : Nat) : Int) := by omega
      clear hl
      go_wp2_with fail
      go_ret
      exact ⟨congrArg (fun v => Ending.returned (.bool v)) hn.out.symm, rfl⟩
     ·
      have HN := hide (headOk_succ HH.out Hk.out (.inr ⟨hk0, digB_yes (by omega)⟩))
      have f1 : ¬ (97 : Int) ≤ ((s[k].toNat : Nat) : Int) := by omega
      have f2 : ((s[k].toNat : Nat) : Int) ≤ 122 := by omega
      have f3 : ¬ (65 : Int) ≤ ((s[k].toNat : Nat) : Int) := by omega
      have f4 : ((s[k].toNat : Nat) : Int) ≤ 90 := by omega
      have f5 : (((s[k].toNat : Nat) : Int) == 95) = false := beq_eq_false_iff_ne.2 (by omega)
      have f6 : ¬ ((s[k].toNat : Nat) : Int) < 48 := by omega
      have f7 : ¬ (57 : Int) < ((s[k].toNat : Nat) : Int) := by omega
      clear hl
      go_wp2_with fail
      go_roundw
      case rel => exact ⟨k + 1, by go_num, by omega, HN.out, trivial⟩
      case measure => simp [intOf]; omega
     ·
      have hn := hide (identB_no Hk.out hl (.inr (digB_no (by omega))))
      have f1 : ¬ (97 : Int) ≤ ((s[k].toNat : Nat) : Int) := by omega
      have f2 : ((s[k].toNat : Nat) : Int) ≤ 122 := by omega
      have f3 : ¬ (65 : Int) ≤ ((s[k].toNat : Nat) : Int) := by omega
      have f4 : ((s[k].toNat : Nat) : Int) ≤ 90 := by omega
      have f5 : (((s[k].toNat : Nat) : Int) == 95) = false := beq_eq_false_iff_ne.2 (by omega)
      have f6 : ((s[k].toNat : Nat) : Int) < 48 := by omega
      have f7 : ¬ (57 : Int) < ((s[k].toNat : Nat) : Int) := by omega
      clear hl
      go_wp2_with fail
      go_ret
      exact ⟨congrArg (fun v => Ending.returned (.bool v)) hn.out.symm, rfl⟩
     ·
      have hn := hide (identB_no Hk.out hl (.inr (digB_no (by omega))))
      have f1 : ¬ (97 : Int) ≤ ((s[k].toNat : Nat) : Int) := by omega
      have f2 : ((s[k].toNat : Nat) : Int) ≤ 122 := by omega
      have f3 : ¬ (65 : Int) ≤ ((s[k].toNat : Nat) : Int) := by omega
      have f4 : ((s[k].toNat : Nat) : Int) ≤ 90 := by omega
      have f5 : (((s[k].toNat : Nat) : Int) == 95) = false := beq_eq_false_iff_ne.2 (by omega)
      have f6 : ¬ ((s[k].toNat : Nat) : Int) < 48 := by omega
      have f7 : (57 : Int) < ((s[k].toNat : Nat) : Int) := by omega
      clear hl
      go_wp2_with fail
      go_ret
      exact ⟨congrArg (fun v => Ending.returned (.bool v)) hn.out.symm, rfl⟩
   ·
    have HN := hide (headOk_succ HH.out Hk.out (.inl hl))
    have hy : (((s[k].toNat : Nat) : Int) = 95) ∨ (65 ≤ ((s[k].toNat : Nat) : Int) ∧ ((s[k].toNat : Nat) : Int) ≤ 90) ∨ (97 ≤ ((s[k].toNat : Nat) : Int) ∧ ((s[k].toNat : Nat) : Int) ≤ 122) := of_decide_eq_true hl
    rcases hy with hy | hy | hy
    ·
     have f1 : ¬ (97 : Int) ≤ ((s[k].toNat : Nat) : Int) := by omega
     have f2 : ((s[k].toNat : Nat) : Int) ≤ 122 := by omega
     have f3 : (65 : Int) ≤ ((s[k].toNat : Nat) : Int) := by omega
     have f4 : ¬ ((s[k].toNat : Nat) : Int) ≤ 90 := by omega
     have f5 : (((s[k].toNat : Nat) : Int) == 95) = true := beq_iff_eq.2 (by omega)
     have f6 : ¬ ((s[k].toNat : Nat) : Int) < 48 := by omega
     have f7 : (57 : Int) < ((s[k].toNat : Nat) : Int) := by omega
     clear hl
     go_wp2_with fail
     go_roundw
     case rel => exact ⟨k + 1, by go_num, by omega, HN.out, trivial⟩
     case measure => simp [intOf]; omega
    ·
     have f1 : ¬ (97 : Int) ≤ ((s[k].toNat : Nat) : Int) := by omega
     have f2 : ((s[k].toNat : Nat) : Int) ≤ 122 := by omega
     have f3 : (65 : Int) ≤ ((s[k].toNat : Nat) : Int) := by omega
     have f4 : ((s[k].toNat : Nat) : Int) ≤ 90 := by omega
     have f5 : (((s[k].toNat : Nat) : Int) == 95) = false := beq_eq_false_iff_ne.2 (by omega)
     have f6 : ¬ ((s[k].toNat : Nat) : Int) < 48 := by omega
     have f7 : (57 : Int) < ((s[k].toNat : Nat) : Int) := by omega
     clear hl
     go_wp2_with fail
     go_roundw
     case rel => exact ⟨k + 1, by go_num, by omega, HN.out, trivial⟩
     case measure => simp [intOf]; omega
    ·
     have f1 : (97 : Int) ≤ ((s[k].toNat : Nat) : Int) := by omega
     have f2 : ((s[k].toNat : Nat) : Int) ≤ 122 := by omega
     have f3 : (65 : Int) ≤ ((s[k].toNat : Nat) : Int) := by omega
     have f4 : ¬ ((s[k].toNat : Nat) : Int) ≤ 90 := by omega
     have f5 : (((s[k].toNat : Nat) : Int) == 95) = false := beq_eq_false_iff_ne.2 (by omega)
     have f6 : ¬ ((s[k].toNat : Nat) : Int) < 48 := by omega
     have f7 : (57 : Int) < ((s[k].toNat : Nat) : Int) := by omega
     clear hl
     go_wp2_with fail
     go_roundw
     case rel => exact ⟨k + 1, by go_num, by omega, HN.out, trivial⟩
     case measure => simp [intOf]; omega
  ·
   obtain rfl : k = s.size := by omega
   by_cases h1 : 1 ≤ s.size
   ·
    have h1' : (1 : Int) ≤ (s.size : Int) := by omega
    by_cases h2 : s.size ≤ 255
    ·
     have h2' : (s.size : Int) ≤ 255 := by omega
     have hn := hide (identB_yes h1 h2 HH.out)
     go_wp2_with fail
     go_ret
     exact ⟨congrArg (fun v => Ending.returned (.bool v)) hn.out.symm, rfl⟩
    ·
     have h2' : ¬ (s.size : Int) ≤ 255 := by omega
     have hn := hide (identB_long (s := s) (.inr (by omega)))
     go_wp2_with fail
     go_ret
     exact ⟨congrArg (fun v => Ending.returned (.bool v)) hn.out.symm, rfl⟩
   ·
    have h1' : ¬ (1 : Int) ≤ (s.size : Int) := by omega
    have hn := hide (identB_long (s := s) (.inl (by omega)))
    go_wp2_with fail
    go_ret
    exact ⟨congrArg (fun v => Ending.returned (.bool v)) hn.out.symm, rfl⟩
theorem RefIdent_is {s : ByteArray} {b : Bool} (h : identB s = b) (w : World) (hs : s.size ≤ maxLen) :
  Calls Tryz.prog 29 #[.string s] w fun e w' => e = .returned (.bool b) ∧ w = w' := h ▸ RefIdent_any s w hs
noncomputable def clV (E : Env) (t : TmV) : Int := if identB t.name = false then 12 else if 65535 < t.args.length then 15 else if opsErr E t.args ≠ 0 then opsErr E t.args else (wrV E t.pl).2
set_option maxHeartbeats 4000000 in
set_option maxRecDepth 100000 in
theorem ccall_is {K : CkW} {x : TmW} {v : Int} {w : World} (h : Ck K w) (hx : OneTm w K.B x) (hv : clV K.E x.v = v) :
  Calls Tryz.prog 67 #[K.ptr, aggTm x] w fun e w' => e = .returned (.int .i64 v) ∧ Wy K w w' := by
 obtain ⟨k, ⟨tA, tn, tc, tL⟩, ⟨gA, gn, gc, gL⟩, ⟨l, pA, pn, pc, ps⟩, nm⟩ := x
 have HB := hide ((Below.refl w.heap.size w).alloc (Nat.le_refl _) (.cells (cTm ⟨k, ⟨tA, tn, tc, tL⟩, ⟨gA, gn, gc, gL⟩, ⟨l, pA, pn, pc, ps⟩, nm⟩).toArray 50))
 have HK := hide (h.up HB.out)
 have H0 := hide h
 have HX := hide (hx.below (HB.out.mono h.bs))
 have hgn : gL.length = gn := hx.args.len
 have hnm : nm.size ≤ maxLen := hx.name
 have hgm : gn ≤ maxLen := hx.args.nm
 obtain ⟨er, her⟩ : ∃ e, opsErr K.E (gL.map OpW.v) = e := ⟨_, rfl⟩
 have hv : (if identB nm = false then (12 : Int) else if 65535 < gn then 15 else if er ≠ 0 then er else (wrV K.E (PlW.v ⟨l, pA, pn, pc, ps⟩)).2) = v := by
  rw [← hv, ← her, ← hgn, ← List.length_map (f := OpW.v)]
  rfl
 clear h hx
 obtain ⟨bi, hid⟩ : ∃ b, identB nm = b := ⟨_, rfl⟩
 rw [hid] at hv
 cases bi
 ·
  obtain rfl : v = 12 := by rw [← hv]; rfl
  clear hv her hgn hgm
  go_enter Tryz.func67, Tryz.ntmps67
  go_wp2_with fail
  refine (IsIdent_is hid _ hnm).mono ?_
  rintro e0 w0 ⟨rfl, rfl⟩
  go_wp2
  go_ret
  exact ⟨rfl, Turn.of_below HB.out, HK.out⟩
 rw [if_neg (by simp)] at hv
 by_cases hg : 65535 < gn
 ·
  have tg : (65535 : Int) < (gn : Int) := by omega
  rw [if_pos hg] at hv
  subst hv
  clear her hgn hgm hg
  go_enter Tryz.func67, Tryz.ntmps67
  go_wp2_with fail
  refine (IsIdent_is hid _ hnm).mono ?_
  rintro e0 w0 ⟨rfl, rfl⟩
  go_wp2
  go_ret
  exact ⟨rfl, Turn.of_below HB.out, HK.out⟩
 have tg : (gn : Int) ≤ 65535 := by omega
 rw [if_neg hg] at hv
 have HLen := hide hgn
 have HEr := hide her
 have HV := hide hv
 clear hg her hgn hv
 go_enter Tryz.func67, Tryz.ntmps67
 go_wp2_with fail
 refine (IsIdent_is hid _ hnm).mono ?_
 rintro e0 w0 ⟨rfl, rfl⟩
 go_wp2
 go_loopw [23] (fun i wr => ∃ j : Nat, i = .int .i64 (j : Int) ∧ j ≤ gn ∧ Hid (opsErr K.E ((gL.map OpW.v).drop j) = er) ∧ Hid (Wy K (w.alloc (.cells (cTm ⟨k, ⟨tA, tn, tc, tL⟩, ⟨gA, gn, gc, gL⟩, ⟨l, pA, pn, pc, ps⟩, nm⟩).toArray 50)) wr)) (fun i _ => gn - (intOf i).toNat)
 case atStart => exact ⟨0, rfl, Nat.zero_le _, hide HEr.out, hide (Wy.refl HK.out)⟩
 case round =>
  obtain ⟨j, rfl, hj, HE, HW⟩ := hrel
  by_cases hlt : j < gn
  ·
   have hlt' : (j : Int) < (gn : Int) := by omega
   obtain ⟨p, hp⟩ : ∃ p, gL[j]? = some p := ⟨_, List.getElem?_eq_getElem (by have : gL.length = gn := HLen.out; omega)⟩
   have hpv : (gL.map OpW.v)[j]? = some p.v := by rw [List.getElem?_map, hp]; rfl
   have hax : Ops wr K.B ⟨gA, gn, gc, gL⟩ := Ops.below (HW.out.low HK.out) HX.out.args
   obtain ⟨b, o, hA, _, hone, hc⟩ := hax.at_ hp
   have hA : gA = some ⟨b, o, none⟩ := hA
   subst hA
   obtain ⟨kq, ⟨lq, qA, qn, qc, qs⟩, nq⟩ := p
   have c0 : wr.cell? ⟨b, o + j * 4, none⟩ = some (.int .i64 kq) := hc 0 _ rfl
   have c1 : wr.cell? ⟨b, o + j * 4 + 1, none⟩ = some (.int .i64 lq) := hc 1 _ rfl
   have c2 : wr.cell? ⟨b, o + j * 4 + 2, none⟩ = some (.slice qA qn qc) := hc 2 _ rfl
   have c3 : wr.cell? ⟨b, o + j * 4 + 3, none⟩ = some (.int .i64 nq) := hc 3 _ rfl
   have HS := hide (opsErr_at (E := K.E) hpv)
   have hWB := (Below.refl wr.heap.size wr).alloc (Nat.le_refl _) (.cells (cOp ⟨kq, ⟨lq, qA, qn, qc, qs⟩, nq⟩).toArray 38)
   have HW2 := hide (HW.out.up hWB)
   have HO2 := hide (hone.below (hWB.mono HW.out.ck.bs))
   obtain ⟨c, hcv⟩ : ∃ c, opErr K.E (OpW.v ⟨kq, ⟨lq, qA, qn, qc, qs⟩, nq⟩) = c := ⟨_, rfl⟩
   have HC := hide (cop_is HW2.out.ck HO2.out hcv)
   have HCV := hide hcv
   clear hp hpv hax hone hc hWB hcv
   by_cases h0 : c = 0
   ·
    subst h0
    have HN := hide (show opsErr K.E ((gL.map OpW.v).drop (j + 1)) = er from by rw [← HE.out, HS.out, if_neg (by rw [HCV.out]; simp)])
    go_wp2_with fail
    refine HC.out.mono ?_
    rintro e1 w1 ⟨rfl, hb1⟩
    have HW3 := hide (HW2.out.trans hb1)
    clear hb1
    go_wp2
    go_roundw
    case rel => exact ⟨j + 1, by go_num, by omega, hide HN.out, hide HW3.out⟩
    case measure => simp [intOf]; omega
   ·
    have t0 : (c != 0) = true := by simp [h0]
    have HN := hide (show er = c from by rw [← HE.out, HS.out, HCV.out, if_pos h0])
    have HVc := hide (show v = c from by rw [← HV.out, HN.out, if_pos h0])
    clear h0
    go_wp2_with fail
    refine HC.out.mono ?_
    rintro e1 w1 ⟨rfl, hb1⟩
    have HW3 := hide (HW2.out.trans hb1)
    clear hb1
    go_wp2
    go_ret
    exact ⟨congrArg (fun v => Ending.returned (.int .i64 v)) HVc.out.symm, (Turn.of_below HB.out).trans HW3.out.turn, HW3.out.ck⟩
  ·
   obtain rfl : gn = j := by omega
   have her0 : er = 0 := by rw [← HE.out]; exact opsErr_end (by rw [List.length_map]; have : gL.length = gn := HLen.out; omega)
   obtain ⟨wa, hwa⟩ : ∃ u, (wrV K.E (PlW.v ⟨l, pA, pn, pc, ps⟩)).1 = u := ⟨_, rfl⟩
   obtain ⟨wb, hwb⟩ : ∃ u, (wrV K.E (PlW.v ⟨l, pA, pn, pc, ps⟩)).2 = u := ⟨_, rfl⟩
   have HVc := hide (show v = wb from by rw [← HV.out, her0, if_neg (by simp), hwb])
   have HC := hide (cwritten_is HW.out.ck (HX.out.pl.below (HW.out.low HK.out)) (Prod.ext hwa hwb : wrV K.E (PlW.v ⟨l, pA, pn, pc, ps⟩) = (wa, wb)))
   have hcx := Wy.box (cs := cTm ⟨k, ⟨tA, tn, tc, tL⟩, ⟨gA, gn, gc, gL⟩, ⟨l, pA, pn, pc, ps⟩, nm⟩) (T := 50) H0.out HW.out
   have y10 := hcx 0 (.int .i64 k) rfl
   have y11 := hcx 1 (.slice tA tn tc) rfl
   have y12 := hcx 2 (.slice gA gn gc) rfl
   have y13 := hcx 3 (.int .i64 l) rfl
   have y14 := hcx 4 (.slice pA pn pc) rfl
   have y15 := hcx 5 (.string nm) rfl
   clear hcx
   clear her0 hwa hwb HE
   go_wp2_with fail
   refine HC.out.mono ?_
   rintro e1 w1 ⟨rfl, hb1⟩
   have HW3 := hide (HW.out.up hb1)
   clear hb1
   go_wp2
   go_ret
   exact ⟨congrArg (fun v => Ending.returned (.int .i64 v)) HVc.out.symm, (Turn.of_below HB.out).trans HW3.out.turn, HW3.out.ck⟩
end Go.Proofs.YtfgacmgjpikgaaaGreatDoor
