/- Identifiers: the package's IsIdent and the reference's; 'follows'; 'long' of the laws. -/
import Derived.Test.YtbkgooeghmaokaaIntM
import Derived.Test.YtbkgooeghmaokaaOwn
import Derived.Outline
set_option linter.unusedVariables false
namespace Go.Proofs.Ytbkgooeghmaokaa
open Go.RowKit

set_option maxHeartbeats 1000000 in
theorem letter_any (c : Int) (w : World) (h0 : 0 ≤ c) (h1 : c < 256) :
    Calls Try.prog 25 #[.int .u8 c] w fun e w' => e = .returned (.bool (letB c)) ∧ w = w' := by
  by_cases a : c = 95
  · subst a
    go_enter Try.func25, Try.ntmps25
    go_wp2
    go_ret
    exact ⟨rfl, rfl⟩
  · have a' : (c == 95) = false := by simpa using a
    by_cases b : 65 ≤ c <;> by_cases d : c ≤ 90 <;> by_cases e : 97 ≤ c <;> by_cases f : c ≤ 122
    all_goals
      go_enter Try.func25, Try.ntmps25
      go_wp2
      go_ret
      first
        | exact ⟨congrArg (fun v => Ending.returned (.bool v)) (letB_yes (by omega)).symm, rfl⟩
        | exact ⟨congrArg (fun v => Ending.returned (.bool v)) (letB_no (by omega)).symm, rfl⟩

set_option maxHeartbeats 1000000 in
theorem digit_any (c : Int) (w : World) (h0 : 0 ≤ c) (h1 : c < 256) :
    Calls Try.prog 26 #[.int .u8 c] w fun e w' => e = .returned (.bool (digB c)) ∧ w = w' := by
  by_cases b : 48 ≤ c <;> by_cases d : c ≤ 57
  all_goals
    go_enter Try.func26, Try.ntmps26
    go_wp2
    go_ret
    first
      | exact ⟨congrArg (fun v => Ending.returned (.bool v)) (digB_yes (by omega)).symm, rfl⟩
      | exact ⟨congrArg (fun v => Ending.returned (.bool v)) (digB_no (by omega)).symm, rfl⟩

theorem letter_is {c : Int} {b : Bool} (h : letB c = b) (w : World) (h0 : 0 ≤ c) (h1 : c < 256) :
    Calls Try.prog 25 #[.int .u8 c] w fun e w' => e = .returned (.bool b) ∧ w = w' := h ▸ letter_any c w h0 h1
theorem digit_is {c : Int} {b : Bool} (h : digB c = b) (w : World) (h0 : 0 ≤ c) (h1 : c < 256) :
    Calls Try.prog 26 #[.int .u8 c] w fun e w' => e = .returned (.bool b) ∧ w = w' := h ▸ digit_any c w h0 h1
theorem sB_at (s : ByteArray) (k : Nat) (h : k < s.size) : (sB s)[k]? = some (((s[k]).toNat : Nat) : Int) := by
  have e : s.data.toList[k]? = some s[k] := by
    rw [List.getElem?_eq_getElem (by rw [Array.length_toList]; exact h)]
    rfl
  simp [sB, e]
theorem u8_lo (b : UInt8) : (0 : Int) ≤ ((b.toNat : Nat) : Int) := by omega
theorem u8_hi (b : UInt8) : ((b.toNat : Nat) : Int) < 256 := by have := b.toNat_lt; omega

set_option maxHeartbeats 1000000 in
theorem IsIdent_any (s : ByteArray) (w : World) (hs : s.size ≤ maxLen) :
    Calls Try.prog 9 #[.string s] w fun e w' => e = .returned (.bool (identB s)) ∧ w = w' := by
  unfold maxLen at hs
  by_cases h0 : s.size = 0
  · have hn := hide (identB_long (s := s) (.inl (by omega)))
    go_enter Try.func9, Try.ntmps9
    go_wp2_with fail
    go_ret
    exact ⟨congrArg (fun v => Ending.returned (.bool v)) hn.out.symm, rfl⟩
  by_cases h1 : 255 < s.size
  · have hn := hide (identB_long (s := s) (.inr h1))
    have h1' : (255 : Int) < (s.size : Int) := by omega
    go_enter Try.func9, Try.ntmps9
    go_wp2_with fail
    go_ret
    exact ⟨congrArg (fun v => Ending.returned (.bool v)) hn.out.symm, rfl⟩
  have h1' : (s.size : Int) ≤ 255 := by omega
  have h2' : 0 < s.size := by omega
  have hz : ((s.size : Int) == 0) = false := beq_eq_false_iff_ne.2 (by omega)
  have hd : decide ((255 : Int) < (s.size : Int)) = false := decide_eq_false (by omega)
  have Hc := hide (sB_at s 0 h2')
  cases hl : letB ((s[0].toNat : Nat) : Int)
  · have hn := hide (identB_no Hc.out hl (.inl rfl))
    have HL := hide hl
    clear hl
    go_enter Try.func9, Try.ntmps9
    go_wp2_with fail
    refine (letter_is HL.out _ (u8_lo _) (u8_hi _)).mono ?_
    rintro e w1 ⟨rfl, rfl⟩
    go_wp2_with fail
    go_ret
    exact ⟨congrArg (fun v => Ending.returned (.bool v)) hn.out.symm, rfl⟩
  have HL := hide hl
  clear hl
  go_enter Try.func9, Try.ntmps9
  go_wp2_with fail
  refine (letter_is HL.out _ (u8_lo _) (u8_hi _)).mono ?_
  rintro e w1 ⟨rfl, rfl⟩
  go_wp2_with fail
  go_loopw [20] (fun i wr => ∃ k : Nat, i = .int .i64 (k : Int) ∧ k ≤ s.size ∧ Hid (headOk (sB s) k) ∧ w = wr) (fun i _ => s.size - (intOf i).toNat)
  case atStart => exact ⟨0, rfl, by omega, headOk_zero _, rfl⟩
  case round =>
    obtain ⟨k, rfl, hk, HH, rfl⟩ := hrel
    by_cases hlt : k < s.size
    · have hi : (k : Int) < (s.size : Int) := by omega
      have Hk := hide (sB_at s k hlt)
      cases hl : letB ((s[k].toNat : Nat) : Int)
      · have HL2 := hide hl
        cases hg : digB ((s[k].toNat : Nat) : Int)
        · have HG := hide hg
          have hn := hide (identB_no Hk.out hl (.inr hg))
          clear hl hg
          go_wp2_with fail
          refine (letter_is HL2.out _ (u8_lo _) (u8_hi _)).mono ?_
          rintro e w1 ⟨rfl, rfl⟩
          go_wp2_with fail
          refine (digit_is HG.out _ (u8_lo _) (u8_hi _)).mono ?_
          rintro e w1 ⟨rfl, rfl⟩
          go_wp2_with fail
          go_ret
          exact ⟨congrArg (fun v => Ending.returned (.bool v)) hn.out.symm, rfl⟩
        · have HG := hide hg
          have hk0 : k ≠ 0 := fun e => by
            subst e
            rw [HL.out] at hl
            cases hl
          have HN := hide (headOk_succ HH.out Hk.out (.inr ⟨hk0, hg⟩))
          clear hl hg
          go_wp2_with fail
          refine (letter_is HL2.out _ (u8_lo _) (u8_hi _)).mono ?_
          rintro e w1 ⟨rfl, rfl⟩
          go_wp2_with fail
          refine (digit_is HG.out _ (u8_lo _) (u8_hi _)).mono ?_
          rintro e w1 ⟨rfl, rfl⟩
          go_wp2_with fail
          go_roundw
          case rel => exact ⟨k + 1, by go_num, by omega, HN.out, trivial⟩
          case measure => simp [intOf]; omega
      · have HL2 := hide hl
        have HN := hide (headOk_succ HH.out Hk.out (.inl hl))
        clear hl
        go_wp2_with fail
        refine (letter_is HL2.out _ (u8_lo _) (u8_hi _)).mono ?_
        rintro e w1 ⟨rfl, rfl⟩
        go_wp2_with fail
        go_roundw
        case rel => exact ⟨k + 1, by go_num, by omega, HN.out, trivial⟩
        case measure => simp [intOf]; omega
    · obtain rfl : k = s.size := by omega
      have hn := hide (identB_yes h2' (by omega) HH.out)
      go_wp2_with fail
      go_ret
      exact ⟨congrArg (fun v => Ending.returned (.bool v)) hn.out.symm, rfl⟩
theorem IsIdent_is {s : ByteArray} {b : Bool} (h : identB s = b) (w : World) (hs : s.size ≤ maxLen) :
    Calls Try.prog 9 #[.string s] w fun e w' => e = .returned (.bool b) ∧ w = w' := h ▸ IsIdent_any s w hs

set_option maxHeartbeats 8000000 in
set_option maxRecDepth 100000 in
/-- the reference's -/
theorem RefIdent_any (s : ByteArray) (w : World) (hs : s.size ≤ maxLen) :
    Calls Try.prog 10 #[.string s] w fun e w' => e = .returned (.bool (identB s)) ∧ w = w' := by
  unfold maxLen at hs
  go_enter Try.func10, Try.ntmps10
  go_wp2_with fail
  go_loopw [3] (fun i wr => ∃ k : Nat, i = .int .i64 (k : Int) ∧ k ≤ s.size ∧ Hid (headOk (sB s) k) ∧ w = wr) (fun i _ => s.size - (intOf i).toNat)
  case atStart => exact ⟨0, rfl, by omega, headOk_zero _, rfl⟩
  case round =>
    obtain ⟨k, rfl, hk, HH, rfl⟩ := hrel
    by_cases hlt : k < s.size
    · have hi : (k : Int) < (s.size : Int) := by omega
      have Hk := hide (sB_at s k hlt)
      have c0 := u8_lo s[k]
      have c1 := u8_hi s[k]
      have hcn : Hid (((s[k].toNat : Nat) : Int) = ((s[k].toNat : Nat) : Int)) := rfl
      cases hl : letB ((s[k].toNat : Nat) : Int)
      · have hn1 : ¬ ((((s[k].toNat : Nat) : Int) = 95) ∨ (65 ≤ ((s[k].toNat : Nat) : Int) ∧ ((s[k].toNat : Nat) : Int) ≤ 90) ∨ (97 ≤ ((s[k].toNat : Nat) : Int) ∧ ((s[k].toNat : Nat) : Int) ≤ 122)) := fun h => by rw [letB_yes h] at hl; cases hl
        by_cases hk0 : k = 0
        · subst hk0
          have hn := hide (identB_no Hk.out hl (.inl rfl))
          have hcl : (122 < ((s[0].toNat : Nat) : Int)) ∨ (90 < ((s[0].toNat : Nat) : Int) ∧ ((s[0].toNat : Nat) : Int) < 97 ∧ ¬ ((s[0].toNat : Nat) : Int) = 95) ∨ (48 ≤ ((s[0].toNat : Nat) : Int) ∧ ((s[0].toNat : Nat) : Int) ≤ 57) ∨ (((s[0].toNat : Nat) : Int) < 48) ∨ (57 < ((s[0].toNat : Nat) : Int) ∧ ((s[0].toNat : Nat) : Int) < 65) := by omega
          rcases hcl with hcl | hcl | hcl | hcl | hcl
          · have hu : Hid True := trivial
            have f1 : (97 : Int) ≤ ((s[0].toNat : Nat) : Int) := by omega
            have f2 : ¬ ((s[0].toNat : Nat) : Int) ≤ 122 := by omega
            have f3 : (65 : Int) ≤ ((s[0].toNat : Nat) : Int) := by omega
            have f4 : ¬ ((s[0].toNat : Nat) : Int) ≤ 90 := by omega
            have f5 : (((s[0].toNat : Nat) : Int) == 95) = false := beq_eq_false_iff_ne.2 (by omega)
            have f6 : ¬ ((s[0].toNat : Nat) : Int) < 48 := by omega
            have f7 : (57 : Int) < ((s[0].toNat : Nat) : Int) := by omega
            clear hl
            go_wp2_with fail
            go_ret
            exact ⟨congrArg (fun v => Ending.returned (.bool v)) hn.out.symm, rfl⟩
          · have hu : Hid True := trivial
            have f1 : ¬ (97 : Int) ≤ ((s[0].toNat : Nat) : Int) := by omega
            have f2 : ((s[0].toNat : Nat) : Int) ≤ 122 := by omega
            have f3 : (65 : Int) ≤ ((s[0].toNat : Nat) : Int) := by omega
            have f4 : ¬ ((s[0].toNat : Nat) : Int) ≤ 90 := by omega
            have f5 : (((s[0].toNat : Nat) : Int) == 95) = false := beq_eq_false_iff_ne.2 (by omega)
            have f6 : ¬ ((s[0].toNat : Nat) : Int) < 48 := by omega
            have f7 : (57 : Int) < ((s[0].toNat : Nat) : Int) := by omega
            clear hl
            go_wp2_with fail
            go_ret
            exact ⟨congrArg (fun v => Ending.returned (.bool v)) hn.out.symm, rfl⟩
          · have hu : Hid True := trivial
            have f1 : ¬ (97 : Int) ≤ ((s[0].toNat : Nat) : Int) := by omega
            have f2 : ((s[0].toNat : Nat) : Int) ≤ 122 := by omega
            have f3 : ¬ (65 : Int) ≤ ((s[0].toNat : Nat) : Int) := by omega
            have f4 : ((s[0].toNat : Nat) : Int) ≤ 90 := by omega
            have f5 : (((s[0].toNat : Nat) : Int) == 95) = false := beq_eq_false_iff_ne.2 (by omega)
            have f6 : ¬ ((s[0].toNat : Nat) : Int) < 48 := by omega
            have f7 : ¬ (57 : Int) < ((s[0].toNat : Nat) : Int) := by omega
            clear hl
            go_wp2_with fail
            go_ret
            exact ⟨congrArg (fun v => Ending.returned (.bool v)) hn.out.symm, rfl⟩
          · have hu : Hid True := trivial
            have f1 : ¬ (97 : Int) ≤ ((s[0].toNat : Nat) : Int) := by omega
            have f2 : ((s[0].toNat : Nat) : Int) ≤ 122 := by omega
            have f3 : ¬ (65 : Int) ≤ ((s[0].toNat : Nat) : Int) := by omega
            have f4 : ((s[0].toNat : Nat) : Int) ≤ 90 := by omega
            have f5 : (((s[0].toNat : Nat) : Int) == 95) = false := beq_eq_false_iff_ne.2 (by omega)
            have f6 : ((s[0].toNat : Nat) : Int) < 48 := by omega
            have f7 : ¬ (57 : Int) < ((s[0].toNat : Nat) : Int) := by omega
            clear hl
            go_wp2_with fail
            go_ret
            exact ⟨congrArg (fun v => Ending.returned (.bool v)) hn.out.symm, rfl⟩
          · have hu : Hid True := trivial
            have f1 : ¬ (97 : Int) ≤ ((s[0].toNat : Nat) : Int) := by omega
            have f2 : ((s[0].toNat : Nat) : Int) ≤ 122 := by omega
            have f3 : ¬ (65 : Int) ≤ ((s[0].toNat : Nat) : Int) := by omega
            have f4 : ((s[0].toNat : Nat) : Int) ≤ 90 := by omega
            have f5 : (((s[0].toNat : Nat) : Int) == 95) = false := beq_eq_false_iff_ne.2 (by omega)
            have f6 : ¬ ((s[0].toNat : Nat) : Int) < 48 := by omega
            have f7 : (57 : Int) < ((s[0].toNat : Nat) : Int) := by omega
            clear hl
            go_wp2_with fail
            go_ret
            exact ⟨congrArg (fun v => Ending.returned (.bool v)) hn.out.symm, rfl⟩
        · have hk0' : ((k : Int) == 0) = false := beq_eq_false_iff_ne.2 (by omega)
          have hcl : (122 < ((s[k].toNat : Nat) : Int)) ∨ (90 < ((s[k].toNat : Nat) : Int) ∧ ((s[k].toNat : Nat) : Int) < 97 ∧ ¬ ((s[k].toNat : Nat) : Int) = 95) ∨ (48 ≤ ((s[k].toNat : Nat) : Int) ∧ ((s[k].toNat : Nat) : Int) ≤ 57) ∨ (((s[k].toNat : Nat) : Int) < 48) ∨ (57 < ((s[k].toNat : Nat) : Int) ∧ ((s[k].toNat : Nat) : Int) < 65) := by omega
          rcases hcl with hcl | hcl | hcl | hcl | hcl
          · have hn := hide (identB_no Hk.out hl (.inr (digB_no (by omega))))
            have f1 : (97 : Int) ≤ ((s[k].toNat : Nat) : Int) := by omega
            have f2 : ¬ ((s[k].toNat : Nat) : Int) ≤ 122 := by omega
            have f3 : (65 : Int) ≤ ((s[k].toNat : Nat) : Int) := by omega
            have f4 : ¬ ((s[k].toNat : Nat) : Int) ≤ 90 := by omega
            have f5 : (((s[k].toNat : Nat) : Int) == 95) = false := beq_eq_false_iff_ne.2 (by omega)
            have f6 : ¬ ((s[k].toNat : Nat) : Int) < 48 := by omega
            have f7 : (57 : Int) < ((s[k].toNat : Nat) : Int) := by omega
            clear hl
            go_wp2_with fail
            go_ret
            exact ⟨congrArg (fun v => Ending.returned (.bool v)) hn.out.symm, rfl⟩
          · have hn := hide (identB_no Hk.out hl (.inr (digB_no (by omega))))
            have f1 : ¬ (97 : Int) ≤ ((s[k].toNat : Nat) : Int) := by omega
            have f2 : ((s[k].toNat : Nat) : Int) ≤ 122 := by omega
            have f3 : (65 : Int) ≤ ((s[k].toNat : Nat) : Int) := by omega
            have f4 : ¬ ((s[k].toNat : Nat) : Int) ≤ 90 := by omega
            have f5 : (((s[k].toNat : Nat) : Int) == 95) = false := beq_eq_false_iff_ne.2 (by omega)
            have f6 : ¬ ((s[k].toNat : Nat) : Int) < 48 := by omega
            have f7 : (57 : Int) < ((s[k].toNat : Nat) : Int) := by omega
            clear hl
            go_wp2_with fail
            go_ret
            exact ⟨congrArg (fun v => Ending.returned (.bool v)) hn.out.symm, rfl⟩
          · have HN := hide (headOk_succ HH.out Hk.out (.inr ⟨hk0, digB_yes (by omega)⟩))
            have f1 : ¬ (97 : Int) ≤ ((s[k].toNat : Nat) : Int) := by omega
            have f2 : ((s[k].toNat : Nat) : Int) ≤ 122 := by omega
            have f3 : ¬ (65 : Int) ≤ ((s[k].toNat : Nat) : Int) := by omega
            have f4 : ((s[k].toNat : Nat) : Int) ≤ 90 := by omega
            have f5 : (((s[k].toNat : Nat) : Int) == 95) = false := beq_eq_false_iff_ne.2 (by omega)
            have f6 : ¬ ((s[k].toNat : Nat) : Int) < 48 := by omega
            have f7 : ¬ (57 : Int) < ((s[k].toNat : Nat) : Int) := by omega
            clear hl
            go_wp2_with fail
            go_roundw
            case rel => exact ⟨k + 1, by go_num, by omega, HN.out, trivial⟩
            case measure => simp [intOf]; omega
          · have hn := hide (identB_no Hk.out hl (.inr (digB_no (by omega))))
            have f1 : ¬ (97 : Int) ≤ ((s[k].toNat : Nat) : Int) := by omega
            have f2 : ((s[k].toNat : Nat) : Int) ≤ 122 := by omega
            have f3 : ¬ (65 : Int) ≤ ((s[k].toNat : Nat) : Int) := by omega
            have f4 : ((s[k].toNat : Nat) : Int) ≤ 90 := by omega
            have f5 : (((s[k].toNat : Nat) : Int) == 95) = false := beq_eq_false_iff_ne.2 (by omega)
            have f6 : ((s[k].toNat : Nat) : Int) < 48 := by omega
            have f7 : ¬ (57 : Int) < ((s[k].toNat : Nat) : Int) := by omega
            clear hl
            go_wp2_with fail
            go_ret
            exact ⟨congrArg (fun v => Ending.returned (.bool v)) hn.out.symm, rfl⟩
          · have hn := hide (identB_no Hk.out hl (.inr (digB_no (by omega))))
            have f1 : ¬ (97 : Int) ≤ ((s[k].toNat : Nat) : Int) := by omega
            have f2 : ((s[k].toNat : Nat) : Int) ≤ 122 := by omega
            have f3 : ¬ (65 : Int) ≤ ((s[k].toNat : Nat) : Int) := by omega
            have f4 : ((s[k].toNat : Nat) : Int) ≤ 90 := by omega
            have f5 : (((s[k].toNat : Nat) : Int) == 95) = false := beq_eq_false_iff_ne.2 (by omega)
            have f6 : ¬ ((s[k].toNat : Nat) : Int) < 48 := by omega
            have f7 : (57 : Int) < ((s[k].toNat : Nat) : Int) := by omega
            clear hl
            go_wp2_with fail
            go_ret
            exact ⟨congrArg (fun v => Ending.returned (.bool v)) hn.out.symm, rfl⟩
      · have HN := hide (headOk_succ HH.out Hk.out (.inl hl))
        have hy : (((s[k].toNat : Nat) : Int) = 95) ∨ (65 ≤ ((s[k].toNat : Nat) : Int) ∧ ((s[k].toNat : Nat) : Int) ≤ 90) ∨ (97 ≤ ((s[k].toNat : Nat) : Int) ∧ ((s[k].toNat : Nat) : Int) ≤ 122) := of_decide_eq_true hl
        rcases hy with hy | hy | hy
        · have f1 : ¬ (97 : Int) ≤ ((s[k].toNat : Nat) : Int) := by omega
          have f2 : ((s[k].toNat : Nat) : Int) ≤ 122 := by omega
          have f3 : (65 : Int) ≤ ((s[k].toNat : Nat) : Int) := by omega
          have f4 : ¬ ((s[k].toNat : Nat) : Int) ≤ 90 := by omega
          have f5 : (((s[k].toNat : Nat) : Int) == 95) = true := beq_iff_eq.2 (by omega)
          have f6 : ¬ ((s[k].toNat : Nat) : Int) < 48 := by omega
          have f7 : (57 : Int) < ((s[k].toNat : Nat) : Int) := by omega
          clear hl
          go_wp2_with fail
          go_roundw
          case rel => exact ⟨k + 1, by go_num, by omega, HN.out, trivial⟩
          case measure => simp [intOf]; omega
        · have f1 : ¬ (97 : Int) ≤ ((s[k].toNat : Nat) : Int) := by omega
          have f2 : ((s[k].toNat : Nat) : Int) ≤ 122 := by omega
          have f3 : (65 : Int) ≤ ((s[k].toNat : Nat) : Int) := by omega
          have f4 : ((s[k].toNat : Nat) : Int) ≤ 90 := by omega
          have f5 : (((s[k].toNat : Nat) : Int) == 95) = false := beq_eq_false_iff_ne.2 (by omega)
          have f6 : ¬ ((s[k].toNat : Nat) : Int) < 48 := by omega
          have f7 : (57 : Int) < ((s[k].toNat : Nat) : Int) := by omega
          clear hl
          go_wp2_with fail
          go_roundw
          case rel => exact ⟨k + 1, by go_num, by omega, HN.out, trivial⟩
          case measure => simp [intOf]; omega
        · have f1 : (97 : Int) ≤ ((s[k].toNat : Nat) : Int) := by omega
          have f2 : ((s[k].toNat : Nat) : Int) ≤ 122 := by omega
          have f3 : (65 : Int) ≤ ((s[k].toNat : Nat) : Int) := by omega
          have f4 : ¬ ((s[k].toNat : Nat) : Int) ≤ 90 := by omega
          have f5 : (((s[k].toNat : Nat) : Int) == 95) = false := beq_eq_false_iff_ne.2 (by omega)
          have f6 : ¬ ((s[k].toNat : Nat) : Int) < 48 := by omega
          have f7 : (57 : Int) < ((s[k].toNat : Nat) : Int) := by omega
          clear hl
          go_wp2_with fail
          go_roundw
          case rel => exact ⟨k + 1, by go_num, by omega, HN.out, trivial⟩
          case measure => simp [intOf]; omega
    · obtain rfl : k = s.size := by omega
      by_cases h1 : 1 ≤ s.size
      · have h1' : (1 : Int) ≤ (s.size : Int) := by omega
        by_cases h2 : s.size ≤ 255
        · have h2' : (s.size : Int) ≤ 255 := by omega
          have hn := hide (identB_yes h1 h2 HH.out)
          go_wp2_with fail
          go_ret
          exact ⟨congrArg (fun v => Ending.returned (.bool v)) hn.out.symm, rfl⟩
        · have h2' : ¬ (s.size : Int) ≤ 255 := by omega
          have hn := hide (identB_long (s := s) (.inr (by omega)))
          go_wp2_with fail
          go_ret
          exact ⟨congrArg (fun v => Ending.returned (.bool v)) hn.out.symm, rfl⟩
      · have h1' : ¬ (1 : Int) ≤ (s.size : Int) := by omega
        have hn := hide (identB_long (s := s) (.inl (by omega)))
        go_wp2_with fail
        go_ret
        exact ⟨congrArg (fun v => Ending.returned (.bool v)) hn.out.symm, rfl⟩
theorem RefIdent_is {s : ByteArray} {b : Bool} (h : identB s = b) (w : World) (hs : s.size ≤ maxLen) :
    Calls Try.prog 10 #[.string s] w fun e w' => e = .returned (.bool b) ∧ w = w' := h ▸ RefIdent_any s w hs

end Go.Proofs.Ytbkgooeghmaokaa
