/- Two types that are nested to the limit: the mathematics. -/
import Derived.Test.YtagnikaghhobjaaLaw07
set_option linter.unusedVariables false
namespace Go.Proofs.Ytagnikaghhobjaa
open Go.RowKit

def nestE7 (tup mu : Bool) (j : Nat) : Ty := if tup = true then ⟨4, false, 0, 0, [(j : Int) + 1, (j : Int) + 1]⟩ else ⟨3, mu, 0, (j : Int) + 1, []⟩
def nestT7 (tup mu : Bool) (k : Nat) : List Ty := ex7T ++ (List.range k).map (nestE7 tup mu)
theorem nest7_succ (tup mu : Bool) (k : Nat) : nestT7 tup mu (k + 1) = nestT7 tup mu k ++ [nestE7 tup mu k] := by simp [nestT7, List.range_succ]
theorem nest7_ok : ∀ tup mu : Bool, tyChk (nestT7 tup mu 58) 2 = 0 := by decide +kernel
theorem nest7_at (tup mu : Bool) {j : Nat} (h : j < 58) : tyAt (nestT7 tup mu 58) ((j + 3 : Nat) : Int) = some (nestE7 tup mu j) := by
  rw [tyAt_nat]
  unfold nestT7
  rw [List.getElem?_append_right (by simp)]
  simp [h]
abbrev ps1 : List Pr := [(0, 1)]
theorem ps1_chk : prChk ps1 2 = 0 := by decide +kernel
theorem ps1_01 : out ps1 2 0 1 = true := out_iff.2 ⟨by omega, by omega, .one (by simp)⟩
theorem ps1_00 : out ps1 2 0 0 = true := out_iff.2 (Out.refl (by omega))
theorem ps1_10 : out ps1 2 1 0 = false := out_not.2 fun h => by
  cases h.2.2 with
  | step m _ => simp at m
theorem nest7_sub (tup mu : Bool) : ∀ t : Nat, t ≤ 29 → sub (out ps1 2) (nestT7 tup mu 58) ((1 + 2 * t : Nat) : Int) ((2 + 2 * t : Nat) : Int) = (tup || (!mu || decide (t = 0))) ∧ sub (out ps1 2) (nestT7 tup mu 58) ((2 + 2 * t : Nat) : Int) ((1 + 2 * t : Nat) : Int) = false
  | 0, _ => by
    constructor
    · rw [show (tup || (!mu || decide (0 = 0))) = true by simp]
      refine sub_iff.2 (.mk (a := ⟨3, false, 0, 0, []⟩) (b := ⟨3, false, 1, 0, []⟩) rfl rfl (poss_mkref rfl rfl rfl ps1_01) fun p hp => ?_)
      have e : p = (0, 0) := by simpa [needs] using hp
      subst e
      exact .mk (a := ⟨2, false, 0, 0, []⟩) (b := ⟨2, false, 0, 0, []⟩) rfl rfl (poss_flat rfl (by simp)) fun p hp => by simp [needs] at hp
    · exact sub_not.2 (not_sub_poss (a := ⟨3, false, 1, 0, []⟩) (b := ⟨3, false, 0, 0, []⟩) rfl rfl (poss_ref_eq rfl rfl rfl ps1_10))
  | t + 1, ht => by
    obtain ⟨ih1, ih2⟩ := nest7_sub tup mu t (by omega)
    have ha : tyAt (nestT7 tup mu 58) ((1 + 2 * (t + 1) : Nat) : Int) = some (nestE7 tup mu (2 * t)) := by rw [show 1 + 2 * (t + 1) = 2 * t + 3 by omega]; exact nest7_at tup mu (by omega)
    have hb : tyAt (nestT7 tup mu 58) ((2 + 2 * (t + 1) : Nat) : Int) = some (nestE7 tup mu (2 * t + 1)) := by rw [show 2 + 2 * (t + 1) = 2 * t + 1 + 3 by omega]; exact nest7_at tup mu (by omega)
    have ea : nestE7 tup mu (2 * t) = if tup = true then ⟨4, false, 0, 0, [((1 + 2 * t : Nat) : Int), ((1 + 2 * t : Nat) : Int)]⟩ else ⟨3, mu, 0, ((1 + 2 * t : Nat) : Int), []⟩ := by
      unfold nestE7; rw [show ((2 * t : Nat) : Int) + 1 = ((1 + 2 * t : Nat) : Int) by omega]
    have eb : nestE7 tup mu (2 * t + 1) = if tup = true then ⟨4, false, 0, 0, [((2 + 2 * t : Nat) : Int), ((2 + 2 * t : Nat) : Int)]⟩ else ⟨3, mu, 0, ((2 + 2 * t : Nat) : Int), []⟩ := by
      unfold nestE7; rw [show ((2 * t + 1 : Nat) : Int) + 1 = ((2 + 2 * t : Nat) : Int) by omega]
    rw [ea] at ha
    rw [eb] at hb
    clear ea eb
    generalize ((1 + 2 * t : Nat) : Int) = x at *
    generalize ((2 + 2 * t : Nat) : Int) = y at *
    cases tup
    · cases mu
      · simp only [Bool.false_eq_true, if_false] at ha hb
        refine ⟨?_, sub_not.2 fun k => sub_not.1 ih2 ((k.at_ hb ha).2 (y, x) (by simp [needs]))⟩
        refine sub_iff.2 (.mk ha hb (poss_mkref rfl rfl rfl ps1_00) fun p hp => ?_)
        have e : p = (x, y) := by simpa [needs] using hp
        subst e
        exact sub_iff.1 (ih1.trans (by simp))
      · simp only [Bool.false_eq_true, if_false] at ha hb
        refine ⟨?_, sub_not.2 fun k => sub_not.1 ih2 ((k.at_ hb ha).2 (y, x) (by simp [needs]))⟩
        rw [show (false || (!true || decide (t + 1 = 0))) = false by simp]
        exact sub_not.2 fun k => sub_not.1 ih2 ((k.at_ ha hb).2 (y, x) (by simp [needs]))
    · simp only [if_true] at ha hb
      refine ⟨?_, sub_not.2 fun k => sub_not.1 ih2 ((k.at_ hb ha).2 (y, x) (by simp [needs]))⟩
      refine sub_iff.2 (.mk ha hb (poss_mktup rfl rfl rfl) fun p hp => ?_)
      have e : p = (x, y) := by simpa [needs] using hp
      subst e
      exact sub_iff.1 (ih1.trans (by simp))
theorem nest7_s1 (tup mu : Bool) : sub (out ps1 2) (nestT7 tup mu 58) 59 60 = (tup || !mu) := (nest7_sub tup mu 29 (Nat.le_refl _)).1.trans (by simp)
theorem nest7_s2 (tup mu : Bool) : sub (out ps1 2) (nestT7 tup mu 58) 60 59 = false := (nest7_sub tup mu 29 (Nat.le_refl _)).2
theorem nest7_s3 (tup mu : Bool) : sub (out ps1 2) (nestT7 tup mu 58) 60 60 = true :=
  sub_iff.2 (sub_refl (O := out ps1 2) (tyChk_iff.1 (nest7_ok tup mu)) (fun x hx hx2 => out_iff.2 (Out.refl ⟨hx, hx2⟩)) _ _ _ (Nat.lt_succ_self _) (nest7_at tup mu (j := 57) (by omega)))
end Go.Proofs.Ytagnikaghhobjaa
