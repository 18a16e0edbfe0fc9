/- What the laws of chapter 7 share. -/
import Derived.Test.YtagnikaghhobjaaAlive07
import Derived.Test.YtagnikaghhobjaaRegD
import Derived.Test.YtagnikaghhobjaaRegH
import Derived.Test.YtagnikaghhobjaaOpenP
set_option linter.unusedVariables false
namespace Go.Proofs.Ytagnikaghhobjaa
open Go.RowKit

def lrg (n : Nat) (rg : Int) : Bool := decide (40 < n) || decide (40 < rg)
theorem lrg_no {n : Nat} {rg : Int} (h : lrg n rg = false) : n ≤ 40 ∧ rg ≤ 40 := by
  unfold lrg at h
  simp at h
  omega
theorem Lrg_is {A : Option Addr} {n c : Nat} {rg : Int} {v : Bool} (h : lrg n rg = v) (w : World) (hn : n ≤ maxLen) :
    Calls Try.prog 15 #[.slice A n c, .int .i64 rg] w fun e w' => e = .returned (.bool v) ∧ w = w' := by
  unfold maxLen at hn
  by_cases h1 : 40 < n
  · have e : v = true := by rw [← h]; unfold lrg; rw [decide_eq_true h1]; rfl
    subst e
    have t : decide ((40 : Int) < (n : Int)) = true := by simp; omega
    have t2 : decide (40 < n) = true := decide_eq_true h1
    clear h h1
    go_enter Try.func15, Try.ntmps15
    go_wp2
    go_ret
    exact ⟨rfl, rfl⟩
  · have t : decide ((40 : Int) < (n : Int)) = false := by simp; omega
    have t2 : decide (40 < n) = false := decide_eq_false h1
    have HV := hide (show v = decide (40 < rg) by rw [← h]; unfold lrg; rw [t2]; rfl)
    clear h h1
    go_enter Try.func15, Try.ntmps15
    go_wp2
    go_ret
    exact ⟨congrArg (fun v => Ending.returned (.bool v)) HV.out.symm, rfl⟩
theorem asc_len : ∀ {ys : List Int} {lo hi : Int}, ys.Pairwise (· < ·) → (∀ a ∈ ys, lo ≤ a ∧ a < hi) → ys.length ≤ (hi - lo).toNat
  | [], lo, hi, _, _ => Nat.zero_le _
  | x :: ys, lo, hi, h, hb => by
    obtain ⟨h1, h2⟩ := List.pairwise_cons.1 h
    have hx := hb x (by simp)
    have ih := asc_len (lo := x + 1) (hi := hi) h2 fun a ha => ⟨by have := h1 a ha; omega, (hb a (by simp [ha])).2⟩
    rw [List.length_cons]
    omega
theorem outL_outL {ps : List Pr} {rg : Int} {l ys : List Int} (h : ∀ a, a ∈ ys ↔ OutL ps rg l a) (a : Int) : OutL ps rg ys a ↔ OutL ps rg l a := by
  constructor
  · rintro ⟨b, hb, k⟩
    obtain ⟨c, hc, k2⟩ := (h b).1 hb
    exact ⟨c, hc, k.trans k2⟩
  · intro k
    exact ⟨a, (h a).2 k, Out.refl (outL_rng k)⟩
theorem same_chk (a b : Int) : prChk [(a, a)] b ≠ 0 := by
  unfold prChk prChkR
  rw [if_neg (by simp)]
  have h : prErr none (a, a) b = 3 ∨ prErr none (a, a) b = 2 := by
    unfold prErr
    split
    · exact .inl rfl
    · exact .inr (by simp)
  rcases h with h | h <;> rw [h] <;> simp
end Go.Proofs.Ytagnikaghhobjaa
