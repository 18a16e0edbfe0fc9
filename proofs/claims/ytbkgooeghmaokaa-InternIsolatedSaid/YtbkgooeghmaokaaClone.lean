/- bytes.Clone. -/
import Derived.Test.YtbkgooeghmaokaaOwn
import Derived.Test.YtbkgooeghmaokaaAppend
import Derived.Lib.LazyBuf
set_option linter.unusedVariables false
namespace Go.Proofs.Ytbkgooeghmaokaa
open Go.RowKit

theorem ownLit0 (w : World) : (w.alloc (.cells #[] 5)).ownsRow w.heap.size 5 1 (.slice (some ⟨w.heap.size, 0, none⟩) 0 0) 0 [] :=
  World.ownsRow_lit w #[] 0 (Nat.le_refl _) (by unfold maxLen; omega) rfl

set_option maxRecDepth 100000 in
/-- a copy in memory of its own -/
theorem Clone_any {B : Nat} (A : Option Addr) (n c : Nat) (xs : List Int) (w : World) (hr : Rd w B A n (u8s xs)) (hB : B ≤ w.heap.size) (hn : n ≤ 1099511627776) :
    Calls Try.prog 48 #[.slice A n c] w fun x w' => ∃ v, x = .returned v ∧ OwnB w w' v xs ∧ Below w.heap.size w w' := by
  obtain ⟨i0, hi, hz0, hz1, hz2⟩ := info_parts infoU8
  have hl : xs.length = n := by simpa using hr.1
  rcases A with _ | ad
  · have h0 : n = 0 := by
      rcases Nat.eq_zero_or_pos n with h0 | h0
      · exact h0
      · obtain ⟨b, o, h, _⟩ := hr.2 h0
        cases h
    subst h0
    obtain rfl : xs = [] := List.eq_nil_of_length_eq_zero hl
    clear hl
    have heq := fun w : World => run_eql_slice_nil (P := Try.prog) w 41 5 none 0 c Try.underlying41
    simp only [Option.isNone_none] at heq
    go_enter Try.func48, Try.ntmps48
    go_wp2
    go_ret
    exact ⟨_, rfl, ownB_of (World.ownsRow_nil _ _ _ _), Below.refl _ _⟩
  · have HR := hide hr
    have HL := hide hl
    have HN := hide hn
    clear hr hl hn
    have heq := fun w : World => run_eql_slice_nil (P := Try.prog) w 41 5 (some ad) n c Try.underlying41
    simp only [Option.isNone_some] at heq
    go_enter Try.func48, Try.ntmps48
    go_wp2_with (at_builtin; refine wpList_append_rd _ rfl _ _ 41 rfl w.heap.size 5 i0 (.int .u8 0) 1 Try.underlying41 hi hz0 hz1 hz2 rfl _ 0 [] rfl (ownLit0 w) B (some ad) n c (u8s xs) rfl (HR.out.alloc hB _) (ints_oneCell _ _) (by have := HN.out; unfold maxLen; omega) (by have := HN.out; omega) (by simp) ?_; intro v2 w2 hown2 hg2 hat2)
    go_ret
    refine ⟨v2, rfl, ownB_of ?_, below_app ((Below.refl w.heap.size w).alloc (Nat.le_refl _) _) (ownLit0 w) (by simp) hg2⟩
    rw [HL.out]
    simpa using hown2
end Go.Proofs.Ytbkgooeghmaokaa
