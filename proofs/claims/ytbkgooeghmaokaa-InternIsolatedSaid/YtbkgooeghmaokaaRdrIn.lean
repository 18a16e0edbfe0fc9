/- The closures that a reader's methods pass on, and what 'read' makes of them. -/
import Derived.Test.YtbkgooeghmaokaaRdr
import Derived.Test.YtbkgooeghmaokaaAppend
import Derived.Test.YtbkgooeghmaokaaClone
import Derived.Lib.LazyBuf
set_option linter.unusedVariables false
namespace Go.Proofs.Ytbkgooeghmaokaa
open Go.RowKit

/-! ### what a closure hands to 'read' -/
/-- the next value: V says what the value is, zs what is left, E the error -/
def Next (w : World) (g : Nat) (z : Value) (V : World → Value → Prop) (zs : List Int) (E : Int) (x : Ending) (w1 : World) : Prop :=
  ∃ v er, x = .returned (.tuple #[v, .int .i64 er]) ∧ w.grownBy w1 (some g) ∧ ((er = 0 ∧ E = 0 ∧ V w1 v ∧ CR w1 g zs 0) ∨ (er ≠ 0 ∧ E = er ∧ zs = [] ∧ ∃ ys', CR w1 g ys' 0))
/-- what a method returns -/
def Done (w : World) (g : Nat) (V : World → Value → Prop) (zs : List Int) (E : Int) (x : Ending) (w' : World) : Prop :=
  ∃ v, x = .returned v ∧ V w' v ∧ CR w' g zs E ∧ w.grownBy w' (some g)
theorem next_ok {w w1 : World} {g : Nat} {z v : Value} {V : World → Value → Prop} {zs : List Int} (hV : V w1 v) (hr : CR w1 g zs 0) (hg : w.grownBy w1 (some g)) : Next w g z V zs 0 (.returned (.tuple #[v, .int .i64 0])) w1 :=
  ⟨v, 0, rfl, hg, .inl ⟨rfl, rfl, hV, hr⟩⟩
theorem next_err {w w1 : World} {g : Nat} {z v : Value} {V : World → Value → Prop} {ys' : List Int} {er : Int} (he : er ≠ 0) (hr : CR w1 g ys' 0) (hg : w.grownBy w1 (some g)) : Next w g z V [] er (.returned (.tuple #[v, .int .i64 er])) w1 :=
  ⟨v, er, rfl, hg, .inr ⟨he, rfl, rfl, ys', hr⟩⟩
theorem Done.wider {w0 w w' : World} {g : Nat} {V : World → Value → Prop} {zs : List Int} {E : Int} {x : Ending} (h : Done w g V zs E x w') (hb : w0.grownBy w (some g)) : Done w0 g V zs E x w' := by
  obtain ⟨v, h1, h2, h3, h4⟩ := h
  exact ⟨v, h1, h2, h3, hb.trans h4⟩
def IsInt (k : IntKind) (n : Int) (_ : World) (v : Value) : Prop := v = .int k n
def IsStr (xs : List Int) (_ : World) (v : Value) : Prop := v = .string (strOfNums xs)
/-- a slice of its own, made since w -/
def IsOwn (w : World) (xs : List Int) (w' : World) (v : Value) : Prop := OwnB w w' v xs


theorem read_str {w : World} {g : Nat} {ys : List Int} {V : World → Value → Prop} {zs : List Int} {E : Int} {b1 b2 : Addr} (h : CR w g ys 0) (hz : E ≠ 0 → ∀ W, V W (.string .empty))
    (hC : Calls Try.prog 53 #[.pointer (some b1), .pointer (some b2)] w (Next w g (.string .empty) V zs E)) :
    Calls Try.prog 52 #[.pointer (some ⟨g, 0, none⟩), .func (.func 53) #[] #[.pointer (some b1), .pointer (some b2)]] w (Done w g V zs E) := by
  have HC := hide hC
  have HZ := hide hz
  have hE := h.errOf
  clear hC h hz
  go_enter Try.func52, Try.ntmps52
  go_wp2_with fail
  refine (Err_of _ _ _ hE).mono ?_
  rintro e w1 ⟨rfl, rfl⟩
  go_wp2_with fail
  refine HC.out.mono ?_
  rintro e w1 ⟨v, er, rfl, hg, ⟨rfl, hE0, hV, hr⟩ | ⟨he, hE0, hzs, ys', hr⟩⟩
  · have H0 := hide hE0
    have HV := hide hV
    clear hE0 hV
    go_wp2_with fail
    go_ret
    exact ⟨v, rfl, HV.out, by rw [H0.out]; exact hr, hg⟩
  · have HE := hide he
    have HE2 := hide hE0
    have HS := hide hzs
    have hb : (er == 0) = false := by simpa using he
    have hb2 : (er != 0) = true := by simpa using he
    have HR := hide hr
    obtain ⟨A, n, c, p, xs, ⟨_, _, hc2, hf, hlt, _, _, _, _, _, _⟩, _⟩ := hr
    have hf2 := hf 2
    clear he hE0 hzs hf
    go_wp2_with fail
    go_ret
    refine ⟨_, rfl, HZ.out (by rw [HE2.out]; exact HE.out) _, ?_, only_setCell hg _ _⟩
    rw [HS.out, HE2.out]
    exact HR.out.note er HE.out
theorem skip_str {w : World} {q : Option Addr} {e : Int} (f : Value) (h : ErrOf w q e) (he : e ≠ 0) :
    Calls Try.prog 52 #[.pointer q, f] w fun x w' => x = .returned (.string .empty) ∧ w = w' := by
  have hb : (e == 0) = false := by simpa using he
  have hb2 : (e != 0) = true := by simpa using he
  clear he
  go_enter Try.func52, Try.ntmps52
  go_wp2_with fail
  refine (Err_of _ _ _ h).mono ?_
  rintro e w1 ⟨rfl, rfl⟩
  go_wp2_with fail
  go_ret
  exact ⟨rfl, rfl⟩

theorem read_count {w : World} {g : Nat} {ys : List Int} {V : World → Value → Prop} {zs : List Int} {E : Int} {b1 b2 : Addr} (h : CR w g ys 0) (hz : E ≠ 0 → ∀ W, V W (.int .i64 0))
    (hC : Calls Try.prog 50 #[.pointer (some b1), .pointer (some b2)] w (Next w g (.int .i64 0) V zs E)) :
    Calls Try.prog 49 #[.pointer (some ⟨g, 0, none⟩), .func (.func 50) #[] #[.pointer (some b1), .pointer (some b2)]] w (Done w g V zs E) := by
  have HC := hide hC
  have HZ := hide hz
  have hE := h.errOf
  clear hC h hz
  go_enter Try.func49, Try.ntmps49
  go_wp2_with fail
  refine (Err_of _ _ _ hE).mono ?_
  rintro e w1 ⟨rfl, rfl⟩
  go_wp2_with fail
  refine HC.out.mono ?_
  rintro e w1 ⟨v, er, rfl, hg, ⟨rfl, hE0, hV, hr⟩ | ⟨he, hE0, hzs, ys', hr⟩⟩
  · have H0 := hide hE0
    have HV := hide hV
    clear hE0 hV
    go_wp2_with fail
    go_ret
    exact ⟨v, rfl, HV.out, by rw [H0.out]; exact hr, hg⟩
  · have HE := hide he
    have HE2 := hide hE0
    have HS := hide hzs
    have hb : (er == 0) = false := by simpa using he
    have hb2 : (er != 0) = true := by simpa using he
    have HR := hide hr
    obtain ⟨A, n, c, p, xs, ⟨_, _, hc2, hf, hlt, _, _, _, _, _, _⟩, _⟩ := hr
    have hf2 := hf 2
    clear he hE0 hzs hf
    go_wp2_with fail
    go_ret
    refine ⟨_, rfl, HZ.out (by rw [HE2.out]; exact HE.out) _, ?_, only_setCell hg _ _⟩
    rw [HS.out, HE2.out]
    exact HR.out.note er HE.out
theorem skip_count {w : World} {q : Option Addr} {e : Int} (f : Value) (h : ErrOf w q e) (he : e ≠ 0) :
    Calls Try.prog 49 #[.pointer q, f] w fun x w' => x = .returned (.int .i64 0) ∧ w = w' := by
  have hb : (e == 0) = false := by simpa using he
  have hb2 : (e != 0) = true := by simpa using he
  clear he
  go_enter Try.func49, Try.ntmps49
  go_wp2_with fail
  refine (Err_of _ _ _ h).mono ?_
  rintro e w1 ⟨rfl, rfl⟩
  go_wp2_with fail
  go_ret
  exact ⟨rfl, rfl⟩

/-! ### the closures -/
def aInt (ys : List Int) (e : Int) : Int × List Int × Int := (uz (aNum ys e).1, (aNum ys e).2.1, (aNum ys e).2.2)
end Go.Proofs.Ytbkgooeghmaokaa
