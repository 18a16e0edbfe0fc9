/- bytes.Clone; the closures that a reader's methods pass on, and what 'read' makes of them. -/
import Derived.Test.YtakjlomgkbloeaaRdr
import Derived.Test.YtakjlomgkbloeaaAppend
import Derived.Lib.LazyBuf
set_option linter.unusedVariables false
namespace Go.Proofs.Ytakjlomgkbloeaa
open Go.RowKit

theorem ownLit0 (w : World) : (w.alloc (.cells #[] 5)).ownsRow w.heap.size 5 1 (.slice (some ⟨w.heap.size, 0, none⟩) 0 0) 0 [] :=
  World.ownsRow_lit w #[] 0 (Nat.le_refl _) (by unfold maxLen; omega) rfl

set_option maxRecDepth 100000 in
/-- a copy in memory of its own -/
theorem Clone_any {B : Nat} (A : Option Addr) (n c : Nat) (xs : List Int) (w : World) (hr : Rd w B A n (u8s xs)) (hB : B ≤ w.heap.size) (hn : n ≤ 1099511627776) :
    Calls Try.prog 33 #[.slice A n c] w fun x w' => ∃ v, x = .returned v ∧ OwnB w w' v xs ∧ Below w.heap.size w w' := by
  obtain ⟨i0, hi, hz0, hz1, hz2⟩ := info_parts infoU8
  have hl : xs.length = n := by simpa using hr.1
  rcases A with _ | ad
  · have h0 : n = 0 := by
      rcases Nat.eq_zero_or_pos n with h0 | h0
      · exact h0
      · obtain ⟨b, o, h, _⟩ := hr.2 h0
        cases h
    subst h0
    obtain rfl : xs = [] := List.eq_nil_of_length_eq_zero hl
    clear hl
    have heq := fun w : World => run_eql_slice_nil (P := Try.prog) w 28 5 none 0 c Try.underlying28
    simp only [Option.isNone_none] at heq
    go_enter Try.func33, Try.ntmps33
    go_wp2
    go_ret
    exact ⟨_, rfl, ownB_of (World.ownsRow_nil _ _ _ _), Below.refl _ _⟩
  · have HR := hide hr
    have HL := hide hl
    have HN := hide hn
    clear hr hl hn
    have heq := fun w : World => run_eql_slice_nil (P := Try.prog) w 28 5 (some ad) n c Try.underlying28
    simp only [Option.isNone_some] at heq
    go_enter Try.func33, Try.ntmps33
    go_wp2_with (at_builtin; refine wpList_append_rd _ rfl _ _ 28 rfl w.heap.size 5 i0 (.int .u8 0) 1 Try.underlying28 hi hz0 hz1 hz2 rfl _ 0 [] rfl (ownLit0 w) B (some ad) n c (u8s xs) rfl (HR.out.alloc hB _) (ints_oneCell _ _) (by have := HN.out; unfold maxLen; omega) (by have := HN.out; omega) (by simp) ?_; intro v2 w2 hown2 hg2 hat2)
    go_ret
    refine ⟨v2, rfl, ownB_of ?_, below_app ((Below.refl w.heap.size w).alloc (Nat.le_refl _) _) (ownLit0 w) (by simp) hg2⟩
    rw [HL.out]
    simpa using hown2

/-! ### what a closure hands to 'read' -/
/-- the next value: V says what the value is, zs what is left, E the error -/
def Next (w : World) (g : Nat) (z : Value) (V : World → Value → Prop) (zs : List Int) (E : Int) (x : Ending) (w1 : World) : Prop :=
  ∃ v er, x = .returned (.tuple #[v, .int .i64 er]) ∧ w.grownBy w1 (some g) ∧ ((er = 0 ∧ E = 0 ∧ V w1 v ∧ CR w1 g zs 0) ∨ (er ≠ 0 ∧ E = er ∧ zs = [] ∧ ∃ ys', CR w1 g ys' 0))
/-- what a method returns -/
def Done (w : World) (g : Nat) (V : World → Value → Prop) (zs : List Int) (E : Int) (x : Ending) (w' : World) : Prop :=
  ∃ v, x = .returned v ∧ V w' v ∧ CR w' g zs E ∧ w.grownBy w' (some g)
theorem next_ok {w w1 : World} {g : Nat} {z v : Value} {V : World → Value → Prop} {zs : List Int} (hV : V w1 v) (hr : CR w1 g zs 0) (hg : w.grownBy w1 (some g)) : Next w g z V zs 0 (.returned (.tuple #[v, .int .i64 0])) w1 :=
  ⟨v, 0, rfl, hg, .inl ⟨rfl, rfl, hV, hr⟩⟩
theorem next_err {w w1 : World} {g : Nat} {z v : Value} {V : World → Value → Prop} {ys' : List Int} {er : Int} (he : er ≠ 0) (hr : CR w1 g ys' 0) (hg : w.grownBy w1 (some g)) : Next w g z V [] er (.returned (.tuple #[v, .int .i64 er])) w1 :=
  ⟨v, er, rfl, hg, .inr ⟨he, rfl, rfl, ys', hr⟩⟩
theorem Done.wider {w0 w w' : World} {g : Nat} {V : World → Value → Prop} {zs : List Int} {E : Int} {x : Ending} (h : Done w g V zs E x w') (hb : w0.grownBy w (some g)) : Done w0 g V zs E x w' := by
  obtain ⟨v, h1, h2, h3, h4⟩ := h
  exact ⟨v, h1, h2, h3, hb.trans h4⟩
def IsInt (k : IntKind) (n : Int) (_ : World) (v : Value) : Prop := v = .int k n
def IsStr (xs : List Int) (_ : World) (v : Value) : Prop := v = .string (strOfNums xs)
/-- a slice of its own, made since w -/
def IsOwn (w : World) (xs : List Int) (w' : World) (v : Value) : Prop := OwnB w w' v xs


theorem read_byte {w : World} {g : Nat} {ys : List Int} {V : World → Value → Prop} {zs : List Int} {E : Int} {b1 : Addr} (h : CR w g ys 0) (hz : E ≠ 0 → ∀ W, V W (.int .u8 0))
    (hC : Calls Try.prog 45 #[.pointer (some b1)] w (Next w g (.int .u8 0) V zs E)) :
    Calls Try.prog 44 #[.pointer (some ⟨g, 0, none⟩), .func (.func 45) #[] #[.pointer (some b1)]] w (Done w g V zs E) := by
  have HC := hide hC
  have HZ := hide hz
  have hE := h.errOf
  clear hC h hz
  go_enter Try.func44, Try.ntmps44
  go_wp2_with fail
  refine (Err_of _ _ _ hE).mono ?_
  rintro e w1 ⟨rfl, rfl⟩
  go_wp2_with fail
  refine HC.out.mono ?_
  rintro e w1 ⟨v, er, rfl, hg, ⟨rfl, hE0, hV, hr⟩ | ⟨he, hE0, hzs, ys', hr⟩⟩
  · have H0 := hide hE0
    have HV := hide hV
    clear hE0 hV
    go_wp2_with fail
    go_ret
    exact ⟨v, rfl, HV.out, by rw [H0.out]; exact hr, hg⟩
  · have HE := hide he
    have HE2 := hide hE0
    have HS := hide hzs
    have hb : (er == 0) = false := by simpa using he
    have hb2 : (er != 0) = true := by simpa using he
    have HR := hide hr
    obtain ⟨A, n, c, p, xs, ⟨_, _, hc2, hf, hlt, _, _, _, _, _, _⟩, _⟩ := hr
    have hf2 := hf 2
    clear he hE0 hzs hf
    go_wp2_with fail
    go_ret
    refine ⟨_, rfl, HZ.out (by rw [HE2.out]; exact HE.out) _, ?_, only_setCell hg _ _⟩
    rw [HS.out, HE2.out]
    exact HR.out.note er HE.out
theorem skip_byte {w : World} {q : Option Addr} {e : Int} (f : Value) (h : ErrOf w q e) (he : e ≠ 0) :
    Calls Try.prog 44 #[.pointer q, f] w fun x w' => x = .returned (.int .u8 0) ∧ w = w' := by
  have hb : (e == 0) = false := by simpa using he
  have hb2 : (e != 0) = true := by simpa using he
  clear he
  go_enter Try.func44, Try.ntmps44
  go_wp2_with fail
  refine (Err_of _ _ _ h).mono ?_
  rintro e w1 ⟨rfl, rfl⟩
  go_wp2_with fail
  go_ret
  exact ⟨rfl, rfl⟩

theorem read_uint {w : World} {g : Nat} {ys : List Int} {V : World → Value → Prop} {zs : List Int} {E : Int} {b1 b2 : Addr} (h : CR w g ys 0) (hz : E ≠ 0 → ∀ W, V W (.int .u64 0))
    (hC : Calls Try.prog 48 #[.pointer (some b1), .pointer (some b2)] w (Next w g (.int .u64 0) V zs E)) :
    Calls Try.prog 47 #[.pointer (some ⟨g, 0, none⟩), .func (.func 48) #[] #[.pointer (some b1), .pointer (some b2)]] w (Done w g V zs E) := by
  have HC := hide hC
  have HZ := hide hz
  have hE := h.errOf
  clear hC h hz
  go_enter Try.func47, Try.ntmps47
  go_wp2_with fail
  refine (Err_of _ _ _ hE).mono ?_
  rintro e w1 ⟨rfl, rfl⟩
  go_wp2_with fail
  refine HC.out.mono ?_
  rintro e w1 ⟨v, er, rfl, hg, ⟨rfl, hE0, hV, hr⟩ | ⟨he, hE0, hzs, ys', hr⟩⟩
  · have H0 := hide hE0
    have HV := hide hV
    clear hE0 hV
    go_wp2_with fail
    go_ret
    exact ⟨v, rfl, HV.out, by rw [H0.out]; exact hr, hg⟩
  · have HE := hide he
    have HE2 := hide hE0
    have HS := hide hzs
    have hb : (er == 0) = false := by simpa using he
    have hb2 : (er != 0) = true := by simpa using he
    have HR := hide hr
    obtain ⟨A, n, c, p, xs, ⟨_, _, hc2, hf, hlt, _, _, _, _, _, _⟩, _⟩ := hr
    have hf2 := hf 2
    clear he hE0 hzs hf
    go_wp2_with fail
    go_ret
    refine ⟨_, rfl, HZ.out (by rw [HE2.out]; exact HE.out) _, ?_, only_setCell hg _ _⟩
    rw [HS.out, HE2.out]
    exact HR.out.note er HE.out
theorem skip_uint {w : World} {q : Option Addr} {e : Int} (f : Value) (h : ErrOf w q e) (he : e ≠ 0) :
    Calls Try.prog 47 #[.pointer q, f] w fun x w' => x = .returned (.int .u64 0) ∧ w = w' := by
  have hb : (e == 0) = false := by simpa using he
  have hb2 : (e != 0) = true := by simpa using he
  clear he
  go_enter Try.func47, Try.ntmps47
  go_wp2_with fail
  refine (Err_of _ _ _ h).mono ?_
  rintro e w1 ⟨rfl, rfl⟩
  go_wp2_with fail
  go_ret
  exact ⟨rfl, rfl⟩

theorem read_int {w : World} {g : Nat} {ys : List Int} {V : World → Value → Prop} {zs : List Int} {E : Int} {b1 : Addr} (h : CR w g ys 0) (hz : E ≠ 0 → ∀ W, V W (.int .i64 0))
    (hC : Calls Try.prog 51 #[.pointer (some b1)] w (Next w g (.int .i64 0) V zs E)) :
    Calls Try.prog 50 #[.pointer (some ⟨g, 0, none⟩), .func (.func 51) #[] #[.pointer (some b1)]] w (Done w g V zs E) := by
  have HC := hide hC
  have HZ := hide hz
  have hE := h.errOf
  clear hC h hz
  go_enter Try.func50, Try.ntmps50
  go_wp2_with fail
  refine (Err_of _ _ _ hE).mono ?_
  rintro e w1 ⟨rfl, rfl⟩
  go_wp2_with fail
  refine HC.out.mono ?_
  rintro e w1 ⟨v, er, rfl, hg, ⟨rfl, hE0, hV, hr⟩ | ⟨he, hE0, hzs, ys', hr⟩⟩
  · have H0 := hide hE0
    have HV := hide hV
    clear hE0 hV
    go_wp2_with fail
    go_ret
    exact ⟨v, rfl, HV.out, by rw [H0.out]; exact hr, hg⟩
  · have HE := hide he
    have HE2 := hide hE0
    have HS := hide hzs
    have hb : (er == 0) = false := by simpa using he
    have hb2 : (er != 0) = true := by simpa using he
    have HR := hide hr
    obtain ⟨A, n, c, p, xs, ⟨_, _, hc2, hf, hlt, _, _, _, _, _, _⟩, _⟩ := hr
    have hf2 := hf 2
    clear he hE0 hzs hf
    go_wp2_with fail
    go_ret
    refine ⟨_, rfl, HZ.out (by rw [HE2.out]; exact HE.out) _, ?_, only_setCell hg _ _⟩
    rw [HS.out, HE2.out]
    exact HR.out.note er HE.out
theorem skip_int {w : World} {q : Option Addr} {e : Int} (f : Value) (h : ErrOf w q e) (he : e ≠ 0) :
    Calls Try.prog 50 #[.pointer q, f] w fun x w' => x = .returned (.int .i64 0) ∧ w = w' := by
  have hb : (e == 0) = false := by simpa using he
  have hb2 : (e != 0) = true := by simpa using he
  clear he
  go_enter Try.func50, Try.ntmps50
  go_wp2_with fail
  refine (Err_of _ _ _ h).mono ?_
  rintro e w1 ⟨rfl, rfl⟩
  go_wp2_with fail
  go_ret
  exact ⟨rfl, rfl⟩

theorem read_take {w : World} {g : Nat} {ys : List Int} {V : World → Value → Prop} {zs : List Int} {E : Int} {b1 b2 : Addr} (h : CR w g ys 0) (hz : E ≠ 0 → ∀ W, V W (.slice none 0 0))
    (hC : Calls Try.prog 58 #[.pointer (some b1), .pointer (some b2)] w (Next w g (.slice none 0 0) V zs E)) :
    Calls Try.prog 57 #[.pointer (some ⟨g, 0, none⟩), .func (.func 58) #[] #[.pointer (some b1), .pointer (some b2)]] w (Done w g V zs E) := by
  have HC := hide hC
  have HZ := hide hz
  have hE := h.errOf
  clear hC h hz
  go_enter Try.func57, Try.ntmps57
  go_wp2_with fail
  refine (Err_of _ _ _ hE).mono ?_
  rintro e w1 ⟨rfl, rfl⟩
  go_wp2_with fail
  refine HC.out.mono ?_
  rintro e w1 ⟨v, er, rfl, hg, ⟨rfl, hE0, hV, hr⟩ | ⟨he, hE0, hzs, ys', hr⟩⟩
  · have H0 := hide hE0
    have HV := hide hV
    clear hE0 hV
    go_wp2_with fail
    go_ret
    exact ⟨v, rfl, HV.out, by rw [H0.out]; exact hr, hg⟩
  · have HE := hide he
    have HE2 := hide hE0
    have HS := hide hzs
    have hb : (er == 0) = false := by simpa using he
    have hb2 : (er != 0) = true := by simpa using he
    have HR := hide hr
    obtain ⟨A, n, c, p, xs, ⟨_, _, hc2, hf, hlt, _, _, _, _, _, _⟩, _⟩ := hr
    have hf2 := hf 2
    clear he hE0 hzs hf
    go_wp2_with fail
    go_ret
    refine ⟨_, rfl, HZ.out (by rw [HE2.out]; exact HE.out) _, ?_, only_setCell hg _ _⟩
    rw [HS.out, HE2.out]
    exact HR.out.note er HE.out
theorem skip_take {w : World} {q : Option Addr} {e : Int} (f : Value) (h : ErrOf w q e) (he : e ≠ 0) :
    Calls Try.prog 57 #[.pointer q, f] w fun x w' => x = .returned (.slice none 0 0) ∧ w = w' := by
  have hb : (e == 0) = false := by simpa using he
  have hb2 : (e != 0) = true := by simpa using he
  clear he
  go_enter Try.func57, Try.ntmps57
  go_wp2_with fail
  refine (Err_of _ _ _ h).mono ?_
  rintro e w1 ⟨rfl, rfl⟩
  go_wp2_with fail
  go_ret
  exact ⟨rfl, rfl⟩

theorem read_str {w : World} {g : Nat} {ys : List Int} {V : World → Value → Prop} {zs : List Int} {E : Int} {b1 b2 : Addr} (h : CR w g ys 0) (hz : E ≠ 0 → ∀ W, V W (.string .empty))
    (hC : Calls Try.prog 54 #[.pointer (some b1), .pointer (some b2)] w (Next w g (.string .empty) V zs E)) :
    Calls Try.prog 53 #[.pointer (some ⟨g, 0, none⟩), .func (.func 54) #[] #[.pointer (some b1), .pointer (some b2)]] w (Done w g V zs E) := by
  have HC := hide hC
  have HZ := hide hz
  have hE := h.errOf
  clear hC h hz
  go_enter Try.func53, Try.ntmps53
  go_wp2_with fail
  refine (Err_of _ _ _ hE).mono ?_
  rintro e w1 ⟨rfl, rfl⟩
  go_wp2_with fail
  refine HC.out.mono ?_
  rintro e w1 ⟨v, er, rfl, hg, ⟨rfl, hE0, hV, hr⟩ | ⟨he, hE0, hzs, ys', hr⟩⟩
  · have H0 := hide hE0
    have HV := hide hV
    clear hE0 hV
    go_wp2_with fail
    go_ret
    exact ⟨v, rfl, HV.out, by rw [H0.out]; exact hr, hg⟩
  · have HE := hide he
    have HE2 := hide hE0
    have HS := hide hzs
    have hb : (er == 0) = false := by simpa using he
    have hb2 : (er != 0) = true := by simpa using he
    have HR := hide hr
    obtain ⟨A, n, c, p, xs, ⟨_, _, hc2, hf, hlt, _, _, _, _, _, _⟩, _⟩ := hr
    have hf2 := hf 2
    clear he hE0 hzs hf
    go_wp2_with fail
    go_ret
    refine ⟨_, rfl, HZ.out (by rw [HE2.out]; exact HE.out) _, ?_, only_setCell hg _ _⟩
    rw [HS.out, HE2.out]
    exact HR.out.note er HE.out
theorem skip_str {w : World} {q : Option Addr} {e : Int} (f : Value) (h : ErrOf w q e) (he : e ≠ 0) :
    Calls Try.prog 53 #[.pointer q, f] w fun x w' => x = .returned (.string .empty) ∧ w = w' := by
  have hb : (e == 0) = false := by simpa using he
  have hb2 : (e != 0) = true := by simpa using he
  clear he
  go_enter Try.func53, Try.ntmps53
  go_wp2_with fail
  refine (Err_of _ _ _ h).mono ?_
  rintro e w1 ⟨rfl, rfl⟩
  go_wp2_with fail
  go_ret
  exact ⟨rfl, rfl⟩

theorem read_count {w : World} {g : Nat} {ys : List Int} {V : World → Value → Prop} {zs : List Int} {E : Int} {b1 b2 : Addr} (h : CR w g ys 0) (hz : E ≠ 0 → ∀ W, V W (.int .i64 0))
    (hC : Calls Try.prog 60 #[.pointer (some b1), .pointer (some b2)] w (Next w g (.int .i64 0) V zs E)) :
    Calls Try.prog 59 #[.pointer (some ⟨g, 0, none⟩), .func (.func 60) #[] #[.pointer (some b1), .pointer (some b2)]] w (Done w g V zs E) := by
  have HC := hide hC
  have HZ := hide hz
  have hE := h.errOf
  clear hC h hz
  go_enter Try.func59, Try.ntmps59
  go_wp2_with fail
  refine (Err_of _ _ _ hE).mono ?_
  rintro e w1 ⟨rfl, rfl⟩
  go_wp2_with fail
  refine HC.out.mono ?_
  rintro e w1 ⟨v, er, rfl, hg, ⟨rfl, hE0, hV, hr⟩ | ⟨he, hE0, hzs, ys', hr⟩⟩
  · have H0 := hide hE0
    have HV := hide hV
    clear hE0 hV
    go_wp2_with fail
    go_ret
    exact ⟨v, rfl, HV.out, by rw [H0.out]; exact hr, hg⟩
  · have HE := hide he
    have HE2 := hide hE0
    have HS := hide hzs
    have hb : (er == 0) = false := by simpa using he
    have hb2 : (er != 0) = true := by simpa using he
    have HR := hide hr
    obtain ⟨A, n, c, p, xs, ⟨_, _, hc2, hf, hlt, _, _, _, _, _, _⟩, _⟩ := hr
    have hf2 := hf 2
    clear he hE0 hzs hf
    go_wp2_with fail
    go_ret
    refine ⟨_, rfl, HZ.out (by rw [HE2.out]; exact HE.out) _, ?_, only_setCell hg _ _⟩
    rw [HS.out, HE2.out]
    exact HR.out.note er HE.out
theorem skip_count {w : World} {q : Option Addr} {e : Int} (f : Value) (h : ErrOf w q e) (he : e ≠ 0) :
    Calls Try.prog 59 #[.pointer q, f] w fun x w' => x = .returned (.int .i64 0) ∧ w = w' := by
  have hb : (e == 0) = false := by simpa using he
  have hb2 : (e != 0) = true := by simpa using he
  clear he
  go_enter Try.func59, Try.ntmps59
  go_wp2_with fail
  refine (Err_of _ _ _ h).mono ?_
  rintro e w1 ⟨rfl, rfl⟩
  go_wp2_with fail
  go_ret
  exact ⟨rfl, rfl⟩

/-! ### the closures -/
theorem Byte1 {w : World} {g b : Nat} {ys : List Int} (h : CR w g ys 0) (hc : w.cell? ⟨b, 0, none⟩ = some (.pointer (some ⟨g, 0, none⟩))) :
    Calls Try.prog 45 #[.pointer (some ⟨b, 0, none⟩)] w (Next w g (.int .u8 0) (IsInt .u8 (aByte ys 0).1) (aByte ys 0).2.1 (aByte ys 0).2.2) := by
  rcases ys with _ | ⟨y, t⟩
  · have HC := hide (part_eof h 1 (by omega) (by simp) (by omega))
    have e : aByte [] 0 = (0, [], 4) := rfl
    rw [e]
    clear e
    go_enter Try.func45, Try.ntmps45
    go_wp2_with fail
    refine HC.out.mono ?_
    rintro e w1 ⟨rfl, hr, hg⟩
    go_wp2_with fail
    go_ret2
    exact next_err (by decide) hr hg
  · have HC := hide (part_ok h 1 (by simp))
    have e : aByte (y :: t) 0 = (y, t, 0) := rfl
    rw [e]
    clear e
    go_enter Try.func45, Try.ntmps45
    go_wp2_with fail
    refine HC.out.mono ?_
    rintro e w1 ⟨A', c', rfl, hc1, hc2, hrd, hr, hg⟩
    obtain ⟨bb, oo, rfl, _, hcell⟩ := hrd.cell (k := 0) (u := .int .u8 y) (by simp [u8s])
    have HH := hide hr
    simp only [Nat.add_zero] at hcell
    clear hrd hr
    go_wp2_with fail
    go_ret2
    exact next_ok rfl (by simpa using HH.out) hg

theorem Uint1 {w : World} {g b m : Nat} {ys : List Int} {most : Int} (h : CR w g ys 0) (hc : w.cell? ⟨b, 0, none⟩ = some (.pointer (some ⟨g, 0, none⟩))) (hm : w.cell? ⟨m, 0, none⟩ = some (.int .u64 most)) (hbm : b ≠ g ∧ m ≠ g ∧ b < w.heap.size ∧ m < w.heap.size) :
    Calls Try.prog 48 #[.pointer (some ⟨b, 0, none⟩), .pointer (some ⟨m, 0, none⟩)] w (Next w g (.int .u64 0) (IsInt .u64 (aUint ys 0 most).1) (aUint ys 0 most).2.1 (aUint ys 0 most).2.2) := by
  by_cases hE : nmE ys = 0
  · have HC := hide (number_ok h hE)
    by_cases hl : most < nmN ys
    · rw [aUint_lim hE hl]
      generalize nmN ys = N at *
      clear h hE
      go_enter Try.func48, Try.ntmps48
      go_wp2_with fail
      refine HC.out.mono ?_
      rintro e w1 ⟨rfl, hr, hg⟩
      have hm1 : w1.cell? ⟨m, 0, none⟩ = some (.int .u64 most) := (hg.cell_far ⟨m, 0, none⟩ hbm.2.2.2 (fun x => by injection x with x; exact hbm.2.1 x)).trans hm
      go_wp2_with fail
      go_ret2
      exact next_err (by decide) hr hg
    · rw [aUint_ok hE hl]
      generalize nmN ys = N at *
      clear h hE
      go_enter Try.func48, Try.ntmps48
      go_wp2_with fail
      refine HC.out.mono ?_
      rintro e w1 ⟨rfl, hr, hg⟩
      have hm1 : w1.cell? ⟨m, 0, none⟩ = some (.int .u64 most) := (hg.cell_far ⟨m, 0, none⟩ hbm.2.2.2 (fun x => by injection x with x; exact hbm.2.1 x)).trans hm
      go_wp2_with fail
      go_ret2
      exact next_ok rfl hr hg
  · have HC := hide (number_err h hE)
    rw [aUint_err most hE]
    have hb : (nmE ys == 0) = false := by simpa using hE
    have hb2 : (nmE ys != 0) = true := by simpa using hE
    have HE := hide hE
    generalize nmE ys = E at *
    clear h hE
    go_enter Try.func48, Try.ntmps48
    go_wp2_with fail
    refine HC.out.mono ?_
    rintro e w1 ⟨rfl, hr, hg⟩
    go_wp2_with fail
    go_ret2
    exact next_err HE.out hr hg

def aInt (ys : List Int) (e : Int) : Int × List Int × Int := (uz (aNum ys e).1, (aNum ys e).2.1, (aNum ys e).2.2)
theorem Int1 {w : World} {g b : Nat} {ys : List Int} (h : CR w g ys 0) (hc : w.cell? ⟨b, 0, none⟩ = some (.pointer (some ⟨g, 0, none⟩))) :
    Calls Try.prog 51 #[.pointer (some ⟨b, 0, none⟩)] w (Next w g (.int .i64 0) (IsInt .i64 (aInt ys 0).1) (aInt ys 0).2.1 (aInt ys 0).2.2) := by
  unfold aInt
  by_cases hE : nmE ys = 0
  · have HC := hide (number_ok h hE)
    obtain ⟨hn0, hn1, _⟩ := nm_ok h.byt hE
    rw [aNum_ok hE]
    generalize nmN ys = N at *
    clear h hE
    go_enter Try.func51, Try.ntmps51
    go_wp2_with fail
    refine HC.out.mono ?_
    rintro e w1 ⟨rfl, hr, hg⟩
    go_wp2_with fail
    refine (Unzigzag_any N _ hn0 hn1).mono ?_
    rintro e w2 ⟨rfl, rfl⟩
    go_wp2_with fail
    go_ret2
    exact next_ok rfl hr hg
  · have HC := hide (number_err h hE)
    rw [aNum_err hE]
    have HE := hide hE
    generalize nmE ys = E at *
    clear h hE
    go_enter Try.func51, Try.ntmps51
    go_wp2_with fail
    refine HC.out.mono ?_
    rintro e w1 ⟨rfl, hr, hg⟩
    go_wp2_with fail
    refine (Unzigzag_any 0 _ (by omega) (by omega)).mono ?_
    rintro e w2 ⟨rfl, rfl⟩
    go_wp2_with fail
    go_ret2
    exact next_err HE.out hr hg
end Go.Proofs.Ytakjlomgkbloeaa
