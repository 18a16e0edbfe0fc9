/- What the laws of layer 5 share. -/
import Derived.Test.YtbkgooeghmaokaaAlive05
import Derived.Test.YtbkgooeghmaokaaOpenT
set_option linter.unusedVariables false
namespace Go.Proofs.Ytbkgooeghmaokaa
open Go.RowKit

theorem run_geq {P : Program} {t : TypeId} {a b : ByteArray} {v : Bool} (h : ltS a b = !v) (w : World) : (binOp .geq t (.string a) (.string b)).run P w = .ok (.bool v) w := by
  have e : (!Op.bytesLess a.toList b.toList) = v := by rw [ltS_def, h]; simp
  rw [← e]
  simp [binOp, Op.stringOp]
theorem small_all {L : List ByteArray} (h : bigS L = false) : L.length ≤ 8000 := by
  have h1 := of_decide_eq_false h
  have := len_sumS L
  omega
theorem long_is {b : Bool} {A : Option Addr} {n c : Nat} {L : List ByteArray} (hb : bigS L = b) (w : World) (hA : ArgT w A n c L) :
    Calls Try.prog 11 #[.slice A n c] w fun x w' => x = .returned (.bool b) ∧ w = w' :=
  hb ▸ long_any A n c L w hA.rd hA.sz (Nat.le_trans hA.nc hA.cm)
/-- 'len' by a variable -/
theorem Len_var {w : World} {g m : Nat} {L : List ByteArray} (h : Tab w g L) (hm : L.length = m) :
    Calls Try.prog 17 #[.pointer (some ⟨g, 0, none⟩)] w fun e w' => e = .returned (.int .i64 (m : Int)) ∧ w = w' := hm ▸ Len_any h
/-- 'list' by a variable -/
theorem list_var {w : World} {g m : Nat} {L : List ByteArray} (h : Tab w g L) (hm : L.length = m) (hn : m ≤ 9000) :
    Calls Try.prog 19 #[.pointer (some ⟨g, 0, none⟩), .int .i64 9000] w fun e w' => ∃ A c, e = .returned (.slice A m c) ∧ m ≤ c ∧ c ≤ maxLen ∧ Rd w' w'.heap.size A m (sV L) ∧ Below w.heap.size w w' := by
  subst hm
  refine (list_any h hn).mono ?_
  rintro e w' ⟨v, rfl, ho, hb⟩
  obtain ⟨A, c, rfl, h1, h2⟩ := ownsRow_slice ho
  exact ⟨A, c, rfl, h1, h2, Rd.of_own ho, hb⟩
/-- Encode, its result's length a variable -/
theorem Encode_var {w : World} {g : Nat} {L : List ByteArray} (h : Tab w g L) (hi : Idents L) (hn : L.length ≤ 8000) :
    Calls Try.prog 20 #[.pointer (some ⟨g, 0, none⟩)] w fun e w' => ∃ A n c, e = .returned (.slice A n c) ∧ n ≤ c ∧ c ≤ maxLen ∧ w'.ownsRow w.heap.size 5 1 (.slice A n c) n (u8s (encT L)) ∧ Below w.heap.size w w' := by
  refine (Encode_any h (fun s hs => (identB_size (hi s hs)).2) hn).mono ?_
  rintro e w' ⟨v, rfl, ho, hb⟩
  obtain ⟨A, n, c, rfl, h1, h2, _, h4, _⟩ := ho.var
  exact ⟨A, n, c, rfl, h1, h2, h4, hb⟩
end Go.Proofs.Ytbkgooeghmaokaa
