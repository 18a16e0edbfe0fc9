/- A property of a type, given a function that tells it of its parts: depth, copyable, and the visit that notes regions. -/
import Derived.Test.YtphfiohjkjipiaaTypP
import Derived.Test.YtphfiohjkjipiaaTurn
set_option linter.unusedVariables false
namespace Go.Proofs.Ytphfiohjkjipiaa
open Go.RowKit

/-- A function value that is called with the parts ps: what it returns, what it does to the state J, which blocks it turns. -/
structure Visits (K : FuncId) (caps : Array Value) (ret : Int → Value) (ps : List Int) (w0 : World) (S : Nat → Prop) (J : World → (Int → Prop) → Prop) (men : Int → Int → Prop) : Prop where
  enter : ∀ (args : Array Value) (w : World), (callFunc K args).run Try.prog w = .ok (.enter K args) w
  call : ∀ p ∈ ps, ∀ w D, Turn S w0 w → J w D → Calls Try.prog K (#[.int .i64 p] ++ caps) w fun e w' => e = .returned (ret p) ∧ J w' (fun r => D r ∨ men p r) ∧ Turn S w w'
theorem Visits.later {K : FuncId} {caps : Array Value} {ret : Int → Value} {ps : List Int} {w0 w1 : World} {S : Nat → Prop} {J : World → (Int → Prop) → Prop} {men : Int → Int → Prop} (h : Visits K caps ret ps w0 S J men) (ht : Turn S w0 w1) : Visits K caps ret ps w1 S J men :=
  ⟨h.enter, fun p hp w D hw => h.call p hp w D (ht.trans hw)⟩

/-- 'parts' says where the slice lies, too -/
def PartsF (w : World) (x : TyW) (e : Ending) (w' : World) : Prop := ∃ A n c, e = .returned (.slice A n c) ∧ n ≤ c ∧ c ≤ maxLen ∧ (tyParts x.t).length = n ∧ Rd w' w'.heap.size A n (i64s (tyParts x.t)) ∧ Below w.heap.size w w' ∧ ∀ b o, A = some ⟨b, o, none⟩ → (x.A = some ⟨b, o, none⟩ ∧ x.n = n) ∨ w.heap.size ≤ b
/-- what has been added behind the first j parts -/
def upTo (D : Int → Prop) (ps : List Int) (men : Int → Int → Prop) (j : Nat) : Int → Prop := fun r => D r ∨ ∃ p ∈ ps.take j, men p r
theorem upTo_zero (D : Int → Prop) (ps : List Int) (men : Int → Int → Prop) : upTo D ps men 0 = D := by
  funext r; simp [upTo]
theorem upTo_succ (D : Int → Prop) {ps : List Int} (men : Int → Int → Prop) {j : Nat} {p : Int} (h : ps[j]? = some p) : (fun r => upTo D ps men j r ∨ men p r) = upTo D ps men (j + 1) := by
  funext r
  unfold upTo
  rw [List.take_add_one, h]
  simp only [Option.toList_some, List.mem_append, List.mem_singleton, eq_iff_iff]
  constructor
  · rintro ((h | ⟨q, hq, h⟩) | h)
    · exact .inl h
    · exact .inr ⟨q, .inl hq, h⟩
    · exact .inr ⟨p, .inr rfl, h⟩
  · rintro (g | ⟨q, hq | rfl, g⟩)
    · exact .inl (.inl g)
    · exact .inl (.inr ⟨q, hq, g⟩)
    · exact .inr g
theorem upTo_all (D : Int → Prop) (ps : List Int) (men : Int → Int → Prop) {j : Nat} (h : ps.length ≤ j) : upTo D ps men j = fun r => D r ∨ ∃ p ∈ ps, men p r := by
  unfold upTo; rw [List.take_of_length_le h]

/-- the greatest of the first j -/
def maxTo (ps : List Int) (d : Int → Int) (j : Nat) : Int := ((ps.take j).map d).foldl max 0
theorem maxTo_succ {ps : List Int} (d : Int → Int) {j : Nat} {p : Int} (h : ps[j]? = some p) : maxTo ps d (j + 1) = max (maxTo ps d j) (d p) := by
  unfold maxTo; rw [List.take_add_one, h]; simp
theorem maxTo_bd {ps : List Int} {d : Int → Int} (hd : ∀ p ∈ ps, 0 ≤ d p ∧ d p ≤ 65535) (j : Nat) : 0 ≤ maxTo ps d j ∧ maxTo ps d j ≤ 65535 := by
  obtain ⟨h1, _, h3⟩ := foldMax_le ((ps.take j).map d) 0
  refine ⟨h1, ?_⟩
  unfold maxTo
  rcases h3 with h3 | h3
  · rw [h3]; omega
  · obtain ⟨p, hp, e⟩ := List.mem_map.1 h3
    rw [← e]
    exact (hd p (List.mem_of_mem_take hp)).2

/-- what 'copyable' answers, given what it is told of the parts -/
def copV (t : Ty) (cp : Int → Bool) : Bool := if t.kind = 3 then !t.mut_ else (tyParts t).all cp

section
variable (x : TyW) (K : FuncId) (caps : Array Value) (w : World) (hx : OneT w w.heap.size x) (S : Nat → Prop) (J : World → (Int → Prop) → Prop) (men : Int → Int → Prop) (D : Int → Prop)
  (hst : ∀ w w' D, J w D → Below w.heap.size w w' → J w' D) (hJ : J w D) (hfar : 0 < x.n → ∀ b o, x.A = some ⟨b, o, none⟩ → ¬ S b) (hS : ∀ k, S k → k < w.heap.size)
include hx hst hJ hfar hS

end
end Go.Proofs.Ytphfiohjkjipiaa
