/- The key of a type: keyOf, and what the map's laws ask of such a key. -/
import Derived.Test.YtagnikaghhobjaaTypE
import Derived.Test.YtagnikaghhobjaaOwn
import Derived.Test.YtagnikaghhobjaaAppend
import Derived.Maps.OwnSet
import Derived.Maps.RangeWalk
import Derived.DeepKeys5
set_option linter.unusedVariables false
namespace Go.Proofs.Ytagnikaghhobjaa
open Go.RowKit

/-- the two bytes of each number -/
def kb (fs : List Int) : List Int := fs.flatMap fun f => [f % 256, f / 256 % 256]
theorem kb_len (fs : List Int) : (kb fs).length = 2 * fs.length := by
  induction fs with
  | nil => rfl
  | cons f fs ih => unfold kb at ih ⊢; rw [List.flatMap_cons, List.length_append, ih]; simp; omega
theorem kb_byt (fs : List Int) : Byt (kb fs) := by
  intro y hy
  obtain ⟨f, _, h⟩ := List.mem_flatMap.1 hy
  simp only [List.mem_cons, List.not_mem_nil, or_false] at h
  rcases h with rfl | rfl <;> omega
theorem kb_inj : ∀ {fs gs : List Int}, (∀ f ∈ fs, 0 ≤ f ∧ f < 65536) → (∀ f ∈ gs, 0 ≤ f ∧ f < 65536) → kb fs = kb gs → fs = gs
  | [], [], _, _, _ => rfl
  | [], g :: gs, _, _, h => by simp [kb] at h
  | f :: fs, [], _, _, h => by simp [kb] at h
  | f :: fs, g :: gs, hf, hg, h => by
    have e : ∀ x (xs : List Int), kb (x :: xs) = x % 256 :: x / 256 % 256 :: kb xs := fun _ _ => rfl
    rw [e, e] at h
    injection h with h1 h2
    injection h2 with h2 h3
    have a := hf f (by simp)
    have b := hg g (by simp)
    rw [kb_inj (fun x hx => hf x (by simp [hx])) (fun x hx => hg x (by simp [hx])) h3, show f = g by omega]
theorem kb_up {fs : List Int} {j : Nat} {a : Int} (h : fs[j]? = some a) : kb (fs.take (j + 1)) = kb (fs.take j) ++ [a % 256, a / 256 % 256] := by
  rw [List.take_add_one, h]; simp [kb]

/-- the key of a type -/
abbrev keyV (t : Ty) : Value := .agg #[.int .i64 t.kind, .int .i64 t.region, .int .i64 t.elem, .bool t.mut_, .string (strOfNums (kb t.fields))]
/-- .. as a string of the reader's -/
def keyL (t : Ty) : Lit := .string (keyBytes [.int .i64 t.kind, .int .i64 t.region, .int .i64 t.elem, .bool t.mut_, .string (strOfNums (kb t.fields)).data.toList])

theorem ownsRow_shape {w : World} {base : Nat} {e : TypeId} {size n : Nat} {v : Value} {xs : List Value} (h : w.ownsRow base e size v n xs) : ∃ A c, v = .slice A n c ∧ n ≤ c ∧ c ≤ maxLen := by
  rcases h.2 with ⟨rfl, h0⟩ | ⟨g, cap, cur, rfl, _, _, h1, h2, _⟩
  · exact ⟨none, 0, by rw [h0], by omega, Nat.zero_le _⟩
  · exact ⟨_, _, rfl, h1, h2⟩
theorem shr8 {a : Int} (h0 : 0 ≤ a) (h1 : a < 65536) : IntKind.u8.wrap (a / 2 ^ 8) = a / 256 % 256 := by rw [wrapU8]; rfl

/-! ### the map of keys -/
theorem int_law : Go.Maps.Keyed Try.prog 3 := Go.Maps.int_keyed Try.underlying3

theorem strOfNums_size (xs : List Int) : (strOfNums xs).size = xs.length := by simp [strOfNums, ByteArray.size]

section
variable {P : Program} {d : Nat} {t : TypeId}
theorem keyLits_int {q : IntKind} (hu : P.underlying t = some (.int q)) {n : Int} (hw : (Lit.int q n).wf = true) : P.keyLits (d + 1) t [.int q n] = some [.int q n] := by
  simp [Program.keyLits, hu, hw]
theorem keyLits_bool (hu : P.underlying t = some .bool) (b : Bool) : P.keyLits (d + 1) t [.bool b] = some [.bool b] := by
  simp [Program.keyLits, hu]
theorem keyLits_str (hu : P.underlying t = some .string) {s : ByteArray} (hs : s.size ≤ maxLen) : P.keyLits (d + 1) t [.string s] = some [.string s.data.toList] := by
  simp [Program.keyLits, hu, hs]
theorem keyOf_struct {k : TypeId} {fs : Array Field} {cs : List Value} {ls : List Lit} (hu : P.underlying k = some (.struct fs)) (hk : P.keyType k = true) (hsz : cs.length = P.cellsOf k) (hl : P.keyLits (P.types.size + 1) k cs = some ls) : keyOf P k (.agg cs.toArray) = some (.string (keyBytes ls)) := by
  simp [keyOf, hu, hk, Value.formed, hsz, Value.cells, hl]
theorem keyLits_struct {fs : Array Field} {cs : List Value} (hu : P.underlying t = some (.struct fs)) (hsz : cs.length = P.cellsOf t) (hn : fs.all (·.name != "_") = true) : P.keyLits (d + 1) t cs = (fs.toList.mapM fun f => P.keyLits d f.type ((cs.drop f.offset).take (P.cellsOf f.type))).map List.flatten := by
  conv => lhs; unfold Program.keyLits
  simp only [hu]
  rw [if_pos ⟨hsz, hn⟩]
end

theorem keyL_key {t : Ty} : Go.WideAt.IsKeyLit (keyL t) := trivial
end Go.Proofs.Ytagnikaghhobjaa
