/- The key of a type: keyOf, and what the map's laws ask of such a key. -/
import Derived.Test.YtkcgonggokhneaaTypE
import Derived.Test.YtkcgonggokhneaaOwn
import Derived.Test.YtkcgonggokhneaaAppend
import Derived.Maps.OwnSet
import Derived.Maps.RangeWalk
import Derived.DeepKeys5
set_option linter.unusedVariables false
namespace Go.Proofs.Ytkcgonggokhneaa
open Go.RowKit

/-- the two bytes of each number -/
def kb (fs : List Int) : List Int := fs.flatMap fun f => [f % 256, f / 256 % 256]
theorem kb_len (fs : List Int) : (kb fs).length = 2 * fs.length := by
  induction fs with
  | nil => rfl
  | cons f fs ih => unfold kb at ih ⊢; rw [List.flatMap_cons, List.length_append, ih]; simp; omega
theorem kb_byt (fs : List Int) : Byt (kb fs) := by
  intro y hy
  obtain ⟨f, _, h⟩ := List.mem_flatMap.1 hy
  simp only [List.mem_cons, List.not_mem_nil, or_false] at h
  rcases h with rfl | rfl <;> omega
theorem kb_inj : ∀ {fs gs : List Int}, (∀ f ∈ fs, 0 ≤ f ∧ f < 65536) → (∀ f ∈ gs, 0 ≤ f ∧ f < 65536) → kb fs = kb gs → fs = gs
  | [], [], _, _, _ => rfl
  | [], g :: gs, _, _, h => by simp [kb] at h
  | f :: fs, [], _, _, h => by simp [kb] at h
  | f :: fs, g :: gs, hf, hg, h => by
    have e : ∀ x (xs : List Int), kb (x :: xs) = x % 256 :: x / 256 % 256 :: kb xs := fun _ _ => rfl
    rw [e, e] at h
    injection h with h1 h2
    injection h2 with h2 h3
    have a := hf f (by simp)
    have b := hg g (by simp)
    rw [kb_inj (fun x hx => hf x (by simp [hx])) (fun x hx => hg x (by simp [hx])) h3, show f = g by omega]
theorem kb_up {fs : List Int} {j : Nat} {a : Int} (h : fs[j]? = some a) : kb (fs.take (j + 1)) = kb (fs.take j) ++ [a % 256, a / 256 % 256] := by
  rw [List.take_add_one, h]; simp [kb]

/-- the key of a type -/
abbrev keyV (t : Ty) : Value := .agg #[.int .i64 t.kind, .int .i64 t.region, .int .i64 t.elem, .bool t.mut_, .string (strOfNums (kb t.fields))]
/-- .. as a string of the reader's -/
def keyL (t : Ty) : Lit := .string (keyBytes [.int .i64 t.kind, .int .i64 t.region, .int .i64 t.elem, .bool t.mut_, .string (strOfNums (kb t.fields)).data.toList])

theorem ownsRow_shape {w : World} {base : Nat} {e : TypeId} {size n : Nat} {v : Value} {xs : List Value} (h : w.ownsRow base e size v n xs) : ∃ A c, v = .slice A n c ∧ n ≤ c ∧ c ≤ maxLen := by
  rcases h.2 with ⟨rfl, h0⟩ | ⟨g, cap, cur, rfl, _, _, h1, h2, _⟩
  · exact ⟨none, 0, by rw [h0], by omega, Nat.zero_le _⟩
  · exact ⟨_, _, rfl, h1, h2⟩
theorem shr8 {a : Int} (h0 : 0 ≤ a) (h1 : a < 65536) : IntKind.u8.wrap (a / 2 ^ 8) = a / 256 % 256 := by rw [wrapU8]; rfl

set_option maxHeartbeats 1000000 in
set_option maxRecDepth 100000 in
theorem keyOf_any (x : TyW) (w : World) (hx : OneT w w.heap.size x) (hf : ∀ f ∈ x.t.fields, 0 ≤ f ∧ f < 65536) (hn : x.n ≤ 65535) :
    Calls Try.prog 28 #[aggT x] w fun e w' => e = .returned (keyV x.t) ∧ Below w.heap.size w w' := by
  obtain ⟨i0, hi, hz0, hz1, hz2⟩ := info_parts infoU8
  have hok := hx.ok
  obtain ⟨⟨k, m, r, el, fs⟩, A, n, c⟩ := x
  have HB := hide (two_alloc w (.cells #[.int .i64 k, .bool m, .int .i64 r, .int .i64 el, .slice A n c] 31) (.cells #[.int .i64 0, .int .i64 0, .int .i64 0, .bool false, .string .empty] 49))
  have HX := hide (hx.rd.below HB.out)
  have hl : fs.length = n := hok.len
  have HL := hide hl
  have HF := hide hf
  simp only [] at hn
  clear hx hok hl hf
  go_enter Try.func28, Try.ntmps28
  go_wp2_with (at_make; refine wpList_make_own _ rfl _ _ _ rfl (w.heap.size + 2) 5 i0 _ 1 Try.underlying62 hi hz0 hz1 .i64 .i64 _ (2 * n) rfl rfl (by simp) (by rw [hz2]; omega) (by unfold maxLen; omega) (by simp) ?_; intro w1 hown1 hg1; have HB1 := hide ((Below.refl (w.heap.size + 2) ((w.alloc (.cells #[.int .i64 k, .bool m, .int .i64 r, .int .i64 el, .slice A n c] 31)).alloc (.cells #[.int .i64 0, .int .i64 0, .int .i64 0, .bool false, .string .empty] 49))).grown hg1 (by simp) (fun _ h => by cases h)); have HO1 : Hid (w1.ownsRow (w.heap.size + 2) 5 1 (.slice (some ⟨w.heap.size + 1 + 1, 0, none⟩) 0 (2 * n)) 0 []) := (by have h := hown1; simp only [World.size_alloc] at h; exact h); have d4 : w1.cell? ⟨w.heap.size, 4, none⟩ = some (.slice A n c) := (HB1.out.cell (p := ⟨w.heap.size, 4, none⟩) (by simp)).trans (by simp [go_sem]); clear hown1 hg1)
  go_loopw [3, 14] (fun v i wr => ∃ j : Nat, i = .int .i64 (j : Int) ∧ j ≤ n ∧ wr.ownsRow (w.heap.size + 2) 5 1 v (2 * j) (u8s (kb (fs.take j))) ∧ Below (w.heap.size + 2) ((w.alloc (.cells #[.int .i64 k, .bool m, .int .i64 r, .int .i64 el, .slice A n c] 31)).alloc (.cells #[.int .i64 0, .int .i64 0, .int .i64 0, .bool false, .string .empty] 49)) wr) (fun _ i _ => n - (intOf i).toNat)
  case atStart => exact ⟨0, rfl, Nat.zero_le _, HO1.out, HB1.out⟩
  case round =>
    obtain ⟨j, rfl, hj, hown, hb⟩ := hrel
    have HO := hide hown
    have HB2 := hide hb
    have hsz := hb.size
    simp only [World.size_alloc] at hsz
    have hlt0 : w.heap.size < wr.heap.size := by omega
    have hlt1 : w.heap.size + 1 < wr.heap.size := by omega
    have e0 : wr.cell? ⟨w.heap.size, 0, none⟩ = some (.int .i64 k) := (hb.cell (p := ⟨w.heap.size, 0, none⟩) (by simp)).trans (by simp [go_sem])
    have e1 : wr.cell? ⟨w.heap.size, 1, none⟩ = some (.bool m) := (hb.cell (p := ⟨w.heap.size, 1, none⟩) (by simp)).trans (by simp [go_sem])
    have e2 : wr.cell? ⟨w.heap.size, 2, none⟩ = some (.int .i64 r) := (hb.cell (p := ⟨w.heap.size, 2, none⟩) (by simp)).trans (by simp [go_sem])
    have e3 : wr.cell? ⟨w.heap.size, 3, none⟩ = some (.int .i64 el) := (hb.cell (p := ⟨w.heap.size, 3, none⟩) (by simp)).trans (by simp [go_sem])
    clear hb
    by_cases hlt : j < n
    · have hex : ∃ a, fs[j]? = some a := ⟨_, List.getElem?_eq_getElem (by have := HL.out; omega)⟩
      obtain ⟨a, ha⟩ := hex
      obtain ⟨g, o, rfl, hg, c0⟩ := (HX.out.keep (w' := wr) fun p hp => HB2.out.cell (by omega)).int ha
      have hlt' : (j : Int) < (n : Int) := by omega
      have hab := HF.out a (List.mem_of_getElem? ha)
      obtain ⟨ha0, ha1⟩ := hab
      have hU := kb_up ha
      rw [show a / 256 % 256 = a / 256 by omega] at hU
      have HU := hide hU
      clear ha hU
      go_wp2_with (at_builtin; refine wpList_append_rd _ rfl (.tmp 18) (.tmp 24) 62 rfl (w.heap.size + 2) 5 i0 (.int .u8 0) 1 Try.underlying62 hi hz0 hz1 hz2 rfl _ (2 * j) (u8s (kb (fs.take j))) rfl (HO.out.alloc _) (wr.heap.size + 1) _ 2 2 (u8s [a % 256, a / 256]) rfl (Rd_lit wr [a % 256, a / 256] 5) (ints_oneCell _ _) (by unfold maxLen; omega) (by omega) (by simp; omega) ?_; intro v3 w3 hown3 hg3 hat3; have HB3 := hide (below_app (HB2.out.alloc (by omega) _) (HO.out.alloc _) (by simp; omega) hg3); have HO3 := hide hown3; clear hg3 hat3 hown3)
      go_roundw
      case rel =>
        refine ⟨j + 1, by go_num, by omega, ?_, HB3.out⟩
        have h := HO3.out
        rw [← List.map_append, ← HU.out] at h
        exact h
      case measure => simp [intOf]; omega
    · obtain rfl : j = n := by omega
      obtain ⟨A2, c2, rfl, hnc, hcm⟩ := ownsRow_shape HO.out
      have hex : ∃ xs, xs = kb fs := ⟨_, rfl⟩
      obtain ⟨xs, hxs⟩ := hex
      have hr := Rd.of_own HO.out
      rw [List.take_of_length_le (by have := HL.out; omega), ← hxs] at hr
      have hcv := hr.convert (c := c2) 62 5 9 Try.underlying62 Try.underlying5 Try.underlying9
      have HXS := hide hxs
      have q0 : wr.cell? ⟨w.heap.size + 1, 0, none⟩ = some (.int .i64 0) := (HB2.out.cell (p := ⟨w.heap.size + 1, 0, none⟩) (by simp)).trans (by simp [go_sem])
      have q1 : wr.cell? ⟨w.heap.size + 1, 1, none⟩ = some (.int .i64 0) := (HB2.out.cell (p := ⟨w.heap.size + 1, 1, none⟩) (by simp)).trans (by simp [go_sem])
      have q2 : wr.cell? ⟨w.heap.size + 1, 2, none⟩ = some (.int .i64 0) := (HB2.out.cell (p := ⟨w.heap.size + 1, 2, none⟩) (by simp)).trans (by simp [go_sem])
      have q3 : wr.cell? ⟨w.heap.size + 1, 3, none⟩ = some (.bool false) := (HB2.out.cell (p := ⟨w.heap.size + 1, 3, none⟩) (by simp)).trans (by simp [go_sem])
      have q4 : wr.cell? ⟨w.heap.size + 1, 4, none⟩ = some (.string .empty) := (HB2.out.cell (p := ⟨w.heap.size + 1, 4, none⟩) (by simp)).trans (by simp [go_sem])
      have fz : ∀ j, wr.frozen? ⟨w.heap.size + 1, j, none⟩ = false := fun j => (HB2.out.frozen (p := ⟨w.heap.size + 1, j, none⟩) (by simp)).trans (by simp [go_sem])
      clear hxs hr hnc hcm
      go_wp2
      have hb5 := (((((HB.out.trans (HB2.out.mono (Nat.le_add_right _ _))).setCell (p := ⟨w.heap.size + 1, 0, none⟩) (Nat.le_succ _) (.int .i64 k)).setCell (p := ⟨w.heap.size + 1, 1, none⟩) (Nat.le_succ _) (.int .i64 r)).setCell (p := ⟨w.heap.size + 1, 2, none⟩) (Nat.le_succ _) (.int .i64 el)).setCell (p := ⟨w.heap.size + 1, 3, none⟩) (Nat.le_succ _) (.bool m)).setCell (p := ⟨w.heap.size + 1, 4, none⟩) (Nat.le_succ _) (.string (strOfNums xs))
      have hx : xs = kb fs := HXS.out
      subst hx
      exact bodyPost_ret (v := keyV ⟨k, m, r, el, fs⟩) (by simp [results, Try.results28, go_sem, q0, q1, q2, q3, q4]) rfl ⟨rfl, hb5⟩

/-! ### the map of keys -/
theorem keyTypeK : Try.prog.keyType 49 = true := by kernel_rfl
theorem seen_law : Go.Maps.Keyed Try.prog 49 := Go.Maps.Keyed.of_law (deep_law_gate (by kernel_rfl) (of_decide_eq_true (by kernel_rfl)) (of_decide_eq_true (by kernel_rfl)) keyTypeK (by rw [Try.underlying49]))
theorem int_law : Go.Maps.Keyed Try.prog 3 := Go.Maps.int_keyed Try.underlying3

theorem strOfNums_size (xs : List Int) : (strOfNums xs).size = xs.length := by simp [strOfNums, ByteArray.size]

section
variable {P : Program} {d : Nat} {t : TypeId}
theorem keyLits_int {q : IntKind} (hu : P.underlying t = some (.int q)) {n : Int} (hw : (Lit.int q n).wf = true) : P.keyLits (d + 1) t [.int q n] = some [.int q n] := by
  simp [Program.keyLits, hu, hw]
theorem keyLits_bool (hu : P.underlying t = some .bool) (b : Bool) : P.keyLits (d + 1) t [.bool b] = some [.bool b] := by
  simp [Program.keyLits, hu]
theorem keyLits_str (hu : P.underlying t = some .string) {s : ByteArray} (hs : s.size ≤ maxLen) : P.keyLits (d + 1) t [.string s] = some [.string s.data.toList] := by
  simp [Program.keyLits, hu, hs]
theorem keyOf_struct {k : TypeId} {fs : Array Field} {cs : List Value} {ls : List Lit} (hu : P.underlying k = some (.struct fs)) (hk : P.keyType k = true) (hsz : cs.length = P.cellsOf k) (hl : P.keyLits (P.types.size + 1) k cs = some ls) : keyOf P k (.agg cs.toArray) = some (.string (keyBytes ls)) := by
  simp [keyOf, hu, hk, Value.formed, hsz, Value.cells, hl]
theorem keyLits_struct {fs : Array Field} {cs : List Value} (hu : P.underlying t = some (.struct fs)) (hsz : cs.length = P.cellsOf t) (hn : fs.all (·.name != "_") = true) : P.keyLits (d + 1) t cs = (fs.toList.mapM fun f => P.keyLits d f.type ((cs.drop f.offset).take (P.cellsOf f.type))).map List.flatten := by
  conv => lhs; unfold Program.keyLits
  simp only [hu]
  rw [if_pos ⟨hsz, hn⟩]
end

theorem keyOf_key {t : Ty} (hk : IntR t.kind) (hr : IntR t.region) (he : IntR t.elem) (hf : t.fields.length ≤ 65535) : keyOf Try.prog 49 (keyV t) = some (keyL t) := by
  have hs : (strOfNums (kb t.fields)).size ≤ maxLen := by rw [strOfNums_size, kb_len]; unfold maxLen; omega
  have c1 : Try.prog.cellsOf 3 = 1 := by kernel_rfl
  have c2 : Try.prog.cellsOf 4 = 1 := by kernel_rfl
  have c3 : Try.prog.cellsOf 9 = 1 := by kernel_rfl
  have c4 : Try.prog.cellsOf 49 = 5 := by kernel_rfl
  have hp : ∃ d, Try.prog.types.size = d + 1 := ⟨Try.prog.types.size - 1, by have h : 0 < Try.prog.types.size := of_decide_eq_true (by kernel_rfl); omega⟩
  obtain ⟨d, hd⟩ := hp
  refine keyOf_struct Try.underlying49 keyTypeK (by rw [c4]; rfl) ?_
  rw [keyLits_struct Try.underlying49 (by rw [c4]; rfl) (by kernel_rfl), hd]
  simp only [List.mapM_cons, List.mapM_nil, c1, c2, c3]
  simp [keyLits_int Try.underlying3 (wf_i64 hk), keyLits_int Try.underlying3 (wf_i64 hr), keyLits_int Try.underlying3 (wf_i64 he), keyLits_bool Try.underlying4, keyLits_str Try.underlying9 hs]
theorem keyL_inj {t u : Ty} (hk : IntR t.kind) (hr : IntR t.region) (he : IntR t.elem) (hf : t.fields.length ≤ 65535) (hk' : IntR u.kind) (hr' : IntR u.region) (he' : IntR u.elem) (hf' : u.fields.length ≤ 65535)
    (ht : ∀ f ∈ t.fields, 0 ≤ f ∧ f < 65536) (hu : ∀ f ∈ u.fields, 0 ≤ f ∧ f < 65536) (h : keyL t = keyL u) : t = u := by
  have h1 := keyOf_key hk hr he hf
  rw [h] at h1
  have h2 := seen_law.inj h1 (keyOf_key hk' hr' he' hf')
  injection h2 with h2
  have h3 := congrArg Array.toList h2
  simp only [List.cons.injEq, and_true, Value.int.injEq, Value.bool.injEq, Value.string.injEq, true_and] at h3
  obtain ⟨a, b, c, d, e⟩ := h3
  exact Ty.ext' a d b c (kb_inj ht hu (strOfNums_inj (kb_byt _) (kb_byt _) e))
theorem keyL_key {t : Ty} : Go.WideAt.IsKeyLit (keyL t) := trivial
end Go.Proofs.Ytkcgonggokhneaa
