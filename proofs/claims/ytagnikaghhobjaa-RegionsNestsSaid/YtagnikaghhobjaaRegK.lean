/- A map whose keys are pairs: which pairs have been compared. -/
import Derived.Test.YtagnikaghhobjaaPairs
import Derived.Test.YtagnikaghhobjaaTypH
set_option linter.unusedVariables false
namespace Go.Proofs.Ytagnikaghhobjaa
open Go.RowKit

theorem keyTypeP : Try.prog.keyType 31 = true := by kernel_rfl
theorem pair_law : Go.Maps.Keyed Try.prog 31 := Go.Maps.Keyed.of_law (deep_law_gate (by kernel_rfl) (of_decide_eq_true (by kernel_rfl)) (of_decide_eq_true (by kernel_rfl)) keyTypeP (by rw [Try.underlying31]))
theorem mapPair : Try.prog.underlying 68 = some (.map 31 4) := Try.underlying68
def keyP (p : Pr) : Lit := .string (keyBytes [.int .i64 p.1, .int .i64 p.2])
section
variable {P : Program} {d : Nat} {t : TypeId}
theorem keyOf_arr {k : TypeId} {n : Nat} {e : TypeId} {cs : List Value} {ls : List Lit} (hu : P.underlying k = some (.array n e)) (hk : P.keyType k = true) (hsz : cs.length = P.cellsOf k) (hl : P.keyLits (P.types.size + 1) k cs = some ls) : keyOf P k (.agg cs.toArray) = some (.string (keyBytes ls)) := by
  simp [keyOf, hu, hk, Value.formed, hsz, Value.cells, hl]
theorem keyLits_arr {n : Nat} {e : TypeId} {cs : List Value} (hu : P.underlying t = some (.array n e)) (hsz : cs.length = P.cellsOf t) : P.keyLits (d + 1) t cs = ((List.range n).mapM fun i => P.keyLits d e ((cs.drop (i * P.cellsOf e)).take (P.cellsOf e))).map List.flatten := by
  conv => lhs; unfold Program.keyLits
  simp only [hu]
  rw [if_pos hsz]
theorem keyLits_num {q : IntKind} (hu : P.underlying t = some (.int q)) {n : Int} (hw : (Lit.int q n).wf = true) : P.keyLits (d + 1) t [.int q n] = some [.int q n] := by
  simp [Program.keyLits, hu, hw]
end
theorem keyOf_pair {p : Pr} (h : IntP p) : keyOf Try.prog 31 (aggP p) = some (keyP p) := by
  have c1 : Try.prog.cellsOf 3 = 1 := by kernel_rfl
  have c4 : Try.prog.cellsOf 31 = 2 := by kernel_rfl
  have hp : ∃ d, Try.prog.types.size = d + 1 := ⟨Try.prog.types.size - 1, by have h : 0 < Try.prog.types.size := of_decide_eq_true (by kernel_rfl); omega⟩
  obtain ⟨d, hd⟩ := hp
  refine keyOf_arr (cs := [.int .i64 p.1, .int .i64 p.2]) Try.underlying31 keyTypeP (by rw [c4]; rfl) ?_
  rw [keyLits_arr Try.underlying31 (by rw [c4]; rfl), hd]
  simp only [show List.range 2 = [0, 1] from rfl, List.mapM_cons, List.mapM_nil, c1]
  simp [keyLits_num Try.underlying3 (wf_i64 h.1), keyLits_num Try.underlying3 (wf_i64 h.2)]
theorem keyP_inj {p q : Pr} (hp : IntP p) (hq : IntP q) (h : keyP p = keyP q) : p = q := by
  have h1 := keyOf_pair hp
  rw [h] at h1
  have h2 := pair_law.inj h1 (keyOf_pair hq)
  injection h2 with h2
  have h3 := congrArg Array.toList h2
  simp only [List.cons.injEq, and_true, Value.int.injEq, true_and] at h3
  exact Prod.ext h3.1 h3.2
theorem keyP_key {p : Pr} : Go.WideAt.IsKeyLit (keyP p) := trivial

/-- the map of the pairs M -/
def PrM (b : Nat) (M : List Pr) (w : World) : Prop := ∃ m Dm, w.ownsMap (H := Unit) Try.prog 31 (plainElem Try.prog 4) b m Dm ∧ m ≤ M.length ∧
  (∀ p, IntP p → (Maps.has Dm (keyP p) = true ↔ p ∈ M)) ∧ ∀ p, Maps.has Dm (keyP p) = true → ∀ z, Dm.atKey (keyP p) z = .lit (.bool true)
theorem PrM.block {b : Nat} {M : List Pr} {w w' : World} (h : PrM b M w) (hb : w'.heap[b]? = w.heap[b]?) : PrM b M w' := by
  obtain ⟨m, Dm, h1, h2⟩ := h
  exact ⟨m, Dm, owns_block h1 hb, h2⟩
theorem PrM.look {b : Nat} {M : List Pr} {w : World} (h : PrM b M w) {p : Pr} (hp : IntP p) {v : Bool} (hv0 : decide (p ∈ M) = v) : (Instr.lookup 68 (.map (some b)) (aggP p) false).run Try.prog w = .ok (.bool v) w := by
  obtain ⟨m, Dm, h1, _, h3, h4⟩ := h
  obtain ⟨u, ps, hrun, hv⟩ := h1.lookup pair_law mapPair (zeroB w) (zd := .lit (.bool false)) (zp := []) (plainElem_bool Try.underlying4 false) (keyOf_pair hp)
  rw [hrun, ← hv0]
  cases hh : Maps.has Dm (keyP p)
  · rw [Maps.atKey_of_not_has hh] at hv
    obtain ⟨c, rfl, hc⟩ := plainElem_bool_inv Try.underlying4 hv
    injection hc with hc _
    injection hc with hc
    injection hc with hc
    have hn : ¬ p ∈ M := fun h => by rw [(h3 p hp).2 h] at hh; cases hh
    rw [decide_eq_false hn, hc]
  · rw [h4 p hh] at hv
    obtain ⟨c, rfl, hc⟩ := plainElem_bool_inv Try.underlying4 hv
    injection hc with hc _
    injection hc with hc
    injection hc with hc
    rw [decide_eq_true ((h3 p hp).1 hh), hc]
theorem PrM.put {b : Nat} {M : List Pr} {w w' : World} {m : Nat} {Dm : DataW Unit} {p : Pr} (hbd : ∀ q ∈ M, IntP q) (h1 : w.ownsMap (H := Unit) Try.prog 31 (plainElem Try.prog 4) b m Dm) (h2 : m ≤ M.length)
    (h3 : ∀ p, IntP p → (Maps.has Dm (keyP p) = true ↔ p ∈ M)) (h4 : ∀ p, Maps.has Dm (keyP p) = true → ∀ z, Dm.atKey (keyP p) z = .lit (.bool true)) (hp : IntP p)
    (hw : w'.ownsMap (H := Unit) Try.prog 31 (plainElem Try.prog 4) b (m + 1) (Dm.put (keyP p) (.lit (.bool true)))) : PrM b (M ++ [p]) w' := by
  have hm : Maps.IsMap Dm := ⟨_, (h1.entries pair_law).choose_spec.1⟩
  refine ⟨m + 1, _, hw, by simp; omega, fun u hu => ?_, fun u hh z => ?_⟩
  · by_cases hut : u = p
    · subst hut
      rw [Maps.has_put_same hm keyP_key]
      simp
    · have hne : keyP u ≠ keyP p := fun e => hut (keyP_inj hu hp e)
      rw [Maps.has_put_other hne, h3 u hu]
      simp [hut]
  · by_cases hut : keyP u = keyP p
    · rw [hut]
      exact Maps.atKey_put_same hm keyP_key _ z
    · rw [Maps.has_put_other hut] at hh
      exact (Maps.atKey_put_other hut _ z).trans (h4 u hh z)
theorem PrM.made (w : World) : PrM w.heap.size [] (w.alloc (.map #[] 0)) :=
  ⟨0, .map [], World.ownsMap_made (H := Unit) w Try.prog 31 (plainElem Try.prog 4), Nat.le_refl _, fun p _ => by simp [Maps.has], fun p h => by simp [Maps.has] at h⟩
end Go.Proofs.Ytagnikaghhobjaa
