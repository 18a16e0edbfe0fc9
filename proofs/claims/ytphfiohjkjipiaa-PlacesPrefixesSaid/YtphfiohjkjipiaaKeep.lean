/- What the body of a loop over an iterator keeps of the iterator's own memory: the blocks of certain types. And a region that draws its order within a round. No program is named here. -/
import Derived.Test.YtphfiohjkjipiaaBase
import Derived.RangeFuncNested
import Derived.RangeFuncBound
import Derived.RangeFuncCalls
import Derived.RangeFuncLeaves
import Derived.RangeFuncWrites
import Derived.RangeFuncBox
import Derived.Deep.RegionHeld3
import Derived.OwnWalkIn
import Derived.OrdersIn
set_option linter.unusedVariables false
namespace Go.Proofs.Ytphfiohjkjipiaa
open Go.RowKit

/-- below n₀ nothing has turned, and no block of one of these types -/
def KeepT (n₀ : Nat) (Ts : List TypeId) (W W' : World) : Prop := Below n₀ W W' ∧ ∀ (t : TypeId) (B : Nat) (cs : Array Value) (fr : Nat × Nat), t ∈ Ts → W.heap[B]? = some (.cells cs t fr) → W'.heap[B]? = some (.cells cs t fr)
section
variable {n₀ : Nat} {Ts : List TypeId} {W W' W'' : World}
theorem KeepT.refl (n₀ : Nat) (Ts : List TypeId) (W : World) : KeepT n₀ Ts W W := ⟨Below.refl _ _, fun _ _ _ _ _ h => h⟩
theorem KeepT.trans (h : KeepT n₀ Ts W W') (k : KeepT n₀ Ts W' W'') : KeepT n₀ Ts W W'' := ⟨h.1.trans k.1, fun t B cs fr ht hB => k.2 t B cs fr ht (h.2 t B cs fr ht hB)⟩
theorem KeepT.of_below (h : Below W.heap.size W W') (hn : n₀ ≤ W.heap.size) : KeepT n₀ Ts W W' := ⟨h.mono hn, fun t B cs fr _ hB => (h.block B (Array.getElem?_eq_some_iff.1 hB).1).trans hB⟩
theorem KeepT.grown {row : Option Nat} (hg : W.grownBy W' row) (hn : n₀ ≤ W.heap.size) (hrow : ∀ k, row = some k → n₀ ≤ k ∧ ∃ cs t fr, W.heap[k]? = some (.cells cs t fr) ∧ t ∉ Ts) : KeepT n₀ Ts W W' :=
  ⟨(Below.refl n₀ W).grown hg hn (fun k e => (hrow k e).1), fun t B cs fr ht hB => (hg.block B (Array.getElem?_eq_some_iff.1 hB).1 (fun e => by
    obtain ⟨_, cs', t', fr', h1, h2⟩ := hrow B e.symm
    rw [hB] at h1
    injection h1 with h1
    injection h1 with _ h1 _
    exact h2 (h1 ▸ ht))).trans hB⟩
theorem KeepT.box {B : Nat} {t : TypeId} {v : Value} (h : Boxed W B t v) (hB : n₀ ≤ B) (ht : t ∉ Ts) (v' : Value) : KeepT n₀ Ts W (W.setCell ⟨B, 0, none⟩ v') :=
  KeepT.grown (grownBy_setCell' W B v') (Nat.le_trans hB (Nat.le_of_lt h.lt)) (fun k e => by cases e; exact ⟨hB, _, _, _, h, ht⟩)
theorem KeepT.row {base k n : Nat} {e : TypeId} {v : Value} {xs : List Value} (hg : W.grownBy W' v.ownBlock) (hown : W.ownsRow base e k v n xs) (hb : n₀ ≤ base) (hn : n₀ ≤ W.heap.size) (ht : e ∉ Ts) : KeepT n₀ Ts W W' :=
  KeepT.grown hg hn (fun q hq => by
    refine ⟨Nat.le_trans hb (hown.lt q hq).1, ?_⟩
    rcases hown.2 with ⟨rfl, _⟩ | ⟨g, cap, cur, rfl, _, hgg, _⟩
    · cases hq
    · have : g = q := by simpa [Value.ownBlock] using hq
      subst this
      exact ⟨_, _, _, hgg, ht⟩)
theorem keepT_t {A B C : World} (h : KeepT n₀ Ts A B) (k : KeepT n₀ Ts B C) : KeepT n₀ Ts A C := h.trans k
theorem keepT_b {w : World} (hn : n₀ ≤ w.heap.size) (W : World) (l : Nat) (o o' : Obj) (hl : w.heap.size ≤ l) (h : W.heap[l]? = some o) (hc : o.isCells = false) (hw : o.isWalk = false) : KeepT n₀ Ts W (W.putObj l o') :=
  ⟨belowK_b hn W l o o' hl h hc hw, fun t B cs fr ht hB => ((grownBy_putObj' W l o').block B (Array.getElem?_eq_some_iff.1 hB).1 (fun e => by
    injection e with e
    subst e
    rw [h] at hB
    injection hB with hB
    subst hB
    cases hc)).trans hB⟩
end
/-- new blocks alone -/
theorem grown_of_below {W W' : World} (h : Below W.heap.size W W') : W.grownBy W' none := ⟨h.os, h.tape, h.output, h.size, fun k hk _ => h.block k hk⟩
theorem cell_of_heap {W : World} {B : Nat} {cs : Array Value} {t : TypeId} {fr : Nat × Nat} (h : W.heap[B]? = some (.cells cs t fr)) (j : Nat) : W.cell? ⟨B, j, none⟩ = cs[j]? := cell_of_row W B j cs t fr h

/-! ### a region that draws its order, within a round -/
section
variable {P : Program} {l n : Nat} {Q : Exit → Act → World → Prop}
theorem rows_in {row : String} {args : Array Value} {w : World} {R : Value → World → Prop} (h : Rows P row args w R) : RowsIn (Fence.wide.inRound l) n P row args w R := fun c cs _ => by
  obtain ⟨v, w', hR, hs⟩ := h c cs
  exact ⟨v, w', hR, stepsIn_wide.2 hs⟩
theorem oper_in {o : Oper} {a : Act} {w : World} {K : Act → World → Prop} (hnd : ∀ c, o.op ≠ .defer c) (h : o.wp P a w K Q) : o.wpIn (Fence.wide.inRound l) n P a w K Q := by
  refine ⟨fun _ _ => trivial, ?_⟩
  rw [Oper.semAt_plain _ _ _ hnd]
  unfold Oper.wp at h
  generalize (execOp a.eval o).run P w = r at *
  rcases r with ⟨x, w'⟩ | ⟨x, w'⟩
  · cases x with
    | value v => exact h
    | skip => exact h
    | defer d => exact h
    | enter f args => exact ⟨(fun h' => by cases h'), CallsIn.inRound l (callsIn_wide.2 h)⟩
    | row r args => exact ⟨(fun h' => by cases h'), rows_in h⟩
    | round l f tmps assign body => exact (h : False).elim
    | _ => exact (h : False).elim
  · cases x with
    | panic v => exact h
    | _ => exact (h : False).elim
def noDefer (ops : Array Oper) : Bool := ops.all fun o => match o.op with | .defer _ => false | _ => true
theorem noDefer_at {ops : Array Oper} (h : noDefer ops = true) {i : Nat} {o : Oper} (hi : ops[i]? = some o) : ∀ c, o.op ≠ .defer c := by
  intro c hc
  unfold noDefer at h
  rw [Array.all_eq_true] at h
  obtain ⟨hlt, he⟩ := Array.getElem?_eq_some_iff.1 hi
  have := h i hlt
  rw [he, hc] at this
  cases this
theorem wpAny_in {md : Region.Mode} {ops : Array Oper} (hnd : noDefer ops = true) (hq : ¬ LetsOut Q) : ∀ (fuel : Nat) (listed : Array Bool) (a : Act) (w : World), wpAny P md ops Q fuel listed a w → wpAnyIn (Fence.wide.inRound l) n P md ops Q fuel listed a w
  | 0, _, _, _, h => h
  | fuel + 1, listed, a, w, h => ⟨h.1, fun i hi => by
    have h2 := h.2 i hi
    unfold wpOp at h2
    unfold wpOpIn
    rcases ho : ops[i]? with _ | o
    · rw [ho] at h2
      exact wpAny_in hnd hq fuel _ _ _ h2
    · rw [ho] at h2
      simp only [] at h2 ⊢
      split
      · rename_i hw
        rw [if_pos hw] at h2
        rcases h2 with h2 | ⟨_, h2⟩
        · exact oper_in (noDefer_at hnd ho) (Oper.wp_mono (fun a' w' h' => wpAny_in hnd hq fuel _ a' w' h') h2)
        · exact absurd h2 hq
      · rename_i hw
        rw [if_neg hw] at h2
        exact ⟨fun _ _ => trivial, wpAny_in hnd hq fuel _ _ _ h2⟩⟩
/-- the beginning of such a region: what holds of the cells that it loads is shown once, and handed on -/
theorem region_in {S : World → Prop} {id : Nat} {ops : Array Oper} {a : Act} {w : World} (hm : P.follows .mixedOrders = true) (hnd : noDefer ops = true) (hq : ¬ LetsOut Q) (hS : S w.drew)
    (h : S w.drew → wpAnyH P .any ops Q S ops.size (Array.replicate ops.size false) a w.drew) : (Code.region id ops true).wpIn (Fence.wide.inRound l) n P Q a w :=
  wpIn_region_any hm (wpAny_in hnd hq _ _ _ _ (wpAny_of_held _ _ _ _ (h hS)))
end
end Go.Proofs.Ytphfiohjkjipiaa
