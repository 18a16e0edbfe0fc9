/- The search: whatever is yielded to. -/
import Derived.Test.YtagnikaghhobjaaRegI
import Derived.Test.YtagnikaghhobjaaIter
import Derived.Test.YtagnikaghhobjaaZeros
import Derived.Shelf.Abstract
import Derived.TacticsInMore
import Derived.LoopNIn
import Derived.LoopIn
import Derived.Sort.LoopGhostIn
import Derived.Sort.QuietIn
import Derived.Maps.OwnIn
import Derived.Deep.DeepMust
set_option linter.unusedVariables false
namespace Go.Proofs.Ytagnikaghhobjaa
open Go.RowKit Go.Shelf
attribute [local go_sem] Oper.semAt_some

theorem infoBool : (Try.prog.info? 4).map (fun i => (i.zero, i.size, i.bytes)) = some (some (.bool false), 1, 1) := by kernel_rfl
theorem madeOne (z : Value) (hz : z.cells = #[z]) (k : Nat) : madeCells z.cells k = (List.replicate k z).toArray := by
  apply Array.ext
  · rw [size_madeCells]; simp
  · intro i h1 h2
    simp [madeCells, hz, Nat.mod_one]
theorem wpListIn_make_rep {F : Fence} {nF : Nat} {P : Program} (w : World) {ops : Array Oper} {rest : List Oper} {o : Oper} {a : Act} {Q : Exit → Act → World → Prop}
    (hg : o.guard = none) (l c : Operand) (t : TypeId) (hop : o.op = Op.makeSlice t l c)
    (e : TypeId) (i : TypeInfo) (z : Value) (h1 : P.underlying t = some (.slice e)) (h2 : P.info? e = some i) (h3 : i.zero = some z) (h4 : i.size = 1) (hz : z.cells = #[z])
    (n : Nat) (hl : a.eval l = .int .i64 (n : Int)) (hc : a.eval c = .int .i64 (n : Int)) (b2 : i.bytes * n ≤ 281474976710656) (b3 : n ≤ 1000000)
    (hK : wpListIn F nF P ops Q rest (a.put o.dst (.slice (some ⟨w.heap.size, 0, none⟩) n n)) (w.alloc (.cells (List.replicate n z).toArray e))) :
    wpListIn F nF P ops Q (o :: rest) a w := by
  have hb' : (i.bytes : Int) * (n : Int) ≤ 281474976710656 := by
    have h : ((i.bytes * n : Nat) : Int) ≤ 281474976710656 := by omega
    rwa [Int.natCast_mul] at h
  have hr := run_make (P := P) w t e i z h1 h2 h3 .i64 .i64 n n (by omega) (Int.le_refl _) hb' (by omega)
  simp only [Int.toNat_natCast, h4, Nat.mul_one, madeOne z hz] at hr
  refine wpListIn_plain hg fun K hK' => ?_
  unfold Oper.wpIn
  refine ⟨by simp [Oper.about, hop], ?_⟩
  rw [Oper.semAt_plain F _ _ (by rw [hop]; intro c hc'; cases hc')]
  simp [execOp, hop, hl, hc, hr, Result.andThen]
  exact hK' _ _ hK

/-! ### a slice that the body leaves alone -/
def RdX (B X : Nat) (w : World) (A : Option Addr) (n : Nat) (xs : List Int) : Prop :=
  xs.length = n ∧ (0 < n → ∃ b o, A = some ⟨b, o, none⟩ ∧ b < B ∧ b ≠ X ∧ some b ≠ ownX X w ∧ ∀ j x, xs[j]? = some x → w.cell? ⟨b, o + j, none⟩ = some (.int .i64 x))
theorem RdX.at_ {B X : Nat} {w : World} {A : Option Addr} {n : Nat} {xs : List Int} (h : RdX B X w A n xs) {j : Nat} {x : Int} (hx : xs[j]? = some x) : ∃ b o, A = some ⟨b, o, none⟩ ∧ b < B ∧ b ≠ X ∧ some b ≠ ownX X w ∧ w.cell? ⟨b, o + j, none⟩ = some (.int .i64 x) := by
  obtain ⟨b, o, h1, h2, h3, h4, h5⟩ := h.2 (by have := (List.getElem?_eq_some_iff.1 hx).1; have := h.1; omega)
  exact ⟨b, o, h1, h2, h3, h4, h5 j x hx⟩
theorem RdX.of_rd {B B' X : Nat} {w : World} {A : Option Addr} {n : Nat} {xs : List Int} (h : Rd w B A n (i64s xs)) (hB : B ≤ X) (hB' : B ≤ B') (hO : ∀ g, ownX X w = some g → B ≤ g) : RdX B' X w A n xs := by
  refine ⟨h.ilen, fun hn => ?_⟩
  obtain ⟨b, o, h1, h2, h3⟩ := h.2 hn
  exact ⟨b, o, h1, by omega, by omega, fun e => by have := hO b e.symm; omega, fun j x hx => h3 j _ (by rw [List.getElem?_map, hx]; rfl)⟩
theorem own_after {base X : Nat} {W W' : World} (h : KeepX base X W W') {b : Nat} (hb : b < W.heap.size) (hO : some b ≠ ownX X W) : some b ≠ ownX X W' := by
  rcases h.own with e | ⟨g, e, hg⟩
  · rw [e]; exact hO
  · rw [e]; intro e'; injection e' with e'; omega
theorem RdX.keep {B X base : Nat} {w w' : World} {A : Option Addr} {n : Nat} {xs : List Int} (h : RdX B X w A n xs) (hk : KeepX base X w w') (hB : B ≤ w.heap.size) : RdX B X w' A n xs :=
  ⟨h.1, fun hn => by
    obtain ⟨b, o, h1, h2, h3, h4, h5⟩ := h.2 hn
    exact ⟨b, o, h1, h2, h3, own_after hk (by omega) h4, fun j x hx => hk.cell (h5 j x hx) h3 h4⟩⟩
theorem RdX.low {B X : Nat} {w w' : World} {A : Option Addr} {n : Nat} {xs : List Int} (h : RdX B X w A n xs) (hb : Below B w w') (hX : X < B) : RdX B X w' A n xs := by
  have e : ownX X w' = ownX X w := ownX_eq (hb.cell (p := ⟨X, 0, none⟩) hX)
  exact ⟨h.1, fun hn => by
    obtain ⟨b, o, h1, h2, h3, h4, h5⟩ := h.2 hn
    exact ⟨b, o, h1, h2, h3, by rw [e]; exact h4, fun j x hx => (hb.cell (p := ⟨b, o + j, none⟩) h2).trans (h5 j x hx)⟩⟩

/-! ### the search's own memory -/
structure SrW (base n₀ X gF : Nat) (W0 w : World) (F : List Bool) (v : Value) (m : Nat) (W : List Int) : Prop where
  low : Below base W0 w
  fnd : w.heap[gF]? = some (.cells (F.map Value.bool).toArray 4 (0, 0))
  own : w.ownsRow (gF + 1) 3 1 v m (i64s W)
  ox : ∀ g, ownX X w = some g → n₀ ≤ g ∧ g < w.heap.size ∧ g ≠ gF ∧ v.ownBlock ≠ some g
section
variable {base n₀ X gF : Nat} {W0 w w' : World} {F : List Bool} {v : Value} {m : Nat} {W : List Int}
theorem SrW.lt (h : SrW base n₀ X gF W0 w F v m W) : gF < w.heap.size := (Array.getElem?_eq_some_iff.1 h.fnd).1
theorem SrW.keep (h : SrW base n₀ X gF W0 w F v m W) (hk : KeepX base X w w') (hn : n₀ ≤ gF) (hX : X < n₀) : SrW base n₀ X gF W0 w' F v m W := by
  have hl := h.lt
  have hO : some gF ≠ ownX X w := fun e => (h.ox gF e.symm).2.2.1 rfl
  refine ⟨h.low.trans hk.low, hk.cells gF _ _ _ h.fnd (by omega) hO, ⟨h.own.1, ?_⟩, fun g hg => ?_⟩
  · rcases h.own.2 with hv | ⟨g, cap, cur, e, hb, hgg, rest⟩
    · exact .inl hv
    · refine .inr ⟨g, cap, cur, e, hb, hk.cells g _ _ _ hgg (by omega) (fun e2 => ?_), rest⟩
      exact (h.ox g e2.symm).2.2.2 (by rw [e]; rfl)
  · have hf := hk.fits (fun g hg => (h.ox g hg).2.1) g hg
    rcases hk.own with e | ⟨g', e, hg'⟩
    · rw [e] at hg
      have := h.ox g hg
      exact ⟨this.1, hf, this.2.2⟩
    · rw [e] at hg
      injection hg with hg
      subst hg
      exact ⟨by omega, hf, by omega, fun e2 => by have := (h.own.lt g' e2).2; omega⟩
theorem SrW.cell (h : SrW base n₀ X gF W0 w F v m W) {i : Nat} {b : Bool} (hb : F[i]? = some b) : w.cell? ⟨gF, i, none⟩ = some (.bool b) ∧ w.frozen? ⟨gF, i, none⟩ = false :=
  ⟨(cell_of_row w gF i _ _ (0, 0) h.fnd).trans (by simp [hb]), by simp [World.frozen?, h.fnd]⟩
theorem SrW.mark (h : SrW base n₀ X gF W0 w F v m W) (hn : n₀ ≤ gF) (hX : X < n₀) (hb : base ≤ n₀) (i : Nat) : SrW base n₀ X gF W0 (w.setCell ⟨gF, i, none⟩ (.bool true)) (F.set i true) v m W ∧ ItX n₀ X w (w.setCell ⟨gF, i, none⟩ (.bool true)) := by
  have hl := h.lt
  have hs : (w.setCell ⟨gF, i, none⟩ (.bool true)).heap.size = w.heap.size := by simp [World.setCell]
  have hother : ∀ k, k ≠ gF → (w.setCell ⟨gF, i, none⟩ (.bool true)).heap[k]? = w.heap[k]? := fun k hk => Below.heap_setCell w ⟨gF, i, none⟩ _ k hk
  have e : ownX X (w.setCell ⟨gF, i, none⟩ (.bool true)) = ownX X w := ownX_eq (World.cell?_of_block (w := w) (a := ⟨X, 0, none⟩) (hother X (by omega)))
  refine ⟨⟨h.low.setCell (p := ⟨gF, i, none⟩) (Nat.le_trans hb hn) _, ?_, ⟨h.own.1, ?_⟩, fun g hg => ?_⟩, (Below.refl n₀ w).setCell (p := ⟨gF, i, none⟩) hn _, fun g hg _ => hother g (h.ox g hg).2.2.1⟩
  · have hh : (w.setCell ⟨gF, i, none⟩ (.bool true)).heap[gF]? = some (.cells ((F.map Value.bool).toArray.setIfInBounds i (.bool true)) 4 (0, 0)) := by simp [World.setCell, Array.getElem?_modify, h.fnd]
    rw [hh]
    congr 2
    apply Array.ext'
    simp [List.map_set]
  · rcases h.own.2 with hv | ⟨g, cap, cur, e, hb, hgg, rest⟩
    · exact .inl hv
    · exact .inr ⟨g, cap, cur, e, hb, (hother g (by omega)).trans hgg, rest⟩
  · rw [e] at hg
    rw [hs]
    exact h.ox g hg
theorem SrW.alloc (h : SrW base n₀ X gF W0 w F v m W) (hX : X < w.heap.size) (hbl : Below w.heap.size w w') (hb : base ≤ w.heap.size) : SrW base n₀ X gF W0 w' F v m W := by
  have e : ownX X w' = ownX X w := ownX_eq (hbl.cell (p := ⟨X, 0, none⟩) hX)
  refine ⟨h.low.trans (hbl.mono hb), (hbl.block _ h.lt).trans h.fnd, ownsRow_below h.own hbl, fun g hg => ?_⟩
  rw [e] at hg
  have := h.ox g hg
  exact ⟨this.1, Nat.lt_of_lt_of_le this.2.1 hbl.size, this.2.2⟩
theorem SrW.app (h : SrW base n₀ X gF W0 w F v m W) (hn : n₀ ≤ gF) (hX : X < n₀) (hb : base ≤ n₀) {v' : Value} {m' : Nat} {ys : List Int} (hown : w'.ownsRow (gF + 1) 3 1 v' m' (i64s ys)) (hg : w.grownBy w' v.ownBlock) (hat : v'.ownBlock = v.ownBlock ∨ v'.ownBlock = some w.heap.size) :
    SrW base n₀ X gF W0 w' F v' m' ys ∧ ItX n₀ X w w' := by
  have hl := h.lt
  have hob : ∀ k, v.ownBlock = some k → gF + 1 ≤ k := fun k hk => (h.own.lt k hk).1
  have e : ownX X w' = ownX X w := ownX_eq (World.cell?_of_block (w := w) (a := ⟨X, 0, none⟩) (hg.block X (by omega) (fun e => by have := hob X e.symm; omega)))
  refine ⟨⟨h.low.grown hg (by omega) (fun k hk => by have := hob k hk; omega), (hg.block gF hl (fun e => by have := hob gF e.symm; omega)).trans h.fnd, hown, fun g hg' => ?_⟩, ItX.of_grown hg (by omega) fun k hk => ⟨by have := hob k hk; omega, fun e2 => (h.ox k e2.symm).2.2.2 hk⟩⟩
  rw [e] at hg'
  have h1 := h.ox g hg'
  refine ⟨h1.1, Nat.lt_of_lt_of_le h1.2.1 hg.size, h1.2.2.1, fun e2 => ?_⟩
  rcases hat with e3 | e3
  · exact h1.2.2.2 (e3 ▸ e2)
  · rw [e3] at e2
    injection e2 with e2
    omega
end
/-- a row without its last element -/
theorem ownsRow_pop {w : World} {base g n cap : Nat} {e : TypeId} {xs : List Value} {x : Value} (h : w.ownsRow base e 1 (.slice (some ⟨g, 0, none⟩) (n + 1) cap) (n + 1) (xs ++ [x])) : w.ownsRow base e 1 (.slice (some ⟨g, 0, none⟩) n cap) n xs := by
  have hl : xs.length = n := by have := h.1; simp at this; omega
  rcases h.2 with ⟨h0, _⟩ | ⟨g', cap', cur, e0, hb, hg, h1, h2, h3, h4⟩
  · cases h0
  · injection e0 with e1 e2 e3
    injection e1 with e1
    injection e1 with e1
    subst e1 e3
    refine ⟨by simp [hl], .inr ⟨g, cap, cur, rfl, hb, hg, by omega, h2, h3, ?_⟩⟩
    have h5 := congrArg (List.take n) h4
    rw [List.take_take, List.take_append_of_le_length (by omega), ← hl, List.take_length] at h5
    rw [← h5, hl]
    congr 1
    omega
end Go.Proofs.Ytagnikaghhobjaa
