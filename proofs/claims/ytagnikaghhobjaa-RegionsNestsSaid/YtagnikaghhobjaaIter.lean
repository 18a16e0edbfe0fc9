/- A range over a function whose iterator writes memory of its own between two rounds: what the body keeps, what the iterator's steps keep, and the law. No program is named here. -/
import Derived.Test.YtagnikaghhobjaaBase
import Derived.RangeFuncNested
import Derived.RangeFuncBound
import Derived.RangeFuncCalls
import Derived.RangeFuncLeaves
import Derived.RangeFuncWrites
import Derived.RangeFuncBox
import Derived.OwnWalkIn
set_option linter.unusedVariables false
namespace Go.Proofs.Ytagnikaghhobjaa
open Go.RowKit

/-- the block of the slice that lies in the box X -/
def ownX (X : Nat) (w : World) : Option Nat := match w.cell? ⟨X, 0, none⟩ with
  | some v => v.ownBlock
  | none => none
theorem ownX_of {X : Nat} {w : World} {v : Value} (h : w.cell? ⟨X, 0, none⟩ = some v) : ownX X w = v.ownBlock := by unfold ownX; rw [h]
theorem ownX_eq {X : Nat} {w w' : World} (h : w'.cell? ⟨X, 0, none⟩ = w.cell? ⟨X, 0, none⟩) : ownX X w' = ownX X w := by unfold ownX; rw [h]
theorem cells_at {w : World} {b i : Nat} {v : Value} (h : w.cell? ⟨b, i, none⟩ = some v) : ∃ cs t fr, w.heap[b]? = some (.cells cs t fr) := by
  obtain ⟨o, ho, hc⟩ := cells_of_cell h
  cases o with
  | cells cs t fr => exact ⟨cs, t, fr, ho⟩
  | _ => cases hc

/-- what a round keeps: all cells but those of the box X and of its slice's block; that block is the old one or a new one -/
structure KeepX (base X : Nat) (W W' : World) : Prop where
  low : Below base W W'
  cells : ∀ k cs t fr, W.heap[k]? = some (.cells cs t fr) → k ≠ X → some k ≠ ownX X W → W'.heap[k]? = some (.cells cs t fr)
  own : ownX X W' = ownX X W ∨ ∃ g, ownX X W' = some g ∧ W.heap.size ≤ g
  fits : (∀ g, ownX X W = some g → g < W.heap.size) → ∀ g, ownX X W' = some g → g < W'.heap.size
theorem KeepX.trans {base X : Nat} {A B C : World} (h : KeepX base X A B) (k : KeepX base X B C) : KeepX base X A C := by
  refine ⟨h.low.trans k.low, fun b cs t fr hb hX hO => ?_, ?_, fun hf => k.fits (h.fits hf)⟩
  · have h1 := h.cells b cs t fr hb hX hO
    refine k.cells b cs t fr h1 hX ?_
    rcases h.own with e | ⟨g, e, hg⟩
    · rw [e]; exact hO
    · rw [e]
      intro e'
      injection e' with e'
      have := (Array.getElem?_eq_some_iff.1 hb).1
      omega
  · rcases k.own with e | ⟨g, e, hg⟩
    · rw [e]; exact h.own
    · exact .inr ⟨g, e, Nat.le_trans h.low.size hg⟩
theorem KeepX.of_below {base X : Nat} {W W' : World} (h : Below W.heap.size W W') (hb : base ≤ W.heap.size) (hX : X < W.heap.size) : KeepX base X W W' := by
  have e : ownX X W' = ownX X W := ownX_eq (h.cell (p := ⟨X, 0, none⟩) hX)
  exact ⟨h.mono hb, fun k cs t fr hk _ _ => (h.block k (Array.getElem?_eq_some_iff.1 hk).1).trans hk, .inl e, fun hf g hg => Nat.lt_of_lt_of_le (hf g (by rw [← e]; exact hg)) h.size⟩
theorem KeepX.put {base X : Nat} {w : World} (hn : base ≤ w.heap.size) (hX : X < w.heap.size) (W : World) (l : Nat) (o o' : Obj) (hl : w.heap.size ≤ l) (h : W.heap[l]? = some o) (hc : o.isCells = false) (hw : o.isWalk = false) : KeepX base X W (W.putObj l o') := by
  have hb := belowK_b hn W l o o' hl h hc hw
  have hbX := belowK_b (Nat.le_refl w.heap.size) W l o o' hl h hc hw
  have e : ownX X (W.putObj l o') = ownX X W := ownX_eq (hbX.cell (p := ⟨X, 0, none⟩) hX)
  refine ⟨hb, fun k cs t fr hk _ _ => ((grownBy_putObj' W l o').block k (Array.getElem?_eq_some_iff.1 hk).1 (fun e => by
    injection e with e
    subst e
    rw [h] at hk
    injection hk with hk
    subst hk
    cases hc)).trans hk, .inl e, fun hf g hg => Nat.lt_of_lt_of_le (hf g (by rw [← e]; exact hg)) hb.size⟩
theorem KeepX.cell {base X : Nat} {W W' : World} (h : KeepX base X W W') {b i : Nat} {v : Value} (hc : W.cell? ⟨b, i, none⟩ = some v) (hX : b ≠ X) (hO : some b ≠ ownX X W) : W'.cell? ⟨b, i, none⟩ = some v := by
  obtain ⟨cs, t, fr, hh⟩ := cells_at hc
  exact (World.cell?_of_block (w := W) (a := ⟨b, i, none⟩) ((h.cells b cs t fr hh hX hO).trans hh.symm)).trans hc

/-- a step of the iterator's: nothing below n turns, nor the block of the slice in the box X -/
structure ItX (n X : Nat) (W W' : World) : Prop where
  low : Below n W W'
  own : ∀ g, ownX X W = some g → g < W.heap.size → W'.heap[g]? = W.heap[g]?
theorem ItX.of_below {n X : Nat} {W W' : World} (h : Below W.heap.size W W') (hn : n ≤ W.heap.size) : ItX n X W W' := ⟨h.mono hn, fun g _ hg => h.block g hg⟩
theorem ItX.of_grown {n X : Nat} {W W' : World} {row : Option Nat} (h : W.grownBy W' row) (hn : n ≤ W.heap.size) (hr : ∀ k, row = some k → n ≤ k ∧ some k ≠ ownX X W) : ItX n X W W' :=
  ⟨(Below.refl n W).grown h hn (fun k e => (hr k e).1), fun g hg hl => h.block g hl (fun e => (hr g e.symm).2 hg.symm)⟩

/-- a round at whatever depth -/
theorem round_deep {m : Nat} (m' : Nat) {P : Program} {l : Nat} {args : Array Value} {W : World} {R : Ending → World → Prop} (h : YieldAt Fence.wide m P l args W R) : YieldAt Fence.wide m' P l args W R := by
  obtain ⟨fn, tmps, assign, body, hy, hR⟩ := h
  exact ⟨fn, tmps, assign, body, hy, hR.1, fun c cs _ => hR.2 c cs (fun d h => by cases h)⟩

/-- the contract of such an iterator over numbers -/
def SeqX (n : Nat) (P : Program) (g : Nat) (lb : Array Value) (base X : Nat) (S Sp : List Int → Prop) (N : Nat) (w : World) : Prop :=
  ∀ (l : Nat) (J Jx : List Int → World → Prop) (W : World), Below w.heap.size w W → ownX X W = none → X < W.heap.size →
    (∀ s A B, J s A → ItX W.heap.size X A B → J s B) → (∀ s A B, Jx s A → ItX W.heap.size X A B → Jx s B) →
    (∀ pre x W1, J pre W1 → pre.length < N → YieldAt Fence.wide (n - 1) P l #[.int .i64 x] W1 fun e W' =>
      (e = .returned (.bool true) ∧ J (pre ++ [x]) W' ∧ KeepX base X W1 W') ∨ (e = .returned (.bool false) ∧ Jx (pre ++ [x]) W')) →
    J [] W →
    CallsIn Fence.wide n P g (#[.func (.yield l) #[] #[]] ++ lb) W fun e W' => (∃ v, e = .returned v) ∧ ((∃ xs, S xs ∧ J xs W') ∨ (∃ pre, Sp pre ∧ Jx pre W'))

/-- what holds between two rounds stays, whatever the iterator does -/
def StaysX {β : Type} (B X : Nat) (I : β → World → Prop) : Prop := ∀ s A C, I s A → ItX B X A C → I s C

theorem wpIn_rangeFunc_X {n : Nat} {P : Program} {g : Operand} {p : Tmp} {assign body : Code} {Q : Exit → Act → World → Prop} {a : Act} {w : World}
    (h1 : 1 ≤ n) {gf : Nat} {lb : Array Value} (hg : a.eval g = .func (.func gf) #[] lb) (eg : ∀ args w, (callFunc gf args).run P w = .ok (.enter gf args) w)
    {base X : Nat} {S Sp : List Int → Prop} {N : Nat} {w0 : World} (hseq : SeqX (n - 1) P gf lb base X S Sp N w0) (hb0 : Below w0.heap.size w0 w) (hbase : base ≤ w.heap.size) (hX : X < w.heap.size) (hO : ownX X w = none)
    (I : List Int → World → Prop) (Ix : Code → List Int → World → Prop) (hI : OwnFrom w.heap.size I) (hIx : ∀ c, OwnFrom w.heap.size (Ix c)) (hS : StaysX (w.heap.size + 2) X I) (hSx : ∀ c, StaysX (w.heap.size + 2) X (Ix c)) (h0 : I [] w) (a₁ : Int → Act)
    (hassign : ∀ (l : Nat) (x : Int) (W : World) (K : Act → World → Prop), K (a₁ x) W →
      assign.wpIn (Fence.wide.inRound l) (n - 1 - 1) P (Exit.then K (fun _ _ _ => False)) { tmps := ((#[p] : Array Tmp).zip (#[.int .i64 x] : Array Value)).foldl (fun t (p, v) => t.setIfInBounds p v) a.tmps, defers := [] } W)
    (hbody : ∀ (l : Nat) (pre : List Int) (x : Int) (W : World), I pre W → pre.length < N → body.wpIn (Fence.wide.inRound l) (n - 1 - 1) P (ownPostG w.heap.size (KeepX base X) I Ix (pre ++ [x]) W) (a₁ x) W)
    (hdone : ∀ (D : Nat) (xs : List Int) (W : World), w.heap.size ≤ D → S xs → I xs W → W.heap[D]? = some (.deferred (some [])) → Q .normal { a with defers := { target := .collected D, args := #[] } :: a.defers } W)
    (hstop : ∀ (D : Nat) (c : Code) (pre : List Int) (W : World), w.heap.size ≤ D → Sp pre → Ix c pre W → W.heap[D]? = some (.deferred (some [])) → c.wpIn Fence.wide n P Q { a with defers := { target := .collected D, args := #[] } :: a.defers } W) :
    (Code.rangeFunc g #[p] assign body).wpIn Fence.wide n P Q a w := by
  refine wpIn_rangeFunc ?_
  intro fn hfn
  obtain ⟨rec, hrec⟩ : ∃ rec : LoopState → Option Code → Loop, rec = fun st pe => { state := st, pending := pe, fn, tmps := a.tmps, params := #[p], assign, body, defers := w.heap.size } := ⟨_, rfl⟩
  obtain ⟨W1, hW1⟩ : ∃ W1, (w.alloc (.deferred (some []))).alloc (.loop (rec .ready none)) = W1 := ⟨_, rfl⟩
  have hsz : W1.heap.size = w.heap.size + 2 := by rw [← hW1]; simp
  have hL1 : W1.heap[w.heap.size + 1]? = some (.loop (rec .ready none)) := by
    rw [← hW1]; have := World.alloc_heap_new (w.alloc (.deferred (some []))) (.loop (rec .ready none)); rwa [World.size_alloc] at this
  have hK1 : W1.heap[w.heap.size]? = some (.deferred (some [])) := by
    rw [← hW1]; exact (Below.heap_alloc _ _ _ (by simp)).trans (World.alloc_heap_new w _)
  have hI1 : I [] W1 := by rw [← hW1]; exact hI.alloc _ (hI.alloc _ h0)
  have hbw : Below w.heap.size w W1 := by rw [← hW1]; exact ((Below.refl _ w).alloc (Nat.le_refl _) _).alloc (by simp) _
  refine ⟨w.heap.size + 1, [{ target := .collected w.heap.size, args := #[] }], W1, { target := .fn (.func gf) lb, args := #[.func (.yield (w.heap.size + 1)) #[] #[]] }, W1, gf,
    #[.func (.yield (w.heap.size + 1)) #[] #[]] ++ lb, W1, ?_, ?_, fun _ _ => trivial, ?_, fun _ => h1, ?_⟩
  · rw [← hW1, hrec]; exact run_enterLoop_outer _ _ _ _ _
  · simp only [resolve, hg]
    simp [go_sem]
  · simp [invoke, go_sem, eg]
  refine (hseq (w.heap.size + 1)
    (fun pre W => I pre W ∧ W.heap[w.heap.size + 1]? = some (.loop (rec .ready none)) ∧ W.heap[w.heap.size]? = some (.deferred (some [])))
    (fun pre W => ∃ c, Ix c pre W ∧ W.heap[w.heap.size + 1]? = some (.loop (rec .done (some c))) ∧ W.heap[w.heap.size]? = some (.deferred (some [])))
    W1 (hb0.trans (hbw.mono hb0.size)) ((ownX_eq (hbw.cell (p := ⟨X, 0, none⟩) hX)).trans hO) (by omega)
    (fun s A B hs hi => ⟨hS s A B hs.1 (hsz ▸ hi), (hi.low.block _ (by omega)).trans hs.2.1, (hi.low.block _ (by omega)).trans hs.2.2⟩)
    (fun s A B hs hi => by
      obtain ⟨c, hc, hl, hk⟩ := hs
      exact ⟨c, hSx c s A B hc (hsz ▸ hi), (hi.low.block _ (by omega)).trans hl, (hi.low.block _ (by omega)).trans hk⟩)
    ?_ ⟨hI1, hL1, hK1⟩).mono ?_
  · rintro pre x W ⟨hi, hl, hk⟩ hlen
    have hlt : w.heap.size + 1 < W.heap.size := (Array.getElem?_eq_some_iff.1 hl).1
    have hy := run_yield (P := P) (args := #[.int .i64 x]) hl (by rw [hrec]; rfl)
    rw [hrec] at hy
    refine ⟨fn, _, assign, body, hy, roundIn_of_wpIn hfn (hassign _ x W _ ⟨_, run_beginRound hl (by rw [hrec]), ?_⟩)⟩
    have hl2 : (W.putObj (w.heap.size + 1) (.loop { rec .ready none with state := .busy })).heap[w.heap.size + 1]? = some (.loop { rec .ready none with state := .busy }) := World.putObj_heap_same hlt
    have hk2 : (W.putObj (w.heap.size + 1) (.loop { rec .ready none with state := .busy })).heap[w.heap.size]? = some (.deferred (some [])) := (World.putObj_heap_other (by omega)).trans hk
    have hw2 : KeepX base X W (W.putObj (w.heap.size + 1) (.loop { rec .ready none with state := .busy })) := KeepX.put hbase hX _ _ _ _ (by omega) hl rfl rfl
    refine wpIn_mono (hbody _ pre x _ (hI.putObj _ hi (by omega) hl rfl) hlen) ?_
    have fin : ∀ (jump : Option Code) (W3 : World), KeepsFrom w.heap.size (W.putObj (w.heap.size + 1) (.loop { rec .ready none with state := .busy })) W3 →
        (Instr.endRound (w.heap.size + 1) jump).run P W3 = .ok (.bool jump.isNone) (W3.putObj (w.heap.size + 1) (.loop (rec (if jump.isNone then .ready else .done) jump))) ∧
        W3.heap[w.heap.size + 1]? = some (.loop { rec .ready none with state := .busy }) ∧
        (W3.putObj (w.heap.size + 1) (.loop (rec (if jump.isNone then .ready else .done) jump))).heap[w.heap.size + 1]? = some (.loop (rec (if jump.isNone then .ready else .done) jump)) ∧
        (W3.putObj (w.heap.size + 1) (.loop (rec (if jump.isNone then .ready else .done) jump))).heap[w.heap.size]? = some (.deferred (some [])) := fun jump W3 hk3 => by
      have hl3 := hk3.same _ _ (by omega) hl2 rfl
      have := run_endRound (P := P) jump hl3
      rw [hrec] at this ⊢
      exact ⟨this, by rw [hrec] at hl3; exact hl3, World.putObj_heap_same (Array.getElem?_eq_some_iff.1 hl3).1, (World.putObj_heap_other (by omega)).trans (hk3.same _ _ (Nat.le_refl _) hk2 rfl)⟩
    rintro e a3 W3 hp
    cases e with
    | normal =>
      obtain ⟨hk3, hkp3, hi3⟩ := hp
      obtain ⟨hr, hl3, hl4, hk4⟩ := fin none W3 hk3
      exact ⟨_, _, hr, .inl ⟨rfl, ⟨hI.putObj _ hi3 (by omega) hl3 rfl, hl4, hk4⟩, (hw2.trans hkp3).trans (KeepX.put hbase hX _ _ _ _ (by omega) hl3 rfl rfl)⟩⟩
    | ret =>
      obtain ⟨hk3, hi3⟩ := hp
      obtain ⟨hr, hl3, hl4, hk4⟩ := fin (some .ret) W3 hk3
      exact ⟨_, _, hr, .inr ⟨rfl, .ret, (hIx _).putObj _ hi3 (by omega) hl3 rfl, hl4, hk4⟩⟩
    | exit id =>
      obtain ⟨hk3, hi3⟩ := hp
      obtain ⟨hr, hl3, hl4, hk4⟩ := fin (some (.exit id)) W3 hk3
      exact ⟨_, _, hr, .inr ⟨rfl, .exit id, (hIx _).putObj _ hi3 (by omega) hl3 rfl, hl4, hk4⟩⟩
    | goto t =>
      obtain ⟨hk3, hi3⟩ := hp
      obtain ⟨hr, hl3, hl4, hk4⟩ := fin (some (.goto t)) W3 hk3
      exact ⟨_, _, hr, .inr ⟨rfl, .goto t, (hIx _).putObj _ hi3 (by omega) hl3 rfl, hl4, hk4⟩⟩
    | panic ch => exact hp.elim
    | outgrown => exact hp.elim
  · rintro e W2 ⟨⟨v, rfl⟩, (⟨xs, hS, hi, hl, hk⟩ | ⟨pre, hSp, c, hi, hl, hk⟩)⟩
    · exact ⟨none, _, by have := run_endLoop (P := P) hl (by rw [hrec]; simp); rw [hrec] at this; exact this, hdone _ xs _ (Nat.le_refl _) hS (hI.putObj _ hi (by omega) hl rfl) ((World.putObj_heap_other (by omega)).trans hk)⟩
    · exact ⟨some c, _, by have := run_endLoop (P := P) hl (by rw [hrec]; simp); rw [hrec] at this; exact this, hstop _ c pre _ (Nat.le_refl _) hSp ((hIx c).putObj _ hi (by omega) hl rfl) ((World.putObj_heap_other (by omega)).trans hk)⟩
end Go.Proofs.Ytagnikaghhobjaa
