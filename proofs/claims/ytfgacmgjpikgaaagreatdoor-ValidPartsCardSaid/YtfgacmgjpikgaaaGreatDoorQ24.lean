/- Part 25 of the contracts and their mathematics. -/
import Derived.Test.YtfgacmgjpikgaaaGreatDoorQ5
import Derived.RangeFuncNested
import Derived.RangeFuncBound
import Derived.RangeFuncCalls
import Derived.RangeFuncLeaves
import Derived.RangeFuncWrites
import Derived.OwnWalkIn
import Derived.Test.YtfgacmgjpikgaaaGreatDoorShelf
import Derived.Lib.OwnBridge
import Derived.Sort.OwnSortedInts
import Derived.Lib.SlicesCompact
import Derived.Lib.AppendZeros
import Derived.Lib.AppendZerosOnto
import Derived.Shelf.Abstract
import Derived.TacticsInMore
import Derived.LoopNIn
import Derived.LoopIn
import Derived.Sort.LoopGhostIn
import Derived.Sort.QuietIn
import Derived.Maps.OwnIn
import Derived.Deep.DeepMust
set_option linter.unusedVariables false
set_option linter.unusedSimpArgs false
namespace Go.Proofs.YtfgacmgjpikgaaaGreatDoor
open Go.RowKit
def ownX (X : Nat) (w : World) : Option Nat := match w.cell? ⟨X, 0, none⟩ with
 | some v => v.ownBlock
 | none => none
theorem ownX_of {X : Nat} {w : World} {v : Value} (h : w.cell? ⟨X, 0, none⟩ = some v) : ownX X w = v.ownBlock := by unfold ownX; rw [h]
theorem ownX_eq {X : Nat} {w w' : World} (h : w'.cell? ⟨X, 0, none⟩ = w.cell? ⟨X, 0, none⟩) : ownX X w' = ownX X w := by unfold ownX; rw [h]
theorem cells_at {w : World} {b i : Nat} {v : Value} (h : w.cell? ⟨b, i, none⟩ = some v) : ∃ cs t fr, w.heap[b]? = some (.cells cs t fr) := by
 obtain ⟨o, ho, hc⟩ := cells_of_cell h
 cases o with
 | cells cs t fr => exact ⟨cs, t, fr, ho⟩
 | _ => cases hc
structure KeepX (base X : Nat) (W W' : World) : Prop where
 low : Below base W W'
 cells : ∀ k cs t fr, W.heap[k]? = some (.cells cs t fr) → k ≠ X → some k ≠ ownX X W → W'.heap[k]? = some (.cells cs t fr)
 own : ownX X W' = ownX X W ∨ ∃ g, ownX X W' = some g ∧ W.heap.size ≤ g
 fits : (∀ g, ownX X W = some g → g < W.heap.size) → ∀ g, ownX X W' = some g → g < W'.heap.size
theorem KeepX.trans {base X : Nat} {A B C : World} (h : KeepX base X A B) (k : KeepX base X B C) : KeepX base X A C := by
 refine ⟨h.low.trans k.low, fun b cs t fr hb hX hO => ?_, ?_, fun hf => k.fits (h.fits hf)⟩
 ·
  have h1 := h.cells b cs t fr hb hX hO
  refine k.cells b cs t fr h1 hX ?_
  rcases h.own with e | ⟨g, e, hg⟩
  ·
   rw [e]; exact hO
  ·
   rw [e]
   intro e'
   injection e' with e'
   have := (Array.getElem?_eq_some_iff.1 hb).1
   omega
 ·
  rcases k.own with e | ⟨g, e, hg⟩
  ·
   rw [e]; exact h.own
  ·
   exact .inr ⟨g, e, Nat.le_trans h.low.size hg⟩
theorem KeepX.of_below {base X : Nat} {W W' : World} (h : Below W.heap.size W W') (hb : base ≤ W.heap.size) (hX : X < W.heap.size) : KeepX base X W W' := by
 have e : ownX X W' = ownX X W := ownX_eq (h.cell (p := ⟨X, 0, none⟩) hX)
 exact ⟨h.mono hb, fun k cs t fr hk _ _ => (h.block k (Array.getElem?_eq_some_iff.1 hk).1).trans hk, .inl e, fun hf g hg => Nat.lt_of_lt_of_le (hf g (by rw [← e]; exact hg)) h.size⟩
theorem KeepX.put {base X : Nat} {w : World} (hn : base ≤ w.heap.size) (hX : X < w.heap.size) (W : World) (l : Nat) (o o' : Obj) (hl : w.heap.size ≤ l) (h : W.heap[l]? = some o) (hc : o.isCells = false) (hw : o.isWalk = false) : KeepX base X W (W.putObj l o') := by
 have hb := belowK_b hn W l o o' hl h hc hw
 have hbX := belowK_b (Nat.le_refl w.heap.size) W l o o' hl h hc hw
 have e : ownX X (W.putObj l o') = ownX X W := ownX_eq (hbX.cell (p := ⟨X, 0, none⟩) hX)
 refine ⟨hb, fun k cs t fr hk _ _ => ((grownBy_putObj' W l o').block k (Array.getElem?_eq_some_iff.1 hk).1 (fun e => by
  injection e with e
  subst e
  rw [h] at hk
  injection hk with hk
  subst hk
  cases hc)).trans hk, .inl e, fun hf g hg => Nat.lt_of_lt_of_le (hf g (by rw [← e]; exact hg)) hb.size⟩
theorem KeepX.cell {base X : Nat} {W W' : World} (h : KeepX base X W W') {b i : Nat} {v : Value} (hc : W.cell? ⟨b, i, none⟩ = some v) (hX : b ≠ X) (hO : some b ≠ ownX X W) : W'.cell? ⟨b, i, none⟩ = some v := by
 obtain ⟨cs, t, fr, hh⟩ := cells_at hc
 exact (World.cell?_of_block (w := W) (a := ⟨b, i, none⟩) ((h.cells b cs t fr hh hX hO).trans hh.symm)).trans hc
structure ItX (n X : Nat) (W W' : World) : Prop where
 low : Below n W W'
 own : ∀ g, ownX X W = some g → g < W.heap.size → W'.heap[g]? = W.heap[g]?
theorem ItX.of_below {n X : Nat} {W W' : World} (h : Below W.heap.size W W') (hn : n ≤ W.heap.size) : ItX n X W W' := ⟨h.mono hn, fun g _ hg => h.block g hg⟩
theorem ItX.of_grown {n X : Nat} {W W' : World} {row : Option Nat} (h : W.grownBy W' row) (hn : n ≤ W.heap.size) (hr : ∀ k, row = some k → n ≤ k ∧ some k ≠ ownX X W) : ItX n X W W' :=
 ⟨(Below.refl n W).grown h hn (fun k e => (hr k e).1), fun g hg hl => h.block g hl (fun e => (hr g e.symm).2 hg.symm)⟩
theorem round_deep {m : Nat} (m' : Nat) {P : Program} {l : Nat} {args : Array Value} {W : World} {R : Ending → World → Prop} (h : YieldAt Fence.wide m P l args W R) : YieldAt Fence.wide m' P l args W R := by
 obtain ⟨fn, tmps, assign, body, hy, hR⟩ := h
 exact ⟨fn, tmps, assign, body, hy, hR.1, fun c cs _ => hR.2 c cs (fun d h => by cases h)⟩
def SeqX (n : Nat) (P : Program) (g : Nat) (lb : Array Value) (base X : Nat) (S Sp : List Int → Prop) (N : Nat) (w : World) : Prop :=
 ∀ (l : Nat) (J Jx : List Int → World → Prop) (W : World), Below w.heap.size w W → ownX X W = none → X < W.heap.size →
  (∀ s A B, J s A → ItX W.heap.size X A B → J s B) → (∀ s A B, Jx s A → ItX W.heap.size X A B → Jx s B) →
  (∀ pre x W1, J pre W1 → pre.length < N → YieldAt Fence.wide (n - 1) P l #[.int .i64 x] W1 fun e W' =>
   (e = .returned (.bool true) ∧ J (pre ++ [x]) W' ∧ KeepX base X W1 W') ∨ (e = .returned (.bool false) ∧ Jx (pre ++ [x]) W')) →
  J [] W →
  CallsIn Fence.wide n P g (#[.func (.yield l) #[] #[]] ++ lb) W fun e W' => (∃ v, e = .returned v) ∧ ((∃ xs, S xs ∧ J xs W') ∨ (∃ pre, Sp pre ∧ Jx pre W'))
def StaysX {β : Type} (B X : Nat) (I : β → World → Prop) : Prop := ∀ s A C, I s A → ItX B X A C → I s C
theorem wpIn_rangeFunc_X {n : Nat} {P : Program} {g : Operand} {p : Tmp} {assign body : Code} {Q : Exit → Act → World → Prop} {a : Act} {w : World}
    (h1 : 1 ≤ n) {gf : Nat} {lb : Array Value} (hg : a.eval g = .func (.func gf) #[] lb) (eg : ∀ args w, (callFunc gf args).run P w = .ok (.enter gf args) w)
    {base X : Nat} {S Sp : List Int → Prop} {N : Nat} {w0 : World} (hseq : SeqX (n - 1) P gf lb base X S Sp N w0) (hb0 : Below w0.heap.size w0 w) (hbase : base ≤ w.heap.size) (hX : X < w.heap.size) (hO : ownX X w = none)
    (I : List Int → World → Prop) (Ix : Code → List Int → World → Prop) (hI : OwnFrom w.heap.size I) (hIx : ∀ c, OwnFrom w.heap.size (Ix c)) (hS : StaysX (w.heap.size + 2) X I) (hSx : ∀ c, StaysX (w.heap.size + 2) X (Ix c)) (h0 : I [] w) (a₁ : Int → Act)
    (hassign : ∀ (l : Nat) (x : Int) (W : World) (K : Act → World → Prop), K (a₁ x) W →
      assign.wpIn (Fence.wide.inRound l) (n - 1 - 1) P (Exit.then K (fun _ _ _ => False)) { tmps := ((#[p] : Array Tmp).zip (#[.int .i64 x] : Array Value)).foldl (fun t (p, v) => t.setIfInBounds p v) a.tmps, defers := [] } W)
    (hbody : ∀ (l : Nat) (pre : List Int) (x : Int) (W : World), I pre W → pre.length < N → body.wpIn (Fence.wide.inRound l) (n - 1 - 1) P (ownPostG w.heap.size (KeepX base X) I Ix (pre ++ [x]) W) (a₁ x) W)
    (hdone : ∀ (D : Nat) (xs : List Int) (W : World), w.heap.size ≤ D → S xs → I xs W → W.heap[D]? = some (.deferred (some [])) → Q .normal { a with defers := { target := .collected D, args := #[] } :: a.defers } W)
    (hstop : ∀ (D : Nat) (c : Code) (pre : List Int) (W : World), w.heap.size ≤ D → Sp pre → Ix c pre W → W.heap[D]? = some (.deferred (some [])) → c.wpIn Fence.wide n P Q { a with defers := { target := .collected D, args := #[] } :: a.defers } W) :
    (Code.rangeFunc g #[p] assign body).wpIn Fence.wide n P Q a w := by
  refine wpIn_rangeFunc ?_
  intro fn hfn
  obtain ⟨rec, hrec⟩ : ∃ rec : LoopState → Option Code → Loop, rec = fun st pe => { state := st, pending := pe, fn, tmps := a.tmps, params := #[p], assign, body, defers := w.heap.size } := ⟨_, rfl⟩
  obtain ⟨W1, hW1⟩ : ∃ W1, (w.alloc (.deferred (some []))).alloc (.loop (rec .ready none)) = W1 := ⟨_, rfl⟩
  have hsz : W1.heap.size = w.heap.size + 2 := by rw [← hW1]; simp
  have hL1 : W1.heap[w.heap.size + 1]? = some (.loop (rec .ready none)) := by
    rw [← hW1]; have := World.alloc_heap_new (w.alloc (.deferred (some []))) (.loop (rec .ready none)); rwa [World.size_alloc] at this
  have hK1 : W1.heap[w.heap.size]? = some (.deferred (some [])) := by
    rw [← hW1]; exact (Below.heap_alloc _ _ _ (by simp)).trans (World.alloc_heap_new w _)
  have hI1 : I [] W1 := by rw [← hW1]; exact hI.alloc _ (hI.alloc _ h0)
  have hbw : Below w.heap.size w W1 := by rw [← hW1]; exact ((Below.refl _ w).alloc (Nat.le_refl _) _).alloc (by simp) _
  refine ⟨w.heap.size + 1, [{ target := .collected w.heap.size, args := #[] }], W1, { target := .fn (.func gf) lb, args := #[.func (.yield (w.heap.size + 1)) #[] #[]] }, W1, gf,
    #[.func (.yield (w.heap.size + 1)) #[] #[]] ++ lb, W1, ?_, ?_, fun _ _ => trivial, ?_, fun _ => h1, ?_⟩
  · rw [← hW1, hrec]; exact run_enterLoop_outer _ _ _ _ _
  · simp only [resolve, hg]
    simp [go_sem]
  · simp [invoke, go_sem, eg]
  refine (hseq (w.heap.size + 1)
    (fun pre W => I pre W ∧ W.heap[w.heap.size + 1]? = some (.loop (rec .ready none)) ∧ W.heap[w.heap.size]? = some (.deferred (some [])))
    (fun pre W => ∃ c, Ix c pre W ∧ W.heap[w.heap.size + 1]? = some (.loop (rec .done (some c))) ∧ W.heap[w.heap.size]? = some (.deferred (some [])))
    W1 (hb0.trans (hbw.mono hb0.size)) ((ownX_eq (hbw.cell (p := ⟨X, 0, none⟩) hX)).trans hO) (by omega)
    (fun s A B hs hi => ⟨hS s A B hs.1 (hsz ▸ hi), (hi.low.block _ (by omega)).trans hs.2.1, (hi.low.block _ (by omega)).trans hs.2.2⟩)
    (fun s A B hs hi => by
      obtain ⟨c, hc, hl, hk⟩ := hs
      exact ⟨c, hSx c s A B hc (hsz ▸ hi), (hi.low.block _ (by omega)).trans hl, (hi.low.block _ (by omega)).trans hk⟩)
    ?_ ⟨hI1, hL1, hK1⟩).mono ?_
  · rintro pre x W ⟨hi, hl, hk⟩ hlen
    have hlt : w.heap.size + 1 < W.heap.size := (Array.getElem?_eq_some_iff.1 hl).1
    have hy := run_yield (P := P) (args := #[.int .i64 x]) hl (by rw [hrec]; rfl)
    rw [hrec] at hy
    refine ⟨fn, _, assign, body, hy, roundIn_of_wpIn hfn (hassign _ x W _ ⟨_, run_beginRound hl (by rw [hrec]), ?_⟩)⟩
    have hl2 : (W.putObj (w.heap.size + 1) (.loop { rec .ready none with state := .busy })).heap[w.heap.size + 1]? = some (.loop { rec .ready none with state := .busy }) := World.putObj_heap_same hlt
    have hk2 : (W.putObj (w.heap.size + 1) (.loop { rec .ready none with state := .busy })).heap[w.heap.size]? = some (.deferred (some [])) := (World.putObj_heap_other (by omega)).trans hk
    have hw2 : KeepX base X W (W.putObj (w.heap.size + 1) (.loop { rec .ready none with state := .busy })) := KeepX.put hbase hX _ _ _ _ (by omega) hl rfl rfl
    refine wpIn_mono (hbody _ pre x _ (hI.putObj _ hi (by omega) hl rfl) hlen) ?_
    have fin : ∀ (jump : Option Code) (W3 : World), KeepsFrom w.heap.size (W.putObj (w.heap.size + 1) (.loop { rec .ready none with state := .busy })) W3 →
        (Instr.endRound (w.heap.size + 1) jump).run P W3 = .ok (.bool jump.isNone) (W3.putObj (w.heap.size + 1) (.loop (rec (if jump.isNone then .ready else .done) jump))) ∧
        W3.heap[w.heap.size + 1]? = some (.loop { rec .ready none with state := .busy }) ∧
        (W3.putObj (w.heap.size + 1) (.loop (rec (if jump.isNone then .ready else .done) jump))).heap[w.heap.size + 1]? = some (.loop (rec (if jump.isNone then .ready else .done) jump)) ∧
        (W3.putObj (w.heap.size + 1) (.loop (rec (if jump.isNone then .ready else .done) jump))).heap[w.heap.size]? = some (.deferred (some [])) := fun jump W3 hk3 => by
      have hl3 := hk3.same _ _ (by omega) hl2 rfl
      have := run_endRound (P := P) jump hl3
      rw [hrec] at this ⊢
      exact ⟨this, by rw [hrec] at hl3; exact hl3, World.putObj_heap_same (Array.getElem?_eq_some_iff.1 hl3).1, (World.putObj_heap_other (by omega)).trans (hk3.same _ _ (Nat.le_refl _) hk2 rfl)⟩
    rintro e a3 W3 hp
    cases e with
    | normal =>
      obtain ⟨hk3, hkp3, hi3⟩ := hp
      obtain ⟨hr, hl3, hl4, hk4⟩ := fin none W3 hk3
      exact ⟨_, _, hr, .inl ⟨rfl, ⟨hI.putObj _ hi3 (by omega) hl3 rfl, hl4, hk4⟩, (hw2.trans hkp3).trans (KeepX.put hbase hX _ _ _ _ (by omega) hl3 rfl rfl)⟩⟩
    | ret =>
      obtain ⟨hk3, hi3⟩ := hp
      obtain ⟨hr, hl3, hl4, hk4⟩ := fin (some .ret) W3 hk3
      exact ⟨_, _, hr, .inr ⟨rfl, .ret, (hIx _).putObj _ hi3 (by omega) hl3 rfl, hl4, hk4⟩⟩
    | exit id =>
      obtain ⟨hk3, hi3⟩ := hp
      obtain ⟨hr, hl3, hl4, hk4⟩ := fin (some (.exit id)) W3 hk3
      exact ⟨_, _, hr, .inr ⟨rfl, .exit id, (hIx _).putObj _ hi3 (by omega) hl3 rfl, hl4, hk4⟩⟩
    | goto t =>
      obtain ⟨hk3, hi3⟩ := hp
      obtain ⟨hr, hl3, hl4, hk4⟩ := fin (some (.goto t)) W3 hk3
      exact ⟨_, _, hr, .inr ⟨rfl, .goto t, (hIx _).putObj _ hi3 (by omega) hl3 rfl, hl4, hk4⟩⟩
    | panic ch => exact hp.elim
    | outgrown => exact hp.elim
  · rintro e W2 ⟨⟨v, rfl⟩, (⟨xs, hS, hi, hl, hk⟩ | ⟨pre, hSp, c, hi, hl, hk⟩)⟩
    · exact ⟨none, _, by have := run_endLoop (P := P) hl (by rw [hrec]; simp); rw [hrec] at this; exact this, hdone _ xs _ (Nat.le_refl _) hS (hI.putObj _ hi (by omega) hl rfl) ((World.putObj_heap_other (by omega)).trans hk)⟩
    · exact ⟨some c, _, by have := run_endLoop (P := P) hl (by rw [hrec]; simp); rw [hrec] at this; exact this, hstop _ c pre _ (Nat.le_refl _) hSp ((hIx c).putObj _ hi (by omega) hl rfl) ((World.putObj_heap_other (by omega)).trans hk)⟩
end Go.Proofs.YtfgacmgjpikgaaaGreatDoor
namespace Go.Proofs.YtfgacmgjpikgaaaGreatDoor
open Go.RowKit Go.Shelf
attribute [local go_sem] Oper.semAt_some
theorem infoBool : (Tryz.prog.info? 4).map (fun i => (i.zero, i.size, i.bytes)) = some (some (.bool false), 1, 1) := by kernel_rfl
theorem madeOne (z : Value) (hz : z.cells = #[z]) (k : Nat) : madeCells z.cells k = (List.replicate k z).toArray := by
 apply Array.ext
 ·
  rw [size_madeCells]; simp
 ·
  intro i h1 h2
  simp [madeCells, hz, Nat.mod_one]
theorem wpListIn_make_rep {F : Fence} {nF : Nat} {P : Program} (w : World) {ops : Array Oper} {rest : List Oper} {o : Oper} {a : Act} {Q : Exit → Act → World → Prop}
  (hg : o.guard = none) (l c : Operand) (t : TypeId) (hop : o.op = Op.makeSlice t l c)
  (e : TypeId) (i : TypeInfo) (z : Value) (h1 : P.underlying t = some (.slice e)) (h2 : P.info? e = some i) (h3 : i.zero = some z) (h4 : i.size = 1) (hz : z.cells = #[z])
  (n : Nat) (hl : a.eval l = .int .i64 (n : Int)) (hc : a.eval c = .int .i64 (n : Int)) (b2 : i.bytes * n ≤ 281474976710656) (b3 : n ≤ 1000000)
  (hK : wpListIn F nF P ops Q rest (a.put o.dst (.slice (some ⟨w.heap.size, 0, none⟩) n n)) (w.alloc (.cells (List.replicate n z).toArray e))) :
  wpListIn F nF P ops Q (o :: rest) a w := by
 have hb' : (i.bytes : Int) * (n : Int) ≤ 281474976710656 := by
  have h : ((i.bytes * n : Nat) : Int) ≤ 281474976710656 := by omega
  rwa [Int.natCast_mul] at h
 have hr := run_make (P := P) w t e i z h1 h2 h3 .i64 .i64 n n (by omega) (Int.le_refl _) hb' (by omega)
 simp only [Int.toNat_natCast, h4, Nat.mul_one, madeOne z hz] at hr
 refine wpListIn_plain hg fun K hK' => ?_
 unfold Oper.wpIn
 refine ⟨by simp [Oper.about, hop], ?_⟩
 rw [Oper.semAt_plain F _ _ (by rw [hop]; intro c hc'; cases hc')]
 simp [execOp, hop, hl, hc, hr, Result.andThen]
 exact hK' _ _ hK
def RdX (B X : Nat) (w : World) (A : Option Addr) (n : Nat) (xs : List Int) : Prop :=
 xs.length = n ∧ (0 < n → ∃ b o, A = some ⟨b, o, none⟩ ∧ b < B ∧ b ≠ X ∧ some b ≠ ownX X w ∧ ∀ j x, xs[j]? = some x → w.cell? ⟨b, o + j, none⟩ = some (.int .i64 x))
theorem RdX.at_ {B X : Nat} {w : World} {A : Option Addr} {n : Nat} {xs : List Int} (h : RdX B X w A n xs) {j : Nat} {x : Int} (hx : xs[j]? = some x) : ∃ b o, A = some ⟨b, o, none⟩ ∧ b < B ∧ b ≠ X ∧ some b ≠ ownX X w ∧ w.cell? ⟨b, o + j, none⟩ = some (.int .i64 x) := by
 obtain ⟨b, o, h1, h2, h3, h4, h5⟩ := h.2 (by have := (List.getElem?_eq_some_iff.1 hx).1; have := h.1; omega)
 exact ⟨b, o, h1, h2, h3, h4, h5 j x hx⟩
theorem RdX.of_rd {B B' X : Nat} {w : World} {A : Option Addr} {n : Nat} {xs : List Int} (h : Rd w B A n (i64s xs)) (hB : B ≤ X) (hB' : B ≤ B') (hO : ∀ g, ownX X w = some g → B ≤ g) : RdX B' X w A n xs := by
 refine ⟨h.ilen, fun hn => ?_⟩
 obtain ⟨b, o, h1, h2, h3⟩ := h.2 hn
 exact ⟨b, o, h1, by omega, by omega, fun e => by have := hO b e.symm; omega, fun j x hx => h3 j _ (by rw [List.getElem?_map, hx]; rfl)⟩
theorem own_after {base X : Nat} {W W' : World} (h : KeepX base X W W') {b : Nat} (hb : b < W.heap.size) (hO : some b ≠ ownX X W) : some b ≠ ownX X W' := by
 rcases h.own with e | ⟨g, e, hg⟩
 ·
  rw [e]; exact hO
 ·
  rw [e]; intro e'; injection e' with e'; omega
theorem RdX.keep {B X base : Nat} {w w' : World} {A : Option Addr} {n : Nat} {xs : List Int} (h : RdX B X w A n xs) (hk : KeepX base X w w') (hB : B ≤ w.heap.size) : RdX B X w' A n xs :=
 ⟨h.1, fun hn => by
  obtain ⟨b, o, h1, h2, h3, h4, h5⟩ := h.2 hn
  exact ⟨b, o, h1, h2, h3, own_after hk (by omega) h4, fun j x hx => hk.cell (h5 j x hx) h3 h4⟩⟩
theorem RdX.low {B X : Nat} {w w' : World} {A : Option Addr} {n : Nat} {xs : List Int} (h : RdX B X w A n xs) (hb : Below B w w') (hX : X < B) : RdX B X w' A n xs := by
 have e : ownX X w' = ownX X w := ownX_eq (hb.cell (p := ⟨X, 0, none⟩) hX)
 exact ⟨h.1, fun hn => by
  obtain ⟨b, o, h1, h2, h3, h4, h5⟩ := h.2 hn
  exact ⟨b, o, h1, h2, h3, by rw [e]; exact h4, fun j x hx => (hb.cell (p := ⟨b, o + j, none⟩) h2).trans (h5 j x hx)⟩⟩
structure SrW (base n₀ X gF : Nat) (W0 w : World) (F : List Bool) (v : Value) (m : Nat) (W : List Int) : Prop where
 low : Below base W0 w
 fnd : w.heap[gF]? = some (.cells (F.map Value.bool).toArray 4 (0, 0))
 own : w.ownsRow (gF + 1) 3 1 v m (i64s W)
 ox : ∀ g, ownX X w = some g → n₀ ≤ g ∧ g < w.heap.size ∧ g ≠ gF ∧ v.ownBlock ≠ some g
section
variable {base n₀ X gF : Nat} {W0 w w' : World} {F : List Bool} {v : Value} {m : Nat} {W : List Int}
theorem SrW.lt (h : SrW base n₀ X gF W0 w F v m W) : gF < w.heap.size := (Array.getElem?_eq_some_iff.1 h.fnd).1
theorem SrW.keep (h : SrW base n₀ X gF W0 w F v m W) (hk : KeepX base X w w') (hn : n₀ ≤ gF) (hX : X < n₀) : SrW base n₀ X gF W0 w' F v m W := by
 have hl := h.lt
 have hO : some gF ≠ ownX X w := fun e => (h.ox gF e.symm).2.2.1 rfl
 refine ⟨h.low.trans hk.low, hk.cells gF _ _ _ h.fnd (by omega) hO, ⟨h.own.1, ?_⟩, fun g hg => ?_⟩
 ·
  rcases h.own.2 with hv | ⟨g, cap, cur, e, hb, hgg, rest⟩
  ·
   exact .inl hv
  ·
   refine .inr ⟨g, cap, cur, e, hb, hk.cells g _ _ _ hgg (by omega) (fun e2 => ?_), rest⟩
   exact (h.ox g e2.symm).2.2.2 (by rw [e]; rfl)
 ·
  have hf := hk.fits (fun g hg => (h.ox g hg).2.1) g hg
  rcases hk.own with e | ⟨g', e, hg'⟩
  ·
   rw [e] at hg
   have := h.ox g hg
   exact ⟨this.1, hf, this.2.2⟩
  ·
   rw [e] at hg
   injection hg with hg
   subst hg
   exact ⟨by omega, hf, by omega, fun e2 => by have := (h.own.lt g' e2).2; omega⟩
theorem SrW.cell (h : SrW base n₀ X gF W0 w F v m W) {i : Nat} {b : Bool} (hb : F[i]? = some b) : w.cell? ⟨gF, i, none⟩ = some (.bool b) ∧ w.frozen? ⟨gF, i, none⟩ = false :=
 ⟨(cell_of_row w gF i _ _ (0, 0) h.fnd).trans (by simp [hb]), by simp [World.frozen?, h.fnd]⟩
theorem SrW.mark (h : SrW base n₀ X gF W0 w F v m W) (hn : n₀ ≤ gF) (hX : X < n₀) (hb : base ≤ n₀) (i : Nat) : SrW base n₀ X gF W0 (w.setCell ⟨gF, i, none⟩ (.bool true)) (F.set i true) v m W ∧ ItX n₀ X w (w.setCell ⟨gF, i, none⟩ (.bool true)) := by
 have hl := h.lt
 have hs : (w.setCell ⟨gF, i, none⟩ (.bool true)).heap.size = w.heap.size := by simp [World.setCell]
 have hother : ∀ k, k ≠ gF → (w.setCell ⟨gF, i, none⟩ (.bool true)).heap[k]? = w.heap[k]? := fun k hk => Below.heap_setCell w ⟨gF, i, none⟩ _ k hk
 have e : ownX X (w.setCell ⟨gF, i, none⟩ (.bool true)) = ownX X w := ownX_eq (World.cell?_of_block (w := w) (a := ⟨X, 0, none⟩) (hother X (by omega)))
 refine ⟨⟨h.low.setCell (p := ⟨gF, i, none⟩) (Nat.le_trans hb hn) _, ?_, ⟨h.own.1, ?_⟩, fun g hg => ?_⟩, (Below.refl n₀ w).setCell (p := ⟨gF, i, none⟩) hn _, fun g hg _ => hother g (h.ox g hg).2.2.1⟩
 ·
  have hh : (w.setCell ⟨gF, i, none⟩ (.bool true)).heap[gF]? = some (.cells ((F.map Value.bool).toArray.setIfInBounds i (.bool true)) 4 (0, 0)) := by simp [World.setCell, Array.getElem?_modify, h.fnd]
  rw [hh]
  congr 2
  apply Array.ext'
  simp [List.map_set]
 ·
  rcases h.own.2 with hv | ⟨g, cap, cur, e, hb, hgg, rest⟩
  ·
   exact .inl hv
  ·
   exact .inr ⟨g, cap, cur, e, hb, (hother g (by omega)).trans hgg, rest⟩
 ·
  rw [e] at hg
  rw [hs]
  exact h.ox g hg
theorem SrW.alloc (h : SrW base n₀ X gF W0 w F v m W) (hX : X < w.heap.size) (hbl : Below w.heap.size w w') (hb : base ≤ w.heap.size) : SrW base n₀ X gF W0 w' F v m W := by
 have e : ownX X w' = ownX X w := ownX_eq (hbl.cell (p := ⟨X, 0, none⟩) hX)
 refine ⟨h.low.trans (hbl.mono hb), (hbl.block _ h.lt).trans h.fnd, ownsRow_below h.own hbl, fun g hg => ?_⟩
 rw [e] at hg
 have := h.ox g hg
 exact ⟨this.1, Nat.lt_of_lt_of_le this.2.1 hbl.size, this.2.2⟩
theorem SrW.app (h : SrW base n₀ X gF W0 w F v m W) (hn : n₀ ≤ gF) (hX : X < n₀) (hb : base ≤ n₀) {v' : Value} {m' : Nat} {ys : List Int} (hown : w'.ownsRow (gF + 1) 3 1 v' m' (i64s ys)) (hg : w.grownBy w' v.ownBlock) (hat : v'.ownBlock = v.ownBlock ∨ v'.ownBlock = some w.heap.size) :
  SrW base n₀ X gF W0 w' F v' m' ys ∧ ItX n₀ X w w' := by
 have hl := h.lt
 have hob : ∀ k, v.ownBlock = some k → gF + 1 ≤ k := fun k hk => (h.own.lt k hk).1
 have e : ownX X w' = ownX X w := ownX_eq (World.cell?_of_block (w := w) (a := ⟨X, 0, none⟩) (hg.block X (by omega) (fun e => by have := hob X e.symm; omega)))
 refine ⟨⟨h.low.grown hg (by omega) (fun k hk => by have := hob k hk; omega), (hg.block gF hl (fun e => by have := hob gF e.symm; omega)).trans h.fnd, hown, fun g hg' => ?_⟩, ItX.of_grown hg (by omega) fun k hk => ⟨by have := hob k hk; omega, fun e2 => (h.ox k e2.symm).2.2.2 hk⟩⟩
 rw [e] at hg'
 have h1 := h.ox g hg'
 refine ⟨h1.1, Nat.lt_of_lt_of_le h1.2.1 hg.size, h1.2.2.1, fun e2 => ?_⟩
 rcases hat with e3 | e3
 ·
  exact h1.2.2.2 (e3 ▸ e2)
 ·
  rw [e3] at e2
  injection e2 with e2
  omega
end
theorem ownsRow_pop {w : World} {base g n cap : Nat} {e : TypeId} {xs : List Value} {x : Value} (h : w.ownsRow base e 1 (.slice (some ⟨g, 0, none⟩) (n + 1) cap) (n + 1) (xs ++ [x])) : w.ownsRow base e 1 (.slice (some ⟨g, 0, none⟩) n cap) n xs := by
 have hl : xs.length = n := by have := h.1; simp at this; omega
 rcases h.2 with ⟨h0, _⟩ | ⟨g', cap', cur, e0, hb, hg, h1, h2, h3, h4⟩
 ·
  cases h0
 ·
  injection e0 with e1 e2 e3
  injection e1 with e1
  injection e1 with e1
  subst e1 e3
  refine ⟨by simp [hl], .inr ⟨g, cap, cur, rfl, hb, hg, by omega, h2, h3, ?_⟩⟩
  have h5 := congrArg (List.take n) h4
  rw [List.take_take, List.take_append_of_le_length (by omega), ← hl, List.take_length] at h5
  rw [← h5, hl]
  congr 1
  omega
end Go.Proofs.YtfgacmgjpikgaaaGreatDoor
