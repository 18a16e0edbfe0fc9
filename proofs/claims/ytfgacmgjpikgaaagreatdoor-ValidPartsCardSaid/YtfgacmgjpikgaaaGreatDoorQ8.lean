/- Part 9 of the contracts and their mathematics. -/
import Derived.Test.YtfgacmgjpikgaaaGreatDoorQ2
import Derived.RangeFuncNested
import Derived.RangeFuncBound
import Derived.RangeFuncCalls
import Derived.RangeFuncLeaves
import Derived.RangeFuncWrites
import Derived.Deep.RegionHeld3
import Derived.OwnWalkIn
import Derived.OrdersIn
import Derived.Shelf.Abstract
import Derived.TacticsInMore
import Derived.LoopNIn
import Derived.LoopIn
import Derived.Sort.QuietIn
import Derived.Stop.RegionWithIn
set_option linter.unusedVariables false
set_option linter.unusedSimpArgs false
namespace Go.Proofs.YtfgacmgjpikgaaaGreatDoor
open Go.RowKit
set_option maxHeartbeats 1000000 in
theorem TypeAt_any {A : Option Addr} {n c : Nat} {L : List TyW} {i : Nat} {x : TyW} (hx : L[i]? = some x) (w : World) (hA : Typs w w.heap.size A n L) (hn : n ≤ maxLen) :
  Calls Tryz.prog 126 #[.slice A n c, .int .i64 (i : Int)] w fun e w' => e = .returned (aggT x) ∧ Below w.heap.size w w' := by
 obtain ⟨⟨k, mu, r, el, fs⟩, Af, nf, cf⟩ := x
 have hi : i < n := by have := (List.getElem?_eq_some_iff.1 hx).1; have := hA.len; omega
 have hi' : (i : Int) < (n : Int) := by omega
 have HZ := hide ((Below.refl w.heap.size w).alloc (Nat.le_refl _) (.cells #[.int .i64 0, .bool false, .int .i64 0, .int .i64 0, .slice none 0 0] 62))
 have HIN := hide (show tyIn (i : Int) (n : Int) = true from tyIn_iff.2 ⟨by omega, hi'⟩)
 obtain ⟨b, o, rfl, hbB, _, c0, c1, c2, c3, c4⟩ := (hA.below HZ.out).at_ hx
 unfold maxLen at hn
 clear hA hx
 go_enter Tryz.func126, Tryz.ntmps126
 go_wp2_with fail
 refine (Within_is HIN.out _).mono ?_
 rintro e w1 ⟨rfl, rfl⟩
 go_wp2_with fail
 refine bodyPost_ret (results_cell_row rfl _ _ w.heap.size _ #[.int .i64 k, .bool mu, .int .i64 r, .int .i64 el, .slice Af nf cf] (0, 0) _ rfl (heap_alloc_new w _) Tryz.underlying62 rfl (by kernel_rfl)) rfl ⟨rfl, (Below.refl w.heap.size w).alloc (Nat.le_refl _) _⟩
set_option maxHeartbeats 2000000 in
theorem Project_any {A : Option Addr} {n c : Nat} {L : List TyW} {i : Nat} {x : TyW} (hx : L[i]? = some x) (p : Pr) (w : World) (hA : Typs w w.heap.size A n L) (hn : n ≤ maxLen) :
  Calls Tryz.prog 113 #[.slice A n c, .int .i64 (i : Int), aggP p] w fun e w' => e = .returned (.tuple #[.int .i64 (stepT x.t p).1, .int .i64 (stepT x.t p).2]) ∧ Below w.heap.size w w' := by
 obtain ⟨pk, pf⟩ := p
 have HZ := hide ((Below.refl w.heap.size w).alloc (Nat.le_refl _) (.cells #[.int .i64 pk, .int .i64 pf] 102))
 have HA := hide (hA.up HZ.out)
 have hO := hA.one x (List.mem_of_getElem? hx)
 have HO := hide hO
 have hok := hO.ok
 have HC := hide fun (w' : World) (h : Below (w.alloc (.cells #[.int .i64 pk, .int .i64 pf] 102)).heap.size (w.alloc (.cells #[.int .i64 pk, .int .i64 pf] 102)) w') => show w'.cell? ⟨w.heap.size, 0, none⟩ = some (.int .i64 pk) ∧ w'.cell? ⟨w.heap.size, 1, none⟩ = some (.int .i64 pf) from
  ⟨(h.cell (p := ⟨w.heap.size, 0, none⟩) (by simp)).trans (by simp [go_sem]), (h.cell (p := ⟨w.heap.size, 1, none⟩) (by simp)).trans (by simp [go_sem])⟩
 have HS := hide (stepT_cases x.t (pk, pf))
 have HT := hide fun w' hA' => TypeAt_any (A := A) (n := n) (c := c) hx w' hA' hn
 obtain ⟨⟨k, mu, r, el, fs⟩, Af, nf, cf⟩ := x
 have hlen : fs.length = nf := hok.len
 have hnf : nf ≤ cf := hok.nc
 have hcf : cf ≤ maxLen := hok.cm
 have HW := hide (Nat.le_of_lt (Nat.lt_succ_self w.heap.size))
 unfold maxLen at hn hcf
 clear hA hx hO hok
 go_enter Tryz.func113, Tryz.ntmps113
 go_wp2_with fail
 refine (HT.out _ HA.out).mono ?_
 rintro e w1 ⟨rfl, hb⟩
 obtain ⟨c0, c1⟩ := HC.out _ (hb.alloc hb.size (.cells #[.int .i64 k, .bool mu, .int .i64 r, .int .i64 el, .slice Af nf cf] 62))
 have HB := hide (HZ.out.trans (hb.mono HZ.out.size))
 have HB2 := hide (HB.out.alloc HB.out.size (.cells #[.int .i64 k, .bool mu, .int .i64 r, .int .i64 el, .slice Af nf cf] 62))
 clear hb HT HC HA
 rcases HS.out with ⟨h1, h2, h3⟩ | ⟨h1, h2, q, v, hq, hv, h3⟩ | ⟨h1, h2, h4, h3⟩ | ⟨h1, h2, h3⟩
 ·
  subst h1 h2
  have HF := hide h3
  clear h3
  go_wp2
  refine bodyPost_ret (results_tmp2 rfl _ _ _) rfl ?_
  exact ⟨congrArg (fun z : Int × Int => Ending.returned (.tuple #[.int .i64 z.1, .int .i64 z.2])) HF.out.symm, HB2.out⟩
 ·
  subst h1 h2 hq
  have hql := (List.getElem?_eq_some_iff.1 hv).1
  have hql' : (q : Int) < (nf : Int) := by omega
  have HIN := hide (show tyIn (q : Int) (nf : Int) = true from tyIn_iff.2 ⟨by omega, hql'⟩)
  have HF := hide h3
  obtain ⟨b, o, hAf, _, d0⟩ := (HO.out.below HB2.out).rd.int hv
  simp only [] at hAf
  subst hAf
  clear h3 hv
  go_wp2_with fail
  refine (Within_is HIN.out _).mono ?_
  rintro e w2 ⟨rfl, rfl⟩
  go_wp2
  refine bodyPost_ret (results_tmp2 rfl _ _ _) rfl ?_
  exact ⟨congrArg (fun z : Int × Int => Ending.returned (.tuple #[.int .i64 z.1, .int .i64 z.2])) HF.out.symm, HB2.out⟩
 ·
  subst h1 h2
  have HIN := hide (show tyIn pf (nf : Int) = false from tyIn_not.2 (hlen ▸ h4))
  have HF := hide h3
  clear h3 h4
  go_wp2_with fail
  refine (Within_is HIN.out _).mono ?_
  rintro e w2 ⟨rfl, rfl⟩
  go_wp2
  refine bodyPost_ret (results_tmp2 rfl _ _ _) rfl ?_
  exact ⟨congrArg (fun z : Int × Int => Ending.returned (.tuple #[.int .i64 z.1, .int .i64 z.2])) HF.out.symm, HB2.out⟩
 ·
  have HF := hide h3
  clear h3
  by_cases p0 : pk = 0
  ·
   subst p0
   have k3 : ¬ k = 3 := fun h => h1 ⟨rfl, h⟩
   have t1 : (k == 3) = false := by simpa using k3
   clear h1 h2 k3
   go_wp2
   refine bodyPost_ret (results_tmp2 rfl _ _ _) rfl ?_
   exact ⟨congrArg (fun z : Int × Int => Ending.returned (.tuple #[.int .i64 z.1, .int .i64 z.2])) HF.out.symm, HB2.out⟩
  ·
   have t0 : (pk == 0) = false := by simpa using p0
   by_cases p1 : pk = 1
   ·
    subst p1
    have k4 : ¬ k = 4 := fun h => h2 ⟨rfl, h⟩
    have t1 : (k != 4) = true := by rw [bne_iff_ne]; exact k4
    clear h1 h2 k4 t0 p0
    go_wp2
    refine bodyPost_ret (results_tmp2 rfl _ _ _) rfl ?_
    exact ⟨congrArg (fun z : Int × Int => Ending.returned (.tuple #[.int .i64 z.1, .int .i64 z.2])) HF.out.symm, HB2.out⟩
   ·
    have t2 : (pk != 1) = true := by rw [bne_iff_ne]; exact p1
    clear h1 h2 p0 p1
    go_wp2
    refine bodyPost_ret (results_tmp2 rfl _ _ _) rfl ?_
    exact ⟨congrArg (fun z : Int × Int => Ending.returned (.tuple #[.int .i64 z.1, .int .i64 z.2])) HF.out.symm, HB2.out⟩
def KeepT (n₀ : Nat) (Ts : List TypeId) (W W' : World) : Prop := Below n₀ W W' ∧ ∀ (t : TypeId) (B : Nat) (cs : Array Value) (fr : Nat × Nat), t ∈ Ts → W.heap[B]? = some (.cells cs t fr) → W'.heap[B]? = some (.cells cs t fr)
section
variable {n₀ : Nat} {Ts : List TypeId} {W W' W'' : World}
theorem KeepT.refl (n₀ : Nat) (Ts : List TypeId) (W : World) : KeepT n₀ Ts W W := ⟨Below.refl _ _, fun _ _ _ _ _ h => h⟩
theorem KeepT.trans (h : KeepT n₀ Ts W W') (k : KeepT n₀ Ts W' W'') : KeepT n₀ Ts W W'' := ⟨h.1.trans k.1, fun t B cs fr ht hB => k.2 t B cs fr ht (h.2 t B cs fr ht hB)⟩
theorem KeepT.of_below (h : Below W.heap.size W W') (hn : n₀ ≤ W.heap.size) : KeepT n₀ Ts W W' := ⟨h.mono hn, fun t B cs fr _ hB => (h.block B (Array.getElem?_eq_some_iff.1 hB).1).trans hB⟩
theorem KeepT.grown {row : Option Nat} (hg : W.grownBy W' row) (hn : n₀ ≤ W.heap.size) (hrow : ∀ k, row = some k → n₀ ≤ k ∧ ∃ cs t fr, W.heap[k]? = some (.cells cs t fr) ∧ t ∉ Ts) : KeepT n₀ Ts W W' :=
 ⟨(Below.refl n₀ W).grown hg hn (fun k e => (hrow k e).1), fun t B cs fr ht hB => (hg.block B (Array.getElem?_eq_some_iff.1 hB).1 (fun e => by
  obtain ⟨_, cs', t', fr', h1, h2⟩ := hrow B e.symm
  rw [hB] at h1
  injection h1 with h1
  injection h1 with _ h1 _
  exact h2 (h1 ▸ ht))).trans hB⟩
theorem KeepT.box {B : Nat} {t : TypeId} {v : Value} (h : Boxed W B t v) (hB : n₀ ≤ B) (ht : t ∉ Ts) (v' : Value) : KeepT n₀ Ts W (W.setCell ⟨B, 0, none⟩ v') :=
 KeepT.grown (grownBy_setCell' W B v') (Nat.le_trans hB (Nat.le_of_lt h.lt)) (fun k e => by cases e; exact ⟨hB, _, _, _, h, ht⟩)
theorem KeepT.row {base k n : Nat} {e : TypeId} {v : Value} {xs : List Value} (hg : W.grownBy W' v.ownBlock) (hown : W.ownsRow base e k v n xs) (hb : n₀ ≤ base) (hn : n₀ ≤ W.heap.size) (ht : e ∉ Ts) : KeepT n₀ Ts W W' :=
 KeepT.grown hg hn (fun q hq => by
  refine ⟨Nat.le_trans hb (hown.lt q hq).1, ?_⟩
  rcases hown.2 with ⟨rfl, _⟩ | ⟨g, cap, cur, rfl, _, hgg, _⟩
  ·
   cases hq
  ·
   have : g = q := by simpa [Value.ownBlock] using hq
   subst this
   exact ⟨_, _, _, hgg, ht⟩)
theorem keepT_b {w : World} (hn : n₀ ≤ w.heap.size) (W : World) (l : Nat) (o o' : Obj) (hl : w.heap.size ≤ l) (h : W.heap[l]? = some o) (hc : o.isCells = false) (hw : o.isWalk = false) : KeepT n₀ Ts W (W.putObj l o') :=
 ⟨belowK_b hn W l o o' hl h hc hw, fun t B cs fr ht hB => ((grownBy_putObj' W l o').block B (Array.getElem?_eq_some_iff.1 hB).1 (fun e => by
  injection e with e
  subst e
  rw [h] at hB
  injection hB with hB
  subst hB
  cases hc)).trans hB⟩
end
theorem grown_of_below {W W' : World} (h : Below W.heap.size W W') : W.grownBy W' none := ⟨h.os, h.tape, h.output, h.size, fun k hk _ => h.block k hk⟩
theorem cell_of_heap {W : World} {B : Nat} {cs : Array Value} {t : TypeId} {fr : Nat × Nat} (h : W.heap[B]? = some (.cells cs t fr)) (j : Nat) : W.cell? ⟨B, j, none⟩ = cs[j]? := cell_of_row W B j cs t fr h
section
variable {P : Program} {l n : Nat} {Q : Exit → Act → World → Prop}
theorem rows_in {row : String} {args : Array Value} {w : World} {R : Value → World → Prop} (h : Rows P row args w R) : RowsIn (Fence.wide.inRound l) n P row args w R := fun c cs _ => by
 obtain ⟨v, w', hR, hs⟩ := h c cs
 exact ⟨v, w', hR, stepsIn_wide.2 hs⟩
theorem oper_in {o : Oper} {a : Act} {w : World} {K : Act → World → Prop} (hnd : ∀ c, o.op ≠ .defer c) (h : o.wp P a w K Q) : o.wpIn (Fence.wide.inRound l) n P a w K Q := by
 refine ⟨fun _ _ => trivial, ?_⟩
 rw [Oper.semAt_plain _ _ _ hnd]
 unfold Oper.wp at h
 generalize (execOp a.eval o).run P w = r at *
 rcases r with ⟨x, w'⟩ | ⟨x, w'⟩
 ·
  cases x with
  | value v => exact h
  | skip => exact h
  | defer d => exact h
  | enter f args => exact ⟨(fun h' => by cases h'), CallsIn.inRound l (callsIn_wide.2 h)⟩
  | row r args => exact ⟨(fun h' => by cases h'), rows_in h⟩
  | round l f tmps assign body => exact (h : False).elim
  | _ => exact (h : False).elim
 ·
  cases x with
  | panic v => exact h
  | _ => exact (h : False).elim
def noDefer (ops : Array Oper) : Bool := ops.all fun o => match o.op with | .defer _ => false | _ => true
theorem noDefer_at {ops : Array Oper} (h : noDefer ops = true) {i : Nat} {o : Oper} (hi : ops[i]? = some o) : ∀ c, o.op ≠ .defer c := by
 intro c hc
 unfold noDefer at h
 rw [Array.all_eq_true] at h
 obtain ⟨hlt, he⟩ := Array.getElem?_eq_some_iff.1 hi
 have := h i hlt
 rw [he, hc] at this
 cases this
theorem wpAny_in {md : Region.Mode} {ops : Array Oper} (hnd : noDefer ops = true) (hq : ¬ LetsOut Q) : ∀ (fuel : Nat) (listed : Array Bool) (a : Act) (w : World), wpAny P md ops Q fuel listed a w → wpAnyIn (Fence.wide.inRound l) n P md ops Q fuel listed a w
 | 0, _, _, _, h => h
 | fuel + 1, listed, a, w, h => ⟨h.1, fun i hi => by
  have h2 := h.2 i hi
  unfold wpOp at h2
  unfold wpOpIn
  rcases ho : ops[i]? with _ | o
  ·
   rw [ho] at h2
   exact wpAny_in hnd hq fuel _ _ _ h2
  ·
   rw [ho] at h2
   simp only [] at h2 ⊢
   split
   ·
    rename_i hw
    rw [if_pos hw] at h2
    rcases h2 with h2 | ⟨_, h2⟩
    ·
     exact oper_in (noDefer_at hnd ho) (Oper.wp_mono (fun a' w' h' => wpAny_in hnd hq fuel _ a' w' h') h2)
    ·
     exact absurd h2 hq
   ·
    rename_i hw
    rw [if_neg hw] at h2
    exact ⟨fun _ _ => trivial, wpAny_in hnd hq fuel _ _ _ h2⟩⟩
theorem region_in {S : World → Prop} {id : Nat} {ops : Array Oper} {a : Act} {w : World} (hm : P.follows .mixedOrders = true) (hnd : noDefer ops = true) (hq : ¬ LetsOut Q) (hS : S w.drew)
  (h : S w.drew → wpAnyH P .any ops Q S ops.size (Array.replicate ops.size false) a w.drew) : (Code.region id ops true).wpIn (Fence.wide.inRound l) n P Q a w :=
 wpIn_region_any hm (wpAny_in hnd hq _ _ _ _ (wpAny_of_held _ _ _ _ (h hS)))
end
end Go.Proofs.YtfgacmgjpikgaaaGreatDoor
namespace Go.Proofs.YtfgacmgjpikgaaaGreatDoor
open Go.RowKit Go.Shelf
attribute [local go_sem] Oper.semAt_some
structure KeepTX (n₀ : Nat) (Ts : List TypeId) (X : Nat) (W W' : World) : Prop where
 low : Below n₀ W W'
 cells : ∀ (t : TypeId) (B : Nat) (cs : Array Value) (fr : Nat × Nat), t ∈ Ts → B ≠ X → W.heap[B]? = some (.cells cs t fr) → W'.heap[B]? = some (.cells cs t fr)
section
variable {n₀ X : Nat} {Ts : List TypeId} {W W' W'' : World}
theorem KeepTX.refl (n₀ : Nat) (Ts : List TypeId) (X : Nat) (W : World) : KeepTX n₀ Ts X W W := ⟨Below.refl _ _, fun _ _ _ _ _ _ h => h⟩
theorem KeepTX.trans (h : KeepTX n₀ Ts X W W') (k : KeepTX n₀ Ts X W' W'') : KeepTX n₀ Ts X W W'' := ⟨h.low.trans k.low, fun t B cs fr ht hX hB => k.cells t B cs fr ht hX (h.cells t B cs fr ht hX hB)⟩
theorem KeepTX.of_t (h : KeepT n₀ Ts W W') : KeepTX n₀ Ts X W W' := ⟨h.1, fun t B cs fr ht _ hB => h.2 t B cs fr ht hB⟩
theorem KeepTX.of_below (h : Below W.heap.size W W') (hn : n₀ ≤ W.heap.size) : KeepTX n₀ Ts X W W' := .of_t (.of_below h hn)
theorem KeepTX.boxX {t : TypeId} {v : Value} (h : Boxed W X t v) (hX : n₀ ≤ X) (v' : Value) : KeepTX n₀ Ts X W (W.setCell ⟨X, 0, none⟩ v') :=
 ⟨(Below.refl n₀ W).grown (grownBy_setCell' W X v') (Nat.le_trans hX (Nat.le_of_lt h.lt)) (fun k e => by cases e; exact hX), fun t B cs fr ht hBX hB => ((grownBy_setCell' W X v').block B (Array.getElem?_eq_some_iff.1 hB).1 (fun e => hBX (by injection e))).trans hB⟩
theorem keepTX_t {A B C : World} (h : KeepTX n₀ Ts X A B) (k : KeepTX n₀ Ts X B C) : KeepTX n₀ Ts X A C := h.trans k
theorem keepTX_b {w : World} (hn : n₀ ≤ w.heap.size) (W : World) (l : Nat) (o o' : Obj) (hl : w.heap.size ≤ l) (h : W.heap[l]? = some o) (hc : o.isCells = false) (hw : o.isWalk = false) : KeepTX n₀ Ts X W (W.putObj l o') := .of_t (keepT_b hn W l o o' hl h hc hw)
end
theorem abides_below8 {β : Type} {B : Nat} {J : β → World → Prop} (h : AbidesFrom B J) {s : β} {W W' : World} (hs : J s W) (hb : Below W.heap.size W W') : J s W' :=
 h s W W' none hs (grown_of_below hb) (fun r e => by cases e)
def plTs : List TypeId := [24, 25, 36, 102]
abbrev StX (T : List Ty) (t : Int) (ps : List Pr) := { m : Nat // Stp T t ps m }
def penc (x : PlW) (T : List Ty) (t : Int) (m : StX T t x.ps) : Array Value := #[.agg #[.int .i64 x.l, .slice x.A m.1 x.c], .int .i64 (tyA T t x.ps m.1)]
def AllY (T : List Ty) (t : Int) (ps : List Pr) (ys : List (StX T t ps)) : Prop := ∃ m, Stp T t ps m ∧ ys.map (·.1) = List.range (m + 1) ∧ (m = ps.length ∨ ∃ p, ps[m]? = some p ∧ (stepT (tyGet T (tyA T t ps m)) p).2 ≠ 0)
theorem st_snoc {T : List Ty} {t : Int} {ps : List Pr} {pre : List (StX T t ps)} {m : Nat} (h : pre.map (·.1) = List.range m) (hm : Stp T t ps m) : (pre ++ [(⟨m, hm⟩ : StX T t ps)]).map (·.1) = List.range (m + 1) := by
 rw [List.map_append, h, List.range_succ]; rfl
theorem st_len {T : List Ty} {t : Int} {ps : List Pr} {pre : List (StX T t ps)} {m : Nat} (h : pre.map (·.1) = List.range m) : pre.length = m := by
 have := congrArg List.length h
 simpa using this
def AnyP {β : Type} (_ : List β) : Prop := True
def AltY {β : Type} (J Jx : List β → World → Prop) (Kp : World → World → Prop) (pre : List β) (W1 : World) (e : Ending) (W' : World) : Prop := ∃ b : Bool, e = .returned (.bool b) ∧ (b = true → J pre W' ∧ Kp W1 W') ∧ (b = false → Jx pre W')
theorem altY_of {β : Type} {J Jx : List β → World → Prop} {Kp : World → World → Prop} {pre : List β} {W1 : World} (e : Ending) (W' : World) (h : (e = .returned (.bool true) ∧ J pre W' ∧ Kp W1 W') ∨ (e = .returned (.bool false) ∧ Jx pre W')) : AltY J Jx Kp pre W1 e W' := by
 rcases h with ⟨rfl, h⟩ | ⟨rfl, h⟩
 ·
  exact ⟨true, rfl, fun _ => h, (fun e => by cases e)⟩
 ·
  exact ⟨false, rfl, (fun e => by cases e), fun _ => h⟩
theorem along_in (n : Nat) (At Al : Option Addr) (nt ct nl cl : Nat) (x : PlW) (w : World) :
  CallsIn Fence.wide n Tryz.prog 112 #[.slice At nt ct, .slice Al nl cl, aggPl x] w fun e w' => e = .returned (.func (.func 125) #[] #[.pointer (some ⟨w.heap.size + 2, 0, none⟩), .pointer (some ⟨w.heap.size + 1, 0, none⟩), .pointer (some ⟨w.heap.size, 0, none⟩)]) ∧
   w' = ((w.alloc (.cells #[.slice At nt ct] 24)).alloc (.cells #[.slice Al nl cl] 25)).alloc (.cells #[.int .i64 x.l, .slice x.A x.n x.c] 36) := by
 obtain ⟨l, A, m, c, ps⟩ := x
 refine callsIn_of_wp Tryz.func112 rfl trivial ?_ rfl
 simp only [Tryz.ntmps112, List.size_toArray, List.length_cons, List.length_nil, Nat.reduceAdd, Nat.reduceSub, Array.replicate_succ, Array.replicate_zero, List.push_toArray, List.append_toArray, List.nil_append, List.cons_append]
 gi_wp2
 go_ret
 exact ⟨rfl, rfl⟩
set_option maxRecDepth 100000 in
set_option maxHeartbeats 4000000 in
theorem along1_in (n : Nat) (hn : 1 ≤ n) (l Bt Bl Bp X n₀ : Nat) (At Al : Option Addr) (nt ct nl cl : Nat) (L : List TyW) (LL : List LcW) (x : PlW) (k : Nat) (lc : LcW) (r : Int)
  (hT : TyOk (tys L) r) (hnt : nt ≤ maxLen) (hnl : nl ≤ maxLen) (hxn : x.n ≤ x.c) (hxc : x.c ≤ maxLen) (hk : x.l = (k : Int)) (hlc : LL[k]? = some lc) (ht0 : 0 ≤ lc.ty) (ht1 : lc.ty < (L.length : Int))
  (J Jx : List (StX (tys L) lc.ty x.ps) → World → Prop) (B0 : Nat) (hJ : AbidesFrom B0 J) (hJx : AbidesFrom B0 Jx)
  (hY : ∀ pre y W, J pre W → pre.length < x.ps.length + 1 → YieldAt Fence.wide (n - 1) Tryz.prog l (penc x (tys L) lc.ty y) W fun e W' =>
   (e = .returned (.bool true) ∧ J (pre ++ [y]) W' ∧ KeepTX n₀ plTs X W W') ∨ (e = .returned (.bool false) ∧ Jx (pre ++ [y]) W'))
  (W : World) (hBt : Boxed W Bt 24 (.slice At nt ct)) (hBl : Boxed W Bl 25 (.slice Al nl cl)) (hBp : W.heap[Bp]? = some (.cells #[.int .i64 x.l, .slice x.A x.n x.c] 36 (0, 0)))
  (hXt : Bt ≠ X) (hXl : Bl ≠ X) (hXp : Bp ≠ X) (hXW : X < W.heap.size)
  (hA : Typs W n₀ At nt L) (hL : Locs W n₀ Al nl LL) (hP : Prs W n₀ x.A x.n x.ps) (hn0 : n₀ ≤ W.heap.size) (h0 : J [] W) :
  CallsIn Fence.wide n Tryz.prog 125 #[.func (.yield l) #[] #[], .pointer (some ⟨Bp, 0, none⟩), .pointer (some ⟨Bl, 0, none⟩), .pointer (some ⟨Bt, 0, none⟩)] W fun e W' => (∃ v, e = .returned v) ∧
   ((∃ ys, AllY (tys L) lc.ty x.ps ys ∧ J ys W') ∨ (∃ pre, AnyP pre ∧ Jx pre W')) := by
 have HJ := hide fun (pre : List (StX (tys L) lc.ty x.ps)) (W W' : World) (h : J pre W) (hb : Below W.heap.size W W') => abides_below8 hJ h hb
 have HPR := hide fun (i : Nat) (u : TyW) (hu : L[i]? = some u) (p : Pr) (w : World) (h : Typs w w.heap.size At nt L) => Project_any (c := ct) hu p w h hnt
 have HYY := hide hY
 have HTO := hide hT
 have hxl : x.ps.length = x.n := hP.len
 have hll := (List.getElem?_eq_some_iff.1 hlc).1
 have hnll := hL.len
 have HIN := hide (show tyIn (k : Int) (nl : Int) = true from tyIn_iff.2 ⟨by omega, by omega⟩)
 obtain ⟨bl, ol, rfl, hbl, q0, q1⟩ := hL.at_ hlc
 have c0 : W.cell? ⟨Bp, 0, none⟩ = some (.int .i64 x.l) := cell_of_heap hBp 0
 have c1 : W.cell? ⟨Bp, 1, none⟩ = some (.slice x.A x.n x.c) := cell_of_heap hBp 1
 have cl0 := hBl.cell
 have HRES := hide fun (m : Nat) (h : Stp (tys L) lc.ty x.ps m) => h.lt hT ht0 (by rw [tys_len]; exact ht1)
 obtain ⟨lx, Ax, nx, cx, ps⟩ := x
 simp only [] at hk hxn hxc hxl hBp hP c0 c1
 subst hk
 have hkl : (k : Int) < (nl : Int) := by omega
 have HJW := hide (HJ.out [] W W.drew h0 (Below.refl _ _).drew)
 obtain ⟨lnm, lty⟩ := lc
 unfold maxLen at hnt hnl hxc
 clear hJ hY hT
 refine callsIn_of_wp Tryz.func125 rfl trivial ?_ rfl
 simp only [Tryz.ntmps125, List.size_toArray, List.length_cons, List.length_nil, Nat.reduceAdd, Nat.reduceSub, Array.replicate_succ, Array.replicate_zero, List.push_toArray, List.append_toArray, List.nil_append, List.cons_append]
 gi_wp2_with (refine ⟨trivial, ?_⟩; gi_at_call 111; refine (callsIn_wide.2 (Within_is HIN.out _)).mono ?_; rintro e w1 ⟨rfl, rfl⟩)
 have HW0 := hide (KeepTX.refl n₀ plTs X W)
 gi_loopw [5, 25] (fun p q wr => ∃ (pre : List (StX (tys L) lty ps)) (m : Nat), p = .int .i64 (tyA (tys L) lty ps m) ∧ q = .int .i64 (m : Int) ∧ Hid (pre.map (·.1) = List.range m) ∧ Hid (Stp (tys L) lty ps m) ∧ m ≤ nx ∧ J pre wr ∧ KeepTX n₀ plTs X W wr ∧ n₀ ≤ wr.heap.size)
  (fun _ q _ => nx - (intOf q).toNat)
 case atStart =>
  exact ⟨[], 0, rfl, rfl, rfl, Stp.zero _ _ _, Nat.zero_le _, h0, HW0.out, hn0⟩
 case round =>
  obtain ⟨pre, m, rfl, rfl, HP0, HS, hm, hJs, hK, hnw⟩ := hrel
  have hB1 : wr.heap[Bt]? = some (.cells #[.slice At nt ct] 24 (0, 0)) := hK.cells _ _ _ _ (by simp [plTs]) hXt hBt
  have hB3 : wr.heap[Bp]? = some (.cells #[.int .i64 (k : Int), .slice Ax nx cx] 36 (0, 0)) := hK.cells _ _ _ _ (by simp [plTs]) hXp hBp
  have hXwr : X < wr.heap.size := Nat.lt_of_lt_of_le hXW (hK.low.size)
  have HK := hide hK
  have HAw := hide (hA.below hK.low)
  have HPw := hide (hP.below hK.low)
  clear hK
  by_cases hlt : m < nx
  ·
   have hlt' : (m : Int) < (nx : Int) := by omega
   obtain ⟨p, hp⟩ : ∃ p, ps[m]? = some p := ⟨_, List.getElem?_eq_getElem (by omega)⟩
   obtain ⟨b, o, rfl, hbB, hi, d0, d1⟩ := HPw.out.at_ hp
   obtain ⟨pk, pf⟩ := p
   simp only [] at d0 d1
   have HB2 := hide ((Below.refl wr.heap.size wr).alloc (Nat.le_refl _) (.cells #[.int .i64 pk, .int .i64 pf] 102))
   have e0 : ((wr.alloc (.cells #[.int .i64 pk, .int .i64 pf] 102)).drew).cell? ⟨Bp, 0, none⟩ = some (.int .i64 (k : Int)) := cell_of_heap ((HB2.out.drew.block Bp (Array.getElem?_eq_some_iff.1 hB3).1).trans hB3) 0
   have e1 : ((wr.alloc (.cells #[.int .i64 pk, .int .i64 pf] 102)).drew).cell? ⟨Bp, 1, none⟩ = some (.slice (some ⟨b, o, none⟩) nx cx) := cell_of_heap ((HB2.out.drew.block Bp (Array.getElem?_eq_some_iff.1 hB3).1).trans hB3) 1
   have hJ2 := HJ.out _ _ _ hJs HB2.out.drew
   have HYm := HYY.out pre ⟨m, HS.out⟩ _ hJ2 (by have := st_len HP0.out; omega)
   have HP1 := hide (st_snoc HP0.out HS.out)
   simp only [penc] at HYm
   have hmc : m ≤ cx := by omega
   clear hJ2 hi
   obtain ⟨fn, tmps, assign, body, hy, hR⟩ := HYm
   have hR2 := hR.mono altY_of
   have HPP := hide hp
   clear hR hp
   gi_wp2
   gi_region_with (first | (refine hR2.mono ?_; rintro e w3 ⟨bb, rfl, hgo, hno⟩))
   all_goals
    clear hR2 hy
    have HGO := hide hgo
    have HNO := hide hno
    clear hgo hno
    cases bb
    ·
     gi_wp2
     refine bodyPost_ret (results_none rfl _ _ _) rfl ?_
     exact ⟨⟨_, rfl⟩, .inr ⟨_, True.intro, HNO.out (by trivial)⟩⟩
    ·
     have hk3 := (HGO.out (by trivial)).2
     have HJ3 := hide (HGO.out (by trivial)).1
     have HK3 := hide (HK.out.trans ((KeepTX.of_below HB2.out.drew hnw).trans hk3))
     have hw3 : wr.heap.size + 1 ≤ w3.heap.size := by
      have := hk3.low.size
      simpa using this
     have hB6 : w3.heap[wr.heap.size]? = some (.cells #[.int .i64 pk, .int .i64 pf] 102 (0, 0)) := hk3.cells _ _ _ _ (by simp [plTs]) (by omega) (heap_alloc_new wr _)
     have hB1' : w3.heap[Bt]? = some (.cells #[.slice At nt ct] 24 (0, 0)) := HK3.out.cells _ _ _ _ (by simp [plTs]) hXt hBt
     have x0 : w3.cell? ⟨wr.heap.size, 0, none⟩ = some (.int .i64 pk) := cell_of_heap hB6 0
     have x1 : w3.cell? ⟨wr.heap.size, 1, none⟩ = some (.int .i64 pf) := cell_of_heap hB6 1
     have t0 : w3.cell? ⟨Bt, 0, none⟩ = some (.slice At nt ct) := cell_of_heap hB1' 0
     obtain ⟨i, u, hti, hu⟩ := HRES.out m HS.out
     obtain ⟨y, hy, hyt⟩ := tys_back hu
     obtain ⟨g1, g2⟩ := erA_up (T := tys L) (t := lty) HPP.out HS.out.ok
     have HERR := hide fun (he : (stepT (tyGet (tys L) (tyA (tys L) lty ps m)) (pk, pf)).2 ≠ 0) => (show AllY (tys L) lty ps _ from ⟨m, HS.out, HP1.out, .inr ⟨_, HPP.out, he⟩⟩)
     have hgy : tyGet (tys L) (tyA (tys L) lty ps m) = y.t := by rw [hti, hyt]; exact tyGet_at hu
     rw [hgy] at g1 g2 HERR
     have HCP := hide (show Calls Tryz.prog 113 #[.slice At nt ct, .int .i64 (tyA (tys L) lty ps m), .agg #[.int .i64 pk, .int .i64 pf]] w3 fun e w' => e = .returned (.tuple #[.int .i64 (tyA (tys L) lty ps (m + 1)), .int .i64 (stepT y.t (pk, pf)).2]) ∧ Below w3.heap.size w3 w' by
      rw [hti, g1]
      exact HPR.out i y hy (pk, pf) w3 ((hA.below HK3.out.low).more (Nat.le_trans hn0 HK3.out.low.size)))
     obtain ⟨ev, hev⟩ : ∃ ev, (stepT y.t (pk, pf)).2 = ev := ⟨_, rfl⟩
     rw [hev] at HCP g2 HERR
     have HG2 := hide g2
     clear hk3 HGO HNO hB6 hB1' hti hu hy hyt g1 g2 hgy hev
     have hn3 : n₀ ≤ w3.heap.size := by omega
     by_cases hev0 : ev = 0
     ·
      subst hev0
      have HS4 : Hid (Stp (tys L) lty ps (m + 1)) := (show Stp _ _ _ _ from ⟨by omega, HG2.out⟩)
      clear HERR
      gi_wp2_with (refine ⟨trivial, ?_⟩; gi_at_call 113; refine (callsIn_wide.2 HCP.out).mono ?_; rintro e w4 ⟨rfl, hb4⟩)
      have HJ4 := hide (HJ.out _ _ _ HJ3.out hb4)
      have HK4 := hide (HK3.out.trans (KeepTX.of_below hb4 hn3))
      have hn4 := Nat.le_trans hn3 hb4.size
      exact ⟨⟨_, m + 1, rfl, by go_num, HP1, HS4, by omega, HJ4.out, HK4.out, hn4⟩, by simp [intOf]; omega⟩
     ·
      have tev : (ev != 0) = true := by rw [bne_iff_ne]; exact hev0
      have HE := hide (HERR.out hev0)
      clear hev0 HERR
      gi_wp2_with (refine ⟨trivial, ?_⟩; gi_at_call 113; refine (callsIn_wide.2 HCP.out).mono ?_; rintro e w4 ⟨rfl, hb4⟩)
      refine bodyPost_ret (results_none rfl _ _ _) rfl ?_
      exact ⟨⟨_, rfl⟩, .inl ⟨_, HE.out, HJ.out _ _ _ HJ3.out hb4⟩⟩
  ·
   obtain rfl : m = nx := by omega
   have e0 : wr.cell? ⟨Bp, 0, none⟩ = some (.int .i64 (k : Int)) := cell_of_heap hB3 0
   have e1 : wr.cell? ⟨Bp, 1, none⟩ = some (.slice Ax m cx) := cell_of_heap hB3 1
   have HYm := HYY.out pre ⟨m, HS.out⟩ _ hJs (by have := st_len HP0.out; omega)
   have HP1 := hide (st_snoc HP0.out HS.out)
   simp only [penc] at HYm
   obtain ⟨fn, tmps, assign, body, hy, hR⟩ := HYm
   gi_wp2
   refine hR.mono ?_
   rintro e w3 (⟨rfl, hJ3, _⟩ | ⟨rfl, hJ3⟩)
   ·
    gi_wp2
    go_end0
    exact ⟨⟨_, rfl⟩, .inl ⟨_, ⟨m, HS.out, HP1.out, .inl hxl.symm⟩, hJ3⟩⟩
   ·
    gi_wp2
    go_end0
    exact ⟨⟨_, rfl⟩, .inr ⟨_, True.intro, hJ3⟩⟩
structure Way8 (At Al : Option Addr) (nt nl : Nat) (L : List TyW) (LL : List LcW) (x : PlW) (k : Nat) (lc : LcW) (r : Int) : Prop where
 ok : TyOk (tys L) r
 nt : nt ≤ maxLen
 nl : nl ≤ maxLen
 nc : x.n ≤ x.c
 cm : x.c ≤ maxLen
 l : x.l = (k : Int)
 at_ : LL[k]? = some lc
 t0 : 0 ≤ lc.ty
 t1 : lc.ty < (L.length : Int)
theorem along_stops (n : Nat) (hn : 1 ≤ n) (Bt Bl Bp X n₀ : Nat) (At Al : Option Addr) (nt ct nl cl : Nat) (L : List TyW) (LL : List LcW) (x : PlW) (k : Nat) (lc : LcW) (r : Int) (h8 : Way8 At Al nt nl L LL x k lc r)
  (w : World) (hBt : Boxed w Bt 24 (.slice At nt ct)) (hBl : Boxed w Bl 25 (.slice Al nl cl)) (hBp : w.heap[Bp]? = some (.cells #[.int .i64 x.l, .slice x.A x.n x.c] 36 (0, 0)))
  (hXt : Bt ≠ X) (hXl : Bl ≠ X) (hXp : Bp ≠ X) (hXW : X < w.heap.size)
  (hA : Typs w n₀ At nt L) (hL : Locs w n₀ Al nl LL) (hP : Prs w n₀ x.A x.n x.ps) (hn0 : n₀ ≤ w.heap.size) :
  SeqStopsK Fence.wide n Tryz.prog 125 #[.pointer (some ⟨Bp, 0, none⟩), .pointer (some ⟨Bl, 0, none⟩), .pointer (some ⟨Bt, 0, none⟩)] (penc x (tys L) lc.ty) (KeepTX n₀ plTs X) (AllY (tys L) lc.ty x.ps) AnyP (x.ps.length + 1) w := fun l J Jx W hW hJ hJx hY h0 =>
 along1_in n hn l Bt Bl Bp X n₀ At Al nt ct nl cl L LL x k lc r h8.ok h8.nt h8.nl h8.nc h8.cm h8.l h8.at_ h8.t0 h8.t1 J Jx W.heap.size hJ hJx hY W ((hW.block Bt hBt.lt).trans hBt) ((hW.block Bl hBl.lt).trans hBl) ((hW.block Bp (Array.getElem?_eq_some_iff.1 hBp).1).trans hBp) hXt hXl hXp (Nat.lt_of_lt_of_le hXW hW.size) (hA.below (hW.mono hn0)) (hL.below (hW.mono hn0)) (hP.below (hW.mono hn0)) (Nat.le_trans hn0 hW.size) h0
end Go.Proofs.YtfgacmgjpikgaaaGreatDoor
