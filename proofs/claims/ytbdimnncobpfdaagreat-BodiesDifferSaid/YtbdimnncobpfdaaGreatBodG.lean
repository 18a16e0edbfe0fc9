/- The code's comparison of operands and of rvalues. -/
import Derived.Test.YtbdimnncobpfdaaGreatBodF
import Derived.Test.YtbdimnncobpfdaaGreatTypE
import Derived.Test.YtbdimnncobpfdaaGreatBodE
import Derived.Deep.RegionHeld3
set_option linter.unusedVariables false
namespace Go.Proofs.YtbdimnncobpfdaaGreat
open Go.RowKit Go.Shelf

/-- the world with two structs in boxes -/
def bx2 (w : World) (cx cy : List Value) (T : TypeId) : World := (w.alloc (.cells cx.toArray T)).alloc (.cells cy.toArray T)
theorem bx2_size (w : World) (cx cy : List Value) (T : TypeId) : (bx2 w cx cy T).heap.size = w.heap.size + 2 := by simp [bx2]
theorem bx2_below (w : World) (cx cy : List Value) (T : TypeId) : Below w.heap.size w (bx2 w cx cy T) := ((Below.refl _ w).alloc (Nat.le_refl _) _).alloc (by simp) _
theorem bx2_cells {w w' : World} {cx cy : List Value} {T : TypeId} (h : Below (bx2 w cx cy T).heap.size (bx2 w cx cy T) w') : ∀ j u v, cx[j]? = some u → cy[j]? = some v → w'.cell? ⟨w.heap.size, j, none⟩ = some u ∧ w'.cell? ⟨w.heap.size + 1, j, none⟩ = some v := by
  intro j u v hu hv
  have hs := bx2_size w cx cy T
  have hz : (w.alloc (.cells cx.toArray T)).heap.size = w.heap.size + 1 := by simp
  have h2 : Below ((w.alloc (.cells cx.toArray T)).heap.size + 1) ((w.alloc (.cells cx.toArray T)).alloc (.cells cy.toArray T)) w' := by
    have := h
    rw [hs] at this
    rw [hz]
    exact this
  refine ⟨box_at (cs := cx.toArray) (t := T) ?_ (by simpa using hu), ?_⟩
  · exact ((Below.refl _ _).alloc (by omega) _).trans (h2.mono (by omega))
  · have := box_at h2 (j := j) (u := v) (by simpa using hv)
    rw [hz] at this
    exact this
theorem Ints.up {w w' : World} {s : SlW Int} (h : Ints w w.heap.size s) (hb : Below w.heap.size w w') : Ints w' w'.heap.size s := SlH.more (SlH.below h hb fun _ h => h) hb.size fun _ h => h
theorem Strs.up {w w' : World} {s : SlW ByteArray} (h : Strs w w.heap.size s) (hb : Below w.heap.size w w') : Strs w' w'.heap.size s := SlH.more (SlH.below h hb fun _ h => h) hb.size fun _ h => h
theorem Prs2.up {w w' : World} {s : SlW Pr} (h : SlH w w.heap.size 2 pV IntP s) (hb : Below w.heap.size w w') : SlH w' w'.heap.size 2 pV IntP s := SlH.more (SlH.below h hb fun _ h => h) hb.size fun _ h => h
theorem Lcs2.up {w w' : World} {s : SlW LcW} (h : SlH w w.heap.size 2 cLc (fun y => IntR y.ty ∧ y.name.size ≤ maxLen) s) (hb : Below w.heap.size w w') : SlH w' w'.heap.size 2 cLc (fun y => IntR y.ty ∧ y.name.size ≤ maxLen) s := SlH.more (SlH.below h hb fun _ h => h) hb.size fun _ h => h
theorem Tys2.up {w w' : World} {s : SlW TyW} (h : SlH w w.heap.size 5 c5 (OneT w w.heap.size) s) (hb : Below w.heap.size w w') : SlH w' w'.heap.size 5 c5 (OneT w' w'.heap.size) s := SlH.more (SlH.below h hb fun _ h => OneT.below h hb) hb.size fun _ h => OneT.more h hb.size
theorem Sts.up {w w' : World} {s : SlW StW} (h : SlH w w.heap.size 11 cSt (OneSt w w.heap.size) s) (hb : Below w.heap.size w w') : SlH w' w'.heap.size 11 cSt (OneSt w' w'.heap.size) s := SlH.more (SlH.below h hb fun _ h => h.below hb) hb.size fun _ h => h.more hb.size
theorem Bks2.up {w w' : World} {s : SlW BkW} (h : SlH w w.heap.size 7 cBk (OneBk w w.heap.size) s) (hb : Below w.heap.size w w') : SlH w' w'.heap.size 7 cBk (OneBk w' w'.heap.size) s := SlH.more (SlH.below h hb fun _ h => h.below hb) hb.size fun _ h => h.more hb.size

def eqOp (x y : OpW) : Bool := decide (x.v = y.v)
def eqRv (x y : RvW) : Bool := decide (x.v = y.v)
theorem eqOp_iff {x y : OpW} : eqOp x y = true ↔ x.kind = y.kind ∧ x.n = y.n ∧ eqPl x.pl y.pl = true := by
  rw [eqOp, decide_eq_true_iff, ← plV_eq]
  obtain ⟨k, p, z⟩ := x
  obtain ⟨k', p', z'⟩ := y
  simp only [OpW.v, OpV.mk.injEq]
  exact ⟨fun ⟨a, b, c⟩ => ⟨a, c, b⟩, fun ⟨a, c, b⟩ => ⟨a, b, c⟩⟩
theorem eqRv_iff {x y : RvW} : eqRv x y = true ↔ x.kind = y.kind ∧ x.op = y.op ∧ x.region = y.region ∧ x.mut_ = y.mut_ ∧ eqPl x.pl y.pl = true ∧ eqOps x.args y.args = true := by
  rw [eqRv, decide_eq_true_iff, ← plV_eq, eqOps, eqL_iff]
  obtain ⟨k, o, r, m, p, a⟩ := x
  obtain ⟨k', o', r', m', p', a'⟩ := y
  simp only [RvW.v, RvV.mk.injEq]
set_option maxHeartbeats 4000000 in
set_option maxRecDepth 100000 in
theorem eqOp0 (k k' : Int) (z z' : Int) (l : Int) (A : Option Addr) (n c : Nat) (ps : List Pr) (l' : Int) (A' : Option Addr) (n' c' : Nat) (ps' : List Pr) (t : (k == k') = false)
    (w : World) (hx : OneOp w w.heap.size ⟨k, ⟨l, A, n, c, ps⟩, z⟩) (hy : OneOp w w.heap.size ⟨k', ⟨l', A', n', c', ps'⟩, z'⟩) :
    Calls Tryz.prog 98 #[aggOp ⟨k, ⟨l, A, n, c, ps⟩, z⟩, aggOp ⟨k', ⟨l', A', n', c', ps'⟩, z'⟩] w fun e w' => e = .returned (.bool false) ∧ Below w.heap.size w w' := by
  have HB := hide (bx2_below w (cOp ⟨k, ⟨l, A, n, c, ps⟩, z⟩) (cOp ⟨k', ⟨l', A', n', c', ps'⟩, z'⟩) 96)
  have HX := hide (hx.up HB.out)
  have HY := hide (hy.up HB.out)
  have hs := hide fun (w' : World) (h : Below (bx2 w (cOp ⟨k, ⟨l, A, n, c, ps⟩, z⟩) (cOp ⟨k', ⟨l', A', n', c', ps'⟩, z'⟩) 96).heap.size (bx2 w (cOp ⟨k, ⟨l, A, n, c, ps⟩, z⟩) (cOp ⟨k', ⟨l', A', n', c', ps'⟩, z'⟩) 96) w') => bx2_cells h
  clear hx hy
  go_enter Tryz.func98, Tryz.ntmps98
  go_wp2
  go_ret
  exact ⟨rfl, HB.out⟩

set_option maxHeartbeats 4000000 in
set_option maxRecDepth 100000 in
theorem eqOp1 (k : Int) (z z' : Int) (l : Int) (A : Option Addr) (n c : Nat) (ps : List Pr) (l' : Int) (A' : Option Addr) (n' c' : Nat) (ps' : List Pr) (t : (z == z') = false)
    (w : World) (hx : OneOp w w.heap.size ⟨k, ⟨l, A, n, c, ps⟩, z⟩) (hy : OneOp w w.heap.size ⟨k, ⟨l', A', n', c', ps'⟩, z'⟩) :
    Calls Tryz.prog 98 #[aggOp ⟨k, ⟨l, A, n, c, ps⟩, z⟩, aggOp ⟨k, ⟨l', A', n', c', ps'⟩, z'⟩] w fun e w' => e = .returned (.bool false) ∧ Below w.heap.size w w' := by
  have HB := hide (bx2_below w (cOp ⟨k, ⟨l, A, n, c, ps⟩, z⟩) (cOp ⟨k, ⟨l', A', n', c', ps'⟩, z'⟩) 96)
  have HX := hide (hx.up HB.out)
  have HY := hide (hy.up HB.out)
  have hs := hide fun (w' : World) (h : Below (bx2 w (cOp ⟨k, ⟨l, A, n, c, ps⟩, z⟩) (cOp ⟨k, ⟨l', A', n', c', ps'⟩, z'⟩) 96).heap.size (bx2 w (cOp ⟨k, ⟨l, A, n, c, ps⟩, z⟩) (cOp ⟨k, ⟨l', A', n', c', ps'⟩, z'⟩) 96) w') => bx2_cells h
  clear hx hy
  go_enter Tryz.func98, Tryz.ntmps98
  go_wp2
  go_ret
  exact ⟨rfl, HB.out⟩

set_option maxHeartbeats 4000000 in
set_option maxRecDepth 100000 in
theorem eqOp2 (k : Int) (z : Int) (l : Int) (A : Option Addr) (n c : Nat) (ps : List Pr) (l' : Int) (A' : Option Addr) (n' c' : Nat) (ps' : List Pr) (h2 : eqPl ⟨l, A, n, c, ps⟩ ⟨l', A', n', c', ps'⟩ = false)
    (w : World) (hx : OneOp w w.heap.size ⟨k, ⟨l, A, n, c, ps⟩, z⟩) (hy : OneOp w w.heap.size ⟨k, ⟨l', A', n', c', ps'⟩, z⟩) :
    Calls Tryz.prog 98 #[aggOp ⟨k, ⟨l, A, n, c, ps⟩, z⟩, aggOp ⟨k, ⟨l', A', n', c', ps'⟩, z⟩] w fun e w' => e = .returned (.bool false) ∧ Below w.heap.size w w' := by
  have HB := hide (bx2_below w (cOp ⟨k, ⟨l, A, n, c, ps⟩, z⟩) (cOp ⟨k, ⟨l', A', n', c', ps'⟩, z⟩) 96)
  have HX := hide (hx.up HB.out)
  have HY := hide (hy.up HB.out)
  have hs := hide fun (w' : World) (h : Below (bx2 w (cOp ⟨k, ⟨l, A, n, c, ps⟩, z⟩) (cOp ⟨k, ⟨l', A', n', c', ps'⟩, z⟩) 96).heap.size (bx2 w (cOp ⟨k, ⟨l, A, n, c, ps⟩, z⟩) (cOp ⟨k, ⟨l', A', n', c', ps'⟩, z⟩) 96) w') => bx2_cells h
  have H2 := hide h2
  clear h2
  clear hx hy
  go_enter Tryz.func98, Tryz.ntmps98
  go_wp2_with fail
  refine (EqualP_is H2.out _ (HX.out.pl.up (Below.refl _ _)) (HY.out.pl.up (Below.refl _ _))).mono ?_
  rintro e w1 ⟨rfl, hb⟩
  have HB1 := hide (show Below (bx2 w (cOp ⟨k, ⟨l, A, n, c, ps⟩, z⟩) (cOp ⟨k, ⟨l', A', n', c', ps'⟩, z⟩) 96).heap.size (bx2 w (cOp ⟨k, ⟨l, A, n, c, ps⟩, z⟩) (cOp ⟨k, ⟨l', A', n', c', ps'⟩, z⟩) 96) w1 from hb)
  clear hb
  obtain ⟨c0, d0⟩ := hs.out _ HB1.out 0 _ _ rfl rfl
  obtain ⟨c1, d1⟩ := hs.out _ HB1.out 1 _ _ rfl rfl
  obtain ⟨c2, d2⟩ := hs.out _ HB1.out 2 _ _ rfl rfl
  obtain ⟨c3, d3⟩ := hs.out _ HB1.out 3 _ _ rfl rfl
  simp only [] at c0 d0 c1 d1 c2 d2 c3 d3
  go_wp2
  go_ret
  exact ⟨rfl, HB.out.trans (HB1.out.mono HB.out.size)⟩

set_option maxHeartbeats 4000000 in
set_option maxRecDepth 100000 in
theorem eqOp3 (k : Int) (z : Int) (l : Int) (A : Option Addr) (n c : Nat) (ps : List Pr) (l' : Int) (A' : Option Addr) (n' c' : Nat) (ps' : List Pr) (h2 : eqPl ⟨l, A, n, c, ps⟩ ⟨l', A', n', c', ps'⟩ = true)
    (w : World) (hx : OneOp w w.heap.size ⟨k, ⟨l, A, n, c, ps⟩, z⟩) (hy : OneOp w w.heap.size ⟨k, ⟨l', A', n', c', ps'⟩, z⟩) :
    Calls Tryz.prog 98 #[aggOp ⟨k, ⟨l, A, n, c, ps⟩, z⟩, aggOp ⟨k, ⟨l', A', n', c', ps'⟩, z⟩] w fun e w' => e = .returned (.bool true) ∧ Below w.heap.size w w' := by
  have HB := hide (bx2_below w (cOp ⟨k, ⟨l, A, n, c, ps⟩, z⟩) (cOp ⟨k, ⟨l', A', n', c', ps'⟩, z⟩) 96)
  have HX := hide (hx.up HB.out)
  have HY := hide (hy.up HB.out)
  have hs := hide fun (w' : World) (h : Below (bx2 w (cOp ⟨k, ⟨l, A, n, c, ps⟩, z⟩) (cOp ⟨k, ⟨l', A', n', c', ps'⟩, z⟩) 96).heap.size (bx2 w (cOp ⟨k, ⟨l, A, n, c, ps⟩, z⟩) (cOp ⟨k, ⟨l', A', n', c', ps'⟩, z⟩) 96) w') => bx2_cells h
  have H2 := hide h2
  clear h2
  clear hx hy
  go_enter Tryz.func98, Tryz.ntmps98
  go_wp2_with fail
  refine (EqualP_is H2.out _ (HX.out.pl.up (Below.refl _ _)) (HY.out.pl.up (Below.refl _ _))).mono ?_
  rintro e w1 ⟨rfl, hb⟩
  have HB1 := hide (show Below (bx2 w (cOp ⟨k, ⟨l, A, n, c, ps⟩, z⟩) (cOp ⟨k, ⟨l', A', n', c', ps'⟩, z⟩) 96).heap.size (bx2 w (cOp ⟨k, ⟨l, A, n, c, ps⟩, z⟩) (cOp ⟨k, ⟨l', A', n', c', ps'⟩, z⟩) 96) w1 from hb)
  clear hb
  obtain ⟨c0, d0⟩ := hs.out _ HB1.out 0 _ _ rfl rfl
  obtain ⟨c1, d1⟩ := hs.out _ HB1.out 1 _ _ rfl rfl
  obtain ⟨c2, d2⟩ := hs.out _ HB1.out 2 _ _ rfl rfl
  obtain ⟨c3, d3⟩ := hs.out _ HB1.out 3 _ _ rfl rfl
  simp only [] at c0 d0 c1 d1 c2 d2 c3 d3
  go_wp2
  go_ret
  exact ⟨rfl, HB.out.trans (HB1.out.mono HB.out.size)⟩

theorem EqOp_any (x y : OpW) (w : World) (hx : OneOp w w.heap.size x) (hy : OneOp w w.heap.size y) :
    Calls Tryz.prog 98 #[aggOp x, aggOp y] w fun e w' => e = .returned (.bool (eqOp x y)) ∧ Below w.heap.size w w' := by
  obtain ⟨k, ⟨l, A, n, c, ps⟩, z⟩ := x
  obtain ⟨k', ⟨l', A', n', c', ps'⟩, z'⟩ := y
  have hv : ∀ b, (k = k' ∧ z = z' ∧ eqPl ⟨l, A, n, c, ps⟩ ⟨l', A', n', c', ps'⟩ = true ↔ b = true) → eqOp ⟨k, ⟨l, A, n, c, ps⟩, z⟩ ⟨k', ⟨l', A', n', c', ps'⟩, z'⟩ = b := fun b h => by rw [Bool.eq_iff_iff, ← h, eqOp_iff]
  by_cases e0 : k = k'
  rotate_left
  · rw [hv false (by simp [e0])]
    exact eqOp0 _ _ _ _ _ _ _ _ _ _ _ _ _ _ (by simpa using e0) w hx hy
  subst e0
  by_cases e1 : z = z'
  rotate_left
  · rw [hv false (by simp [e1])]
    exact eqOp1 _ _ _ _ _ _ _ _ _ _ _ _ _ (by simpa using e1) w hx hy
  subst e1
  cases e2 : eqPl ⟨l, A, n, c, ps⟩ ⟨l', A', n', c', ps'⟩
  · rw [hv false (by simp [e2])]
    exact eqOp2 _ _ _ _ _ _ _ _ _ _ _ _ e2 w hx hy
  rw [hv true (by simp [e2])]
  exact eqOp3 _ _ _ _ _ _ _ _ _ _ _ _ e2 w hx hy
theorem EqOp_is {x y : OpW} {v : Bool} (h : eqOp x y = v) (w : World) (hx : OneOp w w.heap.size x) (hy : OneOp w w.heap.size y) :
    Calls Tryz.prog 98 #[aggOp x, aggOp y] w fun e w' => e = .returned (.bool v) ∧ Below w.heap.size w w' := h ▸ EqOp_any x y w hx hy

theorem EqOps_is {s t : SlW OpW} {v : Bool} (h : eqOps s t = v) (w : World) (hs : Ops w w.heap.size s) (ht : Ops w w.heap.size t) :
    Calls Tryz.prog 99 #[.agg #[s.val, .func (.func 98) #[] #[]], t.val] w fun e w' => e = .returned (.bool v) ∧ Below w.heap.size w w' :=
  h ▸ EqsOp_any 98 s t w hs ht (enters_of Tryz.func98 (by kernel_rfl) rfl) fun x hx y hy w1 hb => EqOp_any x y w1 ((hs.all x hx).up hb) ((ht.all y hy).up hb)
set_option maxHeartbeats 4000000 in
set_option maxRecDepth 100000 in
theorem eqRv0 (k k' : Int) (o o' : Int) (r r' : Int) (m m' : Bool) (l : Int) (A : Option Addr) (n c : Nat) (ps : List Pr) (gA : Option Addr) (gn gc : Nat) (gL : List OpW) (l' : Int) (A' : Option Addr) (n' c' : Nat) (ps' : List Pr) (gA' : Option Addr) (gn' gc' : Nat) (gL' : List OpW) (t : (k == k') = false)
    (w : World) (hx : OneRv w w.heap.size ⟨k, o, r, m, ⟨l, A, n, c, ps⟩, ⟨gA, gn, gc, gL⟩⟩) (hy : OneRv w w.heap.size ⟨k', o', r', m', ⟨l', A', n', c', ps'⟩, ⟨gA', gn', gc', gL'⟩⟩) :
    Calls Tryz.prog 94 #[aggRv ⟨k, o, r, m, ⟨l, A, n, c, ps⟩, ⟨gA, gn, gc, gL⟩⟩, aggRv ⟨k', o', r', m', ⟨l', A', n', c', ps'⟩, ⟨gA', gn', gc', gL'⟩⟩] w fun e w' => e = .returned (.bool false) ∧ Below w.heap.size w w' := by
  have HB := hide (bx2_below w (cRv ⟨k, o, r, m, ⟨l, A, n, c, ps⟩, ⟨gA, gn, gc, gL⟩⟩) (cRv ⟨k', o', r', m', ⟨l', A', n', c', ps'⟩, ⟨gA', gn', gc', gL'⟩⟩) 56)
  have HX := hide (hx.up HB.out)
  have HY := hide (hy.up HB.out)
  have hs := hide fun (w' : World) (h : Below (bx2 w (cRv ⟨k, o, r, m, ⟨l, A, n, c, ps⟩, ⟨gA, gn, gc, gL⟩⟩) (cRv ⟨k', o', r', m', ⟨l', A', n', c', ps'⟩, ⟨gA', gn', gc', gL'⟩⟩) 56).heap.size (bx2 w (cRv ⟨k, o, r, m, ⟨l, A, n, c, ps⟩, ⟨gA, gn, gc, gL⟩⟩) (cRv ⟨k', o', r', m', ⟨l', A', n', c', ps'⟩, ⟨gA', gn', gc', gL'⟩⟩) 56) w') => bx2_cells h
  clear hx hy
  go_enter Tryz.func94, Tryz.ntmps94
  go_wp2
  go_ret
  exact ⟨rfl, HB.out⟩

set_option maxHeartbeats 4000000 in
set_option maxRecDepth 100000 in
theorem eqRv1 (k : Int) (o o' : Int) (r r' : Int) (m m' : Bool) (l : Int) (A : Option Addr) (n c : Nat) (ps : List Pr) (gA : Option Addr) (gn gc : Nat) (gL : List OpW) (l' : Int) (A' : Option Addr) (n' c' : Nat) (ps' : List Pr) (gA' : Option Addr) (gn' gc' : Nat) (gL' : List OpW) (t : (o == o') = false)
    (w : World) (hx : OneRv w w.heap.size ⟨k, o, r, m, ⟨l, A, n, c, ps⟩, ⟨gA, gn, gc, gL⟩⟩) (hy : OneRv w w.heap.size ⟨k, o', r', m', ⟨l', A', n', c', ps'⟩, ⟨gA', gn', gc', gL'⟩⟩) :
    Calls Tryz.prog 94 #[aggRv ⟨k, o, r, m, ⟨l, A, n, c, ps⟩, ⟨gA, gn, gc, gL⟩⟩, aggRv ⟨k, o', r', m', ⟨l', A', n', c', ps'⟩, ⟨gA', gn', gc', gL'⟩⟩] w fun e w' => e = .returned (.bool false) ∧ Below w.heap.size w w' := by
  have HB := hide (bx2_below w (cRv ⟨k, o, r, m, ⟨l, A, n, c, ps⟩, ⟨gA, gn, gc, gL⟩⟩) (cRv ⟨k, o', r', m', ⟨l', A', n', c', ps'⟩, ⟨gA', gn', gc', gL'⟩⟩) 56)
  have HX := hide (hx.up HB.out)
  have HY := hide (hy.up HB.out)
  have hs := hide fun (w' : World) (h : Below (bx2 w (cRv ⟨k, o, r, m, ⟨l, A, n, c, ps⟩, ⟨gA, gn, gc, gL⟩⟩) (cRv ⟨k, o', r', m', ⟨l', A', n', c', ps'⟩, ⟨gA', gn', gc', gL'⟩⟩) 56).heap.size (bx2 w (cRv ⟨k, o, r, m, ⟨l, A, n, c, ps⟩, ⟨gA, gn, gc, gL⟩⟩) (cRv ⟨k, o', r', m', ⟨l', A', n', c', ps'⟩, ⟨gA', gn', gc', gL'⟩⟩) 56) w') => bx2_cells h
  clear hx hy
  go_enter Tryz.func94, Tryz.ntmps94
  go_wp2
  go_ret
  exact ⟨rfl, HB.out⟩

set_option maxHeartbeats 4000000 in
set_option maxRecDepth 100000 in
theorem eqRv2 (k : Int) (o : Int) (r r' : Int) (m m' : Bool) (l : Int) (A : Option Addr) (n c : Nat) (ps : List Pr) (gA : Option Addr) (gn gc : Nat) (gL : List OpW) (l' : Int) (A' : Option Addr) (n' c' : Nat) (ps' : List Pr) (gA' : Option Addr) (gn' gc' : Nat) (gL' : List OpW) (t : (r == r') = false)
    (w : World) (hx : OneRv w w.heap.size ⟨k, o, r, m, ⟨l, A, n, c, ps⟩, ⟨gA, gn, gc, gL⟩⟩) (hy : OneRv w w.heap.size ⟨k, o, r', m', ⟨l', A', n', c', ps'⟩, ⟨gA', gn', gc', gL'⟩⟩) :
    Calls Tryz.prog 94 #[aggRv ⟨k, o, r, m, ⟨l, A, n, c, ps⟩, ⟨gA, gn, gc, gL⟩⟩, aggRv ⟨k, o, r', m', ⟨l', A', n', c', ps'⟩, ⟨gA', gn', gc', gL'⟩⟩] w fun e w' => e = .returned (.bool false) ∧ Below w.heap.size w w' := by
  have HB := hide (bx2_below w (cRv ⟨k, o, r, m, ⟨l, A, n, c, ps⟩, ⟨gA, gn, gc, gL⟩⟩) (cRv ⟨k, o, r', m', ⟨l', A', n', c', ps'⟩, ⟨gA', gn', gc', gL'⟩⟩) 56)
  have HX := hide (hx.up HB.out)
  have HY := hide (hy.up HB.out)
  have hs := hide fun (w' : World) (h : Below (bx2 w (cRv ⟨k, o, r, m, ⟨l, A, n, c, ps⟩, ⟨gA, gn, gc, gL⟩⟩) (cRv ⟨k, o, r', m', ⟨l', A', n', c', ps'⟩, ⟨gA', gn', gc', gL'⟩⟩) 56).heap.size (bx2 w (cRv ⟨k, o, r, m, ⟨l, A, n, c, ps⟩, ⟨gA, gn, gc, gL⟩⟩) (cRv ⟨k, o, r', m', ⟨l', A', n', c', ps'⟩, ⟨gA', gn', gc', gL'⟩⟩) 56) w') => bx2_cells h
  clear hx hy
  go_enter Tryz.func94, Tryz.ntmps94
  go_wp2
  go_ret
  exact ⟨rfl, HB.out⟩

set_option maxHeartbeats 4000000 in
set_option maxRecDepth 100000 in
theorem eqRv3 (k : Int) (o : Int) (r : Int) (m m' : Bool) (l : Int) (A : Option Addr) (n c : Nat) (ps : List Pr) (gA : Option Addr) (gn gc : Nat) (gL : List OpW) (l' : Int) (A' : Option Addr) (n' c' : Nat) (ps' : List Pr) (gA' : Option Addr) (gn' gc' : Nat) (gL' : List OpW) (t : (m == m') = false)
    (w : World) (hx : OneRv w w.heap.size ⟨k, o, r, m, ⟨l, A, n, c, ps⟩, ⟨gA, gn, gc, gL⟩⟩) (hy : OneRv w w.heap.size ⟨k, o, r, m', ⟨l', A', n', c', ps'⟩, ⟨gA', gn', gc', gL'⟩⟩) :
    Calls Tryz.prog 94 #[aggRv ⟨k, o, r, m, ⟨l, A, n, c, ps⟩, ⟨gA, gn, gc, gL⟩⟩, aggRv ⟨k, o, r, m', ⟨l', A', n', c', ps'⟩, ⟨gA', gn', gc', gL'⟩⟩] w fun e w' => e = .returned (.bool false) ∧ Below w.heap.size w w' := by
  have HB := hide (bx2_below w (cRv ⟨k, o, r, m, ⟨l, A, n, c, ps⟩, ⟨gA, gn, gc, gL⟩⟩) (cRv ⟨k, o, r, m', ⟨l', A', n', c', ps'⟩, ⟨gA', gn', gc', gL'⟩⟩) 56)
  have HX := hide (hx.up HB.out)
  have HY := hide (hy.up HB.out)
  have hs := hide fun (w' : World) (h : Below (bx2 w (cRv ⟨k, o, r, m, ⟨l, A, n, c, ps⟩, ⟨gA, gn, gc, gL⟩⟩) (cRv ⟨k, o, r, m', ⟨l', A', n', c', ps'⟩, ⟨gA', gn', gc', gL'⟩⟩) 56).heap.size (bx2 w (cRv ⟨k, o, r, m, ⟨l, A, n, c, ps⟩, ⟨gA, gn, gc, gL⟩⟩) (cRv ⟨k, o, r, m', ⟨l', A', n', c', ps'⟩, ⟨gA', gn', gc', gL'⟩⟩) 56) w') => bx2_cells h
  clear hx hy
  obtain ⟨rfl, rfl⟩ | ⟨rfl, rfl⟩ : m = true ∧ m' = false ∨ m = false ∧ m' = true := by revert t; cases m <;> cases m' <;> simp
  all_goals
    go_enter Tryz.func94, Tryz.ntmps94
    go_wp2
    go_ret
    exact ⟨rfl, HB.out⟩

set_option maxHeartbeats 4000000 in
set_option maxRecDepth 100000 in
theorem eqRv4 (k : Int) (o : Int) (r : Int) (m : Bool) (l : Int) (A : Option Addr) (n c : Nat) (ps : List Pr) (gA : Option Addr) (gn gc : Nat) (gL : List OpW) (l' : Int) (A' : Option Addr) (n' c' : Nat) (ps' : List Pr) (gA' : Option Addr) (gn' gc' : Nat) (gL' : List OpW) (h4 : eqPl ⟨l, A, n, c, ps⟩ ⟨l', A', n', c', ps'⟩ = false)
    (w : World) (hx : OneRv w w.heap.size ⟨k, o, r, m, ⟨l, A, n, c, ps⟩, ⟨gA, gn, gc, gL⟩⟩) (hy : OneRv w w.heap.size ⟨k, o, r, m, ⟨l', A', n', c', ps'⟩, ⟨gA', gn', gc', gL'⟩⟩) :
    Calls Tryz.prog 94 #[aggRv ⟨k, o, r, m, ⟨l, A, n, c, ps⟩, ⟨gA, gn, gc, gL⟩⟩, aggRv ⟨k, o, r, m, ⟨l', A', n', c', ps'⟩, ⟨gA', gn', gc', gL'⟩⟩] w fun e w' => e = .returned (.bool false) ∧ Below w.heap.size w w' := by
  have HB := hide (bx2_below w (cRv ⟨k, o, r, m, ⟨l, A, n, c, ps⟩, ⟨gA, gn, gc, gL⟩⟩) (cRv ⟨k, o, r, m, ⟨l', A', n', c', ps'⟩, ⟨gA', gn', gc', gL'⟩⟩) 56)
  have HX := hide (hx.up HB.out)
  have HY := hide (hy.up HB.out)
  have hs := hide fun (w' : World) (h : Below (bx2 w (cRv ⟨k, o, r, m, ⟨l, A, n, c, ps⟩, ⟨gA, gn, gc, gL⟩⟩) (cRv ⟨k, o, r, m, ⟨l', A', n', c', ps'⟩, ⟨gA', gn', gc', gL'⟩⟩) 56).heap.size (bx2 w (cRv ⟨k, o, r, m, ⟨l, A, n, c, ps⟩, ⟨gA, gn, gc, gL⟩⟩) (cRv ⟨k, o, r, m, ⟨l', A', n', c', ps'⟩, ⟨gA', gn', gc', gL'⟩⟩) 56) w') => bx2_cells h
  have H4 := hide h4
  clear h4
  clear hx hy
  go_enter Tryz.func94, Tryz.ntmps94
  go_wp2_with fail
  refine (EqualP_is H4.out _ (HX.out.pl.up (Below.refl _ _)) (HY.out.pl.up (Below.refl _ _))).mono ?_
  rintro e w1 ⟨rfl, hb⟩
  have HB1 := hide (show Below (bx2 w (cRv ⟨k, o, r, m, ⟨l, A, n, c, ps⟩, ⟨gA, gn, gc, gL⟩⟩) (cRv ⟨k, o, r, m, ⟨l', A', n', c', ps'⟩, ⟨gA', gn', gc', gL'⟩⟩) 56).heap.size (bx2 w (cRv ⟨k, o, r, m, ⟨l, A, n, c, ps⟩, ⟨gA, gn, gc, gL⟩⟩) (cRv ⟨k, o, r, m, ⟨l', A', n', c', ps'⟩, ⟨gA', gn', gc', gL'⟩⟩) 56) w1 from hb)
  clear hb
  obtain ⟨c0, d0⟩ := hs.out _ HB1.out 0 _ _ rfl rfl
  obtain ⟨c1, d1⟩ := hs.out _ HB1.out 1 _ _ rfl rfl
  obtain ⟨c2, d2⟩ := hs.out _ HB1.out 2 _ _ rfl rfl
  obtain ⟨c3, d3⟩ := hs.out _ HB1.out 3 _ _ rfl rfl
  obtain ⟨c4, d4⟩ := hs.out _ HB1.out 4 _ _ rfl rfl
  obtain ⟨c5, d5⟩ := hs.out _ HB1.out 5 _ _ rfl rfl
  obtain ⟨c6, d6⟩ := hs.out _ HB1.out 6 _ _ rfl rfl
  simp only [] at c0 d0 c1 d1 c2 d2 c3 d3 c4 d4 c5 d5 c6 d6
  go_wp2
  go_ret
  exact ⟨rfl, HB.out.trans (HB1.out.mono HB.out.size)⟩

set_option maxHeartbeats 4000000 in
set_option maxRecDepth 100000 in
theorem eqRv5 (k : Int) (o : Int) (r : Int) (m : Bool) (l : Int) (A : Option Addr) (n c : Nat) (ps : List Pr) (gA : Option Addr) (gn gc : Nat) (gL : List OpW) (l' : Int) (A' : Option Addr) (n' c' : Nat) (ps' : List Pr) (gA' : Option Addr) (gn' gc' : Nat) (gL' : List OpW) (h4 : eqPl ⟨l, A, n, c, ps⟩ ⟨l', A', n', c', ps'⟩ = true) (h5 : eqOps ⟨gA, gn, gc, gL⟩ ⟨gA', gn', gc', gL'⟩ = false)
    (w : World) (hx : OneRv w w.heap.size ⟨k, o, r, m, ⟨l, A, n, c, ps⟩, ⟨gA, gn, gc, gL⟩⟩) (hy : OneRv w w.heap.size ⟨k, o, r, m, ⟨l', A', n', c', ps'⟩, ⟨gA', gn', gc', gL'⟩⟩) :
    Calls Tryz.prog 94 #[aggRv ⟨k, o, r, m, ⟨l, A, n, c, ps⟩, ⟨gA, gn, gc, gL⟩⟩, aggRv ⟨k, o, r, m, ⟨l', A', n', c', ps'⟩, ⟨gA', gn', gc', gL'⟩⟩] w fun e w' => e = .returned (.bool false) ∧ Below w.heap.size w w' := by
  have HB := hide (bx2_below w (cRv ⟨k, o, r, m, ⟨l, A, n, c, ps⟩, ⟨gA, gn, gc, gL⟩⟩) (cRv ⟨k, o, r, m, ⟨l', A', n', c', ps'⟩, ⟨gA', gn', gc', gL'⟩⟩) 56)
  have HX := hide (hx.up HB.out)
  have HY := hide (hy.up HB.out)
  have hs := hide fun (w' : World) (h : Below (bx2 w (cRv ⟨k, o, r, m, ⟨l, A, n, c, ps⟩, ⟨gA, gn, gc, gL⟩⟩) (cRv ⟨k, o, r, m, ⟨l', A', n', c', ps'⟩, ⟨gA', gn', gc', gL'⟩⟩) 56).heap.size (bx2 w (cRv ⟨k, o, r, m, ⟨l, A, n, c, ps⟩, ⟨gA, gn, gc, gL⟩⟩) (cRv ⟨k, o, r, m, ⟨l', A', n', c', ps'⟩, ⟨gA', gn', gc', gL'⟩⟩) 56) w') => bx2_cells h
  have H4 := hide h4
  clear h4
  have H5 := hide h5
  clear h5
  clear hx hy
  go_enter Tryz.func94, Tryz.ntmps94
  go_wp2_with fail
  refine (EqualP_is H4.out _ (HX.out.pl.up (Below.refl _ _)) (HY.out.pl.up (Below.refl _ _))).mono ?_
  rintro e w1 ⟨rfl, hb⟩
  have HB1 := hide (show Below (bx2 w (cRv ⟨k, o, r, m, ⟨l, A, n, c, ps⟩, ⟨gA, gn, gc, gL⟩⟩) (cRv ⟨k, o, r, m, ⟨l', A', n', c', ps'⟩, ⟨gA', gn', gc', gL'⟩⟩) 56).heap.size (bx2 w (cRv ⟨k, o, r, m, ⟨l, A, n, c, ps⟩, ⟨gA, gn, gc, gL⟩⟩) (cRv ⟨k, o, r, m, ⟨l', A', n', c', ps'⟩, ⟨gA', gn', gc', gL'⟩⟩) 56) w1 from hb)
  clear hb
  obtain ⟨c0, d0⟩ := hs.out _ HB1.out 0 _ _ rfl rfl
  obtain ⟨c1, d1⟩ := hs.out _ HB1.out 1 _ _ rfl rfl
  obtain ⟨c2, d2⟩ := hs.out _ HB1.out 2 _ _ rfl rfl
  obtain ⟨c3, d3⟩ := hs.out _ HB1.out 3 _ _ rfl rfl
  obtain ⟨c4, d4⟩ := hs.out _ HB1.out 4 _ _ rfl rfl
  obtain ⟨c5, d5⟩ := hs.out _ HB1.out 5 _ _ rfl rfl
  obtain ⟨c6, d6⟩ := hs.out _ HB1.out 6 _ _ rfl rfl
  simp only [] at c0 d0 c1 d1 c2 d2 c3 d3 c4 d4 c5 d5 c6 d6
  go_wp2_with fail
  refine (EqOps_is (s := ⟨gA, gn, gc, gL⟩) (t := ⟨gA', gn', gc', gL'⟩) H5.out _ (Ops.up HX.out.args HB1.out) (Ops.up HY.out.args HB1.out)).mono ?_
  rintro e w2 ⟨rfl, hb⟩
  have HB2 := hide (HB1.out.trans (hb.mono (Below.size HB1.out)))
  clear hb
  clear c0 d0 c1 d1 c2 d2 c3 d3 c4 d4 c5 d5 c6 d6
  obtain ⟨c0, d0⟩ := hs.out _ HB2.out 0 _ _ rfl rfl
  obtain ⟨c1, d1⟩ := hs.out _ HB2.out 1 _ _ rfl rfl
  obtain ⟨c2, d2⟩ := hs.out _ HB2.out 2 _ _ rfl rfl
  obtain ⟨c3, d3⟩ := hs.out _ HB2.out 3 _ _ rfl rfl
  obtain ⟨c4, d4⟩ := hs.out _ HB2.out 4 _ _ rfl rfl
  obtain ⟨c5, d5⟩ := hs.out _ HB2.out 5 _ _ rfl rfl
  obtain ⟨c6, d6⟩ := hs.out _ HB2.out 6 _ _ rfl rfl
  simp only [] at c0 d0 c1 d1 c2 d2 c3 d3 c4 d4 c5 d5 c6 d6
  go_wp2
  go_ret
  exact ⟨rfl, HB.out.trans (HB2.out.mono HB.out.size)⟩

set_option maxHeartbeats 4000000 in
set_option maxRecDepth 100000 in
theorem eqRv6 (k : Int) (o : Int) (r : Int) (m : Bool) (l : Int) (A : Option Addr) (n c : Nat) (ps : List Pr) (gA : Option Addr) (gn gc : Nat) (gL : List OpW) (l' : Int) (A' : Option Addr) (n' c' : Nat) (ps' : List Pr) (gA' : Option Addr) (gn' gc' : Nat) (gL' : List OpW) (h4 : eqPl ⟨l, A, n, c, ps⟩ ⟨l', A', n', c', ps'⟩ = true) (h5 : eqOps ⟨gA, gn, gc, gL⟩ ⟨gA', gn', gc', gL'⟩ = true)
    (w : World) (hx : OneRv w w.heap.size ⟨k, o, r, m, ⟨l, A, n, c, ps⟩, ⟨gA, gn, gc, gL⟩⟩) (hy : OneRv w w.heap.size ⟨k, o, r, m, ⟨l', A', n', c', ps'⟩, ⟨gA', gn', gc', gL'⟩⟩) :
    Calls Tryz.prog 94 #[aggRv ⟨k, o, r, m, ⟨l, A, n, c, ps⟩, ⟨gA, gn, gc, gL⟩⟩, aggRv ⟨k, o, r, m, ⟨l', A', n', c', ps'⟩, ⟨gA', gn', gc', gL'⟩⟩] w fun e w' => e = .returned (.bool true) ∧ Below w.heap.size w w' := by
  have HB := hide (bx2_below w (cRv ⟨k, o, r, m, ⟨l, A, n, c, ps⟩, ⟨gA, gn, gc, gL⟩⟩) (cRv ⟨k, o, r, m, ⟨l', A', n', c', ps'⟩, ⟨gA', gn', gc', gL'⟩⟩) 56)
  have HX := hide (hx.up HB.out)
  have HY := hide (hy.up HB.out)
  have hs := hide fun (w' : World) (h : Below (bx2 w (cRv ⟨k, o, r, m, ⟨l, A, n, c, ps⟩, ⟨gA, gn, gc, gL⟩⟩) (cRv ⟨k, o, r, m, ⟨l', A', n', c', ps'⟩, ⟨gA', gn', gc', gL'⟩⟩) 56).heap.size (bx2 w (cRv ⟨k, o, r, m, ⟨l, A, n, c, ps⟩, ⟨gA, gn, gc, gL⟩⟩) (cRv ⟨k, o, r, m, ⟨l', A', n', c', ps'⟩, ⟨gA', gn', gc', gL'⟩⟩) 56) w') => bx2_cells h
  have H4 := hide h4
  clear h4
  have H5 := hide h5
  clear h5
  clear hx hy
  go_enter Tryz.func94, Tryz.ntmps94
  go_wp2_with fail
  refine (EqualP_is H4.out _ (HX.out.pl.up (Below.refl _ _)) (HY.out.pl.up (Below.refl _ _))).mono ?_
  rintro e w1 ⟨rfl, hb⟩
  have HB1 := hide (show Below (bx2 w (cRv ⟨k, o, r, m, ⟨l, A, n, c, ps⟩, ⟨gA, gn, gc, gL⟩⟩) (cRv ⟨k, o, r, m, ⟨l', A', n', c', ps'⟩, ⟨gA', gn', gc', gL'⟩⟩) 56).heap.size (bx2 w (cRv ⟨k, o, r, m, ⟨l, A, n, c, ps⟩, ⟨gA, gn, gc, gL⟩⟩) (cRv ⟨k, o, r, m, ⟨l', A', n', c', ps'⟩, ⟨gA', gn', gc', gL'⟩⟩) 56) w1 from hb)
  clear hb
  obtain ⟨c0, d0⟩ := hs.out _ HB1.out 0 _ _ rfl rfl
  obtain ⟨c1, d1⟩ := hs.out _ HB1.out 1 _ _ rfl rfl
  obtain ⟨c2, d2⟩ := hs.out _ HB1.out 2 _ _ rfl rfl
  obtain ⟨c3, d3⟩ := hs.out _ HB1.out 3 _ _ rfl rfl
  obtain ⟨c4, d4⟩ := hs.out _ HB1.out 4 _ _ rfl rfl
  obtain ⟨c5, d5⟩ := hs.out _ HB1.out 5 _ _ rfl rfl
  obtain ⟨c6, d6⟩ := hs.out _ HB1.out 6 _ _ rfl rfl
  simp only [] at c0 d0 c1 d1 c2 d2 c3 d3 c4 d4 c5 d5 c6 d6
  go_wp2_with fail
  refine (EqOps_is (s := ⟨gA, gn, gc, gL⟩) (t := ⟨gA', gn', gc', gL'⟩) H5.out _ (Ops.up HX.out.args HB1.out) (Ops.up HY.out.args HB1.out)).mono ?_
  rintro e w2 ⟨rfl, hb⟩
  have HB2 := hide (HB1.out.trans (hb.mono (Below.size HB1.out)))
  clear hb
  clear c0 d0 c1 d1 c2 d2 c3 d3 c4 d4 c5 d5 c6 d6
  obtain ⟨c0, d0⟩ := hs.out _ HB2.out 0 _ _ rfl rfl
  obtain ⟨c1, d1⟩ := hs.out _ HB2.out 1 _ _ rfl rfl
  obtain ⟨c2, d2⟩ := hs.out _ HB2.out 2 _ _ rfl rfl
  obtain ⟨c3, d3⟩ := hs.out _ HB2.out 3 _ _ rfl rfl
  obtain ⟨c4, d4⟩ := hs.out _ HB2.out 4 _ _ rfl rfl
  obtain ⟨c5, d5⟩ := hs.out _ HB2.out 5 _ _ rfl rfl
  obtain ⟨c6, d6⟩ := hs.out _ HB2.out 6 _ _ rfl rfl
  simp only [] at c0 d0 c1 d1 c2 d2 c3 d3 c4 d4 c5 d5 c6 d6
  go_wp2
  go_ret
  exact ⟨rfl, HB.out.trans (HB2.out.mono HB.out.size)⟩

theorem EqRv_any (x y : RvW) (w : World) (hx : OneRv w w.heap.size x) (hy : OneRv w w.heap.size y) :
    Calls Tryz.prog 94 #[aggRv x, aggRv y] w fun e w' => e = .returned (.bool (eqRv x y)) ∧ Below w.heap.size w w' := by
  obtain ⟨k, o, r, m, ⟨l, A, n, c, ps⟩, ⟨gA, gn, gc, gL⟩⟩ := x
  obtain ⟨k', o', r', m', ⟨l', A', n', c', ps'⟩, ⟨gA', gn', gc', gL'⟩⟩ := y
  have hv : ∀ b, (k = k' ∧ o = o' ∧ r = r' ∧ m = m' ∧ eqPl ⟨l, A, n, c, ps⟩ ⟨l', A', n', c', ps'⟩ = true ∧ eqOps ⟨gA, gn, gc, gL⟩ ⟨gA', gn', gc', gL'⟩ = true ↔ b = true) → eqRv ⟨k, o, r, m, ⟨l, A, n, c, ps⟩, ⟨gA, gn, gc, gL⟩⟩ ⟨k', o', r', m', ⟨l', A', n', c', ps'⟩, ⟨gA', gn', gc', gL'⟩⟩ = b := fun b h => by rw [Bool.eq_iff_iff, ← h, eqRv_iff]
  by_cases e0 : k = k'
  rotate_left
  · rw [hv false (by simp [e0])]
    exact eqRv0 _ _ _ _ _ _ _ _ _ _ _ _ _ _ _ _ _ _ _ _ _ _ _ _ _ _ (by simpa using e0) w hx hy
  subst e0
  by_cases e1 : o = o'
  rotate_left
  · rw [hv false (by simp [e1])]
    exact eqRv1 _ _ _ _ _ _ _ _ _ _ _ _ _ _ _ _ _ _ _ _ _ _ _ _ _ (by simpa using e1) w hx hy
  subst e1
  by_cases e2 : r = r'
  rotate_left
  · rw [hv false (by simp [e2])]
    exact eqRv2 _ _ _ _ _ _ _ _ _ _ _ _ _ _ _ _ _ _ _ _ _ _ _ _ (by simpa using e2) w hx hy
  subst e2
  by_cases e3 : m = m'
  rotate_left
  · rw [hv false (by simp [e3])]
    exact eqRv3 _ _ _ _ _ _ _ _ _ _ _ _ _ _ _ _ _ _ _ _ _ _ _ (by simpa using e3) w hx hy
  subst e3
  cases e4 : eqPl ⟨l, A, n, c, ps⟩ ⟨l', A', n', c', ps'⟩
  · rw [hv false (by simp [e4])]
    exact eqRv4 _ _ _ _ _ _ _ _ _ _ _ _ _ _ _ _ _ _ _ _ _ _ e4 w hx hy
  cases e5 : eqOps ⟨gA, gn, gc, gL⟩ ⟨gA', gn', gc', gL'⟩
  · rw [hv false (by simp [e5])]
    exact eqRv5 _ _ _ _ _ _ _ _ _ _ _ _ _ _ _ _ _ _ _ _ _ _ e4 e5 w hx hy
  rw [hv true (by simp [e4, e5])]
  exact eqRv6 _ _ _ _ _ _ _ _ _ _ _ _ _ _ _ _ _ _ _ _ _ _ e4 e5 w hx hy
theorem EqRv_is {x y : RvW} {v : Bool} (h : eqRv x y = v) (w : World) (hx : OneRv w w.heap.size x) (hy : OneRv w w.heap.size y) :
    Calls Tryz.prog 94 #[aggRv x, aggRv y] w fun e w' => e = .returned (.bool v) ∧ Below w.heap.size w w' := h ▸ EqRv_any x y w hx hy

end Go.Proofs.YtbdimnncobpfdaaGreat

/- The code's comparison of statements. -/
set_option linter.unusedVariables false
namespace Go.Proofs.YtbdimnncobpfdaaGreat
open Go.RowKit Go.Shelf

theorem eqSt_iff {x y : StW} : eqSt x y = true ↔ x.kind = y.kind ∧ x.loc = y.loc ∧ eqPl x.pl y.pl = true ∧ eqRv x.rv y.rv = true := by
  rw [eqSt, decide_eq_true_iff, ← plV_eq, eqRv, decide_eq_true_iff]
  obtain ⟨k, p, r, z⟩ := x
  obtain ⟨k', p', r', z'⟩ := y
  simp only [StW.v, StV.mk.injEq]
  exact ⟨fun ⟨a, b, c, d⟩ => ⟨a, d, b, c⟩, fun ⟨a, d, b, c⟩ => ⟨a, b, c, d⟩⟩
set_option maxHeartbeats 4000000 in
set_option maxRecDepth 100000 in
theorem eqSt0 (k k' : Int) (z z' : Int) (l : Int) (A : Option Addr) (n c : Nat) (ps : List Pr) (rk ro rr : Int) (rm : Bool) (rl : Int) (rA : Option Addr) (rn rc : Nat) (rps : List Pr) (gA : Option Addr) (gn gc : Nat) (gL : List OpW) (l' : Int) (A' : Option Addr) (n' c' : Nat) (ps' : List Pr) (rk' ro' rr' : Int) (rm' : Bool) (rl' : Int) (rA' : Option Addr) (rn' rc' : Nat) (rps' : List Pr) (gA' : Option Addr) (gn' gc' : Nat) (gL' : List OpW) (t : (k == k') = false)
    (w : World) (hx : OneSt w w.heap.size ⟨k, ⟨l, A, n, c, ps⟩, ⟨rk, ro, rr, rm, ⟨rl, rA, rn, rc, rps⟩, ⟨gA, gn, gc, gL⟩⟩, z⟩) (hy : OneSt w w.heap.size ⟨k', ⟨l', A', n', c', ps'⟩, ⟨rk', ro', rr', rm', ⟨rl', rA', rn', rc', rps'⟩, ⟨gA', gn', gc', gL'⟩⟩, z'⟩) :
    Calls Tryz.prog 73 #[aggSt ⟨k, ⟨l, A, n, c, ps⟩, ⟨rk, ro, rr, rm, ⟨rl, rA, rn, rc, rps⟩, ⟨gA, gn, gc, gL⟩⟩, z⟩, aggSt ⟨k', ⟨l', A', n', c', ps'⟩, ⟨rk', ro', rr', rm', ⟨rl', rA', rn', rc', rps'⟩, ⟨gA', gn', gc', gL'⟩⟩, z'⟩] w fun e w' => e = .returned (.bool false) ∧ Below w.heap.size w w' := by
  have HB := hide (bx2_below w (cSt ⟨k, ⟨l, A, n, c, ps⟩, ⟨rk, ro, rr, rm, ⟨rl, rA, rn, rc, rps⟩, ⟨gA, gn, gc, gL⟩⟩, z⟩) (cSt ⟨k', ⟨l', A', n', c', ps'⟩, ⟨rk', ro', rr', rm', ⟨rl', rA', rn', rc', rps'⟩, ⟨gA', gn', gc', gL'⟩⟩, z'⟩) 58)
  have HX := hide (hx.up HB.out)
  have HY := hide (hy.up HB.out)
  have hs := hide fun (w' : World) (h : Below (bx2 w (cSt ⟨k, ⟨l, A, n, c, ps⟩, ⟨rk, ro, rr, rm, ⟨rl, rA, rn, rc, rps⟩, ⟨gA, gn, gc, gL⟩⟩, z⟩) (cSt ⟨k', ⟨l', A', n', c', ps'⟩, ⟨rk', ro', rr', rm', ⟨rl', rA', rn', rc', rps'⟩, ⟨gA', gn', gc', gL'⟩⟩, z'⟩) 58).heap.size (bx2 w (cSt ⟨k, ⟨l, A, n, c, ps⟩, ⟨rk, ro, rr, rm, ⟨rl, rA, rn, rc, rps⟩, ⟨gA, gn, gc, gL⟩⟩, z⟩) (cSt ⟨k', ⟨l', A', n', c', ps'⟩, ⟨rk', ro', rr', rm', ⟨rl', rA', rn', rc', rps'⟩, ⟨gA', gn', gc', gL'⟩⟩, z'⟩) 58) w') => bx2_cells h
  clear hx hy
  go_enter Tryz.func73, Tryz.ntmps73
  go_wp2
  go_ret
  exact ⟨rfl, HB.out⟩

set_option maxHeartbeats 4000000 in
set_option maxRecDepth 100000 in
theorem eqSt1 (k : Int) (z z' : Int) (l : Int) (A : Option Addr) (n c : Nat) (ps : List Pr) (rk ro rr : Int) (rm : Bool) (rl : Int) (rA : Option Addr) (rn rc : Nat) (rps : List Pr) (gA : Option Addr) (gn gc : Nat) (gL : List OpW) (l' : Int) (A' : Option Addr) (n' c' : Nat) (ps' : List Pr) (rk' ro' rr' : Int) (rm' : Bool) (rl' : Int) (rA' : Option Addr) (rn' rc' : Nat) (rps' : List Pr) (gA' : Option Addr) (gn' gc' : Nat) (gL' : List OpW) (t : (z == z') = false)
    (w : World) (hx : OneSt w w.heap.size ⟨k, ⟨l, A, n, c, ps⟩, ⟨rk, ro, rr, rm, ⟨rl, rA, rn, rc, rps⟩, ⟨gA, gn, gc, gL⟩⟩, z⟩) (hy : OneSt w w.heap.size ⟨k, ⟨l', A', n', c', ps'⟩, ⟨rk', ro', rr', rm', ⟨rl', rA', rn', rc', rps'⟩, ⟨gA', gn', gc', gL'⟩⟩, z'⟩) :
    Calls Tryz.prog 73 #[aggSt ⟨k, ⟨l, A, n, c, ps⟩, ⟨rk, ro, rr, rm, ⟨rl, rA, rn, rc, rps⟩, ⟨gA, gn, gc, gL⟩⟩, z⟩, aggSt ⟨k, ⟨l', A', n', c', ps'⟩, ⟨rk', ro', rr', rm', ⟨rl', rA', rn', rc', rps'⟩, ⟨gA', gn', gc', gL'⟩⟩, z'⟩] w fun e w' => e = .returned (.bool false) ∧ Below w.heap.size w w' := by
  have HB := hide (bx2_below w (cSt ⟨k, ⟨l, A, n, c, ps⟩, ⟨rk, ro, rr, rm, ⟨rl, rA, rn, rc, rps⟩, ⟨gA, gn, gc, gL⟩⟩, z⟩) (cSt ⟨k, ⟨l', A', n', c', ps'⟩, ⟨rk', ro', rr', rm', ⟨rl', rA', rn', rc', rps'⟩, ⟨gA', gn', gc', gL'⟩⟩, z'⟩) 58)
  have HX := hide (hx.up HB.out)
  have HY := hide (hy.up HB.out)
  have hs := hide fun (w' : World) (h : Below (bx2 w (cSt ⟨k, ⟨l, A, n, c, ps⟩, ⟨rk, ro, rr, rm, ⟨rl, rA, rn, rc, rps⟩, ⟨gA, gn, gc, gL⟩⟩, z⟩) (cSt ⟨k, ⟨l', A', n', c', ps'⟩, ⟨rk', ro', rr', rm', ⟨rl', rA', rn', rc', rps'⟩, ⟨gA', gn', gc', gL'⟩⟩, z'⟩) 58).heap.size (bx2 w (cSt ⟨k, ⟨l, A, n, c, ps⟩, ⟨rk, ro, rr, rm, ⟨rl, rA, rn, rc, rps⟩, ⟨gA, gn, gc, gL⟩⟩, z⟩) (cSt ⟨k, ⟨l', A', n', c', ps'⟩, ⟨rk', ro', rr', rm', ⟨rl', rA', rn', rc', rps'⟩, ⟨gA', gn', gc', gL'⟩⟩, z'⟩) 58) w') => bx2_cells h
  clear hx hy
  go_enter Tryz.func73, Tryz.ntmps73
  go_wp2
  go_ret
  exact ⟨rfl, HB.out⟩

set_option maxHeartbeats 4000000 in
set_option maxRecDepth 100000 in
theorem eqSt2 (k : Int) (z : Int) (l : Int) (A : Option Addr) (n c : Nat) (ps : List Pr) (rk ro rr : Int) (rm : Bool) (rl : Int) (rA : Option Addr) (rn rc : Nat) (rps : List Pr) (gA : Option Addr) (gn gc : Nat) (gL : List OpW) (l' : Int) (A' : Option Addr) (n' c' : Nat) (ps' : List Pr) (rk' ro' rr' : Int) (rm' : Bool) (rl' : Int) (rA' : Option Addr) (rn' rc' : Nat) (rps' : List Pr) (gA' : Option Addr) (gn' gc' : Nat) (gL' : List OpW) (h2 : eqPl ⟨l, A, n, c, ps⟩ ⟨l', A', n', c', ps'⟩ = false)
    (w : World) (hx : OneSt w w.heap.size ⟨k, ⟨l, A, n, c, ps⟩, ⟨rk, ro, rr, rm, ⟨rl, rA, rn, rc, rps⟩, ⟨gA, gn, gc, gL⟩⟩, z⟩) (hy : OneSt w w.heap.size ⟨k, ⟨l', A', n', c', ps'⟩, ⟨rk', ro', rr', rm', ⟨rl', rA', rn', rc', rps'⟩, ⟨gA', gn', gc', gL'⟩⟩, z⟩) :
    Calls Tryz.prog 73 #[aggSt ⟨k, ⟨l, A, n, c, ps⟩, ⟨rk, ro, rr, rm, ⟨rl, rA, rn, rc, rps⟩, ⟨gA, gn, gc, gL⟩⟩, z⟩, aggSt ⟨k, ⟨l', A', n', c', ps'⟩, ⟨rk', ro', rr', rm', ⟨rl', rA', rn', rc', rps'⟩, ⟨gA', gn', gc', gL'⟩⟩, z⟩] w fun e w' => e = .returned (.bool false) ∧ Below w.heap.size w w' := by
  have HB := hide (bx2_below w (cSt ⟨k, ⟨l, A, n, c, ps⟩, ⟨rk, ro, rr, rm, ⟨rl, rA, rn, rc, rps⟩, ⟨gA, gn, gc, gL⟩⟩, z⟩) (cSt ⟨k, ⟨l', A', n', c', ps'⟩, ⟨rk', ro', rr', rm', ⟨rl', rA', rn', rc', rps'⟩, ⟨gA', gn', gc', gL'⟩⟩, z⟩) 58)
  have HX := hide (hx.up HB.out)
  have HY := hide (hy.up HB.out)
  have hs := hide fun (w' : World) (h : Below (bx2 w (cSt ⟨k, ⟨l, A, n, c, ps⟩, ⟨rk, ro, rr, rm, ⟨rl, rA, rn, rc, rps⟩, ⟨gA, gn, gc, gL⟩⟩, z⟩) (cSt ⟨k, ⟨l', A', n', c', ps'⟩, ⟨rk', ro', rr', rm', ⟨rl', rA', rn', rc', rps'⟩, ⟨gA', gn', gc', gL'⟩⟩, z⟩) 58).heap.size (bx2 w (cSt ⟨k, ⟨l, A, n, c, ps⟩, ⟨rk, ro, rr, rm, ⟨rl, rA, rn, rc, rps⟩, ⟨gA, gn, gc, gL⟩⟩, z⟩) (cSt ⟨k, ⟨l', A', n', c', ps'⟩, ⟨rk', ro', rr', rm', ⟨rl', rA', rn', rc', rps'⟩, ⟨gA', gn', gc', gL'⟩⟩, z⟩) 58) w') => bx2_cells h
  have H2 := hide h2
  clear h2
  clear hx hy
  go_enter Tryz.func73, Tryz.ntmps73
  go_wp2_with fail
  refine (EqualP_is H2.out _ (HX.out.pl.up (Below.refl _ _)) (HY.out.pl.up (Below.refl _ _))).mono ?_
  rintro e w1 ⟨rfl, hb⟩
  have HB1 := hide (show Below (bx2 w (cSt ⟨k, ⟨l, A, n, c, ps⟩, ⟨rk, ro, rr, rm, ⟨rl, rA, rn, rc, rps⟩, ⟨gA, gn, gc, gL⟩⟩, z⟩) (cSt ⟨k, ⟨l', A', n', c', ps'⟩, ⟨rk', ro', rr', rm', ⟨rl', rA', rn', rc', rps'⟩, ⟨gA', gn', gc', gL'⟩⟩, z⟩) 58).heap.size (bx2 w (cSt ⟨k, ⟨l, A, n, c, ps⟩, ⟨rk, ro, rr, rm, ⟨rl, rA, rn, rc, rps⟩, ⟨gA, gn, gc, gL⟩⟩, z⟩) (cSt ⟨k, ⟨l', A', n', c', ps'⟩, ⟨rk', ro', rr', rm', ⟨rl', rA', rn', rc', rps'⟩, ⟨gA', gn', gc', gL'⟩⟩, z⟩) 58) w1 from hb)
  clear hb
  obtain ⟨c0, d0⟩ := hs.out _ HB1.out 0 _ _ rfl rfl
  obtain ⟨c1, d1⟩ := hs.out _ HB1.out 1 _ _ rfl rfl
  obtain ⟨c2, d2⟩ := hs.out _ HB1.out 2 _ _ rfl rfl
  obtain ⟨c3, d3⟩ := hs.out _ HB1.out 3 _ _ rfl rfl
  obtain ⟨c4, d4⟩ := hs.out _ HB1.out 4 _ _ rfl rfl
  obtain ⟨c5, d5⟩ := hs.out _ HB1.out 5 _ _ rfl rfl
  obtain ⟨c6, d6⟩ := hs.out _ HB1.out 6 _ _ rfl rfl
  obtain ⟨c7, d7⟩ := hs.out _ HB1.out 7 _ _ rfl rfl
  obtain ⟨c8, d8⟩ := hs.out _ HB1.out 8 _ _ rfl rfl
  obtain ⟨c9, d9⟩ := hs.out _ HB1.out 9 _ _ rfl rfl
  obtain ⟨c10, d10⟩ := hs.out _ HB1.out 10 _ _ rfl rfl
  simp only [] at c0 d0 c1 d1 c2 d2 c3 d3 c4 d4 c5 d5 c6 d6 c7 d7 c8 d8 c9 d9 c10 d10
  go_wp2
  go_ret
  exact ⟨rfl, HB.out.trans (HB1.out.mono HB.out.size)⟩

set_option maxHeartbeats 4000000 in
set_option maxRecDepth 100000 in
theorem eqSt3 (k : Int) (z : Int) (l : Int) (A : Option Addr) (n c : Nat) (ps : List Pr) (rk ro rr : Int) (rm : Bool) (rl : Int) (rA : Option Addr) (rn rc : Nat) (rps : List Pr) (gA : Option Addr) (gn gc : Nat) (gL : List OpW) (l' : Int) (A' : Option Addr) (n' c' : Nat) (ps' : List Pr) (rk' ro' rr' : Int) (rm' : Bool) (rl' : Int) (rA' : Option Addr) (rn' rc' : Nat) (rps' : List Pr) (gA' : Option Addr) (gn' gc' : Nat) (gL' : List OpW) (h2 : eqPl ⟨l, A, n, c, ps⟩ ⟨l', A', n', c', ps'⟩ = true) (h3 : eqRv ⟨rk, ro, rr, rm, ⟨rl, rA, rn, rc, rps⟩, ⟨gA, gn, gc, gL⟩⟩ ⟨rk', ro', rr', rm', ⟨rl', rA', rn', rc', rps'⟩, ⟨gA', gn', gc', gL'⟩⟩ = false)
    (w : World) (hx : OneSt w w.heap.size ⟨k, ⟨l, A, n, c, ps⟩, ⟨rk, ro, rr, rm, ⟨rl, rA, rn, rc, rps⟩, ⟨gA, gn, gc, gL⟩⟩, z⟩) (hy : OneSt w w.heap.size ⟨k, ⟨l', A', n', c', ps'⟩, ⟨rk', ro', rr', rm', ⟨rl', rA', rn', rc', rps'⟩, ⟨gA', gn', gc', gL'⟩⟩, z⟩) :
    Calls Tryz.prog 73 #[aggSt ⟨k, ⟨l, A, n, c, ps⟩, ⟨rk, ro, rr, rm, ⟨rl, rA, rn, rc, rps⟩, ⟨gA, gn, gc, gL⟩⟩, z⟩, aggSt ⟨k, ⟨l', A', n', c', ps'⟩, ⟨rk', ro', rr', rm', ⟨rl', rA', rn', rc', rps'⟩, ⟨gA', gn', gc', gL'⟩⟩, z⟩] w fun e w' => e = .returned (.bool false) ∧ Below w.heap.size w w' := by
  have HB := hide (bx2_below w (cSt ⟨k, ⟨l, A, n, c, ps⟩, ⟨rk, ro, rr, rm, ⟨rl, rA, rn, rc, rps⟩, ⟨gA, gn, gc, gL⟩⟩, z⟩) (cSt ⟨k, ⟨l', A', n', c', ps'⟩, ⟨rk', ro', rr', rm', ⟨rl', rA', rn', rc', rps'⟩, ⟨gA', gn', gc', gL'⟩⟩, z⟩) 58)
  have HX := hide (hx.up HB.out)
  have HY := hide (hy.up HB.out)
  have hs := hide fun (w' : World) (h : Below (bx2 w (cSt ⟨k, ⟨l, A, n, c, ps⟩, ⟨rk, ro, rr, rm, ⟨rl, rA, rn, rc, rps⟩, ⟨gA, gn, gc, gL⟩⟩, z⟩) (cSt ⟨k, ⟨l', A', n', c', ps'⟩, ⟨rk', ro', rr', rm', ⟨rl', rA', rn', rc', rps'⟩, ⟨gA', gn', gc', gL'⟩⟩, z⟩) 58).heap.size (bx2 w (cSt ⟨k, ⟨l, A, n, c, ps⟩, ⟨rk, ro, rr, rm, ⟨rl, rA, rn, rc, rps⟩, ⟨gA, gn, gc, gL⟩⟩, z⟩) (cSt ⟨k, ⟨l', A', n', c', ps'⟩, ⟨rk', ro', rr', rm', ⟨rl', rA', rn', rc', rps'⟩, ⟨gA', gn', gc', gL'⟩⟩, z⟩) 58) w') => bx2_cells h
  have H2 := hide h2
  clear h2
  have H3 := hide h3
  clear h3
  clear hx hy
  go_enter Tryz.func73, Tryz.ntmps73
  go_wp2_with fail
  refine (EqualP_is H2.out _ (HX.out.pl.up (Below.refl _ _)) (HY.out.pl.up (Below.refl _ _))).mono ?_
  rintro e w1 ⟨rfl, hb⟩
  have HB1 := hide (show Below (bx2 w (cSt ⟨k, ⟨l, A, n, c, ps⟩, ⟨rk, ro, rr, rm, ⟨rl, rA, rn, rc, rps⟩, ⟨gA, gn, gc, gL⟩⟩, z⟩) (cSt ⟨k, ⟨l', A', n', c', ps'⟩, ⟨rk', ro', rr', rm', ⟨rl', rA', rn', rc', rps'⟩, ⟨gA', gn', gc', gL'⟩⟩, z⟩) 58).heap.size (bx2 w (cSt ⟨k, ⟨l, A, n, c, ps⟩, ⟨rk, ro, rr, rm, ⟨rl, rA, rn, rc, rps⟩, ⟨gA, gn, gc, gL⟩⟩, z⟩) (cSt ⟨k, ⟨l', A', n', c', ps'⟩, ⟨rk', ro', rr', rm', ⟨rl', rA', rn', rc', rps'⟩, ⟨gA', gn', gc', gL'⟩⟩, z⟩) 58) w1 from hb)
  clear hb
  obtain ⟨c0, d0⟩ := hs.out _ HB1.out 0 _ _ rfl rfl
  obtain ⟨c1, d1⟩ := hs.out _ HB1.out 1 _ _ rfl rfl
  obtain ⟨c2, d2⟩ := hs.out _ HB1.out 2 _ _ rfl rfl
  obtain ⟨c3, d3⟩ := hs.out _ HB1.out 3 _ _ rfl rfl
  obtain ⟨c4, d4⟩ := hs.out _ HB1.out 4 _ _ rfl rfl
  obtain ⟨c5, d5⟩ := hs.out _ HB1.out 5 _ _ rfl rfl
  obtain ⟨c6, d6⟩ := hs.out _ HB1.out 6 _ _ rfl rfl
  obtain ⟨c7, d7⟩ := hs.out _ HB1.out 7 _ _ rfl rfl
  obtain ⟨c8, d8⟩ := hs.out _ HB1.out 8 _ _ rfl rfl
  obtain ⟨c9, d9⟩ := hs.out _ HB1.out 9 _ _ rfl rfl
  obtain ⟨c10, d10⟩ := hs.out _ HB1.out 10 _ _ rfl rfl
  simp only [] at c0 d0 c1 d1 c2 d2 c3 d3 c4 d4 c5 d5 c6 d6 c7 d7 c8 d8 c9 d9 c10 d10
  go_wp2_with fail
  refine (EqRv_is (x := ⟨rk, ro, rr, rm, ⟨rl, rA, rn, rc, rps⟩, ⟨gA, gn, gc, gL⟩⟩) (y := ⟨rk', ro', rr', rm', ⟨rl', rA', rn', rc', rps'⟩, ⟨gA', gn', gc', gL'⟩⟩) H3.out _ (HX.out.rv.up HB1.out) (HY.out.rv.up HB1.out)).mono ?_
  rintro e w2 ⟨rfl, hb⟩
  have HB2 := hide (HB1.out.trans (hb.mono (Below.size HB1.out)))
  clear hb
  clear c0 d0 c1 d1 c2 d2 c3 d3 c4 d4 c5 d5 c6 d6 c7 d7 c8 d8 c9 d9 c10 d10
  obtain ⟨c0, d0⟩ := hs.out _ HB2.out 0 _ _ rfl rfl
  obtain ⟨c1, d1⟩ := hs.out _ HB2.out 1 _ _ rfl rfl
  obtain ⟨c2, d2⟩ := hs.out _ HB2.out 2 _ _ rfl rfl
  obtain ⟨c3, d3⟩ := hs.out _ HB2.out 3 _ _ rfl rfl
  obtain ⟨c4, d4⟩ := hs.out _ HB2.out 4 _ _ rfl rfl
  obtain ⟨c5, d5⟩ := hs.out _ HB2.out 5 _ _ rfl rfl
  obtain ⟨c6, d6⟩ := hs.out _ HB2.out 6 _ _ rfl rfl
  obtain ⟨c7, d7⟩ := hs.out _ HB2.out 7 _ _ rfl rfl
  obtain ⟨c8, d8⟩ := hs.out _ HB2.out 8 _ _ rfl rfl
  obtain ⟨c9, d9⟩ := hs.out _ HB2.out 9 _ _ rfl rfl
  obtain ⟨c10, d10⟩ := hs.out _ HB2.out 10 _ _ rfl rfl
  simp only [] at c0 d0 c1 d1 c2 d2 c3 d3 c4 d4 c5 d5 c6 d6 c7 d7 c8 d8 c9 d9 c10 d10
  go_wp2
  go_ret
  exact ⟨rfl, HB.out.trans (HB2.out.mono HB.out.size)⟩

set_option maxHeartbeats 4000000 in
set_option maxRecDepth 100000 in
theorem eqSt4 (k : Int) (z : Int) (l : Int) (A : Option Addr) (n c : Nat) (ps : List Pr) (rk ro rr : Int) (rm : Bool) (rl : Int) (rA : Option Addr) (rn rc : Nat) (rps : List Pr) (gA : Option Addr) (gn gc : Nat) (gL : List OpW) (l' : Int) (A' : Option Addr) (n' c' : Nat) (ps' : List Pr) (rk' ro' rr' : Int) (rm' : Bool) (rl' : Int) (rA' : Option Addr) (rn' rc' : Nat) (rps' : List Pr) (gA' : Option Addr) (gn' gc' : Nat) (gL' : List OpW) (h2 : eqPl ⟨l, A, n, c, ps⟩ ⟨l', A', n', c', ps'⟩ = true) (h3 : eqRv ⟨rk, ro, rr, rm, ⟨rl, rA, rn, rc, rps⟩, ⟨gA, gn, gc, gL⟩⟩ ⟨rk', ro', rr', rm', ⟨rl', rA', rn', rc', rps'⟩, ⟨gA', gn', gc', gL'⟩⟩ = true)
    (w : World) (hx : OneSt w w.heap.size ⟨k, ⟨l, A, n, c, ps⟩, ⟨rk, ro, rr, rm, ⟨rl, rA, rn, rc, rps⟩, ⟨gA, gn, gc, gL⟩⟩, z⟩) (hy : OneSt w w.heap.size ⟨k, ⟨l', A', n', c', ps'⟩, ⟨rk', ro', rr', rm', ⟨rl', rA', rn', rc', rps'⟩, ⟨gA', gn', gc', gL'⟩⟩, z⟩) :
    Calls Tryz.prog 73 #[aggSt ⟨k, ⟨l, A, n, c, ps⟩, ⟨rk, ro, rr, rm, ⟨rl, rA, rn, rc, rps⟩, ⟨gA, gn, gc, gL⟩⟩, z⟩, aggSt ⟨k, ⟨l', A', n', c', ps'⟩, ⟨rk', ro', rr', rm', ⟨rl', rA', rn', rc', rps'⟩, ⟨gA', gn', gc', gL'⟩⟩, z⟩] w fun e w' => e = .returned (.bool true) ∧ Below w.heap.size w w' := by
  have HB := hide (bx2_below w (cSt ⟨k, ⟨l, A, n, c, ps⟩, ⟨rk, ro, rr, rm, ⟨rl, rA, rn, rc, rps⟩, ⟨gA, gn, gc, gL⟩⟩, z⟩) (cSt ⟨k, ⟨l', A', n', c', ps'⟩, ⟨rk', ro', rr', rm', ⟨rl', rA', rn', rc', rps'⟩, ⟨gA', gn', gc', gL'⟩⟩, z⟩) 58)
  have HX := hide (hx.up HB.out)
  have HY := hide (hy.up HB.out)
  have hs := hide fun (w' : World) (h : Below (bx2 w (cSt ⟨k, ⟨l, A, n, c, ps⟩, ⟨rk, ro, rr, rm, ⟨rl, rA, rn, rc, rps⟩, ⟨gA, gn, gc, gL⟩⟩, z⟩) (cSt ⟨k, ⟨l', A', n', c', ps'⟩, ⟨rk', ro', rr', rm', ⟨rl', rA', rn', rc', rps'⟩, ⟨gA', gn', gc', gL'⟩⟩, z⟩) 58).heap.size (bx2 w (cSt ⟨k, ⟨l, A, n, c, ps⟩, ⟨rk, ro, rr, rm, ⟨rl, rA, rn, rc, rps⟩, ⟨gA, gn, gc, gL⟩⟩, z⟩) (cSt ⟨k, ⟨l', A', n', c', ps'⟩, ⟨rk', ro', rr', rm', ⟨rl', rA', rn', rc', rps'⟩, ⟨gA', gn', gc', gL'⟩⟩, z⟩) 58) w') => bx2_cells h
  have H2 := hide h2
  clear h2
  have H3 := hide h3
  clear h3
  clear hx hy
  go_enter Tryz.func73, Tryz.ntmps73
  go_wp2_with fail
  refine (EqualP_is H2.out _ (HX.out.pl.up (Below.refl _ _)) (HY.out.pl.up (Below.refl _ _))).mono ?_
  rintro e w1 ⟨rfl, hb⟩
  have HB1 := hide (show Below (bx2 w (cSt ⟨k, ⟨l, A, n, c, ps⟩, ⟨rk, ro, rr, rm, ⟨rl, rA, rn, rc, rps⟩, ⟨gA, gn, gc, gL⟩⟩, z⟩) (cSt ⟨k, ⟨l', A', n', c', ps'⟩, ⟨rk', ro', rr', rm', ⟨rl', rA', rn', rc', rps'⟩, ⟨gA', gn', gc', gL'⟩⟩, z⟩) 58).heap.size (bx2 w (cSt ⟨k, ⟨l, A, n, c, ps⟩, ⟨rk, ro, rr, rm, ⟨rl, rA, rn, rc, rps⟩, ⟨gA, gn, gc, gL⟩⟩, z⟩) (cSt ⟨k, ⟨l', A', n', c', ps'⟩, ⟨rk', ro', rr', rm', ⟨rl', rA', rn', rc', rps'⟩, ⟨gA', gn', gc', gL'⟩⟩, z⟩) 58) w1 from hb)
  clear hb
  obtain ⟨c0, d0⟩ := hs.out _ HB1.out 0 _ _ rfl rfl
  obtain ⟨c1, d1⟩ := hs.out _ HB1.out 1 _ _ rfl rfl
  obtain ⟨c2, d2⟩ := hs.out _ HB1.out 2 _ _ rfl rfl
  obtain ⟨c3, d3⟩ := hs.out _ HB1.out 3 _ _ rfl rfl
  obtain ⟨c4, d4⟩ := hs.out _ HB1.out 4 _ _ rfl rfl
  obtain ⟨c5, d5⟩ := hs.out _ HB1.out 5 _ _ rfl rfl
  obtain ⟨c6, d6⟩ := hs.out _ HB1.out 6 _ _ rfl rfl
  obtain ⟨c7, d7⟩ := hs.out _ HB1.out 7 _ _ rfl rfl
  obtain ⟨c8, d8⟩ := hs.out _ HB1.out 8 _ _ rfl rfl
  obtain ⟨c9, d9⟩ := hs.out _ HB1.out 9 _ _ rfl rfl
  obtain ⟨c10, d10⟩ := hs.out _ HB1.out 10 _ _ rfl rfl
  simp only [] at c0 d0 c1 d1 c2 d2 c3 d3 c4 d4 c5 d5 c6 d6 c7 d7 c8 d8 c9 d9 c10 d10
  go_wp2_with fail
  refine (EqRv_is (x := ⟨rk, ro, rr, rm, ⟨rl, rA, rn, rc, rps⟩, ⟨gA, gn, gc, gL⟩⟩) (y := ⟨rk', ro', rr', rm', ⟨rl', rA', rn', rc', rps'⟩, ⟨gA', gn', gc', gL'⟩⟩) H3.out _ (HX.out.rv.up HB1.out) (HY.out.rv.up HB1.out)).mono ?_
  rintro e w2 ⟨rfl, hb⟩
  have HB2 := hide (HB1.out.trans (hb.mono (Below.size HB1.out)))
  clear hb
  clear c0 d0 c1 d1 c2 d2 c3 d3 c4 d4 c5 d5 c6 d6 c7 d7 c8 d8 c9 d9 c10 d10
  obtain ⟨c0, d0⟩ := hs.out _ HB2.out 0 _ _ rfl rfl
  obtain ⟨c1, d1⟩ := hs.out _ HB2.out 1 _ _ rfl rfl
  obtain ⟨c2, d2⟩ := hs.out _ HB2.out 2 _ _ rfl rfl
  obtain ⟨c3, d3⟩ := hs.out _ HB2.out 3 _ _ rfl rfl
  obtain ⟨c4, d4⟩ := hs.out _ HB2.out 4 _ _ rfl rfl
  obtain ⟨c5, d5⟩ := hs.out _ HB2.out 5 _ _ rfl rfl
  obtain ⟨c6, d6⟩ := hs.out _ HB2.out 6 _ _ rfl rfl
  obtain ⟨c7, d7⟩ := hs.out _ HB2.out 7 _ _ rfl rfl
  obtain ⟨c8, d8⟩ := hs.out _ HB2.out 8 _ _ rfl rfl
  obtain ⟨c9, d9⟩ := hs.out _ HB2.out 9 _ _ rfl rfl
  obtain ⟨c10, d10⟩ := hs.out _ HB2.out 10 _ _ rfl rfl
  simp only [] at c0 d0 c1 d1 c2 d2 c3 d3 c4 d4 c5 d5 c6 d6 c7 d7 c8 d8 c9 d9 c10 d10
  go_wp2
  go_ret
  exact ⟨rfl, HB.out.trans (HB2.out.mono HB.out.size)⟩

theorem EqSt_any (x y : StW) (w : World) (hx : OneSt w w.heap.size x) (hy : OneSt w w.heap.size y) :
    Calls Tryz.prog 73 #[aggSt x, aggSt y] w fun e w' => e = .returned (.bool (eqSt x y)) ∧ Below w.heap.size w w' := by
  obtain ⟨k, ⟨l, A, n, c, ps⟩, ⟨rk, ro, rr, rm, ⟨rl, rA, rn, rc, rps⟩, ⟨gA, gn, gc, gL⟩⟩, z⟩ := x
  obtain ⟨k', ⟨l', A', n', c', ps'⟩, ⟨rk', ro', rr', rm', ⟨rl', rA', rn', rc', rps'⟩, ⟨gA', gn', gc', gL'⟩⟩, z'⟩ := y
  have hv : ∀ b, (k = k' ∧ z = z' ∧ eqPl ⟨l, A, n, c, ps⟩ ⟨l', A', n', c', ps'⟩ = true ∧ eqRv ⟨rk, ro, rr, rm, ⟨rl, rA, rn, rc, rps⟩, ⟨gA, gn, gc, gL⟩⟩ ⟨rk', ro', rr', rm', ⟨rl', rA', rn', rc', rps'⟩, ⟨gA', gn', gc', gL'⟩⟩ = true ↔ b = true) → eqSt ⟨k, ⟨l, A, n, c, ps⟩, ⟨rk, ro, rr, rm, ⟨rl, rA, rn, rc, rps⟩, ⟨gA, gn, gc, gL⟩⟩, z⟩ ⟨k', ⟨l', A', n', c', ps'⟩, ⟨rk', ro', rr', rm', ⟨rl', rA', rn', rc', rps'⟩, ⟨gA', gn', gc', gL'⟩⟩, z'⟩ = b := fun b h => by rw [Bool.eq_iff_iff, ← h, eqSt_iff]
  by_cases e0 : k = k'
  rotate_left
  · rw [hv false (by simp [e0])]
    exact eqSt0 _ _ _ _ _ _ _ _ _ _ _ _ _ _ _ _ _ _ _ _ _ _ _ _ _ _ _ _ _ _ _ _ _ _ _ _ _ _ _ _ (by simpa using e0) w hx hy
  subst e0
  by_cases e1 : z = z'
  rotate_left
  · rw [hv false (by simp [e1])]
    exact eqSt1 _ _ _ _ _ _ _ _ _ _ _ _ _ _ _ _ _ _ _ _ _ _ _ _ _ _ _ _ _ _ _ _ _ _ _ _ _ _ _ (by simpa using e1) w hx hy
  subst e1
  cases e2 : eqPl ⟨l, A, n, c, ps⟩ ⟨l', A', n', c', ps'⟩
  · rw [hv false (by simp [e2])]
    exact eqSt2 _ _ _ _ _ _ _ _ _ _ _ _ _ _ _ _ _ _ _ _ _ _ _ _ _ _ _ _ _ _ _ _ _ _ _ _ _ _ e2 w hx hy
  cases e3 : eqRv ⟨rk, ro, rr, rm, ⟨rl, rA, rn, rc, rps⟩, ⟨gA, gn, gc, gL⟩⟩ ⟨rk', ro', rr', rm', ⟨rl', rA', rn', rc', rps'⟩, ⟨gA', gn', gc', gL'⟩⟩
  · rw [hv false (by simp [e3])]
    exact eqSt3 _ _ _ _ _ _ _ _ _ _ _ _ _ _ _ _ _ _ _ _ _ _ _ _ _ _ _ _ _ _ _ _ _ _ _ _ _ _ e2 e3 w hx hy
  rw [hv true (by simp [e2, e3])]
  exact eqSt4 _ _ _ _ _ _ _ _ _ _ _ _ _ _ _ _ _ _ _ _ _ _ _ _ _ _ _ _ _ _ _ _ _ _ _ _ _ _ e2 e3 w hx hy
theorem EqSt_is {x y : StW} {v : Bool} (h : eqSt x y = v) (w : World) (hx : OneSt w w.heap.size x) (hy : OneSt w w.heap.size y) :
    Calls Tryz.prog 73 #[aggSt x, aggSt y] w fun e w' => e = .returned (.bool v) ∧ Below w.heap.size w w' := h ▸ EqSt_any x y w hx hy

def eqSts (s t : SlW StW) : Bool := eqL (s.L.map StW.v) (t.L.map StW.v)
theorem EqSts_is {s t : SlW StW} {v : Bool} (h : eqSts s t = v) (w : World) (hs : SlH w w.heap.size 11 cSt (OneSt w w.heap.size) s) (ht : SlH w w.heap.size 11 cSt (OneSt w w.heap.size) t) :
    Calls Tryz.prog 74 #[.agg #[s.val, .func (.func 73) #[] #[]], t.val] w fun e w' => e = .returned (.bool v) ∧ Below w.heap.size w w' :=
  h ▸ EqsSt_any 73 s t w hs ht (enters_of Tryz.func73 (by kernel_rfl) rfl) fun x hx y hy w1 hb => EqSt_any x y w1 ((hs.all x hx).up hb) ((ht.all y hy).up hb)

end Go.Proofs.YtbdimnncobpfdaaGreat

/- The code's comparison of terminators. -/
set_option linter.unusedVariables false
namespace Go.Proofs.YtbdimnncobpfdaaGreat
open Go.RowKit Go.Shelf

section
variable {P : Program} {md : Region.Mode} {ops : Array Oper} {Q : Exit → Act → World → Prop} {S : World → Prop}
/-- an operation that yields where S holds, taken first; its slot by name -/
theorem takeY {i : Nat} {oi : Oper} {d : Option Tmp} {v : Value} {fuel : Nat} {listed : Array Bool} {a : Act} {w : World} (hi : ops[i]? = some oi) (hd : oi.dst = d)
    (hs : Region.noSelect ops = true) (hf : Region.free md ops listed i = true) (hr : (Region.ready md ops listed).contains i = true)
    (hQ : ∀ c a w, Q (.panic c) (a.put d v) w → Q (.panic c) a w) (hw : Region.wanted oi (yielded ops a.tmps) = true) (hy : ∀ w, S w → (execOp a.eval oi).run P w = .ok (.value v) w) (hS : S w)
    (h : wpAnyH P md ops Q S fuel (listed.setIfInBounds i true) (a.put d v) w) : wpAnyH P md ops Q S (fuel + 1) listed a w := by
  subst hd
  exact wpAnyH_take hi hs hf hr hQ (Or.inl ⟨hw, hy⟩) hS h
/-- one that is not wanted -/
theorem takeN {i : Nat} {oi : Oper} {d : Option Tmp} {fuel : Nat} {listed : Array Bool} {a : Act} {w : World} (hi : ops[i]? = some oi) (hd : oi.dst = d)
    (hs : Region.noSelect ops = true) (hf : Region.free md ops listed i = true) (hr : (Region.ready md ops listed).contains i = true)
    (hQ : ∀ c a w, Q (.panic c) (a.put d undef) w → Q (.panic c) a w) (hw : Region.wanted oi (yielded ops a.tmps) = false) (hS : S w)
    (h : wpAnyH P md ops Q S fuel (listed.setIfInBounds i true) (a.put d undef) w) : wpAnyH P md ops Q S (fuel + 1) listed a w := by
  subst hd
  exact wpAnyH_take hi hs hf hr hQ (Or.inr ⟨hw, rfl⟩) hS h
end

def eqIs2 (s t : SlW Int) : Bool := eqL s.L t.L
theorem EqIs2_is {s t : SlW Int} {v : Bool} (h : eqIs2 s t = v) (w : World) (hs : Ints w w.heap.size s) (ht : Ints w w.heap.size t) :
    Calls Tryz.prog 97 #[.agg #[s.val, .func (.func 118) #[] #[]], t.val] w fun e w' => e = .returned (.bool v) ∧ Below w.heap.size w w' :=
  h ▸ EqsInt_any 118 s t w hs ht (enters_of Tryz.func118 (by kernel_rfl) rfl) fun x hx y hy w1 hb => CmpInt_plain x y w1

def eqTrm (x y : TmW) : Bool := decide (x.v = y.v)
theorem eqTrm_iff {x y : TmW} : eqTrm x y = true ↔ x.kind = y.kind ∧ x.name = y.name ∧ eqIs2 x.targets y.targets = true ∧ eqPl x.pl y.pl = true ∧ eqOps x.args y.args = true := by
  rw [eqTrm, decide_eq_true_iff, ← plV_eq, eqOps, eqIs2, eqL_iff, eqL_iff]
  obtain ⟨k, t, g, p, nm⟩ := x
  obtain ⟨k', t', g', p', nm'⟩ := y
  simp only [TmW.v, TmV.mk.injEq]
  exact ⟨fun ⟨a, b, c, d, e⟩ => ⟨a, e, b, d, c⟩, fun ⟨a, e, b, d, c⟩ => ⟨a, b, c, d, e⟩⟩
set_option maxHeartbeats 4000000 in
set_option maxRecDepth 100000 in
theorem eqTrm0 (k k' : Int) (nm nm' : ByteArray) (tA : Option Addr) (tn tc : Nat) (tL : List Int) (gA : Option Addr) (gn gc : Nat) (gL : List OpW) (l : Int) (A : Option Addr) (n c : Nat) (ps : List Pr) (tA' : Option Addr) (tn' tc' : Nat) (tL' : List Int) (gA' : Option Addr) (gn' gc' : Nat) (gL' : List OpW) (l' : Int) (A' : Option Addr) (n' c' : Nat) (ps' : List Pr) (t : (k == k') = false)
    (w : World) (hx : OneTm w w.heap.size ⟨k, ⟨tA, tn, tc, tL⟩, ⟨gA, gn, gc, gL⟩, ⟨l, A, n, c, ps⟩, nm⟩) (hy : OneTm w w.heap.size ⟨k', ⟨tA', tn', tc', tL'⟩, ⟨gA', gn', gc', gL'⟩, ⟨l', A', n', c', ps'⟩, nm'⟩) :
    Calls Tryz.prog 75 #[aggTm ⟨k, ⟨tA, tn, tc, tL⟩, ⟨gA, gn, gc, gL⟩, ⟨l, A, n, c, ps⟩, nm⟩, aggTm ⟨k', ⟨tA', tn', tc', tL'⟩, ⟨gA', gn', gc', gL'⟩, ⟨l', A', n', c', ps'⟩, nm'⟩] w fun e w' => e = .returned (.bool false) ∧ Below w.heap.size w w' := by
  have HB := hide (bx2_below w (cTm ⟨k, ⟨tA, tn, tc, tL⟩, ⟨gA, gn, gc, gL⟩, ⟨l, A, n, c, ps⟩, nm⟩) (cTm ⟨k', ⟨tA', tn', tc', tL'⟩, ⟨gA', gn', gc', gL'⟩, ⟨l', A', n', c', ps'⟩, nm'⟩) 42)
  have HX := hide (hx.up HB.out)
  have HY := hide (hy.up HB.out)
  have hs := hide fun (w' : World) (h : Below (bx2 w (cTm ⟨k, ⟨tA, tn, tc, tL⟩, ⟨gA, gn, gc, gL⟩, ⟨l, A, n, c, ps⟩, nm⟩) (cTm ⟨k', ⟨tA', tn', tc', tL'⟩, ⟨gA', gn', gc', gL'⟩, ⟨l', A', n', c', ps'⟩, nm'⟩) 42).heap.size (bx2 w (cTm ⟨k, ⟨tA, tn, tc, tL⟩, ⟨gA, gn, gc, gL⟩, ⟨l, A, n, c, ps⟩, nm⟩) (cTm ⟨k', ⟨tA', tn', tc', tL'⟩, ⟨gA', gn', gc', gL'⟩, ⟨l', A', n', c', ps'⟩, nm'⟩) 42) w') => bx2_cells h
  clear hx hy
  go_enter Tryz.func75, Tryz.ntmps75
  have hc := hide fun (w' : World) (h : Below (bx2 w (cTm ⟨k, ⟨tA, tn, tc, tL⟩, ⟨gA, gn, gc, gL⟩, ⟨l, A, n, c, ps⟩, nm⟩) (cTm ⟨k', ⟨tA', tn', tc', tL'⟩, ⟨gA', gn', gc', gL'⟩, ⟨l', A', n', c', ps'⟩, nm'⟩) 42).heap.size (bx2 w (cTm ⟨k, ⟨tA, tn, tc, tL⟩, ⟨gA, gn, gc, gL⟩, ⟨l, A, n, c, ps⟩, nm⟩) (cTm ⟨k', ⟨tA', tn', tc', tL'⟩, ⟨gA', gn', gc', gL'⟩, ⟨l', A', n', c', ps'⟩, nm'⟩) 42) w') => (show w'.cell? ⟨w.heap.size, 0, none⟩ = some (.int .i64 k) ∧ w'.cell? ⟨w.heap.size + 1, 0, none⟩ = some (.int .i64 k') ∧ w'.cell? ⟨w.heap.size, 1, none⟩ = some (.slice tA tn tc) ∧ w'.cell? ⟨w.heap.size + 1, 1, none⟩ = some (.slice tA' tn' tc') ∧ w'.cell? ⟨w.heap.size, 2, none⟩ = some (.slice gA gn gc) ∧ w'.cell? ⟨w.heap.size + 1, 2, none⟩ = some (.slice gA' gn' gc') ∧ w'.cell? ⟨w.heap.size, 3, none⟩ = some (.int .i64 l) ∧ w'.cell? ⟨w.heap.size + 1, 3, none⟩ = some (.int .i64 l') ∧ w'.cell? ⟨w.heap.size, 4, none⟩ = some (.slice A n c) ∧ w'.cell? ⟨w.heap.size + 1, 4, none⟩ = some (.slice A' n' c') ∧ w'.cell? ⟨w.heap.size, 5, none⟩ = some (.string nm) ∧ w'.cell? ⟨w.heap.size + 1, 5, none⟩ = some (.string nm') from ⟨(hs.out w' h 0 _ _ rfl rfl).1, (hs.out w' h 0 _ _ rfl rfl).2, (hs.out w' h 1 _ _ rfl rfl).1, (hs.out w' h 1 _ _ rfl rfl).2, (hs.out w' h 2 _ _ rfl rfl).1, (hs.out w' h 2 _ _ rfl rfl).2, (hs.out w' h 3 _ _ rfl rfl).1, (hs.out w' h 3 _ _ rfl rfl).2, (hs.out w' h 4 _ _ rfl rfl).1, (hs.out w' h 4 _ _ rfl rfl).2, (hs.out w' h 5 _ _ rfl rfl).1, (hs.out w' h 5 _ _ rfl rfl).2⟩)
  have HW0 := hide (show Below (bx2 w (cTm ⟨k, ⟨tA, tn, tc, tL⟩, ⟨gA, gn, gc, gL⟩, ⟨l, A, n, c, ps⟩, nm⟩) (cTm ⟨k', ⟨tA', tn', tc', tL'⟩, ⟨gA', gn', gc', gL'⟩, ⟨l', A', n', c', ps'⟩, nm'⟩) 42).heap.size (bx2 w (cTm ⟨k, ⟨tA, tn, tc, tL⟩, ⟨gA, gn, gc, gL⟩, ⟨l, A, n, c, ps⟩, nm⟩) (cTm ⟨k', ⟨tA', tn', tc', tL'⟩, ⟨gA', gn', gc', gL'⟩, ⟨l', A', n', c', ps'⟩, nm'⟩) 42) (World.drew (bx2 w (cTm ⟨k, ⟨tA, tn, tc, tL⟩, ⟨gA, gn, gc, gL⟩, ⟨l, A, n, c, ps⟩, nm⟩) (cTm ⟨k', ⟨tA', tn', tc', tL'⟩, ⟨gA', gn', gc', gL'⟩, ⟨l', A', n', c', ps'⟩, nm'⟩) 42)) from (Below.refl _ _).drew)
  go_wp2
  change Code.wp _ _ _ _ (bx2 w (cTm ⟨k, ⟨tA, tn, tc, tL⟩, ⟨gA, gn, gc, gL⟩, ⟨l, A, n, c, ps⟩, nm⟩) (cTm ⟨k', ⟨tA', tn', tc', tL'⟩, ⟨gA', gn', gc', gL'⟩, ⟨l', A', n', c', ps'⟩, nm'⟩) 42)
  refine wp_region_held_drew (S := (fun w' => Below (bx2 w (cTm ⟨k, ⟨tA, tn, tc, tL⟩, ⟨gA, gn, gc, gL⟩, ⟨l, A, n, c, ps⟩, nm⟩) (cTm ⟨k', ⟨tA', tn', tc', tL'⟩, ⟨gA', gn', gc', gL'⟩, ⟨l', A', n', c', ps'⟩, nm'⟩) 42).heap.size (bx2 w (cTm ⟨k, ⟨tA, tn, tc, tL⟩, ⟨gA, gn, gc, gL⟩, ⟨l, A, n, c, ps⟩, nm⟩) (cTm ⟨k', ⟨tA', tn', tc', tL'⟩, ⟨gA', gn', gc', gL'⟩, ⟨l', A', n', c', ps'⟩, nm'⟩) 42) w' ∧ w'.cell? ⟨w.heap.size, 0, none⟩ = some (.int .i64 k) ∧ w'.cell? ⟨w.heap.size + 1, 0, none⟩ = some (.int .i64 k') ∧ w'.cell? ⟨w.heap.size, 1, none⟩ = some (.slice tA tn tc) ∧ w'.cell? ⟨w.heap.size + 1, 1, none⟩ = some (.slice tA' tn' tc') ∧ w'.cell? ⟨w.heap.size, 2, none⟩ = some (.slice gA gn gc) ∧ w'.cell? ⟨w.heap.size + 1, 2, none⟩ = some (.slice gA' gn' gc') ∧ w'.cell? ⟨w.heap.size, 3, none⟩ = some (.int .i64 l) ∧ w'.cell? ⟨w.heap.size + 1, 3, none⟩ = some (.int .i64 l') ∧ w'.cell? ⟨w.heap.size, 4, none⟩ = some (.slice A n c) ∧ w'.cell? ⟨w.heap.size + 1, 4, none⟩ = some (.slice A' n' c') ∧ w'.cell? ⟨w.heap.size, 5, none⟩ = some (.string nm) ∧ w'.cell? ⟨w.heap.size + 1, 5, none⟩ = some (.string nm'))) (by kernel_rfl) ⟨HW0.out, hc.out _ HW0.out⟩ (fun hHeld => ?_)
  refine takeY (i := 0) (d := some 5) (v := ?_) rfl rfl (by kernel_rfl) (by kernel_rfl) (by kernel_rfl) (fun _ _ _ h => h) (by rfl) ?_ hHeld ?_
  rotate_left
  · intro w9 hS9
    first | (go_simp; done) | (go_simp; with_reducible rfl)
  try simp only [Act.put, List.setIfInBounds_toArray, List.set_cons_zero, List.set_cons_succ]
  refine takeY (i := 1) (d := some 6) (v := ?_) rfl rfl (by kernel_rfl) (by kernel_rfl) (by kernel_rfl) (fun _ _ _ h => h) (by rfl) ?_ hHeld ?_
  rotate_left
  · intro w9 hS9
    obtain ⟨_, c0, d0, c1, d1, c2, d2, c3, d3, c4, d4, c5, d5⟩ := hS9
    first | (go_simp; done) | (go_simp; with_reducible rfl)
  try simp only [Act.put, List.setIfInBounds_toArray, List.set_cons_zero, List.set_cons_succ]
  refine takeY (i := 2) (d := some 7) (v := ?_) rfl rfl (by kernel_rfl) (by kernel_rfl) (by kernel_rfl) (fun _ _ _ h => h) (by rfl) ?_ hHeld ?_
  rotate_left
  · intro w9 hS9
    first | (go_simp; done) | (go_simp; with_reducible rfl)
  try simp only [Act.put, List.setIfInBounds_toArray, List.set_cons_zero, List.set_cons_succ]
  refine takeY (i := 3) (d := some 8) (v := ?_) rfl rfl (by kernel_rfl) (by kernel_rfl) (by kernel_rfl) (fun _ _ _ h => h) (by rfl) ?_ hHeld ?_
  rotate_left
  · intro w9 hS9
    obtain ⟨_, c0, d0, c1, d1, c2, d2, c3, d3, c4, d4, c5, d5⟩ := hS9
    first | (go_simp; done) | (go_simp; with_reducible rfl)
  try simp only [Act.put, List.setIfInBounds_toArray, List.set_cons_zero, List.set_cons_succ]
  refine takeY (i := 4) (d := some 9) (v := ?_) rfl rfl (by kernel_rfl) (by kernel_rfl) (by kernel_rfl) (fun _ _ _ h => h) (by rfl) ?_ hHeld ?_
  rotate_left
  · intro w9 hS9
    first | (go_simp; done) | (go_simp; with_reducible rfl)
  try simp only [Act.put, List.setIfInBounds_toArray, List.set_cons_zero, List.set_cons_succ]
  refine takeY (i := 5) (d := some 10) (v := ?_) rfl rfl (by kernel_rfl) (by kernel_rfl) (by kernel_rfl) (fun _ _ _ h => h) (by rfl) ?_ hHeld ?_
  rotate_left
  · intro w9 hS9
    first | (go_simp; done) | (go_simp; with_reducible rfl)
  try simp only [Act.put, List.setIfInBounds_toArray, List.set_cons_zero, List.set_cons_succ]
  refine takeN (i := 6) (d := some 11) rfl rfl (by kernel_rfl) (by kernel_rfl) (by kernel_rfl) (fun _ _ _ h => h) (by rfl) hHeld ?_
  try simp only [Act.put, List.setIfInBounds_toArray, List.set_cons_zero, List.set_cons_succ]
  refine takeN (i := 7) (d := some 12) rfl rfl (by kernel_rfl) (by kernel_rfl) (by kernel_rfl) (fun _ _ _ h => h) (by rfl) hHeld ?_
  try simp only [Act.put, List.setIfInBounds_toArray, List.set_cons_zero, List.set_cons_succ]
  refine takeN (i := 8) (d := some 13) rfl rfl (by kernel_rfl) (by kernel_rfl) (by kernel_rfl) (fun _ _ _ h => h) (by rfl) hHeld ?_
  try simp only [Act.put, List.setIfInBounds_toArray, List.set_cons_zero, List.set_cons_succ]
  refine takeN (i := 9) (d := some 14) rfl rfl (by kernel_rfl) (by kernel_rfl) (by kernel_rfl) (fun _ _ _ h => h) (by rfl) hHeld ?_
  try simp only [Act.put, List.setIfInBounds_toArray, List.set_cons_zero, List.set_cons_succ]
  refine takeN (i := 10) (d := some 15) rfl rfl (by kernel_rfl) (by kernel_rfl) (by kernel_rfl) (fun _ _ _ h => h) (by rfl) hHeld ?_
  try simp only [Act.put, List.setIfInBounds_toArray, List.set_cons_zero, List.set_cons_succ]
  refine takeY (i := 11) (d := some 16) (v := ?_) rfl rfl (by kernel_rfl) (by kernel_rfl) (by kernel_rfl) (fun _ _ _ h => h) (by rfl) ?_ hHeld ?_
  rotate_left
  · intro w9 hS9
    first | (go_simp; done) | (go_simp; with_reducible rfl)
  try simp only [Act.put, List.setIfInBounds_toArray, List.set_cons_zero, List.set_cons_succ]
  refine takeY (i := 12) (d := some 17) (v := ?_) rfl rfl (by kernel_rfl) (by kernel_rfl) (by kernel_rfl) (fun _ _ _ h => h) (by rfl) ?_ hHeld ?_
  rotate_left
  · intro w9 hS9
    first | (go_simp; done) | (go_simp; with_reducible rfl)
  try simp only [Act.put, List.setIfInBounds_toArray, List.set_cons_zero, List.set_cons_succ]
  refine takeN (i := 13) (d := some 18) rfl rfl (by kernel_rfl) (by kernel_rfl) (by kernel_rfl) (fun _ _ _ h => h) (by rfl) hHeld ?_
  try simp only [Act.put, List.setIfInBounds_toArray, List.set_cons_zero, List.set_cons_succ]
  refine takeN (i := 14) (d := some 19) rfl rfl (by kernel_rfl) (by kernel_rfl) (by kernel_rfl) (fun _ _ _ h => h) (by rfl) hHeld ?_
  try simp only [Act.put, List.setIfInBounds_toArray, List.set_cons_zero, List.set_cons_succ]
  refine takeN (i := 16) (d := some 21) rfl rfl (by kernel_rfl) (by kernel_rfl) (by kernel_rfl) (fun _ _ _ h => h) (by rfl) hHeld ?_
  try simp only [Act.put, List.setIfInBounds_toArray, List.set_cons_zero, List.set_cons_succ]
  refine takeN (i := 17) (d := some 22) rfl rfl (by kernel_rfl) (by kernel_rfl) (by kernel_rfl) (fun _ _ _ h => h) (by rfl) hHeld ?_
  try simp only [Act.put, List.setIfInBounds_toArray, List.set_cons_zero, List.set_cons_succ]
  refine wpAnyH_ready (rs := [15]) (by kernel_rfl) (by simp) ?_
  refine AllReadyH.cons rfl (fun K hK => ?_) AllReadyH.nil
  go_simp
  refine hK.out _ _ hHeld (fun hHeld => ?_)
  clear hK K
  try simp only [Act.put, List.setIfInBounds_toArray, List.set_cons_zero, List.set_cons_succ]
  refine wpAnyH_ready (rs := [18]) (by kernel_rfl) (by simp) ?_
  refine AllReadyH.cons rfl (fun K hK => ?_) AllReadyH.nil
  go_simp
  refine hK.out _ _ hHeld (fun hHeld => ?_)
  clear hK K
  try simp only [Act.put, List.setIfInBounds_toArray, List.set_cons_zero, List.set_cons_succ]
  refine takeY (i := 19) (d := some 24) (v := ?_) rfl rfl (by kernel_rfl) (by kernel_rfl) (by kernel_rfl) (fun _ _ _ h => h) (by rfl) ?_ hHeld ?_
  rotate_left
  · intro w9 hS9
    first | (go_simp; done) | (go_simp; with_reducible rfl)
  try simp only [Act.put, List.setIfInBounds_toArray, List.set_cons_zero, List.set_cons_succ]
  refine takeY (i := 20) (d := some 25) (v := ?_) rfl rfl (by kernel_rfl) (by kernel_rfl) (by kernel_rfl) (fun _ _ _ h => h) (by rfl) ?_ hHeld ?_
  rotate_left
  · intro w9 hS9
    first | (go_simp; done) | (go_simp; with_reducible rfl)
  try simp only [Act.put, List.setIfInBounds_toArray, List.set_cons_zero, List.set_cons_succ]
  refine takeN (i := 21) (d := some 26) rfl rfl (by kernel_rfl) (by kernel_rfl) (by kernel_rfl) (fun _ _ _ h => h) (by rfl) hHeld ?_
  try simp only [Act.put, List.setIfInBounds_toArray, List.set_cons_zero, List.set_cons_succ]
  refine takeN (i := 22) (d := some 27) rfl rfl (by kernel_rfl) (by kernel_rfl) (by kernel_rfl) (fun _ _ _ h => h) (by rfl) hHeld ?_
  try simp only [Act.put, List.setIfInBounds_toArray, List.set_cons_zero, List.set_cons_succ]
  refine takeN (i := 23) (d := some 28) rfl rfl (by kernel_rfl) (by kernel_rfl) (by kernel_rfl) (fun _ _ _ h => h) (by rfl) hHeld ?_
  try simp only [Act.put, List.setIfInBounds_toArray, List.set_cons_zero, List.set_cons_succ]
  refine takeN (i := 24) (d := some 29) rfl rfl (by kernel_rfl) (by kernel_rfl) (by kernel_rfl) (fun _ _ _ h => h) (by rfl) hHeld ?_
  try simp only [Act.put, List.setIfInBounds_toArray, List.set_cons_zero, List.set_cons_succ]
  refine wpAnyH_ready (rs := [25]) (by kernel_rfl) (by simp) ?_
  refine AllReadyH.cons rfl (fun K hK => ?_) AllReadyH.nil
  go_simp
  refine hK.out _ _ hHeld (fun hHeld => ?_)
  clear hK K
  try simp only [Act.put, List.setIfInBounds_toArray, List.set_cons_zero, List.set_cons_succ]
  refine takeY (i := 26) (d := some 31) (v := ?_) rfl rfl (by kernel_rfl) (by kernel_rfl) (by kernel_rfl) (fun _ _ _ h => h) (by rfl) ?_ hHeld ?_
  rotate_left
  · intro w9 hS9
    first | (go_simp; done) | (go_simp; with_reducible rfl)
  try simp only [Act.put, List.setIfInBounds_toArray, List.set_cons_zero, List.set_cons_succ]
  refine takeY (i := 27) (d := some 32) (v := ?_) rfl rfl (by kernel_rfl) (by kernel_rfl) (by kernel_rfl) (fun _ _ _ h => h) (by rfl) ?_ hHeld ?_
  rotate_left
  · intro w9 hS9
    first | (go_simp; done) | (go_simp; with_reducible rfl)
  try simp only [Act.put, List.setIfInBounds_toArray, List.set_cons_zero, List.set_cons_succ]
  refine takeN (i := 28) (d := some 33) rfl rfl (by kernel_rfl) (by kernel_rfl) (by kernel_rfl) (fun _ _ _ h => h) (by rfl) hHeld ?_
  try simp only [Act.put, List.setIfInBounds_toArray, List.set_cons_zero, List.set_cons_succ]
  refine takeN (i := 29) (d := some 34) rfl rfl (by kernel_rfl) (by kernel_rfl) (by kernel_rfl) (fun _ _ _ h => h) (by rfl) hHeld ?_
  try simp only [Act.put, List.setIfInBounds_toArray, List.set_cons_zero, List.set_cons_succ]
  refine takeN (i := 30) (d := some 35) rfl rfl (by kernel_rfl) (by kernel_rfl) (by kernel_rfl) (fun _ _ _ h => h) (by rfl) hHeld ?_
  try simp only [Act.put, List.setIfInBounds_toArray, List.set_cons_zero, List.set_cons_succ]
  refine takeN (i := 31) (d := some 36) rfl rfl (by kernel_rfl) (by kernel_rfl) (by kernel_rfl) (fun _ _ _ h => h) (by rfl) hHeld ?_
  try simp only [Act.put, List.setIfInBounds_toArray, List.set_cons_zero, List.set_cons_succ]
  refine takeN (i := 32) (d := some 37) rfl rfl (by kernel_rfl) (by kernel_rfl) (by kernel_rfl) (fun _ _ _ h => h) (by rfl) hHeld ?_
  try simp only [Act.put, List.setIfInBounds_toArray, List.set_cons_zero, List.set_cons_succ]
  refine wpAnyH_ready (rs := [33]) (by kernel_rfl) (by simp) ?_
  refine AllReadyH.cons rfl (fun K hK => ?_) AllReadyH.nil
  go_simp
  refine hK.out _ _ hHeld (fun hHeld => ?_)
  clear hK K
  try simp only [Act.put, List.setIfInBounds_toArray, List.set_cons_zero, List.set_cons_succ]
  refine takeY (i := 34) (d := some 39) (v := ?_) rfl rfl (by kernel_rfl) (by kernel_rfl) (by kernel_rfl) (fun _ _ _ h => h) (by rfl) ?_ hHeld ?_
  rotate_left
  · intro w9 hS9
    first | (go_simp; done) | (go_simp; with_reducible rfl)
  try simp only [Act.put, List.setIfInBounds_toArray, List.set_cons_zero, List.set_cons_succ]
  refine takeY (i := 35) (d := some 4) (v := ?_) rfl rfl (by kernel_rfl) (by kernel_rfl) (by kernel_rfl) (fun _ _ _ h => h) (by rfl) ?_ hHeld ?_
  rotate_left
  · intro w9 hS9
    first | (go_simp; done) | (go_simp; with_reducible rfl)
  try simp only [Act.put, List.setIfInBounds_toArray, List.set_cons_zero, List.set_cons_succ]
  refine wpAnyH_done (by kernel_rfl) ?_ _
  go_wp2
  go_ret
  exact ⟨rfl, HB.out.trans (HW0.out.mono HB.out.size)⟩

set_option maxHeartbeats 4000000 in
set_option maxRecDepth 100000 in
theorem eqTrm1 (k : Int) (nm nm' : ByteArray) (tA : Option Addr) (tn tc : Nat) (tL : List Int) (gA : Option Addr) (gn gc : Nat) (gL : List OpW) (l : Int) (A : Option Addr) (n c : Nat) (ps : List Pr) (tA' : Option Addr) (tn' tc' : Nat) (tL' : List Int) (gA' : Option Addr) (gn' gc' : Nat) (gL' : List OpW) (l' : Int) (A' : Option Addr) (n' c' : Nat) (ps' : List Pr) (t : (nm.toList == nm'.toList) = false)
    (w : World) (hx : OneTm w w.heap.size ⟨k, ⟨tA, tn, tc, tL⟩, ⟨gA, gn, gc, gL⟩, ⟨l, A, n, c, ps⟩, nm⟩) (hy : OneTm w w.heap.size ⟨k, ⟨tA', tn', tc', tL'⟩, ⟨gA', gn', gc', gL'⟩, ⟨l', A', n', c', ps'⟩, nm'⟩) :
    Calls Tryz.prog 75 #[aggTm ⟨k, ⟨tA, tn, tc, tL⟩, ⟨gA, gn, gc, gL⟩, ⟨l, A, n, c, ps⟩, nm⟩, aggTm ⟨k, ⟨tA', tn', tc', tL'⟩, ⟨gA', gn', gc', gL'⟩, ⟨l', A', n', c', ps'⟩, nm'⟩] w fun e w' => e = .returned (.bool false) ∧ Below w.heap.size w w' := by
  have HB := hide (bx2_below w (cTm ⟨k, ⟨tA, tn, tc, tL⟩, ⟨gA, gn, gc, gL⟩, ⟨l, A, n, c, ps⟩, nm⟩) (cTm ⟨k, ⟨tA', tn', tc', tL'⟩, ⟨gA', gn', gc', gL'⟩, ⟨l', A', n', c', ps'⟩, nm'⟩) 42)
  have HX := hide (hx.up HB.out)
  have HY := hide (hy.up HB.out)
  have hs := hide fun (w' : World) (h : Below (bx2 w (cTm ⟨k, ⟨tA, tn, tc, tL⟩, ⟨gA, gn, gc, gL⟩, ⟨l, A, n, c, ps⟩, nm⟩) (cTm ⟨k, ⟨tA', tn', tc', tL'⟩, ⟨gA', gn', gc', gL'⟩, ⟨l', A', n', c', ps'⟩, nm'⟩) 42).heap.size (bx2 w (cTm ⟨k, ⟨tA, tn, tc, tL⟩, ⟨gA, gn, gc, gL⟩, ⟨l, A, n, c, ps⟩, nm⟩) (cTm ⟨k, ⟨tA', tn', tc', tL'⟩, ⟨gA', gn', gc', gL'⟩, ⟨l', A', n', c', ps'⟩, nm'⟩) 42) w') => bx2_cells h
  clear hx hy
  go_enter Tryz.func75, Tryz.ntmps75
  have hc := hide fun (w' : World) (h : Below (bx2 w (cTm ⟨k, ⟨tA, tn, tc, tL⟩, ⟨gA, gn, gc, gL⟩, ⟨l, A, n, c, ps⟩, nm⟩) (cTm ⟨k, ⟨tA', tn', tc', tL'⟩, ⟨gA', gn', gc', gL'⟩, ⟨l', A', n', c', ps'⟩, nm'⟩) 42).heap.size (bx2 w (cTm ⟨k, ⟨tA, tn, tc, tL⟩, ⟨gA, gn, gc, gL⟩, ⟨l, A, n, c, ps⟩, nm⟩) (cTm ⟨k, ⟨tA', tn', tc', tL'⟩, ⟨gA', gn', gc', gL'⟩, ⟨l', A', n', c', ps'⟩, nm'⟩) 42) w') => (show w'.cell? ⟨w.heap.size, 0, none⟩ = some (.int .i64 k) ∧ w'.cell? ⟨w.heap.size + 1, 0, none⟩ = some (.int .i64 k) ∧ w'.cell? ⟨w.heap.size, 1, none⟩ = some (.slice tA tn tc) ∧ w'.cell? ⟨w.heap.size + 1, 1, none⟩ = some (.slice tA' tn' tc') ∧ w'.cell? ⟨w.heap.size, 2, none⟩ = some (.slice gA gn gc) ∧ w'.cell? ⟨w.heap.size + 1, 2, none⟩ = some (.slice gA' gn' gc') ∧ w'.cell? ⟨w.heap.size, 3, none⟩ = some (.int .i64 l) ∧ w'.cell? ⟨w.heap.size + 1, 3, none⟩ = some (.int .i64 l') ∧ w'.cell? ⟨w.heap.size, 4, none⟩ = some (.slice A n c) ∧ w'.cell? ⟨w.heap.size + 1, 4, none⟩ = some (.slice A' n' c') ∧ w'.cell? ⟨w.heap.size, 5, none⟩ = some (.string nm) ∧ w'.cell? ⟨w.heap.size + 1, 5, none⟩ = some (.string nm') from ⟨(hs.out w' h 0 _ _ rfl rfl).1, (hs.out w' h 0 _ _ rfl rfl).2, (hs.out w' h 1 _ _ rfl rfl).1, (hs.out w' h 1 _ _ rfl rfl).2, (hs.out w' h 2 _ _ rfl rfl).1, (hs.out w' h 2 _ _ rfl rfl).2, (hs.out w' h 3 _ _ rfl rfl).1, (hs.out w' h 3 _ _ rfl rfl).2, (hs.out w' h 4 _ _ rfl rfl).1, (hs.out w' h 4 _ _ rfl rfl).2, (hs.out w' h 5 _ _ rfl rfl).1, (hs.out w' h 5 _ _ rfl rfl).2⟩)
  have HW0 := hide (show Below (bx2 w (cTm ⟨k, ⟨tA, tn, tc, tL⟩, ⟨gA, gn, gc, gL⟩, ⟨l, A, n, c, ps⟩, nm⟩) (cTm ⟨k, ⟨tA', tn', tc', tL'⟩, ⟨gA', gn', gc', gL'⟩, ⟨l', A', n', c', ps'⟩, nm'⟩) 42).heap.size (bx2 w (cTm ⟨k, ⟨tA, tn, tc, tL⟩, ⟨gA, gn, gc, gL⟩, ⟨l, A, n, c, ps⟩, nm⟩) (cTm ⟨k, ⟨tA', tn', tc', tL'⟩, ⟨gA', gn', gc', gL'⟩, ⟨l', A', n', c', ps'⟩, nm'⟩) 42) (World.drew (bx2 w (cTm ⟨k, ⟨tA, tn, tc, tL⟩, ⟨gA, gn, gc, gL⟩, ⟨l, A, n, c, ps⟩, nm⟩) (cTm ⟨k, ⟨tA', tn', tc', tL'⟩, ⟨gA', gn', gc', gL'⟩, ⟨l', A', n', c', ps'⟩, nm'⟩) 42)) from (Below.refl _ _).drew)
  go_wp2
  change Code.wp _ _ _ _ (bx2 w (cTm ⟨k, ⟨tA, tn, tc, tL⟩, ⟨gA, gn, gc, gL⟩, ⟨l, A, n, c, ps⟩, nm⟩) (cTm ⟨k, ⟨tA', tn', tc', tL'⟩, ⟨gA', gn', gc', gL'⟩, ⟨l', A', n', c', ps'⟩, nm'⟩) 42)
  refine wp_region_held_drew (S := (fun w' => Below (bx2 w (cTm ⟨k, ⟨tA, tn, tc, tL⟩, ⟨gA, gn, gc, gL⟩, ⟨l, A, n, c, ps⟩, nm⟩) (cTm ⟨k, ⟨tA', tn', tc', tL'⟩, ⟨gA', gn', gc', gL'⟩, ⟨l', A', n', c', ps'⟩, nm'⟩) 42).heap.size (bx2 w (cTm ⟨k, ⟨tA, tn, tc, tL⟩, ⟨gA, gn, gc, gL⟩, ⟨l, A, n, c, ps⟩, nm⟩) (cTm ⟨k, ⟨tA', tn', tc', tL'⟩, ⟨gA', gn', gc', gL'⟩, ⟨l', A', n', c', ps'⟩, nm'⟩) 42) w' ∧ w'.cell? ⟨w.heap.size, 0, none⟩ = some (.int .i64 k) ∧ w'.cell? ⟨w.heap.size + 1, 0, none⟩ = some (.int .i64 k) ∧ w'.cell? ⟨w.heap.size, 1, none⟩ = some (.slice tA tn tc) ∧ w'.cell? ⟨w.heap.size + 1, 1, none⟩ = some (.slice tA' tn' tc') ∧ w'.cell? ⟨w.heap.size, 2, none⟩ = some (.slice gA gn gc) ∧ w'.cell? ⟨w.heap.size + 1, 2, none⟩ = some (.slice gA' gn' gc') ∧ w'.cell? ⟨w.heap.size, 3, none⟩ = some (.int .i64 l) ∧ w'.cell? ⟨w.heap.size + 1, 3, none⟩ = some (.int .i64 l') ∧ w'.cell? ⟨w.heap.size, 4, none⟩ = some (.slice A n c) ∧ w'.cell? ⟨w.heap.size + 1, 4, none⟩ = some (.slice A' n' c') ∧ w'.cell? ⟨w.heap.size, 5, none⟩ = some (.string nm) ∧ w'.cell? ⟨w.heap.size + 1, 5, none⟩ = some (.string nm'))) (by kernel_rfl) ⟨HW0.out, hc.out _ HW0.out⟩ (fun hHeld => ?_)
  refine takeY (i := 0) (d := some 5) (v := ?_) rfl rfl (by kernel_rfl) (by kernel_rfl) (by kernel_rfl) (fun _ _ _ h => h) (by rfl) ?_ hHeld ?_
  rotate_left
  · intro w9 hS9
    first | (go_simp; done) | (go_simp; with_reducible rfl)
  try simp only [Act.put, List.setIfInBounds_toArray, List.set_cons_zero, List.set_cons_succ]
  refine takeY (i := 1) (d := some 6) (v := ?_) rfl rfl (by kernel_rfl) (by kernel_rfl) (by kernel_rfl) (fun _ _ _ h => h) (by rfl) ?_ hHeld ?_
  rotate_left
  · intro w9 hS9
    obtain ⟨_, c0, d0, c1, d1, c2, d2, c3, d3, c4, d4, c5, d5⟩ := hS9
    first | (go_simp; done) | (go_simp; with_reducible rfl)
  try simp only [Act.put, List.setIfInBounds_toArray, List.set_cons_zero, List.set_cons_succ]
  refine takeY (i := 2) (d := some 7) (v := ?_) rfl rfl (by kernel_rfl) (by kernel_rfl) (by kernel_rfl) (fun _ _ _ h => h) (by rfl) ?_ hHeld ?_
  rotate_left
  · intro w9 hS9
    first | (go_simp; done) | (go_simp; with_reducible rfl)
  try simp only [Act.put, List.setIfInBounds_toArray, List.set_cons_zero, List.set_cons_succ]
  refine takeY (i := 3) (d := some 8) (v := ?_) rfl rfl (by kernel_rfl) (by kernel_rfl) (by kernel_rfl) (fun _ _ _ h => h) (by rfl) ?_ hHeld ?_
  rotate_left
  · intro w9 hS9
    obtain ⟨_, c0, d0, c1, d1, c2, d2, c3, d3, c4, d4, c5, d5⟩ := hS9
    first | (go_simp; done) | (go_simp; with_reducible rfl)
  try simp only [Act.put, List.setIfInBounds_toArray, List.set_cons_zero, List.set_cons_succ]
  refine takeY (i := 4) (d := some 9) (v := ?_) rfl rfl (by kernel_rfl) (by kernel_rfl) (by kernel_rfl) (fun _ _ _ h => h) (by rfl) ?_ hHeld ?_
  rotate_left
  · intro w9 hS9
    first | (go_simp; done) | (go_simp; with_reducible rfl)
  try simp only [Act.put, List.setIfInBounds_toArray, List.set_cons_zero, List.set_cons_succ]
  refine takeY (i := 5) (d := some 10) (v := ?_) rfl rfl (by kernel_rfl) (by kernel_rfl) (by kernel_rfl) (fun _ _ _ h => h) (by rfl) ?_ hHeld ?_
  rotate_left
  · intro w9 hS9
    first | (go_simp; done) | (go_simp; with_reducible rfl)
  try simp only [Act.put, List.setIfInBounds_toArray, List.set_cons_zero, List.set_cons_succ]
  refine takeY (i := 6) (d := some 11) (v := ?_) rfl rfl (by kernel_rfl) (by kernel_rfl) (by kernel_rfl) (fun _ _ _ h => h) (by rfl) ?_ hHeld ?_
  rotate_left
  · intro w9 hS9
    first | (go_simp; done) | (go_simp; with_reducible rfl)
  try simp only [Act.put, List.setIfInBounds_toArray, List.set_cons_zero, List.set_cons_succ]
  refine takeY (i := 7) (d := some 12) (v := ?_) rfl rfl (by kernel_rfl) (by kernel_rfl) (by kernel_rfl) (fun _ _ _ h => h) (by rfl) ?_ hHeld ?_
  rotate_left
  · intro w9 hS9
    obtain ⟨_, c0, d0, c1, d1, c2, d2, c3, d3, c4, d4, c5, d5⟩ := hS9
    first | (go_simp; done) | (go_simp; with_reducible rfl)
  try simp only [Act.put, List.setIfInBounds_toArray, List.set_cons_zero, List.set_cons_succ]
  refine takeY (i := 8) (d := some 13) (v := ?_) rfl rfl (by kernel_rfl) (by kernel_rfl) (by kernel_rfl) (fun _ _ _ h => h) (by rfl) ?_ hHeld ?_
  rotate_left
  · intro w9 hS9
    first | (go_simp; done) | (go_simp; with_reducible rfl)
  try simp only [Act.put, List.setIfInBounds_toArray, List.set_cons_zero, List.set_cons_succ]
  refine takeY (i := 9) (d := some 14) (v := ?_) rfl rfl (by kernel_rfl) (by kernel_rfl) (by kernel_rfl) (fun _ _ _ h => h) (by rfl) ?_ hHeld ?_
  rotate_left
  · intro w9 hS9
    obtain ⟨_, c0, d0, c1, d1, c2, d2, c3, d3, c4, d4, c5, d5⟩ := hS9
    first | (go_simp; done) | (go_simp; with_reducible rfl)
  try simp only [Act.put, List.setIfInBounds_toArray, List.set_cons_zero, List.set_cons_succ]
  refine takeY (i := 10) (d := some 15) (v := ?_) rfl rfl (by kernel_rfl) (by kernel_rfl) (by kernel_rfl) (fun _ _ _ h => h) (by rfl) ?_ hHeld ?_
  rotate_left
  · intro w9 hS9
    first | (go_simp; done) | (go_simp; with_reducible rfl)
  try simp only [Act.put, List.setIfInBounds_toArray, List.set_cons_zero, List.set_cons_succ]
  refine takeY (i := 11) (d := some 16) (v := ?_) rfl rfl (by kernel_rfl) (by kernel_rfl) (by kernel_rfl) (fun _ _ _ h => h) (by rfl) ?_ hHeld ?_
  rotate_left
  · intro w9 hS9
    first | (go_simp; done) | (go_simp; with_reducible rfl)
  try simp only [Act.put, List.setIfInBounds_toArray, List.set_cons_zero, List.set_cons_succ]
  refine takeY (i := 12) (d := some 17) (v := ?_) rfl rfl (by kernel_rfl) (by kernel_rfl) (by kernel_rfl) (fun _ _ _ h => h) (by rfl) ?_ hHeld ?_
  rotate_left
  · intro w9 hS9
    first | (go_simp; done) | (go_simp; with_reducible rfl)
  try simp only [Act.put, List.setIfInBounds_toArray, List.set_cons_zero, List.set_cons_succ]
  refine takeN (i := 13) (d := some 18) rfl rfl (by kernel_rfl) (by kernel_rfl) (by kernel_rfl) (fun _ _ _ h => h) (by rfl) hHeld ?_
  try simp only [Act.put, List.setIfInBounds_toArray, List.set_cons_zero, List.set_cons_succ]
  refine takeN (i := 14) (d := some 19) rfl rfl (by kernel_rfl) (by kernel_rfl) (by kernel_rfl) (fun _ _ _ h => h) (by rfl) hHeld ?_
  try simp only [Act.put, List.setIfInBounds_toArray, List.set_cons_zero, List.set_cons_succ]
  refine takeN (i := 16) (d := some 21) rfl rfl (by kernel_rfl) (by kernel_rfl) (by kernel_rfl) (fun _ _ _ h => h) (by rfl) hHeld ?_
  try simp only [Act.put, List.setIfInBounds_toArray, List.set_cons_zero, List.set_cons_succ]
  refine takeN (i := 17) (d := some 22) rfl rfl (by kernel_rfl) (by kernel_rfl) (by kernel_rfl) (fun _ _ _ h => h) (by rfl) hHeld ?_
  try simp only [Act.put, List.setIfInBounds_toArray, List.set_cons_zero, List.set_cons_succ]
  refine wpAnyH_ready (rs := [15]) (by kernel_rfl) (by simp) ?_
  refine AllReadyH.cons rfl (fun K hK => ?_) AllReadyH.nil
  go_simp
  refine hK.out _ _ hHeld (fun hHeld => ?_)
  clear hK K
  try simp only [Act.put, List.setIfInBounds_toArray, List.set_cons_zero, List.set_cons_succ]
  refine wpAnyH_ready (rs := [18]) (by kernel_rfl) (by simp) ?_
  refine AllReadyH.cons rfl (fun K hK => ?_) AllReadyH.nil
  go_simp
  refine hK.out _ _ hHeld (fun hHeld => ?_)
  clear hK K
  try simp only [Act.put, List.setIfInBounds_toArray, List.set_cons_zero, List.set_cons_succ]
  refine takeY (i := 19) (d := some 24) (v := ?_) rfl rfl (by kernel_rfl) (by kernel_rfl) (by kernel_rfl) (fun _ _ _ h => h) (by rfl) ?_ hHeld ?_
  rotate_left
  · intro w9 hS9
    first | (go_simp; done) | (go_simp; with_reducible rfl)
  try simp only [Act.put, List.setIfInBounds_toArray, List.set_cons_zero, List.set_cons_succ]
  refine takeY (i := 20) (d := some 25) (v := ?_) rfl rfl (by kernel_rfl) (by kernel_rfl) (by kernel_rfl) (fun _ _ _ h => h) (by rfl) ?_ hHeld ?_
  rotate_left
  · intro w9 hS9
    first | (go_simp; done) | (go_simp; with_reducible rfl)
  try simp only [Act.put, List.setIfInBounds_toArray, List.set_cons_zero, List.set_cons_succ]
  refine takeN (i := 21) (d := some 26) rfl rfl (by kernel_rfl) (by kernel_rfl) (by kernel_rfl) (fun _ _ _ h => h) (by rfl) hHeld ?_
  try simp only [Act.put, List.setIfInBounds_toArray, List.set_cons_zero, List.set_cons_succ]
  refine takeN (i := 22) (d := some 27) rfl rfl (by kernel_rfl) (by kernel_rfl) (by kernel_rfl) (fun _ _ _ h => h) (by rfl) hHeld ?_
  try simp only [Act.put, List.setIfInBounds_toArray, List.set_cons_zero, List.set_cons_succ]
  refine takeN (i := 23) (d := some 28) rfl rfl (by kernel_rfl) (by kernel_rfl) (by kernel_rfl) (fun _ _ _ h => h) (by rfl) hHeld ?_
  try simp only [Act.put, List.setIfInBounds_toArray, List.set_cons_zero, List.set_cons_succ]
  refine takeN (i := 24) (d := some 29) rfl rfl (by kernel_rfl) (by kernel_rfl) (by kernel_rfl) (fun _ _ _ h => h) (by rfl) hHeld ?_
  try simp only [Act.put, List.setIfInBounds_toArray, List.set_cons_zero, List.set_cons_succ]
  refine wpAnyH_ready (rs := [25]) (by kernel_rfl) (by simp) ?_
  refine AllReadyH.cons rfl (fun K hK => ?_) AllReadyH.nil
  go_simp
  refine hK.out _ _ hHeld (fun hHeld => ?_)
  clear hK K
  try simp only [Act.put, List.setIfInBounds_toArray, List.set_cons_zero, List.set_cons_succ]
  refine takeY (i := 26) (d := some 31) (v := ?_) rfl rfl (by kernel_rfl) (by kernel_rfl) (by kernel_rfl) (fun _ _ _ h => h) (by rfl) ?_ hHeld ?_
  rotate_left
  · intro w9 hS9
    first | (go_simp; done) | (go_simp; with_reducible rfl)
  try simp only [Act.put, List.setIfInBounds_toArray, List.set_cons_zero, List.set_cons_succ]
  refine takeY (i := 27) (d := some 32) (v := ?_) rfl rfl (by kernel_rfl) (by kernel_rfl) (by kernel_rfl) (fun _ _ _ h => h) (by rfl) ?_ hHeld ?_
  rotate_left
  · intro w9 hS9
    first | (go_simp; done) | (go_simp; with_reducible rfl)
  try simp only [Act.put, List.setIfInBounds_toArray, List.set_cons_zero, List.set_cons_succ]
  refine takeN (i := 28) (d := some 33) rfl rfl (by kernel_rfl) (by kernel_rfl) (by kernel_rfl) (fun _ _ _ h => h) (by rfl) hHeld ?_
  try simp only [Act.put, List.setIfInBounds_toArray, List.set_cons_zero, List.set_cons_succ]
  refine takeN (i := 29) (d := some 34) rfl rfl (by kernel_rfl) (by kernel_rfl) (by kernel_rfl) (fun _ _ _ h => h) (by rfl) hHeld ?_
  try simp only [Act.put, List.setIfInBounds_toArray, List.set_cons_zero, List.set_cons_succ]
  refine takeN (i := 30) (d := some 35) rfl rfl (by kernel_rfl) (by kernel_rfl) (by kernel_rfl) (fun _ _ _ h => h) (by rfl) hHeld ?_
  try simp only [Act.put, List.setIfInBounds_toArray, List.set_cons_zero, List.set_cons_succ]
  refine takeN (i := 31) (d := some 36) rfl rfl (by kernel_rfl) (by kernel_rfl) (by kernel_rfl) (fun _ _ _ h => h) (by rfl) hHeld ?_
  try simp only [Act.put, List.setIfInBounds_toArray, List.set_cons_zero, List.set_cons_succ]
  refine takeN (i := 32) (d := some 37) rfl rfl (by kernel_rfl) (by kernel_rfl) (by kernel_rfl) (fun _ _ _ h => h) (by rfl) hHeld ?_
  try simp only [Act.put, List.setIfInBounds_toArray, List.set_cons_zero, List.set_cons_succ]
  refine wpAnyH_ready (rs := [33]) (by kernel_rfl) (by simp) ?_
  refine AllReadyH.cons rfl (fun K hK => ?_) AllReadyH.nil
  go_simp
  refine hK.out _ _ hHeld (fun hHeld => ?_)
  clear hK K
  try simp only [Act.put, List.setIfInBounds_toArray, List.set_cons_zero, List.set_cons_succ]
  refine takeY (i := 34) (d := some 39) (v := ?_) rfl rfl (by kernel_rfl) (by kernel_rfl) (by kernel_rfl) (fun _ _ _ h => h) (by rfl) ?_ hHeld ?_
  rotate_left
  · intro w9 hS9
    first | (go_simp; done) | (go_simp; with_reducible rfl)
  try simp only [Act.put, List.setIfInBounds_toArray, List.set_cons_zero, List.set_cons_succ]
  refine takeY (i := 35) (d := some 4) (v := ?_) rfl rfl (by kernel_rfl) (by kernel_rfl) (by kernel_rfl) (fun _ _ _ h => h) (by rfl) ?_ hHeld ?_
  rotate_left
  · intro w9 hS9
    first | (go_simp; done) | (go_simp; with_reducible rfl)
  try simp only [Act.put, List.setIfInBounds_toArray, List.set_cons_zero, List.set_cons_succ]
  refine wpAnyH_done (by kernel_rfl) ?_ _
  go_wp2
  go_ret
  exact ⟨rfl, HB.out.trans (HW0.out.mono HB.out.size)⟩

set_option maxHeartbeats 4000000 in
set_option maxRecDepth 100000 in
theorem eqTrm2 (k : Int) (nm : ByteArray) (tA : Option Addr) (tn tc : Nat) (tL : List Int) (gA : Option Addr) (gn gc : Nat) (gL : List OpW) (l : Int) (A : Option Addr) (n c : Nat) (ps : List Pr) (tA' : Option Addr) (tn' tc' : Nat) (tL' : List Int) (gA' : Option Addr) (gn' gc' : Nat) (gL' : List OpW) (l' : Int) (A' : Option Addr) (n' c' : Nat) (ps' : List Pr) (h2 : eqIs2 ⟨tA, tn, tc, tL⟩ ⟨tA', tn', tc', tL'⟩ = false)
    (w : World) (hx : OneTm w w.heap.size ⟨k, ⟨tA, tn, tc, tL⟩, ⟨gA, gn, gc, gL⟩, ⟨l, A, n, c, ps⟩, nm⟩) (hy : OneTm w w.heap.size ⟨k, ⟨tA', tn', tc', tL'⟩, ⟨gA', gn', gc', gL'⟩, ⟨l', A', n', c', ps'⟩, nm⟩) :
    Calls Tryz.prog 75 #[aggTm ⟨k, ⟨tA, tn, tc, tL⟩, ⟨gA, gn, gc, gL⟩, ⟨l, A, n, c, ps⟩, nm⟩, aggTm ⟨k, ⟨tA', tn', tc', tL'⟩, ⟨gA', gn', gc', gL'⟩, ⟨l', A', n', c', ps'⟩, nm⟩] w fun e w' => e = .returned (.bool false) ∧ Below w.heap.size w w' := by
  have HB := hide (bx2_below w (cTm ⟨k, ⟨tA, tn, tc, tL⟩, ⟨gA, gn, gc, gL⟩, ⟨l, A, n, c, ps⟩, nm⟩) (cTm ⟨k, ⟨tA', tn', tc', tL'⟩, ⟨gA', gn', gc', gL'⟩, ⟨l', A', n', c', ps'⟩, nm⟩) 42)
  have HX := hide (hx.up HB.out)
  have HY := hide (hy.up HB.out)
  have hs := hide fun (w' : World) (h : Below (bx2 w (cTm ⟨k, ⟨tA, tn, tc, tL⟩, ⟨gA, gn, gc, gL⟩, ⟨l, A, n, c, ps⟩, nm⟩) (cTm ⟨k, ⟨tA', tn', tc', tL'⟩, ⟨gA', gn', gc', gL'⟩, ⟨l', A', n', c', ps'⟩, nm⟩) 42).heap.size (bx2 w (cTm ⟨k, ⟨tA, tn, tc, tL⟩, ⟨gA, gn, gc, gL⟩, ⟨l, A, n, c, ps⟩, nm⟩) (cTm ⟨k, ⟨tA', tn', tc', tL'⟩, ⟨gA', gn', gc', gL'⟩, ⟨l', A', n', c', ps'⟩, nm⟩) 42) w') => bx2_cells h
  have H2 := hide h2
  clear h2
  clear hx hy
  go_enter Tryz.func75, Tryz.ntmps75
  have hc := hide fun (w' : World) (h : Below (bx2 w (cTm ⟨k, ⟨tA, tn, tc, tL⟩, ⟨gA, gn, gc, gL⟩, ⟨l, A, n, c, ps⟩, nm⟩) (cTm ⟨k, ⟨tA', tn', tc', tL'⟩, ⟨gA', gn', gc', gL'⟩, ⟨l', A', n', c', ps'⟩, nm⟩) 42).heap.size (bx2 w (cTm ⟨k, ⟨tA, tn, tc, tL⟩, ⟨gA, gn, gc, gL⟩, ⟨l, A, n, c, ps⟩, nm⟩) (cTm ⟨k, ⟨tA', tn', tc', tL'⟩, ⟨gA', gn', gc', gL'⟩, ⟨l', A', n', c', ps'⟩, nm⟩) 42) w') => (show w'.cell? ⟨w.heap.size, 0, none⟩ = some (.int .i64 k) ∧ w'.cell? ⟨w.heap.size + 1, 0, none⟩ = some (.int .i64 k) ∧ w'.cell? ⟨w.heap.size, 1, none⟩ = some (.slice tA tn tc) ∧ w'.cell? ⟨w.heap.size + 1, 1, none⟩ = some (.slice tA' tn' tc') ∧ w'.cell? ⟨w.heap.size, 2, none⟩ = some (.slice gA gn gc) ∧ w'.cell? ⟨w.heap.size + 1, 2, none⟩ = some (.slice gA' gn' gc') ∧ w'.cell? ⟨w.heap.size, 3, none⟩ = some (.int .i64 l) ∧ w'.cell? ⟨w.heap.size + 1, 3, none⟩ = some (.int .i64 l') ∧ w'.cell? ⟨w.heap.size, 4, none⟩ = some (.slice A n c) ∧ w'.cell? ⟨w.heap.size + 1, 4, none⟩ = some (.slice A' n' c') ∧ w'.cell? ⟨w.heap.size, 5, none⟩ = some (.string nm) ∧ w'.cell? ⟨w.heap.size + 1, 5, none⟩ = some (.string nm) from ⟨(hs.out w' h 0 _ _ rfl rfl).1, (hs.out w' h 0 _ _ rfl rfl).2, (hs.out w' h 1 _ _ rfl rfl).1, (hs.out w' h 1 _ _ rfl rfl).2, (hs.out w' h 2 _ _ rfl rfl).1, (hs.out w' h 2 _ _ rfl rfl).2, (hs.out w' h 3 _ _ rfl rfl).1, (hs.out w' h 3 _ _ rfl rfl).2, (hs.out w' h 4 _ _ rfl rfl).1, (hs.out w' h 4 _ _ rfl rfl).2, (hs.out w' h 5 _ _ rfl rfl).1, (hs.out w' h 5 _ _ rfl rfl).2⟩)
  have HW0 := hide (show Below (bx2 w (cTm ⟨k, ⟨tA, tn, tc, tL⟩, ⟨gA, gn, gc, gL⟩, ⟨l, A, n, c, ps⟩, nm⟩) (cTm ⟨k, ⟨tA', tn', tc', tL'⟩, ⟨gA', gn', gc', gL'⟩, ⟨l', A', n', c', ps'⟩, nm⟩) 42).heap.size (bx2 w (cTm ⟨k, ⟨tA, tn, tc, tL⟩, ⟨gA, gn, gc, gL⟩, ⟨l, A, n, c, ps⟩, nm⟩) (cTm ⟨k, ⟨tA', tn', tc', tL'⟩, ⟨gA', gn', gc', gL'⟩, ⟨l', A', n', c', ps'⟩, nm⟩) 42) (World.drew (bx2 w (cTm ⟨k, ⟨tA, tn, tc, tL⟩, ⟨gA, gn, gc, gL⟩, ⟨l, A, n, c, ps⟩, nm⟩) (cTm ⟨k, ⟨tA', tn', tc', tL'⟩, ⟨gA', gn', gc', gL'⟩, ⟨l', A', n', c', ps'⟩, nm⟩) 42)) from (Below.refl _ _).drew)
  go_wp2
  change Code.wp _ _ _ _ (bx2 w (cTm ⟨k, ⟨tA, tn, tc, tL⟩, ⟨gA, gn, gc, gL⟩, ⟨l, A, n, c, ps⟩, nm⟩) (cTm ⟨k, ⟨tA', tn', tc', tL'⟩, ⟨gA', gn', gc', gL'⟩, ⟨l', A', n', c', ps'⟩, nm⟩) 42)
  refine wp_region_held_drew (S := (fun w' => Below (bx2 w (cTm ⟨k, ⟨tA, tn, tc, tL⟩, ⟨gA, gn, gc, gL⟩, ⟨l, A, n, c, ps⟩, nm⟩) (cTm ⟨k, ⟨tA', tn', tc', tL'⟩, ⟨gA', gn', gc', gL'⟩, ⟨l', A', n', c', ps'⟩, nm⟩) 42).heap.size (bx2 w (cTm ⟨k, ⟨tA, tn, tc, tL⟩, ⟨gA, gn, gc, gL⟩, ⟨l, A, n, c, ps⟩, nm⟩) (cTm ⟨k, ⟨tA', tn', tc', tL'⟩, ⟨gA', gn', gc', gL'⟩, ⟨l', A', n', c', ps'⟩, nm⟩) 42) w' ∧ w'.cell? ⟨w.heap.size, 0, none⟩ = some (.int .i64 k) ∧ w'.cell? ⟨w.heap.size + 1, 0, none⟩ = some (.int .i64 k) ∧ w'.cell? ⟨w.heap.size, 1, none⟩ = some (.slice tA tn tc) ∧ w'.cell? ⟨w.heap.size + 1, 1, none⟩ = some (.slice tA' tn' tc') ∧ w'.cell? ⟨w.heap.size, 2, none⟩ = some (.slice gA gn gc) ∧ w'.cell? ⟨w.heap.size + 1, 2, none⟩ = some (.slice gA' gn' gc') ∧ w'.cell? ⟨w.heap.size, 3, none⟩ = some (.int .i64 l) ∧ w'.cell? ⟨w.heap.size + 1, 3, none⟩ = some (.int .i64 l') ∧ w'.cell? ⟨w.heap.size, 4, none⟩ = some (.slice A n c) ∧ w'.cell? ⟨w.heap.size + 1, 4, none⟩ = some (.slice A' n' c') ∧ w'.cell? ⟨w.heap.size, 5, none⟩ = some (.string nm) ∧ w'.cell? ⟨w.heap.size + 1, 5, none⟩ = some (.string nm))) (by kernel_rfl) ⟨HW0.out, hc.out _ HW0.out⟩ (fun hHeld => ?_)
  refine takeY (i := 0) (d := some 5) (v := ?_) rfl rfl (by kernel_rfl) (by kernel_rfl) (by kernel_rfl) (fun _ _ _ h => h) (by rfl) ?_ hHeld ?_
  rotate_left
  · intro w9 hS9
    first | (go_simp; done) | (go_simp; with_reducible rfl)
  try simp only [Act.put, List.setIfInBounds_toArray, List.set_cons_zero, List.set_cons_succ]
  refine takeY (i := 1) (d := some 6) (v := ?_) rfl rfl (by kernel_rfl) (by kernel_rfl) (by kernel_rfl) (fun _ _ _ h => h) (by rfl) ?_ hHeld ?_
  rotate_left
  · intro w9 hS9
    obtain ⟨_, c0, d0, c1, d1, c2, d2, c3, d3, c4, d4, c5, d5⟩ := hS9
    first | (go_simp; done) | (go_simp; with_reducible rfl)
  try simp only [Act.put, List.setIfInBounds_toArray, List.set_cons_zero, List.set_cons_succ]
  refine takeY (i := 2) (d := some 7) (v := ?_) rfl rfl (by kernel_rfl) (by kernel_rfl) (by kernel_rfl) (fun _ _ _ h => h) (by rfl) ?_ hHeld ?_
  rotate_left
  · intro w9 hS9
    first | (go_simp; done) | (go_simp; with_reducible rfl)
  try simp only [Act.put, List.setIfInBounds_toArray, List.set_cons_zero, List.set_cons_succ]
  refine takeY (i := 3) (d := some 8) (v := ?_) rfl rfl (by kernel_rfl) (by kernel_rfl) (by kernel_rfl) (fun _ _ _ h => h) (by rfl) ?_ hHeld ?_
  rotate_left
  · intro w9 hS9
    obtain ⟨_, c0, d0, c1, d1, c2, d2, c3, d3, c4, d4, c5, d5⟩ := hS9
    first | (go_simp; done) | (go_simp; with_reducible rfl)
  try simp only [Act.put, List.setIfInBounds_toArray, List.set_cons_zero, List.set_cons_succ]
  refine takeY (i := 4) (d := some 9) (v := ?_) rfl rfl (by kernel_rfl) (by kernel_rfl) (by kernel_rfl) (fun _ _ _ h => h) (by rfl) ?_ hHeld ?_
  rotate_left
  · intro w9 hS9
    first | (go_simp; done) | (go_simp; with_reducible rfl)
  try simp only [Act.put, List.setIfInBounds_toArray, List.set_cons_zero, List.set_cons_succ]
  refine takeY (i := 5) (d := some 10) (v := ?_) rfl rfl (by kernel_rfl) (by kernel_rfl) (by kernel_rfl) (fun _ _ _ h => h) (by rfl) ?_ hHeld ?_
  rotate_left
  · intro w9 hS9
    first | (go_simp; done) | (go_simp; with_reducible rfl)
  try simp only [Act.put, List.setIfInBounds_toArray, List.set_cons_zero, List.set_cons_succ]
  refine takeY (i := 6) (d := some 11) (v := ?_) rfl rfl (by kernel_rfl) (by kernel_rfl) (by kernel_rfl) (fun _ _ _ h => h) (by rfl) ?_ hHeld ?_
  rotate_left
  · intro w9 hS9
    first | (go_simp; done) | (go_simp; with_reducible rfl)
  try simp only [Act.put, List.setIfInBounds_toArray, List.set_cons_zero, List.set_cons_succ]
  refine takeY (i := 7) (d := some 12) (v := ?_) rfl rfl (by kernel_rfl) (by kernel_rfl) (by kernel_rfl) (fun _ _ _ h => h) (by rfl) ?_ hHeld ?_
  rotate_left
  · intro w9 hS9
    obtain ⟨_, c0, d0, c1, d1, c2, d2, c3, d3, c4, d4, c5, d5⟩ := hS9
    first | (go_simp; done) | (go_simp; with_reducible rfl)
  try simp only [Act.put, List.setIfInBounds_toArray, List.set_cons_zero, List.set_cons_succ]
  refine takeY (i := 8) (d := some 13) (v := ?_) rfl rfl (by kernel_rfl) (by kernel_rfl) (by kernel_rfl) (fun _ _ _ h => h) (by rfl) ?_ hHeld ?_
  rotate_left
  · intro w9 hS9
    first | (go_simp; done) | (go_simp; with_reducible rfl)
  try simp only [Act.put, List.setIfInBounds_toArray, List.set_cons_zero, List.set_cons_succ]
  refine takeY (i := 9) (d := some 14) (v := ?_) rfl rfl (by kernel_rfl) (by kernel_rfl) (by kernel_rfl) (fun _ _ _ h => h) (by rfl) ?_ hHeld ?_
  rotate_left
  · intro w9 hS9
    obtain ⟨_, c0, d0, c1, d1, c2, d2, c3, d3, c4, d4, c5, d5⟩ := hS9
    first | (go_simp; done) | (go_simp; with_reducible rfl)
  try simp only [Act.put, List.setIfInBounds_toArray, List.set_cons_zero, List.set_cons_succ]
  refine takeY (i := 10) (d := some 15) (v := ?_) rfl rfl (by kernel_rfl) (by kernel_rfl) (by kernel_rfl) (fun _ _ _ h => h) (by rfl) ?_ hHeld ?_
  rotate_left
  · intro w9 hS9
    first | (go_simp; done) | (go_simp; with_reducible rfl)
  try simp only [Act.put, List.setIfInBounds_toArray, List.set_cons_zero, List.set_cons_succ]
  refine takeY (i := 11) (d := some 16) (v := ?_) rfl rfl (by kernel_rfl) (by kernel_rfl) (by kernel_rfl) (fun _ _ _ h => h) (by rfl) ?_ hHeld ?_
  rotate_left
  · intro w9 hS9
    first | (go_simp; done) | (go_simp; with_reducible rfl)
  try simp only [Act.put, List.setIfInBounds_toArray, List.set_cons_zero, List.set_cons_succ]
  refine takeY (i := 12) (d := some 17) (v := ?_) rfl rfl (by kernel_rfl) (by kernel_rfl) (by kernel_rfl) (fun _ _ _ h => h) (by rfl) ?_ hHeld ?_
  rotate_left
  · intro w9 hS9
    first | (go_simp; done) | (go_simp; with_reducible rfl)
  try simp only [Act.put, List.setIfInBounds_toArray, List.set_cons_zero, List.set_cons_succ]
  refine takeY (i := 13) (d := some 18) (v := ?_) rfl rfl (by kernel_rfl) (by kernel_rfl) (by kernel_rfl) (fun _ _ _ h => h) (by rfl) ?_ hHeld ?_
  rotate_left
  · intro w9 hS9
    first | (go_simp; done) | (go_simp; with_reducible rfl)
  try simp only [Act.put, List.setIfInBounds_toArray, List.set_cons_zero, List.set_cons_succ]
  refine takeY (i := 14) (d := some 19) (v := ?_) rfl rfl (by kernel_rfl) (by kernel_rfl) (by kernel_rfl) (fun _ _ _ h => h) (by rfl) ?_ hHeld ?_
  rotate_left
  · intro w9 hS9
    obtain ⟨_, c0, d0, c1, d1, c2, d2, c3, d3, c4, d4, c5, d5⟩ := hS9
    first | (go_simp; done) | (go_simp; with_reducible rfl)
  try simp only [Act.put, List.setIfInBounds_toArray, List.set_cons_zero, List.set_cons_succ]
  refine takeY (i := 16) (d := some 21) (v := ?_) rfl rfl (by kernel_rfl) (by kernel_rfl) (by kernel_rfl) (fun _ _ _ h => h) (by rfl) ?_ hHeld ?_
  rotate_left
  · intro w9 hS9
    first | (go_simp; done) | (go_simp; with_reducible rfl)
  try simp only [Act.put, List.setIfInBounds_toArray, List.set_cons_zero, List.set_cons_succ]
  refine takeY (i := 17) (d := some 22) (v := ?_) rfl rfl (by kernel_rfl) (by kernel_rfl) (by kernel_rfl) (fun _ _ _ h => h) (by rfl) ?_ hHeld ?_
  rotate_left
  · intro w9 hS9
    obtain ⟨_, c0, d0, c1, d1, c2, d2, c3, d3, c4, d4, c5, d5⟩ := hS9
    first | (go_simp; done) | (go_simp; with_reducible rfl)
  try simp only [Act.put, List.setIfInBounds_toArray, List.set_cons_zero, List.set_cons_succ]
  refine wpAnyH_ready (rs := [15]) (by kernel_rfl) (by simp) ?_
  refine AllReadyH.cons rfl (fun K hK => ?_) AllReadyH.nil
  go_simp
  refine (PlainInt_any ⟨tA, tn, tc, tL⟩ _).mono ?_
  rintro x9 w1 ⟨rfl, hb0⟩
  have HW1 := hide (HW0.out.trans (hb0.mono HW0.out.size))
  clear hb0
  refine hK.out _ _ ⟨HW1.out, hc.out _ HW1.out⟩ (fun hHeld => ?_)
  clear hK K
  try simp only [Act.put, List.setIfInBounds_toArray, List.set_cons_zero, List.set_cons_succ]
  refine wpAnyH_ready (rs := [18]) (by kernel_rfl) (by simp) ?_
  refine AllReadyH.cons rfl (fun K hK => ?_) AllReadyH.nil
  go_simp
  refine (EqIs2_is (s := ⟨tA, tn, tc, tL⟩) (t := ⟨tA', tn', tc', tL'⟩) H2.out _ (Ints.up HX.out.targets HW1.out) (Ints.up HY.out.targets HW1.out)).mono ?_
  rintro x9 w2 ⟨rfl, hb0⟩
  have HW2 := hide (HW1.out.trans (hb0.mono HW1.out.size))
  clear hb0
  refine hK.out _ _ ⟨HW2.out, hc.out _ HW2.out⟩ (fun hHeld => ?_)
  clear hK K
  try simp only [Act.put, List.setIfInBounds_toArray, List.set_cons_zero, List.set_cons_succ]
  refine takeY (i := 19) (d := some 24) (v := ?_) rfl rfl (by kernel_rfl) (by kernel_rfl) (by kernel_rfl) (fun _ _ _ h => h) (by rfl) ?_ hHeld ?_
  rotate_left
  · intro w9 hS9
    first | (go_simp; done) | (go_simp; with_reducible rfl)
  try simp only [Act.put, List.setIfInBounds_toArray, List.set_cons_zero, List.set_cons_succ]
  refine takeY (i := 20) (d := some 25) (v := ?_) rfl rfl (by kernel_rfl) (by kernel_rfl) (by kernel_rfl) (fun _ _ _ h => h) (by rfl) ?_ hHeld ?_
  rotate_left
  · intro w9 hS9
    first | (go_simp; done) | (go_simp; with_reducible rfl)
  try simp only [Act.put, List.setIfInBounds_toArray, List.set_cons_zero, List.set_cons_succ]
  refine takeN (i := 21) (d := some 26) rfl rfl (by kernel_rfl) (by kernel_rfl) (by kernel_rfl) (fun _ _ _ h => h) (by rfl) hHeld ?_
  try simp only [Act.put, List.setIfInBounds_toArray, List.set_cons_zero, List.set_cons_succ]
  refine takeN (i := 22) (d := some 27) rfl rfl (by kernel_rfl) (by kernel_rfl) (by kernel_rfl) (fun _ _ _ h => h) (by rfl) hHeld ?_
  try simp only [Act.put, List.setIfInBounds_toArray, List.set_cons_zero, List.set_cons_succ]
  refine takeN (i := 23) (d := some 28) rfl rfl (by kernel_rfl) (by kernel_rfl) (by kernel_rfl) (fun _ _ _ h => h) (by rfl) hHeld ?_
  try simp only [Act.put, List.setIfInBounds_toArray, List.set_cons_zero, List.set_cons_succ]
  refine takeN (i := 24) (d := some 29) rfl rfl (by kernel_rfl) (by kernel_rfl) (by kernel_rfl) (fun _ _ _ h => h) (by rfl) hHeld ?_
  try simp only [Act.put, List.setIfInBounds_toArray, List.set_cons_zero, List.set_cons_succ]
  refine wpAnyH_ready (rs := [25]) (by kernel_rfl) (by simp) ?_
  refine AllReadyH.cons rfl (fun K hK => ?_) AllReadyH.nil
  go_simp
  refine hK.out _ _ hHeld (fun hHeld => ?_)
  clear hK K
  try simp only [Act.put, List.setIfInBounds_toArray, List.set_cons_zero, List.set_cons_succ]
  refine takeY (i := 26) (d := some 31) (v := ?_) rfl rfl (by kernel_rfl) (by kernel_rfl) (by kernel_rfl) (fun _ _ _ h => h) (by rfl) ?_ hHeld ?_
  rotate_left
  · intro w9 hS9
    first | (go_simp; done) | (go_simp; with_reducible rfl)
  try simp only [Act.put, List.setIfInBounds_toArray, List.set_cons_zero, List.set_cons_succ]
  refine takeY (i := 27) (d := some 32) (v := ?_) rfl rfl (by kernel_rfl) (by kernel_rfl) (by kernel_rfl) (fun _ _ _ h => h) (by rfl) ?_ hHeld ?_
  rotate_left
  · intro w9 hS9
    first | (go_simp; done) | (go_simp; with_reducible rfl)
  try simp only [Act.put, List.setIfInBounds_toArray, List.set_cons_zero, List.set_cons_succ]
  refine takeN (i := 28) (d := some 33) rfl rfl (by kernel_rfl) (by kernel_rfl) (by kernel_rfl) (fun _ _ _ h => h) (by rfl) hHeld ?_
  try simp only [Act.put, List.setIfInBounds_toArray, List.set_cons_zero, List.set_cons_succ]
  refine takeN (i := 29) (d := some 34) rfl rfl (by kernel_rfl) (by kernel_rfl) (by kernel_rfl) (fun _ _ _ h => h) (by rfl) hHeld ?_
  try simp only [Act.put, List.setIfInBounds_toArray, List.set_cons_zero, List.set_cons_succ]
  refine takeN (i := 30) (d := some 35) rfl rfl (by kernel_rfl) (by kernel_rfl) (by kernel_rfl) (fun _ _ _ h => h) (by rfl) hHeld ?_
  try simp only [Act.put, List.setIfInBounds_toArray, List.set_cons_zero, List.set_cons_succ]
  refine takeN (i := 31) (d := some 36) rfl rfl (by kernel_rfl) (by kernel_rfl) (by kernel_rfl) (fun _ _ _ h => h) (by rfl) hHeld ?_
  try simp only [Act.put, List.setIfInBounds_toArray, List.set_cons_zero, List.set_cons_succ]
  refine takeN (i := 32) (d := some 37) rfl rfl (by kernel_rfl) (by kernel_rfl) (by kernel_rfl) (fun _ _ _ h => h) (by rfl) hHeld ?_
  try simp only [Act.put, List.setIfInBounds_toArray, List.set_cons_zero, List.set_cons_succ]
  refine wpAnyH_ready (rs := [33]) (by kernel_rfl) (by simp) ?_
  refine AllReadyH.cons rfl (fun K hK => ?_) AllReadyH.nil
  go_simp
  refine hK.out _ _ hHeld (fun hHeld => ?_)
  clear hK K
  try simp only [Act.put, List.setIfInBounds_toArray, List.set_cons_zero, List.set_cons_succ]
  refine takeY (i := 34) (d := some 39) (v := ?_) rfl rfl (by kernel_rfl) (by kernel_rfl) (by kernel_rfl) (fun _ _ _ h => h) (by rfl) ?_ hHeld ?_
  rotate_left
  · intro w9 hS9
    first | (go_simp; done) | (go_simp; with_reducible rfl)
  try simp only [Act.put, List.setIfInBounds_toArray, List.set_cons_zero, List.set_cons_succ]
  refine takeY (i := 35) (d := some 4) (v := ?_) rfl rfl (by kernel_rfl) (by kernel_rfl) (by kernel_rfl) (fun _ _ _ h => h) (by rfl) ?_ hHeld ?_
  rotate_left
  · intro w9 hS9
    first | (go_simp; done) | (go_simp; with_reducible rfl)
  try simp only [Act.put, List.setIfInBounds_toArray, List.set_cons_zero, List.set_cons_succ]
  refine wpAnyH_done (by kernel_rfl) ?_ _
  go_wp2
  go_ret
  exact ⟨rfl, HB.out.trans (HW2.out.mono HB.out.size)⟩

set_option maxHeartbeats 4000000 in
set_option maxRecDepth 100000 in
theorem eqTrm3 (k : Int) (nm : ByteArray) (tA : Option Addr) (tn tc : Nat) (tL : List Int) (gA : Option Addr) (gn gc : Nat) (gL : List OpW) (l : Int) (A : Option Addr) (n c : Nat) (ps : List Pr) (tA' : Option Addr) (tn' tc' : Nat) (tL' : List Int) (gA' : Option Addr) (gn' gc' : Nat) (gL' : List OpW) (l' : Int) (A' : Option Addr) (n' c' : Nat) (ps' : List Pr) (h2 : eqIs2 ⟨tA, tn, tc, tL⟩ ⟨tA', tn', tc', tL'⟩ = true) (h3 : eqPl ⟨l, A, n, c, ps⟩ ⟨l', A', n', c', ps'⟩ = false)
    (w : World) (hx : OneTm w w.heap.size ⟨k, ⟨tA, tn, tc, tL⟩, ⟨gA, gn, gc, gL⟩, ⟨l, A, n, c, ps⟩, nm⟩) (hy : OneTm w w.heap.size ⟨k, ⟨tA', tn', tc', tL'⟩, ⟨gA', gn', gc', gL'⟩, ⟨l', A', n', c', ps'⟩, nm⟩) :
    Calls Tryz.prog 75 #[aggTm ⟨k, ⟨tA, tn, tc, tL⟩, ⟨gA, gn, gc, gL⟩, ⟨l, A, n, c, ps⟩, nm⟩, aggTm ⟨k, ⟨tA', tn', tc', tL'⟩, ⟨gA', gn', gc', gL'⟩, ⟨l', A', n', c', ps'⟩, nm⟩] w fun e w' => e = .returned (.bool false) ∧ Below w.heap.size w w' := by
  have HB := hide (bx2_below w (cTm ⟨k, ⟨tA, tn, tc, tL⟩, ⟨gA, gn, gc, gL⟩, ⟨l, A, n, c, ps⟩, nm⟩) (cTm ⟨k, ⟨tA', tn', tc', tL'⟩, ⟨gA', gn', gc', gL'⟩, ⟨l', A', n', c', ps'⟩, nm⟩) 42)
  have HX := hide (hx.up HB.out)
  have HY := hide (hy.up HB.out)
  have hs := hide fun (w' : World) (h : Below (bx2 w (cTm ⟨k, ⟨tA, tn, tc, tL⟩, ⟨gA, gn, gc, gL⟩, ⟨l, A, n, c, ps⟩, nm⟩) (cTm ⟨k, ⟨tA', tn', tc', tL'⟩, ⟨gA', gn', gc', gL'⟩, ⟨l', A', n', c', ps'⟩, nm⟩) 42).heap.size (bx2 w (cTm ⟨k, ⟨tA, tn, tc, tL⟩, ⟨gA, gn, gc, gL⟩, ⟨l, A, n, c, ps⟩, nm⟩) (cTm ⟨k, ⟨tA', tn', tc', tL'⟩, ⟨gA', gn', gc', gL'⟩, ⟨l', A', n', c', ps'⟩, nm⟩) 42) w') => bx2_cells h
  have H2 := hide h2
  clear h2
  have H3 := hide h3
  clear h3
  clear hx hy
  go_enter Tryz.func75, Tryz.ntmps75
  have hc := hide fun (w' : World) (h : Below (bx2 w (cTm ⟨k, ⟨tA, tn, tc, tL⟩, ⟨gA, gn, gc, gL⟩, ⟨l, A, n, c, ps⟩, nm⟩) (cTm ⟨k, ⟨tA', tn', tc', tL'⟩, ⟨gA', gn', gc', gL'⟩, ⟨l', A', n', c', ps'⟩, nm⟩) 42).heap.size (bx2 w (cTm ⟨k, ⟨tA, tn, tc, tL⟩, ⟨gA, gn, gc, gL⟩, ⟨l, A, n, c, ps⟩, nm⟩) (cTm ⟨k, ⟨tA', tn', tc', tL'⟩, ⟨gA', gn', gc', gL'⟩, ⟨l', A', n', c', ps'⟩, nm⟩) 42) w') => (show w'.cell? ⟨w.heap.size, 0, none⟩ = some (.int .i64 k) ∧ w'.cell? ⟨w.heap.size + 1, 0, none⟩ = some (.int .i64 k) ∧ w'.cell? ⟨w.heap.size, 1, none⟩ = some (.slice tA tn tc) ∧ w'.cell? ⟨w.heap.size + 1, 1, none⟩ = some (.slice tA' tn' tc') ∧ w'.cell? ⟨w.heap.size, 2, none⟩ = some (.slice gA gn gc) ∧ w'.cell? ⟨w.heap.size + 1, 2, none⟩ = some (.slice gA' gn' gc') ∧ w'.cell? ⟨w.heap.size, 3, none⟩ = some (.int .i64 l) ∧ w'.cell? ⟨w.heap.size + 1, 3, none⟩ = some (.int .i64 l') ∧ w'.cell? ⟨w.heap.size, 4, none⟩ = some (.slice A n c) ∧ w'.cell? ⟨w.heap.size + 1, 4, none⟩ = some (.slice A' n' c') ∧ w'.cell? ⟨w.heap.size, 5, none⟩ = some (.string nm) ∧ w'.cell? ⟨w.heap.size + 1, 5, none⟩ = some (.string nm) from ⟨(hs.out w' h 0 _ _ rfl rfl).1, (hs.out w' h 0 _ _ rfl rfl).2, (hs.out w' h 1 _ _ rfl rfl).1, (hs.out w' h 1 _ _ rfl rfl).2, (hs.out w' h 2 _ _ rfl rfl).1, (hs.out w' h 2 _ _ rfl rfl).2, (hs.out w' h 3 _ _ rfl rfl).1, (hs.out w' h 3 _ _ rfl rfl).2, (hs.out w' h 4 _ _ rfl rfl).1, (hs.out w' h 4 _ _ rfl rfl).2, (hs.out w' h 5 _ _ rfl rfl).1, (hs.out w' h 5 _ _ rfl rfl).2⟩)
  have HW0 := hide (show Below (bx2 w (cTm ⟨k, ⟨tA, tn, tc, tL⟩, ⟨gA, gn, gc, gL⟩, ⟨l, A, n, c, ps⟩, nm⟩) (cTm ⟨k, ⟨tA', tn', tc', tL'⟩, ⟨gA', gn', gc', gL'⟩, ⟨l', A', n', c', ps'⟩, nm⟩) 42).heap.size (bx2 w (cTm ⟨k, ⟨tA, tn, tc, tL⟩, ⟨gA, gn, gc, gL⟩, ⟨l, A, n, c, ps⟩, nm⟩) (cTm ⟨k, ⟨tA', tn', tc', tL'⟩, ⟨gA', gn', gc', gL'⟩, ⟨l', A', n', c', ps'⟩, nm⟩) 42) (World.drew (bx2 w (cTm ⟨k, ⟨tA, tn, tc, tL⟩, ⟨gA, gn, gc, gL⟩, ⟨l, A, n, c, ps⟩, nm⟩) (cTm ⟨k, ⟨tA', tn', tc', tL'⟩, ⟨gA', gn', gc', gL'⟩, ⟨l', A', n', c', ps'⟩, nm⟩) 42)) from (Below.refl _ _).drew)
  go_wp2
  change Code.wp _ _ _ _ (bx2 w (cTm ⟨k, ⟨tA, tn, tc, tL⟩, ⟨gA, gn, gc, gL⟩, ⟨l, A, n, c, ps⟩, nm⟩) (cTm ⟨k, ⟨tA', tn', tc', tL'⟩, ⟨gA', gn', gc', gL'⟩, ⟨l', A', n', c', ps'⟩, nm⟩) 42)
  refine wp_region_held_drew (S := (fun w' => Below (bx2 w (cTm ⟨k, ⟨tA, tn, tc, tL⟩, ⟨gA, gn, gc, gL⟩, ⟨l, A, n, c, ps⟩, nm⟩) (cTm ⟨k, ⟨tA', tn', tc', tL'⟩, ⟨gA', gn', gc', gL'⟩, ⟨l', A', n', c', ps'⟩, nm⟩) 42).heap.size (bx2 w (cTm ⟨k, ⟨tA, tn, tc, tL⟩, ⟨gA, gn, gc, gL⟩, ⟨l, A, n, c, ps⟩, nm⟩) (cTm ⟨k, ⟨tA', tn', tc', tL'⟩, ⟨gA', gn', gc', gL'⟩, ⟨l', A', n', c', ps'⟩, nm⟩) 42) w' ∧ w'.cell? ⟨w.heap.size, 0, none⟩ = some (.int .i64 k) ∧ w'.cell? ⟨w.heap.size + 1, 0, none⟩ = some (.int .i64 k) ∧ w'.cell? ⟨w.heap.size, 1, none⟩ = some (.slice tA tn tc) ∧ w'.cell? ⟨w.heap.size + 1, 1, none⟩ = some (.slice tA' tn' tc') ∧ w'.cell? ⟨w.heap.size, 2, none⟩ = some (.slice gA gn gc) ∧ w'.cell? ⟨w.heap.size + 1, 2, none⟩ = some (.slice gA' gn' gc') ∧ w'.cell? ⟨w.heap.size, 3, none⟩ = some (.int .i64 l) ∧ w'.cell? ⟨w.heap.size + 1, 3, none⟩ = some (.int .i64 l') ∧ w'.cell? ⟨w.heap.size, 4, none⟩ = some (.slice A n c) ∧ w'.cell? ⟨w.heap.size + 1, 4, none⟩ = some (.slice A' n' c') ∧ w'.cell? ⟨w.heap.size, 5, none⟩ = some (.string nm) ∧ w'.cell? ⟨w.heap.size + 1, 5, none⟩ = some (.string nm))) (by kernel_rfl) ⟨HW0.out, hc.out _ HW0.out⟩ (fun hHeld => ?_)
  refine takeY (i := 0) (d := some 5) (v := ?_) rfl rfl (by kernel_rfl) (by kernel_rfl) (by kernel_rfl) (fun _ _ _ h => h) (by rfl) ?_ hHeld ?_
  rotate_left
  · intro w9 hS9
    first | (go_simp; done) | (go_simp; with_reducible rfl)
  try simp only [Act.put, List.setIfInBounds_toArray, List.set_cons_zero, List.set_cons_succ]
  refine takeY (i := 1) (d := some 6) (v := ?_) rfl rfl (by kernel_rfl) (by kernel_rfl) (by kernel_rfl) (fun _ _ _ h => h) (by rfl) ?_ hHeld ?_
  rotate_left
  · intro w9 hS9
    obtain ⟨_, c0, d0, c1, d1, c2, d2, c3, d3, c4, d4, c5, d5⟩ := hS9
    first | (go_simp; done) | (go_simp; with_reducible rfl)
  try simp only [Act.put, List.setIfInBounds_toArray, List.set_cons_zero, List.set_cons_succ]
  refine takeY (i := 2) (d := some 7) (v := ?_) rfl rfl (by kernel_rfl) (by kernel_rfl) (by kernel_rfl) (fun _ _ _ h => h) (by rfl) ?_ hHeld ?_
  rotate_left
  · intro w9 hS9
    first | (go_simp; done) | (go_simp; with_reducible rfl)
  try simp only [Act.put, List.setIfInBounds_toArray, List.set_cons_zero, List.set_cons_succ]
  refine takeY (i := 3) (d := some 8) (v := ?_) rfl rfl (by kernel_rfl) (by kernel_rfl) (by kernel_rfl) (fun _ _ _ h => h) (by rfl) ?_ hHeld ?_
  rotate_left
  · intro w9 hS9
    obtain ⟨_, c0, d0, c1, d1, c2, d2, c3, d3, c4, d4, c5, d5⟩ := hS9
    first | (go_simp; done) | (go_simp; with_reducible rfl)
  try simp only [Act.put, List.setIfInBounds_toArray, List.set_cons_zero, List.set_cons_succ]
  refine takeY (i := 4) (d := some 9) (v := ?_) rfl rfl (by kernel_rfl) (by kernel_rfl) (by kernel_rfl) (fun _ _ _ h => h) (by rfl) ?_ hHeld ?_
  rotate_left
  · intro w9 hS9
    first | (go_simp; done) | (go_simp; with_reducible rfl)
  try simp only [Act.put, List.setIfInBounds_toArray, List.set_cons_zero, List.set_cons_succ]
  refine takeY (i := 5) (d := some 10) (v := ?_) rfl rfl (by kernel_rfl) (by kernel_rfl) (by kernel_rfl) (fun _ _ _ h => h) (by rfl) ?_ hHeld ?_
  rotate_left
  · intro w9 hS9
    first | (go_simp; done) | (go_simp; with_reducible rfl)
  try simp only [Act.put, List.setIfInBounds_toArray, List.set_cons_zero, List.set_cons_succ]
  refine takeY (i := 6) (d := some 11) (v := ?_) rfl rfl (by kernel_rfl) (by kernel_rfl) (by kernel_rfl) (fun _ _ _ h => h) (by rfl) ?_ hHeld ?_
  rotate_left
  · intro w9 hS9
    first | (go_simp; done) | (go_simp; with_reducible rfl)
  try simp only [Act.put, List.setIfInBounds_toArray, List.set_cons_zero, List.set_cons_succ]
  refine takeY (i := 7) (d := some 12) (v := ?_) rfl rfl (by kernel_rfl) (by kernel_rfl) (by kernel_rfl) (fun _ _ _ h => h) (by rfl) ?_ hHeld ?_
  rotate_left
  · intro w9 hS9
    obtain ⟨_, c0, d0, c1, d1, c2, d2, c3, d3, c4, d4, c5, d5⟩ := hS9
    first | (go_simp; done) | (go_simp; with_reducible rfl)
  try simp only [Act.put, List.setIfInBounds_toArray, List.set_cons_zero, List.set_cons_succ]
  refine takeY (i := 8) (d := some 13) (v := ?_) rfl rfl (by kernel_rfl) (by kernel_rfl) (by kernel_rfl) (fun _ _ _ h => h) (by rfl) ?_ hHeld ?_
  rotate_left
  · intro w9 hS9
    first | (go_simp; done) | (go_simp; with_reducible rfl)
  try simp only [Act.put, List.setIfInBounds_toArray, List.set_cons_zero, List.set_cons_succ]
  refine takeY (i := 9) (d := some 14) (v := ?_) rfl rfl (by kernel_rfl) (by kernel_rfl) (by kernel_rfl) (fun _ _ _ h => h) (by rfl) ?_ hHeld ?_
  rotate_left
  · intro w9 hS9
    obtain ⟨_, c0, d0, c1, d1, c2, d2, c3, d3, c4, d4, c5, d5⟩ := hS9
    first | (go_simp; done) | (go_simp; with_reducible rfl)
  try simp only [Act.put, List.setIfInBounds_toArray, List.set_cons_zero, List.set_cons_succ]
  refine takeY (i := 10) (d := some 15) (v := ?_) rfl rfl (by kernel_rfl) (by kernel_rfl) (by kernel_rfl) (fun _ _ _ h => h) (by rfl) ?_ hHeld ?_
  rotate_left
  · intro w9 hS9
    first | (go_simp; done) | (go_simp; with_reducible rfl)
  try simp only [Act.put, List.setIfInBounds_toArray, List.set_cons_zero, List.set_cons_succ]
  refine takeY (i := 11) (d := some 16) (v := ?_) rfl rfl (by kernel_rfl) (by kernel_rfl) (by kernel_rfl) (fun _ _ _ h => h) (by rfl) ?_ hHeld ?_
  rotate_left
  · intro w9 hS9
    first | (go_simp; done) | (go_simp; with_reducible rfl)
  try simp only [Act.put, List.setIfInBounds_toArray, List.set_cons_zero, List.set_cons_succ]
  refine takeY (i := 12) (d := some 17) (v := ?_) rfl rfl (by kernel_rfl) (by kernel_rfl) (by kernel_rfl) (fun _ _ _ h => h) (by rfl) ?_ hHeld ?_
  rotate_left
  · intro w9 hS9
    first | (go_simp; done) | (go_simp; with_reducible rfl)
  try simp only [Act.put, List.setIfInBounds_toArray, List.set_cons_zero, List.set_cons_succ]
  refine takeY (i := 13) (d := some 18) (v := ?_) rfl rfl (by kernel_rfl) (by kernel_rfl) (by kernel_rfl) (fun _ _ _ h => h) (by rfl) ?_ hHeld ?_
  rotate_left
  · intro w9 hS9
    first | (go_simp; done) | (go_simp; with_reducible rfl)
  try simp only [Act.put, List.setIfInBounds_toArray, List.set_cons_zero, List.set_cons_succ]
  refine takeY (i := 14) (d := some 19) (v := ?_) rfl rfl (by kernel_rfl) (by kernel_rfl) (by kernel_rfl) (fun _ _ _ h => h) (by rfl) ?_ hHeld ?_
  rotate_left
  · intro w9 hS9
    obtain ⟨_, c0, d0, c1, d1, c2, d2, c3, d3, c4, d4, c5, d5⟩ := hS9
    first | (go_simp; done) | (go_simp; with_reducible rfl)
  try simp only [Act.put, List.setIfInBounds_toArray, List.set_cons_zero, List.set_cons_succ]
  refine takeY (i := 16) (d := some 21) (v := ?_) rfl rfl (by kernel_rfl) (by kernel_rfl) (by kernel_rfl) (fun _ _ _ h => h) (by rfl) ?_ hHeld ?_
  rotate_left
  · intro w9 hS9
    first | (go_simp; done) | (go_simp; with_reducible rfl)
  try simp only [Act.put, List.setIfInBounds_toArray, List.set_cons_zero, List.set_cons_succ]
  refine takeY (i := 17) (d := some 22) (v := ?_) rfl rfl (by kernel_rfl) (by kernel_rfl) (by kernel_rfl) (fun _ _ _ h => h) (by rfl) ?_ hHeld ?_
  rotate_left
  · intro w9 hS9
    obtain ⟨_, c0, d0, c1, d1, c2, d2, c3, d3, c4, d4, c5, d5⟩ := hS9
    first | (go_simp; done) | (go_simp; with_reducible rfl)
  try simp only [Act.put, List.setIfInBounds_toArray, List.set_cons_zero, List.set_cons_succ]
  refine wpAnyH_ready (rs := [15]) (by kernel_rfl) (by simp) ?_
  refine AllReadyH.cons rfl (fun K hK => ?_) AllReadyH.nil
  go_simp
  refine (PlainInt_any ⟨tA, tn, tc, tL⟩ _).mono ?_
  rintro x9 w1 ⟨rfl, hb0⟩
  have HW1 := hide (HW0.out.trans (hb0.mono HW0.out.size))
  clear hb0
  refine hK.out _ _ ⟨HW1.out, hc.out _ HW1.out⟩ (fun hHeld => ?_)
  clear hK K
  try simp only [Act.put, List.setIfInBounds_toArray, List.set_cons_zero, List.set_cons_succ]
  refine wpAnyH_ready (rs := [18]) (by kernel_rfl) (by simp) ?_
  refine AllReadyH.cons rfl (fun K hK => ?_) AllReadyH.nil
  go_simp
  refine (EqIs2_is (s := ⟨tA, tn, tc, tL⟩) (t := ⟨tA', tn', tc', tL'⟩) H2.out _ (Ints.up HX.out.targets HW1.out) (Ints.up HY.out.targets HW1.out)).mono ?_
  rintro x9 w2 ⟨rfl, hb0⟩
  have HW2 := hide (HW1.out.trans (hb0.mono HW1.out.size))
  clear hb0
  refine hK.out _ _ ⟨HW2.out, hc.out _ HW2.out⟩ (fun hHeld => ?_)
  clear hK K
  try simp only [Act.put, List.setIfInBounds_toArray, List.set_cons_zero, List.set_cons_succ]
  refine takeY (i := 19) (d := some 24) (v := ?_) rfl rfl (by kernel_rfl) (by kernel_rfl) (by kernel_rfl) (fun _ _ _ h => h) (by rfl) ?_ hHeld ?_
  rotate_left
  · intro w9 hS9
    first | (go_simp; done) | (go_simp; with_reducible rfl)
  try simp only [Act.put, List.setIfInBounds_toArray, List.set_cons_zero, List.set_cons_succ]
  refine takeY (i := 20) (d := some 25) (v := ?_) rfl rfl (by kernel_rfl) (by kernel_rfl) (by kernel_rfl) (fun _ _ _ h => h) (by rfl) ?_ hHeld ?_
  rotate_left
  · intro w9 hS9
    first | (go_simp; done) | (go_simp; with_reducible rfl)
  try simp only [Act.put, List.setIfInBounds_toArray, List.set_cons_zero, List.set_cons_succ]
  refine takeY (i := 21) (d := some 26) (v := ?_) rfl rfl (by kernel_rfl) (by kernel_rfl) (by kernel_rfl) (fun _ _ _ h => h) (by rfl) ?_ hHeld ?_
  rotate_left
  · intro w9 hS9
    first | (go_simp; done) | (go_simp; with_reducible rfl)
  try simp only [Act.put, List.setIfInBounds_toArray, List.set_cons_zero, List.set_cons_succ]
  refine takeY (i := 22) (d := some 27) (v := ?_) rfl rfl (by kernel_rfl) (by kernel_rfl) (by kernel_rfl) (fun _ _ _ h => h) (by rfl) ?_ hHeld ?_
  rotate_left
  · intro w9 hS9
    obtain ⟨_, c0, d0, c1, d1, c2, d2, c3, d3, c4, d4, c5, d5⟩ := hS9
    first | (go_simp; done) | (go_simp; with_reducible rfl)
  try simp only [Act.put, List.setIfInBounds_toArray, List.set_cons_zero, List.set_cons_succ]
  refine takeY (i := 23) (d := some 28) (v := ?_) rfl rfl (by kernel_rfl) (by kernel_rfl) (by kernel_rfl) (fun _ _ _ h => h) (by rfl) ?_ hHeld ?_
  rotate_left
  · intro w9 hS9
    first | (go_simp; done) | (go_simp; with_reducible rfl)
  try simp only [Act.put, List.setIfInBounds_toArray, List.set_cons_zero, List.set_cons_succ]
  refine takeY (i := 24) (d := some 29) (v := ?_) rfl rfl (by kernel_rfl) (by kernel_rfl) (by kernel_rfl) (fun _ _ _ h => h) (by rfl) ?_ hHeld ?_
  rotate_left
  · intro w9 hS9
    obtain ⟨_, c0, d0, c1, d1, c2, d2, c3, d3, c4, d4, c5, d5⟩ := hS9
    first | (go_simp; done) | (go_simp; with_reducible rfl)
  try simp only [Act.put, List.setIfInBounds_toArray, List.set_cons_zero, List.set_cons_succ]
  refine wpAnyH_ready (rs := [25]) (by kernel_rfl) (by simp) ?_
  refine AllReadyH.cons rfl (fun K hK => ?_) AllReadyH.nil
  go_simp
  refine (EqualP_is H3.out _ (HX.out.pl.up HW2.out) (HY.out.pl.up HW2.out)).mono ?_
  rintro x9 w3 ⟨rfl, hb0⟩
  have HW3 := hide (HW2.out.trans (hb0.mono HW2.out.size))
  clear hb0
  refine hK.out _ _ ⟨HW3.out, hc.out _ HW3.out⟩ (fun hHeld => ?_)
  clear hK K
  try simp only [Act.put, List.setIfInBounds_toArray, List.set_cons_zero, List.set_cons_succ]
  refine takeY (i := 26) (d := some 31) (v := ?_) rfl rfl (by kernel_rfl) (by kernel_rfl) (by kernel_rfl) (fun _ _ _ h => h) (by rfl) ?_ hHeld ?_
  rotate_left
  · intro w9 hS9
    first | (go_simp; done) | (go_simp; with_reducible rfl)
  try simp only [Act.put, List.setIfInBounds_toArray, List.set_cons_zero, List.set_cons_succ]
  refine takeY (i := 27) (d := some 32) (v := ?_) rfl rfl (by kernel_rfl) (by kernel_rfl) (by kernel_rfl) (fun _ _ _ h => h) (by rfl) ?_ hHeld ?_
  rotate_left
  · intro w9 hS9
    first | (go_simp; done) | (go_simp; with_reducible rfl)
  try simp only [Act.put, List.setIfInBounds_toArray, List.set_cons_zero, List.set_cons_succ]
  refine takeN (i := 28) (d := some 33) rfl rfl (by kernel_rfl) (by kernel_rfl) (by kernel_rfl) (fun _ _ _ h => h) (by rfl) hHeld ?_
  try simp only [Act.put, List.setIfInBounds_toArray, List.set_cons_zero, List.set_cons_succ]
  refine takeN (i := 29) (d := some 34) rfl rfl (by kernel_rfl) (by kernel_rfl) (by kernel_rfl) (fun _ _ _ h => h) (by rfl) hHeld ?_
  try simp only [Act.put, List.setIfInBounds_toArray, List.set_cons_zero, List.set_cons_succ]
  refine takeN (i := 30) (d := some 35) rfl rfl (by kernel_rfl) (by kernel_rfl) (by kernel_rfl) (fun _ _ _ h => h) (by rfl) hHeld ?_
  try simp only [Act.put, List.setIfInBounds_toArray, List.set_cons_zero, List.set_cons_succ]
  refine takeN (i := 31) (d := some 36) rfl rfl (by kernel_rfl) (by kernel_rfl) (by kernel_rfl) (fun _ _ _ h => h) (by rfl) hHeld ?_
  try simp only [Act.put, List.setIfInBounds_toArray, List.set_cons_zero, List.set_cons_succ]
  refine takeN (i := 32) (d := some 37) rfl rfl (by kernel_rfl) (by kernel_rfl) (by kernel_rfl) (fun _ _ _ h => h) (by rfl) hHeld ?_
  try simp only [Act.put, List.setIfInBounds_toArray, List.set_cons_zero, List.set_cons_succ]
  refine wpAnyH_ready (rs := [33]) (by kernel_rfl) (by simp) ?_
  refine AllReadyH.cons rfl (fun K hK => ?_) AllReadyH.nil
  go_simp
  refine hK.out _ _ hHeld (fun hHeld => ?_)
  clear hK K
  try simp only [Act.put, List.setIfInBounds_toArray, List.set_cons_zero, List.set_cons_succ]
  refine takeY (i := 34) (d := some 39) (v := ?_) rfl rfl (by kernel_rfl) (by kernel_rfl) (by kernel_rfl) (fun _ _ _ h => h) (by rfl) ?_ hHeld ?_
  rotate_left
  · intro w9 hS9
    first | (go_simp; done) | (go_simp; with_reducible rfl)
  try simp only [Act.put, List.setIfInBounds_toArray, List.set_cons_zero, List.set_cons_succ]
  refine takeY (i := 35) (d := some 4) (v := ?_) rfl rfl (by kernel_rfl) (by kernel_rfl) (by kernel_rfl) (fun _ _ _ h => h) (by rfl) ?_ hHeld ?_
  rotate_left
  · intro w9 hS9
    first | (go_simp; done) | (go_simp; with_reducible rfl)
  try simp only [Act.put, List.setIfInBounds_toArray, List.set_cons_zero, List.set_cons_succ]
  refine wpAnyH_done (by kernel_rfl) ?_ _
  go_wp2
  go_ret
  exact ⟨rfl, HB.out.trans (HW3.out.mono HB.out.size)⟩

set_option maxHeartbeats 4000000 in
set_option maxRecDepth 100000 in
theorem eqTrm4 (k : Int) (nm : ByteArray) (tA : Option Addr) (tn tc : Nat) (tL : List Int) (gA : Option Addr) (gn gc : Nat) (gL : List OpW) (l : Int) (A : Option Addr) (n c : Nat) (ps : List Pr) (tA' : Option Addr) (tn' tc' : Nat) (tL' : List Int) (gA' : Option Addr) (gn' gc' : Nat) (gL' : List OpW) (l' : Int) (A' : Option Addr) (n' c' : Nat) (ps' : List Pr) (h2 : eqIs2 ⟨tA, tn, tc, tL⟩ ⟨tA', tn', tc', tL'⟩ = true) (h3 : eqPl ⟨l, A, n, c, ps⟩ ⟨l', A', n', c', ps'⟩ = true) (h4 : eqOps ⟨gA, gn, gc, gL⟩ ⟨gA', gn', gc', gL'⟩ = false)
    (w : World) (hx : OneTm w w.heap.size ⟨k, ⟨tA, tn, tc, tL⟩, ⟨gA, gn, gc, gL⟩, ⟨l, A, n, c, ps⟩, nm⟩) (hy : OneTm w w.heap.size ⟨k, ⟨tA', tn', tc', tL'⟩, ⟨gA', gn', gc', gL'⟩, ⟨l', A', n', c', ps'⟩, nm⟩) :
    Calls Tryz.prog 75 #[aggTm ⟨k, ⟨tA, tn, tc, tL⟩, ⟨gA, gn, gc, gL⟩, ⟨l, A, n, c, ps⟩, nm⟩, aggTm ⟨k, ⟨tA', tn', tc', tL'⟩, ⟨gA', gn', gc', gL'⟩, ⟨l', A', n', c', ps'⟩, nm⟩] w fun e w' => e = .returned (.bool false) ∧ Below w.heap.size w w' := by
  have HB := hide (bx2_below w (cTm ⟨k, ⟨tA, tn, tc, tL⟩, ⟨gA, gn, gc, gL⟩, ⟨l, A, n, c, ps⟩, nm⟩) (cTm ⟨k, ⟨tA', tn', tc', tL'⟩, ⟨gA', gn', gc', gL'⟩, ⟨l', A', n', c', ps'⟩, nm⟩) 42)
  have HX := hide (hx.up HB.out)
  have HY := hide (hy.up HB.out)
  have hs := hide fun (w' : World) (h : Below (bx2 w (cTm ⟨k, ⟨tA, tn, tc, tL⟩, ⟨gA, gn, gc, gL⟩, ⟨l, A, n, c, ps⟩, nm⟩) (cTm ⟨k, ⟨tA', tn', tc', tL'⟩, ⟨gA', gn', gc', gL'⟩, ⟨l', A', n', c', ps'⟩, nm⟩) 42).heap.size (bx2 w (cTm ⟨k, ⟨tA, tn, tc, tL⟩, ⟨gA, gn, gc, gL⟩, ⟨l, A, n, c, ps⟩, nm⟩) (cTm ⟨k, ⟨tA', tn', tc', tL'⟩, ⟨gA', gn', gc', gL'⟩, ⟨l', A', n', c', ps'⟩, nm⟩) 42) w') => bx2_cells h
  have H2 := hide h2
  clear h2
  have H3 := hide h3
  clear h3
  have H4 := hide h4
  clear h4
  clear hx hy
  go_enter Tryz.func75, Tryz.ntmps75
  have hc := hide fun (w' : World) (h : Below (bx2 w (cTm ⟨k, ⟨tA, tn, tc, tL⟩, ⟨gA, gn, gc, gL⟩, ⟨l, A, n, c, ps⟩, nm⟩) (cTm ⟨k, ⟨tA', tn', tc', tL'⟩, ⟨gA', gn', gc', gL'⟩, ⟨l', A', n', c', ps'⟩, nm⟩) 42).heap.size (bx2 w (cTm ⟨k, ⟨tA, tn, tc, tL⟩, ⟨gA, gn, gc, gL⟩, ⟨l, A, n, c, ps⟩, nm⟩) (cTm ⟨k, ⟨tA', tn', tc', tL'⟩, ⟨gA', gn', gc', gL'⟩, ⟨l', A', n', c', ps'⟩, nm⟩) 42) w') => (show w'.cell? ⟨w.heap.size, 0, none⟩ = some (.int .i64 k) ∧ w'.cell? ⟨w.heap.size + 1, 0, none⟩ = some (.int .i64 k) ∧ w'.cell? ⟨w.heap.size, 1, none⟩ = some (.slice tA tn tc) ∧ w'.cell? ⟨w.heap.size + 1, 1, none⟩ = some (.slice tA' tn' tc') ∧ w'.cell? ⟨w.heap.size, 2, none⟩ = some (.slice gA gn gc) ∧ w'.cell? ⟨w.heap.size + 1, 2, none⟩ = some (.slice gA' gn' gc') ∧ w'.cell? ⟨w.heap.size, 3, none⟩ = some (.int .i64 l) ∧ w'.cell? ⟨w.heap.size + 1, 3, none⟩ = some (.int .i64 l') ∧ w'.cell? ⟨w.heap.size, 4, none⟩ = some (.slice A n c) ∧ w'.cell? ⟨w.heap.size + 1, 4, none⟩ = some (.slice A' n' c') ∧ w'.cell? ⟨w.heap.size, 5, none⟩ = some (.string nm) ∧ w'.cell? ⟨w.heap.size + 1, 5, none⟩ = some (.string nm) from ⟨(hs.out w' h 0 _ _ rfl rfl).1, (hs.out w' h 0 _ _ rfl rfl).2, (hs.out w' h 1 _ _ rfl rfl).1, (hs.out w' h 1 _ _ rfl rfl).2, (hs.out w' h 2 _ _ rfl rfl).1, (hs.out w' h 2 _ _ rfl rfl).2, (hs.out w' h 3 _ _ rfl rfl).1, (hs.out w' h 3 _ _ rfl rfl).2, (hs.out w' h 4 _ _ rfl rfl).1, (hs.out w' h 4 _ _ rfl rfl).2, (hs.out w' h 5 _ _ rfl rfl).1, (hs.out w' h 5 _ _ rfl rfl).2⟩)
  have HW0 := hide (show Below (bx2 w (cTm ⟨k, ⟨tA, tn, tc, tL⟩, ⟨gA, gn, gc, gL⟩, ⟨l, A, n, c, ps⟩, nm⟩) (cTm ⟨k, ⟨tA', tn', tc', tL'⟩, ⟨gA', gn', gc', gL'⟩, ⟨l', A', n', c', ps'⟩, nm⟩) 42).heap.size (bx2 w (cTm ⟨k, ⟨tA, tn, tc, tL⟩, ⟨gA, gn, gc, gL⟩, ⟨l, A, n, c, ps⟩, nm⟩) (cTm ⟨k, ⟨tA', tn', tc', tL'⟩, ⟨gA', gn', gc', gL'⟩, ⟨l', A', n', c', ps'⟩, nm⟩) 42) (World.drew (bx2 w (cTm ⟨k, ⟨tA, tn, tc, tL⟩, ⟨gA, gn, gc, gL⟩, ⟨l, A, n, c, ps⟩, nm⟩) (cTm ⟨k, ⟨tA', tn', tc', tL'⟩, ⟨gA', gn', gc', gL'⟩, ⟨l', A', n', c', ps'⟩, nm⟩) 42)) from (Below.refl _ _).drew)
  go_wp2
  change Code.wp _ _ _ _ (bx2 w (cTm ⟨k, ⟨tA, tn, tc, tL⟩, ⟨gA, gn, gc, gL⟩, ⟨l, A, n, c, ps⟩, nm⟩) (cTm ⟨k, ⟨tA', tn', tc', tL'⟩, ⟨gA', gn', gc', gL'⟩, ⟨l', A', n', c', ps'⟩, nm⟩) 42)
  refine wp_region_held_drew (S := (fun w' => Below (bx2 w (cTm ⟨k, ⟨tA, tn, tc, tL⟩, ⟨gA, gn, gc, gL⟩, ⟨l, A, n, c, ps⟩, nm⟩) (cTm ⟨k, ⟨tA', tn', tc', tL'⟩, ⟨gA', gn', gc', gL'⟩, ⟨l', A', n', c', ps'⟩, nm⟩) 42).heap.size (bx2 w (cTm ⟨k, ⟨tA, tn, tc, tL⟩, ⟨gA, gn, gc, gL⟩, ⟨l, A, n, c, ps⟩, nm⟩) (cTm ⟨k, ⟨tA', tn', tc', tL'⟩, ⟨gA', gn', gc', gL'⟩, ⟨l', A', n', c', ps'⟩, nm⟩) 42) w' ∧ w'.cell? ⟨w.heap.size, 0, none⟩ = some (.int .i64 k) ∧ w'.cell? ⟨w.heap.size + 1, 0, none⟩ = some (.int .i64 k) ∧ w'.cell? ⟨w.heap.size, 1, none⟩ = some (.slice tA tn tc) ∧ w'.cell? ⟨w.heap.size + 1, 1, none⟩ = some (.slice tA' tn' tc') ∧ w'.cell? ⟨w.heap.size, 2, none⟩ = some (.slice gA gn gc) ∧ w'.cell? ⟨w.heap.size + 1, 2, none⟩ = some (.slice gA' gn' gc') ∧ w'.cell? ⟨w.heap.size, 3, none⟩ = some (.int .i64 l) ∧ w'.cell? ⟨w.heap.size + 1, 3, none⟩ = some (.int .i64 l') ∧ w'.cell? ⟨w.heap.size, 4, none⟩ = some (.slice A n c) ∧ w'.cell? ⟨w.heap.size + 1, 4, none⟩ = some (.slice A' n' c') ∧ w'.cell? ⟨w.heap.size, 5, none⟩ = some (.string nm) ∧ w'.cell? ⟨w.heap.size + 1, 5, none⟩ = some (.string nm))) (by kernel_rfl) ⟨HW0.out, hc.out _ HW0.out⟩ (fun hHeld => ?_)
  refine takeY (i := 0) (d := some 5) (v := ?_) rfl rfl (by kernel_rfl) (by kernel_rfl) (by kernel_rfl) (fun _ _ _ h => h) (by rfl) ?_ hHeld ?_
  rotate_left
  · intro w9 hS9
    first | (go_simp; done) | (go_simp; with_reducible rfl)
  try simp only [Act.put, List.setIfInBounds_toArray, List.set_cons_zero, List.set_cons_succ]
  refine takeY (i := 1) (d := some 6) (v := ?_) rfl rfl (by kernel_rfl) (by kernel_rfl) (by kernel_rfl) (fun _ _ _ h => h) (by rfl) ?_ hHeld ?_
  rotate_left
  · intro w9 hS9
    obtain ⟨_, c0, d0, c1, d1, c2, d2, c3, d3, c4, d4, c5, d5⟩ := hS9
    first | (go_simp; done) | (go_simp; with_reducible rfl)
  try simp only [Act.put, List.setIfInBounds_toArray, List.set_cons_zero, List.set_cons_succ]
  refine takeY (i := 2) (d := some 7) (v := ?_) rfl rfl (by kernel_rfl) (by kernel_rfl) (by kernel_rfl) (fun _ _ _ h => h) (by rfl) ?_ hHeld ?_
  rotate_left
  · intro w9 hS9
    first | (go_simp; done) | (go_simp; with_reducible rfl)
  try simp only [Act.put, List.setIfInBounds_toArray, List.set_cons_zero, List.set_cons_succ]
  refine takeY (i := 3) (d := some 8) (v := ?_) rfl rfl (by kernel_rfl) (by kernel_rfl) (by kernel_rfl) (fun _ _ _ h => h) (by rfl) ?_ hHeld ?_
  rotate_left
  · intro w9 hS9
    obtain ⟨_, c0, d0, c1, d1, c2, d2, c3, d3, c4, d4, c5, d5⟩ := hS9
    first | (go_simp; done) | (go_simp; with_reducible rfl)
  try simp only [Act.put, List.setIfInBounds_toArray, List.set_cons_zero, List.set_cons_succ]
  refine takeY (i := 4) (d := some 9) (v := ?_) rfl rfl (by kernel_rfl) (by kernel_rfl) (by kernel_rfl) (fun _ _ _ h => h) (by rfl) ?_ hHeld ?_
  rotate_left
  · intro w9 hS9
    first | (go_simp; done) | (go_simp; with_reducible rfl)
  try simp only [Act.put, List.setIfInBounds_toArray, List.set_cons_zero, List.set_cons_succ]
  refine takeY (i := 5) (d := some 10) (v := ?_) rfl rfl (by kernel_rfl) (by kernel_rfl) (by kernel_rfl) (fun _ _ _ h => h) (by rfl) ?_ hHeld ?_
  rotate_left
  · intro w9 hS9
    first | (go_simp; done) | (go_simp; with_reducible rfl)
  try simp only [Act.put, List.setIfInBounds_toArray, List.set_cons_zero, List.set_cons_succ]
  refine takeY (i := 6) (d := some 11) (v := ?_) rfl rfl (by kernel_rfl) (by kernel_rfl) (by kernel_rfl) (fun _ _ _ h => h) (by rfl) ?_ hHeld ?_
  rotate_left
  · intro w9 hS9
    first | (go_simp; done) | (go_simp; with_reducible rfl)
  try simp only [Act.put, List.setIfInBounds_toArray, List.set_cons_zero, List.set_cons_succ]
  refine takeY (i := 7) (d := some 12) (v := ?_) rfl rfl (by kernel_rfl) (by kernel_rfl) (by kernel_rfl) (fun _ _ _ h => h) (by rfl) ?_ hHeld ?_
  rotate_left
  · intro w9 hS9
    obtain ⟨_, c0, d0, c1, d1, c2, d2, c3, d3, c4, d4, c5, d5⟩ := hS9
    first | (go_simp; done) | (go_simp; with_reducible rfl)
  try simp only [Act.put, List.setIfInBounds_toArray, List.set_cons_zero, List.set_cons_succ]
  refine takeY (i := 8) (d := some 13) (v := ?_) rfl rfl (by kernel_rfl) (by kernel_rfl) (by kernel_rfl) (fun _ _ _ h => h) (by rfl) ?_ hHeld ?_
  rotate_left
  · intro w9 hS9
    first | (go_simp; done) | (go_simp; with_reducible rfl)
  try simp only [Act.put, List.setIfInBounds_toArray, List.set_cons_zero, List.set_cons_succ]
  refine takeY (i := 9) (d := some 14) (v := ?_) rfl rfl (by kernel_rfl) (by kernel_rfl) (by kernel_rfl) (fun _ _ _ h => h) (by rfl) ?_ hHeld ?_
  rotate_left
  · intro w9 hS9
    obtain ⟨_, c0, d0, c1, d1, c2, d2, c3, d3, c4, d4, c5, d5⟩ := hS9
    first | (go_simp; done) | (go_simp; with_reducible rfl)
  try simp only [Act.put, List.setIfInBounds_toArray, List.set_cons_zero, List.set_cons_succ]
  refine takeY (i := 10) (d := some 15) (v := ?_) rfl rfl (by kernel_rfl) (by kernel_rfl) (by kernel_rfl) (fun _ _ _ h => h) (by rfl) ?_ hHeld ?_
  rotate_left
  · intro w9 hS9
    first | (go_simp; done) | (go_simp; with_reducible rfl)
  try simp only [Act.put, List.setIfInBounds_toArray, List.set_cons_zero, List.set_cons_succ]
  refine takeY (i := 11) (d := some 16) (v := ?_) rfl rfl (by kernel_rfl) (by kernel_rfl) (by kernel_rfl) (fun _ _ _ h => h) (by rfl) ?_ hHeld ?_
  rotate_left
  · intro w9 hS9
    first | (go_simp; done) | (go_simp; with_reducible rfl)
  try simp only [Act.put, List.setIfInBounds_toArray, List.set_cons_zero, List.set_cons_succ]
  refine takeY (i := 12) (d := some 17) (v := ?_) rfl rfl (by kernel_rfl) (by kernel_rfl) (by kernel_rfl) (fun _ _ _ h => h) (by rfl) ?_ hHeld ?_
  rotate_left
  · intro w9 hS9
    first | (go_simp; done) | (go_simp; with_reducible rfl)
  try simp only [Act.put, List.setIfInBounds_toArray, List.set_cons_zero, List.set_cons_succ]
  refine takeY (i := 13) (d := some 18) (v := ?_) rfl rfl (by kernel_rfl) (by kernel_rfl) (by kernel_rfl) (fun _ _ _ h => h) (by rfl) ?_ hHeld ?_
  rotate_left
  · intro w9 hS9
    first | (go_simp; done) | (go_simp; with_reducible rfl)
  try simp only [Act.put, List.setIfInBounds_toArray, List.set_cons_zero, List.set_cons_succ]
  refine takeY (i := 14) (d := some 19) (v := ?_) rfl rfl (by kernel_rfl) (by kernel_rfl) (by kernel_rfl) (fun _ _ _ h => h) (by rfl) ?_ hHeld ?_
  rotate_left
  · intro w9 hS9
    obtain ⟨_, c0, d0, c1, d1, c2, d2, c3, d3, c4, d4, c5, d5⟩ := hS9
    first | (go_simp; done) | (go_simp; with_reducible rfl)
  try simp only [Act.put, List.setIfInBounds_toArray, List.set_cons_zero, List.set_cons_succ]
  refine takeY (i := 16) (d := some 21) (v := ?_) rfl rfl (by kernel_rfl) (by kernel_rfl) (by kernel_rfl) (fun _ _ _ h => h) (by rfl) ?_ hHeld ?_
  rotate_left
  · intro w9 hS9
    first | (go_simp; done) | (go_simp; with_reducible rfl)
  try simp only [Act.put, List.setIfInBounds_toArray, List.set_cons_zero, List.set_cons_succ]
  refine takeY (i := 17) (d := some 22) (v := ?_) rfl rfl (by kernel_rfl) (by kernel_rfl) (by kernel_rfl) (fun _ _ _ h => h) (by rfl) ?_ hHeld ?_
  rotate_left
  · intro w9 hS9
    obtain ⟨_, c0, d0, c1, d1, c2, d2, c3, d3, c4, d4, c5, d5⟩ := hS9
    first | (go_simp; done) | (go_simp; with_reducible rfl)
  try simp only [Act.put, List.setIfInBounds_toArray, List.set_cons_zero, List.set_cons_succ]
  refine wpAnyH_ready (rs := [15]) (by kernel_rfl) (by simp) ?_
  refine AllReadyH.cons rfl (fun K hK => ?_) AllReadyH.nil
  go_simp
  refine (PlainInt_any ⟨tA, tn, tc, tL⟩ _).mono ?_
  rintro x9 w1 ⟨rfl, hb0⟩
  have HW1 := hide (HW0.out.trans (hb0.mono HW0.out.size))
  clear hb0
  refine hK.out _ _ ⟨HW1.out, hc.out _ HW1.out⟩ (fun hHeld => ?_)
  clear hK K
  try simp only [Act.put, List.setIfInBounds_toArray, List.set_cons_zero, List.set_cons_succ]
  refine wpAnyH_ready (rs := [18]) (by kernel_rfl) (by simp) ?_
  refine AllReadyH.cons rfl (fun K hK => ?_) AllReadyH.nil
  go_simp
  refine (EqIs2_is (s := ⟨tA, tn, tc, tL⟩) (t := ⟨tA', tn', tc', tL'⟩) H2.out _ (Ints.up HX.out.targets HW1.out) (Ints.up HY.out.targets HW1.out)).mono ?_
  rintro x9 w2 ⟨rfl, hb0⟩
  have HW2 := hide (HW1.out.trans (hb0.mono HW1.out.size))
  clear hb0
  refine hK.out _ _ ⟨HW2.out, hc.out _ HW2.out⟩ (fun hHeld => ?_)
  clear hK K
  try simp only [Act.put, List.setIfInBounds_toArray, List.set_cons_zero, List.set_cons_succ]
  refine takeY (i := 19) (d := some 24) (v := ?_) rfl rfl (by kernel_rfl) (by kernel_rfl) (by kernel_rfl) (fun _ _ _ h => h) (by rfl) ?_ hHeld ?_
  rotate_left
  · intro w9 hS9
    first | (go_simp; done) | (go_simp; with_reducible rfl)
  try simp only [Act.put, List.setIfInBounds_toArray, List.set_cons_zero, List.set_cons_succ]
  refine takeY (i := 20) (d := some 25) (v := ?_) rfl rfl (by kernel_rfl) (by kernel_rfl) (by kernel_rfl) (fun _ _ _ h => h) (by rfl) ?_ hHeld ?_
  rotate_left
  · intro w9 hS9
    first | (go_simp; done) | (go_simp; with_reducible rfl)
  try simp only [Act.put, List.setIfInBounds_toArray, List.set_cons_zero, List.set_cons_succ]
  refine takeY (i := 21) (d := some 26) (v := ?_) rfl rfl (by kernel_rfl) (by kernel_rfl) (by kernel_rfl) (fun _ _ _ h => h) (by rfl) ?_ hHeld ?_
  rotate_left
  · intro w9 hS9
    first | (go_simp; done) | (go_simp; with_reducible rfl)
  try simp only [Act.put, List.setIfInBounds_toArray, List.set_cons_zero, List.set_cons_succ]
  refine takeY (i := 22) (d := some 27) (v := ?_) rfl rfl (by kernel_rfl) (by kernel_rfl) (by kernel_rfl) (fun _ _ _ h => h) (by rfl) ?_ hHeld ?_
  rotate_left
  · intro w9 hS9
    obtain ⟨_, c0, d0, c1, d1, c2, d2, c3, d3, c4, d4, c5, d5⟩ := hS9
    first | (go_simp; done) | (go_simp; with_reducible rfl)
  try simp only [Act.put, List.setIfInBounds_toArray, List.set_cons_zero, List.set_cons_succ]
  refine takeY (i := 23) (d := some 28) (v := ?_) rfl rfl (by kernel_rfl) (by kernel_rfl) (by kernel_rfl) (fun _ _ _ h => h) (by rfl) ?_ hHeld ?_
  rotate_left
  · intro w9 hS9
    first | (go_simp; done) | (go_simp; with_reducible rfl)
  try simp only [Act.put, List.setIfInBounds_toArray, List.set_cons_zero, List.set_cons_succ]
  refine takeY (i := 24) (d := some 29) (v := ?_) rfl rfl (by kernel_rfl) (by kernel_rfl) (by kernel_rfl) (fun _ _ _ h => h) (by rfl) ?_ hHeld ?_
  rotate_left
  · intro w9 hS9
    obtain ⟨_, c0, d0, c1, d1, c2, d2, c3, d3, c4, d4, c5, d5⟩ := hS9
    first | (go_simp; done) | (go_simp; with_reducible rfl)
  try simp only [Act.put, List.setIfInBounds_toArray, List.set_cons_zero, List.set_cons_succ]
  refine wpAnyH_ready (rs := [25]) (by kernel_rfl) (by simp) ?_
  refine AllReadyH.cons rfl (fun K hK => ?_) AllReadyH.nil
  go_simp
  refine (EqualP_is H3.out _ (HX.out.pl.up HW2.out) (HY.out.pl.up HW2.out)).mono ?_
  rintro x9 w3 ⟨rfl, hb0⟩
  have HW3 := hide (HW2.out.trans (hb0.mono HW2.out.size))
  clear hb0
  refine hK.out _ _ ⟨HW3.out, hc.out _ HW3.out⟩ (fun hHeld => ?_)
  clear hK K
  try simp only [Act.put, List.setIfInBounds_toArray, List.set_cons_zero, List.set_cons_succ]
  refine takeY (i := 26) (d := some 31) (v := ?_) rfl rfl (by kernel_rfl) (by kernel_rfl) (by kernel_rfl) (fun _ _ _ h => h) (by rfl) ?_ hHeld ?_
  rotate_left
  · intro w9 hS9
    first | (go_simp; done) | (go_simp; with_reducible rfl)
  try simp only [Act.put, List.setIfInBounds_toArray, List.set_cons_zero, List.set_cons_succ]
  refine takeY (i := 27) (d := some 32) (v := ?_) rfl rfl (by kernel_rfl) (by kernel_rfl) (by kernel_rfl) (fun _ _ _ h => h) (by rfl) ?_ hHeld ?_
  rotate_left
  · intro w9 hS9
    first | (go_simp; done) | (go_simp; with_reducible rfl)
  try simp only [Act.put, List.setIfInBounds_toArray, List.set_cons_zero, List.set_cons_succ]
  refine takeY (i := 28) (d := some 33) (v := ?_) rfl rfl (by kernel_rfl) (by kernel_rfl) (by kernel_rfl) (fun _ _ _ h => h) (by rfl) ?_ hHeld ?_
  rotate_left
  · intro w9 hS9
    first | (go_simp; done) | (go_simp; with_reducible rfl)
  try simp only [Act.put, List.setIfInBounds_toArray, List.set_cons_zero, List.set_cons_succ]
  refine takeY (i := 29) (d := some 34) (v := ?_) rfl rfl (by kernel_rfl) (by kernel_rfl) (by kernel_rfl) (fun _ _ _ h => h) (by rfl) ?_ hHeld ?_
  rotate_left
  · intro w9 hS9
    obtain ⟨_, c0, d0, c1, d1, c2, d2, c3, d3, c4, d4, c5, d5⟩ := hS9
    first | (go_simp; done) | (go_simp; with_reducible rfl)
  try simp only [Act.put, List.setIfInBounds_toArray, List.set_cons_zero, List.set_cons_succ]
  refine takeY (i := 30) (d := some 35) (v := ?_) rfl rfl (by kernel_rfl) (by kernel_rfl) (by kernel_rfl) (fun _ _ _ h => h) (by rfl) ?_ hHeld ?_
  rotate_left
  · intro w9 hS9
    first | (go_simp; done) | (go_simp; with_reducible rfl)
  try simp only [Act.put, List.setIfInBounds_toArray, List.set_cons_zero, List.set_cons_succ]
  refine takeY (i := 31) (d := some 36) (v := ?_) rfl rfl (by kernel_rfl) (by kernel_rfl) (by kernel_rfl) (fun _ _ _ h => h) (by rfl) ?_ hHeld ?_
  rotate_left
  · intro w9 hS9
    first | (go_simp; done) | (go_simp; with_reducible rfl)
  try simp only [Act.put, List.setIfInBounds_toArray, List.set_cons_zero, List.set_cons_succ]
  refine takeY (i := 32) (d := some 37) (v := ?_) rfl rfl (by kernel_rfl) (by kernel_rfl) (by kernel_rfl) (fun _ _ _ h => h) (by rfl) ?_ hHeld ?_
  rotate_left
  · intro w9 hS9
    obtain ⟨_, c0, d0, c1, d1, c2, d2, c3, d3, c4, d4, c5, d5⟩ := hS9
    first | (go_simp; done) | (go_simp; with_reducible rfl)
  try simp only [Act.put, List.setIfInBounds_toArray, List.set_cons_zero, List.set_cons_succ]
  refine wpAnyH_ready (rs := [33]) (by kernel_rfl) (by simp) ?_
  refine AllReadyH.cons rfl (fun K hK => ?_) AllReadyH.nil
  go_simp
  refine (EqOps_is (s := ⟨gA, gn, gc, gL⟩) (t := ⟨gA', gn', gc', gL'⟩) H4.out _ (Ops.up HX.out.args HW3.out) (Ops.up HY.out.args HW3.out)).mono ?_
  rintro x9 w4 ⟨rfl, hb0⟩
  have HW4 := hide (HW3.out.trans (hb0.mono HW3.out.size))
  clear hb0
  refine hK.out _ _ ⟨HW4.out, hc.out _ HW4.out⟩ (fun hHeld => ?_)
  clear hK K
  try simp only [Act.put, List.setIfInBounds_toArray, List.set_cons_zero, List.set_cons_succ]
  refine takeY (i := 34) (d := some 39) (v := ?_) rfl rfl (by kernel_rfl) (by kernel_rfl) (by kernel_rfl) (fun _ _ _ h => h) (by rfl) ?_ hHeld ?_
  rotate_left
  · intro w9 hS9
    first | (go_simp; done) | (go_simp; with_reducible rfl)
  try simp only [Act.put, List.setIfInBounds_toArray, List.set_cons_zero, List.set_cons_succ]
  refine takeY (i := 35) (d := some 4) (v := ?_) rfl rfl (by kernel_rfl) (by kernel_rfl) (by kernel_rfl) (fun _ _ _ h => h) (by rfl) ?_ hHeld ?_
  rotate_left
  · intro w9 hS9
    first | (go_simp; done) | (go_simp; with_reducible rfl)
  try simp only [Act.put, List.setIfInBounds_toArray, List.set_cons_zero, List.set_cons_succ]
  refine wpAnyH_done (by kernel_rfl) ?_ _
  go_wp2
  go_ret
  exact ⟨rfl, HB.out.trans (HW4.out.mono HB.out.size)⟩

set_option maxHeartbeats 4000000 in
set_option maxRecDepth 100000 in
theorem eqTrm5 (k : Int) (nm : ByteArray) (tA : Option Addr) (tn tc : Nat) (tL : List Int) (gA : Option Addr) (gn gc : Nat) (gL : List OpW) (l : Int) (A : Option Addr) (n c : Nat) (ps : List Pr) (tA' : Option Addr) (tn' tc' : Nat) (tL' : List Int) (gA' : Option Addr) (gn' gc' : Nat) (gL' : List OpW) (l' : Int) (A' : Option Addr) (n' c' : Nat) (ps' : List Pr) (h2 : eqIs2 ⟨tA, tn, tc, tL⟩ ⟨tA', tn', tc', tL'⟩ = true) (h3 : eqPl ⟨l, A, n, c, ps⟩ ⟨l', A', n', c', ps'⟩ = true) (h4 : eqOps ⟨gA, gn, gc, gL⟩ ⟨gA', gn', gc', gL'⟩ = true)
    (w : World) (hx : OneTm w w.heap.size ⟨k, ⟨tA, tn, tc, tL⟩, ⟨gA, gn, gc, gL⟩, ⟨l, A, n, c, ps⟩, nm⟩) (hy : OneTm w w.heap.size ⟨k, ⟨tA', tn', tc', tL'⟩, ⟨gA', gn', gc', gL'⟩, ⟨l', A', n', c', ps'⟩, nm⟩) :
    Calls Tryz.prog 75 #[aggTm ⟨k, ⟨tA, tn, tc, tL⟩, ⟨gA, gn, gc, gL⟩, ⟨l, A, n, c, ps⟩, nm⟩, aggTm ⟨k, ⟨tA', tn', tc', tL'⟩, ⟨gA', gn', gc', gL'⟩, ⟨l', A', n', c', ps'⟩, nm⟩] w fun e w' => e = .returned (.bool true) ∧ Below w.heap.size w w' := by
  have HB := hide (bx2_below w (cTm ⟨k, ⟨tA, tn, tc, tL⟩, ⟨gA, gn, gc, gL⟩, ⟨l, A, n, c, ps⟩, nm⟩) (cTm ⟨k, ⟨tA', tn', tc', tL'⟩, ⟨gA', gn', gc', gL'⟩, ⟨l', A', n', c', ps'⟩, nm⟩) 42)
  have HX := hide (hx.up HB.out)
  have HY := hide (hy.up HB.out)
  have hs := hide fun (w' : World) (h : Below (bx2 w (cTm ⟨k, ⟨tA, tn, tc, tL⟩, ⟨gA, gn, gc, gL⟩, ⟨l, A, n, c, ps⟩, nm⟩) (cTm ⟨k, ⟨tA', tn', tc', tL'⟩, ⟨gA', gn', gc', gL'⟩, ⟨l', A', n', c', ps'⟩, nm⟩) 42).heap.size (bx2 w (cTm ⟨k, ⟨tA, tn, tc, tL⟩, ⟨gA, gn, gc, gL⟩, ⟨l, A, n, c, ps⟩, nm⟩) (cTm ⟨k, ⟨tA', tn', tc', tL'⟩, ⟨gA', gn', gc', gL'⟩, ⟨l', A', n', c', ps'⟩, nm⟩) 42) w') => bx2_cells h
  have H2 := hide h2
  clear h2
  have H3 := hide h3
  clear h3
  have H4 := hide h4
  clear h4
  clear hx hy
  go_enter Tryz.func75, Tryz.ntmps75
  have hc := hide fun (w' : World) (h : Below (bx2 w (cTm ⟨k, ⟨tA, tn, tc, tL⟩, ⟨gA, gn, gc, gL⟩, ⟨l, A, n, c, ps⟩, nm⟩) (cTm ⟨k, ⟨tA', tn', tc', tL'⟩, ⟨gA', gn', gc', gL'⟩, ⟨l', A', n', c', ps'⟩, nm⟩) 42).heap.size (bx2 w (cTm ⟨k, ⟨tA, tn, tc, tL⟩, ⟨gA, gn, gc, gL⟩, ⟨l, A, n, c, ps⟩, nm⟩) (cTm ⟨k, ⟨tA', tn', tc', tL'⟩, ⟨gA', gn', gc', gL'⟩, ⟨l', A', n', c', ps'⟩, nm⟩) 42) w') => (show w'.cell? ⟨w.heap.size, 0, none⟩ = some (.int .i64 k) ∧ w'.cell? ⟨w.heap.size + 1, 0, none⟩ = some (.int .i64 k) ∧ w'.cell? ⟨w.heap.size, 1, none⟩ = some (.slice tA tn tc) ∧ w'.cell? ⟨w.heap.size + 1, 1, none⟩ = some (.slice tA' tn' tc') ∧ w'.cell? ⟨w.heap.size, 2, none⟩ = some (.slice gA gn gc) ∧ w'.cell? ⟨w.heap.size + 1, 2, none⟩ = some (.slice gA' gn' gc') ∧ w'.cell? ⟨w.heap.size, 3, none⟩ = some (.int .i64 l) ∧ w'.cell? ⟨w.heap.size + 1, 3, none⟩ = some (.int .i64 l') ∧ w'.cell? ⟨w.heap.size, 4, none⟩ = some (.slice A n c) ∧ w'.cell? ⟨w.heap.size + 1, 4, none⟩ = some (.slice A' n' c') ∧ w'.cell? ⟨w.heap.size, 5, none⟩ = some (.string nm) ∧ w'.cell? ⟨w.heap.size + 1, 5, none⟩ = some (.string nm) from ⟨(hs.out w' h 0 _ _ rfl rfl).1, (hs.out w' h 0 _ _ rfl rfl).2, (hs.out w' h 1 _ _ rfl rfl).1, (hs.out w' h 1 _ _ rfl rfl).2, (hs.out w' h 2 _ _ rfl rfl).1, (hs.out w' h 2 _ _ rfl rfl).2, (hs.out w' h 3 _ _ rfl rfl).1, (hs.out w' h 3 _ _ rfl rfl).2, (hs.out w' h 4 _ _ rfl rfl).1, (hs.out w' h 4 _ _ rfl rfl).2, (hs.out w' h 5 _ _ rfl rfl).1, (hs.out w' h 5 _ _ rfl rfl).2⟩)
  have HW0 := hide (show Below (bx2 w (cTm ⟨k, ⟨tA, tn, tc, tL⟩, ⟨gA, gn, gc, gL⟩, ⟨l, A, n, c, ps⟩, nm⟩) (cTm ⟨k, ⟨tA', tn', tc', tL'⟩, ⟨gA', gn', gc', gL'⟩, ⟨l', A', n', c', ps'⟩, nm⟩) 42).heap.size (bx2 w (cTm ⟨k, ⟨tA, tn, tc, tL⟩, ⟨gA, gn, gc, gL⟩, ⟨l, A, n, c, ps⟩, nm⟩) (cTm ⟨k, ⟨tA', tn', tc', tL'⟩, ⟨gA', gn', gc', gL'⟩, ⟨l', A', n', c', ps'⟩, nm⟩) 42) (World.drew (bx2 w (cTm ⟨k, ⟨tA, tn, tc, tL⟩, ⟨gA, gn, gc, gL⟩, ⟨l, A, n, c, ps⟩, nm⟩) (cTm ⟨k, ⟨tA', tn', tc', tL'⟩, ⟨gA', gn', gc', gL'⟩, ⟨l', A', n', c', ps'⟩, nm⟩) 42)) from (Below.refl _ _).drew)
  go_wp2
  change Code.wp _ _ _ _ (bx2 w (cTm ⟨k, ⟨tA, tn, tc, tL⟩, ⟨gA, gn, gc, gL⟩, ⟨l, A, n, c, ps⟩, nm⟩) (cTm ⟨k, ⟨tA', tn', tc', tL'⟩, ⟨gA', gn', gc', gL'⟩, ⟨l', A', n', c', ps'⟩, nm⟩) 42)
  refine wp_region_held_drew (S := (fun w' => Below (bx2 w (cTm ⟨k, ⟨tA, tn, tc, tL⟩, ⟨gA, gn, gc, gL⟩, ⟨l, A, n, c, ps⟩, nm⟩) (cTm ⟨k, ⟨tA', tn', tc', tL'⟩, ⟨gA', gn', gc', gL'⟩, ⟨l', A', n', c', ps'⟩, nm⟩) 42).heap.size (bx2 w (cTm ⟨k, ⟨tA, tn, tc, tL⟩, ⟨gA, gn, gc, gL⟩, ⟨l, A, n, c, ps⟩, nm⟩) (cTm ⟨k, ⟨tA', tn', tc', tL'⟩, ⟨gA', gn', gc', gL'⟩, ⟨l', A', n', c', ps'⟩, nm⟩) 42) w' ∧ w'.cell? ⟨w.heap.size, 0, none⟩ = some (.int .i64 k) ∧ w'.cell? ⟨w.heap.size + 1, 0, none⟩ = some (.int .i64 k) ∧ w'.cell? ⟨w.heap.size, 1, none⟩ = some (.slice tA tn tc) ∧ w'.cell? ⟨w.heap.size + 1, 1, none⟩ = some (.slice tA' tn' tc') ∧ w'.cell? ⟨w.heap.size, 2, none⟩ = some (.slice gA gn gc) ∧ w'.cell? ⟨w.heap.size + 1, 2, none⟩ = some (.slice gA' gn' gc') ∧ w'.cell? ⟨w.heap.size, 3, none⟩ = some (.int .i64 l) ∧ w'.cell? ⟨w.heap.size + 1, 3, none⟩ = some (.int .i64 l') ∧ w'.cell? ⟨w.heap.size, 4, none⟩ = some (.slice A n c) ∧ w'.cell? ⟨w.heap.size + 1, 4, none⟩ = some (.slice A' n' c') ∧ w'.cell? ⟨w.heap.size, 5, none⟩ = some (.string nm) ∧ w'.cell? ⟨w.heap.size + 1, 5, none⟩ = some (.string nm))) (by kernel_rfl) ⟨HW0.out, hc.out _ HW0.out⟩ (fun hHeld => ?_)
  refine takeY (i := 0) (d := some 5) (v := ?_) rfl rfl (by kernel_rfl) (by kernel_rfl) (by kernel_rfl) (fun _ _ _ h => h) (by rfl) ?_ hHeld ?_
  rotate_left
  · intro w9 hS9
    first | (go_simp; done) | (go_simp; with_reducible rfl)
  try simp only [Act.put, List.setIfInBounds_toArray, List.set_cons_zero, List.set_cons_succ]
  refine takeY (i := 1) (d := some 6) (v := ?_) rfl rfl (by kernel_rfl) (by kernel_rfl) (by kernel_rfl) (fun _ _ _ h => h) (by rfl) ?_ hHeld ?_
  rotate_left
  · intro w9 hS9
    obtain ⟨_, c0, d0, c1, d1, c2, d2, c3, d3, c4, d4, c5, d5⟩ := hS9
    first | (go_simp; done) | (go_simp; with_reducible rfl)
  try simp only [Act.put, List.setIfInBounds_toArray, List.set_cons_zero, List.set_cons_succ]
  refine takeY (i := 2) (d := some 7) (v := ?_) rfl rfl (by kernel_rfl) (by kernel_rfl) (by kernel_rfl) (fun _ _ _ h => h) (by rfl) ?_ hHeld ?_
  rotate_left
  · intro w9 hS9
    first | (go_simp; done) | (go_simp; with_reducible rfl)
  try simp only [Act.put, List.setIfInBounds_toArray, List.set_cons_zero, List.set_cons_succ]
  refine takeY (i := 3) (d := some 8) (v := ?_) rfl rfl (by kernel_rfl) (by kernel_rfl) (by kernel_rfl) (fun _ _ _ h => h) (by rfl) ?_ hHeld ?_
  rotate_left
  · intro w9 hS9
    obtain ⟨_, c0, d0, c1, d1, c2, d2, c3, d3, c4, d4, c5, d5⟩ := hS9
    first | (go_simp; done) | (go_simp; with_reducible rfl)
  try simp only [Act.put, List.setIfInBounds_toArray, List.set_cons_zero, List.set_cons_succ]
  refine takeY (i := 4) (d := some 9) (v := ?_) rfl rfl (by kernel_rfl) (by kernel_rfl) (by kernel_rfl) (fun _ _ _ h => h) (by rfl) ?_ hHeld ?_
  rotate_left
  · intro w9 hS9
    first | (go_simp; done) | (go_simp; with_reducible rfl)
  try simp only [Act.put, List.setIfInBounds_toArray, List.set_cons_zero, List.set_cons_succ]
  refine takeY (i := 5) (d := some 10) (v := ?_) rfl rfl (by kernel_rfl) (by kernel_rfl) (by kernel_rfl) (fun _ _ _ h => h) (by rfl) ?_ hHeld ?_
  rotate_left
  · intro w9 hS9
    first | (go_simp; done) | (go_simp; with_reducible rfl)
  try simp only [Act.put, List.setIfInBounds_toArray, List.set_cons_zero, List.set_cons_succ]
  refine takeY (i := 6) (d := some 11) (v := ?_) rfl rfl (by kernel_rfl) (by kernel_rfl) (by kernel_rfl) (fun _ _ _ h => h) (by rfl) ?_ hHeld ?_
  rotate_left
  · intro w9 hS9
    first | (go_simp; done) | (go_simp; with_reducible rfl)
  try simp only [Act.put, List.setIfInBounds_toArray, List.set_cons_zero, List.set_cons_succ]
  refine takeY (i := 7) (d := some 12) (v := ?_) rfl rfl (by kernel_rfl) (by kernel_rfl) (by kernel_rfl) (fun _ _ _ h => h) (by rfl) ?_ hHeld ?_
  rotate_left
  · intro w9 hS9
    obtain ⟨_, c0, d0, c1, d1, c2, d2, c3, d3, c4, d4, c5, d5⟩ := hS9
    first | (go_simp; done) | (go_simp; with_reducible rfl)
  try simp only [Act.put, List.setIfInBounds_toArray, List.set_cons_zero, List.set_cons_succ]
  refine takeY (i := 8) (d := some 13) (v := ?_) rfl rfl (by kernel_rfl) (by kernel_rfl) (by kernel_rfl) (fun _ _ _ h => h) (by rfl) ?_ hHeld ?_
  rotate_left
  · intro w9 hS9
    first | (go_simp; done) | (go_simp; with_reducible rfl)
  try simp only [Act.put, List.setIfInBounds_toArray, List.set_cons_zero, List.set_cons_succ]
  refine takeY (i := 9) (d := some 14) (v := ?_) rfl rfl (by kernel_rfl) (by kernel_rfl) (by kernel_rfl) (fun _ _ _ h => h) (by rfl) ?_ hHeld ?_
  rotate_left
  · intro w9 hS9
    obtain ⟨_, c0, d0, c1, d1, c2, d2, c3, d3, c4, d4, c5, d5⟩ := hS9
    first | (go_simp; done) | (go_simp; with_reducible rfl)
  try simp only [Act.put, List.setIfInBounds_toArray, List.set_cons_zero, List.set_cons_succ]
  refine takeY (i := 10) (d := some 15) (v := ?_) rfl rfl (by kernel_rfl) (by kernel_rfl) (by kernel_rfl) (fun _ _ _ h => h) (by rfl) ?_ hHeld ?_
  rotate_left
  · intro w9 hS9
    first | (go_simp; done) | (go_simp; with_reducible rfl)
  try simp only [Act.put, List.setIfInBounds_toArray, List.set_cons_zero, List.set_cons_succ]
  refine takeY (i := 11) (d := some 16) (v := ?_) rfl rfl (by kernel_rfl) (by kernel_rfl) (by kernel_rfl) (fun _ _ _ h => h) (by rfl) ?_ hHeld ?_
  rotate_left
  · intro w9 hS9
    first | (go_simp; done) | (go_simp; with_reducible rfl)
  try simp only [Act.put, List.setIfInBounds_toArray, List.set_cons_zero, List.set_cons_succ]
  refine takeY (i := 12) (d := some 17) (v := ?_) rfl rfl (by kernel_rfl) (by kernel_rfl) (by kernel_rfl) (fun _ _ _ h => h) (by rfl) ?_ hHeld ?_
  rotate_left
  · intro w9 hS9
    first | (go_simp; done) | (go_simp; with_reducible rfl)
  try simp only [Act.put, List.setIfInBounds_toArray, List.set_cons_zero, List.set_cons_succ]
  refine takeY (i := 13) (d := some 18) (v := ?_) rfl rfl (by kernel_rfl) (by kernel_rfl) (by kernel_rfl) (fun _ _ _ h => h) (by rfl) ?_ hHeld ?_
  rotate_left
  · intro w9 hS9
    first | (go_simp; done) | (go_simp; with_reducible rfl)
  try simp only [Act.put, List.setIfInBounds_toArray, List.set_cons_zero, List.set_cons_succ]
  refine takeY (i := 14) (d := some 19) (v := ?_) rfl rfl (by kernel_rfl) (by kernel_rfl) (by kernel_rfl) (fun _ _ _ h => h) (by rfl) ?_ hHeld ?_
  rotate_left
  · intro w9 hS9
    obtain ⟨_, c0, d0, c1, d1, c2, d2, c3, d3, c4, d4, c5, d5⟩ := hS9
    first | (go_simp; done) | (go_simp; with_reducible rfl)
  try simp only [Act.put, List.setIfInBounds_toArray, List.set_cons_zero, List.set_cons_succ]
  refine takeY (i := 16) (d := some 21) (v := ?_) rfl rfl (by kernel_rfl) (by kernel_rfl) (by kernel_rfl) (fun _ _ _ h => h) (by rfl) ?_ hHeld ?_
  rotate_left
  · intro w9 hS9
    first | (go_simp; done) | (go_simp; with_reducible rfl)
  try simp only [Act.put, List.setIfInBounds_toArray, List.set_cons_zero, List.set_cons_succ]
  refine takeY (i := 17) (d := some 22) (v := ?_) rfl rfl (by kernel_rfl) (by kernel_rfl) (by kernel_rfl) (fun _ _ _ h => h) (by rfl) ?_ hHeld ?_
  rotate_left
  · intro w9 hS9
    obtain ⟨_, c0, d0, c1, d1, c2, d2, c3, d3, c4, d4, c5, d5⟩ := hS9
    first | (go_simp; done) | (go_simp; with_reducible rfl)
  try simp only [Act.put, List.setIfInBounds_toArray, List.set_cons_zero, List.set_cons_succ]
  refine wpAnyH_ready (rs := [15]) (by kernel_rfl) (by simp) ?_
  refine AllReadyH.cons rfl (fun K hK => ?_) AllReadyH.nil
  go_simp
  refine (PlainInt_any ⟨tA, tn, tc, tL⟩ _).mono ?_
  rintro x9 w1 ⟨rfl, hb0⟩
  have HW1 := hide (HW0.out.trans (hb0.mono HW0.out.size))
  clear hb0
  refine hK.out _ _ ⟨HW1.out, hc.out _ HW1.out⟩ (fun hHeld => ?_)
  clear hK K
  try simp only [Act.put, List.setIfInBounds_toArray, List.set_cons_zero, List.set_cons_succ]
  refine wpAnyH_ready (rs := [18]) (by kernel_rfl) (by simp) ?_
  refine AllReadyH.cons rfl (fun K hK => ?_) AllReadyH.nil
  go_simp
  refine (EqIs2_is (s := ⟨tA, tn, tc, tL⟩) (t := ⟨tA', tn', tc', tL'⟩) H2.out _ (Ints.up HX.out.targets HW1.out) (Ints.up HY.out.targets HW1.out)).mono ?_
  rintro x9 w2 ⟨rfl, hb0⟩
  have HW2 := hide (HW1.out.trans (hb0.mono HW1.out.size))
  clear hb0
  refine hK.out _ _ ⟨HW2.out, hc.out _ HW2.out⟩ (fun hHeld => ?_)
  clear hK K
  try simp only [Act.put, List.setIfInBounds_toArray, List.set_cons_zero, List.set_cons_succ]
  refine takeY (i := 19) (d := some 24) (v := ?_) rfl rfl (by kernel_rfl) (by kernel_rfl) (by kernel_rfl) (fun _ _ _ h => h) (by rfl) ?_ hHeld ?_
  rotate_left
  · intro w9 hS9
    first | (go_simp; done) | (go_simp; with_reducible rfl)
  try simp only [Act.put, List.setIfInBounds_toArray, List.set_cons_zero, List.set_cons_succ]
  refine takeY (i := 20) (d := some 25) (v := ?_) rfl rfl (by kernel_rfl) (by kernel_rfl) (by kernel_rfl) (fun _ _ _ h => h) (by rfl) ?_ hHeld ?_
  rotate_left
  · intro w9 hS9
    first | (go_simp; done) | (go_simp; with_reducible rfl)
  try simp only [Act.put, List.setIfInBounds_toArray, List.set_cons_zero, List.set_cons_succ]
  refine takeY (i := 21) (d := some 26) (v := ?_) rfl rfl (by kernel_rfl) (by kernel_rfl) (by kernel_rfl) (fun _ _ _ h => h) (by rfl) ?_ hHeld ?_
  rotate_left
  · intro w9 hS9
    first | (go_simp; done) | (go_simp; with_reducible rfl)
  try simp only [Act.put, List.setIfInBounds_toArray, List.set_cons_zero, List.set_cons_succ]
  refine takeY (i := 22) (d := some 27) (v := ?_) rfl rfl (by kernel_rfl) (by kernel_rfl) (by kernel_rfl) (fun _ _ _ h => h) (by rfl) ?_ hHeld ?_
  rotate_left
  · intro w9 hS9
    obtain ⟨_, c0, d0, c1, d1, c2, d2, c3, d3, c4, d4, c5, d5⟩ := hS9
    first | (go_simp; done) | (go_simp; with_reducible rfl)
  try simp only [Act.put, List.setIfInBounds_toArray, List.set_cons_zero, List.set_cons_succ]
  refine takeY (i := 23) (d := some 28) (v := ?_) rfl rfl (by kernel_rfl) (by kernel_rfl) (by kernel_rfl) (fun _ _ _ h => h) (by rfl) ?_ hHeld ?_
  rotate_left
  · intro w9 hS9
    first | (go_simp; done) | (go_simp; with_reducible rfl)
  try simp only [Act.put, List.setIfInBounds_toArray, List.set_cons_zero, List.set_cons_succ]
  refine takeY (i := 24) (d := some 29) (v := ?_) rfl rfl (by kernel_rfl) (by kernel_rfl) (by kernel_rfl) (fun _ _ _ h => h) (by rfl) ?_ hHeld ?_
  rotate_left
  · intro w9 hS9
    obtain ⟨_, c0, d0, c1, d1, c2, d2, c3, d3, c4, d4, c5, d5⟩ := hS9
    first | (go_simp; done) | (go_simp; with_reducible rfl)
  try simp only [Act.put, List.setIfInBounds_toArray, List.set_cons_zero, List.set_cons_succ]
  refine wpAnyH_ready (rs := [25]) (by kernel_rfl) (by simp) ?_
  refine AllReadyH.cons rfl (fun K hK => ?_) AllReadyH.nil
  go_simp
  refine (EqualP_is H3.out _ (HX.out.pl.up HW2.out) (HY.out.pl.up HW2.out)).mono ?_
  rintro x9 w3 ⟨rfl, hb0⟩
  have HW3 := hide (HW2.out.trans (hb0.mono HW2.out.size))
  clear hb0
  refine hK.out _ _ ⟨HW3.out, hc.out _ HW3.out⟩ (fun hHeld => ?_)
  clear hK K
  try simp only [Act.put, List.setIfInBounds_toArray, List.set_cons_zero, List.set_cons_succ]
  refine takeY (i := 26) (d := some 31) (v := ?_) rfl rfl (by kernel_rfl) (by kernel_rfl) (by kernel_rfl) (fun _ _ _ h => h) (by rfl) ?_ hHeld ?_
  rotate_left
  · intro w9 hS9
    first | (go_simp; done) | (go_simp; with_reducible rfl)
  try simp only [Act.put, List.setIfInBounds_toArray, List.set_cons_zero, List.set_cons_succ]
  refine takeY (i := 27) (d := some 32) (v := ?_) rfl rfl (by kernel_rfl) (by kernel_rfl) (by kernel_rfl) (fun _ _ _ h => h) (by rfl) ?_ hHeld ?_
  rotate_left
  · intro w9 hS9
    first | (go_simp; done) | (go_simp; with_reducible rfl)
  try simp only [Act.put, List.setIfInBounds_toArray, List.set_cons_zero, List.set_cons_succ]
  refine takeY (i := 28) (d := some 33) (v := ?_) rfl rfl (by kernel_rfl) (by kernel_rfl) (by kernel_rfl) (fun _ _ _ h => h) (by rfl) ?_ hHeld ?_
  rotate_left
  · intro w9 hS9
    first | (go_simp; done) | (go_simp; with_reducible rfl)
  try simp only [Act.put, List.setIfInBounds_toArray, List.set_cons_zero, List.set_cons_succ]
  refine takeY (i := 29) (d := some 34) (v := ?_) rfl rfl (by kernel_rfl) (by kernel_rfl) (by kernel_rfl) (fun _ _ _ h => h) (by rfl) ?_ hHeld ?_
  rotate_left
  · intro w9 hS9
    obtain ⟨_, c0, d0, c1, d1, c2, d2, c3, d3, c4, d4, c5, d5⟩ := hS9
    first | (go_simp; done) | (go_simp; with_reducible rfl)
  try simp only [Act.put, List.setIfInBounds_toArray, List.set_cons_zero, List.set_cons_succ]
  refine takeY (i := 30) (d := some 35) (v := ?_) rfl rfl (by kernel_rfl) (by kernel_rfl) (by kernel_rfl) (fun _ _ _ h => h) (by rfl) ?_ hHeld ?_
  rotate_left
  · intro w9 hS9
    first | (go_simp; done) | (go_simp; with_reducible rfl)
  try simp only [Act.put, List.setIfInBounds_toArray, List.set_cons_zero, List.set_cons_succ]
  refine takeY (i := 31) (d := some 36) (v := ?_) rfl rfl (by kernel_rfl) (by kernel_rfl) (by kernel_rfl) (fun _ _ _ h => h) (by rfl) ?_ hHeld ?_
  rotate_left
  · intro w9 hS9
    first | (go_simp; done) | (go_simp; with_reducible rfl)
  try simp only [Act.put, List.setIfInBounds_toArray, List.set_cons_zero, List.set_cons_succ]
  refine takeY (i := 32) (d := some 37) (v := ?_) rfl rfl (by kernel_rfl) (by kernel_rfl) (by kernel_rfl) (fun _ _ _ h => h) (by rfl) ?_ hHeld ?_
  rotate_left
  · intro w9 hS9
    obtain ⟨_, c0, d0, c1, d1, c2, d2, c3, d3, c4, d4, c5, d5⟩ := hS9
    first | (go_simp; done) | (go_simp; with_reducible rfl)
  try simp only [Act.put, List.setIfInBounds_toArray, List.set_cons_zero, List.set_cons_succ]
  refine wpAnyH_ready (rs := [33]) (by kernel_rfl) (by simp) ?_
  refine AllReadyH.cons rfl (fun K hK => ?_) AllReadyH.nil
  go_simp
  refine (EqOps_is (s := ⟨gA, gn, gc, gL⟩) (t := ⟨gA', gn', gc', gL'⟩) H4.out _ (Ops.up HX.out.args HW3.out) (Ops.up HY.out.args HW3.out)).mono ?_
  rintro x9 w4 ⟨rfl, hb0⟩
  have HW4 := hide (HW3.out.trans (hb0.mono HW3.out.size))
  clear hb0
  refine hK.out _ _ ⟨HW4.out, hc.out _ HW4.out⟩ (fun hHeld => ?_)
  clear hK K
  try simp only [Act.put, List.setIfInBounds_toArray, List.set_cons_zero, List.set_cons_succ]
  refine takeY (i := 34) (d := some 39) (v := ?_) rfl rfl (by kernel_rfl) (by kernel_rfl) (by kernel_rfl) (fun _ _ _ h => h) (by rfl) ?_ hHeld ?_
  rotate_left
  · intro w9 hS9
    first | (go_simp; done) | (go_simp; with_reducible rfl)
  try simp only [Act.put, List.setIfInBounds_toArray, List.set_cons_zero, List.set_cons_succ]
  refine takeY (i := 35) (d := some 4) (v := ?_) rfl rfl (by kernel_rfl) (by kernel_rfl) (by kernel_rfl) (fun _ _ _ h => h) (by rfl) ?_ hHeld ?_
  rotate_left
  · intro w9 hS9
    first | (go_simp; done) | (go_simp; with_reducible rfl)
  try simp only [Act.put, List.setIfInBounds_toArray, List.set_cons_zero, List.set_cons_succ]
  refine wpAnyH_done (by kernel_rfl) ?_ _
  go_wp2
  go_ret
  exact ⟨rfl, HB.out.trans (HW4.out.mono HB.out.size)⟩

theorem EqTrm_any (x y : TmW) (w : World) (hx : OneTm w w.heap.size x) (hy : OneTm w w.heap.size y) :
    Calls Tryz.prog 75 #[aggTm x, aggTm y] w fun e w' => e = .returned (.bool (eqTrm x y)) ∧ Below w.heap.size w w' := by
  obtain ⟨k, ⟨tA, tn, tc, tL⟩, ⟨gA, gn, gc, gL⟩, ⟨l, A, n, c, ps⟩, nm⟩ := x
  obtain ⟨k', ⟨tA', tn', tc', tL'⟩, ⟨gA', gn', gc', gL'⟩, ⟨l', A', n', c', ps'⟩, nm'⟩ := y
  have hv : ∀ b, (k = k' ∧ nm = nm' ∧ eqIs2 ⟨tA, tn, tc, tL⟩ ⟨tA', tn', tc', tL'⟩ = true ∧ eqPl ⟨l, A, n, c, ps⟩ ⟨l', A', n', c', ps'⟩ = true ∧ eqOps ⟨gA, gn, gc, gL⟩ ⟨gA', gn', gc', gL'⟩ = true ↔ b = true) → eqTrm ⟨k, ⟨tA, tn, tc, tL⟩, ⟨gA, gn, gc, gL⟩, ⟨l, A, n, c, ps⟩, nm⟩ ⟨k', ⟨tA', tn', tc', tL'⟩, ⟨gA', gn', gc', gL'⟩, ⟨l', A', n', c', ps'⟩, nm'⟩ = b := fun b h => by rw [Bool.eq_iff_iff, ← h, eqTrm_iff]
  by_cases e0 : k = k'
  rotate_left
  · rw [hv false (by simp [e0])]
    exact eqTrm0 _ _ _ _ _ _ _ _ _ _ _ _ _ _ _ _ _ _ _ _ _ _ _ _ _ _ _ _ _ _ (by simpa using e0) w hx hy
  subst e0
  by_cases e1 : nm = nm'
  rotate_left
  · rw [hv false (by simp [e1])]
    exact eqTrm1 _ _ _ _ _ _ _ _ _ _ _ _ _ _ _ _ _ _ _ _ _ _ _ _ _ _ _ _ _ (str_ne e1) w hx hy
  subst e1
  cases e2 : eqIs2 ⟨tA, tn, tc, tL⟩ ⟨tA', tn', tc', tL'⟩
  · rw [hv false (by simp [e2])]
    exact eqTrm2 _ _ _ _ _ _ _ _ _ _ _ _ _ _ _ _ _ _ _ _ _ _ _ _ _ _ _ _ e2 w hx hy
  cases e3 : eqPl ⟨l, A, n, c, ps⟩ ⟨l', A', n', c', ps'⟩
  · rw [hv false (by simp [e3])]
    exact eqTrm3 _ _ _ _ _ _ _ _ _ _ _ _ _ _ _ _ _ _ _ _ _ _ _ _ _ _ _ _ e2 e3 w hx hy
  cases e4 : eqOps ⟨gA, gn, gc, gL⟩ ⟨gA', gn', gc', gL'⟩
  · rw [hv false (by simp [e4])]
    exact eqTrm4 _ _ _ _ _ _ _ _ _ _ _ _ _ _ _ _ _ _ _ _ _ _ _ _ _ _ _ _ e2 e3 e4 w hx hy
  rw [hv true (by simp [e2, e3, e4])]
  exact eqTrm5 _ _ _ _ _ _ _ _ _ _ _ _ _ _ _ _ _ _ _ _ _ _ _ _ _ _ _ _ e2 e3 e4 w hx hy
theorem EqTrm_is {x y : TmW} {v : Bool} (h : eqTrm x y = v) (w : World) (hx : OneTm w w.heap.size x) (hy : OneTm w w.heap.size y) :
    Calls Tryz.prog 75 #[aggTm x, aggTm y] w fun e w' => e = .returned (.bool v) ∧ Below w.heap.size w w' := h ▸ EqTrm_any x y w hx hy

end Go.Proofs.YtbdimnncobpfdaaGreat

/- The code's comparison of blocks. -/
set_option linter.unusedVariables false
namespace Go.Proofs.YtbdimnncobpfdaaGreat
open Go.RowKit Go.Shelf

theorem eqBk_iff {x y : BkW} : eqBk x y = true ↔ eqSts x.stmts y.stmts = true ∧ eqTrm x.term y.term = true := by
  rw [eqBk_v, decide_eq_true_iff, eqSts, eqL_iff, eqTrm, decide_eq_true_iff]
  obtain ⟨s, t⟩ := x
  obtain ⟨s', t'⟩ := y
  simp only [BkW.v, BkV.mk.injEq]
set_option maxHeartbeats 4000000 in
set_option maxRecDepth 100000 in
theorem eqBk0  (sA : Option Addr) (sn sc : Nat) (sL : List StW) (tk : Int) (tA : Option Addr) (tn tc : Nat) (tL : List Int) (gA : Option Addr) (gn gc : Nat) (gL : List OpW) (l : Int) (A : Option Addr) (n c : Nat) (ps : List Pr) (ty : ByteArray) (sA' : Option Addr) (sn' sc' : Nat) (sL' : List StW) (tk' : Int) (tA' : Option Addr) (tn' tc' : Nat) (tL' : List Int) (gA' : Option Addr) (gn' gc' : Nat) (gL' : List OpW) (l' : Int) (A' : Option Addr) (n' c' : Nat) (ps' : List Pr) (ty' : ByteArray) (h0 : eqSts ⟨sA, sn, sc, sL⟩ ⟨sA', sn', sc', sL'⟩ = false)
    (w : World) (hx : OneBk w w.heap.size ⟨⟨sA, sn, sc, sL⟩, ⟨tk, ⟨tA, tn, tc, tL⟩, ⟨gA, gn, gc, gL⟩, ⟨l, A, n, c, ps⟩, ty⟩⟩) (hy : OneBk w w.heap.size ⟨⟨sA', sn', sc', sL'⟩, ⟨tk', ⟨tA', tn', tc', tL'⟩, ⟨gA', gn', gc', gL'⟩, ⟨l', A', n', c', ps'⟩, ty'⟩⟩) :
    Calls Tryz.prog 34 #[aggBk ⟨⟨sA, sn, sc, sL⟩, ⟨tk, ⟨tA, tn, tc, tL⟩, ⟨gA, gn, gc, gL⟩, ⟨l, A, n, c, ps⟩, ty⟩⟩, aggBk ⟨⟨sA', sn', sc', sL'⟩, ⟨tk', ⟨tA', tn', tc', tL'⟩, ⟨gA', gn', gc', gL'⟩, ⟨l', A', n', c', ps'⟩, ty'⟩⟩] w fun e w' => e = .returned (.bool false) ∧ Below w.heap.size w w' := by
  have HB := hide (bx2_below w (cBk ⟨⟨sA, sn, sc, sL⟩, ⟨tk, ⟨tA, tn, tc, tL⟩, ⟨gA, gn, gc, gL⟩, ⟨l, A, n, c, ps⟩, ty⟩⟩) (cBk ⟨⟨sA', sn', sc', sL'⟩, ⟨tk', ⟨tA', tn', tc', tL'⟩, ⟨gA', gn', gc', gL'⟩, ⟨l', A', n', c', ps'⟩, ty'⟩⟩) 44)
  have HX := hide (hx.up HB.out)
  have HY := hide (hy.up HB.out)
  have hs := hide fun (w' : World) (h : Below (bx2 w (cBk ⟨⟨sA, sn, sc, sL⟩, ⟨tk, ⟨tA, tn, tc, tL⟩, ⟨gA, gn, gc, gL⟩, ⟨l, A, n, c, ps⟩, ty⟩⟩) (cBk ⟨⟨sA', sn', sc', sL'⟩, ⟨tk', ⟨tA', tn', tc', tL'⟩, ⟨gA', gn', gc', gL'⟩, ⟨l', A', n', c', ps'⟩, ty'⟩⟩) 44).heap.size (bx2 w (cBk ⟨⟨sA, sn, sc, sL⟩, ⟨tk, ⟨tA, tn, tc, tL⟩, ⟨gA, gn, gc, gL⟩, ⟨l, A, n, c, ps⟩, ty⟩⟩) (cBk ⟨⟨sA', sn', sc', sL'⟩, ⟨tk', ⟨tA', tn', tc', tL'⟩, ⟨gA', gn', gc', gL'⟩, ⟨l', A', n', c', ps'⟩, ty'⟩⟩) 44) w') => bx2_cells h
  have H0 := hide h0
  clear h0
  clear hx hy
  go_enter Tryz.func34, Tryz.ntmps34
  go_wp2_with fail
  refine (EqSts_is (s := ⟨sA, sn, sc, sL⟩) (t := ⟨sA', sn', sc', sL'⟩) H0.out _ (Sts.up HX.out.stmts (Below.refl _ _)) (Sts.up HY.out.stmts (Below.refl _ _))).mono ?_
  rintro e w1 ⟨rfl, hb⟩
  have HB1 := hide (show Below (bx2 w (cBk ⟨⟨sA, sn, sc, sL⟩, ⟨tk, ⟨tA, tn, tc, tL⟩, ⟨gA, gn, gc, gL⟩, ⟨l, A, n, c, ps⟩, ty⟩⟩) (cBk ⟨⟨sA', sn', sc', sL'⟩, ⟨tk', ⟨tA', tn', tc', tL'⟩, ⟨gA', gn', gc', gL'⟩, ⟨l', A', n', c', ps'⟩, ty'⟩⟩) 44).heap.size (bx2 w (cBk ⟨⟨sA, sn, sc, sL⟩, ⟨tk, ⟨tA, tn, tc, tL⟩, ⟨gA, gn, gc, gL⟩, ⟨l, A, n, c, ps⟩, ty⟩⟩) (cBk ⟨⟨sA', sn', sc', sL'⟩, ⟨tk', ⟨tA', tn', tc', tL'⟩, ⟨gA', gn', gc', gL'⟩, ⟨l', A', n', c', ps'⟩, ty'⟩⟩) 44) w1 from hb)
  clear hb
  obtain ⟨c0, d0⟩ := hs.out _ HB1.out 0 _ _ rfl rfl
  obtain ⟨c1, d1⟩ := hs.out _ HB1.out 1 _ _ rfl rfl
  obtain ⟨c2, d2⟩ := hs.out _ HB1.out 2 _ _ rfl rfl
  obtain ⟨c3, d3⟩ := hs.out _ HB1.out 3 _ _ rfl rfl
  obtain ⟨c4, d4⟩ := hs.out _ HB1.out 4 _ _ rfl rfl
  obtain ⟨c5, d5⟩ := hs.out _ HB1.out 5 _ _ rfl rfl
  obtain ⟨c6, d6⟩ := hs.out _ HB1.out 6 _ _ rfl rfl
  simp only [] at c0 d0 c1 d1 c2 d2 c3 d3 c4 d4 c5 d5 c6 d6
  go_wp2
  go_ret
  exact ⟨rfl, HB.out.trans (HB1.out.mono HB.out.size)⟩

set_option maxHeartbeats 4000000 in
set_option maxRecDepth 100000 in
theorem eqBk1  (sA : Option Addr) (sn sc : Nat) (sL : List StW) (tk : Int) (tA : Option Addr) (tn tc : Nat) (tL : List Int) (gA : Option Addr) (gn gc : Nat) (gL : List OpW) (l : Int) (A : Option Addr) (n c : Nat) (ps : List Pr) (ty : ByteArray) (sA' : Option Addr) (sn' sc' : Nat) (sL' : List StW) (tk' : Int) (tA' : Option Addr) (tn' tc' : Nat) (tL' : List Int) (gA' : Option Addr) (gn' gc' : Nat) (gL' : List OpW) (l' : Int) (A' : Option Addr) (n' c' : Nat) (ps' : List Pr) (ty' : ByteArray) (h0 : eqSts ⟨sA, sn, sc, sL⟩ ⟨sA', sn', sc', sL'⟩ = true) (h1 : eqTrm ⟨tk, ⟨tA, tn, tc, tL⟩, ⟨gA, gn, gc, gL⟩, ⟨l, A, n, c, ps⟩, ty⟩ ⟨tk', ⟨tA', tn', tc', tL'⟩, ⟨gA', gn', gc', gL'⟩, ⟨l', A', n', c', ps'⟩, ty'⟩ = false)
    (w : World) (hx : OneBk w w.heap.size ⟨⟨sA, sn, sc, sL⟩, ⟨tk, ⟨tA, tn, tc, tL⟩, ⟨gA, gn, gc, gL⟩, ⟨l, A, n, c, ps⟩, ty⟩⟩) (hy : OneBk w w.heap.size ⟨⟨sA', sn', sc', sL'⟩, ⟨tk', ⟨tA', tn', tc', tL'⟩, ⟨gA', gn', gc', gL'⟩, ⟨l', A', n', c', ps'⟩, ty'⟩⟩) :
    Calls Tryz.prog 34 #[aggBk ⟨⟨sA, sn, sc, sL⟩, ⟨tk, ⟨tA, tn, tc, tL⟩, ⟨gA, gn, gc, gL⟩, ⟨l, A, n, c, ps⟩, ty⟩⟩, aggBk ⟨⟨sA', sn', sc', sL'⟩, ⟨tk', ⟨tA', tn', tc', tL'⟩, ⟨gA', gn', gc', gL'⟩, ⟨l', A', n', c', ps'⟩, ty'⟩⟩] w fun e w' => e = .returned (.bool false) ∧ Below w.heap.size w w' := by
  have HB := hide (bx2_below w (cBk ⟨⟨sA, sn, sc, sL⟩, ⟨tk, ⟨tA, tn, tc, tL⟩, ⟨gA, gn, gc, gL⟩, ⟨l, A, n, c, ps⟩, ty⟩⟩) (cBk ⟨⟨sA', sn', sc', sL'⟩, ⟨tk', ⟨tA', tn', tc', tL'⟩, ⟨gA', gn', gc', gL'⟩, ⟨l', A', n', c', ps'⟩, ty'⟩⟩) 44)
  have HX := hide (hx.up HB.out)
  have HY := hide (hy.up HB.out)
  have hs := hide fun (w' : World) (h : Below (bx2 w (cBk ⟨⟨sA, sn, sc, sL⟩, ⟨tk, ⟨tA, tn, tc, tL⟩, ⟨gA, gn, gc, gL⟩, ⟨l, A, n, c, ps⟩, ty⟩⟩) (cBk ⟨⟨sA', sn', sc', sL'⟩, ⟨tk', ⟨tA', tn', tc', tL'⟩, ⟨gA', gn', gc', gL'⟩, ⟨l', A', n', c', ps'⟩, ty'⟩⟩) 44).heap.size (bx2 w (cBk ⟨⟨sA, sn, sc, sL⟩, ⟨tk, ⟨tA, tn, tc, tL⟩, ⟨gA, gn, gc, gL⟩, ⟨l, A, n, c, ps⟩, ty⟩⟩) (cBk ⟨⟨sA', sn', sc', sL'⟩, ⟨tk', ⟨tA', tn', tc', tL'⟩, ⟨gA', gn', gc', gL'⟩, ⟨l', A', n', c', ps'⟩, ty'⟩⟩) 44) w') => bx2_cells h
  have H0 := hide h0
  clear h0
  have H1 := hide h1
  clear h1
  clear hx hy
  go_enter Tryz.func34, Tryz.ntmps34
  go_wp2_with fail
  refine (EqSts_is (s := ⟨sA, sn, sc, sL⟩) (t := ⟨sA', sn', sc', sL'⟩) H0.out _ (Sts.up HX.out.stmts (Below.refl _ _)) (Sts.up HY.out.stmts (Below.refl _ _))).mono ?_
  rintro e w1 ⟨rfl, hb⟩
  have HB1 := hide (show Below (bx2 w (cBk ⟨⟨sA, sn, sc, sL⟩, ⟨tk, ⟨tA, tn, tc, tL⟩, ⟨gA, gn, gc, gL⟩, ⟨l, A, n, c, ps⟩, ty⟩⟩) (cBk ⟨⟨sA', sn', sc', sL'⟩, ⟨tk', ⟨tA', tn', tc', tL'⟩, ⟨gA', gn', gc', gL'⟩, ⟨l', A', n', c', ps'⟩, ty'⟩⟩) 44).heap.size (bx2 w (cBk ⟨⟨sA, sn, sc, sL⟩, ⟨tk, ⟨tA, tn, tc, tL⟩, ⟨gA, gn, gc, gL⟩, ⟨l, A, n, c, ps⟩, ty⟩⟩) (cBk ⟨⟨sA', sn', sc', sL'⟩, ⟨tk', ⟨tA', tn', tc', tL'⟩, ⟨gA', gn', gc', gL'⟩, ⟨l', A', n', c', ps'⟩, ty'⟩⟩) 44) w1 from hb)
  clear hb
  obtain ⟨c0, d0⟩ := hs.out _ HB1.out 0 _ _ rfl rfl
  obtain ⟨c1, d1⟩ := hs.out _ HB1.out 1 _ _ rfl rfl
  obtain ⟨c2, d2⟩ := hs.out _ HB1.out 2 _ _ rfl rfl
  obtain ⟨c3, d3⟩ := hs.out _ HB1.out 3 _ _ rfl rfl
  obtain ⟨c4, d4⟩ := hs.out _ HB1.out 4 _ _ rfl rfl
  obtain ⟨c5, d5⟩ := hs.out _ HB1.out 5 _ _ rfl rfl
  obtain ⟨c6, d6⟩ := hs.out _ HB1.out 6 _ _ rfl rfl
  simp only [] at c0 d0 c1 d1 c2 d2 c3 d3 c4 d4 c5 d5 c6 d6
  go_wp2_with fail
  refine (EqTrm_is (x := ⟨tk, ⟨tA, tn, tc, tL⟩, ⟨gA, gn, gc, gL⟩, ⟨l, A, n, c, ps⟩, ty⟩) (y := ⟨tk', ⟨tA', tn', tc', tL'⟩, ⟨gA', gn', gc', gL'⟩, ⟨l', A', n', c', ps'⟩, ty'⟩) H1.out _ (HX.out.term.up HB1.out) (HY.out.term.up HB1.out)).mono ?_
  rintro e w2 ⟨rfl, hb⟩
  have HB2 := hide (HB1.out.trans (hb.mono (Below.size HB1.out)))
  clear hb
  clear c0 d0 c1 d1 c2 d2 c3 d3 c4 d4 c5 d5 c6 d6
  obtain ⟨c0, d0⟩ := hs.out _ HB2.out 0 _ _ rfl rfl
  obtain ⟨c1, d1⟩ := hs.out _ HB2.out 1 _ _ rfl rfl
  obtain ⟨c2, d2⟩ := hs.out _ HB2.out 2 _ _ rfl rfl
  obtain ⟨c3, d3⟩ := hs.out _ HB2.out 3 _ _ rfl rfl
  obtain ⟨c4, d4⟩ := hs.out _ HB2.out 4 _ _ rfl rfl
  obtain ⟨c5, d5⟩ := hs.out _ HB2.out 5 _ _ rfl rfl
  obtain ⟨c6, d6⟩ := hs.out _ HB2.out 6 _ _ rfl rfl
  simp only [] at c0 d0 c1 d1 c2 d2 c3 d3 c4 d4 c5 d5 c6 d6
  go_wp2
  go_ret
  exact ⟨rfl, HB.out.trans (HB2.out.mono HB.out.size)⟩

set_option maxHeartbeats 4000000 in
set_option maxRecDepth 100000 in
theorem eqBk2  (sA : Option Addr) (sn sc : Nat) (sL : List StW) (tk : Int) (tA : Option Addr) (tn tc : Nat) (tL : List Int) (gA : Option Addr) (gn gc : Nat) (gL : List OpW) (l : Int) (A : Option Addr) (n c : Nat) (ps : List Pr) (ty : ByteArray) (sA' : Option Addr) (sn' sc' : Nat) (sL' : List StW) (tk' : Int) (tA' : Option Addr) (tn' tc' : Nat) (tL' : List Int) (gA' : Option Addr) (gn' gc' : Nat) (gL' : List OpW) (l' : Int) (A' : Option Addr) (n' c' : Nat) (ps' : List Pr) (ty' : ByteArray) (h0 : eqSts ⟨sA, sn, sc, sL⟩ ⟨sA', sn', sc', sL'⟩ = true) (h1 : eqTrm ⟨tk, ⟨tA, tn, tc, tL⟩, ⟨gA, gn, gc, gL⟩, ⟨l, A, n, c, ps⟩, ty⟩ ⟨tk', ⟨tA', tn', tc', tL'⟩, ⟨gA', gn', gc', gL'⟩, ⟨l', A', n', c', ps'⟩, ty'⟩ = true)
    (w : World) (hx : OneBk w w.heap.size ⟨⟨sA, sn, sc, sL⟩, ⟨tk, ⟨tA, tn, tc, tL⟩, ⟨gA, gn, gc, gL⟩, ⟨l, A, n, c, ps⟩, ty⟩⟩) (hy : OneBk w w.heap.size ⟨⟨sA', sn', sc', sL'⟩, ⟨tk', ⟨tA', tn', tc', tL'⟩, ⟨gA', gn', gc', gL'⟩, ⟨l', A', n', c', ps'⟩, ty'⟩⟩) :
    Calls Tryz.prog 34 #[aggBk ⟨⟨sA, sn, sc, sL⟩, ⟨tk, ⟨tA, tn, tc, tL⟩, ⟨gA, gn, gc, gL⟩, ⟨l, A, n, c, ps⟩, ty⟩⟩, aggBk ⟨⟨sA', sn', sc', sL'⟩, ⟨tk', ⟨tA', tn', tc', tL'⟩, ⟨gA', gn', gc', gL'⟩, ⟨l', A', n', c', ps'⟩, ty'⟩⟩] w fun e w' => e = .returned (.bool true) ∧ Below w.heap.size w w' := by
  have HB := hide (bx2_below w (cBk ⟨⟨sA, sn, sc, sL⟩, ⟨tk, ⟨tA, tn, tc, tL⟩, ⟨gA, gn, gc, gL⟩, ⟨l, A, n, c, ps⟩, ty⟩⟩) (cBk ⟨⟨sA', sn', sc', sL'⟩, ⟨tk', ⟨tA', tn', tc', tL'⟩, ⟨gA', gn', gc', gL'⟩, ⟨l', A', n', c', ps'⟩, ty'⟩⟩) 44)
  have HX := hide (hx.up HB.out)
  have HY := hide (hy.up HB.out)
  have hs := hide fun (w' : World) (h : Below (bx2 w (cBk ⟨⟨sA, sn, sc, sL⟩, ⟨tk, ⟨tA, tn, tc, tL⟩, ⟨gA, gn, gc, gL⟩, ⟨l, A, n, c, ps⟩, ty⟩⟩) (cBk ⟨⟨sA', sn', sc', sL'⟩, ⟨tk', ⟨tA', tn', tc', tL'⟩, ⟨gA', gn', gc', gL'⟩, ⟨l', A', n', c', ps'⟩, ty'⟩⟩) 44).heap.size (bx2 w (cBk ⟨⟨sA, sn, sc, sL⟩, ⟨tk, ⟨tA, tn, tc, tL⟩, ⟨gA, gn, gc, gL⟩, ⟨l, A, n, c, ps⟩, ty⟩⟩) (cBk ⟨⟨sA', sn', sc', sL'⟩, ⟨tk', ⟨tA', tn', tc', tL'⟩, ⟨gA', gn', gc', gL'⟩, ⟨l', A', n', c', ps'⟩, ty'⟩⟩) 44) w') => bx2_cells h
  have H0 := hide h0
  clear h0
  have H1 := hide h1
  clear h1
  clear hx hy
  go_enter Tryz.func34, Tryz.ntmps34
  go_wp2_with fail
  refine (EqSts_is (s := ⟨sA, sn, sc, sL⟩) (t := ⟨sA', sn', sc', sL'⟩) H0.out _ (Sts.up HX.out.stmts (Below.refl _ _)) (Sts.up HY.out.stmts (Below.refl _ _))).mono ?_
  rintro e w1 ⟨rfl, hb⟩
  have HB1 := hide (show Below (bx2 w (cBk ⟨⟨sA, sn, sc, sL⟩, ⟨tk, ⟨tA, tn, tc, tL⟩, ⟨gA, gn, gc, gL⟩, ⟨l, A, n, c, ps⟩, ty⟩⟩) (cBk ⟨⟨sA', sn', sc', sL'⟩, ⟨tk', ⟨tA', tn', tc', tL'⟩, ⟨gA', gn', gc', gL'⟩, ⟨l', A', n', c', ps'⟩, ty'⟩⟩) 44).heap.size (bx2 w (cBk ⟨⟨sA, sn, sc, sL⟩, ⟨tk, ⟨tA, tn, tc, tL⟩, ⟨gA, gn, gc, gL⟩, ⟨l, A, n, c, ps⟩, ty⟩⟩) (cBk ⟨⟨sA', sn', sc', sL'⟩, ⟨tk', ⟨tA', tn', tc', tL'⟩, ⟨gA', gn', gc', gL'⟩, ⟨l', A', n', c', ps'⟩, ty'⟩⟩) 44) w1 from hb)
  clear hb
  obtain ⟨c0, d0⟩ := hs.out _ HB1.out 0 _ _ rfl rfl
  obtain ⟨c1, d1⟩ := hs.out _ HB1.out 1 _ _ rfl rfl
  obtain ⟨c2, d2⟩ := hs.out _ HB1.out 2 _ _ rfl rfl
  obtain ⟨c3, d3⟩ := hs.out _ HB1.out 3 _ _ rfl rfl
  obtain ⟨c4, d4⟩ := hs.out _ HB1.out 4 _ _ rfl rfl
  obtain ⟨c5, d5⟩ := hs.out _ HB1.out 5 _ _ rfl rfl
  obtain ⟨c6, d6⟩ := hs.out _ HB1.out 6 _ _ rfl rfl
  simp only [] at c0 d0 c1 d1 c2 d2 c3 d3 c4 d4 c5 d5 c6 d6
  go_wp2_with fail
  refine (EqTrm_is (x := ⟨tk, ⟨tA, tn, tc, tL⟩, ⟨gA, gn, gc, gL⟩, ⟨l, A, n, c, ps⟩, ty⟩) (y := ⟨tk', ⟨tA', tn', tc', tL'⟩, ⟨gA', gn', gc', gL'⟩, ⟨l', A', n', c', ps'⟩, ty'⟩) H1.out _ (HX.out.term.up HB1.out) (HY.out.term.up HB1.out)).mono ?_
  rintro e w2 ⟨rfl, hb⟩
  have HB2 := hide (HB1.out.trans (hb.mono (Below.size HB1.out)))
  clear hb
  clear c0 d0 c1 d1 c2 d2 c3 d3 c4 d4 c5 d5 c6 d6
  obtain ⟨c0, d0⟩ := hs.out _ HB2.out 0 _ _ rfl rfl
  obtain ⟨c1, d1⟩ := hs.out _ HB2.out 1 _ _ rfl rfl
  obtain ⟨c2, d2⟩ := hs.out _ HB2.out 2 _ _ rfl rfl
  obtain ⟨c3, d3⟩ := hs.out _ HB2.out 3 _ _ rfl rfl
  obtain ⟨c4, d4⟩ := hs.out _ HB2.out 4 _ _ rfl rfl
  obtain ⟨c5, d5⟩ := hs.out _ HB2.out 5 _ _ rfl rfl
  obtain ⟨c6, d6⟩ := hs.out _ HB2.out 6 _ _ rfl rfl
  simp only [] at c0 d0 c1 d1 c2 d2 c3 d3 c4 d4 c5 d5 c6 d6
  go_wp2
  go_ret
  exact ⟨rfl, HB.out.trans (HB2.out.mono HB.out.size)⟩

theorem EqBk_any (x y : BkW) (w : World) (hx : OneBk w w.heap.size x) (hy : OneBk w w.heap.size y) :
    Calls Tryz.prog 34 #[aggBk x, aggBk y] w fun e w' => e = .returned (.bool (eqBk x y)) ∧ Below w.heap.size w w' := by
  obtain ⟨⟨sA, sn, sc, sL⟩, ⟨tk, ⟨tA, tn, tc, tL⟩, ⟨gA, gn, gc, gL⟩, ⟨l, A, n, c, ps⟩, ty⟩⟩ := x
  obtain ⟨⟨sA', sn', sc', sL'⟩, ⟨tk', ⟨tA', tn', tc', tL'⟩, ⟨gA', gn', gc', gL'⟩, ⟨l', A', n', c', ps'⟩, ty'⟩⟩ := y
  have hv : ∀ b, (eqSts ⟨sA, sn, sc, sL⟩ ⟨sA', sn', sc', sL'⟩ = true ∧ eqTrm ⟨tk, ⟨tA, tn, tc, tL⟩, ⟨gA, gn, gc, gL⟩, ⟨l, A, n, c, ps⟩, ty⟩ ⟨tk', ⟨tA', tn', tc', tL'⟩, ⟨gA', gn', gc', gL'⟩, ⟨l', A', n', c', ps'⟩, ty'⟩ = true ↔ b = true) → eqBk ⟨⟨sA, sn, sc, sL⟩, ⟨tk, ⟨tA, tn, tc, tL⟩, ⟨gA, gn, gc, gL⟩, ⟨l, A, n, c, ps⟩, ty⟩⟩ ⟨⟨sA', sn', sc', sL'⟩, ⟨tk', ⟨tA', tn', tc', tL'⟩, ⟨gA', gn', gc', gL'⟩, ⟨l', A', n', c', ps'⟩, ty'⟩⟩ = b := fun b h => by rw [Bool.eq_iff_iff, ← h, eqBk_iff]
  cases e0 : eqSts ⟨sA, sn, sc, sL⟩ ⟨sA', sn', sc', sL'⟩
  · rw [hv false (by simp [e0])]
    exact eqBk0 _ _ _ _ _ _ _ _ _ _ _ _ _ _ _ _ _ _ _ _ _ _ _ _ _ _ _ _ _ _ _ _ _ _ _ _ _ _ e0 w hx hy
  cases e1 : eqTrm ⟨tk, ⟨tA, tn, tc, tL⟩, ⟨gA, gn, gc, gL⟩, ⟨l, A, n, c, ps⟩, ty⟩ ⟨tk', ⟨tA', tn', tc', tL'⟩, ⟨gA', gn', gc', gL'⟩, ⟨l', A', n', c', ps'⟩, ty'⟩
  · rw [hv false (by simp [e1])]
    exact eqBk1 _ _ _ _ _ _ _ _ _ _ _ _ _ _ _ _ _ _ _ _ _ _ _ _ _ _ _ _ _ _ _ _ _ _ _ _ _ _ e0 e1 w hx hy
  rw [hv true (by simp [e0, e1])]
  exact eqBk2 _ _ _ _ _ _ _ _ _ _ _ _ _ _ _ _ _ _ _ _ _ _ _ _ _ _ _ _ _ _ _ _ _ _ _ _ _ _ e0 e1 w hx hy
theorem EqBk_is {x y : BkW} {v : Bool} (h : eqBk x y = v) (w : World) (hx : OneBk w w.heap.size x) (hy : OneBk w w.heap.size y) :
    Calls Tryz.prog 34 #[aggBk x, aggBk y] w fun e w' => e = .returned (.bool v) ∧ Below w.heap.size w w' := h ▸ EqBk_any x y w hx hy

end Go.Proofs.YtbdimnncobpfdaaGreat
