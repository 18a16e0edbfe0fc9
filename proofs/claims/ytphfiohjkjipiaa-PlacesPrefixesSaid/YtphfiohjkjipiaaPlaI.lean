/- The iterator along the places on the way to a place. -/
import Derived.Test.YtphfiohjkjipiaaPlaT
import Derived.Test.YtphfiohjkjipiaaKeep
import Derived.RangeFuncBox
import Derived.RangeFuncLeaves
import Derived.Shelf.Abstract
import Derived.WalkKit
import Derived.OwnWalkIn
import Derived.TacticsInMore
import Derived.LoopNIn
import Derived.LoopIn
import Derived.Sort.QuietIn
import Derived.Stop.RegionWithIn
set_option linter.unusedVariables false
namespace Go.Proofs.Ytphfiohjkjipiaa
open Go.RowKit Go.Shelf
attribute [local go_sem] Oper.semAt_some

/-! ### what a round keeps: nothing below n₀ turns, and no block of certain types but the box X -/
structure KeepTX (n₀ : Nat) (Ts : List TypeId) (X : Nat) (W W' : World) : Prop where
  low : Below n₀ W W'
  cells : ∀ (t : TypeId) (B : Nat) (cs : Array Value) (fr : Nat × Nat), t ∈ Ts → B ≠ X → W.heap[B]? = some (.cells cs t fr) → W'.heap[B]? = some (.cells cs t fr)
section
variable {n₀ X : Nat} {Ts : List TypeId} {W W' W'' : World}
theorem KeepTX.refl (n₀ : Nat) (Ts : List TypeId) (X : Nat) (W : World) : KeepTX n₀ Ts X W W := ⟨Below.refl _ _, fun _ _ _ _ _ _ h => h⟩
theorem KeepTX.trans (h : KeepTX n₀ Ts X W W') (k : KeepTX n₀ Ts X W' W'') : KeepTX n₀ Ts X W W'' := ⟨h.low.trans k.low, fun t B cs fr ht hX hB => k.cells t B cs fr ht hX (h.cells t B cs fr ht hX hB)⟩
theorem KeepTX.of_t (h : KeepT n₀ Ts W W') : KeepTX n₀ Ts X W W' := ⟨h.1, fun t B cs fr ht _ hB => h.2 t B cs fr ht hB⟩
theorem KeepTX.of_below (h : Below W.heap.size W W') (hn : n₀ ≤ W.heap.size) : KeepTX n₀ Ts X W W' := .of_t (.of_below h hn)
/-- a store into the box X -/
theorem KeepTX.boxX {t : TypeId} {v : Value} (h : Boxed W X t v) (hX : n₀ ≤ X) (v' : Value) : KeepTX n₀ Ts X W (W.setCell ⟨X, 0, none⟩ v') :=
  ⟨(Below.refl n₀ W).grown (grownBy_setCell' W X v') (Nat.le_trans hX (Nat.le_of_lt h.lt)) (fun k e => by cases e; exact hX), fun t B cs fr ht hBX hB => ((grownBy_setCell' W X v').block B (Array.getElem?_eq_some_iff.1 hB).1 (fun e => hBX (by injection e))).trans hB⟩
theorem keepTX_t {A B C : World} (h : KeepTX n₀ Ts X A B) (k : KeepTX n₀ Ts X B C) : KeepTX n₀ Ts X A C := h.trans k
theorem keepTX_b {w : World} (hn : n₀ ≤ w.heap.size) (W : World) (l : Nat) (o o' : Obj) (hl : w.heap.size ≤ l) (h : W.heap[l]? = some o) (hc : o.isCells = false) (hw : o.isWalk = false) : KeepTX n₀ Ts X W (W.putObj l o') := .of_t (keepT_b hn W l o o' hl h hc hw)
end
theorem abides_below8 {β : Type} {B : Nat} {J : β → World → Prop} (h : AbidesFrom B J) {s : β} {W W' : World} (hs : J s W) (hb : Below W.heap.size W W') : J s W' :=
  h s W W' none hs (grown_of_below hb) (fun r e => by cases e)

/-- the iterator's own blocks -/
def plTs : List TypeId := [30, 31, 24, 46]
/-- what is yielded: how many projections are done -/
abbrev StX (T : List Ty) (t : Int) (ps : List Pr) := { m : Nat // Stp T t ps m }
def penc (x : PlW) (T : List Ty) (t : Int) (m : StX T t x.ps) : Array Value := #[.agg #[.int .i64 x.l, .slice x.A m.1 x.c], .int .i64 (tyA T t x.ps m.1)]
/-- all that is yielded -/
def AllY (T : List Ty) (t : Int) (ps : List Pr) (ys : List (StX T t ps)) : Prop := ∃ m, Stp T t ps m ∧ ys.map (·.1) = List.range (m + 1) ∧ (m = ps.length ∨ ∃ p, ps[m]? = some p ∧ (stepT (tyGet T (tyA T t ps m)) p).2 ≠ 0)
theorem st_snoc {T : List Ty} {t : Int} {ps : List Pr} {pre : List (StX T t ps)} {m : Nat} (h : pre.map (·.1) = List.range m) (hm : Stp T t ps m) : (pre ++ [(⟨m, hm⟩ : StX T t ps)]).map (·.1) = List.range (m + 1) := by
  rw [List.map_append, h, List.range_succ]; rfl
theorem st_len {T : List Ty} {t : Int} {ps : List Pr} {pre : List (StX T t ps)} {m : Nat} (h : pre.map (·.1) = List.range m) : pre.length = m := by
  have := congrArg List.length h
  simpa using this

/-- whatever has come -/
def AnyP {β : Type} (_ : List β) : Prop := True
/-- a round is over: it goes on or not -/
def AltY {β : Type} (J Jx : List β → World → Prop) (Kp : World → World → Prop) (pre : List β) (W1 : World) (e : Ending) (W' : World) : Prop := ∃ b : Bool, e = .returned (.bool b) ∧ (b = true → J pre W' ∧ Kp W1 W') ∧ (b = false → Jx pre W')
theorem altY_of {β : Type} {J Jx : List β → World → Prop} {Kp : World → World → Prop} {pre : List β} {W1 : World} (e : Ending) (W' : World) (h : (e = .returned (.bool true) ∧ J pre W' ∧ Kp W1 W') ∨ (e = .returned (.bool false) ∧ Jx pre W')) : AltY J Jx Kp pre W1 e W' := by
  rcases h with ⟨rfl, h⟩ | ⟨rfl, h⟩
  · exact ⟨true, rfl, fun _ => h, (fun e => by cases e)⟩
  · exact ⟨false, rfl, (fun e => by cases e), fun _ => h⟩

theorem along_in (n : Nat) (At Al : Option Addr) (nt ct nl cl : Nat) (x : PlW) (w : World) :
    CallsIn Fence.wide n Try.prog 30 #[.slice At nt ct, .slice Al nl cl, aggPl x] w fun e w' => e = .returned (.func (.func 39) #[] #[.pointer (some ⟨w.heap.size + 2, 0, none⟩), .pointer (some ⟨w.heap.size + 1, 0, none⟩), .pointer (some ⟨w.heap.size, 0, none⟩)]) ∧
      w' = ((w.alloc (.cells #[.slice At nt ct] 30)).alloc (.cells #[.slice Al nl cl] 31)).alloc (.cells #[.int .i64 x.l, .slice x.A x.n x.c] 24) := by
  obtain ⟨l, A, m, c, ps⟩ := x
  refine callsIn_of_wp Try.func30 rfl trivial ?_ rfl
  simp only [Try.ntmps30, List.size_toArray, List.length_cons, List.length_nil, Nat.reduceAdd, Nat.reduceSub, Array.replicate_succ, Array.replicate_zero, List.push_toArray, List.append_toArray, List.nil_append, List.cons_append]
  gi_wp2
  go_ret
  exact ⟨rfl, rfl⟩

set_option maxRecDepth 100000 in
set_option maxHeartbeats 4000000 in
theorem along1_in (n : Nat) (hn : 1 ≤ n) (l Bt Bl Bp X n₀ : Nat) (At Al : Option Addr) (nt ct nl cl : Nat) (L : List TyW) (LL : List LcW) (x : PlW) (k : Nat) (lc : LcW) (r : Int)
    (hT : TyOk (tys L) r) (hnt : nt ≤ maxLen) (hnl : nl ≤ maxLen) (hxn : x.n ≤ x.c) (hxc : x.c ≤ maxLen) (hk : x.l = (k : Int)) (hlc : LL[k]? = some lc) (ht0 : 0 ≤ lc.ty) (ht1 : lc.ty < (L.length : Int))
    (J Jx : List (StX (tys L) lc.ty x.ps) → World → Prop) (B0 : Nat) (hJ : AbidesFrom B0 J) (hJx : AbidesFrom B0 Jx)
    (hY : ∀ pre y W, J pre W → pre.length < x.ps.length + 1 → YieldAt Fence.wide (n - 1) Try.prog l (penc x (tys L) lc.ty y) W fun e W' =>
      (e = .returned (.bool true) ∧ J (pre ++ [y]) W' ∧ KeepTX n₀ plTs X W W') ∨ (e = .returned (.bool false) ∧ Jx (pre ++ [y]) W'))
    (W : World) (hBt : Boxed W Bt 30 (.slice At nt ct)) (hBl : Boxed W Bl 31 (.slice Al nl cl)) (hBp : W.heap[Bp]? = some (.cells #[.int .i64 x.l, .slice x.A x.n x.c] 24 (0, 0)))
    (hXt : Bt ≠ X) (hXl : Bl ≠ X) (hXp : Bp ≠ X) (hXW : X < W.heap.size)
    (hA : Typs W n₀ At nt L) (hL : Locs W n₀ Al nl LL) (hP : Prs W n₀ x.A x.n x.ps) (hn0 : n₀ ≤ W.heap.size) (h0 : J [] W) :
    CallsIn Fence.wide n Try.prog 39 #[.func (.yield l) #[] #[], .pointer (some ⟨Bp, 0, none⟩), .pointer (some ⟨Bl, 0, none⟩), .pointer (some ⟨Bt, 0, none⟩)] W fun e W' => (∃ v, e = .returned v) ∧
      ((∃ ys, AllY (tys L) lc.ty x.ps ys ∧ J ys W') ∨ (∃ pre, AnyP pre ∧ Jx pre W')) := by
  have HJ := hide fun (pre : List (StX (tys L) lc.ty x.ps)) (W W' : World) (h : J pre W) (hb : Below W.heap.size W W') => abides_below8 hJ h hb
  have HPR := hide fun (i : Nat) (u : TyW) (hu : L[i]? = some u) (p : Pr) (w : World) (h : Typs w w.heap.size At nt L) => Project_any (c := ct) hu p w h hnt
  have HYY := hide hY
  have HTO := hide hT
  have hxl : x.ps.length = x.n := hP.len
  have hll := (List.getElem?_eq_some_iff.1 hlc).1
  have hnll := hL.len
  have HIN := hide (show tyIn (k : Int) (nl : Int) = true from tyIn_iff.2 ⟨by omega, by omega⟩)
  obtain ⟨bl, ol, rfl, hbl, q0, q1⟩ := hL.at_ hlc
  have c0 : W.cell? ⟨Bp, 0, none⟩ = some (.int .i64 x.l) := cell_of_heap hBp 0
  have c1 : W.cell? ⟨Bp, 1, none⟩ = some (.slice x.A x.n x.c) := cell_of_heap hBp 1
  have cl0 := hBl.cell
  have HRES := hide fun (m : Nat) (h : Stp (tys L) lc.ty x.ps m) => h.lt hT ht0 (by rw [tys_len]; exact ht1)
  obtain ⟨lx, Ax, nx, cx, ps⟩ := x
  simp only [] at hk hxn hxc hxl hBp hP c0 c1
  subst hk
  have hkl : (k : Int) < (nl : Int) := by omega
  have HJW := hide (HJ.out [] W W.drew h0 (Below.refl _ _).drew)
  obtain ⟨lnm, lty⟩ := lc
  unfold maxLen at hnt hnl hxc
  clear hJ hY hT
  refine callsIn_of_wp Try.func39 rfl trivial ?_ rfl
  simp only [Try.ntmps39, List.size_toArray, List.length_cons, List.length_nil, Nat.reduceAdd, Nat.reduceSub, Array.replicate_succ, Array.replicate_zero, List.push_toArray, List.append_toArray, List.nil_append, List.cons_append]
  gi_wp2_with (refine ⟨trivial, ?_⟩; gi_at_call 29; refine (callsIn_wide.2 (Within_is HIN.out _)).mono ?_; rintro e w1 ⟨rfl, rfl⟩)
  have HW0 := hide (KeepTX.refl n₀ plTs X W)
  gi_loopw [5, 25] (fun p q wr => ∃ (pre : List (StX (tys L) lty ps)) (m : Nat), p = .int .i64 (tyA (tys L) lty ps m) ∧ q = .int .i64 (m : Int) ∧ Hid (pre.map (·.1) = List.range m) ∧ Hid (Stp (tys L) lty ps m) ∧ m ≤ nx ∧ J pre wr ∧ KeepTX n₀ plTs X W wr ∧ n₀ ≤ wr.heap.size)
    (fun _ q _ => nx - (intOf q).toNat)
  case atStart =>
    exact ⟨[], 0, rfl, rfl, rfl, Stp.zero _ _ _, Nat.zero_le _, h0, HW0.out, hn0⟩
  case round =>
    obtain ⟨pre, m, rfl, rfl, HP0, HS, hm, hJs, hK, hnw⟩ := hrel
    have hB1 : wr.heap[Bt]? = some (.cells #[.slice At nt ct] 30 (0, 0)) := hK.cells _ _ _ _ (by simp [plTs]) hXt hBt
    have hB3 : wr.heap[Bp]? = some (.cells #[.int .i64 (k : Int), .slice Ax nx cx] 24 (0, 0)) := hK.cells _ _ _ _ (by simp [plTs]) hXp hBp
    have hXwr : X < wr.heap.size := Nat.lt_of_lt_of_le hXW (hK.low.size)
    have HK := hide hK
    have HAw := hide (hA.below hK.low)
    have HPw := hide (hP.below hK.low)
    clear hK
    by_cases hlt : m < nx
    · have hlt' : (m : Int) < (nx : Int) := by omega
      obtain ⟨p, hp⟩ : ∃ p, ps[m]? = some p := ⟨_, List.getElem?_eq_getElem (by omega)⟩
      obtain ⟨b, o, rfl, hbB, hi, d0, d1⟩ := HPw.out.at_ hp
      obtain ⟨pk, pf⟩ := p
      simp only [] at d0 d1
      have HB2 := hide ((Below.refl wr.heap.size wr).alloc (Nat.le_refl _) (.cells #[.int .i64 pk, .int .i64 pf] 46))
      have e0 : ((wr.alloc (.cells #[.int .i64 pk, .int .i64 pf] 46)).drew).cell? ⟨Bp, 0, none⟩ = some (.int .i64 (k : Int)) := cell_of_heap ((HB2.out.drew.block Bp (Array.getElem?_eq_some_iff.1 hB3).1).trans hB3) 0
      have e1 : ((wr.alloc (.cells #[.int .i64 pk, .int .i64 pf] 46)).drew).cell? ⟨Bp, 1, none⟩ = some (.slice (some ⟨b, o, none⟩) nx cx) := cell_of_heap ((HB2.out.drew.block Bp (Array.getElem?_eq_some_iff.1 hB3).1).trans hB3) 1
      have hJ2 := HJ.out _ _ _ hJs HB2.out.drew
      have HYm := HYY.out pre ⟨m, HS.out⟩ _ hJ2 (by have := st_len HP0.out; omega)
      have HP1 := hide (st_snoc HP0.out HS.out)
      simp only [penc] at HYm
      have hmc : m ≤ cx := by omega
      clear hJ2 hi
      obtain ⟨fn, tmps, assign, body, hy, hR⟩ := HYm
      have hR2 := hR.mono altY_of
      have HPP := hide hp
      clear hR hp
      gi_wp2
      gi_region_with (first | (refine hR2.mono ?_; rintro e w3 ⟨bb, rfl, hgo, hno⟩))
      all_goals
        clear hR2 hy
        have HGO := hide hgo
        have HNO := hide hno
        clear hgo hno
        cases bb
        · gi_wp2
          refine bodyPost_ret (results_none rfl _ _ _) rfl ?_
          exact ⟨⟨_, rfl⟩, .inr ⟨_, True.intro, HNO.out (by trivial)⟩⟩
        · have hk3 := (HGO.out (by trivial)).2
          have HJ3 := hide (HGO.out (by trivial)).1
          have HK3 := hide (HK.out.trans ((KeepTX.of_below HB2.out.drew hnw).trans hk3))
          have hw3 : wr.heap.size + 1 ≤ w3.heap.size := by
            have := hk3.low.size
            simpa using this
          have hB6 : w3.heap[wr.heap.size]? = some (.cells #[.int .i64 pk, .int .i64 pf] 46 (0, 0)) := hk3.cells _ _ _ _ (by simp [plTs]) (by omega) (heap_alloc_new wr _)
          have hB1' : w3.heap[Bt]? = some (.cells #[.slice At nt ct] 30 (0, 0)) := HK3.out.cells _ _ _ _ (by simp [plTs]) hXt hBt
          have x0 : w3.cell? ⟨wr.heap.size, 0, none⟩ = some (.int .i64 pk) := cell_of_heap hB6 0
          have x1 : w3.cell? ⟨wr.heap.size, 1, none⟩ = some (.int .i64 pf) := cell_of_heap hB6 1
          have t0 : w3.cell? ⟨Bt, 0, none⟩ = some (.slice At nt ct) := cell_of_heap hB1' 0
          obtain ⟨i, u, hti, hu⟩ := HRES.out m HS.out
          obtain ⟨y, hy, hyt⟩ := tys_back hu
          obtain ⟨g1, g2⟩ := erA_up (T := tys L) (t := lty) HPP.out HS.out.ok
          have HERR := hide fun (he : (stepT (tyGet (tys L) (tyA (tys L) lty ps m)) (pk, pf)).2 ≠ 0) => (show AllY (tys L) lty ps _ from ⟨m, HS.out, HP1.out, .inr ⟨_, HPP.out, he⟩⟩)
          have hgy : tyGet (tys L) (tyA (tys L) lty ps m) = y.t := by rw [hti, hyt]; exact tyGet_at hu
          rw [hgy] at g1 g2 HERR
          have HCP := hide (show Calls Try.prog 31 #[.slice At nt ct, .int .i64 (tyA (tys L) lty ps m), .agg #[.int .i64 pk, .int .i64 pf]] w3 fun e w' => e = .returned (.tuple #[.int .i64 (tyA (tys L) lty ps (m + 1)), .int .i64 (stepT y.t (pk, pf)).2]) ∧ Below w3.heap.size w3 w' by
            rw [hti, g1]
            exact HPR.out i y hy (pk, pf) w3 ((hA.below HK3.out.low).more (Nat.le_trans hn0 HK3.out.low.size)))
          obtain ⟨ev, hev⟩ : ∃ ev, (stepT y.t (pk, pf)).2 = ev := ⟨_, rfl⟩
          rw [hev] at HCP g2 HERR
          have HG2 := hide g2
          clear hk3 HGO HNO hB6 hB1' hti hu hy hyt g1 g2 hgy hev
          have hn3 : n₀ ≤ w3.heap.size := by omega
          by_cases hev0 : ev = 0
          · subst hev0
            have HS4 : Hid (Stp (tys L) lty ps (m + 1)) := (show Stp _ _ _ _ from ⟨by omega, HG2.out⟩)
            clear HERR
            gi_wp2_with (refine ⟨trivial, ?_⟩; gi_at_call 31; refine (callsIn_wide.2 HCP.out).mono ?_; rintro e w4 ⟨rfl, hb4⟩)
            have HJ4 := hide (HJ.out _ _ _ HJ3.out hb4)
            have HK4 := hide (HK3.out.trans (KeepTX.of_below hb4 hn3))
            have hn4 := Nat.le_trans hn3 hb4.size
            exact ⟨⟨_, m + 1, rfl, by go_num, HP1, HS4, by omega, HJ4.out, HK4.out, hn4⟩, by simp [intOf]; omega⟩
          · have tev : (ev != 0) = true := by rw [bne_iff_ne]; exact hev0
            have HE := hide (HERR.out hev0)
            clear hev0 HERR
            gi_wp2_with (refine ⟨trivial, ?_⟩; gi_at_call 31; refine (callsIn_wide.2 HCP.out).mono ?_; rintro e w4 ⟨rfl, hb4⟩)
            refine bodyPost_ret (results_none rfl _ _ _) rfl ?_
            exact ⟨⟨_, rfl⟩, .inl ⟨_, HE.out, HJ.out _ _ _ HJ3.out hb4⟩⟩
    · obtain rfl : m = nx := by omega
      have e0 : wr.cell? ⟨Bp, 0, none⟩ = some (.int .i64 (k : Int)) := cell_of_heap hB3 0
      have e1 : wr.cell? ⟨Bp, 1, none⟩ = some (.slice Ax m cx) := cell_of_heap hB3 1
      have HYm := HYY.out pre ⟨m, HS.out⟩ _ hJs (by have := st_len HP0.out; omega)
      have HP1 := hide (st_snoc HP0.out HS.out)
      simp only [penc] at HYm
      obtain ⟨fn, tmps, assign, body, hy, hR⟩ := HYm
      gi_wp2
      refine hR.mono ?_
      rintro e w3 (⟨rfl, hJ3, _⟩ | ⟨rfl, hJ3⟩)
      · gi_wp2
        go_end0
        exact ⟨⟨_, rfl⟩, .inl ⟨_, ⟨m, HS.out, HP1.out, .inl hxl.symm⟩, hJ3⟩⟩
      · gi_wp2
        go_end0
        exact ⟨⟨_, rfl⟩, .inr ⟨_, True.intro, hJ3⟩⟩

/-- where the places along a place lie, and what they say: a place with a local of a valid type -/
structure Way8 (At Al : Option Addr) (nt nl : Nat) (L : List TyW) (LL : List LcW) (x : PlW) (k : Nat) (lc : LcW) (r : Int) : Prop where
  ok : TyOk (tys L) r
  nt : nt ≤ maxLen
  nl : nl ≤ maxLen
  nc : x.n ≤ x.c
  cm : x.c ≤ maxLen
  l : x.l = (k : Int)
  at_ : LL[k]? = some lc
  t0 : 0 ≤ lc.ty
  t1 : lc.ty < (L.length : Int)

theorem along_stops (n : Nat) (hn : 1 ≤ n) (Bt Bl Bp X n₀ : Nat) (At Al : Option Addr) (nt ct nl cl : Nat) (L : List TyW) (LL : List LcW) (x : PlW) (k : Nat) (lc : LcW) (r : Int) (h8 : Way8 At Al nt nl L LL x k lc r)
    (w : World) (hBt : Boxed w Bt 30 (.slice At nt ct)) (hBl : Boxed w Bl 31 (.slice Al nl cl)) (hBp : w.heap[Bp]? = some (.cells #[.int .i64 x.l, .slice x.A x.n x.c] 24 (0, 0)))
    (hXt : Bt ≠ X) (hXl : Bl ≠ X) (hXp : Bp ≠ X) (hXW : X < w.heap.size)
    (hA : Typs w n₀ At nt L) (hL : Locs w n₀ Al nl LL) (hP : Prs w n₀ x.A x.n x.ps) (hn0 : n₀ ≤ w.heap.size) :
    SeqStopsK Fence.wide n Try.prog 39 #[.pointer (some ⟨Bp, 0, none⟩), .pointer (some ⟨Bl, 0, none⟩), .pointer (some ⟨Bt, 0, none⟩)] (penc x (tys L) lc.ty) (KeepTX n₀ plTs X) (AllY (tys L) lc.ty x.ps) AnyP (x.ps.length + 1) w := fun l J Jx W hW hJ hJx hY h0 =>
  along1_in n hn l Bt Bl Bp X n₀ At Al nt ct nl cl L LL x k lc r h8.ok h8.nt h8.nl h8.nc h8.cm h8.l h8.at_ h8.t0 h8.t1 J Jx W.heap.size hJ hJx hY W ((hW.block Bt hBt.lt).trans hBt) ((hW.block Bl hBl.lt).trans hBl) ((hW.block Bp (Array.getElem?_eq_some_iff.1 hBp).1).trans hBp) hXt hXl hXp (Nat.lt_of_lt_of_le hXW hW.size) (hA.below (hW.mono hn0)) (hL.below (hW.mono hn0)) (hP.below (hW.mono hn0)) (Nat.le_trans hn0 hW.size) h0
end Go.Proofs.Ytphfiohjkjipiaa
