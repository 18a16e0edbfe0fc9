/- Part 37 of the contracts and their mathematics. -/
import Derived.Test.YtfgacmgjpikgaaaGreatDoorQ35
set_option linter.unusedVariables false
set_option linter.unusedSimpArgs false
namespace Go.Proofs.YtfgacmgjpikgaaaGreatDoor
open Go.RowKit
theorem stErr_asg {E : Env} {s : StV} (hk : s.kind = 0) (hl : s.loc = 0) : stErr E s = asgV E s.pl s.rv := by
 unfold stErr asgV
 rw [if_pos hk, if_neg (by omega)]
set_option maxHeartbeats 8000000 in
set_option maxRecDepth 100000 in
theorem cst_is {K : CkW} {x : StW} {v : Int} {w : World} (h : Ck K w) (hx : OneSt w K.B x) (hv : stErr K.E x.v = v) :
  Calls Tryz.prog 38 #[K.ptr, aggSt x] w fun e w' => e = .returned (.int .i64 v) ∧ Wy K w w' := by
 obtain ⟨k, ⟨l, pA, pn, pc, ps⟩, ⟨rk, op, rg, mu, ⟨rl, qA, qn, qc, qs⟩, ⟨gA, gn, gc, gL⟩⟩, lo⟩ := x
 have H0 := hide h
 have hll : K.x.locals.L.length = K.x.locals.n := h.one.locals.len
 have hlm : K.x.locals.n ≤ maxLen := h.one.locals.nm
 unfold maxLen at hlm
 have hE : K.E.lc.length = K.x.locals.n := by rw [← hll]; exact List.length_map _
 by_cases h0 : k = 0
 case pos =>
  subst h0
  by_cases hlo : lo = 0
  case neg =>
   have tl : (lo != 0) = true := by simp [hlo]
   obtain rfl : v = 2 := by
    rw [← hv]
    simp [stErr, StW.v, hlo]
   clear hv
   have HB := hide ((Below.refl w.heap.size w).alloc (Nat.le_refl _) (.cells #[.int .i64 (0), .int .i64 l, .slice pA pn pc, .int .i64 rk, .int .i64 op, .int .i64 rg, .bool mu, .int .i64 rl, .slice qA qn qc, .slice gA gn gc, .int .i64 lo] 46))
   have HK := hide (H0.out.up HB.out)
   have HX := hide (hx.below (HB.out.mono H0.out.bs))
   have hcx := hide fun (w' : World) (y : Wy K (w.alloc (.cells #[.int .i64 (0), .int .i64 l, .slice pA pn pc, .int .i64 rk, .int .i64 op, .int .i64 rg, .bool mu, .int .i64 rl, .slice qA qn qc, .slice gA gn gc, .int .i64 lo] 46)) w') => Wy.box (cs := [.int .i64 (0), .int .i64 l, .slice pA pn pc, .int .i64 rk, .int .i64 op, .int .i64 rg, .bool mu, .int .i64 rl, .slice qA qn qc, .slice gA gn gc, .int .i64 lo]) (T := 46) H0.out y
   clear h hx hll hlm hE hlo
   go_enter Tryz.func38, Tryz.ntmps38
   have HW0 := hide (Wy.refl HK.out)
   go_wp2
   go_ret
   exact ⟨rfl, (Turn.of_below HB.out).trans HW0.out.turn, HW0.out.ck⟩
  have tl : (lo != 0) = false := by simp [hlo]
  have hv9 : asgV K.E (PlW.v ⟨l, pA, pn, pc, ps⟩) (RvW.v ⟨rk, op, rg, mu, ⟨rl, qA, qn, qc, qs⟩, ⟨gA, gn, gc, gL⟩⟩) = v := by rw [← hv]; exact (stErr_asg (s := StW.v ⟨0, ⟨l, pA, pn, pc, ps⟩, ⟨rk, op, rg, mu, ⟨rl, qA, qn, qc, qs⟩, ⟨gA, gn, gc, gL⟩⟩, lo⟩) rfl hlo).symm
  have HB := hide ((Below.refl w.heap.size w).alloc (Nat.le_refl _) (.cells #[.int .i64 (0), .int .i64 l, .slice pA pn pc, .int .i64 rk, .int .i64 op, .int .i64 rg, .bool mu, .int .i64 rl, .slice qA qn qc, .slice gA gn gc, .int .i64 lo] 46))
  have HK := hide (H0.out.up HB.out)
  have HX := hide (hx.below (HB.out.mono H0.out.bs))
  have hcx := hide fun (w' : World) (y : Wy K (w.alloc (.cells #[.int .i64 (0), .int .i64 l, .slice pA pn pc, .int .i64 rk, .int .i64 op, .int .i64 rg, .bool mu, .int .i64 rl, .slice qA qn qc, .slice gA gn gc, .int .i64 lo] 46)) w') => Wy.box (cs := [.int .i64 (0), .int .i64 l, .slice pA pn pc, .int .i64 rk, .int .i64 op, .int .i64 rg, .bool mu, .int .i64 rl, .slice qA qn qc, .slice gA gn gc, .int .i64 lo]) (T := 46) H0.out y
  have HA := hide fun (w' : World) (y : Wy K (w.alloc (.cells #[.int .i64 (0), .int .i64 l, .slice pA pn pc, .int .i64 rk, .int .i64 op, .int .i64 rg, .bool mu, .int .i64 rl, .slice qA qn qc, .slice gA gn gc, .int .i64 lo] 46)) w') => casg_is y.ck (HX.out.pl.below (y.low HK.out)) (HX.out.rv.below (y.low HK.out)) hv9
  clear h hx hv hll hlm hE hlo hv9
  go_enter Tryz.func38, Tryz.ntmps38
  have HW0 := hide (Wy.refl HK.out)
  go_wp2
  have HY := hide (HW0.out.drew)
  have hcs := hide fun (w' : World) (y : Wy K (w.alloc (.cells #[.int .i64 (0), .int .i64 l, .slice pA pn pc, .int .i64 rk, .int .i64 op, .int .i64 rg, .bool mu, .int .i64 rl, .slice qA qn qc, .slice gA gn gc, .int .i64 lo] 46)) w') => (show w'.cell? ⟨w.heap.size, 0, none⟩ = some (.int .i64 (0)) ∧ w'.cell? ⟨w.heap.size, 10, none⟩ = some (.int .i64 lo) ∧ w'.cell? ⟨K.g, 4, none⟩ = some (.slice K.x.locals.A K.x.locals.n K.x.locals.c) from ⟨hcx.out _ y 0 _ rfl, hcx.out _ y 10 _ rfl, y.ck.cells 4 _ rfl⟩)
  refine wp_region_held_drew (S := (fun w' => w'.cell? ⟨w.heap.size, 0, none⟩ = some (.int .i64 (0)) ∧ w'.cell? ⟨w.heap.size, 10, none⟩ = some (.int .i64 lo) ∧ w'.cell? ⟨K.g, 4, none⟩ = some (.slice K.x.locals.A K.x.locals.n K.x.locals.c))) (by kernel_rfl) (hcs.out _ HY.out) (fun hHeld => ?_)
  refine plan [(0, some 45, true), (1, some 46, true), (2, some 47, true), (3, some 48, true), (4, some 49, false), (5, some 50, false), (6, some 51, false), (7, some 52, false), (8, some 53, false), (9, some 54, false), (10, some 55, false), (11, some 56, false)] ?_
  repeat' (first | (refine planN hHeld rfl rfl (by kernel_rfl) (by kernel_rfl) (by kernel_rfl) (fun _ _ _ h => h) (by rfl) ?_; try simp only [Act.put, List.setIfInBounds_toArray, List.set_cons_zero, List.set_cons_succ]) | (refine planY (v := ?_) hHeld rfl rfl (by kernel_rfl) (by kernel_rfl) (by kernel_rfl) (fun _ _ _ h => h) (by rfl) ?_ ?_; rotate_left; (· (intro w9 hS9; obtain ⟨s0, s1, s2⟩ := hS9; first | (go_simp; done) | (go_simp; with_reducible rfl))); try simp only [Act.put, List.setIfInBounds_toArray, List.set_cons_zero, List.set_cons_succ]))
  refine plan0 ?_
  refine wpAnyH_ready (rs := [12]) (by kernel_rfl) (by simp) ?_
  refine AllReadyH.cons rfl (fun KZ hK => ?_) AllReadyH.nil
  go_simp
  refine hK.out _ _ hHeld (fun hHeld => ?_)
  clear hK KZ
  try simp only [Act.put, List.setIfInBounds_toArray, List.set_cons_zero, List.set_cons_succ]
  refine plan [(13, some 58, false), (14, some 59, true), (15, some 44, true)] ?_
  repeat' (first | (refine planN hHeld rfl rfl (by kernel_rfl) (by kernel_rfl) (by kernel_rfl) (fun _ _ _ h => h) (by rfl) ?_; try simp only [Act.put, List.setIfInBounds_toArray, List.set_cons_zero, List.set_cons_succ]) | (refine planY (v := ?_) hHeld rfl rfl (by kernel_rfl) (by kernel_rfl) (by kernel_rfl) (fun _ _ _ h => h) (by rfl) ?_ ?_; rotate_left; (· (intro w9 hS9; obtain ⟨s0, s1, s2⟩ := hS9; first | (go_simp; done) | (go_simp; with_reducible rfl))); try simp only [Act.put, List.setIfInBounds_toArray, List.set_cons_zero, List.set_cons_succ]))
  refine plan0 ?_
  refine wpAnyH_done (by kernel_rfl) ?_ _
  have c7_0 := hcx.out _ HY.out 0 (.int .i64 (0)) rfl
  have c7_1 := hcx.out _ HY.out 1 (.int .i64 l) rfl
  have c7_2 := hcx.out _ HY.out 2 (.slice pA pn pc) rfl
  have c7_3 := hcx.out _ HY.out 3 (.int .i64 rk) rfl
  have c7_4 := hcx.out _ HY.out 4 (.int .i64 op) rfl
  have c7_5 := hcx.out _ HY.out 5 (.int .i64 rg) rfl
  have c7_6 := hcx.out _ HY.out 6 (.bool mu) rfl
  have c7_7 := hcx.out _ HY.out 7 (.int .i64 rl) rfl
  have c7_8 := hcx.out _ HY.out 8 (.slice qA qn qc) rfl
  have c7_9 := hcx.out _ HY.out 9 (.slice gA gn gc) rfl
  have c7_10 := hcx.out _ HY.out 10 (.int .i64 lo) rfl
  have g7_4 := HY.out.ck.cells 4 (.slice K.x.locals.A K.x.locals.n K.x.locals.c) rfl
  go_wp2_with fail
  refine (HA.out _ HY.out).mono ?_
  rintro e8 w8 ⟨rfl, hb8⟩
  have HW8 := hide (HY.out.trans hb8)
  clear hb8
  go_wp2
  go_ret
  exact ⟨rfl, (Turn.of_below HB.out).trans HW8.out.turn, HW8.out.ck⟩
 have t0 : (k == 0) = false := by simp [h0]
 by_cases h1 : k = 1
 case pos =>
  subst h1
  have HB := hide ((Below.refl w.heap.size w).alloc (Nat.le_refl _) (.cells #[.int .i64 (1), .int .i64 l, .slice pA pn pc, .int .i64 rk, .int .i64 op, .int .i64 rg, .bool mu, .int .i64 rl, .slice qA qn qc, .slice gA gn gc, .int .i64 lo] 46))
  have HK := hide (H0.out.up HB.out)
  have HX := hide (hx.below (HB.out.mono H0.out.bs))
  have hcx := hide fun (w' : World) (y : Wy K (w.alloc (.cells #[.int .i64 (1), .int .i64 l, .slice pA pn pc, .int .i64 rk, .int .i64 op, .int .i64 rg, .bool mu, .int .i64 rl, .slice qA qn qc, .slice gA gn gc, .int .i64 lo] 46)) w') => Wy.box (cs := [.int .i64 (1), .int .i64 l, .slice pA pn pc, .int .i64 rk, .int .i64 op, .int .i64 rg, .bool mu, .int .i64 rl, .slice qA qn qc, .slice gA gn gc, .int .i64 lo]) (T := 46) H0.out y
  by_cases hz : noP (PlW.v ⟨l, pA, pn, pc, ps⟩) = true
  case neg =>
   have hz : noP (PlW.v ⟨l, pA, pn, pc, ps⟩) = false := by simpa using hz
   obtain rfl : v = 2 := by
    rw [← hv]
    simp [stErr, StW.v, hz]
   clear hv
   clear h hx hll hlm hE
   go_enter Tryz.func38, Tryz.ntmps38
   have HW0 := hide (Wy.refl HK.out)
   go_wp2_with fail
   refine (cZero_is (x := ⟨l, pA, pn, pc, ps⟩) hz _ (HX.out.pl.more HK.out.bs)).mono ?_
   rintro e1 w1 ⟨rfl, hb1⟩
   have HW1 := hide (Wy.new HK.out hb1)
   clear hb1
   have c1_0 := hcx.out _ HW1.out 0 (.int .i64 (1)) rfl
   have c1_1 := hcx.out _ HW1.out 1 (.int .i64 l) rfl
   have c1_2 := hcx.out _ HW1.out 2 (.slice pA pn pc) rfl
   have c1_3 := hcx.out _ HW1.out 3 (.int .i64 rk) rfl
   have c1_4 := hcx.out _ HW1.out 4 (.int .i64 op) rfl
   have c1_5 := hcx.out _ HW1.out 5 (.int .i64 rg) rfl
   have c1_6 := hcx.out _ HW1.out 6 (.bool mu) rfl
   have c1_7 := hcx.out _ HW1.out 7 (.int .i64 rl) rfl
   have c1_8 := hcx.out _ HW1.out 8 (.slice qA qn qc) rfl
   have c1_9 := hcx.out _ HW1.out 9 (.slice gA gn gc) rfl
   have c1_10 := hcx.out _ HW1.out 10 (.int .i64 lo) rfl
   have g1_4 := HW1.out.ck.cells 4 (.slice K.x.locals.A K.x.locals.n K.x.locals.c) rfl
   go_wp2
   go_ret
   exact ⟨rfl, (Turn.of_below HB.out).trans HW1.out.turn, HW1.out.ck⟩
  by_cases hr : noR (RvW.v ⟨rk, op, rg, mu, ⟨rl, qA, qn, qc, qs⟩, ⟨gA, gn, gc, gL⟩⟩) = true
  case neg =>
   have hr : noR (RvW.v ⟨rk, op, rg, mu, ⟨rl, qA, qn, qc, qs⟩, ⟨gA, gn, gc, gL⟩⟩) = false := by simpa using hr
   obtain rfl : v = 2 := by
    rw [← hv]
    simp [stErr, StW.v, hz, hr]
   clear hv
   clear h hx hll hlm hE
   go_enter Tryz.func38, Tryz.ntmps38
   have HW0 := hide (Wy.refl HK.out)
   go_wp2_with fail
   refine (cZero_is (x := ⟨l, pA, pn, pc, ps⟩) hz _ (HX.out.pl.more HK.out.bs)).mono ?_
   rintro e1 w1 ⟨rfl, hb1⟩
   have HW1 := hide (Wy.new HK.out hb1)
   clear hb1
   have c1_0 := hcx.out _ HW1.out 0 (.int .i64 (1)) rfl
   have c1_1 := hcx.out _ HW1.out 1 (.int .i64 l) rfl
   have c1_2 := hcx.out _ HW1.out 2 (.slice pA pn pc) rfl
   have c1_3 := hcx.out _ HW1.out 3 (.int .i64 rk) rfl
   have c1_4 := hcx.out _ HW1.out 4 (.int .i64 op) rfl
   have c1_5 := hcx.out _ HW1.out 5 (.int .i64 rg) rfl
   have c1_6 := hcx.out _ HW1.out 6 (.bool mu) rfl
   have c1_7 := hcx.out _ HW1.out 7 (.int .i64 rl) rfl
   have c1_8 := hcx.out _ HW1.out 8 (.slice qA qn qc) rfl
   have c1_9 := hcx.out _ HW1.out 9 (.slice gA gn gc) rfl
   have c1_10 := hcx.out _ HW1.out 10 (.int .i64 lo) rfl
   have g1_4 := HW1.out.ck.cells 4 (.slice K.x.locals.A K.x.locals.n K.x.locals.c) rfl
   go_wp2_with fail
   refine (cZeroRv_is (x := ⟨rk, op, rg, mu, ⟨rl, qA, qn, qc, qs⟩, ⟨gA, gn, gc, gL⟩⟩) hr _ ((HX.out.rv.below (HW1.out.low HK.out)).more HW1.out.ck.bs)).mono ?_
   rintro e2 w2 ⟨rfl, hb2⟩
   have HW2 := hide (HW1.out.up hb2)
   clear hb2
   have c2_0 := hcx.out _ HW2.out 0 (.int .i64 (1)) rfl
   have c2_1 := hcx.out _ HW2.out 1 (.int .i64 l) rfl
   have c2_2 := hcx.out _ HW2.out 2 (.slice pA pn pc) rfl
   have c2_3 := hcx.out _ HW2.out 3 (.int .i64 rk) rfl
   have c2_4 := hcx.out _ HW2.out 4 (.int .i64 op) rfl
   have c2_5 := hcx.out _ HW2.out 5 (.int .i64 rg) rfl
   have c2_6 := hcx.out _ HW2.out 6 (.bool mu) rfl
   have c2_7 := hcx.out _ HW2.out 7 (.int .i64 rl) rfl
   have c2_8 := hcx.out _ HW2.out 8 (.slice qA qn qc) rfl
   have c2_9 := hcx.out _ HW2.out 9 (.slice gA gn gc) rfl
   have c2_10 := hcx.out _ HW2.out 10 (.int .i64 lo) rfl
   have g2_4 := HW2.out.ck.cells 4 (.slice K.x.locals.A K.x.locals.n K.x.locals.c) rfl
   go_wp2
   go_ret
   exact ⟨rfl, (Turn.of_below HB.out).trans HW2.out.turn, HW2.out.ck⟩
  by_cases hin : 0 ≤ lo ∧ lo < (K.x.locals.n : Int)
  case pos =>
   have HIN := hide (show tyIn lo (K.x.locals.n : Int) = true from tyIn_iff.2 hin)
   have hq : ¬ (lo < 0 ∨ (K.E.lc.length : Int) ≤ lo) := by rw [hE]; omega
   obtain rfl : v = 0 := by
    rw [← hv]
    show (if noP (PlW.v ⟨l, pA, pn, pc, ps⟩) = false ∨ noR (RvW.v ⟨rk, op, rg, mu, ⟨rl, qA, qn, qc, qs⟩, ⟨gA, gn, gc, gL⟩⟩) = false then (2 : Int) else if lo < 0 ∨ (K.E.lc.length : Int) ≤ lo then 3 else 0) = _
    rw [if_neg (by rw [hz, hr]; simp), if_neg hq]
   clear hv
   clear h hx hll hE hin hq
   go_enter Tryz.func38, Tryz.ntmps38
   have HW0 := hide (Wy.refl HK.out)
   go_wp2_with fail
   refine (cZero_is (x := ⟨l, pA, pn, pc, ps⟩) hz _ (HX.out.pl.more HK.out.bs)).mono ?_
   rintro e1 w1 ⟨rfl, hb1⟩
   have HW1 := hide (Wy.new HK.out hb1)
   clear hb1
   have c1_0 := hcx.out _ HW1.out 0 (.int .i64 (1)) rfl
   have c1_1 := hcx.out _ HW1.out 1 (.int .i64 l) rfl
   have c1_2 := hcx.out _ HW1.out 2 (.slice pA pn pc) rfl
   have c1_3 := hcx.out _ HW1.out 3 (.int .i64 rk) rfl
   have c1_4 := hcx.out _ HW1.out 4 (.int .i64 op) rfl
   have c1_5 := hcx.out _ HW1.out 5 (.int .i64 rg) rfl
   have c1_6 := hcx.out _ HW1.out 6 (.bool mu) rfl
   have c1_7 := hcx.out _ HW1.out 7 (.int .i64 rl) rfl
   have c1_8 := hcx.out _ HW1.out 8 (.slice qA qn qc) rfl
   have c1_9 := hcx.out _ HW1.out 9 (.slice gA gn gc) rfl
   have c1_10 := hcx.out _ HW1.out 10 (.int .i64 lo) rfl
   have g1_4 := HW1.out.ck.cells 4 (.slice K.x.locals.A K.x.locals.n K.x.locals.c) rfl
   go_wp2_with fail
   refine (cZeroRv_is (x := ⟨rk, op, rg, mu, ⟨rl, qA, qn, qc, qs⟩, ⟨gA, gn, gc, gL⟩⟩) hr _ ((HX.out.rv.below (HW1.out.low HK.out)).more HW1.out.ck.bs)).mono ?_
   rintro e2 w2 ⟨rfl, hb2⟩
   have HW2 := hide (HW1.out.up hb2)
   clear hb2
   have c2_0 := hcx.out _ HW2.out 0 (.int .i64 (1)) rfl
   have c2_1 := hcx.out _ HW2.out 1 (.int .i64 l) rfl
   have c2_2 := hcx.out _ HW2.out 2 (.slice pA pn pc) rfl
   have c2_3 := hcx.out _ HW2.out 3 (.int .i64 rk) rfl
   have c2_4 := hcx.out _ HW2.out 4 (.int .i64 op) rfl
   have c2_5 := hcx.out _ HW2.out 5 (.int .i64 rg) rfl
   have c2_6 := hcx.out _ HW2.out 6 (.bool mu) rfl
   have c2_7 := hcx.out _ HW2.out 7 (.int .i64 rl) rfl
   have c2_8 := hcx.out _ HW2.out 8 (.slice qA qn qc) rfl
   have c2_9 := hcx.out _ HW2.out 9 (.slice gA gn gc) rfl
   have c2_10 := hcx.out _ HW2.out 10 (.int .i64 lo) rfl
   have g2_4 := HW2.out.ck.cells 4 (.slice K.x.locals.A K.x.locals.n K.x.locals.c) rfl
   go_wp2
   have HY := hide (HW2.out.drew)
   have hcs := hide fun (w' : World) (y : Wy K (w.alloc (.cells #[.int .i64 (1), .int .i64 l, .slice pA pn pc, .int .i64 rk, .int .i64 op, .int .i64 rg, .bool mu, .int .i64 rl, .slice qA qn qc, .slice gA gn gc, .int .i64 lo] 46)) w') => (show w'.cell? ⟨w.heap.size, 0, none⟩ = some (.int .i64 (1)) ∧ w'.cell? ⟨w.heap.size, 10, none⟩ = some (.int .i64 lo) ∧ w'.cell? ⟨K.g, 4, none⟩ = some (.slice K.x.locals.A K.x.locals.n K.x.locals.c) from ⟨hcx.out _ y 0 _ rfl, hcx.out _ y 10 _ rfl, y.ck.cells 4 _ rfl⟩)
   refine wp_region_held_drew (S := (fun w' => w'.cell? ⟨w.heap.size, 0, none⟩ = some (.int .i64 (1)) ∧ w'.cell? ⟨w.heap.size, 10, none⟩ = some (.int .i64 lo) ∧ w'.cell? ⟨K.g, 4, none⟩ = some (.slice K.x.locals.A K.x.locals.n K.x.locals.c))) (by kernel_rfl) (hcs.out _ HY.out) (fun hHeld => ?_)
   refine plan [(0, some 45, true), (1, some 46, true), (2, some 47, true), (3, some 48, true), (4, some 49, true), (5, some 50, true), (6, some 51, true), (7, some 52, true), (8, some 53, true), (9, some 54, true), (10, some 55, true), (11, some 56, true)] ?_
   repeat' (first | (refine planN hHeld rfl rfl (by kernel_rfl) (by kernel_rfl) (by kernel_rfl) (fun _ _ _ h => h) (by rfl) ?_; try simp only [Act.put, List.setIfInBounds_toArray, List.set_cons_zero, List.set_cons_succ]) | (refine planY (v := ?_) hHeld rfl rfl (by kernel_rfl) (by kernel_rfl) (by kernel_rfl) (fun _ _ _ h => h) (by rfl) ?_ ?_; rotate_left; (· (intro w9 hS9; obtain ⟨s0, s1, s2⟩ := hS9; first | (go_simp; done) | (go_simp; with_reducible rfl))); try simp only [Act.put, List.setIfInBounds_toArray, List.set_cons_zero, List.set_cons_succ]))
   refine plan0 ?_
   refine wpAnyH_ready (rs := [12]) (by kernel_rfl) (by simp) ?_
   refine AllReadyH.cons rfl (fun KZ hK => ?_) AllReadyH.nil
   go_simp
   refine (vwithin_is HIN.out _).mono ?_
   rintro e7 w7 ⟨rfl, rfl⟩
   refine hK.out _ _ (hcs.out _ HY.out) (fun hHeld => ?_)
   clear hK KZ
   try simp only [Act.put, List.setIfInBounds_toArray, List.set_cons_zero, List.set_cons_succ]
   refine plan [(13, some 58, true), (14, some 59, true), (15, some 44, true)] ?_
   repeat' (first | (refine planN hHeld rfl rfl (by kernel_rfl) (by kernel_rfl) (by kernel_rfl) (fun _ _ _ h => h) (by rfl) ?_; try simp only [Act.put, List.setIfInBounds_toArray, List.set_cons_zero, List.set_cons_succ]) | (refine planY (v := ?_) hHeld rfl rfl (by kernel_rfl) (by kernel_rfl) (by kernel_rfl) (fun _ _ _ h => h) (by rfl) ?_ ?_; rotate_left; (· (intro w9 hS9; obtain ⟨s0, s1, s2⟩ := hS9; first | (go_simp; done) | (go_simp; with_reducible rfl))); try simp only [Act.put, List.setIfInBounds_toArray, List.set_cons_zero, List.set_cons_succ]))
   refine plan0 ?_
   refine wpAnyH_done (by kernel_rfl) ?_ _
   go_wp2
   go_ret
   exact ⟨rfl, (Turn.of_below HB.out).trans HY.out.turn, HY.out.ck⟩
  case neg =>
   have HIN := hide (show tyIn lo (K.x.locals.n : Int) = false from tyIn_not.2 hin)
   have hq : lo < 0 ∨ (K.E.lc.length : Int) ≤ lo := by rw [hE]; omega
   obtain rfl : v = 3 := by
    rw [← hv]
    show (if noP (PlW.v ⟨l, pA, pn, pc, ps⟩) = false ∨ noR (RvW.v ⟨rk, op, rg, mu, ⟨rl, qA, qn, qc, qs⟩, ⟨gA, gn, gc, gL⟩⟩) = false then (2 : Int) else if lo < 0 ∨ (K.E.lc.length : Int) ≤ lo then 3 else 0) = _
    rw [if_neg (by rw [hz, hr]; simp), if_pos hq]
   clear hv
   clear h hx hll hE hin hq
   go_enter Tryz.func38, Tryz.ntmps38
   have HW0 := hide (Wy.refl HK.out)
   go_wp2_with fail
   refine (cZero_is (x := ⟨l, pA, pn, pc, ps⟩) hz _ (HX.out.pl.more HK.out.bs)).mono ?_
   rintro e1 w1 ⟨rfl, hb1⟩
   have HW1 := hide (Wy.new HK.out hb1)
   clear hb1
   have c1_0 := hcx.out _ HW1.out 0 (.int .i64 (1)) rfl
   have c1_1 := hcx.out _ HW1.out 1 (.int .i64 l) rfl
   have c1_2 := hcx.out _ HW1.out 2 (.slice pA pn pc) rfl
   have c1_3 := hcx.out _ HW1.out 3 (.int .i64 rk) rfl
   have c1_4 := hcx.out _ HW1.out 4 (.int .i64 op) rfl
   have c1_5 := hcx.out _ HW1.out 5 (.int .i64 rg) rfl
   have c1_6 := hcx.out _ HW1.out 6 (.bool mu) rfl
   have c1_7 := hcx.out _ HW1.out 7 (.int .i64 rl) rfl
   have c1_8 := hcx.out _ HW1.out 8 (.slice qA qn qc) rfl
   have c1_9 := hcx.out _ HW1.out 9 (.slice gA gn gc) rfl
   have c1_10 := hcx.out _ HW1.out 10 (.int .i64 lo) rfl
   have g1_4 := HW1.out.ck.cells 4 (.slice K.x.locals.A K.x.locals.n K.x.locals.c) rfl
   go_wp2_with fail
   refine (cZeroRv_is (x := ⟨rk, op, rg, mu, ⟨rl, qA, qn, qc, qs⟩, ⟨gA, gn, gc, gL⟩⟩) hr _ ((HX.out.rv.below (HW1.out.low HK.out)).more HW1.out.ck.bs)).mono ?_
   rintro e2 w2 ⟨rfl, hb2⟩
   have HW2 := hide (HW1.out.up hb2)
   clear hb2
   have c2_0 := hcx.out _ HW2.out 0 (.int .i64 (1)) rfl
   have c2_1 := hcx.out _ HW2.out 1 (.int .i64 l) rfl
   have c2_2 := hcx.out _ HW2.out 2 (.slice pA pn pc) rfl
   have c2_3 := hcx.out _ HW2.out 3 (.int .i64 rk) rfl
   have c2_4 := hcx.out _ HW2.out 4 (.int .i64 op) rfl
   have c2_5 := hcx.out _ HW2.out 5 (.int .i64 rg) rfl
   have c2_6 := hcx.out _ HW2.out 6 (.bool mu) rfl
   have c2_7 := hcx.out _ HW2.out 7 (.int .i64 rl) rfl
   have c2_8 := hcx.out _ HW2.out 8 (.slice qA qn qc) rfl
   have c2_9 := hcx.out _ HW2.out 9 (.slice gA gn gc) rfl
   have c2_10 := hcx.out _ HW2.out 10 (.int .i64 lo) rfl
   have g2_4 := HW2.out.ck.cells 4 (.slice K.x.locals.A K.x.locals.n K.x.locals.c) rfl
   go_wp2
   have HY := hide (HW2.out.drew)
   have hcs := hide fun (w' : World) (y : Wy K (w.alloc (.cells #[.int .i64 (1), .int .i64 l, .slice pA pn pc, .int .i64 rk, .int .i64 op, .int .i64 rg, .bool mu, .int .i64 rl, .slice qA qn qc, .slice gA gn gc, .int .i64 lo] 46)) w') => (show w'.cell? ⟨w.heap.size, 0, none⟩ = some (.int .i64 (1)) ∧ w'.cell? ⟨w.heap.size, 10, none⟩ = some (.int .i64 lo) ∧ w'.cell? ⟨K.g, 4, none⟩ = some (.slice K.x.locals.A K.x.locals.n K.x.locals.c) from ⟨hcx.out _ y 0 _ rfl, hcx.out _ y 10 _ rfl, y.ck.cells 4 _ rfl⟩)
   refine wp_region_held_drew (S := (fun w' => w'.cell? ⟨w.heap.size, 0, none⟩ = some (.int .i64 (1)) ∧ w'.cell? ⟨w.heap.size, 10, none⟩ = some (.int .i64 lo) ∧ w'.cell? ⟨K.g, 4, none⟩ = some (.slice K.x.locals.A K.x.locals.n K.x.locals.c))) (by kernel_rfl) (hcs.out _ HY.out) (fun hHeld => ?_)
   refine plan [(0, some 45, true), (1, some 46, true), (2, some 47, true), (3, some 48, true), (4, some 49, true), (5, some 50, true), (6, some 51, true), (7, some 52, true), (8, some 53, true), (9, some 54, true), (10, some 55, true), (11, some 56, true)] ?_
   repeat' (first | (refine planN hHeld rfl rfl (by kernel_rfl) (by kernel_rfl) (by kernel_rfl) (fun _ _ _ h => h) (by rfl) ?_; try simp only [Act.put, List.setIfInBounds_toArray, List.set_cons_zero, List.set_cons_succ]) | (refine planY (v := ?_) hHeld rfl rfl (by kernel_rfl) (by kernel_rfl) (by kernel_rfl) (fun _ _ _ h => h) (by rfl) ?_ ?_; rotate_left; (· (intro w9 hS9; obtain ⟨s0, s1, s2⟩ := hS9; first | (go_simp; done) | (go_simp; with_reducible rfl))); try simp only [Act.put, List.setIfInBounds_toArray, List.set_cons_zero, List.set_cons_succ]))
   refine plan0 ?_
   refine wpAnyH_ready (rs := [12]) (by kernel_rfl) (by simp) ?_
   refine AllReadyH.cons rfl (fun KZ hK => ?_) AllReadyH.nil
   go_simp
   refine (vwithin_is HIN.out _).mono ?_
   rintro e7 w7 ⟨rfl, rfl⟩
   refine hK.out _ _ (hcs.out _ HY.out) (fun hHeld => ?_)
   clear hK KZ
   try simp only [Act.put, List.setIfInBounds_toArray, List.set_cons_zero, List.set_cons_succ]
   refine plan [(13, some 58, true), (14, some 59, true), (15, some 44, true)] ?_
   repeat' (first | (refine planN hHeld rfl rfl (by kernel_rfl) (by kernel_rfl) (by kernel_rfl) (fun _ _ _ h => h) (by rfl) ?_; try simp only [Act.put, List.setIfInBounds_toArray, List.set_cons_zero, List.set_cons_succ]) | (refine planY (v := ?_) hHeld rfl rfl (by kernel_rfl) (by kernel_rfl) (by kernel_rfl) (fun _ _ _ h => h) (by rfl) ?_ ?_; rotate_left; (· (intro w9 hS9; obtain ⟨s0, s1, s2⟩ := hS9; first | (go_simp; done) | (go_simp; with_reducible rfl))); try simp only [Act.put, List.setIfInBounds_toArray, List.set_cons_zero, List.set_cons_succ]))
   refine plan0 ?_
   refine wpAnyH_done (by kernel_rfl) ?_ _
   go_wp2
   go_ret
   exact ⟨rfl, (Turn.of_below HB.out).trans HY.out.turn, HY.out.ck⟩
 have t1 : (k == 1) = false := by simp [h1]
 have t1' : (k != 1) = true := by simp [h1]
 by_cases h2 : k = 2
 case pos =>
  subst h2
  have HB := hide ((Below.refl w.heap.size w).alloc (Nat.le_refl _) (.cells #[.int .i64 (2), .int .i64 l, .slice pA pn pc, .int .i64 rk, .int .i64 op, .int .i64 rg, .bool mu, .int .i64 rl, .slice qA qn qc, .slice gA gn gc, .int .i64 lo] 46))
  have HK := hide (H0.out.up HB.out)
  have HX := hide (hx.below (HB.out.mono H0.out.bs))
  have hcx := hide fun (w' : World) (y : Wy K (w.alloc (.cells #[.int .i64 (2), .int .i64 l, .slice pA pn pc, .int .i64 rk, .int .i64 op, .int .i64 rg, .bool mu, .int .i64 rl, .slice qA qn qc, .slice gA gn gc, .int .i64 lo] 46)) w') => Wy.box (cs := [.int .i64 (2), .int .i64 l, .slice pA pn pc, .int .i64 rk, .int .i64 op, .int .i64 rg, .bool mu, .int .i64 rl, .slice qA qn qc, .slice gA gn gc, .int .i64 lo]) (T := 46) H0.out y
  by_cases hlo : lo = 0
  case neg =>
   have tl : (lo != 0) = true := by simp [hlo]
   obtain rfl : v = 2 := by
    rw [← hv]
    simp [stErr, StW.v, hlo]
   clear hv
   clear h hx hll hlm hE hlo
   go_enter Tryz.func38, Tryz.ntmps38
   have HW0 := hide (Wy.refl HK.out)
   go_wp2
   go_ret
   exact ⟨rfl, (Turn.of_below HB.out).trans HW0.out.turn, HW0.out.ck⟩
  have tl : (lo != 0) = false := by simp [hlo]
  by_cases hz : noP (PlW.v ⟨l, pA, pn, pc, ps⟩) = true
  case neg =>
   have hz : noP (PlW.v ⟨l, pA, pn, pc, ps⟩) = false := by simpa using hz
   obtain rfl : v = 2 := by
    rw [← hv]
    simp [stErr, StW.v, hz, hlo]
   clear hv
   clear h hx hll hlm hE hlo
   go_enter Tryz.func38, Tryz.ntmps38
   have HW0 := hide (Wy.refl HK.out)
   go_wp2_with fail
   refine (cZero_is (x := ⟨l, pA, pn, pc, ps⟩) hz _ (HX.out.pl.more HK.out.bs)).mono ?_
   rintro e1 w1 ⟨rfl, hb1⟩
   have HW1 := hide (Wy.new HK.out hb1)
   clear hb1
   have c1_0 := hcx.out _ HW1.out 0 (.int .i64 (2)) rfl
   have c1_1 := hcx.out _ HW1.out 1 (.int .i64 l) rfl
   have c1_2 := hcx.out _ HW1.out 2 (.slice pA pn pc) rfl
   have c1_3 := hcx.out _ HW1.out 3 (.int .i64 rk) rfl
   have c1_4 := hcx.out _ HW1.out 4 (.int .i64 op) rfl
   have c1_5 := hcx.out _ HW1.out 5 (.int .i64 rg) rfl
   have c1_6 := hcx.out _ HW1.out 6 (.bool mu) rfl
   have c1_7 := hcx.out _ HW1.out 7 (.int .i64 rl) rfl
   have c1_8 := hcx.out _ HW1.out 8 (.slice qA qn qc) rfl
   have c1_9 := hcx.out _ HW1.out 9 (.slice gA gn gc) rfl
   have c1_10 := hcx.out _ HW1.out 10 (.int .i64 lo) rfl
   have g1_4 := HW1.out.ck.cells 4 (.slice K.x.locals.A K.x.locals.n K.x.locals.c) rfl
   go_wp2
   go_ret
   exact ⟨rfl, (Turn.of_below HB.out).trans HW1.out.turn, HW1.out.ck⟩
  by_cases hr : noR (RvW.v ⟨rk, op, rg, mu, ⟨rl, qA, qn, qc, qs⟩, ⟨gA, gn, gc, gL⟩⟩) = true
  case neg =>
   have hr : noR (RvW.v ⟨rk, op, rg, mu, ⟨rl, qA, qn, qc, qs⟩, ⟨gA, gn, gc, gL⟩⟩) = false := by simpa using hr
   obtain rfl : v = 2 := by
    rw [← hv]
    simp [stErr, StW.v, hz, hr, hlo]
   clear hv
   clear h hx hll hlm hE hlo
   go_enter Tryz.func38, Tryz.ntmps38
   have HW0 := hide (Wy.refl HK.out)
   go_wp2_with fail
   refine (cZero_is (x := ⟨l, pA, pn, pc, ps⟩) hz _ (HX.out.pl.more HK.out.bs)).mono ?_
   rintro e1 w1 ⟨rfl, hb1⟩
   have HW1 := hide (Wy.new HK.out hb1)
   clear hb1
   have c1_0 := hcx.out _ HW1.out 0 (.int .i64 (2)) rfl
   have c1_1 := hcx.out _ HW1.out 1 (.int .i64 l) rfl
   have c1_2 := hcx.out _ HW1.out 2 (.slice pA pn pc) rfl
   have c1_3 := hcx.out _ HW1.out 3 (.int .i64 rk) rfl
   have c1_4 := hcx.out _ HW1.out 4 (.int .i64 op) rfl
   have c1_5 := hcx.out _ HW1.out 5 (.int .i64 rg) rfl
   have c1_6 := hcx.out _ HW1.out 6 (.bool mu) rfl
   have c1_7 := hcx.out _ HW1.out 7 (.int .i64 rl) rfl
   have c1_8 := hcx.out _ HW1.out 8 (.slice qA qn qc) rfl
   have c1_9 := hcx.out _ HW1.out 9 (.slice gA gn gc) rfl
   have c1_10 := hcx.out _ HW1.out 10 (.int .i64 lo) rfl
   have g1_4 := HW1.out.ck.cells 4 (.slice K.x.locals.A K.x.locals.n K.x.locals.c) rfl
   go_wp2_with fail
   refine (cZeroRv_is (x := ⟨rk, op, rg, mu, ⟨rl, qA, qn, qc, qs⟩, ⟨gA, gn, gc, gL⟩⟩) hr _ ((HX.out.rv.below (HW1.out.low HK.out)).more HW1.out.ck.bs)).mono ?_
   rintro e2 w2 ⟨rfl, hb2⟩
   have HW2 := hide (HW1.out.up hb2)
   clear hb2
   have c2_0 := hcx.out _ HW2.out 0 (.int .i64 (2)) rfl
   have c2_1 := hcx.out _ HW2.out 1 (.int .i64 l) rfl
   have c2_2 := hcx.out _ HW2.out 2 (.slice pA pn pc) rfl
   have c2_3 := hcx.out _ HW2.out 3 (.int .i64 rk) rfl
   have c2_4 := hcx.out _ HW2.out 4 (.int .i64 op) rfl
   have c2_5 := hcx.out _ HW2.out 5 (.int .i64 rg) rfl
   have c2_6 := hcx.out _ HW2.out 6 (.bool mu) rfl
   have c2_7 := hcx.out _ HW2.out 7 (.int .i64 rl) rfl
   have c2_8 := hcx.out _ HW2.out 8 (.slice qA qn qc) rfl
   have c2_9 := hcx.out _ HW2.out 9 (.slice gA gn gc) rfl
   have c2_10 := hcx.out _ HW2.out 10 (.int .i64 lo) rfl
   have g2_4 := HW2.out.ck.cells 4 (.slice K.x.locals.A K.x.locals.n K.x.locals.c) rfl
   go_wp2
   go_ret
   exact ⟨rfl, (Turn.of_below HB.out).trans HW2.out.turn, HW2.out.ck⟩
  obtain rfl : v = 0 := by
   rw [← hv]
   simp [stErr, StW.v, hz, hr, hlo]
  clear hv
  clear h hx hll hlm hE hlo
  go_enter Tryz.func38, Tryz.ntmps38
  have HW0 := hide (Wy.refl HK.out)
  go_wp2_with fail
  refine (cZero_is (x := ⟨l, pA, pn, pc, ps⟩) hz _ (HX.out.pl.more HK.out.bs)).mono ?_
  rintro e1 w1 ⟨rfl, hb1⟩
  have HW1 := hide (Wy.new HK.out hb1)
  clear hb1
  have c1_0 := hcx.out _ HW1.out 0 (.int .i64 (2)) rfl
  have c1_1 := hcx.out _ HW1.out 1 (.int .i64 l) rfl
  have c1_2 := hcx.out _ HW1.out 2 (.slice pA pn pc) rfl
  have c1_3 := hcx.out _ HW1.out 3 (.int .i64 rk) rfl
  have c1_4 := hcx.out _ HW1.out 4 (.int .i64 op) rfl
  have c1_5 := hcx.out _ HW1.out 5 (.int .i64 rg) rfl
  have c1_6 := hcx.out _ HW1.out 6 (.bool mu) rfl
  have c1_7 := hcx.out _ HW1.out 7 (.int .i64 rl) rfl
  have c1_8 := hcx.out _ HW1.out 8 (.slice qA qn qc) rfl
  have c1_9 := hcx.out _ HW1.out 9 (.slice gA gn gc) rfl
  have c1_10 := hcx.out _ HW1.out 10 (.int .i64 lo) rfl
  have g1_4 := HW1.out.ck.cells 4 (.slice K.x.locals.A K.x.locals.n K.x.locals.c) rfl
  go_wp2_with fail
  refine (cZeroRv_is (x := ⟨rk, op, rg, mu, ⟨rl, qA, qn, qc, qs⟩, ⟨gA, gn, gc, gL⟩⟩) hr _ ((HX.out.rv.below (HW1.out.low HK.out)).more HW1.out.ck.bs)).mono ?_
  rintro e2 w2 ⟨rfl, hb2⟩
  have HW2 := hide (HW1.out.up hb2)
  clear hb2
  have c2_0 := hcx.out _ HW2.out 0 (.int .i64 (2)) rfl
  have c2_1 := hcx.out _ HW2.out 1 (.int .i64 l) rfl
  have c2_2 := hcx.out _ HW2.out 2 (.slice pA pn pc) rfl
  have c2_3 := hcx.out _ HW2.out 3 (.int .i64 rk) rfl
  have c2_4 := hcx.out _ HW2.out 4 (.int .i64 op) rfl
  have c2_5 := hcx.out _ HW2.out 5 (.int .i64 rg) rfl
  have c2_6 := hcx.out _ HW2.out 6 (.bool mu) rfl
  have c2_7 := hcx.out _ HW2.out 7 (.int .i64 rl) rfl
  have c2_8 := hcx.out _ HW2.out 8 (.slice qA qn qc) rfl
  have c2_9 := hcx.out _ HW2.out 9 (.slice gA gn gc) rfl
  have c2_10 := hcx.out _ HW2.out 10 (.int .i64 lo) rfl
  have g2_4 := HW2.out.ck.cells 4 (.slice K.x.locals.A K.x.locals.n K.x.locals.c) rfl
  go_wp2
  have HY := hide (HW2.out.drew)
  have hcs := hide fun (w' : World) (y : Wy K (w.alloc (.cells #[.int .i64 (2), .int .i64 l, .slice pA pn pc, .int .i64 rk, .int .i64 op, .int .i64 rg, .bool mu, .int .i64 rl, .slice qA qn qc, .slice gA gn gc, .int .i64 lo] 46)) w') => (show w'.cell? ⟨w.heap.size, 0, none⟩ = some (.int .i64 (2)) ∧ w'.cell? ⟨w.heap.size, 10, none⟩ = some (.int .i64 lo) ∧ w'.cell? ⟨K.g, 4, none⟩ = some (.slice K.x.locals.A K.x.locals.n K.x.locals.c) from ⟨hcx.out _ y 0 _ rfl, hcx.out _ y 10 _ rfl, y.ck.cells 4 _ rfl⟩)
  refine wp_region_held_drew (S := (fun w' => w'.cell? ⟨w.heap.size, 0, none⟩ = some (.int .i64 (2)) ∧ w'.cell? ⟨w.heap.size, 10, none⟩ = some (.int .i64 lo) ∧ w'.cell? ⟨K.g, 4, none⟩ = some (.slice K.x.locals.A K.x.locals.n K.x.locals.c))) (by kernel_rfl) (hcs.out _ HY.out) (fun hHeld => ?_)
  refine plan [(0, some 45, true), (1, some 46, true), (2, some 47, true), (3, some 48, true), (4, some 49, false), (5, some 50, false), (6, some 51, false), (7, some 52, false), (8, some 53, false), (9, some 54, false), (10, some 55, false), (11, some 56, false)] ?_
  repeat' (first | (refine planN hHeld rfl rfl (by kernel_rfl) (by kernel_rfl) (by kernel_rfl) (fun _ _ _ h => h) (by rfl) ?_; try simp only [Act.put, List.setIfInBounds_toArray, List.set_cons_zero, List.set_cons_succ]) | (refine planY (v := ?_) hHeld rfl rfl (by kernel_rfl) (by kernel_rfl) (by kernel_rfl) (fun _ _ _ h => h) (by rfl) ?_ ?_; rotate_left; (· (intro w9 hS9; obtain ⟨s0, s1, s2⟩ := hS9; first | (go_simp; done) | (go_simp; with_reducible rfl))); try simp only [Act.put, List.setIfInBounds_toArray, List.set_cons_zero, List.set_cons_succ]))
  refine plan0 ?_
  refine wpAnyH_ready (rs := [12]) (by kernel_rfl) (by simp) ?_
  refine AllReadyH.cons rfl (fun KZ hK => ?_) AllReadyH.nil
  go_simp
  refine hK.out _ _ hHeld (fun hHeld => ?_)
  clear hK KZ
  try simp only [Act.put, List.setIfInBounds_toArray, List.set_cons_zero, List.set_cons_succ]
  refine plan [(13, some 58, false), (14, some 59, true), (15, some 44, true)] ?_
  repeat' (first | (refine planN hHeld rfl rfl (by kernel_rfl) (by kernel_rfl) (by kernel_rfl) (fun _ _ _ h => h) (by rfl) ?_; try simp only [Act.put, List.setIfInBounds_toArray, List.set_cons_zero, List.set_cons_succ]) | (refine planY (v := ?_) hHeld rfl rfl (by kernel_rfl) (by kernel_rfl) (by kernel_rfl) (fun _ _ _ h => h) (by rfl) ?_ ?_; rotate_left; (· (intro w9 hS9; obtain ⟨s0, s1, s2⟩ := hS9; first | (go_simp; done) | (go_simp; with_reducible rfl))); try simp only [Act.put, List.setIfInBounds_toArray, List.set_cons_zero, List.set_cons_succ]))
  refine plan0 ?_
  refine wpAnyH_done (by kernel_rfl) ?_ _
  have c7_0 := hcx.out _ HY.out 0 (.int .i64 (2)) rfl
  have c7_1 := hcx.out _ HY.out 1 (.int .i64 l) rfl
  have c7_2 := hcx.out _ HY.out 2 (.slice pA pn pc) rfl
  have c7_3 := hcx.out _ HY.out 3 (.int .i64 rk) rfl
  have c7_4 := hcx.out _ HY.out 4 (.int .i64 op) rfl
  have c7_5 := hcx.out _ HY.out 5 (.int .i64 rg) rfl
  have c7_6 := hcx.out _ HY.out 6 (.bool mu) rfl
  have c7_7 := hcx.out _ HY.out 7 (.int .i64 rl) rfl
  have c7_8 := hcx.out _ HY.out 8 (.slice qA qn qc) rfl
  have c7_9 := hcx.out _ HY.out 9 (.slice gA gn gc) rfl
  have c7_10 := hcx.out _ HY.out 10 (.int .i64 lo) rfl
  have g7_4 := HY.out.ck.cells 4 (.slice K.x.locals.A K.x.locals.n K.x.locals.c) rfl
  go_wp2
  go_ret
  exact ⟨rfl, (Turn.of_below HB.out).trans HY.out.turn, HY.out.ck⟩
 have t2 : (k != 2) = true := by simp [h2]
 obtain rfl : v = 14 := by
  rw [← hv]
  simp [stErr, StW.v, h0, h1, h2]
 clear hv
 have HB := hide ((Below.refl w.heap.size w).alloc (Nat.le_refl _) (.cells #[.int .i64 k, .int .i64 l, .slice pA pn pc, .int .i64 rk, .int .i64 op, .int .i64 rg, .bool mu, .int .i64 rl, .slice qA qn qc, .slice gA gn gc, .int .i64 lo] 46))
 have HK := hide (H0.out.up HB.out)
 have HX := hide (hx.below (HB.out.mono H0.out.bs))
 have hcx := hide fun (w' : World) (y : Wy K (w.alloc (.cells #[.int .i64 k, .int .i64 l, .slice pA pn pc, .int .i64 rk, .int .i64 op, .int .i64 rg, .bool mu, .int .i64 rl, .slice qA qn qc, .slice gA gn gc, .int .i64 lo] 46)) w') => Wy.box (cs := [.int .i64 k, .int .i64 l, .slice pA pn pc, .int .i64 rk, .int .i64 op, .int .i64 rg, .bool mu, .int .i64 rl, .slice qA qn qc, .slice gA gn gc, .int .i64 lo]) (T := 46) H0.out y
 clear h hx hll hlm hE h0 h1 h2
 go_enter Tryz.func38, Tryz.ntmps38
 have HW0 := hide (Wy.refl HK.out)
 go_wp2
 go_ret
 exact ⟨rfl, (Turn.of_below HB.out).trans HW0.out.turn, HW0.out.ck⟩
end Go.Proofs.YtfgacmgjpikgaaaGreatDoor
