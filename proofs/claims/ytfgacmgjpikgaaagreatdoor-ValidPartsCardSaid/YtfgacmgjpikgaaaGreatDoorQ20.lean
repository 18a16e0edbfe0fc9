/- Part 21 of the contracts and their mathematics. -/
import Derived.Test.YtfgacmgjpikgaaaGreatDoorQ14
set_option linter.unusedVariables false
set_option linter.unusedSimpArgs false
namespace Go.Proofs.YtfgacmgjpikgaaaGreatDoor
open Go.RowKit
def noB (r : RvV) : Bool := decide (r.region = 0) && !r.mut_ && noP r.pl
theorem noR_eq (r : RvV) : noR r = (decide (r.kind = 0) && decide (r.op = 0) && decide (r.args.length = 0) && noB r) := by
 unfold noR noB
 cases decide (r.kind = 0) <;> cases decide (r.op = 0) <;> cases decide (r.region = 0) <;> cases r.mut_ <;> cases noP r.pl <;> cases decide (r.args.length = 0) <;> rfl
theorem noB_false {r : RvV} : (r.region ≠ 0 ∨ r.mut_ = true ∨ noP r.pl = false) ↔ noB r = false := by
 unfold noB
 by_cases h : r.region = 0 <;> cases r.mut_ <;> cases noP r.pl <;> simp [h]
theorem shErr_eq (r : RvV) : shErr r = if r.kind < 0 ∨ 4 < r.kind then 14
 else if (r.kind ≠ 2 ∧ r.kind ≠ 3 ∧ r.op ≠ 0) ∨ (r.kind ≠ 1 ∧ noB r = false) ∨ (r.kind = 1 ∧ 0 < r.args.length) then 2
 else if ((r.kind = 0 ∨ r.kind = 2) ∧ r.args.length ≠ 1) ∨ (r.kind = 3 ∧ r.args.length ≠ 2) then 2
 else 0 := by
 unfold shErr
 simp only [noB_false]
theorem vwithin_any (i n : Int) (w : World) :
  Calls Tryz.prog 59 #[.int .i64 i, .int .i64 n] w fun e w' => e = .returned (.bool (tyIn i n)) ∧ w = w' := by
 by_cases h0 : 0 ≤ i
 ·
  by_cases h1 : i < n
  ·
   have HF := hide (show tyIn i n = true from tyIn_iff.2 ⟨h0, h1⟩)
   go_enter Tryz.func59, Tryz.ntmps59
   go_wp2
   go_ret
   exact ⟨congrArg (fun v => Ending.returned (.bool v)) HF.out.symm, rfl⟩
  ·
   have HF := hide (show tyIn i n = false from tyIn_not.2 fun h => h1 h.2)
   go_enter Tryz.func59, Tryz.ntmps59
   go_wp2
   go_ret
   exact ⟨congrArg (fun v => Ending.returned (.bool v)) HF.out.symm, rfl⟩
 ·
  have HF := hide (show tyIn i n = false from tyIn_not.2 fun h => h0 h.1)
  go_enter Tryz.func59, Tryz.ntmps59
  go_wp2
  go_ret
  exact ⟨congrArg (fun v => Ending.returned (.bool v)) HF.out.symm, rfl⟩
theorem vwithin_is {i n : Int} {v : Bool} (h : tyIn i n = v) (w : World) :
  Calls Tryz.prog 59 #[.int .i64 i, .int .i64 n] w fun e w' => e = .returned (.bool v) ∧ w = w' := h ▸ vwithin_any i n w
set_option maxHeartbeats 1000000 in
set_option maxRecDepth 100000 in
theorem cZero_any (x : PlW) (w : World) (hx : OnePl w w.heap.size x) :
  Calls Tryz.prog 55 #[aggPl x] w fun e w' => e = .returned (.bool (noP x.v)) ∧ Below w.heap.size w w' := by
 obtain ⟨l, A, n, c, ps⟩ := x
 have hl : ps.length = n := hx.prs.len
 have HB := hide ((Below.refl w.heap.size w).alloc (Nat.le_refl _) (.cells #[.int .i64 l, .slice A n c] 36))
 have hv : noP (PlW.v ⟨l, A, n, c, ps⟩) = (decide (l = 0) && decide (n = 0)) := by
  unfold noP PlW.v
  simp only []
  rw [hl]
 rw [hv]
 clear hv hl hx
 by_cases h0 : l = 0
 ·
  have t0 : (l == 0) = true := by simpa using h0
  by_cases h1 : n = 0
  ·
   have t1 : ((n : Int) == 0) = true := by simp [h1]
   have e : (decide (l = 0) && decide (n = 0)) = true := by simp [h0, h1]
   rw [e]
   clear e h0 h1
   go_enter Tryz.func55, Tryz.ntmps55
   go_wp2
   go_ret
   exact ⟨rfl, HB.out⟩
  ·
   have t1 : ((n : Int) == 0) = false := by rw [beq_eq_false_iff_ne]; omega
   have e : (decide (l = 0) && decide (n = 0)) = false := by simp [h1]
   rw [e]
   clear e h0 h1
   go_enter Tryz.func55, Tryz.ntmps55
   go_wp2
   go_ret
   exact ⟨rfl, HB.out⟩
 ·
  have t0 : (l == 0) = false := by simpa using h0
  have e : (decide (l = 0) && decide (n = 0)) = false := by simp [h0]
  rw [e]
  clear e h0
  go_enter Tryz.func55, Tryz.ntmps55
  go_wp2
  go_ret
  exact ⟨rfl, HB.out⟩
theorem cZero_is {x : PlW} {v : Bool} (h : noP x.v = v) (w : World) (hx : OnePl w w.heap.size x) :
  Calls Tryz.prog 55 #[aggPl x] w fun e w' => e = .returned (.bool v) ∧ Below w.heap.size w w' := h ▸ cZero_any x w hx
set_option maxHeartbeats 2000000 in
set_option maxRecDepth 100000 in
theorem cNob_any (x : RvW) (w : World) (h : OneRv w w.heap.size x) :
  Calls Tryz.prog 83 #[aggRv x] w fun e w' => e = .returned (.bool (noB x.v)) ∧ Below w.heap.size w w' := by
 obtain ⟨k, op, rg, mu, ⟨l, pA, pn, pc, ps⟩, ⟨gA, gn, gc, gL⟩⟩ := x
 have hgn : gL.length = gn := h.args.len
 obtain ⟨v, hv⟩ : ∃ v, noB (RvW.v ⟨k, op, rg, mu, ⟨l, pA, pn, pc, ps⟩, ⟨gA, gn, gc, gL⟩⟩) = v := ⟨_, rfl⟩
 rw [hv]
 unfold noB at hv
 simp only [RvW.v, List.length_map, hgn] at hv
 clear hgn
 have HB := hide ((Below.refl w.heap.size w).alloc (Nat.le_refl _) (.cells (cRv ⟨k, op, rg, mu, ⟨l, pA, pn, pc, ps⟩, ⟨gA, gn, gc, gL⟩⟩).toArray 44))
 have HX := hide (h.up HB.out)
 clear h
 by_cases h2 : rg = 0
 ·
  have t2 : (rg == 0) = true := by simp [h2]
  cases mu
  ·
   by_cases hz : noP (PlW.v ⟨l, pA, pn, pc, ps⟩) = true
   ·
    obtain rfl : v = true := by
     rw [← hv]
     simp [h2, hz]
    clear hv
    clear h2
    go_enter Tryz.func83, Tryz.ntmps83
    go_wp2_with fail
    refine (cZero_is (x := ⟨l, pA, pn, pc, ps⟩) hz _ HX.out.pl).mono ?_
    rintro e w1 ⟨rfl, hb1⟩
    have HW1 := hide (show Below (w.alloc (.cells (cRv ⟨k, op, rg, false, ⟨l, pA, pn, pc, ps⟩, ⟨gA, gn, gc, gL⟩⟩).toArray 44)).heap.size (w.alloc (.cells (cRv ⟨k, op, rg, false, ⟨l, pA, pn, pc, ps⟩, ⟨gA, gn, gc, gL⟩⟩).toArray 44)) w1 from hb1)
    have HE1 := hide (HB.out.trans (HW1.out.mono HB.out.size))
    clear hb1
    have hcx := one_cells (w := w) (cs := cRv ⟨k, op, rg, false, ⟨l, pA, pn, pc, ps⟩, ⟨gA, gn, gc, gL⟩⟩) (T := 44) HW1.out
    have x0 := hcx 0 (.int .i64 k) rfl
    have x1 := hcx 1 (.int .i64 op) rfl
    have x2 := hcx 2 (.int .i64 rg) rfl
    have x3 := hcx 3 (.bool false) rfl
    have x4 := hcx 4 (.int .i64 l) rfl
    have x5 := hcx 5 (.slice pA pn pc) rfl
    have x6 := hcx 6 (.slice gA gn gc) rfl
    clear hcx
    go_wp2
    go_ret
    exact ⟨rfl, HE1.out⟩
   ·
    have hz : noP (PlW.v ⟨l, pA, pn, pc, ps⟩) = false := by simpa using hz
    obtain rfl : v = false := by
     rw [← hv]
     simp [h2, hz]
    clear hv
    clear h2
    go_enter Tryz.func83, Tryz.ntmps83
    go_wp2_with fail
    refine (cZero_is (x := ⟨l, pA, pn, pc, ps⟩) hz _ HX.out.pl).mono ?_
    rintro e w1 ⟨rfl, hb1⟩
    have HW1 := hide (show Below (w.alloc (.cells (cRv ⟨k, op, rg, false, ⟨l, pA, pn, pc, ps⟩, ⟨gA, gn, gc, gL⟩⟩).toArray 44)).heap.size (w.alloc (.cells (cRv ⟨k, op, rg, false, ⟨l, pA, pn, pc, ps⟩, ⟨gA, gn, gc, gL⟩⟩).toArray 44)) w1 from hb1)
    have HE1 := hide (HB.out.trans (HW1.out.mono HB.out.size))
    clear hb1
    have hcx := one_cells (w := w) (cs := cRv ⟨k, op, rg, false, ⟨l, pA, pn, pc, ps⟩, ⟨gA, gn, gc, gL⟩⟩) (T := 44) HW1.out
    have x0 := hcx 0 (.int .i64 k) rfl
    have x1 := hcx 1 (.int .i64 op) rfl
    have x2 := hcx 2 (.int .i64 rg) rfl
    have x3 := hcx 3 (.bool false) rfl
    have x4 := hcx 4 (.int .i64 l) rfl
    have x5 := hcx 5 (.slice pA pn pc) rfl
    have x6 := hcx 6 (.slice gA gn gc) rfl
    clear hcx
    go_wp2
    go_ret
    exact ⟨rfl, HE1.out⟩
  ·
   obtain rfl : v = false := by
    rw [← hv]
    simp []
   clear hv
   clear h2
   go_enter Tryz.func83, Tryz.ntmps83
   go_wp2
   go_ret
   exact ⟨rfl, HB.out⟩
 ·
  have t2 : (rg == 0) = false := by simp [h2]
  obtain rfl : v = false := by
   rw [← hv]
   simp [h2]
  clear hv
  clear h2
  go_enter Tryz.func83, Tryz.ntmps83
  go_wp2
  go_ret
  exact ⟨rfl, HB.out⟩
theorem cNob_is {x : RvW} {v : Bool} (h : noB x.v = v) (w : World) (hx : OneRv w w.heap.size x) :
  Calls Tryz.prog 83 #[aggRv x] w fun e w' => e = .returned (.bool v) ∧ Below w.heap.size w w' := h ▸ cNob_any x w hx
set_option maxHeartbeats 2000000 in
set_option maxRecDepth 100000 in
theorem cZeroRv_any (x : RvW) (w : World) (h : OneRv w w.heap.size x) :
  Calls Tryz.prog 58 #[aggRv x] w fun e w' => e = .returned (.bool (noR x.v)) ∧ Below w.heap.size w w' := by
 obtain ⟨k, op, rg, mu, ⟨l, pA, pn, pc, ps⟩, ⟨gA, gn, gc, gL⟩⟩ := x
 have hgn : gL.length = gn := h.args.len
 obtain ⟨v, hv⟩ : ∃ v, noR (RvW.v ⟨k, op, rg, mu, ⟨l, pA, pn, pc, ps⟩, ⟨gA, gn, gc, gL⟩⟩) = v := ⟨_, rfl⟩
 rw [hv]
 rw [noR_eq] at hv
 simp only [RvW.v, List.length_map, hgn] at hv
 clear hgn
 generalize hN : noB (RvV.mk k op rg mu (PlW.v ⟨l, pA, pn, pc, ps⟩) (gL.map OpW.v)) = nb at hv
 have hN : noB (RvW.v ⟨k, op, rg, mu, ⟨l, pA, pn, pc, ps⟩, ⟨gA, gn, gc, gL⟩⟩) = nb := hN
 have HB := hide ((Below.refl w.heap.size w).alloc (Nat.le_refl _) (.cells (cRv ⟨k, op, rg, mu, ⟨l, pA, pn, pc, ps⟩, ⟨gA, gn, gc, gL⟩⟩).toArray 44))
 have HX := hide (h.up HB.out)
 clear h
 by_cases h0 : k = 0
 ·
  have t0 : (k == 0) = true := by simp [h0]
  by_cases h1 : op = 0
  ·
   have t1 : (op == 0) = true := by simp [h1]
   by_cases h2 : gn = 0
   ·
    have t2 : ((gn : Int) == 0) = true := by simp [h2]
    cases nb
    ·
     obtain rfl : v = false := by
      rw [← hv]
      simp []
     clear hv
     clear h0 h1 h2
     go_enter Tryz.func58, Tryz.ntmps58
     go_wp2_with fail
     refine (cNob_is (x := ⟨k, op, rg, mu, ⟨l, pA, pn, pc, ps⟩, ⟨gA, gn, gc, gL⟩⟩) hN _ HX.out).mono ?_
     rintro e w1 ⟨rfl, hb1⟩
     have HW1 := hide (show Below (w.alloc (.cells (cRv ⟨k, op, rg, mu, ⟨l, pA, pn, pc, ps⟩, ⟨gA, gn, gc, gL⟩⟩).toArray 44)).heap.size (w.alloc (.cells (cRv ⟨k, op, rg, mu, ⟨l, pA, pn, pc, ps⟩, ⟨gA, gn, gc, gL⟩⟩).toArray 44)) w1 from hb1)
     have HE1 := hide (HB.out.trans (HW1.out.mono HB.out.size))
     clear hb1
     have hcx := one_cells (w := w) (cs := cRv ⟨k, op, rg, mu, ⟨l, pA, pn, pc, ps⟩, ⟨gA, gn, gc, gL⟩⟩) (T := 44) HW1.out
     have x0 := hcx 0 (.int .i64 k) rfl
     have x1 := hcx 1 (.int .i64 op) rfl
     have x2 := hcx 2 (.int .i64 rg) rfl
     have x3 := hcx 3 (.bool mu) rfl
     have x4 := hcx 4 (.int .i64 l) rfl
     have x5 := hcx 5 (.slice pA pn pc) rfl
     have x6 := hcx 6 (.slice gA gn gc) rfl
     clear hcx
     go_wp2
     go_ret
     exact ⟨rfl, HE1.out⟩
    ·
     obtain rfl : v = true := by
      rw [← hv]
      simp [h0, h1, h2]
     clear hv
     clear h0 h1 h2
     go_enter Tryz.func58, Tryz.ntmps58
     go_wp2_with fail
     refine (cNob_is (x := ⟨k, op, rg, mu, ⟨l, pA, pn, pc, ps⟩, ⟨gA, gn, gc, gL⟩⟩) hN _ HX.out).mono ?_
     rintro e w1 ⟨rfl, hb1⟩
     have HW1 := hide (show Below (w.alloc (.cells (cRv ⟨k, op, rg, mu, ⟨l, pA, pn, pc, ps⟩, ⟨gA, gn, gc, gL⟩⟩).toArray 44)).heap.size (w.alloc (.cells (cRv ⟨k, op, rg, mu, ⟨l, pA, pn, pc, ps⟩, ⟨gA, gn, gc, gL⟩⟩).toArray 44)) w1 from hb1)
     have HE1 := hide (HB.out.trans (HW1.out.mono HB.out.size))
     clear hb1
     have hcx := one_cells (w := w) (cs := cRv ⟨k, op, rg, mu, ⟨l, pA, pn, pc, ps⟩, ⟨gA, gn, gc, gL⟩⟩) (T := 44) HW1.out
     have x0 := hcx 0 (.int .i64 k) rfl
     have x1 := hcx 1 (.int .i64 op) rfl
     have x2 := hcx 2 (.int .i64 rg) rfl
     have x3 := hcx 3 (.bool mu) rfl
     have x4 := hcx 4 (.int .i64 l) rfl
     have x5 := hcx 5 (.slice pA pn pc) rfl
     have x6 := hcx 6 (.slice gA gn gc) rfl
     clear hcx
     go_wp2
     go_ret
     exact ⟨rfl, HE1.out⟩
   ·
    have t2 : ((gn : Int) == 0) = false := by rw [beq_eq_false_iff_ne]; omega
    obtain rfl : v = false := by
     rw [← hv]
     simp [h2]
    clear hv
    clear h0 h1 h2
    go_enter Tryz.func58, Tryz.ntmps58
    go_wp2
    go_ret
    exact ⟨rfl, HB.out⟩
  ·
   have t1 : (op == 0) = false := by simp [h1]
   obtain rfl : v = false := by
    rw [← hv]
    simp [h1]
   clear hv
   clear h0 h1
   go_enter Tryz.func58, Tryz.ntmps58
   go_wp2
   go_ret
   exact ⟨rfl, HB.out⟩
 ·
  have t0 : (k == 0) = false := by simp [h0]
  obtain rfl : v = false := by
   rw [← hv]
   simp [h0]
  clear hv
  clear h0
  go_enter Tryz.func58, Tryz.ntmps58
  go_wp2
  go_ret
  exact ⟨rfl, HB.out⟩
theorem cZeroRv_is {x : RvW} {v : Bool} (h : noR x.v = v) (w : World) (hx : OneRv w w.heap.size x) :
  Calls Tryz.prog 58 #[aggRv x] w fun e w' => e = .returned (.bool v) ∧ Below w.heap.size w w' := h ▸ cZeroRv_any x w hx
set_option maxHeartbeats 2000000 in
set_option maxRecDepth 100000 in
theorem cRv_any (x : RvW) (w : World) (h : OneRv w w.heap.size x) :
  Calls Tryz.prog 85 #[aggRv x] w fun e w' => e = .returned (.int .i64 (shErr x.v)) ∧ Below w.heap.size w w' := by
 obtain ⟨k, op, rg, mu, ⟨l, pA, pn, pc, ps⟩, ⟨gA, gn, gc, gL⟩⟩ := x
 have hgn : gL.length = gn := h.args.len
 obtain ⟨v, hv⟩ : ∃ v, shErr (RvW.v ⟨k, op, rg, mu, ⟨l, pA, pn, pc, ps⟩, ⟨gA, gn, gc, gL⟩⟩) = v := ⟨_, rfl⟩
 rw [hv]
 rw [shErr_eq] at hv
 simp only [RvW.v, List.length_map, hgn] at hv
 clear hgn
 generalize hN : noB (RvV.mk k op rg mu (PlW.v ⟨l, pA, pn, pc, ps⟩) (gL.map OpW.v)) = nb at hv
 have hN : noB (RvW.v ⟨k, op, rg, mu, ⟨l, pA, pn, pc, ps⟩, ⟨gA, gn, gc, gL⟩⟩) = nb := hN
 by_cases hk : 0 ≤ k ∧ k ≤ 4
 ·
  have hk : k = 0 ∨ k = 1 ∨ k = 2 ∨ k = 3 ∨ k = 4 := by omega
  rcases hk with rfl | rfl | rfl | rfl | rfl
  ·
   -- kind 0
   have HB := hide ((Below.refl w.heap.size w).alloc (Nat.le_refl _) (.cells (cRv ⟨0, op, rg, mu, ⟨l, pA, pn, pc, ps⟩, ⟨gA, gn, gc, gL⟩⟩).toArray 44))
   have HX := hide (h.up HB.out)
   clear h
   by_cases hop : op = 0
   ·
    have top : (op == 0) = true := by simp [hop]
    cases nb
    ·
     obtain rfl : v = 2 := by
      rw [← hv]
      simp [hop]
     clear hv
     clear hop
     go_enter Tryz.func85, Tryz.ntmps85
     go_wp2_with fail
     refine (cNob_is (x := ⟨0, op, rg, mu, ⟨l, pA, pn, pc, ps⟩, ⟨gA, gn, gc, gL⟩⟩) hN _ HX.out).mono ?_
     rintro e w1 ⟨rfl, hb1⟩
     have HW1 := hide (show Below (w.alloc (.cells (cRv ⟨0, op, rg, mu, ⟨l, pA, pn, pc, ps⟩, ⟨gA, gn, gc, gL⟩⟩).toArray 44)).heap.size (w.alloc (.cells (cRv ⟨0, op, rg, mu, ⟨l, pA, pn, pc, ps⟩, ⟨gA, gn, gc, gL⟩⟩).toArray 44)) w1 from hb1)
     have HE1 := hide (HB.out.trans (HW1.out.mono HB.out.size))
     clear hb1
     have hcx := one_cells (w := w) (cs := cRv ⟨0, op, rg, mu, ⟨l, pA, pn, pc, ps⟩, ⟨gA, gn, gc, gL⟩⟩) (T := 44) HW1.out
     have x0 := hcx 0 (.int .i64 (0)) rfl
     have x1 := hcx 1 (.int .i64 op) rfl
     have x2 := hcx 2 (.int .i64 rg) rfl
     have x3 := hcx 3 (.bool mu) rfl
     have x4 := hcx 4 (.int .i64 l) rfl
     have x5 := hcx 5 (.slice pA pn pc) rfl
     have x6 := hcx 6 (.slice gA gn gc) rfl
     clear hcx
     go_wp2
     go_ret
     exact ⟨rfl, HE1.out⟩
    ·
     by_cases hl : gn = 1
     ·
      have tl : ((gn : Int) == 1) = true := by simp [hl]
      obtain rfl : v = 0 := by
       rw [← hv]
       simp [hop, hl]
      clear hv
      clear hop hl
      go_enter Tryz.func85, Tryz.ntmps85
      go_wp2_with fail
      refine (cNob_is (x := ⟨0, op, rg, mu, ⟨l, pA, pn, pc, ps⟩, ⟨gA, gn, gc, gL⟩⟩) hN _ HX.out).mono ?_
      rintro e w1 ⟨rfl, hb1⟩
      have HW1 := hide (show Below (w.alloc (.cells (cRv ⟨0, op, rg, mu, ⟨l, pA, pn, pc, ps⟩, ⟨gA, gn, gc, gL⟩⟩).toArray 44)).heap.size (w.alloc (.cells (cRv ⟨0, op, rg, mu, ⟨l, pA, pn, pc, ps⟩, ⟨gA, gn, gc, gL⟩⟩).toArray 44)) w1 from hb1)
      have HE1 := hide (HB.out.trans (HW1.out.mono HB.out.size))
      clear hb1
      have hcx := one_cells (w := w) (cs := cRv ⟨0, op, rg, mu, ⟨l, pA, pn, pc, ps⟩, ⟨gA, gn, gc, gL⟩⟩) (T := 44) HW1.out
      have x0 := hcx 0 (.int .i64 (0)) rfl
      have x1 := hcx 1 (.int .i64 op) rfl
      have x2 := hcx 2 (.int .i64 rg) rfl
      have x3 := hcx 3 (.bool mu) rfl
      have x4 := hcx 4 (.int .i64 l) rfl
      have x5 := hcx 5 (.slice pA pn pc) rfl
      have x6 := hcx 6 (.slice gA gn gc) rfl
      clear hcx
      go_wp2
      go_ret
      exact ⟨rfl, HE1.out⟩
     ·
      have tl : ((gn : Int) == 1) = false := by rw [beq_eq_false_iff_ne]; omega
      obtain rfl : v = 2 := by
       rw [← hv]
       simp [hop, hl]
      clear hv
      clear hop hl
      go_enter Tryz.func85, Tryz.ntmps85
      go_wp2_with fail
      refine (cNob_is (x := ⟨0, op, rg, mu, ⟨l, pA, pn, pc, ps⟩, ⟨gA, gn, gc, gL⟩⟩) hN _ HX.out).mono ?_
      rintro e w1 ⟨rfl, hb1⟩
      have HW1 := hide (show Below (w.alloc (.cells (cRv ⟨0, op, rg, mu, ⟨l, pA, pn, pc, ps⟩, ⟨gA, gn, gc, gL⟩⟩).toArray 44)).heap.size (w.alloc (.cells (cRv ⟨0, op, rg, mu, ⟨l, pA, pn, pc, ps⟩, ⟨gA, gn, gc, gL⟩⟩).toArray 44)) w1 from hb1)
      have HE1 := hide (HB.out.trans (HW1.out.mono HB.out.size))
      clear hb1
      have hcx := one_cells (w := w) (cs := cRv ⟨0, op, rg, mu, ⟨l, pA, pn, pc, ps⟩, ⟨gA, gn, gc, gL⟩⟩) (T := 44) HW1.out
      have x0 := hcx 0 (.int .i64 (0)) rfl
      have x1 := hcx 1 (.int .i64 op) rfl
      have x2 := hcx 2 (.int .i64 rg) rfl
      have x3 := hcx 3 (.bool mu) rfl
      have x4 := hcx 4 (.int .i64 l) rfl
      have x5 := hcx 5 (.slice pA pn pc) rfl
      have x6 := hcx 6 (.slice gA gn gc) rfl
      clear hcx
      go_wp2
      go_ret
      exact ⟨rfl, HE1.out⟩
   ·
    have top : (op == 0) = false := by simp [hop]
    obtain rfl : v = 2 := by
     rw [← hv]
     simp [hop]
    clear hv
    clear hop
    go_enter Tryz.func85, Tryz.ntmps85
    go_wp2
    go_ret
    exact ⟨rfl, HB.out⟩
  ·
   -- kind 1
   have HB := hide ((Below.refl w.heap.size w).alloc (Nat.le_refl _) (.cells (cRv ⟨1, op, rg, mu, ⟨l, pA, pn, pc, ps⟩, ⟨gA, gn, gc, gL⟩⟩).toArray 44))
   have HX := hide (h.up HB.out)
   clear h
   by_cases hop : op = 0
   ·
    have top : (op == 0) = true := by simp [hop]
    by_cases hl : gn = 0
    ·
     have tl : ((gn : Int) == 0) = true := by simp [hl]
     obtain rfl : v = 0 := by
      rw [← hv]
      simp [hop, hl]
     clear hv
     clear hop hl
     go_enter Tryz.func85, Tryz.ntmps85
     go_wp2
     go_ret
     exact ⟨rfl, HB.out⟩
    ·
     have tl : ((gn : Int) == 0) = false := by rw [beq_eq_false_iff_ne]; omega
     have hl2 : 0 < gn := by omega
     obtain rfl : v = 2 := by
      rw [← hv]
      simp [hop, hl, hl2]
     clear hv
     clear hop hl hl2
     go_enter Tryz.func85, Tryz.ntmps85
     go_wp2
     go_ret
     exact ⟨rfl, HB.out⟩
   ·
    have top : (op == 0) = false := by simp [hop]
    obtain rfl : v = 2 := by
     rw [← hv]
     simp [hop]
    clear hv
    clear hop
    go_enter Tryz.func85, Tryz.ntmps85
    go_wp2
    go_ret
    exact ⟨rfl, HB.out⟩
  ·
   -- kind 2
   have HB := hide ((Below.refl w.heap.size w).alloc (Nat.le_refl _) (.cells (cRv ⟨2, op, rg, mu, ⟨l, pA, pn, pc, ps⟩, ⟨gA, gn, gc, gL⟩⟩).toArray 44))
   have HX := hide (h.up HB.out)
   clear h
   cases nb
   ·
    obtain rfl : v = 2 := by
     rw [← hv]
     simp []
    clear hv
    go_enter Tryz.func85, Tryz.ntmps85
    go_wp2_with fail
    refine (cNob_is (x := ⟨2, op, rg, mu, ⟨l, pA, pn, pc, ps⟩, ⟨gA, gn, gc, gL⟩⟩) hN _ HX.out).mono ?_
    rintro e w1 ⟨rfl, hb1⟩
    have HW1 := hide (show Below (w.alloc (.cells (cRv ⟨2, op, rg, mu, ⟨l, pA, pn, pc, ps⟩, ⟨gA, gn, gc, gL⟩⟩).toArray 44)).heap.size (w.alloc (.cells (cRv ⟨2, op, rg, mu, ⟨l, pA, pn, pc, ps⟩, ⟨gA, gn, gc, gL⟩⟩).toArray 44)) w1 from hb1)
    have HE1 := hide (HB.out.trans (HW1.out.mono HB.out.size))
    clear hb1
    have hcx := one_cells (w := w) (cs := cRv ⟨2, op, rg, mu, ⟨l, pA, pn, pc, ps⟩, ⟨gA, gn, gc, gL⟩⟩) (T := 44) HW1.out
    have x0 := hcx 0 (.int .i64 (2)) rfl
    have x1 := hcx 1 (.int .i64 op) rfl
    have x2 := hcx 2 (.int .i64 rg) rfl
    have x3 := hcx 3 (.bool mu) rfl
    have x4 := hcx 4 (.int .i64 l) rfl
    have x5 := hcx 5 (.slice pA pn pc) rfl
    have x6 := hcx 6 (.slice gA gn gc) rfl
    clear hcx
    go_wp2
    go_ret
    exact ⟨rfl, HE1.out⟩
   ·
    by_cases hl : gn = 1
    ·
     have tl : ((gn : Int) == 1) = true := by simp [hl]
     obtain rfl : v = 0 := by
      rw [← hv]
      simp [hl]
     clear hv
     clear hl
     go_enter Tryz.func85, Tryz.ntmps85
     go_wp2_with fail
     refine (cNob_is (x := ⟨2, op, rg, mu, ⟨l, pA, pn, pc, ps⟩, ⟨gA, gn, gc, gL⟩⟩) hN _ HX.out).mono ?_
     rintro e w1 ⟨rfl, hb1⟩
     have HW1 := hide (show Below (w.alloc (.cells (cRv ⟨2, op, rg, mu, ⟨l, pA, pn, pc, ps⟩, ⟨gA, gn, gc, gL⟩⟩).toArray 44)).heap.size (w.alloc (.cells (cRv ⟨2, op, rg, mu, ⟨l, pA, pn, pc, ps⟩, ⟨gA, gn, gc, gL⟩⟩).toArray 44)) w1 from hb1)
     have HE1 := hide (HB.out.trans (HW1.out.mono HB.out.size))
     clear hb1
     have hcx := one_cells (w := w) (cs := cRv ⟨2, op, rg, mu, ⟨l, pA, pn, pc, ps⟩, ⟨gA, gn, gc, gL⟩⟩) (T := 44) HW1.out
     have x0 := hcx 0 (.int .i64 (2)) rfl
     have x1 := hcx 1 (.int .i64 op) rfl
     have x2 := hcx 2 (.int .i64 rg) rfl
     have x3 := hcx 3 (.bool mu) rfl
     have x4 := hcx 4 (.int .i64 l) rfl
     have x5 := hcx 5 (.slice pA pn pc) rfl
     have x6 := hcx 6 (.slice gA gn gc) rfl
     clear hcx
     go_wp2
     go_ret
     exact ⟨rfl, HE1.out⟩
    ·
     have tl : ((gn : Int) == 1) = false := by rw [beq_eq_false_iff_ne]; omega
     obtain rfl : v = 2 := by
      rw [← hv]
      simp [hl]
     clear hv
     clear hl
     go_enter Tryz.func85, Tryz.ntmps85
     go_wp2_with fail
     refine (cNob_is (x := ⟨2, op, rg, mu, ⟨l, pA, pn, pc, ps⟩, ⟨gA, gn, gc, gL⟩⟩) hN _ HX.out).mono ?_
     rintro e w1 ⟨rfl, hb1⟩
     have HW1 := hide (show Below (w.alloc (.cells (cRv ⟨2, op, rg, mu, ⟨l, pA, pn, pc, ps⟩, ⟨gA, gn, gc, gL⟩⟩).toArray 44)).heap.size (w.alloc (.cells (cRv ⟨2, op, rg, mu, ⟨l, pA, pn, pc, ps⟩, ⟨gA, gn, gc, gL⟩⟩).toArray 44)) w1 from hb1)
     have HE1 := hide (HB.out.trans (HW1.out.mono HB.out.size))
     clear hb1
     have hcx := one_cells (w := w) (cs := cRv ⟨2, op, rg, mu, ⟨l, pA, pn, pc, ps⟩, ⟨gA, gn, gc, gL⟩⟩) (T := 44) HW1.out
     have x0 := hcx 0 (.int .i64 (2)) rfl
     have x1 := hcx 1 (.int .i64 op) rfl
     have x2 := hcx 2 (.int .i64 rg) rfl
     have x3 := hcx 3 (.bool mu) rfl
     have x4 := hcx 4 (.int .i64 l) rfl
     have x5 := hcx 5 (.slice pA pn pc) rfl
     have x6 := hcx 6 (.slice gA gn gc) rfl
     clear hcx
     go_wp2
     go_ret
     exact ⟨rfl, HE1.out⟩
  ·
   -- kind 3
   have HB := hide ((Below.refl w.heap.size w).alloc (Nat.le_refl _) (.cells (cRv ⟨3, op, rg, mu, ⟨l, pA, pn, pc, ps⟩, ⟨gA, gn, gc, gL⟩⟩).toArray 44))
   have HX := hide (h.up HB.out)
   clear h
   cases nb
   ·
    obtain rfl : v = 2 := by
     rw [← hv]
     simp []
    clear hv
    go_enter Tryz.func85, Tryz.ntmps85
    go_wp2_with fail
    refine (cNob_is (x := ⟨3, op, rg, mu, ⟨l, pA, pn, pc, ps⟩, ⟨gA, gn, gc, gL⟩⟩) hN _ HX.out).mono ?_
    rintro e w1 ⟨rfl, hb1⟩
    have HW1 := hide (show Below (w.alloc (.cells (cRv ⟨3, op, rg, mu, ⟨l, pA, pn, pc, ps⟩, ⟨gA, gn, gc, gL⟩⟩).toArray 44)).heap.size (w.alloc (.cells (cRv ⟨3, op, rg, mu, ⟨l, pA, pn, pc, ps⟩, ⟨gA, gn, gc, gL⟩⟩).toArray 44)) w1 from hb1)
    have HE1 := hide (HB.out.trans (HW1.out.mono HB.out.size))
    clear hb1
    have hcx := one_cells (w := w) (cs := cRv ⟨3, op, rg, mu, ⟨l, pA, pn, pc, ps⟩, ⟨gA, gn, gc, gL⟩⟩) (T := 44) HW1.out
    have x0 := hcx 0 (.int .i64 (3)) rfl
    have x1 := hcx 1 (.int .i64 op) rfl
    have x2 := hcx 2 (.int .i64 rg) rfl
    have x3 := hcx 3 (.bool mu) rfl
    have x4 := hcx 4 (.int .i64 l) rfl
    have x5 := hcx 5 (.slice pA pn pc) rfl
    have x6 := hcx 6 (.slice gA gn gc) rfl
    clear hcx
    go_wp2
    go_ret
    exact ⟨rfl, HE1.out⟩
   ·
    by_cases hl : gn = 2
    ·
     have tl : ((gn : Int) == 2) = true := by simp [hl]
     obtain rfl : v = 0 := by
      rw [← hv]
      simp [hl]
     clear hv
     clear hl
     go_enter Tryz.func85, Tryz.ntmps85
     go_wp2_with fail
     refine (cNob_is (x := ⟨3, op, rg, mu, ⟨l, pA, pn, pc, ps⟩, ⟨gA, gn, gc, gL⟩⟩) hN _ HX.out).mono ?_
     rintro e w1 ⟨rfl, hb1⟩
     have HW1 := hide (show Below (w.alloc (.cells (cRv ⟨3, op, rg, mu, ⟨l, pA, pn, pc, ps⟩, ⟨gA, gn, gc, gL⟩⟩).toArray 44)).heap.size (w.alloc (.cells (cRv ⟨3, op, rg, mu, ⟨l, pA, pn, pc, ps⟩, ⟨gA, gn, gc, gL⟩⟩).toArray 44)) w1 from hb1)
     have HE1 := hide (HB.out.trans (HW1.out.mono HB.out.size))
     clear hb1
     have hcx := one_cells (w := w) (cs := cRv ⟨3, op, rg, mu, ⟨l, pA, pn, pc, ps⟩, ⟨gA, gn, gc, gL⟩⟩) (T := 44) HW1.out
     have x0 := hcx 0 (.int .i64 (3)) rfl
     have x1 := hcx 1 (.int .i64 op) rfl
     have x2 := hcx 2 (.int .i64 rg) rfl
     have x3 := hcx 3 (.bool mu) rfl
     have x4 := hcx 4 (.int .i64 l) rfl
     have x5 := hcx 5 (.slice pA pn pc) rfl
     have x6 := hcx 6 (.slice gA gn gc) rfl
     clear hcx
     go_wp2
     go_ret
     exact ⟨rfl, HE1.out⟩
    ·
     have tl : ((gn : Int) == 2) = false := by rw [beq_eq_false_iff_ne]; omega
     obtain rfl : v = 2 := by
      rw [← hv]
      simp [hl]
     clear hv
     clear hl
     go_enter Tryz.func85, Tryz.ntmps85
     go_wp2_with fail
     refine (cNob_is (x := ⟨3, op, rg, mu, ⟨l, pA, pn, pc, ps⟩, ⟨gA, gn, gc, gL⟩⟩) hN _ HX.out).mono ?_
     rintro e w1 ⟨rfl, hb1⟩
     have HW1 := hide (show Below (w.alloc (.cells (cRv ⟨3, op, rg, mu, ⟨l, pA, pn, pc, ps⟩, ⟨gA, gn, gc, gL⟩⟩).toArray 44)).heap.size (w.alloc (.cells (cRv ⟨3, op, rg, mu, ⟨l, pA, pn, pc, ps⟩, ⟨gA, gn, gc, gL⟩⟩).toArray 44)) w1 from hb1)
     have HE1 := hide (HB.out.trans (HW1.out.mono HB.out.size))
     clear hb1
     have hcx := one_cells (w := w) (cs := cRv ⟨3, op, rg, mu, ⟨l, pA, pn, pc, ps⟩, ⟨gA, gn, gc, gL⟩⟩) (T := 44) HW1.out
     have x0 := hcx 0 (.int .i64 (3)) rfl
     have x1 := hcx 1 (.int .i64 op) rfl
     have x2 := hcx 2 (.int .i64 rg) rfl
     have x3 := hcx 3 (.bool mu) rfl
     have x4 := hcx 4 (.int .i64 l) rfl
     have x5 := hcx 5 (.slice pA pn pc) rfl
     have x6 := hcx 6 (.slice gA gn gc) rfl
     clear hcx
     go_wp2
     go_ret
     exact ⟨rfl, HE1.out⟩
  ·
   -- kind 4
   have HB := hide ((Below.refl w.heap.size w).alloc (Nat.le_refl _) (.cells (cRv ⟨4, op, rg, mu, ⟨l, pA, pn, pc, ps⟩, ⟨gA, gn, gc, gL⟩⟩).toArray 44))
   have HX := hide (h.up HB.out)
   clear h
   by_cases hop : op = 0
   ·
    have top : (op == 0) = true := by simp [hop]
    cases nb
    ·
     obtain rfl : v = 2 := by
      rw [← hv]
      simp [hop]
     clear hv
     clear hop
     go_enter Tryz.func85, Tryz.ntmps85
     go_wp2_with fail
     refine (cNob_is (x := ⟨4, op, rg, mu, ⟨l, pA, pn, pc, ps⟩, ⟨gA, gn, gc, gL⟩⟩) hN _ HX.out).mono ?_
     rintro e w1 ⟨rfl, hb1⟩
     have HW1 := hide (show Below (w.alloc (.cells (cRv ⟨4, op, rg, mu, ⟨l, pA, pn, pc, ps⟩, ⟨gA, gn, gc, gL⟩⟩).toArray 44)).heap.size (w.alloc (.cells (cRv ⟨4, op, rg, mu, ⟨l, pA, pn, pc, ps⟩, ⟨gA, gn, gc, gL⟩⟩).toArray 44)) w1 from hb1)
     have HE1 := hide (HB.out.trans (HW1.out.mono HB.out.size))
     clear hb1
     have hcx := one_cells (w := w) (cs := cRv ⟨4, op, rg, mu, ⟨l, pA, pn, pc, ps⟩, ⟨gA, gn, gc, gL⟩⟩) (T := 44) HW1.out
     have x0 := hcx 0 (.int .i64 (4)) rfl
     have x1 := hcx 1 (.int .i64 op) rfl
     have x2 := hcx 2 (.int .i64 rg) rfl
     have x3 := hcx 3 (.bool mu) rfl
     have x4 := hcx 4 (.int .i64 l) rfl
     have x5 := hcx 5 (.slice pA pn pc) rfl
     have x6 := hcx 6 (.slice gA gn gc) rfl
     clear hcx
     go_wp2
     go_ret
     exact ⟨rfl, HE1.out⟩
    ·
     obtain rfl : v = 0 := by
      rw [← hv]
      simp [hop]
     clear hv
     clear hop
     go_enter Tryz.func85, Tryz.ntmps85
     go_wp2_with fail
     refine (cNob_is (x := ⟨4, op, rg, mu, ⟨l, pA, pn, pc, ps⟩, ⟨gA, gn, gc, gL⟩⟩) hN _ HX.out).mono ?_
     rintro e w1 ⟨rfl, hb1⟩
     have HW1 := hide (show Below (w.alloc (.cells (cRv ⟨4, op, rg, mu, ⟨l, pA, pn, pc, ps⟩, ⟨gA, gn, gc, gL⟩⟩).toArray 44)).heap.size (w.alloc (.cells (cRv ⟨4, op, rg, mu, ⟨l, pA, pn, pc, ps⟩, ⟨gA, gn, gc, gL⟩⟩).toArray 44)) w1 from hb1)
     have HE1 := hide (HB.out.trans (HW1.out.mono HB.out.size))
     clear hb1
     have hcx := one_cells (w := w) (cs := cRv ⟨4, op, rg, mu, ⟨l, pA, pn, pc, ps⟩, ⟨gA, gn, gc, gL⟩⟩) (T := 44) HW1.out
     have x0 := hcx 0 (.int .i64 (4)) rfl
     have x1 := hcx 1 (.int .i64 op) rfl
     have x2 := hcx 2 (.int .i64 rg) rfl
     have x3 := hcx 3 (.bool mu) rfl
     have x4 := hcx 4 (.int .i64 l) rfl
     have x5 := hcx 5 (.slice pA pn pc) rfl
     have x6 := hcx 6 (.slice gA gn gc) rfl
     clear hcx
     go_wp2
     go_ret
     exact ⟨rfl, HE1.out⟩
   ·
    have top : (op == 0) = false := by simp [hop]
    obtain rfl : v = 2 := by
     rw [← hv]
     simp [hop]
    clear hv
    clear hop
    go_enter Tryz.func85, Tryz.ntmps85
    go_wp2
    go_ret
    exact ⟨rfl, HB.out⟩
 ·
  have hk2 : k < 0 ∨ 4 < k := by omega
  rw [if_pos hk2] at hv
  subst hv
  have t0 : (k == 0) = false := by rw [beq_eq_false_iff_ne]; omega
  have t1 : (k == 1) = false := by rw [beq_eq_false_iff_ne]; omega
  have t2 : (k == 2) = false := by rw [beq_eq_false_iff_ne]; omega
  have t3 : (k == 3) = false := by rw [beq_eq_false_iff_ne]; omega
  have t4 : (k == 4) = false := by rw [beq_eq_false_iff_ne]; omega
  clear hk hk2
  have HB := hide ((Below.refl w.heap.size w).alloc (Nat.le_refl _) (.cells (cRv ⟨k, op, rg, mu, ⟨l, pA, pn, pc, ps⟩, ⟨gA, gn, gc, gL⟩⟩).toArray 44))
  have HX := hide (h.up HB.out)
  clear h
  go_enter Tryz.func85, Tryz.ntmps85
  go_wp2
  go_ret
  exact ⟨rfl, HB.out⟩
theorem cRv_is {x : RvW} {v : Int} (h : shErr x.v = v) (w : World) (hx : OneRv w w.heap.size x) :
  Calls Tryz.prog 85 #[aggRv x] w fun e w' => e = .returned (.int .i64 v) ∧ Below w.heap.size w w' := h ▸ cRv_any x w hx
end Go.Proofs.YtfgacmgjpikgaaaGreatDoor
