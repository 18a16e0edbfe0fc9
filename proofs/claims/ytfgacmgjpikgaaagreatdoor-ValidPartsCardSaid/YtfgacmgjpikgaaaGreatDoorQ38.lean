/- Part 39 of the contracts and their mathematics. -/
import Derived.Test.YtfgacmgjpikgaaaGreatDoorQ20
import Derived.Test.YtfgacmgjpikgaaaGreatDoorQ37
set_option linter.unusedVariables false
set_option linter.unusedSimpArgs false
namespace Go.Proofs.YtfgacmgjpikgaaaGreatDoor
open Go.RowKit
theorem toList_empty : ByteArray.empty.toList = [] := by
 unfold ByteArray.toList
 unfold ByteArray.toList.loop
 simp
theorem emptyS {s : ByteArray} (h : s = .empty) : s.toList.isEmpty = true := by rw [h, toList_empty]; rfl
theorem emptyS_not {s : ByteArray} (h : ¬ s = .empty) : s.toList.isEmpty = false := by
 have h1 := eqS_def s .empty
 rw [decide_eq_false h, toList_empty] at h1
 rw [List.isEmpty_eq_false_iff]
 intro e
 rw [e] at h1
 cases h1
def tmSh (t : TmV) : Int :=
 if t.kind < 0 ∨ 5 < t.kind then 14
 else if t.targets.length ≠ tmTgs t.kind ∨ (t.kind ≠ 3 ∧ t.name ≠ .empty) ∨ (t.kind ≠ 3 ∧ t.kind ≠ 4 ∧ noP t.pl = false) ∨ (t.kind = 1 ∧ t.args.length ≠ 1) ∨ (t.kind ≠ 1 ∧ t.kind ≠ 3 ∧ 0 < t.args.length) then 2
 else 0
set_option maxHeartbeats 4000000 in
set_option maxRecDepth 100000 in
theorem cTm_any (x : TmW) (w : World) (h : OneTm w w.heap.size x) :
  Calls Tryz.prog 65 #[aggTm x] w fun e w' => e = .returned (.int .i64 (tmSh x.v)) ∧ Below w.heap.size w w' := by
 obtain ⟨k, ⟨tA, tn, tc, tL⟩, ⟨gA, gn, gc, gL⟩, ⟨l, pA, pn, pc, ps⟩, nm⟩ := x
 have hgn : gL.length = gn := h.args.len
 have htn : tL.length = tn := h.targets.len
 obtain ⟨v, hv⟩ : ∃ v, tmSh (TmW.v ⟨k, ⟨tA, tn, tc, tL⟩, ⟨gA, gn, gc, gL⟩, ⟨l, pA, pn, pc, ps⟩, nm⟩) = v := ⟨_, rfl⟩
 rw [hv]
 unfold tmSh at hv
 simp only [TmW.v, List.length_map, hgn, htn] at hv
 clear hgn htn
 by_cases hk : 0 ≤ k ∧ k ≤ 5
 ·
  have hk : k = 0 ∨ k = 1 ∨ k = 2 ∨ k = 3 ∨ k = 4 ∨ k = 5 := by omega
  rcases hk with rfl | rfl | rfl | rfl | rfl | rfl
  ·
   -- kind 0
   have HB := hide ((Below.refl w.heap.size w).alloc (Nat.le_refl _) (.cells (cTm ⟨0, ⟨tA, tn, tc, tL⟩, ⟨gA, gn, gc, gL⟩, ⟨l, pA, pn, pc, ps⟩, nm⟩).toArray 50))
   have HX := hide (h.up HB.out)
   clear h
   by_cases he : nm = .empty
   ·
    have te : nm.toList.isEmpty = true := emptyS he
    by_cases hz : noP (PlW.v ⟨l, pA, pn, pc, ps⟩) = true
    ·
     by_cases htn : tn = 1
     ·
      have ttn : ((tn : Int) == 1) = true := by simp [htn]
      by_cases hgn : gn = 0
      ·
       have tgn : ((gn : Int) == 0) = true := by simp [hgn]
       obtain rfl : v = 0 := by
        rw [← hv]
        simp [tmTgs, he, hz, htn, hgn]
       clear hv
       clear he htn hgn
       go_enter Tryz.func65, Tryz.ntmps65
       go_wp2_with fail
       refine (cZero_is (x := ⟨l, pA, pn, pc, ps⟩) hz _ HX.out.pl).mono ?_
       rintro e w1 ⟨rfl, hb1⟩
       have HW1 := hide (show Below (w.alloc (.cells (cTm ⟨0, ⟨tA, tn, tc, tL⟩, ⟨gA, gn, gc, gL⟩, ⟨l, pA, pn, pc, ps⟩, nm⟩).toArray 50)).heap.size (w.alloc (.cells (cTm ⟨0, ⟨tA, tn, tc, tL⟩, ⟨gA, gn, gc, gL⟩, ⟨l, pA, pn, pc, ps⟩, nm⟩).toArray 50)) w1 from hb1)
       have HE1 := hide (HB.out.trans (HW1.out.mono HB.out.size))
       clear hb1
       have hcx := one_cells (w := w) (cs := cTm ⟨0, ⟨tA, tn, tc, tL⟩, ⟨gA, gn, gc, gL⟩, ⟨l, pA, pn, pc, ps⟩, nm⟩) (T := 50) HW1.out
       have x0 := hcx 0 (.int .i64 (0)) rfl
       have x1 := hcx 1 (.slice tA tn tc) rfl
       have x2 := hcx 2 (.slice gA gn gc) rfl
       have x3 := hcx 3 (.int .i64 l) rfl
       have x4 := hcx 4 (.slice pA pn pc) rfl
       have x5 := hcx 5 (.string nm) rfl
       clear hcx
       go_wp2
       go_quiet (fail)
       go_wp2
       go_ret
       exact ⟨rfl, below_drewN HE1.out _⟩
      ·
       have tgn : ((gn : Int) == 0) = false := by rw [beq_eq_false_iff_ne]; omega
       have hgnp : 0 < gn := by omega
       obtain rfl : v = 2 := by
        rw [← hv]
        simp [tmTgs, he, hz, htn, hgn, hgnp]
       clear hv
       clear he htn hgn hgnp
       go_enter Tryz.func65, Tryz.ntmps65
       go_wp2_with fail
       refine (cZero_is (x := ⟨l, pA, pn, pc, ps⟩) hz _ HX.out.pl).mono ?_
       rintro e w1 ⟨rfl, hb1⟩
       have HW1 := hide (show Below (w.alloc (.cells (cTm ⟨0, ⟨tA, tn, tc, tL⟩, ⟨gA, gn, gc, gL⟩, ⟨l, pA, pn, pc, ps⟩, nm⟩).toArray 50)).heap.size (w.alloc (.cells (cTm ⟨0, ⟨tA, tn, tc, tL⟩, ⟨gA, gn, gc, gL⟩, ⟨l, pA, pn, pc, ps⟩, nm⟩).toArray 50)) w1 from hb1)
       have HE1 := hide (HB.out.trans (HW1.out.mono HB.out.size))
       clear hb1
       have hcx := one_cells (w := w) (cs := cTm ⟨0, ⟨tA, tn, tc, tL⟩, ⟨gA, gn, gc, gL⟩, ⟨l, pA, pn, pc, ps⟩, nm⟩) (T := 50) HW1.out
       have x0 := hcx 0 (.int .i64 (0)) rfl
       have x1 := hcx 1 (.slice tA tn tc) rfl
       have x2 := hcx 2 (.slice gA gn gc) rfl
       have x3 := hcx 3 (.int .i64 l) rfl
       have x4 := hcx 4 (.slice pA pn pc) rfl
       have x5 := hcx 5 (.string nm) rfl
       clear hcx
       go_wp2
       go_quiet (fail)
       go_wp2
       go_ret
       exact ⟨rfl, below_drewN HE1.out _⟩
     ·
      have ttn : ((tn : Int) == 1) = false := by rw [beq_eq_false_iff_ne]; omega
      obtain rfl : v = 2 := by
       rw [← hv]
       simp [tmTgs, he, hz, htn]
      clear hv
      clear he htn
      go_enter Tryz.func65, Tryz.ntmps65
      go_wp2_with fail
      refine (cZero_is (x := ⟨l, pA, pn, pc, ps⟩) hz _ HX.out.pl).mono ?_
      rintro e w1 ⟨rfl, hb1⟩
      have HW1 := hide (show Below (w.alloc (.cells (cTm ⟨0, ⟨tA, tn, tc, tL⟩, ⟨gA, gn, gc, gL⟩, ⟨l, pA, pn, pc, ps⟩, nm⟩).toArray 50)).heap.size (w.alloc (.cells (cTm ⟨0, ⟨tA, tn, tc, tL⟩, ⟨gA, gn, gc, gL⟩, ⟨l, pA, pn, pc, ps⟩, nm⟩).toArray 50)) w1 from hb1)
      have HE1 := hide (HB.out.trans (HW1.out.mono HB.out.size))
      clear hb1
      have hcx := one_cells (w := w) (cs := cTm ⟨0, ⟨tA, tn, tc, tL⟩, ⟨gA, gn, gc, gL⟩, ⟨l, pA, pn, pc, ps⟩, nm⟩) (T := 50) HW1.out
      have x0 := hcx 0 (.int .i64 (0)) rfl
      have x1 := hcx 1 (.slice tA tn tc) rfl
      have x2 := hcx 2 (.slice gA gn gc) rfl
      have x3 := hcx 3 (.int .i64 l) rfl
      have x4 := hcx 4 (.slice pA pn pc) rfl
      have x5 := hcx 5 (.string nm) rfl
      clear hcx
      go_wp2
      go_quiet (fail)
      go_wp2
      go_ret
      exact ⟨rfl, below_drewN HE1.out _⟩
    ·
     have hz : noP (PlW.v ⟨l, pA, pn, pc, ps⟩) = false := by simpa using hz
     obtain rfl : v = 2 := by
      rw [← hv]
      simp [tmTgs, he, hz]
     clear hv
     clear he
     go_enter Tryz.func65, Tryz.ntmps65
     go_wp2_with fail
     refine (cZero_is (x := ⟨l, pA, pn, pc, ps⟩) hz _ HX.out.pl).mono ?_
     rintro e w1 ⟨rfl, hb1⟩
     have HW1 := hide (show Below (w.alloc (.cells (cTm ⟨0, ⟨tA, tn, tc, tL⟩, ⟨gA, gn, gc, gL⟩, ⟨l, pA, pn, pc, ps⟩, nm⟩).toArray 50)).heap.size (w.alloc (.cells (cTm ⟨0, ⟨tA, tn, tc, tL⟩, ⟨gA, gn, gc, gL⟩, ⟨l, pA, pn, pc, ps⟩, nm⟩).toArray 50)) w1 from hb1)
     have HE1 := hide (HB.out.trans (HW1.out.mono HB.out.size))
     clear hb1
     have hcx := one_cells (w := w) (cs := cTm ⟨0, ⟨tA, tn, tc, tL⟩, ⟨gA, gn, gc, gL⟩, ⟨l, pA, pn, pc, ps⟩, nm⟩) (T := 50) HW1.out
     have x0 := hcx 0 (.int .i64 (0)) rfl
     have x1 := hcx 1 (.slice tA tn tc) rfl
     have x2 := hcx 2 (.slice gA gn gc) rfl
     have x3 := hcx 3 (.int .i64 l) rfl
     have x4 := hcx 4 (.slice pA pn pc) rfl
     have x5 := hcx 5 (.string nm) rfl
     clear hcx
     go_wp2
     go_quiet (fail)
     go_wp2
     go_ret
     exact ⟨rfl, below_drewN HE1.out _⟩
   ·
    have te : nm.toList.isEmpty = false := emptyS_not he
    obtain rfl : v = 2 := by
     rw [← hv]
     simp [tmTgs, he]
    clear hv
    clear he
    go_enter Tryz.func65, Tryz.ntmps65
    have HE1 := HB
    have hcx := one_cells (w := w) (cs := cTm ⟨0, ⟨tA, tn, tc, tL⟩, ⟨gA, gn, gc, gL⟩, ⟨l, pA, pn, pc, ps⟩, nm⟩) (T := 50) (Below.refl _ _)
    have x0 := hcx 0 (.int .i64 (0)) rfl
    have x1 := hcx 1 (.slice tA tn tc) rfl
    have x2 := hcx 2 (.slice gA gn gc) rfl
    have x3 := hcx 3 (.int .i64 l) rfl
    have x4 := hcx 4 (.slice pA pn pc) rfl
    have x5 := hcx 5 (.string nm) rfl
    clear hcx
    go_wp2
    go_quiet (fail)
    go_wp2
    go_ret
    exact ⟨rfl, below_drewN HE1.out _⟩
  ·
   -- kind 1
   have HB := hide ((Below.refl w.heap.size w).alloc (Nat.le_refl _) (.cells (cTm ⟨1, ⟨tA, tn, tc, tL⟩, ⟨gA, gn, gc, gL⟩, ⟨l, pA, pn, pc, ps⟩, nm⟩).toArray 50))
   have HX := hide (h.up HB.out)
   clear h
   by_cases he : nm = .empty
   ·
    have te : nm.toList.isEmpty = true := emptyS he
    by_cases hz : noP (PlW.v ⟨l, pA, pn, pc, ps⟩) = true
    ·
     by_cases htn : tn = 2
     ·
      have ttn : ((tn : Int) == 2) = true := by simp [htn]
      by_cases hgn : gn = 1
      ·
       have tgn : ((gn : Int) == 1) = true := by simp [hgn]
       obtain rfl : v = 0 := by
        rw [← hv]
        simp [tmTgs, he, hz, htn, hgn]
       clear hv
       clear he htn hgn
       go_enter Tryz.func65, Tryz.ntmps65
       go_wp2_with fail
       refine (cZero_is (x := ⟨l, pA, pn, pc, ps⟩) hz _ HX.out.pl).mono ?_
       rintro e w1 ⟨rfl, hb1⟩
       have HW1 := hide (show Below (w.alloc (.cells (cTm ⟨1, ⟨tA, tn, tc, tL⟩, ⟨gA, gn, gc, gL⟩, ⟨l, pA, pn, pc, ps⟩, nm⟩).toArray 50)).heap.size (w.alloc (.cells (cTm ⟨1, ⟨tA, tn, tc, tL⟩, ⟨gA, gn, gc, gL⟩, ⟨l, pA, pn, pc, ps⟩, nm⟩).toArray 50)) w1 from hb1)
       have HE1 := hide (HB.out.trans (HW1.out.mono HB.out.size))
       clear hb1
       have hcx := one_cells (w := w) (cs := cTm ⟨1, ⟨tA, tn, tc, tL⟩, ⟨gA, gn, gc, gL⟩, ⟨l, pA, pn, pc, ps⟩, nm⟩) (T := 50) HW1.out
       have x0 := hcx 0 (.int .i64 (1)) rfl
       have x1 := hcx 1 (.slice tA tn tc) rfl
       have x2 := hcx 2 (.slice gA gn gc) rfl
       have x3 := hcx 3 (.int .i64 l) rfl
       have x4 := hcx 4 (.slice pA pn pc) rfl
       have x5 := hcx 5 (.string nm) rfl
       clear hcx
       go_wp2
       go_quiet (fail)
       go_wp2
       go_ret
       exact ⟨rfl, below_drewN HE1.out _⟩
      ·
       have tgn : ((gn : Int) == 1) = false := by rw [beq_eq_false_iff_ne]; omega
       obtain rfl : v = 2 := by
        rw [← hv]
        simp [tmTgs, he, hz, htn, hgn]
       clear hv
       clear he htn hgn
       go_enter Tryz.func65, Tryz.ntmps65
       go_wp2_with fail
       refine (cZero_is (x := ⟨l, pA, pn, pc, ps⟩) hz _ HX.out.pl).mono ?_
       rintro e w1 ⟨rfl, hb1⟩
       have HW1 := hide (show Below (w.alloc (.cells (cTm ⟨1, ⟨tA, tn, tc, tL⟩, ⟨gA, gn, gc, gL⟩, ⟨l, pA, pn, pc, ps⟩, nm⟩).toArray 50)).heap.size (w.alloc (.cells (cTm ⟨1, ⟨tA, tn, tc, tL⟩, ⟨gA, gn, gc, gL⟩, ⟨l, pA, pn, pc, ps⟩, nm⟩).toArray 50)) w1 from hb1)
       have HE1 := hide (HB.out.trans (HW1.out.mono HB.out.size))
       clear hb1
       have hcx := one_cells (w := w) (cs := cTm ⟨1, ⟨tA, tn, tc, tL⟩, ⟨gA, gn, gc, gL⟩, ⟨l, pA, pn, pc, ps⟩, nm⟩) (T := 50) HW1.out
       have x0 := hcx 0 (.int .i64 (1)) rfl
       have x1 := hcx 1 (.slice tA tn tc) rfl
       have x2 := hcx 2 (.slice gA gn gc) rfl
       have x3 := hcx 3 (.int .i64 l) rfl
       have x4 := hcx 4 (.slice pA pn pc) rfl
       have x5 := hcx 5 (.string nm) rfl
       clear hcx
       go_wp2
       go_quiet (fail)
       go_wp2
       go_ret
       exact ⟨rfl, below_drewN HE1.out _⟩
     ·
      have ttn : ((tn : Int) == 2) = false := by rw [beq_eq_false_iff_ne]; omega
      obtain rfl : v = 2 := by
       rw [← hv]
       simp [tmTgs, he, hz, htn]
      clear hv
      clear he htn
      go_enter Tryz.func65, Tryz.ntmps65
      go_wp2_with fail
      refine (cZero_is (x := ⟨l, pA, pn, pc, ps⟩) hz _ HX.out.pl).mono ?_
      rintro e w1 ⟨rfl, hb1⟩
      have HW1 := hide (show Below (w.alloc (.cells (cTm ⟨1, ⟨tA, tn, tc, tL⟩, ⟨gA, gn, gc, gL⟩, ⟨l, pA, pn, pc, ps⟩, nm⟩).toArray 50)).heap.size (w.alloc (.cells (cTm ⟨1, ⟨tA, tn, tc, tL⟩, ⟨gA, gn, gc, gL⟩, ⟨l, pA, pn, pc, ps⟩, nm⟩).toArray 50)) w1 from hb1)
      have HE1 := hide (HB.out.trans (HW1.out.mono HB.out.size))
      clear hb1
      have hcx := one_cells (w := w) (cs := cTm ⟨1, ⟨tA, tn, tc, tL⟩, ⟨gA, gn, gc, gL⟩, ⟨l, pA, pn, pc, ps⟩, nm⟩) (T := 50) HW1.out
      have x0 := hcx 0 (.int .i64 (1)) rfl
      have x1 := hcx 1 (.slice tA tn tc) rfl
      have x2 := hcx 2 (.slice gA gn gc) rfl
      have x3 := hcx 3 (.int .i64 l) rfl
      have x4 := hcx 4 (.slice pA pn pc) rfl
      have x5 := hcx 5 (.string nm) rfl
      clear hcx
      go_wp2
      go_quiet (fail)
      go_wp2
      go_ret
      exact ⟨rfl, below_drewN HE1.out _⟩
    ·
     have hz : noP (PlW.v ⟨l, pA, pn, pc, ps⟩) = false := by simpa using hz
     obtain rfl : v = 2 := by
      rw [← hv]
      simp [tmTgs, he, hz]
     clear hv
     clear he
     go_enter Tryz.func65, Tryz.ntmps65
     go_wp2_with fail
     refine (cZero_is (x := ⟨l, pA, pn, pc, ps⟩) hz _ HX.out.pl).mono ?_
     rintro e w1 ⟨rfl, hb1⟩
     have HW1 := hide (show Below (w.alloc (.cells (cTm ⟨1, ⟨tA, tn, tc, tL⟩, ⟨gA, gn, gc, gL⟩, ⟨l, pA, pn, pc, ps⟩, nm⟩).toArray 50)).heap.size (w.alloc (.cells (cTm ⟨1, ⟨tA, tn, tc, tL⟩, ⟨gA, gn, gc, gL⟩, ⟨l, pA, pn, pc, ps⟩, nm⟩).toArray 50)) w1 from hb1)
     have HE1 := hide (HB.out.trans (HW1.out.mono HB.out.size))
     clear hb1
     have hcx := one_cells (w := w) (cs := cTm ⟨1, ⟨tA, tn, tc, tL⟩, ⟨gA, gn, gc, gL⟩, ⟨l, pA, pn, pc, ps⟩, nm⟩) (T := 50) HW1.out
     have x0 := hcx 0 (.int .i64 (1)) rfl
     have x1 := hcx 1 (.slice tA tn tc) rfl
     have x2 := hcx 2 (.slice gA gn gc) rfl
     have x3 := hcx 3 (.int .i64 l) rfl
     have x4 := hcx 4 (.slice pA pn pc) rfl
     have x5 := hcx 5 (.string nm) rfl
     clear hcx
     go_wp2
     go_quiet (fail)
     go_wp2
     go_ret
     exact ⟨rfl, below_drewN HE1.out _⟩
   ·
    have te : nm.toList.isEmpty = false := emptyS_not he
    obtain rfl : v = 2 := by
     rw [← hv]
     simp [tmTgs, he]
    clear hv
    clear he
    go_enter Tryz.func65, Tryz.ntmps65
    have HE1 := HB
    have hcx := one_cells (w := w) (cs := cTm ⟨1, ⟨tA, tn, tc, tL⟩, ⟨gA, gn, gc, gL⟩, ⟨l, pA, pn, pc, ps⟩, nm⟩) (T := 50) (Below.refl _ _)
    have x0 := hcx 0 (.int .i64 (1)) rfl
    have x1 := hcx 1 (.slice tA tn tc) rfl
    have x2 := hcx 2 (.slice gA gn gc) rfl
    have x3 := hcx 3 (.int .i64 l) rfl
    have x4 := hcx 4 (.slice pA pn pc) rfl
    have x5 := hcx 5 (.string nm) rfl
    clear hcx
    go_wp2
    go_quiet (fail)
    go_wp2
    go_ret
    exact ⟨rfl, below_drewN HE1.out _⟩
  ·
   -- kind 2
   have HB := hide ((Below.refl w.heap.size w).alloc (Nat.le_refl _) (.cells (cTm ⟨2, ⟨tA, tn, tc, tL⟩, ⟨gA, gn, gc, gL⟩, ⟨l, pA, pn, pc, ps⟩, nm⟩).toArray 50))
   have HX := hide (h.up HB.out)
   clear h
   by_cases he : nm = .empty
   ·
    have te : nm.toList.isEmpty = true := emptyS he
    by_cases hz : noP (PlW.v ⟨l, pA, pn, pc, ps⟩) = true
    ·
     by_cases htn : tn = 0
     ·
      have ttn : ((tn : Int) == 0) = true := by simp [htn]
      by_cases hgn : gn = 0
      ·
       have tgn : ((gn : Int) == 0) = true := by simp [hgn]
       obtain rfl : v = 0 := by
        rw [← hv]
        simp [tmTgs, he, hz, htn, hgn]
       clear hv
       clear he htn hgn
       go_enter Tryz.func65, Tryz.ntmps65
       go_wp2_with fail
       refine (cZero_is (x := ⟨l, pA, pn, pc, ps⟩) hz _ HX.out.pl).mono ?_
       rintro e w1 ⟨rfl, hb1⟩
       have HW1 := hide (show Below (w.alloc (.cells (cTm ⟨2, ⟨tA, tn, tc, tL⟩, ⟨gA, gn, gc, gL⟩, ⟨l, pA, pn, pc, ps⟩, nm⟩).toArray 50)).heap.size (w.alloc (.cells (cTm ⟨2, ⟨tA, tn, tc, tL⟩, ⟨gA, gn, gc, gL⟩, ⟨l, pA, pn, pc, ps⟩, nm⟩).toArray 50)) w1 from hb1)
       have HE1 := hide (HB.out.trans (HW1.out.mono HB.out.size))
       clear hb1
       have hcx := one_cells (w := w) (cs := cTm ⟨2, ⟨tA, tn, tc, tL⟩, ⟨gA, gn, gc, gL⟩, ⟨l, pA, pn, pc, ps⟩, nm⟩) (T := 50) HW1.out
       have x0 := hcx 0 (.int .i64 (2)) rfl
       have x1 := hcx 1 (.slice tA tn tc) rfl
       have x2 := hcx 2 (.slice gA gn gc) rfl
       have x3 := hcx 3 (.int .i64 l) rfl
       have x4 := hcx 4 (.slice pA pn pc) rfl
       have x5 := hcx 5 (.string nm) rfl
       clear hcx
       go_wp2
       go_quiet (fail)
       go_wp2
       go_ret
       exact ⟨rfl, below_drewN HE1.out _⟩
      ·
       have tgn : ((gn : Int) == 0) = false := by rw [beq_eq_false_iff_ne]; omega
       have hgnp : 0 < gn := by omega
       obtain rfl : v = 2 := by
        rw [← hv]
        simp [tmTgs, he, hz, htn, hgn, hgnp]
       clear hv
       clear he htn hgn hgnp
       go_enter Tryz.func65, Tryz.ntmps65
       go_wp2_with fail
       refine (cZero_is (x := ⟨l, pA, pn, pc, ps⟩) hz _ HX.out.pl).mono ?_
       rintro e w1 ⟨rfl, hb1⟩
       have HW1 := hide (show Below (w.alloc (.cells (cTm ⟨2, ⟨tA, tn, tc, tL⟩, ⟨gA, gn, gc, gL⟩, ⟨l, pA, pn, pc, ps⟩, nm⟩).toArray 50)).heap.size (w.alloc (.cells (cTm ⟨2, ⟨tA, tn, tc, tL⟩, ⟨gA, gn, gc, gL⟩, ⟨l, pA, pn, pc, ps⟩, nm⟩).toArray 50)) w1 from hb1)
       have HE1 := hide (HB.out.trans (HW1.out.mono HB.out.size))
       clear hb1
       have hcx := one_cells (w := w) (cs := cTm ⟨2, ⟨tA, tn, tc, tL⟩, ⟨gA, gn, gc, gL⟩, ⟨l, pA, pn, pc, ps⟩, nm⟩) (T := 50) HW1.out
       have x0 := hcx 0 (.int .i64 (2)) rfl
       have x1 := hcx 1 (.slice tA tn tc) rfl
       have x2 := hcx 2 (.slice gA gn gc) rfl
       have x3 := hcx 3 (.int .i64 l) rfl
       have x4 := hcx 4 (.slice pA pn pc) rfl
       have x5 := hcx 5 (.string nm) rfl
       clear hcx
       go_wp2
       go_quiet (fail)
       go_wp2
       go_ret
       exact ⟨rfl, below_drewN HE1.out _⟩
     ·
      have ttn : ((tn : Int) == 0) = false := by rw [beq_eq_false_iff_ne]; omega
      have htnp : 0 < tn := by omega
      obtain rfl : v = 2 := by
       rw [← hv]
       simp [tmTgs, he, hz, htn, htnp]
      clear hv
      clear he htn htnp
      go_enter Tryz.func65, Tryz.ntmps65
      go_wp2_with fail
      refine (cZero_is (x := ⟨l, pA, pn, pc, ps⟩) hz _ HX.out.pl).mono ?_
      rintro e w1 ⟨rfl, hb1⟩
      have HW1 := hide (show Below (w.alloc (.cells (cTm ⟨2, ⟨tA, tn, tc, tL⟩, ⟨gA, gn, gc, gL⟩, ⟨l, pA, pn, pc, ps⟩, nm⟩).toArray 50)).heap.size (w.alloc (.cells (cTm ⟨2, ⟨tA, tn, tc, tL⟩, ⟨gA, gn, gc, gL⟩, ⟨l, pA, pn, pc, ps⟩, nm⟩).toArray 50)) w1 from hb1)
      have HE1 := hide (HB.out.trans (HW1.out.mono HB.out.size))
      clear hb1
      have hcx := one_cells (w := w) (cs := cTm ⟨2, ⟨tA, tn, tc, tL⟩, ⟨gA, gn, gc, gL⟩, ⟨l, pA, pn, pc, ps⟩, nm⟩) (T := 50) HW1.out
      have x0 := hcx 0 (.int .i64 (2)) rfl
      have x1 := hcx 1 (.slice tA tn tc) rfl
      have x2 := hcx 2 (.slice gA gn gc) rfl
      have x3 := hcx 3 (.int .i64 l) rfl
      have x4 := hcx 4 (.slice pA pn pc) rfl
      have x5 := hcx 5 (.string nm) rfl
      clear hcx
      go_wp2
      go_quiet (fail)
      go_wp2
      go_ret
      exact ⟨rfl, below_drewN HE1.out _⟩
    ·
     have hz : noP (PlW.v ⟨l, pA, pn, pc, ps⟩) = false := by simpa using hz
     obtain rfl : v = 2 := by
      rw [← hv]
      simp [tmTgs, he, hz]
     clear hv
     clear he
     go_enter Tryz.func65, Tryz.ntmps65
     go_wp2_with fail
     refine (cZero_is (x := ⟨l, pA, pn, pc, ps⟩) hz _ HX.out.pl).mono ?_
     rintro e w1 ⟨rfl, hb1⟩
     have HW1 := hide (show Below (w.alloc (.cells (cTm ⟨2, ⟨tA, tn, tc, tL⟩, ⟨gA, gn, gc, gL⟩, ⟨l, pA, pn, pc, ps⟩, nm⟩).toArray 50)).heap.size (w.alloc (.cells (cTm ⟨2, ⟨tA, tn, tc, tL⟩, ⟨gA, gn, gc, gL⟩, ⟨l, pA, pn, pc, ps⟩, nm⟩).toArray 50)) w1 from hb1)
     have HE1 := hide (HB.out.trans (HW1.out.mono HB.out.size))
     clear hb1
     have hcx := one_cells (w := w) (cs := cTm ⟨2, ⟨tA, tn, tc, tL⟩, ⟨gA, gn, gc, gL⟩, ⟨l, pA, pn, pc, ps⟩, nm⟩) (T := 50) HW1.out
     have x0 := hcx 0 (.int .i64 (2)) rfl
     have x1 := hcx 1 (.slice tA tn tc) rfl
     have x2 := hcx 2 (.slice gA gn gc) rfl
     have x3 := hcx 3 (.int .i64 l) rfl
     have x4 := hcx 4 (.slice pA pn pc) rfl
     have x5 := hcx 5 (.string nm) rfl
     clear hcx
     go_wp2
     go_quiet (fail)
     go_wp2
     go_ret
     exact ⟨rfl, below_drewN HE1.out _⟩
   ·
    have te : nm.toList.isEmpty = false := emptyS_not he
    obtain rfl : v = 2 := by
     rw [← hv]
     simp [tmTgs, he]
    clear hv
    clear he
    go_enter Tryz.func65, Tryz.ntmps65
    have HE1 := HB
    have hcx := one_cells (w := w) (cs := cTm ⟨2, ⟨tA, tn, tc, tL⟩, ⟨gA, gn, gc, gL⟩, ⟨l, pA, pn, pc, ps⟩, nm⟩) (T := 50) (Below.refl _ _)
    have x0 := hcx 0 (.int .i64 (2)) rfl
    have x1 := hcx 1 (.slice tA tn tc) rfl
    have x2 := hcx 2 (.slice gA gn gc) rfl
    have x3 := hcx 3 (.int .i64 l) rfl
    have x4 := hcx 4 (.slice pA pn pc) rfl
    have x5 := hcx 5 (.string nm) rfl
    clear hcx
    go_wp2
    go_quiet (fail)
    go_wp2
    go_ret
    exact ⟨rfl, below_drewN HE1.out _⟩
  ·
   -- kind 3
   have HB := hide ((Below.refl w.heap.size w).alloc (Nat.le_refl _) (.cells (cTm ⟨3, ⟨tA, tn, tc, tL⟩, ⟨gA, gn, gc, gL⟩, ⟨l, pA, pn, pc, ps⟩, nm⟩).toArray 50))
   have HX := hide (h.up HB.out)
   clear h
   by_cases he : nm = .empty
   ·
    have te : nm.toList.isEmpty = true := emptyS he
    by_cases hz : noP (PlW.v ⟨l, pA, pn, pc, ps⟩) = true
    ·
     by_cases htn : tn = 1
     ·
      have ttn : ((tn : Int) == 1) = true := by simp [htn]
      obtain rfl : v = 0 := by
       rw [← hv]
       simp [tmTgs, he, hz, htn]
      clear hv
      clear he htn
      go_enter Tryz.func65, Tryz.ntmps65
      go_wp2_with fail
      refine (cZero_is (x := ⟨l, pA, pn, pc, ps⟩) hz _ HX.out.pl).mono ?_
      rintro e w1 ⟨rfl, hb1⟩
      have HW1 := hide (show Below (w.alloc (.cells (cTm ⟨3, ⟨tA, tn, tc, tL⟩, ⟨gA, gn, gc, gL⟩, ⟨l, pA, pn, pc, ps⟩, nm⟩).toArray 50)).heap.size (w.alloc (.cells (cTm ⟨3, ⟨tA, tn, tc, tL⟩, ⟨gA, gn, gc, gL⟩, ⟨l, pA, pn, pc, ps⟩, nm⟩).toArray 50)) w1 from hb1)
      have HE1 := hide (HB.out.trans (HW1.out.mono HB.out.size))
      clear hb1
      have hcx := one_cells (w := w) (cs := cTm ⟨3, ⟨tA, tn, tc, tL⟩, ⟨gA, gn, gc, gL⟩, ⟨l, pA, pn, pc, ps⟩, nm⟩) (T := 50) HW1.out
      have x0 := hcx 0 (.int .i64 (3)) rfl
      have x1 := hcx 1 (.slice tA tn tc) rfl
      have x2 := hcx 2 (.slice gA gn gc) rfl
      have x3 := hcx 3 (.int .i64 l) rfl
      have x4 := hcx 4 (.slice pA pn pc) rfl
      have x5 := hcx 5 (.string nm) rfl
      clear hcx
      go_wp2
      go_quiet (fail)
      go_wp2
      go_ret
      exact ⟨rfl, below_drewN HE1.out _⟩
     ·
      have ttn : ((tn : Int) == 1) = false := by rw [beq_eq_false_iff_ne]; omega
      obtain rfl : v = 2 := by
       rw [← hv]
       simp [tmTgs, he, hz, htn]
      clear hv
      clear he htn
      go_enter Tryz.func65, Tryz.ntmps65
      go_wp2_with fail
      refine (cZero_is (x := ⟨l, pA, pn, pc, ps⟩) hz _ HX.out.pl).mono ?_
      rintro e w1 ⟨rfl, hb1⟩
      have HW1 := hide (show Below (w.alloc (.cells (cTm ⟨3, ⟨tA, tn, tc, tL⟩, ⟨gA, gn, gc, gL⟩, ⟨l, pA, pn, pc, ps⟩, nm⟩).toArray 50)).heap.size (w.alloc (.cells (cTm ⟨3, ⟨tA, tn, tc, tL⟩, ⟨gA, gn, gc, gL⟩, ⟨l, pA, pn, pc, ps⟩, nm⟩).toArray 50)) w1 from hb1)
      have HE1 := hide (HB.out.trans (HW1.out.mono HB.out.size))
      clear hb1
      have hcx := one_cells (w := w) (cs := cTm ⟨3, ⟨tA, tn, tc, tL⟩, ⟨gA, gn, gc, gL⟩, ⟨l, pA, pn, pc, ps⟩, nm⟩) (T := 50) HW1.out
      have x0 := hcx 0 (.int .i64 (3)) rfl
      have x1 := hcx 1 (.slice tA tn tc) rfl
      have x2 := hcx 2 (.slice gA gn gc) rfl
      have x3 := hcx 3 (.int .i64 l) rfl
      have x4 := hcx 4 (.slice pA pn pc) rfl
      have x5 := hcx 5 (.string nm) rfl
      clear hcx
      go_wp2
      go_quiet (fail)
      go_wp2
      go_ret
      exact ⟨rfl, below_drewN HE1.out _⟩
    ·
     have hz : noP (PlW.v ⟨l, pA, pn, pc, ps⟩) = false := by simpa using hz
     by_cases htn : tn = 1
     ·
      have ttn : ((tn : Int) == 1) = true := by simp [htn]
      obtain rfl : v = 0 := by
       rw [← hv]
       simp [tmTgs, he, hz, htn]
      clear hv
      clear he htn
      go_enter Tryz.func65, Tryz.ntmps65
      go_wp2_with fail
      refine (cZero_is (x := ⟨l, pA, pn, pc, ps⟩) hz _ HX.out.pl).mono ?_
      rintro e w1 ⟨rfl, hb1⟩
      have HW1 := hide (show Below (w.alloc (.cells (cTm ⟨3, ⟨tA, tn, tc, tL⟩, ⟨gA, gn, gc, gL⟩, ⟨l, pA, pn, pc, ps⟩, nm⟩).toArray 50)).heap.size (w.alloc (.cells (cTm ⟨3, ⟨tA, tn, tc, tL⟩, ⟨gA, gn, gc, gL⟩, ⟨l, pA, pn, pc, ps⟩, nm⟩).toArray 50)) w1 from hb1)
      have HE1 := hide (HB.out.trans (HW1.out.mono HB.out.size))
      clear hb1
      have hcx := one_cells (w := w) (cs := cTm ⟨3, ⟨tA, tn, tc, tL⟩, ⟨gA, gn, gc, gL⟩, ⟨l, pA, pn, pc, ps⟩, nm⟩) (T := 50) HW1.out
      have x0 := hcx 0 (.int .i64 (3)) rfl
      have x1 := hcx 1 (.slice tA tn tc) rfl
      have x2 := hcx 2 (.slice gA gn gc) rfl
      have x3 := hcx 3 (.int .i64 l) rfl
      have x4 := hcx 4 (.slice pA pn pc) rfl
      have x5 := hcx 5 (.string nm) rfl
      clear hcx
      go_wp2
      go_quiet (fail)
      go_wp2
      go_ret
      exact ⟨rfl, below_drewN HE1.out _⟩
     ·
      have ttn : ((tn : Int) == 1) = false := by rw [beq_eq_false_iff_ne]; omega
      obtain rfl : v = 2 := by
       rw [← hv]
       simp [tmTgs, he, hz, htn]
      clear hv
      clear he htn
      go_enter Tryz.func65, Tryz.ntmps65
      go_wp2_with fail
      refine (cZero_is (x := ⟨l, pA, pn, pc, ps⟩) hz _ HX.out.pl).mono ?_
      rintro e w1 ⟨rfl, hb1⟩
      have HW1 := hide (show Below (w.alloc (.cells (cTm ⟨3, ⟨tA, tn, tc, tL⟩, ⟨gA, gn, gc, gL⟩, ⟨l, pA, pn, pc, ps⟩, nm⟩).toArray 50)).heap.size (w.alloc (.cells (cTm ⟨3, ⟨tA, tn, tc, tL⟩, ⟨gA, gn, gc, gL⟩, ⟨l, pA, pn, pc, ps⟩, nm⟩).toArray 50)) w1 from hb1)
      have HE1 := hide (HB.out.trans (HW1.out.mono HB.out.size))
      clear hb1
      have hcx := one_cells (w := w) (cs := cTm ⟨3, ⟨tA, tn, tc, tL⟩, ⟨gA, gn, gc, gL⟩, ⟨l, pA, pn, pc, ps⟩, nm⟩) (T := 50) HW1.out
      have x0 := hcx 0 (.int .i64 (3)) rfl
      have x1 := hcx 1 (.slice tA tn tc) rfl
      have x2 := hcx 2 (.slice gA gn gc) rfl
      have x3 := hcx 3 (.int .i64 l) rfl
      have x4 := hcx 4 (.slice pA pn pc) rfl
      have x5 := hcx 5 (.string nm) rfl
      clear hcx
      go_wp2
      go_quiet (fail)
      go_wp2
      go_ret
      exact ⟨rfl, below_drewN HE1.out _⟩
   ·
    have te : nm.toList.isEmpty = false := emptyS_not he
    by_cases htn : tn = 1
    ·
     have ttn : ((tn : Int) == 1) = true := by simp [htn]
     obtain rfl : v = 0 := by
      rw [← hv]
      simp [tmTgs, he, htn]
     clear hv
     clear he htn
     go_enter Tryz.func65, Tryz.ntmps65
     have HE1 := HB
     have hcx := one_cells (w := w) (cs := cTm ⟨3, ⟨tA, tn, tc, tL⟩, ⟨gA, gn, gc, gL⟩, ⟨l, pA, pn, pc, ps⟩, nm⟩) (T := 50) (Below.refl _ _)
     have x0 := hcx 0 (.int .i64 (3)) rfl
     have x1 := hcx 1 (.slice tA tn tc) rfl
     have x2 := hcx 2 (.slice gA gn gc) rfl
     have x3 := hcx 3 (.int .i64 l) rfl
     have x4 := hcx 4 (.slice pA pn pc) rfl
     have x5 := hcx 5 (.string nm) rfl
     clear hcx
     go_wp2
     go_quiet (fail)
     go_wp2
     go_ret
     exact ⟨rfl, below_drewN HE1.out _⟩
    ·
     have ttn : ((tn : Int) == 1) = false := by rw [beq_eq_false_iff_ne]; omega
     obtain rfl : v = 2 := by
      rw [← hv]
      simp [tmTgs, he, htn]
     clear hv
     clear he htn
     go_enter Tryz.func65, Tryz.ntmps65
     have HE1 := HB
     have hcx := one_cells (w := w) (cs := cTm ⟨3, ⟨tA, tn, tc, tL⟩, ⟨gA, gn, gc, gL⟩, ⟨l, pA, pn, pc, ps⟩, nm⟩) (T := 50) (Below.refl _ _)
     have x0 := hcx 0 (.int .i64 (3)) rfl
     have x1 := hcx 1 (.slice tA tn tc) rfl
     have x2 := hcx 2 (.slice gA gn gc) rfl
     have x3 := hcx 3 (.int .i64 l) rfl
     have x4 := hcx 4 (.slice pA pn pc) rfl
     have x5 := hcx 5 (.string nm) rfl
     clear hcx
     go_wp2
     go_quiet (fail)
     go_wp2
     go_ret
     exact ⟨rfl, below_drewN HE1.out _⟩
  ·
   -- kind 4
   have HB := hide ((Below.refl w.heap.size w).alloc (Nat.le_refl _) (.cells (cTm ⟨4, ⟨tA, tn, tc, tL⟩, ⟨gA, gn, gc, gL⟩, ⟨l, pA, pn, pc, ps⟩, nm⟩).toArray 50))
   have HX := hide (h.up HB.out)
   clear h
   by_cases he : nm = .empty
   ·
    have te : nm.toList.isEmpty = true := emptyS he
    by_cases hz : noP (PlW.v ⟨l, pA, pn, pc, ps⟩) = true
    ·
     by_cases htn : tn = 1
     ·
      have ttn : ((tn : Int) == 1) = true := by simp [htn]
      by_cases hgn : gn = 0
      ·
       have tgn : ((gn : Int) == 0) = true := by simp [hgn]
       obtain rfl : v = 0 := by
        rw [← hv]
        simp [tmTgs, he, hz, htn, hgn]
       clear hv
       clear he htn hgn
       go_enter Tryz.func65, Tryz.ntmps65
       go_wp2_with fail
       refine (cZero_is (x := ⟨l, pA, pn, pc, ps⟩) hz _ HX.out.pl).mono ?_
       rintro e w1 ⟨rfl, hb1⟩
       have HW1 := hide (show Below (w.alloc (.cells (cTm ⟨4, ⟨tA, tn, tc, tL⟩, ⟨gA, gn, gc, gL⟩, ⟨l, pA, pn, pc, ps⟩, nm⟩).toArray 50)).heap.size (w.alloc (.cells (cTm ⟨4, ⟨tA, tn, tc, tL⟩, ⟨gA, gn, gc, gL⟩, ⟨l, pA, pn, pc, ps⟩, nm⟩).toArray 50)) w1 from hb1)
       have HE1 := hide (HB.out.trans (HW1.out.mono HB.out.size))
       clear hb1
       have hcx := one_cells (w := w) (cs := cTm ⟨4, ⟨tA, tn, tc, tL⟩, ⟨gA, gn, gc, gL⟩, ⟨l, pA, pn, pc, ps⟩, nm⟩) (T := 50) HW1.out
       have x0 := hcx 0 (.int .i64 (4)) rfl
       have x1 := hcx 1 (.slice tA tn tc) rfl
       have x2 := hcx 2 (.slice gA gn gc) rfl
       have x3 := hcx 3 (.int .i64 l) rfl
       have x4 := hcx 4 (.slice pA pn pc) rfl
       have x5 := hcx 5 (.string nm) rfl
       clear hcx
       go_wp2
       go_quiet (fail)
       go_wp2
       go_ret
       exact ⟨rfl, below_drewN HE1.out _⟩
      ·
       have tgn : ((gn : Int) == 0) = false := by rw [beq_eq_false_iff_ne]; omega
       have hgnp : 0 < gn := by omega
       obtain rfl : v = 2 := by
        rw [← hv]
        simp [tmTgs, he, hz, htn, hgn, hgnp]
       clear hv
       clear he htn hgn hgnp
       go_enter Tryz.func65, Tryz.ntmps65
       go_wp2_with fail
       refine (cZero_is (x := ⟨l, pA, pn, pc, ps⟩) hz _ HX.out.pl).mono ?_
       rintro e w1 ⟨rfl, hb1⟩
       have HW1 := hide (show Below (w.alloc (.cells (cTm ⟨4, ⟨tA, tn, tc, tL⟩, ⟨gA, gn, gc, gL⟩, ⟨l, pA, pn, pc, ps⟩, nm⟩).toArray 50)).heap.size (w.alloc (.cells (cTm ⟨4, ⟨tA, tn, tc, tL⟩, ⟨gA, gn, gc, gL⟩, ⟨l, pA, pn, pc, ps⟩, nm⟩).toArray 50)) w1 from hb1)
       have HE1 := hide (HB.out.trans (HW1.out.mono HB.out.size))
       clear hb1
       have hcx := one_cells (w := w) (cs := cTm ⟨4, ⟨tA, tn, tc, tL⟩, ⟨gA, gn, gc, gL⟩, ⟨l, pA, pn, pc, ps⟩, nm⟩) (T := 50) HW1.out
       have x0 := hcx 0 (.int .i64 (4)) rfl
       have x1 := hcx 1 (.slice tA tn tc) rfl
       have x2 := hcx 2 (.slice gA gn gc) rfl
       have x3 := hcx 3 (.int .i64 l) rfl
       have x4 := hcx 4 (.slice pA pn pc) rfl
       have x5 := hcx 5 (.string nm) rfl
       clear hcx
       go_wp2
       go_quiet (fail)
       go_wp2
       go_ret
       exact ⟨rfl, below_drewN HE1.out _⟩
     ·
      have ttn : ((tn : Int) == 1) = false := by rw [beq_eq_false_iff_ne]; omega
      obtain rfl : v = 2 := by
       rw [← hv]
       simp [tmTgs, he, hz, htn]
      clear hv
      clear he htn
      go_enter Tryz.func65, Tryz.ntmps65
      go_wp2_with fail
      refine (cZero_is (x := ⟨l, pA, pn, pc, ps⟩) hz _ HX.out.pl).mono ?_
      rintro e w1 ⟨rfl, hb1⟩
      have HW1 := hide (show Below (w.alloc (.cells (cTm ⟨4, ⟨tA, tn, tc, tL⟩, ⟨gA, gn, gc, gL⟩, ⟨l, pA, pn, pc, ps⟩, nm⟩).toArray 50)).heap.size (w.alloc (.cells (cTm ⟨4, ⟨tA, tn, tc, tL⟩, ⟨gA, gn, gc, gL⟩, ⟨l, pA, pn, pc, ps⟩, nm⟩).toArray 50)) w1 from hb1)
      have HE1 := hide (HB.out.trans (HW1.out.mono HB.out.size))
      clear hb1
      have hcx := one_cells (w := w) (cs := cTm ⟨4, ⟨tA, tn, tc, tL⟩, ⟨gA, gn, gc, gL⟩, ⟨l, pA, pn, pc, ps⟩, nm⟩) (T := 50) HW1.out
      have x0 := hcx 0 (.int .i64 (4)) rfl
      have x1 := hcx 1 (.slice tA tn tc) rfl
      have x2 := hcx 2 (.slice gA gn gc) rfl
      have x3 := hcx 3 (.int .i64 l) rfl
      have x4 := hcx 4 (.slice pA pn pc) rfl
      have x5 := hcx 5 (.string nm) rfl
      clear hcx
      go_wp2
      go_quiet (fail)
      go_wp2
      go_ret
      exact ⟨rfl, below_drewN HE1.out _⟩
    ·
     have hz : noP (PlW.v ⟨l, pA, pn, pc, ps⟩) = false := by simpa using hz
     by_cases htn : tn = 1
     ·
      have ttn : ((tn : Int) == 1) = true := by simp [htn]
      by_cases hgn : gn = 0
      ·
       have tgn : ((gn : Int) == 0) = true := by simp [hgn]
       obtain rfl : v = 0 := by
        rw [← hv]
        simp [tmTgs, he, hz, htn, hgn]
       clear hv
       clear he htn hgn
       go_enter Tryz.func65, Tryz.ntmps65
       go_wp2_with fail
       refine (cZero_is (x := ⟨l, pA, pn, pc, ps⟩) hz _ HX.out.pl).mono ?_
       rintro e w1 ⟨rfl, hb1⟩
       have HW1 := hide (show Below (w.alloc (.cells (cTm ⟨4, ⟨tA, tn, tc, tL⟩, ⟨gA, gn, gc, gL⟩, ⟨l, pA, pn, pc, ps⟩, nm⟩).toArray 50)).heap.size (w.alloc (.cells (cTm ⟨4, ⟨tA, tn, tc, tL⟩, ⟨gA, gn, gc, gL⟩, ⟨l, pA, pn, pc, ps⟩, nm⟩).toArray 50)) w1 from hb1)
       have HE1 := hide (HB.out.trans (HW1.out.mono HB.out.size))
       clear hb1
       have hcx := one_cells (w := w) (cs := cTm ⟨4, ⟨tA, tn, tc, tL⟩, ⟨gA, gn, gc, gL⟩, ⟨l, pA, pn, pc, ps⟩, nm⟩) (T := 50) HW1.out
       have x0 := hcx 0 (.int .i64 (4)) rfl
       have x1 := hcx 1 (.slice tA tn tc) rfl
       have x2 := hcx 2 (.slice gA gn gc) rfl
       have x3 := hcx 3 (.int .i64 l) rfl
       have x4 := hcx 4 (.slice pA pn pc) rfl
       have x5 := hcx 5 (.string nm) rfl
       clear hcx
       go_wp2
       go_quiet (fail)
       go_wp2
       go_ret
       exact ⟨rfl, below_drewN HE1.out _⟩
      ·
       have tgn : ((gn : Int) == 0) = false := by rw [beq_eq_false_iff_ne]; omega
       have hgnp : 0 < gn := by omega
       obtain rfl : v = 2 := by
        rw [← hv]
        simp [tmTgs, he, hz, htn, hgn, hgnp]
       clear hv
       clear he htn hgn hgnp
       go_enter Tryz.func65, Tryz.ntmps65
       go_wp2_with fail
       refine (cZero_is (x := ⟨l, pA, pn, pc, ps⟩) hz _ HX.out.pl).mono ?_
       rintro e w1 ⟨rfl, hb1⟩
       have HW1 := hide (show Below (w.alloc (.cells (cTm ⟨4, ⟨tA, tn, tc, tL⟩, ⟨gA, gn, gc, gL⟩, ⟨l, pA, pn, pc, ps⟩, nm⟩).toArray 50)).heap.size (w.alloc (.cells (cTm ⟨4, ⟨tA, tn, tc, tL⟩, ⟨gA, gn, gc, gL⟩, ⟨l, pA, pn, pc, ps⟩, nm⟩).toArray 50)) w1 from hb1)
       have HE1 := hide (HB.out.trans (HW1.out.mono HB.out.size))
       clear hb1
       have hcx := one_cells (w := w) (cs := cTm ⟨4, ⟨tA, tn, tc, tL⟩, ⟨gA, gn, gc, gL⟩, ⟨l, pA, pn, pc, ps⟩, nm⟩) (T := 50) HW1.out
       have x0 := hcx 0 (.int .i64 (4)) rfl
       have x1 := hcx 1 (.slice tA tn tc) rfl
       have x2 := hcx 2 (.slice gA gn gc) rfl
       have x3 := hcx 3 (.int .i64 l) rfl
       have x4 := hcx 4 (.slice pA pn pc) rfl
       have x5 := hcx 5 (.string nm) rfl
       clear hcx
       go_wp2
       go_quiet (fail)
       go_wp2
       go_ret
       exact ⟨rfl, below_drewN HE1.out _⟩
     ·
      have ttn : ((tn : Int) == 1) = false := by rw [beq_eq_false_iff_ne]; omega
      obtain rfl : v = 2 := by
       rw [← hv]
       simp [tmTgs, he, hz, htn]
      clear hv
      clear he htn
      go_enter Tryz.func65, Tryz.ntmps65
      go_wp2_with fail
      refine (cZero_is (x := ⟨l, pA, pn, pc, ps⟩) hz _ HX.out.pl).mono ?_
      rintro e w1 ⟨rfl, hb1⟩
      have HW1 := hide (show Below (w.alloc (.cells (cTm ⟨4, ⟨tA, tn, tc, tL⟩, ⟨gA, gn, gc, gL⟩, ⟨l, pA, pn, pc, ps⟩, nm⟩).toArray 50)).heap.size (w.alloc (.cells (cTm ⟨4, ⟨tA, tn, tc, tL⟩, ⟨gA, gn, gc, gL⟩, ⟨l, pA, pn, pc, ps⟩, nm⟩).toArray 50)) w1 from hb1)
      have HE1 := hide (HB.out.trans (HW1.out.mono HB.out.size))
      clear hb1
      have hcx := one_cells (w := w) (cs := cTm ⟨4, ⟨tA, tn, tc, tL⟩, ⟨gA, gn, gc, gL⟩, ⟨l, pA, pn, pc, ps⟩, nm⟩) (T := 50) HW1.out
      have x0 := hcx 0 (.int .i64 (4)) rfl
      have x1 := hcx 1 (.slice tA tn tc) rfl
      have x2 := hcx 2 (.slice gA gn gc) rfl
      have x3 := hcx 3 (.int .i64 l) rfl
      have x4 := hcx 4 (.slice pA pn pc) rfl
      have x5 := hcx 5 (.string nm) rfl
      clear hcx
      go_wp2
      go_quiet (fail)
      go_wp2
      go_ret
      exact ⟨rfl, below_drewN HE1.out _⟩
   ·
    have te : nm.toList.isEmpty = false := emptyS_not he
    obtain rfl : v = 2 := by
     rw [← hv]
     simp [tmTgs, he]
    clear hv
    clear he
    go_enter Tryz.func65, Tryz.ntmps65
    have HE1 := HB
    have hcx := one_cells (w := w) (cs := cTm ⟨4, ⟨tA, tn, tc, tL⟩, ⟨gA, gn, gc, gL⟩, ⟨l, pA, pn, pc, ps⟩, nm⟩) (T := 50) (Below.refl _ _)
    have x0 := hcx 0 (.int .i64 (4)) rfl
    have x1 := hcx 1 (.slice tA tn tc) rfl
    have x2 := hcx 2 (.slice gA gn gc) rfl
    have x3 := hcx 3 (.int .i64 l) rfl
    have x4 := hcx 4 (.slice pA pn pc) rfl
    have x5 := hcx 5 (.string nm) rfl
    clear hcx
    go_wp2
    go_quiet (fail)
    go_wp2
    go_ret
    exact ⟨rfl, below_drewN HE1.out _⟩
  ·
   -- kind 5
   have HB := hide ((Below.refl w.heap.size w).alloc (Nat.le_refl _) (.cells (cTm ⟨5, ⟨tA, tn, tc, tL⟩, ⟨gA, gn, gc, gL⟩, ⟨l, pA, pn, pc, ps⟩, nm⟩).toArray 50))
   have HX := hide (h.up HB.out)
   clear h
   by_cases he : nm = .empty
   ·
    have te : nm.toList.isEmpty = true := emptyS he
    by_cases hz : noP (PlW.v ⟨l, pA, pn, pc, ps⟩) = true
    ·
     by_cases htn : tn = 0
     ·
      have ttn : ((tn : Int) == 0) = true := by simp [htn]
      by_cases hgn : gn = 0
      ·
       have tgn : ((gn : Int) == 0) = true := by simp [hgn]
       obtain rfl : v = 0 := by
        rw [← hv]
        simp [tmTgs, he, hz, htn, hgn]
       clear hv
       clear he htn hgn
       go_enter Tryz.func65, Tryz.ntmps65
       go_wp2_with fail
       refine (cZero_is (x := ⟨l, pA, pn, pc, ps⟩) hz _ HX.out.pl).mono ?_
       rintro e w1 ⟨rfl, hb1⟩
       have HW1 := hide (show Below (w.alloc (.cells (cTm ⟨5, ⟨tA, tn, tc, tL⟩, ⟨gA, gn, gc, gL⟩, ⟨l, pA, pn, pc, ps⟩, nm⟩).toArray 50)).heap.size (w.alloc (.cells (cTm ⟨5, ⟨tA, tn, tc, tL⟩, ⟨gA, gn, gc, gL⟩, ⟨l, pA, pn, pc, ps⟩, nm⟩).toArray 50)) w1 from hb1)
       have HE1 := hide (HB.out.trans (HW1.out.mono HB.out.size))
       clear hb1
       have hcx := one_cells (w := w) (cs := cTm ⟨5, ⟨tA, tn, tc, tL⟩, ⟨gA, gn, gc, gL⟩, ⟨l, pA, pn, pc, ps⟩, nm⟩) (T := 50) HW1.out
       have x0 := hcx 0 (.int .i64 (5)) rfl
       have x1 := hcx 1 (.slice tA tn tc) rfl
       have x2 := hcx 2 (.slice gA gn gc) rfl
       have x3 := hcx 3 (.int .i64 l) rfl
       have x4 := hcx 4 (.slice pA pn pc) rfl
       have x5 := hcx 5 (.string nm) rfl
       clear hcx
       go_wp2
       go_quiet (fail)
       go_wp2
       go_ret
       exact ⟨rfl, below_drewN HE1.out _⟩
      ·
       have tgn : ((gn : Int) == 0) = false := by rw [beq_eq_false_iff_ne]; omega
       have hgnp : 0 < gn := by omega
       obtain rfl : v = 2 := by
        rw [← hv]
        simp [tmTgs, he, hz, htn, hgn, hgnp]
       clear hv
       clear he htn hgn hgnp
       go_enter Tryz.func65, Tryz.ntmps65
       go_wp2_with fail
       refine (cZero_is (x := ⟨l, pA, pn, pc, ps⟩) hz _ HX.out.pl).mono ?_
       rintro e w1 ⟨rfl, hb1⟩
       have HW1 := hide (show Below (w.alloc (.cells (cTm ⟨5, ⟨tA, tn, tc, tL⟩, ⟨gA, gn, gc, gL⟩, ⟨l, pA, pn, pc, ps⟩, nm⟩).toArray 50)).heap.size (w.alloc (.cells (cTm ⟨5, ⟨tA, tn, tc, tL⟩, ⟨gA, gn, gc, gL⟩, ⟨l, pA, pn, pc, ps⟩, nm⟩).toArray 50)) w1 from hb1)
       have HE1 := hide (HB.out.trans (HW1.out.mono HB.out.size))
       clear hb1
       have hcx := one_cells (w := w) (cs := cTm ⟨5, ⟨tA, tn, tc, tL⟩, ⟨gA, gn, gc, gL⟩, ⟨l, pA, pn, pc, ps⟩, nm⟩) (T := 50) HW1.out
       have x0 := hcx 0 (.int .i64 (5)) rfl
       have x1 := hcx 1 (.slice tA tn tc) rfl
       have x2 := hcx 2 (.slice gA gn gc) rfl
       have x3 := hcx 3 (.int .i64 l) rfl
       have x4 := hcx 4 (.slice pA pn pc) rfl
       have x5 := hcx 5 (.string nm) rfl
       clear hcx
       go_wp2
       go_quiet (fail)
       go_wp2
       go_ret
       exact ⟨rfl, below_drewN HE1.out _⟩
     ·
      have ttn : ((tn : Int) == 0) = false := by rw [beq_eq_false_iff_ne]; omega
      have htnp : 0 < tn := by omega
      obtain rfl : v = 2 := by
       rw [← hv]
       simp [tmTgs, he, hz, htn, htnp]
      clear hv
      clear he htn htnp
      go_enter Tryz.func65, Tryz.ntmps65
      go_wp2_with fail
      refine (cZero_is (x := ⟨l, pA, pn, pc, ps⟩) hz _ HX.out.pl).mono ?_
      rintro e w1 ⟨rfl, hb1⟩
      have HW1 := hide (show Below (w.alloc (.cells (cTm ⟨5, ⟨tA, tn, tc, tL⟩, ⟨gA, gn, gc, gL⟩, ⟨l, pA, pn, pc, ps⟩, nm⟩).toArray 50)).heap.size (w.alloc (.cells (cTm ⟨5, ⟨tA, tn, tc, tL⟩, ⟨gA, gn, gc, gL⟩, ⟨l, pA, pn, pc, ps⟩, nm⟩).toArray 50)) w1 from hb1)
      have HE1 := hide (HB.out.trans (HW1.out.mono HB.out.size))
      clear hb1
      have hcx := one_cells (w := w) (cs := cTm ⟨5, ⟨tA, tn, tc, tL⟩, ⟨gA, gn, gc, gL⟩, ⟨l, pA, pn, pc, ps⟩, nm⟩) (T := 50) HW1.out
      have x0 := hcx 0 (.int .i64 (5)) rfl
      have x1 := hcx 1 (.slice tA tn tc) rfl
      have x2 := hcx 2 (.slice gA gn gc) rfl
      have x3 := hcx 3 (.int .i64 l) rfl
      have x4 := hcx 4 (.slice pA pn pc) rfl
      have x5 := hcx 5 (.string nm) rfl
      clear hcx
      go_wp2
      go_quiet (fail)
      go_wp2
      go_ret
      exact ⟨rfl, below_drewN HE1.out _⟩
    ·
     have hz : noP (PlW.v ⟨l, pA, pn, pc, ps⟩) = false := by simpa using hz
     obtain rfl : v = 2 := by
      rw [← hv]
      simp [tmTgs, he, hz]
     clear hv
     clear he
     go_enter Tryz.func65, Tryz.ntmps65
     go_wp2_with fail
     refine (cZero_is (x := ⟨l, pA, pn, pc, ps⟩) hz _ HX.out.pl).mono ?_
     rintro e w1 ⟨rfl, hb1⟩
     have HW1 := hide (show Below (w.alloc (.cells (cTm ⟨5, ⟨tA, tn, tc, tL⟩, ⟨gA, gn, gc, gL⟩, ⟨l, pA, pn, pc, ps⟩, nm⟩).toArray 50)).heap.size (w.alloc (.cells (cTm ⟨5, ⟨tA, tn, tc, tL⟩, ⟨gA, gn, gc, gL⟩, ⟨l, pA, pn, pc, ps⟩, nm⟩).toArray 50)) w1 from hb1)
     have HE1 := hide (HB.out.trans (HW1.out.mono HB.out.size))
     clear hb1
     have hcx := one_cells (w := w) (cs := cTm ⟨5, ⟨tA, tn, tc, tL⟩, ⟨gA, gn, gc, gL⟩, ⟨l, pA, pn, pc, ps⟩, nm⟩) (T := 50) HW1.out
     have x0 := hcx 0 (.int .i64 (5)) rfl
     have x1 := hcx 1 (.slice tA tn tc) rfl
     have x2 := hcx 2 (.slice gA gn gc) rfl
     have x3 := hcx 3 (.int .i64 l) rfl
     have x4 := hcx 4 (.slice pA pn pc) rfl
     have x5 := hcx 5 (.string nm) rfl
     clear hcx
     go_wp2
     go_quiet (fail)
     go_wp2
     go_ret
     exact ⟨rfl, below_drewN HE1.out _⟩
   ·
    have te : nm.toList.isEmpty = false := emptyS_not he
    obtain rfl : v = 2 := by
     rw [← hv]
     simp [tmTgs, he]
    clear hv
    clear he
    go_enter Tryz.func65, Tryz.ntmps65
    have HE1 := HB
    have hcx := one_cells (w := w) (cs := cTm ⟨5, ⟨tA, tn, tc, tL⟩, ⟨gA, gn, gc, gL⟩, ⟨l, pA, pn, pc, ps⟩, nm⟩) (T := 50) (Below.refl _ _)
    have x0 := hcx 0 (.int .i64 (5)) rfl
    have x1 := hcx 1 (.slice tA tn tc) rfl
    have x2 := hcx 2 (.slice gA gn gc) rfl
    have x3 := hcx 3 (.int .i64 l) rfl
    have x4 := hcx 4 (.slice pA pn pc) rfl
    have x5 := hcx 5 (.string nm) rfl
    clear hcx
    go_wp2
    go_quiet (fail)
    go_wp2
    go_ret
    exact ⟨rfl, below_drewN HE1.out _⟩
 ·
  have hk2 : k < 0 ∨ 5 < k := by omega
  rw [if_pos hk2] at hv
  subst hv
  have t0 : (k == 0) = false := by rw [beq_eq_false_iff_ne]; omega
  have t1 : (k == 1) = false := by rw [beq_eq_false_iff_ne]; omega
  have t2 : (k == 2) = false := by rw [beq_eq_false_iff_ne]; omega
  have t3 : (k == 3) = false := by rw [beq_eq_false_iff_ne]; omega
  have t4 : (k == 4) = false := by rw [beq_eq_false_iff_ne]; omega
  have t5 : (k == 5) = false := by rw [beq_eq_false_iff_ne]; omega
  clear hk hk2
  have HB := hide ((Below.refl w.heap.size w).alloc (Nat.le_refl _) (.cells (cTm ⟨k, ⟨tA, tn, tc, tL⟩, ⟨gA, gn, gc, gL⟩, ⟨l, pA, pn, pc, ps⟩, nm⟩).toArray 50))
  have HX := hide (h.up HB.out)
  clear h
  by_cases he : nm = .empty
  ·
   have te : nm.toList.isEmpty = true := emptyS he
   by_cases hz : noP (PlW.v ⟨l, pA, pn, pc, ps⟩) = true
   ·
    clear he
    go_enter Tryz.func65, Tryz.ntmps65
    go_wp2_with fail
    refine (cZero_is (x := ⟨l, pA, pn, pc, ps⟩) hz _ HX.out.pl).mono ?_
    rintro e w1 ⟨rfl, hb1⟩
    have HW1 := hide (show Below (w.alloc (.cells (cTm ⟨k, ⟨tA, tn, tc, tL⟩, ⟨gA, gn, gc, gL⟩, ⟨l, pA, pn, pc, ps⟩, nm⟩).toArray 50)).heap.size (w.alloc (.cells (cTm ⟨k, ⟨tA, tn, tc, tL⟩, ⟨gA, gn, gc, gL⟩, ⟨l, pA, pn, pc, ps⟩, nm⟩).toArray 50)) w1 from hb1)
    have HE1 := hide (HB.out.trans (HW1.out.mono HB.out.size))
    clear hb1
    have hcx := one_cells (w := w) (cs := cTm ⟨k, ⟨tA, tn, tc, tL⟩, ⟨gA, gn, gc, gL⟩, ⟨l, pA, pn, pc, ps⟩, nm⟩) (T := 50) HW1.out
    have x0 := hcx 0 (.int .i64 k) rfl
    have x1 := hcx 1 (.slice tA tn tc) rfl
    have x2 := hcx 2 (.slice gA gn gc) rfl
    have x3 := hcx 3 (.int .i64 l) rfl
    have x4 := hcx 4 (.slice pA pn pc) rfl
    have x5 := hcx 5 (.string nm) rfl
    clear hcx
    go_wp2
    go_quiet (fail)
    go_wp2
    go_ret
    exact ⟨rfl, below_drewN HE1.out _⟩
   ·
    have hz : noP (PlW.v ⟨l, pA, pn, pc, ps⟩) = false := by simpa using hz
    clear he
    go_enter Tryz.func65, Tryz.ntmps65
    go_wp2_with fail
    refine (cZero_is (x := ⟨l, pA, pn, pc, ps⟩) hz _ HX.out.pl).mono ?_
    rintro e w1 ⟨rfl, hb1⟩
    have HW1 := hide (show Below (w.alloc (.cells (cTm ⟨k, ⟨tA, tn, tc, tL⟩, ⟨gA, gn, gc, gL⟩, ⟨l, pA, pn, pc, ps⟩, nm⟩).toArray 50)).heap.size (w.alloc (.cells (cTm ⟨k, ⟨tA, tn, tc, tL⟩, ⟨gA, gn, gc, gL⟩, ⟨l, pA, pn, pc, ps⟩, nm⟩).toArray 50)) w1 from hb1)
    have HE1 := hide (HB.out.trans (HW1.out.mono HB.out.size))
    clear hb1
    have hcx := one_cells (w := w) (cs := cTm ⟨k, ⟨tA, tn, tc, tL⟩, ⟨gA, gn, gc, gL⟩, ⟨l, pA, pn, pc, ps⟩, nm⟩) (T := 50) HW1.out
    have x0 := hcx 0 (.int .i64 k) rfl
    have x1 := hcx 1 (.slice tA tn tc) rfl
    have x2 := hcx 2 (.slice gA gn gc) rfl
    have x3 := hcx 3 (.int .i64 l) rfl
    have x4 := hcx 4 (.slice pA pn pc) rfl
    have x5 := hcx 5 (.string nm) rfl
    clear hcx
    go_wp2
    go_quiet (fail)
    go_wp2
    go_ret
    exact ⟨rfl, below_drewN HE1.out _⟩
  ·
   have te : nm.toList.isEmpty = false := emptyS_not he
   clear he
   go_enter Tryz.func65, Tryz.ntmps65
   have HE1 := HB
   have hcx := one_cells (w := w) (cs := cTm ⟨k, ⟨tA, tn, tc, tL⟩, ⟨gA, gn, gc, gL⟩, ⟨l, pA, pn, pc, ps⟩, nm⟩) (T := 50) (Below.refl _ _)
   have x0 := hcx 0 (.int .i64 k) rfl
   have x1 := hcx 1 (.slice tA tn tc) rfl
   have x2 := hcx 2 (.slice gA gn gc) rfl
   have x3 := hcx 3 (.int .i64 l) rfl
   have x4 := hcx 4 (.slice pA pn pc) rfl
   have x5 := hcx 5 (.string nm) rfl
   clear hcx
   go_wp2
   go_quiet (fail)
   go_wp2
   go_ret
   exact ⟨rfl, below_drewN HE1.out _⟩
theorem cTm_is {x : TmW} {v : Int} (h : tmSh x.v = v) (w : World) (hx : OneTm w w.heap.size x) :
  Calls Tryz.prog 65 #[aggTm x] w fun e w' => e = .returned (.int .i64 v) ∧ Below w.heap.size w w' := h ▸ cTm_any x w hx
end Go.Proofs.YtfgacmgjpikgaaaGreatDoor
