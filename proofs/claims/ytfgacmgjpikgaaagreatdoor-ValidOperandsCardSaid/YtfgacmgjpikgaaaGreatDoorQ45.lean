/- Part 46 of the contracts and their mathematics. -/
import Derived.Test.YtfgacmgjpikgaaaGreatDoorQ15
set_option linter.unusedVariables false
set_option linter.unusedSimpArgs false
namespace Go.Proofs.YtfgacmgjpikgaaaGreatDoor
open Go.RowKit
abbrev bo1 (w : World) (x : BdW) (o : OpW) : World := two w (cBd x) 28 (cOp o) 38
set_option maxHeartbeats 1000000 in
set_option maxRecDepth 100000 in
theorem ROperand_any (x : BdW) (o : OpW) (w : World) (h : VB w x) (ho : OneOp w w.heap.size o) :
  Calls Tryz.prog 15 #[aggBd x, aggOp o] w fun e w' => e = .returned (.int .i64 (opErr (wE x) o.v)) ∧ Below w.heap.size w w' := by
 obtain ⟨nm, ⟨rA, rn, rc, rL⟩, ⟨oA, on, oc, oL⟩, ⟨tA, tm, tc, tL⟩, ⟨lA, ln, lc, lL⟩, ar, ⟨bA, bn, bc, bL⟩⟩ := x
 obtain ⟨k, ⟨l, pA, pn, pc, ps⟩, n⟩ := o
 obtain ⟨v, hv⟩ : ∃ v, opErr (wE ⟨nm, ⟨rA, rn, rc, rL⟩, ⟨oA, on, oc, oL⟩, ⟨tA, tm, tc, tL⟩, ⟨lA, ln, lc, lL⟩, ar, ⟨bA, bn, bc, bL⟩⟩) (OpW.v ⟨k, ⟨l, pA, pn, pc, ps⟩, n⟩) = v := ⟨_, rfl⟩
 rw [hv]
 unfold opErr OpW.v at hv
 simp only [] at hv
 by_cases h14 : k < 0
 ·
  rw [if_pos (.inl h14)] at hv
  subst hv
  have HB := hide (two_below w (cBd ⟨nm, ⟨rA, rn, rc, rL⟩, ⟨oA, on, oc, oL⟩, ⟨tA, tm, tc, tL⟩, ⟨lA, ln, lc, lL⟩, ar, ⟨bA, bn, bc, bL⟩⟩) 28 (cOp ⟨k, ⟨l, pA, pn, pc, ps⟩, n⟩) 38)
  clear h ho
  go_enter Tryz.func15, Tryz.ntmps15
  go_wp2
  go_ret
  exact ⟨rfl, HB.out⟩
 by_cases h15 : 4 < k
 ·
  rw [if_pos (.inr h15)] at hv
  subst hv
  have HB := hide (two_below w (cBd ⟨nm, ⟨rA, rn, rc, rL⟩, ⟨oA, on, oc, oL⟩, ⟨tA, tm, tc, tL⟩, ⟨lA, ln, lc, lL⟩, ar, ⟨bA, bn, bc, bL⟩⟩) 28 (cOp ⟨k, ⟨l, pA, pn, pc, ps⟩, n⟩) 38)
  clear h ho
  go_enter Tryz.func15, Tryz.ntmps15
  go_wp2
  go_ret
  exact ⟨rfl, HB.out⟩
 rw [if_neg (by omega)] at hv
 have hk : k = 0 ∨ k = 1 ∨ k = 2 ∨ k = 3 ∨ k = 4 := by omega
 clear h14 h15
 rcases hk with rfl | rfl | rfl | rfl | rfl
 ·
  -- kind 0
  have HB := hide (two_below w (cBd ⟨nm, ⟨rA, rn, rc, rL⟩, ⟨oA, on, oc, oL⟩, ⟨tA, tm, tc, tL⟩, ⟨lA, ln, lc, lL⟩, ar, ⟨bA, bn, bc, bL⟩⟩) 28 (cOp ⟨0, ⟨l, pA, pn, pc, ps⟩, n⟩) 38)
  have HV := hide (h.up HB.out)
  have HO := hide (ho.up HB.out)
  clear h ho
  by_cases hn : n = 0
  ·
   have en : (n != 0) = false := by simp [hn]
   obtain ⟨u, e, hu⟩ : ∃ u e, tyV (wE ⟨nm, ⟨rA, rn, rc, rL⟩, ⟨oA, on, oc, oL⟩, ⟨tA, tm, tc, tL⟩, ⟨lA, ln, lc, lL⟩, ar, ⟨bA, bn, bc, bL⟩⟩) (PlW.v ⟨l, pA, pn, pc, ps⟩) = (u, e) := ⟨_, _, rfl⟩
   have hu1 : (tyV (wE ⟨nm, ⟨rA, rn, rc, rL⟩, ⟨oA, on, oc, oL⟩, ⟨tA, tm, tc, tL⟩, ⟨lA, ln, lc, lL⟩, ar, ⟨bA, bn, bc, bL⟩⟩) ⟨l, ps⟩).1 = u := congrArg Prod.fst hu
   have hu2 : (tyV (wE ⟨nm, ⟨rA, rn, rc, rL⟩, ⟨oA, on, oc, oL⟩, ⟨tA, tm, tc, tL⟩, ⟨lA, ln, lc, lL⟩, ar, ⟨bA, bn, bc, bL⟩⟩) ⟨l, ps⟩).2 = e := congrArg Prod.snd hu
   simp only [PlW.v, hu1, hu2] at hv
   by_cases he : e = 0
   ·
    obtain ⟨i, t, hi, ht⟩ := HV.out.ty (p := PlW.v ⟨l, pA, pn, pc, ps⟩) (by rw [hu]; exact he)
    have hi : u = (i : Int) := hu1.symm.trans hi
    subst hi
    subst he
    by_cases hc : tyCop (tys tL) (i : Int) = true
    ·
     have hc : tyCop (tys tL) (i : Int) = true := by simpa using hc
     obtain rfl : v = 0 := by
      rw [← hv]
      simp [hn, hc, wE]
     clear hv hn; try clear hn1
     go_enter Tryz.func15, Tryz.ntmps15
     go_wp2_with fail
     refine (RtypeOf_is (x := ⟨nm, ⟨rA, rn, rc, rL⟩, ⟨oA, on, oc, oL⟩, ⟨tA, tm, tc, tL⟩, ⟨lA, ln, lc, lL⟩, ar, ⟨bA, bn, bc, bL⟩⟩) (p := ⟨l, pA, pn, pc, ps⟩) HV.out HO.out.pl hu).mono ?_
     rintro e1 w1 ⟨rfl, hb1⟩
     have HW1 := hide (show Below _ (bo1 w ⟨nm, ⟨rA, rn, rc, rL⟩, ⟨oA, on, oc, oL⟩, ⟨tA, tm, tc, tL⟩, ⟨lA, ln, lc, lL⟩, ar, ⟨bA, bn, bc, bL⟩⟩ ⟨0, ⟨l, pA, pn, pc, ps⟩, n⟩) w1 from hb1)
     have HE1 := hide (HB.out.trans (HW1.out.mono HB.out.size))
     clear hb1
     obtain ⟨hcx, hco⟩ := two_cells (w := w) (cs := cBd ⟨nm, ⟨rA, rn, rc, rL⟩, ⟨oA, on, oc, oL⟩, ⟨tA, tm, tc, tL⟩, ⟨lA, ln, lc, lL⟩, ar, ⟨bA, bn, bc, bL⟩⟩) (T := 28) (ds := cOp ⟨0, ⟨l, pA, pn, pc, ps⟩, n⟩) (U := 38) HW1.out
     have x0 := hcx 0 (.string nm) rfl
     have x1 := hcx 1 (.slice rA rn rc) rfl
     have x2 := hcx 2 (.slice oA on oc) rfl
     have x3 := hcx 3 (.slice tA tm tc) rfl
     have x4 := hcx 4 (.slice lA ln lc) rfl
     have x5 := hcx 5 (.int .i64 ar) rfl
     have x6 := hcx 6 (.slice bA bn bc) rfl
     have o0 := hco 0 (.int .i64 (0)) rfl
     have o1 := hco 1 (.int .i64 l) rfl
     have o2 := hco 2 (.slice pA pn pc) rfl
     have o3 := hco 3 (.int .i64 n) rfl
     clear hcx hco
     have HVT := hide (HV.out.up (show Below _ (bo1 w ⟨nm, ⟨rA, rn, rc, rL⟩, ⟨oA, on, oc, oL⟩, ⟨tA, tm, tc, tL⟩, ⟨lA, ln, lc, lL⟩, ar, ⟨bA, bn, bc, bL⟩⟩ ⟨0, ⟨l, pA, pn, pc, ps⟩, n⟩) w1 from HW1.out))
     have hil : i < tm := by have h1 : i < tL.length := (List.getElem?_eq_some_iff.1 ht).1; have h2 : tL.length = tm := HV.out.one.types.len; omega
     have hc2 : tyCop (tys tL) (i : Int) = true := hc
     go_wp2_with fail
     refine (hc2 ▸ RCop_in (A := tA) (c := tc) (L := tL) (B := w1.heap.size) HV.out.nt65 (tyChk_iff.1 HV.out.ok.ty) (i + 1) i (Nat.lt_succ_self _) hil w1 HVT.out.one.typs (Nat.le_refl _)).mono ?_
     rintro e2 w2 ⟨rfl, hb2⟩
     have HW2 := hide (HW1.out.trans (hb2.mono HW1.out.size))
     have HE2 := hide (HB.out.trans (HW2.out.mono HB.out.size))
     clear hb2
     clear x0 x1 x2 x3 x4 x5 x6 o0 o1 o2 o3
     obtain ⟨hcx, hco⟩ := two_cells (w := w) (cs := cBd ⟨nm, ⟨rA, rn, rc, rL⟩, ⟨oA, on, oc, oL⟩, ⟨tA, tm, tc, tL⟩, ⟨lA, ln, lc, lL⟩, ar, ⟨bA, bn, bc, bL⟩⟩) (T := 28) (ds := cOp ⟨0, ⟨l, pA, pn, pc, ps⟩, n⟩) (U := 38) HW2.out
     have x0 := hcx 0 (.string nm) rfl
     have x1 := hcx 1 (.slice rA rn rc) rfl
     have x2 := hcx 2 (.slice oA on oc) rfl
     have x3 := hcx 3 (.slice tA tm tc) rfl
     have x4 := hcx 4 (.slice lA ln lc) rfl
     have x5 := hcx 5 (.int .i64 ar) rfl
     have x6 := hcx 6 (.slice bA bn bc) rfl
     have o0 := hco 0 (.int .i64 (0)) rfl
     have o1 := hco 1 (.int .i64 l) rfl
     have o2 := hco 2 (.slice pA pn pc) rfl
     have o3 := hco 3 (.int .i64 n) rfl
     clear hcx hco
     go_wp2
     go_ret
     exact ⟨rfl, HE2.out⟩
    ·
     have hc : tyCop (tys tL) (i : Int) = false := by simpa using hc
     obtain rfl : v = 22 := by
      rw [← hv]
      simp [hn, hc, wE]
     clear hv hn; try clear hn1
     go_enter Tryz.func15, Tryz.ntmps15
     go_wp2_with fail
     refine (RtypeOf_is (x := ⟨nm, ⟨rA, rn, rc, rL⟩, ⟨oA, on, oc, oL⟩, ⟨tA, tm, tc, tL⟩, ⟨lA, ln, lc, lL⟩, ar, ⟨bA, bn, bc, bL⟩⟩) (p := ⟨l, pA, pn, pc, ps⟩) HV.out HO.out.pl hu).mono ?_
     rintro e1 w1 ⟨rfl, hb1⟩
     have HW1 := hide (show Below _ (bo1 w ⟨nm, ⟨rA, rn, rc, rL⟩, ⟨oA, on, oc, oL⟩, ⟨tA, tm, tc, tL⟩, ⟨lA, ln, lc, lL⟩, ar, ⟨bA, bn, bc, bL⟩⟩ ⟨0, ⟨l, pA, pn, pc, ps⟩, n⟩) w1 from hb1)
     have HE1 := hide (HB.out.trans (HW1.out.mono HB.out.size))
     clear hb1
     obtain ⟨hcx, hco⟩ := two_cells (w := w) (cs := cBd ⟨nm, ⟨rA, rn, rc, rL⟩, ⟨oA, on, oc, oL⟩, ⟨tA, tm, tc, tL⟩, ⟨lA, ln, lc, lL⟩, ar, ⟨bA, bn, bc, bL⟩⟩) (T := 28) (ds := cOp ⟨0, ⟨l, pA, pn, pc, ps⟩, n⟩) (U := 38) HW1.out
     have x0 := hcx 0 (.string nm) rfl
     have x1 := hcx 1 (.slice rA rn rc) rfl
     have x2 := hcx 2 (.slice oA on oc) rfl
     have x3 := hcx 3 (.slice tA tm tc) rfl
     have x4 := hcx 4 (.slice lA ln lc) rfl
     have x5 := hcx 5 (.int .i64 ar) rfl
     have x6 := hcx 6 (.slice bA bn bc) rfl
     have o0 := hco 0 (.int .i64 (0)) rfl
     have o1 := hco 1 (.int .i64 l) rfl
     have o2 := hco 2 (.slice pA pn pc) rfl
     have o3 := hco 3 (.int .i64 n) rfl
     clear hcx hco
     have HVT := hide (HV.out.up (show Below _ (bo1 w ⟨nm, ⟨rA, rn, rc, rL⟩, ⟨oA, on, oc, oL⟩, ⟨tA, tm, tc, tL⟩, ⟨lA, ln, lc, lL⟩, ar, ⟨bA, bn, bc, bL⟩⟩ ⟨0, ⟨l, pA, pn, pc, ps⟩, n⟩) w1 from HW1.out))
     have hil : i < tm := by have h1 : i < tL.length := (List.getElem?_eq_some_iff.1 ht).1; have h2 : tL.length = tm := HV.out.one.types.len; omega
     have hc2 : tyCop (tys tL) (i : Int) = false := hc
     go_wp2_with fail
     refine (hc2 ▸ RCop_in (A := tA) (c := tc) (L := tL) (B := w1.heap.size) HV.out.nt65 (tyChk_iff.1 HV.out.ok.ty) (i + 1) i (Nat.lt_succ_self _) hil w1 HVT.out.one.typs (Nat.le_refl _)).mono ?_
     rintro e2 w2 ⟨rfl, hb2⟩
     have HW2 := hide (HW1.out.trans (hb2.mono HW1.out.size))
     have HE2 := hide (HB.out.trans (HW2.out.mono HB.out.size))
     clear hb2
     clear x0 x1 x2 x3 x4 x5 x6 o0 o1 o2 o3
     obtain ⟨hcx, hco⟩ := two_cells (w := w) (cs := cBd ⟨nm, ⟨rA, rn, rc, rL⟩, ⟨oA, on, oc, oL⟩, ⟨tA, tm, tc, tL⟩, ⟨lA, ln, lc, lL⟩, ar, ⟨bA, bn, bc, bL⟩⟩) (T := 28) (ds := cOp ⟨0, ⟨l, pA, pn, pc, ps⟩, n⟩) (U := 38) HW2.out
     have x0 := hcx 0 (.string nm) rfl
     have x1 := hcx 1 (.slice rA rn rc) rfl
     have x2 := hcx 2 (.slice oA on oc) rfl
     have x3 := hcx 3 (.slice tA tm tc) rfl
     have x4 := hcx 4 (.slice lA ln lc) rfl
     have x5 := hcx 5 (.int .i64 ar) rfl
     have x6 := hcx 6 (.slice bA bn bc) rfl
     have o0 := hco 0 (.int .i64 (0)) rfl
     have o1 := hco 1 (.int .i64 l) rfl
     have o2 := hco 2 (.slice pA pn pc) rfl
     have o3 := hco 3 (.int .i64 n) rfl
     clear hcx hco
     go_wp2
     go_ret
     exact ⟨rfl, HE2.out⟩
   ·
    have te : (e != 0) = true := by rw [bne_iff_ne]; exact he
    obtain rfl : v = e := by
     rw [← hv]
     simp [hn, he]
    clear hv hn; try clear hn1
    go_enter Tryz.func15, Tryz.ntmps15
    go_wp2_with fail
    refine (RtypeOf_is (x := ⟨nm, ⟨rA, rn, rc, rL⟩, ⟨oA, on, oc, oL⟩, ⟨tA, tm, tc, tL⟩, ⟨lA, ln, lc, lL⟩, ar, ⟨bA, bn, bc, bL⟩⟩) (p := ⟨l, pA, pn, pc, ps⟩) HV.out HO.out.pl hu).mono ?_
    rintro e1 w1 ⟨rfl, hb1⟩
    have HW1 := hide (show Below _ (bo1 w ⟨nm, ⟨rA, rn, rc, rL⟩, ⟨oA, on, oc, oL⟩, ⟨tA, tm, tc, tL⟩, ⟨lA, ln, lc, lL⟩, ar, ⟨bA, bn, bc, bL⟩⟩ ⟨0, ⟨l, pA, pn, pc, ps⟩, n⟩) w1 from hb1)
    have HE1 := hide (HB.out.trans (HW1.out.mono HB.out.size))
    clear hb1
    obtain ⟨hcx, hco⟩ := two_cells (w := w) (cs := cBd ⟨nm, ⟨rA, rn, rc, rL⟩, ⟨oA, on, oc, oL⟩, ⟨tA, tm, tc, tL⟩, ⟨lA, ln, lc, lL⟩, ar, ⟨bA, bn, bc, bL⟩⟩) (T := 28) (ds := cOp ⟨0, ⟨l, pA, pn, pc, ps⟩, n⟩) (U := 38) HW1.out
    have x0 := hcx 0 (.string nm) rfl
    have x1 := hcx 1 (.slice rA rn rc) rfl
    have x2 := hcx 2 (.slice oA on oc) rfl
    have x3 := hcx 3 (.slice tA tm tc) rfl
    have x4 := hcx 4 (.slice lA ln lc) rfl
    have x5 := hcx 5 (.int .i64 ar) rfl
    have x6 := hcx 6 (.slice bA bn bc) rfl
    have o0 := hco 0 (.int .i64 (0)) rfl
    have o1 := hco 1 (.int .i64 l) rfl
    have o2 := hco 2 (.slice pA pn pc) rfl
    have o3 := hco 3 (.int .i64 n) rfl
    clear hcx hco
    go_wp2
    go_ret
    exact ⟨rfl, HE1.out⟩
  ·
   have en : (n != 0) = true := by rw [bne_iff_ne]; exact hn
   obtain rfl : v = 2 := by
    rw [← hv]
    simp [hn]
   clear hv hn; try clear hn1
   go_enter Tryz.func15, Tryz.ntmps15
   go_wp2
   go_ret
   exact ⟨rfl, HB.out⟩
 ·
  -- kind 1
  have HB := hide (two_below w (cBd ⟨nm, ⟨rA, rn, rc, rL⟩, ⟨oA, on, oc, oL⟩, ⟨tA, tm, tc, tL⟩, ⟨lA, ln, lc, lL⟩, ar, ⟨bA, bn, bc, bL⟩⟩) 28 (cOp ⟨1, ⟨l, pA, pn, pc, ps⟩, n⟩) 38)
  have HV := hide (h.up HB.out)
  have HO := hide (ho.up HB.out)
  clear h ho
  by_cases hn : n = 0
  ·
   have en : (n != 0) = false := by simp [hn]
   obtain ⟨u, e, hu⟩ : ∃ u e, tyV (wE ⟨nm, ⟨rA, rn, rc, rL⟩, ⟨oA, on, oc, oL⟩, ⟨tA, tm, tc, tL⟩, ⟨lA, ln, lc, lL⟩, ar, ⟨bA, bn, bc, bL⟩⟩) (PlW.v ⟨l, pA, pn, pc, ps⟩) = (u, e) := ⟨_, _, rfl⟩
   have hu1 : (tyV (wE ⟨nm, ⟨rA, rn, rc, rL⟩, ⟨oA, on, oc, oL⟩, ⟨tA, tm, tc, tL⟩, ⟨lA, ln, lc, lL⟩, ar, ⟨bA, bn, bc, bL⟩⟩) ⟨l, ps⟩).1 = u := congrArg Prod.fst hu
   have hu2 : (tyV (wE ⟨nm, ⟨rA, rn, rc, rL⟩, ⟨oA, on, oc, oL⟩, ⟨tA, tm, tc, tL⟩, ⟨lA, ln, lc, lL⟩, ar, ⟨bA, bn, bc, bL⟩⟩) ⟨l, ps⟩).2 = e := congrArg Prod.snd hu
   simp only [PlW.v, hu1, hu2] at hv
   by_cases he : e = 0
   ·
    obtain ⟨i, t, hi, ht⟩ := HV.out.ty (p := PlW.v ⟨l, pA, pn, pc, ps⟩) (by rw [hu]; exact he)
    have hi : u = (i : Int) := hu1.symm.trans hi
    subst hi
    subst he
    by_cases hd : hasD ps 0 = true
    ·
     have hd : hasD ps 0 = true := by simpa using hd
     obtain rfl : v = 22 := by
      rw [← hv]
      simp [hn, hd]
     clear hv hn; try clear hn1
     go_enter Tryz.func15, Tryz.ntmps15
     go_wp2_with fail
     refine (RtypeOf_is (x := ⟨nm, ⟨rA, rn, rc, rL⟩, ⟨oA, on, oc, oL⟩, ⟨tA, tm, tc, tL⟩, ⟨lA, ln, lc, lL⟩, ar, ⟨bA, bn, bc, bL⟩⟩) (p := ⟨l, pA, pn, pc, ps⟩) HV.out HO.out.pl hu).mono ?_
     rintro e1 w1 ⟨rfl, hb1⟩
     have HW1 := hide (show Below _ (bo1 w ⟨nm, ⟨rA, rn, rc, rL⟩, ⟨oA, on, oc, oL⟩, ⟨tA, tm, tc, tL⟩, ⟨lA, ln, lc, lL⟩, ar, ⟨bA, bn, bc, bL⟩⟩ ⟨1, ⟨l, pA, pn, pc, ps⟩, n⟩) w1 from hb1)
     have HE1 := hide (HB.out.trans (HW1.out.mono HB.out.size))
     clear hb1
     obtain ⟨hcx, hco⟩ := two_cells (w := w) (cs := cBd ⟨nm, ⟨rA, rn, rc, rL⟩, ⟨oA, on, oc, oL⟩, ⟨tA, tm, tc, tL⟩, ⟨lA, ln, lc, lL⟩, ar, ⟨bA, bn, bc, bL⟩⟩) (T := 28) (ds := cOp ⟨1, ⟨l, pA, pn, pc, ps⟩, n⟩) (U := 38) HW1.out
     have x0 := hcx 0 (.string nm) rfl
     have x1 := hcx 1 (.slice rA rn rc) rfl
     have x2 := hcx 2 (.slice oA on oc) rfl
     have x3 := hcx 3 (.slice tA tm tc) rfl
     have x4 := hcx 4 (.slice lA ln lc) rfl
     have x5 := hcx 5 (.int .i64 ar) rfl
     have x6 := hcx 6 (.slice bA bn bc) rfl
     have o0 := hco 0 (.int .i64 (1)) rfl
     have o1 := hco 1 (.int .i64 l) rfl
     have o2 := hco 2 (.slice pA pn pc) rfl
     have o3 := hco 3 (.int .i64 n) rfl
     clear hcx hco
     go_wp2_with fail
     refine (RHasDeref_is (x := ⟨l, pA, pn, pc, ps⟩) (f := 0) hd _ (HO.out.pl.up HW1.out)).mono ?_
     rintro e2 w2 ⟨rfl, hb2⟩
     have HW2 := hide (HW1.out.trans (hb2.mono HW1.out.size))
     have HE2 := hide (HB.out.trans (HW2.out.mono HB.out.size))
     clear hb2
     clear x0 x1 x2 x3 x4 x5 x6 o0 o1 o2 o3
     obtain ⟨hcx, hco⟩ := two_cells (w := w) (cs := cBd ⟨nm, ⟨rA, rn, rc, rL⟩, ⟨oA, on, oc, oL⟩, ⟨tA, tm, tc, tL⟩, ⟨lA, ln, lc, lL⟩, ar, ⟨bA, bn, bc, bL⟩⟩) (T := 28) (ds := cOp ⟨1, ⟨l, pA, pn, pc, ps⟩, n⟩) (U := 38) HW2.out
     have x0 := hcx 0 (.string nm) rfl
     have x1 := hcx 1 (.slice rA rn rc) rfl
     have x2 := hcx 2 (.slice oA on oc) rfl
     have x3 := hcx 3 (.slice tA tm tc) rfl
     have x4 := hcx 4 (.slice lA ln lc) rfl
     have x5 := hcx 5 (.int .i64 ar) rfl
     have x6 := hcx 6 (.slice bA bn bc) rfl
     have o0 := hco 0 (.int .i64 (1)) rfl
     have o1 := hco 1 (.int .i64 l) rfl
     have o2 := hco 2 (.slice pA pn pc) rfl
     have o3 := hco 3 (.int .i64 n) rfl
     clear hcx hco
     go_wp2
     go_ret
     exact ⟨rfl, HE2.out⟩
    ·
     have hd : hasD ps 0 = false := by simpa using hd
     obtain rfl : v = 0 := by
      rw [← hv]
      simp [hn, hd]
     clear hv hn; try clear hn1
     go_enter Tryz.func15, Tryz.ntmps15
     go_wp2_with fail
     refine (RtypeOf_is (x := ⟨nm, ⟨rA, rn, rc, rL⟩, ⟨oA, on, oc, oL⟩, ⟨tA, tm, tc, tL⟩, ⟨lA, ln, lc, lL⟩, ar, ⟨bA, bn, bc, bL⟩⟩) (p := ⟨l, pA, pn, pc, ps⟩) HV.out HO.out.pl hu).mono ?_
     rintro e1 w1 ⟨rfl, hb1⟩
     have HW1 := hide (show Below _ (bo1 w ⟨nm, ⟨rA, rn, rc, rL⟩, ⟨oA, on, oc, oL⟩, ⟨tA, tm, tc, tL⟩, ⟨lA, ln, lc, lL⟩, ar, ⟨bA, bn, bc, bL⟩⟩ ⟨1, ⟨l, pA, pn, pc, ps⟩, n⟩) w1 from hb1)
     have HE1 := hide (HB.out.trans (HW1.out.mono HB.out.size))
     clear hb1
     obtain ⟨hcx, hco⟩ := two_cells (w := w) (cs := cBd ⟨nm, ⟨rA, rn, rc, rL⟩, ⟨oA, on, oc, oL⟩, ⟨tA, tm, tc, tL⟩, ⟨lA, ln, lc, lL⟩, ar, ⟨bA, bn, bc, bL⟩⟩) (T := 28) (ds := cOp ⟨1, ⟨l, pA, pn, pc, ps⟩, n⟩) (U := 38) HW1.out
     have x0 := hcx 0 (.string nm) rfl
     have x1 := hcx 1 (.slice rA rn rc) rfl
     have x2 := hcx 2 (.slice oA on oc) rfl
     have x3 := hcx 3 (.slice tA tm tc) rfl
     have x4 := hcx 4 (.slice lA ln lc) rfl
     have x5 := hcx 5 (.int .i64 ar) rfl
     have x6 := hcx 6 (.slice bA bn bc) rfl
     have o0 := hco 0 (.int .i64 (1)) rfl
     have o1 := hco 1 (.int .i64 l) rfl
     have o2 := hco 2 (.slice pA pn pc) rfl
     have o3 := hco 3 (.int .i64 n) rfl
     clear hcx hco
     go_wp2_with fail
     refine (RHasDeref_is (x := ⟨l, pA, pn, pc, ps⟩) (f := 0) hd _ (HO.out.pl.up HW1.out)).mono ?_
     rintro e2 w2 ⟨rfl, hb2⟩
     have HW2 := hide (HW1.out.trans (hb2.mono HW1.out.size))
     have HE2 := hide (HB.out.trans (HW2.out.mono HB.out.size))
     clear hb2
     clear x0 x1 x2 x3 x4 x5 x6 o0 o1 o2 o3
     obtain ⟨hcx, hco⟩ := two_cells (w := w) (cs := cBd ⟨nm, ⟨rA, rn, rc, rL⟩, ⟨oA, on, oc, oL⟩, ⟨tA, tm, tc, tL⟩, ⟨lA, ln, lc, lL⟩, ar, ⟨bA, bn, bc, bL⟩⟩) (T := 28) (ds := cOp ⟨1, ⟨l, pA, pn, pc, ps⟩, n⟩) (U := 38) HW2.out
     have x0 := hcx 0 (.string nm) rfl
     have x1 := hcx 1 (.slice rA rn rc) rfl
     have x2 := hcx 2 (.slice oA on oc) rfl
     have x3 := hcx 3 (.slice tA tm tc) rfl
     have x4 := hcx 4 (.slice lA ln lc) rfl
     have x5 := hcx 5 (.int .i64 ar) rfl
     have x6 := hcx 6 (.slice bA bn bc) rfl
     have o0 := hco 0 (.int .i64 (1)) rfl
     have o1 := hco 1 (.int .i64 l) rfl
     have o2 := hco 2 (.slice pA pn pc) rfl
     have o3 := hco 3 (.int .i64 n) rfl
     clear hcx hco
     go_wp2
     go_ret
     exact ⟨rfl, HE2.out⟩
   ·
    have te : (e != 0) = true := by rw [bne_iff_ne]; exact he
    obtain rfl : v = e := by
     rw [← hv]
     simp [hn, he]
    clear hv hn; try clear hn1
    go_enter Tryz.func15, Tryz.ntmps15
    go_wp2_with fail
    refine (RtypeOf_is (x := ⟨nm, ⟨rA, rn, rc, rL⟩, ⟨oA, on, oc, oL⟩, ⟨tA, tm, tc, tL⟩, ⟨lA, ln, lc, lL⟩, ar, ⟨bA, bn, bc, bL⟩⟩) (p := ⟨l, pA, pn, pc, ps⟩) HV.out HO.out.pl hu).mono ?_
    rintro e1 w1 ⟨rfl, hb1⟩
    have HW1 := hide (show Below _ (bo1 w ⟨nm, ⟨rA, rn, rc, rL⟩, ⟨oA, on, oc, oL⟩, ⟨tA, tm, tc, tL⟩, ⟨lA, ln, lc, lL⟩, ar, ⟨bA, bn, bc, bL⟩⟩ ⟨1, ⟨l, pA, pn, pc, ps⟩, n⟩) w1 from hb1)
    have HE1 := hide (HB.out.trans (HW1.out.mono HB.out.size))
    clear hb1
    obtain ⟨hcx, hco⟩ := two_cells (w := w) (cs := cBd ⟨nm, ⟨rA, rn, rc, rL⟩, ⟨oA, on, oc, oL⟩, ⟨tA, tm, tc, tL⟩, ⟨lA, ln, lc, lL⟩, ar, ⟨bA, bn, bc, bL⟩⟩) (T := 28) (ds := cOp ⟨1, ⟨l, pA, pn, pc, ps⟩, n⟩) (U := 38) HW1.out
    have x0 := hcx 0 (.string nm) rfl
    have x1 := hcx 1 (.slice rA rn rc) rfl
    have x2 := hcx 2 (.slice oA on oc) rfl
    have x3 := hcx 3 (.slice tA tm tc) rfl
    have x4 := hcx 4 (.slice lA ln lc) rfl
    have x5 := hcx 5 (.int .i64 ar) rfl
    have x6 := hcx 6 (.slice bA bn bc) rfl
    have o0 := hco 0 (.int .i64 (1)) rfl
    have o1 := hco 1 (.int .i64 l) rfl
    have o2 := hco 2 (.slice pA pn pc) rfl
    have o3 := hco 3 (.int .i64 n) rfl
    clear hcx hco
    go_wp2
    go_ret
    exact ⟨rfl, HE1.out⟩
  ·
   have en : (n != 0) = true := by rw [bne_iff_ne]; exact hn
   obtain rfl : v = 2 := by
    rw [← hv]
    simp [hn]
   clear hv hn; try clear hn1
   go_enter Tryz.func15, Tryz.ntmps15
   go_wp2
   go_ret
   exact ⟨rfl, HB.out⟩
 ·
  -- kind 2
  have HB := hide (two_below w (cBd ⟨nm, ⟨rA, rn, rc, rL⟩, ⟨oA, on, oc, oL⟩, ⟨tA, tm, tc, tL⟩, ⟨lA, ln, lc, lL⟩, ar, ⟨bA, bn, bc, bL⟩⟩) 28 (cOp ⟨2, ⟨l, pA, pn, pc, ps⟩, n⟩) 38)
  have HV := hide (h.up HB.out)
  have HO := hide (ho.up HB.out)
  clear h ho
  by_cases hn : n = 0
  ·
   have en : (n != 0) = false := by simp [hn]
   by_cases hz : noP (PlW.v ⟨l, pA, pn, pc, ps⟩) = true
   ·
    obtain rfl : v = 0 := by
     rw [← hv]
     simp_all [PlW.v]
    clear hv hn; try clear hn1
    go_enter Tryz.func15, Tryz.ntmps15
    go_wp2_with fail
    refine (Rnone_is (x := ⟨l, pA, pn, pc, ps⟩) hz _ HO.out.pl).mono ?_
    rintro e w1 ⟨rfl, hb1⟩
    have HW1 := hide (show Below _ (bo1 w ⟨nm, ⟨rA, rn, rc, rL⟩, ⟨oA, on, oc, oL⟩, ⟨tA, tm, tc, tL⟩, ⟨lA, ln, lc, lL⟩, ar, ⟨bA, bn, bc, bL⟩⟩ ⟨2, ⟨l, pA, pn, pc, ps⟩, n⟩) w1 from hb1)
    have HE1 := hide (HB.out.trans (HW1.out.mono HB.out.size))
    clear hb1
    obtain ⟨hcx, hco⟩ := two_cells (w := w) (cs := cBd ⟨nm, ⟨rA, rn, rc, rL⟩, ⟨oA, on, oc, oL⟩, ⟨tA, tm, tc, tL⟩, ⟨lA, ln, lc, lL⟩, ar, ⟨bA, bn, bc, bL⟩⟩) (T := 28) (ds := cOp ⟨2, ⟨l, pA, pn, pc, ps⟩, n⟩) (U := 38) HW1.out
    have x0 := hcx 0 (.string nm) rfl
    have x1 := hcx 1 (.slice rA rn rc) rfl
    have x2 := hcx 2 (.slice oA on oc) rfl
    have x3 := hcx 3 (.slice tA tm tc) rfl
    have x4 := hcx 4 (.slice lA ln lc) rfl
    have x5 := hcx 5 (.int .i64 ar) rfl
    have x6 := hcx 6 (.slice bA bn bc) rfl
    have o0 := hco 0 (.int .i64 (2)) rfl
    have o1 := hco 1 (.int .i64 l) rfl
    have o2 := hco 2 (.slice pA pn pc) rfl
    have o3 := hco 3 (.int .i64 n) rfl
    clear hcx hco
    go_wp2
    go_ret
    exact ⟨rfl, HE1.out⟩
   ·
    have hz : noP (PlW.v ⟨l, pA, pn, pc, ps⟩) = false := by simpa using hz
    obtain rfl : v = 2 := by
     rw [← hv]
     simp_all [PlW.v]
    clear hv hn; try clear hn1
    go_enter Tryz.func15, Tryz.ntmps15
    go_wp2_with fail
    refine (Rnone_is (x := ⟨l, pA, pn, pc, ps⟩) hz _ HO.out.pl).mono ?_
    rintro e w1 ⟨rfl, hb1⟩
    have HW1 := hide (show Below _ (bo1 w ⟨nm, ⟨rA, rn, rc, rL⟩, ⟨oA, on, oc, oL⟩, ⟨tA, tm, tc, tL⟩, ⟨lA, ln, lc, lL⟩, ar, ⟨bA, bn, bc, bL⟩⟩ ⟨2, ⟨l, pA, pn, pc, ps⟩, n⟩) w1 from hb1)
    have HE1 := hide (HB.out.trans (HW1.out.mono HB.out.size))
    clear hb1
    obtain ⟨hcx, hco⟩ := two_cells (w := w) (cs := cBd ⟨nm, ⟨rA, rn, rc, rL⟩, ⟨oA, on, oc, oL⟩, ⟨tA, tm, tc, tL⟩, ⟨lA, ln, lc, lL⟩, ar, ⟨bA, bn, bc, bL⟩⟩) (T := 28) (ds := cOp ⟨2, ⟨l, pA, pn, pc, ps⟩, n⟩) (U := 38) HW1.out
    have x0 := hcx 0 (.string nm) rfl
    have x1 := hcx 1 (.slice rA rn rc) rfl
    have x2 := hcx 2 (.slice oA on oc) rfl
    have x3 := hcx 3 (.slice tA tm tc) rfl
    have x4 := hcx 4 (.slice lA ln lc) rfl
    have x5 := hcx 5 (.int .i64 ar) rfl
    have x6 := hcx 6 (.slice bA bn bc) rfl
    have o0 := hco 0 (.int .i64 (2)) rfl
    have o1 := hco 1 (.int .i64 l) rfl
    have o2 := hco 2 (.slice pA pn pc) rfl
    have o3 := hco 3 (.int .i64 n) rfl
    clear hcx hco
    go_wp2
    go_ret
    exact ⟨rfl, HE1.out⟩
  ·
   have en : (n != 0) = true := by rw [bne_iff_ne]; exact hn
   by_cases hz : noP (PlW.v ⟨l, pA, pn, pc, ps⟩) = true
   ·
    obtain rfl : v = 0 := by
     rw [← hv]
     simp_all [PlW.v]
    clear hv hn; try clear hn1
    go_enter Tryz.func15, Tryz.ntmps15
    go_wp2_with fail
    refine (Rnone_is (x := ⟨l, pA, pn, pc, ps⟩) hz _ HO.out.pl).mono ?_
    rintro e w1 ⟨rfl, hb1⟩
    have HW1 := hide (show Below _ (bo1 w ⟨nm, ⟨rA, rn, rc, rL⟩, ⟨oA, on, oc, oL⟩, ⟨tA, tm, tc, tL⟩, ⟨lA, ln, lc, lL⟩, ar, ⟨bA, bn, bc, bL⟩⟩ ⟨2, ⟨l, pA, pn, pc, ps⟩, n⟩) w1 from hb1)
    have HE1 := hide (HB.out.trans (HW1.out.mono HB.out.size))
    clear hb1
    obtain ⟨hcx, hco⟩ := two_cells (w := w) (cs := cBd ⟨nm, ⟨rA, rn, rc, rL⟩, ⟨oA, on, oc, oL⟩, ⟨tA, tm, tc, tL⟩, ⟨lA, ln, lc, lL⟩, ar, ⟨bA, bn, bc, bL⟩⟩) (T := 28) (ds := cOp ⟨2, ⟨l, pA, pn, pc, ps⟩, n⟩) (U := 38) HW1.out
    have x0 := hcx 0 (.string nm) rfl
    have x1 := hcx 1 (.slice rA rn rc) rfl
    have x2 := hcx 2 (.slice oA on oc) rfl
    have x3 := hcx 3 (.slice tA tm tc) rfl
    have x4 := hcx 4 (.slice lA ln lc) rfl
    have x5 := hcx 5 (.int .i64 ar) rfl
    have x6 := hcx 6 (.slice bA bn bc) rfl
    have o0 := hco 0 (.int .i64 (2)) rfl
    have o1 := hco 1 (.int .i64 l) rfl
    have o2 := hco 2 (.slice pA pn pc) rfl
    have o3 := hco 3 (.int .i64 n) rfl
    clear hcx hco
    go_wp2
    go_ret
    exact ⟨rfl, HE1.out⟩
   ·
    have hz : noP (PlW.v ⟨l, pA, pn, pc, ps⟩) = false := by simpa using hz
    obtain rfl : v = 2 := by
     rw [← hv]
     simp_all [PlW.v]
    clear hv hn; try clear hn1
    go_enter Tryz.func15, Tryz.ntmps15
    go_wp2_with fail
    refine (Rnone_is (x := ⟨l, pA, pn, pc, ps⟩) hz _ HO.out.pl).mono ?_
    rintro e w1 ⟨rfl, hb1⟩
    have HW1 := hide (show Below _ (bo1 w ⟨nm, ⟨rA, rn, rc, rL⟩, ⟨oA, on, oc, oL⟩, ⟨tA, tm, tc, tL⟩, ⟨lA, ln, lc, lL⟩, ar, ⟨bA, bn, bc, bL⟩⟩ ⟨2, ⟨l, pA, pn, pc, ps⟩, n⟩) w1 from hb1)
    have HE1 := hide (HB.out.trans (HW1.out.mono HB.out.size))
    clear hb1
    obtain ⟨hcx, hco⟩ := two_cells (w := w) (cs := cBd ⟨nm, ⟨rA, rn, rc, rL⟩, ⟨oA, on, oc, oL⟩, ⟨tA, tm, tc, tL⟩, ⟨lA, ln, lc, lL⟩, ar, ⟨bA, bn, bc, bL⟩⟩) (T := 28) (ds := cOp ⟨2, ⟨l, pA, pn, pc, ps⟩, n⟩) (U := 38) HW1.out
    have x0 := hcx 0 (.string nm) rfl
    have x1 := hcx 1 (.slice rA rn rc) rfl
    have x2 := hcx 2 (.slice oA on oc) rfl
    have x3 := hcx 3 (.slice tA tm tc) rfl
    have x4 := hcx 4 (.slice lA ln lc) rfl
    have x5 := hcx 5 (.int .i64 ar) rfl
    have x6 := hcx 6 (.slice bA bn bc) rfl
    have o0 := hco 0 (.int .i64 (2)) rfl
    have o1 := hco 1 (.int .i64 l) rfl
    have o2 := hco 2 (.slice pA pn pc) rfl
    have o3 := hco 3 (.int .i64 n) rfl
    clear hcx hco
    go_wp2
    go_ret
    exact ⟨rfl, HE1.out⟩
 ·
  -- kind 3
  have HB := hide (two_below w (cBd ⟨nm, ⟨rA, rn, rc, rL⟩, ⟨oA, on, oc, oL⟩, ⟨tA, tm, tc, tL⟩, ⟨lA, ln, lc, lL⟩, ar, ⟨bA, bn, bc, bL⟩⟩) 28 (cOp ⟨3, ⟨l, pA, pn, pc, ps⟩, n⟩) 38)
  have HV := hide (h.up HB.out)
  have HO := hide (ho.up HB.out)
  clear h ho
  by_cases hn : n = 0
  ·
   have en : (n != 0) = false := by simp [hn]
   by_cases hz : noP (PlW.v ⟨l, pA, pn, pc, ps⟩) = true
   ·
    obtain rfl : v = 0 := by
     rw [← hv]
     simp_all [PlW.v]
    clear hv hn; try clear hn1
    go_enter Tryz.func15, Tryz.ntmps15
    go_wp2_with fail
    refine (Rnone_is (x := ⟨l, pA, pn, pc, ps⟩) hz _ HO.out.pl).mono ?_
    rintro e w1 ⟨rfl, hb1⟩
    have HW1 := hide (show Below _ (bo1 w ⟨nm, ⟨rA, rn, rc, rL⟩, ⟨oA, on, oc, oL⟩, ⟨tA, tm, tc, tL⟩, ⟨lA, ln, lc, lL⟩, ar, ⟨bA, bn, bc, bL⟩⟩ ⟨3, ⟨l, pA, pn, pc, ps⟩, n⟩) w1 from hb1)
    have HE1 := hide (HB.out.trans (HW1.out.mono HB.out.size))
    clear hb1
    obtain ⟨hcx, hco⟩ := two_cells (w := w) (cs := cBd ⟨nm, ⟨rA, rn, rc, rL⟩, ⟨oA, on, oc, oL⟩, ⟨tA, tm, tc, tL⟩, ⟨lA, ln, lc, lL⟩, ar, ⟨bA, bn, bc, bL⟩⟩) (T := 28) (ds := cOp ⟨3, ⟨l, pA, pn, pc, ps⟩, n⟩) (U := 38) HW1.out
    have x0 := hcx 0 (.string nm) rfl
    have x1 := hcx 1 (.slice rA rn rc) rfl
    have x2 := hcx 2 (.slice oA on oc) rfl
    have x3 := hcx 3 (.slice tA tm tc) rfl
    have x4 := hcx 4 (.slice lA ln lc) rfl
    have x5 := hcx 5 (.int .i64 ar) rfl
    have x6 := hcx 6 (.slice bA bn bc) rfl
    have o0 := hco 0 (.int .i64 (3)) rfl
    have o1 := hco 1 (.int .i64 l) rfl
    have o2 := hco 2 (.slice pA pn pc) rfl
    have o3 := hco 3 (.int .i64 n) rfl
    clear hcx hco
    go_wp2
    go_ret
    exact ⟨rfl, HE1.out⟩
   ·
    have hz : noP (PlW.v ⟨l, pA, pn, pc, ps⟩) = false := by simpa using hz
    obtain rfl : v = 2 := by
     rw [← hv]
     simp_all [PlW.v]
    clear hv hn; try clear hn1
    go_enter Tryz.func15, Tryz.ntmps15
    go_wp2_with fail
    refine (Rnone_is (x := ⟨l, pA, pn, pc, ps⟩) hz _ HO.out.pl).mono ?_
    rintro e w1 ⟨rfl, hb1⟩
    have HW1 := hide (show Below _ (bo1 w ⟨nm, ⟨rA, rn, rc, rL⟩, ⟨oA, on, oc, oL⟩, ⟨tA, tm, tc, tL⟩, ⟨lA, ln, lc, lL⟩, ar, ⟨bA, bn, bc, bL⟩⟩ ⟨3, ⟨l, pA, pn, pc, ps⟩, n⟩) w1 from hb1)
    have HE1 := hide (HB.out.trans (HW1.out.mono HB.out.size))
    clear hb1
    obtain ⟨hcx, hco⟩ := two_cells (w := w) (cs := cBd ⟨nm, ⟨rA, rn, rc, rL⟩, ⟨oA, on, oc, oL⟩, ⟨tA, tm, tc, tL⟩, ⟨lA, ln, lc, lL⟩, ar, ⟨bA, bn, bc, bL⟩⟩) (T := 28) (ds := cOp ⟨3, ⟨l, pA, pn, pc, ps⟩, n⟩) (U := 38) HW1.out
    have x0 := hcx 0 (.string nm) rfl
    have x1 := hcx 1 (.slice rA rn rc) rfl
    have x2 := hcx 2 (.slice oA on oc) rfl
    have x3 := hcx 3 (.slice tA tm tc) rfl
    have x4 := hcx 4 (.slice lA ln lc) rfl
    have x5 := hcx 5 (.int .i64 ar) rfl
    have x6 := hcx 6 (.slice bA bn bc) rfl
    have o0 := hco 0 (.int .i64 (3)) rfl
    have o1 := hco 1 (.int .i64 l) rfl
    have o2 := hco 2 (.slice pA pn pc) rfl
    have o3 := hco 3 (.int .i64 n) rfl
    clear hcx hco
    go_wp2
    go_ret
    exact ⟨rfl, HE1.out⟩
  ·
   have en : (n != 0) = true := by rw [bne_iff_ne]; exact hn
   by_cases hn1 : n = 1
   ·
    have en1 : (n != 1) = false := by simp [hn1]
    by_cases hz : noP (PlW.v ⟨l, pA, pn, pc, ps⟩) = true
    ·
     obtain rfl : v = 0 := by
      rw [← hv]
      simp_all [PlW.v]
     clear hv hn; try clear hn1
     go_enter Tryz.func15, Tryz.ntmps15
     go_wp2_with fail
     refine (Rnone_is (x := ⟨l, pA, pn, pc, ps⟩) hz _ HO.out.pl).mono ?_
     rintro e w1 ⟨rfl, hb1⟩
     have HW1 := hide (show Below _ (bo1 w ⟨nm, ⟨rA, rn, rc, rL⟩, ⟨oA, on, oc, oL⟩, ⟨tA, tm, tc, tL⟩, ⟨lA, ln, lc, lL⟩, ar, ⟨bA, bn, bc, bL⟩⟩ ⟨3, ⟨l, pA, pn, pc, ps⟩, n⟩) w1 from hb1)
     have HE1 := hide (HB.out.trans (HW1.out.mono HB.out.size))
     clear hb1
     obtain ⟨hcx, hco⟩ := two_cells (w := w) (cs := cBd ⟨nm, ⟨rA, rn, rc, rL⟩, ⟨oA, on, oc, oL⟩, ⟨tA, tm, tc, tL⟩, ⟨lA, ln, lc, lL⟩, ar, ⟨bA, bn, bc, bL⟩⟩) (T := 28) (ds := cOp ⟨3, ⟨l, pA, pn, pc, ps⟩, n⟩) (U := 38) HW1.out
     have x0 := hcx 0 (.string nm) rfl
     have x1 := hcx 1 (.slice rA rn rc) rfl
     have x2 := hcx 2 (.slice oA on oc) rfl
     have x3 := hcx 3 (.slice tA tm tc) rfl
     have x4 := hcx 4 (.slice lA ln lc) rfl
     have x5 := hcx 5 (.int .i64 ar) rfl
     have x6 := hcx 6 (.slice bA bn bc) rfl
     have o0 := hco 0 (.int .i64 (3)) rfl
     have o1 := hco 1 (.int .i64 l) rfl
     have o2 := hco 2 (.slice pA pn pc) rfl
     have o3 := hco 3 (.int .i64 n) rfl
     clear hcx hco
     go_wp2
     go_ret
     exact ⟨rfl, HE1.out⟩
    ·
     have hz : noP (PlW.v ⟨l, pA, pn, pc, ps⟩) = false := by simpa using hz
     obtain rfl : v = 2 := by
      rw [← hv]
      simp_all [PlW.v]
     clear hv hn; try clear hn1
     go_enter Tryz.func15, Tryz.ntmps15
     go_wp2_with fail
     refine (Rnone_is (x := ⟨l, pA, pn, pc, ps⟩) hz _ HO.out.pl).mono ?_
     rintro e w1 ⟨rfl, hb1⟩
     have HW1 := hide (show Below _ (bo1 w ⟨nm, ⟨rA, rn, rc, rL⟩, ⟨oA, on, oc, oL⟩, ⟨tA, tm, tc, tL⟩, ⟨lA, ln, lc, lL⟩, ar, ⟨bA, bn, bc, bL⟩⟩ ⟨3, ⟨l, pA, pn, pc, ps⟩, n⟩) w1 from hb1)
     have HE1 := hide (HB.out.trans (HW1.out.mono HB.out.size))
     clear hb1
     obtain ⟨hcx, hco⟩ := two_cells (w := w) (cs := cBd ⟨nm, ⟨rA, rn, rc, rL⟩, ⟨oA, on, oc, oL⟩, ⟨tA, tm, tc, tL⟩, ⟨lA, ln, lc, lL⟩, ar, ⟨bA, bn, bc, bL⟩⟩) (T := 28) (ds := cOp ⟨3, ⟨l, pA, pn, pc, ps⟩, n⟩) (U := 38) HW1.out
     have x0 := hcx 0 (.string nm) rfl
     have x1 := hcx 1 (.slice rA rn rc) rfl
     have x2 := hcx 2 (.slice oA on oc) rfl
     have x3 := hcx 3 (.slice tA tm tc) rfl
     have x4 := hcx 4 (.slice lA ln lc) rfl
     have x5 := hcx 5 (.int .i64 ar) rfl
     have x6 := hcx 6 (.slice bA bn bc) rfl
     have o0 := hco 0 (.int .i64 (3)) rfl
     have o1 := hco 1 (.int .i64 l) rfl
     have o2 := hco 2 (.slice pA pn pc) rfl
     have o3 := hco 3 (.int .i64 n) rfl
     clear hcx hco
     go_wp2
     go_ret
     exact ⟨rfl, HE1.out⟩
   ·
    have en1 : (n != 1) = true := by rw [bne_iff_ne]; exact hn1
    by_cases hz : noP (PlW.v ⟨l, pA, pn, pc, ps⟩) = true
    ·
     obtain rfl : v = 3 := by
      rw [← hv]
      simp_all [PlW.v]
     clear hv hn; try clear hn1
     go_enter Tryz.func15, Tryz.ntmps15
     go_wp2_with fail
     refine (Rnone_is (x := ⟨l, pA, pn, pc, ps⟩) hz _ HO.out.pl).mono ?_
     rintro e w1 ⟨rfl, hb1⟩
     have HW1 := hide (show Below _ (bo1 w ⟨nm, ⟨rA, rn, rc, rL⟩, ⟨oA, on, oc, oL⟩, ⟨tA, tm, tc, tL⟩, ⟨lA, ln, lc, lL⟩, ar, ⟨bA, bn, bc, bL⟩⟩ ⟨3, ⟨l, pA, pn, pc, ps⟩, n⟩) w1 from hb1)
     have HE1 := hide (HB.out.trans (HW1.out.mono HB.out.size))
     clear hb1
     obtain ⟨hcx, hco⟩ := two_cells (w := w) (cs := cBd ⟨nm, ⟨rA, rn, rc, rL⟩, ⟨oA, on, oc, oL⟩, ⟨tA, tm, tc, tL⟩, ⟨lA, ln, lc, lL⟩, ar, ⟨bA, bn, bc, bL⟩⟩) (T := 28) (ds := cOp ⟨3, ⟨l, pA, pn, pc, ps⟩, n⟩) (U := 38) HW1.out
     have x0 := hcx 0 (.string nm) rfl
     have x1 := hcx 1 (.slice rA rn rc) rfl
     have x2 := hcx 2 (.slice oA on oc) rfl
     have x3 := hcx 3 (.slice tA tm tc) rfl
     have x4 := hcx 4 (.slice lA ln lc) rfl
     have x5 := hcx 5 (.int .i64 ar) rfl
     have x6 := hcx 6 (.slice bA bn bc) rfl
     have o0 := hco 0 (.int .i64 (3)) rfl
     have o1 := hco 1 (.int .i64 l) rfl
     have o2 := hco 2 (.slice pA pn pc) rfl
     have o3 := hco 3 (.int .i64 n) rfl
     clear hcx hco
     go_wp2
     go_ret
     exact ⟨rfl, HE1.out⟩
    ·
     have hz : noP (PlW.v ⟨l, pA, pn, pc, ps⟩) = false := by simpa using hz
     obtain rfl : v = 2 := by
      rw [← hv]
      simp_all [PlW.v]
     clear hv hn; try clear hn1
     go_enter Tryz.func15, Tryz.ntmps15
     go_wp2_with fail
     refine (Rnone_is (x := ⟨l, pA, pn, pc, ps⟩) hz _ HO.out.pl).mono ?_
     rintro e w1 ⟨rfl, hb1⟩
     have HW1 := hide (show Below _ (bo1 w ⟨nm, ⟨rA, rn, rc, rL⟩, ⟨oA, on, oc, oL⟩, ⟨tA, tm, tc, tL⟩, ⟨lA, ln, lc, lL⟩, ar, ⟨bA, bn, bc, bL⟩⟩ ⟨3, ⟨l, pA, pn, pc, ps⟩, n⟩) w1 from hb1)
     have HE1 := hide (HB.out.trans (HW1.out.mono HB.out.size))
     clear hb1
     obtain ⟨hcx, hco⟩ := two_cells (w := w) (cs := cBd ⟨nm, ⟨rA, rn, rc, rL⟩, ⟨oA, on, oc, oL⟩, ⟨tA, tm, tc, tL⟩, ⟨lA, ln, lc, lL⟩, ar, ⟨bA, bn, bc, bL⟩⟩) (T := 28) (ds := cOp ⟨3, ⟨l, pA, pn, pc, ps⟩, n⟩) (U := 38) HW1.out
     have x0 := hcx 0 (.string nm) rfl
     have x1 := hcx 1 (.slice rA rn rc) rfl
     have x2 := hcx 2 (.slice oA on oc) rfl
     have x3 := hcx 3 (.slice tA tm tc) rfl
     have x4 := hcx 4 (.slice lA ln lc) rfl
     have x5 := hcx 5 (.int .i64 ar) rfl
     have x6 := hcx 6 (.slice bA bn bc) rfl
     have o0 := hco 0 (.int .i64 (3)) rfl
     have o1 := hco 1 (.int .i64 l) rfl
     have o2 := hco 2 (.slice pA pn pc) rfl
     have o3 := hco 3 (.int .i64 n) rfl
     clear hcx hco
     go_wp2
     go_ret
     exact ⟨rfl, HE1.out⟩
 ·
  -- kind 4
  have HB := hide (two_below w (cBd ⟨nm, ⟨rA, rn, rc, rL⟩, ⟨oA, on, oc, oL⟩, ⟨tA, tm, tc, tL⟩, ⟨lA, ln, lc, lL⟩, ar, ⟨bA, bn, bc, bL⟩⟩) 28 (cOp ⟨4, ⟨l, pA, pn, pc, ps⟩, n⟩) 38)
  have HV := hide (h.up HB.out)
  have HO := hide (ho.up HB.out)
  clear h ho
  by_cases hn : n = 0
  ·
   have en : (n != 0) = false := by simp [hn]
   by_cases hz : noP (PlW.v ⟨l, pA, pn, pc, ps⟩) = true
   ·
    obtain rfl : v = 0 := by
     rw [← hv]
     simp_all [PlW.v]
    clear hv hn; try clear hn1
    go_enter Tryz.func15, Tryz.ntmps15
    go_wp2_with fail
    refine (Rnone_is (x := ⟨l, pA, pn, pc, ps⟩) hz _ HO.out.pl).mono ?_
    rintro e w1 ⟨rfl, hb1⟩
    have HW1 := hide (show Below _ (bo1 w ⟨nm, ⟨rA, rn, rc, rL⟩, ⟨oA, on, oc, oL⟩, ⟨tA, tm, tc, tL⟩, ⟨lA, ln, lc, lL⟩, ar, ⟨bA, bn, bc, bL⟩⟩ ⟨4, ⟨l, pA, pn, pc, ps⟩, n⟩) w1 from hb1)
    have HE1 := hide (HB.out.trans (HW1.out.mono HB.out.size))
    clear hb1
    obtain ⟨hcx, hco⟩ := two_cells (w := w) (cs := cBd ⟨nm, ⟨rA, rn, rc, rL⟩, ⟨oA, on, oc, oL⟩, ⟨tA, tm, tc, tL⟩, ⟨lA, ln, lc, lL⟩, ar, ⟨bA, bn, bc, bL⟩⟩) (T := 28) (ds := cOp ⟨4, ⟨l, pA, pn, pc, ps⟩, n⟩) (U := 38) HW1.out
    have x0 := hcx 0 (.string nm) rfl
    have x1 := hcx 1 (.slice rA rn rc) rfl
    have x2 := hcx 2 (.slice oA on oc) rfl
    have x3 := hcx 3 (.slice tA tm tc) rfl
    have x4 := hcx 4 (.slice lA ln lc) rfl
    have x5 := hcx 5 (.int .i64 ar) rfl
    have x6 := hcx 6 (.slice bA bn bc) rfl
    have o0 := hco 0 (.int .i64 (4)) rfl
    have o1 := hco 1 (.int .i64 l) rfl
    have o2 := hco 2 (.slice pA pn pc) rfl
    have o3 := hco 3 (.int .i64 n) rfl
    clear hcx hco
    go_wp2
    go_ret
    exact ⟨rfl, HE1.out⟩
   ·
    have hz : noP (PlW.v ⟨l, pA, pn, pc, ps⟩) = false := by simpa using hz
    obtain rfl : v = 2 := by
     rw [← hv]
     simp_all [PlW.v]
    clear hv hn; try clear hn1
    go_enter Tryz.func15, Tryz.ntmps15
    go_wp2_with fail
    refine (Rnone_is (x := ⟨l, pA, pn, pc, ps⟩) hz _ HO.out.pl).mono ?_
    rintro e w1 ⟨rfl, hb1⟩
    have HW1 := hide (show Below _ (bo1 w ⟨nm, ⟨rA, rn, rc, rL⟩, ⟨oA, on, oc, oL⟩, ⟨tA, tm, tc, tL⟩, ⟨lA, ln, lc, lL⟩, ar, ⟨bA, bn, bc, bL⟩⟩ ⟨4, ⟨l, pA, pn, pc, ps⟩, n⟩) w1 from hb1)
    have HE1 := hide (HB.out.trans (HW1.out.mono HB.out.size))
    clear hb1
    obtain ⟨hcx, hco⟩ := two_cells (w := w) (cs := cBd ⟨nm, ⟨rA, rn, rc, rL⟩, ⟨oA, on, oc, oL⟩, ⟨tA, tm, tc, tL⟩, ⟨lA, ln, lc, lL⟩, ar, ⟨bA, bn, bc, bL⟩⟩) (T := 28) (ds := cOp ⟨4, ⟨l, pA, pn, pc, ps⟩, n⟩) (U := 38) HW1.out
    have x0 := hcx 0 (.string nm) rfl
    have x1 := hcx 1 (.slice rA rn rc) rfl
    have x2 := hcx 2 (.slice oA on oc) rfl
    have x3 := hcx 3 (.slice tA tm tc) rfl
    have x4 := hcx 4 (.slice lA ln lc) rfl
    have x5 := hcx 5 (.int .i64 ar) rfl
    have x6 := hcx 6 (.slice bA bn bc) rfl
    have o0 := hco 0 (.int .i64 (4)) rfl
    have o1 := hco 1 (.int .i64 l) rfl
    have o2 := hco 2 (.slice pA pn pc) rfl
    have o3 := hco 3 (.int .i64 n) rfl
    clear hcx hco
    go_wp2
    go_ret
    exact ⟨rfl, HE1.out⟩
  ·
   have en : (n != 0) = true := by rw [bne_iff_ne]; exact hn
   obtain rfl : v = 2 := by
    rw [← hv]
    simp [hn]
   clear hv hn; try clear hn1
   go_enter Tryz.func15, Tryz.ntmps15
   go_wp2
   go_ret
   exact ⟨rfl, HB.out⟩
end Go.Proofs.YtfgacmgjpikgaaaGreatDoor
