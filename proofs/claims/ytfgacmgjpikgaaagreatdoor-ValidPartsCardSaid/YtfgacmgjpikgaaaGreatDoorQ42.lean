/- Part 43 of the contracts and their mathematics. -/
import Derived.Test.YtfgacmgjpikgaaaGreatDoorQ37
import Derived.Test.YtfgacmgjpikgaaaGreatDoorQ40
import Derived.Test.YtfgacmgjpikgaaaGreatDoorQ41
import Derived.Scope
import Derived.Deep.MidRow
set_option linter.unusedVariables false
set_option linter.unusedSimpArgs false
namespace Go.Proofs.YtfgacmgjpikgaaaGreatDoor
open Go.RowKit
noncomputable def rgV (b : BdV) : Int := if 65535 < b.regions.length then 15 else rgErr [] b.regions
noncomputable def lcV (b : BdV) : Int := if 65535 < b.locals.length then 15 else lcErr b.types.length [] b.locals
theorem deErr_eq (b : BdV) : deErr b = if identB b.name = false then 12 else if rgV b ≠ 0 then rgV b else if prChk b.outl b.regions.length ≠ 0 then prChk b.outl b.regions.length
  else if tyChk b.types b.regions.length ≠ 0 then tyChk b.types b.regions.length else if lcV b ≠ 0 then lcV b
  else if b.args < 0 ∨ (b.locals.length : Int) < b.args then 3 else if b.blocks.length = 0 ∨ 65535 < b.blocks.length then 15 else 0 := by
 unfold deErr rgV lcV
 cases identB b.name
 ·
  rfl
 ·
  by_cases h1 : 65535 < b.regions.length
  ·
   simp [h1]
  ·
   by_cases h2 : rgErr [] b.regions = 0
   ·
    by_cases h3 : prChk b.outl b.regions.length = 0
    ·
     by_cases h4 : tyChk b.types b.regions.length = 0
     ·
      by_cases h5 : 65535 < b.locals.length
      ·
       simp [h1, h2, h3, h4, h5]
      ·
       simp [h1, h2, h3, h4, h5]
     ·
      simp [h1, h2, h3, h4]
    ·
     simp [h1, h2, h3]
   ·
    simp [h1, h2]
set_option maxHeartbeats 8000000 in
set_option maxRecDepth 100000 in
theorem cde_is {x : BdW} {v : Int} {w : World} (h : OneBd w w.heap.size x) (hv : deErr x.v = v) :
  Calls Tryz.prog 26 #[aggBd x] w fun e w' => e = .returned (.int .i64 v) ∧ Below w.heap.size w w' := by
 obtain ⟨nm, ⟨rA, rn, rc, rL⟩, ⟨oA, on, oc, oL⟩, ⟨tA, tm, tc, tL⟩, ⟨lA, ln, lc, lL⟩, ar, ⟨bA, bn, bc, bL⟩⟩ := x
 have HB := hide ((Below.refl w.heap.size w).alloc (Nat.le_refl _) (.cells #[.string nm, .slice rA rn rc, .slice oA on oc, .slice tA tm tc, .slice lA ln lc, .int .i64 ar, .slice bA bn bc] 28))
 have HX := hide (h.up HB.out)
 have hnm : nm.size ≤ maxLen := h.name
 have hrl : rL.length = rn := h.regions.len
 have hll : lL.length = ln := h.locals.len
 have hbl : bL.length = bn := h.blocks.len
 have htl : tL.length = tm := h.types.len
 have hrm : rn ≤ maxLen := h.regions.nm
 have hom : on ≤ maxLen := h.outl.nm
 have htm : tm ≤ maxLen := h.types.nm
 have hlm : ln ≤ maxLen := h.locals.nm
 have hbm : bn ≤ maxLen := h.blocks.nm
 obtain ⟨bi, hid⟩ : ∃ z, identB nm = z := ⟨_, rfl⟩
 obtain ⟨v1, h1⟩ : ∃ z, rgV (BdW.v ⟨nm, ⟨rA, rn, rc, rL⟩, ⟨oA, on, oc, oL⟩, ⟨tA, tm, tc, tL⟩, ⟨lA, ln, lc, lL⟩, ar, ⟨bA, bn, bc, bL⟩⟩) = z := ⟨_, rfl⟩
 obtain ⟨v2, h2⟩ : ∃ z, prChk oL ((rn : Nat) : Int) = z := ⟨_, rfl⟩
 obtain ⟨v3, h3⟩ : ∃ z, tyChk (tys tL) ((rn : Nat) : Int) = z := ⟨_, rfl⟩
 obtain ⟨v4, h4⟩ : ∃ z, lcV (BdW.v ⟨nm, ⟨rA, rn, rc, rL⟩, ⟨oA, on, oc, oL⟩, ⟨tA, tm, tc, tL⟩, ⟨lA, ln, lc, lL⟩, ar, ⟨bA, bn, bc, bL⟩⟩) = z := ⟨_, rfl⟩
 have hv9 : (if bi = false then (12 : Int) else if v1 ≠ 0 then v1 else if v2 ≠ 0 then v2 else if v3 ≠ 0 then v3 else if v4 ≠ 0 then v4 else if ar < 0 ∨ (ln : Int) < ar then 3 else if bn = 0 ∨ 65535 < bn then 15 else 0) = v := by
  have e1 : (BdW.v ⟨nm, ⟨rA, rn, rc, rL⟩, ⟨oA, on, oc, oL⟩, ⟨tA, tm, tc, tL⟩, ⟨lA, ln, lc, lL⟩, ar, ⟨bA, bn, bc, bL⟩⟩).locals.length = ln := (List.length_map _).trans hll
  have e2 : (BdW.v ⟨nm, ⟨rA, rn, rc, rL⟩, ⟨oA, on, oc, oL⟩, ⟨tA, tm, tc, tL⟩, ⟨lA, ln, lc, lL⟩, ar, ⟨bA, bn, bc, bL⟩⟩).blocks.length = bn := (List.length_map _).trans hbl
  have e3 : (BdW.v ⟨nm, ⟨rA, rn, rc, rL⟩, ⟨oA, on, oc, oL⟩, ⟨tA, tm, tc, tL⟩, ⟨lA, ln, lc, lL⟩, ar, ⟨bA, bn, bc, bL⟩⟩).regions.length = rn := hrl
  rw [← hv, deErr_eq, h1, h4, e1, e2, e3, ← h2, ← h3, ← hid]
  rfl
 clear hv
 have hv := hv9
 clear hv9
 have HRG := hide fun (w' : World) (q : Below (w.alloc (.cells #[.string nm, .slice rA rn rc, .slice oA on oc, .slice tA tm tc, .slice lA ln lc, .int .i64 ar, .slice bA bn bc] 28)).heap.size (w.alloc (.cells #[.string nm, .slice rA rn rc, .slice oA on oc, .slice tA tm tc, .slice lA ln lc, .int .i64 ar, .slice bA bn bc] 28)) w') => cRegs_is ((HX.out.up q).regions) h1
 have HPR := hide fun (w' : World) (q : Below (w.alloc (.cells #[.string nm, .slice rA rn rc, .slice oA on oc, .slice tA tm tc, .slice lA ln lc, .int .i64 ar, .slice bA bn bc] 28)).heap.size (w.alloc (.cells #[.string nm, .slice rA rn rc, .slice oA on oc, .slice tA tm tc, .slice lA ln lc, .int .i64 ar, .slice bA bn bc] 28)) w') => RegCheck_is (c := oc) h2 w' ((HX.out.up q).prs) hom
 have HTY := hide fun (w' : World) (q : Below (w.alloc (.cells #[.string nm, .slice rA rn rc, .slice oA on oc, .slice tA tm tc, .slice lA ln lc, .int .i64 ar, .slice bA bn bc] 28)).heap.size (w.alloc (.cells #[.string nm, .slice rA rn rc, .slice oA on oc, .slice tA tm tc, .slice lA ln lc, .int .i64 ar, .slice bA bn bc] 28)) w') => CheckT_is (c := tc) h3 w' ((HX.out.up q).typs) htm
 have h4' : (if 65535 < lL.length then (15 : Int) else lcErr tm [] (lL.map LcW.v)) = v4 := by
  rw [← h4]
  show _ = (if 65535 < (lL.map LcW.v).length then (15 : Int) else lcErr (tys tL).length [] (lL.map LcW.v))
  rw [List.length_map, tys_len, htl]
 have HLC := hide fun (w' : World) (q : Below (w.alloc (.cells #[.string nm, .slice rA rn rc, .slice oA on oc, .slice tA tm tc, .slice lA ln lc, .int .i64 ar, .slice bA bn bc] 28)).heap.size (w.alloc (.cells #[.string nm, .slice rA rn rc, .slice oA on oc, .slice tA tm tc, .slice lA ln lc, .int .i64 ar, .slice bA bn bc] 28)) w') => cLocs_is (nt := tm) ((HX.out.up q).locals) htm h4'
 have HID := hide hid
 have HNM := hide hnm
 have HV := hide hv
 unfold maxLen at hrm htm hlm hbm
 clear h hnm hrl hll hbl htl hom hid h1 h2 h3 h4 h4'
 have hv := HV.out
 clear HV
 cases bi
 case false =>
  obtain rfl : v = 12 := hv.symm
  clear hv
  go_enter Tryz.func26, Tryz.ntmps26
  go_wp2_with fail
  refine (IsIdent_is HID.out _ HNM.out).mono ?_
  rintro e0 w0 ⟨rfl, rfl⟩
  go_wp2
  go_ret
  exact ⟨rfl, HB.out⟩
 case true =>
  rw [if_neg (by simp)] at hv
  by_cases q1 : v1 = 0
  case neg =>
   have t1 : (v1 != 0) = true := by simp [q1]
   rw [if_pos q1] at hv
   obtain rfl : v1 = v := hv
   clear q1
   go_enter Tryz.func26, Tryz.ntmps26
   go_wp2_with fail
   refine (IsIdent_is HID.out _ HNM.out).mono ?_
   rintro e0 w0 ⟨rfl, rfl⟩
   go_wp2_with fail
   refine (HRG.out _ (Below.refl _ _)).mono ?_
   rintro e1 w1 ⟨rfl, hb1⟩
   have HW1 := hide (show Below (w.alloc (.cells #[.string nm, .slice rA rn rc, .slice oA on oc, .slice tA tm tc, .slice lA ln lc, .int .i64 ar, .slice bA bn bc] 28)).heap.size (w.alloc (.cells #[.string nm, .slice rA rn rc, .slice oA on oc, .slice tA tm tc, .slice lA ln lc, .int .i64 ar, .slice bA bn bc] 28)) w1 from hb1)
   clear hb1
   have c1_0 := one_cells (cs := [.string nm, .slice rA rn rc, .slice oA on oc, .slice tA tm tc, .slice lA ln lc, .int .i64 ar, .slice bA bn bc]) HW1.out 0 (.string nm) rfl
   have c1_1 := one_cells (cs := [.string nm, .slice rA rn rc, .slice oA on oc, .slice tA tm tc, .slice lA ln lc, .int .i64 ar, .slice bA bn bc]) HW1.out 1 (.slice rA rn rc) rfl
   have c1_2 := one_cells (cs := [.string nm, .slice rA rn rc, .slice oA on oc, .slice tA tm tc, .slice lA ln lc, .int .i64 ar, .slice bA bn bc]) HW1.out 2 (.slice oA on oc) rfl
   have c1_3 := one_cells (cs := [.string nm, .slice rA rn rc, .slice oA on oc, .slice tA tm tc, .slice lA ln lc, .int .i64 ar, .slice bA bn bc]) HW1.out 3 (.slice tA tm tc) rfl
   have c1_4 := one_cells (cs := [.string nm, .slice rA rn rc, .slice oA on oc, .slice tA tm tc, .slice lA ln lc, .int .i64 ar, .slice bA bn bc]) HW1.out 4 (.slice lA ln lc) rfl
   have c1_5 := one_cells (cs := [.string nm, .slice rA rn rc, .slice oA on oc, .slice tA tm tc, .slice lA ln lc, .int .i64 ar, .slice bA bn bc]) HW1.out 5 (.int .i64 ar) rfl
   have c1_6 := one_cells (cs := [.string nm, .slice rA rn rc, .slice oA on oc, .slice tA tm tc, .slice lA ln lc, .int .i64 ar, .slice bA bn bc]) HW1.out 6 (.slice bA bn bc) rfl
   go_wp2
   go_ret
   exact ⟨rfl, HB.out.trans (HW1.out.mono HB.out.size)⟩
  subst q1
  rw [if_neg (by simp)] at hv
  by_cases q2 : v2 = 0
  case neg =>
   have t2 : (v2 != 0) = true := by simp [q2]
   rw [if_pos q2] at hv
   obtain rfl : v2 = v := hv
   clear q2
   go_enter Tryz.func26, Tryz.ntmps26
   go_wp2_with fail
   refine (IsIdent_is HID.out _ HNM.out).mono ?_
   rintro e0 w0 ⟨rfl, rfl⟩
   go_wp2_with fail
   refine (HRG.out _ (Below.refl _ _)).mono ?_
   rintro e1 w1 ⟨rfl, hb1⟩
   have HW1 := hide (show Below (w.alloc (.cells #[.string nm, .slice rA rn rc, .slice oA on oc, .slice tA tm tc, .slice lA ln lc, .int .i64 ar, .slice bA bn bc] 28)).heap.size (w.alloc (.cells #[.string nm, .slice rA rn rc, .slice oA on oc, .slice tA tm tc, .slice lA ln lc, .int .i64 ar, .slice bA bn bc] 28)) w1 from hb1)
   clear hb1
   have c1_0 := one_cells (cs := [.string nm, .slice rA rn rc, .slice oA on oc, .slice tA tm tc, .slice lA ln lc, .int .i64 ar, .slice bA bn bc]) HW1.out 0 (.string nm) rfl
   have c1_1 := one_cells (cs := [.string nm, .slice rA rn rc, .slice oA on oc, .slice tA tm tc, .slice lA ln lc, .int .i64 ar, .slice bA bn bc]) HW1.out 1 (.slice rA rn rc) rfl
   have c1_2 := one_cells (cs := [.string nm, .slice rA rn rc, .slice oA on oc, .slice tA tm tc, .slice lA ln lc, .int .i64 ar, .slice bA bn bc]) HW1.out 2 (.slice oA on oc) rfl
   have c1_3 := one_cells (cs := [.string nm, .slice rA rn rc, .slice oA on oc, .slice tA tm tc, .slice lA ln lc, .int .i64 ar, .slice bA bn bc]) HW1.out 3 (.slice tA tm tc) rfl
   have c1_4 := one_cells (cs := [.string nm, .slice rA rn rc, .slice oA on oc, .slice tA tm tc, .slice lA ln lc, .int .i64 ar, .slice bA bn bc]) HW1.out 4 (.slice lA ln lc) rfl
   have c1_5 := one_cells (cs := [.string nm, .slice rA rn rc, .slice oA on oc, .slice tA tm tc, .slice lA ln lc, .int .i64 ar, .slice bA bn bc]) HW1.out 5 (.int .i64 ar) rfl
   have c1_6 := one_cells (cs := [.string nm, .slice rA rn rc, .slice oA on oc, .slice tA tm tc, .slice lA ln lc, .int .i64 ar, .slice bA bn bc]) HW1.out 6 (.slice bA bn bc) rfl
   go_wp2_with fail
   refine (HPR.out _ HW1.out).mono ?_
   rintro e2 w2 ⟨rfl, hb2⟩
   have HW2 := hide (HW1.out.trans (hb2.mono HW1.out.size))
   clear hb2
   have c2_0 := one_cells (cs := [.string nm, .slice rA rn rc, .slice oA on oc, .slice tA tm tc, .slice lA ln lc, .int .i64 ar, .slice bA bn bc]) HW2.out 0 (.string nm) rfl
   have c2_1 := one_cells (cs := [.string nm, .slice rA rn rc, .slice oA on oc, .slice tA tm tc, .slice lA ln lc, .int .i64 ar, .slice bA bn bc]) HW2.out 1 (.slice rA rn rc) rfl
   have c2_2 := one_cells (cs := [.string nm, .slice rA rn rc, .slice oA on oc, .slice tA tm tc, .slice lA ln lc, .int .i64 ar, .slice bA bn bc]) HW2.out 2 (.slice oA on oc) rfl
   have c2_3 := one_cells (cs := [.string nm, .slice rA rn rc, .slice oA on oc, .slice tA tm tc, .slice lA ln lc, .int .i64 ar, .slice bA bn bc]) HW2.out 3 (.slice tA tm tc) rfl
   have c2_4 := one_cells (cs := [.string nm, .slice rA rn rc, .slice oA on oc, .slice tA tm tc, .slice lA ln lc, .int .i64 ar, .slice bA bn bc]) HW2.out 4 (.slice lA ln lc) rfl
   have c2_5 := one_cells (cs := [.string nm, .slice rA rn rc, .slice oA on oc, .slice tA tm tc, .slice lA ln lc, .int .i64 ar, .slice bA bn bc]) HW2.out 5 (.int .i64 ar) rfl
   have c2_6 := one_cells (cs := [.string nm, .slice rA rn rc, .slice oA on oc, .slice tA tm tc, .slice lA ln lc, .int .i64 ar, .slice bA bn bc]) HW2.out 6 (.slice bA bn bc) rfl
   go_wp2
   go_ret
   exact ⟨rfl, HB.out.trans (HW2.out.mono HB.out.size)⟩
  subst q2
  rw [if_neg (by simp)] at hv
  by_cases q3 : v3 = 0
  case neg =>
   have t3 : (v3 != 0) = true := by simp [q3]
   rw [if_pos q3] at hv
   obtain rfl : v3 = v := hv
   clear q3
   go_enter Tryz.func26, Tryz.ntmps26
   go_wp2_with fail
   refine (IsIdent_is HID.out _ HNM.out).mono ?_
   rintro e0 w0 ⟨rfl, rfl⟩
   go_wp2_with fail
   refine (HRG.out _ (Below.refl _ _)).mono ?_
   rintro e1 w1 ⟨rfl, hb1⟩
   have HW1 := hide (show Below (w.alloc (.cells #[.string nm, .slice rA rn rc, .slice oA on oc, .slice tA tm tc, .slice lA ln lc, .int .i64 ar, .slice bA bn bc] 28)).heap.size (w.alloc (.cells #[.string nm, .slice rA rn rc, .slice oA on oc, .slice tA tm tc, .slice lA ln lc, .int .i64 ar, .slice bA bn bc] 28)) w1 from hb1)
   clear hb1
   have c1_0 := one_cells (cs := [.string nm, .slice rA rn rc, .slice oA on oc, .slice tA tm tc, .slice lA ln lc, .int .i64 ar, .slice bA bn bc]) HW1.out 0 (.string nm) rfl
   have c1_1 := one_cells (cs := [.string nm, .slice rA rn rc, .slice oA on oc, .slice tA tm tc, .slice lA ln lc, .int .i64 ar, .slice bA bn bc]) HW1.out 1 (.slice rA rn rc) rfl
   have c1_2 := one_cells (cs := [.string nm, .slice rA rn rc, .slice oA on oc, .slice tA tm tc, .slice lA ln lc, .int .i64 ar, .slice bA bn bc]) HW1.out 2 (.slice oA on oc) rfl
   have c1_3 := one_cells (cs := [.string nm, .slice rA rn rc, .slice oA on oc, .slice tA tm tc, .slice lA ln lc, .int .i64 ar, .slice bA bn bc]) HW1.out 3 (.slice tA tm tc) rfl
   have c1_4 := one_cells (cs := [.string nm, .slice rA rn rc, .slice oA on oc, .slice tA tm tc, .slice lA ln lc, .int .i64 ar, .slice bA bn bc]) HW1.out 4 (.slice lA ln lc) rfl
   have c1_5 := one_cells (cs := [.string nm, .slice rA rn rc, .slice oA on oc, .slice tA tm tc, .slice lA ln lc, .int .i64 ar, .slice bA bn bc]) HW1.out 5 (.int .i64 ar) rfl
   have c1_6 := one_cells (cs := [.string nm, .slice rA rn rc, .slice oA on oc, .slice tA tm tc, .slice lA ln lc, .int .i64 ar, .slice bA bn bc]) HW1.out 6 (.slice bA bn bc) rfl
   go_wp2_with fail
   refine (HPR.out _ HW1.out).mono ?_
   rintro e2 w2 ⟨rfl, hb2⟩
   have HW2 := hide (HW1.out.trans (hb2.mono HW1.out.size))
   clear hb2
   have c2_0 := one_cells (cs := [.string nm, .slice rA rn rc, .slice oA on oc, .slice tA tm tc, .slice lA ln lc, .int .i64 ar, .slice bA bn bc]) HW2.out 0 (.string nm) rfl
   have c2_1 := one_cells (cs := [.string nm, .slice rA rn rc, .slice oA on oc, .slice tA tm tc, .slice lA ln lc, .int .i64 ar, .slice bA bn bc]) HW2.out 1 (.slice rA rn rc) rfl
   have c2_2 := one_cells (cs := [.string nm, .slice rA rn rc, .slice oA on oc, .slice tA tm tc, .slice lA ln lc, .int .i64 ar, .slice bA bn bc]) HW2.out 2 (.slice oA on oc) rfl
   have c2_3 := one_cells (cs := [.string nm, .slice rA rn rc, .slice oA on oc, .slice tA tm tc, .slice lA ln lc, .int .i64 ar, .slice bA bn bc]) HW2.out 3 (.slice tA tm tc) rfl
   have c2_4 := one_cells (cs := [.string nm, .slice rA rn rc, .slice oA on oc, .slice tA tm tc, .slice lA ln lc, .int .i64 ar, .slice bA bn bc]) HW2.out 4 (.slice lA ln lc) rfl
   have c2_5 := one_cells (cs := [.string nm, .slice rA rn rc, .slice oA on oc, .slice tA tm tc, .slice lA ln lc, .int .i64 ar, .slice bA bn bc]) HW2.out 5 (.int .i64 ar) rfl
   have c2_6 := one_cells (cs := [.string nm, .slice rA rn rc, .slice oA on oc, .slice tA tm tc, .slice lA ln lc, .int .i64 ar, .slice bA bn bc]) HW2.out 6 (.slice bA bn bc) rfl
   go_wp2_with fail
   refine (HTY.out _ HW2.out).mono ?_
   rintro e3 w3 ⟨rfl, hb3⟩
   have HW3 := hide (HW2.out.trans (hb3.mono HW2.out.size))
   clear hb3
   have c3_0 := one_cells (cs := [.string nm, .slice rA rn rc, .slice oA on oc, .slice tA tm tc, .slice lA ln lc, .int .i64 ar, .slice bA bn bc]) HW3.out 0 (.string nm) rfl
   have c3_1 := one_cells (cs := [.string nm, .slice rA rn rc, .slice oA on oc, .slice tA tm tc, .slice lA ln lc, .int .i64 ar, .slice bA bn bc]) HW3.out 1 (.slice rA rn rc) rfl
   have c3_2 := one_cells (cs := [.string nm, .slice rA rn rc, .slice oA on oc, .slice tA tm tc, .slice lA ln lc, .int .i64 ar, .slice bA bn bc]) HW3.out 2 (.slice oA on oc) rfl
   have c3_3 := one_cells (cs := [.string nm, .slice rA rn rc, .slice oA on oc, .slice tA tm tc, .slice lA ln lc, .int .i64 ar, .slice bA bn bc]) HW3.out 3 (.slice tA tm tc) rfl
   have c3_4 := one_cells (cs := [.string nm, .slice rA rn rc, .slice oA on oc, .slice tA tm tc, .slice lA ln lc, .int .i64 ar, .slice bA bn bc]) HW3.out 4 (.slice lA ln lc) rfl
   have c3_5 := one_cells (cs := [.string nm, .slice rA rn rc, .slice oA on oc, .slice tA tm tc, .slice lA ln lc, .int .i64 ar, .slice bA bn bc]) HW3.out 5 (.int .i64 ar) rfl
   have c3_6 := one_cells (cs := [.string nm, .slice rA rn rc, .slice oA on oc, .slice tA tm tc, .slice lA ln lc, .int .i64 ar, .slice bA bn bc]) HW3.out 6 (.slice bA bn bc) rfl
   go_wp2
   go_ret
   exact ⟨rfl, HB.out.trans (HW3.out.mono HB.out.size)⟩
  subst q3
  rw [if_neg (by simp)] at hv
  by_cases q4 : v4 = 0
  case neg =>
   have t4 : (v4 != 0) = true := by simp [q4]
   rw [if_pos q4] at hv
   obtain rfl : v4 = v := hv
   clear q4
   go_enter Tryz.func26, Tryz.ntmps26
   go_wp2_with fail
   refine (IsIdent_is HID.out _ HNM.out).mono ?_
   rintro e0 w0 ⟨rfl, rfl⟩
   go_wp2_with fail
   refine (HRG.out _ (Below.refl _ _)).mono ?_
   rintro e1 w1 ⟨rfl, hb1⟩
   have HW1 := hide (show Below (w.alloc (.cells #[.string nm, .slice rA rn rc, .slice oA on oc, .slice tA tm tc, .slice lA ln lc, .int .i64 ar, .slice bA bn bc] 28)).heap.size (w.alloc (.cells #[.string nm, .slice rA rn rc, .slice oA on oc, .slice tA tm tc, .slice lA ln lc, .int .i64 ar, .slice bA bn bc] 28)) w1 from hb1)
   clear hb1
   have c1_0 := one_cells (cs := [.string nm, .slice rA rn rc, .slice oA on oc, .slice tA tm tc, .slice lA ln lc, .int .i64 ar, .slice bA bn bc]) HW1.out 0 (.string nm) rfl
   have c1_1 := one_cells (cs := [.string nm, .slice rA rn rc, .slice oA on oc, .slice tA tm tc, .slice lA ln lc, .int .i64 ar, .slice bA bn bc]) HW1.out 1 (.slice rA rn rc) rfl
   have c1_2 := one_cells (cs := [.string nm, .slice rA rn rc, .slice oA on oc, .slice tA tm tc, .slice lA ln lc, .int .i64 ar, .slice bA bn bc]) HW1.out 2 (.slice oA on oc) rfl
   have c1_3 := one_cells (cs := [.string nm, .slice rA rn rc, .slice oA on oc, .slice tA tm tc, .slice lA ln lc, .int .i64 ar, .slice bA bn bc]) HW1.out 3 (.slice tA tm tc) rfl
   have c1_4 := one_cells (cs := [.string nm, .slice rA rn rc, .slice oA on oc, .slice tA tm tc, .slice lA ln lc, .int .i64 ar, .slice bA bn bc]) HW1.out 4 (.slice lA ln lc) rfl
   have c1_5 := one_cells (cs := [.string nm, .slice rA rn rc, .slice oA on oc, .slice tA tm tc, .slice lA ln lc, .int .i64 ar, .slice bA bn bc]) HW1.out 5 (.int .i64 ar) rfl
   have c1_6 := one_cells (cs := [.string nm, .slice rA rn rc, .slice oA on oc, .slice tA tm tc, .slice lA ln lc, .int .i64 ar, .slice bA bn bc]) HW1.out 6 (.slice bA bn bc) rfl
   go_wp2_with fail
   refine (HPR.out _ HW1.out).mono ?_
   rintro e2 w2 ⟨rfl, hb2⟩
   have HW2 := hide (HW1.out.trans (hb2.mono HW1.out.size))
   clear hb2
   have c2_0 := one_cells (cs := [.string nm, .slice rA rn rc, .slice oA on oc, .slice tA tm tc, .slice lA ln lc, .int .i64 ar, .slice bA bn bc]) HW2.out 0 (.string nm) rfl
   have c2_1 := one_cells (cs := [.string nm, .slice rA rn rc, .slice oA on oc, .slice tA tm tc, .slice lA ln lc, .int .i64 ar, .slice bA bn bc]) HW2.out 1 (.slice rA rn rc) rfl
   have c2_2 := one_cells (cs := [.string nm, .slice rA rn rc, .slice oA on oc, .slice tA tm tc, .slice lA ln lc, .int .i64 ar, .slice bA bn bc]) HW2.out 2 (.slice oA on oc) rfl
   have c2_3 := one_cells (cs := [.string nm, .slice rA rn rc, .slice oA on oc, .slice tA tm tc, .slice lA ln lc, .int .i64 ar, .slice bA bn bc]) HW2.out 3 (.slice tA tm tc) rfl
   have c2_4 := one_cells (cs := [.string nm, .slice rA rn rc, .slice oA on oc, .slice tA tm tc, .slice lA ln lc, .int .i64 ar, .slice bA bn bc]) HW2.out 4 (.slice lA ln lc) rfl
   have c2_5 := one_cells (cs := [.string nm, .slice rA rn rc, .slice oA on oc, .slice tA tm tc, .slice lA ln lc, .int .i64 ar, .slice bA bn bc]) HW2.out 5 (.int .i64 ar) rfl
   have c2_6 := one_cells (cs := [.string nm, .slice rA rn rc, .slice oA on oc, .slice tA tm tc, .slice lA ln lc, .int .i64 ar, .slice bA bn bc]) HW2.out 6 (.slice bA bn bc) rfl
   go_wp2_with fail
   refine (HTY.out _ HW2.out).mono ?_
   rintro e3 w3 ⟨rfl, hb3⟩
   have HW3 := hide (HW2.out.trans (hb3.mono HW2.out.size))
   clear hb3
   have c3_0 := one_cells (cs := [.string nm, .slice rA rn rc, .slice oA on oc, .slice tA tm tc, .slice lA ln lc, .int .i64 ar, .slice bA bn bc]) HW3.out 0 (.string nm) rfl
   have c3_1 := one_cells (cs := [.string nm, .slice rA rn rc, .slice oA on oc, .slice tA tm tc, .slice lA ln lc, .int .i64 ar, .slice bA bn bc]) HW3.out 1 (.slice rA rn rc) rfl
   have c3_2 := one_cells (cs := [.string nm, .slice rA rn rc, .slice oA on oc, .slice tA tm tc, .slice lA ln lc, .int .i64 ar, .slice bA bn bc]) HW3.out 2 (.slice oA on oc) rfl
   have c3_3 := one_cells (cs := [.string nm, .slice rA rn rc, .slice oA on oc, .slice tA tm tc, .slice lA ln lc, .int .i64 ar, .slice bA bn bc]) HW3.out 3 (.slice tA tm tc) rfl
   have c3_4 := one_cells (cs := [.string nm, .slice rA rn rc, .slice oA on oc, .slice tA tm tc, .slice lA ln lc, .int .i64 ar, .slice bA bn bc]) HW3.out 4 (.slice lA ln lc) rfl
   have c3_5 := one_cells (cs := [.string nm, .slice rA rn rc, .slice oA on oc, .slice tA tm tc, .slice lA ln lc, .int .i64 ar, .slice bA bn bc]) HW3.out 5 (.int .i64 ar) rfl
   have c3_6 := one_cells (cs := [.string nm, .slice rA rn rc, .slice oA on oc, .slice tA tm tc, .slice lA ln lc, .int .i64 ar, .slice bA bn bc]) HW3.out 6 (.slice bA bn bc) rfl
   go_wp2_with fail
   refine (HLC.out _ HW3.out).mono ?_
   rintro e4 w4 ⟨rfl, hb4⟩
   have HW4 := hide (HW3.out.trans (hb4.mono HW3.out.size))
   clear hb4
   have c4_0 := one_cells (cs := [.string nm, .slice rA rn rc, .slice oA on oc, .slice tA tm tc, .slice lA ln lc, .int .i64 ar, .slice bA bn bc]) HW4.out 0 (.string nm) rfl
   have c4_1 := one_cells (cs := [.string nm, .slice rA rn rc, .slice oA on oc, .slice tA tm tc, .slice lA ln lc, .int .i64 ar, .slice bA bn bc]) HW4.out 1 (.slice rA rn rc) rfl
   have c4_2 := one_cells (cs := [.string nm, .slice rA rn rc, .slice oA on oc, .slice tA tm tc, .slice lA ln lc, .int .i64 ar, .slice bA bn bc]) HW4.out 2 (.slice oA on oc) rfl
   have c4_3 := one_cells (cs := [.string nm, .slice rA rn rc, .slice oA on oc, .slice tA tm tc, .slice lA ln lc, .int .i64 ar, .slice bA bn bc]) HW4.out 3 (.slice tA tm tc) rfl
   have c4_4 := one_cells (cs := [.string nm, .slice rA rn rc, .slice oA on oc, .slice tA tm tc, .slice lA ln lc, .int .i64 ar, .slice bA bn bc]) HW4.out 4 (.slice lA ln lc) rfl
   have c4_5 := one_cells (cs := [.string nm, .slice rA rn rc, .slice oA on oc, .slice tA tm tc, .slice lA ln lc, .int .i64 ar, .slice bA bn bc]) HW4.out 5 (.int .i64 ar) rfl
   have c4_6 := one_cells (cs := [.string nm, .slice rA rn rc, .slice oA on oc, .slice tA tm tc, .slice lA ln lc, .int .i64 ar, .slice bA bn bc]) HW4.out 6 (.slice bA bn bc) rfl
   go_wp2
   go_ret
   exact ⟨rfl, HB.out.trans (HW4.out.mono HB.out.size)⟩
  subst q4
  rw [if_neg (by simp)] at hv
  by_cases ha : ar < 0
  case pos =>
   obtain rfl : v = 3 := by rw [← hv, if_pos (.inl ha)]
   clear hv
   go_enter Tryz.func26, Tryz.ntmps26
   go_wp2_with fail
   refine (IsIdent_is HID.out _ HNM.out).mono ?_
   rintro e0 w0 ⟨rfl, rfl⟩
   go_wp2_with fail
   refine (HRG.out _ (Below.refl _ _)).mono ?_
   rintro e1 w1 ⟨rfl, hb1⟩
   have HW1 := hide (show Below (w.alloc (.cells #[.string nm, .slice rA rn rc, .slice oA on oc, .slice tA tm tc, .slice lA ln lc, .int .i64 ar, .slice bA bn bc] 28)).heap.size (w.alloc (.cells #[.string nm, .slice rA rn rc, .slice oA on oc, .slice tA tm tc, .slice lA ln lc, .int .i64 ar, .slice bA bn bc] 28)) w1 from hb1)
   clear hb1
   have c1_0 := one_cells (cs := [.string nm, .slice rA rn rc, .slice oA on oc, .slice tA tm tc, .slice lA ln lc, .int .i64 ar, .slice bA bn bc]) HW1.out 0 (.string nm) rfl
   have c1_1 := one_cells (cs := [.string nm, .slice rA rn rc, .slice oA on oc, .slice tA tm tc, .slice lA ln lc, .int .i64 ar, .slice bA bn bc]) HW1.out 1 (.slice rA rn rc) rfl
   have c1_2 := one_cells (cs := [.string nm, .slice rA rn rc, .slice oA on oc, .slice tA tm tc, .slice lA ln lc, .int .i64 ar, .slice bA bn bc]) HW1.out 2 (.slice oA on oc) rfl
   have c1_3 := one_cells (cs := [.string nm, .slice rA rn rc, .slice oA on oc, .slice tA tm tc, .slice lA ln lc, .int .i64 ar, .slice bA bn bc]) HW1.out 3 (.slice tA tm tc) rfl
   have c1_4 := one_cells (cs := [.string nm, .slice rA rn rc, .slice oA on oc, .slice tA tm tc, .slice lA ln lc, .int .i64 ar, .slice bA bn bc]) HW1.out 4 (.slice lA ln lc) rfl
   have c1_5 := one_cells (cs := [.string nm, .slice rA rn rc, .slice oA on oc, .slice tA tm tc, .slice lA ln lc, .int .i64 ar, .slice bA bn bc]) HW1.out 5 (.int .i64 ar) rfl
   have c1_6 := one_cells (cs := [.string nm, .slice rA rn rc, .slice oA on oc, .slice tA tm tc, .slice lA ln lc, .int .i64 ar, .slice bA bn bc]) HW1.out 6 (.slice bA bn bc) rfl
   go_wp2_with fail
   refine (HPR.out _ HW1.out).mono ?_
   rintro e2 w2 ⟨rfl, hb2⟩
   have HW2 := hide (HW1.out.trans (hb2.mono HW1.out.size))
   clear hb2
   have c2_0 := one_cells (cs := [.string nm, .slice rA rn rc, .slice oA on oc, .slice tA tm tc, .slice lA ln lc, .int .i64 ar, .slice bA bn bc]) HW2.out 0 (.string nm) rfl
   have c2_1 := one_cells (cs := [.string nm, .slice rA rn rc, .slice oA on oc, .slice tA tm tc, .slice lA ln lc, .int .i64 ar, .slice bA bn bc]) HW2.out 1 (.slice rA rn rc) rfl
   have c2_2 := one_cells (cs := [.string nm, .slice rA rn rc, .slice oA on oc, .slice tA tm tc, .slice lA ln lc, .int .i64 ar, .slice bA bn bc]) HW2.out 2 (.slice oA on oc) rfl
   have c2_3 := one_cells (cs := [.string nm, .slice rA rn rc, .slice oA on oc, .slice tA tm tc, .slice lA ln lc, .int .i64 ar, .slice bA bn bc]) HW2.out 3 (.slice tA tm tc) rfl
   have c2_4 := one_cells (cs := [.string nm, .slice rA rn rc, .slice oA on oc, .slice tA tm tc, .slice lA ln lc, .int .i64 ar, .slice bA bn bc]) HW2.out 4 (.slice lA ln lc) rfl
   have c2_5 := one_cells (cs := [.string nm, .slice rA rn rc, .slice oA on oc, .slice tA tm tc, .slice lA ln lc, .int .i64 ar, .slice bA bn bc]) HW2.out 5 (.int .i64 ar) rfl
   have c2_6 := one_cells (cs := [.string nm, .slice rA rn rc, .slice oA on oc, .slice tA tm tc, .slice lA ln lc, .int .i64 ar, .slice bA bn bc]) HW2.out 6 (.slice bA bn bc) rfl
   go_wp2_with fail
   refine (HTY.out _ HW2.out).mono ?_
   rintro e3 w3 ⟨rfl, hb3⟩
   have HW3 := hide (HW2.out.trans (hb3.mono HW2.out.size))
   clear hb3
   have c3_0 := one_cells (cs := [.string nm, .slice rA rn rc, .slice oA on oc, .slice tA tm tc, .slice lA ln lc, .int .i64 ar, .slice bA bn bc]) HW3.out 0 (.string nm) rfl
   have c3_1 := one_cells (cs := [.string nm, .slice rA rn rc, .slice oA on oc, .slice tA tm tc, .slice lA ln lc, .int .i64 ar, .slice bA bn bc]) HW3.out 1 (.slice rA rn rc) rfl
   have c3_2 := one_cells (cs := [.string nm, .slice rA rn rc, .slice oA on oc, .slice tA tm tc, .slice lA ln lc, .int .i64 ar, .slice bA bn bc]) HW3.out 2 (.slice oA on oc) rfl
   have c3_3 := one_cells (cs := [.string nm, .slice rA rn rc, .slice oA on oc, .slice tA tm tc, .slice lA ln lc, .int .i64 ar, .slice bA bn bc]) HW3.out 3 (.slice tA tm tc) rfl
   have c3_4 := one_cells (cs := [.string nm, .slice rA rn rc, .slice oA on oc, .slice tA tm tc, .slice lA ln lc, .int .i64 ar, .slice bA bn bc]) HW3.out 4 (.slice lA ln lc) rfl
   have c3_5 := one_cells (cs := [.string nm, .slice rA rn rc, .slice oA on oc, .slice tA tm tc, .slice lA ln lc, .int .i64 ar, .slice bA bn bc]) HW3.out 5 (.int .i64 ar) rfl
   have c3_6 := one_cells (cs := [.string nm, .slice rA rn rc, .slice oA on oc, .slice tA tm tc, .slice lA ln lc, .int .i64 ar, .slice bA bn bc]) HW3.out 6 (.slice bA bn bc) rfl
   go_wp2_with fail
   refine (HLC.out _ HW3.out).mono ?_
   rintro e4 w4 ⟨rfl, hb4⟩
   have HW4 := hide (HW3.out.trans (hb4.mono HW3.out.size))
   clear hb4
   have c4_0 := one_cells (cs := [.string nm, .slice rA rn rc, .slice oA on oc, .slice tA tm tc, .slice lA ln lc, .int .i64 ar, .slice bA bn bc]) HW4.out 0 (.string nm) rfl
   have c4_1 := one_cells (cs := [.string nm, .slice rA rn rc, .slice oA on oc, .slice tA tm tc, .slice lA ln lc, .int .i64 ar, .slice bA bn bc]) HW4.out 1 (.slice rA rn rc) rfl
   have c4_2 := one_cells (cs := [.string nm, .slice rA rn rc, .slice oA on oc, .slice tA tm tc, .slice lA ln lc, .int .i64 ar, .slice bA bn bc]) HW4.out 2 (.slice oA on oc) rfl
   have c4_3 := one_cells (cs := [.string nm, .slice rA rn rc, .slice oA on oc, .slice tA tm tc, .slice lA ln lc, .int .i64 ar, .slice bA bn bc]) HW4.out 3 (.slice tA tm tc) rfl
   have c4_4 := one_cells (cs := [.string nm, .slice rA rn rc, .slice oA on oc, .slice tA tm tc, .slice lA ln lc, .int .i64 ar, .slice bA bn bc]) HW4.out 4 (.slice lA ln lc) rfl
   have c4_5 := one_cells (cs := [.string nm, .slice rA rn rc, .slice oA on oc, .slice tA tm tc, .slice lA ln lc, .int .i64 ar, .slice bA bn bc]) HW4.out 5 (.int .i64 ar) rfl
   have c4_6 := one_cells (cs := [.string nm, .slice rA rn rc, .slice oA on oc, .slice tA tm tc, .slice lA ln lc, .int .i64 ar, .slice bA bn bc]) HW4.out 6 (.slice bA bn bc) rfl
   go_wp2
   go_ret
   exact ⟨rfl, HB.out.trans (HW4.out.mono HB.out.size)⟩
  have ha0 : 0 ≤ ar := by omega
  by_cases hb : (ln : Int) < ar
  case pos =>
   obtain rfl : v = 3 := by rw [← hv, if_pos (.inr hb)]
   clear hv
   go_enter Tryz.func26, Tryz.ntmps26
   go_wp2_with fail
   refine (IsIdent_is HID.out _ HNM.out).mono ?_
   rintro e0 w0 ⟨rfl, rfl⟩
   go_wp2_with fail
   refine (HRG.out _ (Below.refl _ _)).mono ?_
   rintro e1 w1 ⟨rfl, hb1⟩
   have HW1 := hide (show Below (w.alloc (.cells #[.string nm, .slice rA rn rc, .slice oA on oc, .slice tA tm tc, .slice lA ln lc, .int .i64 ar, .slice bA bn bc] 28)).heap.size (w.alloc (.cells #[.string nm, .slice rA rn rc, .slice oA on oc, .slice tA tm tc, .slice lA ln lc, .int .i64 ar, .slice bA bn bc] 28)) w1 from hb1)
   clear hb1
   have c1_0 := one_cells (cs := [.string nm, .slice rA rn rc, .slice oA on oc, .slice tA tm tc, .slice lA ln lc, .int .i64 ar, .slice bA bn bc]) HW1.out 0 (.string nm) rfl
   have c1_1 := one_cells (cs := [.string nm, .slice rA rn rc, .slice oA on oc, .slice tA tm tc, .slice lA ln lc, .int .i64 ar, .slice bA bn bc]) HW1.out 1 (.slice rA rn rc) rfl
   have c1_2 := one_cells (cs := [.string nm, .slice rA rn rc, .slice oA on oc, .slice tA tm tc, .slice lA ln lc, .int .i64 ar, .slice bA bn bc]) HW1.out 2 (.slice oA on oc) rfl
   have c1_3 := one_cells (cs := [.string nm, .slice rA rn rc, .slice oA on oc, .slice tA tm tc, .slice lA ln lc, .int .i64 ar, .slice bA bn bc]) HW1.out 3 (.slice tA tm tc) rfl
   have c1_4 := one_cells (cs := [.string nm, .slice rA rn rc, .slice oA on oc, .slice tA tm tc, .slice lA ln lc, .int .i64 ar, .slice bA bn bc]) HW1.out 4 (.slice lA ln lc) rfl
   have c1_5 := one_cells (cs := [.string nm, .slice rA rn rc, .slice oA on oc, .slice tA tm tc, .slice lA ln lc, .int .i64 ar, .slice bA bn bc]) HW1.out 5 (.int .i64 ar) rfl
   have c1_6 := one_cells (cs := [.string nm, .slice rA rn rc, .slice oA on oc, .slice tA tm tc, .slice lA ln lc, .int .i64 ar, .slice bA bn bc]) HW1.out 6 (.slice bA bn bc) rfl
   go_wp2_with fail
   refine (HPR.out _ HW1.out).mono ?_
   rintro e2 w2 ⟨rfl, hb2⟩
   have HW2 := hide (HW1.out.trans (hb2.mono HW1.out.size))
   clear hb2
   have c2_0 := one_cells (cs := [.string nm, .slice rA rn rc, .slice oA on oc, .slice tA tm tc, .slice lA ln lc, .int .i64 ar, .slice bA bn bc]) HW2.out 0 (.string nm) rfl
   have c2_1 := one_cells (cs := [.string nm, .slice rA rn rc, .slice oA on oc, .slice tA tm tc, .slice lA ln lc, .int .i64 ar, .slice bA bn bc]) HW2.out 1 (.slice rA rn rc) rfl
   have c2_2 := one_cells (cs := [.string nm, .slice rA rn rc, .slice oA on oc, .slice tA tm tc, .slice lA ln lc, .int .i64 ar, .slice bA bn bc]) HW2.out 2 (.slice oA on oc) rfl
   have c2_3 := one_cells (cs := [.string nm, .slice rA rn rc, .slice oA on oc, .slice tA tm tc, .slice lA ln lc, .int .i64 ar, .slice bA bn bc]) HW2.out 3 (.slice tA tm tc) rfl
   have c2_4 := one_cells (cs := [.string nm, .slice rA rn rc, .slice oA on oc, .slice tA tm tc, .slice lA ln lc, .int .i64 ar, .slice bA bn bc]) HW2.out 4 (.slice lA ln lc) rfl
   have c2_5 := one_cells (cs := [.string nm, .slice rA rn rc, .slice oA on oc, .slice tA tm tc, .slice lA ln lc, .int .i64 ar, .slice bA bn bc]) HW2.out 5 (.int .i64 ar) rfl
   have c2_6 := one_cells (cs := [.string nm, .slice rA rn rc, .slice oA on oc, .slice tA tm tc, .slice lA ln lc, .int .i64 ar, .slice bA bn bc]) HW2.out 6 (.slice bA bn bc) rfl
   go_wp2_with fail
   refine (HTY.out _ HW2.out).mono ?_
   rintro e3 w3 ⟨rfl, hb3⟩
   have HW3 := hide (HW2.out.trans (hb3.mono HW2.out.size))
   clear hb3
   have c3_0 := one_cells (cs := [.string nm, .slice rA rn rc, .slice oA on oc, .slice tA tm tc, .slice lA ln lc, .int .i64 ar, .slice bA bn bc]) HW3.out 0 (.string nm) rfl
   have c3_1 := one_cells (cs := [.string nm, .slice rA rn rc, .slice oA on oc, .slice tA tm tc, .slice lA ln lc, .int .i64 ar, .slice bA bn bc]) HW3.out 1 (.slice rA rn rc) rfl
   have c3_2 := one_cells (cs := [.string nm, .slice rA rn rc, .slice oA on oc, .slice tA tm tc, .slice lA ln lc, .int .i64 ar, .slice bA bn bc]) HW3.out 2 (.slice oA on oc) rfl
   have c3_3 := one_cells (cs := [.string nm, .slice rA rn rc, .slice oA on oc, .slice tA tm tc, .slice lA ln lc, .int .i64 ar, .slice bA bn bc]) HW3.out 3 (.slice tA tm tc) rfl
   have c3_4 := one_cells (cs := [.string nm, .slice rA rn rc, .slice oA on oc, .slice tA tm tc, .slice lA ln lc, .int .i64 ar, .slice bA bn bc]) HW3.out 4 (.slice lA ln lc) rfl
   have c3_5 := one_cells (cs := [.string nm, .slice rA rn rc, .slice oA on oc, .slice tA tm tc, .slice lA ln lc, .int .i64 ar, .slice bA bn bc]) HW3.out 5 (.int .i64 ar) rfl
   have c3_6 := one_cells (cs := [.string nm, .slice rA rn rc, .slice oA on oc, .slice tA tm tc, .slice lA ln lc, .int .i64 ar, .slice bA bn bc]) HW3.out 6 (.slice bA bn bc) rfl
   go_wp2_with fail
   refine (HLC.out _ HW3.out).mono ?_
   rintro e4 w4 ⟨rfl, hb4⟩
   have HW4 := hide (HW3.out.trans (hb4.mono HW3.out.size))
   clear hb4
   have c4_0 := one_cells (cs := [.string nm, .slice rA rn rc, .slice oA on oc, .slice tA tm tc, .slice lA ln lc, .int .i64 ar, .slice bA bn bc]) HW4.out 0 (.string nm) rfl
   have c4_1 := one_cells (cs := [.string nm, .slice rA rn rc, .slice oA on oc, .slice tA tm tc, .slice lA ln lc, .int .i64 ar, .slice bA bn bc]) HW4.out 1 (.slice rA rn rc) rfl
   have c4_2 := one_cells (cs := [.string nm, .slice rA rn rc, .slice oA on oc, .slice tA tm tc, .slice lA ln lc, .int .i64 ar, .slice bA bn bc]) HW4.out 2 (.slice oA on oc) rfl
   have c4_3 := one_cells (cs := [.string nm, .slice rA rn rc, .slice oA on oc, .slice tA tm tc, .slice lA ln lc, .int .i64 ar, .slice bA bn bc]) HW4.out 3 (.slice tA tm tc) rfl
   have c4_4 := one_cells (cs := [.string nm, .slice rA rn rc, .slice oA on oc, .slice tA tm tc, .slice lA ln lc, .int .i64 ar, .slice bA bn bc]) HW4.out 4 (.slice lA ln lc) rfl
   have c4_5 := one_cells (cs := [.string nm, .slice rA rn rc, .slice oA on oc, .slice tA tm tc, .slice lA ln lc, .int .i64 ar, .slice bA bn bc]) HW4.out 5 (.int .i64 ar) rfl
   have c4_6 := one_cells (cs := [.string nm, .slice rA rn rc, .slice oA on oc, .slice tA tm tc, .slice lA ln lc, .int .i64 ar, .slice bA bn bc]) HW4.out 6 (.slice bA bn bc) rfl
   go_wp2
   go_ret
   exact ⟨rfl, HB.out.trans (HW4.out.mono HB.out.size)⟩
  have hb0 : ar ≤ (ln : Int) := by omega
  rw [if_neg (by omega)] at hv
  by_cases hc : bn = 0
  case pos =>
   obtain rfl : v = 15 := by rw [← hv, if_pos (.inl hc)]
   have tb : ((bn : Int) == 0) = true := by simp [hc]
   clear hv hc ha hb
   go_enter Tryz.func26, Tryz.ntmps26
   go_wp2_with fail
   refine (IsIdent_is HID.out _ HNM.out).mono ?_
   rintro e0 w0 ⟨rfl, rfl⟩
   go_wp2_with fail
   refine (HRG.out _ (Below.refl _ _)).mono ?_
   rintro e1 w1 ⟨rfl, hb1⟩
   have HW1 := hide (show Below (w.alloc (.cells #[.string nm, .slice rA rn rc, .slice oA on oc, .slice tA tm tc, .slice lA ln lc, .int .i64 ar, .slice bA bn bc] 28)).heap.size (w.alloc (.cells #[.string nm, .slice rA rn rc, .slice oA on oc, .slice tA tm tc, .slice lA ln lc, .int .i64 ar, .slice bA bn bc] 28)) w1 from hb1)
   clear hb1
   have c1_0 := one_cells (cs := [.string nm, .slice rA rn rc, .slice oA on oc, .slice tA tm tc, .slice lA ln lc, .int .i64 ar, .slice bA bn bc]) HW1.out 0 (.string nm) rfl
   have c1_1 := one_cells (cs := [.string nm, .slice rA rn rc, .slice oA on oc, .slice tA tm tc, .slice lA ln lc, .int .i64 ar, .slice bA bn bc]) HW1.out 1 (.slice rA rn rc) rfl
   have c1_2 := one_cells (cs := [.string nm, .slice rA rn rc, .slice oA on oc, .slice tA tm tc, .slice lA ln lc, .int .i64 ar, .slice bA bn bc]) HW1.out 2 (.slice oA on oc) rfl
   have c1_3 := one_cells (cs := [.string nm, .slice rA rn rc, .slice oA on oc, .slice tA tm tc, .slice lA ln lc, .int .i64 ar, .slice bA bn bc]) HW1.out 3 (.slice tA tm tc) rfl
   have c1_4 := one_cells (cs := [.string nm, .slice rA rn rc, .slice oA on oc, .slice tA tm tc, .slice lA ln lc, .int .i64 ar, .slice bA bn bc]) HW1.out 4 (.slice lA ln lc) rfl
   have c1_5 := one_cells (cs := [.string nm, .slice rA rn rc, .slice oA on oc, .slice tA tm tc, .slice lA ln lc, .int .i64 ar, .slice bA bn bc]) HW1.out 5 (.int .i64 ar) rfl
   have c1_6 := one_cells (cs := [.string nm, .slice rA rn rc, .slice oA on oc, .slice tA tm tc, .slice lA ln lc, .int .i64 ar, .slice bA bn bc]) HW1.out 6 (.slice bA bn bc) rfl
   go_wp2_with fail
   refine (HPR.out _ HW1.out).mono ?_
   rintro e2 w2 ⟨rfl, hb2⟩
   have HW2 := hide (HW1.out.trans (hb2.mono HW1.out.size))
   clear hb2
   have c2_0 := one_cells (cs := [.string nm, .slice rA rn rc, .slice oA on oc, .slice tA tm tc, .slice lA ln lc, .int .i64 ar, .slice bA bn bc]) HW2.out 0 (.string nm) rfl
   have c2_1 := one_cells (cs := [.string nm, .slice rA rn rc, .slice oA on oc, .slice tA tm tc, .slice lA ln lc, .int .i64 ar, .slice bA bn bc]) HW2.out 1 (.slice rA rn rc) rfl
   have c2_2 := one_cells (cs := [.string nm, .slice rA rn rc, .slice oA on oc, .slice tA tm tc, .slice lA ln lc, .int .i64 ar, .slice bA bn bc]) HW2.out 2 (.slice oA on oc) rfl
   have c2_3 := one_cells (cs := [.string nm, .slice rA rn rc, .slice oA on oc, .slice tA tm tc, .slice lA ln lc, .int .i64 ar, .slice bA bn bc]) HW2.out 3 (.slice tA tm tc) rfl
   have c2_4 := one_cells (cs := [.string nm, .slice rA rn rc, .slice oA on oc, .slice tA tm tc, .slice lA ln lc, .int .i64 ar, .slice bA bn bc]) HW2.out 4 (.slice lA ln lc) rfl
   have c2_5 := one_cells (cs := [.string nm, .slice rA rn rc, .slice oA on oc, .slice tA tm tc, .slice lA ln lc, .int .i64 ar, .slice bA bn bc]) HW2.out 5 (.int .i64 ar) rfl
   have c2_6 := one_cells (cs := [.string nm, .slice rA rn rc, .slice oA on oc, .slice tA tm tc, .slice lA ln lc, .int .i64 ar, .slice bA bn bc]) HW2.out 6 (.slice bA bn bc) rfl
   go_wp2_with fail
   refine (HTY.out _ HW2.out).mono ?_
   rintro e3 w3 ⟨rfl, hb3⟩
   have HW3 := hide (HW2.out.trans (hb3.mono HW2.out.size))
   clear hb3
   have c3_0 := one_cells (cs := [.string nm, .slice rA rn rc, .slice oA on oc, .slice tA tm tc, .slice lA ln lc, .int .i64 ar, .slice bA bn bc]) HW3.out 0 (.string nm) rfl
   have c3_1 := one_cells (cs := [.string nm, .slice rA rn rc, .slice oA on oc, .slice tA tm tc, .slice lA ln lc, .int .i64 ar, .slice bA bn bc]) HW3.out 1 (.slice rA rn rc) rfl
   have c3_2 := one_cells (cs := [.string nm, .slice rA rn rc, .slice oA on oc, .slice tA tm tc, .slice lA ln lc, .int .i64 ar, .slice bA bn bc]) HW3.out 2 (.slice oA on oc) rfl
   have c3_3 := one_cells (cs := [.string nm, .slice rA rn rc, .slice oA on oc, .slice tA tm tc, .slice lA ln lc, .int .i64 ar, .slice bA bn bc]) HW3.out 3 (.slice tA tm tc) rfl
   have c3_4 := one_cells (cs := [.string nm, .slice rA rn rc, .slice oA on oc, .slice tA tm tc, .slice lA ln lc, .int .i64 ar, .slice bA bn bc]) HW3.out 4 (.slice lA ln lc) rfl
   have c3_5 := one_cells (cs := [.string nm, .slice rA rn rc, .slice oA on oc, .slice tA tm tc, .slice lA ln lc, .int .i64 ar, .slice bA bn bc]) HW3.out 5 (.int .i64 ar) rfl
   have c3_6 := one_cells (cs := [.string nm, .slice rA rn rc, .slice oA on oc, .slice tA tm tc, .slice lA ln lc, .int .i64 ar, .slice bA bn bc]) HW3.out 6 (.slice bA bn bc) rfl
   go_wp2_with fail
   refine (HLC.out _ HW3.out).mono ?_
   rintro e4 w4 ⟨rfl, hb4⟩
   have HW4 := hide (HW3.out.trans (hb4.mono HW3.out.size))
   clear hb4
   have c4_0 := one_cells (cs := [.string nm, .slice rA rn rc, .slice oA on oc, .slice tA tm tc, .slice lA ln lc, .int .i64 ar, .slice bA bn bc]) HW4.out 0 (.string nm) rfl
   have c4_1 := one_cells (cs := [.string nm, .slice rA rn rc, .slice oA on oc, .slice tA tm tc, .slice lA ln lc, .int .i64 ar, .slice bA bn bc]) HW4.out 1 (.slice rA rn rc) rfl
   have c4_2 := one_cells (cs := [.string nm, .slice rA rn rc, .slice oA on oc, .slice tA tm tc, .slice lA ln lc, .int .i64 ar, .slice bA bn bc]) HW4.out 2 (.slice oA on oc) rfl
   have c4_3 := one_cells (cs := [.string nm, .slice rA rn rc, .slice oA on oc, .slice tA tm tc, .slice lA ln lc, .int .i64 ar, .slice bA bn bc]) HW4.out 3 (.slice tA tm tc) rfl
   have c4_4 := one_cells (cs := [.string nm, .slice rA rn rc, .slice oA on oc, .slice tA tm tc, .slice lA ln lc, .int .i64 ar, .slice bA bn bc]) HW4.out 4 (.slice lA ln lc) rfl
   have c4_5 := one_cells (cs := [.string nm, .slice rA rn rc, .slice oA on oc, .slice tA tm tc, .slice lA ln lc, .int .i64 ar, .slice bA bn bc]) HW4.out 5 (.int .i64 ar) rfl
   have c4_6 := one_cells (cs := [.string nm, .slice rA rn rc, .slice oA on oc, .slice tA tm tc, .slice lA ln lc, .int .i64 ar, .slice bA bn bc]) HW4.out 6 (.slice bA bn bc) rfl
   go_wp2
   go_ret
   exact ⟨rfl, HB.out.trans (HW4.out.mono HB.out.size)⟩
  have tb : ((bn : Int) == 0) = false := by rw [beq_eq_false_iff_ne]; omega
  by_cases hd : 65535 < bn
  case pos =>
   obtain rfl : v = 15 := by rw [← hv, if_pos (.inr hd)]
   have tb2 : (65535 : Int) < (bn : Int) := by omega
   clear hv hc ha hb hd
   go_enter Tryz.func26, Tryz.ntmps26
   go_wp2_with fail
   refine (IsIdent_is HID.out _ HNM.out).mono ?_
   rintro e0 w0 ⟨rfl, rfl⟩
   go_wp2_with fail
   refine (HRG.out _ (Below.refl _ _)).mono ?_
   rintro e1 w1 ⟨rfl, hb1⟩
   have HW1 := hide (show Below (w.alloc (.cells #[.string nm, .slice rA rn rc, .slice oA on oc, .slice tA tm tc, .slice lA ln lc, .int .i64 ar, .slice bA bn bc] 28)).heap.size (w.alloc (.cells #[.string nm, .slice rA rn rc, .slice oA on oc, .slice tA tm tc, .slice lA ln lc, .int .i64 ar, .slice bA bn bc] 28)) w1 from hb1)
   clear hb1
   have c1_0 := one_cells (cs := [.string nm, .slice rA rn rc, .slice oA on oc, .slice tA tm tc, .slice lA ln lc, .int .i64 ar, .slice bA bn bc]) HW1.out 0 (.string nm) rfl
   have c1_1 := one_cells (cs := [.string nm, .slice rA rn rc, .slice oA on oc, .slice tA tm tc, .slice lA ln lc, .int .i64 ar, .slice bA bn bc]) HW1.out 1 (.slice rA rn rc) rfl
   have c1_2 := one_cells (cs := [.string nm, .slice rA rn rc, .slice oA on oc, .slice tA tm tc, .slice lA ln lc, .int .i64 ar, .slice bA bn bc]) HW1.out 2 (.slice oA on oc) rfl
   have c1_3 := one_cells (cs := [.string nm, .slice rA rn rc, .slice oA on oc, .slice tA tm tc, .slice lA ln lc, .int .i64 ar, .slice bA bn bc]) HW1.out 3 (.slice tA tm tc) rfl
   have c1_4 := one_cells (cs := [.string nm, .slice rA rn rc, .slice oA on oc, .slice tA tm tc, .slice lA ln lc, .int .i64 ar, .slice bA bn bc]) HW1.out 4 (.slice lA ln lc) rfl
   have c1_5 := one_cells (cs := [.string nm, .slice rA rn rc, .slice oA on oc, .slice tA tm tc, .slice lA ln lc, .int .i64 ar, .slice bA bn bc]) HW1.out 5 (.int .i64 ar) rfl
   have c1_6 := one_cells (cs := [.string nm, .slice rA rn rc, .slice oA on oc, .slice tA tm tc, .slice lA ln lc, .int .i64 ar, .slice bA bn bc]) HW1.out 6 (.slice bA bn bc) rfl
   go_wp2_with fail
   refine (HPR.out _ HW1.out).mono ?_
   rintro e2 w2 ⟨rfl, hb2⟩
   have HW2 := hide (HW1.out.trans (hb2.mono HW1.out.size))
   clear hb2
   have c2_0 := one_cells (cs := [.string nm, .slice rA rn rc, .slice oA on oc, .slice tA tm tc, .slice lA ln lc, .int .i64 ar, .slice bA bn bc]) HW2.out 0 (.string nm) rfl
   have c2_1 := one_cells (cs := [.string nm, .slice rA rn rc, .slice oA on oc, .slice tA tm tc, .slice lA ln lc, .int .i64 ar, .slice bA bn bc]) HW2.out 1 (.slice rA rn rc) rfl
   have c2_2 := one_cells (cs := [.string nm, .slice rA rn rc, .slice oA on oc, .slice tA tm tc, .slice lA ln lc, .int .i64 ar, .slice bA bn bc]) HW2.out 2 (.slice oA on oc) rfl
   have c2_3 := one_cells (cs := [.string nm, .slice rA rn rc, .slice oA on oc, .slice tA tm tc, .slice lA ln lc, .int .i64 ar, .slice bA bn bc]) HW2.out 3 (.slice tA tm tc) rfl
   have c2_4 := one_cells (cs := [.string nm, .slice rA rn rc, .slice oA on oc, .slice tA tm tc, .slice lA ln lc, .int .i64 ar, .slice bA bn bc]) HW2.out 4 (.slice lA ln lc) rfl
   have c2_5 := one_cells (cs := [.string nm, .slice rA rn rc, .slice oA on oc, .slice tA tm tc, .slice lA ln lc, .int .i64 ar, .slice bA bn bc]) HW2.out 5 (.int .i64 ar) rfl
   have c2_6 := one_cells (cs := [.string nm, .slice rA rn rc, .slice oA on oc, .slice tA tm tc, .slice lA ln lc, .int .i64 ar, .slice bA bn bc]) HW2.out 6 (.slice bA bn bc) rfl
   go_wp2_with fail
   refine (HTY.out _ HW2.out).mono ?_
   rintro e3 w3 ⟨rfl, hb3⟩
   have HW3 := hide (HW2.out.trans (hb3.mono HW2.out.size))
   clear hb3
   have c3_0 := one_cells (cs := [.string nm, .slice rA rn rc, .slice oA on oc, .slice tA tm tc, .slice lA ln lc, .int .i64 ar, .slice bA bn bc]) HW3.out 0 (.string nm) rfl
   have c3_1 := one_cells (cs := [.string nm, .slice rA rn rc, .slice oA on oc, .slice tA tm tc, .slice lA ln lc, .int .i64 ar, .slice bA bn bc]) HW3.out 1 (.slice rA rn rc) rfl
   have c3_2 := one_cells (cs := [.string nm, .slice rA rn rc, .slice oA on oc, .slice tA tm tc, .slice lA ln lc, .int .i64 ar, .slice bA bn bc]) HW3.out 2 (.slice oA on oc) rfl
   have c3_3 := one_cells (cs := [.string nm, .slice rA rn rc, .slice oA on oc, .slice tA tm tc, .slice lA ln lc, .int .i64 ar, .slice bA bn bc]) HW3.out 3 (.slice tA tm tc) rfl
   have c3_4 := one_cells (cs := [.string nm, .slice rA rn rc, .slice oA on oc, .slice tA tm tc, .slice lA ln lc, .int .i64 ar, .slice bA bn bc]) HW3.out 4 (.slice lA ln lc) rfl
   have c3_5 := one_cells (cs := [.string nm, .slice rA rn rc, .slice oA on oc, .slice tA tm tc, .slice lA ln lc, .int .i64 ar, .slice bA bn bc]) HW3.out 5 (.int .i64 ar) rfl
   have c3_6 := one_cells (cs := [.string nm, .slice rA rn rc, .slice oA on oc, .slice tA tm tc, .slice lA ln lc, .int .i64 ar, .slice bA bn bc]) HW3.out 6 (.slice bA bn bc) rfl
   go_wp2_with fail
   refine (HLC.out _ HW3.out).mono ?_
   rintro e4 w4 ⟨rfl, hb4⟩
   have HW4 := hide (HW3.out.trans (hb4.mono HW3.out.size))
   clear hb4
   have c4_0 := one_cells (cs := [.string nm, .slice rA rn rc, .slice oA on oc, .slice tA tm tc, .slice lA ln lc, .int .i64 ar, .slice bA bn bc]) HW4.out 0 (.string nm) rfl
   have c4_1 := one_cells (cs := [.string nm, .slice rA rn rc, .slice oA on oc, .slice tA tm tc, .slice lA ln lc, .int .i64 ar, .slice bA bn bc]) HW4.out 1 (.slice rA rn rc) rfl
   have c4_2 := one_cells (cs := [.string nm, .slice rA rn rc, .slice oA on oc, .slice tA tm tc, .slice lA ln lc, .int .i64 ar, .slice bA bn bc]) HW4.out 2 (.slice oA on oc) rfl
   have c4_3 := one_cells (cs := [.string nm, .slice rA rn rc, .slice oA on oc, .slice tA tm tc, .slice lA ln lc, .int .i64 ar, .slice bA bn bc]) HW4.out 3 (.slice tA tm tc) rfl
   have c4_4 := one_cells (cs := [.string nm, .slice rA rn rc, .slice oA on oc, .slice tA tm tc, .slice lA ln lc, .int .i64 ar, .slice bA bn bc]) HW4.out 4 (.slice lA ln lc) rfl
   have c4_5 := one_cells (cs := [.string nm, .slice rA rn rc, .slice oA on oc, .slice tA tm tc, .slice lA ln lc, .int .i64 ar, .slice bA bn bc]) HW4.out 5 (.int .i64 ar) rfl
   have c4_6 := one_cells (cs := [.string nm, .slice rA rn rc, .slice oA on oc, .slice tA tm tc, .slice lA ln lc, .int .i64 ar, .slice bA bn bc]) HW4.out 6 (.slice bA bn bc) rfl
   go_wp2
   go_ret
   exact ⟨rfl, HB.out.trans (HW4.out.mono HB.out.size)⟩
  have tb2 : (bn : Int) ≤ 65535 := by omega
  obtain rfl : v = 0 := by rw [← hv, if_neg (by omega)]
  clear hv hc ha hb hd
  go_enter Tryz.func26, Tryz.ntmps26
  go_wp2_with fail
  refine (IsIdent_is HID.out _ HNM.out).mono ?_
  rintro e0 w0 ⟨rfl, rfl⟩
  go_wp2_with fail
  refine (HRG.out _ (Below.refl _ _)).mono ?_
  rintro e1 w1 ⟨rfl, hb1⟩
  have HW1 := hide (show Below (w.alloc (.cells #[.string nm, .slice rA rn rc, .slice oA on oc, .slice tA tm tc, .slice lA ln lc, .int .i64 ar, .slice bA bn bc] 28)).heap.size (w.alloc (.cells #[.string nm, .slice rA rn rc, .slice oA on oc, .slice tA tm tc, .slice lA ln lc, .int .i64 ar, .slice bA bn bc] 28)) w1 from hb1)
  clear hb1
  have c1_0 := one_cells (cs := [.string nm, .slice rA rn rc, .slice oA on oc, .slice tA tm tc, .slice lA ln lc, .int .i64 ar, .slice bA bn bc]) HW1.out 0 (.string nm) rfl
  have c1_1 := one_cells (cs := [.string nm, .slice rA rn rc, .slice oA on oc, .slice tA tm tc, .slice lA ln lc, .int .i64 ar, .slice bA bn bc]) HW1.out 1 (.slice rA rn rc) rfl
  have c1_2 := one_cells (cs := [.string nm, .slice rA rn rc, .slice oA on oc, .slice tA tm tc, .slice lA ln lc, .int .i64 ar, .slice bA bn bc]) HW1.out 2 (.slice oA on oc) rfl
  have c1_3 := one_cells (cs := [.string nm, .slice rA rn rc, .slice oA on oc, .slice tA tm tc, .slice lA ln lc, .int .i64 ar, .slice bA bn bc]) HW1.out 3 (.slice tA tm tc) rfl
  have c1_4 := one_cells (cs := [.string nm, .slice rA rn rc, .slice oA on oc, .slice tA tm tc, .slice lA ln lc, .int .i64 ar, .slice bA bn bc]) HW1.out 4 (.slice lA ln lc) rfl
  have c1_5 := one_cells (cs := [.string nm, .slice rA rn rc, .slice oA on oc, .slice tA tm tc, .slice lA ln lc, .int .i64 ar, .slice bA bn bc]) HW1.out 5 (.int .i64 ar) rfl
  have c1_6 := one_cells (cs := [.string nm, .slice rA rn rc, .slice oA on oc, .slice tA tm tc, .slice lA ln lc, .int .i64 ar, .slice bA bn bc]) HW1.out 6 (.slice bA bn bc) rfl
  go_wp2_with fail
  refine (HPR.out _ HW1.out).mono ?_
  rintro e2 w2 ⟨rfl, hb2⟩
  have HW2 := hide (HW1.out.trans (hb2.mono HW1.out.size))
  clear hb2
  have c2_0 := one_cells (cs := [.string nm, .slice rA rn rc, .slice oA on oc, .slice tA tm tc, .slice lA ln lc, .int .i64 ar, .slice bA bn bc]) HW2.out 0 (.string nm) rfl
  have c2_1 := one_cells (cs := [.string nm, .slice rA rn rc, .slice oA on oc, .slice tA tm tc, .slice lA ln lc, .int .i64 ar, .slice bA bn bc]) HW2.out 1 (.slice rA rn rc) rfl
  have c2_2 := one_cells (cs := [.string nm, .slice rA rn rc, .slice oA on oc, .slice tA tm tc, .slice lA ln lc, .int .i64 ar, .slice bA bn bc]) HW2.out 2 (.slice oA on oc) rfl
  have c2_3 := one_cells (cs := [.string nm, .slice rA rn rc, .slice oA on oc, .slice tA tm tc, .slice lA ln lc, .int .i64 ar, .slice bA bn bc]) HW2.out 3 (.slice tA tm tc) rfl
  have c2_4 := one_cells (cs := [.string nm, .slice rA rn rc, .slice oA on oc, .slice tA tm tc, .slice lA ln lc, .int .i64 ar, .slice bA bn bc]) HW2.out 4 (.slice lA ln lc) rfl
  have c2_5 := one_cells (cs := [.string nm, .slice rA rn rc, .slice oA on oc, .slice tA tm tc, .slice lA ln lc, .int .i64 ar, .slice bA bn bc]) HW2.out 5 (.int .i64 ar) rfl
  have c2_6 := one_cells (cs := [.string nm, .slice rA rn rc, .slice oA on oc, .slice tA tm tc, .slice lA ln lc, .int .i64 ar, .slice bA bn bc]) HW2.out 6 (.slice bA bn bc) rfl
  go_wp2_with fail
  refine (HTY.out _ HW2.out).mono ?_
  rintro e3 w3 ⟨rfl, hb3⟩
  have HW3 := hide (HW2.out.trans (hb3.mono HW2.out.size))
  clear hb3
  have c3_0 := one_cells (cs := [.string nm, .slice rA rn rc, .slice oA on oc, .slice tA tm tc, .slice lA ln lc, .int .i64 ar, .slice bA bn bc]) HW3.out 0 (.string nm) rfl
  have c3_1 := one_cells (cs := [.string nm, .slice rA rn rc, .slice oA on oc, .slice tA tm tc, .slice lA ln lc, .int .i64 ar, .slice bA bn bc]) HW3.out 1 (.slice rA rn rc) rfl
  have c3_2 := one_cells (cs := [.string nm, .slice rA rn rc, .slice oA on oc, .slice tA tm tc, .slice lA ln lc, .int .i64 ar, .slice bA bn bc]) HW3.out 2 (.slice oA on oc) rfl
  have c3_3 := one_cells (cs := [.string nm, .slice rA rn rc, .slice oA on oc, .slice tA tm tc, .slice lA ln lc, .int .i64 ar, .slice bA bn bc]) HW3.out 3 (.slice tA tm tc) rfl
  have c3_4 := one_cells (cs := [.string nm, .slice rA rn rc, .slice oA on oc, .slice tA tm tc, .slice lA ln lc, .int .i64 ar, .slice bA bn bc]) HW3.out 4 (.slice lA ln lc) rfl
  have c3_5 := one_cells (cs := [.string nm, .slice rA rn rc, .slice oA on oc, .slice tA tm tc, .slice lA ln lc, .int .i64 ar, .slice bA bn bc]) HW3.out 5 (.int .i64 ar) rfl
  have c3_6 := one_cells (cs := [.string nm, .slice rA rn rc, .slice oA on oc, .slice tA tm tc, .slice lA ln lc, .int .i64 ar, .slice bA bn bc]) HW3.out 6 (.slice bA bn bc) rfl
  go_wp2_with fail
  refine (HLC.out _ HW3.out).mono ?_
  rintro e4 w4 ⟨rfl, hb4⟩
  have HW4 := hide (HW3.out.trans (hb4.mono HW3.out.size))
  clear hb4
  have c4_0 := one_cells (cs := [.string nm, .slice rA rn rc, .slice oA on oc, .slice tA tm tc, .slice lA ln lc, .int .i64 ar, .slice bA bn bc]) HW4.out 0 (.string nm) rfl
  have c4_1 := one_cells (cs := [.string nm, .slice rA rn rc, .slice oA on oc, .slice tA tm tc, .slice lA ln lc, .int .i64 ar, .slice bA bn bc]) HW4.out 1 (.slice rA rn rc) rfl
  have c4_2 := one_cells (cs := [.string nm, .slice rA rn rc, .slice oA on oc, .slice tA tm tc, .slice lA ln lc, .int .i64 ar, .slice bA bn bc]) HW4.out 2 (.slice oA on oc) rfl
  have c4_3 := one_cells (cs := [.string nm, .slice rA rn rc, .slice oA on oc, .slice tA tm tc, .slice lA ln lc, .int .i64 ar, .slice bA bn bc]) HW4.out 3 (.slice tA tm tc) rfl
  have c4_4 := one_cells (cs := [.string nm, .slice rA rn rc, .slice oA on oc, .slice tA tm tc, .slice lA ln lc, .int .i64 ar, .slice bA bn bc]) HW4.out 4 (.slice lA ln lc) rfl
  have c4_5 := one_cells (cs := [.string nm, .slice rA rn rc, .slice oA on oc, .slice tA tm tc, .slice lA ln lc, .int .i64 ar, .slice bA bn bc]) HW4.out 5 (.int .i64 ar) rfl
  have c4_6 := one_cells (cs := [.string nm, .slice rA rn rc, .slice oA on oc, .slice tA tm tc, .slice lA ln lc, .int .i64 ar, .slice bA bn bc]) HW4.out 6 (.slice bA bn bc) rfl
  go_wp2
  go_ret
  exact ⟨rfl, HB.out.trans (HW4.out.mono HB.out.size)⟩
end Go.Proofs.YtfgacmgjpikgaaaGreatDoor
