/- BodiesClone: Clone returns an equal body, and changing one of two copies does not change the other one. No condition. -/
import Derived.Test.YtbdimnncobpfdaaGreatBodU
import Derived.Test.YtbdimnncobpfdaaGreatAlive09
import Derived.Test.YtbdimnncobpfdaaGreatBodP
import Derived.Test.YtbdimnncobpfdaaGreatRows
import Derived.Test.YtbdimnncobpfdaaGreatOpenB
import Derived.SizedLaws
import Derived.Test.YtbdimnncobpfdaaGreatBodRR
set_option linter.unusedVariables false
set_option linter.unusedSimpArgs false
namespace Go.Proofs.YtbdimnncobpfdaaGreat.bodiesClone
open Go.ChangeShapes Go.WideShapes Go.ChangeAt Go.ChangeMaps Go.RowKit Go.Shelf

theorem OwBd.up {w w' : World} {lo : Nat} {x : BdW} (h : OwBd w lo x) (hb : Below w.heap.size w w') : OwBd w' lo x := h.keep (Keep.of_below hb)
set_option maxHeartbeats 4000000 in
set_option maxRecDepth 100000 in
theorem walk (x0 : BdW) (w : World) (h0 : OneBd w w.heap.size x0) (s0 : FitBd x0) :
    Calls Tryz.prog 6 #[aggBd x0] w fun e w' => e = .returned (.bool true) ∧ Below w.heap.size w w' := by
  have HB := hide (bd1_below w x0)
  have HX := hide (h0.up HB.out)
  have HFX := hide s0
  have HRM := hide (show ∀ s ∈ x0.regions.L, s ∈ allS x0.v from fun s hs => by
    unfold allS BdW.v
    simp [hs])
  have hs := hide fun (w' : World) (h : Below (bd1 w x0).heap.size (bd1 w x0) w') => bd1_cells h
  clear h0 s0
  obtain ⟨nm, ⟨rA, rn, rc, rL⟩, ⟨oA, on, oc, oL⟩, ⟨tA, tn, tc, tL⟩, ⟨lA, ln, lc, lL⟩, ar, ⟨bA, bn, bc, bL⟩⟩ := x0
  have hc := hide fun (w' : World) (h : Below (bd1 w ⟨nm, ⟨rA, rn, rc, rL⟩, ⟨oA, on, oc, oL⟩, ⟨tA, tn, tc, tL⟩, ⟨lA, ln, lc, lL⟩, ar, ⟨bA, bn, bc, bL⟩⟩).heap.size (bd1 w ⟨nm, ⟨rA, rn, rc, rL⟩, ⟨oA, on, oc, oL⟩, ⟨tA, tn, tc, tL⟩, ⟨lA, ln, lc, lL⟩, ar, ⟨bA, bn, bc, bL⟩⟩) w') => (show w'.cell? ⟨w.heap.size, 0, none⟩ = some (.string nm) ∧ w'.cell? ⟨w.heap.size, 1, none⟩ = some (.slice rA rn rc) ∧ w'.cell? ⟨w.heap.size, 2, none⟩ = some (.slice oA on oc) ∧ w'.cell? ⟨w.heap.size, 3, none⟩ = some (.slice tA tn tc) ∧ w'.cell? ⟨w.heap.size, 4, none⟩ = some (.slice lA ln lc) ∧ w'.cell? ⟨w.heap.size, 5, none⟩ = some (.int .i64 ar) ∧ w'.cell? ⟨w.heap.size, 6, none⟩ = some (.slice bA bn bc) from ⟨hs.out w' h 0 _ rfl, hs.out w' h 1 _ rfl, hs.out w' h 2 _ rfl, hs.out w' h 3 _ rfl, hs.out w' h 4 _ rfl, hs.out w' h 5 _ rfl, hs.out w' h 6 _ rfl⟩)
  go_enter Tryz.func6, Tryz.ntmps6
  go_wp2_with fail
  refine (Large9_any ⟨nm, ⟨rA, rn, rc, rL⟩, ⟨oA, on, oc, oL⟩, ⟨tA, tn, tc, tL⟩, ⟨lA, ln, lc, lL⟩, ar, ⟨bA, bn, bc, bL⟩⟩ _ HX.out HFX.out).mono ?_
  rintro e1 w1 ⟨hb1, h⟩
  have HW1 := hide (show Below (bd1 w ⟨nm, ⟨rA, rn, rc, rL⟩, ⟨oA, on, oc, oL⟩, ⟨tA, tn, tc, tL⟩, ⟨lA, ln, lc, lL⟩, ar, ⟨bA, bn, bc, bL⟩⟩).heap.size (bd1 w ⟨nm, ⟨rA, rn, rc, rL⟩, ⟨oA, on, oc, oL⟩, ⟨tA, tn, tc, tL⟩, ⟨lA, ln, lc, lL⟩, ar, ⟨bA, bn, bc, bL⟩⟩) w1 from hb1)
  rcases h with rfl | ⟨rfl, hok⟩
  · go_wp2_with fail
    refine (alive09_any _).mono ?_
    rintro e2 w2 ⟨rfl, hb2⟩
    have HW2 := hide (HW1.out.trans (hb2.mono HW1.out.size))
    clear hb1 hb2
    go_wp2
    go_ret
    exact ⟨rfl, HB.out.trans (HW2.out.mono HB.out.size)⟩
  have HOK := hide hok
  obtain ⟨bx0, bx1, bx2, bx3, bx4, bx5, bx6⟩ := hc.out _ HW1.out
  clear hok hb1
  go_wp2_with fail
  refine (CloneBd_any ⟨nm, ⟨rA, rn, rc, rL⟩, ⟨oA, on, oc, oL⟩, ⟨tA, tn, tc, tL⟩, ⟨lA, ln, lc, lL⟩, ar, ⟨bA, bn, bc, bL⟩⟩ _ (HX.out.up HW1.out) HOK.out.sm).mono ?_
  rintro e2 w2 ⟨⟨nm1, ⟨rA1, rn1, rc1, rL1⟩, ⟨oA1, on1, oc1, oL1⟩, ⟨tA1, tn1, tc1, tL1⟩, ⟨lA1, ln1, lc1, lL1⟩, ar1, ⟨bA1, bn1, bc1, bL1⟩⟩, h9, hcv, hco, hb2⟩
  obtain rfl : e2 = .returned (.agg #[.string nm1, .slice rA1 rn1 rc1, .slice oA1 on1 oc1, .slice tA1 tn1 tc1, .slice lA1 ln1 lc1, .int .i64 ar1, .slice bA1 bn1 bc1]) := h9
  have HCV := hide hcv
  have hrg : rL1 = rL := congrArg BdV.regions hcv
  have HSZ1 := hide (show ∀ s ∈ rL1, s.size ≤ 3000 from fun s hm => HOK.out.nm s (HRM.out s (show s ∈ rL from hrg ▸ hm)))
  have HCO := hide hco
  have HOC := hide (OneBd.of_own (HX.out.up HW1.out) hcv hco)
  have HW2 := hide (HW1.out.trans (hb2.mono HW1.out.size))
  have HL1 := hide hb2.size
  have HV2 := hide (HW2.out.alloc HW2.out.size (.cells #[.string nm1, .slice rA1 rn1 rc1, .slice oA1 on1 oc1, .slice tA1 tn1 tc1, .slice lA1 ln1 lc1, .int .i64 ar1, .slice bA1 bn1 bc1] 28))
  have HXC := hide (Bx.new w2 [.string nm1, .slice rA1 rn1 rc1, .slice oA1 on1 oc1, .slice tA1 tn1 tc1, .slice lA1 ln1 lc1, .int .i64 ar1, .slice bA1 bn1 bc1] 28)
  have HB2V := hide ((Below.refl w2.heap.size w2).alloc (Nat.le_refl _) (.cells #[.string nm1, .slice rA1 rn1 rc1, .slice oA1 on1 oc1, .slice tA1 tn1 tc1, .slice lA1 ln1 lc1, .int .i64 ar1, .slice bA1 bn1 bc1] 28))
  clear hcv hco hb2 hrg bx0 bx1 bx2 bx3 bx4 bx5 bx6
  obtain ⟨bx0, bx1, bx2, bx3, bx4, bx5, bx6⟩ := hc.out _ HV2.out
  go_wp2_with fail
  refine (CloneBd_any ⟨nm, ⟨rA, rn, rc, rL⟩, ⟨oA, on, oc, oL⟩, ⟨tA, tn, tc, tL⟩, ⟨lA, ln, lc, lL⟩, ar, ⟨bA, bn, bc, bL⟩⟩ _ (HX.out.up HV2.out) HOK.out.sm).mono ?_
  rintro e3 w3 ⟨⟨nm2, ⟨rA2, rn2, rc2, rL2⟩, ⟨oA2, on2, oc2, oL2⟩, ⟨tA2, tn2, tc2, tL2⟩, ⟨lA2, ln2, lc2, lL2⟩, ar2, ⟨bA2, bn2, bc2, bL2⟩⟩, h9, hdv, hdo, hb3⟩
  obtain rfl : e3 = .returned (.agg #[.string nm2, .slice rA2 rn2 rc2, .slice oA2 on2 oc2, .slice tA2 tn2 tc2, .slice lA2 ln2 lc2, .int .i64 ar2, .slice bA2 bn2 bc2]) := h9
  have HDV := hide hdv
  have HDO := hide hdo
  have HOD := hide (OneBd.of_own (HX.out.up HV2.out) hdv hdo)
  have HW3 := hide (HV2.out.trans (hb3.mono HV2.out.size))
  have HV3 := hide (HW3.out.alloc HW3.out.size (.cells #[.string nm2, .slice rA2 rn2 rc2, .slice oA2 on2 oc2, .slice tA2 tn2 tc2, .slice lA2 ln2 lc2, .int .i64 ar2, .slice bA2 bn2 bc2] 28))
  have HB3V := hide ((Below.refl w3.heap.size w3).alloc (Nat.le_refl _) (.cells #[.string nm2, .slice rA2 rn2 rc2, .slice oA2 on2 oc2, .slice tA2 tn2 tc2, .slice lA2 ln2 lc2, .int .i64 ar2, .slice bA2 bn2 bc2] 28))
  have HB23 := hide (HB2V.out.trans ((hb3.mono HB2V.out.size).trans (HB3V.out.mono (Nat.le_trans HB2V.out.size hb3.size))))
  have HXC3 := hide ((HXC.out.below hb3).below HB3V.out)
  have HXD3 := hide (Bx.new w3 [.string nm2, .slice rA2 rn2 rc2, .slice oA2 on2 oc2, .slice tA2 tn2 tc2, .slice lA2 ln2 lc2, .int .i64 ar2, .slice bA2 bn2 bc2] 28)
  have hs23 : w2.heap.size + 1 ≤ w3.heap.size := by have := hb3.size; simpa using this
  clear hdv hdo hb3 bx0 bx1 bx2 bx3 bx4 bx5 bx6
  obtain ⟨bx0, bx1, bx2, bx3, bx4, bx5, bx6⟩ := hc.out _ HV3.out
  have cf0 := HXC3.out.cell (j := 0) rfl
  have cf1 := HXC3.out.cell (j := 1) rfl
  have cf2 := HXC3.out.cell (j := 2) rfl
  have cf3 := HXC3.out.cell (j := 3) rfl
  have cf4 := HXC3.out.cell (j := 4) rfl
  have cf5 := HXC3.out.cell (j := 5) rfl
  have cf6 := HXC3.out.cell (j := 6) rfl
  go_wp2_with fail
  refine (REqBd_is (x := ⟨nm, ⟨rA, rn, rc, rL⟩, ⟨oA, on, oc, oL⟩, ⟨tA, tn, tc, tL⟩, ⟨lA, ln, lc, lL⟩, ar, ⟨bA, bn, bc, bL⟩⟩) (y := ⟨nm1, ⟨rA1, rn1, rc1, rL1⟩, ⟨oA1, on1, oc1, oL1⟩, ⟨tA1, tn1, tc1, tL1⟩, ⟨lA1, ln1, lc1, lL1⟩, ar1, ⟨bA1, bn1, bc1, bL1⟩⟩) (decide_eq_true HCV.out.symm) _ (HX.out.up HV3.out) (HOC.out.up HB23.out)).mono ?_
  rintro e4 w4 ⟨rfl, hb4⟩
  have HW4 := hide (HV3.out.trans (hb4.mono HV3.out.size))
  have HXC4 := hide (HXC3.out.below hb4)
  have HXD4 := hide (HXD3.out.below hb4)
  have HB24 := hide (HB23.out.trans (hb4.mono HB23.out.size))
  have HB34 := hide (HB3V.out.trans (hb4.mono HB3V.out.size))
  clear hb4 bx0 bx1 bx2 bx3 bx4 bx5 bx6 cf0 cf1 cf2 cf3 cf4 cf5 cf6
  obtain ⟨bx0, bx1, bx2, bx3, bx4, bx5, bx6⟩ := hc.out _ HW4.out
  have df0 := HXD4.out.cell (j := 0) rfl
  have df1 := HXD4.out.cell (j := 1) rfl
  have df2 := HXD4.out.cell (j := 2) rfl
  have df3 := HXD4.out.cell (j := 3) rfl
  have df4 := HXD4.out.cell (j := 4) rfl
  have df5 := HXD4.out.cell (j := 5) rfl
  have df6 := HXD4.out.cell (j := 6) rfl
  go_wp2_with fail
  refine (REqBd_is (x := ⟨nm, ⟨rA, rn, rc, rL⟩, ⟨oA, on, oc, oL⟩, ⟨tA, tn, tc, tL⟩, ⟨lA, ln, lc, lL⟩, ar, ⟨bA, bn, bc, bL⟩⟩) (y := ⟨nm2, ⟨rA2, rn2, rc2, rL2⟩, ⟨oA2, on2, oc2, oL2⟩, ⟨tA2, tn2, tc2, tL2⟩, ⟨lA2, ln2, lc2, lL2⟩, ar2, ⟨bA2, bn2, bc2, bL2⟩⟩) (decide_eq_true HDV.out.symm) _ (HX.out.up HW4.out) (HOD.out.up HB34.out)).mono ?_
  rintro e5 w5 ⟨rfl, hb5⟩
  have HW5 := hide (HW4.out.trans (hb5.mono HW4.out.size))
  have HXC5 := hide (HXC4.out.below hb5)
  have HXD5 := hide (HXD4.out.below hb5)
  have HB25 := hide (HB24.out.trans (hb5.mono HB24.out.size))
  have HB35 := hide (HB34.out.trans (hb5.mono HB34.out.size))
  clear hb5 bx0 bx1 bx2 bx3 bx4 bx5 bx6 df0 df1 df2 df3 df4 df5 df6
  have cf0 := HXC5.out.cell (j := 0) rfl
  have cf1 := HXC5.out.cell (j := 1) rfl
  have cf2 := HXC5.out.cell (j := 2) rfl
  have cf3 := HXC5.out.cell (j := 3) rfl
  have cf4 := HXC5.out.cell (j := 4) rfl
  have cf5 := HXC5.out.cell (j := 5) rfl
  have cf6 := HXC5.out.cell (j := 6) rfl
  go_wp2_with fail
  refine (Scramble_any ⟨nm1, ⟨rA1, rn1, rc1, rL1⟩, ⟨oA1, on1, oc1, oL1⟩, ⟨tA1, tn1, tc1, tL1⟩, ⟨lA1, ln1, lc1, lL1⟩, ar1, ⟨bA1, bn1, bc1, bL1⟩⟩ w2 _ _ HCO.out HOC.out HB25.out HSZ1.out).mono ?_
  rintro e6 w6 ⟨rfl, hs6⟩
  have hlo : (bd1 w ⟨nm, ⟨rA, rn, rc, rL⟩, ⟨oA, on, oc, oL⟩, ⟨tA, tn, tc, tL⟩, ⟨lA, ln, lc, lL⟩, ar, ⟨bA, bn, bc, bL⟩⟩).heap.size ≤ w1.heap.size := HW1.out.size
  have HW6 := hide (HW5.out.trans ((hs6.below (Nat.le_trans HL1.out HB25.out.size)).mono hlo))
  have HXD6 := hide (hs6.box HXD5.out (by omega))
  have HDO6 := hide (OwBd.keep (OwBd.up HDO.out HB35.out) (hs6.keep.less (by simp)))
  have HOD6 := hide (OneBd.of_own (HX.out.up HW6.out) HDV.out HDO6.out)
  clear hs6 cf0 cf1 cf2 cf3 cf4 cf5 cf6
  go_wp2_with fail
  refine (alive09_any _).mono ?_
  rintro e7 w7 ⟨rfl, hb7⟩
  have HW7 := hide (HW6.out.trans (hb7.mono HW6.out.size))
  have HXD7 := hide (HXD6.out.below hb7)
  have HOD7 := hide (HOD6.out.up hb7)
  clear hb7
  obtain ⟨bx0, bx1, bx2, bx3, bx4, bx5, bx6⟩ := hc.out _ HW7.out
  have df0 := HXD7.out.cell (j := 0) rfl
  have df1 := HXD7.out.cell (j := 1) rfl
  have df2 := HXD7.out.cell (j := 2) rfl
  have df3 := HXD7.out.cell (j := 3) rfl
  have df4 := HXD7.out.cell (j := 4) rfl
  have df5 := HXD7.out.cell (j := 5) rfl
  have df6 := HXD7.out.cell (j := 6) rfl
  go_wp2_with fail
  refine (REqBd_is (x := ⟨nm, ⟨rA, rn, rc, rL⟩, ⟨oA, on, oc, oL⟩, ⟨tA, tn, tc, tL⟩, ⟨lA, ln, lc, lL⟩, ar, ⟨bA, bn, bc, bL⟩⟩) (y := ⟨nm2, ⟨rA2, rn2, rc2, rL2⟩, ⟨oA2, on2, oc2, oL2⟩, ⟨tA2, tn2, tc2, tL2⟩, ⟨lA2, ln2, lc2, lL2⟩, ar2, ⟨bA2, bn2, bc2, bL2⟩⟩) (decide_eq_true HDV.out.symm) _ (HX.out.up HW7.out) HOD7.out).mono ?_
  rintro e8 w8 ⟨rfl, hb8⟩
  have HW8 := hide (HW7.out.trans (hb8.mono HW7.out.size))
  clear hb8 bx0 bx1 bx2 bx3 bx4 bx5 bx6 df0 df1 df2 df3 df4 df5 df6
  go_wp2
  go_ret
  exact ⟨rfl, HB.out.trans (HW8.out.mono HB.out.size)⟩
theorem own : ownKnob Tryz.prog.godebug = none := by kernel_rfl
theorem laidOut : laidOutB Tryz.prog = true := by kernel_rfl

set_option maxRecDepth 100000 in
/-- what the walk gives, for every argument that can be read -/
theorem contract (H : Type) (enc : TypeId × Value → H) (W : World) (base : Nat) (args : Array Value) (ds gs : List (DataW H)) (before : List MemPlace)
    (hval0 : ∀ (j : Nat) t v, Tryz.f6.params[j]? = some t → args[j]? = some v → Value.okWide Tryz.prog W .any base t v)
    (hW : DataW.Whole enc Tryz.prog Tryz.f6.params.toList Rows.bodiesCloneSpec.vars false W args.toList ds gs before) (hsz0 : (DataW.weightsEach Tryz.prog (Tryz.f6.params.toList ++ Rows.bodiesCloneSpec.plain.varTypes Tryz.prog) (ds ++ gs)).all (· ≤ reachBytes) = true) :
    Calls Tryz.prog 6 args W fun e W' => ∃ v, e = .returned v ∧ Rows.bodiesCloneSpec.post enc Tryz.prog Tryz.f6 false true false false W args v W' := by
  have hval : ∀ (j : Nat) t v, Tryz.f6.params[j]? = some t → args[j]? = some v → Value.okWide Tryz.prog W .any base t v := hval0
  have hW' := hW
  obtain ⟨p, q, hA0, hV, rfl, hfz, hnd⟩ := hW
  have hA : DataW.TrodAll enc Tryz.prog W 0 (fun _ => true) true Tryz.f6.params.toList args.toList ds p := hA0
  have hsz : (DataW.weightsEach Tryz.prog (Tryz.f6.params.toList ++ Rows.bodiesCloneSpec.plain.varTypes Tryz.prog) (ds ++ gs)).all (· ≤ reachBytes) = true := hsz0
  rw [Tryz.params6] at hA hval hsz
  obtain ⟨v0, vs0, d0, ds0, p0, q0, hargs, rfl, rfl, h0, r0⟩ := trodAll_cons hA
  obtain ⟨rfl, rfl, rfl⟩ := trodAll_nil r0
  obtain rfl : args = #[v0] := by cases args; simp_all
  obtain ⟨rfl, rfl⟩ := trodVars_none hV
  have k0 := h0
  have lt0 : ∀ x ∈ p0, x.block < W.heap.size := by obtain ⟨m, hm⟩ := k0; exact DataW.trod_lt m _ _ _ hm
  obtain ⟨x0, rfl, g0, f0⟩ := openBody (hval 0 28 v0 rfl rfl) h0
  have s0 : FitBd x0 := f0 (List.all_eq_true.2 fun n hn => List.all_eq_true.1 hsz n (DataW.weights_mem_each (j := 0) (t := 28) rfl rfl n hn))
  clear hA0 hval0 hsz hsz0
  simp only [List.append_nil] at hW'
  refine (walk x0 W g0 s0).mono fun e W' ⟨he, bel⟩ => ?_
  subst he
  exact ⟨_, rfl, _, _, _, [], _, [], hW', trodAll_mk1 (shut_bool Tryz.underlying4 _), (trodAll_cons_mk (Below.trod laidOut (by kernel_rfl) (of_decide_eq_true (by kernel_rfl)) k0 bel lt0) trodAll_mk0), rfl, bel.frame _, fun h => by cases h⟩

set_option maxRecDepth 100000 in
theorem lifted (os : Os) (started : os.Started) (H : Type) (enc : TypeId × Value → H) :
    ReturnsInHanded {} Tryz.checked os 6 .any (Rows.bodiesCloneSpec.pre6 enc Tryz.prog Tryz.f6 Rows.bodiesCloneRow.domain false) (Rows.bodiesCloneSpec.post enc Tryz.prog Tryz.f6 false true false false) := by
  refine returnsInHanded_of_change_sized (C := Tryz.checked) own started (by kernel_rfl) Tryz.func6
    (ChangeSpec.witness6 (enc := enc) (C := Tryz.checked) false ⟨#[], #[.agg #[.string .empty, .slice none 0 0, .slice none 0 0, .slice none 0 0, .slice none 0 0, .int .i64 0, .slice none 0 0]], []⟩ 8 (by kernel_rfl) (by kernel_rfl) (by kernel_rfl) (by kernel_rfl)) ?_
  intro W base args ds gs before hval hW _ hsz _
  exact contract H enc W base args ds gs before hval hW hsz

/-- the statement -/
theorem proved : Rows.BodiesCloneSaid :=
  OpenClaim.holds_of_wide 6 Tryz.f6 rfl rfl rfl rfl rfl rfl rfl ⟨rfl, rfl, rfl, rfl, rfl⟩ rfl rfl rfl rfl rfl (by kernel_rfl) Tryz.func6 (by kernel_rfl)
    (of_decide_eq_true (by kernel_rfl)) (by unfold Func.isWrapper; first | (rw [if_pos (by decide +kernel)]; kernel_rfl) | (rw [if_neg (by decide +kernel)]; exact ⟨rfl, rfl⟩))
    (fun os started H enc _ => lifted os started H enc)
end Go.Proofs.YtbdimnncobpfdaaGreat.bodiesClone
