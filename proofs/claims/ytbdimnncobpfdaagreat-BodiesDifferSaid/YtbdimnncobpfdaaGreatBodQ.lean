/- The reference's comparison of bodies. -/
import Derived.Test.YtbdimnncobpfdaaGreatBodE
import Derived.Test.YtbdimnncobpfdaaGreatTypQ
set_option linter.unusedVariables false
namespace Go.Proofs.YtbdimnncobpfdaaGreat
open Go.RowKit

deriving instance DecidableEq for BdV
/-- the world with both bodies in boxes -/
def bd2 (w : World) (x y : BdW) : World := (w.alloc (.cells #[.string x.name, .slice x.regions.A x.regions.n x.regions.c, .slice x.outl.A x.outl.n x.outl.c, .slice x.types.A x.types.n x.types.c, .slice x.locals.A x.locals.n x.locals.c, .int .i64 x.args, .slice x.blocks.A x.blocks.n x.blocks.c] 28)).alloc (.cells #[.string y.name, .slice y.regions.A y.regions.n y.regions.c, .slice y.outl.A y.outl.n y.outl.c, .slice y.types.A y.types.n y.types.c, .slice y.locals.A y.locals.n y.locals.c, .int .i64 y.args, .slice y.blocks.A y.blocks.n y.blocks.c] 28)
theorem bd2_size (w : World) (x y : BdW) : (bd2 w x y).heap.size = w.heap.size + 2 := by simp [bd2]
theorem bd2_below (w : World) (x y : BdW) : Below w.heap.size w (bd2 w x y) := ((Below.refl _ w).alloc (Nat.le_refl _) _).alloc (by simp) _
theorem bd2_cells {w w' : World} {x y : BdW} (h : Below (bd2 w x y).heap.size (bd2 w x y) w') : ∀ j u v, (cBd x)[j]? = some u → (cBd y)[j]? = some v → w'.cell? ⟨w.heap.size, j, none⟩ = some u ∧ w'.cell? ⟨w.heap.size + 1, j, none⟩ = some v := by
  have hs := bd2_size w x y
  intro j u v hu hv
  refine ⟨(h.cell (show w.heap.size < (bd2 w x y).heap.size by omega)).trans ?_, (h.cell (show w.heap.size + 1 < (bd2 w x y).heap.size by omega)).trans ?_⟩
  · unfold bd2
    simp only [cBd] at hu
    rw [← hu]
    rcases j with _ | _ | _ | _ | _ | _ | _ | j <;> simp [go_sem]
  · unfold bd2
    simp only [cBd] at hv
    rw [← hv]
    rcases j with _ | _ | _ | _ | _ | _ | _ | j <;> simp [go_sem]
theorem bdV_eq {x y : BdW} : x.v = y.v ↔ x.name = y.name ∧ x.args = y.args ∧ eqL x.regions.L y.regions.L = true ∧ eqL x.outl.L y.outl.L = true ∧ eqL (x.types.L.map TyW.t) (y.types.L.map TyW.t) = true ∧ eqL (x.locals.L.map LcW.v) (y.locals.L.map LcW.v) = true ∧ eqL (x.blocks.L.map BkW.v) (y.blocks.L.map BkW.v) = true := by
  simp only [eqL_iff]
  obtain ⟨a, b, c, d, e, f, g⟩ := x
  obtain ⟨a', b', c', d', e', f', g'⟩ := y
  simp only [BdW.v, BdV.mk.injEq, tys]
  constructor
  · rintro ⟨h1, h2, h3, h4, h5, h6, h7⟩
    exact ⟨h1, h6, h2, h3, h4, h5, h7⟩
  · rintro ⟨h1, h6, h2, h3, h4, h5, h7⟩
    exact ⟨h1, h2, h3, h4, h5, h6, h7⟩
def eqBd (x y : BdW) : Bool := decide (x.v = y.v)

set_option maxHeartbeats 8000000 in
set_option maxRecDepth 100000 in
theorem REqBd_any (x y : BdW) (w : World) (hx : OneBd w w.heap.size x) (hy : OneBd w w.heap.size y) :
    Calls Tryz.prog 12 #[aggBd x, aggBd y] w fun e w' => e = .returned (.bool (eqBd x y)) ∧ Below w.heap.size w w' := by
  have hv : ∀ b, (x.v = y.v ↔ b = true) → eqBd x y = b := fun b h => by rw [Bool.eq_iff_iff, eqBd, decide_eq_true_iff, h]
  rw [bdV_eq] at hv
  have HV := hide hv
  have HB := hide (bd2_below w x y)
  have HX := hide (hx.up HB.out)
  have HY := hide (hy.up HB.out)
  have HTL := hide hx.types.len
  have HTL' := hide hy.types.len
  have HLL := hide hx.locals.len
  have HLL' := hide hy.locals.len
  have HBL := hide hx.blocks.len
  have HBL' := hide hy.blocks.len
  have htn := hx.types.nm
  have hln := hx.locals.nm
  have hbn := hx.blocks.nm
  have hs := hide fun (w' : World) (h : Below (bd2 w x y).heap.size (bd2 w x y) w') => bd2_cells h
  clear hx hy hv
  obtain ⟨nm, ⟨rA, rn, rc, rL⟩, ⟨oA, on, oc, oL⟩, ⟨tA, tn, tc, tL⟩, ⟨lA, ln, lc, lL⟩, ar, ⟨bA, bn, bc, bL⟩⟩ := x
  obtain ⟨nm', ⟨rA', rn', rc', rL'⟩, ⟨oA', on', oc', oL'⟩, ⟨tA', tn', tc', tL'⟩, ⟨lA', ln', lc', lL'⟩, ar', ⟨bA', bn', bc', bL'⟩⟩ := y
  simp only [] at htn hln hbn
  unfold maxLen at htn hln hbn
  by_cases hk : nm = nm'
  rotate_left
  · have HF := hide (HV.out false (by simp [hk]))
    have t1 : (nm.toList == nm'.toList) = false := str_ne hk
    clear hk
    go_enter Tryz.func12, Tryz.ntmps12
    go_wp2
    go_ret
    exact ⟨congrArg (fun v => Ending.returned (.bool v)) HF.out.symm, HB.out⟩
  subst hk
  by_cases hk : ar = ar'
  rotate_left
  · have HF := hide (HV.out false (by simp [hk]))
    have t1 : (ar != ar') = true := by rw [bne_iff_ne]; exact hk
    clear hk
    go_enter Tryz.func12, Tryz.ntmps12
    go_wp2
    go_ret
    exact ⟨congrArg (fun v => Ending.returned (.bool v)) HF.out.symm, HB.out⟩
  subst hk
  cases hr : eqL rL rL'
  · have ER := hide hr
    have HF := hide (HV.out false (by simp [hr]))
    clear hr
    go_enter Tryz.func12, Tryz.ntmps12
    go_wp2_with fail
    refine (RSameStrings_is ER.out _ HX.out.regions HY.out.regions).mono ?_
    rintro e w1 ⟨rfl, hb⟩
    have HC1 := hide (hb.mono (Nat.le_refl _))
    clear hb
    go_wp2
    go_ret
    exact ⟨congrArg (fun v => Ending.returned (.bool v)) HF.out.symm, HB.out.trans (HC1.out.mono HB.out.size)⟩
  have ER := hide hr
  clear hr
  cases hr : eqL oL oL'
  · have EO := hide hr
    have HF := hide (HV.out false (by simp [hr]))
    clear hr
    go_enter Tryz.func12, Tryz.ntmps12
    go_wp2_with fail
    refine (RSameStrings_is ER.out _ HX.out.regions HY.out.regions).mono ?_
    rintro e w1 ⟨rfl, hb⟩
    have HC1 := hide (hb.mono (Nat.le_refl _))
    clear hb
    obtain ⟨v2, z2⟩ := hs.out _ HC1.out 2 _ _ rfl rfl
    simp only [] at v2 z2
    go_wp2_with fail
    refine (RSamePairs_is EO.out _ (SlH.below HX.out.outl HC1.out fun _ h => h) (SlH.below HY.out.outl HC1.out fun _ h => h)).mono ?_
    rintro e w2 ⟨rfl, hb⟩
    have HC2 := hide (HC1.out.trans (hb.mono HC1.out.size))
    clear hb
    clear v2 z2
    go_wp2
    go_ret
    exact ⟨congrArg (fun v => Ending.returned (.bool v)) HF.out.symm, HB.out.trans (HC2.out.mono HB.out.size)⟩
  have EO := hide hr
  clear hr
  by_cases hk : tn = tn'
  rotate_left
  · have e1 : ((tn : Int) != (tn' : Int)) = true := by simp; omega
    have ht := eqL_len (f := TyW.t) HTL.out HTL'.out hk
    have HF := hide (HV.out false (by simp [ht]))
    clear hk ht
    go_enter Tryz.func12, Tryz.ntmps12
    go_wp2_with fail
    refine (RSameStrings_is ER.out _ HX.out.regions HY.out.regions).mono ?_
    rintro e w1 ⟨rfl, hb⟩
    have HC1 := hide (hb.mono (Nat.le_refl _))
    clear hb
    obtain ⟨v2, z2⟩ := hs.out _ HC1.out 2 _ _ rfl rfl
    simp only [] at v2 z2
    go_wp2_with fail
    refine (RSamePairs_is EO.out _ (SlH.below HX.out.outl HC1.out fun _ h => h) (SlH.below HY.out.outl HC1.out fun _ h => h)).mono ?_
    rintro e w2 ⟨rfl, hb⟩
    have HC2 := hide (HC1.out.trans (hb.mono HC1.out.size))
    clear hb
    clear v2 z2
    obtain ⟨v3, z3⟩ := hs.out _ HC2.out 3 _ _ rfl rfl
    obtain ⟨v4, z4⟩ := hs.out _ HC2.out 4 _ _ rfl rfl
    obtain ⟨v6, z6⟩ := hs.out _ HC2.out 6 _ _ rfl rfl
    simp only [] at v3 z3 v4 z4 v6 z6
    go_wp2
    go_ret
    exact ⟨congrArg (fun v => Ending.returned (.bool v)) HF.out.symm, HB.out.trans (HC2.out.mono HB.out.size)⟩
  subst hk
  by_cases hk : ln = ln'
  rotate_left
  · have e1 : ((ln : Int) != (ln' : Int)) = true := by simp; omega
    have ht := eqL_len (f := LcW.v) HLL.out HLL'.out hk
    have HF := hide (HV.out false (by simp [ht]))
    clear hk ht
    go_enter Tryz.func12, Tryz.ntmps12
    go_wp2_with fail
    refine (RSameStrings_is ER.out _ HX.out.regions HY.out.regions).mono ?_
    rintro e w1 ⟨rfl, hb⟩
    have HC1 := hide (hb.mono (Nat.le_refl _))
    clear hb
    obtain ⟨v2, z2⟩ := hs.out _ HC1.out 2 _ _ rfl rfl
    simp only [] at v2 z2
    go_wp2_with fail
    refine (RSamePairs_is EO.out _ (SlH.below HX.out.outl HC1.out fun _ h => h) (SlH.below HY.out.outl HC1.out fun _ h => h)).mono ?_
    rintro e w2 ⟨rfl, hb⟩
    have HC2 := hide (HC1.out.trans (hb.mono HC1.out.size))
    clear hb
    clear v2 z2
    obtain ⟨v3, z3⟩ := hs.out _ HC2.out 3 _ _ rfl rfl
    obtain ⟨v4, z4⟩ := hs.out _ HC2.out 4 _ _ rfl rfl
    obtain ⟨v6, z6⟩ := hs.out _ HC2.out 6 _ _ rfl rfl
    simp only [] at v3 z3 v4 z4 v6 z6
    go_wp2
    go_ret
    exact ⟨congrArg (fun v => Ending.returned (.bool v)) HF.out.symm, HB.out.trans (HC2.out.mono HB.out.size)⟩
  subst hk
  by_cases hk : bn = bn'
  rotate_left
  · have e1 : ((bn : Int) != (bn' : Int)) = true := by simp; omega
    have ht := eqL_len (f := BkW.v) HBL.out HBL'.out hk
    have HF := hide (HV.out false (by simp [ht]))
    clear hk ht
    go_enter Tryz.func12, Tryz.ntmps12
    go_wp2_with fail
    refine (RSameStrings_is ER.out _ HX.out.regions HY.out.regions).mono ?_
    rintro e w1 ⟨rfl, hb⟩
    have HC1 := hide (hb.mono (Nat.le_refl _))
    clear hb
    obtain ⟨v2, z2⟩ := hs.out _ HC1.out 2 _ _ rfl rfl
    simp only [] at v2 z2
    go_wp2_with fail
    refine (RSamePairs_is EO.out _ (SlH.below HX.out.outl HC1.out fun _ h => h) (SlH.below HY.out.outl HC1.out fun _ h => h)).mono ?_
    rintro e w2 ⟨rfl, hb⟩
    have HC2 := hide (HC1.out.trans (hb.mono HC1.out.size))
    clear hb
    clear v2 z2
    obtain ⟨v3, z3⟩ := hs.out _ HC2.out 3 _ _ rfl rfl
    obtain ⟨v4, z4⟩ := hs.out _ HC2.out 4 _ _ rfl rfl
    obtain ⟨v6, z6⟩ := hs.out _ HC2.out 6 _ _ rfl rfl
    simp only [] at v3 z3 v4 z4 v6 z6
    go_wp2
    go_ret
    exact ⟨congrArg (fun v => Ending.returned (.bool v)) HF.out.symm, HB.out.trans (HC2.out.mono HB.out.size)⟩
  subst hk
  go_enter Tryz.func12, Tryz.ntmps12
  go_wp2_with fail
  refine (RSameStrings_is ER.out _ HX.out.regions HY.out.regions).mono ?_
  rintro e w1 ⟨rfl, hb⟩
  have HC1 := hide (hb.mono (Nat.le_refl _))
  clear hb
  obtain ⟨v2, z2⟩ := hs.out _ HC1.out 2 _ _ rfl rfl
  simp only [] at v2 z2
  go_wp2_with fail
  refine (RSamePairs_is EO.out _ (SlH.below HX.out.outl HC1.out fun _ h => h) (SlH.below HY.out.outl HC1.out fun _ h => h)).mono ?_
  rintro e w2 ⟨rfl, hb⟩
  have HC2 := hide (HC1.out.trans (hb.mono HC1.out.size))
  clear hb
  clear v2 z2
  obtain ⟨v3, z3⟩ := hs.out _ HC2.out 3 _ _ rfl rfl
  obtain ⟨v4, z4⟩ := hs.out _ HC2.out 4 _ _ rfl rfl
  obtain ⟨v6, z6⟩ := hs.out _ HC2.out 6 _ _ rfl rfl
  simp only [] at v3 z3 v4 z4 v6 z6
  go_wp2
  go_loopw [5] (fun i wr => ∃ j : Nat, i = .int .i64 (j : Int) ∧ j ≤ tn ∧ Hid (eqLto TyW.t tL tL' j) ∧ Below (bd2 w ⟨nm, ⟨rA, rn, rc, rL⟩, ⟨oA, on, oc, oL⟩, ⟨tA, tn, tc, tL⟩, ⟨lA, ln, lc, lL⟩, ar, ⟨bA, bn, bc, bL⟩⟩ ⟨nm, ⟨rA', rn', rc', rL'⟩, ⟨oA', on', oc', oL'⟩, ⟨tA', tn, tc', tL'⟩, ⟨lA', ln, lc', lL'⟩, ar, ⟨bA', bn, bc', bL'⟩⟩).heap.size (bd2 w ⟨nm, ⟨rA, rn, rc, rL⟩, ⟨oA, on, oc, oL⟩, ⟨tA, tn, tc, tL⟩, ⟨lA, ln, lc, lL⟩, ar, ⟨bA, bn, bc, bL⟩⟩ ⟨nm, ⟨rA', rn', rc', rL'⟩, ⟨oA', on', oc', oL'⟩, ⟨tA', tn, tc', tL'⟩, ⟨lA', ln, lc', lL'⟩, ar, ⟨bA', bn, bc', bL'⟩⟩) wr) (fun i _ => tn - (intOf i).toNat)
  case atStart => exact ⟨0, rfl, Nat.zero_le _, hide (eqLto_zero _ _ _), HC2.out⟩
  case round =>
    clear v3 z3 v4 z4 v6 z6
    obtain ⟨j, rfl, hj, HE, hb⟩ := hrel
    have HR1 := hide hb
    clear hb
    obtain ⟨v3, z3⟩ := hs.out _ HR1.out 3 _ _ rfl rfl
    simp only [] at v3 z3
    by_cases hlt : j < tn
    · obtain ⟨p, hp⟩ := HX.out.types.get hlt
      obtain ⟨q, hq⟩ := HY.out.types.get hlt
      obtain ⟨g, o, hA, hg, h1, c0⟩ := HX.out.types.at_ hp
      obtain ⟨g', o', hA', hg', h2, d0⟩ := HY.out.types.at_ hq
      simp only [] at hA hA'
      subst hA
      subst hA'
      have hlt' : (j : Int) < (tn : Int) := by omega
      have HP := hide hp
      have HQ := hide hq
      have hpp := hide h1
      have hqp := hide h2
      clear hp hq h1 h2
      have hcs := hide fun (w' : World) (h : Below (bd2 w ⟨nm, ⟨rA, rn, rc, rL⟩, ⟨oA, on, oc, oL⟩, ⟨some ⟨g, o, none⟩, tn, tc, tL⟩, ⟨lA, ln, lc, lL⟩, ar, ⟨bA, bn, bc, bL⟩⟩ ⟨nm, ⟨rA', rn', rc', rL'⟩, ⟨oA', on', oc', oL'⟩, ⟨some ⟨g', o', none⟩, tn, tc', tL'⟩, ⟨lA', ln, lc', lL'⟩, ar, ⟨bA', bn, bc', bL'⟩⟩).heap.size (bd2 w ⟨nm, ⟨rA, rn, rc, rL⟩, ⟨oA, on, oc, oL⟩, ⟨some ⟨g, o, none⟩, tn, tc, tL⟩, ⟨lA, ln, lc, lL⟩, ar, ⟨bA, bn, bc, bL⟩⟩ ⟨nm, ⟨rA', rn', rc', rL'⟩, ⟨oA', on', oc', oL'⟩, ⟨some ⟨g', o', none⟩, tn, tc', tL'⟩, ⟨lA', ln, lc', lL'⟩, ar, ⟨bA', bn, bc', bL'⟩⟩) w') => (show w'.cell? ⟨w.heap.size, 3, none⟩ = some (.slice (some ⟨g, o, none⟩) tn tc) ∧ w'.cell? ⟨w.heap.size + 1, 3, none⟩ = some (.slice (some ⟨g', o', none⟩) tn tc') ∧ w'.cell? ⟨g, o + j * 5, none⟩ = some (.int .i64 p.t.kind) ∧ w'.cell? ⟨g, o + j * 5 + 1, none⟩ = some (.bool p.t.mut_) ∧ w'.cell? ⟨g, o + j * 5 + 2, none⟩ = some (.int .i64 p.t.region) ∧ w'.cell? ⟨g, o + j * 5 + 3, none⟩ = some (.int .i64 p.t.elem) ∧ w'.cell? ⟨g, o + j * 5 + 4, none⟩ = some (.slice p.A p.n p.c) ∧ w'.cell? ⟨g', o' + j * 5, none⟩ = some (.int .i64 q.t.kind) ∧ w'.cell? ⟨g', o' + j * 5 + 1, none⟩ = some (.bool q.t.mut_) ∧ w'.cell? ⟨g', o' + j * 5 + 2, none⟩ = some (.int .i64 q.t.region) ∧ w'.cell? ⟨g', o' + j * 5 + 3, none⟩ = some (.int .i64 q.t.elem) ∧ w'.cell? ⟨g', o' + j * 5 + 4, none⟩ = some (.slice q.A q.n q.c) from ⟨(hs.out _ h 3 _ _ rfl rfl).1, (hs.out _ h 3 _ _ rfl rfl).2, (h.cell hg).trans (c0 0 _ rfl), (h.cell hg).trans (c0 1 _ rfl), (h.cell hg).trans (c0 2 _ rfl), (h.cell hg).trans (c0 3 _ rfl), (h.cell hg).trans (c0 4 _ rfl), (h.cell hg').trans (d0 0 _ rfl), (h.cell hg').trans (d0 1 _ rfl), (h.cell hg').trans (d0 2 _ rfl), (h.cell hg').trans (d0 3 _ rfl), (h.cell hg').trans (d0 4 _ rfl)⟩)
      clear c0 d0
      obtain ⟨v, hv⟩ : ∃ v, eqTy p.t q.t = v := ⟨_, rfl⟩
      have HVE := hide hv
      cases v
      · have ht := eqL_no (f := TyW.t) HP.out HQ.out (by rw [eqTy] at hv; exact of_decide_eq_false hv)
        have HF := hide (HV.out false (by simp [ht]))
        clear hv ht
        go_wp2
        clear v3 z3
        go_region_held3 (fun w' => Below (bd2 w ⟨nm, ⟨rA, rn, rc, rL⟩, ⟨oA, on, oc, oL⟩, ⟨some ⟨g, o, none⟩, tn, tc, tL⟩, ⟨lA, ln, lc, lL⟩, ar, ⟨bA, bn, bc, bL⟩⟩ ⟨nm, ⟨rA', rn', rc', rL'⟩, ⟨oA', on', oc', oL'⟩, ⟨some ⟨g', o', none⟩, tn, tc', tL'⟩, ⟨lA', ln, lc', lL'⟩, ar, ⟨bA', bn, bc', bL'⟩⟩).heap.size (bd2 w ⟨nm, ⟨rA, rn, rc, rL⟩, ⟨oA, on, oc, oL⟩, ⟨some ⟨g, o, none⟩, tn, tc, tL⟩, ⟨lA, ln, lc, lL⟩, ar, ⟨bA, bn, bc, bL⟩⟩ ⟨nm, ⟨rA', rn', rc', rL'⟩, ⟨oA', on', oc', oL'⟩, ⟨some ⟨g', o', none⟩, tn, tc', tL'⟩, ⟨lA', ln, lc', lL'⟩, ar, ⟨bA', bn, bc', bL'⟩⟩) w' ∧ w'.cell? ⟨w.heap.size, 3, none⟩ = some (.slice (some ⟨g, o, none⟩) tn tc) ∧ w'.cell? ⟨w.heap.size + 1, 3, none⟩ = some (.slice (some ⟨g', o', none⟩) tn tc') ∧ w'.cell? ⟨g, o + j * 5, none⟩ = some (.int .i64 p.t.kind) ∧ w'.cell? ⟨g, o + j * 5 + 1, none⟩ = some (.bool p.t.mut_) ∧ w'.cell? ⟨g, o + j * 5 + 2, none⟩ = some (.int .i64 p.t.region) ∧ w'.cell? ⟨g, o + j * 5 + 3, none⟩ = some (.int .i64 p.t.elem) ∧ w'.cell? ⟨g, o + j * 5 + 4, none⟩ = some (.slice p.A p.n p.c) ∧ w'.cell? ⟨g', o' + j * 5, none⟩ = some (.int .i64 q.t.kind) ∧ w'.cell? ⟨g', o' + j * 5 + 1, none⟩ = some (.bool q.t.mut_) ∧ w'.cell? ⟨g', o' + j * 5 + 2, none⟩ = some (.int .i64 q.t.region) ∧ w'.cell? ⟨g', o' + j * 5 + 3, none⟩ = some (.int .i64 q.t.elem) ∧ w'.cell? ⟨g', o' + j * 5 + 4, none⟩ = some (.slice q.A q.n q.c))
          (first | exact ⟨by assumption, hcs.out _ (by assumption)⟩ | exact ⟨HR1.out, hcs.out _ HR1.out⟩ | exact ⟨HR1.out.drew, hcs.out _ HR1.out.drew⟩)
          (first | (go_at_call 38; go_split_ands; refine (REqT_is (x := p) (y := q) HVE.out _ (OneT.more (hpp.out.below (by assumption)) (Below.size (by assumption))) (OneT.more (hqp.out.below (by assumption)) (Below.size (by assumption)))).mono ?_; rintro x9 w1 ⟨rfl, hb0⟩; have hb1 := Below.trans (by assumption : Below (bd2 w ⟨nm, ⟨rA, rn, rc, rL⟩, ⟨oA, on, oc, oL⟩, ⟨some ⟨g, o, none⟩, tn, tc, tL⟩, ⟨lA, ln, lc, lL⟩, ar, ⟨bA, bn, bc, bL⟩⟩ ⟨nm, ⟨rA', rn', rc', rL'⟩, ⟨oA', on', oc', oL'⟩, ⟨some ⟨g', o', none⟩, tn, tc', tL'⟩, ⟨lA', ln, lc', lL'⟩, ar, ⟨bA', bn, bc', bL'⟩⟩).heap.size (bd2 w ⟨nm, ⟨rA, rn, rc, rL⟩, ⟨oA, on, oc, oL⟩, ⟨some ⟨g, o, none⟩, tn, tc, tL⟩, ⟨lA, ln, lc, lL⟩, ar, ⟨bA, bn, bc, bL⟩⟩ ⟨nm, ⟨rA', rn', rc', rL'⟩, ⟨oA', on', oc', oL'⟩, ⟨some ⟨g', o', none⟩, tn, tc', tL'⟩, ⟨lA', ln, lc', lL'⟩, ar, ⟨bA', bn, bc', bL'⟩⟩) _) (hb0.mono (Below.size (by assumption : Below (bd2 w ⟨nm, ⟨rA, rn, rc, rL⟩, ⟨oA, on, oc, oL⟩, ⟨some ⟨g, o, none⟩, tn, tc, tL⟩, ⟨lA, ln, lc, lL⟩, ar, ⟨bA, bn, bc, bL⟩⟩ ⟨nm, ⟨rA', rn', rc', rL'⟩, ⟨oA', on', oc', oL'⟩, ⟨some ⟨g', o', none⟩, tn, tc', tL'⟩, ⟨lA', ln, lc', lL'⟩, ar, ⟨bA', bn, bc', bL'⟩⟩).heap.size (bd2 w ⟨nm, ⟨rA, rn, rc, rL⟩, ⟨oA, on, oc, oL⟩, ⟨some ⟨g, o, none⟩, tn, tc, tL⟩, ⟨lA, ln, lc, lL⟩, ar, ⟨bA, bn, bc, bL⟩⟩ ⟨nm, ⟨rA', rn', rc', rL'⟩, ⟨oA', on', oc', oL'⟩, ⟨some ⟨g', o', none⟩, tn, tc', tL'⟩, ⟨lA', ln, lc', lL'⟩, ar, ⟨bA', bn, bc', bL'⟩⟩) _)))))
        all_goals
          go_split_ands
          go_wp2
          go_ret
          exact ⟨congrArg (fun v => Ending.returned (.bool v)) HF.out.symm, HB.out.trans (Below.mono (by assumption) HB.out.size)⟩
      · have HE2 := hide (eqLto_up (f := TyW.t) HE.out HP.out HQ.out (by rw [eqTy] at hv; exact of_decide_eq_true hv))
        clear hv
        go_wp2
        clear v3 z3
        go_region_held3 (fun w' => Below (bd2 w ⟨nm, ⟨rA, rn, rc, rL⟩, ⟨oA, on, oc, oL⟩, ⟨some ⟨g, o, none⟩, tn, tc, tL⟩, ⟨lA, ln, lc, lL⟩, ar, ⟨bA, bn, bc, bL⟩⟩ ⟨nm, ⟨rA', rn', rc', rL'⟩, ⟨oA', on', oc', oL'⟩, ⟨some ⟨g', o', none⟩, tn, tc', tL'⟩, ⟨lA', ln, lc', lL'⟩, ar, ⟨bA', bn, bc', bL'⟩⟩).heap.size (bd2 w ⟨nm, ⟨rA, rn, rc, rL⟩, ⟨oA, on, oc, oL⟩, ⟨some ⟨g, o, none⟩, tn, tc, tL⟩, ⟨lA, ln, lc, lL⟩, ar, ⟨bA, bn, bc, bL⟩⟩ ⟨nm, ⟨rA', rn', rc', rL'⟩, ⟨oA', on', oc', oL'⟩, ⟨some ⟨g', o', none⟩, tn, tc', tL'⟩, ⟨lA', ln, lc', lL'⟩, ar, ⟨bA', bn, bc', bL'⟩⟩) w' ∧ w'.cell? ⟨w.heap.size, 3, none⟩ = some (.slice (some ⟨g, o, none⟩) tn tc) ∧ w'.cell? ⟨w.heap.size + 1, 3, none⟩ = some (.slice (some ⟨g', o', none⟩) tn tc') ∧ w'.cell? ⟨g, o + j * 5, none⟩ = some (.int .i64 p.t.kind) ∧ w'.cell? ⟨g, o + j * 5 + 1, none⟩ = some (.bool p.t.mut_) ∧ w'.cell? ⟨g, o + j * 5 + 2, none⟩ = some (.int .i64 p.t.region) ∧ w'.cell? ⟨g, o + j * 5 + 3, none⟩ = some (.int .i64 p.t.elem) ∧ w'.cell? ⟨g, o + j * 5 + 4, none⟩ = some (.slice p.A p.n p.c) ∧ w'.cell? ⟨g', o' + j * 5, none⟩ = some (.int .i64 q.t.kind) ∧ w'.cell? ⟨g', o' + j * 5 + 1, none⟩ = some (.bool q.t.mut_) ∧ w'.cell? ⟨g', o' + j * 5 + 2, none⟩ = some (.int .i64 q.t.region) ∧ w'.cell? ⟨g', o' + j * 5 + 3, none⟩ = some (.int .i64 q.t.elem) ∧ w'.cell? ⟨g', o' + j * 5 + 4, none⟩ = some (.slice q.A q.n q.c))
          (first | exact ⟨by assumption, hcs.out _ (by assumption)⟩ | exact ⟨HR1.out, hcs.out _ HR1.out⟩ | exact ⟨HR1.out.drew, hcs.out _ HR1.out.drew⟩)
          (first | (go_at_call 38; go_split_ands; refine (REqT_is (x := p) (y := q) HVE.out _ (OneT.more (hpp.out.below (by assumption)) (Below.size (by assumption))) (OneT.more (hqp.out.below (by assumption)) (Below.size (by assumption)))).mono ?_; rintro x9 w1 ⟨rfl, hb0⟩; have hb1 := Below.trans (by assumption : Below (bd2 w ⟨nm, ⟨rA, rn, rc, rL⟩, ⟨oA, on, oc, oL⟩, ⟨some ⟨g, o, none⟩, tn, tc, tL⟩, ⟨lA, ln, lc, lL⟩, ar, ⟨bA, bn, bc, bL⟩⟩ ⟨nm, ⟨rA', rn', rc', rL'⟩, ⟨oA', on', oc', oL'⟩, ⟨some ⟨g', o', none⟩, tn, tc', tL'⟩, ⟨lA', ln, lc', lL'⟩, ar, ⟨bA', bn, bc', bL'⟩⟩).heap.size (bd2 w ⟨nm, ⟨rA, rn, rc, rL⟩, ⟨oA, on, oc, oL⟩, ⟨some ⟨g, o, none⟩, tn, tc, tL⟩, ⟨lA, ln, lc, lL⟩, ar, ⟨bA, bn, bc, bL⟩⟩ ⟨nm, ⟨rA', rn', rc', rL'⟩, ⟨oA', on', oc', oL'⟩, ⟨some ⟨g', o', none⟩, tn, tc', tL'⟩, ⟨lA', ln, lc', lL'⟩, ar, ⟨bA', bn, bc', bL'⟩⟩) _) (hb0.mono (Below.size (by assumption : Below (bd2 w ⟨nm, ⟨rA, rn, rc, rL⟩, ⟨oA, on, oc, oL⟩, ⟨some ⟨g, o, none⟩, tn, tc, tL⟩, ⟨lA, ln, lc, lL⟩, ar, ⟨bA, bn, bc, bL⟩⟩ ⟨nm, ⟨rA', rn', rc', rL'⟩, ⟨oA', on', oc', oL'⟩, ⟨some ⟨g', o', none⟩, tn, tc', tL'⟩, ⟨lA', ln, lc', lL'⟩, ar, ⟨bA', bn, bc', bL'⟩⟩).heap.size (bd2 w ⟨nm, ⟨rA, rn, rc, rL⟩, ⟨oA, on, oc, oL⟩, ⟨some ⟨g, o, none⟩, tn, tc, tL⟩, ⟨lA, ln, lc, lL⟩, ar, ⟨bA, bn, bc, bL⟩⟩ ⟨nm, ⟨rA', rn', rc', rL'⟩, ⟨oA', on', oc', oL'⟩, ⟨some ⟨g', o', none⟩, tn, tc', tL'⟩, ⟨lA', ln, lc', lL'⟩, ar, ⟨bA', bn, bc', bL'⟩⟩) _)))))
        all_goals
          go_split_ands
          go_wp2
          go_roundw
          case rel => exact ⟨j + 1, by go_num, by omega, HE2, by assumption⟩
          case measure => simp [intOf]; omega
    · have hjn : tn = j := by omega
      have HYtypes := hide (eqL_yes (f := TyW.t) (show eqLto TyW.t tL tL' tn from hjn ▸ HE.out) HTL.out HTL'.out)
      have hge : ¬ (j : Int) < (tn : Int) := by omega
      clear hjn HE
      obtain ⟨v4, z4⟩ := hs.out _ HR1.out 4 _ _ rfl rfl
      simp only [] at v4 z4
      go_wp2
      go_loopw [6] (fun i wr => ∃ j : Nat, i = .int .i64 (j : Int) ∧ j ≤ ln ∧ Hid (eqLto LcW.v lL lL' j) ∧ Below (bd2 w ⟨nm, ⟨rA, rn, rc, rL⟩, ⟨oA, on, oc, oL⟩, ⟨tA, tn, tc, tL⟩, ⟨lA, ln, lc, lL⟩, ar, ⟨bA, bn, bc, bL⟩⟩ ⟨nm, ⟨rA', rn', rc', rL'⟩, ⟨oA', on', oc', oL'⟩, ⟨tA', tn, tc', tL'⟩, ⟨lA', ln, lc', lL'⟩, ar, ⟨bA', bn, bc', bL'⟩⟩).heap.size (bd2 w ⟨nm, ⟨rA, rn, rc, rL⟩, ⟨oA, on, oc, oL⟩, ⟨tA, tn, tc, tL⟩, ⟨lA, ln, lc, lL⟩, ar, ⟨bA, bn, bc, bL⟩⟩ ⟨nm, ⟨rA', rn', rc', rL'⟩, ⟨oA', on', oc', oL'⟩, ⟨tA', tn, tc', tL'⟩, ⟨lA', ln, lc', lL'⟩, ar, ⟨bA', bn, bc', bL'⟩⟩) wr) (fun i _ => ln - (intOf i).toNat)
      case atStart => exact ⟨0, rfl, Nat.zero_le _, hide (eqLto_zero _ _ _), HR1.out⟩
      case round =>
        clear v3 z3 v4 z4
        obtain ⟨j, rfl, hj, HE, hb⟩ := hrel
        have HR2 := hide hb
        clear hb
        obtain ⟨v4, z4⟩ := hs.out _ HR2.out 4 _ _ rfl rfl
        simp only [] at v4 z4
        by_cases hlt : j < ln
        · obtain ⟨p, hp⟩ := HX.out.locals.get hlt
          obtain ⟨q, hq⟩ := HY.out.locals.get hlt
          obtain ⟨g, o, hA, hg, h1, c0⟩ := HX.out.locals.at_ hp
          obtain ⟨g', o', hA', hg', h2, d0⟩ := HY.out.locals.at_ hq
          simp only [] at hA hA'
          subst hA
          subst hA'
          have hlt' : (j : Int) < (ln : Int) := by omega
          have HP := hide hp
          have HQ := hide hq
          have hpp := hide h1
          have hqp := hide h2
          clear hp hq h1 h2
          have hcs := hide fun (w' : World) (h : Below (bd2 w ⟨nm, ⟨rA, rn, rc, rL⟩, ⟨oA, on, oc, oL⟩, ⟨tA, tn, tc, tL⟩, ⟨some ⟨g, o, none⟩, ln, lc, lL⟩, ar, ⟨bA, bn, bc, bL⟩⟩ ⟨nm, ⟨rA', rn', rc', rL'⟩, ⟨oA', on', oc', oL'⟩, ⟨tA', tn, tc', tL'⟩, ⟨some ⟨g', o', none⟩, ln, lc', lL'⟩, ar, ⟨bA', bn, bc', bL'⟩⟩).heap.size (bd2 w ⟨nm, ⟨rA, rn, rc, rL⟩, ⟨oA, on, oc, oL⟩, ⟨tA, tn, tc, tL⟩, ⟨some ⟨g, o, none⟩, ln, lc, lL⟩, ar, ⟨bA, bn, bc, bL⟩⟩ ⟨nm, ⟨rA', rn', rc', rL'⟩, ⟨oA', on', oc', oL'⟩, ⟨tA', tn, tc', tL'⟩, ⟨some ⟨g', o', none⟩, ln, lc', lL'⟩, ar, ⟨bA', bn, bc', bL'⟩⟩) w') => (show w'.cell? ⟨w.heap.size, 4, none⟩ = some (.slice (some ⟨g, o, none⟩) ln lc) ∧ w'.cell? ⟨w.heap.size + 1, 4, none⟩ = some (.slice (some ⟨g', o', none⟩) ln lc') ∧ w'.cell? ⟨g, o + j * 2, none⟩ = some (.string p.name) ∧ w'.cell? ⟨g, o + j * 2 + 1, none⟩ = some (.int .i64 p.ty) ∧ w'.cell? ⟨g', o' + j * 2, none⟩ = some (.string q.name) ∧ w'.cell? ⟨g', o' + j * 2 + 1, none⟩ = some (.int .i64 q.ty) from ⟨(hs.out _ h 4 _ _ rfl rfl).1, (hs.out _ h 4 _ _ rfl rfl).2, (h.cell hg).trans (c0 0 _ rfl), (h.cell hg).trans (c0 1 _ rfl), (h.cell hg').trans (d0 0 _ rfl), (h.cell hg').trans (d0 1 _ rfl)⟩)
          clear c0 d0
          obtain ⟨_, _, a0, a1, b0, b1⟩ := hcs.out _ HR2.out
          by_cases h1 : p.name = q.name
          · have t1 : (p.name.toList == q.name.toList) = true := str_eq h1
            by_cases h2 : p.ty = q.ty
            · have HE2 := hide (eqLto_up (f := LcW.v) HE.out HP.out HQ.out (by rw [LcW.v, LcW.v, h1, h2]))
              have t2 : (p.ty == q.ty) = true := by rw [beq_iff_eq]; exact h2
              clear h1 h2
              go_wp2
              go_quiet (fail)
              go_wp2
              go_roundw
              case rel => exact ⟨j + 1, by go_num, by omega, HE2, tyN HR2.out _⟩
              case measure => simp [intOf]; omega
            · have ht := eqL_no (f := LcW.v) HP.out HQ.out (fun e => h2 (congrArg LcV.ty e))
              have HF := hide (HV.out false (by simp [ht]))
              have t2 : (p.ty == q.ty) = false := by rw [beq_eq_false_iff_ne]; exact h2
              clear h1 h2 ht
              go_wp2
              go_quiet (fail)
              go_wp2
              go_ret
              exact ⟨congrArg (fun v => Ending.returned (.bool v)) HF.out.symm, HB.out.trans (Below.mono (tyN HR2.out _) HB.out.size)⟩
          · have t1 : (p.name.toList == q.name.toList) = false := str_ne h1
            have ht := eqL_no (f := LcW.v) HP.out HQ.out (fun e => h1 (congrArg LcV.name e))
            have HF := hide (HV.out false (by simp [ht]))
            clear h1 ht
            go_wp2
            go_quiet (fail)
            go_wp2
            go_ret
            exact ⟨congrArg (fun v => Ending.returned (.bool v)) HF.out.symm, HB.out.trans (Below.mono (tyN HR2.out _) HB.out.size)⟩
        · have hjn : ln = j := by omega
          have HYlocals := hide (eqL_yes (f := LcW.v) (show eqLto LcW.v lL lL' ln from hjn ▸ HE.out) HLL.out HLL'.out)
          have hge : ¬ (j : Int) < (ln : Int) := by omega
          clear hjn HE
          obtain ⟨v6, z6⟩ := hs.out _ HR2.out 6 _ _ rfl rfl
          simp only [] at v6 z6
          go_wp2
          go_loopw [7] (fun i wr => ∃ j : Nat, i = .int .i64 (j : Int) ∧ j ≤ bn ∧ Hid (eqLto BkW.v bL bL' j) ∧ Below (bd2 w ⟨nm, ⟨rA, rn, rc, rL⟩, ⟨oA, on, oc, oL⟩, ⟨tA, tn, tc, tL⟩, ⟨lA, ln, lc, lL⟩, ar, ⟨bA, bn, bc, bL⟩⟩ ⟨nm, ⟨rA', rn', rc', rL'⟩, ⟨oA', on', oc', oL'⟩, ⟨tA', tn, tc', tL'⟩, ⟨lA', ln, lc', lL'⟩, ar, ⟨bA', bn, bc', bL'⟩⟩).heap.size (bd2 w ⟨nm, ⟨rA, rn, rc, rL⟩, ⟨oA, on, oc, oL⟩, ⟨tA, tn, tc, tL⟩, ⟨lA, ln, lc, lL⟩, ar, ⟨bA, bn, bc, bL⟩⟩ ⟨nm, ⟨rA', rn', rc', rL'⟩, ⟨oA', on', oc', oL'⟩, ⟨tA', tn, tc', tL'⟩, ⟨lA', ln, lc', lL'⟩, ar, ⟨bA', bn, bc', bL'⟩⟩) wr) (fun i _ => bn - (intOf i).toNat)
          case atStart => exact ⟨0, rfl, Nat.zero_le _, hide (eqLto_zero _ _ _), HR2.out⟩
          case round =>
            clear v4 z4 v6 z6
            obtain ⟨j, rfl, hj, HE, hb⟩ := hrel
            have HR3 := hide hb
            clear hb
            obtain ⟨v6, z6⟩ := hs.out _ HR3.out 6 _ _ rfl rfl
            simp only [] at v6 z6
            by_cases hlt : j < bn
            · obtain ⟨p, hp⟩ := HX.out.blocks.get hlt
              obtain ⟨q, hq⟩ := HY.out.blocks.get hlt
              obtain ⟨g, o, hA, hg, h1, c0⟩ := HX.out.blocks.at_ hp
              obtain ⟨g', o', hA', hg', h2, d0⟩ := HY.out.blocks.at_ hq
              simp only [] at hA hA'
              subst hA
              subst hA'
              have hlt' : (j : Int) < (bn : Int) := by omega
              have HP := hide hp
              have HQ := hide hq
              have hpp := hide h1
              have hqp := hide h2
              clear hp hq h1 h2
              have hcs := hide fun (w' : World) (h : Below (bd2 w ⟨nm, ⟨rA, rn, rc, rL⟩, ⟨oA, on, oc, oL⟩, ⟨tA, tn, tc, tL⟩, ⟨lA, ln, lc, lL⟩, ar, ⟨some ⟨g, o, none⟩, bn, bc, bL⟩⟩ ⟨nm, ⟨rA', rn', rc', rL'⟩, ⟨oA', on', oc', oL'⟩, ⟨tA', tn, tc', tL'⟩, ⟨lA', ln, lc', lL'⟩, ar, ⟨some ⟨g', o', none⟩, bn, bc', bL'⟩⟩).heap.size (bd2 w ⟨nm, ⟨rA, rn, rc, rL⟩, ⟨oA, on, oc, oL⟩, ⟨tA, tn, tc, tL⟩, ⟨lA, ln, lc, lL⟩, ar, ⟨some ⟨g, o, none⟩, bn, bc, bL⟩⟩ ⟨nm, ⟨rA', rn', rc', rL'⟩, ⟨oA', on', oc', oL'⟩, ⟨tA', tn, tc', tL'⟩, ⟨lA', ln, lc', lL'⟩, ar, ⟨some ⟨g', o', none⟩, bn, bc', bL'⟩⟩) w') => (show w'.cell? ⟨w.heap.size, 6, none⟩ = some (.slice (some ⟨g, o, none⟩) bn bc) ∧ w'.cell? ⟨w.heap.size + 1, 6, none⟩ = some (.slice (some ⟨g', o', none⟩) bn bc') ∧ w'.cell? ⟨g, o + j * 7, none⟩ = some (.slice p.stmts.A p.stmts.n p.stmts.c) ∧ w'.cell? ⟨g, o + j * 7 + 1, none⟩ = some (.int .i64 p.term.kind) ∧ w'.cell? ⟨g, o + j * 7 + 2, none⟩ = some (.slice p.term.targets.A p.term.targets.n p.term.targets.c) ∧ w'.cell? ⟨g, o + j * 7 + 3, none⟩ = some (.slice p.term.args.A p.term.args.n p.term.args.c) ∧ w'.cell? ⟨g, o + j * 7 + 4, none⟩ = some (.int .i64 p.term.pl.l) ∧ w'.cell? ⟨g, o + j * 7 + 5, none⟩ = some (.slice p.term.pl.A p.term.pl.n p.term.pl.c) ∧ w'.cell? ⟨g, o + j * 7 + 6, none⟩ = some (.string p.term.name) ∧ w'.cell? ⟨g', o' + j * 7, none⟩ = some (.slice q.stmts.A q.stmts.n q.stmts.c) ∧ w'.cell? ⟨g', o' + j * 7 + 1, none⟩ = some (.int .i64 q.term.kind) ∧ w'.cell? ⟨g', o' + j * 7 + 2, none⟩ = some (.slice q.term.targets.A q.term.targets.n q.term.targets.c) ∧ w'.cell? ⟨g', o' + j * 7 + 3, none⟩ = some (.slice q.term.args.A q.term.args.n q.term.args.c) ∧ w'.cell? ⟨g', o' + j * 7 + 4, none⟩ = some (.int .i64 q.term.pl.l) ∧ w'.cell? ⟨g', o' + j * 7 + 5, none⟩ = some (.slice q.term.pl.A q.term.pl.n q.term.pl.c) ∧ w'.cell? ⟨g', o' + j * 7 + 6, none⟩ = some (.string q.term.name) from ⟨(hs.out _ h 6 _ _ rfl rfl).1, (hs.out _ h 6 _ _ rfl rfl).2, (h.cell hg).trans (c0 0 _ rfl), (h.cell hg).trans (c0 1 _ rfl), (h.cell hg).trans (c0 2 _ rfl), (h.cell hg).trans (c0 3 _ rfl), (h.cell hg).trans (c0 4 _ rfl), (h.cell hg).trans (c0 5 _ rfl), (h.cell hg).trans (c0 6 _ rfl), (h.cell hg').trans (d0 0 _ rfl), (h.cell hg').trans (d0 1 _ rfl), (h.cell hg').trans (d0 2 _ rfl), (h.cell hg').trans (d0 3 _ rfl), (h.cell hg').trans (d0 4 _ rfl), (h.cell hg').trans (d0 5 _ rfl), (h.cell hg').trans (d0 6 _ rfl)⟩)
              clear c0 d0
              obtain ⟨v, hv⟩ : ∃ v, eqBk p q = v := ⟨_, rfl⟩
              have HVE := hide hv
              cases v
              · have ht := eqL_no (f := BkW.v) HP.out HQ.out (by rw [eqBk_v] at hv; exact of_decide_eq_false hv)
                have HF := hide (HV.out false (by simp [ht]))
                clear hv ht
                go_wp2
                clear v6 z6
                go_region_held3 (fun w' => Below (bd2 w ⟨nm, ⟨rA, rn, rc, rL⟩, ⟨oA, on, oc, oL⟩, ⟨tA, tn, tc, tL⟩, ⟨lA, ln, lc, lL⟩, ar, ⟨some ⟨g, o, none⟩, bn, bc, bL⟩⟩ ⟨nm, ⟨rA', rn', rc', rL'⟩, ⟨oA', on', oc', oL'⟩, ⟨tA', tn, tc', tL'⟩, ⟨lA', ln, lc', lL'⟩, ar, ⟨some ⟨g', o', none⟩, bn, bc', bL'⟩⟩).heap.size (bd2 w ⟨nm, ⟨rA, rn, rc, rL⟩, ⟨oA, on, oc, oL⟩, ⟨tA, tn, tc, tL⟩, ⟨lA, ln, lc, lL⟩, ar, ⟨some ⟨g, o, none⟩, bn, bc, bL⟩⟩ ⟨nm, ⟨rA', rn', rc', rL'⟩, ⟨oA', on', oc', oL'⟩, ⟨tA', tn, tc', tL'⟩, ⟨lA', ln, lc', lL'⟩, ar, ⟨some ⟨g', o', none⟩, bn, bc', bL'⟩⟩) w' ∧ w'.cell? ⟨w.heap.size, 6, none⟩ = some (.slice (some ⟨g, o, none⟩) bn bc) ∧ w'.cell? ⟨w.heap.size + 1, 6, none⟩ = some (.slice (some ⟨g', o', none⟩) bn bc') ∧ w'.cell? ⟨g, o + j * 7, none⟩ = some (.slice p.stmts.A p.stmts.n p.stmts.c) ∧ w'.cell? ⟨g, o + j * 7 + 1, none⟩ = some (.int .i64 p.term.kind) ∧ w'.cell? ⟨g, o + j * 7 + 2, none⟩ = some (.slice p.term.targets.A p.term.targets.n p.term.targets.c) ∧ w'.cell? ⟨g, o + j * 7 + 3, none⟩ = some (.slice p.term.args.A p.term.args.n p.term.args.c) ∧ w'.cell? ⟨g, o + j * 7 + 4, none⟩ = some (.int .i64 p.term.pl.l) ∧ w'.cell? ⟨g, o + j * 7 + 5, none⟩ = some (.slice p.term.pl.A p.term.pl.n p.term.pl.c) ∧ w'.cell? ⟨g, o + j * 7 + 6, none⟩ = some (.string p.term.name) ∧ w'.cell? ⟨g', o' + j * 7, none⟩ = some (.slice q.stmts.A q.stmts.n q.stmts.c) ∧ w'.cell? ⟨g', o' + j * 7 + 1, none⟩ = some (.int .i64 q.term.kind) ∧ w'.cell? ⟨g', o' + j * 7 + 2, none⟩ = some (.slice q.term.targets.A q.term.targets.n q.term.targets.c) ∧ w'.cell? ⟨g', o' + j * 7 + 3, none⟩ = some (.slice q.term.args.A q.term.args.n q.term.args.c) ∧ w'.cell? ⟨g', o' + j * 7 + 4, none⟩ = some (.int .i64 q.term.pl.l) ∧ w'.cell? ⟨g', o' + j * 7 + 5, none⟩ = some (.slice q.term.pl.A q.term.pl.n q.term.pl.c) ∧ w'.cell? ⟨g', o' + j * 7 + 6, none⟩ = some (.string q.term.name))
                  (first | exact ⟨by assumption, hcs.out _ (by assumption)⟩ | exact ⟨HR3.out, hcs.out _ HR3.out⟩ | exact ⟨HR3.out.drew, hcs.out _ HR3.out.drew⟩)
                  (first | (go_at_call 39; go_split_ands; refine (RSameBlock_is (x := p) (y := q) HVE.out _ (hpp.out.up (by assumption)) (hqp.out.up (by assumption))).mono ?_; rintro x9 w1 ⟨rfl, hb0⟩; have hb1 := Below.trans (by assumption : Below (bd2 w ⟨nm, ⟨rA, rn, rc, rL⟩, ⟨oA, on, oc, oL⟩, ⟨tA, tn, tc, tL⟩, ⟨lA, ln, lc, lL⟩, ar, ⟨some ⟨g, o, none⟩, bn, bc, bL⟩⟩ ⟨nm, ⟨rA', rn', rc', rL'⟩, ⟨oA', on', oc', oL'⟩, ⟨tA', tn, tc', tL'⟩, ⟨lA', ln, lc', lL'⟩, ar, ⟨some ⟨g', o', none⟩, bn, bc', bL'⟩⟩).heap.size (bd2 w ⟨nm, ⟨rA, rn, rc, rL⟩, ⟨oA, on, oc, oL⟩, ⟨tA, tn, tc, tL⟩, ⟨lA, ln, lc, lL⟩, ar, ⟨some ⟨g, o, none⟩, bn, bc, bL⟩⟩ ⟨nm, ⟨rA', rn', rc', rL'⟩, ⟨oA', on', oc', oL'⟩, ⟨tA', tn, tc', tL'⟩, ⟨lA', ln, lc', lL'⟩, ar, ⟨some ⟨g', o', none⟩, bn, bc', bL'⟩⟩) _) (hb0.mono (Below.size (by assumption : Below (bd2 w ⟨nm, ⟨rA, rn, rc, rL⟩, ⟨oA, on, oc, oL⟩, ⟨tA, tn, tc, tL⟩, ⟨lA, ln, lc, lL⟩, ar, ⟨some ⟨g, o, none⟩, bn, bc, bL⟩⟩ ⟨nm, ⟨rA', rn', rc', rL'⟩, ⟨oA', on', oc', oL'⟩, ⟨tA', tn, tc', tL'⟩, ⟨lA', ln, lc', lL'⟩, ar, ⟨some ⟨g', o', none⟩, bn, bc', bL'⟩⟩).heap.size (bd2 w ⟨nm, ⟨rA, rn, rc, rL⟩, ⟨oA, on, oc, oL⟩, ⟨tA, tn, tc, tL⟩, ⟨lA, ln, lc, lL⟩, ar, ⟨some ⟨g, o, none⟩, bn, bc, bL⟩⟩ ⟨nm, ⟨rA', rn', rc', rL'⟩, ⟨oA', on', oc', oL'⟩, ⟨tA', tn, tc', tL'⟩, ⟨lA', ln, lc', lL'⟩, ar, ⟨some ⟨g', o', none⟩, bn, bc', bL'⟩⟩) _)))))
                all_goals
                  go_split_ands
                  go_wp2
                  go_ret
                  exact ⟨congrArg (fun v => Ending.returned (.bool v)) HF.out.symm, HB.out.trans (Below.mono (by assumption) HB.out.size)⟩
              · have HE2 := hide (eqLto_up (f := BkW.v) HE.out HP.out HQ.out (by rw [eqBk_v] at hv; exact of_decide_eq_true hv))
                clear hv
                go_wp2
                clear v6 z6
                go_region_held3 (fun w' => Below (bd2 w ⟨nm, ⟨rA, rn, rc, rL⟩, ⟨oA, on, oc, oL⟩, ⟨tA, tn, tc, tL⟩, ⟨lA, ln, lc, lL⟩, ar, ⟨some ⟨g, o, none⟩, bn, bc, bL⟩⟩ ⟨nm, ⟨rA', rn', rc', rL'⟩, ⟨oA', on', oc', oL'⟩, ⟨tA', tn, tc', tL'⟩, ⟨lA', ln, lc', lL'⟩, ar, ⟨some ⟨g', o', none⟩, bn, bc', bL'⟩⟩).heap.size (bd2 w ⟨nm, ⟨rA, rn, rc, rL⟩, ⟨oA, on, oc, oL⟩, ⟨tA, tn, tc, tL⟩, ⟨lA, ln, lc, lL⟩, ar, ⟨some ⟨g, o, none⟩, bn, bc, bL⟩⟩ ⟨nm, ⟨rA', rn', rc', rL'⟩, ⟨oA', on', oc', oL'⟩, ⟨tA', tn, tc', tL'⟩, ⟨lA', ln, lc', lL'⟩, ar, ⟨some ⟨g', o', none⟩, bn, bc', bL'⟩⟩) w' ∧ w'.cell? ⟨w.heap.size, 6, none⟩ = some (.slice (some ⟨g, o, none⟩) bn bc) ∧ w'.cell? ⟨w.heap.size + 1, 6, none⟩ = some (.slice (some ⟨g', o', none⟩) bn bc') ∧ w'.cell? ⟨g, o + j * 7, none⟩ = some (.slice p.stmts.A p.stmts.n p.stmts.c) ∧ w'.cell? ⟨g, o + j * 7 + 1, none⟩ = some (.int .i64 p.term.kind) ∧ w'.cell? ⟨g, o + j * 7 + 2, none⟩ = some (.slice p.term.targets.A p.term.targets.n p.term.targets.c) ∧ w'.cell? ⟨g, o + j * 7 + 3, none⟩ = some (.slice p.term.args.A p.term.args.n p.term.args.c) ∧ w'.cell? ⟨g, o + j * 7 + 4, none⟩ = some (.int .i64 p.term.pl.l) ∧ w'.cell? ⟨g, o + j * 7 + 5, none⟩ = some (.slice p.term.pl.A p.term.pl.n p.term.pl.c) ∧ w'.cell? ⟨g, o + j * 7 + 6, none⟩ = some (.string p.term.name) ∧ w'.cell? ⟨g', o' + j * 7, none⟩ = some (.slice q.stmts.A q.stmts.n q.stmts.c) ∧ w'.cell? ⟨g', o' + j * 7 + 1, none⟩ = some (.int .i64 q.term.kind) ∧ w'.cell? ⟨g', o' + j * 7 + 2, none⟩ = some (.slice q.term.targets.A q.term.targets.n q.term.targets.c) ∧ w'.cell? ⟨g', o' + j * 7 + 3, none⟩ = some (.slice q.term.args.A q.term.args.n q.term.args.c) ∧ w'.cell? ⟨g', o' + j * 7 + 4, none⟩ = some (.int .i64 q.term.pl.l) ∧ w'.cell? ⟨g', o' + j * 7 + 5, none⟩ = some (.slice q.term.pl.A q.term.pl.n q.term.pl.c) ∧ w'.cell? ⟨g', o' + j * 7 + 6, none⟩ = some (.string q.term.name))
                  (first | exact ⟨by assumption, hcs.out _ (by assumption)⟩ | exact ⟨HR3.out, hcs.out _ HR3.out⟩ | exact ⟨HR3.out.drew, hcs.out _ HR3.out.drew⟩)
                  (first | (go_at_call 39; go_split_ands; refine (RSameBlock_is (x := p) (y := q) HVE.out _ (hpp.out.up (by assumption)) (hqp.out.up (by assumption))).mono ?_; rintro x9 w1 ⟨rfl, hb0⟩; have hb1 := Below.trans (by assumption : Below (bd2 w ⟨nm, ⟨rA, rn, rc, rL⟩, ⟨oA, on, oc, oL⟩, ⟨tA, tn, tc, tL⟩, ⟨lA, ln, lc, lL⟩, ar, ⟨some ⟨g, o, none⟩, bn, bc, bL⟩⟩ ⟨nm, ⟨rA', rn', rc', rL'⟩, ⟨oA', on', oc', oL'⟩, ⟨tA', tn, tc', tL'⟩, ⟨lA', ln, lc', lL'⟩, ar, ⟨some ⟨g', o', none⟩, bn, bc', bL'⟩⟩).heap.size (bd2 w ⟨nm, ⟨rA, rn, rc, rL⟩, ⟨oA, on, oc, oL⟩, ⟨tA, tn, tc, tL⟩, ⟨lA, ln, lc, lL⟩, ar, ⟨some ⟨g, o, none⟩, bn, bc, bL⟩⟩ ⟨nm, ⟨rA', rn', rc', rL'⟩, ⟨oA', on', oc', oL'⟩, ⟨tA', tn, tc', tL'⟩, ⟨lA', ln, lc', lL'⟩, ar, ⟨some ⟨g', o', none⟩, bn, bc', bL'⟩⟩) _) (hb0.mono (Below.size (by assumption : Below (bd2 w ⟨nm, ⟨rA, rn, rc, rL⟩, ⟨oA, on, oc, oL⟩, ⟨tA, tn, tc, tL⟩, ⟨lA, ln, lc, lL⟩, ar, ⟨some ⟨g, o, none⟩, bn, bc, bL⟩⟩ ⟨nm, ⟨rA', rn', rc', rL'⟩, ⟨oA', on', oc', oL'⟩, ⟨tA', tn, tc', tL'⟩, ⟨lA', ln, lc', lL'⟩, ar, ⟨some ⟨g', o', none⟩, bn, bc', bL'⟩⟩).heap.size (bd2 w ⟨nm, ⟨rA, rn, rc, rL⟩, ⟨oA, on, oc, oL⟩, ⟨tA, tn, tc, tL⟩, ⟨lA, ln, lc, lL⟩, ar, ⟨some ⟨g, o, none⟩, bn, bc, bL⟩⟩ ⟨nm, ⟨rA', rn', rc', rL'⟩, ⟨oA', on', oc', oL'⟩, ⟨tA', tn, tc', tL'⟩, ⟨lA', ln, lc', lL'⟩, ar, ⟨some ⟨g', o', none⟩, bn, bc', bL'⟩⟩) _)))))
                all_goals
                  go_split_ands
                  go_wp2
                  go_roundw
                  case rel => exact ⟨j + 1, by go_num, by omega, HE2, by assumption⟩
                  case measure => simp [intOf]; omega
            · have hjn : bn = j := by omega
              have HYblocks := hide (eqL_yes (f := BkW.v) (show eqLto BkW.v bL bL' bn from hjn ▸ HE.out) HBL.out HBL'.out)
              have hge : ¬ (j : Int) < (bn : Int) := by omega
              clear hjn HE
              have HF := hide (HV.out true (by simp [ER.out, EO.out, HYtypes.out, HYlocals.out, HYblocks.out]))
              go_wp2
              go_ret
              exact ⟨congrArg (fun v => Ending.returned (.bool v)) HF.out.symm, HB.out.trans (HR3.out.mono HB.out.size)⟩
theorem REqBd_is {x y : BdW} {v : Bool} (h : eqBd x y = v) (w : World) (hx : OneBd w w.heap.size x) (hy : OneBd w w.heap.size y) :
    Calls Tryz.prog 12 #[aggBd x, aggBd y] w fun e w' => e = .returned (.bool v) ∧ Below w.heap.size w w' := h ▸ REqBd_any x y w hx hy
end Go.Proofs.YtbdimnncobpfdaaGreat
