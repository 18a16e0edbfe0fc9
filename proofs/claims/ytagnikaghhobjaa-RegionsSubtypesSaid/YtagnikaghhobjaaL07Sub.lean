/- RegionsSubtypes: for every input the law returns true, and turns nothing that lay. No condition. -/
import Derived.Test.YtagnikaghhobjaaRows
import Derived.Test.YtagnikaghhobjaaOpenY
import Derived.Test.YtagnikaghhobjaaRegR
namespace Go.Proofs.Ytagnikaghhobjaa.regionsSubtypes
open Go.ChangeShapes Go.WideShapes Go.ChangeAt Go.ChangeMaps Go.RowKit
set_option linter.unusedVariables false

set_option maxHeartbeats 16000000 in
set_option maxRecDepth 100000 in
theorem walk (A : Option Addr) (n c : Nat) (P : List Pr) (A2 : Option Addr) (n2 c2 : Nat) (L : List TyW) (s t : Int) (w : World) (hA : ArgP w A n c P) (hT : ArgY w A2 n2 c2 L) (hst : IntR s ∧ IntR t) :
    Calls Try.prog 7 #[.slice A n c, .slice A2 n2 c2, .agg #[.int .i64 s, .int .i64 t]] w fun e w' => e = .returned (.bool true) ∧ Below w.heap.size w w' := by
  have hB0 := (Below.refl w.heap.size w).alloc (Nat.le_refl _) (.cells #[.int .i64 s, .int .i64 t] 31)
  have HB0 := hide hB0
  have HA := hide ((hA.prs.below hB0).more hB0.size)
  have HT := hide ((hT.typs.below hB0).more hB0.size)
  have HL := hide hT.typs.len
  have hnm : n ≤ maxLen := Nat.le_trans hA.nc hA.cm
  have hnm2 : n2 ≤ maxLen := Nat.le_trans hT.nc hT.cm
  have hnc2 := hT.nc
  have HST := hide hst
  clear hA hT hst hB0
  cases hlg : lrg n 5
  case true =>
    have HG := hide hlg
    clear hlg
    go_enter Try.func7, Try.ntmps7
    go_wp2_with fail
    refine (Lrg_is HG.out _ hnm).mono ?_
    rintro e w1 ⟨rfl, rfl⟩
    go_wp2_with fail
    refine (alive07_any _).mono ?_
    rintro e w2 ⟨rfl, hb⟩
    have HB := hide (HB0.out.trans (hb.mono HB0.out.size))
    clear hb
    go_wp2_with fail
    go_ret
    exact ⟨rfl, HB.out⟩
  have HG := hide hlg
  clear hlg
  have hn40 := (lrg_no HG.out).1
  obtain ⟨v, hv⟩ : ∃ v, prChk P 5 = v := ⟨_, rfl⟩
  have HV := hide hv
  clear hv
  by_cases hv0 : v = 0
  rotate_left
  · have vn : (v != 0) = true := by rw [bne_iff_ne]; exact hv0
    clear hv0
    go_enter Try.func7, Try.ntmps7
    go_wp2_with fail
    refine (Lrg_is HG.out _ hnm).mono ?_
    rintro e w1 ⟨rfl, rfl⟩
    go_wp2_with fail
    refine (RRegCheck_is HV.out _ HA.out hnm).mono ?_
    rintro e w1 ⟨rfl, rfl⟩
    go_wp2_with fail
    refine (alive07_any _).mono ?_
    rintro e w2 ⟨rfl, hb⟩
    have HB := hide (HB0.out.trans (hb.mono HB0.out.size))
    clear hb
    go_wp2_with fail
    go_ret
    exact ⟨rfl, HB.out⟩
  subst hv0
  have hcell : ∀ w' : World, Below (w.alloc (.cells #[.int .i64 s, .int .i64 t] 31)).heap.size (w.alloc (.cells #[.int .i64 s, .int .i64 t] 31)) w' → w'.cell? ⟨w.heap.size, 0, none⟩ = some (.int .i64 s) ∧ w'.cell? ⟨w.heap.size, 1, none⟩ = some (.int .i64 t) := fun w' h =>
    ⟨(h.cell (p := ⟨w.heap.size, 0, none⟩) (by simp)).trans (by simp [go_sem]), (h.cell (p := ⟨w.heap.size, 1, none⟩) (by simp)).trans (by simp [go_sem])⟩
  have HCell := hide hcell
  clear hcell
  go_enter Try.func7, Try.ntmps7
  go_wp2_with fail
  refine (Lrg_is HG.out _ hnm).mono ?_
  rintro e w1 ⟨rfl, rfl⟩
  go_wp2_with fail
  refine (RRegCheck_is HV.out _ HA.out hnm).mono ?_
  rintro e w1 ⟨rfl, rfl⟩
  go_wp2_with fail
  refine (Skip_any A2 n2 c2 L _ HT.out hnm2).mono ?_
  rintro e w1 ⟨⟨v1, rfl, hv1, hv2⟩, hb⟩
  have HV1 := hide hv1
  have HBx := hide hb
  have HB1 := hide (HB0.out.trans (hb.mono HB0.out.size))
  clear hb hv1
  rcases hv2 with rfl | rfl
  rotate_left
  · go_wp2_with fail
    refine (alive07_any _).mono ?_
    rintro e w2 ⟨rfl, hb⟩
    have HB2 := hide (HB1.out.trans (hb.mono HB1.out.size))
    clear hb
    go_wp2_with fail
    go_ret
    exact ⟨rfl, HB2.out⟩
  have hsm : tyLarge (tys L) = false := by
    cases h : tyLarge (tys L) with
    | false => rfl
    | true => exact absurd (HV1.out h) (by decide)
  have hn2 : n2 ≤ 200 := by
    have := (tyLarge_small hsm).1
    rw [tys_len, HL.out] at this
    omega
  clear hsm
  obtain ⟨u, hu⟩ : ∃ u, tyChk (tys L) 5 = u := ⟨_, rfl⟩
  have HU := hide hu
  clear hu
  go_wp2_with fail
  refine (RCheckT_is HU.out w1 ((HT.out.below HBx.out).more HBx.out.size) hnm2 hnc2).mono ?_
  rintro e w2 ⟨rfl, hb⟩
  have HBy := hide (HBx.out.trans (hb.mono HBx.out.size))
  have HB2 := hide (HB1.out.trans (hb.mono HB1.out.size))
  clear hb
  by_cases hu0 : u = 0
  rotate_left
  · have un : (u != 0) = true := by rw [bne_iff_ne]; exact hu0
    clear hu0
    go_wp2_with fail
    refine (alive07_any _).mono ?_
    rintro e w3 ⟨rfl, hb⟩
    have HB3 := hide (HB2.out.trans (hb.mono HB2.out.size))
    clear hb
    go_wp2_with fail
    go_ret
    exact ⟨rfl, HB3.out⟩
  subst hu0
  have HOK := hide (tyChk_iff.1 HU.out)
  go_wp2_with fail
  refine (deep_any A2 n2 c2 L 5 w2 ((HT.out.below HBy.out).more HBy.out.size) (by omega) HOK.out).mono ?_
  rintro e w3 ⟨⟨dv, rfl⟩, hb⟩
  have HBz := hide (HBy.out.trans (hb.mono HBy.out.size))
  have HB3 := hide (HB2.out.trans (hb.mono HB2.out.size))
  clear hb
  cases dv
  rotate_left
  · go_wp2_with fail
    refine (alive07_any _).mono ?_
    rintro e w4 ⟨rfl, hb⟩
    have HB4 := hide (HB3.out.trans (hb.mono HB3.out.size))
    clear hb
    go_wp2_with fail
    go_ret
    exact ⟨rfl, HB4.out⟩
  go_wp2_with fail
  refine (New_good A n c P 5 _ ((HA.out.below HBz.out).more HBz.out.size) HV.out).mono ?_
  rintro e w4 ⟨r, rfl, hR, hb⟩
  have HRel := hide fun (w' : World) (h : Below w4.heap.size w4 w') => (hR.below h).more h.size
  have HBv := hide (HBz.out.trans (hb.mono HBz.out.size))
  have HB4 := hide (HB3.out.trans (hb.mono HB3.out.size))
  have HRS := hide fun (w' : World) (h : Below w4.heap.size w4 w') => (⟨(HA.out.below (HBv.out.trans (h.mono HBv.out.size))).more (HBv.out.trans (h.mono HBv.out.size)).size, (HT.out.below (HBv.out.trans (h.mono HBv.out.size))).more (HBv.out.trans (h.mono HBv.out.size)).size, by omega, by omega⟩ : RS A n c P A2 n2 c2 L w')
  have hS := hide fun (w' : World) (h : Below w4.heap.size w4 w') => show Below w4.heap.size w4 w' ∧ w'.cell? ⟨w.heap.size, 0, none⟩ = some (.int .i64 s) ∧ w'.cell? ⟨w.heap.size, 1, none⟩ = some (.int .i64 t) from ⟨h, HCell.out w' (HBv.out.trans (h.mono HBv.out.size))⟩
  clear hb hR
  obtain ⟨o, ho⟩ : ∃ o, sub (out P 5) (tys L) s t = o := ⟨_, rfl⟩
  have HO := hide ho
  have oo : (o == o) = true := beq_iff_eq.2 rfl
  clear ho
  go_wp2_with fail
  go_region_held3 (fun w' => Below w4.heap.size w4 w' ∧ w'.cell? ⟨w.heap.size, 0, none⟩ = some (.int .i64 s) ∧ w'.cell? ⟨w.heap.size, 1, none⟩ = some (.int .i64 t))
    (first | exact hS.out _ (by assumption) | exact hS.out _ (Below.refl _ _) | exact hS.out _ (Below.refl _ _).drew | exact hS.out _ (Below.drew (by assumption)))
    (first
      | (go_at_call 11; go_split_ands; refine (alive07_any _).mono ?_; rintro e w5 ⟨rfl, hb0⟩; have hb1 := Below.trans (by assumption : Below w4.heap.size w4 _) (hb0.mono (Below.size (by assumption : Below w4.heap.size w4 _))))
      | (go_at_call 24; go_split_ands; refine (Subtype_is HO.out _ (HRel.out _ (by assumption)) (HRS.out _ (by assumption)).typs (by omega) HOK.out HST.out.1 HST.out.2).mono ?_; rintro e w5 ⟨rfl, hb0⟩; have hb1 := Below.trans (by assumption : Below w4.heap.size w4 _) (hb0.mono (Below.size (by assumption : Below w4.heap.size w4 _))))
      | (go_at_call 25; go_split_ands; refine (RSubtype_is HO.out HOK.out _ (HRS.out _ (by assumption))).mono ?_; rintro e w5 ⟨rfl, hb0⟩; have hb1 := Below.trans (by assumption : Below w4.heap.size w4 _) (hb0.mono (Below.size (by assumption : Below w4.heap.size w4 _)))))
  all_goals
    go_split_ands
    go_wp2
    go_ret
    exact ⟨rfl, HB4.out.trans (Below.mono (by assumption : Below w4.heap.size w4 _) HB4.out.size)⟩

theorem own : ownKnob Try.prog.godebug = none := by kernel_rfl
theorem laidOut : laidOutB Try.prog = true := by kernel_rfl

set_option maxRecDepth 100000 in
/-- what the walk gives, for every argument that can be read -/
theorem contract (H : Type) (enc : TypeId × Value → H) (W : World) (base : Nat) (args : Array Value) (ds gs : List (DataW H)) (before : List MemPlace)
    (hval0 : ∀ (j : Nat) t v, Try.f7.params[j]? = some t → args[j]? = some v → Value.okWide Try.prog W .any base t v)
    (hW : DataW.Whole enc Try.prog Try.f7.params.toList Rows.regionsSubtypesSpec.vars false W args.toList ds gs before) :
    Calls Try.prog 7 args W fun e W' => ∃ v, e = .returned v ∧ Rows.regionsSubtypesSpec.post enc Try.prog Try.f7 false true false false W args v W' := by
  have hval : ∀ (j : Nat) t v, Try.f7.params[j]? = some t → args[j]? = some v → Value.okWide Try.prog W .any base t v := hval0
  have hW' := hW
  obtain ⟨p, q, hA0, hV, rfl, hfz, hnd⟩ := hW
  have hA : DataW.TrodAll enc Try.prog W 0 (fun _ => true) true Try.f7.params.toList args.toList ds p := hA0
  rw [Try.params7] at hA hval
  obtain ⟨v0, vs0, d0, ds0, p0, q0, hargs, rfl, rfl, h0, r0⟩ := trodAll_cons hA
  obtain ⟨v1, vs1, d1, ds1, p1, q1, rfl, rfl, rfl, h1, r1⟩ := trodAll_cons r0
  obtain ⟨v2, vs2, d2, ds2, p2, q2, rfl, rfl, rfl, h2, r2⟩ := trodAll_cons r1
  obtain ⟨rfl, rfl, rfl⟩ := trodAll_nil r2
  obtain rfl : args = #[v0, v1, v2] := by cases args; simp_all
  obtain ⟨rfl, rfl⟩ := trodVars_none hV
  have k0 := h0
  have lt0 : ∀ x ∈ p0, x.block < W.heap.size := by obtain ⟨m, hm⟩ := k0; exact DataW.trod_lt m _ _ _ hm
  obtain ⟨A0, n0, c0, xs0, rfl, g0⟩ := openPrs Try.underlying22 Try.underlying31 Try.underlying3 (by kernel_rfl) (by kernel_rfl) (hval 0 22 v0 rfl rfl) h0
  have k1 := h1
  have lt1 : ∀ x ∈ p1, x.block < W.heap.size := by obtain ⟨m, hm⟩ := k1; exact DataW.trod_lt m _ _ _ hm
  obtain ⟨A1, n1, c1, xs1, rfl, g1⟩ := openTyps Try.underlying42 Try.underlying50 rfl (by kernel_rfl) (by kernel_rfl) Try.underlying3 Try.underlying4 Try.underlying3 Try.underlying3 Try.underlying35 Try.underlying3 (by kernel_rfl) (hval 1 42 v1 rfl rfl) h1
  have k2 := h2
  have lt2 : ∀ x ∈ p2, x.block < W.heap.size := by obtain ⟨m, hm⟩ := k2; exact DataW.trod_lt m _ _ _ hm
  obtain ⟨a2, b2, rfl, g2⟩ := openPairI Try.underlying31 Try.underlying3 (by kernel_rfl) (by kernel_rfl) (hval 2 31 v2 rfl rfl) h2
  clear hA0 hval0
  simp only [List.append_nil] at hW'
  refine (walk A0 n0 c0 xs0 A1 n1 c1 xs1 a2 b2 W g0 g1 g2).mono fun e W' ⟨he, bel⟩ => ?_
  subst he
  exact ⟨_, rfl, _, _, _, [], _, [], hW', trodAll_mk1 (shut_bool Try.underlying4 _), (trodAll_cons_mk (Below.trod laidOut (by kernel_rfl) (of_decide_eq_true (by kernel_rfl)) k0 bel lt0) (trodAll_cons_mk (Below.trod laidOut (by kernel_rfl) (of_decide_eq_true (by kernel_rfl)) k1 bel lt1) (trodAll_cons_mk (Below.trod laidOut (by kernel_rfl) (of_decide_eq_true (by kernel_rfl)) k2 bel lt2) trodAll_mk0))), rfl, bel.frame _, fun h => by cases h⟩

set_option maxRecDepth 100000 in
theorem lifted (os : Os) (started : os.Started) (H : Type) (enc : TypeId × Value → H) :
    ReturnsInHanded {} Try.checked os 7 .any (Rows.regionsSubtypesSpec.pre6 enc Try.prog Try.f7 Rows.regionsSubtypesRow.domain false) (Rows.regionsSubtypesSpec.post enc Try.prog Try.f7 false true false false) := by
  refine returnsInHanded_of_change (C := Try.checked) own started (by kernel_rfl) Try.func7
    (ChangeSpec.witness6 (enc := enc) (C := Try.checked) false ⟨#[], #[.slice none 0 0, .slice none 0 0, .agg #[.int .i64 0, .int .i64 0]], []⟩ 8 (by kernel_rfl) (by kernel_rfl) (by kernel_rfl) (by kernel_rfl)) ?_
  intro W base args ds gs before hval hW _ _
  exact contract H enc W base args ds gs before hval hW

/-- the statement -/
theorem proved : Rows.RegionsSubtypesSaid :=
  OpenClaim.holds_of_wide 7 Try.f7 rfl rfl rfl rfl rfl rfl rfl ⟨rfl, rfl, rfl, rfl, rfl⟩ rfl rfl rfl rfl rfl (by kernel_rfl) Try.func7 (by kernel_rfl)
    (of_decide_eq_true (by kernel_rfl)) (by unfold Func.isWrapper; first | (rw [if_pos (by decide +kernel)]; kernel_rfl) | (rw [if_neg (by decide +kernel)]; exact ⟨rfl, rfl⟩))
    (fun os started H enc _ => lifted os started H enc)
end Go.Proofs.Ytagnikaghhobjaa.regionsSubtypes
