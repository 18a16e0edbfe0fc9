/- TypesProperties: for every input the law returns true, and turns nothing that lay. No condition. -/
import Derived.Test.YtkcgonggokhneaaRows
import Derived.Test.YtkcgonggokhneaaAlive06
import Derived.Test.YtkcgonggokhneaaOpenY
import Derived.Test.YtkcgonggokhneaaLaw06
import Derived.Test.YtkcgonggokhneaaTypZ3
namespace Go.Proofs.Ytkcgonggokhneaa.typesProperties
open Go.ChangeShapes Go.WideShapes Go.ChangeAt Go.ChangeMaps Go.RowKit
set_option linter.unusedVariables false
set_option linter.unusedSectionVars false

section
variable {A : Option Addr} {n c : Nat} {L : List TyW} {r : Int} (hn : n ≤ 65535) (hnc : n ≤ c) (hcm : c ≤ maxLen) (hok : TyOk (tys L) r) (hr : r ≤ 1000) (i : Int) (hi : IntR i)
include hn hnc hcm hok hr hi
/-- the code's Depth and the reference's answer the same -/
theorem both_dep : ∃ d : Int, ∀ w : World, Typs w w.heap.size A n L →
    Calls Try.prog 18 #[.slice A n c, .int .i64 i] w (fun e w' => e = .returned (.int .i64 d) ∧ Below w.heap.size w w') ∧
    Calls Try.prog 19 #[.slice A n c, .int .i64 i] w (fun e w' => e = .returned (.int .i64 d) ∧ Below w.heap.size w w') := by
  by_cases hin : 0 ≤ i ∧ i < (n : Int)
  · obtain ⟨q, rfl⟩ := Int.eq_ofNat_of_zero_le hin.1
    have hq : q < n := by omega
    exact ⟨tyDep (tys L) (q : Int), fun w hA => ⟨Depth_in hA (Nat.le_refl _) hnc hcm hn hok q hq, RDepth_in hA hn hok q hq⟩⟩
  · refine ⟨0, fun w hA => ⟨Depth_out hA (Nat.le_refl _) hnc hcm hn i hi hin, (RDepth_out A n c i w hn hin).mono ?_⟩⟩
    rintro e w' ⟨rfl, rfl⟩
    exact ⟨rfl, Below.refl _ _⟩
theorem both_cop : ∃ d : Bool, ∀ w : World, Typs w w.heap.size A n L →
    Calls Try.prog 23 #[.slice A n c, .int .i64 i] w (fun e w' => e = .returned (.bool d) ∧ Below w.heap.size w w') ∧
    Calls Try.prog 24 #[.slice A n c, .int .i64 i] w (fun e w' => e = .returned (.bool d) ∧ Below w.heap.size w w') := by
  by_cases hin : 0 ≤ i ∧ i < (n : Int)
  · obtain ⟨q, rfl⟩ := Int.eq_ofNat_of_zero_le hin.1
    have hq : q < n := by omega
    exact ⟨tyCop (tys L) (q : Int), fun w hA => ⟨Copyable_in hA (Nat.le_refl _) hnc hcm hn hok q hq, RCop_in hn hok (q + 1) q (Nat.lt_succ_self _) hq w hA (Nat.le_refl _)⟩⟩
  · refine ⟨false, fun w hA => ⟨Copyable_out hA (Nat.le_refl _) hnc hcm hn i hi hin, (RCop_out A n c i w hn hin).mono ?_⟩⟩
    rintro e w' ⟨rfl, rfl⟩
    exact ⟨rfl, Below.refl _ _⟩
theorem both_reg : ∃ D : Int → Prop, ∀ w : World, Typs w w.heap.size A n L →
    Calls Try.prog 21 #[.slice A n c, .int .i64 i] w (RegR w D) ∧
    Calls Try.prog 22 #[.slice A n c, .int .i64 i] w (RegR w D) := by
  by_cases hin : 0 ≤ i ∧ i < (n : Int)
  · obtain ⟨q, rfl⟩ := Int.eq_ofNat_of_zero_le hin.1
    have hq : q < n := by omega
    exact ⟨TyMen (tys L) (q : Int), fun w hA => ⟨Regions_in hA (Nat.le_refl _) hnc hcm hn hok (by omega) q hq, RRegions_in hA hn hok (by omega) q hq⟩⟩
  · exact ⟨fun _ => False, fun w hA => ⟨Regions_out hA (Nat.le_refl _) hnc hcm hn i hi hin, RRegions_out hA hn hok (by omega) i hin⟩⟩
end

set_option maxHeartbeats 4000000 in
set_option maxRecDepth 100000 in
theorem walk (A : Option Addr) (n c : Nat) (L : List TyW) (rg i : Int) (w : World) (hA : ArgY w A n c L) (hr : -9223372036854775808 ≤ rg ∧ rg ≤ 9223372036854775807) (hi : -9223372036854775808 ≤ i ∧ i ≤ 9223372036854775807) :
    Calls Try.prog 5 #[.slice A n c, .int .i64 rg, .int .i64 i] w fun e w' => e = .returned (.bool true) ∧ Below w.heap.size w w' := by
  have HA := hide hA
  have hnc := hA.nc
  have hcm := hA.cm
  have hnm : n ≤ maxLen := Nat.le_trans hA.nc hA.cm
  have HI := hide hi
  have HL := hide hA.typs.len
  clear hA hr hi
  go_enter Try.func5, Try.ntmps5
  go_wp2_with fail
  refine (Skip_any A n c L w HA.out.typs hnm).mono ?_
  rintro e w1 ⟨⟨v, rfl, hv1, hv2⟩, hb⟩
  have HV1 := hide hv1
  have HB := hide hb
  clear hb hv1
  rcases hv2 with rfl | rfl
  rotate_left
  · go_wp2_with fail
    refine (alive06_any _).mono ?_
    rintro e w2 ⟨rfl, hb⟩
    have HB2 := hide (HB.out.trans (hb.mono HB.out.size))
    clear hb
    go_wp2_with fail
    go_ret
    exact ⟨rfl, HB2.out⟩
  have hsm : tyLarge (tys L) = false := by
    cases h : tyLarge (tys L) with
    | false => rfl
    | true => exact absurd (HV1.out h) (by decide)
  have hn2 : n ≤ 65535 := by
    have := (tyLarge_small hsm).1
    rw [tys_len, HL.out] at this
    omega
  clear hsm
  have hex : ∃ u, tyChk (tys L) (min rg 1000) = u := ⟨_, rfl⟩
  obtain ⟨u, hu⟩ := hex
  have HU := hide hu
  clear hu
  go_wp2_with fail
  refine (RCheckT_is HU.out w1 ((HA.out.typs.below HB.out).more HB.out.size) hnm hnc).mono ?_
  rintro e w2 ⟨rfl, hb⟩
  have HB2 := hide (HB.out.trans (hb.mono HB.out.size))
  clear hb
  by_cases hu0 : u = 0
  rotate_left
  · go_wp2_with fail
    refine (alive06_any _).mono ?_
    rintro e w3 ⟨rfl, hb⟩
    have HB3 := hide (HB2.out.trans (hb.mono HB2.out.size))
    clear hb
    go_wp2_with fail
    go_ret
    exact ⟨rfl, HB3.out⟩
  subst hu0
  have HOK := hide (tyChk_iff.1 HU.out)
  obtain ⟨d, hd⟩ := both_dep (A := A) hn2 hnc hcm HOK.out (Int.min_le_right rg 1000) i HI.out
  obtain ⟨D, hD⟩ := both_reg (A := A) hn2 hnc hcm HOK.out (Int.min_le_right rg 1000) i HI.out
  obtain ⟨b, hbb⟩ := both_cop (A := A) hn2 hnc hcm HOK.out (Int.min_le_right rg 1000) i HI.out
  have HD := hide hd
  have HR := hide hD
  have HC := hide hbb
  clear hd hD hbb
  go_wp2_with fail
  refine (alive06_any _).mono ?_
  rintro e w3 ⟨rfl, hb⟩
  have HB3 := hide (HB2.out.trans (hb.mono HB2.out.size))
  clear hb
  go_wp2_with fail
  refine (HD.out w3 ((HA.out.typs.below HB3.out).more HB3.out.size)).1.mono ?_
  rintro e w4 ⟨rfl, hb⟩
  have HB4 := hide (HB3.out.trans (hb.mono HB3.out.size))
  clear hb
  go_wp2_with fail
  refine (HD.out w4 ((HA.out.typs.below HB4.out).more HB4.out.size)).2.mono ?_
  rintro e w5 ⟨rfl, hb⟩
  have HB5 := hide (HB4.out.trans (hb.mono HB4.out.size))
  clear hb
  go_wp2_with fail
  refine (HR.out w5 ((HA.out.typs.below HB5.out).more HB5.out.size)).1.mono ?_
  rintro e w6 ⟨A1, n1, c1, ys, rfl, h1, h2, h3, h4, h5, hb⟩
  have HR1 := hide (Rd.of_own h3)
  have HY1 := hide (And.intro h4 h5)
  have HN1 := hide (Nat.le_trans h1 h2)
  have HB6 := hide (HB5.out.trans (hb.mono HB5.out.size))
  clear hb h1 h2 h3 h4 h5
  go_wp2_with fail
  refine (HR.out w6 ((HA.out.typs.below HB6.out).more HB6.out.size)).2.mono ?_
  rintro e w7 ⟨A2, n2, c2, zs, rfl, h1, h2, h3, h4, h5, hb⟩
  have HR2 := hide (Rd.of_own h3)
  have hyz : ys = zs := ascI_ext HY1.out.1 h4 fun q => (HY1.out.2 q).trans (h5 q).symm
  have HE := hide (eqIs_iff.2 hyz)
  have HN2 := hide (Nat.le_trans h1 h2)
  have HR1' := hide (HR1.out.below hb)
  have HB7 := hide (HB6.out.trans (hb.mono HB6.out.size))
  clear hb h1 h2 h3 h4 h5 hyz
  go_wp2_with fail
  refine (EqI_is HE.out HR1'.out HR2.out HN1.out HN2.out).mono ?_
  rintro e w8 ⟨rfl, hb⟩
  have HB8 := hide (HB7.out.trans (hb.mono HB7.out.size))
  clear hb
  go_wp2_with fail
  refine (HC.out w8 ((HA.out.typs.below HB8.out).more HB8.out.size)).1.mono ?_
  rintro e w9 ⟨rfl, hb⟩
  have HB9 := hide (HB8.out.trans (hb.mono HB8.out.size))
  clear hb
  go_wp2_with fail
  refine (HC.out w9 ((HA.out.typs.below HB9.out).more HB9.out.size)).2.mono ?_
  rintro e w10 ⟨rfl, hb⟩
  have HB10 := hide (HB9.out.trans (hb.mono HB9.out.size))
  clear hb
  have hbb : (b == b) = true := beq_iff_eq.2 rfl
  go_wp2_with fail
  go_ret
  exact ⟨rfl, HB10.out⟩

theorem own : ownKnob Try.prog.godebug = none := by kernel_rfl
theorem laidOut : laidOutB Try.prog = true := by kernel_rfl

set_option maxRecDepth 100000 in
/-- what the walk gives, for every argument that can be read -/
theorem contract (H : Type) (enc : TypeId × Value → H) (W : World) (base : Nat) (args : Array Value) (ds gs : List (DataW H)) (before : List MemPlace)
    (hval0 : ∀ (j : Nat) t v, Try.f5.params[j]? = some t → args[j]? = some v → Value.okWide Try.prog W .any base t v)
    (hW : DataW.Whole enc Try.prog Try.f5.params.toList Rows.typesPropertiesSpec.vars false W args.toList ds gs before) :
    Calls Try.prog 5 args W fun e W' => ∃ v, e = .returned v ∧ Rows.typesPropertiesSpec.post enc Try.prog Try.f5 false true false false W args v W' := by
  have hval : ∀ (j : Nat) t v, Try.f5.params[j]? = some t → args[j]? = some v → Value.okWide Try.prog W .any base t v := hval0
  have hW' := hW
  obtain ⟨p, q, hA0, hV, rfl, hfz, hnd⟩ := hW
  have hA : DataW.TrodAll enc Try.prog W 0 (fun _ => true) true Try.f5.params.toList args.toList ds p := hA0
  rw [Try.params5] at hA hval
  obtain ⟨v0, vs0, d0, ds0, p0, q0, hargs, rfl, rfl, h0, r0⟩ := trodAll_cons hA
  obtain ⟨v1, vs1, d1, ds1, p1, q1, rfl, rfl, rfl, h1, r1⟩ := trodAll_cons r0
  obtain ⟨v2, vs2, d2, ds2, p2, q2, rfl, rfl, rfl, h2, r2⟩ := trodAll_cons r1
  obtain ⟨rfl, rfl, rfl⟩ := trodAll_nil r2
  obtain rfl : args = #[v0, v1, v2] := by cases args; simp_all
  obtain ⟨rfl, rfl⟩ := trodVars_none hV
  have k0 := h0
  have lt0 : ∀ x ∈ p0, x.block < W.heap.size := by obtain ⟨m, hm⟩ := k0; exact DataW.trod_lt m _ _ _ hm
  obtain ⟨A0, n0, c0, xs0, rfl, g0⟩ := openTyps Try.underlying22 Try.underlying31 rfl (by kernel_rfl) (by kernel_rfl) Try.underlying3 Try.underlying4 Try.underlying3 Try.underlying3 Try.underlying29 Try.underlying3 (by kernel_rfl) (hval 0 22 v0 rfl rfl) h0
  obtain ⟨a1, rfl, rfl, rfl, w1⟩ := open_int Try.underlying3 (hval 1 3 v1 rfl rfl) h1
  have g1 : -9223372036854775808 ≤ a1 ∧ a1 ≤ 9223372036854775807 := by simpa [Lit.wf, IntKind.min, IntKind.max, IntKind.signed, IntKind.bits] using w1
  obtain ⟨a2, rfl, rfl, rfl, w2⟩ := open_int Try.underlying3 (hval 2 3 v2 rfl rfl) h2
  have g2 : -9223372036854775808 ≤ a2 ∧ a2 ≤ 9223372036854775807 := by simpa [Lit.wf, IntKind.min, IntKind.max, IntKind.signed, IntKind.bits] using w2
  clear hA0 hval0
  simp only [List.append_nil] at hW'
  refine (walk A0 n0 c0 xs0 a1 a2 W g0 g1 g2).mono fun e W' ⟨he, bel⟩ => ?_
  subst he
  exact ⟨_, rfl, _, _, _, [], _, [], hW', trodAll_mk1 (shut_bool Try.underlying4 _), (trodAll_cons_mk (Below.trod laidOut (by kernel_rfl) (of_decide_eq_true (by kernel_rfl)) k0 bel lt0) (trodAll_cons_mk (shut_int Try.underlying3 w1) (trodAll_cons_mk (shut_int Try.underlying3 w2) trodAll_mk0))), rfl, bel.frame _, fun h => by cases h⟩

set_option maxRecDepth 100000 in
theorem lifted (os : Os) (started : os.Started) (H : Type) (enc : TypeId × Value → H) :
    ReturnsInHanded {} Try.checked os 5 .any (Rows.typesPropertiesSpec.pre6 enc Try.prog Try.f5 Rows.typesPropertiesRow.domain false) (Rows.typesPropertiesSpec.post enc Try.prog Try.f5 false true false false) := by
  refine returnsInHanded_of_change (C := Try.checked) own started (by kernel_rfl) Try.func5
    (ChangeSpec.witness6 (enc := enc) (C := Try.checked) false ⟨#[], #[.slice none 0 0, .int .i64 0, .int .i64 0], []⟩ 8 (by kernel_rfl) (by kernel_rfl) (by kernel_rfl) (by kernel_rfl)) ?_
  intro W base args ds gs before hval hW _ _
  exact contract H enc W base args ds gs before hval hW

/-- the statement -/
theorem proved : Rows.TypesPropertiesSaid :=
  OpenClaim.holds_of_wide 5 Try.f5 rfl rfl rfl rfl rfl rfl rfl ⟨rfl, rfl, rfl, rfl, rfl⟩ rfl rfl rfl rfl rfl (by kernel_rfl) Try.func5 (by kernel_rfl)
    (of_decide_eq_true (by kernel_rfl)) (by unfold Func.isWrapper; first | (rw [if_pos (by decide +kernel)]; kernel_rfl) | (rw [if_neg (by decide +kernel)]; exact ⟨rfl, rfl⟩))
    (fun os started H enc _ => lifted os started H enc)
end Go.Proofs.Ytkcgonggokhneaa.typesProperties
