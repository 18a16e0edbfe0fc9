/- RegionsCloses: for every input the law returns true, and turns nothing that lay. No condition. -/
import Derived.Test.YtagnikaghhobjaaRows
import Derived.Test.YtagnikaghhobjaaLaw07
import Derived.Test.YtagnikaghhobjaaRegH
namespace Go.Proofs.Ytagnikaghhobjaa.regionsCloses
open Go.ChangeShapes Go.WideShapes Go.ChangeAt Go.ChangeMaps Go.RowKit
set_option linter.unusedVariables false

set_option maxHeartbeats 4000000 in
set_option maxRecDepth 100000 in
theorem walk (A : Option Addr) (n c : Nat) (L : List Pr) (rg : Int) (B : Option Addr) (m d : Nat) (l : List Int) (w : World) (hA : ArgP w A n c L) (hr : -9223372036854775808 ≤ rg ∧ rg ≤ 9223372036854775807) (hL : ArgN w B m d l) :
    Calls Try.prog 5 #[.slice A n c, .int .i64 rg, .slice B m d] w fun e w' => e = .returned (.bool true) ∧ Below w.heap.size w w' := by
  have HA := hide hA.prs
  have HL := hide hL.rd
  have hnm : n ≤ maxLen := Nat.le_trans hA.nc hA.cm
  have hmm : m ≤ maxLen := Nat.le_trans hL.nc hL.cm
  unfold maxLen at hmm
  clear hA hr hL
  cases hlg : lrg n rg
  case true =>
    have HG := hide hlg
    clear hlg
    go_enter Try.func5, Try.ntmps5
    go_wp2_with fail
    refine (Lrg_is HG.out w hnm).mono ?_
    rintro e w1 ⟨rfl, rfl⟩
    go_wp2_with fail
    refine (alive07_any _).mono ?_
    rintro e w2 ⟨rfl, hb⟩
    have HB := hide hb
    clear hb
    go_wp2_with fail
    go_ret
    exact ⟨rfl, HB.out⟩
  have HG := hide hlg
  clear hlg
  by_cases h1 : 40 < m
  · have t1 : decide ((40 : Int) < (m : Int)) = true := by simp; omega
    have t2 : decide (40 < m) = true := decide_eq_true h1
    clear h1
    go_enter Try.func5, Try.ntmps5
    go_wp2_with fail
    refine (Lrg_is HG.out w hnm).mono ?_
    rintro e w1 ⟨rfl, rfl⟩
    go_wp2_with fail
    refine (alive07_any _).mono ?_
    rintro e w2 ⟨rfl, hb⟩
    have HB := hide hb
    clear hb
    go_wp2_with fail
    go_ret
    exact ⟨rfl, HB.out⟩
  have hm40 : m ≤ 40 := by omega
  have t1 : decide ((40 : Int) < (m : Int)) = false := by simp; omega
  have t2 : decide (40 < m) = false := decide_eq_false h1
  clear h1
  obtain ⟨hn40, hr40⟩ := lrg_no HG.out
  obtain ⟨v, hv⟩ : ∃ v, prChk L rg = v := ⟨_, rfl⟩
  have HV := hide hv
  clear hv
  by_cases hv0 : v = 0
  rotate_left
  · have vn : (v != 0) = true := by rw [bne_iff_ne]; exact hv0
    clear hv0
    go_enter Try.func5, Try.ntmps5
    go_wp2_with fail
    refine (Lrg_is HG.out w hnm).mono ?_
    rintro e w1 ⟨rfl, rfl⟩
    go_wp2_with fail
    refine (RRegCheck_is HV.out w HA.out hnm).mono ?_
    rintro e w1 ⟨rfl, rfl⟩
    go_wp2_with fail
    refine (alive07_any _).mono ?_
    rintro e w2 ⟨rfl, hb⟩
    have HB := hide hb
    clear hb
    go_wp2_with fail
    go_ret
    exact ⟨rfl, HB.out⟩
  subst hv0
  go_enter Try.func5, Try.ntmps5
  go_wp2_with fail
  refine (Lrg_is HG.out w hnm).mono ?_
  rintro e w1 ⟨rfl, rfl⟩
  go_wp2_with fail
  refine (RRegCheck_is HV.out w HA.out hnm).mono ?_
  rintro e w1 ⟨rfl, rfl⟩
  go_wp2_with fail
  refine (New_good A n c L rg w HA.out HV.out).mono ?_
  rintro e w2 ⟨r, rfl, hR, hb⟩
  have HR := hide hR
  have HB2 := hide hb
  clear hb hR
  go_wp2_with fail
  refine (Closure_any r L rg B m d l w2 HR.out ((HL.out.below HB2.out).more HB2.out.size) (by omega)).mono ?_
  rintro e w3 ⟨A3, m3, c3, ys, rfl, h3a, h3b, hown3, hasc3, hmem3, hb⟩
  have HY := hide (Rd.of_own hown3)
  have HYA := hide hasc3
  have HYM := hide hmem3
  have HC3 := hide hb
  have HB3 := hide (HB2.out.trans (hb.mono HB2.out.size))
  have hyl := HY.out.ilen
  have hm3 : m3 ≤ 40 := by
    have h := asc_len (lo := 0) (hi := rg) hasc3 fun a ha => outL_rng ((hmem3 a).1 ha)
    omega
  clear hown3 hasc3 hmem3 hb hyl
  go_wp2_with fail
  refine (alive07_any _).mono ?_
  rintro e w4 ⟨rfl, hb⟩
  have HC4 := hide hb
  have HB4 := hide (HB3.out.trans (hb.mono HB3.out.size))
  clear hb
  go_wp2_with fail
  refine (RClosure_any A n c L rg B m d l w4 ((HA.out.below HB4.out).more HB4.out.size) ((HL.out.below HB4.out).more HB4.out.size) (by omega) (by omega) (by omega)).mono ?_
  rintro e w5 ⟨A5, m5, c5, zs, rfl, h5a, h5b, hown5, hasc5, hmem5, hb⟩
  have HZ := hide (Rd.of_own hown5)
  have HE := hide (asc_uniq HYA.out hasc5 fun a => (HYM.out a).trans (hmem5 a).symm)
  have HC5 := hide (HC4.out.trans (hb.mono HC4.out.size))
  have HB5 := hide (HB4.out.trans (hb.mono HB4.out.size))
  clear hown5 hasc5 hmem5 hb
  go_wp2_with fail
  have hm5 : m5 ≤ 40 := by have h := HZ.out.ilen; have h2 := HY.out.ilen; rw [HE.out] at h2; omega
  refine (EqI_is (b := true) (show eqIs ys zs = true from eqIs_iff.2 HE.out) (HY.out.below HC5.out) HZ.out (by unfold maxLen; omega) (by unfold maxLen; omega)).mono ?_
  rintro e w6 ⟨rfl, hb⟩
  have HC6 := hide (HC5.out.trans (hb.mono HC5.out.size))
  have HB6 := hide (HB5.out.trans (hb.mono HB5.out.size))
  clear hb
  go_wp2_with fail
  refine (Closure_any r L rg A3 m3 c3 ys w6 ((HR.out.below (HC3.out.trans (HC6.out.mono HC3.out.size))).more (HC3.out.trans (HC6.out.mono HC3.out.size)).size) ((HY.out.below HC6.out).more HC6.out.size) (by omega)).mono ?_
  rintro e w7 ⟨A7, m7, c7, us, rfl, h7a, h7b, hown7, hasc7, hmem7, hb⟩
  have HU := hide (Rd.of_own hown7)
  have HE7 := hide (asc_uniq hasc7 HYA.out fun a => ((hmem7 a).trans (outL_outL HYM.out a)).trans (HYM.out a).symm)
  have HC7 := hide (HC6.out.trans (hb.mono HC6.out.size))
  have HB7 := hide (HB6.out.trans (hb.mono HB6.out.size))
  clear hown7 hasc7 hmem7 hb
  have hm7 : m7 ≤ 40 := by have h := HU.out.ilen; have h2 := HY.out.ilen; rw [HE7.out] at h; omega
  go_wp2_with fail
  refine (EqI_is (b := true) (show eqIs us ys = true from eqIs_iff.2 HE7.out) HU.out (HY.out.below HC7.out) (by unfold maxLen; omega) (by unfold maxLen; omega)).mono ?_
  rintro e w8 ⟨rfl, hb⟩
  have HB8 := hide (HB7.out.trans (hb.mono HB7.out.size))
  clear hb
  go_wp2_with fail
  go_ret
  exact ⟨rfl, HB8.out⟩

theorem own : ownKnob Try.prog.godebug = none := by kernel_rfl
theorem laidOut : laidOutB Try.prog = true := by kernel_rfl

set_option maxRecDepth 100000 in
/-- what the walk gives, for every argument that can be read -/
theorem contract (H : Type) (enc : TypeId × Value → H) (W : World) (base : Nat) (args : Array Value) (ds gs : List (DataW H)) (before : List MemPlace)
    (hval0 : ∀ (j : Nat) t v, Try.f5.params[j]? = some t → args[j]? = some v → Value.okWide Try.prog W .any base t v)
    (hW : DataW.Whole enc Try.prog Try.f5.params.toList Rows.regionsClosesSpec.vars false W args.toList ds gs before) :
    Calls Try.prog 5 args W fun e W' => ∃ v, e = .returned v ∧ Rows.regionsClosesSpec.post enc Try.prog Try.f5 false true false false W args v W' := by
  have hval : ∀ (j : Nat) t v, Try.f5.params[j]? = some t → args[j]? = some v → Value.okWide Try.prog W .any base t v := hval0
  have hW' := hW
  obtain ⟨p, q, hA0, hV, rfl, hfz, hnd⟩ := hW
  have hA : DataW.TrodAll enc Try.prog W 0 (fun _ => true) true Try.f5.params.toList args.toList ds p := hA0
  rw [Try.params5] at hA hval
  obtain ⟨v0, vs0, d0, ds0, p0, q0, hargs, rfl, rfl, h0, r0⟩ := trodAll_cons hA
  obtain ⟨v1, vs1, d1, ds1, p1, q1, rfl, rfl, rfl, h1, r1⟩ := trodAll_cons r0
  obtain ⟨v2, vs2, d2, ds2, p2, q2, rfl, rfl, rfl, h2, r2⟩ := trodAll_cons r1
  obtain ⟨rfl, rfl, rfl⟩ := trodAll_nil r2
  obtain rfl : args = #[v0, v1, v2] := by cases args; simp_all
  obtain ⟨rfl, rfl⟩ := trodVars_none hV
  have k0 := h0
  have lt0 : ∀ x ∈ p0, x.block < W.heap.size := by obtain ⟨m, hm⟩ := k0; exact DataW.trod_lt m _ _ _ hm
  obtain ⟨A0, n0, c0, xs0, rfl, g0⟩ := openPrs Try.underlying22 Try.underlying31 Try.underlying3 (by kernel_rfl) (by kernel_rfl) (hval 0 22 v0 rfl rfl) h0
  obtain ⟨a1, rfl, rfl, rfl, w1⟩ := open_int Try.underlying3 (hval 1 3 v1 rfl rfl) h1
  have g1 : -9223372036854775808 ≤ a1 ∧ a1 ≤ 9223372036854775807 := by simpa [Lit.wf, IntKind.min, IntKind.max, IntKind.signed, IntKind.bits] using w1
  have k2 := h2
  have lt2 : ∀ x ∈ p2, x.block < W.heap.size := by obtain ⟨m, hm⟩ := k2; exact DataW.trod_lt m _ _ _ hm
  obtain ⟨A2, n2, c2, xs2, rfl, g2⟩ := openNums Try.underlying35 Try.underlying3 (by kernel_rfl) (hval 2 35 v2 rfl rfl) h2
  clear hA0 hval0
  simp only [List.append_nil] at hW'
  refine (walk A0 n0 c0 xs0 a1 A2 n2 c2 xs2 W g0 g1 g2).mono fun e W' ⟨he, bel⟩ => ?_
  subst he
  exact ⟨_, rfl, _, _, _, [], _, [], hW', trodAll_mk1 (shut_bool Try.underlying4 _), (trodAll_cons_mk (Below.trod laidOut (by kernel_rfl) (of_decide_eq_true (by kernel_rfl)) k0 bel lt0) (trodAll_cons_mk (shut_int Try.underlying3 w1) (trodAll_cons_mk (Below.trod laidOut (by kernel_rfl) (of_decide_eq_true (by kernel_rfl)) k2 bel lt2) trodAll_mk0))), rfl, bel.frame _, fun h => by cases h⟩

set_option maxRecDepth 100000 in
theorem lifted (os : Os) (started : os.Started) (H : Type) (enc : TypeId × Value → H) :
    ReturnsInHanded {} Try.checked os 5 .any (Rows.regionsClosesSpec.pre6 enc Try.prog Try.f5 Rows.regionsClosesRow.domain false) (Rows.regionsClosesSpec.post enc Try.prog Try.f5 false true false false) := by
  refine returnsInHanded_of_change (C := Try.checked) own started (by kernel_rfl) Try.func5
    (ChangeSpec.witness6 (enc := enc) (C := Try.checked) false ⟨#[], #[.slice none 0 0, .int .i64 0, .slice none 0 0], []⟩ 8 (by kernel_rfl) (by kernel_rfl) (by kernel_rfl) (by kernel_rfl)) ?_
  intro W base args ds gs before hval hW _ _
  exact contract H enc W base args ds gs before hval hW

/-- the statement -/
theorem proved : Rows.RegionsClosesSaid :=
  OpenClaim.holds_of_wide 5 Try.f5 rfl rfl rfl rfl rfl rfl rfl ⟨rfl, rfl, rfl, rfl, rfl⟩ rfl rfl rfl rfl rfl (by kernel_rfl) Try.func5 (by kernel_rfl)
    (of_decide_eq_true (by kernel_rfl)) (by unfold Func.isWrapper; first | (rw [if_pos (by decide +kernel)]; kernel_rfl) | (rw [if_neg (by decide +kernel)]; exact ⟨rfl, rfl⟩))
    (fun os started H enc _ => lifted os started H enc)
end Go.Proofs.Ytagnikaghhobjaa.regionsCloses
