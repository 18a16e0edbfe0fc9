/- TypesMonotone: for every input the law returns true, and turns nothing that lay. No condition. -/
import Derived.Test.YtkcgonggokhneaaRows
import Derived.Test.YtkcgonggokhneaaAlive06
import Derived.Test.YtkcgonggokhneaaOpenY
import Derived.Test.YtkcgonggokhneaaLaw06
import Derived.Test.YtkcgonggokhneaaTypZ3
namespace Go.Proofs.Ytkcgonggokhneaa.typesMonotone
open Go.ChangeShapes Go.WideShapes Go.ChangeAt Go.ChangeMaps Go.RowKit
set_option linter.unusedVariables false

set_option maxHeartbeats 4000000 in
set_option maxRecDepth 100000 in
theorem walk (A : Option Addr) (n c : Nat) (L : List TyW) (rg mo : Int) (w : World) (hA : ArgY w A n c L) (hr : 0 ≤ rg ∧ rg ≤ 255) (hm : 0 ≤ mo ∧ mo ≤ 65535) :
    Calls Try.prog 8 #[.slice A n c, .int .u8 rg, .int .u16 mo] w fun e w' => e = .returned (.bool true) ∧ Below w.heap.size w w' := by
  have HA := hide hA
  have hnc := hA.nc
  have hcm := hA.cm
  have hnm : n ≤ maxLen := Nat.le_trans hA.nc hA.cm
  have HL := hide hA.typs.len
  obtain ⟨hr0, hr1⟩ := hr
  obtain ⟨hm0, hm1⟩ := hm
  clear hA
  go_enter Try.func8, Try.ntmps8
  go_wp2_with fail
  refine (Skip_any A n c L w HA.out.typs hnm).mono ?_
  rintro e w1 ⟨⟨v, rfl, hv1, hv2⟩, hb⟩
  have HV1 := hide hv1
  have HB := hide hb
  clear hb hv1
  rcases hv2 with rfl | rfl
  rotate_left
  · go_wp2_with fail
    refine (alive06_any _).mono ?_
    rintro e w2 ⟨rfl, hb⟩
    have HB2 := hide (HB.out.trans (hb.mono HB.out.size))
    clear hb
    go_wp2_with fail
    go_ret
    exact ⟨rfl, HB2.out⟩
  have hsm : tyLarge (tys L) = false := by
    cases h : tyLarge (tys L) with
    | false => rfl
    | true => exact absurd (HV1.out h) (by decide)
  have hn2 : n ≤ 65535 := by
    have := (tyLarge_small hsm).1
    rw [tys_len, HL.out] at this
    omega
  clear hsm
  have hex : ∃ u, tyChk (tys L) rg = u := ⟨_, rfl⟩
  obtain ⟨u, hu⟩ := hex
  have HU := hide hu
  clear hu
  go_wp2_with fail
  refine (RCheckT_is HU.out w1 ((HA.out.typs.below HB.out).more HB.out.size) hnm hnc).mono ?_
  rintro e w2 ⟨rfl, hb⟩
  have HB2 := hide (HB.out.trans (hb.mono HB.out.size))
  clear hb
  by_cases hu0 : u = 0
  rotate_left
  · go_wp2_with fail
    refine (alive06_any _).mono ?_
    rintro e w3 ⟨rfl, hb⟩
    have HB3 := hide (HB2.out.trans (hb.mono HB2.out.size))
    clear hb
    go_wp2_with fail
    go_ret
    exact ⟨rfl, HB3.out⟩
  subst hu0
  have HOK := hide (tyChk_iff.1 HU.out)
  have HMORE := hide (tyChk_iff.2 (HOK.out.more (r' := rg + mo) (by omega)))
  go_wp2_with fail
  go_loopw [25] (fun i wr => ∃ k : Nat, i = .int .i64 (k : Int) ∧ k ≤ n ∧ Below w.heap.size w wr) (fun i _ => n - (intOf i).toNat)
  case atStart => exact ⟨0, rfl, Nat.zero_le _, HB2.out⟩
  case round =>
    obtain ⟨k, rfl, hk, hb⟩ := hrel
    have HBr := hide hb
    clear hb
    by_cases hlt : k < n
    · have hlt' : (k : Int) < (n : Int) := by omega
      go_wp2_with fail
      refine (Regions_in ((HA.out.typs.below HBr.out).more HBr.out.size) (Nat.le_refl _) hnc hcm hn2 HOK.out (by omega) k hlt).mono ?_
      rintro e w4 ⟨A1, n1, c1, ys, rfl, h1, h2, h3, h4, h5, hb⟩
      have HR1 := hide (Rd.of_own h3)
      have HYL := hide (Rd.of_own h3).ilen
      have hn1 : n1 ≤ maxLen := Nat.le_trans h1 h2
      unfold maxLen at hn1
      have HY := hide (fun q (hq : q ∈ ys) => (TyMen.bd HOK.out ((h5 q).1 hq)))
      have HB4 := hide (HBr.out.trans (hb.mono HBr.out.size))
      clear hb h1 h2 h3 h4 h5
      go_wp2_with fail
      go_loop [32] (fun j => ∃ i : Nat, j = .int .i64 (i : Int) ∧ i ≤ n1) (fun j => n1 - (intOf j).toNat)
      case atStart => exact ⟨0, rfl, Nat.zero_le _⟩
      case round =>
        obtain ⟨j, rfl, hj⟩ := hrel
        by_cases hlt2 : j < n1
        · have hlt2' : (j : Int) < (n1 : Int) := by omega
          have hex : ∃ y, ys[j]? = some y := ⟨_, List.getElem?_eq_getElem (by have := HYL.out; omega)⟩
          obtain ⟨y, hy⟩ := hex
          obtain ⟨hy0, hy1, _⟩ := HY.out y (List.mem_of_getElem? hy)
          obtain ⟨g, o, rfl, hg, hc⟩ := HR1.out.int hy
          clear hy
          go_wp2_with fail
          go_round
          case rel => exact ⟨j + 1, by go_num, by omega⟩
          case measure => simp [intOf]; omega
        · obtain rfl : j = n1 := by omega
          go_wp2_with fail
          go_roundw
          case rel => exact ⟨k + 1, by go_num, by omega, HB4.out⟩
          case measure => simp [intOf]; omega
    · obtain rfl : k = n := by omega
      go_wp2_with fail
      refine (alive06_any _).mono ?_
      rintro e w3 ⟨rfl, hb⟩
      have HB3 := hide (HBr.out.trans (hb.mono HBr.out.size))
      clear hb
      go_wp2_with fail
      refine (CheckT_is HMORE.out w3 ((HA.out.typs.below HB3.out).more HB3.out.size) hnm).mono ?_
      rintro e w4 ⟨rfl, hb⟩
      have HB4 := hide (HB3.out.trans (hb.mono HB3.out.size))
      clear hb
      go_wp2_with fail
      go_ret
      exact ⟨rfl, HB4.out⟩

theorem own : ownKnob Try.prog.godebug = none := by kernel_rfl
theorem laidOut : laidOutB Try.prog = true := by kernel_rfl

set_option maxRecDepth 100000 in
/-- what the walk gives, for every argument that can be read -/
theorem contract (H : Type) (enc : TypeId × Value → H) (W : World) (base : Nat) (args : Array Value) (ds gs : List (DataW H)) (before : List MemPlace)
    (hval0 : ∀ (j : Nat) t v, Try.f8.params[j]? = some t → args[j]? = some v → Value.okWide Try.prog W .any base t v)
    (hW : DataW.Whole enc Try.prog Try.f8.params.toList Rows.typesMonotoneSpec.vars false W args.toList ds gs before) :
    Calls Try.prog 8 args W fun e W' => ∃ v, e = .returned v ∧ Rows.typesMonotoneSpec.post enc Try.prog Try.f8 false true false false W args v W' := by
  have hval : ∀ (j : Nat) t v, Try.f8.params[j]? = some t → args[j]? = some v → Value.okWide Try.prog W .any base t v := hval0
  have hW' := hW
  obtain ⟨p, q, hA0, hV, rfl, hfz, hnd⟩ := hW
  have hA : DataW.TrodAll enc Try.prog W 0 (fun _ => true) true Try.f8.params.toList args.toList ds p := hA0
  rw [Try.params8] at hA hval
  obtain ⟨v0, vs0, d0, ds0, p0, q0, hargs, rfl, rfl, h0, r0⟩ := trodAll_cons hA
  obtain ⟨v1, vs1, d1, ds1, p1, q1, rfl, rfl, rfl, h1, r1⟩ := trodAll_cons r0
  obtain ⟨v2, vs2, d2, ds2, p2, q2, rfl, rfl, rfl, h2, r2⟩ := trodAll_cons r1
  obtain ⟨rfl, rfl, rfl⟩ := trodAll_nil r2
  obtain rfl : args = #[v0, v1, v2] := by cases args; simp_all
  obtain ⟨rfl, rfl⟩ := trodVars_none hV
  have k0 := h0
  have lt0 : ∀ x ∈ p0, x.block < W.heap.size := by obtain ⟨m, hm⟩ := k0; exact DataW.trod_lt m _ _ _ hm
  obtain ⟨A0, n0, c0, xs0, rfl, g0⟩ := openTyps Try.underlying22 Try.underlying31 rfl (by kernel_rfl) (by kernel_rfl) Try.underlying3 Try.underlying4 Try.underlying3 Try.underlying3 Try.underlying29 Try.underlying3 (by kernel_rfl) (hval 0 22 v0 rfl rfl) h0
  obtain ⟨a1, rfl, rfl, rfl, w1⟩ := open_int Try.underlying5 (hval 1 5 v1 rfl rfl) h1
  have g1 : 0 ≤ a1 ∧ a1 ≤ 255 := by simpa [Lit.wf, IntKind.min, IntKind.max, IntKind.signed, IntKind.bits] using w1
  obtain ⟨a2, rfl, rfl, rfl, w2⟩ := open_int Try.underlying42 (hval 2 42 v2 rfl rfl) h2
  have g2 : 0 ≤ a2 ∧ a2 ≤ 65535 := by simpa [Lit.wf, IntKind.min, IntKind.max, IntKind.signed, IntKind.bits] using w2
  clear hA0 hval0
  simp only [List.append_nil] at hW'
  refine (walk A0 n0 c0 xs0 a1 a2 W g0 g1 g2).mono fun e W' ⟨he, bel⟩ => ?_
  subst he
  exact ⟨_, rfl, _, _, _, [], _, [], hW', trodAll_mk1 (shut_bool Try.underlying4 _), (trodAll_cons_mk (Below.trod laidOut (by kernel_rfl) (of_decide_eq_true (by kernel_rfl)) k0 bel lt0) (trodAll_cons_mk (shut_int Try.underlying5 w1) (trodAll_cons_mk (shut_int Try.underlying42 w2) trodAll_mk0))), rfl, bel.frame _, fun h => by cases h⟩

set_option maxRecDepth 100000 in
theorem lifted (os : Os) (started : os.Started) (H : Type) (enc : TypeId × Value → H) :
    ReturnsInHanded {} Try.checked os 8 .any (Rows.typesMonotoneSpec.pre6 enc Try.prog Try.f8 Rows.typesMonotoneRow.domain false) (Rows.typesMonotoneSpec.post enc Try.prog Try.f8 false true false false) := by
  refine returnsInHanded_of_change (C := Try.checked) own started (by kernel_rfl) Try.func8
    (ChangeSpec.witness6 (enc := enc) (C := Try.checked) false ⟨#[], #[.slice none 0 0, .int .u8 0, .int .u16 0], []⟩ 8 (by kernel_rfl) (by kernel_rfl) (by kernel_rfl) (by kernel_rfl)) ?_
  intro W base args ds gs before hval hW _ _
  exact contract H enc W base args ds gs before hval hW

/-- the statement -/
theorem proved : Rows.TypesMonotoneSaid :=
  OpenClaim.holds_of_wide 8 Try.f8 rfl rfl rfl rfl rfl rfl rfl ⟨rfl, rfl, rfl, rfl, rfl⟩ rfl rfl rfl rfl rfl (by kernel_rfl) Try.func8 (by kernel_rfl)
    (of_decide_eq_true (by kernel_rfl)) (by unfold Func.isWrapper; first | (rw [if_pos (by decide +kernel)]; kernel_rfl) | (rw [if_neg (by decide +kernel)]; exact ⟨rfl, rfl⟩))
    (fun os started H enc _ => lifted os started H enc)
end Go.Proofs.Ytkcgonggokhneaa.typesMonotone
