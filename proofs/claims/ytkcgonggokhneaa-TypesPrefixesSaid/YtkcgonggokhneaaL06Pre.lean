/- TypesPrefixes: for every input the law returns true, and turns nothing that lay. No condition. -/
import Derived.Test.YtkcgonggokhneaaRows
import Derived.Test.YtkcgonggokhneaaAlive06
import Derived.Test.YtkcgonggokhneaaOpenY
import Derived.Test.YtkcgonggokhneaaLaw06
import Derived.Test.YtkcgonggokhneaaTypY
namespace Go.Proofs.Ytkcgonggokhneaa.typesPrefixes
open Go.ChangeShapes Go.WideShapes Go.ChangeAt Go.ChangeMaps Go.RowKit
set_option linter.unusedVariables false

/-- Find of an element of a valid list -/
theorem Find_own {A : Option Addr} {n c : Nat} {L : List TyW} {r : Int} {k : Nat} {x : TyW} (hok : TyOk (tys L) r) (hx : L[k]? = some x) (w : World) (hA : Typs w w.heap.size A n L) (hn : n ≤ maxLen) (hk : k < n) :
    Calls Try.prog 13 #[.slice A n c, aggT x] w fun e w' => e = .returned (.tuple #[.int .i64 (k : Int), .bool true]) ∧ Below w.heap.size w w' := by
  have hf := firstT_ok hok (tys_at hx)
  have h := FindT_any A n c L x w hA (hA.one x (List.mem_of_getElem? hx)) hn k (Nat.le_of_lt hk) hf.2 (fun _ => hf.1)
  rw [if_pos hk, decide_eq_true hk] at h
  exact h

set_option maxHeartbeats 4000000 in
set_option maxRecDepth 100000 in
theorem walk (A : Option Addr) (n c : Nat) (L : List TyW) (rg k : Int) (w : World) (hA : ArgY w A n c L) (hr : -9223372036854775808 ≤ rg ∧ rg ≤ 9223372036854775807) (hk : 0 ≤ k ∧ k ≤ 255) :
    Calls Try.prog 6 #[.slice A n c, .int .i64 rg, .int .u8 k] w fun e w' => e = .returned (.bool true) ∧ Below w.heap.size w w' := by
  have HA := hide hA
  have hnc := hA.nc
  have hcm := hA.cm
  have hnm : n ≤ maxLen := Nat.le_trans hA.nc hA.cm
  have HL := hide hA.typs.len
  obtain ⟨hk0, hk1⟩ := hk
  cases hbig : tyLarge (tys L)
  case true =>
    have HG := hide hbig
    clear hbig hA hr
    go_enter Try.func6, Try.ntmps6
    go_wp2_with fail
    refine (Large_is (large_yes HG.out) w HA.out.typs hnm).mono ?_
    rintro e w1 ⟨rfl, hb⟩
    have HB := hide hb
    clear hb
    go_wp2_with fail
    refine (alive06_any _).mono ?_
    rintro e w2 ⟨rfl, hb⟩
    have HB2 := hide (HB.out.trans (hb.mono HB.out.size))
    clear hb
    go_wp2_with fail
    go_ret
    exact ⟨rfl, HB2.out⟩
  have HG := hide hbig
  have hn2 : n ≤ 200 := by
    have := (tyLarge_small hbig).1
    rw [tys_len, HL.out] at this
    exact this
  have hex : ∃ u, tyChk (tys L) rg = u := ⟨_, rfl⟩
  obtain ⟨u, hu⟩ := hex
  have HU := hide hu
  unfold maxLen at hcm
  clear hbig hA hr hu
  go_enter Try.func6, Try.ntmps6
  go_wp2_with fail
  refine (Large_is (large_no HG.out) w HA.out.typs hnm).mono ?_
  rintro e w1 ⟨rfl, hb⟩
  have HB := hide hb
  clear hb
  go_wp2_with fail
  refine (RCheckT_is HU.out w1 ((HA.out.typs.below HB.out).more HB.out.size) hnm hnc).mono ?_
  rintro e w2 ⟨rfl, hb⟩
  have HB2 := hide (HB.out.trans (hb.mono HB.out.size))
  clear hb
  by_cases hu0 : u = 0
  rotate_left
  · go_wp2_with fail
    refine (alive06_any _).mono ?_
    rintro e w3 ⟨rfl, hb⟩
    have HB3 := hide (HB2.out.trans (hb.mono HB2.out.size))
    clear hb
    go_wp2_with fail
    go_ret
    exact ⟨rfl, HB3.out⟩
  subst hu0
  have HOK := hide (tyChk_iff.1 HU.out)
  obtain ⟨k, rfl⟩ := Int.eq_ofNat_of_zero_le hk0
  have hex : ∃ q, k % (n + 1) = q := ⟨_, rfl⟩
  obtain ⟨q, hq⟩ := hex
  have hqn : q ≤ n := by have := Nat.mod_lt k (show n + 1 > 0 by omega); omega
  have hqc : q ≤ c := Nat.le_trans hqn hnc
  have hmod : (k : Int) % ((n : Int) + 1) = (q : Int) := by have := congrArg (fun z : Nat => (z : Int)) hq; simpa using this
  have hmodt : (k : Int).tmod ((n : Int) + 1) = (q : Int) := by rw [Int.tmod_eq_emod_of_nonneg (by omega)]; exact hmod
  have hnz : ¬ (n : Int) + 1 = 0 := by omega
  have HP := hide (tyChk_iff.2 (HOK.out.take q))
  rw [← List.map_take] at HP
  clear hq
  go_wp2_with fail
  refine (CheckT_is HP.out w2 (((HA.out.typs.take hqn).below HB2.out).more HB2.out.size) (Nat.le_trans hqn hnm)).mono ?_
  rintro e w3 ⟨rfl, hb⟩
  have HB3 := hide (HB2.out.trans (hb.mono HB2.out.size))
  clear hb
  go_wp2_with fail
  refine (CheckT_is HU.out w3 ((HA.out.typs.below HB3.out).more HB3.out.size) hnm).mono ?_
  rintro e w4 ⟨rfl, hb⟩
  have HB4 := hide (HB3.out.trans (hb.mono HB3.out.size))
  clear hb
  go_wp2_with fail
  go_loopw [40] (fun i wr => ∃ k : Nat, i = .int .i64 (k : Int) ∧ k ≤ n ∧ Below w.heap.size w wr) (fun i _ => n - (intOf i).toNat)
  case atStart => exact ⟨0, rfl, Nat.zero_le _, HB4.out⟩
  case round =>
    obtain ⟨j, rfl, hj, hb⟩ := hrel
    have HBr := hide hb
    have hsz := hb.size
    by_cases hlt : j < n
    · have hlt' : (j : Int) < (n : Int) := by omega
      have hex : ∃ x, L[j]? = some x := ⟨_, List.getElem?_eq_getElem (by have := HL.out; omega)⟩
      obtain ⟨x, hx⟩ := hex
      obtain ⟨g, o, rfl, hgB, hone, d0, d1, d2, d3, d4⟩ := (HA.out.typs.below HBr.out).at_ hx
      have HBa := hide (hb.alloc hsz (.cells (c5 x).toArray 31))
      have HX := hide hx
      clear hx hone hb
      go_wp2_with fail
      refine (Find_own HOK.out HX.out _ ((HA.out.typs.below HBa.out).more HBa.out.size) hnm hlt).mono ?_
      rintro e w5 ⟨rfl, hb⟩
      have HB5 := hide (HBa.out.trans (hb.mono HBa.out.size))
      clear hb
      go_wp2_with fail
      go_roundw
      case rel => exact ⟨j + 1, by go_num, by omega, HB5.out⟩
      case measure => simp [intOf]; omega
    · obtain rfl : j = n := by omega
      go_wp2_with fail
      refine (alive06_any _).mono ?_
      rintro e w5 ⟨rfl, hb⟩
      have HB5 := hide (HBr.out.trans (hb.mono HBr.out.size))
      clear hb
      go_wp2_with fail
      go_ret
      exact ⟨rfl, HB5.out⟩

theorem own : ownKnob Try.prog.godebug = none := by kernel_rfl
theorem laidOut : laidOutB Try.prog = true := by kernel_rfl

set_option maxRecDepth 100000 in
/-- what the walk gives, for every argument that can be read -/
theorem contract (H : Type) (enc : TypeId × Value → H) (W : World) (base : Nat) (args : Array Value) (ds gs : List (DataW H)) (before : List MemPlace)
    (hval0 : ∀ (j : Nat) t v, Try.f6.params[j]? = some t → args[j]? = some v → Value.okWide Try.prog W .any base t v)
    (hW : DataW.Whole enc Try.prog Try.f6.params.toList Rows.typesPrefixesSpec.vars false W args.toList ds gs before) :
    Calls Try.prog 6 args W fun e W' => ∃ v, e = .returned v ∧ Rows.typesPrefixesSpec.post enc Try.prog Try.f6 false true false false W args v W' := by
  have hval : ∀ (j : Nat) t v, Try.f6.params[j]? = some t → args[j]? = some v → Value.okWide Try.prog W .any base t v := hval0
  have hW' := hW
  obtain ⟨p, q, hA0, hV, rfl, hfz, hnd⟩ := hW
  have hA : DataW.TrodAll enc Try.prog W 0 (fun _ => true) true Try.f6.params.toList args.toList ds p := hA0
  rw [Try.params6] at hA hval
  obtain ⟨v0, vs0, d0, ds0, p0, q0, hargs, rfl, rfl, h0, r0⟩ := trodAll_cons hA
  obtain ⟨v1, vs1, d1, ds1, p1, q1, rfl, rfl, rfl, h1, r1⟩ := trodAll_cons r0
  obtain ⟨v2, vs2, d2, ds2, p2, q2, rfl, rfl, rfl, h2, r2⟩ := trodAll_cons r1
  obtain ⟨rfl, rfl, rfl⟩ := trodAll_nil r2
  obtain rfl : args = #[v0, v1, v2] := by cases args; simp_all
  obtain ⟨rfl, rfl⟩ := trodVars_none hV
  have k0 := h0
  have lt0 : ∀ x ∈ p0, x.block < W.heap.size := by obtain ⟨m, hm⟩ := k0; exact DataW.trod_lt m _ _ _ hm
  obtain ⟨A0, n0, c0, xs0, rfl, g0⟩ := openTyps Try.underlying22 Try.underlying31 rfl (by kernel_rfl) (by kernel_rfl) Try.underlying3 Try.underlying4 Try.underlying3 Try.underlying3 Try.underlying29 Try.underlying3 (by kernel_rfl) (hval 0 22 v0 rfl rfl) h0
  obtain ⟨a1, rfl, rfl, rfl, w1⟩ := open_int Try.underlying3 (hval 1 3 v1 rfl rfl) h1
  have g1 : -9223372036854775808 ≤ a1 ∧ a1 ≤ 9223372036854775807 := by simpa [Lit.wf, IntKind.min, IntKind.max, IntKind.signed, IntKind.bits] using w1
  obtain ⟨a2, rfl, rfl, rfl, w2⟩ := open_int Try.underlying5 (hval 2 5 v2 rfl rfl) h2
  have g2 : 0 ≤ a2 ∧ a2 ≤ 255 := by simpa [Lit.wf, IntKind.min, IntKind.max, IntKind.signed, IntKind.bits] using w2
  clear hA0 hval0
  simp only [List.append_nil] at hW'
  refine (walk A0 n0 c0 xs0 a1 a2 W g0 g1 g2).mono fun e W' ⟨he, bel⟩ => ?_
  subst he
  exact ⟨_, rfl, _, _, _, [], _, [], hW', trodAll_mk1 (shut_bool Try.underlying4 _), (trodAll_cons_mk (Below.trod laidOut (by kernel_rfl) (of_decide_eq_true (by kernel_rfl)) k0 bel lt0) (trodAll_cons_mk (shut_int Try.underlying3 w1) (trodAll_cons_mk (shut_int Try.underlying5 w2) trodAll_mk0))), rfl, bel.frame _, fun h => by cases h⟩

set_option maxRecDepth 100000 in
theorem lifted (os : Os) (started : os.Started) (H : Type) (enc : TypeId × Value → H) :
    ReturnsInHanded {} Try.checked os 6 .any (Rows.typesPrefixesSpec.pre6 enc Try.prog Try.f6 Rows.typesPrefixesRow.domain false) (Rows.typesPrefixesSpec.post enc Try.prog Try.f6 false true false false) := by
  refine returnsInHanded_of_change (C := Try.checked) own started (by kernel_rfl) Try.func6
    (ChangeSpec.witness6 (enc := enc) (C := Try.checked) false ⟨#[], #[.slice none 0 0, .int .i64 0, .int .u8 0], []⟩ 8 (by kernel_rfl) (by kernel_rfl) (by kernel_rfl) (by kernel_rfl)) ?_
  intro W base args ds gs before hval hW _ _
  exact contract H enc W base args ds gs before hval hW

/-- the statement -/
theorem proved : Rows.TypesPrefixesSaid :=
  OpenClaim.holds_of_wide 6 Try.f6 rfl rfl rfl rfl rfl rfl rfl ⟨rfl, rfl, rfl, rfl, rfl⟩ rfl rfl rfl rfl rfl (by kernel_rfl) Try.func6 (by kernel_rfl)
    (of_decide_eq_true (by kernel_rfl)) (by unfold Func.isWrapper; first | (rw [if_pos (by decide +kernel)]; kernel_rfl) | (rw [if_neg (by decide +kernel)]; exact ⟨rfl, rfl⟩))
    (fun os started H enc _ => lifted os started H enc)
end Go.Proofs.Ytkcgonggokhneaa.typesPrefixes
