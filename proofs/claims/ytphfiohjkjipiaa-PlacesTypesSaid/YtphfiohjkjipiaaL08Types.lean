/- PlacesTypes: for every input the law returns true, and turns nothing that lay. No condition. -/
import Derived.Test.YtphfiohjkjipiaaRows
import Derived.Test.YtphfiohjkjipiaaOpenL
import Derived.Test.YtphfiohjkjipiaaOpenY
import Derived.Test.YtphfiohjkjipiaaAlive08
import Derived.Test.YtphfiohjkjipiaaLaw08
import Derived.Test.YtphfiohjkjipiaaPlaJ
namespace Go.Proofs.Ytphfiohjkjipiaa.placesTypes
open Go.ChangeShapes Go.WideShapes Go.ChangeAt Go.ChangeMaps Go.RowKit
set_option linter.unusedVariables false

set_option maxHeartbeats 8000000 in
set_option maxRecDepth 100000 in
theorem walk (At : Option Addr) (nt ct : Nat) (L : List TyW) (Al : Option Addr) (nl cl : Nat) (LL : List LcW) (x : PlW) (w : World) (hT : ArgY w At nt ct L) (hL : ArgL w Al nl cl LL) (hx : OnePl w w.heap.size x) :
    Calls Try.prog 4 #[.slice At nt ct, .slice Al nl cl, aggPl x] w fun e w' => e = .returned (.bool true) ∧ Below w.heap.size w w' := by
  have hB0 := (Below.refl w.heap.size w).alloc (Nat.le_refl _) (.cells #[.int .i64 x.l, .slice x.A x.n x.c] 24)
  have HB0 := hide hB0
  have HBX := hide (heap_alloc_new w (.cells #[.int .i64 x.l, .slice x.A x.n x.c] 24))
  have HSK := hide (skip8_any At Al nt ct nl cl L LL _ (hT.typs.up hB0) (hL.locs.up hB0) (Nat.le_trans hT.nc hT.cm) hT.nc (Nat.le_trans hL.nc hL.cm))
  have HPL := hide fun (w' : World) (hb : Below w.heap.size w w') (hok : TyOk (tys L) 1000) (hlc : LcOk (tys L) (lcs LL)) => (show Pl8 w' At Al nt nl L LL x 1000 from ⟨hT.typs.up hb, hL.locs.up hb, hx.up hb, Nat.le_trans hT.nc hT.cm, Nat.le_trans hL.nc hL.cm, hok, hlc⟩)
  obtain ⟨u, v, huv⟩ : ∃ u v, tyOfP (tys L) (lcs LL) x.l x.ps = (u, v) := ⟨_, _, rfl⟩
  obtain ⟨mm, hmm⟩ : ∃ mm, mutP (tys L) (lcs LL) x.l x.ps = mm := ⟨_, rfl⟩
  obtain ⟨rg, hrg⟩ : ∃ rg, regP (tys L) (lcs LL) x.l x.ps = rg := ⟨_, rfl⟩
  have HUV := hide huv
  have HMM := hide hmm
  have HRG := hide hrg
  have eu : (u == u) = true := beq_iff_eq.2 rfl
  have ev : (v == v) = true := beq_iff_eq.2 rfl
  have em : (mm == mm) = true := beq_iff_eq.2 rfl
  have HEQ := hide (show eqIs rg rg = true from eqIs_iff.2 rfl)
  obtain ⟨l, A, n, c, ps⟩ := x
  have hnx : n ≤ maxLen := Nat.le_trans hx.nc hx.cm
  unfold maxLen at hnx
  have HS := hide fun w' (h : Below (w.alloc (.cells #[.int .i64 l, .slice A n c] 24)).heap.size (w.alloc (.cells #[.int .i64 l, .slice A n c] 24)) w') => show Below (w.alloc (.cells #[.int .i64 l, .slice A n c] 24)).heap.size (w.alloc (.cells #[.int .i64 l, .slice A n c] 24)) w' ∧ w'.cell? ⟨w.heap.size, 0, none⟩ = some (.int .i64 l) ∧ w'.cell? ⟨w.heap.size, 1, none⟩ = some (.slice A n c) from
    ⟨h, cell_of_heap ((h.block w.heap.size (by simp)).trans HBX.out) 0, cell_of_heap ((h.block w.heap.size (by simp)).trans HBX.out) 1⟩
  clear hT hL hx hB0 huv hmm hrg
  go_enter Try.func4, Try.ntmps4
  go_wp2_with fail
  refine HSK.out.mono ?_
  rintro e w1 ⟨⟨b, rfl, hsk⟩, hb⟩
  have HB1 := hide (show Below (w.alloc (.cells #[.int .i64 l, .slice A n c] 24)).heap.size (w.alloc (.cells #[.int .i64 l, .slice A n c] 24)) w1 from hb)
  have HSKK := hide hsk
  obtain ⟨_, z0, z1⟩ := HS.out _ HB1.out
  clear hb hsk
  cases b
  rotate_left
  · go_wp2_with fail
    refine (alive08_any _).mono ?_
    rintro e w2 ⟨rfl, hb⟩
    have HB2 := hide (HB1.out.trans (hb.mono HB1.out.size))
    clear hb
    go_wp2
    go_ret
    exact ⟨rfl, HB0.out.trans (HB2.out.mono HB0.out.size)⟩
  by_cases hn : 100 < n
  · have hn' : (100 : Int) < (n : Int) := by omega
    go_wp2_with fail
    refine (alive08_any _).mono ?_
    rintro e w2 ⟨rfl, hb⟩
    have HB2 := hide (HB1.out.trans (hb.mono HB1.out.size))
    clear hb
    go_wp2
    go_ret
    exact ⟨rfl, HB0.out.trans (HB2.out.mono HB0.out.size)⟩
  have hn' : (n : Int) ≤ 100 := by omega
  have HP := hide fun (w' : World) (h : Below (w.alloc (.cells #[.int .i64 l, .slice A n c] 24)).heap.size (w.alloc (.cells #[.int .i64 l, .slice A n c] 24)) w') => HPL.out w' (HB0.out.trans (h.mono HB0.out.size)) (HSKK.out (by trivial)).2.2.1 (HSKK.out (by trivial)).2.2.2
  clear hn
  go_wp2_with fail
  refine (TypeOf_is (HP.out _ HB1.out) HUV.out).mono ?_
  rintro e w2 ⟨rfl, hb⟩
  have HB2 := hide (HB1.out.trans (hb.mono HB1.out.size))
  obtain ⟨_, z0, z1⟩ := HS.out _ HB2.out
  clear hb
  go_wp2_with fail
  refine (RTypeOf_is (HP.out _ HB2.out) HUV.out).mono ?_
  rintro e w3 ⟨rfl, hb⟩
  have HB3 := hide (HB2.out.trans (hb.mono HB2.out.size))
  obtain ⟨_, z0, z1⟩ := HS.out _ HB3.out
  have HRegs := hide fun (w' : World) (h : Below (w.alloc (.cells #[.int .i64 l, .slice A n c] 24)).heap.size (w.alloc (.cells #[.int .i64 l, .slice A n c] 24)) w') => And.intro (RegionsP_any (ct := ct) (cl := cl) (HP.out w' h)) (RRegionsP_any (ct := ct) (cl := cl) (HP.out w' h))
  rw [HRG.out] at HRegs
  clear hb
  go_wp2_with fail
  go_region_held3 (fun w' => Below (w.alloc (.cells #[.int .i64 l, .slice A n c] 24)).heap.size (w.alloc (.cells #[.int .i64 l, .slice A n c] 24)) w' ∧ w'.cell? ⟨w.heap.size, 0, none⟩ = some (.int .i64 l) ∧ w'.cell? ⟨w.heap.size, 1, none⟩ = some (.slice A n c))
    (first | exact HS.out _ (by assumption) | exact HS.out _ HB3.out | exact HS.out _ HB3.out.drew | exact HS.out _ (Below.drew (by assumption)))
    (first
      | (go_at_call 9; go_split_ands; refine (alive08_any _).mono ?_; rintro e w5 ⟨rfl, hb0⟩; have hb1 := Below.trans (by assumption : Below (w.alloc (.cells #[.int .i64 l, .slice A n c] 24)).heap.size (w.alloc (.cells #[.int .i64 l, .slice A n c] 24)) _) (hb0.mono (Below.size (by assumption : Below (w.alloc (.cells #[.int .i64 l, .slice A n c] 24)).heap.size (w.alloc (.cells #[.int .i64 l, .slice A n c] 24)) _))))
      | (go_at_call 15; go_split_ands; refine (Mutable_is (HP.out _ (by assumption : Below (w.alloc (.cells #[.int .i64 l, .slice A n c] 24)).heap.size (w.alloc (.cells #[.int .i64 l, .slice A n c] 24)) _)) HMM.out).mono ?_; rintro e w5 ⟨rfl, hb0⟩; have hb1 := Below.trans (by assumption : Below (w.alloc (.cells #[.int .i64 l, .slice A n c] 24)).heap.size (w.alloc (.cells #[.int .i64 l, .slice A n c] 24)) _) (hb0.mono (Below.size (by assumption : Below (w.alloc (.cells #[.int .i64 l, .slice A n c] 24)).heap.size (w.alloc (.cells #[.int .i64 l, .slice A n c] 24)) _))))
      | (go_at_call 16; go_split_ands; refine (RMutable_is (HP.out _ (by assumption : Below (w.alloc (.cells #[.int .i64 l, .slice A n c] 24)).heap.size (w.alloc (.cells #[.int .i64 l, .slice A n c] 24)) _)) HMM.out).mono ?_; rintro e w5 ⟨rfl, hb0⟩; have hb1 := Below.trans (by assumption : Below (w.alloc (.cells #[.int .i64 l, .slice A n c] 24)).heap.size (w.alloc (.cells #[.int .i64 l, .slice A n c] 24)) _) (hb0.mono (Below.size (by assumption : Below (w.alloc (.cells #[.int .i64 l, .slice A n c] 24)).heap.size (w.alloc (.cells #[.int .i64 l, .slice A n c] 24)) _))))
      | (go_at_call 18; go_split_ands; refine (HRegs.out _ (by assumption : Below (w.alloc (.cells #[.int .i64 l, .slice A n c] 24)).heap.size (w.alloc (.cells #[.int .i64 l, .slice A n c] 24)) _)).1.mono ?_; rintro e w5 ⟨A5, m5, c5', rfl, hm5, hmc5, hcm5, hown5, hb0⟩; have hrd5 := Rd.of_own hown5; have hb1 := Below.trans (by assumption : Below (w.alloc (.cells #[.int .i64 l, .slice A n c] 24)).heap.size (w.alloc (.cells #[.int .i64 l, .slice A n c] 24)) _) (hb0.mono (Below.size (by assumption : Below (w.alloc (.cells #[.int .i64 l, .slice A n c] 24)).heap.size (w.alloc (.cells #[.int .i64 l, .slice A n c] 24)) _))))
      | (go_at_call 19; go_split_ands; refine (HRegs.out _ (by assumption : Below (w.alloc (.cells #[.int .i64 l, .slice A n c] 24)).heap.size (w.alloc (.cells #[.int .i64 l, .slice A n c] 24)) _)).2.mono ?_; rintro e w5 ⟨A5, m5, c5', rfl, hm5, hmc5, hcm5, hown5, hb0⟩; have hrd5 := Rd.of_own hown5; have hb1 := Below.trans (by assumption : Below (w.alloc (.cells #[.int .i64 l, .slice A n c] 24)).heap.size (w.alloc (.cells #[.int .i64 l, .slice A n c] 24)) _) (hb0.mono (Below.size (by assumption : Below (w.alloc (.cells #[.int .i64 l, .slice A n c] 24)).heap.size (w.alloc (.cells #[.int .i64 l, .slice A n c] 24)) _))))
      | (go_at_call 17; go_split_ands; refine (EqI_is8 HEQ.out (Rd.below (by assumption) (by first | exact Below.refl _ _ | assumption)) (Rd.below (by assumption) (by first | exact Below.refl _ _ | assumption)) (by unfold maxLen; omega) (by unfold maxLen; omega)).mono ?_; rintro e w5 ⟨rfl, hb0⟩; have hb1 := Below.trans (by assumption : Below (w.alloc (.cells #[.int .i64 l, .slice A n c] 24)).heap.size (w.alloc (.cells #[.int .i64 l, .slice A n c] 24)) _) (hb0.mono (Below.size (by assumption : Below (w.alloc (.cells #[.int .i64 l, .slice A n c] 24)).heap.size (w.alloc (.cells #[.int .i64 l, .slice A n c] 24)) _)))))
  all_goals
    go_split_ands
    go_wp2
    go_ret
    exact ⟨rfl, HB0.out.trans (Below.mono (by assumption : Below (w.alloc (.cells #[.int .i64 l, .slice A n c] 24)).heap.size (w.alloc (.cells #[.int .i64 l, .slice A n c] 24)) _) HB0.out.size)⟩

theorem own : ownKnob Try.prog.godebug = none := by kernel_rfl
theorem laidOut : laidOutB Try.prog = true := by kernel_rfl

set_option maxRecDepth 100000 in
/-- what the walk gives, for every argument that can be read -/
theorem contract (H : Type) (enc : TypeId × Value → H) (W : World) (base : Nat) (args : Array Value) (ds gs : List (DataW H)) (before : List MemPlace)
    (hval0 : ∀ (j : Nat) t v, Try.f4.params[j]? = some t → args[j]? = some v → Value.okWide Try.prog W .any base t v)
    (hW : DataW.Whole enc Try.prog Try.f4.params.toList Rows.placesTypesSpec.vars false W args.toList ds gs before) :
    Calls Try.prog 4 args W fun e W' => ∃ v, e = .returned v ∧ Rows.placesTypesSpec.post enc Try.prog Try.f4 false true false false W args v W' := by
  have hval : ∀ (j : Nat) t v, Try.f4.params[j]? = some t → args[j]? = some v → Value.okWide Try.prog W .any base t v := hval0
  have hW' := hW
  obtain ⟨p, q, hA0, hV, rfl, hfz, hnd⟩ := hW
  have hA : DataW.TrodAll enc Try.prog W 0 (fun _ => true) true Try.f4.params.toList args.toList ds p := hA0
  rw [Try.params4] at hA hval
  obtain ⟨v0, vs0, d0, ds0, p0, q0, hargs, rfl, rfl, h0, r0⟩ := trodAll_cons hA
  obtain ⟨v1, vs1, d1, ds1, p1, q1, rfl, rfl, rfl, h1, r1⟩ := trodAll_cons r0
  obtain ⟨v2, vs2, d2, ds2, p2, q2, rfl, rfl, rfl, h2, r2⟩ := trodAll_cons r1
  obtain ⟨rfl, rfl, rfl⟩ := trodAll_nil r2
  obtain rfl : args = #[v0, v1, v2] := by cases args; simp_all
  obtain ⟨rfl, rfl⟩ := trodVars_none hV
  have k0 := h0
  have lt0 : ∀ x ∈ p0, x.block < W.heap.size := by obtain ⟨m, hm⟩ := k0; exact DataW.trod_lt m _ _ _ hm
  obtain ⟨A0, n0, c0, xs0, rfl, g0⟩ := openTyps Try.underlying30 Try.underlying48 rfl (by kernel_rfl) (by kernel_rfl) Try.underlying3 Try.underlying4 Try.underlying3 Try.underlying3 Try.underlying39 Try.underlying3 (by kernel_rfl) (hval 0 30 v0 rfl rfl) h0
  have k1 := h1
  have lt1 : ∀ x ∈ p1, x.block < W.heap.size := by obtain ⟨m, hm⟩ := k1; exact DataW.trod_lt m _ _ _ hm
  obtain ⟨A1, n1, c1, xs1, rfl, g1⟩ := openLocs Try.underlying31 Try.underlying50 (by kernel_rfl) (by kernel_rfl) Try.underlying9 Try.underlying3 (hval 1 31 v1 rfl rfl) h1
  have k2 := h2
  have lt2 : ∀ x ∈ p2, x.block < W.heap.size := by obtain ⟨m, hm⟩ := k2; exact DataW.trod_lt m _ _ _ hm
  obtain ⟨x2, rfl, g2⟩ := openPlace Try.underlying24 (by kernel_rfl) (by kernel_rfl) Try.underlying3 Try.underlying22 Try.underlying46 (by kernel_rfl) (by kernel_rfl) Try.underlying3 Try.underlying3 (hval 2 24 v2 rfl rfl) h2
  clear hA0 hval0
  simp only [List.append_nil] at hW'
  refine (walk A0 n0 c0 xs0 A1 n1 c1 xs1 x2 W g0 g1 g2).mono fun e W' ⟨he, bel⟩ => ?_
  subst he
  exact ⟨_, rfl, _, _, _, [], _, [], hW', trodAll_mk1 (shut_bool Try.underlying4 _), (trodAll_cons_mk (Below.trod laidOut (by kernel_rfl) (of_decide_eq_true (by kernel_rfl)) k0 bel lt0) (trodAll_cons_mk (Below.trod laidOut (by kernel_rfl) (of_decide_eq_true (by kernel_rfl)) k1 bel lt1) (trodAll_cons_mk (Below.trod laidOut (by kernel_rfl) (of_decide_eq_true (by kernel_rfl)) k2 bel lt2) trodAll_mk0))), rfl, bel.frame _, fun h => by cases h⟩

set_option maxRecDepth 100000 in
theorem lifted (os : Os) (started : os.Started) (H : Type) (enc : TypeId × Value → H) :
    ReturnsInHanded {} Try.checked os 4 .any (Rows.placesTypesSpec.pre6 enc Try.prog Try.f4 Rows.placesTypesRow.domain false) (Rows.placesTypesSpec.post enc Try.prog Try.f4 false true false false) := by
  refine returnsInHanded_of_change (C := Try.checked) own started (by kernel_rfl) Try.func4
    (ChangeSpec.witness6 (enc := enc) (C := Try.checked) false ⟨#[], #[.slice none 0 0, .slice none 0 0, .agg #[.int .i64 0, .slice none 0 0]], []⟩ 8 (by kernel_rfl) (by kernel_rfl) (by kernel_rfl) (by kernel_rfl)) ?_
  intro W base args ds gs before hval hW _ _
  exact contract H enc W base args ds gs before hval hW

/-- the statement -/
theorem proved : Rows.PlacesTypesSaid :=
  OpenClaim.holds_of_wide 4 Try.f4 rfl rfl rfl rfl rfl rfl rfl ⟨rfl, rfl, rfl, rfl, rfl⟩ rfl rfl rfl rfl rfl (by kernel_rfl) Try.func4 (by kernel_rfl)
    (of_decide_eq_true (by kernel_rfl)) (by unfold Func.isWrapper; first | (rw [if_pos (by decide +kernel)]; kernel_rfl) | (rw [if_neg (by decide +kernel)]; exact ⟨rfl, rfl⟩))
    (fun os started H enc _ => lifted os started H enc)
end Go.Proofs.Ytphfiohjkjipiaa.placesTypes
