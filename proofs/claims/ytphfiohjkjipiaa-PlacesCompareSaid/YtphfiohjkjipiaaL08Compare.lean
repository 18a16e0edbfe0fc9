/- PlacesCompare: for every input the law returns true, and turns nothing that lay. No condition. -/
import Derived.Test.YtphfiohjkjipiaaRows
import Derived.Test.YtphfiohjkjipiaaOpenL
import Derived.Test.YtphfiohjkjipiaaAlive08
namespace Go.Proofs.Ytphfiohjkjipiaa.placesCompare
open Go.ChangeShapes Go.WideShapes Go.ChangeAt Go.ChangeMaps Go.RowKit
set_option linter.unusedVariables false

set_option maxHeartbeats 8000000 in
set_option maxRecDepth 100000 in
theorem walk (x y : PlW) (f : Int) (w : World) (hx : OnePl w w.heap.size x) (hy : OnePl w w.heap.size y) (_hf : -9223372036854775808 ≤ f ∧ f ≤ 9223372036854775807) :
    Calls Try.prog 5 #[aggPl x, aggPl y, .int .i64 f] w fun e w' => e = .returned (.bool true) ∧ Below w.heap.size w w' := by
  have HB0 := hide (box2_below w x y)
  obtain ⟨v1, hv1⟩ : ∃ v, eqPl x y = v := ⟨_, rfl⟩
  obtain ⟨v2, hv2⟩ : ∃ v, prePl x y = v := ⟨_, rfl⟩
  obtain ⟨v3, hv3⟩ : ∃ v, hasD x.ps f = v := ⟨_, rfl⟩
  have HC1 := hide fun (w' : World) (hb : Below w.heap.size w w') => And.intro (EqualP_is hv1 w' (hx.up hb) (hy.up hb)) (REqualP_is hv1 w' (hx.up hb) (hy.up hb))
  have HC2 := hide fun (w' : World) (hb : Below w.heap.size w w') => And.intro (IsPrefix_is hv2 w' (hx.up hb) (hy.up hb)) (RIsPrefix_is hv2 w' (hx.up hb) (hy.up hb))
  have HC3 := hide fun (w' : World) (hb : Below w.heap.size w w') => And.intro (HasDeref_is hv3 w' (hx.up hb)) (RHasDeref_is hv3 w' (hx.up hb))
  have hs := hide fun (w' : World) (h : Below (box2 w x y).heap.size (box2 w x y) w') => box2_cells h
  have hxn := Nat.le_trans hx.nc hx.cm
  have hyn := Nat.le_trans hy.nc hy.cm
  unfold maxLen at hxn hyn
  obtain ⟨l, A, n, c, ps⟩ := x
  obtain ⟨l', A', n', c', ps'⟩ := y
  simp only [] at hxn hyn HC1 HC2 HC3
  have HS := hide fun (w' : World) (h : Below (box2 w ⟨l, A, n, c, ps⟩ ⟨l', A', n', c', ps'⟩).heap.size (box2 w ⟨l, A, n, c, ps⟩ ⟨l', A', n', c', ps'⟩) w') => show Below (box2 w ⟨l, A, n, c, ps⟩ ⟨l', A', n', c', ps'⟩).heap.size (box2 w ⟨l, A, n, c, ps⟩ ⟨l', A', n', c', ps'⟩) w' ∧ w'.cell? ⟨w.heap.size, 0, none⟩ = some (.int .i64 l) ∧ w'.cell? ⟨w.heap.size, 1, none⟩ = some (.slice A n c) ∧ w'.cell? ⟨w.heap.size + 1, 0, none⟩ = some (.int .i64 l') ∧ w'.cell? ⟨w.heap.size + 1, 1, none⟩ = some (.slice A' n' c') from ⟨h, hs.out _ h⟩
  have e1 : (v1 == v1) = true := beq_iff_eq.2 rfl
  have e2 : (v2 == v2) = true := beq_iff_eq.2 rfl
  have e3 : (v3 == v3) = true := beq_iff_eq.2 rfl
  clear hx hy hv1 hv2 hv3
  go_enter Try.func5, Try.ntmps5
  go_wp2_with fail
  · change Calls _ _ _ (box2 w ⟨l, A, n, c, ps⟩ ⟨l', A', n', c', ps'⟩) _
    refine (alive08_any _).mono ?_
    rintro e w1 ⟨rfl, hb⟩
    have HB1 := hide (HB0.out.trans (hb.mono HB0.out.size))
    clear hb
    go_wp2
    go_ret
    exact ⟨rfl, HB1.out⟩
  · change Code.wp _ _ _ _ (box2 w ⟨l, A, n, c, ps⟩ ⟨l', A', n', c', ps'⟩)
    go_region_held3 (fun w' => Below (box2 w ⟨l, A, n, c, ps⟩ ⟨l', A', n', c', ps'⟩).heap.size (box2 w ⟨l, A, n, c, ps⟩ ⟨l', A', n', c', ps'⟩) w' ∧ w'.cell? ⟨w.heap.size, 0, none⟩ = some (.int .i64 l) ∧ w'.cell? ⟨w.heap.size, 1, none⟩ = some (.slice A n c) ∧ w'.cell? ⟨w.heap.size + 1, 0, none⟩ = some (.int .i64 l') ∧ w'.cell? ⟨w.heap.size + 1, 1, none⟩ = some (.slice A' n' c'))
      (first | exact HS.out _ (by assumption) | exact HS.out _ (Below.refl _ _) | exact HS.out _ (Below.refl _ _).drew | exact HS.out _ (Below.drew (by assumption)))
      (first
        | (go_at_call 9; go_split_ands; refine (alive08_any _).mono ?_; rintro e w5 ⟨rfl, hb0⟩; have hb1 := Below.trans (by assumption : Below (box2 w ⟨l, A, n, c, ps⟩ ⟨l', A', n', c', ps'⟩).heap.size (box2 w ⟨l, A, n, c, ps⟩ ⟨l', A', n', c', ps'⟩) _) (hb0.mono (Below.size (by assumption : Below (box2 w ⟨l, A, n, c, ps⟩ ⟨l', A', n', c', ps'⟩).heap.size (box2 w ⟨l, A, n, c, ps⟩ ⟨l', A', n', c', ps'⟩) _))))
        | (go_at_call 20; go_split_ands; refine ((HC1.out _ (HB0.out.trans (Below.mono (by assumption : Below (box2 w ⟨l, A, n, c, ps⟩ ⟨l', A', n', c', ps'⟩).heap.size (box2 w ⟨l, A, n, c, ps⟩ ⟨l', A', n', c', ps'⟩) _) HB0.out.size))).1).mono ?_; rintro e w5 ⟨rfl, hb0⟩; have hb1 := Below.trans (by assumption : Below (box2 w ⟨l, A, n, c, ps⟩ ⟨l', A', n', c', ps'⟩).heap.size (box2 w ⟨l, A, n, c, ps⟩ ⟨l', A', n', c', ps'⟩) _) (hb0.mono (Below.size (by assumption : Below (box2 w ⟨l, A, n, c, ps⟩ ⟨l', A', n', c', ps'⟩).heap.size (box2 w ⟨l, A, n, c, ps⟩ ⟨l', A', n', c', ps'⟩) _))))
        | (go_at_call 21; go_split_ands; refine ((HC1.out _ (HB0.out.trans (Below.mono (by assumption : Below (box2 w ⟨l, A, n, c, ps⟩ ⟨l', A', n', c', ps'⟩).heap.size (box2 w ⟨l, A, n, c, ps⟩ ⟨l', A', n', c', ps'⟩) _) HB0.out.size))).2).mono ?_; rintro e w5 ⟨rfl, hb0⟩; have hb1 := Below.trans (by assumption : Below (box2 w ⟨l, A, n, c, ps⟩ ⟨l', A', n', c', ps'⟩).heap.size (box2 w ⟨l, A, n, c, ps⟩ ⟨l', A', n', c', ps'⟩) _) (hb0.mono (Below.size (by assumption : Below (box2 w ⟨l, A, n, c, ps⟩ ⟨l', A', n', c', ps'⟩).heap.size (box2 w ⟨l, A, n, c, ps⟩ ⟨l', A', n', c', ps'⟩) _))))
        | (go_at_call 22; go_split_ands; refine ((HC2.out _ (HB0.out.trans (Below.mono (by assumption : Below (box2 w ⟨l, A, n, c, ps⟩ ⟨l', A', n', c', ps'⟩).heap.size (box2 w ⟨l, A, n, c, ps⟩ ⟨l', A', n', c', ps'⟩) _) HB0.out.size))).1).mono ?_; rintro e w5 ⟨rfl, hb0⟩; have hb1 := Below.trans (by assumption : Below (box2 w ⟨l, A, n, c, ps⟩ ⟨l', A', n', c', ps'⟩).heap.size (box2 w ⟨l, A, n, c, ps⟩ ⟨l', A', n', c', ps'⟩) _) (hb0.mono (Below.size (by assumption : Below (box2 w ⟨l, A, n, c, ps⟩ ⟨l', A', n', c', ps'⟩).heap.size (box2 w ⟨l, A, n, c, ps⟩ ⟨l', A', n', c', ps'⟩) _))))
        | (go_at_call 23; go_split_ands; refine ((HC2.out _ (HB0.out.trans (Below.mono (by assumption : Below (box2 w ⟨l, A, n, c, ps⟩ ⟨l', A', n', c', ps'⟩).heap.size (box2 w ⟨l, A, n, c, ps⟩ ⟨l', A', n', c', ps'⟩) _) HB0.out.size))).2).mono ?_; rintro e w5 ⟨rfl, hb0⟩; have hb1 := Below.trans (by assumption : Below (box2 w ⟨l, A, n, c, ps⟩ ⟨l', A', n', c', ps'⟩).heap.size (box2 w ⟨l, A, n, c, ps⟩ ⟨l', A', n', c', ps'⟩) _) (hb0.mono (Below.size (by assumption : Below (box2 w ⟨l, A, n, c, ps⟩ ⟨l', A', n', c', ps'⟩).heap.size (box2 w ⟨l, A, n, c, ps⟩ ⟨l', A', n', c', ps'⟩) _))))
        | (go_at_call 24; go_split_ands; refine ((HC3.out _ (HB0.out.trans (Below.mono (by assumption : Below (box2 w ⟨l, A, n, c, ps⟩ ⟨l', A', n', c', ps'⟩).heap.size (box2 w ⟨l, A, n, c, ps⟩ ⟨l', A', n', c', ps'⟩) _) HB0.out.size))).1).mono ?_; rintro e w5 ⟨rfl, hb0⟩; have hb1 := Below.trans (by assumption : Below (box2 w ⟨l, A, n, c, ps⟩ ⟨l', A', n', c', ps'⟩).heap.size (box2 w ⟨l, A, n, c, ps⟩ ⟨l', A', n', c', ps'⟩) _) (hb0.mono (Below.size (by assumption : Below (box2 w ⟨l, A, n, c, ps⟩ ⟨l', A', n', c', ps'⟩).heap.size (box2 w ⟨l, A, n, c, ps⟩ ⟨l', A', n', c', ps'⟩) _))))
        | (go_at_call 25; go_split_ands; refine ((HC3.out _ (HB0.out.trans (Below.mono (by assumption : Below (box2 w ⟨l, A, n, c, ps⟩ ⟨l', A', n', c', ps'⟩).heap.size (box2 w ⟨l, A, n, c, ps⟩ ⟨l', A', n', c', ps'⟩) _) HB0.out.size))).2).mono ?_; rintro e w5 ⟨rfl, hb0⟩; have hb1 := Below.trans (by assumption : Below (box2 w ⟨l, A, n, c, ps⟩ ⟨l', A', n', c', ps'⟩).heap.size (box2 w ⟨l, A, n, c, ps⟩ ⟨l', A', n', c', ps'⟩) _) (hb0.mono (Below.size (by assumption : Below (box2 w ⟨l, A, n, c, ps⟩ ⟨l', A', n', c', ps'⟩).heap.size (box2 w ⟨l, A, n, c, ps⟩ ⟨l', A', n', c', ps'⟩) _)))))
    all_goals
      go_split_ands
      go_wp2
      go_ret
      exact ⟨rfl, HB0.out.trans (Below.mono (by assumption : Below (box2 w ⟨l, A, n, c, ps⟩ ⟨l', A', n', c', ps'⟩).heap.size (box2 w ⟨l, A, n, c, ps⟩ ⟨l', A', n', c', ps'⟩) _) HB0.out.size)⟩

theorem own : ownKnob Try.prog.godebug = none := by kernel_rfl
theorem laidOut : laidOutB Try.prog = true := by kernel_rfl

set_option maxRecDepth 100000 in
/-- what the walk gives, for every argument that can be read -/
theorem contract (H : Type) (enc : TypeId × Value → H) (W : World) (base : Nat) (args : Array Value) (ds gs : List (DataW H)) (before : List MemPlace)
    (hval0 : ∀ (j : Nat) t v, Try.f5.params[j]? = some t → args[j]? = some v → Value.okWide Try.prog W .any base t v)
    (hW : DataW.Whole enc Try.prog Try.f5.params.toList Rows.placesCompareSpec.vars false W args.toList ds gs before) :
    Calls Try.prog 5 args W fun e W' => ∃ v, e = .returned v ∧ Rows.placesCompareSpec.post enc Try.prog Try.f5 false true false false W args v W' := by
  have hval : ∀ (j : Nat) t v, Try.f5.params[j]? = some t → args[j]? = some v → Value.okWide Try.prog W .any base t v := hval0
  have hW' := hW
  obtain ⟨p, q, hA0, hV, rfl, hfz, hnd⟩ := hW
  have hA : DataW.TrodAll enc Try.prog W 0 (fun _ => true) true Try.f5.params.toList args.toList ds p := hA0
  rw [Try.params5] at hA hval
  obtain ⟨v0, vs0, d0, ds0, p0, q0, hargs, rfl, rfl, h0, r0⟩ := trodAll_cons hA
  obtain ⟨v1, vs1, d1, ds1, p1, q1, rfl, rfl, rfl, h1, r1⟩ := trodAll_cons r0
  obtain ⟨v2, vs2, d2, ds2, p2, q2, rfl, rfl, rfl, h2, r2⟩ := trodAll_cons r1
  obtain ⟨rfl, rfl, rfl⟩ := trodAll_nil r2
  obtain rfl : args = #[v0, v1, v2] := by cases args; simp_all
  obtain ⟨rfl, rfl⟩ := trodVars_none hV
  have k0 := h0
  have lt0 : ∀ x ∈ p0, x.block < W.heap.size := by obtain ⟨m, hm⟩ := k0; exact DataW.trod_lt m _ _ _ hm
  obtain ⟨x0, rfl, g0⟩ := openPlace Try.underlying24 (by kernel_rfl) (by kernel_rfl) Try.underlying3 Try.underlying22 Try.underlying46 (by kernel_rfl) (by kernel_rfl) Try.underlying3 Try.underlying3 (hval 0 24 v0 rfl rfl) h0
  have k1 := h1
  have lt1 : ∀ x ∈ p1, x.block < W.heap.size := by obtain ⟨m, hm⟩ := k1; exact DataW.trod_lt m _ _ _ hm
  obtain ⟨x1, rfl, g1⟩ := openPlace Try.underlying24 (by kernel_rfl) (by kernel_rfl) Try.underlying3 Try.underlying22 Try.underlying46 (by kernel_rfl) (by kernel_rfl) Try.underlying3 Try.underlying3 (hval 1 24 v1 rfl rfl) h1
  obtain ⟨a2, rfl, rfl, rfl, w2⟩ := open_int Try.underlying3 (hval 2 3 v2 rfl rfl) h2
  have g2 : -9223372036854775808 ≤ a2 ∧ a2 ≤ 9223372036854775807 := by simpa [Lit.wf, IntKind.min, IntKind.max, IntKind.signed, IntKind.bits] using w2
  clear hA0 hval0
  simp only [List.append_nil] at hW'
  refine (walk x0 x1 a2 W g0 g1 g2).mono fun e W' ⟨he, bel⟩ => ?_
  subst he
  exact ⟨_, rfl, _, _, _, [], _, [], hW', trodAll_mk1 (shut_bool Try.underlying4 _), (trodAll_cons_mk (Below.trod laidOut (by kernel_rfl) (of_decide_eq_true (by kernel_rfl)) k0 bel lt0) (trodAll_cons_mk (Below.trod laidOut (by kernel_rfl) (of_decide_eq_true (by kernel_rfl)) k1 bel lt1) (trodAll_cons_mk (shut_int Try.underlying3 w2) trodAll_mk0))), rfl, bel.frame _, fun h => by cases h⟩

set_option maxRecDepth 100000 in
theorem lifted (os : Os) (started : os.Started) (H : Type) (enc : TypeId × Value → H) :
    ReturnsInHanded {} Try.checked os 5 .any (Rows.placesCompareSpec.pre6 enc Try.prog Try.f5 Rows.placesCompareRow.domain false) (Rows.placesCompareSpec.post enc Try.prog Try.f5 false true false false) := by
  refine returnsInHanded_of_change (C := Try.checked) own started (by kernel_rfl) Try.func5
    (ChangeSpec.witness6 (enc := enc) (C := Try.checked) false ⟨#[], #[.agg #[.int .i64 0, .slice none 0 0], .agg #[.int .i64 0, .slice none 0 0], .int .i64 0], []⟩ 8 (by kernel_rfl) (by kernel_rfl) (by kernel_rfl) (by kernel_rfl)) ?_
  intro W base args ds gs before hval hW _ _
  exact contract H enc W base args ds gs before hval hW

/-- the statement -/
theorem proved : Rows.PlacesCompareSaid :=
  OpenClaim.holds_of_wide 5 Try.f5 rfl rfl rfl rfl rfl rfl rfl ⟨rfl, rfl, rfl, rfl, rfl⟩ rfl rfl rfl rfl rfl (by kernel_rfl) Try.func5 (by kernel_rfl)
    (of_decide_eq_true (by kernel_rfl)) (by unfold Func.isWrapper; first | (rw [if_pos (by decide +kernel)]; kernel_rfl) | (rw [if_neg (by decide +kernel)]; exact ⟨rfl, rfl⟩))
    (fun os started H enc _ => lifted os started H enc)
end Go.Proofs.Ytphfiohjkjipiaa.placesCompare
