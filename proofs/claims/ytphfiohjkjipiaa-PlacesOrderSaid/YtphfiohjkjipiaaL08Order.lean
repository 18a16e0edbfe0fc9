/- PlacesOrder: for every input the law returns true, and turns nothing that lay. No condition. -/
import Derived.Test.YtphfiohjkjipiaaRows
import Derived.Test.YtphfiohjkjipiaaOpenL
import Derived.Test.YtphfiohjkjipiaaAlive08
namespace Go.Proofs.Ytphfiohjkjipiaa.placesOrder
open Go.ChangeShapes Go.WideShapes Go.ChangeAt Go.ChangeMaps Go.RowKit
set_option linter.unusedVariables false

/-! ### the order -/
theorem pre_refl (x : PlW) : prePl x x = true := prePl_iff.2 ⟨rfl, List.prefix_rfl⟩
theorem pre_anti (x y : PlW) : (prePl x y && prePl y x) = eqPl x y := by
  rw [Bool.eq_iff_iff, Bool.and_eq_true, prePl_iff, prePl_iff, eqPl_iff]
  constructor
  · rintro ⟨⟨h1, h2⟩, _, h3⟩
    exact ⟨h1, h2.eq_of_length_le h3.length_le⟩
  · rintro ⟨h1, h2⟩
    exact ⟨⟨h1, h2 ▸ List.prefix_rfl⟩, h1.symm, h2 ▸ List.prefix_rfl⟩
theorem pre_trans {x y z : PlW} (h : prePl x y = true) (k : prePl y z = true) : prePl x z = true := by
  rw [prePl_iff] at h k ⊢
  exact ⟨h.1.trans k.1, h.2.trans k.2⟩

/-- the world with the three places in boxes -/
def box3 (w : World) (x y z : PlW) : World := (box2 w x y).alloc (.cells #[.int .i64 z.l, .slice z.A z.n z.c] 24)
theorem box3_size (w : World) (x y z : PlW) : (box3 w x y z).heap.size = w.heap.size + 3 := by unfold box3 box2; simp
theorem box3_below2 (w : World) (x y z : PlW) : Below (box2 w x y).heap.size (box2 w x y) (box3 w x y z) := (Below.refl _ _).alloc (Nat.le_refl _) _
theorem box3_below (w : World) (x y z : PlW) : Below w.heap.size w (box3 w x y z) := (box2_below w x y).trans ((box3_below2 w x y z).mono (by unfold box2; simp <;> omega))
theorem box3_cells {w w' : World} {x y z : PlW} (h : Below (box3 w x y z).heap.size (box3 w x y z) w') : w'.cell? ⟨w.heap.size, 0, none⟩ = some (.int .i64 x.l) ∧ w'.cell? ⟨w.heap.size, 1, none⟩ = some (.slice x.A x.n x.c) ∧ w'.cell? ⟨w.heap.size + 1, 0, none⟩ = some (.int .i64 y.l) ∧ w'.cell? ⟨w.heap.size + 1, 1, none⟩ = some (.slice y.A y.n y.c) ∧ w'.cell? ⟨w.heap.size + 1 + 1, 0, none⟩ = some (.int .i64 z.l) ∧ w'.cell? ⟨w.heap.size + 1 + 1, 1, none⟩ = some (.slice z.A z.n z.c) := by
  have hs2 : (box2 w x y).heap.size = w.heap.size + 2 := by unfold box2; simp
  obtain ⟨a, b, c, d⟩ := box2_cells (w' := w') (x := x) (y := y) ((box3_below2 w x y z).trans (h.mono (by rw [box3_size, hs2]; omega)))
  have h1 := heap_alloc_new (box2 w x y) (.cells #[.int .i64 z.l, .slice z.A z.n z.c] 24)
  rw [hs2] at h1
  have h2 := (h.block (w.heap.size + 2) (by rw [box3_size]; omega)).trans h1
  exact ⟨a, b, c, d, cell_of_heap h2 0, cell_of_heap h2 1⟩

set_option maxHeartbeats 8000000 in
set_option maxRecDepth 100000 in
theorem walk (x y z : PlW) (w : World) (hx : OnePl w w.heap.size x) (hy : OnePl w w.heap.size y) (hz : OnePl w w.heap.size z) :
    Calls Try.prog 6 #[aggPl x, aggPl y, aggPl z] w fun e w' => e = .returned (.bool true) ∧ Below w.heap.size w w' := by
  have HB0 := hide (box3_below w x y z)
  obtain ⟨v1, hv1⟩ : ∃ v, prePl x y = v := ⟨_, rfl⟩
  obtain ⟨v2, hv2⟩ : ∃ v, prePl y x = v := ⟨_, rfl⟩
  obtain ⟨v3, hv3⟩ : ∃ v, prePl y z = v := ⟨_, rfl⟩
  obtain ⟨v4, hv4⟩ : ∃ v, prePl x z = v := ⟨_, rfl⟩
  have HE := hide (show eqPl x y = (v1 && v2) by rw [← hv1, ← hv2, pre_anti])
  have HT := hide (show v1 = true → v3 = true → v4 = true from fun h k => by rw [← hv4]; exact pre_trans (hv1.trans h) (hv3.trans k))
  have H1 := hide fun (w' : World) (hb : Below w.heap.size w w') => IsPrefix_is hv1 w' (hx.up hb) (hy.up hb)
  have H2 := hide fun (w' : World) (hb : Below w.heap.size w w') => IsPrefix_is hv2 w' (hy.up hb) (hx.up hb)
  have H3 := hide fun (w' : World) (hb : Below w.heap.size w w') => IsPrefix_is hv3 w' (hy.up hb) (hz.up hb)
  have H4 := hide fun (w' : World) (hb : Below w.heap.size w w') => IsPrefix_is hv4 w' (hx.up hb) (hz.up hb)
  have H5 := hide fun (w' : World) (hb : Below w.heap.size w w') => IsPrefix_is (pre_refl x) w' (hx.up hb) (hx.up hb)
  have H6 := hide fun (w' : World) (hb : Below w.heap.size w w') => EqualP_is HE.out w' (hx.up hb) (hy.up hb)
  have hs := hide fun (w' : World) (h : Below (box3 w x y z).heap.size (box3 w x y z) w') => box3_cells h
  have hxn := Nat.le_trans hx.nc hx.cm
  have hyn := Nat.le_trans hy.nc hy.cm
  have hzn := Nat.le_trans hz.nc hz.cm
  unfold maxLen at hxn hyn hzn
  obtain ⟨l, A, n, c, ps⟩ := x
  obtain ⟨l', A', n', c', ps'⟩ := y
  obtain ⟨l2, A2, n2, c2, ps2⟩ := z
  simp only [] at hxn hyn hzn H1 H2 H3 H4 H5 H6
  have HS := hide fun (w' : World) (h : Below (box3 w ⟨l, A, n, c, ps⟩ ⟨l', A', n', c', ps'⟩ ⟨l2, A2, n2, c2, ps2⟩).heap.size (box3 w ⟨l, A, n, c, ps⟩ ⟨l', A', n', c', ps'⟩ ⟨l2, A2, n2, c2, ps2⟩) w') => show Below (box3 w ⟨l, A, n, c, ps⟩ ⟨l', A', n', c', ps'⟩ ⟨l2, A2, n2, c2, ps2⟩).heap.size (box3 w ⟨l, A, n, c, ps⟩ ⟨l', A', n', c', ps'⟩ ⟨l2, A2, n2, c2, ps2⟩) w' ∧ w'.cell? ⟨w.heap.size, 0, none⟩ = some (.int .i64 l) ∧ w'.cell? ⟨w.heap.size, 1, none⟩ = some (.slice A n c) ∧ w'.cell? ⟨w.heap.size + 1, 0, none⟩ = some (.int .i64 l') ∧ w'.cell? ⟨w.heap.size + 1, 1, none⟩ = some (.slice A' n' c') ∧ w'.cell? ⟨w.heap.size + 1 + 1, 0, none⟩ = some (.int .i64 l2) ∧ w'.cell? ⟨w.heap.size + 1 + 1, 1, none⟩ = some (.slice A2 n2 c2) from ⟨h, hs.out _ h⟩
  have e2 : (v2 == v2) = true := beq_iff_eq.2 rfl
  clear hx hy hz hv1 hv2 hv3 hv4
  go_enter Try.func6, Try.ntmps6
  go_wp2_with fail
  · change Calls _ _ _ (box3 w ⟨l, A, n, c, ps⟩ ⟨l', A', n', c', ps'⟩ ⟨l2, A2, n2, c2, ps2⟩) _
    refine (alive08_any _).mono ?_
    rintro e w1 ⟨rfl, hb⟩
    have HB1 := hide (HB0.out.trans (hb.mono HB0.out.size))
    clear hb
    go_wp2
    go_ret
    exact ⟨rfl, HB1.out⟩
  · change Code.wp _ _ _ _ (box3 w ⟨l, A, n, c, ps⟩ ⟨l', A', n', c', ps'⟩ ⟨l2, A2, n2, c2, ps2⟩)
    go_region_held3 (fun w' => Below (box3 w ⟨l, A, n, c, ps⟩ ⟨l', A', n', c', ps'⟩ ⟨l2, A2, n2, c2, ps2⟩).heap.size (box3 w ⟨l, A, n, c, ps⟩ ⟨l', A', n', c', ps'⟩ ⟨l2, A2, n2, c2, ps2⟩) w' ∧ w'.cell? ⟨w.heap.size, 0, none⟩ = some (.int .i64 l) ∧ w'.cell? ⟨w.heap.size, 1, none⟩ = some (.slice A n c) ∧ w'.cell? ⟨w.heap.size + 1, 0, none⟩ = some (.int .i64 l') ∧ w'.cell? ⟨w.heap.size + 1, 1, none⟩ = some (.slice A' n' c') ∧ w'.cell? ⟨w.heap.size + 1 + 1, 0, none⟩ = some (.int .i64 l2) ∧ w'.cell? ⟨w.heap.size + 1 + 1, 1, none⟩ = some (.slice A2 n2 c2))
      (first | exact HS.out _ (by assumption) | exact HS.out _ (Below.refl _ _) | exact HS.out _ (Below.refl _ _).drew | exact HS.out _ (Below.drew (by assumption)))
      (first
        | (go_at_call 22; with_reducible change Calls _ _ #[.agg #[.int .i64 l, _], .agg #[.int .i64 l', _]] _ _; go_split_ands; refine (H1.out _ (HB0.out.trans (Below.mono (by assumption : Below (box3 w ⟨l, A, n, c, ps⟩ ⟨l', A', n', c', ps'⟩ ⟨l2, A2, n2, c2, ps2⟩).heap.size (box3 w ⟨l, A, n, c, ps⟩ ⟨l', A', n', c', ps'⟩ ⟨l2, A2, n2, c2, ps2⟩) _) HB0.out.size))).mono ?_; rintro e w5 ⟨rfl, hb0⟩; have hb1 := Below.trans (by assumption : Below (box3 w ⟨l, A, n, c, ps⟩ ⟨l', A', n', c', ps'⟩ ⟨l2, A2, n2, c2, ps2⟩).heap.size (box3 w ⟨l, A, n, c, ps⟩ ⟨l', A', n', c', ps'⟩ ⟨l2, A2, n2, c2, ps2⟩) _) (hb0.mono (Below.size (by assumption : Below (box3 w ⟨l, A, n, c, ps⟩ ⟨l', A', n', c', ps'⟩ ⟨l2, A2, n2, c2, ps2⟩).heap.size (box3 w ⟨l, A, n, c, ps⟩ ⟨l', A', n', c', ps'⟩ ⟨l2, A2, n2, c2, ps2⟩) _))))
        | (go_at_call 22; with_reducible change Calls _ _ #[.agg #[.int .i64 l', _], .agg #[.int .i64 l, _]] _ _; go_split_ands; refine (H2.out _ (HB0.out.trans (Below.mono (by assumption : Below (box3 w ⟨l, A, n, c, ps⟩ ⟨l', A', n', c', ps'⟩ ⟨l2, A2, n2, c2, ps2⟩).heap.size (box3 w ⟨l, A, n, c, ps⟩ ⟨l', A', n', c', ps'⟩ ⟨l2, A2, n2, c2, ps2⟩) _) HB0.out.size))).mono ?_; rintro e w5 ⟨rfl, hb0⟩; have hb1 := Below.trans (by assumption : Below (box3 w ⟨l, A, n, c, ps⟩ ⟨l', A', n', c', ps'⟩ ⟨l2, A2, n2, c2, ps2⟩).heap.size (box3 w ⟨l, A, n, c, ps⟩ ⟨l', A', n', c', ps'⟩ ⟨l2, A2, n2, c2, ps2⟩) _) (hb0.mono (Below.size (by assumption : Below (box3 w ⟨l, A, n, c, ps⟩ ⟨l', A', n', c', ps'⟩ ⟨l2, A2, n2, c2, ps2⟩).heap.size (box3 w ⟨l, A, n, c, ps⟩ ⟨l', A', n', c', ps'⟩ ⟨l2, A2, n2, c2, ps2⟩) _))))
        | (go_at_call 22; with_reducible change Calls _ _ #[.agg #[.int .i64 l', _], .agg #[.int .i64 l2, _]] _ _; go_split_ands; refine (H3.out _ (HB0.out.trans (Below.mono (by assumption : Below (box3 w ⟨l, A, n, c, ps⟩ ⟨l', A', n', c', ps'⟩ ⟨l2, A2, n2, c2, ps2⟩).heap.size (box3 w ⟨l, A, n, c, ps⟩ ⟨l', A', n', c', ps'⟩ ⟨l2, A2, n2, c2, ps2⟩) _) HB0.out.size))).mono ?_; rintro e w5 ⟨rfl, hb0⟩; have hb1 := Below.trans (by assumption : Below (box3 w ⟨l, A, n, c, ps⟩ ⟨l', A', n', c', ps'⟩ ⟨l2, A2, n2, c2, ps2⟩).heap.size (box3 w ⟨l, A, n, c, ps⟩ ⟨l', A', n', c', ps'⟩ ⟨l2, A2, n2, c2, ps2⟩) _) (hb0.mono (Below.size (by assumption : Below (box3 w ⟨l, A, n, c, ps⟩ ⟨l', A', n', c', ps'⟩ ⟨l2, A2, n2, c2, ps2⟩).heap.size (box3 w ⟨l, A, n, c, ps⟩ ⟨l', A', n', c', ps'⟩ ⟨l2, A2, n2, c2, ps2⟩) _))))
        | (go_at_call 22; with_reducible change Calls _ _ #[.agg #[.int .i64 l, _], .agg #[.int .i64 l2, _]] _ _; go_split_ands; refine (H4.out _ (HB0.out.trans (Below.mono (by assumption : Below (box3 w ⟨l, A, n, c, ps⟩ ⟨l', A', n', c', ps'⟩ ⟨l2, A2, n2, c2, ps2⟩).heap.size (box3 w ⟨l, A, n, c, ps⟩ ⟨l', A', n', c', ps'⟩ ⟨l2, A2, n2, c2, ps2⟩) _) HB0.out.size))).mono ?_; rintro e w5 ⟨rfl, hb0⟩; have hb1 := Below.trans (by assumption : Below (box3 w ⟨l, A, n, c, ps⟩ ⟨l', A', n', c', ps'⟩ ⟨l2, A2, n2, c2, ps2⟩).heap.size (box3 w ⟨l, A, n, c, ps⟩ ⟨l', A', n', c', ps'⟩ ⟨l2, A2, n2, c2, ps2⟩) _) (hb0.mono (Below.size (by assumption : Below (box3 w ⟨l, A, n, c, ps⟩ ⟨l', A', n', c', ps'⟩ ⟨l2, A2, n2, c2, ps2⟩).heap.size (box3 w ⟨l, A, n, c, ps⟩ ⟨l', A', n', c', ps'⟩ ⟨l2, A2, n2, c2, ps2⟩) _)))))
    all_goals
      go_split_ands
      have HB1 := hide (by assumption : Below (box3 w ⟨l, A, n, c, ps⟩ ⟨l', A', n', c', ps'⟩ ⟨l2, A2, n2, c2, ps2⟩).heap.size (box3 w ⟨l, A, n, c, ps⟩ ⟨l', A', n', c', ps'⟩ ⟨l2, A2, n2, c2, ps2⟩) _)
      have HB1w := hide (HB0.out.trans (HB1.out.mono HB0.out.size))
      cases v1
      · simp only [Bool.false_and] at H6
        go_wp2_with fail
        refine (alive08_any _).mono ?_
        rintro e w6 ⟨rfl, hb⟩
        have HB2 := hide (HB1.out.trans (hb.mono HB1.out.size))
        obtain ⟨_, a0, a1, a2, a3, a4, a5⟩ := HS.out _ HB2.out
        clear hb
        go_wp2_with fail
        refine (H5.out _ (HB0.out.trans (HB2.out.mono HB0.out.size))).mono ?_
        rintro e w7 ⟨rfl, hb⟩
        have HB3 := hide (HB2.out.trans (hb.mono HB2.out.size))
        obtain ⟨_, a0, a1, a2, a3, a4, a5⟩ := HS.out _ HB3.out
        clear hb
        go_wp2_with fail
        refine (H6.out _ (HB0.out.trans (HB3.out.mono HB0.out.size))).mono ?_
        rintro e w8 ⟨rfl, hb⟩
        have HB4 := hide (HB3.out.trans (hb.mono HB3.out.size))
        clear hb
        go_wp2
        go_ret
        exact ⟨rfl, HB0.out.trans (HB4.out.mono HB0.out.size)⟩
      · simp only [Bool.true_and] at H6
        cases v3
        · go_wp2_with fail
          refine (alive08_any _).mono ?_
          rintro e w6 ⟨rfl, hb⟩
          have HB2 := hide (HB1.out.trans (hb.mono HB1.out.size))
          obtain ⟨_, a0, a1, a2, a3, a4, a5⟩ := HS.out _ HB2.out
          clear hb
          go_wp2_with fail
          refine (H5.out _ (HB0.out.trans (HB2.out.mono HB0.out.size))).mono ?_
          rintro e w7 ⟨rfl, hb⟩
          have HB3 := hide (HB2.out.trans (hb.mono HB2.out.size))
          obtain ⟨_, a0, a1, a2, a3, a4, a5⟩ := HS.out _ HB3.out
          clear hb
          go_wp2_with fail
          refine (H6.out _ (HB0.out.trans (HB3.out.mono HB0.out.size))).mono ?_
          rintro e w8 ⟨rfl, hb⟩
          have HB4 := hide (HB3.out.trans (hb.mono HB3.out.size))
          clear hb
          go_wp2
          go_ret
          exact ⟨rfl, HB0.out.trans (HB4.out.mono HB0.out.size)⟩
        · have hv4 : v4 = true := HT.out (by trivial) (by trivial)
          subst hv4
          go_wp2_with fail
          refine (alive08_any _).mono ?_
          rintro e w6 ⟨rfl, hb⟩
          have HB2 := hide (HB1.out.trans (hb.mono HB1.out.size))
          obtain ⟨_, a0, a1, a2, a3, a4, a5⟩ := HS.out _ HB2.out
          clear hb
          go_wp2_with fail
          refine (H5.out _ (HB0.out.trans (HB2.out.mono HB0.out.size))).mono ?_
          rintro e w7 ⟨rfl, hb⟩
          have HB3 := hide (HB2.out.trans (hb.mono HB2.out.size))
          obtain ⟨_, a0, a1, a2, a3, a4, a5⟩ := HS.out _ HB3.out
          clear hb
          go_wp2_with fail
          refine (H6.out _ (HB0.out.trans (HB3.out.mono HB0.out.size))).mono ?_
          rintro e w8 ⟨rfl, hb⟩
          have HB4 := hide (HB3.out.trans (hb.mono HB3.out.size))
          clear hb
          go_wp2
          go_ret
          exact ⟨rfl, HB0.out.trans (HB4.out.mono HB0.out.size)⟩

theorem own : ownKnob Try.prog.godebug = none := by kernel_rfl
theorem laidOut : laidOutB Try.prog = true := by kernel_rfl

set_option maxRecDepth 100000 in
/-- what the walk gives, for every argument that can be read -/
theorem contract (H : Type) (enc : TypeId × Value → H) (W : World) (base : Nat) (args : Array Value) (ds gs : List (DataW H)) (before : List MemPlace)
    (hval0 : ∀ (j : Nat) t v, Try.f6.params[j]? = some t → args[j]? = some v → Value.okWide Try.prog W .any base t v)
    (hW : DataW.Whole enc Try.prog Try.f6.params.toList Rows.placesOrderSpec.vars false W args.toList ds gs before) :
    Calls Try.prog 6 args W fun e W' => ∃ v, e = .returned v ∧ Rows.placesOrderSpec.post enc Try.prog Try.f6 false true false false W args v W' := by
  have hval : ∀ (j : Nat) t v, Try.f6.params[j]? = some t → args[j]? = some v → Value.okWide Try.prog W .any base t v := hval0
  have hW' := hW
  obtain ⟨p, q, hA0, hV, rfl, hfz, hnd⟩ := hW
  have hA : DataW.TrodAll enc Try.prog W 0 (fun _ => true) true Try.f6.params.toList args.toList ds p := hA0
  rw [Try.params6] at hA hval
  obtain ⟨v0, vs0, d0, ds0, p0, q0, hargs, rfl, rfl, h0, r0⟩ := trodAll_cons hA
  obtain ⟨v1, vs1, d1, ds1, p1, q1, rfl, rfl, rfl, h1, r1⟩ := trodAll_cons r0
  obtain ⟨v2, vs2, d2, ds2, p2, q2, rfl, rfl, rfl, h2, r2⟩ := trodAll_cons r1
  obtain ⟨rfl, rfl, rfl⟩ := trodAll_nil r2
  obtain rfl : args = #[v0, v1, v2] := by cases args; simp_all
  obtain ⟨rfl, rfl⟩ := trodVars_none hV
  have k0 := h0
  have lt0 : ∀ x ∈ p0, x.block < W.heap.size := by obtain ⟨m, hm⟩ := k0; exact DataW.trod_lt m _ _ _ hm
  obtain ⟨x0, rfl, g0⟩ := openPlace Try.underlying24 (by kernel_rfl) (by kernel_rfl) Try.underlying3 Try.underlying22 Try.underlying46 (by kernel_rfl) (by kernel_rfl) Try.underlying3 Try.underlying3 (hval 0 24 v0 rfl rfl) h0
  have k1 := h1
  have lt1 : ∀ x ∈ p1, x.block < W.heap.size := by obtain ⟨m, hm⟩ := k1; exact DataW.trod_lt m _ _ _ hm
  obtain ⟨x1, rfl, g1⟩ := openPlace Try.underlying24 (by kernel_rfl) (by kernel_rfl) Try.underlying3 Try.underlying22 Try.underlying46 (by kernel_rfl) (by kernel_rfl) Try.underlying3 Try.underlying3 (hval 1 24 v1 rfl rfl) h1
  have k2 := h2
  have lt2 : ∀ x ∈ p2, x.block < W.heap.size := by obtain ⟨m, hm⟩ := k2; exact DataW.trod_lt m _ _ _ hm
  obtain ⟨x2, rfl, g2⟩ := openPlace Try.underlying24 (by kernel_rfl) (by kernel_rfl) Try.underlying3 Try.underlying22 Try.underlying46 (by kernel_rfl) (by kernel_rfl) Try.underlying3 Try.underlying3 (hval 2 24 v2 rfl rfl) h2
  clear hA0 hval0
  simp only [List.append_nil] at hW'
  refine (walk x0 x1 x2 W g0 g1 g2).mono fun e W' ⟨he, bel⟩ => ?_
  subst he
  exact ⟨_, rfl, _, _, _, [], _, [], hW', trodAll_mk1 (shut_bool Try.underlying4 _), (trodAll_cons_mk (Below.trod laidOut (by kernel_rfl) (of_decide_eq_true (by kernel_rfl)) k0 bel lt0) (trodAll_cons_mk (Below.trod laidOut (by kernel_rfl) (of_decide_eq_true (by kernel_rfl)) k1 bel lt1) (trodAll_cons_mk (Below.trod laidOut (by kernel_rfl) (of_decide_eq_true (by kernel_rfl)) k2 bel lt2) trodAll_mk0))), rfl, bel.frame _, fun h => by cases h⟩

set_option maxRecDepth 100000 in
theorem lifted (os : Os) (started : os.Started) (H : Type) (enc : TypeId × Value → H) :
    ReturnsInHanded {} Try.checked os 6 .any (Rows.placesOrderSpec.pre6 enc Try.prog Try.f6 Rows.placesOrderRow.domain false) (Rows.placesOrderSpec.post enc Try.prog Try.f6 false true false false) := by
  refine returnsInHanded_of_change (C := Try.checked) own started (by kernel_rfl) Try.func6
    (ChangeSpec.witness6 (enc := enc) (C := Try.checked) false ⟨#[], #[.agg #[.int .i64 0, .slice none 0 0], .agg #[.int .i64 0, .slice none 0 0], .agg #[.int .i64 0, .slice none 0 0]], []⟩ 8 (by kernel_rfl) (by kernel_rfl) (by kernel_rfl) (by kernel_rfl)) ?_
  intro W base args ds gs before hval hW _ _
  exact contract H enc W base args ds gs before hval hW

/-- the statement -/
theorem proved : Rows.PlacesOrderSaid :=
  OpenClaim.holds_of_wide 6 Try.f6 rfl rfl rfl rfl rfl rfl rfl ⟨rfl, rfl, rfl, rfl, rfl⟩ rfl rfl rfl rfl rfl (by kernel_rfl) Try.func6 (by kernel_rfl)
    (of_decide_eq_true (by kernel_rfl)) (by unfold Func.isWrapper; first | (rw [if_pos (by decide +kernel)]; kernel_rfl) | (rw [if_neg (by decide +kernel)]; exact ⟨rfl, rfl⟩))
    (fun os started H enc _ => lifted os started H enc)
end Go.Proofs.Ytphfiohjkjipiaa.placesOrder
