/- TypesEquals: for every input the law returns true, and turns nothing that lay. No condition. -/
import Derived.Test.YtkcgonggokhneaaRows
import Derived.Test.YtkcgonggokhneaaAlive06
import Derived.Test.YtkcgonggokhneaaOpenY
import Derived.Test.YtkcgonggokhneaaLaw06
import Derived.Test.YtkcgonggokhneaaTypT
namespace Go.Proofs.Ytkcgonggokhneaa.typesEquals
open Go.ChangeShapes Go.WideShapes Go.ChangeAt Go.ChangeMaps Go.RowKit
set_option linter.unusedVariables false

/-- what the two searches answer -/
theorem finds {A : Option Addr} {n c : Nat} {L : List TyW} (x : TyW) (hl : L.length = n) (hn : n ≤ maxLen) : ∃ (i r : Int) (ok : Bool), decide (0 ≤ r) = ok ∧ max r 0 = i ∧ (-1 ≤ r ∧ r ≤ maxLen) ∧ ∀ w, Typs w w.heap.size A n L → OneT w w.heap.size x →
    Calls Try.prog 13 #[.slice A n c, aggT x] w (fun e w' => e = .returned (.tuple #[.int .i64 i, .bool ok]) ∧ Below w.heap.size w w') ∧
    Calls Try.prog 14 #[.slice A n c, aggT x] w (fun e w' => e = .returned (.int .i64 r) ∧ Below w.heap.size w w') := by
  obtain ⟨s, h1, h2, h3, h4⟩ := first_ex (tys L) x.t
  have hl : (tys L).length = n := by rw [tys_len, hl]
  rw [hl] at h1 h3
  by_cases hs : s < n
  · refine ⟨s, s, true, decide_eq_true (by omega), by omega, by omega, fun w hA hx => ⟨?_, ?_⟩⟩
    · have h := FindT_any A n c L x w hA hx hn s h1 h2 h3
      rw [if_pos hs, decide_eq_true hs] at h
      exact h
    · have h := RFindT_any A n c L x w hA hx hn s h1 h2 h3
      rw [if_pos hs] at h
      exact h
  · refine ⟨0, -1, false, rfl, rfl, by unfold maxLen; omega, fun w hA hx => ⟨?_, ?_⟩⟩
    · have h := FindT_any A n c L x w hA hx hn s h1 h2 h3
      rw [if_neg hs, decide_eq_false hs] at h
      exact h
    · have h := RFindT_any A n c L x w hA hx hn s h1 h2 h3
      rw [if_neg hs] at h
      exact h

/-- the two boxes -/
def boxW (w : World) (x y : TyW) : World := (w.alloc (.cells (c5 x).toArray 31)).alloc (.cells (c5 y).toArray 31)
theorem boxW_size (w : World) (x y : TyW) : (boxW w x y).heap.size = w.heap.size + 2 := by simp [boxW]
theorem boxW_below (w : World) (x y : TyW) : Below w.heap.size w (boxW w x y) := ((Below.refl _ _).alloc (Nat.le_refl _) _).alloc (by simp) _
def BoxS (w : World) (x y : TyW) (w' : World) : Prop := Below (boxW w x y).heap.size (boxW w x y) w' ∧
    w'.cell? ⟨w.heap.size, 0, none⟩ = some (.int .i64 x.t.kind) ∧ w'.cell? ⟨w.heap.size, 1, none⟩ = some (.bool x.t.mut_) ∧ w'.cell? ⟨w.heap.size, 2, none⟩ = some (.int .i64 x.t.region) ∧ w'.cell? ⟨w.heap.size, 3, none⟩ = some (.int .i64 x.t.elem) ∧ w'.cell? ⟨w.heap.size, 4, none⟩ = some (.slice x.A x.n x.c) ∧
    w'.cell? ⟨w.heap.size + 1, 0, none⟩ = some (.int .i64 y.t.kind) ∧ w'.cell? ⟨w.heap.size + 1, 1, none⟩ = some (.bool y.t.mut_) ∧ w'.cell? ⟨w.heap.size + 1, 2, none⟩ = some (.int .i64 y.t.region) ∧ w'.cell? ⟨w.heap.size + 1, 3, none⟩ = some (.int .i64 y.t.elem) ∧ w'.cell? ⟨w.heap.size + 1, 4, none⟩ = some (.slice y.A y.n y.c)
theorem cell_new (w : World) (cs : Array Value) (t : TypeId) (j : Nat) : (w.alloc (.cells cs t)).cell? ⟨w.heap.size, j, none⟩ = cs[j]? := cell_of_row (w.alloc (.cells cs t)) w.heap.size j cs t (0, 0) (heap_alloc_new w _)
theorem boxS_of {w w' : World} {x y : TyW} (hb : Below (boxW w x y).heap.size (boxW w x y) w') : BoxS w x y w' := by
  have h1 : ∀ j u, (c5 x)[j]? = some u → w'.cell? ⟨w.heap.size, j, none⟩ = some u := fun j u hu => by
    rw [hb.cell (p := ⟨w.heap.size, j, none⟩) (by rw [boxW_size]; simp)]
    have h := ((Below.refl (w.heap.size + 1) (w.alloc (.cells (c5 x).toArray 31))).alloc (by simp) (.cells (c5 y).toArray 31)).cell (p := ⟨w.heap.size, j, none⟩) (by simp)
    refine h.trans ((cell_new w _ _ j).trans ?_)
    rw [List.getElem?_toArray, hu]
  have h2 : ∀ j u, (c5 y)[j]? = some u → w'.cell? ⟨w.heap.size + 1, j, none⟩ = some u := fun j u hu => by
    rw [hb.cell (p := ⟨w.heap.size + 1, j, none⟩) (by rw [boxW_size]; simp)]
    have h := cell_new (w.alloc (.cells (c5 x).toArray 31)) (c5 y).toArray 31 j
    rw [World.size_alloc] at h
    refine h.trans ?_
    rw [List.getElem?_toArray, hu]
  exact ⟨hb, h1 0 _ rfl, h1 1 _ rfl, h1 2 _ rfl, h1 3 _ rfl, h1 4 _ rfl, h2 0 _ rfl, h2 1 _ rfl, h2 2 _ rfl, h2 3 _ rfl, h2 4 _ rfl⟩
/-- the first list that is made: both types -/
theorem Large_two {w : World} {x y : TyW} {v : Int} {g : Nat} (hv : largeN [x, y] = v) (hg : g = w.heap.size + 2) (hx : OneT w w.heap.size x) (hy : OneT w w.heap.size y) :
    Calls Try.prog 9 #[.slice (some ⟨g, 0, none⟩) 2 2] ((boxW w x y).alloc (.cells ((c5 x ++ c5 y).toArray) 31)) fun e w1 => e = .returned (.int .i64 v) ∧ Below (boxW w x y).heap.size (boxW w x y) w1 := by
  rw [← boxW_size w x y] at hg
  subst hg
  have h0 := boxW_below w x y
  have hs := h0.size
  have h := typs_new (boxW w x y) [x, y] 31 fun z hz => by
    simp only [List.mem_cons, List.not_mem_nil, or_false] at hz
    rcases hz with rfl | rfl
    · exact (hx.below h0).more hs
    · exact (hy.below h0).more hs
  have e : ([x, y] : List TyW).flatMap c5 = c5 x ++ c5 y := by simp
  rw [e] at h
  refine (Large_is hv _ (h.more (by simp)) (show (2 : Nat) ≤ maxLen by unfold maxLen; decide)).mono ?_
  rintro e w1 ⟨rfl, h1⟩
  have h2 := (Below.refl (boxW w x y).heap.size (boxW w x y)).alloc (Nat.le_refl _) (.cells (c5 x ++ c5 y).toArray 31)
  exact ⟨rfl, h2.trans (h1.mono h2.size)⟩

set_option maxHeartbeats 4000000 in
set_option maxRecDepth 100000 in
theorem walk (x y : TyW) (A : Option Addr) (n c : Nat) (L : List TyW) (w : World) (hx : OneT w w.heap.size x) (hy : OneT w w.heap.size y) (hA : ArgY w A n c L) :
    Calls Try.prog 4 #[aggT x, aggT y, .slice A n c] w fun e w' => e = .returned (.bool true) ∧ Below w.heap.size w w' := by
  have HA := hide hA
  have HX := hide hx
  have HY := hide hy
  have hnm : n ≤ maxLen := Nat.le_trans hA.nc hA.cm
  have HW := hide (boxW_below w x y)
  have hS := hide fun (w' : World) (hb' : Below (boxW w x y).heap.size (boxW w x y) w') => boxS_of hb'
  have HT := hide fun (w' : World) (hb' : Below (boxW w x y).heap.size (boxW w x y) w') => ((hA.typs.below (HW.out.trans (hb'.mono HW.out.size))).more (HW.out.trans (hb'.mono HW.out.size)).size : Typs w' w'.heap.size A n L)
  have HOx := hide fun (w' : World) (hb' : Below (boxW w x y).heap.size (boxW w x y) w') => ((hx.below (HW.out.trans (hb'.mono HW.out.size))).more (HW.out.trans (hb'.mono HW.out.size)).size : OneT w' w'.heap.size x)
  have HOy := hide fun (w' : World) (hb' : Below (boxW w x y).heap.size (boxW w x y) w') => ((hy.below (HW.out.trans (hb'.mono HW.out.size))).more (HW.out.trans (hb'.mono HW.out.size)).size : OneT w' w'.heap.size y)
  obtain ⟨i, r, ok, hok, hmx, hrr, hfind⟩ := finds (A := A) (n := n) (c := c) (L := L) x hA.typs.len hnm
  have HF := hide hfind
  have hex : ∃ b, eqTy x.t y.t = b := ⟨_, rfl⟩
  obtain ⟨b, heq⟩ := hex
  have HE := hide heq
  have hex : ∃ v, largeN [x, y] = v ∧ (v = 0 ∨ v = 1) := ⟨_, rfl, by unfold largeN; split <;> simp⟩
  obtain ⟨v1, hv1, hv1'⟩ := hex
  have HV1 := hide hv1
  have hex : ∃ v, largeN L = v ∧ (v = 0 ∨ v = 1) := ⟨_, rfl, by unfold largeN; split <;> simp⟩
  obtain ⟨v2, hv2, hv2'⟩ := hex
  have HV2 := hide hv2
  have hsx := World.size_alloc w
  clear hA hx hy hfind heq hv1 hv2
  go_enter Try.func4, Try.ntmps4
  go_wp2_with fail
  refine (Large_two HV1.out (by omega) HX.out HY.out).mono ?_
  rintro e w1 ⟨rfl, hb⟩
  have HB := hide hb
  clear hb
  rcases hv1' with rfl | rfl
  rotate_left
  · go_wp2_with fail
    refine (alive06_any _).mono ?_
    rintro e w2 ⟨rfl, hb⟩
    have HB2 := hide (HW.out.trans ((HB.out.trans (hb.mono HB.out.size)).mono HW.out.size))
    clear hb
    go_wp2_with fail
    go_ret
    exact ⟨rfl, HB2.out⟩
  go_wp2_with fail
  refine (Large_is HV2.out w1 (HT.out w1 HB.out) hnm).mono ?_
  rintro e w2 ⟨rfl, hb⟩
  have HB2 := hide (HB.out.trans (hb.mono HB.out.size))
  clear hb
  rcases hv2' with rfl | rfl
  rotate_left
  · go_wp2_with fail
    refine (alive06_any _).mono ?_
    rintro e w3 ⟨rfl, hb⟩
    have HB3 := hide (HW.out.trans ((HB2.out.trans (hb.mono HB2.out.size)).mono HW.out.size))
    clear hb
    go_wp2_with fail
    go_ret
    exact ⟨rfl, HB3.out⟩
  obtain ⟨_, a0, a1, a2, a3, a4, b0, b1, b2, b3, b4⟩ := hS.out w2 HB2.out
  go_wp2_with fail
  refine (HF.out w2 (HT.out w2 HB2.out) (HOx.out w2 HB2.out)).1.mono ?_
  rintro e w3 ⟨rfl, hb⟩
  have HB3 := hide (HB2.out.trans (hb.mono HB2.out.size))
  clear hb a0 a1 a2 a3 a4 b0 b1 b2 b3 b4
  obtain ⟨_, a0, a1, a2, a3, a4, b0, b1, b2, b3, b4⟩ := hS.out w3 HB3.out
  go_wp2_with fail
  refine (HF.out w3 (HT.out w3 HB3.out) (HOx.out w3 HB3.out)).2.mono ?_
  rintro e w4 ⟨rfl, hb⟩
  have HB4 := hide (HB3.out.trans (hb.mono HB3.out.size))
  clear hb a0 a1 a2 a3 a4 b0 b1 b2 b3 b4
  have hb4 := HB4.out
  have hbb : (b == b) = true := beq_iff_eq.2 rfl
  have hoo : (ok == ok) = true := beq_iff_eq.2 rfl
  go_wp2_with fail
  go_region_held3 (fun w' => Below (boxW w x y).heap.size (boxW w x y) w' ∧
    w'.cell? ⟨w.heap.size, 0, none⟩ = some (.int .i64 x.t.kind) ∧ w'.cell? ⟨w.heap.size, 1, none⟩ = some (.bool x.t.mut_) ∧ w'.cell? ⟨w.heap.size, 2, none⟩ = some (.int .i64 x.t.region) ∧ w'.cell? ⟨w.heap.size, 3, none⟩ = some (.int .i64 x.t.elem) ∧ w'.cell? ⟨w.heap.size, 4, none⟩ = some (.slice x.A x.n x.c) ∧
    w'.cell? ⟨w.heap.size + 1, 0, none⟩ = some (.int .i64 y.t.kind) ∧ w'.cell? ⟨w.heap.size + 1, 1, none⟩ = some (.bool y.t.mut_) ∧ w'.cell? ⟨w.heap.size + 1, 2, none⟩ = some (.int .i64 y.t.region) ∧ w'.cell? ⟨w.heap.size + 1, 3, none⟩ = some (.int .i64 y.t.elem) ∧ w'.cell? ⟨w.heap.size + 1, 4, none⟩ = some (.slice y.A y.n y.c))
    (first | exact hS.out _ (by assumption) | exact hS.out _ (Below.drew (by assumption)))
    (first
      | (go_at_call 10; go_split_ands; refine (alive06_any _).mono ?_; rintro e w5 ⟨rfl, hb0⟩; have hb1 := Below.trans (by assumption : Below (boxW w x y).heap.size (boxW w x y) _) (hb0.mono (Below.size (by assumption : Below (boxW w x y).heap.size (boxW w x y) _))))
      | (go_at_call 15; go_split_ands; refine (EqT_is HE.out _ (HOx.out _ (by assumption)) (HOy.out _ (by assumption))).mono ?_; rintro e w5 ⟨rfl, hb0⟩; have hb1 := Below.trans (by assumption : Below (boxW w x y).heap.size (boxW w x y) _) (hb0.mono (Below.size (by assumption : Below (boxW w x y).heap.size (boxW w x y) _))))
      | (go_at_call 16; go_split_ands; refine (REqT_is HE.out _ (HOx.out _ (by assumption)) (HOy.out _ (by assumption))).mono ?_; rintro e w5 ⟨rfl, hb0⟩; have hb1 := Below.trans (by assumption : Below (boxW w x y).heap.size (boxW w x y) _) (hb0.mono (Below.size (by assumption : Below (boxW w x y).heap.size (boxW w x y) _)))))
  all_goals
    go_split_ands
    go_wp2
    go_ret
    exact ⟨rfl, HW.out.trans (Below.mono (by assumption) HW.out.size)⟩

theorem own : ownKnob Try.prog.godebug = none := by kernel_rfl
theorem laidOut : laidOutB Try.prog = true := by kernel_rfl

set_option maxRecDepth 100000 in
/-- what the walk gives, for every argument that can be read -/
theorem contract (H : Type) (enc : TypeId × Value → H) (W : World) (base : Nat) (args : Array Value) (ds gs : List (DataW H)) (before : List MemPlace)
    (hval0 : ∀ (j : Nat) t v, Try.f4.params[j]? = some t → args[j]? = some v → Value.okWide Try.prog W .any base t v)
    (hW : DataW.Whole enc Try.prog Try.f4.params.toList Rows.typesEqualsSpec.vars false W args.toList ds gs before) :
    Calls Try.prog 4 args W fun e W' => ∃ v, e = .returned v ∧ Rows.typesEqualsSpec.post enc Try.prog Try.f4 false true false false W args v W' := by
  have hval : ∀ (j : Nat) t v, Try.f4.params[j]? = some t → args[j]? = some v → Value.okWide Try.prog W .any base t v := hval0
  have hW' := hW
  obtain ⟨p, q, hA0, hV, rfl, hfz, hnd⟩ := hW
  have hA : DataW.TrodAll enc Try.prog W 0 (fun _ => true) true Try.f4.params.toList args.toList ds p := hA0
  rw [Try.params4] at hA hval
  obtain ⟨v0, vs0, d0, ds0, p0, q0, hargs, rfl, rfl, h0, r0⟩ := trodAll_cons hA
  obtain ⟨v1, vs1, d1, ds1, p1, q1, rfl, rfl, rfl, h1, r1⟩ := trodAll_cons r0
  obtain ⟨v2, vs2, d2, ds2, p2, q2, rfl, rfl, rfl, h2, r2⟩ := trodAll_cons r1
  obtain ⟨rfl, rfl, rfl⟩ := trodAll_nil r2
  obtain rfl : args = #[v0, v1, v2] := by cases args; simp_all
  obtain ⟨rfl, rfl⟩ := trodVars_none hV
  have k0 := h0
  have lt0 : ∀ x ∈ p0, x.block < W.heap.size := by obtain ⟨m, hm⟩ := k0; exact DataW.trod_lt m _ _ _ hm
  obtain ⟨x0, rfl, g0⟩ := openTyp Try.underlying31 rfl (by kernel_rfl) (by kernel_rfl) Try.underlying3 Try.underlying4 Try.underlying3 Try.underlying3 Try.underlying29 Try.underlying3 (by kernel_rfl) (hval 0 31 v0 rfl rfl) h0
  have k1 := h1
  have lt1 : ∀ x ∈ p1, x.block < W.heap.size := by obtain ⟨m, hm⟩ := k1; exact DataW.trod_lt m _ _ _ hm
  obtain ⟨x1, rfl, g1⟩ := openTyp Try.underlying31 rfl (by kernel_rfl) (by kernel_rfl) Try.underlying3 Try.underlying4 Try.underlying3 Try.underlying3 Try.underlying29 Try.underlying3 (by kernel_rfl) (hval 1 31 v1 rfl rfl) h1
  have k2 := h2
  have lt2 : ∀ x ∈ p2, x.block < W.heap.size := by obtain ⟨m, hm⟩ := k2; exact DataW.trod_lt m _ _ _ hm
  obtain ⟨A2, n2, c2, xs2, rfl, g2⟩ := openTyps Try.underlying22 Try.underlying31 rfl (by kernel_rfl) (by kernel_rfl) Try.underlying3 Try.underlying4 Try.underlying3 Try.underlying3 Try.underlying29 Try.underlying3 (by kernel_rfl) (hval 2 22 v2 rfl rfl) h2
  clear hA0 hval0
  simp only [List.append_nil] at hW'
  refine (walk x0 x1 A2 n2 c2 xs2 W g0 g1 g2).mono fun e W' ⟨he, bel⟩ => ?_
  subst he
  exact ⟨_, rfl, _, _, _, [], _, [], hW', trodAll_mk1 (shut_bool Try.underlying4 _), (trodAll_cons_mk (Below.trod laidOut (by kernel_rfl) (of_decide_eq_true (by kernel_rfl)) k0 bel lt0) (trodAll_cons_mk (Below.trod laidOut (by kernel_rfl) (of_decide_eq_true (by kernel_rfl)) k1 bel lt1) (trodAll_cons_mk (Below.trod laidOut (by kernel_rfl) (of_decide_eq_true (by kernel_rfl)) k2 bel lt2) trodAll_mk0))), rfl, bel.frame _, fun h => by cases h⟩

set_option maxRecDepth 100000 in
theorem lifted (os : Os) (started : os.Started) (H : Type) (enc : TypeId × Value → H) :
    ReturnsInHanded {} Try.checked os 4 .any (Rows.typesEqualsSpec.pre6 enc Try.prog Try.f4 Rows.typesEqualsRow.domain false) (Rows.typesEqualsSpec.post enc Try.prog Try.f4 false true false false) := by
  refine returnsInHanded_of_change (C := Try.checked) own started (by kernel_rfl) Try.func4
    (ChangeSpec.witness6 (enc := enc) (C := Try.checked) false ⟨#[], #[.agg #[.int .i64 0, .bool false, .int .i64 0, .int .i64 0, .slice none 0 0], .agg #[.int .i64 0, .bool false, .int .i64 0, .int .i64 0, .slice none 0 0], .slice none 0 0], []⟩ 8 (by kernel_rfl) (by kernel_rfl) (by kernel_rfl) (by kernel_rfl)) ?_
  intro W base args ds gs before hval hW _ _
  exact contract H enc W base args ds gs before hval hW

/-- the statement -/
theorem proved : Rows.TypesEqualsSaid :=
  OpenClaim.holds_of_wide 4 Try.f4 rfl rfl rfl rfl rfl rfl rfl ⟨rfl, rfl, rfl, rfl, rfl⟩ rfl rfl rfl rfl rfl (by kernel_rfl) Try.func4 (by kernel_rfl)
    (of_decide_eq_true (by kernel_rfl)) (by unfold Func.isWrapper; first | (rw [if_pos (by decide +kernel)]; kernel_rfl) | (rw [if_neg (by decide +kernel)]; exact ⟨rfl, rfl⟩))
    (fun os started H enc _ => lifted os started H enc)
end Go.Proofs.Ytkcgonggokhneaa.typesEquals
