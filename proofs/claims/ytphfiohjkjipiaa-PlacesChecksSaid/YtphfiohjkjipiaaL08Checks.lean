/- PlacesChecks: for every input the law returns true, and turns nothing that lay. No condition. -/
import Derived.Test.YtphfiohjkjipiaaRows
import Derived.Test.YtphfiohjkjipiaaOpenL
import Derived.Test.YtphfiohjkjipiaaAlive08
import Derived.Test.YtphfiohjkjipiaaPlaR
namespace Go.Proofs.Ytphfiohjkjipiaa.placesChecks
open Go.ChangeShapes Go.WideShapes Go.ChangeAt Go.ChangeMaps Go.RowKit
set_option linter.unusedVariables false

set_option maxHeartbeats 4000000 in
set_option maxRecDepth 100000 in
theorem walk (x : PlW) (w : World) (hx : OnePl w w.heap.size x) :
    Calls Try.prog 3 #[aggPl x] w fun e w' => e = .returned (.bool true) ∧ Below w.heap.size w w' := by
  have hB0 := (Below.refl w.heap.size w).alloc (Nat.le_refl _) (.cells #[.int .i64 x.l, .slice x.A x.n x.c] 24)
  have HB0 := hide hB0
  have HBX := hide (heap_alloc_new w (.cells #[.int .i64 x.l, .slice x.A x.n x.c] 24))
  obtain ⟨v, hv⟩ : ∃ v, plErr x.l x.ps = v := ⟨_, rfl⟩
  have HC := hide fun (w' : World) (hb : Below w.heap.size w w') => And.intro (CheckP_is hv w' (hx.up hb)) (RCheckP_is hv w' (hx.up hb))
  have hxn := Nat.le_trans hx.nc hx.cm
  unfold maxLen at hxn
  obtain ⟨l, A, n, c, ps⟩ := x
  simp only [] at hxn HC
  have HS := hide fun w' (h : Below (w.alloc (.cells #[.int .i64 l, .slice A n c] 24)).heap.size (w.alloc (.cells #[.int .i64 l, .slice A n c] 24)) w') => show Below (w.alloc (.cells #[.int .i64 l, .slice A n c] 24)).heap.size (w.alloc (.cells #[.int .i64 l, .slice A n c] 24)) w' ∧ w'.cell? ⟨w.heap.size, 0, none⟩ = some (.int .i64 l) ∧ w'.cell? ⟨w.heap.size, 1, none⟩ = some (.slice A n c) from
    ⟨h, cell_of_heap ((h.block w.heap.size (by simp)).trans HBX.out) 0, cell_of_heap ((h.block w.heap.size (by simp)).trans HBX.out) 1⟩
  have vv : (v == v) = true := beq_iff_eq.2 rfl
  clear hx hB0 hv
  by_cases hn : 1000 < n
  · have hn' : (1000 : Int) < (n : Int) := by omega
    go_enter Try.func3, Try.ntmps3
    go_wp2_with fail
    refine (alive08_any _).mono ?_
    rintro e w1 ⟨rfl, hb⟩
    have HB1 := hide (HB0.out.trans (hb.mono HB0.out.size))
    clear hb
    go_wp2
    go_ret
    exact ⟨rfl, HB1.out⟩
  have hn' : (n : Int) ≤ 1000 := by omega
  clear hn
  go_enter Try.func3, Try.ntmps3
  go_wp2
  go_region_held3 (fun w' => Below (w.alloc (.cells #[.int .i64 l, .slice A n c] 24)).heap.size (w.alloc (.cells #[.int .i64 l, .slice A n c] 24)) w' ∧ w'.cell? ⟨w.heap.size, 0, none⟩ = some (.int .i64 l) ∧ w'.cell? ⟨w.heap.size, 1, none⟩ = some (.slice A n c))
    (first | exact HS.out _ (by assumption) | exact HS.out _ (Below.refl _ _) | exact HS.out _ (Below.refl _ _).drew | exact HS.out _ (Below.drew (by assumption)))
    (first
      | (go_at_call 9; go_split_ands; refine (alive08_any _).mono ?_; rintro e w5 ⟨rfl, hb0⟩; have hb1 := Below.trans (by assumption : Below (w.alloc (.cells #[.int .i64 l, .slice A n c] 24)).heap.size _ _) (hb0.mono (Below.size (by assumption : Below (w.alloc (.cells #[.int .i64 l, .slice A n c] 24)).heap.size _ _))))
      | (go_at_call 10; go_split_ands; refine (HC.out _ (HB0.out.trans (Below.mono (by assumption : Below (w.alloc (.cells #[.int .i64 l, .slice A n c] 24)).heap.size _ _) HB0.out.size))).1.mono ?_; rintro e w5 ⟨rfl, hb0⟩; have hb1 := Below.trans (by assumption : Below (w.alloc (.cells #[.int .i64 l, .slice A n c] 24)).heap.size _ _) (hb0.mono (Below.size (by assumption : Below (w.alloc (.cells #[.int .i64 l, .slice A n c] 24)).heap.size _ _))))
      | (go_at_call 11; go_split_ands; refine (HC.out _ (HB0.out.trans (Below.mono (by assumption : Below (w.alloc (.cells #[.int .i64 l, .slice A n c] 24)).heap.size _ _) HB0.out.size))).2.mono ?_; rintro e w5 ⟨rfl, hb0⟩; have hb1 := Below.trans (by assumption : Below (w.alloc (.cells #[.int .i64 l, .slice A n c] 24)).heap.size _ _) (hb0.mono (Below.size (by assumption : Below (w.alloc (.cells #[.int .i64 l, .slice A n c] 24)).heap.size _ _)))))
  all_goals
    go_split_ands
    go_wp2
    go_ret
    exact ⟨rfl, HB0.out.trans (Below.mono (by assumption : Below (w.alloc (.cells #[.int .i64 l, .slice A n c] 24)).heap.size _ _) HB0.out.size)⟩

theorem own : ownKnob Try.prog.godebug = none := by kernel_rfl
theorem laidOut : laidOutB Try.prog = true := by kernel_rfl

set_option maxRecDepth 100000 in
/-- what the walk gives, for every argument that can be read -/
theorem contract (H : Type) (enc : TypeId × Value → H) (W : World) (base : Nat) (args : Array Value) (ds gs : List (DataW H)) (before : List MemPlace)
    (hval0 : ∀ (j : Nat) t v, Try.f3.params[j]? = some t → args[j]? = some v → Value.okWide Try.prog W .any base t v)
    (hW : DataW.Whole enc Try.prog Try.f3.params.toList Rows.placesChecksSpec.vars false W args.toList ds gs before) :
    Calls Try.prog 3 args W fun e W' => ∃ v, e = .returned v ∧ Rows.placesChecksSpec.post enc Try.prog Try.f3 false true false false W args v W' := by
  have hval : ∀ (j : Nat) t v, Try.f3.params[j]? = some t → args[j]? = some v → Value.okWide Try.prog W .any base t v := hval0
  have hW' := hW
  obtain ⟨p, q, hA0, hV, rfl, hfz, hnd⟩ := hW
  have hA : DataW.TrodAll enc Try.prog W 0 (fun _ => true) true Try.f3.params.toList args.toList ds p := hA0
  rw [Try.params3] at hA hval
  obtain ⟨v0, vs0, d0, ds0, p0, q0, hargs, rfl, rfl, h0, r0⟩ := trodAll_cons hA
  obtain ⟨rfl, rfl, rfl⟩ := trodAll_nil r0
  obtain rfl : args = #[v0] := by cases args; simp_all
  obtain ⟨rfl, rfl⟩ := trodVars_none hV
  have k0 := h0
  have lt0 : ∀ x ∈ p0, x.block < W.heap.size := by obtain ⟨m, hm⟩ := k0; exact DataW.trod_lt m _ _ _ hm
  obtain ⟨x0, rfl, g0⟩ := openPlace Try.underlying24 (by kernel_rfl) (by kernel_rfl) Try.underlying3 Try.underlying22 Try.underlying46 (by kernel_rfl) (by kernel_rfl) Try.underlying3 Try.underlying3 (hval 0 24 v0 rfl rfl) h0
  clear hA0 hval0
  simp only [List.append_nil] at hW'
  refine (walk x0 W g0).mono fun e W' ⟨he, bel⟩ => ?_
  subst he
  exact ⟨_, rfl, _, _, _, [], _, [], hW', trodAll_mk1 (shut_bool Try.underlying4 _), (trodAll_cons_mk (Below.trod laidOut (by kernel_rfl) (of_decide_eq_true (by kernel_rfl)) k0 bel lt0) trodAll_mk0), rfl, bel.frame _, fun h => by cases h⟩

set_option maxRecDepth 100000 in
theorem lifted (os : Os) (started : os.Started) (H : Type) (enc : TypeId × Value → H) :
    ReturnsInHanded {} Try.checked os 3 .any (Rows.placesChecksSpec.pre6 enc Try.prog Try.f3 Rows.placesChecksRow.domain false) (Rows.placesChecksSpec.post enc Try.prog Try.f3 false true false false) := by
  refine returnsInHanded_of_change (C := Try.checked) own started (by kernel_rfl) Try.func3
    (ChangeSpec.witness6 (enc := enc) (C := Try.checked) false ⟨#[], #[.agg #[.int .i64 0, .slice none 0 0]], []⟩ 8 (by kernel_rfl) (by kernel_rfl) (by kernel_rfl) (by kernel_rfl)) ?_
  intro W base args ds gs before hval hW _ _
  exact contract H enc W base args ds gs before hval hW

/-- the statement -/
theorem proved : Rows.PlacesChecksSaid :=
  OpenClaim.holds_of_wide 3 Try.f3 rfl rfl rfl rfl rfl rfl rfl ⟨rfl, rfl, rfl, rfl, rfl⟩ rfl rfl rfl rfl rfl (by kernel_rfl) Try.func3 (by kernel_rfl)
    (of_decide_eq_true (by kernel_rfl)) (by unfold Func.isWrapper; first | (rw [if_pos (by decide +kernel)]; kernel_rfl) | (rw [if_neg (by decide +kernel)]; exact ⟨rfl, rfl⟩))
    (fun os started H enc _ => lifted os started H enc)
end Go.Proofs.Ytphfiohjkjipiaa.placesChecks
