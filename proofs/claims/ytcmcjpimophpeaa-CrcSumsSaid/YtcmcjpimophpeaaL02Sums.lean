/- CrcSums: for every input the law returns true, and turns nothing that lay. No condition. -/
import Derived.Test.YtcmcjpimophpeaaRows
import Derived.Test.YtcmcjpimophpeaaAlive02
import Derived.Test.YtcmcjpimophpeaaOpen
namespace Go.Proofs.Ytcmcjpimophpeaa.crcSums
open Go.ChangeShapes Go.WideShapes Go.ChangeAt Go.RowKit
set_option linter.unusedVariables false

set_option maxHeartbeats 2000000 in
theorem walk (A1 : Option Addr) (n1 c1 : Nat) (xs1 : List Int) (w : World) (h1 : Arg w A1 n1 c1 xs1) :
    Calls Try.prog 3 #[.slice A1 n1 c1] w fun e w' => e = .returned (.bool true) ∧ Below w.heap.size w w' := by
  have hnc := h1.nc
  have hcm := h1.cm
  have hb1 := h1.byt
  have hr1 := h1.rd
  have hcm' := hide hcm
  unfold maxLen at hcm
  clear h1
  by_cases hn : 5000 < n1
  · have hi : (5000 : Int) < (n1 : Int) := by omega
    go_enter Try.func3, Try.ntmps3
    go_wp2_with fail
    refine (alive02_any _).mono ?_
    rintro e w1 ⟨rfl, hb⟩
    go_wp2_with fail
    go_ret
    exact ⟨rfl, hb⟩
  · have hi : ¬ ((5000 : Int) < (n1 : Int)) := by omega
    have HS := hide (eqB_self (xs1 ++ sto (sum xs1)))
    have hby : Byt (xs1 ++ sto (sum xs1)) := hb1.append (sto_byt _)
    go_enter Try.func3, Try.ntmps3
    go_wp2_with fail
    refine (alive02_any _).mono ?_
    rintro e w1 ⟨rfl, q1⟩
    have r1 := (hr1.below q1).more q1.size
    go_wp2_with fail
    refine (Sum_any A1 n1 c1 xs1 _ _ r1 (Nat.le_refl _) hb1 (by omega)).mono ?_
    rintro e w2 ⟨rfl, p2⟩
    have q2 := q1.trans (p2.mono q1.size)
    have r2 := (r1.below p2).more p2.size
    clear p2
    go_wp2_with fail
    refine (RefSum_any A1 n1 c1 xs1 _ _ r2 hb1 (by omega)).mono ?_
    rintro e w3 ⟨rfl, rfl⟩
    go_wp2_with fail
    refine (Append_any A1 n1 c1 xs1 _ _ r2 (Nat.le_refl _) hb1 (by omega)).mono ?_
    rintro e w3 ⟨v3, rfl, ho, p3⟩
    obtain ⟨A3, n3, c3, rfl, hc31, hc32, hr3, ho3, hn3⟩ := ho.var
    have q3 := q2.trans (p3.mono q2.size)
    have r3 := (r2.below p3).more p3.size
    clear p3 ho3 ho
    go_wp2_with fail
    refine (RefAppend_any A1 n1 c1 xs1 _ _ r3 (Nat.le_refl _) hb1 (by omega)).mono ?_
    rintro e w4 ⟨v4, rfl, ho, p4⟩
    obtain ⟨A4, n4, c4, rfl, hc41, hc42, hr4, ho4, hn4⟩ := ho.var
    have q4 := q3.trans (p4.mono q3.size)
    have r4 := (r3.below p4).more p4.size
    have r34 := hr3.below p4
    clear p4 ho4 ho
    go_wp2_with fail
    refine (Equal_any _ _ _ _ _ _ _ _ _ _ _ r34 hr4 hby hby).mono ?_
    rintro e w5 ⟨rfl, rfl⟩
    rw [HS.out]
    go_wp2_with fail
    refine (Check_any A1 n1 c1 xs1 _ _ r4 (Nat.le_refl _) hb1 hnc hcm'.out).mono ?_
    rintro e w5 ⟨rfl, p5⟩
    have q5 := q4.trans (p5.mono q4.size)
    have r5 := (r4.below p5).more p5.size
    clear p5
    go_wp2_with fail
    refine (RefCheck_any A1 n1 c1 xs1 _ _ r5 (Nat.le_refl _) hb1 hnc hcm'.out).mono ?_
    rintro e w6 ⟨rfl, p6⟩
    have q6 := q5.trans (p6.mono q5.size)
    go_wp2_with fail
    go_ret
    exact ⟨rfl, q6⟩

theorem own : ownKnob Try.prog.godebug = none := by kernel_rfl
theorem laidOut : laidOutB Try.prog = true := by kernel_rfl

/-- what the walk gives, for every argument that can be read -/
theorem contract (H : Type) (enc : TypeId × Value → H) (W : World) (base : Nat) (args : Array Value) (ds gs : List (DataW H)) (before : List MemPlace)
    (hval0 : ∀ (j : Nat) t v, Try.f3.params[j]? = some t → args[j]? = some v → Value.okWide Try.prog W .any base t v)
    (hW : DataW.Whole enc Try.prog Try.f3.params.toList Rows.crcSumsSpec.vars false W args.toList ds gs before) :
    Calls Try.prog 3 args W fun e W' => ∃ v, e = .returned v ∧ Rows.crcSumsSpec.post enc Try.prog Try.f3 false true false false W args v W' := by
  have hval : ∀ (j : Nat) t v, Try.f3.params[j]? = some t → args[j]? = some v → Value.okWide Try.prog W .any base t v := hval0
  have hW' := hW
  obtain ⟨p, q, hA0, hV, rfl, hfz, hnd⟩ := hW
  have hA : DataW.TrodAll enc Try.prog W 0 (fun _ => true) true Try.f3.params.toList args.toList ds p := hA0
  rw [Try.params3] at hA hval
  obtain ⟨v0, vs0, d0, ds0, p0, q0, hargs, rfl, rfl, h0, r0⟩ := trodAll_cons hA
  obtain ⟨rfl, rfl, rfl⟩ := trodAll_nil r0
  obtain rfl : args = #[v0] := by cases args; simp_all
  obtain ⟨rfl, rfl⟩ := trodVars_none hV
  have k0 := h0
  have lt0 : ∀ x ∈ p0, x.block < W.heap.size := by obtain ⟨m, hm⟩ := k0; exact DataW.trod_lt m _ _ _ hm
  obtain ⟨A0, n0, c0, xs0, rfl, g0, _⟩ := openBytes Try.underlying22 Try.underlying5 (by kernel_rfl) (hval 0 22 v0 rfl rfl) h0
  clear hA0 hval0
  simp only [List.append_nil] at hW'
  refine (walk A0 n0 c0 xs0 W g0).mono fun e W' ⟨he, bel⟩ => ?_
  subst he
  exact ⟨_, rfl, _, _, _, [], _, [], hW', trodAll_mk1 (shut_bool Try.underlying4 _), (trodAll_cons_mk (Below.trod laidOut (by kernel_rfl) (of_decide_eq_true (by kernel_rfl)) k0 bel lt0) trodAll_mk0), rfl, bel.frame _, fun h => by cases h⟩

set_option maxRecDepth 100000 in
theorem lifted (os : Os) (started : os.Started) (H : Type) (enc : TypeId × Value → H) :
    ReturnsInHanded {} Try.checked os 3 .any (Rows.crcSumsSpec.pre6 enc Try.prog Try.f3 Rows.crcSumsRow.domain false) (Rows.crcSumsSpec.post enc Try.prog Try.f3 false true false false) := by
  refine returnsInHanded_of_change (C := Try.checked) own started (by kernel_rfl) Try.func3
    (ChangeSpec.witness6 (enc := enc) (C := Try.checked) false ⟨#[], #[.slice none 0 0], []⟩ 8 (by kernel_rfl) (by kernel_rfl) (by kernel_rfl) (by kernel_rfl)) ?_
  intro W base args ds gs before hval hW _ _
  exact contract H enc W base args ds gs before hval hW

/-- the statement -/
theorem proved : Rows.CrcSumsSaid :=
  OpenClaim.holds_of_wide 3 Try.f3 rfl rfl rfl rfl rfl rfl rfl ⟨rfl, rfl, rfl, rfl, rfl⟩ rfl rfl rfl rfl rfl (by kernel_rfl) Try.func3 (by kernel_rfl)
    (of_decide_eq_true (by kernel_rfl)) (by unfold Func.isWrapper; first | (rw [if_pos (by decide +kernel)]; kernel_rfl) | (rw [if_neg (by decide +kernel)]; exact ⟨rfl, rfl⟩))
    (fun os started H enc _ => lifted os started H enc)
end Go.Proofs.Ytcmcjpimophpeaa.crcSums
