/- WireCounts: for every input the law returns true, and turns nothing that lay. No condition. -/
import Derived.Test.YtakjlomgkbloeaaRows
import Derived.Test.YtakjlomgkbloeaaAlive03
import Derived.Test.YtakjlomgkbloeaaOpen
import Derived.Test.YtakjlomgkbloeaaZeros
namespace Go.Proofs.Ytakjlomgkbloeaa.wireCounts
open Go.ChangeShapes Go.WideShapes Go.ChangeAt Go.RowKit
set_option linter.unusedVariables false

theorem zeros_u8 (k : Nat) : List.replicate k (Value.int .u8 0) = u8s (List.replicate k 0) := by simp [u8s]
theorem zeros_byt (k : Nat) : Byt (List.replicate k 0) := fun x hx => by rw [List.eq_of_mem_replicate hx]; omega

set_option maxHeartbeats 4000000 in
set_option maxRecDepth 100000 in
theorem walk (n most k : Int) (w : World) (hn : 0 ≤ n ∧ n ≤ 65535) (hm : -32768 ≤ most ∧ most ≤ 32767) (hk : 0 ≤ k ∧ k ≤ 255) :
    Calls Try.prog 7 #[.int .u16 n, .int .i16 most, .int .u8 k] w fun e w' => e = .returned (.bool true) ∧ Below w.heap.size w w' := by
  obtain ⟨i0, hi, hz0, hz1, hz2⟩ := info_parts infoU8
  obtain ⟨N, rfl⟩ := Int.eq_ofNat_of_zero_le hn.1
  obtain ⟨K, rfl⟩ := Int.eq_ofNat_of_zero_le hk.1
  have hN : N ≤ 65535 := by omega
  have hK : K ≤ 255 := by omega
  have hm0 := hm.1
  have hm1 := hm.2
  obtain ⟨p1, p2, p3⟩ := nm_put N (by omega) (List.replicate K 0)
  have HP := hide (RefPut_any (N : Int) (by omega) (by omega) w)
  rw [Int.toNat_natCast] at HP
  have hp1 := vput_pos N
  have hp2 := vput_le10 (a := N) (by omega)
  have HY := hide ((show Byt (vput N) from vput_byte N).append (zeros_byt K))
  have hdrop : (vput N ++ List.replicate K 0).drop (nmL (vput N ++ List.replicate K 0)) = List.replicate K 0 := by rw [p2, List.drop_left]
  have HCt := hide (show aCount (vput N ++ List.replicate K 0) 0 most = if most < (N : Int) then (0, [], 15) else if (K : Int) < (N : Int) then (0, [], 4) else ((N : Int), List.replicate K 0, 0) by
    unfold aCount
    rw [if_neg (by simp), if_neg (by rw [p3]; simp), p1, hdrop, List.length_replicate]
    by_cases h1 : most < (N : Int)
    · rw [if_pos (.inr h1), if_pos h1]
    · rw [if_neg (by omega), if_neg h1])
  have HLk := hide (show (List.replicate K (0 : Int)).length = K by simp)
  clear hn hm hk p1 p2 p3 hdrop
  have HX := hide (show u8s (vput N) ++ List.replicate K (Value.int .u8 0) = u8s (vput N ++ List.replicate K 0) by rw [zeros_u8]; simp [u8s])
  generalize hys : vput N ++ List.replicate K 0 = ys at *
  generalize hzs : List.replicate K (0 : Int) = zs at *
  clear hys hzs
  generalize vput N = vs at *
  go_enter Try.func7, Try.ntmps7
  go_wp2_with fail
  refine HP.out.mono ?_
  rintro e w1 ⟨v, rfl, hob, hb1⟩
  obtain ⟨A1, n1, c1, rfl, hnc1, hcm1, _, hown1, HN1⟩ := hob.var
  have hn1 : 1 ≤ n1 ∧ n1 ≤ 10 := by have := HN1.out; omega
  obtain ⟨g1, c1', hv, _, _⟩ := hown1.form (by omega)
  injection hv with e1 e2 e3
  subst e1 e3
  have B1 := hide hb1
  obtain ⟨v2, w2, hrun, hown2, hg2⟩ := run_append_zeros_own (P := Try.prog) w1 w.heap.size 28 3 28 5 i0 (.int .u8 0) .i64 Try.underlying28 Try.underlying3 hi hz0 hz1 hz2 rfl rfl g1 n1 _ _ hown1 hb1.size K (by omega)
  rw [HX.out] at hown2
  have B2 := hide (hb1.grown hg2 hb1.size (fun k hk => by injection hk with hk; exact hk ▸ (hown1.lt g1 rfl).1))
  obtain ⟨A2, c2, rfl, hnc2, hcm2⟩ := ownsRow_slice hown2
  have hl2 : ys.length = n1 + K := by have := hown2.1; simpa [u8s] using this
  have R2 := hide (Rd.of_own hown2)
  clear hob hown1 hown2 hb1 hg2
  go_wp2_with (at_builtin; refine Lib.wpList_append_run _ rfl _ _ _ _ rfl _ _ rfl rfl _ _ hrun ?_)
  clear hrun
  refine (NewReader_any A2 (n1 + K) c2 ys _ R2.out (Nat.le_refl _) HY.out (by omega)).mono ?_
  rintro e w3 ⟨g, rfl, hg, hcr, hb3⟩
  have B3 := hide (B2.out.trans (hb3.mono B2.out.size))
  have hwg : w.heap.size ≤ g := Nat.le_trans B2.out.size hg
  clear hb3
  go_wp2_with fail
  refine (Count_any hcr most (by omega) (by omega)).mono ?_
  rintro e w4 ⟨v, rfl, hv, hr4, g4⟩
  obtain rfl := hv
  have B4 := hide (below_only B3.out B3.out.size hwg g4)
  rw [HCt.out] at hr4 ⊢
  clear g4 hcr
  by_cases h1 : most < (N : Int)
  · rw [if_pos h1] at hr4 ⊢
    have R4 := hide hr4
    clear hr4
    go_wp2_with fail
    refine (alive03_any _).mono ?_
    rintro e w5 ⟨rfl, hb5⟩
    have B5 := hide (B4.out.trans (hb5.mono B4.out.size))
    have E5 := hide (R4.out.below hb5 R4.out.lt).errOf
    clear hb5
    go_wp2_with fail
    refine (Err_of _ _ _ E5.out).mono ?_
    rintro e w6 ⟨rfl, rfl⟩
    go_wp2_with fail
    go_ret
    exact ⟨rfl, B5.out⟩
  · rw [if_neg h1] at hr4 ⊢
    by_cases h2 : (K : Int) < (N : Int)
    · rw [if_pos h2] at hr4 ⊢
      have R4 := hide hr4
      clear hr4
      go_wp2_with fail
      refine (alive03_any _).mono ?_
      rintro e w5 ⟨rfl, hb5⟩
      have B5 := hide (B4.out.trans (hb5.mono B4.out.size))
      have E5 := hide (R4.out.below hb5 R4.out.lt).errOf
      clear hb5
      go_wp2_with fail
      refine (Err_of _ _ _ E5.out).mono ?_
      rintro e w6 ⟨rfl, rfl⟩
      go_wp2_with fail
      go_ret
      exact ⟨rfl, B5.out⟩
    · rw [if_neg h2] at hr4 ⊢
      have R4 := hide hr4
      clear hr4
      go_wp2_with fail
      refine (alive03_any _).mono ?_
      rintro e w5 ⟨rfl, hb5⟩
      have B5 := hide (B4.out.trans (hb5.mono B4.out.size))
      have R5 := R4.out.below hb5 R4.out.lt
      have E5 := hide R5.errOf
      have L5 := hide (Left_any R5)
      rw [aLeft_ok, HLk.out] at L5
      clear hb5 R5
      go_wp2_with fail
      refine (Err_of _ _ _ E5.out).mono ?_
      rintro e w6 ⟨rfl, rfl⟩
      go_wp2_with fail
      refine L5.out.mono ?_
      rintro e w6 ⟨rfl, k6, rfl⟩
      go_wp2_with fail
      go_ret
      exact ⟨rfl, below_drewN B5.out k6⟩

theorem own : ownKnob Try.prog.godebug = none := by kernel_rfl
theorem laidOut : laidOutB Try.prog = true := by kernel_rfl

set_option maxRecDepth 100000 in
/-- what the walk gives, for every argument that can be read -/
theorem contract (H : Type) (enc : TypeId × Value → H) (W : World) (base : Nat) (args : Array Value) (ds gs : List (DataW H)) (before : List MemPlace)
    (hval0 : ∀ (j : Nat) t v, Try.f7.params[j]? = some t → args[j]? = some v → Value.okWide Try.prog W .any base t v)
    (hW : DataW.Whole enc Try.prog Try.f7.params.toList Rows.wireCountsSpec.vars false W args.toList ds gs before) :
    Calls Try.prog 7 args W fun e W' => ∃ v, e = .returned v ∧ Rows.wireCountsSpec.post enc Try.prog Try.f7 false true false false W args v W' := by
  have hval : ∀ (j : Nat) t v, Try.f7.params[j]? = some t → args[j]? = some v → Value.okWide Try.prog W .any base t v := hval0
  have hW' := hW
  obtain ⟨p, q, hA0, hV, rfl, hfz, hnd⟩ := hW
  have hA : DataW.TrodAll enc Try.prog W 0 (fun _ => true) true Try.f7.params.toList args.toList ds p := hA0
  rw [Try.params7] at hA hval
  obtain ⟨v0, vs0, d0, ds0, p0, q0, hargs, rfl, rfl, h0, r0⟩ := trodAll_cons hA
  obtain ⟨v1, vs1, d1, ds1, p1, q1, rfl, rfl, rfl, h1, r1⟩ := trodAll_cons r0
  obtain ⟨v2, vs2, d2, ds2, p2, q2, rfl, rfl, rfl, h2, r2⟩ := trodAll_cons r1
  obtain ⟨rfl, rfl, rfl⟩ := trodAll_nil r2
  obtain rfl : args = #[v0, v1, v2] := by cases args; simp_all
  obtain ⟨rfl, rfl⟩ := trodVars_none hV
  obtain ⟨a0, rfl, rfl, rfl, w0⟩ := open_int Try.underlying53 (hval 0 53 v0 rfl rfl) h0
  have g0 : 0 ≤ a0 ∧ a0 ≤ 65535 := by simpa [Lit.wf, IntKind.min, IntKind.max, IntKind.signed, IntKind.bits] using w0
  obtain ⟨a1, rfl, rfl, rfl, w1⟩ := open_int Try.underlying54 (hval 1 54 v1 rfl rfl) h1
  have g1 : -32768 ≤ a1 ∧ a1 ≤ 32767 := by simpa [Lit.wf, IntKind.min, IntKind.max, IntKind.signed, IntKind.bits] using w1
  obtain ⟨a2, rfl, rfl, rfl, w2⟩ := open_int Try.underlying5 (hval 2 5 v2 rfl rfl) h2
  have g2 : 0 ≤ a2 ∧ a2 ≤ 255 := by simpa [Lit.wf, IntKind.min, IntKind.max, IntKind.signed, IntKind.bits] using w2
  clear hA0 hval0
  simp only [List.append_nil] at hW'
  refine (walk a0 a1 a2 W g0 g1 g2).mono fun e W' ⟨he, bel⟩ => ?_
  subst he
  exact ⟨_, rfl, _, _, _, [], _, [], hW', trodAll_mk1 (shut_bool Try.underlying4 _), (trodAll_cons_mk (shut_int Try.underlying53 w0) (trodAll_cons_mk (shut_int Try.underlying54 w1) (trodAll_cons_mk (shut_int Try.underlying5 w2) trodAll_mk0))), rfl, bel.frame _, fun h => by cases h⟩

set_option maxRecDepth 100000 in
theorem lifted (os : Os) (started : os.Started) (H : Type) (enc : TypeId × Value → H) :
    ReturnsInHanded {} Try.checked os 7 .any (Rows.wireCountsSpec.pre6 enc Try.prog Try.f7 Rows.wireCountsRow.domain false) (Rows.wireCountsSpec.post enc Try.prog Try.f7 false true false false) := by
  refine returnsInHanded_of_change (C := Try.checked) own started (by kernel_rfl) Try.func7
    (ChangeSpec.witness6 (enc := enc) (C := Try.checked) false ⟨#[], #[.int .u16 0, .int .i16 0, .int .u8 0], []⟩ 8 (by kernel_rfl) (by kernel_rfl) (by kernel_rfl) (by kernel_rfl)) ?_
  intro W base args ds gs before hval hW _ _
  exact contract H enc W base args ds gs before hval hW

/-- the statement -/
theorem proved : Rows.WireCountsSaid :=
  OpenClaim.holds_of_wide 7 Try.f7 rfl rfl rfl rfl rfl rfl rfl ⟨rfl, rfl, rfl, rfl, rfl⟩ rfl rfl rfl rfl rfl (by kernel_rfl) Try.func7 (by kernel_rfl)
    (of_decide_eq_true (by kernel_rfl)) (by unfold Func.isWrapper; first | (rw [if_pos (by decide +kernel)]; kernel_rfl) | (rw [if_neg (by decide +kernel)]; exact ⟨rfl, rfl⟩))
    (fun os started H enc _ => lifted os started H enc)
end Go.Proofs.Ytakjlomgkbloeaa.wireCounts
