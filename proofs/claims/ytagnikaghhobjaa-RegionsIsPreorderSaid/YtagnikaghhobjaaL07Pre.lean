/- RegionsIsPreorder: for every input the law returns true, and turns nothing that lay. No condition. -/
import Derived.Test.YtagnikaghhobjaaRows
import Derived.Test.YtagnikaghhobjaaLaw07
namespace Go.Proofs.Ytagnikaghhobjaa.regionsIsPreorder
open Go.ChangeShapes Go.WideShapes Go.ChangeAt Go.ChangeMaps Go.RowKit
set_option linter.unusedVariables false

set_option maxHeartbeats 16000000 in
set_option maxRecDepth 100000 in
theorem walk (A : Option Addr) (n c : Nat) (L : List Pr) (rg : Int) (a b d : Int) (w : World) (hA : ArgP w A n c L) (hr : -9223372036854775808 ≤ rg ∧ rg ≤ 9223372036854775807) (habd : (0 ≤ a ∧ a ≤ 255) ∧ (0 ≤ b ∧ b ≤ 255) ∧ 0 ≤ d ∧ d ≤ 255) :
    Calls Try.prog 6 #[.slice A n c, .int .i64 rg, .agg #[.int .u8 a, .int .u8 b, .int .u8 d]] w fun e w' => e = .returned (.bool true) ∧ Below w.heap.size w w' := by
  have hB0 := (Below.refl w.heap.size w).alloc (Nat.le_refl _) (.cells #[.int .u8 a, .int .u8 b, .int .u8 d] 40)
  have HB0 := hide hB0
  have HA := hide ((hA.prs.below hB0).more hB0.size)
  have HL := hide hA.prs.len
  have hnm : n ≤ maxLen := Nat.le_trans hA.nc hA.cm
  clear hA hr hB0
  cases hlg : lrg n rg
  case true =>
    have HG := hide hlg
    clear hlg
    go_enter Try.func6, Try.ntmps6
    go_wp2_with fail
    refine (Lrg_is HG.out _ hnm).mono ?_
    rintro e w1 ⟨rfl, rfl⟩
    go_wp2_with fail
    refine (alive07_any _).mono ?_
    rintro e w2 ⟨rfl, hb⟩
    have HB := hide (HB0.out.trans (hb.mono HB0.out.size))
    clear hb
    go_wp2_with fail
    go_ret
    exact ⟨rfl, HB.out⟩
  have HG := hide hlg
  clear hlg
  obtain ⟨hn40, hr40⟩ := lrg_no HG.out
  by_cases hr1 : rg < 1
  · have t1 : decide (rg < 1) = true := decide_eq_true hr1
    clear hr1
    go_enter Try.func6, Try.ntmps6
    go_wp2_with fail
    refine (Lrg_is HG.out _ hnm).mono ?_
    rintro e w1 ⟨rfl, rfl⟩
    go_wp2_with fail
    refine (alive07_any _).mono ?_
    rintro e w2 ⟨rfl, hb⟩
    have HB := hide (HB0.out.trans (hb.mono HB0.out.size))
    clear hb
    go_wp2_with fail
    go_ret
    exact ⟨rfl, HB.out⟩
  have t1 : decide (rg < 1) = false := decide_eq_false hr1
  obtain ⟨v, hv⟩ : ∃ v, prChk L rg = v := ⟨_, rfl⟩
  have HV := hide hv
  clear hv
  by_cases hv0 : v = 0
  rotate_left
  · have vn : (v != 0) = true := by rw [bne_iff_ne]; exact hv0
    clear hv0 hr1
    go_enter Try.func6, Try.ntmps6
    go_wp2_with fail
    refine (Lrg_is HG.out _ hnm).mono ?_
    rintro e w1 ⟨rfl, rfl⟩
    go_wp2_with fail
    refine (RRegCheck_is HV.out _ HA.out hnm).mono ?_
    rintro e w1 ⟨rfl, rfl⟩
    go_wp2_with fail
    refine (alive07_any _).mono ?_
    rintro e w2 ⟨rfl, hb⟩
    have HB := hide (HB0.out.trans (hb.mono HB0.out.size))
    clear hb
    go_wp2_with fail
    go_ret
    exact ⟨rfl, HB.out⟩
  subst hv0
  have HOK := hide (prChk_ok HV.out)
  obtain ⟨⟨a0, a1⟩, ⟨b0, b1⟩, d0, d1⟩ := habd
  have hrn : ¬ rg = 0 := by omega
  have qs : ∀ x : Int, 0 ≤ x → ∃ q, x.tmod rg = q ∧ 0 ≤ q ∧ q < rg := fun x hx => ⟨_, rfl, Int.tmod_nonneg _ hx, Int.tmod_lt_of_pos _ (by omega)⟩
  obtain ⟨qa, ea, qa0, qa1⟩ := qs a a0
  obtain ⟨qb, eb, qb0, qb1⟩ := qs b b0
  obtain ⟨qd, ed, qd0, qd1⟩ := qs d d0
  have wa : IntKind.i64.wrap a = a := by rw [IntKind.wrap_i64]; omega
  have wb : IntKind.i64.wrap b = b := by rw [IntKind.wrap_i64]; omega
  have wd : IntKind.i64.wrap d = d := by rw [IntKind.wrap_i64]; omega
  have wqa : IntKind.i64.wrap qa = qa := by rw [IntKind.wrap_i64]; omega
  have wqb : IntKind.i64.wrap qb = qb := by rw [IntKind.wrap_i64]; omega
  have wqd : IntKind.i64.wrap qd = qd := by rw [IntKind.wrap_i64]; omega
  obtain ⟨o1, h1⟩ : ∃ o, out L rg qa qb = o := ⟨_, rfl⟩
  obtain ⟨o2, h2⟩ : ∃ o, out L rg qb qd = o := ⟨_, rfl⟩
  have H0 := hide (show out L rg qa qa = true from out_iff.2 (Out.refl ⟨qa0, qa1⟩))
  have H1 := hide h1
  have H2 := hide h2
  have H3 := hide (show o1 = true → o2 = true → out L rg qa qd = true from fun e1 e2 => out_iff.2 ((out_iff.1 (h1.trans e1)).trans (out_iff.1 (h2.trans e2))))
  have hcell : ∀ w' : World, Below (w.alloc (.cells #[.int .u8 a, .int .u8 b, .int .u8 d] 40)).heap.size (w.alloc (.cells #[.int .u8 a, .int .u8 b, .int .u8 d] 40)) w' → w'.cell? ⟨w.heap.size, 0, none⟩ = some (.int .u8 a) ∧ w'.cell? ⟨w.heap.size, 1, none⟩ = some (.int .u8 b) ∧ w'.cell? ⟨w.heap.size, 2, none⟩ = some (.int .u8 d) := fun w' h =>
    ⟨(h.cell (p := ⟨w.heap.size, 0, none⟩) (by simp)).trans (by simp [go_sem]), (h.cell (p := ⟨w.heap.size, 1, none⟩) (by simp)).trans (by simp [go_sem]), (h.cell (p := ⟨w.heap.size, 2, none⟩) (by simp)).trans (by simp [go_sem])⟩
  have HCell := hide hcell
  clear hcell qs h1 h2 hr1 a0 a1 b0 b1 d0 d1 qa0 qa1 qb0 qb1 qd0 qd1
  go_enter Try.func6, Try.ntmps6
  go_wp2_with fail
  refine (Lrg_is HG.out _ hnm).mono ?_
  rintro e w1 ⟨rfl, rfl⟩
  go_wp2_with fail
  refine (RRegCheck_is HV.out _ HA.out hnm).mono ?_
  rintro e w1 ⟨rfl, rfl⟩
  go_wp2_with fail
  refine (New_good A n c L rg _ HA.out HV.out).mono ?_
  rintro e w2 ⟨r, rfl, hR, hb⟩
  have HRel := hide fun (w' : World) (h : Below w2.heap.size w2 w') => (hR.below h).more h.size
  have HB2 := hide (HB0.out.trans (hb.mono HB0.out.size))
  have HPr := hide fun (w' : World) (h : Below w2.heap.size w2 w') => (HA.out.below (hb.trans (h.mono hb.size)))
  have HC2 := hide fun (w' : World) (h : Below w2.heap.size w2 w') => HCell.out w' (hb.trans (h.mono hb.size))
  have hs2 : (w.alloc (.cells #[.int .u8 a, .int .u8 b, .int .u8 d] 40)).heap.size ≤ w2.heap.size := hb.size
  clear hb hR
  go_wp2_with fail
  go_loopw [38] (fun i wr => ∃ k : Nat, i = .int .i64 (k : Int) ∧ k ≤ n ∧ Below w2.heap.size w2 wr) (fun i _ => n - (intOf i).toNat)
  case atStart => exact ⟨0, rfl, Nat.zero_le _, Below.refl _ _⟩
  case round =>
    obtain ⟨k, rfl, hk, hb⟩ := hrel
    have HB := hide hb
    by_cases hlt : k < n
    · obtain ⟨p, hp⟩ := HA.out.get hlt
      have hlt' : (k : Int) < (n : Int) := by omega
      have HO := hide (show out L rg p.1 p.2 = true from out_iff.2 (Out.pair HOK.out (List.mem_of_getElem? hp)))
      obtain ⟨bb, oo, rfl, hbB, _, c0, c1⟩ := (HPr.out wr hb).at_ hp
      obtain ⟨x, y⟩ := p
      simp only [] at c0 c1
      have HB1 := hide (hb.alloc hb.size (.cells #[.int .i64 x, .int .i64 y] 31))
      clear hp hb
      go_wp2_with fail
      refine (Outlives_is HO.out _ (HRel.out _ HB1.out)).mono ?_
      rintro e w4 ⟨rfl, hb4⟩
      have HB4 := hide (HB1.out.trans (hb4.mono HB1.out.size))
      clear hb4
      go_wp2_with fail
      go_roundw
      case rel => exact ⟨k + 1, by go_num, by omega, HB4.out⟩
      case measure => simp [intOf]; omega
    · have hlt' : ¬ (k : Int) < (n : Int) := by omega
      have e : k = n := by omega
      obtain ⟨e0, e1, e2⟩ := HC2.out wr hb
      generalize wr = wx at *
      clear hb hlt
      go_wp2
      go_quiet (fail)
      have HBq := hide (tyN HB.out nq)
      go_wp2_with fail
      refine (alive07_any _).mono ?_
      rintro e w5 ⟨rfl, hb⟩
      have HB5 := hide (HBq.out.trans (hb.mono HBq.out.size))
      clear hb
      go_wp2_with fail
      refine (Outlives_is H0.out _ (HRel.out _ HB5.out)).mono ?_
      rintro e w6 ⟨rfl, hb⟩
      have HB6 := hide (HB5.out.trans (hb.mono HB5.out.size))
      clear hb
      go_wp2_with fail
      refine (Outlives_is H1.out _ (HRel.out _ HB6.out)).mono ?_
      rintro e w7 ⟨rfl, hb⟩
      have HB7 := hide (HB6.out.trans (hb.mono HB6.out.size))
      clear hb
      cases o1
      · go_wp2_with fail
        go_ret
        exact ⟨rfl, HB2.out.trans (HB7.out.mono HB2.out.size)⟩
      · go_wp2_with fail
        refine (Outlives_is H2.out _ (HRel.out _ HB7.out)).mono ?_
        rintro e w8 ⟨rfl, hb⟩
        have HB8 := hide (HB7.out.trans (hb.mono HB7.out.size))
        clear hb
        cases o2
        · go_wp2_with fail
          go_ret
          exact ⟨rfl, HB2.out.trans (HB8.out.mono HB2.out.size)⟩
        · go_wp2_with fail
          refine (Outlives_is (H3.out (by trivial) (by trivial)) _ (HRel.out _ HB8.out)).mono ?_
          rintro e w9 ⟨rfl, hb⟩
          have HB9 := hide (HB8.out.trans (hb.mono HB8.out.size))
          clear hb
          go_wp2_with fail
          go_ret
          exact ⟨rfl, HB2.out.trans (HB9.out.mono HB2.out.size)⟩

theorem own : ownKnob Try.prog.godebug = none := by kernel_rfl
theorem laidOut : laidOutB Try.prog = true := by kernel_rfl

set_option maxRecDepth 100000 in
/-- what the walk gives, for every argument that can be read -/
theorem contract (H : Type) (enc : TypeId × Value → H) (W : World) (base : Nat) (args : Array Value) (ds gs : List (DataW H)) (before : List MemPlace)
    (hval0 : ∀ (j : Nat) t v, Try.f6.params[j]? = some t → args[j]? = some v → Value.okWide Try.prog W .any base t v)
    (hW : DataW.Whole enc Try.prog Try.f6.params.toList Rows.regionsIsPreorderSpec.vars false W args.toList ds gs before) :
    Calls Try.prog 6 args W fun e W' => ∃ v, e = .returned v ∧ Rows.regionsIsPreorderSpec.post enc Try.prog Try.f6 false true false false W args v W' := by
  have hval : ∀ (j : Nat) t v, Try.f6.params[j]? = some t → args[j]? = some v → Value.okWide Try.prog W .any base t v := hval0
  have hW' := hW
  obtain ⟨p, q, hA0, hV, rfl, hfz, hnd⟩ := hW
  have hA : DataW.TrodAll enc Try.prog W 0 (fun _ => true) true Try.f6.params.toList args.toList ds p := hA0
  rw [Try.params6] at hA hval
  obtain ⟨v0, vs0, d0, ds0, p0, q0, hargs, rfl, rfl, h0, r0⟩ := trodAll_cons hA
  obtain ⟨v1, vs1, d1, ds1, p1, q1, rfl, rfl, rfl, h1, r1⟩ := trodAll_cons r0
  obtain ⟨v2, vs2, d2, ds2, p2, q2, rfl, rfl, rfl, h2, r2⟩ := trodAll_cons r1
  obtain ⟨rfl, rfl, rfl⟩ := trodAll_nil r2
  obtain rfl : args = #[v0, v1, v2] := by cases args; simp_all
  obtain ⟨rfl, rfl⟩ := trodVars_none hV
  have k0 := h0
  have lt0 : ∀ x ∈ p0, x.block < W.heap.size := by obtain ⟨m, hm⟩ := k0; exact DataW.trod_lt m _ _ _ hm
  obtain ⟨A0, n0, c0, xs0, rfl, g0⟩ := openPrs Try.underlying22 Try.underlying31 Try.underlying3 (by kernel_rfl) (by kernel_rfl) (hval 0 22 v0 rfl rfl) h0
  obtain ⟨a1, rfl, rfl, rfl, w1⟩ := open_int Try.underlying3 (hval 1 3 v1 rfl rfl) h1
  have g1 : -9223372036854775808 ≤ a1 ∧ a1 ≤ 9223372036854775807 := by simpa [Lit.wf, IntKind.min, IntKind.max, IntKind.signed, IntKind.bits] using w1
  have k2 := h2
  have lt2 : ∀ x ∈ p2, x.block < W.heap.size := by obtain ⟨m, hm⟩ := k2; exact DataW.trod_lt m _ _ _ hm
  obtain ⟨a2, b2, c2, rfl, g2⟩ := openTri8 Try.underlying40 Try.underlying5 (by kernel_rfl) (by kernel_rfl) (hval 2 40 v2 rfl rfl) h2
  clear hA0 hval0
  simp only [List.append_nil] at hW'
  refine (walk A0 n0 c0 xs0 a1 a2 b2 c2 W g0 g1 g2).mono fun e W' ⟨he, bel⟩ => ?_
  subst he
  exact ⟨_, rfl, _, _, _, [], _, [], hW', trodAll_mk1 (shut_bool Try.underlying4 _), (trodAll_cons_mk (Below.trod laidOut (by kernel_rfl) (of_decide_eq_true (by kernel_rfl)) k0 bel lt0) (trodAll_cons_mk (shut_int Try.underlying3 w1) (trodAll_cons_mk (Below.trod laidOut (by kernel_rfl) (of_decide_eq_true (by kernel_rfl)) k2 bel lt2) trodAll_mk0))), rfl, bel.frame _, fun h => by cases h⟩

set_option maxRecDepth 100000 in
theorem lifted (os : Os) (started : os.Started) (H : Type) (enc : TypeId × Value → H) :
    ReturnsInHanded {} Try.checked os 6 .any (Rows.regionsIsPreorderSpec.pre6 enc Try.prog Try.f6 Rows.regionsIsPreorderRow.domain false) (Rows.regionsIsPreorderSpec.post enc Try.prog Try.f6 false true false false) := by
  refine returnsInHanded_of_change (C := Try.checked) own started (by kernel_rfl) Try.func6
    (ChangeSpec.witness6 (enc := enc) (C := Try.checked) false ⟨#[], #[.slice none 0 0, .int .i64 0, .agg #[.int .u8 0, .int .u8 0, .int .u8 0]], []⟩ 8 (by kernel_rfl) (by kernel_rfl) (by kernel_rfl) (by kernel_rfl)) ?_
  intro W base args ds gs before hval hW _ _
  exact contract H enc W base args ds gs before hval hW

/-- the statement -/
theorem proved : Rows.RegionsIsPreorderSaid :=
  OpenClaim.holds_of_wide 6 Try.f6 rfl rfl rfl rfl rfl rfl rfl ⟨rfl, rfl, rfl, rfl, rfl⟩ rfl rfl rfl rfl rfl (by kernel_rfl) Try.func6 (by kernel_rfl)
    (of_decide_eq_true (by kernel_rfl)) (by unfold Func.isWrapper; first | (rw [if_pos (by decide +kernel)]; kernel_rfl) | (rw [if_neg (by decide +kernel)]; exact ⟨rfl, rfl⟩))
    (fun os started H enc _ => lifted os started H enc)
end Go.Proofs.Ytagnikaghhobjaa.regionsIsPreorder
