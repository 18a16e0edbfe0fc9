/- WireLatches: for every input the law returns true, and turns nothing that lay. No condition. -/
import Derived.Test.YtakjlomgkbloeaaRows
import Derived.Test.YtakjlomgkbloeaaAlive03
import Derived.Test.YtakjlomgkbloeaaOpenA
namespace Go.Proofs.Ytakjlomgkbloeaa.wireLatches
open Go.ChangeShapes Go.WideShapes Go.ChangeAt Go.RowKit
set_option linter.unusedVariables false

theorem below_err {w w' : World} {g : Nat} {ys : List Int} {e : Int} (h : CR w g ys e) (hb : Below w.heap.size w w') : ErrOf w' (some ⟨g, 0, none⟩) e := (h.below hb h.lt).errOf

set_option maxHeartbeats 4000000 in
set_option maxRecDepth 100000 in
theorem walk (A0 : Option Addr) (n0 c0 : Nat) (xs0 : List Int) (f : Int) (A2 : Option Addr) (n2 c2 : Nat) (L : List ActV) (w : World) (h0 : Arg w A0 n0 c0 xs0) (hf : -9223372036854775808 ≤ f ∧ f ≤ 9223372036854775807) (h2 : ArgA w A2 n2 c2 L) :
    Calls Try.prog 6 #[.slice A0 n0 c0, .int .i64 f, .slice A2 n2 c2] w fun e w' => e = .returned (.bool true) ∧ Below w.heap.size w w' := by
  have hcm2 := h2.cm
  have hnc2 := h2.nc
  have hl := h2.acts.1
  have hnm : n2 ≤ maxLen := Nat.le_trans hnc2 hcm2
  by_cases hn : 5000 < n0
  · have hi : (5000 : Int) < (n0 : Int) := by omega
    clear h0 h2 hcm2 hnm
    go_enter Try.func6, Try.ntmps6
    go_wp2_with fail
    refine (alive03_any _).mono ?_
    rintro e w1 ⟨rfl, hb⟩
    go_wp2_with fail
    go_ret
    exact ⟨rfl, hb⟩
  · have hi : ¬ ((5000 : Int) < (n0 : Int)) := by omega
    have hT := hide (tooLarge_any A2 n2 c2 L w h2.acts hnm)
    by_cases hbig : bigL L = true
    · rw [hbig] at hT
      clear h0 h2 hbig hcm2 hnm
      go_enter Try.func6, Try.ntmps6
      go_wp2_with fail
      refine hT.out.mono ?_
      rintro e w1 ⟨rfl, hb⟩
      go_wp2_with fail
      refine (alive03_any _).mono ?_
      rintro e w2 ⟨rfl, hb2⟩
      go_wp2_with fail
      go_ret
      exact ⟨rfl, hb.trans (hb2.mono hb.size)⟩
    · have hsm : wts L ≤ 5000 := by
        unfold bigL at hbig
        simpa using hbig
      rw [show bigL L = false by simpa using hbig] at hT
      have hlw := len_wts L
      have hn2 : n2 ≤ 5000 := by omega
      have HL := hide hl
      have H0 := hide h0
      have H2 := hide h2
      by_cases hz : f = 0
      · subst hz
        clear h0 h2 hbig hcm2 hnm hl hsm hlw hf
        go_enter Try.func6, Try.ntmps6
        go_wp2_with fail
        refine hT.out.mono ?_
        rintro e w1 ⟨rfl, hb⟩
        go_wp2_with fail
        refine (alive03_any _).mono ?_
        rintro e w2 ⟨rfl, hb2⟩
        go_wp2_with fail
        go_ret
        exact ⟨rfl, hb.trans (hb2.mono hb.size)⟩
      · have hzb : (f == 0) = false := by simpa using hz
        have hzb2 : (f != 0) = true := by simpa using hz
        have HZ := hide hz
        have hx0 := hide (show xs0.length = n0 by simpa using h0.rd.1)
        clear h0 h2 hbig hcm2 hnm hl hsm hlw hz hf
        go_enter Try.func6, Try.ntmps6
        go_wp2_with fail
        refine hT.out.mono ?_
        rintro e w1 ⟨rfl, hb1⟩
        have hr1 := hide (H0.out.rd.below hb1)
        go_wp2_with fail
        refine (NewReader_any A0 n0 c0 xs0 _ hr1.out hb1.size H0.out.byt (by omega)).mono ?_
        rintro e w2 ⟨g, rfl, hg, hcr, hb2⟩
        have q2 := hide (hb1.trans (hb2.mono hb1.size))
        have hwg : w.heap.size ≤ g := Nat.le_trans hb1.size hg
        clear hb1 hb2 hr1 hT
        go_wp2_with fail
        refine (Fail_any hcr 0).mono ?_
        rintro e w3 ⟨⟨v, rfl⟩, hr3, g3⟩
        have q3 := hide (below_only q2.out q2.out.size hwg g3)
        have hr3' : CR w3 g xs0 0 := hr3
        have R3 := hide hr3'
        have E3 := hide hr3'.errOf
        have L3 := hide (Left_any hr3')
        rw [aLeft_ok, hx0.out] at L3
        clear hcr hr3 g3 hr3'
        go_wp2_with fail
        refine (Err_of _ _ _ E3.out).mono ?_
        rintro e w4 ⟨rfl, rfl⟩
        go_wp2_with fail
        refine L3.out.mono ?_
        rintro e w4 ⟨rfl, k4, rfl⟩
        have q4 := hide (below_drewN q3.out k4)
        have R4 := hide (R3.out.drewN k4)
        go_wp2_with fail
        refine (Fail_any R4.out f).mono ?_
        rintro e w5 ⟨⟨v, rfl⟩, hr5, g5⟩
        have R5 := hide (show CR w5 g [] f by
          have e1 : aFail xs0 0 f = ([], f) := by unfold aFail; rw [if_neg (by simp), if_pos HZ.out]
          rw [e1] at hr5
          exact hr5)
        have q5 := hide (below_only q4.out q4.out.size hwg g5)
        have hl5 := q5.out.size
        clear hr5 g5
        go_wp2_with fail
        go_loopw [41] (fun i wr => ∃ k : Nat, i = .int .i64 (k : Int) ∧ k ≤ n2 ∧ CR wr g [] f ∧ Below w.heap.size w wr) (fun i _ => n2 - (intOf i).toNat)
        case atStart => exact ⟨0, rfl, Nat.zero_le _, R5.out, q5.out⟩
        case round =>
          obtain ⟨k, rfl, hk, hcr, hb⟩ := hrel
          have RK := hide hcr
          have BK := hide hb
          by_cases hlt2 : k < n2
          · have hex : ∃ a, L[k]? = some a := ⟨_, List.getElem?_eq_getElem (by have := HL.out; omega)⟩
            obtain ⟨a, ha⟩ := hex
            obtain ⟨b, o, rfl, hbB, hok, d0, d1, d2, d3⟩ := (H2.out.acts.below hb).at_ ha
            have hgr := hcr.lt
            have hba := hide ((Below.refl wr.heap.size wr).alloc (Nat.le_refl _) (.cells #[.int .i64 a.k, .int .u64 a.u, .int .i64 a.n, .string a.s] 39))
            have HE := hide fun (w' : World) (hw : Below wr.heap.size (wr.alloc (.cells #[.int .i64 a.k, .int .u64 a.u, .int .i64 a.n, .string a.s] 39)) w') => below_err RK.out (hba.out.trans hw)
            have hk0 := hide fun (w' : World) (hw : Below (wr.heap.size + 1) (wr.alloc (.cells #[.int .i64 a.k, .int .u64 a.u, .int .i64 a.n, .string a.s] 39)) w') => (⟨(hw.cell (p := ⟨wr.heap.size, 1, none⟩) (Nat.lt_succ_self _)).trans (by simp [go_sem]), (hw.cell (p := ⟨wr.heap.size, 2, none⟩) (Nat.lt_succ_self _)).trans (by simp [go_sem])⟩ : w'.cell? ⟨wr.heap.size, 1, none⟩ = some (.int .u64 a.u) ∧ w'.cell? ⟨wr.heap.size, 2, none⟩ = some (.int .i64 a.n))
            clear ha hok hcr hb
            go_wp2_with fail
            refine (Byte_skip (HE.out _ (Below.refl _ _)) HZ.out).mono ?_
            rintro e w6 ⟨rfl, b6⟩
            simp only [World.size_alloc] at b6
            obtain ⟨k61, k62⟩ := hk0.out _ b6
            have B6 := hide b6
            clear b6
            go_wp2_with fail
            refine (Uint_skip (HE.out _ (B6.out.mono (Nat.le_succ _))) HZ.out _).mono ?_
            rintro e w7 ⟨rfl, b7⟩
            have B7 := hide (B6.out.trans (b7.mono (by have := B6.out.size; simpa using this)))
            obtain ⟨k71, k72⟩ := hk0.out _ B7.out
            clear b7 k61 k62 B6
            go_wp2_with fail
            refine (Int_skip (HE.out _ (B7.out.mono (Nat.le_succ _))) HZ.out).mono ?_
            rintro e w8 ⟨rfl, b8⟩
            have B8 := hide (B7.out.trans (b8.mono (by have := B7.out.size; simpa using this)))
            obtain ⟨k81, k82⟩ := hk0.out _ B8.out
            clear b8 k71 k72 B7
            go_wp2_with fail
            refine (Take_skip (HE.out _ (B8.out.mono (Nat.le_succ _))) HZ.out _).mono ?_
            rintro e w9 ⟨rfl, b9⟩
            have B9 := hide (B8.out.trans (b9.mono (by have := B8.out.size; simpa using this)))
            obtain ⟨k91, k92⟩ := hk0.out _ B9.out
            clear b9 k81 k82 B8
            go_wp2_with fail
            refine (String_skip (HE.out _ (B9.out.mono (Nat.le_succ _))) HZ.out _).mono ?_
            rintro e w10 ⟨rfl, b10⟩
            have B10 := hide (B9.out.trans (b10.mono (by have := B9.out.size; simpa using this)))
            obtain ⟨k101, k102⟩ := hk0.out _ B10.out
            clear b10 k91 k92 B9
            go_wp2_with fail
            refine (Count_skip (HE.out _ (B10.out.mono (Nat.le_succ _))) HZ.out _).mono ?_
            rintro e w11 ⟨rfl, b11⟩
            have B11 := hide (B10.out.trans (b11.mono (by have := B10.out.size; simpa using this)))
            have R11 := hide (RK.out.below (hba.out.trans (B11.out.mono (Nat.le_succ _))) hgr)
            have Q11 := hide (BK.out.trans ((hba.out.trans (B11.out.mono (Nat.le_succ _))).mono BK.out.size))
            clear b11 k101 k102 B10
            go_wp2_with fail
            refine (Fail_any R11.out 2).mono ?_
            rintro e w12 ⟨⟨v, rfl⟩, hr12, g12⟩
            have R12 := hide (show CR w12 g [] f by
              rw [aFail_skip 2 HZ.out] at hr12
              exact hr12)
            have Q12 := hide (below_only Q11.out Q11.out.size hwg g12)
            clear hr12 g12
            go_wp2_with fail
            go_roundw
            case rel => exact ⟨k + 1, by go_num, by omega, R12.out, Q12.out⟩
            case measure => simp [intOf]; omega
          · obtain rfl : k = n2 := by omega
            clear hcr hb
            go_wp2_with fail
            refine (alive03_any _).mono ?_
            rintro e w6 ⟨rfl, hb6⟩
            have q6 := hide (BK.out.trans (hb6.mono BK.out.size))
            have E6 := hide (RK.out.below hb6 RK.out.lt).errOf
            clear hb6
            go_wp2_with fail
            refine (Err_of _ _ _ E6.out).mono ?_
            rintro e w7 ⟨rfl, rfl⟩
            go_wp2_with fail
            refine (End_skip E6.out HZ.out).mono ?_
            rintro e w7 ⟨rfl, rfl⟩
            go_wp2_with fail
            refine (Left_skip E6.out HZ.out).mono ?_
            rintro e w7 ⟨rfl, rfl⟩
            go_wp2_with fail
            go_ret
            exact ⟨rfl, q6.out⟩

theorem own : ownKnob Try.prog.godebug = none := by kernel_rfl
theorem laidOut : laidOutB Try.prog = true := by kernel_rfl

set_option maxRecDepth 100000 in
/-- what the walk gives, for every argument that can be read -/
theorem contract (H : Type) (enc : TypeId × Value → H) (W : World) (base : Nat) (args : Array Value) (ds gs : List (DataW H)) (before : List MemPlace)
    (hval0 : ∀ (j : Nat) t v, Try.f6.params[j]? = some t → args[j]? = some v → Value.okWide Try.prog W .any base t v)
    (hW : DataW.Whole enc Try.prog Try.f6.params.toList Rows.wireLatchesSpec.vars false W args.toList ds gs before) :
    Calls Try.prog 6 args W fun e W' => ∃ v, e = .returned v ∧ Rows.wireLatchesSpec.post enc Try.prog Try.f6 false true false false W args v W' := by
  have hval : ∀ (j : Nat) t v, Try.f6.params[j]? = some t → args[j]? = some v → Value.okWide Try.prog W .any base t v := hval0
  have hW' := hW
  obtain ⟨p, q, hA0, hV, rfl, hfz, hnd⟩ := hW
  have hA : DataW.TrodAll enc Try.prog W 0 (fun _ => true) true Try.f6.params.toList args.toList ds p := hA0
  rw [Try.params6] at hA hval
  obtain ⟨v0, vs0, d0, ds0, p0, q0, hargs, rfl, rfl, h0, r0⟩ := trodAll_cons hA
  obtain ⟨v1, vs1, d1, ds1, p1, q1, rfl, rfl, rfl, h1, r1⟩ := trodAll_cons r0
  obtain ⟨v2, vs2, d2, ds2, p2, q2, rfl, rfl, rfl, h2, r2⟩ := trodAll_cons r1
  obtain ⟨rfl, rfl, rfl⟩ := trodAll_nil r2
  obtain rfl : args = #[v0, v1, v2] := by cases args; simp_all
  obtain ⟨rfl, rfl⟩ := trodVars_none hV
  have k0 := h0
  have lt0 : ∀ x ∈ p0, x.block < W.heap.size := by obtain ⟨m, hm⟩ := k0; exact DataW.trod_lt m _ _ _ hm
  obtain ⟨A0, n0, c0, xs0, rfl, g0, _⟩ := openBytes Try.underlying28 Try.underlying5 (by kernel_rfl) (hval 0 28 v0 rfl rfl) h0
  obtain ⟨a1, rfl, rfl, rfl, w1⟩ := open_int Try.underlying3 (hval 1 3 v1 rfl rfl) h1
  have g1 : -9223372036854775808 ≤ a1 ∧ a1 ≤ 9223372036854775807 := by simpa [Lit.wf, IntKind.min, IntKind.max, IntKind.signed, IntKind.bits] using w1
  have k2 := h2
  have lt2 : ∀ x ∈ p2, x.block < W.heap.size := by obtain ⟨m, hm⟩ := k2; exact DataW.trod_lt m _ _ _ hm
  obtain ⟨A2, n2, c2, xs2, rfl, g2⟩ := openActs Try.underlying22 Try.underlying39 rfl (by kernel_rfl) (by kernel_rfl) Try.underlying3 Try.underlying37 Try.underlying2 Try.underlying9 (hval 2 22 v2 rfl rfl) h2
  clear hA0 hval0
  simp only [List.append_nil] at hW'
  refine (walk A0 n0 c0 xs0 a1 A2 n2 c2 xs2 W g0 g1 g2).mono fun e W' ⟨he, bel⟩ => ?_
  subst he
  exact ⟨_, rfl, _, _, _, [], _, [], hW', trodAll_mk1 (shut_bool Try.underlying4 _), (trodAll_cons_mk (Below.trod laidOut (by kernel_rfl) (of_decide_eq_true (by kernel_rfl)) k0 bel lt0) (trodAll_cons_mk (shut_int Try.underlying3 w1) (trodAll_cons_mk (Below.trod laidOut (by kernel_rfl) (of_decide_eq_true (by kernel_rfl)) k2 bel lt2) trodAll_mk0))), rfl, bel.frame _, fun h => by cases h⟩

set_option maxRecDepth 100000 in
theorem lifted (os : Os) (started : os.Started) (H : Type) (enc : TypeId × Value → H) :
    ReturnsInHanded {} Try.checked os 6 .any (Rows.wireLatchesSpec.pre6 enc Try.prog Try.f6 Rows.wireLatchesRow.domain false) (Rows.wireLatchesSpec.post enc Try.prog Try.f6 false true false false) := by
  refine returnsInHanded_of_change (C := Try.checked) own started (by kernel_rfl) Try.func6
    (ChangeSpec.witness6 (enc := enc) (C := Try.checked) false ⟨#[], #[.slice none 0 0, .int .i64 0, .slice none 0 0], []⟩ 8 (by kernel_rfl) (by kernel_rfl) (by kernel_rfl) (by kernel_rfl)) ?_
  intro W base args ds gs before hval hW _ _
  exact contract H enc W base args ds gs before hval hW

/-- the statement -/
theorem proved : Rows.WireLatchesSaid :=
  OpenClaim.holds_of_wide 6 Try.f6 rfl rfl rfl rfl rfl rfl rfl ⟨rfl, rfl, rfl, rfl, rfl⟩ rfl rfl rfl rfl rfl (by kernel_rfl) Try.func6 (by kernel_rfl)
    (of_decide_eq_true (by kernel_rfl)) (by unfold Func.isWrapper; first | (rw [if_pos (by decide +kernel)]; kernel_rfl) | (rw [if_neg (by decide +kernel)]; exact ⟨rfl, rfl⟩))
    (fun os started H enc _ => lifted os started H enc)
end Go.Proofs.Ytakjlomgkbloeaa.wireLatches
