/- WireReads: for every input the law returns true, and turns nothing that lay. No condition. -/
import Derived.Test.YtakjlomgkbloeaaRows
import Derived.Test.YtakjlomgkbloeaaAlive03
import Derived.Test.YtakjlomgkbloeaaStep
import Derived.Test.YtakjlomgkbloeaaOpenA
namespace Go.Proofs.Ytakjlomgkbloeaa.wireReads
open Go.ChangeShapes Go.WideShapes Go.ChangeAt Go.RowKit
set_option linter.unusedVariables false

set_option maxHeartbeats 4000000 in
set_option maxRecDepth 100000 in
theorem walk (A1 : Option Addr) (n1 c1 : Nat) (xs1 : List Int) (A2 : Option Addr) (n2 c2 : Nat) (L : List ActV) (w : World) (h1 : Arg w A1 n1 c1 xs1) (h2 : ArgA w A2 n2 c2 L) :
    Calls Try.prog 4 #[.slice A1 n1 c1, .slice A2 n2 c2] w fun e w' => e = .returned (.bool true) ∧ Below w.heap.size w w' := by
  have hcm2 := h2.cm
  have hnc2 := h2.nc
  have hl := h2.acts.1
  have hnm : n2 ≤ maxLen := Nat.le_trans hnc2 hcm2
  by_cases hn : 5000 < n1
  · have hi : (5000 : Int) < (n1 : Int) := by omega
    clear h1 h2 hcm2 hnm
    go_enter Try.func4, Try.ntmps4
    go_wp2_with fail
    refine (alive03_any _).mono ?_
    rintro e w1 ⟨rfl, hb⟩
    go_wp2_with fail
    go_ret
    exact ⟨rfl, hb⟩
  · have hi : ¬ ((5000 : Int) < (n1 : Int)) := by omega
    have hT := hide (tooLarge_any A2 n2 c2 L w h2.acts hnm)
    by_cases hbig : bigL L = true
    · rw [hbig] at hT
      clear h1 h2 hbig hcm2 hnm
      go_enter Try.func4, Try.ntmps4
      go_wp2_with fail
      refine hT.out.mono ?_
      rintro e w1 ⟨rfl, hb⟩
      go_wp2_with fail
      refine (alive03_any _).mono ?_
      rintro e w2 ⟨rfl, hb2⟩
      go_wp2_with fail
      go_ret
      exact ⟨rfl, hb.trans (hb2.mono hb.size)⟩
    · have hsm : wts L ≤ 5000 := by
        unfold bigL at hbig
        simpa using hbig
      rw [show bigL L = false by simpa using hbig] at hT
      have hlw := len_wts L
      have hn2 : n2 ≤ 5000 := by omega
      have HL := hide hl
      have H1 := hide h1
      have H2 := hide h2
      clear h1 h2 hbig hcm2 hnm hl hsm hlw
      go_enter Try.func4, Try.ntmps4
      go_wp2_with fail
      refine hT.out.mono ?_
      rintro e w1 ⟨rfl, hb1⟩
      have hr1 := hide (H1.out.rd.below hb1)
      go_wp2_with fail
      refine (NewReader_any A1 n1 c1 xs1 _ hr1.out hb1.size H1.out.byt (by omega)).mono ?_
      rintro e w2 ⟨g, rfl, hg, hcr, hb2⟩
      have q2 := hide (hb1.trans (hb2.mono hb1.size))
      have hlt := hcr.lt
      have hwg : w.heap.size ≤ g := Nat.le_trans hb1.size hg
      have hba := hide ((Below.refl w2.heap.size w2).alloc (Nat.le_refl _) (.cells #[.slice A1 n1 c1, .int .i64 0] 36))
      have hB := hide (show Both w2 (w2.alloc (.cells #[.slice A1 n1 c1, .int .i64 0] 36)) w.heap.size g w2.heap.size xs1 0 from
        ⟨hcr.below hba.out hlt, RR_new (H1.out.rd.below q2.out) q2.out.size H1.out.nc H1.out.cm H1.out.byt (by omega), hba.out.mono (Nat.le_of_lt hlt)⟩)
      clear hb1 hb2 hcr hT hr1 hba
      go_wp2_with fail
      go_loopw [26] (fun i wr => ∃ (k : Nat) (ys : List Int) (e : Int), i = .int .i64 (k : Int) ∧ k ≤ n2 ∧ Both w2 wr w.heap.size g w2.heap.size ys e) (fun i _ => n2 - (intOf i).toNat)
      case atStart => exact ⟨0, xs1, 0, rfl, Nat.zero_le _, hB.out⟩
      case round =>
        obtain ⟨k, ys, e, rfl, hk, hbo⟩ := hrel
        have q3 := hide (q2.out.trans (hbo.2.2.mono hwg))
        by_cases hlt2 : k < n2
        · have hex : ∃ a, L[k]? = some a := ⟨_, List.getElem?_eq_getElem (by have := HL.out; omega)⟩
          obtain ⟨a, ha⟩ := hex
          obtain ⟨b, o, rfl, hbB, hok, d0, d1, d2, d3⟩ := (H2.out.acts.below q3.out).at_ ha
          have HS := hide (step_any (hbo.alloc (.cells #[.int .i64 a.k, .int .u64 a.u, .int .i64 a.n, .string a.s] 39)) hwg hlt a hok)
          clear hbo ha hok
          go_wp2_with fail
          refine HS.out.mono ?_
          rintro x w3 ⟨ys', e', rfl, hbo2⟩
          have HB2 := hide hbo2
          clear hbo2
          go_wp2_with fail
          go_roundw
          case rel => exact ⟨k + 1, ys', e', by go_num, by omega, HB2.out⟩
          case measure => simp [intOf]; omega
        · obtain rfl : k = n2 := by omega
          clear hbo
          go_wp2_with fail
          refine (alive03_any _).mono ?_
          rintro e w4 ⟨rfl, hb4⟩
          go_wp2_with fail
          go_ret
          exact ⟨rfl, q3.out.trans (hb4.mono q3.out.size)⟩

theorem own : ownKnob Try.prog.godebug = none := by kernel_rfl
theorem laidOut : laidOutB Try.prog = true := by kernel_rfl

set_option maxRecDepth 100000 in
/-- what the walk gives, for every argument that can be read -/
theorem contract (H : Type) (enc : TypeId × Value → H) (W : World) (base : Nat) (args : Array Value) (ds gs : List (DataW H)) (before : List MemPlace)
    (hval0 : ∀ (j : Nat) t v, Try.f4.params[j]? = some t → args[j]? = some v → Value.okWide Try.prog W .any base t v)
    (hW : DataW.Whole enc Try.prog Try.f4.params.toList Rows.wireReadsSpec.vars false W args.toList ds gs before) :
    Calls Try.prog 4 args W fun e W' => ∃ v, e = .returned v ∧ Rows.wireReadsSpec.post enc Try.prog Try.f4 false true false false W args v W' := by
  have hval : ∀ (j : Nat) t v, Try.f4.params[j]? = some t → args[j]? = some v → Value.okWide Try.prog W .any base t v := hval0
  have hW' := hW
  obtain ⟨p, q, hA0, hV, rfl, hfz, hnd⟩ := hW
  have hA : DataW.TrodAll enc Try.prog W 0 (fun _ => true) true Try.f4.params.toList args.toList ds p := hA0
  rw [Try.params4] at hA hval
  obtain ⟨v0, vs0, d0, ds0, p0, q0, hargs, rfl, rfl, h0, r0⟩ := trodAll_cons hA
  obtain ⟨v1, vs1, d1, ds1, p1, q1, rfl, rfl, rfl, h1, r1⟩ := trodAll_cons r0
  obtain ⟨rfl, rfl, rfl⟩ := trodAll_nil r1
  obtain rfl : args = #[v0, v1] := by cases args; simp_all
  obtain ⟨rfl, rfl⟩ := trodVars_none hV
  have k0 := h0
  have lt0 : ∀ x ∈ p0, x.block < W.heap.size := by obtain ⟨m, hm⟩ := k0; exact DataW.trod_lt m _ _ _ hm
  obtain ⟨A0, n0, c0, xs0, rfl, g0, _⟩ := openBytes Try.underlying28 Try.underlying5 (by kernel_rfl) (hval 0 28 v0 rfl rfl) h0
  have k1 := h1
  have lt1 : ∀ x ∈ p1, x.block < W.heap.size := by obtain ⟨m, hm⟩ := k1; exact DataW.trod_lt m _ _ _ hm
  obtain ⟨A1, n1, c1, xs1, rfl, g1⟩ := openActs Try.underlying22 Try.underlying39 rfl (by kernel_rfl) (by kernel_rfl) Try.underlying3 Try.underlying37 Try.underlying2 Try.underlying9 (hval 1 22 v1 rfl rfl) h1
  clear hA0 hval0
  simp only [List.append_nil] at hW'
  refine (walk A0 n0 c0 xs0 A1 n1 c1 xs1 W g0 g1).mono fun e W' ⟨he, bel⟩ => ?_
  subst he
  exact ⟨_, rfl, _, _, _, [], _, [], hW', trodAll_mk1 (shut_bool Try.underlying4 _), (trodAll_cons_mk (Below.trod laidOut (by kernel_rfl) (of_decide_eq_true (by kernel_rfl)) k0 bel lt0) (trodAll_cons_mk (Below.trod laidOut (by kernel_rfl) (of_decide_eq_true (by kernel_rfl)) k1 bel lt1) trodAll_mk0)), rfl, bel.frame _, fun h => by cases h⟩

set_option maxRecDepth 100000 in
theorem lifted (os : Os) (started : os.Started) (H : Type) (enc : TypeId × Value → H) :
    ReturnsInHanded {} Try.checked os 4 .any (Rows.wireReadsSpec.pre6 enc Try.prog Try.f4 Rows.wireReadsRow.domain false) (Rows.wireReadsSpec.post enc Try.prog Try.f4 false true false false) := by
  refine returnsInHanded_of_change (C := Try.checked) own started (by kernel_rfl) Try.func4
    (ChangeSpec.witness6 (enc := enc) (C := Try.checked) false ⟨#[], #[.slice none 0 0, .slice none 0 0], []⟩ 8 (by kernel_rfl) (by kernel_rfl) (by kernel_rfl) (by kernel_rfl)) ?_
  intro W base args ds gs before hval hW _ _
  exact contract H enc W base args ds gs before hval hW

/-- the statement -/
theorem proved : Rows.WireReadsSaid :=
  OpenClaim.holds_of_wide 4 Try.f4 rfl rfl rfl rfl rfl rfl rfl ⟨rfl, rfl, rfl, rfl, rfl⟩ rfl rfl rfl rfl rfl (by kernel_rfl) Try.func4 (by kernel_rfl)
    (of_decide_eq_true (by kernel_rfl)) (by unfold Func.isWrapper; first | (rw [if_pos (by decide +kernel)]; kernel_rfl) | (rw [if_neg (by decide +kernel)]; exact ⟨rfl, rfl⟩))
    (fun os started H enc _ => lifted os started H enc)
end Go.Proofs.Ytakjlomgkbloeaa.wireReads
