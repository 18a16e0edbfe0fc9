/- InternRoundTrip: for every input the law returns true, and turns nothing that lay. No condition. -/
import Derived.Test.YtbkgooeghmaokaaRows
import Derived.Test.YtbkgooeghmaokaaLaw05
import Derived.Test.YtbkgooeghmaokaaIntD
namespace Go.Proofs.Ytbkgooeghmaokaa.internRoundTrip
open Go.ChangeShapes Go.WideShapes Go.ChangeAt Go.ChangeMaps Go.RowKit
set_option linter.unusedVariables false

set_option maxHeartbeats 4000000 in
set_option maxRecDepth 100000 in
theorem walk (A : Option Addr) (n c : Nat) (L : List ByteArray) (w : World) (hA : ArgT w A n c L) :
    Calls Try.prog 5 #[.slice A n c] w fun e w' => e = .returned (.bool true) ∧ Below w.heap.size w w' := by
  have HA := hide hA
  have hnl := sV_len hA.rd
  cases hbig : bigS L
  case true =>
    have HG := hide hbig
    clear hbig hA
    go_enter Try.func5, Try.ntmps5
    go_wp2_with fail
    refine (long_is HG.out w HA.out).mono ?_
    rintro e w1 ⟨rfl, rfl⟩
    go_wp2_with fail
    refine (alive05_any _).mono ?_
    rintro e w1 ⟨rfl, hb⟩
    have HB := hide hb
    clear hb
    go_wp2_with fail
    go_ret
    exact ⟨rfl, HB.out⟩
  have HG := hide hbig
  have hn8 : n ≤ 8000 := hnl ▸ small_all hbig
  clear hbig hA
  go_enter Try.func5, Try.ntmps5
  go_wp2_with fail
  refine (long_is HG.out w HA.out).mono ?_
  rintro e w1 ⟨rfl, rfl⟩
  go_wp2_with fail
  refine (New_any A n c L w HA.out.rd HA.out.sz (by omega)).mono ?_
  rintro e w1 (⟨hid, g, rfl, hgw, ht, hb1⟩ | ⟨hid, rfl, rfl⟩)
  · have HI := hide hid.tab
    have HT1 := hide ht
    have HB1 := hide hb1
    have hex : ∃ m, (tab L).length = m := ⟨_, rfl⟩
    obtain ⟨m, hm0⟩ := hex
    have HM := hide hm0
    have hm8 : m ≤ 8000 := by have := tab_len L; omega
    have HM8 := hide (show (tab L).length ≤ 8000 by omega)
    clear hid ht hb1 hgw hm0
    go_wp2_with fail
    refine (Encode_var HT1.out HI.out HM8.out).mono ?_
    rintro e w2 ⟨A2, n2, c2, rfl, h1, h2, ho, hb2⟩
    have HR2 := hide (Rd.of_own ho)
    have HT2 := hide (HT1.out.now hb2)
    have HB2 := hide (HB1.out.trans (hb2.mono HB1.out.size))
    clear h1 h2 ho hb2
    go_wp2_with fail
    refine (Decode_enc A2 n2 c2 (tab L) w2 HR2.out (tab_asc L) HI.out HM8.out).mono ?_
    rintro e w3 ⟨h, rfl, ht3, hb3⟩
    have HU3 := hide ht3
    have HT3 := hide (HT2.out.now hb3)
    have HB3 := hide (HB2.out.trans (hb3.mono HB2.out.size))
    clear ht3 hb3
    go_wp2_with fail
    refine (alive05_any _).mono ?_
    rintro e w4 ⟨rfl, hb4⟩
    have HT4 := hide (HT3.out.now hb4)
    have HU4 := hide (HU3.out.now hb4)
    have HB4 := hide (HB3.out.trans (hb4.mono HB3.out.size))
    clear hb4
    go_wp2_with fail
    refine (list_var HT4.out HM.out (by omega)).mono ?_
    rintro e w5 ⟨A5, c5, rfl, _, _, hr5, hb5⟩
    have HR5 := hide hr5
    have HT5 := hide (HT4.out.now hb5)
    have HU5 := hide (HU4.out.now hb5)
    have HB5 := hide (HB4.out.trans (hb5.mono HB4.out.size))
    clear hr5 hb5
    go_wp2_with fail
    refine (list_var HU5.out HM.out (by omega)).mono ?_
    rintro e w6 ⟨A6, c6, rfl, _, _, hr6, hb6⟩
    have HR6 := hide hr6
    have HR56 := hide (HR5.out.below hb6)
    have HT6 := hide (HT5.out.now hb6)
    have HU6 := hide (HU5.out.now hb6)
    have HB6 := hide (HB5.out.trans (hb6.mono HB5.out.size))
    clear hr6 hb6
    go_wp2_with fail
    refine (EqS_same A5 A6 m c5 m c6 _ _ w6 _ _ HR56.out HR6.out (by unfold maxLen; omega) (by unfold maxLen; omega) rfl).mono ?_
    rintro e w7 ⟨rfl, hb7⟩
    have HT7 := hide (HT6.out.now hb7)
    have HU7 := hide (HU6.out.now hb7)
    have HB7 := hide (HB6.out.trans (hb7.mono HB6.out.size))
    clear hb7
    go_wp2_with fail
    refine (Len_var HT7.out HM.out).mono ?_
    rintro e w8 ⟨rfl, rfl⟩
    go_wp2_with fail
    refine (Len_var HU7.out HM.out).mono ?_
    rintro e w8 ⟨rfl, rfl⟩
    go_wp2_with fail
    go_ret
    exact ⟨rfl, HB7.out⟩
  · have HI := hide hid
    clear hid
    go_wp2_with fail
    refine (RefNew_any A n c L w HA.out.rd HA.out.sz (by omega)).mono ?_
    rintro e w2 (⟨hy, _⟩ | ⟨_, rfl, hb2⟩)
    · exact absurd hy HI.out
    have HB2 := hide hb2
    clear hb2
    go_wp2_with fail
    refine (alive05_any _).mono ?_
    rintro e w3 ⟨rfl, hb3⟩
    have HB3 := hide (HB2.out.trans (hb3.mono HB2.out.size))
    clear hb3
    go_wp2_with fail
    go_ret
    exact ⟨rfl, HB3.out⟩

theorem own : ownKnob Try.prog.godebug = none := by kernel_rfl
theorem laidOut : laidOutB Try.prog = true := by kernel_rfl

set_option maxRecDepth 100000 in
/-- what the walk gives, for every argument that can be read -/
theorem contract (H : Type) (enc : TypeId × Value → H) (W : World) (base : Nat) (args : Array Value) (ds gs : List (DataW H)) (before : List MemPlace)
    (hval0 : ∀ (j : Nat) t v, Try.f5.params[j]? = some t → args[j]? = some v → Value.okWide Try.prog W .any base t v)
    (hW : DataW.Whole enc Try.prog Try.f5.params.toList Rows.internRoundTripSpec.vars false W args.toList ds gs before) :
    Calls Try.prog 5 args W fun e W' => ∃ v, e = .returned v ∧ Rows.internRoundTripSpec.post enc Try.prog Try.f5 false true false false W args v W' := by
  have hval : ∀ (j : Nat) t v, Try.f5.params[j]? = some t → args[j]? = some v → Value.okWide Try.prog W .any base t v := hval0
  have hW' := hW
  obtain ⟨p, q, hA0, hV, rfl, hfz, hnd⟩ := hW
  have hA : DataW.TrodAll enc Try.prog W 0 (fun _ => true) true Try.f5.params.toList args.toList ds p := hA0
  rw [Try.params5] at hA hval
  obtain ⟨v0, vs0, d0, ds0, p0, q0, hargs, rfl, rfl, h0, r0⟩ := trodAll_cons hA
  obtain ⟨rfl, rfl, rfl⟩ := trodAll_nil r0
  obtain rfl : args = #[v0] := by cases args; simp_all
  obtain ⟨rfl, rfl⟩ := trodVars_none hV
  have k0 := h0
  have lt0 : ∀ x ∈ p0, x.block < W.heap.size := by obtain ⟨m, hm⟩ := k0; exact DataW.trod_lt m _ _ _ hm
  obtain ⟨A0, n0, c0, xs0, rfl, g0⟩ := openStrs Try.underlying24 Try.underlying9 (by kernel_rfl) (hval 0 24 v0 rfl rfl) h0
  clear hA0 hval0
  simp only [List.append_nil] at hW'
  refine (walk A0 n0 c0 xs0 W g0).mono fun e W' ⟨he, bel⟩ => ?_
  subst he
  exact ⟨_, rfl, _, _, _, [], _, [], hW', trodAll_mk1 (shut_bool Try.underlying4 _), (trodAll_cons_mk (Below.trod laidOut (by kernel_rfl) (of_decide_eq_true (by kernel_rfl)) k0 bel lt0) trodAll_mk0), rfl, bel.frame _, fun h => by cases h⟩

set_option maxRecDepth 100000 in
theorem lifted (os : Os) (started : os.Started) (H : Type) (enc : TypeId × Value → H) :
    ReturnsInHanded {} Try.checked os 5 .any (Rows.internRoundTripSpec.pre6 enc Try.prog Try.f5 Rows.internRoundTripRow.domain false) (Rows.internRoundTripSpec.post enc Try.prog Try.f5 false true false false) := by
  refine returnsInHanded_of_change (C := Try.checked) own started (by kernel_rfl) Try.func5
    (ChangeSpec.witness6 (enc := enc) (C := Try.checked) false ⟨#[], #[.slice none 0 0], []⟩ 8 (by kernel_rfl) (by kernel_rfl) (by kernel_rfl) (by kernel_rfl)) ?_
  intro W base args ds gs before hval hW _ _
  exact contract H enc W base args ds gs before hval hW

/-- the statement -/
theorem proved : Rows.InternRoundTripSaid :=
  OpenClaim.holds_of_wide 5 Try.f5 rfl rfl rfl rfl rfl rfl rfl ⟨rfl, rfl, rfl, rfl, rfl⟩ rfl rfl rfl rfl rfl (by kernel_rfl) Try.func5 (by kernel_rfl)
    (of_decide_eq_true (by kernel_rfl)) (by unfold Func.isWrapper; first | (rw [if_pos (by decide +kernel)]; kernel_rfl) | (rw [if_neg (by decide +kernel)]; exact ⟨rfl, rfl⟩))
    (fun os started H enc _ => lifted os started H enc)
end Go.Proofs.Ytbkgooeghmaokaa.internRoundTrip
