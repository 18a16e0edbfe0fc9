/- InternMatchesReference: for every input the law returns true, and turns nothing that lay. No condition. -/
import Derived.Test.YtbkgooeghmaokaaRows
import Derived.Test.YtbkgooeghmaokaaAlive05
import Derived.Test.YtbkgooeghmaokaaOpenT
namespace Go.Proofs.Ytbkgooeghmaokaa.internMatchesReference
open Go.ChangeShapes Go.WideShapes Go.ChangeAt Go.ChangeMaps Go.RowKit
set_option linter.unusedVariables false

theorem small_all {L : List ByteArray} (h : bigS L = false) : L.length ≤ 8000 := by
  have h1 := of_decide_eq_false h
  have := len_sumS L
  omega
theorem long_is {b : Bool} {A : Option Addr} {n c : Nat} {L : List ByteArray} (hb : bigS L = b) (w : World) (hA : ArgT w A n c L) :
    Calls Try.prog 11 #[.slice A n c] w fun x w' => x = .returned (.bool b) ∧ w = w' :=
  hb ▸ long_any A n c L w hA.rd hA.sz (Nat.le_trans hA.nc hA.cm)
/-- 'len' by a variable -/
theorem Len_var {w : World} {g m : Nat} {L : List ByteArray} (h : Tab w g L) (hm : L.length = m) :
    Calls Try.prog 17 #[.pointer (some ⟨g, 0, none⟩)] w fun e w' => e = .returned (.int .i64 (m : Int)) ∧ w = w' := hm ▸ Len_any h
/-- 'list' by a variable -/
theorem list_var {w : World} {g m : Nat} {L : List ByteArray} (h : Tab w g L) (hm : L.length = m) (hn : m ≤ 9000) :
    Calls Try.prog 19 #[.pointer (some ⟨g, 0, none⟩), .int .i64 9000] w fun e w' => ∃ A c, e = .returned (.slice A m c) ∧ m ≤ c ∧ c ≤ maxLen ∧ Rd w' w'.heap.size A m (sV L) ∧ Below w.heap.size w w' := by
  subst hm
  refine (list_any h hn).mono ?_
  rintro e w' ⟨v, rfl, ho, hb⟩
  obtain ⟨A, c, rfl, h1, h2⟩ := ownsRow_slice ho
  exact ⟨A, c, rfl, h1, h2, Rd.of_own ho, hb⟩

set_option maxHeartbeats 4000000 in
set_option maxRecDepth 100000 in
theorem walk (A : Option Addr) (n c : Nat) (L : List ByteArray) (s : ByteArray) (i : Int) (w : World) (hA : ArgT w A n c L) (hs : s.size ≤ maxLen) (hi : -9223372036854775808 ≤ i ∧ i ≤ 9223372036854775807) :
    Calls Try.prog 4 #[.slice A n c, .string s, .int .i64 i] w fun e w' => e = .returned (.bool true) ∧ Below w.heap.size w w' := by
  have HA := hide hA
  have HS := hide hs
  have hnl := sV_len hA.rd
  have hi0 := hi.1
  have hi1 := hi.2
  unfold maxLen at hs
  cases hbig : bigS L
  case true =>
    have HG := hide hbig
    clear hbig hA hi
    go_enter Try.func4, Try.ntmps4
    go_wp2_with fail
    refine (long_is HG.out w HA.out).mono ?_
    rintro e w1 ⟨rfl, rfl⟩
    go_wp2_with fail
    refine (alive05_any _).mono ?_
    rintro e w1 ⟨rfl, hb⟩
    have HB := hide hb
    clear hb
    go_wp2_with fail
    go_ret
    exact ⟨rfl, HB.out⟩
  have HG := hide hbig
  have hn8 : n ≤ 8000 := hnl ▸ small_all hbig
  clear hbig
  by_cases hlong : 5000 < s.size
  · have h1 : (5000 : Int) < (s.size : Int) := by omega
    clear hA hi
    go_enter Try.func4, Try.ntmps4
    go_wp2_with fail
    refine (long_is HG.out w HA.out).mono ?_
    rintro e w1 ⟨rfl, rfl⟩
    go_wp2_with fail
    refine (alive05_any _).mono ?_
    rintro e w1 ⟨rfl, hb⟩
    have HB := hide hb
    clear hb
    go_wp2_with fail
    go_ret
    exact ⟨rfl, HB.out⟩
  have h1 : ¬ (5000 : Int) < (s.size : Int) := by omega
  clear hA hi
  go_enter Try.func4, Try.ntmps4
  go_wp2_with fail
  refine (long_is HG.out w HA.out).mono ?_
  rintro e w1 ⟨rfl, rfl⟩
  go_wp2_with fail
  refine (New_any A n c L w HA.out.rd HA.out.sz (by omega)).mono ?_
  rintro e w1 (⟨hid, g, rfl, hgw, ht, hb1⟩ | ⟨hid, rfl, rfl⟩)
  · have HI := hide hid
    have HT1 := hide ht
    have HB1 := hide hb1
    clear hid ht hb1 hgw
    go_wp2_with fail
    refine (RefNew_any A n c L w1 ((HA.out.rd.below HB1.out).more HB1.out.size) HA.out.sz (by omega)).mono ?_
    rintro e w2 (⟨_, A2, m, c2, rfl, hmc, hcm, hr, hb2⟩ | ⟨hno, _⟩)
    rotate_left
    · exact absurd HI.out hno
    have hm0 := sV_len hr
    have hm8 : m ≤ 8000 := by have := tab_len L; omega
    have hm1 := hm0
    have HM := hide hm1
    have HAsc := hide (tab_asc L)
    have HR2 := hide hr
    have HT2 := hide (HT1.out.now hb2)
    have HB2 := hide (HB1.out.trans (hb2.mono HB1.out.size))
    have HC := hide (And.intro hmc hcm)
    unfold maxLen at hcm
    clear hr hb2 hm0 hm1
    go_wp2_with fail
    refine (Index_any HT2.out HAsc.out s).mono ?_
    rintro e w3 ⟨k, ok, rfl, hat, hb3⟩
    have HAt := hide hat
    have HT3 := hide (HT2.out.now hb3)
    have HR3 := hide (HR2.out.below hb3)
    have HB3 := hide (HB2.out.trans (hb3.mono HB2.out.size))
    have HZ3 := hide hb3.size
    clear hat hb3
    go_wp2_with fail
    refine (RefIndex_any A2 m c2 (tab L) s w3 _ HR3.out (by unfold maxLen; omega)).mono ?_
    rintro e w3' ⟨r, rfl, har, rfl⟩
    have hkr : decide (0 ≤ r) = ok ∧ (if r < 0 then (0 : Int) else r) = k := by
      rcases HAt.out with ⟨j, h1, rfl, rfl⟩ | ⟨h1, rfl, rfl⟩
      · rcases har with ⟨j', h2, rfl⟩ | ⟨h2, rfl⟩
        · rw [asc_inj HAsc.out h1 h2]
          exact ⟨decide_eq_true (by omega), if_neg (by omega)⟩
        · exact absurd (List.mem_of_getElem? h1) h2
      · rcases har with ⟨j', h2, rfl⟩ | ⟨h2, rfl⟩
        · exact absurd (List.mem_of_getElem? h2) h1
        · exact ⟨rfl, rfl⟩
    obtain ⟨hok, hmax⟩ := hkr
    have HR3' := hide (HR3.out.more (B' := w3.heap.size) HZ3.out)
    clear HR3 har
    have HR3 := HR3'
    clear HR3'
    by_cases hin : 0 ≤ i ∧ i < m
    · obtain ⟨q, rfl⟩ := Int.eq_ofNat_of_zero_le hin.1
      have hq : q < m := by omega
      have hex : ∃ x, (tab L)[q]? = some x := ⟨_, List.getElem?_eq_getElem (by rw [HM.out]; exact hq)⟩
      obtain ⟨x, hx⟩ := hex
      have HX := hide hx
      have hq' : (q : Int) < (m : Int) := by omega
      have hm1 : (1 : Int) ≤ (m : Int) := by omega
      have hmz : ¬ (m : Int) = 0 := by omega
      have hmx : max (m : Int) 1 = (m : Int) := by omega
      have hmod : (q : Int) % (m : Int) = (q : Int) := Int.emod_eq_of_lt (by omega) hq'
      have e2 : (x.toList == x.toList) = true := beq_iff_eq.2 rfl
      clear hx hin
      go_wp2_with fail
      refine (At_in HT3.out HX.out).mono ?_
      rintro e w3' ⟨rfl, rfl⟩
      go_wp2_with fail
      refine (alive05_any _).mono ?_
      rintro e w4 ⟨rfl, hb4⟩
      have HT4 := hide (HT3.out.now hb4)
      have HR4 := hide (HR3.out.below hb4)
      have HB4 := hide (HB3.out.trans (hb4.mono HB3.out.size))
      have HZ4 := hide hb4.size
      clear hb4
      go_wp2_with fail
      refine (Len_var HT4.out HM.out).mono ?_
      rintro e w4' ⟨rfl, rfl⟩
      go_wp2_with fail
      refine (list_var HT4.out HM.out (by omega)).mono ?_
      rintro e w5 ⟨A5, c5, rfl, _, _, hr5, hb5⟩
      have HR5 := hide hr5
      have HRR := hide (HR4.out.below (hb5.mono HZ4.out))
      have HB5 := hide (HB4.out.trans (hb5.mono HB4.out.size))
      have HZ5 := hide (Nat.le_trans HZ4.out hb5.size)
      clear hr5 hb5
      go_wp2_with fail
      refine (EqS_same A5 A2 m c5 m c2 _ _ w5 _ _ HR5.out HRR.out (by unfold maxLen; omega) (by unfold maxLen; omega) rfl).mono ?_
      rintro e w6 ⟨rfl, hb6⟩
      have HB6 := hide (HB5.out.trans (hb6.mono HB5.out.size))
      have HR6 := hide (HRR.out.below (hb6.mono HZ5.out))
      clear hb6
      obtain ⟨b2, o2, rfl, _, c1⟩ := HR6.out.str HX.out
      go_wp2_with fail
      go_ret
      exact ⟨rfl, HB6.out⟩
    · have hout : i < 0 ∨ (m : Int) ≤ i := by omega
      have HO := hide (show i < 0 ∨ ((tab L).length : Int) ≤ i by rw [HM.out]; exact hout)
      clear hin
      rcases hout with hout | hout
      · have hn0 : ¬ (0 : Int) ≤ i := by omega
        go_wp2_with fail
        refine (At_out HT3.out HO.out).mono ?_
        rintro e w3' ⟨rfl, rfl⟩
        go_wp2_with fail
        refine (alive05_any _).mono ?_
        rintro e w4 ⟨rfl, hb4⟩
        have HT4 := hide (HT3.out.now hb4)
        have HR4 := hide (HR3.out.below hb4)
        have HB4 := hide (HB3.out.trans (hb4.mono HB3.out.size))
        have HZ4 := hide hb4.size
        clear hb4
        go_wp2_with fail
        refine (Len_var HT4.out HM.out).mono ?_
        rintro e w4' ⟨rfl, rfl⟩
        go_wp2_with fail
        refine (list_var HT4.out HM.out (by omega)).mono ?_
        rintro e w5 ⟨A5, c5, rfl, _, _, hr5, hb5⟩
        have HR5 := hide hr5
        have HRR := hide (HR4.out.below (hb5.mono HZ4.out))
        have HB5 := hide (HB4.out.trans (hb5.mono HB4.out.size))
        have HZ5 := hide (Nat.le_trans HZ4.out hb5.size)
        clear hr5 hb5
        go_wp2_with fail
        refine (EqS_same A5 A2 m c5 m c2 _ _ w5 _ _ HR5.out HRR.out (by unfold maxLen; omega) (by unfold maxLen; omega) rfl).mono ?_
        rintro e w6 ⟨rfl, hb6⟩
        have HB6 := hide (HB5.out.trans (hb6.mono HB5.out.size))
        have HR6 := hide (HRR.out.below (hb6.mono HZ5.out))
        clear hb6
        go_wp2_with fail
        go_ret
        exact ⟨rfl, HB6.out⟩
      · have hn0 : (0 : Int) ≤ i := by omega
        have hn1 : ¬ i < (m : Int) := by omega
        go_wp2_with fail
        refine (At_out HT3.out HO.out).mono ?_
        rintro e w3' ⟨rfl, rfl⟩
        go_wp2_with fail
        refine (alive05_any _).mono ?_
        rintro e w4 ⟨rfl, hb4⟩
        have HT4 := hide (HT3.out.now hb4)
        have HR4 := hide (HR3.out.below hb4)
        have HB4 := hide (HB3.out.trans (hb4.mono HB3.out.size))
        have HZ4 := hide hb4.size
        clear hb4
        go_wp2_with fail
        refine (Len_var HT4.out HM.out).mono ?_
        rintro e w4' ⟨rfl, rfl⟩
        go_wp2_with fail
        refine (list_var HT4.out HM.out (by omega)).mono ?_
        rintro e w5 ⟨A5, c5, rfl, _, _, hr5, hb5⟩
        have HR5 := hide hr5
        have HRR := hide (HR4.out.below (hb5.mono HZ4.out))
        have HB5 := hide (HB4.out.trans (hb5.mono HB4.out.size))
        have HZ5 := hide (Nat.le_trans HZ4.out hb5.size)
        clear hr5 hb5
        go_wp2_with fail
        refine (EqS_same A5 A2 m c5 m c2 _ _ w5 _ _ HR5.out HRR.out (by unfold maxLen; omega) (by unfold maxLen; omega) rfl).mono ?_
        rintro e w6 ⟨rfl, hb6⟩
        have HB6 := hide (HB5.out.trans (hb6.mono HB5.out.size))
        have HR6 := hide (HRR.out.below (hb6.mono HZ5.out))
        clear hb6
        go_wp2_with fail
        go_ret
        exact ⟨rfl, HB6.out⟩
  · have HI := hide hid
    clear hid
    go_wp2_with fail
    refine (RefNew_any A n c L w HA.out.rd HA.out.sz (by omega)).mono ?_
    rintro e w2 (⟨hy, _⟩ | ⟨_, rfl, hb2⟩)
    · exact absurd hy HI.out
    have HB2 := hide hb2
    clear hb2
    go_wp2_with fail
    refine (alive05_any _).mono ?_
    rintro e w3 ⟨rfl, hb3⟩
    have HB3 := hide (HB2.out.trans (hb3.mono HB2.out.size))
    clear hb3
    go_wp2_with fail
    go_ret
    exact ⟨rfl, HB3.out⟩

theorem own : ownKnob Try.prog.godebug = none := by kernel_rfl
theorem laidOut : laidOutB Try.prog = true := by kernel_rfl

set_option maxRecDepth 100000 in
/-- what the walk gives, for every argument that can be read -/
theorem contract (H : Type) (enc : TypeId × Value → H) (W : World) (base : Nat) (args : Array Value) (ds gs : List (DataW H)) (before : List MemPlace)
    (hval0 : ∀ (j : Nat) t v, Try.f4.params[j]? = some t → args[j]? = some v → Value.okWide Try.prog W .any base t v)
    (hW : DataW.Whole enc Try.prog Try.f4.params.toList Rows.internMatchesReferenceSpec.vars false W args.toList ds gs before) :
    Calls Try.prog 4 args W fun e W' => ∃ v, e = .returned v ∧ Rows.internMatchesReferenceSpec.post enc Try.prog Try.f4 false true false false W args v W' := by
  have hval : ∀ (j : Nat) t v, Try.f4.params[j]? = some t → args[j]? = some v → Value.okWide Try.prog W .any base t v := hval0
  have hW' := hW
  obtain ⟨p, q, hA0, hV, rfl, hfz, hnd⟩ := hW
  have hA : DataW.TrodAll enc Try.prog W 0 (fun _ => true) true Try.f4.params.toList args.toList ds p := hA0
  rw [Try.params4] at hA hval
  obtain ⟨v0, vs0, d0, ds0, p0, q0, hargs, rfl, rfl, h0, r0⟩ := trodAll_cons hA
  obtain ⟨v1, vs1, d1, ds1, p1, q1, rfl, rfl, rfl, h1, r1⟩ := trodAll_cons r0
  obtain ⟨v2, vs2, d2, ds2, p2, q2, rfl, rfl, rfl, h2, r2⟩ := trodAll_cons r1
  obtain ⟨rfl, rfl, rfl⟩ := trodAll_nil r2
  obtain rfl : args = #[v0, v1, v2] := by cases args; simp_all
  obtain ⟨rfl, rfl⟩ := trodVars_none hV
  have k0 := h0
  have lt0 : ∀ x ∈ p0, x.block < W.heap.size := by obtain ⟨m, hm⟩ := k0; exact DataW.trod_lt m _ _ _ hm
  obtain ⟨A0, n0, c0, xs0, rfl, g0⟩ := openStrs Try.underlying24 Try.underlying9 (by kernel_rfl) (hval 0 24 v0 rfl rfl) h0
  obtain ⟨s1, rfl, rfl, rfl, g1⟩ := open_string Try.underlying9 (hval 1 9 v1 rfl rfl) h1
  obtain ⟨a2, rfl, rfl, rfl, w2⟩ := open_int Try.underlying3 (hval 2 3 v2 rfl rfl) h2
  have g2 : -9223372036854775808 ≤ a2 ∧ a2 ≤ 9223372036854775807 := by simpa [Lit.wf, IntKind.min, IntKind.max, IntKind.signed, IntKind.bits] using w2
  clear hA0 hval0
  simp only [List.append_nil] at hW'
  refine (walk A0 n0 c0 xs0 s1 a2 W g0 g1 g2).mono fun e W' ⟨he, bel⟩ => ?_
  subst he
  exact ⟨_, rfl, _, _, _, [], _, [], hW', trodAll_mk1 (shut_bool Try.underlying4 _), (trodAll_cons_mk (Below.trod laidOut (by kernel_rfl) (of_decide_eq_true (by kernel_rfl)) k0 bel lt0) (trodAll_cons_mk (shut_string Try.underlying9 g1) (trodAll_cons_mk (shut_int Try.underlying3 w2) trodAll_mk0))), rfl, bel.frame _, fun h => by cases h⟩

set_option maxRecDepth 100000 in
theorem lifted (os : Os) (started : os.Started) (H : Type) (enc : TypeId × Value → H) :
    ReturnsInHanded {} Try.checked os 4 .any (Rows.internMatchesReferenceSpec.pre6 enc Try.prog Try.f4 Rows.internMatchesReferenceRow.domain false) (Rows.internMatchesReferenceSpec.post enc Try.prog Try.f4 false true false false) := by
  refine returnsInHanded_of_change (C := Try.checked) own started (by kernel_rfl) Try.func4
    (ChangeSpec.witness6 (enc := enc) (C := Try.checked) false ⟨#[], #[.slice none 0 0, .string .empty, .int .i64 0], []⟩ 8 (by kernel_rfl) (by kernel_rfl) (by kernel_rfl) (by kernel_rfl)) ?_
  intro W base args ds gs before hval hW _ _
  exact contract H enc W base args ds gs before hval hW

/-- the statement -/
theorem proved : Rows.InternMatchesReferenceSaid :=
  OpenClaim.holds_of_wide 4 Try.f4 rfl rfl rfl rfl rfl rfl rfl ⟨rfl, rfl, rfl, rfl, rfl⟩ rfl rfl rfl rfl rfl (by kernel_rfl) Try.func4 (by kernel_rfl)
    (of_decide_eq_true (by kernel_rfl)) (by unfold Func.isWrapper; first | (rw [if_pos (by decide +kernel)]; kernel_rfl) | (rw [if_neg (by decide +kernel)]; exact ⟨rfl, rfl⟩))
    (fun os started H enc _ => lifted os started H enc)
end Go.Proofs.Ytbkgooeghmaokaa.internMatchesReference
