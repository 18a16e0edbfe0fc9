/- VarintRoundTrip: for every input the law returns true, and turns nothing that lay. Condition: what it reads is of bulk at most 1048576 (the statement of the second form: the law concatenates its arguments). -/
import Derived.Test.YtfkbihiimgmelaaRows
import Derived.Test.YtfkbihiimgmelaaAlive01
import Derived.Test.YtfkbihiimgmelaaConcat
import Derived.Test.YtfkbihiimgmelaaOpen
import Derived.JoinedCond
namespace Go.Proofs.Ytfkbihiimgmelaa.varintRoundTrip
open Go.ChangeShapes Go.WideShapes Go.ChangeAt Go.RowKit
set_option linter.unusedVariables false

theorem back (m : Nat) (b a : List Int) (hm : m ≤ 18446744073709551615) : gRes (b ++ vput m ++ a) (b.length : Nat) = .tuple #[.int .u64 m, .int .i64 ((b.length : Int) + ((vput m).length : Nat)), .int .i64 0] := by
  have hd : (b ++ vput m ++ a).drop b.length = vput m ++ a := by rw [List.append_assoc, List.drop_left]
  have h := gRes_ok (b ++ vput m ++ a) b.length (n := m) (l := (vput m).length) (by simp) (by
    rw [hd, vgo_put m 0 0 a (by simp; omega) (fun h => absurd rfl h) (by decide)]
    simp)
  unfold gRes
  rw [h.1, h.2.1, h.2.2]
theorem cut (m k : Nat) (hm : m ≤ 18446744073709551615) (hk : k < (vput m).length) : gRes ((vput m).take k) 0 = .tuple #[.int .u64 0, .int .i64 0, .int .i64 4] := by
  have h := gRes_err ((vput m).take k) 0 (n := 0) (l := 0) (e := 4) (by omega) (by
    rw [List.drop_zero]
    exact vgo_cut m 0 0 k (by simp; omega) (by decide) hk) (by decide)
  exact h

set_option maxHeartbeats 2000000 in
theorem walk (n : Int) (A1 : Option Addr) (n1 c1 : Nat) (xs1 : List Int) (A2 : Option Addr) (n2 c2 : Nat) (xs2 : List Int) (w : World) (hn : 0 ≤ n ∧ n ≤ 18446744073709551615) (h1 : Arg w A1 n1 c1 xs1) (h2 : Arg w A2 n2 c2 xs2) (e1 : n1 + 1 ≤ 1048576) (e2 : n2 + 1 ≤ 1048576) :
    Calls Try.prog 5 #[.int .u64 n, .slice A1 n1 c1, .slice A2 n2 c2] w fun e w' => e = .returned (.bool true) ∧ Below w.heap.size w w' := by
  obtain ⟨m, rfl⟩ := Int.eq_ofNat_of_zero_le hn.1
  have hm : m ≤ 18446744073709551615 := by omega
  have hby : Byt (vput m) := vput_byte _
  have hl10 : (vput m).length ≤ 10 := vput_le10 (by omega)
  have l1 : xs1.length = n1 := by simpa using h1.rd.1
  have HB := hide (back m xs1 xs2 hm)
  have hall : Byt (xs1 ++ vput m ++ xs2) := (h1.byt.append hby).append h2.byt
  rw [l1] at HB
  clear hn l1
  go_enter Try.func5, Try.ntmps5
  go_wp2_with fail
  refine (Put_any m (by omega) (by omega) _).mono ?_
  rintro e w1 ⟨v, rfl, ⟨A, c, rfl, hc1, hc2, hr1, ho1⟩, hb1⟩
  rw [Int.toNat_natCast] at *
  have ha1 := (h1.rd.below hb1).more hb1.size
  have ha2 := (h2.rd.below hb1).more hb1.size
  go_wp2_with fail
  refine (Concat3 _ _ rfl (Nat.le_refl _) A1 A A2 _ _ _ _ _ _ xs1 (vput m) xs2 ha1 hr1 ha2 (by omega)).mono ?_
  rintro e w2 ⟨A3, n3, c3, rfl, hc31, hc32, hr3, hb2⟩
  go_wp2_with fail
  refine (Get_any _ _ _ _ _ _ hr3 hall hc31 hc32).mono ?_
  rintro e w3 ⟨rfl, rfl⟩
  rw [HB.out]
  have hrp := hr1.below hb2
  have hB2 := hb1.trans (hb2.mono hb1.size)
  unfold maxLen at hc2
  go_wp2_with fail
  go_loop [47] (fun i => ∃ k : Nat, i = .int .i64 (k : Int) ∧ k ≤ (vput m).length) (fun i => (vput m).length - (intOf i).toNat)
  case atStart => exact ⟨0, rfl, Nat.zero_le _⟩
  case round =>
    obtain ⟨k, rfl, hk⟩ := hrel
    by_cases hlt : k < (vput m).length
    · have hcut := hrp.to_ (k := k) (by omega)
      rw [← List.map_take] at hcut
      have HC := hide (cut m k hm hlt)
      go_wp2_with fail
      refine (Get_any A k c 0 _ _ hcut (hby.take k) (by omega) (by unfold maxLen; omega)).mono ?_
      rintro e w3 ⟨rfl, rfl⟩
      rw [HC.out]
      go_wp2_with fail
      go_round
      case rel => exact ⟨k + 1, by go_num, by omega⟩
      case measure => simp [intOf]; omega
    · go_wp2_with fail
      refine (alive_any _).mono ?_
      rintro e w3 ⟨rfl, hb3⟩
      go_wp2_with fail
      go_ret
      exact ⟨rfl, hB2.trans (hb3.mono hB2.size)⟩

theorem own : ownKnob Try.prog.godebug = none := by kernel_rfl
theorem laidOut : laidOutB Try.prog = true := by kernel_rfl

theorem bulk_lit {H : Type} (l : Lit) : Rows.uptoBulk (DataW.lit (H := H) l) ≥ 1 := by cases l <;> simp [Rows.uptoBulk]

/-- what the walk gives, for every argument that can be read -/
theorem contract (H : Type) (enc : TypeId × Value → H) (W : World) (base : Nat) (args : Array Value) (ds gs : List (DataW H)) (before : List MemPlace)
    (hval0 : ∀ (j : Nat) t v, Try.f5.params[j]? = some t → args[j]? = some v → Value.okWide Try.prog W .any base t v)
    (hW : DataW.Whole enc Try.prog Try.f5.params.toList Rows.varintRoundTripSpec.vars false W args.toList ds gs before) (hk : Rows.uptoSmall H (ds ++ gs) = true) :
    Calls Try.prog 5 args W fun e W' => ∃ v, e = .returned v ∧ Rows.varintRoundTripSpec.post enc Try.prog Try.f5 false true false false W args v W' := by
  have hval : ∀ (j : Nat) t v, Try.f5.params[j]? = some t → args[j]? = some v → Value.okWide Try.prog W .any base t v := hval0
  have hW' := hW
  obtain ⟨p, q, hA0, hV, rfl, hfz, hnd⟩ := hW
  have hA : DataW.TrodAll enc Try.prog W 0 (fun _ => true) true Try.f5.params.toList args.toList ds p := hA0
  rw [Try.params5] at hA hval
  obtain ⟨v0, vs0, d0, ds0, p0, q0, hargs, rfl, rfl, h0, r0⟩ := trodAll_cons hA
  obtain ⟨v1, vs1, d1, ds1, p1, q1, rfl, rfl, rfl, h1, r1⟩ := trodAll_cons r0
  obtain ⟨v2, vs2, d2, ds2, p2, q2, rfl, rfl, rfl, h2, r2⟩ := trodAll_cons r1
  obtain ⟨rfl, rfl, rfl⟩ := trodAll_nil r2
  obtain rfl : args = #[v0, v1, v2] := by cases args; simp_all
  obtain ⟨rfl, rfl⟩ := trodVars_none hV
  obtain ⟨a0, rfl, rfl, rfl, w0⟩ := open_int Try.underlying22 (hval 0 22 v0 rfl rfl) h0
  have g0 : 0 ≤ a0 ∧ a0 ≤ 18446744073709551615 := by simpa [Lit.wf, IntKind.min, IntKind.max, IntKind.signed, IntKind.bits] using w0
  have k1 := h1
  have lt1 : ∀ x ∈ p1, x.block < W.heap.size := by obtain ⟨m, hm⟩ := k1; exact DataW.trod_lt m _ _ _ hm
  obtain ⟨A1, n1, c1, xs1, rfl, g1, b1⟩ := openBytes Try.underlying23 Try.underlying5 (by kernel_rfl) (hval 1 23 v1 rfl rfl) h1
  have k2 := h2
  have lt2 : ∀ x ∈ p2, x.block < W.heap.size := by obtain ⟨m, hm⟩ := k2; exact DataW.trod_lt m _ _ _ hm
  obtain ⟨A2, n2, c2, xs2, rfl, g2, b2⟩ := openBytes Try.underlying23 Try.underlying5 (by kernel_rfl) (hval 2 23 v2 rfl rfl) h2
  clear hA0 hval0
  simp only [List.append_nil] at hW' hk
  have hb := of_decide_eq_true hk
  simp only [Rows.uptoBulkAll] at hb
  have e1 : n1 + 1 ≤ 1048576 := by have := b1 Rows.uptoBulk Rows.uptoBulkAll rfl (fun _ _ => rfl) bulk_lit (fun _ _ => rfl) rfl; omega
  have e2 : n2 + 1 ≤ 1048576 := by have := b2 Rows.uptoBulk Rows.uptoBulkAll rfl (fun _ _ => rfl) bulk_lit (fun _ _ => rfl) rfl; omega
  refine (walk a0 A1 n1 c1 xs1 A2 n2 c2 xs2 W g0 g1 g2 e1 e2).mono fun e W' ⟨he, bel⟩ => ?_
  subst he
  exact ⟨_, rfl, _, _, _, [], _, [], hW', trodAll_mk1 (shut_bool Try.underlying4 _), (trodAll_cons_mk (shut_int Try.underlying22 w0) (trodAll_cons_mk (Below.trod laidOut (by kernel_rfl) (of_decide_eq_true (by kernel_rfl)) k1 bel lt1) (trodAll_cons_mk (Below.trod laidOut (by kernel_rfl) (of_decide_eq_true (by kernel_rfl)) k2 bel lt2) trodAll_mk0))), rfl, bel.frame _, fun h => by cases h⟩

set_option maxRecDepth 100000 in
theorem lifted (os : Os) (started : os.Started) (H : Type) (enc : TypeId × Value → H) (F : Stop.Interp) :
    ReturnsInHanded {} Try.checked os 5 .any ((Rows.OpenSpec.upto Rows.varintRoundTripSpec).pre6 enc Try.prog Try.f5 Rows.varintRoundTripUptoRow.domain false) (((Rows.OpenSpec.upto Rows.varintRoundTripSpec).at F).post enc Try.prog Try.f5 false true false false) := by
  refine returnsInHanded_of_cond (C := Try.checked) (s := Rows.OpenSpec.upto Rows.varintRoundTripSpec) (k := Rows.uptoSmall) rfl own started (by kernel_rfl) Try.func5
    (OpenSpec.witness (enc := enc) (C := Try.checked) (s := Rows.OpenSpec.upto Rows.varintRoundTripSpec) (k := Rows.uptoSmall) rfl false ⟨#[], #[.int .u64 0, .slice none 0 0, .slice none 0 0], []⟩ 8 (by kernel_rfl) (by kernel_rfl) (by kernel_rfl)
      (x := ([.lit (.int .u64 0), .nil, .nil], [], [])) (by kernel_rfl) rfl (by kernel_rfl)) ?_
  intro W base args ds gs before hval hW _ hk _
  exact contract H enc W base args ds gs before hval hW hk

/-- the statement -/
theorem proved : Rows.VarintRoundTripUptoSaid :=
  OpenClaim.holds_of_cond 5 Try.f5 rfl rfl rfl rfl rfl rfl rfl ⟨rfl, rfl, rfl, rfl, rfl⟩ rfl rfl rfl rfl rfl (by kernel_rfl) Try.func5 (by kernel_rfl)
    (of_decide_eq_true (by kernel_rfl)) (by unfold Func.isWrapper; first | (rw [if_pos (by decide +kernel)]; kernel_rfl) | (rw [if_neg (by decide +kernel)]; exact ⟨rfl, rfl⟩))
    (fun os started H enc _ F => lifted os started H enc F)
end Go.Proofs.Ytfkbihiimgmelaa.varintRoundTrip
