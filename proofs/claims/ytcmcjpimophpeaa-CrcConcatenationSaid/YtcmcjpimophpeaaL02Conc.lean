/- CrcConcatenation: for every input the law returns true, and turns nothing that lay. No condition. -/
import Derived.Test.YtcmcjpimophpeaaRows
import Derived.Test.YtcmcjpimophpeaaAlive02
import Derived.Test.YtcmcjpimophpeaaOpen
namespace Go.Proofs.Ytcmcjpimophpeaa.crcConcatenation
open Go.ChangeShapes Go.WideShapes Go.ChangeAt Go.RowKit
set_option linter.unusedVariables false

theorem sumCat (xs ys : List Int) : sum (xs ++ ys) = upd (sum xs) ys := (upd_upd 0 xs ys).symm

theorem Sum_own (w0 w : World) (v : Value) (xs : List Int) (h : OwnB w0 w v xs) (hx : Byt xs) (hn : xs.length ≤ 1000000) :
    Calls Try.prog 10 #[v] w fun e w' => e = .returned (.int .u32 ((sum xs : Nat) : Int)) ∧ Below w.heap.size w w' := by
  obtain ⟨A, c, rfl, h1, h2, h3, _⟩ := h
  exact Sum_any A _ c xs w _ h3 (Nat.le_refl _) hx (by omega)

set_option maxHeartbeats 2000000 in
theorem walk (A1 : Option Addr) (n1 c1 : Nat) (xs1 : List Int) (A2 : Option Addr) (n2 c2 : Nat) (xs2 : List Int) (w : World) (h1 : Arg w A1 n1 c1 xs1) (h2 : Arg w A2 n2 c2 xs2) (k1 : c1 ≤ 140737488351232) (k2 : c2 ≤ 140737488351232) :
    Calls Try.prog 5 #[.slice A1 n1 c1, .slice A2 n2 c2] w fun e w' => e = .returned (.bool true) ∧ Below w.heap.size w w' := by
  have hnc1 := h1.nc
  have hcm1 := h1.cm
  have b1 := h1.byt
  have r1 := h1.rd
  have hnc2 := h2.nc
  have hcm2 := h2.cm
  have b2 := h2.byt
  have r2 := h2.rd
  unfold maxLen at hcm1 hcm2
  clear h1 h2
  obtain ⟨i0, hi0, hz0, hz1, hz2⟩ := info_parts infoU8
  by_cases hn : n1 + n2 ≤ 5000
  · have hi : ¬ ((5000 : Int) < (n1 : Int) + (n2 : Int)) := by omega
    have HS := hide (sumCat xs1 xs2)
    have hlt := sum_lt b1
    have hl := hide (show xs1.length = n1 by simpa using r1.1)
    have hl2 := hide (show xs2.length = n2 by simpa using r2.1)
    have hby : Byt (xs1 ++ xs2) := b1.append b2
    go_enter Try.func5, Try.ntmps5
    go_wp2_with fail
    refine (alive02_any _).mono ?_
    rintro e w1 ⟨rfl, q1⟩
    have r11 := (r1.below q1).more q1.size
    have r21 := (r2.below q1).more q1.size
    go_wp2_with (first
      | (at_builtin; refine wpList_append_rd_yes _ rfl (.tmp 14) (.tmp 15) 22 rfl w1.heap.size 5 i0 (.int .u8 0) 1 Try.underlying22 hi0 hz0 hz1 hz2 rfl _ 0 [] rfl (own_empty w1) w1.heap.size A1 n1 c1 (u8s xs1) rfl (r11.alloc (Nat.le_refl _) _) (ints_oneCell _ _) (by unfold maxLen; omega) (by omega) (by simp) ?_; intro v2 w2 hown2 hg2 hat2; have p2 := below_app ((Below.refl w1.heap.size w1).alloc (Nat.le_refl _) _) (own_empty w1) (by simp) hg2; clear hg2 hat2)
      | (at_builtin; refine wpList_append_rd_yes _ rfl (.tmp 16) (.tmp 17) 22 rfl w1.heap.size 5 i0 (.int .u8 0) 1 Try.underlying22 hi0 hz0 hz1 hz2 rfl _ _ _ rfl hown2 w1.heap.size A2 n2 c2 (u8s xs2) rfl (r21.below p2) (ints_oneCell _ _) (by unfold maxLen; omega) (by omega) p2.size ?_; intro v3 w3 hown3 hg3 hat3; have p3 := below_app p2 hown2 p2.size hg3; clear hg3 hat3))
    have hl12 : (xs1 ++ xs2).length = 0 + n1 + n2 := by rw [List.length_append, hl.out, hl2.out]; omega
    have ho : OwnB w1 w3 v3 (xs1 ++ xs2) := ownB_of (by rw [hl12]; simpa using hown3)
    have HO := hide ho
    have HL := hide hl12
    have r13 := (r11.below p3).more p3.size
    have r23 := (r21.below p3).more p3.size
    have q3 := q1.trans (p3.mono q1.size)
    clear ho hl12 hown2 hown3 p2 p3 r11 r21
    refine (Sum_own w1 _ _ _ HO.out hby (by rw [HL.out]; omega)).mono ?_
    rintro e w4 ⟨rfl, p4⟩
    have q4 := q3.trans (p4.mono q3.size)
    have r14 := (r13.below p4).more p4.size
    have r24 := (r23.below p4).more p4.size
    clear p4 r13 r23
    go_wp2_with fail
    refine (Sum_any A1 n1 c1 xs1 _ _ r14 (Nat.le_refl _) b1 (by omega)).mono ?_
    rintro e w5 ⟨rfl, p5⟩
    have q5 := q4.trans (p5.mono q4.size)
    have r25 := (r24.below p5).more p5.size
    clear p5 r14 r24
    go_wp2_with fail
    refine (Update_any (sum xs1) A2 n2 c2 xs2 _ _ hlt r25 (Nat.le_refl _) b2 (by omega)).mono ?_
    rintro e w6 ⟨rfl, p6⟩
    have q6 := q5.trans (p6.mono q5.size)
    rw [← HS.out]
    go_wp2_with fail
    go_ret
    exact ⟨rfl, q6⟩
  · have hi : (5000 : Int) < (n1 : Int) + (n2 : Int) := by omega
    go_enter Try.func5, Try.ntmps5
    go_wp2_with fail
    refine (alive02_any _).mono ?_
    rintro e w1 ⟨rfl, hb⟩
    go_wp2_with fail
    go_ret
    exact ⟨rfl, hb⟩

theorem own : ownKnob Try.prog.godebug = none := by kernel_rfl
theorem laidOut : laidOutB Try.prog = true := by kernel_rfl

theorem bytes1 : Try.prog.bytesOf 5 = 1 := by kernel_rfl

/-- what the walk gives, for every argument that can be read -/
theorem contract (H : Type) (enc : TypeId × Value → H) (W : World) (base : Nat) (args : Array Value) (ds gs : List (DataW H)) (before : List MemPlace)
    (hval0 : ∀ (j : Nat) t v, Try.f5.params[j]? = some t → args[j]? = some v → Value.okWide Try.prog W .any base t v)
    (hW : DataW.Whole enc Try.prog Try.f5.params.toList Rows.crcConcatenationSpec.vars false W args.toList ds gs before) (hsz0 : (DataW.weightsEach Try.prog (Try.f5.params.toList ++ Rows.crcConcatenationSpec.plain.varTypes Try.prog) (ds ++ gs)).all (· ≤ reachBytes) = true) :
    Calls Try.prog 5 args W fun e W' => ∃ v, e = .returned v ∧ Rows.crcConcatenationSpec.post enc Try.prog Try.f5 false true false false W args v W' := by
  have hval : ∀ (j : Nat) t v, Try.f5.params[j]? = some t → args[j]? = some v → Value.okWide Try.prog W .any base t v := hval0
  have hW' := hW
  obtain ⟨p, q, hA0, hV, rfl, hfz, hnd⟩ := hW
  have hA : DataW.TrodAll enc Try.prog W 0 (fun _ => true) true Try.f5.params.toList args.toList ds p := hA0
  have hsz : (DataW.weightsEach Try.prog (Try.f5.params.toList ++ Rows.crcConcatenationSpec.plain.varTypes Try.prog) (ds ++ gs)).all (· ≤ reachBytes) = true := hsz0
  rw [Try.params5] at hA hval hsz
  obtain ⟨v0, vs0, d0, ds0, p0, q0, hargs, rfl, rfl, h0, r0⟩ := trodAll_cons hA
  obtain ⟨v1, vs1, d1, ds1, p1, q1, rfl, rfl, rfl, h1, r1⟩ := trodAll_cons r0
  obtain ⟨rfl, rfl, rfl⟩ := trodAll_nil r1
  obtain rfl : args = #[v0, v1] := by cases args; simp_all
  obtain ⟨rfl, rfl⟩ := trodVars_none hV
  have k0 := h0
  have lt0 : ∀ x ∈ p0, x.block < W.heap.size := by obtain ⟨m, hm⟩ := k0; exact DataW.trod_lt m _ _ _ hm
  obtain ⟨A0, n0, c0, xs0, rfl, g0, _⟩ := openBytes Try.underlying22 Try.underlying5 (by kernel_rfl) (hval 0 22 v0 rfl rfl) h0
  have k1 := h1
  have lt1 : ∀ x ∈ p1, x.block < W.heap.size := by obtain ⟨m, hm⟩ := k1; exact DataW.trod_lt m _ _ _ hm
  obtain ⟨A1, n1, c1, xs1, rfl, g1, _⟩ := openBytes Try.underlying22 Try.underlying5 (by kernel_rfl) (hval 1 22 v1 rfl rfl) h1
  have s0 : c0 ≤ 140737488351232 := bytesSized Try.underlying22 Try.underlying5 (by kernel_rfl) h0 (fun es sp hd => by
    have := sized_slice hsz (j := 0) (t := 22) (e := 5) rfl (by rw [← hd]; rfl) Try.underlying22
    rw [bytes1, Nat.mul_one] at this
    simpa [reachBytes] using this)
  have s1 : c1 ≤ 140737488351232 := bytesSized Try.underlying22 Try.underlying5 (by kernel_rfl) h1 (fun es sp hd => by
    have := sized_slice hsz (j := 1) (t := 22) (e := 5) rfl (by rw [← hd]; rfl) Try.underlying22
    rw [bytes1, Nat.mul_one] at this
    simpa [reachBytes] using this)
  clear hA0 hval0 hsz hsz0
  simp only [List.append_nil] at hW'
  refine (walk A0 n0 c0 xs0 A1 n1 c1 xs1 W g0 g1 s0 s1).mono fun e W' ⟨he, bel⟩ => ?_
  subst he
  exact ⟨_, rfl, _, _, _, [], _, [], hW', trodAll_mk1 (shut_bool Try.underlying4 _), (trodAll_cons_mk (Below.trod laidOut (by kernel_rfl) (of_decide_eq_true (by kernel_rfl)) k0 bel lt0) (trodAll_cons_mk (Below.trod laidOut (by kernel_rfl) (of_decide_eq_true (by kernel_rfl)) k1 bel lt1) trodAll_mk0)), rfl, bel.frame _, fun h => by cases h⟩

set_option maxRecDepth 100000 in
theorem lifted (os : Os) (started : os.Started) (H : Type) (enc : TypeId × Value → H) :
    ReturnsInHanded {} Try.checked os 5 .any (Rows.crcConcatenationSpec.pre6 enc Try.prog Try.f5 Rows.crcConcatenationRow.domain false) (Rows.crcConcatenationSpec.post enc Try.prog Try.f5 false true false false) := by
  refine returnsInHanded_of_change_sized (C := Try.checked) own started (by kernel_rfl) Try.func5
    (ChangeSpec.witness6 (enc := enc) (C := Try.checked) false ⟨#[], #[.slice none 0 0, .slice none 0 0], []⟩ 8 (by kernel_rfl) (by kernel_rfl) (by kernel_rfl) (by kernel_rfl)) ?_
  intro W base args ds gs before hval hW _ hsz _
  exact contract H enc W base args ds gs before hval hW hsz

/-- the statement -/
theorem proved : Rows.CrcConcatenationSaid :=
  OpenClaim.holds_of_wide 5 Try.f5 rfl rfl rfl rfl rfl rfl rfl ⟨rfl, rfl, rfl, rfl, rfl⟩ rfl rfl rfl rfl rfl (by kernel_rfl) Try.func5 (by kernel_rfl)
    (of_decide_eq_true (by kernel_rfl)) (by unfold Func.isWrapper; first | (rw [if_pos (by decide +kernel)]; kernel_rfl) | (rw [if_neg (by decide +kernel)]; exact ⟨rfl, rfl⟩))
    (fun os started H enc _ => lifted os started H enc)
end Go.Proofs.Ytcmcjpimophpeaa.crcConcatenation
