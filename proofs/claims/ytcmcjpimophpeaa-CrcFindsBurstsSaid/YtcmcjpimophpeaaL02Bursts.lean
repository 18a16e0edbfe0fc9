/- CrcFindsBursts: for every input the law returns true, and turns nothing that lay. No condition. -/
import Derived.Test.YtcmcjpimophpeaaRows
import Derived.Test.YtcmcjpimophpeaaAlive02
import Derived.Test.YtcmcjpimophpeaaCrcFlip
import Derived.Test.YtcmcjpimophpeaaOpen
namespace Go.Proofs.Ytcmcjpimophpeaa.crcFindsBursts
open Go.ChangeShapes Go.WideShapes Go.ChangeAt Go.RowKit
set_option linter.unusedVariables false

theorem App4 (A : Option Addr) (n c : Nat) (xs cs : List Int) (w : World) (hr : Rd w w.heap.size A n (u8s xs)) (hx : Byt xs) (hn : n ≤ 5000) (hcs : Hid (xs ++ sto (sum xs) = cs)) :
    Calls Try.prog 13 #[.slice A n c] w fun e w' => ∃ A' c', e = .returned (.slice A' (n + 4) c') ∧ n + 4 ≤ c' ∧ c' ≤ maxLen ∧ Rd w' w'.heap.size A' (n + 4) (u8s cs) ∧ Below w.heap.size w w' := by
  have hlen : (xs ++ sto (sum xs)).length = n + 4 := by rw [List.length_append, sto_len, show xs.length = n by simpa using hr.1]
  refine (Append_any A n c xs _ _ hr (Nat.le_refl _) hx (by omega)).mono ?_
  rintro e w1 ⟨v1, rfl, ⟨A2, c2, rfl, h1, h2, h3, _⟩, q1⟩
  rw [hlen] at h1 h3 ⊢
  rw [hcs.out] at h3
  exact ⟨A2, c2, rfl, h1, h2, h3, q1⟩
theorem Flip4 (A : Option Addr) (n c : Nat) (xs : List Int) (from_ p : Nat) (w : World) (hr : Rd w w.heap.size A (n + 4) (u8s xs)) (hx : Byt xs) (hn : n ≤ 5000) (hf : from_ < 8 * (n + 4)) (hp : p < 4294967296) :
    Calls Try.prog 19 #[.slice A (n + 4) c, .int .i64 (from_ : Int), .int .u32 (p : Int)] w fun e w' => ∃ A' c' ys, e = .returned (.slice A' (n + 4) c') ∧ n + 4 ≤ c' ∧ c' ≤ maxLen ∧ Rd w' w'.heap.size A' (n + 4) (u8s ys) ∧ Flipped xs from_ ys ∧ Below w.heap.size w w' := by
  have hlen : xs.length = n + 4 := by simpa using hr.1
  refine (Flip_any A (n + 4) c xs from_ p _ _ hr (Nat.le_refl _) hx (by omega) hf hp).mono ?_
  rintro e w1 ⟨v1, ys, rfl, ⟨A2, c2, rfl, h1, h2, h3, _⟩, hF, q1⟩
  have hl2 : ys.length = n + 4 := by rw [hF.1, hlen]
  rw [hl2] at h1 h3 ⊢
  exact ⟨A2, c2, ys, rfl, h1, h2, h3, hF, q1⟩

set_option maxHeartbeats 2000000 in
theorem walk (A1 : Option Addr) (n1 c1 : Nat) (xs1 : List Int) (f p : Int) (w : World) (h1 : Arg w A1 n1 c1 xs1) (hf : 0 ≤ f ∧ f ≤ 65535) (hp : 0 ≤ p ∧ p ≤ 4294967295) :
    Calls Try.prog 6 #[.slice A1 n1 c1, .int .u16 f, .int .u32 p] w fun e w' => e = .returned (.bool true) ∧ Below w.heap.size w w' := by
  have hnc := h1.nc
  have hcm := h1.cm
  have hb1 := h1.byt
  have hr1 := h1.rd
  unfold maxLen at hcm
  clear h1
  obtain ⟨f, rfl⟩ := Int.eq_ofNat_of_zero_le hf.1
  obtain ⟨p, rfl⟩ := Int.eq_ofNat_of_zero_le hp.1
  have hp2 : p < 4294967296 := by omega
  have hf2 : f ≤ 65535 := by omega
  clear hf hp
  by_cases hn : 5000 < n1
  · have hi : (5000 : Int) < (n1 : Int) := by omega
    go_enter Try.func6, Try.ntmps6
    go_wp2_with fail
    refine (alive02_any _).mono ?_
    rintro e w1 ⟨rfl, hb⟩
    go_wp2_with fail
    go_ret
    exact ⟨rfl, hb⟩
  · have hi : ¬ ((5000 : Int) < (n1 : Int)) := by omega
    obtain ⟨cs, hcs⟩ : ∃ cs, Hid (xs1 ++ sto (sum xs1) = cs) := ⟨_, rfl⟩
    have hby : Byt cs := by rw [← hcs.out]; exact hb1.append (sto_byt _)
    have hck : Hid (chk cs = true) := by show _ = _; rw [← hcs.out]; exact chk_app xs1 hb1
    have hlen : Hid (cs.length = n1 + 4) := by show _ = _; rw [← hcs.out, List.length_append, sto_len, show xs1.length = n1 by simpa using hr1.1]
    obtain ⟨F, hF⟩ : ∃ F : Nat, Hid (F = f % (8 * (n1 + 4))) := ⟨_, rfl⟩
    have hFe : (f : Int) % (8 * ((n1 : Int) + 4)) = (F : Int) := by rw [hF.out]; simp
    have hFl : F < 8 * (n1 + 4) := by rw [hF.out]; exact Nat.mod_lt _ (by omega)
    go_enter Try.func6, Try.ntmps6
    go_wp2_with fail
    refine (App4 A1 n1 c1 xs1 cs _ hr1 hb1 (by omega) hcs).mono ?_
    rintro e w1 ⟨A2, c2, rfl, hc21, hc22, hr2, q1⟩
    have hc22' := hide hc22
    unfold maxLen at hc22
    go_wp2_with fail
    refine (Flip4 A2 n1 c2 cs F p _ hr2 hby (by omega) hFl hp2).mono ?_
    rintro e w2 ⟨A3, c3, ys, rfl, hc31, hc32, hr3, hfl, p2⟩
    have hc32' := hide hc32
    unfold maxLen at hc32
    have q2 := q1.trans (p2.mono q1.size)
    have hr22 := (hr2.below p2).more p2.size
    have hyb := hfl.2.1
    have HB : Hid (chk ys = eqB cs ys) := by
      obtain ⟨k1, k2, q, k3, k4⟩ := hfl
      exact burst hby k2 k1 (by rw [hlen.out]; omega) hck.out (by rw [hlen.out]; omega) k3 k4
    clear hfl p2 hr2
    go_wp2_with fail
    refine (alive02_any _).mono ?_
    rintro e w3 ⟨rfl, p3⟩
    have q3 := q2.trans (p3.mono q2.size)
    have hr23 := (hr22.below p3).more p3.size
    have hr33 := (hr3.below p3).more p3.size
    clear p3 hr22 hr3
    go_wp2_with fail
    refine (Check_any A2 (n1 + 4) c2 cs _ _ hr23 (Nat.le_refl _) hby hc21 hc22'.out).mono ?_
    rintro e w4 ⟨rfl, p4⟩
    rw [hck.out]
    have q4 := q3.trans (p4.mono q3.size)
    have hr24 := (hr23.below p4).more p4.size
    have hr34 := (hr33.below p4).more p4.size
    clear p4 hr23 hr33
    go_wp2_with fail
    refine (Check_any A3 (n1 + 4) c3 ys _ _ hr34 (Nat.le_refl _) hyb hc31 hc32'.out).mono ?_
    rintro e w5 ⟨rfl, p5⟩
    rw [HB.out]
    have q5 := q4.trans (p5.mono q4.size)
    have hr25 := (hr24.below p5).more p5.size
    have hr35 := (hr34.below p5).more p5.size
    clear p5 hr24 hr34
    go_wp2_with fail
    refine (Equal_any _ _ _ _ _ _ _ _ _ _ _ hr25 hr35 hby hyb).mono ?_
    rintro e w6 ⟨rfl, rfl⟩
    go_wp2_with fail
    go_ret
    exact ⟨rfl, q5⟩

theorem own : ownKnob Try.prog.godebug = none := by kernel_rfl
theorem laidOut : laidOutB Try.prog = true := by kernel_rfl

/-- what the walk gives, for every argument that can be read -/
theorem contract (H : Type) (enc : TypeId × Value → H) (W : World) (base : Nat) (args : Array Value) (ds gs : List (DataW H)) (before : List MemPlace)
    (hval0 : ∀ (j : Nat) t v, Try.f6.params[j]? = some t → args[j]? = some v → Value.okWide Try.prog W .any base t v)
    (hW : DataW.Whole enc Try.prog Try.f6.params.toList Rows.crcFindsBurstsSpec.vars false W args.toList ds gs before) :
    Calls Try.prog 6 args W fun e W' => ∃ v, e = .returned v ∧ Rows.crcFindsBurstsSpec.post enc Try.prog Try.f6 false true false false W args v W' := by
  have hval : ∀ (j : Nat) t v, Try.f6.params[j]? = some t → args[j]? = some v → Value.okWide Try.prog W .any base t v := hval0
  have hW' := hW
  obtain ⟨p, q, hA0, hV, rfl, hfz, hnd⟩ := hW
  have hA : DataW.TrodAll enc Try.prog W 0 (fun _ => true) true Try.f6.params.toList args.toList ds p := hA0
  rw [Try.params6] at hA hval
  obtain ⟨v0, vs0, d0, ds0, p0, q0, hargs, rfl, rfl, h0, r0⟩ := trodAll_cons hA
  obtain ⟨v1, vs1, d1, ds1, p1, q1, rfl, rfl, rfl, h1, r1⟩ := trodAll_cons r0
  obtain ⟨v2, vs2, d2, ds2, p2, q2, rfl, rfl, rfl, h2, r2⟩ := trodAll_cons r1
  obtain ⟨rfl, rfl, rfl⟩ := trodAll_nil r2
  obtain rfl : args = #[v0, v1, v2] := by cases args; simp_all
  obtain ⟨rfl, rfl⟩ := trodVars_none hV
  have k0 := h0
  have lt0 : ∀ x ∈ p0, x.block < W.heap.size := by obtain ⟨m, hm⟩ := k0; exact DataW.trod_lt m _ _ _ hm
  obtain ⟨A0, n0, c0, xs0, rfl, g0, _⟩ := openBytes Try.underlying22 Try.underlying5 (by kernel_rfl) (hval 0 22 v0 rfl rfl) h0
  obtain ⟨a1, rfl, rfl, rfl, w1⟩ := open_int Try.underlying31 (hval 1 31 v1 rfl rfl) h1
  have g1 : 0 ≤ a1 ∧ a1 ≤ 65535 := by simpa [Lit.wf, IntKind.min, IntKind.max, IntKind.signed, IntKind.bits] using w1
  obtain ⟨a2, rfl, rfl, rfl, w2⟩ := open_int Try.underlying24 (hval 2 24 v2 rfl rfl) h2
  have g2 : 0 ≤ a2 ∧ a2 ≤ 4294967295 := by simpa [Lit.wf, IntKind.min, IntKind.max, IntKind.signed, IntKind.bits] using w2
  clear hA0 hval0
  simp only [List.append_nil] at hW'
  refine (walk A0 n0 c0 xs0 a1 a2 W g0 g1 g2).mono fun e W' ⟨he, bel⟩ => ?_
  subst he
  exact ⟨_, rfl, _, _, _, [], _, [], hW', trodAll_mk1 (shut_bool Try.underlying4 _), (trodAll_cons_mk (Below.trod laidOut (by kernel_rfl) (of_decide_eq_true (by kernel_rfl)) k0 bel lt0) (trodAll_cons_mk (shut_int Try.underlying31 w1) (trodAll_cons_mk (shut_int Try.underlying24 w2) trodAll_mk0))), rfl, bel.frame _, fun h => by cases h⟩

set_option maxRecDepth 100000 in
theorem lifted (os : Os) (started : os.Started) (H : Type) (enc : TypeId × Value → H) :
    ReturnsInHanded {} Try.checked os 6 .any (Rows.crcFindsBurstsSpec.pre6 enc Try.prog Try.f6 Rows.crcFindsBurstsRow.domain false) (Rows.crcFindsBurstsSpec.post enc Try.prog Try.f6 false true false false) := by
  refine returnsInHanded_of_change (C := Try.checked) own started (by kernel_rfl) Try.func6
    (ChangeSpec.witness6 (enc := enc) (C := Try.checked) false ⟨#[], #[.slice none 0 0, .int .u16 0, .int .u32 0], []⟩ 8 (by kernel_rfl) (by kernel_rfl) (by kernel_rfl) (by kernel_rfl)) ?_
  intro W base args ds gs before hval hW _ _
  exact contract H enc W base args ds gs before hval hW

/-- the statement -/
theorem proved : Rows.CrcFindsBurstsSaid :=
  OpenClaim.holds_of_wide 6 Try.f6 rfl rfl rfl rfl rfl rfl rfl ⟨rfl, rfl, rfl, rfl, rfl⟩ rfl rfl rfl rfl rfl (by kernel_rfl) Try.func6 (by kernel_rfl)
    (of_decide_eq_true (by kernel_rfl)) (by unfold Func.isWrapper; first | (rw [if_pos (by decide +kernel)]; kernel_rfl) | (rw [if_neg (by decide +kernel)]; exact ⟨rfl, rfl⟩))
    (fun os started H enc _ => lifted os started H enc)
end Go.Proofs.Ytcmcjpimophpeaa.crcFindsBursts
