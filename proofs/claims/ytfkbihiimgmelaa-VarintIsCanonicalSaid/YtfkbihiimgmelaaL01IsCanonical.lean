/- VarintIsCanonical: for every input the law returns true, and turns nothing that lay. No condition. -/
import Derived.Test.YtfkbihiimgmelaaRows
import Derived.Test.YtfkbihiimgmelaaAlive01
import Derived.Test.YtfkbihiimgmelaaOpen
namespace Go.Proofs.Ytfkbihiimgmelaa.varintIsCanonical
open Go.ChangeShapes Go.WideShapes Go.ChangeAt Go.RowKit
set_option linter.unusedVariables false

/-- what Get answers: an error and zeros, or a number whose encoding is the beginning -/
theorem cases (xs : List Int) (bx : Byt xs) : (gRes xs 0 = .tuple #[.int .u64 0, .int .i64 0, .int .i64 (gE xs 0)] ∧ (gE xs 0 != 0) = true) ∨
    ∃ m : Nat, m ≤ 18446744073709551615 ∧ vput m <+: xs ∧ gRes xs 0 = .tuple #[.int .u64 m, .int .i64 (vput m).length, .int .i64 0] := by
  have h0 : ¬ ((0 : Int) < 0 ∨ (xs.length : Int) < 0) := by omega
  rcases h : vgo (xs.drop 0) 0 0 with ⟨n, l, e⟩
  by_cases he : e = 0
  · subst he
    right
    obtain ⟨m, hm, hlt, _, hp, hl⟩ := vgo_canon (xs := xs.drop 0) (bx.drop 0) (by decide) h
    refine ⟨m, by simp at hlt; omega, by simpa using hp, ?_⟩
    unfold gRes gN gT gE vget
    rw [if_neg h0, show (0 : Int).toNat = 0 from rfl, h]
    simp at hm hl
    simp [hm, hl]
  · left
    have := gRes_err xs 0 (by omega) h he
    have hE : gE xs 0 = e := by
      unfold gE vget
      rw [if_neg h0, show (0 : Int).toNat = 0 from rfl, h]
      simp [he]
    rw [hE]
    exact ⟨this, by simp; omega⟩

set_option maxHeartbeats 1000000 in
theorem walk (A : Option Addr) (n c : Nat) (xs : List Int) (w : World) (hA : Arg w A n c xs) :
    Calls Try.prog 6 #[.slice A n c] w fun e w' => e = .returned (.bool true) ∧ Below w.heap.size w w' := by
  rcases cases xs hA.byt with ⟨hr, hE⟩ | ⟨m, hm, hp, hr⟩
  · have HR := hide hr
    clear hr
    go_enter Try.func6, Try.ntmps6
    go_wp2_with fail
    refine (Get_any A n c 0 xs _ hA.rd hA.byt hA.nc hA.cm).mono ?_
    rintro e w1 ⟨rfl, rfl⟩
    rw [HR.out]
    go_wp2_with fail
    refine (alive_any _).mono ?_
    rintro e w2 ⟨rfl, hb⟩
    go_wp2_with fail
    go_ret
    exact ⟨rfl, hb⟩
  · have HR := hide hr
    clear hr
    have hby : Byt (vput m) := vput_byte _
    have hl : (vput m).length ≤ 10 := vput_le10 (by omega)
    go_enter Try.func6, Try.ntmps6
    go_wp2_with fail
    refine (Get_any A n c 0 xs _ hA.rd hA.byt hA.nc hA.cm).mono ?_
    rintro e w1 ⟨rfl, rfl⟩
    rw [HR.out]
    go_wp2_with fail
    refine (alive_any _).mono ?_
    rintro e w2 ⟨rfl, hb⟩
    go_wp2_with fail
    refine (RefPut_any m (by omega) (by omega) _).mono ?_
    rintro e w3 ⟨v, rfl, ⟨A3, c3, rfl, hc31, hc32, hr3, ho3⟩, hb3⟩
    rw [Int.toNat_natCast] at *
    have hx3 := (hA.rd.below hb).below (hb3.mono hb.size)
    go_wp2_with fail
    refine (HasPrefix_yes _ _ _ _ _ _ _ _ _ _ _ hx3 hr3 hby hA.nc hp).mono ?_
    rintro e w4 ⟨rfl, rfl⟩
    go_wp2_with fail
    refine (RefPut_any m (by omega) (by omega) _).mono ?_
    rintro e w4 ⟨v, rfl, ⟨A4, c4, rfl, hc41, hc42, hr4, ho4⟩, hb4⟩
    rw [Int.toNat_natCast] at *
    go_wp2_with fail
    go_ret
    have hb03 := hb.trans (hb3.mono hb.size)
    exact ⟨by simp, hb03.trans (hb4.mono hb03.size)⟩

theorem own : ownKnob Try.prog.godebug = none := by kernel_rfl
theorem laidOut : laidOutB Try.prog = true := by kernel_rfl

/-- what the walk gives, for every argument that can be read -/
theorem contract (H : Type) (enc : TypeId × Value → H) (W : World) (base : Nat) (args : Array Value) (ds gs : List (DataW H)) (before : List MemPlace)
    (hval0 : ∀ (j : Nat) t v, Try.f6.params[j]? = some t → args[j]? = some v → Value.okWide Try.prog W .any base t v)
    (hW : DataW.Whole enc Try.prog Try.f6.params.toList Rows.varintIsCanonicalSpec.vars false W args.toList ds gs before) :
    Calls Try.prog 6 args W fun e W' => ∃ v, e = .returned v ∧ Rows.varintIsCanonicalSpec.post enc Try.prog Try.f6 false true false false W args v W' := by
  have hval : ∀ (j : Nat) t v, Try.f6.params[j]? = some t → args[j]? = some v → Value.okWide Try.prog W .any base t v := hval0
  have hW' := hW
  obtain ⟨p, q, hA0, hV, rfl, hfz, hnd⟩ := hW
  have hA : DataW.TrodAll enc Try.prog W 0 (fun _ => true) true Try.f6.params.toList args.toList ds p := hA0
  rw [Try.params6] at hA hval
  obtain ⟨v0, vs0, d0, ds0, p0, q0, hargs, rfl, rfl, h0, r0⟩ := trodAll_cons hA
  obtain ⟨rfl, rfl, rfl⟩ := trodAll_nil r0
  obtain rfl : args = #[v0] := by cases args; simp_all
  obtain ⟨rfl, rfl⟩ := trodVars_none hV
  have k0 := h0
  have lt0 : ∀ x ∈ p0, x.block < W.heap.size := by obtain ⟨m, hm⟩ := k0; exact DataW.trod_lt m _ _ _ hm
  obtain ⟨A0, n0, c0, xs0, rfl, g0, _⟩ := openBytes Try.underlying23 Try.underlying5 (by kernel_rfl) (hval 0 23 v0 rfl rfl) h0
  clear hA0 hval0
  simp only [List.append_nil] at hW'
  refine (walk A0 n0 c0 xs0 W g0).mono fun e W' ⟨he, bel⟩ => ?_
  subst he
  exact ⟨_, rfl, _, _, _, [], _, [], hW', trodAll_mk1 (shut_bool Try.underlying4 _), (trodAll_cons_mk (Below.trod laidOut (by kernel_rfl) (of_decide_eq_true (by kernel_rfl)) k0 bel lt0) trodAll_mk0), rfl, bel.frame _, fun h => by cases h⟩

set_option maxRecDepth 100000 in
theorem lifted (os : Os) (started : os.Started) (H : Type) (enc : TypeId × Value → H) :
    ReturnsInHanded {} Try.checked os 6 .any (Rows.varintIsCanonicalSpec.pre6 enc Try.prog Try.f6 Rows.varintIsCanonicalRow.domain false) (Rows.varintIsCanonicalSpec.post enc Try.prog Try.f6 false true false false) := by
  refine returnsInHanded_of_change (C := Try.checked) own started (by kernel_rfl) Try.func6
    (ChangeSpec.witness6 (enc := enc) (C := Try.checked) false ⟨#[], #[.slice none 0 0], []⟩ 8 (by kernel_rfl) (by kernel_rfl) (by kernel_rfl) (by kernel_rfl)) ?_
  intro W base args ds gs before hval hW _ _
  exact contract H enc W base args ds gs before hval hW

/-- the statement -/
theorem proved : Rows.VarintIsCanonicalSaid :=
  OpenClaim.holds_of_wide 6 Try.f6 rfl rfl rfl rfl rfl rfl rfl ⟨rfl, rfl, rfl, rfl, rfl⟩ rfl rfl rfl rfl rfl (by kernel_rfl) Try.func6 (by kernel_rfl)
    (of_decide_eq_true (by kernel_rfl)) (by unfold Func.isWrapper; first | (rw [if_pos (by decide +kernel)]; kernel_rfl) | (rw [if_neg (by decide +kernel)]; exact ⟨rfl, rfl⟩))
    (fun os started H enc _ => lifted os started H enc)
end Go.Proofs.Ytfkbihiimgmelaa.varintIsCanonical
