/- ContainerIsCanonical: for every input the law returns true, and turns nothing that lay. No condition. -/
import Derived.Test.YtgfeimlieibjhaaRows
import Derived.Test.YtgfeimlieibjhaaAlive04
import Derived.Test.YtgfeimlieibjhaaLaw04
import Derived.Test.YtgfeimlieibjhaaOpen
set_option linter.unusedVariables false
namespace Go.Proofs.Ytgfeimlieibjhaa.containerIsCanonical
open Go.ChangeShapes Go.WideShapes Go.ChangeAt Go.RowKit

set_option maxHeartbeats 2000000 in
set_option maxRecDepth 100000 in
theorem walk (A1 : Option Addr) (n1 c1 : Nat) (xs : List Int) (w : World) (h1 : Arg w A1 n1 c1 xs) :
    Calls Try.prog 6 #[.slice A1 n1 c1] w fun e w' => e = .returned (.bool true) ∧ Below w.heap.size w w' := by
  have hnc := h1.nc
  have hcm := h1.cm
  have hby := h1.byt
  have hrd := hide h1.rd
  have hxl : xs.length = n1 := by simpa using h1.rd.1
  by_cases hbig : 5000 < n1
  · have t1 : (5000 : Int) < (n1 : Int) := by omega
    unfold maxLen at hcm
    clear h1 hbig hby hxl
    go_enter Try.func6, Try.ntmps6
    go_wp2_with fail
    refine (alive04_any _).mono ?_
    rintro e w2 ⟨rfl, hb2⟩
    go_wp2_with fail
    go_ret
    exact ⟨rfl, hb2⟩
  · have t1 : ¬ (5000 : Int) < (n1 : Int) := by omega
    have HRd := hide (Read_any A1 n1 c1 xs w h1.rd hby hnc hcm (by omega))
    have HBy := hide hby
    unfold maxLen at hcm
    by_cases he : rdE xs = 0
    · obtain ⟨hcn, hor⟩ := canon hby he
      rw [he] at HRd
      have HW := hide fun w' A n c' L (hs : Secs w' w'.heap.size 2 c2 A n L) (hv : vals L = rdL xs) (hn : n ≤ maxLen) => Write_any A n c' L w' hs hn (by rw [hv, hcn]; omega)
      have hw1 : Hid (wrE (rdL xs) = 0) := by show _ = _; unfold wrE; rw [if_pos hor]
      have hw2 : Hid (wrB (rdL xs) = xs) := by show _ = _; unfold wrB; rw [if_pos hor, hcn]
      clear h1 hbig hby hxl he hcn hor
      go_enter Try.func6, Try.ntmps6
      go_wp2_with fail
      refine HRd.out.mono ?_
      rintro e w1 ⟨v1, rfl, hc1, hb1⟩
      obtain ⟨A2, n2, d2, L, rfl, hl2, hm2, hs2, hv⟩ := hc1.secs
      have B1 := hide hb1
      have S2 := hide hs2
      clear hb1 hs2 hc1
      go_wp2_with fail
      refine (HW.out w1 A2 n2 d2 L S2.out hv.out (Nat.le_trans hl2 hm2)).mono ?_
      rintro e w2 ⟨v2, rfl, hob2, hb2⟩
      rw [hv.out, hw2.out] at hob2
      rw [hv.out, hw1.out]
      obtain ⟨A3, n3, c3, rfl, _, _, hr3, _, _⟩ := hob2.var
      have B2 := hide (B1.out.trans (hb2.mono B1.out.size))
      have R3 := hide hr3
      clear hb2 hob2 hr3
      go_wp2_with fail
      refine (alive04_any _).mono ?_
      rintro e w5 ⟨rfl, hb5⟩
      have B5 := hide (B2.out.trans (hb5.mono B2.out.size))
      have HE := hide (Equal_any A1 A3 n1 n3 c1 c3 xs xs w5 _ _ (hrd.out.below B5.out) (R3.out.below hb5) HBy.out HBy.out)
      rw [eqB_self] at HE
      clear hb5
      go_wp2_with fail
      refine HE.out.mono ?_
      rintro e w6 ⟨rfl, rfl⟩
      go_wp2_with fail
      go_ret
      exact ⟨rfl, B5.out⟩
    · have hz : rdL xs = [] := by unfold rdL rdF; rw [if_neg he]; rfl
      rw [hz] at HRd
      generalize rdE xs = E at *
      have t2 : (E != 0) = true := by simpa using he
      clear h1 hbig hby hxl he hz
      go_enter Try.func6, Try.ntmps6
      go_wp2_with fail
      refine HRd.out.mono ?_
      rintro e w1 ⟨v1, rfl, hc1, hb1⟩
      obtain ⟨A2, n2, d2, L, rfl, hl2, hm2, hs2, hv⟩ := hc1.secs
      have hn2 : n2 = 0 := by have h := hs2.len; have h2 := congrArg List.length hv.out; simp at h2; rw [h2] at h; exact h.symm
      subst hn2
      have B1 := hide hb1
      clear hb1 hs2 hc1 hv hl2
      go_wp2_with fail
      refine (alive04_any _).mono ?_
      rintro e w5 ⟨rfl, hb5⟩
      have B5 := hide (B1.out.trans (hb5.mono B1.out.size))
      clear hb5
      go_wp2_with fail
      go_ret
      exact ⟨rfl, B5.out⟩

theorem own : ownKnob Try.prog.godebug = none := by kernel_rfl
theorem laidOut : laidOutB Try.prog = true := by kernel_rfl

set_option maxRecDepth 100000 in
/-- what the walk gives, for every argument that can be read -/
theorem contract (H : Type) (enc : TypeId × Value → H) (W : World) (base : Nat) (args : Array Value) (ds gs : List (DataW H)) (before : List MemPlace)
    (hval0 : ∀ (j : Nat) t v, Try.f6.params[j]? = some t → args[j]? = some v → Value.okWide Try.prog W .any base t v)
    (hW : DataW.Whole enc Try.prog Try.f6.params.toList Rows.containerIsCanonicalSpec.vars false W args.toList ds gs before) :
    Calls Try.prog 6 args W fun e W' => ∃ v, e = .returned v ∧ Rows.containerIsCanonicalSpec.post enc Try.prog Try.f6 false true false false W args v W' := by
  have hval : ∀ (j : Nat) t v, Try.f6.params[j]? = some t → args[j]? = some v → Value.okWide Try.prog W .any base t v := hval0
  have hW' := hW
  obtain ⟨p, q, hA0, hV, rfl, hfz, hnd⟩ := hW
  have hA : DataW.TrodAll enc Try.prog W 0 (fun _ => true) true Try.f6.params.toList args.toList ds p := hA0
  rw [Try.params6] at hA hval
  obtain ⟨v0, vs0, d0, ds0, p0, q0, hargs, rfl, rfl, h0, r0⟩ := trodAll_cons hA
  obtain ⟨rfl, rfl, rfl⟩ := trodAll_nil r0
  obtain rfl : args = #[v0] := by cases args; simp_all
  obtain ⟨rfl, rfl⟩ := trodVars_none hV
  have k0 := h0
  have lt0 : ∀ x ∈ p0, x.block < W.heap.size := by obtain ⟨m, hm⟩ := k0; exact DataW.trod_lt m _ _ _ hm
  obtain ⟨A0, n0, c0, xs0, rfl, g0, _⟩ := openBytes Try.underlying29 Try.underlying5 (by kernel_rfl) (hval 0 29 v0 rfl rfl) h0
  clear hA0 hval0
  simp only [List.append_nil] at hW'
  refine (walk A0 n0 c0 xs0 W g0).mono fun e W' ⟨he, bel⟩ => ?_
  subst he
  exact ⟨_, rfl, _, _, _, [], _, [], hW', trodAll_mk1 (shut_bool Try.underlying4 _), (trodAll_cons_mk (Below.trod laidOut (by kernel_rfl) (of_decide_eq_true (by kernel_rfl)) k0 bel lt0) trodAll_mk0), rfl, bel.frame _, fun h => by cases h⟩

set_option maxRecDepth 100000 in
theorem lifted (os : Os) (started : os.Started) (H : Type) (enc : TypeId × Value → H) :
    ReturnsInHanded {} Try.checked os 6 .any (Rows.containerIsCanonicalSpec.pre6 enc Try.prog Try.f6 Rows.containerIsCanonicalRow.domain false) (Rows.containerIsCanonicalSpec.post enc Try.prog Try.f6 false true false false) := by
  refine returnsInHanded_of_change (C := Try.checked) own started (by kernel_rfl) Try.func6
    (ChangeSpec.witness6 (enc := enc) (C := Try.checked) false ⟨#[], #[.slice none 0 0], []⟩ 8 (by kernel_rfl) (by kernel_rfl) (by kernel_rfl) (by kernel_rfl)) ?_
  intro W base args ds gs before hval hW _ _
  exact contract H enc W base args ds gs before hval hW

/-- the statement -/
theorem proved : Rows.ContainerIsCanonicalSaid :=
  OpenClaim.holds_of_wide 6 Try.f6 rfl rfl rfl rfl rfl rfl rfl ⟨rfl, rfl, rfl, rfl, rfl⟩ rfl rfl rfl rfl rfl (by kernel_rfl) Try.func6 (by kernel_rfl)
    (of_decide_eq_true (by kernel_rfl)) (by unfold Func.isWrapper; first | (rw [if_pos (by decide +kernel)]; kernel_rfl) | (rw [if_neg (by decide +kernel)]; exact ⟨rfl, rfl⟩))
    (fun os started H enc _ => lifted os started H enc)
end Go.Proofs.Ytgfeimlieibjhaa.containerIsCanonical
