/- ContainerRoundTrip: for every input the law returns true, and turns nothing that lay. No condition. -/
import Derived.Test.YtgfeimlieibjhaaRows
import Derived.Test.YtgfeimlieibjhaaAlive04
import Derived.Test.YtgfeimlieibjhaaLaw04
import Derived.Test.YtgfeimlieibjhaaOpenS
set_option linter.unusedVariables false
namespace Go.Proofs.Ytgfeimlieibjhaa.containerRoundTrip
open Go.ChangeShapes Go.WideShapes Go.ChangeAt Go.RowKit

set_option maxHeartbeats 2000000 in
set_option maxRecDepth 100000 in
theorem walk (A1 : Option Addr) (n1 c1 : Nat) (L : List SecW) (w : World) (h1 : ArgS w A1 n1 c1 L) :
    Calls Try.prog 5 #[.slice A1 n1 c1] w fun e w' => e = .returned (.bool true) ∧ Below w.heap.size w w' := by
  have hnm : n1 ≤ maxLen := Nat.le_trans h1.nc h1.cm
  have hT := hide (tooLarge_any A1 n1 c1 L w h1.secs hnm)
  by_cases hbig : bigS (vals L) = true
  · rw [hbig] at hT
    clear h1 hbig hnm
    go_enter Try.func5, Try.ntmps5
    go_wp2_with fail
    refine hT.out.mono ?_
    rintro e w1 ⟨rfl, hb⟩
    go_wp2_with fail
    refine (alive04_any _).mono ?_
    rintro e w2 ⟨rfl, hb2⟩
    go_wp2_with fail
    go_ret
    exact ⟨rfl, hb.trans (hb2.mono hb.size)⟩
  · have hsm : secsW (vals L) ≤ 5000 := by
      unfold bigS at hbig
      simpa using hbig
    rw [show bigS (vals L) = false by simpa using hbig] at hT
    have hn1 : n1 ≤ 5000 := by have := (small_len hsm).1; rw [List.length_map, h1.secs.len] at this; exact this
    have hen := encC_len hsm
    have hbs : ∀ s ∈ vals L, Byt s.2 := fun s hs => by obtain ⟨x, hx, rfl⟩ := List.mem_map.1 hs; exact (h1.secs.2 x hx).1.byt
    have hbs2 : ∀ s ∈ vals L, Byt s.2 ∧ s.2.length < 2 ^ 64 := fun s hs => ⟨hbs s hs, by have := (small_len hsm).2.1 s hs; omega⟩
    have H1 := hide h1
    have HC := hide fun w' (hb : Below w.heap.size w w') => convert_any A1 n1 c1 L w' ((h1.secs.below hb).more hb.size) hn1 h1.zero
    have HW := hide fun w' A c' (hs : Secs w' w'.heap.size 2 c2 A n1 L) => Write_any A n1 c' L w' hs (by unfold maxLen; omega) (by omega)
    rcases ho : ordL 0 (vals L) with _ | _
    · have e1 : wrE (vals L) = 2 := by unfold wrE; rw [ho]; rfl
      have e2 : wrB (vals L) = [] := by unfold wrB; rw [ho]; rfl
      rw [e1, e2] at HW
      clear h1 hbig hnm hsm hen hbs hbs2 e1 e2 ho
      go_enter Try.func5, Try.ntmps5
      go_wp2_with fail
      refine hT.out.mono ?_
      rintro e w1 ⟨rfl, hb1⟩
      have B1 := hide hb1
      clear hb1
      go_wp2_with fail
      refine (HC.out w1 B1.out).mono ?_
      rintro e w2 ⟨A2, d2, A3, d3, rfl, _, _, _, _, hs2, hs3, hb2⟩
      have B2 := hide (B1.out.trans (hb2.mono B1.out.size))
      have S2 := hide hs2
      clear hb2 hs2 hs3
      go_wp2_with fail
      refine (HW.out w2 A2 d2 S2.out).mono ?_
      rintro e w3 ⟨v3, rfl, hob3, hb3⟩
      obtain ⟨A4, n4, c4', rfl, _, _, _, _, HN4⟩ := hob3.var
      obtain rfl : n4 = 0 := HN4.out
      have B3 := hide (B2.out.trans (hb3.mono B2.out.size))
      clear hb3 hob3
      go_wp2_with fail
      refine (alive04_any _).mono ?_
      rintro e w5 ⟨rfl, hb5⟩
      have B5 := hide (B3.out.trans (hb5.mono B3.out.size))
      clear hb5
      go_wp2_with fail
      go_ret
      exact ⟨rfl, B5.out⟩
    · have e1 : wrE (vals L) = 0 := by unfold wrE; rw [ho]; rfl
      have e2 : wrB (vals L) = encC (vals L) := by unfold wrB; rw [ho]; rfl
      rw [e1, e2] at HW
      have HBy := hide (encC_byt ho hbs)
      have HR := hide fun w' A n c' (hr : Rd w' w'.heap.size A n (u8s (encC (vals L)))) (hn : n ≤ c') (hc : c' ≤ maxLen) => Read_any A n c' _ w' hr HBy.out hn hc (by have := hr.1; simp only [List.length_map] at this; omega)
      rw [rdE_enc ho hbs2, rdL_enc ho hbs2] at HR
      clear h1 hbig hnm hsm hen hbs hbs2 e1 e2 ho HBy
      generalize encC (vals L) = xs at *
      go_enter Try.func5, Try.ntmps5
      go_wp2_with fail
      refine hT.out.mono ?_
      rintro e w1 ⟨rfl, hb1⟩
      have B1 := hide hb1
      clear hb1
      go_wp2_with fail
      refine (HC.out w1 B1.out).mono ?_
      rintro e w2 ⟨A2, d2, A3, d3, rfl, _, _, _, _, hs2, hs3, hb2⟩
      have B2 := hide (B1.out.trans (hb2.mono B1.out.size))
      have S2 := hide hs2
      have S3 := hide hs3
      clear hb2 hs2 hs3
      go_wp2_with fail
      refine (HW.out w2 A2 d2 S2.out).mono ?_
      rintro e w3 ⟨v3, rfl, hob3, hb3⟩
      obtain ⟨A4, n4, c4', rfl, hnc4, hcm4, hr4, _, _⟩ := hob3.var
      have B3 := hide (B2.out.trans (hb3.mono B2.out.size))
      have T3 := hide ((S3.out.below hb3).more hb3.size)
      have R4 := hide hr4
      clear hb3 hob3 hr4
      go_wp2_with fail
      refine (HR.out w3 A4 n4 c4' R4.out hnc4 hcm4).mono ?_
      rintro e w4 ⟨v4, rfl, hc4, hb4⟩
      obtain ⟨A5, n5, d5, L5, rfl, _, _, hs5, hv5⟩ := hc4.secs
      have B4 := hide (B3.out.trans (hb4.mono B3.out.size))
      have T4 := hide ((T3.out.below hb4).more hb4.size)
      have S5 := hide hs5
      have hn5 : n5 = n1 := by have h := hs5.len; have h2 := congrArg List.length hv5.out; simp only [List.length_map] at h2; rw [h2, T3.out.len] at h; exact h.symm
      subst hn5
      clear hb4 hc4 hs5
      go_wp2_with fail
      refine (alive04_any _).mono ?_
      rintro e w5 ⟨rfl, hb5⟩
      have B5 := hide (B4.out.trans (hb5.mono B4.out.size))
      have HE := hide (same_any A5 A3 n5 d5 d3 L5 L w5 ((S5.out.below hb5).more hb5.size) ((T4.out.below hb5).more hb5.size) hv5.out (by omega))
      clear hb5
      go_wp2_with fail
      refine HE.out.mono ?_
      rintro e w6 ⟨rfl, hb6⟩
      have B6 := hide (B5.out.trans (hb6.mono B5.out.size))
      clear hb6
      go_wp2_with fail
      go_ret
      exact ⟨rfl, B6.out⟩

theorem own : ownKnob Try.prog.godebug = none := by kernel_rfl
theorem laidOut : laidOutB Try.prog = true := by kernel_rfl

set_option maxRecDepth 100000 in
/-- what the walk gives, for every argument that can be read -/
theorem contract (H : Type) (enc : TypeId × Value → H) (W : World) (base : Nat) (args : Array Value) (ds gs : List (DataW H)) (before : List MemPlace)
    (hval0 : ∀ (j : Nat) t v, Try.f5.params[j]? = some t → args[j]? = some v → Value.okWide Try.prog W .any base t v)
    (hW : DataW.Whole enc Try.prog Try.f5.params.toList Rows.containerRoundTripSpec.vars false W args.toList ds gs before) :
    Calls Try.prog 5 args W fun e W' => ∃ v, e = .returned v ∧ Rows.containerRoundTripSpec.post enc Try.prog Try.f5 false true false false W args v W' := by
  have hval : ∀ (j : Nat) t v, Try.f5.params[j]? = some t → args[j]? = some v → Value.okWide Try.prog W .any base t v := hval0
  have hW' := hW
  obtain ⟨p, q, hA0, hV, rfl, hfz, hnd⟩ := hW
  have hA : DataW.TrodAll enc Try.prog W 0 (fun _ => true) true Try.f5.params.toList args.toList ds p := hA0
  rw [Try.params5] at hA hval
  obtain ⟨v0, vs0, d0, ds0, p0, q0, hargs, rfl, rfl, h0, r0⟩ := trodAll_cons hA
  obtain ⟨rfl, rfl, rfl⟩ := trodAll_nil r0
  obtain rfl : args = #[v0] := by cases args; simp_all
  obtain ⟨rfl, rfl⟩ := trodVars_none hV
  have k0 := h0
  have lt0 : ∀ x ∈ p0, x.block < W.heap.size := by obtain ⟨m, hm⟩ := k0; exact DataW.trod_lt m _ _ _ hm
  obtain ⟨A0, n0, c0, xs0, rfl, g0⟩ := openSecs Try.underlying22 Try.underlying54 rfl (by kernel_rfl) (by kernel_rfl) Try.underlying3 Try.underlying29 Try.underlying5 (by kernel_rfl) (hval 0 22 v0 rfl rfl) h0
  clear hA0 hval0
  simp only [List.append_nil] at hW'
  refine (walk A0 n0 c0 xs0 W g0).mono fun e W' ⟨he, bel⟩ => ?_
  subst he
  exact ⟨_, rfl, _, _, _, [], _, [], hW', trodAll_mk1 (shut_bool Try.underlying4 _), (trodAll_cons_mk (Below.trod laidOut (by kernel_rfl) (of_decide_eq_true (by kernel_rfl)) k0 bel lt0) trodAll_mk0), rfl, bel.frame _, fun h => by cases h⟩

set_option maxRecDepth 100000 in
theorem lifted (os : Os) (started : os.Started) (H : Type) (enc : TypeId × Value → H) :
    ReturnsInHanded {} Try.checked os 5 .any (Rows.containerRoundTripSpec.pre6 enc Try.prog Try.f5 Rows.containerRoundTripRow.domain false) (Rows.containerRoundTripSpec.post enc Try.prog Try.f5 false true false false) := by
  refine returnsInHanded_of_change (C := Try.checked) own started (by kernel_rfl) Try.func5
    (ChangeSpec.witness6 (enc := enc) (C := Try.checked) false ⟨#[], #[.slice none 0 0], []⟩ 8 (by kernel_rfl) (by kernel_rfl) (by kernel_rfl) (by kernel_rfl)) ?_
  intro W base args ds gs before hval hW _ _
  exact contract H enc W base args ds gs before hval hW

/-- the statement -/
theorem proved : Rows.ContainerRoundTripSaid :=
  OpenClaim.holds_of_wide 5 Try.f5 rfl rfl rfl rfl rfl rfl rfl ⟨rfl, rfl, rfl, rfl, rfl⟩ rfl rfl rfl rfl rfl (by kernel_rfl) Try.func5 (by kernel_rfl)
    (of_decide_eq_true (by kernel_rfl)) (by unfold Func.isWrapper; first | (rw [if_pos (by decide +kernel)]; kernel_rfl) | (rw [if_neg (by decide +kernel)]; exact ⟨rfl, rfl⟩))
    (fun os started H enc _ => lifted os started H enc)
end Go.Proofs.Ytgfeimlieibjhaa.containerRoundTrip
