/- ContainerReads: for every input the law returns true, and turns nothing that lay. No condition. -/
import Derived.Test.YtgfeimlieibjhaaRows
import Derived.Test.YtgfeimlieibjhaaAlive04
import Derived.Test.YtgfeimlieibjhaaLaw04
import Derived.Test.YtgfeimlieibjhaaOpen
set_option linter.unusedVariables false
namespace Go.Proofs.Ytgfeimlieibjhaa.containerReads
open Go.ChangeShapes Go.WideShapes Go.ChangeAt Go.RowKit

set_option maxHeartbeats 4000000 in
set_option maxRecDepth 100000 in
theorem walk (A1 : Option Addr) (n1 c1 : Nat) (xs : List Int) (w : World) (h1 : Arg w A1 n1 c1 xs) :
    Calls Try.prog 4 #[.slice A1 n1 c1] w fun e w' => e = .returned (.bool true) ∧ Below w.heap.size w w' := by
  have hnc := h1.nc
  have hcm := h1.cm
  have hby := h1.byt
  have hrd := hide h1.rd
  by_cases hbig : 5000 < n1
  · have t1 : (5000 : Int) < (n1 : Int) := by omega
    unfold maxLen at hcm
    clear h1 hbig hby
    go_enter Try.func4, Try.ntmps4
    go_wp2_with fail
    refine (alive04_any _).mono ?_
    rintro e w2 ⟨rfl, hb2⟩
    go_wp2_with fail
    go_ret
    exact ⟨rfl, hb2⟩
  · have t1 : ¬ (5000 : Int) < (n1 : Int) := by omega
    have HRd := hide (Read_any A1 n1 c1 xs w h1.rd hby hnc hcm (by omega))
    have HSp := hide fun w' (hb : Below w.heap.size w w') => Spans_any A1 n1 c1 xs w' ((h1.rd.below hb).more hb.size) hby hnc hcm (by omega)
    have HRf := hide fun w' (hb : Below w.heap.size w w') => RefRead_any A1 n1 c1 xs w' ((h1.rd.below hb).more hb.size) hby hnc hcm (by omega)
    have hNl : Hid ((rdL xs).length = (rdF xs).length) := by show _ = _; unfold rdL; rw [List.length_map]
    have hNp : Hid ((rdP xs).length = (rdF xs).length) := by show _ = _; unfold rdP; rw [List.length_map]
    have hNb : Hid ((rdF xs).length ≤ 1000001) := by
      show _ ≤ _
      have h1 := yall_len xs
      have h2 : xs.length = n1 := by simpa using hrd.out.1
      have h3 : (rdF xs).length ≤ (yall xs).length := by unfold rdF; split <;> simp
      omega
    unfold maxLen at hcm
    unfold Ref4 at HRf
    clear h1 hbig hby
    generalize rdE xs = E at *
    generalize (rdF xs).length = N at *
    go_enter Try.func4, Try.ntmps4
    go_wp2_with fail
    refine HRd.out.mono ?_
    rintro e w1 ⟨v1, rfl, hc1, hb1⟩
    obtain ⟨A2, n2, d2, L2, rfl, _, _, hs2, hv2⟩ := hc1.secs
    obtain rfl : n2 = N := by have h := hs2.len; have h2 := congrArg List.length hv2.out; simp only [List.length_map] at h2; rw [h2, hNl.out] at h; exact h.symm
    have B1 := hide hb1
    have S2 := hide hs2
    clear hb1 hs2 hc1
    go_wp2_with fail
    refine (HSp.out w1 B1.out).mono ?_
    rintro e w2 ⟨v2, rfl, hc2, hb2⟩
    obtain ⟨A3, n3, d3, rfl, _, _, hs3⟩ := hc2.pairs
    obtain rfl : n3 = n2 := by have h := hs3.1; rw [hNp.out] at h; exact h.symm
    have B2 := hide (B1.out.trans (hb2.mono B1.out.size))
    have T2 := hide ((S2.out.below hb2).more hb2.size)
    have S3 := hide hs3
    clear hb2 hs3 hc2 S2
    go_wp2_with fail
    refine (HRf.out w2 B2.out).mono ?_
    rintro e w3 ⟨v3, rfl, hc3, hb3⟩
    obtain ⟨A4, n4, d4, L4, rfl, _, _, hs4, hv4, hp4⟩ := hc3.secs
    obtain rfl : n4 = n3 := by have h := hs4.len; have h2 := congrArg List.length hv4.out; simp only [List.length_map] at h2; rw [h2, hNl.out] at h; exact h.symm
    have B3 := hide (B2.out.trans (hb3.mono B2.out.size))
    have U2 := hide ((T2.out.below hb3).more hb3.size)
    have T3 := hide ((S3.out.below hb3).more hb3.size)
    have S4 := hide hs4
    have hn := hNb.out
    clear hb3 hs4 hc3 T2 S3
    have HE := hide (same_any A2 A4 n4 d2 d4 L2 L4 w3 U2.out S4.out (hv2.out.trans hv4.out.symm) hn)
    go_wp2_with fail
    refine HE.out.mono ?_
    rintro e w4 ⟨rfl, hb4⟩
    have B4 := hide (B3.out.trans (hb4.mono B3.out.size))
    have V3 := hide (T3.out.below hb4)
    have V4 := hide (S4.out.below hb4)
    have hsz := hb4.size
    clear hb4 HE
    go_wp2_with fail
    go_loopw [52] (fun i wr => ∃ k : Nat, i = .int .i64 (k : Int) ∧ k ≤ n4 ∧ Below w4.heap.size w4 wr) (fun i _ => n4 - (intOf i).toNat)
    case atStart => exact ⟨0, rfl, Nat.zero_le _, Below.refl _ _⟩
    case round =>
      obtain ⟨k, rfl, hk, hb⟩ := hrel
      by_cases hlt : k < n4
      · have hex1 : ∃ a, (rdP xs)[k]? = some a := ⟨_, List.getElem?_eq_getElem (by have := V3.out.1; omega)⟩
        have hex2 : ∃ a, L4[k]? = some a := ⟨_, List.getElem?_eq_getElem (by have := V4.out.len; omega)⟩
        obtain ⟨p, hp⟩ := hex1
        obtain ⟨y, hy⟩ := hex2
        obtain ⟨g, o, rfl, hgB, hcp⟩ := (V3.out.below (hb.mono hsz)).at_ hp
        have a0 := hcp 0 _ rfl
        have a1 := hcp 1 _ rfl
        obtain ⟨g2, o2, rfl, hgB2, _, _, _, _, b2, b3⟩ := (V4.out.below (hb.mono hsz)).at4 hy
        have e := hp.symm.trans ((congrArg (·[k]?) hp4.out).symm.trans (by rw [List.getElem?_map, hy]))
        injection e with e
        obtain ⟨p1, p2⟩ := p
        injection e with e1 e2
        subst e1 e2
        simp only [Nat.add_zero] at a0 a1
        have hi1 : (0 : Int) ≤ (k : Int) := by omega
        have hi2 : (k : Int) < (n4 : Int) := by omega
        have HBN := hide fun q => hb.trans ((belowN wr q).mono hb.size)
        clear hcp hp hy hb
        go_wp2
        go_quiet (fail)
        go_wp2
        go_roundw
        case rel => exact ⟨k + 1, by go_num, by omega, HBN.out _⟩
        case measure => simp [intOf]; omega
      · obtain rfl : k = n4 := by omega
        have B5 := hide (B4.out.trans (hb.mono B4.out.size))
        clear hb
        go_wp2_with fail
        refine (alive04_any _).mono ?_
        rintro e w5 ⟨rfl, hb5⟩
        have B6 := hide (B5.out.trans (hb5.mono B5.out.size))
        clear hb5
        go_wp2_with fail
        go_ret
        exact ⟨rfl, B6.out⟩

theorem own : ownKnob Try.prog.godebug = none := by kernel_rfl
theorem laidOut : laidOutB Try.prog = true := by kernel_rfl

set_option maxRecDepth 100000 in
/-- what the walk gives, for every argument that can be read -/
theorem contract (H : Type) (enc : TypeId × Value → H) (W : World) (base : Nat) (args : Array Value) (ds gs : List (DataW H)) (before : List MemPlace)
    (hval0 : ∀ (j : Nat) t v, Try.f4.params[j]? = some t → args[j]? = some v → Value.okWide Try.prog W .any base t v)
    (hW : DataW.Whole enc Try.prog Try.f4.params.toList Rows.containerReadsSpec.vars false W args.toList ds gs before) :
    Calls Try.prog 4 args W fun e W' => ∃ v, e = .returned v ∧ Rows.containerReadsSpec.post enc Try.prog Try.f4 false true false false W args v W' := by
  have hval : ∀ (j : Nat) t v, Try.f4.params[j]? = some t → args[j]? = some v → Value.okWide Try.prog W .any base t v := hval0
  have hW' := hW
  obtain ⟨p, q, hA0, hV, rfl, hfz, hnd⟩ := hW
  have hA : DataW.TrodAll enc Try.prog W 0 (fun _ => true) true Try.f4.params.toList args.toList ds p := hA0
  rw [Try.params4] at hA hval
  obtain ⟨v0, vs0, d0, ds0, p0, q0, hargs, rfl, rfl, h0, r0⟩ := trodAll_cons hA
  obtain ⟨rfl, rfl, rfl⟩ := trodAll_nil r0
  obtain rfl : args = #[v0] := by cases args; simp_all
  obtain ⟨rfl, rfl⟩ := trodVars_none hV
  have k0 := h0
  have lt0 : ∀ x ∈ p0, x.block < W.heap.size := by obtain ⟨m, hm⟩ := k0; exact DataW.trod_lt m _ _ _ hm
  obtain ⟨A0, n0, c0, xs0, rfl, g0, _⟩ := openBytes Try.underlying29 Try.underlying5 (by kernel_rfl) (hval 0 29 v0 rfl rfl) h0
  clear hA0 hval0
  simp only [List.append_nil] at hW'
  refine (walk A0 n0 c0 xs0 W g0).mono fun e W' ⟨he, bel⟩ => ?_
  subst he
  exact ⟨_, rfl, _, _, _, [], _, [], hW', trodAll_mk1 (shut_bool Try.underlying4 _), (trodAll_cons_mk (Below.trod laidOut (by kernel_rfl) (of_decide_eq_true (by kernel_rfl)) k0 bel lt0) trodAll_mk0), rfl, bel.frame _, fun h => by cases h⟩

set_option maxRecDepth 100000 in
theorem lifted (os : Os) (started : os.Started) (H : Type) (enc : TypeId × Value → H) :
    ReturnsInHanded {} Try.checked os 4 .any (Rows.containerReadsSpec.pre6 enc Try.prog Try.f4 Rows.containerReadsRow.domain false) (Rows.containerReadsSpec.post enc Try.prog Try.f4 false true false false) := by
  refine returnsInHanded_of_change (C := Try.checked) own started (by kernel_rfl) Try.func4
    (ChangeSpec.witness6 (enc := enc) (C := Try.checked) false ⟨#[], #[.slice none 0 0], []⟩ 8 (by kernel_rfl) (by kernel_rfl) (by kernel_rfl) (by kernel_rfl)) ?_
  intro W base args ds gs before hval hW _ _
  exact contract H enc W base args ds gs before hval hW

/-- the statement -/
theorem proved : Rows.ContainerReadsSaid :=
  OpenClaim.holds_of_wide 4 Try.f4 rfl rfl rfl rfl rfl rfl rfl ⟨rfl, rfl, rfl, rfl, rfl⟩ rfl rfl rfl rfl rfl (by kernel_rfl) Try.func4 (by kernel_rfl)
    (of_decide_eq_true (by kernel_rfl)) (by unfold Func.isWrapper; first | (rw [if_pos (by decide +kernel)]; kernel_rfl) | (rw [if_neg (by decide +kernel)]; exact ⟨rfl, rfl⟩))
    (fun os started H enc _ => lifted os started H enc)
end Go.Proofs.Ytgfeimlieibjhaa.containerReads
