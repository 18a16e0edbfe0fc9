/- WireWrites: for every input the law returns true, and turns nothing that lay. No condition. -/
import Derived.Test.YtakjlomgkbloeaaRows
import Derived.Test.YtakjlomgkbloeaaAlive03
import Derived.Test.YtakjlomgkbloeaaWrite
import Derived.Test.YtakjlomgkbloeaaOpenA
namespace Go.Proofs.Ytakjlomgkbloeaa.wireWrites
open Go.ChangeShapes Go.WideShapes Go.ChangeAt Go.RowKit
set_option linter.unusedVariables false

set_option maxHeartbeats 4000000 in
set_option maxRecDepth 100000 in
theorem walk (A1 : Option Addr) (n1 c1 : Nat) (L : List ActV) (w : World) (h1 : ArgA w A1 n1 c1 L) :
    Calls Try.prog 3 #[.slice A1 n1 c1] w fun e w' => e = .returned (.bool true) ∧ Below w.heap.size w w' := by
  have hnm : n1 ≤ maxLen := Nat.le_trans h1.nc h1.cm
  have hl := h1.acts.1
  have hT := hide (tooLarge_any A1 n1 c1 L w h1.acts hnm)
  by_cases hbig : bigL L = true
  · rw [hbig] at hT
    clear h1 hbig hnm hl
    go_enter Try.func3, Try.ntmps3
    go_wp2_with fail
    refine hT.out.mono ?_
    rintro e w1 ⟨rfl, hb⟩
    go_wp2_with fail
    refine (alive03_any _).mono ?_
    rintro e w2 ⟨rfl, hb2⟩
    go_wp2_with fail
    go_ret
    exact ⟨rfl, hb.trans (hb2.mono hb.size)⟩
  · have hsm : wts L ≤ 5000 := by
      unfold bigL at hbig
      simpa using hbig
    rw [show bigL L = false by simpa using hbig] at hT
    have hlw := len_wts L
    have hn1 : n1 ≤ 5000 := by omega
    have HN1 := hide hn1
    have HSm := hide hsm
    have hle := encL_len h1.acts.2.1 hsm
    have HY := hide (encL_byt L)
    have HAc := hide h1.acts
    have HWr := fun (w' : World) (g : Nat) (h : CW w' g []) (hA : Acts w' g A1 n1 L) => write_any h A1 n1 c1 L hA hsm hn1
    have HWn := fun (w' : World) (hA : Acts w' w'.heap.size A1 n1 L) => written_any A1 n1 c1 L hA hsm hn1
    have HWr := hide HWr
    have HWn := hide HWn
    generalize hxs : encL L = xs at *
    generalize hm : xs.length = m at *
    have HM := hide hm
    rename_i HWr0 HWn0
    clear h1 hbig hnm hl hsm hlw hxs hm HWr0 HWn0
    have hm2 : xs.length ≤ 1099511627776 := by have := HM.out; omega
    go_enter Try.func3, Try.ntmps3
    go_wp2_with fail
    refine hT.out.mono ?_
    rintro e w1 ⟨rfl, hb1⟩
    go_wp2_with fail
    refine (NewWriter_any _).mono ?_
    rintro e w2 ⟨g, rfl, hg, hw2, hb2⟩
    have hwg : w.heap.size ≤ g := by rw [hg]; exact hb1.size
    have q2 := hide (hb1.trans (hb2.mono hb1.size))
    have hA2 := hide (show Acts w2 g A1 n1 L from ⟨(HAc.out.below q2.out).1, (HAc.out.below q2.out).2.1, fun h0 => by
      obtain ⟨b, o, k1, k2, k3⟩ := (HAc.out.below q2.out).2.2 h0
      exact ⟨b, o, k1, Nat.lt_of_lt_of_le k2 hwg, k3⟩⟩)
    clear hb1 hb2 hg hT
    go_wp2_with fail
    refine (HWr.out _ _ hw2 hA2.out).mono ?_
    rintro e w3 ⟨⟨v, rfl⟩, hw3, hb3⟩
    have q3 := hide (q2.out.trans (hb3.mono hwg))
    have W3 := hide hw3
    clear hw2 hw3 hb3
    go_wp2_with fail
    refine (wBytes_any W3.out hm2).mono ?_
    rintro e w4 ⟨v, rfl, hob, hw4, hb4⟩
    obtain ⟨A4, n4, c4, rfl, hnc4, hcm4, hrd4, hown4, HN4⟩ := hob.var
    have q4 := hide (q3.out.trans (hb4.mono q3.out.size))
    have b4 := hide hb4
    have W4 := hide hw4
    have O4 := hide hown4
    have hl4 := hb4.size
    clear hob hrd4 hw4 hb4 hown4
    go_wp2_with fail
    refine (HWn.out w4 ⟨(HAc.out.below q4.out).1, (HAc.out.below q4.out).2.1, fun h0 => by
      obtain ⟨b, o, k1, k2, k3⟩ := (HAc.out.below q4.out).2.2 h0
      exact ⟨b, o, k1, Nat.lt_of_lt_of_le k2 q4.out.size, k3⟩⟩).mono ?_
    rintro e w5 ⟨v, rfl, hob, hb5⟩
    obtain ⟨A5, n5, c5, rfl, hnc5, hcm5, hrd5, hown5, HN5⟩ := hob.var
    have q5 := hide (q4.out.trans (hb5.mono q4.out.size))
    have b5 := hide (b4.out.trans (hb5.mono b4.out.size))
    have hg4 : ∀ k, (Value.slice A4 n4 c4).ownBlock = some k → k < w4.heap.size := fun k hk => (O4.out.lt k hk).2
    have G4 := hide hg4
    clear hg4
    have O4' := hide (ownsRow_below O4.out hb5)
    have O5 := hide hown5
    have R5 := hide hrd5
    have hl5 := hb5.size
    clear hob hrd5 hb5 hown5
    go_wp2_with fail
    have HE := hide (Equal_any A4 A5 n4 n5 c4 c5 xs xs w5 _ _ (Rd.of_own O4'.out) R5.out HY.out HY.out)
    rw [eqB_self] at HE
    refine HE.out.mono ?_
    rintro e w6 ⟨rfl, rfl⟩
    clear HE
    go_wp2_with fail
    have hn4 : n4 ≤ 50000 := by have h1 := HN4.out; have h2 := HM.out; omega
    go_loopw [26] (fun i wr => ∃ (k : Nat) (ys : List Int), i = .int .i64 (k : Int) ∧ k ≤ n4 ∧ Hid (ys.length = n4) ∧ Byt ys ∧ wr.ownsRow w3.heap.size 5 1 (.slice A4 n4 c4) n4 (u8s ys) ∧ wr.ownsRow w4.heap.size 5 1 (.slice A5 n5 c5) n5 (u8s xs) ∧ Below w3.heap.size w3 wr) (fun i _ => n4 - (intOf i).toNat)
    case atStart => exact ⟨0, xs, rfl, Nat.zero_le _, HN4.out.symm, HY.out, O4'.out, O5.out, b5.out⟩
    case round =>
      obtain ⟨k, ys, rfl, hk, hyl, hyb, hown, hown5, hb⟩ := hrel
      by_cases hlt : k < n4
      · obtain ⟨g4, c4', hv, hg4, _⟩ := hown.form (by omega)
        injection hv with hv1 hv2 hv3
        subst hv1 hv3
        have hc := hown.cellAt k (by omega)
        have hfr := hown.frozenAt k
        obtain ⟨y, hy⟩ : ∃ y, ys[k]? = some y := ⟨_, List.getElem?_eq_getElem (by rw [hyl.out]; exact hlt)⟩
        rw [List.getElem?_map, hy] at hc
        simp only [Option.map_some] at hc
        obtain ⟨y0, y1⟩ := hyb.at hy
        have hst := hown.stored k (.int .u8 ((y + 1) % 256))
        rw [show (u8s ys).set k (.int .u8 ((y + 1) % 256)) = u8s (ys.set k ((y + 1) % 256)) by unfold u8s; rw [List.map_set]] at hst
        have hst2 := hide hst.1
        have hbl := hide (hb.setCell (p := ⟨g4, k, none⟩) hg4 (.int .u8 ((y + 1) % 256)))
        have hst5 := hide (ownsRow_setCell_below hown5 (a := ⟨g4, k, none⟩) (G4.out g4 rfl) (.int .u8 ((y + 1) % 256)))
        have hyl2 := hide (show (ys.set k ((y + 1) % 256)).length = n4 by rw [List.length_set, hyl.out])
        have hyb2 : Byt (ys.set k ((y + 1) % 256)) := fun x hx => by
          rcases List.mem_or_eq_of_mem_set hx with h | rfl
          · exact hyb x h
          · omega
        clear hy hst hown hown5 hb
        go_wp2_with fail
        go_roundw
        case rel => exact ⟨k + 1, _, by go_num, by omega, hyl2, hyb2, hst2.out, hst5.out, hbl.out⟩
        case measure => simp [intOf]; omega
      · obtain rfl : k = n4 := by omega
        have HB := hide hb
        have H5 := hide hown5
        clear hown hyb hyl hb hown5
        go_wp2_with fail
        refine (alive03_any _).mono ?_
        rintro e w7 ⟨rfl, hb7⟩
        have B7 := hide (HB.out.trans (hb7.mono HB.out.size))
        have H7 := hide (ownsRow_below H5.out hb7)
        have W7 := hide (W3.out.below B7.out (Nat.le_refl _))
        clear hb7
        go_wp2_with fail
        refine (wBytes_any W7.out hm2).mono ?_
        rintro e w8 ⟨v, rfl, hob, _, hb8⟩
        obtain ⟨A8, n8, c8, rfl, hnc8, hcm8, hrd8, _, HN8⟩ := hob.var
        have B8 := hide (B7.out.trans (hb8.mono B7.out.size))
        have H8 := hide (ownsRow_below H7.out hb8)
        have HE := hide (Equal_any A8 A5 n8 n5 c8 c5 xs xs w8 _ _ hrd8 (Rd.of_own H8.out) HY.out HY.out)
        rw [eqB_self] at HE
        clear hob hrd8 hb8
        go_wp2_with fail
        refine HE.out.mono ?_
        rintro e w9 ⟨rfl, rfl⟩
        go_wp2_with fail
        go_ret
        exact ⟨rfl, q3.out.trans (B8.out.mono q3.out.size)⟩

theorem own : ownKnob Try.prog.godebug = none := by kernel_rfl
theorem laidOut : laidOutB Try.prog = true := by kernel_rfl

set_option maxRecDepth 100000 in
/-- what the walk gives, for every argument that can be read -/
theorem contract (H : Type) (enc : TypeId × Value → H) (W : World) (base : Nat) (args : Array Value) (ds gs : List (DataW H)) (before : List MemPlace)
    (hval0 : ∀ (j : Nat) t v, Try.f3.params[j]? = some t → args[j]? = some v → Value.okWide Try.prog W .any base t v)
    (hW : DataW.Whole enc Try.prog Try.f3.params.toList Rows.wireWritesSpec.vars false W args.toList ds gs before) :
    Calls Try.prog 3 args W fun e W' => ∃ v, e = .returned v ∧ Rows.wireWritesSpec.post enc Try.prog Try.f3 false true false false W args v W' := by
  have hval : ∀ (j : Nat) t v, Try.f3.params[j]? = some t → args[j]? = some v → Value.okWide Try.prog W .any base t v := hval0
  have hW' := hW
  obtain ⟨p, q, hA0, hV, rfl, hfz, hnd⟩ := hW
  have hA : DataW.TrodAll enc Try.prog W 0 (fun _ => true) true Try.f3.params.toList args.toList ds p := hA0
  rw [Try.params3] at hA hval
  obtain ⟨v0, vs0, d0, ds0, p0, q0, hargs, rfl, rfl, h0, r0⟩ := trodAll_cons hA
  obtain ⟨rfl, rfl, rfl⟩ := trodAll_nil r0
  obtain rfl : args = #[v0] := by cases args; simp_all
  obtain ⟨rfl, rfl⟩ := trodVars_none hV
  have k0 := h0
  have lt0 : ∀ x ∈ p0, x.block < W.heap.size := by obtain ⟨m, hm⟩ := k0; exact DataW.trod_lt m _ _ _ hm
  obtain ⟨A0, n0, c0, xs0, rfl, g0⟩ := openActs Try.underlying22 Try.underlying39 rfl (by kernel_rfl) (by kernel_rfl) Try.underlying3 Try.underlying37 Try.underlying2 Try.underlying9 (hval 0 22 v0 rfl rfl) h0
  clear hA0 hval0
  simp only [List.append_nil] at hW'
  refine (walk A0 n0 c0 xs0 W g0).mono fun e W' ⟨he, bel⟩ => ?_
  subst he
  exact ⟨_, rfl, _, _, _, [], _, [], hW', trodAll_mk1 (shut_bool Try.underlying4 _), (trodAll_cons_mk (Below.trod laidOut (by kernel_rfl) (of_decide_eq_true (by kernel_rfl)) k0 bel lt0) trodAll_mk0), rfl, bel.frame _, fun h => by cases h⟩

set_option maxRecDepth 100000 in
theorem lifted (os : Os) (started : os.Started) (H : Type) (enc : TypeId × Value → H) :
    ReturnsInHanded {} Try.checked os 3 .any (Rows.wireWritesSpec.pre6 enc Try.prog Try.f3 Rows.wireWritesRow.domain false) (Rows.wireWritesSpec.post enc Try.prog Try.f3 false true false false) := by
  refine returnsInHanded_of_change (C := Try.checked) own started (by kernel_rfl) Try.func3
    (ChangeSpec.witness6 (enc := enc) (C := Try.checked) false ⟨#[], #[.slice none 0 0], []⟩ 8 (by kernel_rfl) (by kernel_rfl) (by kernel_rfl) (by kernel_rfl)) ?_
  intro W base args ds gs before hval hW _ _
  exact contract H enc W base args ds gs before hval hW

/-- the statement -/
theorem proved : Rows.WireWritesSaid :=
  OpenClaim.holds_of_wide 3 Try.f3 rfl rfl rfl rfl rfl rfl rfl ⟨rfl, rfl, rfl, rfl, rfl⟩ rfl rfl rfl rfl rfl (by kernel_rfl) Try.func3 (by kernel_rfl)
    (of_decide_eq_true (by kernel_rfl)) (by unfold Func.isWrapper; first | (rw [if_pos (by decide +kernel)]; kernel_rfl) | (rw [if_neg (by decide +kernel)]; exact ⟨rfl, rfl⟩))
    (fun os started H enc _ => lifted os started H enc)
end Go.Proofs.Ytakjlomgkbloeaa.wireWrites
