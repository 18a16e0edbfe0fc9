/- InternIsolated: for every input the law returns true, and turns nothing that lay. No condition. -/
import Derived.Test.YtbkgooeghmaokaaRows
import Derived.Test.YtbkgooeghmaokaaLaw05
import Derived.Test.YtbkgooeghmaokaaIntQ
namespace Go.Proofs.Ytbkgooeghmaokaa.internIsolated
open Go.ChangeShapes Go.WideShapes Go.ChangeAt Go.ChangeMaps Go.RowKit
set_option linter.unusedVariables false

set_option maxHeartbeats 4000000 in
set_option maxRecDepth 100000 in
theorem walk (A : Option Addr) (n c : Nat) (L : List ByteArray) (w : World) (hA : ArgT w A n c L) :
    Calls Try.prog 7 #[.slice A n c] w fun e w' => e = .returned (.bool true) ∧ Below w.heap.size w w' := by
  have HA := hide hA
  have hnl := sV_len hA.rd
  have HNL := hide hnl
  clear hA hnl
  go_enter Try.func7, Try.ntmps7
  go_wp2_with fail
  refine (Index_nil _ _).mono ?_
  rintro e w1 ⟨rfl, hb1⟩
  have HB1 := hide hb1
  clear hb1
  go_wp2_with fail
  refine (At_nil _).mono ?_
  rintro e w2 ⟨rfl, rfl⟩
  go_wp2_with fail
  refine (Len_nil _).mono ?_
  rintro e w2 ⟨rfl, rfl⟩
  go_wp2_with fail
  refine (Encode_nil _).mono ?_
  rintro e w2 ⟨rfl, rfl⟩
  go_wp2_with fail
  refine (alive05_any _).mono ?_
  rintro e w2 ⟨rfl, hb2⟩
  have HB2 := hide (HB1.out.trans (hb2.mono HB1.out.size))
  have HA2 := hide (show ArgT w2 A n c L from ⟨HA.out.nc, HA.out.cm, (HA.out.rd.below HB2.out).more HB2.out.size, HA.out.sz⟩)
  clear hb2
  cases hbig : bigS L
  case true =>
    have HG := hide hbig
    clear hbig
    go_wp2_with fail
    refine (long_is HG.out w2 HA2.out).mono ?_
    rintro e w3 ⟨rfl, rfl⟩
    go_wp2_with fail
    go_ret
    exact ⟨rfl, HB2.out⟩
  have HG := hide hbig
  have hn8 : n ≤ 8000 := HNL.out ▸ small_all hbig
  clear hbig
  go_wp2_with fail
  refine (long_is HG.out w2 HA2.out).mono ?_
  rintro e w3 ⟨rfl, rfl⟩
  go_wp2_with fail
  refine (CloneS_any A n c L w2 _ HA2.out.rd (by omega)).mono ?_
  rintro e w4 ⟨v4, rfl, ho4, hb4⟩
  obtain ⟨A4, c4, rfl, hnc4, hcm4⟩ := ownsRow_slice ho4
  have HO4 := hide ho4
  have HR4 := hide (Rd.of_own ho4)
  have b24 := hide hb4
  have HB4 := hide (HB2.out.trans (hb4.mono HB2.out.size))
  have G4 := hide (fun k (hk : (Value.slice A4 n c4).ownBlock = some k) => ho4.lt k hk)
  unfold maxLen at hcm4
  clear ho4 hb4
  go_wp2_with fail
  refine (New_from A4 n c4 L w4 HR4.out HA.out.sz (by omega)).mono ?_
  rintro e w5 (⟨hid, g, rfl, hg, ht, hb5⟩ | ⟨hid, rfl, rfl⟩)
  rotate_left
  · go_wp2_with fail
    go_ret
    exact ⟨rfl, HB4.out⟩
  have HI := hide hid
  have HF := hide ht
  have HGg := hide hg
  have HO5 := hide (ownsRow_below HO4.out hb5)
  have b25 := hide (b24.out.trans (hb5.mono b24.out.size))
  have hex : ∃ m, (tab L).length = m := ⟨_, rfl⟩
  obtain ⟨m, hm0⟩ := hex
  have HM := hide hm0
  have hmn : m ≤ n := by have := tab_len L; have := HNL.out; omega
  have HM8 := hide (show (tab L).length ≤ 8000 by omega)
  clear hid ht hb5 hg hm0
  go_wp2_with fail
  go_loopw [64] (fun i wr => ∃ (k : Nat) (M : List ByteArray), i = .int .i64 (k : Int) ∧ k ≤ n ∧ Hid (M.length = n) ∧ wr.ownsRow w2.heap.size 9 1 (.slice A4 n c4) n (sV M) ∧ Below w2.heap.size w2 wr ∧ Hid (w5.heap.size ≤ wr.heap.size ∧ ∀ j, w4.heap.size ≤ j → j ≤ g → wr.heap[j]? = w5.heap[j]?)) (fun i _ => n - (intOf i).toNat)
  case atStart => exact ⟨0, L, rfl, Nat.zero_le _, HNL.out, HO5.out, b25.out, ⟨Nat.le_refl _, fun _ _ _ => rfl⟩⟩
  case round =>
    obtain ⟨k, M, rfl, hk, hml, hown, hb, hkp⟩ := hrel
    by_cases hlt : k < n
    · obtain ⟨g4, c4', hv, hg4, _⟩ := hown.form (by omega)
      injection hv with hv1 hv2 hv3
      subst hv1 hv3
      have hc := hown.cellAt k (by omega)
      have hfr := hown.frozenAt k
      obtain ⟨y, hy⟩ : ∃ y, M[k]? = some y := ⟨_, List.getElem?_eq_getElem (by rw [hml.out]; exact hlt)⟩
      rw [List.getElem?_map, hy] at hc
      simp only [Option.map_some] at hc
      have hlt' : (k : Int) < (n : Int) := by omega
      have hst := hown.stored k (.string { data := #[122, 122] })
      rw [show (sV M).set k (.string { data := #[122, 122] }) = sV (M.set k { data := #[122, 122] }) by unfold sV; rw [List.map_set]] at hst
      have hst2 := hide hst.1
      have hbl := hide (hb.setCell (p := ⟨g4, k, none⟩) hg4 (.string { data := #[122, 122] }))
      have hml2 := hide (show (M.set k ({ data := #[122, 122] } : ByteArray)).length = n by rw [List.length_set, hml.out])
      have hg4' := (G4.out g4 rfl).2
      have hkp2 := hide (show w5.heap.size ≤ (wr.setCell ⟨g4, k, none⟩ (.string { data := #[122, 122] })).heap.size ∧ ∀ j, w4.heap.size ≤ j → j ≤ g → (wr.setCell ⟨g4, k, none⟩ (.string { data := #[122, 122] })).heap[j]? = w5.heap[j]? from
        ⟨by simpa [World.setCell] using hkp.out.1, fun j h1 h2 => (Below.heap_setCell wr ⟨g4, k, none⟩ _ j (by show j ≠ g4; omega)).trans (hkp.out.2 j h1 h2)⟩)
      clear hy hst hown hb hkp
      go_wp2_with fail
      go_roundw
      case rel => exact ⟨k + 1, _, by go_num, by omega, hml2.out, hst2.out, hbl.out, hkp2.out⟩
      case measure => simp [intOf]; omega
    · obtain rfl : k = n := by omega
      have HT := hide (HF.out.keep HGg.out hkp.out.1 hkp.out.2)
      have BB := hide (HB2.out.trans (hb.mono HB2.out.size))
      clear hown hb hkp hml
      generalize wr = w55 at *
      go_wp2_with fail
      refine (Encode_var HT.out HI.out.tab HM8.out).mono ?_
      rintro e w6 ⟨A6, n6, c6, rfl, hnc6, hcm6, ho6, hb6⟩
      have HO6 := hide ho6
      have B6 := hide hb6
      have hxl := hide (show (encT (tab L)).length = n6 by simpa using ho6.1)
      have hgS := HT.out.lt
      have hex : ∃ Sz, w55.heap.size = Sz := ⟨_, rfl⟩
      obtain ⟨Sz, hSz⟩ := hex
      rw [hSz] at HO6 B6 hgS
      have HSz := hide hSz
      unfold maxLen at hcm6
      clear ho6 hb6 hSz
      go_wp2_with fail
      go_loopw [75] (fun i wr => ∃ (q : Nat) (ys : List Int), i = .int .i64 (q : Int) ∧ q ≤ n6 ∧ Hid (ys.length = n6) ∧ wr.ownsRow Sz 5 1 (.slice A6 n6 c6) n6 (u8s ys) ∧ Below Sz w55 wr) (fun i _ => n6 - (intOf i).toNat)
      case atStart => exact ⟨0, encT (tab L), rfl, Nat.zero_le _, hxl.out, HO6.out, B6.out⟩
      case round =>
        obtain ⟨q, ys, rfl, hq, hyl, hown, hb⟩ := hrel
        by_cases hlt3 : q < n6
        · obtain ⟨g5, c5', hv, hg5, _⟩ := hown.form (by omega)
          injection hv with hv1 hv2 hv3
          subst hv1 hv3
          have hlt' : (q : Int) < (n6 : Int) := by omega
          have hc := hown.cellAt q (by omega)
          have hfr := hown.frozenAt q
          obtain ⟨y, hy⟩ : ∃ y, ys[q]? = some y := ⟨_, List.getElem?_eq_getElem (by rw [hyl.out]; exact hlt3)⟩
          rw [List.getElem?_map, hy] at hc
          simp only [Option.map_some] at hc
          have hst := hown.stored q (.int .u8 0)
          rw [show (u8s ys).set q (.int .u8 0) = u8s (ys.set q 0) by unfold u8s; rw [List.map_set]] at hst
          have hst2 := hide hst.1
          have hbl := hide (hb.setCell (p := ⟨g5, q, none⟩) hg5 (.int .u8 0))
          have hyl2 := hide (show (ys.set q 0).length = n6 by rw [List.length_set, hyl.out])
          clear hy hst hown hb
          go_wp2_with fail
          go_roundw
          case rel => exact ⟨q + 1, _, by go_num, by omega, hyl2.out, hst2.out, hbl.out⟩
          case measure => simp [intOf]; omega
        · obtain rfl : q = n6 := by omega
          have hb' : Below w55.heap.size w55 wr := by rw [HSz.out]; exact hb
          have HT7 := hide (HT.out.now hb')
          have HB7 := hide (BB.out.trans (hb'.mono BB.out.size))
          clear hown hb hb' hyl
          generalize wr = w7 at *
          go_wp2_with fail
          refine (RefNew_any A k c L w7 ((HA.out.rd.below HB7.out).more HB7.out.size) HA.out.sz (by omega)).mono ?_
          rintro e w8 (⟨_, A8, m8, c8, rfl, hmc8, hcm8, hr8, hb8⟩ | ⟨hno, _⟩)
          rotate_left
          · exact absurd HI.out hno
          have hm8 := sV_len hr8
          obtain rfl : m8 = m := by have := HM.out; omega
          have HR8 := hide hr8
          have HT8 := hide (HT7.out.now hb8)
          have HB8 := hide (HB7.out.trans (hb8.mono HB7.out.size))
          clear hr8 hb8 hm8
          go_wp2_with fail
          refine (list_var HT8.out HM.out (by omega)).mono ?_
          rintro e w9 ⟨A9, c9, rfl, _, _, hr9, hb9⟩
          have HR9 := hide hr9
          have HT9 := hide (HT8.out.now hb9)
          have HR89 := hide ((HR8.out.below hb9).more hb9.size)
          have HB9 := hide (HB8.out.trans (hb9.mono HB8.out.size))
          clear hr9 hb9
          go_wp2_with fail
          refine (EqS_same A9 A8 m8 c9 m8 c8 _ _ w9 _ _ HR9.out HR89.out (by unfold maxLen; omega) (by unfold maxLen; omega) rfl).mono ?_
          rintro e w10 ⟨rfl, hb10⟩
          have HT10 := hide (HT9.out.now hb10)
          have HR10 := hide ((HR89.out.below hb10).more hb10.size)
          have HB10 := hide (HB9.out.trans (hb10.mono HB9.out.size))
          clear hb10
          go_wp2_with fail
          refine (Encode_var HT10.out HI.out.tab HM8.out).mono ?_
          rintro e w11 ⟨A11, n11, c11, rfl, _, _, ho11, hb11⟩
          have HR11 := hide (Rd.of_own ho11)
          have HRL := hide ((HR10.out.below hb11).more hb11.size)
          have HB11 := hide (HB10.out.trans (hb11.mono HB10.out.size))
          clear ho11 hb11
          go_wp2_with fail
          refine (RefEncode_any A8 m8 c8 (tab L) w11 HRL.out (fun s hs => (identB_size (HI.out.tab s hs)).2) (by omega)).mono ?_
          rintro e w12 ⟨v12, rfl, ho12, hb12⟩
          obtain ⟨A12, n12, c12, rfl, _, _, hr12, _, _⟩ := ho12.var
          have HR12 := hide hr12
          have HR112 := hide (HR11.out.below hb12)
          have HB12 := hide (HB11.out.trans (hb12.mono HB11.out.size))
          have HE := hide (Equal_any A11 A12 n11 n12 c11 c12 _ _ w12 _ _ HR112.out HR12.out (encT_byt _) (encT_byt _))
          rw [eqB_self] at HE
          clear ho12 hr12 hb12
          go_wp2_with fail
          refine HE.out.mono ?_
          rintro e w13 ⟨rfl, rfl⟩
          go_wp2_with fail
          go_ret
          exact ⟨rfl, HB12.out⟩

theorem own : ownKnob Try.prog.godebug = none := by kernel_rfl
theorem laidOut : laidOutB Try.prog = true := by kernel_rfl

set_option maxRecDepth 100000 in
/-- what the walk gives, for every argument that can be read -/
theorem contract (H : Type) (enc : TypeId × Value → H) (W : World) (base : Nat) (args : Array Value) (ds gs : List (DataW H)) (before : List MemPlace)
    (hval0 : ∀ (j : Nat) t v, Try.f7.params[j]? = some t → args[j]? = some v → Value.okWide Try.prog W .any base t v)
    (hW : DataW.Whole enc Try.prog Try.f7.params.toList Rows.internIsolatedSpec.vars false W args.toList ds gs before) :
    Calls Try.prog 7 args W fun e W' => ∃ v, e = .returned v ∧ Rows.internIsolatedSpec.post enc Try.prog Try.f7 false true false false W args v W' := by
  have hval : ∀ (j : Nat) t v, Try.f7.params[j]? = some t → args[j]? = some v → Value.okWide Try.prog W .any base t v := hval0
  have hW' := hW
  obtain ⟨p, q, hA0, hV, rfl, hfz, hnd⟩ := hW
  have hA : DataW.TrodAll enc Try.prog W 0 (fun _ => true) true Try.f7.params.toList args.toList ds p := hA0
  rw [Try.params7] at hA hval
  obtain ⟨v0, vs0, d0, ds0, p0, q0, hargs, rfl, rfl, h0, r0⟩ := trodAll_cons hA
  obtain ⟨rfl, rfl, rfl⟩ := trodAll_nil r0
  obtain rfl : args = #[v0] := by cases args; simp_all
  obtain ⟨rfl, rfl⟩ := trodVars_none hV
  have k0 := h0
  have lt0 : ∀ x ∈ p0, x.block < W.heap.size := by obtain ⟨m, hm⟩ := k0; exact DataW.trod_lt m _ _ _ hm
  obtain ⟨A0, n0, c0, xs0, rfl, g0⟩ := openStrs Try.underlying24 Try.underlying9 (by kernel_rfl) (hval 0 24 v0 rfl rfl) h0
  clear hA0 hval0
  simp only [List.append_nil] at hW'
  refine (walk A0 n0 c0 xs0 W g0).mono fun e W' ⟨he, bel⟩ => ?_
  subst he
  exact ⟨_, rfl, _, _, _, [], _, [], hW', trodAll_mk1 (shut_bool Try.underlying4 _), (trodAll_cons_mk (Below.trod laidOut (by kernel_rfl) (of_decide_eq_true (by kernel_rfl)) k0 bel lt0) trodAll_mk0), rfl, bel.frame _, fun h => by cases h⟩

set_option maxRecDepth 100000 in
theorem lifted (os : Os) (started : os.Started) (H : Type) (enc : TypeId × Value → H) :
    ReturnsInHanded {} Try.checked os 7 .any (Rows.internIsolatedSpec.pre6 enc Try.prog Try.f7 Rows.internIsolatedRow.domain false) (Rows.internIsolatedSpec.post enc Try.prog Try.f7 false true false false) := by
  refine returnsInHanded_of_change (C := Try.checked) own started (by kernel_rfl) Try.func7
    (ChangeSpec.witness6 (enc := enc) (C := Try.checked) false ⟨#[], #[.slice none 0 0], []⟩ 8 (by kernel_rfl) (by kernel_rfl) (by kernel_rfl) (by kernel_rfl)) ?_
  intro W base args ds gs before hval hW _ _
  exact contract H enc W base args ds gs before hval hW

/-- the statement -/
theorem proved : Rows.InternIsolatedSaid :=
  OpenClaim.holds_of_wide 7 Try.f7 rfl rfl rfl rfl rfl rfl rfl ⟨rfl, rfl, rfl, rfl, rfl⟩ rfl rfl rfl rfl rfl (by kernel_rfl) Try.func7 (by kernel_rfl)
    (of_decide_eq_true (by kernel_rfl)) (by unfold Func.isWrapper; first | (rw [if_pos (by decide +kernel)]; kernel_rfl) | (rw [if_neg (by decide +kernel)]; exact ⟨rfl, rfl⟩))
    (fun os started H enc _ => lifted os started H enc)
end Go.Proofs.Ytbkgooeghmaokaa.internIsolated
