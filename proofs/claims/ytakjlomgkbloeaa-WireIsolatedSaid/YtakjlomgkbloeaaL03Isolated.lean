/- WireIsolated: for every input the law returns true, and turns nothing that lay. No condition. -/
import Derived.Test.YtakjlomgkbloeaaRows
import Derived.Test.YtakjlomgkbloeaaAlive03
import Derived.Test.YtakjlomgkbloeaaOpen
namespace Go.Proofs.Ytakjlomgkbloeaa.wireIsolated
open Go.ChangeShapes Go.WideShapes Go.ChangeAt Go.RowKit
set_option linter.unusedVariables false

theorem no1 : (1 : Int) ≠ 0 := by decide
/-- Take of all that is left -/
theorem take_all (xs : List Int) (n : Nat) (h : xs.length = n) : aTake xs 0 (n : Int) = (xs, [], 0) := by
  rw [aTake_ok (by omega) (by omega), Int.toNat_natCast, ← h, List.take_length, List.drop_length]

set_option maxHeartbeats 4000000 in
set_option maxRecDepth 100000 in
theorem walk (A1 : Option Addr) (n1 c1 : Nat) (xs : List Int) (w : World) (h1 : Arg w A1 n1 c1 xs) :
    Calls Try.prog 8 #[.slice A1 n1 c1] w fun e w' => e = .returned (.bool true) ∧ Below w.heap.size w w' := by
  obtain ⟨i0, hi, hz0, hz1, hz2⟩ := info_parts infoU8
  have H1 := hide h1
  have hcm := h1.cm
  unfold maxLen at hcm
  have hx := hide (show xs.length = n1 by simpa using h1.rd.1)
  clear h1
  go_enter Try.func8, Try.ntmps8
  go_wp2_with fail
  refine (wByte_nil _ _).mono ?_
  rintro e w1 ⟨⟨v, rfl⟩, rfl⟩
  go_wp2_with fail
  refine (wUint_nil _ _).mono ?_
  rintro e w1 ⟨⟨v, rfl⟩, rfl⟩
  go_wp2_with fail
  refine (wInt_nil _ _ (by omega) (by omega)).mono ?_
  rintro e w1 ⟨⟨v, rfl⟩, rfl⟩
  go_wp2_with fail
  refine (wStr_nil _ _).mono ?_
  rintro e w1 ⟨⟨v, rfl⟩, rfl⟩
  go_wp2_with fail
  refine (Fail_nil _ _).mono ?_
  rintro e w1 ⟨⟨v, rfl⟩, rfl⟩
  go_wp2_with fail
  refine (Err_of _ _ _ (ErrOf.none_ _)).mono ?_
  rintro e w1 ⟨rfl, rfl⟩
  go_wp2_with fail
  refine (End_skip (ErrOf.none_ _) no1).mono ?_
  rintro e w1 ⟨rfl, rfl⟩
  go_wp2_with fail
  refine (Left_skip (ErrOf.none_ _) no1).mono ?_
  rintro e w1 ⟨rfl, rfl⟩
  go_wp2_with fail
  refine (Byte_skip (ErrOf.none_ _) no1).mono ?_
  rintro e w1 ⟨rfl, b1⟩
  have B1 := hide b1
  clear b1
  go_wp2_with fail
  refine (Uint_skip (ErrOf.none_ _) no1 _).mono ?_
  rintro e w2 ⟨rfl, b2⟩
  have B2 := hide (B1.out.trans (b2.mono B1.out.size))
  clear b2
  go_wp2_with fail
  refine (Int_skip (ErrOf.none_ _) no1).mono ?_
  rintro e w3 ⟨rfl, b3⟩
  have B3 := hide (B2.out.trans (b3.mono B2.out.size))
  clear b3
  go_wp2_with fail
  refine (Take_skip (ErrOf.none_ _) no1 _).mono ?_
  rintro e w4 ⟨rfl, b4⟩
  have B4 := hide (B3.out.trans (b4.mono B3.out.size))
  clear b4
  go_wp2_with fail
  refine (String_skip (ErrOf.none_ _) no1 _).mono ?_
  rintro e w5 ⟨rfl, b5⟩
  have B5 := hide (B4.out.trans (b5.mono B4.out.size))
  clear b5
  go_wp2_with fail
  refine (Count_skip (ErrOf.none_ _) no1 _).mono ?_
  rintro e w6 ⟨rfl, b6⟩
  have B6 := hide (B5.out.trans (b6.mono B5.out.size))
  clear b6
  go_wp2_with fail
  refine (wBytes_nil _).mono ?_
  rintro e w7 ⟨rfl, rfl⟩
  go_wp2_with fail
  refine (alive03_any _).mono ?_
  rintro e w7 ⟨rfl, b7⟩
  have B7 := hide (B6.out.trans (b7.mono B6.out.size))
  clear b7 B1 B2 B3 B4 B5 B6
  by_cases hn : 5000 < n1
  · have hi : (5000 : Int) < (n1 : Int) := by omega
    go_wp2_with fail
    go_ret
    exact ⟨rfl, B7.out⟩
  · have hi' : ¬ ((5000 : Int) < (n1 : Int)) := by omega
    have hR7 := hide ((H1.out.rd.below B7.out).alloc B7.out.size (.cells #[] 5))
    go_wp2_with (at_builtin; refine wpList_append_rd _ rfl _ _ 28 rfl w7.heap.size 5 i0 (.int .u8 0) 1 Try.underlying28 hi hz0 hz1 hz2 rfl _ 0 [] rfl (ownLit0 w7) w.heap.size A1 n1 c1 (u8s xs) rfl hR7.out (ints_oneCell _ _) (by unfold maxLen; omega) (by omega) (by simp) ?_; intro v8 w8 hown8 hg8 hat8)
    rw [Nat.zero_add, List.nil_append] at hown8
    have b8 := below_app ((Below.refl w7.heap.size w7).alloc (Nat.le_refl _) _) (ownLit0 w7) (by simp) hg8
    obtain ⟨A8, c8, rfl, hnc8, hcm8⟩ := ownsRow_slice hown8
    have B8 := hide (B7.out.trans (b8.mono B7.out.size))
    have b78 := hide b8
    have O8 := hide hown8
    have G8 := hide (fun k (hk : (Value.slice A8 n1 c8).ownBlock = some k) => hown8.lt k hk)
    have R8 := hide (Rd.of_own hown8)
    clear hown8 hg8 hat8 b8
    refine (NewReader_new A8 n1 c8 xs _ R8.out (Nat.le_refl _) H1.out.byt (by omega)).mono ?_
    rintro e w9 ⟨g, rfl, hg, hg9, hkeep, hb9⟩
    have HK := hide hkeep
    have O9 := hide (ownsRow_below O8.out hb9)
    have b79 := hide (b78.out.trans (hb9.mono b78.out.size))
    clear hb9 hkeep
    go_wp2_with fail
    go_loopw [85] (fun i wr => ∃ (k : Nat) (ys : List Int), i = .int .i64 (k : Int) ∧ k ≤ n1 ∧ Hid (ys.length = n1) ∧ Byt ys ∧ wr.ownsRow w7.heap.size 5 1 (.slice A8 n1 c8) n1 (u8s ys) ∧ Below w7.heap.size w7 wr ∧ Hid (w9.heap.size ≤ wr.heap.size ∧ ∀ j, w8.heap.size ≤ j → j ≤ g → wr.heap[j]? = w9.heap[j]?)) (fun i _ => n1 - (intOf i).toNat)
    case atStart => exact ⟨0, xs, rfl, Nat.zero_le _, hx, H1.out.byt, O9.out, b79.out, ⟨Nat.le_refl _, fun _ _ _ => rfl⟩⟩
    case round =>
      obtain ⟨k, ys, rfl, hk, hyl, hyb, hown, hb, hkp⟩ := hrel
      by_cases hlt : k < n1
      · obtain ⟨g4, c4', hv, hg4, _⟩ := hown.form (by omega)
        injection hv with hv1 hv2 hv3
        subst hv1 hv3
        have hc := hown.cellAt k (by omega)
        have hfr := hown.frozenAt k
        obtain ⟨y, hy⟩ : ∃ y, ys[k]? = some y := ⟨_, List.getElem?_eq_getElem (by rw [hyl.out]; exact hlt)⟩
        rw [List.getElem?_map, hy] at hc
        simp only [Option.map_some] at hc
        obtain ⟨y0, y1⟩ := hyb.at hy
        have hst := hown.stored k (.int .u8 ((y + 1) % 256))
        rw [show (u8s ys).set k (.int .u8 ((y + 1) % 256)) = u8s (ys.set k ((y + 1) % 256)) by unfold u8s; rw [List.map_set]] at hst
        have hst2 := hide hst.1
        have hbl := hide (hb.setCell (p := ⟨g4, k, none⟩) hg4 (.int .u8 ((y + 1) % 256)))
        have hyl2 := hide (show (ys.set k ((y + 1) % 256)).length = n1 by rw [List.length_set, hyl.out])
        have hg4' := (G8.out g4 rfl).2
        have hkp2 := hide (show w9.heap.size ≤ (wr.setCell ⟨g4, k, none⟩ (.int .u8 ((y + 1) % 256))).heap.size ∧ ∀ j, w8.heap.size ≤ j → j ≤ g → (wr.setCell ⟨g4, k, none⟩ (.int .u8 ((y + 1) % 256))).heap[j]? = w9.heap[j]? from
          ⟨by simpa [World.setCell] using hkp.out.1, fun j h1 h2 => (Below.heap_setCell wr ⟨g4, k, none⟩ _ j (by show j ≠ g4; omega)).trans (hkp.out.2 j h1 h2)⟩)
        have hyb2 : Byt (ys.set k ((y + 1) % 256)) := fun x hx => by
          rcases List.mem_or_eq_of_mem_set hx with h | rfl
          · exact hyb x h
          · omega
        clear hy hst hown hb hkp
        go_wp2_with fail
        go_roundw
        case rel => exact ⟨k + 1, _, by go_num, by omega, hyl2, hyb2, hst2.out, hbl.out, hkp2.out⟩
        case measure => simp [intOf]; omega
      · obtain rfl : k = n1 := by omega
        have C := hide (HK.out wr hkp.out.1 hkp.out.2)
        have hgs := C.out.lt
        have BB := hide (B7.out.trans (hb.mono B7.out.size))
        have hwg : w.heap.size ≤ g := Nat.le_trans B8.out.size hg
        have HTk := Take_any C.out (k : Int) (by omega)
        rw [take_all xs k hx.out] at HTk
        have HT := hide HTk
        clear hown hyb hyl hkp hb HTk
        go_wp2_with fail
        refine HT.out.mono ?_
        rintro e w10 ⟨v, rfl, hob, hr10, g10⟩
        have B10 := hide (below_only BB.out BB.out.size hwg g10)
        obtain ⟨A10, n10, c10, rfl, hnc10, hcm10, hrd10, hown10, HN10⟩ := (show OwnB wr w10 v xs from hob).var
        rw [hx.out] at HN10
        obtain rfl : n10 = k := HN10.out
        have C10 := hide hr10
        have O10 := hide hown10
        have HE := hide (Equal_any A10 A1 n10 n10 c10 c1 xs xs w10 _ _ hrd10 (H1.out.rd.below B10.out) H1.out.byt H1.out.byt)
        rw [eqB_self] at HE
        clear hob hrd10 hown10 hr10 g10
        go_wp2_with fail
        refine HE.out.mono ?_
        rintro e w11 ⟨rfl, rfl⟩
        generalize hSz : wr.heap.size = Sz at *
        clear hSz
        go_wp2_with fail
        go_loopw [104] (fun i wq => ∃ (m : Nat) (ys : List Int), i = .int .i64 (m : Int) ∧ m ≤ n10 ∧ Hid (ys.length = n10) ∧ Byt ys ∧ wq.ownsRow Sz 5 1 (.slice A10 n10 c10) n10 (u8s ys) ∧ CR wq g [] 0 ∧ Below w.heap.size w wq) (fun i _ => n10 - (intOf i).toNat)
        case atStart => exact ⟨0, xs, rfl, Nat.zero_le _, hx, H1.out.byt, O10.out, C10.out, B10.out⟩
        case round =>
          obtain ⟨m, ys, rfl, hm, hyl, hyb, hown, hcr, hb⟩ := hrel
          by_cases hlt3 : m < n10
          · obtain ⟨g5, c5', hv, hg5, _⟩ := hown.form (by omega)
            injection hv with hv1 hv2 hv3
            subst hv1 hv3
            have hc := hown.cellAt m (by omega)
            have hfr := hown.frozenAt m
            obtain ⟨y, hy⟩ : ∃ y, ys[m]? = some y := ⟨_, List.getElem?_eq_getElem (by rw [hyl.out]; exact hlt3)⟩
            rw [List.getElem?_map, hy] at hc
            simp only [Option.map_some] at hc
            obtain ⟨y0, y1⟩ := hyb.at hy
            have hst := hown.stored m (.int .u8 ((y + 1) % 256))
            rw [show (u8s ys).set m (.int .u8 ((y + 1) % 256)) = u8s (ys.set m ((y + 1) % 256)) by unfold u8s; rw [List.map_set]] at hst
            have hst2 := hide hst.1
            have hbl := hide (hb.setCell (p := ⟨g5, m, none⟩) (show w.heap.size ≤ g5 by omega) (.int .u8 ((y + 1) % 256)))
            have hcr2 := hide (hcr.below ((Below.refl (g + 1) wr).setCell (p := ⟨g5, m, none⟩) (show g + 1 ≤ g5 by omega) (.int .u8 ((y + 1) % 256))) (Nat.lt_succ_self g))
            have hyl2 := hide (show (ys.set m ((y + 1) % 256)).length = n10 by rw [List.length_set, hyl.out])
            have hyb2 : Byt (ys.set m ((y + 1) % 256)) := fun x hx => by
              rcases List.mem_or_eq_of_mem_set hx with h | rfl
              · exact hyb x h
              · omega
            clear hy hst hown hb hcr
            go_wp2_with fail
            go_roundw
            case rel => exact ⟨m + 1, _, by go_num, by omega, hyl2, hyb2, hst2.out, hcr2.out, hbl.out⟩
            case measure => simp [intOf]; omega
          · obtain rfl : m = n10 := by omega
            have HEd := End_any hcr
            rw [show aEnd [] 0 = 0 from rfl] at HEd
            have HEd := hide HEd
            rename_i HEd0
            have BQ := hide hb
            clear hown hyb hyl hcr hb HEd0
            go_wp2_with fail
            refine HEd.out.mono ?_
            rintro e w12 ⟨rfl, k12, rfl⟩
            go_wp2_with fail
            go_ret
            exact ⟨rfl, below_drewN BQ.out k12⟩

theorem own : ownKnob Try.prog.godebug = none := by kernel_rfl
theorem laidOut : laidOutB Try.prog = true := by kernel_rfl

set_option maxRecDepth 100000 in
/-- what the walk gives, for every argument that can be read -/
theorem contract (H : Type) (enc : TypeId × Value → H) (W : World) (base : Nat) (args : Array Value) (ds gs : List (DataW H)) (before : List MemPlace)
    (hval0 : ∀ (j : Nat) t v, Try.f8.params[j]? = some t → args[j]? = some v → Value.okWide Try.prog W .any base t v)
    (hW : DataW.Whole enc Try.prog Try.f8.params.toList Rows.wireIsolatedSpec.vars false W args.toList ds gs before) :
    Calls Try.prog 8 args W fun e W' => ∃ v, e = .returned v ∧ Rows.wireIsolatedSpec.post enc Try.prog Try.f8 false true false false W args v W' := by
  have hval : ∀ (j : Nat) t v, Try.f8.params[j]? = some t → args[j]? = some v → Value.okWide Try.prog W .any base t v := hval0
  have hW' := hW
  obtain ⟨p, q, hA0, hV, rfl, hfz, hnd⟩ := hW
  have hA : DataW.TrodAll enc Try.prog W 0 (fun _ => true) true Try.f8.params.toList args.toList ds p := hA0
  rw [Try.params8] at hA hval
  obtain ⟨v0, vs0, d0, ds0, p0, q0, hargs, rfl, rfl, h0, r0⟩ := trodAll_cons hA
  obtain ⟨rfl, rfl, rfl⟩ := trodAll_nil r0
  obtain rfl : args = #[v0] := by cases args; simp_all
  obtain ⟨rfl, rfl⟩ := trodVars_none hV
  have k0 := h0
  have lt0 : ∀ x ∈ p0, x.block < W.heap.size := by obtain ⟨m, hm⟩ := k0; exact DataW.trod_lt m _ _ _ hm
  obtain ⟨A0, n0, c0, xs0, rfl, g0, _⟩ := openBytes Try.underlying28 Try.underlying5 (by kernel_rfl) (hval 0 28 v0 rfl rfl) h0
  clear hA0 hval0
  simp only [List.append_nil] at hW'
  refine (walk A0 n0 c0 xs0 W g0).mono fun e W' ⟨he, bel⟩ => ?_
  subst he
  exact ⟨_, rfl, _, _, _, [], _, [], hW', trodAll_mk1 (shut_bool Try.underlying4 _), (trodAll_cons_mk (Below.trod laidOut (by kernel_rfl) (of_decide_eq_true (by kernel_rfl)) k0 bel lt0) trodAll_mk0), rfl, bel.frame _, fun h => by cases h⟩

set_option maxRecDepth 100000 in
theorem lifted (os : Os) (started : os.Started) (H : Type) (enc : TypeId × Value → H) :
    ReturnsInHanded {} Try.checked os 8 .any (Rows.wireIsolatedSpec.pre6 enc Try.prog Try.f8 Rows.wireIsolatedRow.domain false) (Rows.wireIsolatedSpec.post enc Try.prog Try.f8 false true false false) := by
  refine returnsInHanded_of_change (C := Try.checked) own started (by kernel_rfl) Try.func8
    (ChangeSpec.witness6 (enc := enc) (C := Try.checked) false ⟨#[], #[.slice none 0 0], []⟩ 8 (by kernel_rfl) (by kernel_rfl) (by kernel_rfl) (by kernel_rfl)) ?_
  intro W base args ds gs before hval hW _ _
  exact contract H enc W base args ds gs before hval hW

/-- the statement -/
theorem proved : Rows.WireIsolatedSaid :=
  OpenClaim.holds_of_wide 8 Try.f8 rfl rfl rfl rfl rfl rfl rfl ⟨rfl, rfl, rfl, rfl, rfl⟩ rfl rfl rfl rfl rfl (by kernel_rfl) Try.func8 (by kernel_rfl)
    (of_decide_eq_true (by kernel_rfl)) (by unfold Func.isWrapper; first | (rw [if_pos (by decide +kernel)]; kernel_rfl) | (rw [if_neg (by decide +kernel)]; exact ⟨rfl, rfl⟩))
    (fun os started H enc _ => lifted os started H enc)
end Go.Proofs.Ytakjlomgkbloeaa.wireIsolated
