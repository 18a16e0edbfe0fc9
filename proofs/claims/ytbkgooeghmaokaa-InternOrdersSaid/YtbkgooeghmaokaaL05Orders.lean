/- InternOrders: for every input the law returns true, and turns nothing that lay. No condition. -/
import Derived.Test.YtbkgooeghmaokaaRows
import Derived.Test.YtbkgooeghmaokaaLaw05
namespace Go.Proofs.Ytbkgooeghmaokaa.internOrders
open Go.ChangeShapes Go.WideShapes Go.ChangeAt Go.ChangeMaps Go.RowKit
set_option linter.unusedVariables false

/-- Index, where the string stands in the table -/
theorem Index_hit {w : World} {g : Nat} {T : List ByteArray} (h : Tab w g T) (hL : Asc T) {s : ByteArray} {k : Nat} (hk : T[k]? = some s) :
    Calls Try.prog 14 #[.pointer (some ⟨g, 0, none⟩), .string s] w fun e w' => e = .returned (.tuple #[.int .i64 (k : Int), .bool true]) ∧ Below w.heap.size w w' := by
  refine (Index_any h hL s).mono ?_
  rintro e w' ⟨i, ok, rfl, hat, hb⟩
  rcases hat with ⟨j, h1, rfl, rfl⟩ | ⟨h1, _⟩
  · rw [asc_inj hL h1 hk]
    exact ⟨rfl, hb⟩
  · exact absurd (List.mem_of_getElem? hk) h1

set_option maxHeartbeats 4000000 in
set_option maxRecDepth 100000 in
theorem walk (A : Option Addr) (n c : Nat) (L : List ByteArray) (w : World) (hA : ArgT w A n c L) :
    Calls Try.prog 6 #[.slice A n c] w fun e w' => e = .returned (.bool true) ∧ Below w.heap.size w w' := by
  have HA := hide hA
  have hnl := sV_len hA.rd
  have HNL := hide hnl
  cases hbig : bigS L
  case true =>
    have HG := hide hbig
    clear hbig hA
    go_enter Try.func6, Try.ntmps6
    go_wp2_with fail
    refine (long_is HG.out w HA.out).mono ?_
    rintro e w1 ⟨rfl, rfl⟩
    go_wp2_with fail
    refine (alive05_any _).mono ?_
    rintro e w1 ⟨rfl, hb⟩
    have HB := hide hb
    clear hb
    go_wp2_with fail
    go_ret
    exact ⟨rfl, HB.out⟩
  have HG := hide hbig
  have hn8 : n ≤ 8000 := hnl ▸ small_all hbig
  clear hbig hA
  go_enter Try.func6, Try.ntmps6
  go_wp2_with fail
  refine (long_is HG.out w HA.out).mono ?_
  rintro e w1 ⟨rfl, rfl⟩
  go_wp2_with fail
  refine (New_any A n c L w HA.out.rd HA.out.sz (by omega)).mono ?_
  rintro e w1 (⟨hid, g, rfl, hgw, ht, hb1⟩ | ⟨hid, rfl, rfl⟩)
  · have HT1 := hide ht
    have HB1 := hide hb1
    have hex : ∃ m, (tab L).length = m := ⟨_, rfl⟩
    obtain ⟨m, hm0⟩ := hex
    have HM := hide hm0
    have hmn : m ≤ n := by have := tab_len L; omega
    have HAsc := hide (tab_asc L)
    clear hid ht hb1 hgw hm0
    go_wp2_with fail
    refine (list_var HT1.out HM.out (by omega)).mono ?_
    rintro e w2 ⟨A2, c2, rfl, hmc, hcm, hr2, hb2⟩
    have HR2 := hide hr2
    have HT2 := hide (HT1.out.now hb2)
    have HB2 := hide (HB1.out.trans (hb2.mono HB1.out.size))
    unfold maxLen at hcm
    clear hr2 hb2
    go_wp2_with fail
    go_loopw [37] (fun i wr => ∃ k : Nat, i = .int .i64 (k : Int) ∧ k ≤ m ∧ Tab wr g (tab L) ∧ Below w2.heap.size w2 wr) (fun i _ => m - (intOf i).toNat)
    case atStart => exact ⟨0, rfl, Nat.zero_le _, HT2.out, Below.refl _ _⟩
    case round =>
      obtain ⟨k, rfl, hk, ht, hb⟩ := hrel
      have HT := hide ht
      have HB := hide hb
      clear ht hb
      by_cases hlt : k < m
      · have hex : ∃ s, (tab L)[k]? = some s := ⟨_, List.getElem?_eq_getElem (by rw [HM.out]; exact hlt)⟩
        obtain ⟨s, hs⟩ := hex
        have hlt' : (k : Int) < (m : Int) := by omega
        obtain ⟨b, o, hA2, hbB, c0⟩ := (HR2.out.below HB.out).str hs
        have HS := hide hs
        subst hA2
        rcases Nat.eq_zero_or_pos k with hk0 | hk0
        · have hk1 : ¬ (0 : Int) < (k : Int) := by omega
          clear hs hk0
          go_wp2_with fail
          refine (Index_hit HT.out HAsc.out HS.out).mono ?_
          rintro e w3 ⟨rfl, hb3⟩
          have HT3 := hide (HT.out.now hb3)
          have HB3 := hide (HB.out.trans (hb3.mono HB.out.size))
          clear hb3
          go_wp2_with fail
          go_roundw
          case rel => exact ⟨k + 1, by go_num, by omega, HT3.out, HB3.out⟩
          case measure => simp [intOf]; omega
        · obtain ⟨k', hk'⟩ : ∃ k', k = k' + 1 := ⟨k - 1, by omega⟩
          have hex : ∃ t, (tab L)[k']? = some t := ⟨_, List.getElem?_eq_getElem (by rw [HM.out]; omega)⟩
          obtain ⟨t, ht⟩ := hex
          have HTT := hide ht
          have hlts := asc_at HAsc.out ht hs (by omega)
          have q := run_geq (P := Try.prog) (t := 9) (v := false) (show ltS t s = !false from hlts)
          have hk1 : (0 : Int) < (k : Int) := by omega
          have hk2 : (k : Int) - 1 = (k' : Int) := by omega
          have hk3 : (k' : Int) < (m : Int) := by omega
          clear hs ht hlts hk' hk0
          go_wp2_with fail
          refine (Index_hit HT.out HAsc.out HS.out).mono ?_
          rintro e w3 ⟨rfl, hb3⟩
          have HT3 := hide (HT.out.now hb3)
          have HB3 := hide (HB.out.trans (hb3.mono HB.out.size))
          obtain ⟨b', o', e', _, c1⟩ := (HR2.out.below HB3.out).str HTT.out
          cases e'
          clear hb3
          go_wp2_with fail
          go_roundw
          case rel => exact ⟨k + 1, by go_num, by omega, HT3.out, HB3.out⟩
          case measure => simp [intOf]; omega
      · obtain rfl : k = m := by omega
        have HB3 := hide (HB2.out.trans (HB.out.mono HB2.out.size))
        have hex : ∃ w3, w3 = wr := ⟨_, rfl⟩
        obtain ⟨w3, hw3⟩ := hex
        rw [← hw3] at HT HB3 ⊢
        clear HB hw3
        go_wp2_with fail
        go_loopw [71] (fun i wr => ∃ j : Nat, i = .int .i64 (j : Int) ∧ j ≤ n ∧ Tab wr g (tab L) ∧ Below w.heap.size w wr) (fun i _ => n - (intOf i).toNat)
        case atStart => exact ⟨0, rfl, Nat.zero_le _, HT.out, HB3.out⟩
        case round =>
          obtain ⟨j, rfl, hj, ht, hb⟩ := hrel
          have HT4 := hide ht
          have HB4 := hide hb
          clear ht hb
          by_cases hlt2 : j < n
          · have hex : ∃ s, L[j]? = some s := ⟨_, List.getElem?_eq_getElem (by rw [HNL.out]; exact hlt2)⟩
            obtain ⟨s, hs⟩ := hex
            have hlt' : (j : Int) < (n : Int) := by omega
            obtain ⟨b, o, rfl, hbB, c0⟩ := (HA.out.rd.below HB4.out).str hs
            have hex : ∃ i, (tab L)[i]? = some s := List.getElem?_of_mem (tab_mem.2 (List.mem_of_getElem? hs))
            obtain ⟨i, hi⟩ := hex
            have HS := hide hi
            clear hs hi
            go_wp2_with fail
            refine (Index_hit HT4.out HAsc.out HS.out).mono ?_
            rintro e w5 ⟨rfl, hb5⟩
            have HT5 := hide (HT4.out.now hb5)
            have HB5 := hide (HB4.out.trans (hb5.mono HB4.out.size))
            clear hb5
            go_wp2_with fail
            go_roundw
            case rel => exact ⟨j + 1, by go_num, by omega, HT5.out, HB5.out⟩
            case measure => simp [intOf]; omega
          · obtain rfl : j = n := by omega
            have hmn' : (k : Int) ≤ (j : Int) := by omega
            go_wp2_with fail
            refine (alive05_any _).mono ?_
            rintro e w6 ⟨rfl, hb6⟩
            have HB6 := hide (HB4.out.trans (hb6.mono HB4.out.size))
            clear hb6
            go_wp2_with fail
            go_ret
            exact ⟨rfl, HB6.out⟩
  · have HI := hide hid
    clear hid
    go_wp2_with fail
    refine (alive05_any _).mono ?_
    rintro e w3 ⟨rfl, hb3⟩
    have HB3 := hide hb3
    clear hb3
    go_wp2_with fail
    go_ret
    exact ⟨rfl, HB3.out⟩

theorem own : ownKnob Try.prog.godebug = none := by kernel_rfl
theorem laidOut : laidOutB Try.prog = true := by kernel_rfl

set_option maxRecDepth 100000 in
/-- what the walk gives, for every argument that can be read -/
theorem contract (H : Type) (enc : TypeId × Value → H) (W : World) (base : Nat) (args : Array Value) (ds gs : List (DataW H)) (before : List MemPlace)
    (hval0 : ∀ (j : Nat) t v, Try.f6.params[j]? = some t → args[j]? = some v → Value.okWide Try.prog W .any base t v)
    (hW : DataW.Whole enc Try.prog Try.f6.params.toList Rows.internOrdersSpec.vars false W args.toList ds gs before) :
    Calls Try.prog 6 args W fun e W' => ∃ v, e = .returned v ∧ Rows.internOrdersSpec.post enc Try.prog Try.f6 false true false false W args v W' := by
  have hval : ∀ (j : Nat) t v, Try.f6.params[j]? = some t → args[j]? = some v → Value.okWide Try.prog W .any base t v := hval0
  have hW' := hW
  obtain ⟨p, q, hA0, hV, rfl, hfz, hnd⟩ := hW
  have hA : DataW.TrodAll enc Try.prog W 0 (fun _ => true) true Try.f6.params.toList args.toList ds p := hA0
  rw [Try.params6] at hA hval
  obtain ⟨v0, vs0, d0, ds0, p0, q0, hargs, rfl, rfl, h0, r0⟩ := trodAll_cons hA
  obtain ⟨rfl, rfl, rfl⟩ := trodAll_nil r0
  obtain rfl : args = #[v0] := by cases args; simp_all
  obtain ⟨rfl, rfl⟩ := trodVars_none hV
  have k0 := h0
  have lt0 : ∀ x ∈ p0, x.block < W.heap.size := by obtain ⟨m, hm⟩ := k0; exact DataW.trod_lt m _ _ _ hm
  obtain ⟨A0, n0, c0, xs0, rfl, g0⟩ := openStrs Try.underlying24 Try.underlying9 (by kernel_rfl) (hval 0 24 v0 rfl rfl) h0
  clear hA0 hval0
  simp only [List.append_nil] at hW'
  refine (walk A0 n0 c0 xs0 W g0).mono fun e W' ⟨he, bel⟩ => ?_
  subst he
  exact ⟨_, rfl, _, _, _, [], _, [], hW', trodAll_mk1 (shut_bool Try.underlying4 _), (trodAll_cons_mk (Below.trod laidOut (by kernel_rfl) (of_decide_eq_true (by kernel_rfl)) k0 bel lt0) trodAll_mk0), rfl, bel.frame _, fun h => by cases h⟩

set_option maxRecDepth 100000 in
theorem lifted (os : Os) (started : os.Started) (H : Type) (enc : TypeId × Value → H) :
    ReturnsInHanded {} Try.checked os 6 .any (Rows.internOrdersSpec.pre6 enc Try.prog Try.f6 Rows.internOrdersRow.domain false) (Rows.internOrdersSpec.post enc Try.prog Try.f6 false true false false) := by
  refine returnsInHanded_of_change (C := Try.checked) own started (by kernel_rfl) Try.func6
    (ChangeSpec.witness6 (enc := enc) (C := Try.checked) false ⟨#[], #[.slice none 0 0], []⟩ 8 (by kernel_rfl) (by kernel_rfl) (by kernel_rfl) (by kernel_rfl)) ?_
  intro W base args ds gs before hval hW _ _
  exact contract H enc W base args ds gs before hval hW

/-- the statement -/
theorem proved : Rows.InternOrdersSaid :=
  OpenClaim.holds_of_wide 6 Try.f6 rfl rfl rfl rfl rfl rfl rfl ⟨rfl, rfl, rfl, rfl, rfl⟩ rfl rfl rfl rfl rfl (by kernel_rfl) Try.func6 (by kernel_rfl)
    (of_decide_eq_true (by kernel_rfl)) (by unfold Func.isWrapper; first | (rw [if_pos (by decide +kernel)]; kernel_rfl) | (rw [if_neg (by decide +kernel)]; exact ⟨rfl, rfl⟩))
    (fun os started H enc _ => lifted os started H enc)
end Go.Proofs.Ytbkgooeghmaokaa.internOrders
