/- WireRoundTrip: for every input the law returns true, and turns nothing that lay. No condition. -/
import Derived.Test.YtakjlomgkbloeaaRows
import Derived.Test.YtakjlomgkbloeaaAlive03
import Derived.Test.YtakjlomgkbloeaaWrite
import Derived.Test.YtakjlomgkbloeaaOpenA
import Derived.Deep.RegionHeld3
namespace Go.Proofs.Ytakjlomgkbloeaa.wireRoundTrip
open Go.ChangeShapes Go.WideShapes Go.ChangeAt Go.RowKit
set_option linter.unusedVariables false

theorem cr_drew {w : World} {g : Nat} {ys : List Int} {e : Int} (h : CR w g ys e) : CR w.drew g ys e := h.keep (Nat.le_refl _) (fun _ _ => rfl) (fun _ _ => rfl)

/-! what is read is what was written -/
theorem back_byte (U : Int) (r : List Int) : aByte ([U % 256] ++ r) 0 = (U % 256, r, 0) := rfl
theorem back_uint (U : Int) (h0 : 0 ≤ U) (h1 : U ≤ 18446744073709551615) (r : List Int) : aUint (vput U.toNat ++ r) 0 18446744073709551615 = (U, r, 0) := by
  obtain ⟨p1, p2, p3⟩ := nm_put U.toNat (by omega) r
  rw [aUint_ok p3 (by rw [p1]; omega), p1, p2, List.drop_left]
  rw [show ((U.toNat : Nat) : Int) = U by omega]
theorem back_int (N : Int) (h0 : -9223372036854775808 ≤ N) (h1 : N ≤ 9223372036854775807) (r : List Int) : aInt (vput (zz N).toNat ++ r) 0 = (N, r, 0) := by
  have hz0 := zz_lo N
  have hz1 := zz_hi N h0 h1
  obtain ⟨p1, p2, p3⟩ := nm_put (zz N).toNat (by omega) r
  unfold aInt
  rw [aNum_ok p3, p1, p2, List.drop_left]
  simp only
  rw [show (((zz N).toNat : Nat) : Int) = zz N by omega, uz_zz]
theorem back_str (S : ByteArray) (hS : S.size ≤ 5000) (r : List Int) : aStr (encStr S ++ r) 0 (S.size : Int) = (sB S, r, 0) := by
  obtain ⟨p1, p2, p3⟩ := nm_put S.size (by omega) (sB S ++ r)
  have hl := sB_length S
  unfold encStr
  rw [List.append_assoc]
  have hd : (vput S.size ++ (sB S ++ r)).drop (nmL (vput S.size ++ (sB S ++ r))) = sB S ++ r := by rw [p2, List.drop_left]
  have hc : aCount (vput S.size ++ (sB S ++ r)) 0 (S.size : Int) = ((S.size : Int), sB S ++ r, 0) := by
    rw [aCount_ok p3 (by rw [p1]; omega) (by rw [p1, hd, List.length_append]; omega), hd, p1]
  rw [aStr_of hc, aTake_ok (by omega) (by rw [List.length_append]; omega), Int.toNat_natCast, ← hl, List.take_left, List.drop_left]

theorem fin_Byte {w w' : World} {g : Nat} {n : Int} {zs : List Int} {e : Int} {x : Ending} (h : Done w g (IsInt .u8 n) zs e x w') : x = .returned (.int .u8 n) ∧ CR w' g zs e ∧ w.grownBy w' (some g) := by
  obtain ⟨v, rfl, rfl, h1, h2⟩ := h
  exact ⟨rfl, h1, h2⟩
theorem fin_Uint {w w' : World} {g : Nat} {n : Int} {zs : List Int} {e : Int} {x : Ending} (h : Done w g (IsInt .u64 n) zs e x w') : x = .returned (.int .u64 n) ∧ CR w' g zs e ∧ w.grownBy w' (some g) := by
  obtain ⟨v, rfl, rfl, h1, h2⟩ := h
  exact ⟨rfl, h1, h2⟩
theorem fin_Int {w w' : World} {g : Nat} {n : Int} {zs : List Int} {e : Int} {x : Ending} (h : Done w g (IsInt .i64 n) zs e x w') : x = .returned (.int .i64 n) ∧ CR w' g zs e ∧ w.grownBy w' (some g) := by
  obtain ⟨v, rfl, rfl, h1, h2⟩ := h
  exact ⟨rfl, h1, h2⟩
theorem fin_String {w w' : World} {g : Nat} {S : ByteArray} {zs : List Int} {e : Int} {x : Ending} (h : Done w g (IsStr (sB S)) zs e x w') : x = .returned (.string S) ∧ CR w' g zs e ∧ w.grownBy w' (some g) := by
  obtain ⟨v, rfl, hv, h1, h2⟩ := h
  have hv' : v = .string (strOfNums (sB S)) := hv
  rw [strOfNums_sB] at hv'
  exact ⟨by rw [hv'], h1, h2⟩

set_option maxHeartbeats 4000000 in
set_option maxRecDepth 100000 in
theorem walk (A1 : Option Addr) (n1 c1 : Nat) (L : List ActV) (w : World) (h1 : ArgA w A1 n1 c1 L) :
    Calls Try.prog 5 #[.slice A1 n1 c1] w fun e w' => e = .returned (.bool true) ∧ Below w.heap.size w w' := by
  have hnm : n1 ≤ maxLen := Nat.le_trans h1.nc h1.cm
  have hl := h1.acts.1
  have hT := hide (tooLarge_any A1 n1 c1 L w h1.acts hnm)
  by_cases hbig : bigL L = true
  · rw [hbig] at hT
    clear h1 hbig hnm hl
    go_enter Try.func5, Try.ntmps5
    go_wp2_with fail
    refine hT.out.mono ?_
    rintro e w1 ⟨rfl, hb⟩
    go_wp2_with fail
    refine (alive03_any _).mono ?_
    rintro e w2 ⟨rfl, hb2⟩
    go_wp2_with fail
    go_ret
    exact ⟨rfl, hb.trans (hb2.mono hb.size)⟩
  · have hsm : wts L ≤ 5000 := by
      unfold bigL at hbig
      simpa using hbig
    rw [show bigL L = false by simpa using hbig] at hT
    have hlw := len_wts L
    have hn1 : n1 ≤ 5000 := by omega
    have HL := hide hl
    have HSm := hide fun a (ha : a ∈ L) => small_of hsm ha
    have hle := encL_len h1.acts.2.1 hsm
    have HY := hide (encL_byt L)
    have HAc := hide h1.acts
    have HWr := fun (w' : World) (g : Nat) (h : CW w' g []) (hA : Acts w' g A1 n1 L) => write_any h A1 n1 c1 L hA hsm hn1
    have HWr := hide HWr
    have HD0 := hide (show encL (L.drop 0) = encL L by rw [List.drop_zero])
    rename_i HWr0
    have HDD := hide fun (k : Nat) (a : ActV) (ha : L[k]? = some a) => encL_drop ha
    have HDN := hide (show encL (L.drop n1) = [] by rw [List.drop_of_length_le (by omega)]; rfl)
    clear h1 hbig hnm hl hsm hlw HWr0
    have hm2 : (encL L).length ≤ 1099511627776 := by omega
    go_enter Try.func5, Try.ntmps5
    go_wp2_with fail
    refine hT.out.mono ?_
    rintro e w1 ⟨rfl, hb1⟩
    go_wp2_with fail
    refine (NewWriter_any _).mono ?_
    rintro e w2 ⟨g, rfl, hg, hw2, hb2⟩
    have hwg : w.heap.size ≤ g := by rw [hg]; exact hb1.size
    have q2 := hide (hb1.trans (hb2.mono hb1.size))
    have hA2 := hide (show Acts w2 g A1 n1 L from ⟨(HAc.out.below q2.out).1, (HAc.out.below q2.out).2.1, fun h0 => by
      obtain ⟨b, o, k1, k2, k3⟩ := (HAc.out.below q2.out).2.2 h0
      exact ⟨b, o, k1, Nat.lt_of_lt_of_le k2 hwg, k3⟩⟩)
    clear hb1 hb2 hg hT
    go_wp2_with fail
    refine (HWr.out _ _ hw2 hA2.out).mono ?_
    rintro e w3 ⟨⟨v, rfl⟩, hw3, hb3⟩
    have q3 := hide (q2.out.trans (hb3.mono hwg))
    have W3 := hide hw3
    clear hw2 hw3 hb3
    go_wp2_with fail
    refine (wBytes_any W3.out hm2).mono ?_
    rintro e w4 ⟨v, rfl, hob, _, hb4⟩
    obtain ⟨A4, n4, c4, rfl, hnc4, hcm4, hrd4, _, HN4⟩ := hob.var
    have q4 := hide (q3.out.trans (hb4.mono q3.out.size))
    have R4 := hide hrd4
    have hn4 : n4 ≤ 1099511627776 := by have := HN4.out; omega
    clear hob hrd4 hb4
    go_wp2_with fail
    refine (NewReader_any A4 n4 c4 (encL L) _ R4.out (Nat.le_refl _) HY.out hn4).mono ?_
    rintro e w5 ⟨r, rfl, hr, hcr, hb5⟩
    have hwr : w.heap.size ≤ r := Nat.le_trans q4.out.size hr
    have q5 := hide (q4.out.trans (hb5.mono q4.out.size))
    have C5 := hide (show CR w5 r (encL (L.drop 0)) 0 by rw [HD0.out]; exact hcr)
    clear hcr hb5 hr
    go_wp2_with fail
    go_loopw [22] (fun i wr => ∃ k : Nat, i = .int .i64 (k : Int) ∧ k ≤ n1 ∧ CR wr r (encL (L.drop k)) 0 ∧ Below w.heap.size w wr) (fun i _ => n1 - (intOf i).toNat)
    case atStart => exact ⟨0, rfl, Nat.zero_le _, C5.out, q5.out⟩
    case round =>
      obtain ⟨k, rfl, hk, hcr, hb⟩ := hrel
      by_cases hlt2 : k < n1
      · have hex : ∃ a, L[k]? = some a := ⟨_, List.getElem?_eq_getElem (by have := HL.out; omega)⟩
        obtain ⟨a, ha⟩ := hex
        obtain ⟨b, o, rfl, hbB, hok, d0, d1, d2, d3⟩ := (HAc.out.below hb).at_ ha
        have hsz := HSm.out a (List.mem_of_getElem? ha)
        have HS := hide (HDD.out k a ha)
        have hrw := hcr.lt
        obtain ⟨K, U, N, S⟩ := a
        obtain ⟨_, hU, hN, _⟩ := hok
        simp only at hU hN hsz d0 d1 d2 d3
        rw [HS.out] at hcr
        have hba := hide ((Below.refl wr.heap.size wr).alloc (Nat.le_refl _) (.cells #[.int .i64 K, .int .u64 U, .int .i64 N, .string S] 39))
        have CB := hide (hcr.below hba.out hrw)
        have BB := hide (hb.trans (hba.out.mono hb.size))
        have hne : wr.heap.size ≠ r := by omega
        clear ha hb
        generalize hrest : encL (L.drop (k + 1)) = rest at *
        have HRest := hide hrest
        clear hrest
        by_cases k0 : K = 0
        · subst k0
          have e1 : encA ⟨0, U, N, S⟩ = [U % 256] := by simp [encA]
          have H1 := Byte_any (cr_drew CB.out)
          rw [e1, back_byte] at H1
          have H1' := hide (H1.mono fun x w' q => fin_Byte q)
          have hk0 : (wr.alloc (.cells #[.int .i64 0, .int .u64 U, .int .i64 N, .string S] 39)).cell? ⟨wr.heap.size, 1, none⟩ = some (.int .u64 U) := by simp [go_sem]
          clear e1 hcr H1
          have hwu := wrapU8 U
          go_wp2_with fail
          go_region_held3 (fun w' => w'.cell? ⟨wr.heap.size, 1, none⟩ = some (.int .u64 U))
            (first | assumption | exact hk0)
            ((go_at_call 18; refine H1'.out.mono ?_; rintro x w6 ⟨rfl, h6, g6⟩; have hk1 : w6.cell? ⟨wr.heap.size, 1, none⟩ = some (.int .u64 U) := (g6.cell_far ⟨wr.heap.size, 1, none⟩ (by simp) (fun x => by injection x with x; exact hne x)).trans hk0))
          have B6 := hide (below_only BB.out.drew BB.out.size hwr g6)
          have E6 := hide h6.errOf
          have C6 := hide h6
          clear h6 g6 hk0 hk1
          go_wp2_with fail
          refine (Err_of _ _ _ E6.out).mono ?_
          rintro x w7 ⟨rfl, rfl⟩
          go_wp2_with fail
          go_roundw
          case rel => exact ⟨k + 1, by go_num, by omega, by rw [HRest.out]; exact C6.out, B6.out⟩
          case measure => simp [intOf]; omega
        · by_cases k1 : K = 1
          · subst k1
            have e1 : encA ⟨1, U, N, S⟩ = vput U.toNat := by simp [encA]
            have H1 := Uint_any (cr_drew CB.out) 18446744073709551615
            rw [e1, back_uint U hU.1 hU.2] at H1
            have H1' := hide (H1.mono fun x w' q => fin_Uint q)
            have hk0 : (wr.alloc (.cells #[.int .i64 1, .int .u64 U, .int .i64 N, .string S] 39)).cell? ⟨wr.heap.size, 1, none⟩ = some (.int .u64 U) := by simp [go_sem]
            clear e1 hcr H1 k0
            go_wp2_with fail
            go_region_held3 (fun w' => w'.cell? ⟨wr.heap.size, 1, none⟩ = some (.int .u64 U))
              (first | assumption | exact hk0)
              ((go_at_call 19; refine H1'.out.mono ?_; rintro x w6 ⟨rfl, h6, g6⟩; have hk1 : w6.cell? ⟨wr.heap.size, 1, none⟩ = some (.int .u64 U) := (g6.cell_far ⟨wr.heap.size, 1, none⟩ (by simp) (fun x => by injection x with x; exact hne x)).trans hk0))
            have B6 := hide (below_only BB.out.drew BB.out.size hwr g6)
            have E6 := hide h6.errOf
            have C6 := hide h6
            clear h6 g6 hk0 hk1
            go_wp2_with fail
            refine (Err_of _ _ _ E6.out).mono ?_
            rintro x w7 ⟨rfl, rfl⟩
            go_wp2_with fail
            go_roundw
            case rel => exact ⟨k + 1, by go_num, by omega, by rw [HRest.out]; exact C6.out, B6.out⟩
            case measure => simp [intOf]; omega
          · by_cases k2 : K = 2
            · subst k2
              have e1 : encA ⟨2, U, N, S⟩ = vput (zz N).toNat := by simp [encA, zzM, zz]
              have H1 := Int_any (cr_drew CB.out)
              rw [e1, back_int N hN.1 hN.2] at H1
              have H1' := hide (H1.mono fun x w' q => fin_Int q)
              have hk0 : (wr.alloc (.cells #[.int .i64 2, .int .u64 U, .int .i64 N, .string S] 39)).cell? ⟨wr.heap.size, 2, none⟩ = some (.int .i64 N) := by simp [go_sem]
              clear e1 hcr H1 k0 k1
              go_wp2_with fail
              go_region_held3 (fun w' => w'.cell? ⟨wr.heap.size, 2, none⟩ = some (.int .i64 N))
                (first | assumption | exact hk0)
                ((go_at_call 20; refine H1'.out.mono ?_; rintro x w6 ⟨rfl, h6, g6⟩; have hk1 : w6.cell? ⟨wr.heap.size, 2, none⟩ = some (.int .i64 N) := (g6.cell_far ⟨wr.heap.size, 2, none⟩ (by simp) (fun x => by injection x with x; exact hne x)).trans hk0))
              have B6 := hide (below_only BB.out.drew BB.out.size hwr g6)
              have E6 := hide h6.errOf
              have C6 := hide h6
              clear h6 g6 hk0 hk1
              go_wp2_with fail
              refine (Err_of _ _ _ E6.out).mono ?_
              rintro x w7 ⟨rfl, rfl⟩
              go_wp2_with fail
              go_roundw
              case rel => exact ⟨k + 1, by go_num, by omega, by rw [HRest.out]; exact C6.out, B6.out⟩
              case measure => simp [intOf]; omega
            · by_cases k4 : K = 4
              · subst k4
                have e1 : encA ⟨4, U, N, S⟩ = encStr S := by simp [encA]
                have H1 := String_any (cr_drew CB.out) (S.size : Int) (by omega) (by omega)
                rw [e1, back_str S (Nat.le_of_lt hsz)] at H1
                have H1' := hide (H1.mono fun x w' q => fin_String q)
                have hk0 : (wr.alloc (.cells #[.int .i64 4, .int .u64 U, .int .i64 N, .string S] 39)).cell? ⟨wr.heap.size, 3, none⟩ = some (.string S) := by simp [go_sem]
                clear e1 hcr H1 k0 k1 k2
                go_wp2_with fail
                go_region_held3 (fun w' => w'.cell? ⟨wr.heap.size, 3, none⟩ = some (.string S))
                  (first | assumption | exact hk0)
                  ((go_at_call 21; refine H1'.out.mono ?_; rintro x w6 ⟨rfl, h6, g6⟩; have hk1 : w6.cell? ⟨wr.heap.size, 3, none⟩ = some (.string S) := (g6.cell_far ⟨wr.heap.size, 3, none⟩ (by simp) (fun x => by injection x with x; exact hne x)).trans hk0))
                have B6 := hide (below_only BB.out.drew BB.out.size hwr g6)
                have E6 := hide h6.errOf
                have C6 := hide h6
                clear h6 g6 hk0 hk1
                go_wp2_with fail
                refine (Err_of _ _ _ E6.out).mono ?_
                rintro x w7 ⟨rfl, rfl⟩
                go_wp2_with fail
                go_roundw
                case rel => exact ⟨k + 1, by go_num, by omega, by rw [HRest.out]; exact C6.out, B6.out⟩
                case measure => simp [intOf]; omega
              · have e1 : encA ⟨K, U, N, S⟩ = [] := by simp [encA, k0, k1, k2, k4]
                have b0 : (K == 0) = false := by simpa using k0
                have b1 : (K == 1) = false := by simpa using k1
                have b2 : (K == 2) = false := by simpa using k2
                have b4 : (K == 4) = false := by simpa using k4
                have C6 := hide (show CR (wr.alloc (.cells #[.int .i64 K, .int .u64 U, .int .i64 N, .string S] 39)) r rest 0 by
                  have := CB.out
                  rw [e1] at this
                  exact this)
                have E6 := hide C6.out.errOf
                clear e1 hcr k0 k1 k2 k4
                go_wp2_with fail
                refine (Err_of _ _ _ E6.out).mono ?_
                rintro x w7 ⟨rfl, rfl⟩
                go_wp2_with fail
                go_roundw
                case rel => exact ⟨k + 1, by go_num, by omega, by rw [HRest.out]; exact C6.out, BB.out⟩
                case measure => simp [intOf]; omega
      · obtain rfl : k = n1 := by omega
        rw [HDN.out] at hcr
        have CR0 := hide hcr
        have BK := hide hb
        clear hcr hb
        go_wp2_with fail
        refine (alive03_any _).mono ?_
        rintro e w6 ⟨rfl, hb6⟩
        have q6 := hide (BK.out.trans (hb6.mono BK.out.size))
        have C6 := hide (CR0.out.below hb6 CR0.out.lt)
        have N6 := hide (End_any C6.out)
        clear hb6
        go_wp2_with fail
        refine N6.out.mono ?_
        rintro e w7 ⟨rfl, k7, rfl⟩
        have L7 := hide (Left_any (C6.out.drewN k7))
        rw [aLeft_ok] at L7
        rw [show aEnd [] 0 = 0 from rfl]
        go_wp2_with fail
        refine L7.out.mono ?_
        rintro e w8 ⟨rfl, k8, rfl⟩
        go_wp2_with fail
        go_ret
        exact ⟨rfl, below_drewN q6.out _⟩

theorem own : ownKnob Try.prog.godebug = none := by kernel_rfl
theorem laidOut : laidOutB Try.prog = true := by kernel_rfl

set_option maxRecDepth 100000 in
/-- what the walk gives, for every argument that can be read -/
theorem contract (H : Type) (enc : TypeId × Value → H) (W : World) (base : Nat) (args : Array Value) (ds gs : List (DataW H)) (before : List MemPlace)
    (hval0 : ∀ (j : Nat) t v, Try.f5.params[j]? = some t → args[j]? = some v → Value.okWide Try.prog W .any base t v)
    (hW : DataW.Whole enc Try.prog Try.f5.params.toList Rows.wireRoundTripSpec.vars false W args.toList ds gs before) :
    Calls Try.prog 5 args W fun e W' => ∃ v, e = .returned v ∧ Rows.wireRoundTripSpec.post enc Try.prog Try.f5 false true false false W args v W' := by
  have hval : ∀ (j : Nat) t v, Try.f5.params[j]? = some t → args[j]? = some v → Value.okWide Try.prog W .any base t v := hval0
  have hW' := hW
  obtain ⟨p, q, hA0, hV, rfl, hfz, hnd⟩ := hW
  have hA : DataW.TrodAll enc Try.prog W 0 (fun _ => true) true Try.f5.params.toList args.toList ds p := hA0
  rw [Try.params5] at hA hval
  obtain ⟨v0, vs0, d0, ds0, p0, q0, hargs, rfl, rfl, h0, r0⟩ := trodAll_cons hA
  obtain ⟨rfl, rfl, rfl⟩ := trodAll_nil r0
  obtain rfl : args = #[v0] := by cases args; simp_all
  obtain ⟨rfl, rfl⟩ := trodVars_none hV
  have k0 := h0
  have lt0 : ∀ x ∈ p0, x.block < W.heap.size := by obtain ⟨m, hm⟩ := k0; exact DataW.trod_lt m _ _ _ hm
  obtain ⟨A0, n0, c0, xs0, rfl, g0⟩ := openActs Try.underlying22 Try.underlying39 rfl (by kernel_rfl) (by kernel_rfl) Try.underlying3 Try.underlying37 Try.underlying2 Try.underlying9 (hval 0 22 v0 rfl rfl) h0
  clear hA0 hval0
  simp only [List.append_nil] at hW'
  refine (walk A0 n0 c0 xs0 W g0).mono fun e W' ⟨he, bel⟩ => ?_
  subst he
  exact ⟨_, rfl, _, _, _, [], _, [], hW', trodAll_mk1 (shut_bool Try.underlying4 _), (trodAll_cons_mk (Below.trod laidOut (by kernel_rfl) (of_decide_eq_true (by kernel_rfl)) k0 bel lt0) trodAll_mk0), rfl, bel.frame _, fun h => by cases h⟩

set_option maxRecDepth 100000 in
theorem lifted (os : Os) (started : os.Started) (H : Type) (enc : TypeId × Value → H) :
    ReturnsInHanded {} Try.checked os 5 .any (Rows.wireRoundTripSpec.pre6 enc Try.prog Try.f5 Rows.wireRoundTripRow.domain false) (Rows.wireRoundTripSpec.post enc Try.prog Try.f5 false true false false) := by
  refine returnsInHanded_of_change (C := Try.checked) own started (by kernel_rfl) Try.func5
    (ChangeSpec.witness6 (enc := enc) (C := Try.checked) false ⟨#[], #[.slice none 0 0], []⟩ 8 (by kernel_rfl) (by kernel_rfl) (by kernel_rfl) (by kernel_rfl)) ?_
  intro W base args ds gs before hval hW _ _
  exact contract H enc W base args ds gs before hval hW

/-- the statement -/
theorem proved : Rows.WireRoundTripSaid :=
  OpenClaim.holds_of_wide 5 Try.f5 rfl rfl rfl rfl rfl rfl rfl ⟨rfl, rfl, rfl, rfl, rfl⟩ rfl rfl rfl rfl rfl (by kernel_rfl) Try.func5 (by kernel_rfl)
    (of_decide_eq_true (by kernel_rfl)) (by unfold Func.isWrapper; first | (rw [if_pos (by decide +kernel)]; kernel_rfl) | (rw [if_neg (by decide +kernel)]; exact ⟨rfl, rfl⟩))
    (fun os started H enc _ => lifted os started H enc)
end Go.Proofs.Ytakjlomgkbloeaa.wireRoundTrip
