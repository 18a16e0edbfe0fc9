/- The reference's Check, Depth, Mentions, Regions, Copyable. -/
import Derived.Test.YtkcgonggokhneaaTypW
set_option linter.unusedVariables false
namespace Go.Proofs.Ytkcgonggokhneaa
open Go.RowKit

theorem TyOk.snoc2 {l : List Ty} {r : Int} (h : TyOk l r) {t : Ty} (hl : l.length < 65535) (he : tyErr l t r = 0) : TyOk (l ++ [t]) r := by
  refine ⟨by simp; omega, fun j u hu => ?_⟩
  rcases Nat.lt_or_ge j l.length with hj | hj
  · rw [List.getElem?_append_left hj] at hu
    rw [List.take_append_of_le_length (by omega)]
    exact h.err j u hu
  · have hj2 : j < (l ++ [t]).length := (List.getElem?_eq_some_iff.1 hu).1
    simp only [List.length_append, List.length_singleton] at hj2
    obtain rfl : j = l.length := by omega
    rw [List.getElem?_append_right (Nat.le_refl _), Nat.sub_self] at hu
    obtain rfl : t = u := by simpa using hu
    rw [List.take_left]
    exact he

/-- what the loop of Check keeps -/
def RChkR (A : Option Addr) (n : Nat) (L : List TyW) (rg : Int) (w : World) (k : Nat) (Ad : Option Addr) (cd : Nat) (wr : World) : Prop :=
  tyChk (tys L) rg = tyChkR rg ((tys L).take k) ((tys L).drop k) ∧ TyOk ((tys L).take k) rg ∧ Rd wr wr.heap.size Ad k (i64s (tyDeps ((tys L).take k))) ∧ Below w.heap.size w wr

set_option maxHeartbeats 2000000 in
set_option maxRecDepth 100000 in
theorem RCheck_small (A : Option Addr) (n c : Nat) (L : List TyW) (rg : Int) (w : World) (hA : Typs w w.heap.size A n L) (hn : n ≤ 65535) (hnc : n ≤ c) :
    Calls Try.prog 12 #[.slice A n c, .int .i64 rg] w fun e w' => e = .returned (.int .i64 (tyChk (tys L) rg)) ∧ Below w.heap.size w w' := by
  have HA := hide hA
  have HL := hide hA.len
  have hn' : ¬ (65535 : Int) < (n : Int) := by omega
  have HR0 : Hid (RChkR A n L rg w 0 none 0 w) := ⟨tyChk_at (by rw [tys_len, hA.len]; exact hn) rg, ⟨by simp, fun j t h => by simp at h⟩, Rd.nil _ _ _, Below.refl _ _⟩
  clear hA
  go_enter Try.func12, Try.ntmps12
  go_wp2
  go_loopw [5, 6] (fun d i wr => ∃ (k : Nat) (Ad : Option Addr) (cd : Nat), i = .int .i64 (k : Int) ∧ k ≤ n ∧ k ≤ cd ∧ d = .slice Ad k cd ∧ Hid (RChkR A n L rg w k Ad cd wr)) (fun _ i _ => n - (intOf i).toNat)
  case atStart => exact ⟨0, none, 0, rfl, Nat.zero_le _, Nat.zero_le _, rfl, HR0.out⟩
  case round =>
    obtain ⟨k, Ad, cd, rfl, hk, hkc, rfl, HR⟩ := hrel
    by_cases hlt : k < n
    · have hlt' : (k : Int) < (n : Int) := by omega
      have hex : ∃ a, L[k]? = some a := ⟨_, List.getElem?_eq_getElem (by have := HL.out; omega)⟩
      obtain ⟨x, hx⟩ := hex
      have hat := tys_at hx
      have hstep := tyChkR_at (r := rg) hat
      have HRC : Hid (RC A n c L k x Ad cd rg wr) := ⟨(HA.out.below HR.out.2.2.2).more HR.out.2.2.2.size, hx, HR.out.2.1, HR.out.2.2.1, hn, hnc, hkc⟩
      have hex : ∃ v, tyErr ((tys L).take k) x.t rg = v := ⟨_, rfl⟩
      obtain ⟨v, hv⟩ := hex
      have HV := hide hv
      have HAT := hide hat
      by_cases hv0 : v = 0
      · subst hv0
        have htk : (tys L).take (k + 1) = (tys L).take k ++ [x.t] := tyTake_snoc hat
        have hpl : ((tys L).take k).length = k := HRC.out.plen
        have HOK : Hid (TyOk ((tys L).take (k + 1)) rg) := by show TyOk _ _; rw [htk]; exact HR.out.2.1.snoc2 (by omega) hv
        have HST := hide (show tyChk (tys L) rg = tyChkR rg ((tys L).take (k + 1)) ((tys L).drop (k + 1)) from by rw [HR.out.1, hstep, if_pos hv])
        have HK1 := hide (show (k : Int) + 1 = ((k + 1 : Nat) : Int) by omega)
        clear hx hat hstep hv htk hpl
        go_wp2_with fail
        refine (rcheck_is HRC.out HV.out).mono ?_
        rintro e w1 ⟨rfl, hb1⟩
        have HB1 := hide (HR.out.2.2.2.trans (hb1.mono HR.out.2.2.2.size))
        clear hb1
        go_wp2_with fail
        rw [HK1.out]
        refine (depths_any A n c L (k + 1) rg w1 ((HA.out.below HB1.out).more HB1.out.size) (by omega) hn HOK.out).mono ?_
        rintro e w2 ⟨A2, c2, rfl, h1, h2, hown, hb2⟩
        have HRD := hide (Rd.of_own hown)
        have HB2 := hide (HB1.out.trans (hb2.mono HB1.out.size))
        have hex : ∃ m, m = k + 1 := ⟨_, rfl⟩
        obtain ⟨m, hm⟩ := hex
        rw [← hm] at h1 HRD HOK HST ⊢
        clear hown hb2
        have HM := hide hm
        clear hm
        go_wp2_with fail
        go_roundw
        case rel => exact ⟨m, A2, c2, by rw [HM.out]; go_num, by have := HM.out; omega, h1, rfl, HST.out, HOK.out, HRD.out, HB2.out⟩
        case measure => simp [intOf]; omega
      · have hvn : (v != 0) = true := by rw [bne_iff_ne]; exact hv0
        have HF := hide (show tyChk (tys L) rg = v from by rw [HR.out.1, hstep, hv, if_neg hv0])
        clear hx hat hstep hv hv0
        go_wp2_with fail
        refine (rcheck_is HRC.out HV.out).mono ?_
        rintro e w1 ⟨rfl, hb1⟩
        have HB1 := hide (HR.out.2.2.2.trans (hb1.mono HR.out.2.2.2.size))
        clear hb1
        go_wp2_with fail
        go_ret
        exact ⟨ret_m HF.out, HB1.out⟩
    · obtain rfl : k = n := by omega
      have HF := hide (show tyChk (tys L) rg = 0 from HR.out.1.trans (tyChkR_end (by rw [tys_len, HL.out]; exact Nat.le_refl _)))
      go_wp2
      go_ret
      exact ⟨ret_m HF.out, HR.out.2.2.2⟩
theorem RCheck_big (A : Option Addr) (n c : Nat) (rg : Int) (w : World) (hn : 65535 < n) (hm : n ≤ maxLen) :
    Calls Try.prog 12 #[.slice A n c, .int .i64 rg] w fun e w' => e = .returned (.int .i64 15) ∧ Below w.heap.size w w' := by
  have hn' : (65535 : Int) < (n : Int) := by omega
  unfold maxLen at hm
  go_enter Try.func12, Try.ntmps12
  go_wp2
  go_ret
  exact ⟨rfl, Below.refl _ _⟩
theorem RCheckT_any (A : Option Addr) (n c : Nat) (L : List TyW) (rg : Int) (w : World) (hA : Typs w w.heap.size A n L) (hn : n ≤ maxLen) (hnc : n ≤ c) :
    Calls Try.prog 12 #[.slice A n c, .int .i64 rg] w fun e w' => e = .returned (.int .i64 (tyChk (tys L) rg)) ∧ Below w.heap.size w w' := by
  rcases Nat.lt_or_ge 65535 n with h | h
  · rw [tyChk_big (by rw [tys_len, hA.len]; exact h)]
    exact RCheck_big A n c rg w h hn
  · exact RCheck_small A n c L rg w hA h hnc
theorem RCheckT_is {A : Option Addr} {n c : Nat} {L : List TyW} {rg v : Int} (h : tyChk (tys L) rg = v) (w : World) (hA : Typs w w.heap.size A n L) (hn : n ≤ maxLen) (hnc : n ≤ c) :
    Calls Try.prog 12 #[.slice A n c, .int .i64 rg] w fun e w' => e = .returned (.int .i64 v) ∧ Below w.heap.size w w' := h ▸ RCheckT_any A n c L rg w hA hn hnc

/-! ### Depth -/
set_option maxRecDepth 100000 in
theorem RDepth_in {A : Option Addr} {n c : Nat} {L : List TyW} {w : World} (hA : Typs w w.heap.size A n L) (hn : n ≤ 65535) {r : Int} (hok : TyOk (tys L) r) (i : Nat) (hi : i < n) :
    Calls Try.prog 19 #[.slice A n c, .int .i64 (i : Int)] w fun e w' => e = .returned (.int .i64 (tyDep (tys L) (i : Int))) ∧ Below w.heap.size w w' := by
  have HA := hide hA
  have hl := hA.len
  have hi' : (i : Int) < (n : Int) := by omega
  have hi2 : ¬ (n : Int) ≤ (i : Int) := by omega
  have hi1 : (i : Int) + 1 = ((i + 1 : Nat) : Int) := by omega
  have hex : ∃ v, (tyDeps ((tys L).take (i + 1)))[i]? = some v := ⟨_, List.getElem?_eq_getElem (by rw [tyDeps_len, List.length_take, tys_len]; omega)⟩
  obtain ⟨v, hv⟩ := hex
  have hvv : tyDep (tys L) (i : Int) = v := by
    rw [tyDeps_take (by rw [tys_len]; omega), List.getElem?_take, if_pos (by omega)] at hv
    unfold tyDep
    rw [Int.toNat_natCast, List.getD_eq_getElem?_getD, hv]
    rfl
  have HV := hide hv
  have HVV := hide hvv
  have HOK := hide (hok.take (i + 1))
  have HI := hide hi1
  clear hA hl hok hv hvv hi1
  go_enter Try.func19, Try.ntmps19
  go_wp2_with fail
  rw [HI.out]
  refine (depths_any A n c L (i + 1) r w HA.out (by omega) hn HOK.out).mono ?_
  rintro e w2 ⟨A2, c2, rfl, h1, h2, hown, hb2⟩
  obtain ⟨g, o, rfl, _, c0⟩ := (Rd.of_own hown).int HV.out
  have hex : ∃ m, m = i + 1 := ⟨_, rfl⟩
  obtain ⟨m, hm⟩ := hex
  have him : (i : Int) < (m : Int) := by omega
  have HB2 := hide hb2
  rw [← hm]
  clear hown hb2 hm h1 h2
  go_wp2
  go_ret
  exact ⟨ret_m HVV.out, HB2.out⟩
theorem RDepth_out (A : Option Addr) (n c : Nat) (i : Int) (w : World) (hn : n ≤ 65535) (hout : ¬ (0 ≤ i ∧ i < (n : Int))) :
    Calls Try.prog 19 #[.slice A n c, .int .i64 i] w fun e w' => e = .returned (.int .i64 0) ∧ w = w' := by
  by_cases h0 : i < 0
  · clear hout
    go_enter Try.func19, Try.ntmps19
    go_wp2
    go_ret
    exact ⟨rfl, rfl⟩
  · have h1 : (n : Int) ≤ i := by omega
    have h2 : 0 ≤ i := by omega
    clear hout h0
    go_enter Try.func19, Try.ntmps19
    go_wp2
    go_ret
    exact ⟨rfl, rfl⟩
end Go.Proofs.Ytkcgonggokhneaa
