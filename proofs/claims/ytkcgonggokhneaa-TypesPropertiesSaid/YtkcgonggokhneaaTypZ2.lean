/- The reference's Copyable and Regions. -/
import Derived.Test.YtkcgonggokhneaaTypZ
set_option linter.unusedVariables false
namespace Go.Proofs.Ytkcgonggokhneaa
open Go.RowKit

set_option maxHeartbeats 2000000 in
set_option maxRecDepth 100000 in
theorem RCop_in {A : Option Addr} {n c : Nat} {L : List TyW} {B : Nat} (hn : n ≤ 65535) {r : Int} (hok : TyOk (tys L) r) :
    ∀ m i : Nat, i < m → i < n → ∀ w : World, Typs w B A n L → B ≤ w.heap.size →
      Calls Try.prog 24 #[.slice A n c, .int .i64 (i : Int)] w fun e w' => e = .returned (.bool (tyCop (tys L) (i : Int))) ∧ Below w.heap.size w w' := by
  intro m
  induction m with
  | zero => intro i hi; exact absurd hi (by omega)
  | succ m ih =>
    intro i him hi w hA hB
    have hl := hA.len
    have hex : ∃ a, L[i]? = some a := ⟨_, List.getElem?_eq_getElem (by omega)⟩
    obtain ⟨x, hx⟩ := hex
    have hat := tys_at hx
    have how := hok.own hat
    have hcp := hok.cop_at hat
    have hi' : (i : Int) < (n : Int) := by omega
    have hi2 : ¬ (n : Int) ≤ (i : Int) := by omega
    have HA := hide hA
    have hex : ∃ v, v = tyCop (tys L) (i : Int) := ⟨_, rfl⟩
    obtain ⟨v, hv⟩ := hex
    rw [← hv] at hcp ⊢
    clear hv
    by_cases h3 : x.t.kind = 3
    · obtain ⟨g, o, rfl, hgB, hone, c0, c1, c2, c3, c4⟩ := hA.at_ hx
      have e3 : (x.t.kind != 3) = false := by simp [h3]
      have hfs : x.n = 0 := by rw [← hone.ok.len, how.2.2.1 (by omega)]; rfl
      rw [hfs] at c4
      rw [if_pos h3] at hcp
      cases hmu : x.t.mut_
      · rw [hmu] at c1 hcp
        subst hcp
        clear hA hx hat how hone hfs ih h3 hok hmu
        go_enter Try.func24, Try.ntmps24
        go_wp2_with fail
        go_loop [5] (fun j => j = .int .i64 0) (fun _ => 0)
        case atStart => rfl
        case round =>
          subst hrel
          go_wp2
          go_ret
          exact ⟨rfl, Below.refl _ _⟩
      · rw [hmu] at c1 hcp
        subst hcp
        clear hA hx hat how hone hfs ih h3 hok hmu
        go_enter Try.func24, Try.ntmps24
        go_wp2_with fail
        go_loop [5] (fun j => j = .int .i64 0) (fun _ => 0)
        case atStart => rfl
        case round =>
          subst hrel
          go_wp2
          go_ret
          exact ⟨rfl, Below.refl _ _⟩
    · have e3 : (x.t.kind != 3) = true := by rw [bne_iff_ne]; exact h3
      have hpp : tyParts x.t = x.t.fields := hok.fields hat h3
      rw [if_neg h3, hpp] at hcp
      have HCP := hide hcp
      have HX := hide hx
      have HIH := hide ih
      have hone := hA.one x (List.mem_of_getElem? hx)
      have HONE := hide hone
      have HFL := hide hone.ok.len
      have hnf : x.n ≤ maxLen := Nat.le_trans hone.ok.nc hone.ok.cm
      unfold maxLen at hnf
      have HPP := hide (fun p hp => how.2.2.2.2.1 p (by rw [hpp]; exact hp) : ∀ p ∈ x.t.fields, 0 ≤ p ∧ p < (i : Int))
      clear hA hx hat how hcp hone hpp ih h3 hok
      go_enter Try.func24, Try.ntmps24
      go_wp2_with fail
      go_loopw [5] (fun j wr => ∃ k : Nat, j = .int .i64 (k : Int) ∧ k ≤ x.n ∧ Hid ((x.t.fields.take k).all (tyCop (tys L)) = true) ∧ Hid (Below w.heap.size w wr)) (fun j _ => x.n - (intOf j).toNat)
      case atStart => exact ⟨0, rfl, Nat.zero_le _, rfl, Below.refl _ _⟩
      case round =>
        obtain ⟨k, rfl, hk, HN, HW⟩ := hrel
        have hsz := HW.out.size
        have hAr := HA.out.below (HW.out.mono hB)
        obtain ⟨g, o, rfl, hgB, _, c0, c1, c2, c3, c4⟩ := hAr.at_ HX.out
        by_cases hlt : k < x.n
        · have hlt' : (k : Int) < (x.n : Int) := by omega
          have hex : ∃ p, x.t.fields[k]? = some p := ⟨_, List.getElem?_eq_getElem (by have := HFL.out; omega)⟩
          obtain ⟨p, hp⟩ := hex
          obtain ⟨gf, of, hAf, hgf, df⟩ := (HONE.out.rd.below (HW.out.mono hB)).int hp
          rw [hAf] at c4
          have hmem := List.mem_of_getElem? hp
          have HP := hide hp
          have hpp := HPP.out p hmem
          obtain ⟨hp0, hp1⟩ := hpp
          obtain ⟨y, rfl⟩ := Int.eq_ofNat_of_zero_le hp0
          have hih := HIH.out y (by omega) (by omega) wr hAr (by omega)
          cases hc : tyCop (tys L) (y : Int)
          · rw [hc] at hih
            have HC := hide hih
            have hvf : v = false := by
              rw [HCP.out]
              cases hq : x.t.fields.all (tyCop (tys L))
              · rfl
              · rw [List.all_eq_true.1 hq _ hmem] at hc; cases hc
            subst hvf
            clear hp hmem hih hc hAr hAf
            go_wp2_with fail
            refine HC.out.mono ?_
            rintro e w1 ⟨rfl, hb1⟩
            have HB1 := hide (HW.out.trans (hb1.mono hsz))
            clear hb1
            go_wp2_with fail
            go_ret
            exact ⟨rfl, HB1.out⟩
          · rw [hc] at hih
            have HC := hide hih
            have HN2 : Hid ((x.t.fields.take (k + 1)).all (tyCop (tys L)) = true) := by
              show _ = _
              rw [List.take_add_one, HP.out, List.all_append, HN.out]
              simp [hc]
            clear hp hmem hih hc hAr hAf
            go_wp2_with fail
            refine HC.out.mono ?_
            rintro e w1 ⟨rfl, hb1⟩
            have HB1 := hide (HW.out.trans (hb1.mono hsz))
            clear hb1
            go_wp2_with fail
            go_roundw
            case rel => exact ⟨k + 1, by go_num, by omega, HN2.out, HB1.out⟩
            case measure => simp [intOf]; omega
        · obtain rfl : k = x.n := by omega
          have hvt : v = true := by
            rw [HCP.out]
            have := HN.out
            rwa [List.take_of_length_le (Nat.le_of_eq HFL.out)] at this
          subst hvt
          clear hAr
          go_wp2
          go_ret
          exact ⟨rfl, HW.out⟩
theorem RCop_out (A : Option Addr) (n c : Nat) (i : Int) (w : World) (hn : n ≤ 65535) (hout : ¬ (0 ≤ i ∧ i < (n : Int))) :
    Calls Try.prog 24 #[.slice A n c, .int .i64 i] w fun e w' => e = .returned (.bool false) ∧ w = w' := by
  by_cases h0 : i < 0
  · clear hout
    go_enter Try.func24, Try.ntmps24
    go_wp2
    go_ret
    exact ⟨rfl, rfl⟩
  · have h1 : (n : Int) ≤ i := by omega
    have h2 : 0 ≤ i := by omega
    clear hout h0
    go_enter Try.func24, Try.ntmps24
    go_wp2
    go_ret
    exact ⟨rfl, rfl⟩
theorem Mentions_out (A : Option Addr) (n c : Nat) (i q : Int) (w : World) (hn : n ≤ 65535) (hout : ¬ (0 ≤ i ∧ i < (n : Int))) :
    Calls Try.prog 37 #[.slice A n c, .int .i64 i, .int .i64 q] w fun e w' => e = .returned (.bool false) ∧ w = w' := by
  by_cases h0 : i < 0
  · clear hout
    go_enter Try.func37, Try.ntmps37
    go_wp2
    go_ret
    exact ⟨rfl, rfl⟩
  · have h1 : (n : Int) ≤ i := by omega
    have h2 : 0 ≤ i := by omega
    clear hout h0
    go_enter Try.func37, Try.ntmps37
    go_wp2
    go_ret
    exact ⟨rfl, rfl⟩
end Go.Proofs.Ytkcgonggokhneaa
