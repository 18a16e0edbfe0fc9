/- The reference's Mentions, Copyable and Regions. -/
import Derived.Test.YtkcgonggokhneaaTypY
set_option linter.unusedVariables false
namespace Go.Proofs.Ytkcgonggokhneaa
open Go.RowKit

set_option maxHeartbeats 2000000 in
set_option maxRecDepth 100000 in
theorem Mentions_is {A : Option Addr} {n c : Nat} {L : List TyW} {B : Nat} (hn : n ≤ 65535) {r : Int} (hok : TyOk (tys L) r) (hr : r ≤ 9223372036854775807) (q : Int) :
    ∀ m i : Nat, i < m → i < n → ∀ (w : World) (b : Bool), Typs w B A n L → B ≤ w.heap.size → (b = true ↔ TyMen (tys L) (i : Int) q) →
      Calls Try.prog 37 #[.slice A n c, .int .i64 (i : Int), .int .i64 q] w fun e w' => e = .returned (.bool b) ∧ Below w.heap.size w w' := by
  intro m
  induction m with
  | zero => intro i hi; exact absurd hi (by omega)
  | succ m ih =>
    intro i him hi w b hA hB hb
    have hl := hA.len
    have hex : ∃ a, L[i]? = some a := ⟨_, List.getElem?_eq_getElem (by omega)⟩
    obtain ⟨x, hx⟩ := hex
    have hat := tys_at hx
    have how := hok.own hat
    have hma := hok.men_at hat q
    obtain ⟨g, o, rfl, hgB, hone, c0, c1, c2, c3, c4⟩ := hA.at_ hx
    have hi' : (i : Int) < (n : Int) := by omega
    have hi2 : ¬ (n : Int) ≤ (i : Int) := by omega
    have hgs : g < w.heap.size := by omega
    have HA := hide hA
    have hbx := (Below.refl w.heap.size w).alloc (Nat.le_refl _) (.cells (c5 x).toArray 31)
    have HBX := hide hbx
    obtain ⟨⟨kd, mu, rg, el, fs⟩, F, nf, cf⟩ := x
    simp only [] at c0 c1 c2 c3 c4
    have hfl : fs.length = nf := hone.ok.len
    have hnf : nf ≤ maxLen := Nat.le_trans hone.ok.nc hone.ok.cm
    unfold maxLen at hnf
    have HONE := hide hone
    by_cases h3 : kd = 3
    · have e3 : (kd == 3) = true := beq_iff_eq.2 h3
      have hfs : fs = [] := how.2.2.1 (by simp only []; omega)
      have hnf0 : nf = 0 := by rw [← hfl, hfs]; rfl
      subst hnf0
      have hpp : tyParts ⟨kd, mu, rg, el, fs⟩ = [el] := tyParts_ref h3
      have hp := how.2.2.2.2.1 el (by rw [hpp]; simp)
      obtain ⟨hp0, hp1⟩ := hp
      obtain ⟨p, rfl⟩ := Int.eq_ofNat_of_zero_le hp0
      by_cases hrq : rg = q
      · have e4 : (rg == q) = true := beq_iff_eq.2 hrq
        have hbt : b = true := hb.2 (hma.2 (.inl ⟨h3, hrq.symm⟩))
        subst hbt
        clear hA hx hat how hma hbx hone hfl hpp hfs hb ih h3 hrq hok
        go_enter Try.func37, Try.ntmps37
        go_wp2
        go_ret
        exact ⟨rfl, HBX.out⟩
      · have e4 : (rg == q) = false := beq_eq_false_iff_ne.2 hrq
        have hb2 : b = true ↔ TyMen (tys L) (p : Int) q := by
          rw [hb, hma, hpp]
          constructor
          · rintro (⟨_, h⟩ | ⟨y, hy, h⟩)
            · exact absurd h.symm hrq
            · obtain rfl : y = (p : Int) := by simpa using hy
              exact h
          · exact fun h => .inr ⟨(p : Int), by simp, h⟩
        have HIH := hide (ih p (by omega) (by omega) (w.alloc (.cells (c5 ⟨⟨kd, mu, rg, (p : Int), fs⟩, F, 0, cf⟩).toArray 31)) b (HA.out.below (HBX.out.mono hB)) (Nat.le_trans hB HBX.out.size) hb2)
        clear hA hx hat how hma hbx hone hfl hpp hfs hb hb2 ih h3 hrq hok
        cases b
        · go_enter Try.func37, Try.ntmps37
          go_wp2_with fail
          refine HIH.out.mono ?_
          rintro e w1 ⟨rfl, hb1⟩
          have HB1 := hide (HBX.out.trans (hb1.mono HBX.out.size))
          have f4 : w1.cell? ⟨w.heap.size, 4, none⟩ = some (.slice F 0 cf) := (hb1.cell (p := ⟨w.heap.size, 4, none⟩) (by simp)).trans (by simp [go_sem, c5])
          clear hb1
          go_wp2_with fail
          go_loop [8] (fun j => j = .int .i64 0) (fun _ => 0)
          case atStart => rfl
          case round =>
            subst hrel
            go_wp2
            go_ret
            exact ⟨rfl, HB1.out⟩
        · go_enter Try.func37, Try.ntmps37
          go_wp2_with fail
          refine HIH.out.mono ?_
          rintro e w1 ⟨rfl, hb1⟩
          have HB1 := hide (HBX.out.trans (hb1.mono HBX.out.size))
          clear hb1
          go_wp2_with fail
          go_ret
          exact ⟨rfl, HB1.out⟩
    · have e3 : (kd == 3) = false := beq_eq_false_iff_ne.2 h3
      have hpp : tyParts ⟨kd, mu, rg, el, fs⟩ = fs := hok.fields hat h3
      have hb2 : b = true ↔ ∃ p ∈ fs, TyMen (tys L) p q := by
        rw [hb, hma, hpp]
        exact ⟨fun h => h.elim (fun h => absurd h.1 h3) id, .inr⟩
      have HB2 := hide hb2
      have HPP := hide (fun p hp => how.2.2.2.2.1 p (by rw [hpp]; exact hp) : ∀ p ∈ fs, 0 ≤ p ∧ p < (i : Int))
      have HIH := hide ih
      have HFL := hide hfl
      have HBW : Hid (Below (w.heap.size + 1) (w.alloc (.cells (c5 ⟨⟨kd, mu, rg, el, fs⟩, F, nf, cf⟩).toArray 31)) (w.alloc (.cells (c5 ⟨⟨kd, mu, rg, el, fs⟩, F, nf, cf⟩).toArray 31))) := Below.refl _ _
      clear hA hx hat how hma hbx hone hfl hpp hb hb2 ih h3 hok
      go_enter Try.func37, Try.ntmps37
      go_wp2_with fail
      go_loopw [8] (fun j wr => ∃ k : Nat, j = .int .i64 (k : Int) ∧ k ≤ nf ∧ Hid (∀ p ∈ fs.take k, ¬ TyMen (tys L) p q) ∧ Hid (Below (w.heap.size + 1) (w.alloc (.cells (c5 ⟨⟨kd, mu, rg, el, fs⟩, F, nf, cf⟩).toArray 31)) wr)) (fun j _ => nf - (intOf j).toNat)
      case atStart => exact ⟨0, rfl, Nat.zero_le _, fun p hp => by simp at hp, HBW.out⟩
      case round =>
        obtain ⟨k, rfl, hk, HN, HW⟩ := hrel
        have hsz := HW.out.size
        simp only [World.size_alloc] at hsz
        have f4 : wr.cell? ⟨w.heap.size, 4, none⟩ = some (.slice F nf cf) := box_at HW.out rfl
        have HW2 := hide (box_below HW.out)
        by_cases hlt : k < nf
        · have hlt' : (k : Int) < (nf : Int) := by omega
          have hex : ∃ p, fs[k]? = some p := ⟨_, List.getElem?_eq_getElem (by have := HFL.out; omega)⟩
          obtain ⟨p, hp⟩ := hex
          obtain ⟨gf, of, rfl, hgf, df⟩ := (HONE.out.rd.below (HW2.out.mono hB)).int hp
          have hmem := List.mem_of_getElem? hp
          have HP := hide hp
          have hpp := HPP.out p hmem
          obtain ⟨hp0, hp1⟩ := hpp
          obtain ⟨y, rfl⟩ := Int.eq_ofNat_of_zero_le hp0
          have hty := HA.out.below (HW2.out.mono hB)
          by_cases hyes : TyMen (tys L) (y : Int) q
          · have hbt : b = true := HB2.out.2 ⟨(y : Int), hmem, hyes⟩
            subst hbt
            have HC := hide (HIH.out y (by omega) (by omega) wr true hty (by omega) ⟨fun _ => hyes, fun _ => rfl⟩)
            clear hp hmem hyes hty
            go_wp2_with fail
            refine HC.out.mono ?_
            rintro e w1 ⟨rfl, hb1⟩
            have HB1 := hide (HW2.out.trans (hb1.mono (by omega)))
            clear hb1
            go_wp2_with fail
            go_ret
            exact ⟨rfl, HB1.out⟩
          · have HC := hide (HIH.out y (by omega) (by omega) wr false hty (by omega) ⟨(fun h => by cases h), fun h => absurd h hyes⟩)
            have HN2 : Hid (∀ p ∈ fs.take (k + 1), ¬ TyMen (tys L) p q) := fun z hz => by
              rw [List.take_add_one, HP.out] at hz
              rcases List.mem_append.1 hz with hz | hz
              · exact HN.out z hz
              · obtain rfl : z = (y : Int) := by simpa using hz
                exact hyes
            clear hp hmem hyes hty
            go_wp2_with fail
            refine HC.out.mono ?_
            rintro e w1 ⟨rfl, hb1⟩
            have HW3 := hide (HW.out.trans (hb1.mono hsz))
            clear hb1
            go_wp2_with fail
            go_roundw
            case rel => exact ⟨k + 1, by go_num, by omega, HN2.out, HW3.out⟩
            case measure => simp [intOf]; omega
        · obtain rfl : k = nf := by omega
          have hbf : b = false := by
            cases b
            · rfl
            · obtain ⟨p, hp, h⟩ := HB2.out.1 rfl
              exact absurd h (HN.out p (by rw [List.take_of_length_le (Nat.le_of_eq HFL.out)]; exact hp))
          subst hbf
          go_wp2
          go_ret
          exact ⟨rfl, HW2.out⟩
end Go.Proofs.Ytkcgonggokhneaa
