/- The reference's Regions. -/
import Derived.Test.YtkcgonggokhneaaTypZ2
import Derived.Test.YtkcgonggokhneaaTypR
set_option linter.unusedVariables false
namespace Go.Proofs.Ytkcgonggokhneaa
open Go.RowKit

theorem ascI_snoc {ys : List Int} {q : Int} (h : AscI ys) (hq : ∀ y ∈ ys, y < q) : AscI (ys ++ [q]) := by
  refine List.pairwise_append.2 ⟨h, List.pairwise_singleton _ _, fun a ha b hb => ?_⟩
  obtain rfl : b = q := by simpa using hb
  exact hq a ha

set_option maxHeartbeats 2000000 in
set_option maxRecDepth 100000 in
theorem RRegions_of (A : Option Addr) (n c : Nat) (L : List TyW) (i r : Int) (w : World) (hA : Typs w w.heap.size A n L) (hn : n ≤ 65535) (hok : TyOk (tys L) r) (hr : r ≤ 1000000) (D : Int → Prop) (hD : ∀ q, D q → 0 ≤ q ∧ ∃ t ∈ tys L, t.region = q)
    (hM : ∀ (w' : World) (q : Int) (b : Bool), Below w.heap.size w w' → (b = true ↔ D q) → Calls Try.prog 37 #[.slice A n c, .int .i64 i, .int .i64 q] w' fun e w'' => e = .returned (.bool b) ∧ Below w'.heap.size w' w'') :
    Calls Try.prog 22 #[.slice A n c, .int .i64 i] w (RegR w D) := by
  obtain ⟨i0, hi, hz0, hz1, hz2⟩ := info_parts infoInt
  have HA := hide hA
  have HL := hide hA.len
  have HOK := hide hok
  have HD := hide hD
  have HM := hide hM
  have hrb : ∀ (k : Nat) (t : Ty), (tys L)[k]? = some t → 0 ≤ t.region ∧ t.region ≤ 1000000 := fun k t ht => by
    have h := hok.own ht
    by_cases h3 : t.kind = 3
    · have := h.2.2.2.1 h3; omega
    · have := (h.2.1 h3).2.1; omega
  have HRB := hide hrb
  clear hA hok hD hM hrb
  go_enter Try.func22, Try.ntmps22
  go_wp2
  go_loop [6, 7] (fun mo k => ∃ (j : Nat) (mx : Int), k = .int .i64 (j : Int) ∧ j ≤ n ∧ mo = .int .i64 mx ∧ -1 ≤ mx ∧ mx ≤ 1000000 ∧ Hid (∀ (k : Nat) (t : Ty), k < j → (tys L)[k]? = some t → t.region ≤ mx)) (fun _ k => n - (intOf k).toNat)
  case atStart => exact ⟨0, -1, rfl, Nat.zero_le _, rfl, by decide, by decide, fun k t h => absurd h (by omega)⟩
  case round =>
    obtain ⟨j, mx, rfl, hj, rfl, hm0, hm1, HX⟩ := hrel
    by_cases hlt : j < n
    · have hlt' : (j : Int) < (n : Int) := by omega
      have hex : ∃ a, L[j]? = some a := ⟨_, List.getElem?_eq_getElem (by have := HL.out; omega)⟩
      obtain ⟨x, hx⟩ := hex
      have hat := tys_at hx
      obtain ⟨g, o, rfl, hgB, _, c0, c1, c2, c3, c4⟩ := HA.out.at_ hx
      have hb := HRB.out j _ hat
      obtain ⟨hb0, hb1⟩ := hb
      have HAT := hide hat
      clear hx hat
      go_wp2_with fail
      go_round
      case rel =>
        refine ⟨j + 1, max mx x.t.region, by go_num, by omega, by first | rfl | rw [ite_max], by omega, by omega, fun k t hk ht => ?_⟩
        rcases Nat.lt_or_ge k j with h | h
        · have := HX.out k t h ht; omega
        · obtain rfl : k = j := by omega
          rw [HAT.out] at ht
          injection ht with ht
          subst ht
          omega
      case measure => simp [intOf]; omega
    · obtain rfl : j = n := by omega
      have HALL : Hid (∀ q, D q → 0 ≤ q ∧ q ≤ mx) := fun q hq => by
        obtain ⟨h0, t, ht, rfl⟩ := HD.out q hq
        obtain ⟨k, hk⟩ := List.getElem?_of_mem ht
        exact ⟨h0, HX.out k t (by have := (List.getElem?_eq_some_iff.1 hk).1; rw [tys_len, HL.out] at this; exact this) hk⟩
      clear HX
      go_wp2_with fail
      go_loopw [5, 8] (fun v rr wr => ∃ (q m : Nat) (ys : List Int), rr = .int .i64 (q : Int) ∧ (q : Int) ≤ mx + 1 ∧ m ≤ q ∧ wr.ownsRow w.heap.size 3 1 v m (i64s ys) ∧ Hid (AscI ys) ∧ Hid (∀ z, z ∈ ys ↔ (z < (q : Int) ∧ D z)) ∧ Below w.heap.size w wr) (fun _ rr _ => (mx + 1 - intOf rr).toNat)
      case atStart => exact ⟨0, 0, [], rfl, by omega, Nat.le_refl _, World.ownsRow_nil _ _ _ _, List.Pairwise.nil, fun z => ⟨(fun h => by cases h), fun h => by have := HALL.out z h.2; omega⟩, Below.refl _ _⟩
      case round =>
        obtain ⟨q, m, ys, rfl, hq, hmq, hown, HASC, HMEM, hb⟩ := hrel
        have HO := hide hown
        have HB := hide hb
        have hsz := hb.size
        clear hown hb
        by_cases hle : (q : Int) ≤ mx
        · by_cases hd : D (q : Int)
          · have HC := hide (HM.out wr (q : Int) true HB.out ⟨fun _ => hd, fun _ => rfl⟩)
            have HASC2 := hide (ascI_snoc (q := (q : Int)) HASC.out fun y hy => ((HMEM.out y).1 hy).1)
            have HMEM2 : Hid (∀ z, z ∈ ys ++ [(q : Int)] ↔ (z < ((q + 1 : Nat) : Int) ∧ D z)) := fun z => by
              rw [List.mem_append, HMEM.out z, List.mem_singleton]
              constructor
              · rintro (⟨h1, h2⟩ | rfl)
                · exact ⟨by omega, h2⟩
                · exact ⟨by omega, hd⟩
              · rintro ⟨h1, h2⟩
                by_cases hz : z = (q : Int)
                · exact .inr hz
                · exact .inl ⟨by omega, h2⟩
            clear hd
            go_wp2_with fail
            refine HC.out.mono ?_
            rintro e w1 ⟨rfl, hb1⟩
            have HB1 := hide (HB.out.trans (hb1.mono hsz))
            have HO1 := hide (ownsRow_below HO.out hb1)
            have hsz1 := HB1.out.size
            clear hb1
            go_wp2_with (at_builtin; refine wpList_append_own_at _ rfl _ _ 29 rfl w.heap.size 3 i0 (.int .i64 0) 1 8 Try.underlying29 hi hz0 hz1 hz2 rfl (by decide) _ m _ rfl (HO1.out.alloc _) ⟨w1.heap.size, 0, none⟩ 1 1 (i64s [(q : Int)]) rfl rfl (cell_int2 w1 (q : Int) 3) (ints_oneCell _ _) (by unfold maxLen; omega) (by omega) (by simp; omega) ?_; intro v5 w5 hown5 hg5 _ hat5; have HO5 := hide hown5; have HB5 := hide (below_app (HB1.out.alloc hsz1 _) (HO1.out.alloc _) (by simp; omega) hg5); clear hown5 hg5 hat5)
            go_roundw
            case rel =>
              refine ⟨q + 1, m + 1, ys ++ [(q : Int)], by go_num, by omega, by omega, ?_, HASC2.out, HMEM2.out, HB5.out⟩
              have h := HO5.out
              rw [← List.map_append] at h
              exact h
            case measure => simp [intOf]; omega
          · have HC := hide (HM.out wr (q : Int) false HB.out ⟨(fun h => by cases h), fun h => absurd h hd⟩)
            have HMEM2 : Hid (∀ z, z ∈ ys ↔ (z < ((q + 1 : Nat) : Int) ∧ D z)) := fun z => by
              rw [HMEM.out z]
              constructor
              · rintro ⟨h1, h2⟩
                exact ⟨by omega, h2⟩
              · rintro ⟨h1, h2⟩
                refine ⟨?_, h2⟩
                by_cases hz : z = (q : Int)
                · exact absurd (hz ▸ h2) hd
                · omega
            clear hd
            go_wp2_with fail
            refine HC.out.mono ?_
            rintro e w1 ⟨rfl, hb1⟩
            have HB1 := hide (HB.out.trans (hb1.mono hsz))
            have HO1 := hide (ownsRow_below HO.out hb1)
            clear hb1
            go_wp2_with fail
            go_roundw
            case rel => exact ⟨q + 1, m, ys, by go_num, by omega, by omega, HO1.out, HASC.out, HMEM2.out, HB1.out⟩
            case measure => simp [intOf]; omega
        · obtain ⟨A2, c2, rfl, hnc2, hcm2⟩ := ownsRow_shape3 HO.out
          have hle2 : ¬ (q : Int) ≤ mx := hle
          go_wp2
          go_ret
          refine ⟨A2, m, c2, ys, rfl, hnc2, hcm2, HO.out, HASC.out, fun z => ?_, HB.out⟩
          rw [HMEM.out z]
          exact ⟨fun h => h.2, fun h => ⟨by have := HALL.out z h; omega, h⟩⟩

theorem RRegions_in {A : Option Addr} {n c : Nat} {L : List TyW} {w : World} (hA : Typs w w.heap.size A n L) (hn : n ≤ 65535) {r : Int} (hok : TyOk (tys L) r) (hr : r ≤ 1000000) (i : Nat) (hi : i < n) :
    Calls Try.prog 22 #[.slice A n c, .int .i64 (i : Int)] w (RegR w (TyMen (tys L) (i : Int))) :=
  RRegions_of A n c L _ r w hA hn hok hr _ (fun q hq => by have := TyMen.bd hok hq; exact ⟨this.1, this.2.2⟩) fun w' q b hb hq => Mentions_is hn hok (by omega) q (i + 1) i (Nat.lt_succ_self _) hi w' b (hA.below hb) hb.size hq
theorem RRegions_out {A : Option Addr} {n c : Nat} {L : List TyW} {w : World} (hA : Typs w w.heap.size A n L) (hn : n ≤ 65535) {r : Int} (hok : TyOk (tys L) r) (hr : r ≤ 1000000) (i : Int) (hout : ¬ (0 ≤ i ∧ i < (n : Int))) :
    Calls Try.prog 22 #[.slice A n c, .int .i64 i] w (RegR w fun _ => False) :=
  RRegions_of A n c L _ r w hA hn hok hr _ (fun q hq => hq.elim) fun w' q b hb hq => by
    have hbf : b = false := by
      cases b
      · rfl
      · exact (hq.1 rfl).elim
    subst hbf
    refine (Mentions_out A n c i q w' hn hout).mono ?_
    rintro e w'' ⟨rfl, rfl⟩
    exact ⟨rfl, Below.refl _ _⟩
/-- two of them are one -/
theorem RegR.one {D : Int → Prop} {ys zs : List Int} (h1 : AscI ys) (h2 : AscI zs) (k1 : ∀ q, q ∈ ys ↔ D q) (k2 : ∀ q, q ∈ zs ↔ D q) : ys = zs := ascI_ext h1 h2 fun q => (k1 q).trans (k2 q).symm
end Go.Proofs.Ytkcgonggokhneaa
