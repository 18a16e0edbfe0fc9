/- Regions, whole. -/
import Derived.Test.YtkcgonggokhneaaTypG
set_option linter.unusedVariables false
namespace Go.Proofs.Ytkcgonggokhneaa
open Go.RowKit

/-- the world when compute is called -/
def regW (w : World) : World := (w.alloc (.map #[] 0)).alloc (.cells #[.map (some w.heap.size)] 54)
theorem regW_below (w : World) : Below w.heap.size w (regW w) := ((Below.refl _ _).alloc (Nat.le_refl _) _).alloc (by simp) _
theorem regW_size (w : World) : (regW w).heap.size = w.heap.size + 2 := by simp [regW]
theorem regW_MR (w : World) (RR : List Int) : MR w.heap.size RR (regW w) fun _ => False := by
  refine ⟨by simp [regW, go_sem], by rw [regW_size]; omega, 0, .map [], (World.ownsMap_made _ _ _ _).alloc _, fun q _ => ?_, fun q h => h.elim⟩
  exact ⟨fun h => by simp [Maps.has] at h, fun h => h.elim⟩

/-- what Regions returns: the regions D in ascending order -/
def RegR (w : World) (D : Int → Prop) (e : Ending) (w' : World) : Prop := ∃ A n c ys, e = .returned (.slice A n c) ∧ n ≤ c ∧ c ≤ maxLen ∧ w'.ownsRow w.heap.size 3 1 (.slice A n c) n (i64s ys) ∧ AscI ys ∧ (∀ q, q ∈ ys ↔ D q) ∧ Below w.heap.size w w'

theorem ownsRow_shape2 {w : World} {base : Nat} {e : TypeId} {size n : Nat} {v : Value} {xs : List Value} (h : w.ownsRow base e size v n xs) : ∃ A c, v = .slice A n c ∧ n ≤ c ∧ c ≤ maxLen := by
  rcases h.2 with ⟨rfl, h0⟩ | ⟨g, cap, cur, rfl, _, _, h1, h2, _⟩
  · exact ⟨none, 0, by rw [h0], by omega, Nat.zero_le _⟩
  · exact ⟨_, _, rfl, h1, h2⟩
theorem cell_int1 (w : World) (x : Int) (t : TypeId) : ∀ j u, (i64s [x])[j]? = some u → (w.alloc (.cells #[.int .i64 x] t)).cell? ((⟨w.heap.size, 0, none⟩ : Addr).add j) = some u :=
  World.news_of_block (heap_alloc_new w _)

set_option maxHeartbeats 2000000 in
set_option maxRecDepth 100000 in
theorem Regions_of (A : Option Addr) (n c : Nat) (i : Int) (w : World) (RR : List Int) (hRR : RR.length ≤ 65535) (D : Int → Prop) (hD : ∀ q, D q → IntR q)
    (hc : Calls Try.prog 33 #[.slice A n c, .int .i64 i, .func (.func 34) #[] #[.pointer (some ⟨w.heap.size + 1, 0, none⟩)]] (regW w) fun e w' => (∃ b, e = .returned (.bool b)) ∧ MR w.heap.size RR w' D ∧ Turn (fun k => k = w.heap.size) (regW w) w') :
    Calls Try.prog 21 #[.slice A n c, .int .i64 i] w (RegR w D) := by
  obtain ⟨i0, hi, hz0, hz1, hz2⟩ := info_parts infoInt
  have HC := hide hc
  have HW := hide (regW_below w)
  have HD := hide hD
  unfold regW at HC
  have hmm := @run_makeMap Try.prog
  clear hc hD
  go_enter Try.func21, Try.ntmps21
  go_wp2_with fail
  refine HC.out.mono ?_
  rintro e w1 ⟨⟨b, rfl⟩, hm, ht⟩
  have HB1 := hide ((HW.out.trans (ht.below (B := w.heap.size) (by simp; omega) fun k hk => by omega)))
  have c1 := hm.1
  obtain ⟨Dm, hown, hh⟩ := hm.few
  have hlt := hm.2.1
  have HH := hide hh
  have HO := hide hown
  clear hm ht hh hown hmm HC
  go_wp2_with (at_range; refine wpList_range_own _ rfl _ 54 rfl 3 4 intK mapKB _ w.heap.size RR.length Dm rfl HO.out ?_; intro w0 hrg0 hg0 hs0; have HG0 := hide hg0; have HR0 := hide hrg0; have hsz0 : w1.heap.size < w0.heap.size := (by rw [hs0]; omega); clear hg0 hrg0 hs0)
  have HB0 := hide (HB1.out.grown HG0.out HB1.out.size (fun j hj => by cases hj))
  go_frame
  go_loopw [6] (fun v wr => ∃ (left : Lit → Bool) (cnt m : Nat) (ss : List Int), wr.ranges Try.prog 3 (plainElem Try.prog 4) w.heap.size w1.heap.size RR.length Dm left cnt ∧ m + cnt ≤ Maps.size Dm ∧
      wr.ownsRow (w1.heap.size + 1) 3 1 v m (i64s ss) ∧ Hid (CollI Dm left ss) ∧ Below w.heap.size w wr ∧ w1.heap.size < wr.heap.size) (fun _ wr => wr.rangeLeft w.heap.size w1.heap.size)
  case atStart => exact ⟨_, _, 0, [], HR0.out, by simp, World.ownsRow_nil _ _ _ _, CollI.start Dm, HB0.out, hsz0⟩
  case round =>
    obtain ⟨left, cnt, m, ss, hrg, hcs, hrow, HCL, hb, hsz⟩ := hrel
    have HRG := hide hrg
    have HRW := hide hrow
    have HB := hide hb
    have hmax : Maps.size Dm ≤ 65535 := by have := HO.out.size_le; omega
    clear hrg hrow hb
    go_wp2_with (at_next; refine wpList_next_ranges _ rfl _ rfl 3 intK (plainElem Try.prog 4) (Value.int .i64) (fun c : Value => c) (fun key kl hk => by obtain ⟨x, hx, _⟩ := Maps.keyOf_int_inv Try.underlying3 hk; exact ⟨x, hx⟩) (fun v y hv => ⟨v, rfl⟩) w.heap.size w1.heap.size RR.length Dm left cnt rfl HRG.out ?_ ?_)
    · intro hc0 hl0
      have HL0 := hide hl0
      clear hl0
      go_wp2_with fail
      refine (SortRowI HRW.out (by omega)).mono ?_
      rintro e w2 ⟨rfl, hrow2, hb2⟩
      obtain ⟨A2, c2, rfl, hnc2, hcm2⟩ := ownsRow_shape2 hrow2
      have HRW2 := hide (ownsRow_base hrow2 (base' := w.heap.size) (by have := HB1.out.size; omega))
      have HB2 := hide (HB.out.trans ((hb2 (by omega)).mono (by have := HB1.out.size; omega)))
      clear hrow2 hb2
      go_wp2_with fail
      go_ret
      refine ⟨A2, m, c2, _, rfl, hnc2, hcm2, HRW2.out, ascI_sort HCL.out.1, fun q => ?_, HB2.out⟩
      rw [(List.mergeSort_perm ss _).mem_iff, HCL.out.2 q, HL0.out]
      constructor
      · rintro ⟨hq, _⟩
        obtain ⟨es, hDm, _⟩ := HO.out.entries intK
        obtain ⟨es', hDm', hko⟩ := HO.out.keysOf
        subst hDm
        obtain rfl : es = es' := by simpa using hDm'
        rw [Maps.has_eq, List.any_eq_true] at hq
        obtain ⟨p, hp, hpk⟩ := hq
        obtain ⟨v, hv⟩ := hko p hp
        obtain ⟨y, _, hy, hw⟩ := Maps.keyOf_int_inv Try.underlying3 hv
        rw [hy] at hpk
        have hyq : y = q := by simpa [Lit.sameKey] using hpk
        subst hyq
        refine (HH.out y (intR_of_wf hw)).1 ?_
        rw [Maps.has_eq, List.any_eq_true]
        exact ⟨p, hp, by rw [hy]; simp [Lit.sameKey]⟩
      · intro hq
        exact ⟨(HH.out q (HD.out q hq)).2 hq, rfl⟩
    · intro x cc kl yd yp w2 cnt2 hkey hlk hv hat hrg2 hlt2 hg2 hs2 hen
      obtain ⟨x', ex, rfl, hwx⟩ := Maps.keyOf_int_inv Try.underlying3 hkey
      cases ex
      have hne : some w1.heap.size ≠ u6.ownBlock := fun e => by have := (HRW.out.lt _ e.symm).1; omega
      have hrow2 := HRW.out.kept hg2 (.inr (fun e => hne e.symm))
      have HRW2 := hide hrow2
      have HRG2 := hide hrg2
      have HB2 := hide (HB.out.grown hg2 HB.out.size (fun j hj => by cases hj; exact HB1.out.size))
      have HCS := hide (HCL.out.step hlk hat)
      have hsz2 : w1.heap.size < w2.heap.size := by rw [hs2]; exact hsz
      clear hs2 hrow2 hrg2 hg2 hlk hat hkey hv
      go_wp2_with (at_builtin; refine wpList_append_own_at _ rfl _ _ 29 rfl (w1.heap.size + 1) 3 i0 (.int .i64 0) 1 8 Try.underlying29 hi hz0 hz1 hz2 rfl (by decide) _ m _ rfl (HRW2.out.alloc _) ⟨w2.heap.size, 0, none⟩ 1 1 (i64s [x]) rfl rfl (cell_int1 w2 x 3) (ints_oneCell _ _) (by unfold maxLen; omega) (by omega) (by simp; omega) ?_; intro v3 w3 hown3 hg3 _ hat3; have HO3 := hide hown3; have HG3 := hide hg3; clear hown3 hg3 hat3)
      have hne2 : some w1.heap.size ≠ u6.ownBlock := fun e => by have := (HRW2.out.lt _ e.symm).1; omega
      have hne3 : some w.heap.size ≠ u6.ownBlock := fun e => by have := (HRW2.out.lt _ e.symm).1; have := HB1.out.size; omega
      have hrg3 := (HRG2.out.alloc _).kept HG3.out hne3 hne2
      go_roundw
      case rel =>
        refine ⟨_, cnt2, m + 1, ss ++ [x], hrg3, by omega, ?_, HCS.out, ?_, ?_⟩
        · have h := HO3.out
          rw [← List.map_append] at h
          exact h
        · exact (HB2.out.alloc HB2.out.size _).grown HG3.out (by have := HB2.out.size; simp; omega) (fun j hj => by have := (HRW2.out.lt _ hj).1; have := HB1.out.size; omega)
        · have := HG3.out.size; simp at this; omega
      case measure => rw [hrg3.left_eq, HRG.out.left_eq]; exact hlt2

section
variable {A : Option Addr} {n c : Nat} {L : List TyW} {w : World} {B : Nat} (hA : Typs w B A n L) (hB : B ≤ w.heap.size) (hnc : n ≤ c) (hcm : c ≤ maxLen) (hn : n ≤ 65535)
include hA hB hnc hcm hn
/-- Regions of an index of a valid list -/
theorem Regions_in {r : Int} (hok : TyOk (tys L) r) (hr : r ≤ 9223372036854775807) (i : Nat) (hi : i < n) : Calls Try.prog 21 #[.slice A n c, .int .i64 (i : Int)] w (RegR w (TyMen (tys L) (i : Int))) := by
  have hex : ∃ x, L[i]? = some x := ⟨_, List.getElem?_eq_getElem (by have := hA.len; omega)⟩
  obtain ⟨x, hx⟩ := hex
  have hb := regW_below w
  have hsz := regW_size w
  refine Regions_of A n c _ w ((tys L).map Ty.region) (by rw [List.length_map, List.length_map, hA.len]; exact hn) _ (fun q hq => by have := TyMen.bd hok hq; unfold IntR; omega)
    ((computeB_in (w := regW w) (Sx := fun k => k = w.heap.size) (D0 := fun _ => False) (men := TyMen (tys L)) (val := fun _ => true) (M := MR w.heap.size ((tys L).map Ty.region)) (hA.below (hb.mono hB)) (by omega) hnc hcm hn hok (fun k hk => by omega)
      (fun bm hbm w1 w2 D h ht => h.turn ht (fun e => by omega) (fun e => by omega)) (regW_MR w _)
      (fun hf => propReg (C := ctxB (regW w) A n c L (fun k => k = w.heap.size) 34 #[.pointer (some ⟨w.heap.size + 1, 0, none⟩)]) (s := w.heap.size) hok rfl rfl hf (fun k => Iff.rfl) (by show _ < (regW w).heap.size + 2; omega) hA.len) trivial i x hx).mono ?_)
  rintro e w' ⟨h1, h2, h3⟩
  have e1 : (fun q => False ∨ TyMen (tys L) (i : Int) q) = TyMen (tys L) (i : Int) := by funext q; simp
  rw [e1] at h2
  exact ⟨⟨_, h1⟩, h2, h3⟩
theorem Regions_out (i : Int) (hi : IntR i) (hout : ¬ (0 ≤ i ∧ i < (n : Int))) : Calls Try.prog 21 #[.slice A n c, .int .i64 i] w (RegR w fun _ => False) := by
  have hb := regW_below w
  have hsz := regW_size w
  refine Regions_of A n c _ w [] (by simp) _ (fun q hq => hq.elim) ((computeB_out (w := regW w) (hA.below (hb.mono hB)) (by omega) hnc hcm hn i hi hout).mono ?_)
  rintro e w' ⟨h1, h2⟩
  exact ⟨⟨_, h1⟩, (regW_MR w []).turn (Turn.of_below (S := fun _ => False) h2) (fun h => h) (fun h => h), Turn.of_below h2⟩
end
end Go.Proofs.Ytkcgonggokhneaa
