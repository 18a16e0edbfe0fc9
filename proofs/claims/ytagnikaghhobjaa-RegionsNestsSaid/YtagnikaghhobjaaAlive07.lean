/- The examples of chapter 7 hold: 'alive' returns true and turns nothing that lay. -/
import Derived.Test.YtagnikaghhobjaaRegN
import Derived.Test.YtagnikaghhobjaaRegX
import Derived.Test.YtagnikaghhobjaaRegG
import Derived.Test.YtagnikaghhobjaaLaw06
set_option linter.unusedVariables false
namespace Go.Proofs.Ytagnikaghhobjaa
open Go.RowKit

/-! ### rows that are new -/
theorem typs_new7 (w : World) (L : List TyW) (t : TypeId) (h1 : ∀ x ∈ L, OneT w w.heap.size x) : Typs (w.alloc (.cells (L.flatMap c5).toArray t)) (w.heap.size + 1) (some ⟨w.heap.size, 0, none⟩) L.length L := by
  refine ⟨⟨rfl, fun _ => ⟨w.heap.size, 0, rfl, by omega, fun i x hx j u hu => ?_⟩⟩, fun x hx => ((h1 x hx).below ((Below.refl _ _).alloc (Nat.le_refl _) _)).more (by omega)⟩
  have hj : j < 5 := by have := (List.getElem?_eq_some_iff.1 hu).1; rwa [c5_len] at this
  rw [cell_of_row (w.alloc (.cells (L.flatMap c5).toArray t)) w.heap.size (0 + i * 5 + j) (L.flatMap c5).toArray t (0, 0) (heap_alloc_new w _), Nat.zero_add]
  rw [List.getElem?_toArray, flatMap_at c5_len hx hj, hu]
theorem oneT_flat7 (w : World) (B : Nat) {x : TyW} (hA : x.n = 0) (hc : x.c = 0) (hf : x.t.fields = []) (hk : IntR x.t.kind) (hr : IntR x.t.region) (he : IntR x.t.elem) : OneT w B x := by
  obtain ⟨⟨k, m, r, e, fs⟩, A, n, c⟩ := x
  simp only [] at hA hc hf hk hr he
  subst hA hc hf
  exact ⟨⟨Nat.le_refl _, Nat.zero_le _, rfl, hk, hr, he, fun y hy => by cases hy⟩, Rd.nil _ _ _⟩
theorem prs_new (w : World) (L : List Pr) (t : TypeId) (h1 : ∀ p ∈ L, IntP p) : Prs (w.alloc (.cells (L.flatMap pV).toArray t)) (w.heap.size + 1) (some ⟨w.heap.size, 0, none⟩) L.length L := by
  refine ⟨⟨rfl, fun _ => ⟨w.heap.size, 0, rfl, by omega, fun i x hx j u hu => ?_⟩⟩, h1⟩
  have hj : j < 2 := by have := (List.getElem?_eq_some_iff.1 hu).1; rwa [pV_len] at this
  rw [cell_of_row (w.alloc (.cells (L.flatMap pV).toArray t)) w.heap.size (0 + i * 2 + j) (L.flatMap pV).toArray t (0, 0) (heap_alloc_new w _), Nat.zero_add]
  rw [List.getElem?_toArray, flatMap_at pV_len hx hj, hu]
theorem ints_new (w : World) (xs : List Int) (t : TypeId) : Rd (w.alloc (.cells (i64s xs).toArray t)) (w.heap.size + 1) (some ⟨w.heap.size, 0, none⟩) xs.length (i64s xs) :=
  ⟨by simp, fun _ => ⟨w.heap.size, 0, rfl, by omega, fun j u hu => by
    rw [cell_of_row (w.alloc (.cells (i64s xs).toArray t)) w.heap.size (0 + j) (i64s xs).toArray t (0, 0) (heap_alloc_new w _)]
    simpa using hu⟩⟩

/-! ### the example -/
abbrev ex7 : List Pr := [(0, 1), (1, 2)]
abbrev ex7b : List Pr := [(1, 2), (0, 1)]
abbrev tInt7 : TyW := ⟨⟨2, false, 0, 0, []⟩, none, 0, 0⟩
abbrev tRef7 (r : Int) : TyW := ⟨⟨3, false, r, 0, []⟩, none, 0, 0⟩
abbrev ex7L : List TyW := [tInt7, tRef7 0, tRef7 1]
abbrev ex7T : List Ty := [⟨2, false, 0, 0, []⟩, ⟨3, false, 0, 0, []⟩, ⟨3, false, 1, 0, []⟩]
theorem ex7_chk : prChk ex7 3 = 0 := by decide +kernel
theorem ex7b_chk : prChk ex7b 3 = 21 := by decide +kernel
theorem ex7_ok : TyOk ex7T 3 := tyChk_iff.1 (by decide +kernel)
theorem ex7_from2 {b : Int} (h : Way ex7 2 b) : b = 2 := by
  cases h with
  | refl => rfl
  | step m _ => simp at m
theorem ex7_from1 {b : Int} (h : Way ex7 1 b) : b = 1 ∨ b = 2 := by
  cases h with
  | refl => exact .inl rfl
  | step m w =>
    simp at m
    subst m
    exact .inr (ex7_from2 w)
theorem ex7_01 : Out ex7 3 0 1 := ⟨by omega, by omega, .one (by simp)⟩
theorem ex7_o1 : out ex7 3 0 2 = true := out_iff.2 ⟨by omega, by omega, .step (b := 1) (by simp) (.one (by simp))⟩
theorem ex7_o2 : out ex7 3 2 0 = false := out_not.2 fun h => by have := ex7_from2 h.2.2; omega
theorem ex7_clo {ys : List Int} (h : ys.Pairwise (· < ·)) (k : ∀ a, a ∈ ys ↔ OutL ex7 3 [1] a) : ys = [0, 1] := by
  refine asc_uniq h (by decide) fun a => ?_
  rw [k, outL_one]
  constructor
  · intro h
    have h1 := h.1
    have : a ≠ 2 := fun e => by subst e; have := ex7_from2 h.2.2; omega
    have : a = 0 ∨ a = 1 := by omega
    simpa using this
  · intro h
    have h' : a = 0 ∨ a = 1 := by simpa using h
    rcases h' with rfl | rfl
    · exact ex7_01
    · exact Out.refl (by omega)
theorem ex7_s1 : sub (out ex7 3) ex7T 1 2 = true := by
  refine sub_iff.2 (.mk (a := ⟨3, false, 0, 0, []⟩) (b := ⟨3, false, 1, 0, []⟩) rfl rfl (poss_mkref rfl rfl rfl (out_iff.2 ex7_01)) fun p hp => ?_)
  have e : p = (0, 0) := by simpa [needs] using hp
  subst e
  exact .mk (a := ⟨2, false, 0, 0, []⟩) (b := ⟨2, false, 0, 0, []⟩) rfl rfl (poss_flat rfl (by simp)) fun p hp => by simp [needs] at hp
theorem ex7_s2 : sub (out ex7 3) ex7T 2 1 = false := by
  refine sub_not.2 (not_sub_poss (a := ⟨3, false, 1, 0, []⟩) (b := ⟨3, false, 0, 0, []⟩) rfl rfl (poss_ref_eq rfl rfl rfl (out_not.2 fun h => ?_)))
  have h2 : (0 : Int) = 1 ∨ (0 : Int) = 2 := ex7_from1 h.2.2
  omega

theorem New_is {A : Option Addr} {n c : Nat} {ps : List Pr} {rg v : Int} (h : prChk ps rg = v) (w : World) (hA : Prs w w.heap.size A n ps) (hn : n ≤ maxLen) (hv : v ≠ 0) :
    Calls Try.prog 13 #[.slice A n c, .int .i64 rg] w fun x w' => x = .returned (.tuple #[.pointer none, .int .i64 v]) ∧ Below w.heap.size w w' := New_bad A n c ps rg v w hA hn h hv

set_option maxRecDepth 100000 in
set_option maxHeartbeats 4000000 in
theorem alive07_any (w : World) : Calls Try.prog 11 #[] w fun e w' => e = .returned (.bool true) ∧ Below w.heap.size w w' := by
  have i1 : ∀ p ∈ ex7, IntP p := by intro p hp; simp at hp; rcases hp with rfl | rfl <;> unfold IntP IntR <;> decide
  have i2 : ∀ p ∈ ex7b, IntP p := by intro p hp; simp at hp; rcases hp with rfl | rfl <;> unfold IntP IntR <;> decide
  have HP1 := hide fun (w : World) => (prs_new w ex7 31 i1)
  have HP2 := hide fun (w : World) => (prs_new w ex7b 31 i2)
  have HT := hide fun (w : World) => (typs_new7 w ex7L 50 fun x hx => by
    simp only [List.mem_cons, List.not_mem_nil, or_false] at hx
    rcases hx with rfl | rfl | rfl <;> exact oneT_flat7 _ _ rfl rfl rfl (by unfold IntR; decide) (by unfold IntR; decide) (by unfold IntR; decide))
  have HAl := hide fun (w : World) (o : Obj) => (Below.refl w.heap.size w).alloc (Nat.le_refl _) o
  clear i1 i2
  go_enter Try.func11, Try.ntmps11
  go_wp2_with fail
  refine (New_good _ 2 2 ex7 3 _ ((HP1.out w).more (by simp)) ex7_chk).mono ?_
  rintro e w1 ⟨r, rfl, hR, hb⟩
  have HR := hide hR
  have HB1 := hide ((HAl.out w (.cells #[.int .i64 0, .int .i64 1, .int .i64 1, .int .i64 2] 31)).trans (hb.mono (by simp)))
  clear hR hb
  go_wp2_with fail
  refine (New_is ex7b_chk _ ((HP2.out w1).more (by simp)) (by unfold maxLen; decide) (by decide)).mono ?_
  rintro e w2 ⟨rfl, hb⟩
  have HB2 := hide ((HAl.out w1 (.cells #[.int .i64 1, .int .i64 2, .int .i64 0, .int .i64 1] 31)).trans (hb.mono (by simp)))
  clear hb
  go_wp2_with fail
  have HRel := hide fun (w' : World) (h : Below w1.heap.size w1 w') => (HR.out.below h).more h.size
  have HB12 := hide fun (w' : World) (h : Below w2.heap.size w2 w') => HB2.out.trans (h.mono HB2.out.size)
  have HTy := hide fun (w' : World) (h : Below (w2.alloc (.cells (ex7L.flatMap c5).toArray 50)).heap.size (w2.alloc (.cells (ex7L.flatMap c5).toArray 50)) w') => ((HT.out w2).below (h.mono (by simp))).more (show w2.heap.size + 1 ≤ w'.heap.size by have := h.size; simp at this; omega)
  have HA3 := hide (HAl.out w2 (.cells (ex7L.flatMap c5).toArray 50))
  refine (Outlives_is ex7_o1 _ (HRel.out _ (HB12.out _ HA3.out))).mono ?_
  rintro e w4 ⟨rfl, hb⟩
  have HB4 := hide (show Below (w2.alloc (.cells (ex7L.flatMap c5).toArray 50)).heap.size (w2.alloc (.cells (ex7L.flatMap c5).toArray 50)) w4 from hb)
  have HC4 := hide (HB12.out _ (HA3.out.trans (HB4.out.mono HA3.out.size)))
  clear hb
  go_wp2_with fail
  refine (Outlives_is ex7_o2 _ (HRel.out _ HC4.out)).mono ?_
  rintro e w5 ⟨rfl, hb⟩
  have HB5 := hide (HB4.out.trans (hb.mono HB4.out.size))
  have HC5 := hide (HC4.out.trans (hb.mono HC4.out.size))
  clear hb
  go_wp2_with fail
  have HA5 := hide (HAl.out w5 (.cells #[.int .i64 1] 3))
  refine (Closure_any r ex7 3 _ 1 1 [1] _ (HRel.out _ (HC5.out.trans (HA5.out.mono HC5.out.size))) ((ints_new w5 [1] 3).more (by simp)) (by decide)).mono ?_
  rintro e w6 ⟨A6, m6, c6, ys, rfl, hm6, hc6, hown6, hasc6, hmem6, hb6⟩
  have HE6 := hide (ex7_clo hasc6 hmem6)
  have HRd6 := hide (Rd.of_own hown6)
  have hl6 : m6 = 2 := by have := HRd6.out.ilen; rw [HE6.out] at this; simpa using this.symm
  have HB6 := hide (HB5.out.trans ((HA5.out.trans (hb6.mono HA5.out.size)).mono HB5.out.size))
  have HC6 := hide (HC5.out.trans ((HA5.out.trans (hb6.mono HA5.out.size)).mono HC5.out.size))
  clear hown6 hasc6 hmem6 hb6
  subst hl6
  go_wp2_with fail
  have HA6 := hide (HAl.out w6 (.cells #[.int .i64 0, .int .i64 1] 3))
  refine (EqI_is (b := true) (show eqIs ys [0, 1] = true from eqIs_iff.2 HE6.out) ((HRd6.out.below HA6.out)) (ints_new w6 [0, 1] 3) (by unfold maxLen; decide) (by unfold maxLen; decide)).mono ?_
  rintro e w7 ⟨rfl, hb⟩
  have HB7 := hide (HB6.out.trans ((HA6.out.trans (hb.mono HA6.out.size)).mono HB6.out.size))
  have HC7 := hide (HC6.out.trans ((HA6.out.trans (hb.mono HA6.out.size)).mono HC6.out.size))
  clear hb
  go_wp2_with fail
  refine (Subtype_is (L := ex7L) ex7_s1 _ (HRel.out _ HC7.out) (HTy.out _ HB7.out) (by decide) ex7_ok (by unfold IntR; decide) (by unfold IntR; decide)).mono ?_
  rintro e w8 ⟨rfl, hb⟩
  have HB8 := hide (HB7.out.trans (hb.mono HB7.out.size))
  have HC8 := hide (HC7.out.trans (hb.mono HC7.out.size))
  clear hb
  go_wp2_with fail
  refine (Subtype_is (L := ex7L) ex7_s2 _ (HRel.out _ HC8.out) (HTy.out _ HB8.out) (by decide) ex7_ok (by unfold IntR; decide) (by unfold IntR; decide)).mono ?_
  rintro e w9 ⟨rfl, hb⟩
  have HC9 := hide (HC8.out.trans (hb.mono HC8.out.size))
  clear hb
  go_wp2_with fail
  go_ret
  exact ⟨rfl, HB1.out.trans (HC9.out.mono HB1.out.size)⟩
end Go.Proofs.Ytagnikaghhobjaa
