/- The examples of chapter 8 hold: 'alive' returns true and turns nothing that lay. -/
import Derived.Test.YtphfiohjkjipiaaPlaE
import Derived.Test.YtphfiohjkjipiaaPlaD
import Derived.Test.YtphfiohjkjipiaaPlaG
set_option linter.unusedVariables false
namespace Go.Proofs.Ytphfiohjkjipiaa
open Go.RowKit

/-! ### rows that are new -/
theorem cells_new8 {α : Type} (w : World) (f : α → List Value) {k : Nat} (hk : ∀ x, (f x).length = k) (L : List α) (t : TypeId) : Cells (w.alloc (.cells (L.flatMap f).toArray t)) (w.heap.size + 1) k f (some ⟨w.heap.size, 0, none⟩) L.length L := by
  refine ⟨rfl, fun _ => ⟨w.heap.size, 0, rfl, by omega, fun i x hx j u hu => ?_⟩⟩
  have hj : j < k := by have := (List.getElem?_eq_some_iff.1 hu).1; rwa [hk] at this
  rw [cell_of_row (w.alloc (.cells (L.flatMap f).toArray t)) w.heap.size (0 + i * k + j) (L.flatMap f).toArray t (0, 0) (heap_alloc_new w _), Nat.zero_add]
  rw [List.getElem?_toArray, flatMap_at hk hx hj, hu]
theorem rd_new8 (w : World) (xs : List Int) (t : TypeId) : Rd (w.alloc (.cells (i64s xs).toArray t)) (w.heap.size + 1) (some ⟨w.heap.size, 0, none⟩) xs.length (i64s xs) :=
  ⟨by simp, fun _ => ⟨w.heap.size, 0, rfl, by omega, fun j u hu => by
    rw [cell_of_row (w.alloc (.cells (i64s xs).toArray t)) w.heap.size (0 + j) (i64s xs).toArray t (0, 0) (heap_alloc_new w _)]
    simpa using hu⟩⟩
theorem oneT_flat8 (w : World) (B : Nat) {x : TyW} (hA : x.n = 0) (hc : x.c = 0) (hf : x.t.fields = []) (hk : IntR x.t.kind) (hr : IntR x.t.region) (he : IntR x.t.elem) : OneT w B x := by
  obtain ⟨⟨k, m, r, e, fs⟩, A, n, c⟩ := x
  simp only [] at hA hc hf hk hr he
  subst hA hc hf
  exact ⟨⟨Nat.le_refl _, Nat.zero_le _, rfl, hk, hr, he, fun y hy => by cases hy⟩, Rd.nil _ _ _⟩
theorem one_new8 (w : World) (l : Int) (hl : IntR l) (L : List Pr) (hL : ∀ p ∈ L, IntP p) (hn : L.length ≤ maxLen) (t : TypeId) : OnePl (w.alloc (.cells (L.flatMap pV).toArray t)) (w.alloc (.cells (L.flatMap pV).toArray t)).heap.size ⟨l, some ⟨w.heap.size, 0, none⟩, L.length, L.length, L⟩ :=
  ⟨Nat.le_refl _, hn, hl, ⟨(cells_new8 w pV pV_len L t).more (by simp), hL⟩⟩

/-! ### the example -/
abbrev t8Int : TyW := ⟨⟨2, false, 0, 0, []⟩, none, 0, 0⟩
abbrev t8Ref : TyW := ⟨⟨3, true, 1, 0, []⟩, none, 0, 0⟩
abbrev t8Tup (g : Nat) : TyW := ⟨⟨4, false, 0, 0, [1, 0]⟩, some ⟨g, 0, none⟩, 2, 2⟩
abbrev ex8L (g : Nat) : List TyW := [t8Int, t8Ref, t8Tup g]
abbrev ex8T : List Ty := [⟨2, false, 0, 0, []⟩, ⟨3, true, 1, 0, []⟩, ⟨4, false, 0, 0, [1, 0]⟩]
theorem ex8T_of (g : Nat) : tys (ex8L g) = ex8T := rfl
abbrev ex8LL : List LcW := [⟨⟨#[120]⟩, 2⟩]
abbrev ex8P : List Pr := [(1, 0), (0, 0)]
theorem ex8_ok : TyOk ex8T 2 := tyChk_iff.1 (by decide +kernel)
theorem ex8_lc : LcOk ex8T [2] := fun t ht => by
  have : t = 2 := by simpa using ht
  subst this
  decide
theorem ex8_ty : tyOfP ex8T [2] 0 ex8P = (0, 0) := by decide +kernel
theorem ex8_ty2 : tyOfP ex8T [2] 0 [(1, 2)] = (0, 3) := by decide +kernel
theorem ex8_ty3 : tyOfP ex8T [2] 0 [(0, 0)] = (0, 22) := by decide +kernel
theorem ex8_mut : mutP ex8T [2] 0 ex8P = true := by decide +kernel
theorem ex8_reg : regP ex8T [2] 0 ex8P = [1] := by decide +kernel
theorem ex8_err : plErr 0 ex8P = 0 := by decide +kernel
theorem ex8_d1 : hasD ex8P 1 = true := by decide +kernel
theorem ex8_d2 : hasD ex8P 2 = false := by decide +kernel
theorem int8 {x : Int} (h : -100 ≤ x ∧ x ≤ 100) : IntR x := ⟨by omega, by omega⟩
theorem ints8 {L : List Pr} (h : ∀ p ∈ L, (-100 ≤ p.1 ∧ p.1 ≤ 100) ∧ -100 ≤ p.2 ∧ p.2 ≤ 100) : ∀ p ∈ L, IntP p := fun p hp => ⟨int8 (h p hp).1, int8 (h p hp).2⟩

theorem ex8P_int : ∀ p ∈ ex8P, IntP p := ints8 fun p hp => by
  have hp' : p = (1, 0) ∨ p = (0, 0) := by simpa using hp
  rcases hp' with rfl | rfl <;> decide

theorem ex8_i1 : ∀ p ∈ [((1 : Int), (2 : Int))], IntP p := ints8 fun p hp => by
  have hp' : p = (1, 2) := by simpa using hp
  subst hp'
  decide
theorem ex8_i2 : ∀ p ∈ [((0 : Int), (0 : Int))], IntP p := ints8 fun p hp => by
  have hp' : p = (0, 0) := by simpa using hp
  subst hp'
  decide

/-- the world in which the example lies -/
def ex8W (w : World) : World := (((w.alloc (.cells #[.int .i64 1, .int .i64 0] 3)).alloc (.cells #[.int .i64 2, .bool false, .int .i64 0, .int .i64 0, .slice none 0 0, .int .i64 3, .bool true, .int .i64 1, .int .i64 0, .slice none 0 0, .int .i64 4, .bool false, .int .i64 0, .int .i64 0, .slice (some ⟨w.heap.size, 0, none⟩) 2 2] 48)).alloc (.cells #[.string ⟨#[120]⟩, .int .i64 2] 50)).alloc (.cells #[.int .i64 1, .int .i64 0, .int .i64 0, .int .i64 0] 46)
theorem ex8W_size (w : World) : (ex8W w).heap.size = w.heap.size + 4 := by simp [ex8W]
theorem ex8W_below (w : World) : Below w.heap.size w (ex8W w) := ((((Below.refl _ w).alloc (Nat.le_refl _) _).alloc (by simp) _).alloc (by simp <;> omega) _).alloc (by simp <;> omega) _
theorem ex8W_pl (w : World) : Pl8 (ex8W w) (some ⟨w.heap.size + 1, 0, none⟩) (some ⟨w.heap.size + 1 + 1, 0, none⟩) 3 1 (ex8L w.heap.size) ex8LL ⟨0, some ⟨w.heap.size + 1 + 1 + 1, 0, none⟩, 2, 2, ex8P⟩ 2 := by
  have c1 := cells_new8 (w.alloc (.cells #[.int .i64 1, .int .i64 0] 3)) c5 c5_len (ex8L w.heap.size) 48
  have s1 : (w.alloc (.cells #[.int .i64 1, .int .i64 0] 3)).heap.size = w.heap.size + 1 := by simp
  have c2 := cells_new8 ((w.alloc (.cells #[.int .i64 1, .int .i64 0] 3)).alloc (.cells ((ex8L w.heap.size).flatMap c5).toArray 48)) cLc cLc_len ex8LL 50
  have s2 : ((w.alloc (.cells #[.int .i64 1, .int .i64 0] 3)).alloc (.cells ((ex8L w.heap.size).flatMap c5).toArray 48)).heap.size = w.heap.size + 2 := by simp
  have c3 := cells_new8 (((w.alloc (.cells #[.int .i64 1, .int .i64 0] 3)).alloc (.cells ((ex8L w.heap.size).flatMap c5).toArray 48)).alloc (.cells (ex8LL.flatMap cLc).toArray 50)) pV pV_len ex8P 46
  have s3 : (((w.alloc (.cells #[.int .i64 1, .int .i64 0] 3)).alloc (.cells ((ex8L w.heap.size).flatMap c5).toArray 48)).alloc (.cells (ex8LL.flatMap cLc).toArray 50)).heap.size = w.heap.size + 3 := by simp
  rw [s1] at c1
  rw [s2] at c2
  rw [s3] at c3
  have b1 : Below (w.heap.size + 1) (w.alloc (.cells #[.int .i64 1, .int .i64 0] 3)) (ex8W w) := s1 ▸ ((((Below.refl _ _).alloc (Nat.le_refl _) _).alloc (by simp) _).alloc (by simp <;> omega) _)
  have b2 : Below (w.heap.size + 1 + 1) ((w.alloc (.cells #[.int .i64 1, .int .i64 0] 3)).alloc (.cells ((ex8L w.heap.size).flatMap c5).toArray 48)) (ex8W w) := s2 ▸ (((Below.refl _ _).alloc (Nat.le_refl _) _).alloc (by simp) _)
  have b3 : Below (w.heap.size + 2 + 1) (((w.alloc (.cells #[.int .i64 1, .int .i64 0] 3)).alloc (.cells ((ex8L w.heap.size).flatMap c5).toArray 48)).alloc (.cells (ex8LL.flatMap cLc).toArray 50)) (ex8W w) := s3 ▸ ((Below.refl _ _).alloc (Nat.le_refl _) _)
  have hs := ex8W_size w
  refine ⟨⟨(c1.below b2).more (by omega), fun x hx => ?_⟩, ⟨(c2.below b3).more (by omega), fun x hx => ?_⟩, ⟨Nat.le_refl _, (by show (2 : Nat) ≤ maxLen; unfold maxLen; decide), int8 ⟨by show (-100 : Int) ≤ 0; decide, by show (0 : Int) ≤ 100; decide⟩, ⟨c3.more (by omega), ex8P_int⟩⟩, by unfold maxLen; decide, by unfold maxLen; decide, ex8_ok, ex8_lc⟩
  · simp only [List.mem_cons, List.not_mem_nil, or_false] at hx
    rcases hx with rfl | rfl | rfl
    · exact oneT_flat8 _ _ rfl rfl rfl (int8 (by decide)) (int8 (by decide)) (int8 (by decide))
    · exact oneT_flat8 _ _ rfl rfl rfl (int8 (by decide)) (int8 (by decide)) (int8 (by decide))
    · refine ⟨⟨Nat.le_refl _, (show (2 : Nat) ≤ maxLen by unfold maxLen; decide), rfl, int8 (show (-100 : Int) ≤ 4 ∧ (4 : Int) ≤ 100 by decide), int8 (show (-100 : Int) ≤ 0 ∧ (0 : Int) ≤ 100 by decide), int8 (show (-100 : Int) ≤ 0 ∧ (0 : Int) ≤ 100 by decide), fun y hy => ?_⟩, ((rd_new8 w [1, 0] 3).below b1).more (by omega)⟩
      have hy' : y = 1 ∨ y = 0 := by simpa using hy
      rcases hy' with rfl | rfl <;> exact int8 (by decide)
  · have : x = ⟨⟨#[120]⟩, 2⟩ := by simpa using hx
    subst this
    exact int8 (by decide)

theorem EqI_is8 {A B : Option Addr} {n m c d : Nat} {xs ys : List Int} {w : World} {k l : Nat} {b : Bool} (h : eqIs xs ys = b) (hx : Rd w k A n (i64s xs)) (hy : Rd w l B m (i64s ys)) (hn : n ≤ maxLen) (hm : m ≤ maxLen) :
    Calls Try.prog 17 #[.slice A n c, .slice B m d] w fun e w' => e = .returned (.bool b) ∧ Below w.heap.size w w' := h ▸ EqI_any A B n m c d xs ys w k l hx hy hn hm

/-- the world with the example's place in a box besides -/
def ex8B (w : World) : World := ((ex8W w).alloc (.cells #[.int .i64 0, .slice (some ⟨w.heap.size + 1 + 1 + 1, 0, none⟩) 2 2] 24))
theorem ex8B_size (w : World) : (ex8B w).heap.size = w.heap.size + 5 := by unfold ex8B; simp [ex8W_size]
theorem ex8B_below (w : World) : Below w.heap.size w (ex8B w) := (ex8W_below w).alloc (by rw [ex8W_size]; omega) _
section
variable {w w' : World} (h : Below (ex8B w).heap.size (ex8B w) w')
include h
theorem ex8B_pl : Pl8 w' (some ⟨w.heap.size + 1, 0, none⟩) (some ⟨w.heap.size + 1 + 1, 0, none⟩) 3 1 (ex8L w.heap.size) ex8LL ⟨0, some ⟨w.heap.size + 1 + 1 + 1, 0, none⟩, 2, 2, ex8P⟩ 2 :=
  (ex8W_pl w).up (((Below.refl _ _).alloc (Nat.le_refl _) _).trans (h.mono (by rw [ex8B_size, ex8W_size]; omega)))
theorem ex8B_box : w'.cell? ⟨w.heap.size + 1 + 1 + 1 + 1, 0, none⟩ = some (.int .i64 0) ∧ w'.cell? ⟨w.heap.size + 1 + 1 + 1 + 1, 1, none⟩ = some (.slice (some ⟨w.heap.size + 1 + 1 + 1, 0, none⟩) 2 2) := by
  have h1 := (h.block (w.heap.size + 4) (by rw [ex8B_size]; omega)).trans (show _ = some (.cells #[.int .i64 0, .slice (some ⟨w.heap.size + 1 + 1 + 1, 0, none⟩) 2 2] 24 (0, 0)) by
    have := heap_alloc_new (ex8W w) (.cells #[.int .i64 0, .slice (some ⟨w.heap.size + 1 + 1 + 1, 0, none⟩) 2 2] 24)
    rwa [ex8W_size] at this)
  exact ⟨cell_of_heap h1 0, cell_of_heap h1 1⟩
/-- the same, with another place -/
theorem ex8B_with {x : PlW} (hx : OnePl w' w'.heap.size x) : Pl8 w' (some ⟨w.heap.size + 1, 0, none⟩) (some ⟨w.heap.size + 1 + 1, 0, none⟩) 3 1 (ex8L w.heap.size) ex8LL x 2 := by
  have h1 := ex8B_pl h
  exact ⟨h1.typs, h1.locs, hx, h1.nt, h1.nl, h1.ok, h1.lc⟩
end
/-- a place's one projection, new -/
theorem ex8_new {w w' : World} (h : Below (ex8B w).heap.size (ex8B w) w') (k f : Int) (hk : ∀ p ∈ [((k : Int), (f : Int))], IntP p) : Below (ex8B w).heap.size (ex8B w) (w'.alloc (.cells #[.int .i64 k, .int .i64 f] 46)) ∧
    Pl8 (w'.alloc (.cells #[.int .i64 k, .int .i64 f] 46)) (some ⟨w.heap.size + 1, 0, none⟩) (some ⟨w.heap.size + 1 + 1, 0, none⟩) 3 1 (ex8L w.heap.size) ex8LL ⟨0, some ⟨w'.heap.size, 0, none⟩, 1, 1, [(k, f)]⟩ 2 := by
  have hb := h.alloc h.size (.cells #[.int .i64 k, .int .i64 f] 46)
  exact ⟨hb, ex8B_with hb (one_new8 w' 0 (int8 (by decide)) [(k, f)] hk (show 1 ≤ maxLen by unfold maxLen; decide) 46)⟩

set_option maxRecDepth 100000 in
set_option maxHeartbeats 4000000 in
theorem alive08_any (w : World) : Calls Try.prog 9 #[] w fun e w' => e = .returned (.bool true) ∧ Below w.heap.size w w' := by
  have HW := hide (ex8B_below w)
  have HP := hide fun (w' : World) (h : Below (ex8B w).heap.size (ex8B w) w') => ex8B_pl h
  have HBX := hide fun (w' : World) (h : Below (ex8B w).heap.size (ex8B w) w') => ex8B_box h
  have HN1 := hide fun (w' : World) (h : Below (ex8B w).heap.size (ex8B w) w') => ex8_new h 1 2 ex8_i1
  have HN2 := hide fun (w' : World) (h : Below (ex8B w).heap.size (ex8B w) w') => ex8_new h 0 0 ex8_i2
  have H0 := hide (Below.refl (ex8B w).heap.size (ex8B w))
  go_enter Try.func9, Try.ntmps9
  go_wp2_with fail
  refine (TypeOf_is (ct := 3) (cl := 1) (HP.out _ H0.out) ex8_ty).mono ?_
  rintro e w1 ⟨rfl, hb⟩
  have HB1 := hide (show Below (ex8B w).heap.size (ex8B w) w1 from hb)
  clear hb
  go_wp2_with fail
  refine (TypeOf_is (ct := 3) (cl := 1) (HN1.out _ HB1.out).2 ex8_ty2).mono ?_
  rintro e w2 ⟨rfl, hb⟩
  have HB2 := hide ((HN1.out _ HB1.out).1.trans (hb.mono (HN1.out _ HB1.out).1.size))
  clear hb
  go_wp2_with fail
  refine (TypeOf_is (ct := 3) (cl := 1) (HN2.out _ HB2.out).2 ex8_ty3).mono ?_
  rintro e w3 ⟨rfl, hb⟩
  have HB3 := hide ((HN2.out _ HB2.out).1.trans (hb.mono (HN2.out _ HB2.out).1.size))
  obtain ⟨x0, x1⟩ := HBX.out _ HB3.out
  clear hb
  go_wp2_with fail
  refine (Mutable_is (ct := 3) (cl := 1) (HP.out _ HB3.out) ex8_mut).mono ?_
  rintro e w4 ⟨rfl, hb⟩
  have HB4 := hide (HB3.out.trans (hb.mono HB3.out.size))
  obtain ⟨x0, x1⟩ := HBX.out _ HB4.out
  clear hb
  go_wp2_with fail
  refine (RegionsP_any (ct := 3) (cl := 1) (HP.out _ HB4.out)).mono ?_
  rintro e w5 ⟨A5, m5, c5', rfl, hm5, hmc5, hcm5, hown, hb⟩
  have HRd := hide (Rd.of_own hown)
  have HB5 := hide (HB4.out.trans (hb.mono HB4.out.size))
  have hreg := ex8_reg
  have hl5 : m5 = 1 := by
    have := HRd.out.ilen
    rw [show regP (tys (ex8L w.heap.size)) (lcs ex8LL) 0 ex8P = [1] from ex8_reg] at this
    simpa using this.symm
  subst hl5
  have HEQ := hide (show eqIs (regP (tys (ex8L w.heap.size)) (lcs ex8LL) 0 ex8P) [1] = true from eqIs_iff.2 ex8_reg)
  have HR1 := hide (rd_new8 w5 [1] 3)
  have HBA := hide (HB5.out.alloc HB5.out.size (.cells #[.int .i64 1] 3))
  have HRA := hide (HRd.out.below ((Below.refl w5.heap.size w5).alloc (Nat.le_refl _) (.cells #[.int .i64 1] 3)))
  clear hb hown hreg
  go_wp2_with fail
  refine (EqI_is8 HEQ.out HRA.out HR1.out (by unfold maxLen; decide) (by unfold maxLen; decide)).mono ?_
  rintro e w6 ⟨rfl, hb⟩
  have HB6 := hide (HBA.out.trans (hb.mono HBA.out.size))
  obtain ⟨x0, x1⟩ := HBX.out _ HB6.out
  clear hb
  go_wp2_with fail
  refine (CheckP_is (x := ⟨0, some ⟨w.heap.size + 1 + 1 + 1, 0, none⟩, 2, 2, ex8P⟩) ex8_err _ (HP.out _ HB6.out).one).mono ?_
  rintro e w7 ⟨rfl, hb⟩
  have HB7 := hide (HB6.out.trans (hb.mono HB6.out.size))
  obtain ⟨x0, x1⟩ := HBX.out _ HB7.out
  clear hb
  go_wp2_with fail
  refine (EqualP_is (x := ⟨0, some ⟨w.heap.size + 1 + 1 + 1, 0, none⟩, 2, 2, ex8P⟩) (y := ⟨0, some ⟨w.heap.size + 1 + 1 + 1, 0, none⟩, 2, 2, ex8P⟩) (eqPl_iff.2 ⟨rfl, rfl⟩) _ (HP.out _ HB7.out).one (HP.out _ HB7.out).one).mono ?_
  rintro e w8 ⟨rfl, hb⟩
  have HB8 := hide (HB7.out.trans (hb.mono HB7.out.size))
  obtain ⟨x0, x1⟩ := HBX.out _ HB8.out
  clear hb
  go_wp2_with fail
  refine (IsPrefix_is (x := ⟨0, none, 0, 0, []⟩) (y := ⟨0, some ⟨w.heap.size + 1 + 1 + 1, 0, none⟩, 2, 2, ex8P⟩) (prePl_iff.2 ⟨rfl, List.nil_prefix⟩) _ ⟨Nat.le_refl _, Nat.zero_le _, int8 (by decide), ⟨⟨rfl, fun h => absurd h (Nat.lt_irrefl 0)⟩, fun p hp => by cases hp⟩⟩ (HP.out _ HB8.out).one).mono ?_
  rintro e w9 ⟨rfl, hb⟩
  have HB9 := hide (HB8.out.trans (hb.mono HB8.out.size))
  obtain ⟨x0, x1⟩ := HBX.out _ HB9.out
  clear hb
  go_wp2_with fail
  refine (HasDeref_is (x := ⟨0, some ⟨w.heap.size + 1 + 1 + 1, 0, none⟩, 2, 2, ex8P⟩) ex8_d1 _ (HP.out _ HB9.out).one).mono ?_
  rintro e w10 ⟨rfl, hb⟩
  have HB10 := hide (HB9.out.trans (hb.mono HB9.out.size))
  obtain ⟨x0, x1⟩ := HBX.out _ HB10.out
  clear hb
  go_wp2_with fail
  refine (HasDeref_is (x := ⟨0, some ⟨w.heap.size + 1 + 1 + 1, 0, none⟩, 2, 2, ex8P⟩) ex8_d2 _ (HP.out _ HB10.out).one).mono ?_
  rintro e w11 ⟨rfl, hb⟩
  have HB11 := hide (HB10.out.trans (hb.mono HB10.out.size))
  clear hb
  go_wp2_with fail
  go_ret
  exact ⟨rfl, HW.out.trans (HB11.out.mono HW.out.size)⟩
end Go.Proofs.Ytphfiohjkjipiaa
