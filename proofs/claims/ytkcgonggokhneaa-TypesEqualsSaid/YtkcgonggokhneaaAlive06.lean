/- The examples of chapter 6 hold: 'alive' returns true and turns nothing that lay. -/
import Derived.Test.YtkcgonggokhneaaTypL
import Derived.Test.YtkcgonggokhneaaTypX
import Derived.Test.YtkcgonggokhneaaTypR
import Derived.Test.YtkcgonggokhneaaTypE
import Derived.Deep.RegionHeld3
set_option linter.unusedVariables false
namespace Go.Proofs.Ytkcgonggokhneaa
open Go.RowKit

/-! ### a row of types, new -/
theorem flat_at : ∀ {L : List TyW} {i : Nat} {x : TyW}, L[i]? = some x → ∀ {j : Nat}, j < 5 → (L.flatMap c5)[i * 5 + j]? = (c5 x)[j]?
  | y :: L, 0, x, h, j, hj => by
    obtain rfl : y = x := by simpa using h
    rw [List.flatMap_cons, List.getElem?_append_left (by rw [c5_len]; omega), show 0 * 5 + j = j by omega]
  | y :: L, i + 1, x, h, j, hj => by
    rw [List.flatMap_cons, List.getElem?_append_right (by rw [c5_len]; omega), c5_len, show (i + 1) * 5 + j - 5 = i * 5 + j by omega]
    exact flat_at (by simpa using h) hj
theorem typs_new (w : World) (L : List TyW) (t : TypeId) (h1 : ∀ x ∈ L, OneT w w.heap.size x) : Typs (w.alloc (.cells (L.flatMap c5).toArray t)) (w.heap.size + 1) (some ⟨w.heap.size, 0, none⟩) L.length L := by
  refine ⟨⟨rfl, fun _ => ⟨w.heap.size, 0, rfl, by omega, fun i x hx j u hu => ?_⟩⟩, fun x hx => ((h1 x hx).below ((Below.refl _ _).alloc (Nat.le_refl _) _)).more (by omega)⟩
  have hj : j < 5 := by have := (List.getElem?_eq_some_iff.1 hu).1; rwa [c5_len] at this
  rw [cell_of_row (w.alloc (.cells (L.flatMap c5).toArray t)) w.heap.size (0 + i * 5 + j) (L.flatMap c5).toArray t (0, 0) (heap_alloc_new w _), Nat.zero_add]
  rw [List.getElem?_toArray, flat_at hx hj, hu]
theorem oneT_flat (w : World) (B : Nat) {x : TyW} (hA : x.n = 0) (hc : x.c = 0) (hf : x.t.fields = []) (hk : IntR x.t.kind) (hr : IntR x.t.region) (he : IntR x.t.elem) : OneT w B x := by
  obtain ⟨⟨k, m, r, e, fs⟩, A, n, c⟩ := x
  simp only [] at hA hc hf hk hr he
  subst hA hc hf
  exact ⟨⟨Nat.le_refl _, Nat.zero_le _, rfl, hk, hr, he, fun y hy => by cases hy⟩, Rd.nil _ _ _⟩
theorem Rd_ints (w : World) (xs : List Int) (t : TypeId) : Rd (w.alloc (.cells (i64s xs).toArray t)) (w.heap.size + 1) (some ⟨w.heap.size, 0, none⟩) xs.length (i64s xs) :=
  ⟨by simp, fun _ => ⟨w.heap.size, 0, rfl, by omega, fun j u hu => by
    rw [cell_of_row (w.alloc (.cells (i64s xs).toArray t)) w.heap.size (0 + j) (i64s xs).toArray t (0, 0) (heap_alloc_new w _)]
    simpa using hu⟩⟩

/-! ### the example -/
abbrev xInt : TyW := ⟨⟨2, false, 0, 0, []⟩, none, 0, 0⟩
abbrev xRef : TyW := ⟨⟨3, false, 0, 0, []⟩, none, 0, 0⟩
abbrev xTup (g : Nat) : TyW := ⟨⟨4, false, 0, 0, [1, 0]⟩, some ⟨g, 0, none⟩, 2, 2⟩
abbrev exL (g : Nat) : List TyW := [xInt, xRef, xTup g]
abbrev exT : List Ty := [⟨2, false, 0, 0, []⟩, ⟨3, false, 0, 0, []⟩, ⟨4, false, 0, 0, [1, 0]⟩]
theorem exT_of (g : Nat) : tys (exL g) = exT := rfl
theorem ex_chk : tyChk exT 1 = 0 := by decide +kernel
theorem ex_dep : tyDep exT ((2 : Nat) : Int) = 3 := by decide +kernel
theorem ex_cop : tyCop exT ((2 : Nat) : Int) = true := by decide +kernel
theorem ex_ok : TyOk exT 1 := tyChk_iff.1 ex_chk
theorem ex_dup : tyChk [⟨2, false, 0, 0, []⟩, ⟨2, false, 0, 0, []⟩] 0 = 21 := by decide +kernel
theorem ex_men (q : Int) : TyMen exT ((2 : Nat) : Int) q ↔ q ∈ [(0 : Int)] := by
  constructor
  · intro h
    have := h.bd ex_ok
    have : q = 0 := by omega
    simpa using this
  · intro h
    obtain rfl : q = 0 := by simpa using h
    exact .part 2 ⟨4, false, 0, 0, [1, 0]⟩ 1 0 rfl (by decide) (.here 1 ⟨3, false, 0, 0, []⟩ rfl rfl)

/-- the world in which the example lies -/
def exW (w : World) : World := (w.alloc (.cells #[.int .i64 1, .int .i64 0] 3)).alloc (.cells #[.int .i64 2, .bool false, .int .i64 0, .int .i64 0, .slice none 0 0, .int .i64 3, .bool false, .int .i64 0, .int .i64 0, .slice none 0 0, .int .i64 4, .bool false, .int .i64 0, .int .i64 0, .slice (some ⟨w.heap.size, 0, none⟩) 2 2] 31)
theorem exW_size (w : World) : (exW w).heap.size = w.heap.size + 2 := by simp [exW]
theorem exW_below (w : World) : Below w.heap.size w (exW w) := ((Below.refl _ _).alloc (Nat.le_refl _) _).alloc (by simp) _
theorem exW_typs (w : World) : Typs (exW w) (exW w).heap.size (some ⟨w.heap.size + 1, 0, none⟩) 3 (exL w.heap.size) := by
  have hz : ∀ {B : Nat} {W : World}, OneT W B xInt := fun {B W} => oneT_flat W B rfl rfl rfl (by unfold IntR; decide) (by unfold IntR; decide) (by unfold IntR; decide)
  have hr : ∀ {B : Nat} {W : World}, OneT W B xRef := fun {B W} => oneT_flat W B rfl rfl rfl (by unfold IntR; decide) (by unfold IntR; decide) (by unfold IntR; decide)
  have h := typs_new (w.alloc (.cells #[.int .i64 1, .int .i64 0] 3)) (exL w.heap.size) 31 fun x hx => by
    simp only [List.mem_cons, List.not_mem_nil, or_false] at hx
    rcases hx with rfl | rfl | rfl
    · exact hz
    · exact hr
    · exact ⟨⟨Nat.le_refl _, (show (2 : Nat) ≤ maxLen by unfold maxLen; decide), rfl, (show IntR 4 by unfold IntR; decide), (show IntR 0 by unfold IntR; decide), (show IntR 0 by unfold IntR; decide), fun y hy => by
        have hy' : y ∈ ([1, 0] : List Int) := hy
        simp only [List.mem_cons, List.not_mem_nil, or_false] at hy'
        rcases hy' with rfl | rfl <;> unfold IntR <;> decide⟩, (Rd_ints w [1, 0] 3).more (by simp)⟩
  have hs : (w.alloc (.cells #[.int .i64 1, .int .i64 0] 3)).heap.size = w.heap.size + 1 := by simp
  rw [hs] at h
  exact h.more (by rw [exW_size]; omega)

section
variable {w w' : World} (hb : Below (exW w).heap.size (exW w) w')
include hb
theorem ex_typs : Typs w' (exW w).heap.size (some ⟨w.heap.size + 1, 0, none⟩) 3 (exL w.heap.size) := (exW_typs w).below hb
theorem aliveChk : Calls Try.prog 11 #[.slice (some ⟨w.heap.size + 1, 0, none⟩) 3 3, .int .i64 1] w' fun e w'' => e = .returned (.int .i64 0) ∧ Below (exW w).heap.size (exW w) w'' :=
  (CheckT_is (L := exL w.heap.size) ex_chk w' ((ex_typs hb).more hb.size) (by unfold maxLen; decide)).mono fun e w'' h => ⟨h.1, hb.trans (h.2.mono hb.size)⟩
theorem aliveDep : Calls Try.prog 18 #[.slice (some ⟨w.heap.size + 1, 0, none⟩) 3 3, .int .i64 2] w' fun e w'' => e = .returned (.int .i64 3) ∧ Below (exW w).heap.size (exW w) w'' :=
  (Depth_in (L := exL w.heap.size) (ex_typs hb) hb.size (Nat.le_refl _) (by unfold maxLen; decide) (by decide) ex_ok 2 (by decide)).mono fun e w'' h => ⟨h.1.trans (congrArg (fun z => Ending.returned (.int .i64 z)) ex_dep), hb.trans (h.2.mono hb.size)⟩
theorem aliveCop : Calls Try.prog 23 #[.slice (some ⟨w.heap.size + 1, 0, none⟩) 3 3, .int .i64 2] w' fun e w'' => e = .returned (.bool true) ∧ Below (exW w).heap.size (exW w) w'' :=
  (Copyable_in (L := exL w.heap.size) (ex_typs hb) hb.size (Nat.le_refl _) (by unfold maxLen; decide) (by decide) ex_ok 2 (by decide)).mono fun e w'' h => ⟨h.1.trans (congrArg (fun z => Ending.returned (.bool z)) ex_cop), hb.trans (h.2.mono hb.size)⟩
theorem aliveReg : Calls Try.prog 21 #[.slice (some ⟨w.heap.size + 1, 0, none⟩) 3 3, .int .i64 2] w' fun e w'' => ∃ A c, e = .returned (.slice A 1 c) ∧ 1 ≤ c ∧ c ≤ maxLen ∧ Rd w'' w''.heap.size A 1 (i64s [0]) ∧ Below w'.heap.size w' w'' := by
  refine (Regions_in (L := exL w.heap.size) (ex_typs hb) hb.size (Nat.le_refl _) (by unfold maxLen; decide) (by decide) ex_ok (by decide) 2 (by decide)).mono ?_
  rintro e w'' ⟨A, n, c, ys, rfl, h1, h2, h3, h4, h5, h6⟩
  obtain rfl : ys = [0] := ascI_ext h4 (List.pairwise_singleton _ _) fun q => (h5 q).trans (ex_men q)
  have hr := Rd.of_own h3
  obtain rfl : 1 = n := hr.ilen
  exact ⟨A, c, rfl, h1, h2, hr, h6⟩
/-- the literal is made behind the call of Regions -/
theorem aliveEqA {A : Option Addr} {c : Nat} (hr : Rd w' w'.heap.size A 1 (i64s [0])) : Calls Try.prog 20 #[.slice A 1 c, .slice (some ⟨w'.heap.size, 0, none⟩) 1 1] (w'.alloc (.cells #[.int .i64 0] 3)) fun e w'' => e = .returned (.bool true) ∧ Below (exW w).heap.size (exW w) w'' := by
  have hx := (Below.refl w'.heap.size w').alloc (Nat.le_refl _) (.cells #[.int .i64 0] 3)
  refine (EqI_any A _ 1 1 c 1 [0] [0] _ _ _ (hr.below hx) (Rd_ints w' [0] 3) (by unfold maxLen; decide) (by unfold maxLen; decide)).mono ?_
  rintro e w'' ⟨rfl, h⟩
  exact ⟨rfl, hb.trans ((hx.trans (h.mono (by simp))).mono hb.size)⟩
/-- and before it -/
theorem aliveEqB {A : Option Addr} {c : Nat} {w2 : World} (h2 : Below (w'.alloc (.cells #[.int .i64 0] 3)).heap.size (w'.alloc (.cells #[.int .i64 0] 3)) w2) (hr : Rd w2 w2.heap.size A 1 (i64s [0])) :
    Calls Try.prog 20 #[.slice A 1 c, .slice (some ⟨w'.heap.size, 0, none⟩) 1 1] w2 fun e w'' => e = .returned (.bool true) ∧ Below (exW w).heap.size (exW w) w'' := by
  have hx := (Below.refl w'.heap.size w').alloc (Nat.le_refl _) (.cells #[.int .i64 0] 3)
  have hs : (w'.alloc (.cells #[.int .i64 0] 3)).heap.size = w'.heap.size + 1 := by simp
  have hl := Rd_ints w' [0] 3
  rw [← hs] at hl
  refine (EqI_any A _ 1 1 c 1 [0] [0] _ _ _ hr (hl.below h2) (by unfold maxLen; decide) (by unfold maxLen; decide)).mono ?_
  rintro e w'' ⟨rfl, h⟩
  have h3 := hx.trans (h2.mono (by omega))
  exact ⟨rfl, hb.trans ((h3.trans (h.mono h3.size)).mono hb.size)⟩
theorem aliveDup : Calls Try.prog 11 #[.slice (some ⟨w'.heap.size, 0, none⟩) 2 2, .int .i64 0] (w'.alloc (.cells #[.int .i64 2, .bool false, .int .i64 0, .int .i64 0, .slice none 0 0, .int .i64 2, .bool false, .int .i64 0, .int .i64 0, .slice none 0 0] 31)) fun e w'' => e = .returned (.int .i64 21) ∧ Below (exW w).heap.size (exW w) w'' := by
  have hz : ∀ {B : Nat} {W : World}, OneT W B xInt := fun {B W} => oneT_flat W B rfl rfl rfl (by unfold IntR; decide) (by unfold IntR; decide) (by unfold IntR; decide)
  have hx := (Below.refl w'.heap.size w').alloc (Nat.le_refl _) (.cells ([xInt, xInt].flatMap c5).toArray 31)
  have h := typs_new w' [xInt, xInt] 31 fun x hx => by
    simp only [List.mem_cons, List.not_mem_nil, or_false, or_self] at hx
    subst hx
    exact hz
  refine (CheckT_is (L := [xInt, xInt]) ex_dup _ (h.more (by simp)) (by unfold maxLen; decide)).mono ?_
  rintro e w'' ⟨rfl, h⟩
  exact ⟨rfl, hb.trans ((hx.trans (h.mono hx.size)).mono hb.size)⟩
theorem aliveSame : Calls Try.prog 15 #[aggT xRef, aggT xRef] w' fun e w'' => e = .returned (.bool true) ∧ Below (exW w).heap.size (exW w) w'' :=
  (EqT_is (x := xRef) (y := xRef) (by decide +kernel) w' (oneT_flat _ _ rfl rfl rfl (by unfold IntR; decide) (by unfold IntR; decide) (by unfold IntR; decide)) (oneT_flat _ _ rfl rfl rfl (by unfold IntR; decide) (by unfold IntR; decide) (by unfold IntR; decide))).mono fun e w'' h => ⟨h.1, hb.trans (h.2.mono hb.size)⟩
theorem aliveOther : Calls Try.prog 15 #[aggT xInt, aggT xRef] w' fun e w'' => e = .returned (.bool false) ∧ Below (exW w).heap.size (exW w) w'' :=
  (EqT_is (x := xInt) (y := xRef) (by decide +kernel) w' (oneT_flat _ _ rfl rfl rfl (by unfold IntR; decide) (by unfold IntR; decide) (by unfold IntR; decide)) (oneT_flat _ _ rfl rfl rfl (by unfold IntR; decide) (by unfold IntR; decide) (by unfold IntR; decide))).mono fun e w'' h => ⟨h.1, hb.trans (h.2.mono hb.size)⟩
end

theorem ex_cells {w w' : World} (hb : Below (exW w).heap.size (exW w) w') : Below (exW w).heap.size (exW w) w' ∧
    w'.cell? ⟨w.heap.size + 1, 0, none⟩ = some (.int .i64 2) ∧ w'.cell? ⟨w.heap.size + 1, 1, none⟩ = some (.bool false) ∧ w'.cell? ⟨w.heap.size + 1, 2, none⟩ = some (.int .i64 0) ∧ w'.cell? ⟨w.heap.size + 1, 3, none⟩ = some (.int .i64 0) ∧ w'.cell? ⟨w.heap.size + 1, 4, none⟩ = some (.slice none 0 0) ∧
    w'.cell? ⟨w.heap.size + 1, 5, none⟩ = some (.int .i64 3) ∧ w'.cell? ⟨w.heap.size + 1, 6, none⟩ = some (.bool false) ∧ w'.cell? ⟨w.heap.size + 1, 7, none⟩ = some (.int .i64 0) ∧ w'.cell? ⟨w.heap.size + 1, 8, none⟩ = some (.int .i64 0) ∧ w'.cell? ⟨w.heap.size + 1, 9, none⟩ = some (.slice none 0 0) := by
  have h := (ex_typs hb).cells.2 (by decide)
  obtain ⟨b, o, e, _, hc⟩ := h
  obtain ⟨rfl, rfl⟩ : w.heap.size + 1 = b ∧ 0 = o := by injection e with e; injection e with e1 e2; exact ⟨e1, e2⟩
  exact ⟨hb, by simpa using hc 0 xInt rfl 0 _ rfl, by simpa using hc 0 xInt rfl 1 _ rfl, by simpa using hc 0 xInt rfl 2 _ rfl, by simpa using hc 0 xInt rfl 3 _ rfl, by simpa using hc 0 xInt rfl 4 _ rfl, by simpa using hc 1 xRef rfl 0 _ rfl, by simpa using hc 1 xRef rfl 1 _ rfl, by simpa using hc 1 xRef rfl 2 _ rfl, by simpa using hc 1 xRef rfl 3 _ rfl, by simpa using hc 1 xRef rfl 4 _ rfl⟩

set_option maxRecDepth 100000 in
set_option maxHeartbeats 4000000 in
theorem alive06_any (w : World) : Calls Try.prog 10 #[] w fun e w' => e = .returned (.bool true) ∧ Below w.heap.size w w' := by
  have HW := hide (exW_below w)
  have hS := hide fun (w' : World) (hb' : Below (exW w).heap.size (exW w) w') => ex_cells hb'
  go_enter Try.func10, Try.ntmps10
  go_wp2
  change Code.wp _ _ _ _ (exW w)
  go_region_held3 (fun w' => Below (exW w).heap.size (exW w) w' ∧
    w'.cell? ⟨w.heap.size + 1, 0, none⟩ = some (.int .i64 2) ∧ w'.cell? ⟨w.heap.size + 1, 1, none⟩ = some (.bool false) ∧ w'.cell? ⟨w.heap.size + 1, 2, none⟩ = some (.int .i64 0) ∧ w'.cell? ⟨w.heap.size + 1, 3, none⟩ = some (.int .i64 0) ∧ w'.cell? ⟨w.heap.size + 1, 4, none⟩ = some (.slice none 0 0) ∧
    w'.cell? ⟨w.heap.size + 1, 5, none⟩ = some (.int .i64 3) ∧ w'.cell? ⟨w.heap.size + 1, 6, none⟩ = some (.bool false) ∧ w'.cell? ⟨w.heap.size + 1, 7, none⟩ = some (.int .i64 0) ∧ w'.cell? ⟨w.heap.size + 1, 8, none⟩ = some (.int .i64 0) ∧ w'.cell? ⟨w.heap.size + 1, 9, none⟩ = some (.slice none 0 0))
    (first | exact hS.out _ (by assumption) | exact hS.out _ (Below.refl _ _) | exact hS.out _ (Below.refl _ _).drew | exact hS.out _ (Below.alloc (by assumption) (Below.size (by assumption)) _))
    (first
      | (go_at_call 11; with_reducible change Calls _ _ #[_, .int .i64 1] _ _; go_split_ands; refine (aliveChk (by assumption)).mono ?_; rintro e w1 ⟨rfl, hb1⟩)
      | (go_at_call 18; go_split_ands; refine (aliveDep (by assumption)).mono ?_; rintro e w1 ⟨rfl, hb1⟩)
      | (go_at_call 21; go_split_ands; refine (aliveReg (by assumption)).mono ?_; rintro e w1 ⟨A, c, rfl, hc1, hc2, hr, hb0⟩; have hb1 := Below.trans (by assumption : Below (exW w).heap.size (exW w) _) (hb0.mono (Below.size (by assumption : Below (exW w).heap.size (exW w) _))))
      | (go_at_call 20; with_reducible change Calls _ _ _ (World.alloc _ _) _; go_split_ands; refine (aliveEqA (by assumption) (by assumption)).mono ?_; rintro e w1 ⟨rfl, hb1⟩)
      | (go_at_call 20; go_split_ands; refine (aliveEqB (by assumption) (by assumption) (by assumption)).mono ?_; rintro e w1 ⟨rfl, hb1⟩)
      | (go_at_call 23; go_split_ands; refine (aliveCop (by assumption)).mono ?_; rintro e w1 ⟨rfl, hb1⟩)
      | (go_at_call 11; with_reducible change Calls _ _ #[_, .int .i64 0] _ _; go_split_ands; refine (aliveDup (by assumption)).mono ?_; rintro e w1 ⟨rfl, hb1⟩)
      | (go_at_call 15; with_reducible change Calls _ _ #[.agg #[.int .i64 3, _, _, _, _], _] _ _; go_split_ands; refine (aliveSame (by assumption)).mono ?_; rintro e w1 ⟨rfl, hb1⟩)
      | (go_at_call 15; with_reducible change Calls _ _ #[.agg #[.int .i64 2, _, _, _, _], _] _ _; go_split_ands; refine (aliveOther (by assumption)).mono ?_; rintro e w1 ⟨rfl, hb1⟩))
  all_goals
    go_split_ands
    go_wp2
    go_ret
    exact ⟨rfl, HW.out.trans (Below.mono (by assumption) HW.out.size)⟩
end Go.Proofs.Ytkcgonggokhneaa
