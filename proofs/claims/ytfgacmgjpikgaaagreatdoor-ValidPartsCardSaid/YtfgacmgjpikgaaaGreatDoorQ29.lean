/- Part 30 of the contracts and their mathematics. -/
import Derived.Test.YtfgacmgjpikgaaaGreatDoorQ28
set_option linter.unusedVariables false
set_option linter.unusedSimpArgs false
namespace Go.Proofs.YtfgacmgjpikgaaaGreatDoor
open Go.RowKit
theorem sub_self {K : CkW} {w : World} (h : Ck K w) {i : Nat} (hi : i < K.x.types.n) : sub (out K.x.outl.L ((K.x.regions.L.length : Nat) : Int)) (tys K.x.types.L) (i : Int) (i : Int) = true := by
 have hex : ∃ ty, K.x.types.L[i]? = some ty := ⟨_, List.getElem?_eq_getElem (by have := h.one.types.len; omega)⟩
 obtain ⟨ty, hty⟩ := hex
 have htt : (tys K.x.types.L)[i]? = some ty.t := by
  show (K.x.types.L.map TyW.t)[i]? = _
  rw [List.getElem?_map, hty]
  rfl
 exact sub_iff.2 (sub_refl (O := out K.x.outl.L ((K.x.regions.L.length : Nat) : Int)) (tyChk_iff.1 h.ok.ty) (fun x hx hx2 => out_iff.2 (Out.refl ⟨hx, hx2⟩)) _ _ _ (Nat.lt_succ_self _) (by rw [tyAt_nat]; exact htt))
set_option maxHeartbeats 4000000 in
set_option maxRecDepth 100000 in
theorem cisCop_is {K : CkW} {i : Nat} {v : Bool} {w : World} (h : Ck K w) (hi : i < K.x.types.n) (hv : tyCop (tys K.x.types.L) (i : Int) = v) :
  Calls Tryz.prog 80 #[K.ptr, .int .i64 (i : Int)] w fun e w' => e = .returned (.bool v) ∧ Wy K w w' := by
 have hB0 : Below w.heap.size w ((w.alloc (.cells #[K.ptr] 66)).alloc (.cells #[.int .i64 (i : Int)] 3)) := (((Below.refl w.heap.size w).alloc (Nat.le_refl _) (.cells #[K.ptr] 66)).alloc (by first | (simp; done) | (simp; omega)) (.cells #[.int .i64 (i : Int)] 3))
 have HB := hide hB0
 have HK := hide (h.up hB0)
 have hsz : ((w.alloc (.cells #[K.ptr] 66)).alloc (.cells #[.int .i64 (i : Int)] 3)).heap.size = w.heap.size + 2 := by simp
 have hnS : ∀ k, w.heap.size ≤ k → ¬ K.S k := fun k hk q => by have := h.sLt _ q; omega
 have q0 : ((w.alloc (.cells #[K.ptr] 66)).alloc (.cells #[.int .i64 (i : Int)] 3)).cell? ⟨w.heap.size, 0, none⟩ = some (K.ptr) := by simp [go_sem]
 have q1 : ((w.alloc (.cells #[K.ptr] 66)).alloc (.cells #[.int .i64 (i : Int)] 3)).cell? ⟨w.heap.size + 1, 0, none⟩ = some (.int .i64 (i : Int)) := by simp [go_sem]
 have hcs := hide fun (w' : World) (hb : Wy K ((w.alloc (.cells #[K.ptr] 66)).alloc (.cells #[.int .i64 (i : Int)] 3)) w') => (show w'.cell? ⟨w.heap.size, 0, none⟩ = some K.ptr ∧ w'.cell? ⟨w.heap.size + 1, 0, none⟩ = some (.int .i64 (i : Int)) ∧ w'.cell? ⟨K.g, 8, none⟩ = some (.map (some K.m1)) from ⟨(hb.turn.cell (p := ⟨w.heap.size, 0, none⟩) (by rw [hsz]; simp) (hnS _ (by simp))).trans q0, (hb.turn.cell (p := ⟨w.heap.size + 1, 0, none⟩) (by rw [hsz]; simp) (hnS _ (by simp))).trans q1, hb.ck.c8⟩)
 have HC := hide fun (w' : World) (hb : Wy K ((w.alloc (.cells #[K.ptr] 66)).alloc (.cells #[.int .i64 (i : Int)] 3)) w') => recI_is hb.ck hi hv ((hb.turn.cell (p := ⟨w.heap.size, 0, none⟩) (by rw [hsz]; simp) (hnS _ (by simp))).trans q0) ((hb.turn.cell (p := ⟨w.heap.size + 1, 0, none⟩) (by rw [hsz]; simp) (hnS _ (by simp))).trans q1) (by have := hb.turn.size; omega) (by have := hb.turn.size; omega)
 clear h hi hv hB0 hsz hnS q0 q1
 go_enter Tryz.func80, Tryz.ntmps80
 go_wp2
 have HW0 := hide ((Wy.refl HK.out).drew)
 refine wp_region_held_drew (S := (fun w' => w'.cell? ⟨w.heap.size, 0, none⟩ = some K.ptr ∧ w'.cell? ⟨w.heap.size + 1, 0, none⟩ = some (.int .i64 (i : Int)) ∧ w'.cell? ⟨K.g, 8, none⟩ = some (.map (some K.m1)))) (by kernel_rfl) (hcs.out _ HW0.out) (fun hHeld => ?_)
 refine plan [(0, some 5, true), (1, some 6, true), (2, some 7, true), (3, some 8, true), (4, some 9, true), (5, some 10, true)] ?_
 repeat' (first | (refine planN hHeld rfl rfl (by kernel_rfl) (by kernel_rfl) (by kernel_rfl) (fun _ _ _ h => h) (by rfl) ?_; try simp only [Act.put, List.setIfInBounds_toArray, List.set_cons_zero, List.set_cons_succ]) | (refine planY (v := ?_) hHeld rfl rfl (by kernel_rfl) (by kernel_rfl) (by kernel_rfl) (fun _ _ _ h => h) (by rfl) ?_ ?_; rotate_left; (· (intro w9 hS9; obtain ⟨e1, e2, e3⟩ := hS9; first | (go_simp; done) | (go_simp; with_reducible rfl))); try simp only [Act.put, List.setIfInBounds_toArray, List.set_cons_zero, List.set_cons_succ]))
 refine plan0 ?_
 refine wpAnyH_ready (rs := [6]) (by kernel_rfl) (by simp) ?_
 refine AllReadyH.cons rfl (fun KZ hK => ?_) AllReadyH.nil
 go_simp
 refine (HC.out _ HW0.out).mono ?_
 rintro e1 w1 ⟨rfl, hb0⟩
 have HW1 := hide (HW0.out.trans hb0)
 clear hb0
 refine hK.out _ _ (hcs.out _ HW1.out) (fun hHeld => ?_)
 clear hK KZ
 try simp only [Act.put, List.setIfInBounds_toArray, List.set_cons_zero, List.set_cons_succ]
 refine plan [(7, some 4, true)] ?_
 repeat' (first | (refine planN hHeld rfl rfl (by kernel_rfl) (by kernel_rfl) (by kernel_rfl) (fun _ _ _ h => h) (by rfl) ?_; try simp only [Act.put, List.setIfInBounds_toArray, List.set_cons_zero, List.set_cons_succ]) | (refine planY (v := ?_) hHeld rfl rfl (by kernel_rfl) (by kernel_rfl) (by kernel_rfl) (fun _ _ _ h => h) (by rfl) ?_ ?_; rotate_left; (· (intro w9 hS9; obtain ⟨e1, e2, e3⟩ := hS9; first | (go_simp; done) | (go_simp; with_reducible rfl))); try simp only [Act.put, List.setIfInBounds_toArray, List.set_cons_zero, List.set_cons_succ]))
 refine plan0 ?_
 refine wpAnyH_done (by kernel_rfl) ?_ _
 go_wp2
 go_ret
 exact ⟨rfl, (Turn.of_below HB.out).trans HW1.out.turn, HW1.out.ck⟩
set_option maxHeartbeats 4000000 in
set_option maxRecDepth 100000 in
theorem cout_is {K : CkW} {s t : Int} {v : Bool} {w : World} (h : Ck K w) (hs : IntR s) (ht : IntR t) (hin : InP K.x.regions.n (s, t)) (hv : out K.x.outl.L ((K.x.regions.L.length : Nat) : Int) s t = v) :
  Calls Tryz.prog 108 #[K.ptr, .int .i64 s, .int .i64 t] w fun e w' => e = .returned (.bool v) ∧ Wy K w w' := by
 have hB0 : Below w.heap.size w (((w.alloc (.cells #[K.ptr] 66)).alloc (.cells #[.int .i64 s] 3)).alloc (.cells #[.int .i64 t] 3)) := ((((Below.refl w.heap.size w).alloc (Nat.le_refl _) (.cells #[K.ptr] 66)).alloc (by first | (simp; done) | (simp; omega)) (.cells #[.int .i64 s] 3)).alloc (by first | (simp; done) | (simp; omega)) (.cells #[.int .i64 t] 3))
 have HB := hide hB0
 have HK := hide (h.up hB0)
 have hsz : (((w.alloc (.cells #[K.ptr] 66)).alloc (.cells #[.int .i64 s] 3)).alloc (.cells #[.int .i64 t] 3)).heap.size = w.heap.size + 3 := by simp
 have hnS : ∀ k, w.heap.size ≤ k → ¬ K.S k := fun k hk q => by have := h.sLt _ q; omega
 have q0 : (((w.alloc (.cells #[K.ptr] 66)).alloc (.cells #[.int .i64 s] 3)).alloc (.cells #[.int .i64 t] 3)).cell? ⟨w.heap.size, 0, none⟩ = some (K.ptr) := by simp [go_sem]
 have q1 : (((w.alloc (.cells #[K.ptr] 66)).alloc (.cells #[.int .i64 s] 3)).alloc (.cells #[.int .i64 t] 3)).cell? ⟨w.heap.size + 1, 0, none⟩ = some (.int .i64 s) := by simp [go_sem]
 have q2 : (((w.alloc (.cells #[K.ptr] 66)).alloc (.cells #[.int .i64 s] 3)).alloc (.cells #[.int .i64 t] 3)).cell? ⟨w.heap.size + 2, 0, none⟩ = some (.int .i64 t) := by simp [go_sem]
 have hcs := hide fun (w' : World) (hb : Wy K (((w.alloc (.cells #[K.ptr] 66)).alloc (.cells #[.int .i64 s] 3)).alloc (.cells #[.int .i64 t] 3)) w') => (show w'.cell? ⟨w.heap.size, 0, none⟩ = some K.ptr ∧ w'.cell? ⟨w.heap.size + 1, 0, none⟩ = some (.int .i64 s) ∧ w'.cell? ⟨w.heap.size + 2, 0, none⟩ = some (.int .i64 t) ∧ w'.cell? ⟨K.g, 10, none⟩ = some (.map (some K.m3)) from ⟨(hb.turn.cell (p := ⟨w.heap.size, 0, none⟩) (by rw [hsz]; simp) (hnS _ (by simp))).trans q0, (hb.turn.cell (p := ⟨w.heap.size + 1, 0, none⟩) (by rw [hsz]; simp) (hnS _ (by simp))).trans q1, (hb.turn.cell (p := ⟨w.heap.size + 2, 0, none⟩) (by rw [hsz]; simp) (hnS _ (by simp))).trans q2, hb.ck.c10⟩)
 have HC := hide fun (w' : World) (hb : Wy K (((w.alloc (.cells #[K.ptr] 66)).alloc (.cells #[.int .i64 s] 3)).alloc (.cells #[.int .i64 t] 3)) w') => recO_is hb.ck hs ht hin hv ((hb.turn.cell (p := ⟨w.heap.size, 0, none⟩) (by rw [hsz]; simp) (hnS _ (by simp))).trans q0) ((hb.turn.cell (p := ⟨w.heap.size + 1, 0, none⟩) (by rw [hsz]; simp) (hnS _ (by simp))).trans q1) ((hb.turn.cell (p := ⟨w.heap.size + 2, 0, none⟩) (by rw [hsz]; simp) (hnS _ (by simp))).trans q2) ⟨(by have := hb.turn.size; omega), hnS _ (by simp), hnS _ (by simp), hnS _ (by simp)⟩
 clear h hs ht hin hv hB0 hsz hnS q0 q1 q2
 go_enter Tryz.func108, Tryz.ntmps108
 go_wp2
 have HW0 := hide ((Wy.refl HK.out).drew)
 refine wp_region_held_drew (S := (fun w' => w'.cell? ⟨w.heap.size, 0, none⟩ = some K.ptr ∧ w'.cell? ⟨w.heap.size + 1, 0, none⟩ = some (.int .i64 s) ∧ w'.cell? ⟨w.heap.size + 2, 0, none⟩ = some (.int .i64 t) ∧ w'.cell? ⟨K.g, 10, none⟩ = some (.map (some K.m3)))) (by kernel_rfl) (hcs.out _ HW0.out) (fun hHeld => ?_)
 refine plan [(0, some 7, true), (1, some 8, true), (2, some 9, true), (3, some 10, true), (4, some 11, true), (5, some 12, true), (6, some 13, true), (7, some 14, true)] ?_
 repeat' (first | (refine planN hHeld rfl rfl (by kernel_rfl) (by kernel_rfl) (by kernel_rfl) (fun _ _ _ h => h) (by rfl) ?_; try simp only [Act.put, List.setIfInBounds_toArray, List.set_cons_zero, List.set_cons_succ]) | (refine planY (v := ?_) hHeld rfl rfl (by kernel_rfl) (by kernel_rfl) (by kernel_rfl) (fun _ _ _ h => h) (by rfl) ?_ ?_; rotate_left; (· (intro w9 hS9; obtain ⟨e1, e2, e3, e4⟩ := hS9; first | (go_simp; done) | (go_simp; with_reducible rfl))); try simp only [Act.put, List.setIfInBounds_toArray, List.set_cons_zero, List.set_cons_succ]))
 refine plan0 ?_
 refine wpAnyH_ready (rs := [8]) (by kernel_rfl) (by simp) ?_
 refine AllReadyH.cons rfl (fun KZ hK => ?_) AllReadyH.nil
 go_simp
 refine (HC.out _ HW0.out).mono ?_
 rintro e1 w1 ⟨rfl, hb0⟩
 have HW1 := hide (HW0.out.trans hb0)
 clear hb0
 refine hK.out _ _ (hcs.out _ HW1.out) (fun hHeld => ?_)
 clear hK KZ
 try simp only [Act.put, List.setIfInBounds_toArray, List.set_cons_zero, List.set_cons_succ]
 refine plan [(9, some 6, true)] ?_
 repeat' (first | (refine planN hHeld rfl rfl (by kernel_rfl) (by kernel_rfl) (by kernel_rfl) (fun _ _ _ h => h) (by rfl) ?_; try simp only [Act.put, List.setIfInBounds_toArray, List.set_cons_zero, List.set_cons_succ]) | (refine planY (v := ?_) hHeld rfl rfl (by kernel_rfl) (by kernel_rfl) (by kernel_rfl) (fun _ _ _ h => h) (by rfl) ?_ ?_; rotate_left; (· (intro w9 hS9; obtain ⟨e1, e2, e3, e4⟩ := hS9; first | (go_simp; done) | (go_simp; with_reducible rfl))); try simp only [Act.put, List.setIfInBounds_toArray, List.set_cons_zero, List.set_cons_succ]))
 refine plan0 ?_
 refine wpAnyH_done (by kernel_rfl) ?_ _
 go_wp2
 go_ret
 exact ⟨rfl, (Turn.of_below HB.out).trans HW1.out.turn, HW1.out.ck⟩
set_option maxHeartbeats 4000000 in
set_option maxRecDepth 100000 in
theorem csub_is {K : CkW} {s t : Int} {v : Bool} {w : World} (h : Ck K w) (hs : IntR s) (ht : IntR t) (hin : InP K.x.types.n (s, t)) (hv : sub (out K.x.outl.L ((K.x.regions.L.length : Nat) : Int)) (tys K.x.types.L) s t = v) :
  Calls Tryz.prog 117 #[K.ptr, .int .i64 s, .int .i64 t] w fun e w' => e = .returned (.bool v) ∧ Wy K w w' := by
 have hB0 : Below w.heap.size w (((w.alloc (.cells #[K.ptr] 66)).alloc (.cells #[.int .i64 s] 3)).alloc (.cells #[.int .i64 t] 3)) := ((((Below.refl w.heap.size w).alloc (Nat.le_refl _) (.cells #[K.ptr] 66)).alloc (by first | (simp; done) | (simp; omega)) (.cells #[.int .i64 s] 3)).alloc (by first | (simp; done) | (simp; omega)) (.cells #[.int .i64 t] 3))
 have HB := hide hB0
 have HK := hide (h.up hB0)
 have hsz : (((w.alloc (.cells #[K.ptr] 66)).alloc (.cells #[.int .i64 s] 3)).alloc (.cells #[.int .i64 t] 3)).heap.size = w.heap.size + 3 := by simp
 have hnS : ∀ k, w.heap.size ≤ k → ¬ K.S k := fun k hk q => by have := h.sLt _ q; omega
 have q0 : (((w.alloc (.cells #[K.ptr] 66)).alloc (.cells #[.int .i64 s] 3)).alloc (.cells #[.int .i64 t] 3)).cell? ⟨w.heap.size, 0, none⟩ = some (K.ptr) := by simp [go_sem]
 have q1 : (((w.alloc (.cells #[K.ptr] 66)).alloc (.cells #[.int .i64 s] 3)).alloc (.cells #[.int .i64 t] 3)).cell? ⟨w.heap.size + 1, 0, none⟩ = some (.int .i64 s) := by simp [go_sem]
 have q2 : (((w.alloc (.cells #[K.ptr] 66)).alloc (.cells #[.int .i64 s] 3)).alloc (.cells #[.int .i64 t] 3)).cell? ⟨w.heap.size + 2, 0, none⟩ = some (.int .i64 t) := by simp [go_sem]
 have hcs := hide fun (w' : World) (hb : Wy K (((w.alloc (.cells #[K.ptr] 66)).alloc (.cells #[.int .i64 s] 3)).alloc (.cells #[.int .i64 t] 3)) w') => (show w'.cell? ⟨w.heap.size, 0, none⟩ = some K.ptr ∧ w'.cell? ⟨w.heap.size + 1, 0, none⟩ = some (.int .i64 s) ∧ w'.cell? ⟨w.heap.size + 2, 0, none⟩ = some (.int .i64 t) ∧ w'.cell? ⟨K.g, 9, none⟩ = some (.map (some K.m2)) from ⟨(hb.turn.cell (p := ⟨w.heap.size, 0, none⟩) (by rw [hsz]; simp) (hnS _ (by simp))).trans q0, (hb.turn.cell (p := ⟨w.heap.size + 1, 0, none⟩) (by rw [hsz]; simp) (hnS _ (by simp))).trans q1, (hb.turn.cell (p := ⟨w.heap.size + 2, 0, none⟩) (by rw [hsz]; simp) (hnS _ (by simp))).trans q2, hb.ck.c9⟩)
 have HC := hide fun (w' : World) (hb : Wy K (((w.alloc (.cells #[K.ptr] 66)).alloc (.cells #[.int .i64 s] 3)).alloc (.cells #[.int .i64 t] 3)) w') => recS_is hb.ck hs ht hin hv ((hb.turn.cell (p := ⟨w.heap.size, 0, none⟩) (by rw [hsz]; simp) (hnS _ (by simp))).trans q0) ((hb.turn.cell (p := ⟨w.heap.size + 1, 0, none⟩) (by rw [hsz]; simp) (hnS _ (by simp))).trans q1) ((hb.turn.cell (p := ⟨w.heap.size + 2, 0, none⟩) (by rw [hsz]; simp) (hnS _ (by simp))).trans q2) ⟨(by have := hb.turn.size; omega), hnS _ (by simp), hnS _ (by simp), hnS _ (by simp)⟩
 by_cases hst : s = t
 ·
  have te : (s == t) = true := by simp [hst]
  have hvt : v = true := by
   rw [← hv, ← hst]
   have h1 := hin.1.1
   have h2 : s < (K.x.types.n : Int) := hin.1.2
   have h3 := sub_self h (i := s.toNat) (by omega)
   rwa [show ((s.toNat : Nat) : Int) = s by omega] at h3
  subst hvt
  clear h hs ht hin hv hB0 hsz hnS q0 q1 q2 hst
  go_enter Tryz.func117, Tryz.ntmps117
  go_wp2
  have HW0 := hide ((Wy.refl HK.out).drew)
  refine wp_region_held_drew (S := (fun w' => w'.cell? ⟨w.heap.size, 0, none⟩ = some K.ptr ∧ w'.cell? ⟨w.heap.size + 1, 0, none⟩ = some (.int .i64 s) ∧ w'.cell? ⟨w.heap.size + 2, 0, none⟩ = some (.int .i64 t) ∧ w'.cell? ⟨K.g, 9, none⟩ = some (.map (some K.m2)))) (by kernel_rfl) (hcs.out _ HW0.out) (fun hHeld => ?_)
  refine plan [(0, some 7, true), (1, some 8, true), (2, some 9, true), (3, some 10, true), (4, some 11, false), (5, some 12, false), (6, some 13, false), (7, some 14, false), (8, some 15, false), (9, some 16, false), (10, some 17, false), (11, some 18, false)] ?_
  repeat' (first | (refine planN hHeld rfl rfl (by kernel_rfl) (by kernel_rfl) (by kernel_rfl) (fun _ _ _ h => h) (by rfl) ?_; try simp only [Act.put, List.setIfInBounds_toArray, List.set_cons_zero, List.set_cons_succ]) | (refine planY (v := ?_) hHeld rfl rfl (by kernel_rfl) (by kernel_rfl) (by kernel_rfl) (fun _ _ _ h => h) (by rfl) ?_ ?_; rotate_left; (· (intro w9 hS9; obtain ⟨e1, e2, e3, e4⟩ := hS9; first | (go_simp; done) | (go_simp; with_reducible rfl))); try simp only [Act.put, List.setIfInBounds_toArray, List.set_cons_zero, List.set_cons_succ]))
  refine plan0 ?_
  refine wpAnyH_ready (rs := [12]) (by kernel_rfl) (by simp) ?_
  refine AllReadyH.cons rfl (fun KZ hK => ?_) AllReadyH.nil
  go_simp
  refine hK.out _ _ hHeld (fun hHeld => ?_)
  clear hK KZ
  try simp only [Act.put, List.setIfInBounds_toArray, List.set_cons_zero, List.set_cons_succ]
  refine plan [(13, some 20, true), (14, some 6, true)] ?_
  repeat' (first | (refine planN hHeld rfl rfl (by kernel_rfl) (by kernel_rfl) (by kernel_rfl) (fun _ _ _ h => h) (by rfl) ?_; try simp only [Act.put, List.setIfInBounds_toArray, List.set_cons_zero, List.set_cons_succ]) | (refine planY (v := ?_) hHeld rfl rfl (by kernel_rfl) (by kernel_rfl) (by kernel_rfl) (fun _ _ _ h => h) (by rfl) ?_ ?_; rotate_left; (· (intro w9 hS9; obtain ⟨e1, e2, e3, e4⟩ := hS9; first | (go_simp; done) | (go_simp; with_reducible rfl))); try simp only [Act.put, List.setIfInBounds_toArray, List.set_cons_zero, List.set_cons_succ]))
  refine plan0 ?_
  refine wpAnyH_done (by kernel_rfl) ?_ _
  go_wp2
  go_ret
  exact ⟨rfl, (Turn.of_below HB.out).trans HW0.out.turn, HW0.out.ck⟩
 ·
  have te : (s == t) = false := by simp [hst]
  clear h hs ht hin hv hB0 hsz hnS q0 q1 q2 hst
  go_enter Tryz.func117, Tryz.ntmps117
  go_wp2
  have HW0 := hide ((Wy.refl HK.out).drew)
  refine wp_region_held_drew (S := (fun w' => w'.cell? ⟨w.heap.size, 0, none⟩ = some K.ptr ∧ w'.cell? ⟨w.heap.size + 1, 0, none⟩ = some (.int .i64 s) ∧ w'.cell? ⟨w.heap.size + 2, 0, none⟩ = some (.int .i64 t) ∧ w'.cell? ⟨K.g, 9, none⟩ = some (.map (some K.m2)))) (by kernel_rfl) (hcs.out _ HW0.out) (fun hHeld => ?_)
  refine plan [(0, some 7, true), (1, some 8, true), (2, some 9, true), (3, some 10, true), (4, some 11, true), (5, some 12, true), (6, some 13, true), (7, some 14, true), (8, some 15, true), (9, some 16, true), (10, some 17, true), (11, some 18, true)] ?_
  repeat' (first | (refine planN hHeld rfl rfl (by kernel_rfl) (by kernel_rfl) (by kernel_rfl) (fun _ _ _ h => h) (by rfl) ?_; try simp only [Act.put, List.setIfInBounds_toArray, List.set_cons_zero, List.set_cons_succ]) | (refine planY (v := ?_) hHeld rfl rfl (by kernel_rfl) (by kernel_rfl) (by kernel_rfl) (fun _ _ _ h => h) (by rfl) ?_ ?_; rotate_left; (· (intro w9 hS9; obtain ⟨e1, e2, e3, e4⟩ := hS9; first | (go_simp; done) | (go_simp; with_reducible rfl))); try simp only [Act.put, List.setIfInBounds_toArray, List.set_cons_zero, List.set_cons_succ]))
  refine plan0 ?_
  refine wpAnyH_ready (rs := [12]) (by kernel_rfl) (by simp) ?_
  refine AllReadyH.cons rfl (fun KZ hK => ?_) AllReadyH.nil
  go_simp
  refine (HC.out _ HW0.out).mono ?_
  rintro e1 w1 ⟨rfl, hb0⟩
  have HW1 := hide (HW0.out.trans hb0)
  clear hb0
  refine hK.out _ _ (hcs.out _ HW1.out) (fun hHeld => ?_)
  clear hK KZ
  try simp only [Act.put, List.setIfInBounds_toArray, List.set_cons_zero, List.set_cons_succ]
  refine plan [(13, some 20, true), (14, some 6, true)] ?_
  repeat' (first | (refine planN hHeld rfl rfl (by kernel_rfl) (by kernel_rfl) (by kernel_rfl) (fun _ _ _ h => h) (by rfl) ?_; try simp only [Act.put, List.setIfInBounds_toArray, List.set_cons_zero, List.set_cons_succ]) | (refine planY (v := ?_) hHeld rfl rfl (by kernel_rfl) (by kernel_rfl) (by kernel_rfl) (fun _ _ _ h => h) (by rfl) ?_ ?_; rotate_left; (· (intro w9 hS9; obtain ⟨e1, e2, e3, e4⟩ := hS9; first | (go_simp; done) | (go_simp; with_reducible rfl))); try simp only [Act.put, List.setIfInBounds_toArray, List.set_cons_zero, List.set_cons_succ]))
  refine plan0 ?_
  refine wpAnyH_done (by kernel_rfl) ?_ _
  go_wp2
  go_ret
  exact ⟨rfl, (Turn.of_below HB.out).trans HW1.out.turn, HW1.out.ck⟩
end Go.Proofs.YtfgacmgjpikgaaaGreatDoor
