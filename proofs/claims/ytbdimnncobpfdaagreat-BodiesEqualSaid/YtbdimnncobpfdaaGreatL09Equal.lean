/- BodiesEqual: equal bodies have the same names, bytes and nodes. No condition. -/
import Derived.Test.YtbdimnncobpfdaaGreatBodU
import Derived.Test.YtbdimnncobpfdaaGreatAlive09
import Derived.Test.YtbdimnncobpfdaaGreatBodP
import Derived.Test.YtbdimnncobpfdaaGreatRows
import Derived.Test.YtbdimnncobpfdaaGreatOpenB
import Derived.SizedLaws
set_option linter.unusedVariables false
set_option linter.unusedSimpArgs false
namespace Go.Proofs.YtbdimnncobpfdaaGreat.bodiesEqual
open Go.ChangeShapes Go.WideShapes Go.ChangeAt Go.ChangeMaps Go.RowKit Go.Shelf

theorem rd_names9 {w : World} {lo : Nat} {A : Option Addr} {c : Nat} {L : List ByteArray} (h : w.ownsRow lo 9 1 (.slice A L.length c) L.length (sV L)) (hs : ∀ s ∈ L, s.size ≤ maxLen) : Rd w w.heap.size A L.length (sV L) := Strs.rd (s := ⟨A, L.length, c, L⟩) (own_sl9 h hs)
set_option maxHeartbeats 2000000 in
set_option maxRecDepth 100000 in
theorem walk (x0 x1 : BdW) (w : World) (h0 : OneBd w w.heap.size x0) (h1 : OneBd w w.heap.size x1) (s0 : FitBd x0) (s1 : FitBd x1) :
    Calls Tryz.prog 8 #[aggBd x0, aggBd x1] w fun e w' => e = .returned (.bool true) ∧ Below w.heap.size w w' := by
  have HB := hide (bd2_below w x0 x1)
  have HX := hide (h0.up HB.out)
  have HY := hide (h1.up HB.out)
  have HFX := hide s0
  have HFY := hide s1
  have hs := hide fun (w' : World) (h : Below (bd2 w x0 x1).heap.size (bd2 w x0 x1) w') => bd2_cells h
  obtain ⟨v, hv⟩ : ∃ v, eqBd x0 x1 = v := ⟨_, rfl⟩
  have HV := hide hv
  obtain ⟨L, hL⟩ : ∃ L, namesS x0.v = L := ⟨_, rfl⟩
  have HL := hide hL
  have HNM := hide (show ∀ s ∈ L, s.size ≤ maxLen from fun s hm => allS_size x0 h0 s (tab_mem.1 (show s ∈ tab (allS x0.v) from (show s ∈ namesS x0.v from hL.symm ▸ hm))))
  obtain ⟨nb, hnb⟩ : ∃ n, bytesN x0.v = n := ⟨_, rfl⟩
  have HNB := hide hnb
  obtain ⟨nn, hnn⟩ : ∃ n, bdN x0.v = n := ⟨_, rfl⟩
  have HNN := hide hnn
  clear h0 h1 s0 s1 hv hL hnb hnn
  obtain ⟨nm, ⟨rA, rn, rc, rL⟩, ⟨oA, on, oc, oL⟩, ⟨tA, tn, tc, tL⟩, ⟨lA, ln, lc, lL⟩, ar, ⟨bA, bn, bc, bL⟩⟩ := x0
  obtain ⟨nm', ⟨rA', rn', rc', rL'⟩, ⟨oA', on', oc', oL'⟩, ⟨tA', tn', tc', tL'⟩, ⟨lA', ln', lc', lL'⟩, ar', ⟨bA', bn', bc', bL'⟩⟩ := x1
  have hc := hide fun (w' : World) (h : Below (bd2 w ⟨nm, ⟨rA, rn, rc, rL⟩, ⟨oA, on, oc, oL⟩, ⟨tA, tn, tc, tL⟩, ⟨lA, ln, lc, lL⟩, ar, ⟨bA, bn, bc, bL⟩⟩ ⟨nm', ⟨rA', rn', rc', rL'⟩, ⟨oA', on', oc', oL'⟩, ⟨tA', tn', tc', tL'⟩, ⟨lA', ln', lc', lL'⟩, ar', ⟨bA', bn', bc', bL'⟩⟩).heap.size (bd2 w ⟨nm, ⟨rA, rn, rc, rL⟩, ⟨oA, on, oc, oL⟩, ⟨tA, tn, tc, tL⟩, ⟨lA, ln, lc, lL⟩, ar, ⟨bA, bn, bc, bL⟩⟩ ⟨nm', ⟨rA', rn', rc', rL'⟩, ⟨oA', on', oc', oL'⟩, ⟨tA', tn', tc', tL'⟩, ⟨lA', ln', lc', lL'⟩, ar', ⟨bA', bn', bc', bL'⟩⟩) w') => (show w'.cell? ⟨w.heap.size, 0, none⟩ = some (.string nm) ∧ w'.cell? ⟨w.heap.size + 1, 0, none⟩ = some (.string nm') ∧ w'.cell? ⟨w.heap.size, 1, none⟩ = some (.slice rA rn rc) ∧ w'.cell? ⟨w.heap.size + 1, 1, none⟩ = some (.slice rA' rn' rc') ∧ w'.cell? ⟨w.heap.size, 2, none⟩ = some (.slice oA on oc) ∧ w'.cell? ⟨w.heap.size + 1, 2, none⟩ = some (.slice oA' on' oc') ∧ w'.cell? ⟨w.heap.size, 3, none⟩ = some (.slice tA tn tc) ∧ w'.cell? ⟨w.heap.size + 1, 3, none⟩ = some (.slice tA' tn' tc') ∧ w'.cell? ⟨w.heap.size, 4, none⟩ = some (.slice lA ln lc) ∧ w'.cell? ⟨w.heap.size + 1, 4, none⟩ = some (.slice lA' ln' lc') ∧ w'.cell? ⟨w.heap.size, 5, none⟩ = some (.int .i64 ar) ∧ w'.cell? ⟨w.heap.size + 1, 5, none⟩ = some (.int .i64 ar') ∧ w'.cell? ⟨w.heap.size, 6, none⟩ = some (.slice bA bn bc) ∧ w'.cell? ⟨w.heap.size + 1, 6, none⟩ = some (.slice bA' bn' bc') from ⟨(hs.out w' h 0 _ _ rfl rfl).1, (hs.out w' h 0 _ _ rfl rfl).2, (hs.out w' h 1 _ _ rfl rfl).1, (hs.out w' h 1 _ _ rfl rfl).2, (hs.out w' h 2 _ _ rfl rfl).1, (hs.out w' h 2 _ _ rfl rfl).2, (hs.out w' h 3 _ _ rfl rfl).1, (hs.out w' h 3 _ _ rfl rfl).2, (hs.out w' h 4 _ _ rfl rfl).1, (hs.out w' h 4 _ _ rfl rfl).2, (hs.out w' h 5 _ _ rfl rfl).1, (hs.out w' h 5 _ _ rfl rfl).2, (hs.out w' h 6 _ _ rfl rfl).1, (hs.out w' h 6 _ _ rfl rfl).2⟩)
  go_enter Tryz.func8, Tryz.ntmps8
  go_wp2_with fail
  refine (Large9_any ⟨nm, ⟨rA, rn, rc, rL⟩, ⟨oA, on, oc, oL⟩, ⟨tA, tn, tc, tL⟩, ⟨lA, ln, lc, lL⟩, ar, ⟨bA, bn, bc, bL⟩⟩ _ HX.out HFX.out).mono ?_
  rintro e1 w1 ⟨hb1, h⟩
  have HW1 := hide (show Below (bd2 w ⟨nm, ⟨rA, rn, rc, rL⟩, ⟨oA, on, oc, oL⟩, ⟨tA, tn, tc, tL⟩, ⟨lA, ln, lc, lL⟩, ar, ⟨bA, bn, bc, bL⟩⟩ ⟨nm', ⟨rA', rn', rc', rL'⟩, ⟨oA', on', oc', oL'⟩, ⟨tA', tn', tc', tL'⟩, ⟨lA', ln', lc', lL'⟩, ar', ⟨bA', bn', bc', bL'⟩⟩).heap.size (bd2 w ⟨nm, ⟨rA, rn, rc, rL⟩, ⟨oA, on, oc, oL⟩, ⟨tA, tn, tc, tL⟩, ⟨lA, ln, lc, lL⟩, ar, ⟨bA, bn, bc, bL⟩⟩ ⟨nm', ⟨rA', rn', rc', rL'⟩, ⟨oA', on', oc', oL'⟩, ⟨tA', tn', tc', tL'⟩, ⟨lA', ln', lc', lL'⟩, ar', ⟨bA', bn', bc', bL'⟩⟩) w1 from hb1)
  clear hb1
  rcases h with rfl | ⟨rfl, hok⟩
  · go_wp2_with fail
    refine (alive09_any _).mono ?_
    rintro e2 w2 ⟨rfl, hb2⟩
    have HW2 := hide (HW1.out.trans (hb2.mono HW1.out.size))
    clear hb2
    go_wp2
    go_ret
    exact ⟨rfl, HB.out.trans (HW2.out.mono HB.out.size)⟩
  obtain ⟨c0, d0, c1, d1, c2, d2, c3, d3, c4, d4, c5, d5, c6, d6⟩ := hc.out _ HW1.out
  have HOK := hide hok
  clear hok
  go_wp2_with fail
  refine (Large9_any ⟨nm', ⟨rA', rn', rc', rL'⟩, ⟨oA', on', oc', oL'⟩, ⟨tA', tn', tc', tL'⟩, ⟨lA', ln', lc', lL'⟩, ar', ⟨bA', bn', bc', bL'⟩⟩ _ (HY.out.up HW1.out) HFY.out).mono ?_
  rintro e2 w2 ⟨hb2, h⟩
  have HW2 := hide (HW1.out.trans (hb2.mono HW1.out.size))
  clear hb2 c0 d0 c1 d1 c2 d2 c3 d3 c4 d4 c5 d5 c6 d6
  rcases h with rfl | ⟨rfl, hok⟩
  · go_wp2_with fail
    refine (alive09_any _).mono ?_
    rintro e3 w3 ⟨rfl, hb3⟩
    have HW3 := hide (HW2.out.trans (hb3.mono HW2.out.size))
    clear hb3
    go_wp2
    go_ret
    exact ⟨rfl, HB.out.trans (HW3.out.mono HB.out.size)⟩
  obtain ⟨c0, d0, c1, d1, c2, d2, c3, d3, c4, d4, c5, d5, c6, d6⟩ := hc.out _ HW2.out
  have HOK2 := hide hok
  clear hok
  go_wp2_with fail
  refine (EqBd_is (x := ⟨nm, ⟨rA, rn, rc, rL⟩, ⟨oA, on, oc, oL⟩, ⟨tA, tn, tc, tL⟩, ⟨lA, ln, lc, lL⟩, ar, ⟨bA, bn, bc, bL⟩⟩) (y := ⟨nm', ⟨rA', rn', rc', rL'⟩, ⟨oA', on', oc', oL'⟩, ⟨tA', tn', tc', tL'⟩, ⟨lA', ln', lc', lL'⟩, ar', ⟨bA', bn', bc', bL'⟩⟩) HV.out _ (HX.out.up HW2.out) (HY.out.up HW2.out)).mono ?_
  rintro e3 w3 ⟨rfl, hb3⟩
  have HW3 := hide (HW2.out.trans (hb3.mono HW2.out.size))
  clear hb3 c0 d0 c1 d1 c2 d2 c3 d3 c4 d4 c5 d5 c6 d6
  cases v
  · go_wp2_with fail
    refine (alive09_any _).mono ?_
    rintro e4 w4 ⟨rfl, hb4⟩
    have HW4 := hide (HW3.out.trans (hb4.mono HW3.out.size))
    clear hb4
    go_wp2
    go_ret
    exact ⟨rfl, HB.out.trans (HW4.out.mono HB.out.size)⟩
  have hvv : BdW.v ⟨nm, ⟨rA, rn, rc, rL⟩, ⟨oA, on, oc, oL⟩, ⟨tA, tn, tc, tL⟩, ⟨lA, ln, lc, lL⟩, ar, ⟨bA, bn, bc, bL⟩⟩ = BdW.v ⟨nm', ⟨rA', rn', rc', rL'⟩, ⟨oA', on', oc', oL'⟩, ⟨tA', tn', tc', tL'⟩, ⟨lA', ln', lc', lL'⟩, ar', ⟨bA', bn', bc', bL'⟩⟩ := of_decide_eq_true HV.out
  have HL2 := hide (show namesS (BdW.v ⟨nm', ⟨rA', rn', rc', rL'⟩, ⟨oA', on', oc', oL'⟩, ⟨tA', tn', tc', tL'⟩, ⟨lA', ln', lc', lL'⟩, ar', ⟨bA', bn', bc', bL'⟩⟩) = L from hvv ▸ HL.out)
  have HNB2 := hide (show bytesN (BdW.v ⟨nm', ⟨rA', rn', rc', rL'⟩, ⟨oA', on', oc', oL'⟩, ⟨tA', tn', tc', tL'⟩, ⟨lA', ln', lc', lL'⟩, ar', ⟨bA', bn', bc', bL'⟩⟩) = nb from hvv ▸ HNB.out)
  have HNN2 := hide (show bdN (BdW.v ⟨nm', ⟨rA', rn', rc', rL'⟩, ⟨oA', on', oc', oL'⟩, ⟨tA', tn', tc', tL'⟩, ⟨lA', ln', lc', lL'⟩, ar', ⟨bA', bn', bc', bL'⟩⟩) = nn from hvv ▸ HNN.out)
  have HLL := hide (show L.length ≤ maxLen from by
    have h1 := tab_len (allS (BdW.v ⟨nm, ⟨rA, rn, rc, rL⟩, ⟨oA, on, oc, oL⟩, ⟨tA, tn, tc, tL⟩, ⟨lA, ln, lc, lL⟩, ar, ⟨bA, bn, bc, bL⟩⟩))
    have h2 : tab (allS (BdW.v ⟨nm, ⟨rA, rn, rc, rL⟩, ⟨oA, on, oc, oL⟩, ⟨tA, tn, tc, tL⟩, ⟨lA, ln, lc, lL⟩, ar, ⟨bA, bn, bc, bL⟩⟩)) = L := HL.out
    rw [h2] at h1
    have := HOK.out.all
    unfold maxLen
    omega)
  clear hvv
  go_wp2
  have HW0 := hide (HW3.out.drew)
  refine wp_region_held_drew (S := (fun w' => Below (bd2 w ⟨nm, ⟨rA, rn, rc, rL⟩, ⟨oA, on, oc, oL⟩, ⟨tA, tn, tc, tL⟩, ⟨lA, ln, lc, lL⟩, ar, ⟨bA, bn, bc, bL⟩⟩ ⟨nm', ⟨rA', rn', rc', rL'⟩, ⟨oA', on', oc', oL'⟩, ⟨tA', tn', tc', tL'⟩, ⟨lA', ln', lc', lL'⟩, ar', ⟨bA', bn', bc', bL'⟩⟩).heap.size (bd2 w ⟨nm, ⟨rA, rn, rc, rL⟩, ⟨oA, on, oc, oL⟩, ⟨tA, tn, tc, tL⟩, ⟨lA, ln, lc, lL⟩, ar, ⟨bA, bn, bc, bL⟩⟩ ⟨nm', ⟨rA', rn', rc', rL'⟩, ⟨oA', on', oc', oL'⟩, ⟨tA', tn', tc', tL'⟩, ⟨lA', ln', lc', lL'⟩, ar', ⟨bA', bn', bc', bL'⟩⟩) w' ∧ w'.cell? ⟨w.heap.size, 0, none⟩ = some (.string nm) ∧ w'.cell? ⟨w.heap.size + 1, 0, none⟩ = some (.string nm') ∧ w'.cell? ⟨w.heap.size, 1, none⟩ = some (.slice rA rn rc) ∧ w'.cell? ⟨w.heap.size + 1, 1, none⟩ = some (.slice rA' rn' rc') ∧ w'.cell? ⟨w.heap.size, 2, none⟩ = some (.slice oA on oc) ∧ w'.cell? ⟨w.heap.size + 1, 2, none⟩ = some (.slice oA' on' oc') ∧ w'.cell? ⟨w.heap.size, 3, none⟩ = some (.slice tA tn tc) ∧ w'.cell? ⟨w.heap.size + 1, 3, none⟩ = some (.slice tA' tn' tc') ∧ w'.cell? ⟨w.heap.size, 4, none⟩ = some (.slice lA ln lc) ∧ w'.cell? ⟨w.heap.size + 1, 4, none⟩ = some (.slice lA' ln' lc') ∧ w'.cell? ⟨w.heap.size, 5, none⟩ = some (.int .i64 ar) ∧ w'.cell? ⟨w.heap.size + 1, 5, none⟩ = some (.int .i64 ar') ∧ w'.cell? ⟨w.heap.size, 6, none⟩ = some (.slice bA bn bc) ∧ w'.cell? ⟨w.heap.size + 1, 6, none⟩ = some (.slice bA' bn' bc'))) (by kernel_rfl) ⟨HW0.out, hc.out _ HW0.out⟩ (fun hHeld => ?_)
  refine wpAnyH_ready (rs := [0]) (by kernel_rfl) (by simp) ?_
  refine AllReadyH.cons rfl (fun K hK => ?_) AllReadyH.nil
  go_simp
  refine (alive09_any _).mono ?_
  rintro e1 w1 ⟨rfl, hb0⟩
  have HW1 := hide (HW0.out.trans (hb0.mono HW0.out.size))
  clear hb0
  refine hK.out _ _ ⟨HW1.out, hc.out _ HW1.out⟩ (fun hHeld => ?_)
  clear hK K
  try simp only [Act.put, List.setIfInBounds_toArray, List.set_cons_zero, List.set_cons_succ]
  refine takeY (i := 1) (d := some 21) (v := ?_) rfl rfl (by kernel_rfl) (by kernel_rfl) (by kernel_rfl) (fun _ _ _ h => h) (by rfl) ?_ hHeld ?_
  rotate_left
  · intro w9 hS9
    first | (go_simp; done) | (go_simp; with_reducible rfl)
  try simp only [Act.put, List.setIfInBounds_toArray, List.set_cons_zero, List.set_cons_succ]
  refine takeY (i := 2) (d := some 22) (v := ?_) rfl rfl (by kernel_rfl) (by kernel_rfl) (by kernel_rfl) (fun _ _ _ h => h) (by rfl) ?_ hHeld ?_
  rotate_left
  · intro w9 hS9
    obtain ⟨_, c0, d0, c1, d1, c2, d2, c3, d3, c4, d4, c5, d5, c6, d6⟩ := hS9
    first | (go_simp; done) | (go_simp; with_reducible rfl)
  try simp only [Act.put, List.setIfInBounds_toArray, List.set_cons_zero, List.set_cons_succ]
  refine takeY (i := 3) (d := some 23) (v := ?_) rfl rfl (by kernel_rfl) (by kernel_rfl) (by kernel_rfl) (fun _ _ _ h => h) (by rfl) ?_ hHeld ?_
  rotate_left
  · intro w9 hS9
    obtain ⟨_, c0, d0, c1, d1, c2, d2, c3, d3, c4, d4, c5, d5, c6, d6⟩ := hS9
    first | (go_simp; done) | (go_simp; with_reducible rfl)
  try simp only [Act.put, List.setIfInBounds_toArray, List.set_cons_zero, List.set_cons_succ]
  refine wpAnyH_ready (rs := [4]) (by kernel_rfl) (by simp) ?_
  refine AllReadyH.cons rfl (fun K hK => ?_) AllReadyH.nil
  go_simp
  refine (REqBd_is (x := ⟨nm, ⟨rA, rn, rc, rL⟩, ⟨oA, on, oc, oL⟩, ⟨tA, tn, tc, tL⟩, ⟨lA, ln, lc, lL⟩, ar, ⟨bA, bn, bc, bL⟩⟩) (y := ⟨nm', ⟨rA', rn', rc', rL'⟩, ⟨oA', on', oc', oL'⟩, ⟨tA', tn', tc', tL'⟩, ⟨lA', ln', lc', lL'⟩, ar', ⟨bA', bn', bc', bL'⟩⟩) HV.out _ (HX.out.up HW1.out) (HY.out.up HW1.out)).mono ?_
  rintro e2 w2 ⟨rfl, hb0⟩
  have HW2 := hide (HW1.out.trans (hb0.mono HW1.out.size))
  clear hb0
  refine hK.out _ _ ⟨HW2.out, hc.out _ HW2.out⟩ (fun hHeld => ?_)
  clear hK K
  try simp only [Act.put, List.setIfInBounds_toArray, List.set_cons_zero, List.set_cons_succ]
  refine takeY (i := 5) (d := some 25) (v := ?_) rfl rfl (by kernel_rfl) (by kernel_rfl) (by kernel_rfl) (fun _ _ _ h => h) (by rfl) ?_ hHeld ?_
  rotate_left
  · intro w9 hS9
    first | (go_simp; done) | (go_simp; with_reducible rfl)
  try simp only [Act.put, List.setIfInBounds_toArray, List.set_cons_zero, List.set_cons_succ]
  refine takeY (i := 6) (d := some 26) (v := ?_) rfl rfl (by kernel_rfl) (by kernel_rfl) (by kernel_rfl) (fun _ _ _ h => h) (by rfl) ?_ hHeld ?_
  rotate_left
  · intro w9 hS9
    first | (go_simp; done) | (go_simp; with_reducible rfl)
  try simp only [Act.put, List.setIfInBounds_toArray, List.set_cons_zero, List.set_cons_succ]
  refine takeY (i := 7) (d := some 27) (v := ?_) rfl rfl (by kernel_rfl) (by kernel_rfl) (by kernel_rfl) (fun _ _ _ h => h) (by rfl) ?_ hHeld ?_
  rotate_left
  · intro w9 hS9
    obtain ⟨_, c0, d0, c1, d1, c2, d2, c3, d3, c4, d4, c5, d5, c6, d6⟩ := hS9
    first | (go_simp; done) | (go_simp; with_reducible rfl)
  try simp only [Act.put, List.setIfInBounds_toArray, List.set_cons_zero, List.set_cons_succ]
  refine takeY (i := 9) (d := some 29) (v := ?_) rfl rfl (by kernel_rfl) (by kernel_rfl) (by kernel_rfl) (fun _ _ _ h => h) (by rfl) ?_ hHeld ?_
  rotate_left
  · intro w9 hS9
    obtain ⟨_, c0, d0, c1, d1, c2, d2, c3, d3, c4, d4, c5, d5, c6, d6⟩ := hS9
    first | (go_simp; done) | (go_simp; with_reducible rfl)
  try simp only [Act.put, List.setIfInBounds_toArray, List.set_cons_zero, List.set_cons_succ]
  refine wpAnyH_ready (rs := [8]) (by kernel_rfl) (by simp) ?_
  refine AllReadyH.cons rfl (fun K hK => ?_) AllReadyH.nil
  go_simp
  refine (Names_any ⟨nm, ⟨rA, rn, rc, rL⟩, ⟨oA, on, oc, oL⟩, ⟨tA, tn, tc, tL⟩, ⟨lA, ln, lc, lL⟩, ar, ⟨bA, bn, bc, bL⟩⟩ _ (HX.out.up HW2.out) (Nat.le_trans HOK.out.all (by decide))).mono ?_
  rintro e3 w3 ⟨v3, rfl, hown, hb0⟩
  have HW3 := hide (HW2.out.trans (hb0.mono HW2.out.size))
  rw [show namesS (BdW.v ⟨nm, ⟨rA, rn, rc, rL⟩, ⟨oA, on, oc, oL⟩, ⟨tA, tn, tc, tL⟩, ⟨lA, ln, lc, lL⟩, ar, ⟨bA, bn, bc, bL⟩⟩) = L from HL.out] at hown
  obtain ⟨NA, Nc, rfl⟩ := own_slice hown
  have HN := hide (rd_names9 hown HNM.out)
  clear hown
  clear hb0
  refine hK.out _ _ ⟨HW3.out, hc.out _ HW3.out⟩ (fun hHeld => ?_)
  clear hK K
  try simp only [Act.put, List.setIfInBounds_toArray, List.set_cons_zero, List.set_cons_succ]
  refine wpAnyH_ready (rs := [10]) (by kernel_rfl) (by simp) ?_
  refine AllReadyH.cons rfl (fun K hK => ?_) AllReadyH.nil
  go_simp
  refine (Names_any ⟨nm', ⟨rA', rn', rc', rL'⟩, ⟨oA', on', oc', oL'⟩, ⟨tA', tn', tc', tL'⟩, ⟨lA', ln', lc', lL'⟩, ar', ⟨bA', bn', bc', bL'⟩⟩ _ (HY.out.up HW3.out) (Nat.le_trans HOK2.out.all (by decide))).mono ?_
  rintro e4 w4 ⟨v4, rfl, hown, hb0⟩
  have HW4 := hide (HW3.out.trans (hb0.mono HW3.out.size))
  have HNz := hide (HN.out.below hb0)
  clear HN
  have HN := HNz
  clear HNz
  rw [show namesS (BdW.v ⟨nm', ⟨rA', rn', rc', rL'⟩, ⟨oA', on', oc', oL'⟩, ⟨tA', tn', tc', tL'⟩, ⟨lA', ln', lc', lL'⟩, ar', ⟨bA', bn', bc', bL'⟩⟩) = L from HL2.out] at hown
  obtain ⟨MA, Mc, rfl⟩ := own_slice hown
  have HM := hide (rd_names9 hown HNM.out)
  clear hown
  clear hb0
  refine hK.out _ _ ⟨HW4.out, hc.out _ HW4.out⟩ (fun hHeld => ?_)
  clear hK K
  try simp only [Act.put, List.setIfInBounds_toArray, List.set_cons_zero, List.set_cons_succ]
  refine wpAnyH_ready (rs := [11]) (by kernel_rfl) (by simp) ?_
  refine AllReadyH.cons rfl (fun K hK => ?_) AllReadyH.nil
  go_simp
  refine (EqS_same NA MA L.length Nc L.length Mc L L _ _ _ HN.out HM.out HLL.out HLL.out rfl).mono ?_
  rintro e5 w5 ⟨rfl, hb0⟩
  have HW5 := hide (HW4.out.trans (hb0.mono HW4.out.size))
  clear hb0
  clear HN
  clear HM
  refine hK.out _ _ ⟨HW5.out, hc.out _ HW5.out⟩ (fun hHeld => ?_)
  clear hK K
  try simp only [Act.put, List.setIfInBounds_toArray, List.set_cons_zero, List.set_cons_succ]
  refine takeY (i := 12) (d := some 32) (v := ?_) rfl rfl (by kernel_rfl) (by kernel_rfl) (by kernel_rfl) (fun _ _ _ h => h) (by rfl) ?_ hHeld ?_
  rotate_left
  · intro w9 hS9
    first | (go_simp; done) | (go_simp; with_reducible rfl)
  try simp only [Act.put, List.setIfInBounds_toArray, List.set_cons_zero, List.set_cons_succ]
  refine takeY (i := 13) (d := some 33) (v := ?_) rfl rfl (by kernel_rfl) (by kernel_rfl) (by kernel_rfl) (fun _ _ _ h => h) (by rfl) ?_ hHeld ?_
  rotate_left
  · intro w9 hS9
    first | (go_simp; done) | (go_simp; with_reducible rfl)
  try simp only [Act.put, List.setIfInBounds_toArray, List.set_cons_zero, List.set_cons_succ]
  refine takeY (i := 14) (d := some 34) (v := ?_) rfl rfl (by kernel_rfl) (by kernel_rfl) (by kernel_rfl) (fun _ _ _ h => h) (by rfl) ?_ hHeld ?_
  rotate_left
  · intro w9 hS9
    obtain ⟨_, c0, d0, c1, d1, c2, d2, c3, d3, c4, d4, c5, d5, c6, d6⟩ := hS9
    first | (go_simp; done) | (go_simp; with_reducible rfl)
  try simp only [Act.put, List.setIfInBounds_toArray, List.set_cons_zero, List.set_cons_succ]
  refine takeY (i := 16) (d := some 36) (v := ?_) rfl rfl (by kernel_rfl) (by kernel_rfl) (by kernel_rfl) (fun _ _ _ h => h) (by rfl) ?_ hHeld ?_
  rotate_left
  · intro w9 hS9
    obtain ⟨_, c0, d0, c1, d1, c2, d2, c3, d3, c4, d4, c5, d5, c6, d6⟩ := hS9
    first | (go_simp; done) | (go_simp; with_reducible rfl)
  try simp only [Act.put, List.setIfInBounds_toArray, List.set_cons_zero, List.set_cons_succ]
  refine wpAnyH_ready (rs := [15]) (by kernel_rfl) (by simp) ?_
  refine AllReadyH.cons rfl (fun K hK => ?_) AllReadyH.nil
  go_simp
  refine (Bytes_is9 (x := ⟨nm, ⟨rA, rn, rc, rL⟩, ⟨oA, on, oc, oL⟩, ⟨tA, tn, tc, tL⟩, ⟨lA, ln, lc, lL⟩, ar, ⟨bA, bn, bc, bL⟩⟩) HNB.out _ (HX.out.up HW5.out) (Nat.le_trans HOK.out.all (by decide)) (HNB.out ▸ HOK.out.bytes)).mono ?_
  rintro e6 w6 ⟨rfl, hb0⟩
  have HW6 := hide (HW5.out.trans (hb0.mono HW5.out.size))
  clear hb0
  refine hK.out _ _ ⟨HW6.out, hc.out _ HW6.out⟩ (fun hHeld => ?_)
  clear hK K
  try simp only [Act.put, List.setIfInBounds_toArray, List.set_cons_zero, List.set_cons_succ]
  refine wpAnyH_ready (rs := [17]) (by kernel_rfl) (by simp) ?_
  refine AllReadyH.cons rfl (fun K hK => ?_) AllReadyH.nil
  go_simp
  refine (Bytes_is9 (x := ⟨nm', ⟨rA', rn', rc', rL'⟩, ⟨oA', on', oc', oL'⟩, ⟨tA', tn', tc', tL'⟩, ⟨lA', ln', lc', lL'⟩, ar', ⟨bA', bn', bc', bL'⟩⟩) HNB2.out _ (HY.out.up HW6.out) (Nat.le_trans HOK2.out.all (by decide)) (HNB2.out ▸ HOK2.out.bytes)).mono ?_
  rintro e7 w7 ⟨rfl, hb0⟩
  have HW7 := hide (HW6.out.trans (hb0.mono HW6.out.size))
  clear hb0
  refine hK.out _ _ ⟨HW7.out, hc.out _ HW7.out⟩ (fun hHeld => ?_)
  clear hK K
  try simp only [Act.put, List.setIfInBounds_toArray, List.set_cons_zero, List.set_cons_succ]
  refine takeY (i := 18) (d := some 38) (v := ?_) rfl rfl (by kernel_rfl) (by kernel_rfl) (by kernel_rfl) (fun _ _ _ h => h) (by rfl) ?_ hHeld ?_
  rotate_left
  · intro w9 hS9
    first | (go_simp; done) | (go_simp; with_reducible rfl)
  try simp only [Act.put, List.setIfInBounds_toArray, List.set_cons_zero, List.set_cons_succ]
  refine takeY (i := 19) (d := some 39) (v := ?_) rfl rfl (by kernel_rfl) (by kernel_rfl) (by kernel_rfl) (fun _ _ _ h => h) (by rfl) ?_ hHeld ?_
  rotate_left
  · intro w9 hS9
    first | (go_simp; done) | (go_simp; with_reducible rfl)
  try simp only [Act.put, List.setIfInBounds_toArray, List.set_cons_zero, List.set_cons_succ]
  refine takeY (i := 20) (d := some 40) (v := ?_) rfl rfl (by kernel_rfl) (by kernel_rfl) (by kernel_rfl) (fun _ _ _ h => h) (by rfl) ?_ hHeld ?_
  rotate_left
  · intro w9 hS9
    first | (go_simp; done) | (go_simp; with_reducible rfl)
  try simp only [Act.put, List.setIfInBounds_toArray, List.set_cons_zero, List.set_cons_succ]
  refine takeY (i := 21) (d := some 41) (v := ?_) rfl rfl (by kernel_rfl) (by kernel_rfl) (by kernel_rfl) (fun _ _ _ h => h) (by rfl) ?_ hHeld ?_
  rotate_left
  · intro w9 hS9
    obtain ⟨_, c0, d0, c1, d1, c2, d2, c3, d3, c4, d4, c5, d5, c6, d6⟩ := hS9
    first | (go_simp; done) | (go_simp; with_reducible rfl)
  try simp only [Act.put, List.setIfInBounds_toArray, List.set_cons_zero, List.set_cons_succ]
  refine takeY (i := 23) (d := some 43) (v := ?_) rfl rfl (by kernel_rfl) (by kernel_rfl) (by kernel_rfl) (fun _ _ _ h => h) (by rfl) ?_ hHeld ?_
  rotate_left
  · intro w9 hS9
    obtain ⟨_, c0, d0, c1, d1, c2, d2, c3, d3, c4, d4, c5, d5, c6, d6⟩ := hS9
    first | (go_simp; done) | (go_simp; with_reducible rfl)
  try simp only [Act.put, List.setIfInBounds_toArray, List.set_cons_zero, List.set_cons_succ]
  refine wpAnyH_ready (rs := [22]) (by kernel_rfl) (by simp) ?_
  refine AllReadyH.cons rfl (fun K hK => ?_) AllReadyH.nil
  go_simp
  refine (Nodes_is (x := ⟨nm, ⟨rA, rn, rc, rL⟩, ⟨oA, on, oc, oL⟩, ⟨tA, tn, tc, tL⟩, ⟨lA, ln, lc, lL⟩, ar, ⟨bA, bn, bc, bL⟩⟩) HNN.out _ (HX.out.up HW7.out) (HNN.out ▸ HOK.out.nodes)).mono ?_
  rintro e8 w8 ⟨rfl, hb0⟩
  have HW8 := hide (HW7.out.trans (hb0.mono HW7.out.size))
  clear hb0
  refine hK.out _ _ ⟨HW8.out, hc.out _ HW8.out⟩ (fun hHeld => ?_)
  clear hK K
  try simp only [Act.put, List.setIfInBounds_toArray, List.set_cons_zero, List.set_cons_succ]
  refine wpAnyH_ready (rs := [24]) (by kernel_rfl) (by simp) ?_
  refine AllReadyH.cons rfl (fun K hK => ?_) AllReadyH.nil
  go_simp
  refine (Nodes_is (x := ⟨nm', ⟨rA', rn', rc', rL'⟩, ⟨oA', on', oc', oL'⟩, ⟨tA', tn', tc', tL'⟩, ⟨lA', ln', lc', lL'⟩, ar', ⟨bA', bn', bc', bL'⟩⟩) HNN2.out _ (HY.out.up HW8.out) (HNN2.out ▸ HOK2.out.nodes)).mono ?_
  rintro e9 w9 ⟨rfl, hb0⟩
  have HW9 := hide (HW8.out.trans (hb0.mono HW8.out.size))
  clear hb0
  refine hK.out _ _ ⟨HW9.out, hc.out _ HW9.out⟩ (fun hHeld => ?_)
  clear hK K
  try simp only [Act.put, List.setIfInBounds_toArray, List.set_cons_zero, List.set_cons_succ]
  refine takeY (i := 25) (d := some 45) (v := ?_) rfl rfl (by kernel_rfl) (by kernel_rfl) (by kernel_rfl) (fun _ _ _ h => h) (by rfl) ?_ hHeld ?_
  rotate_left
  · intro w9 hS9
    first | (go_simp; done) | (go_simp; with_reducible rfl)
  try simp only [Act.put, List.setIfInBounds_toArray, List.set_cons_zero, List.set_cons_succ]
  refine takeY (i := 26) (d := some 46) (v := ?_) rfl rfl (by kernel_rfl) (by kernel_rfl) (by kernel_rfl) (fun _ _ _ h => h) (by rfl) ?_ hHeld ?_
  rotate_left
  · intro w9 hS9
    first | (go_simp; done) | (go_simp; with_reducible rfl)
  try simp only [Act.put, List.setIfInBounds_toArray, List.set_cons_zero, List.set_cons_succ]
  refine takeY (i := 27) (d := some 4) (v := ?_) rfl rfl (by kernel_rfl) (by kernel_rfl) (by kernel_rfl) (fun _ _ _ h => h) (by rfl) ?_ hHeld ?_
  rotate_left
  · intro w9 hS9
    first | (go_simp; done) | (go_simp; with_reducible rfl)
  try simp only [Act.put, List.setIfInBounds_toArray, List.set_cons_zero, List.set_cons_succ]
  refine wpAnyH_done (by kernel_rfl) ?_ _
  go_wp2
  go_ret
  exact ⟨rfl, HB.out.trans (HW9.out.mono HB.out.size)⟩
theorem own : ownKnob Tryz.prog.godebug = none := by kernel_rfl
theorem laidOut : laidOutB Tryz.prog = true := by kernel_rfl

set_option maxRecDepth 100000 in
/-- what the walk gives, for every argument that can be read -/
theorem contract (H : Type) (enc : TypeId × Value → H) (W : World) (base : Nat) (args : Array Value) (ds gs : List (DataW H)) (before : List MemPlace)
    (hval0 : ∀ (j : Nat) t v, Tryz.f8.params[j]? = some t → args[j]? = some v → Value.okWide Tryz.prog W .any base t v)
    (hW : DataW.Whole enc Tryz.prog Tryz.f8.params.toList Rows.bodiesEqualSpec.vars false W args.toList ds gs before) (hsz0 : (DataW.weightsEach Tryz.prog (Tryz.f8.params.toList ++ Rows.bodiesEqualSpec.plain.varTypes Tryz.prog) (ds ++ gs)).all (· ≤ reachBytes) = true) :
    Calls Tryz.prog 8 args W fun e W' => ∃ v, e = .returned v ∧ Rows.bodiesEqualSpec.post enc Tryz.prog Tryz.f8 false true false false W args v W' := by
  have hval : ∀ (j : Nat) t v, Tryz.f8.params[j]? = some t → args[j]? = some v → Value.okWide Tryz.prog W .any base t v := hval0
  have hW' := hW
  obtain ⟨p, q, hA0, hV, rfl, hfz, hnd⟩ := hW
  have hA : DataW.TrodAll enc Tryz.prog W 0 (fun _ => true) true Tryz.f8.params.toList args.toList ds p := hA0
  have hsz : (DataW.weightsEach Tryz.prog (Tryz.f8.params.toList ++ Rows.bodiesEqualSpec.plain.varTypes Tryz.prog) (ds ++ gs)).all (· ≤ reachBytes) = true := hsz0
  rw [Tryz.params8] at hA hval hsz
  obtain ⟨v0, vs0, d0, ds0, p0, q0, hargs, rfl, rfl, h0, r0⟩ := trodAll_cons hA
  obtain ⟨v1, vs1, d1, ds1, p1, q1, rfl, rfl, rfl, h1, r1⟩ := trodAll_cons r0
  obtain ⟨rfl, rfl, rfl⟩ := trodAll_nil r1
  obtain rfl : args = #[v0, v1] := by cases args; simp_all
  obtain ⟨rfl, rfl⟩ := trodVars_none hV
  have k0 := h0
  have lt0 : ∀ x ∈ p0, x.block < W.heap.size := by obtain ⟨m, hm⟩ := k0; exact DataW.trod_lt m _ _ _ hm
  obtain ⟨x0, rfl, g0, f0⟩ := openBody (hval 0 28 v0 rfl rfl) h0
  have k1 := h1
  have lt1 : ∀ x ∈ p1, x.block < W.heap.size := by obtain ⟨m, hm⟩ := k1; exact DataW.trod_lt m _ _ _ hm
  obtain ⟨x1, rfl, g1, f1⟩ := openBody (hval 1 28 v1 rfl rfl) h1
  have s0 : FitBd x0 := f0 (List.all_eq_true.2 fun n hn => List.all_eq_true.1 hsz n (DataW.weights_mem_each (j := 0) (t := 28) rfl rfl n hn))
  have s1 : FitBd x1 := f1 (List.all_eq_true.2 fun n hn => List.all_eq_true.1 hsz n (DataW.weights_mem_each (j := 1) (t := 28) rfl rfl n hn))
  clear hA0 hval0 hsz hsz0
  simp only [List.append_nil] at hW'
  refine (walk x0 x1 W g0 g1 s0 s1).mono fun e W' ⟨he, bel⟩ => ?_
  subst he
  exact ⟨_, rfl, _, _, _, [], _, [], hW', trodAll_mk1 (shut_bool Tryz.underlying4 _), (trodAll_cons_mk (Below.trod laidOut (by kernel_rfl) (of_decide_eq_true (by kernel_rfl)) k0 bel lt0) (trodAll_cons_mk (Below.trod laidOut (by kernel_rfl) (of_decide_eq_true (by kernel_rfl)) k1 bel lt1) trodAll_mk0)), rfl, bel.frame _, fun h => by cases h⟩

set_option maxRecDepth 100000 in
theorem lifted (os : Os) (started : os.Started) (H : Type) (enc : TypeId × Value → H) :
    ReturnsInHanded {} Tryz.checked os 8 .any (Rows.bodiesEqualSpec.pre6 enc Tryz.prog Tryz.f8 Rows.bodiesEqualRow.domain false) (Rows.bodiesEqualSpec.post enc Tryz.prog Tryz.f8 false true false false) := by
  refine returnsInHanded_of_change_sized (C := Tryz.checked) own started (by kernel_rfl) Tryz.func8
    (ChangeSpec.witness6 (enc := enc) (C := Tryz.checked) false ⟨#[], #[.agg #[.string .empty, .slice none 0 0, .slice none 0 0, .slice none 0 0, .slice none 0 0, .int .i64 0, .slice none 0 0], .agg #[.string .empty, .slice none 0 0, .slice none 0 0, .slice none 0 0, .slice none 0 0, .int .i64 0, .slice none 0 0]], []⟩ 8 (by kernel_rfl) (by kernel_rfl) (by kernel_rfl) (by kernel_rfl)) ?_
  intro W base args ds gs before hval hW _ hsz _
  exact contract H enc W base args ds gs before hval hW hsz

/-- the statement -/
theorem proved : Rows.BodiesEqualSaid :=
  OpenClaim.holds_of_wide 8 Tryz.f8 rfl rfl rfl rfl rfl rfl rfl ⟨rfl, rfl, rfl, rfl, rfl⟩ rfl rfl rfl rfl rfl (by kernel_rfl) Tryz.func8 (by kernel_rfl)
    (of_decide_eq_true (by kernel_rfl)) (by unfold Func.isWrapper; first | (rw [if_pos (by decide +kernel)]; kernel_rfl) | (rw [if_neg (by decide +kernel)]; exact ⟨rfl, rfl⟩))
    (fun os started H enc _ => lifted os started H enc)
end Go.Proofs.YtbdimnncobpfdaaGreat.bodiesEqual
