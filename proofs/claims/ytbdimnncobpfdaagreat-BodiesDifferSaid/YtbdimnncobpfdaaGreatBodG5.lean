/- The code's comparison of bodies. -/
import Derived.Test.YtbdimnncobpfdaaGreatBodG
import Derived.Test.YtbdimnncobpfdaaGreatBodF
import Derived.Test.YtbdimnncobpfdaaGreatBodQ
set_option linter.unusedVariables false
namespace Go.Proofs.YtbdimnncobpfdaaGreat
open Go.RowKit Go.Shelf

def eqStrs (s t : SlW ByteArray) : Bool := eqL s.L t.L
theorem EqStrs_is {s t : SlW ByteArray} {v : Bool} (h : eqStrs s t = v) (w : World) (hs : Strs w w.heap.size s) (ht : Strs w w.heap.size t) :
    Calls Tryz.prog 27 #[.agg #[s.val, .func (.func 65) #[] #[]], t.val] w fun e w' => e = .returned (.bool v) ∧ Below w.heap.size w w' :=
  h ▸ EqsStr_any 65 s t w hs ht (enters_of Tryz.func65 (by kernel_rfl) rfl) fun x hx y hy w1 hb => CmpStr_plain x y w1

def eqPrs (s t : SlW Pr) : Bool := eqL s.L t.L
theorem EqPrs_is {s t : SlW Pr} {v : Bool} (h : eqPrs s t = v) (w : World) (hs : SlH w w.heap.size 2 pV IntP s) (ht : SlH w w.heap.size 2 pV IntP t) :
    Calls Tryz.prog 29 #[.agg #[s.val, .func (.func 67) #[] #[]], t.val] w fun e w' => e = .returned (.bool v) ∧ Below w.heap.size w w' :=
  h ▸ EqsPr_any 67 s t w hs ht (enters_of Tryz.func67 (by kernel_rfl) rfl) fun x hx y hy w1 hb => CmpPr_plain x y w1

def eqTys (s t : SlW TyW) : Bool := eqL (s.L.map TyW.t) (t.L.map TyW.t)
theorem EqTys_is {s t : SlW TyW} {v : Bool} (h : eqTys s t = v) (w : World) (hs : SlH w w.heap.size 5 c5 (OneT w w.heap.size) s) (ht : SlH w w.heap.size 5 c5 (OneT w w.heap.size) t) :
    Calls Tryz.prog 31 #[.agg #[s.val, .func (.func 30) #[] #[]], t.val] w fun e w' => e = .returned (.bool v) ∧ Below w.heap.size w w' :=
  h ▸ EqsTy_any 30 s t w hs ht (enters_of Tryz.func30 (by kernel_rfl) rfl) fun x hx y hy w1 hb => EqT_any x y w1 (((hs.all x hx).below hb).more hb.size) (((ht.all y hy).below hb).more hb.size)

def eqLcs (s t : SlW LcW) : Bool := eqL (s.L.map LcW.v) (t.L.map LcW.v)
theorem EqLcs_is {s t : SlW LcW} {v : Bool} (h : eqLcs s t = v) (w : World) (hs : SlH w w.heap.size 2 cLc (fun y => IntR y.ty ∧ y.name.size ≤ maxLen) s) (ht : SlH w w.heap.size 2 cLc (fun y => IntR y.ty ∧ y.name.size ≤ maxLen) t) :
    Calls Tryz.prog 33 #[.agg #[s.val, .func (.func 71) #[] #[]], t.val] w fun e w' => e = .returned (.bool v) ∧ Below w.heap.size w w' :=
  h ▸ EqsLc_any 71 s t w hs ht (enters_of Tryz.func71 (by kernel_rfl) rfl) fun x hx y hy w1 hb => CmpLc_plain x y w1

def eqBks (s t : SlW BkW) : Bool := eqL (s.L.map BkW.v) (t.L.map BkW.v)
theorem EqBks_is {s t : SlW BkW} {v : Bool} (h : eqBks s t = v) (w : World) (hs : SlH w w.heap.size 7 cBk (OneBk w w.heap.size) s) (ht : SlH w w.heap.size 7 cBk (OneBk w w.heap.size) t) :
    Calls Tryz.prog 35 #[.agg #[s.val, .func (.func 34) #[] #[]], t.val] w fun e w' => e = .returned (.bool v) ∧ Below w.heap.size w w' :=
  h ▸ EqsBk_any 34 s t w hs ht (enters_of Tryz.func34 (by kernel_rfl) rfl) fun x hx y hy w1 hb => (eqBk_v (x := x) (y := y)) ▸ EqBk_any x y w1 ((hs.all x hx).up hb) ((ht.all y hy).up hb)

theorem eqBd_iff {x y : BdW} : eqBd x y = true ↔ x.name = y.name ∧ x.args = y.args ∧ eqStrs x.regions y.regions = true ∧ eqPrs x.outl y.outl = true ∧ eqTys x.types y.types = true ∧ eqLcs x.locals y.locals = true ∧ eqBks x.blocks y.blocks = true := by
  rw [eqBd, decide_eq_true_iff, bdV_eq]
  rfl
set_option maxHeartbeats 4000000 in
set_option maxRecDepth 100000 in
theorem eqBd0 (nm nm' : ByteArray) (k k' : Int) (rA : Option Addr) (rn rc : Nat) (rL : List ByteArray) (oA : Option Addr) (on oc : Nat) (oL : List Pr) (tA : Option Addr) (tn tc : Nat) (tL : List TyW) (lA : Option Addr) (ln lc : Nat) (lL : List LcW) (bA : Option Addr) (bn bc : Nat) (bL : List BkW) (rA' : Option Addr) (rn' rc' : Nat) (rL' : List ByteArray) (oA' : Option Addr) (on' oc' : Nat) (oL' : List Pr) (tA' : Option Addr) (tn' tc' : Nat) (tL' : List TyW) (lA' : Option Addr) (ln' lc' : Nat) (lL' : List LcW) (bA' : Option Addr) (bn' bc' : Nat) (bL' : List BkW) (t : (nm.toList == nm'.toList) = false)
    (w : World) (hx : OneBd w w.heap.size ⟨nm, ⟨rA, rn, rc, rL⟩, ⟨oA, on, oc, oL⟩, ⟨tA, tn, tc, tL⟩, ⟨lA, ln, lc, lL⟩, k, ⟨bA, bn, bc, bL⟩⟩) (hy : OneBd w w.heap.size ⟨nm', ⟨rA', rn', rc', rL'⟩, ⟨oA', on', oc', oL'⟩, ⟨tA', tn', tc', tL'⟩, ⟨lA', ln', lc', lL'⟩, k', ⟨bA', bn', bc', bL'⟩⟩) :
    Calls Tryz.prog 11 #[aggBd ⟨nm, ⟨rA, rn, rc, rL⟩, ⟨oA, on, oc, oL⟩, ⟨tA, tn, tc, tL⟩, ⟨lA, ln, lc, lL⟩, k, ⟨bA, bn, bc, bL⟩⟩, aggBd ⟨nm', ⟨rA', rn', rc', rL'⟩, ⟨oA', on', oc', oL'⟩, ⟨tA', tn', tc', tL'⟩, ⟨lA', ln', lc', lL'⟩, k', ⟨bA', bn', bc', bL'⟩⟩] w fun e w' => e = .returned (.bool false) ∧ Below w.heap.size w w' := by
  have HB := hide (bx2_below w (cBd ⟨nm, ⟨rA, rn, rc, rL⟩, ⟨oA, on, oc, oL⟩, ⟨tA, tn, tc, tL⟩, ⟨lA, ln, lc, lL⟩, k, ⟨bA, bn, bc, bL⟩⟩) (cBd ⟨nm', ⟨rA', rn', rc', rL'⟩, ⟨oA', on', oc', oL'⟩, ⟨tA', tn', tc', tL'⟩, ⟨lA', ln', lc', lL'⟩, k', ⟨bA', bn', bc', bL'⟩⟩) 28)
  have HX := hide (hx.up HB.out)
  have HY := hide (hy.up HB.out)
  have hs := hide fun (w' : World) (h : Below (bx2 w (cBd ⟨nm, ⟨rA, rn, rc, rL⟩, ⟨oA, on, oc, oL⟩, ⟨tA, tn, tc, tL⟩, ⟨lA, ln, lc, lL⟩, k, ⟨bA, bn, bc, bL⟩⟩) (cBd ⟨nm', ⟨rA', rn', rc', rL'⟩, ⟨oA', on', oc', oL'⟩, ⟨tA', tn', tc', tL'⟩, ⟨lA', ln', lc', lL'⟩, k', ⟨bA', bn', bc', bL'⟩⟩) 28).heap.size (bx2 w (cBd ⟨nm, ⟨rA, rn, rc, rL⟩, ⟨oA, on, oc, oL⟩, ⟨tA, tn, tc, tL⟩, ⟨lA, ln, lc, lL⟩, k, ⟨bA, bn, bc, bL⟩⟩) (cBd ⟨nm', ⟨rA', rn', rc', rL'⟩, ⟨oA', on', oc', oL'⟩, ⟨tA', tn', tc', tL'⟩, ⟨lA', ln', lc', lL'⟩, k', ⟨bA', bn', bc', bL'⟩⟩) 28) w') => bx2_cells h
  clear hx hy
  go_enter Tryz.func11, Tryz.ntmps11
  have hc := hide fun (w' : World) (h : Below (bx2 w (cBd ⟨nm, ⟨rA, rn, rc, rL⟩, ⟨oA, on, oc, oL⟩, ⟨tA, tn, tc, tL⟩, ⟨lA, ln, lc, lL⟩, k, ⟨bA, bn, bc, bL⟩⟩) (cBd ⟨nm', ⟨rA', rn', rc', rL'⟩, ⟨oA', on', oc', oL'⟩, ⟨tA', tn', tc', tL'⟩, ⟨lA', ln', lc', lL'⟩, k', ⟨bA', bn', bc', bL'⟩⟩) 28).heap.size (bx2 w (cBd ⟨nm, ⟨rA, rn, rc, rL⟩, ⟨oA, on, oc, oL⟩, ⟨tA, tn, tc, tL⟩, ⟨lA, ln, lc, lL⟩, k, ⟨bA, bn, bc, bL⟩⟩) (cBd ⟨nm', ⟨rA', rn', rc', rL'⟩, ⟨oA', on', oc', oL'⟩, ⟨tA', tn', tc', tL'⟩, ⟨lA', ln', lc', lL'⟩, k', ⟨bA', bn', bc', bL'⟩⟩) 28) w') => (show w'.cell? ⟨w.heap.size, 0, none⟩ = some (.string nm) ∧ w'.cell? ⟨w.heap.size + 1, 0, none⟩ = some (.string nm') ∧ w'.cell? ⟨w.heap.size, 1, none⟩ = some (.slice rA rn rc) ∧ w'.cell? ⟨w.heap.size + 1, 1, none⟩ = some (.slice rA' rn' rc') ∧ w'.cell? ⟨w.heap.size, 2, none⟩ = some (.slice oA on oc) ∧ w'.cell? ⟨w.heap.size + 1, 2, none⟩ = some (.slice oA' on' oc') ∧ w'.cell? ⟨w.heap.size, 3, none⟩ = some (.slice tA tn tc) ∧ w'.cell? ⟨w.heap.size + 1, 3, none⟩ = some (.slice tA' tn' tc') ∧ w'.cell? ⟨w.heap.size, 4, none⟩ = some (.slice lA ln lc) ∧ w'.cell? ⟨w.heap.size + 1, 4, none⟩ = some (.slice lA' ln' lc') ∧ w'.cell? ⟨w.heap.size, 5, none⟩ = some (.int .i64 k) ∧ w'.cell? ⟨w.heap.size + 1, 5, none⟩ = some (.int .i64 k') ∧ w'.cell? ⟨w.heap.size, 6, none⟩ = some (.slice bA bn bc) ∧ w'.cell? ⟨w.heap.size + 1, 6, none⟩ = some (.slice bA' bn' bc') from ⟨(hs.out w' h 0 _ _ rfl rfl).1, (hs.out w' h 0 _ _ rfl rfl).2, (hs.out w' h 1 _ _ rfl rfl).1, (hs.out w' h 1 _ _ rfl rfl).2, (hs.out w' h 2 _ _ rfl rfl).1, (hs.out w' h 2 _ _ rfl rfl).2, (hs.out w' h 3 _ _ rfl rfl).1, (hs.out w' h 3 _ _ rfl rfl).2, (hs.out w' h 4 _ _ rfl rfl).1, (hs.out w' h 4 _ _ rfl rfl).2, (hs.out w' h 5 _ _ rfl rfl).1, (hs.out w' h 5 _ _ rfl rfl).2, (hs.out w' h 6 _ _ rfl rfl).1, (hs.out w' h 6 _ _ rfl rfl).2⟩)
  have HW0 := hide (show Below (bx2 w (cBd ⟨nm, ⟨rA, rn, rc, rL⟩, ⟨oA, on, oc, oL⟩, ⟨tA, tn, tc, tL⟩, ⟨lA, ln, lc, lL⟩, k, ⟨bA, bn, bc, bL⟩⟩) (cBd ⟨nm', ⟨rA', rn', rc', rL'⟩, ⟨oA', on', oc', oL'⟩, ⟨tA', tn', tc', tL'⟩, ⟨lA', ln', lc', lL'⟩, k', ⟨bA', bn', bc', bL'⟩⟩) 28).heap.size (bx2 w (cBd ⟨nm, ⟨rA, rn, rc, rL⟩, ⟨oA, on, oc, oL⟩, ⟨tA, tn, tc, tL⟩, ⟨lA, ln, lc, lL⟩, k, ⟨bA, bn, bc, bL⟩⟩) (cBd ⟨nm', ⟨rA', rn', rc', rL'⟩, ⟨oA', on', oc', oL'⟩, ⟨tA', tn', tc', tL'⟩, ⟨lA', ln', lc', lL'⟩, k', ⟨bA', bn', bc', bL'⟩⟩) 28) (World.drew (bx2 w (cBd ⟨nm, ⟨rA, rn, rc, rL⟩, ⟨oA, on, oc, oL⟩, ⟨tA, tn, tc, tL⟩, ⟨lA, ln, lc, lL⟩, k, ⟨bA, bn, bc, bL⟩⟩) (cBd ⟨nm', ⟨rA', rn', rc', rL'⟩, ⟨oA', on', oc', oL'⟩, ⟨tA', tn', tc', tL'⟩, ⟨lA', ln', lc', lL'⟩, k', ⟨bA', bn', bc', bL'⟩⟩) 28)) from (Below.refl _ _).drew)
  go_wp2
  change Code.wp _ _ _ _ (bx2 w (cBd ⟨nm, ⟨rA, rn, rc, rL⟩, ⟨oA, on, oc, oL⟩, ⟨tA, tn, tc, tL⟩, ⟨lA, ln, lc, lL⟩, k, ⟨bA, bn, bc, bL⟩⟩) (cBd ⟨nm', ⟨rA', rn', rc', rL'⟩, ⟨oA', on', oc', oL'⟩, ⟨tA', tn', tc', tL'⟩, ⟨lA', ln', lc', lL'⟩, k', ⟨bA', bn', bc', bL'⟩⟩) 28)
  refine wp_region_held_drew (S := (fun w' => Below (bx2 w (cBd ⟨nm, ⟨rA, rn, rc, rL⟩, ⟨oA, on, oc, oL⟩, ⟨tA, tn, tc, tL⟩, ⟨lA, ln, lc, lL⟩, k, ⟨bA, bn, bc, bL⟩⟩) (cBd ⟨nm', ⟨rA', rn', rc', rL'⟩, ⟨oA', on', oc', oL'⟩, ⟨tA', tn', tc', tL'⟩, ⟨lA', ln', lc', lL'⟩, k', ⟨bA', bn', bc', bL'⟩⟩) 28).heap.size (bx2 w (cBd ⟨nm, ⟨rA, rn, rc, rL⟩, ⟨oA, on, oc, oL⟩, ⟨tA, tn, tc, tL⟩, ⟨lA, ln, lc, lL⟩, k, ⟨bA, bn, bc, bL⟩⟩) (cBd ⟨nm', ⟨rA', rn', rc', rL'⟩, ⟨oA', on', oc', oL'⟩, ⟨tA', tn', tc', tL'⟩, ⟨lA', ln', lc', lL'⟩, k', ⟨bA', bn', bc', bL'⟩⟩) 28) w' ∧ w'.cell? ⟨w.heap.size, 0, none⟩ = some (.string nm) ∧ w'.cell? ⟨w.heap.size + 1, 0, none⟩ = some (.string nm') ∧ w'.cell? ⟨w.heap.size, 1, none⟩ = some (.slice rA rn rc) ∧ w'.cell? ⟨w.heap.size + 1, 1, none⟩ = some (.slice rA' rn' rc') ∧ w'.cell? ⟨w.heap.size, 2, none⟩ = some (.slice oA on oc) ∧ w'.cell? ⟨w.heap.size + 1, 2, none⟩ = some (.slice oA' on' oc') ∧ w'.cell? ⟨w.heap.size, 3, none⟩ = some (.slice tA tn tc) ∧ w'.cell? ⟨w.heap.size + 1, 3, none⟩ = some (.slice tA' tn' tc') ∧ w'.cell? ⟨w.heap.size, 4, none⟩ = some (.slice lA ln lc) ∧ w'.cell? ⟨w.heap.size + 1, 4, none⟩ = some (.slice lA' ln' lc') ∧ w'.cell? ⟨w.heap.size, 5, none⟩ = some (.int .i64 k) ∧ w'.cell? ⟨w.heap.size + 1, 5, none⟩ = some (.int .i64 k') ∧ w'.cell? ⟨w.heap.size, 6, none⟩ = some (.slice bA bn bc) ∧ w'.cell? ⟨w.heap.size + 1, 6, none⟩ = some (.slice bA' bn' bc'))) (by kernel_rfl) ⟨HW0.out, hc.out _ HW0.out⟩ (fun hHeld => ?_)
  refine takeY (i := 0) (d := some 5) (v := ?_) rfl rfl (by kernel_rfl) (by kernel_rfl) (by kernel_rfl) (fun _ _ _ h => h) (by rfl) ?_ hHeld ?_
  rotate_left
  · intro w9 hS9
    first | (go_simp; done) | (go_simp; with_reducible rfl)
  try simp only [Act.put, List.setIfInBounds_toArray, List.set_cons_zero, List.set_cons_succ]
  refine takeY (i := 1) (d := some 6) (v := ?_) rfl rfl (by kernel_rfl) (by kernel_rfl) (by kernel_rfl) (fun _ _ _ h => h) (by rfl) ?_ hHeld ?_
  rotate_left
  · intro w9 hS9
    obtain ⟨_, c0, d0, c1, d1, c2, d2, c3, d3, c4, d4, c5, d5, c6, d6⟩ := hS9
    first | (go_simp; done) | (go_simp; with_reducible rfl)
  try simp only [Act.put, List.setIfInBounds_toArray, List.set_cons_zero, List.set_cons_succ]
  refine takeY (i := 2) (d := some 7) (v := ?_) rfl rfl (by kernel_rfl) (by kernel_rfl) (by kernel_rfl) (fun _ _ _ h => h) (by rfl) ?_ hHeld ?_
  rotate_left
  · intro w9 hS9
    first | (go_simp; done) | (go_simp; with_reducible rfl)
  try simp only [Act.put, List.setIfInBounds_toArray, List.set_cons_zero, List.set_cons_succ]
  refine takeY (i := 3) (d := some 8) (v := ?_) rfl rfl (by kernel_rfl) (by kernel_rfl) (by kernel_rfl) (fun _ _ _ h => h) (by rfl) ?_ hHeld ?_
  rotate_left
  · intro w9 hS9
    obtain ⟨_, c0, d0, c1, d1, c2, d2, c3, d3, c4, d4, c5, d5, c6, d6⟩ := hS9
    first | (go_simp; done) | (go_simp; with_reducible rfl)
  try simp only [Act.put, List.setIfInBounds_toArray, List.set_cons_zero, List.set_cons_succ]
  refine takeY (i := 4) (d := some 9) (v := ?_) rfl rfl (by kernel_rfl) (by kernel_rfl) (by kernel_rfl) (fun _ _ _ h => h) (by rfl) ?_ hHeld ?_
  rotate_left
  · intro w9 hS9
    first | (go_simp; done) | (go_simp; with_reducible rfl)
  try simp only [Act.put, List.setIfInBounds_toArray, List.set_cons_zero, List.set_cons_succ]
  refine takeY (i := 5) (d := some 10) (v := ?_) rfl rfl (by kernel_rfl) (by kernel_rfl) (by kernel_rfl) (fun _ _ _ h => h) (by rfl) ?_ hHeld ?_
  rotate_left
  · intro w9 hS9
    first | (go_simp; done) | (go_simp; with_reducible rfl)
  try simp only [Act.put, List.setIfInBounds_toArray, List.set_cons_zero, List.set_cons_succ]
  refine takeN (i := 6) (d := some 11) rfl rfl (by kernel_rfl) (by kernel_rfl) (by kernel_rfl) (fun _ _ _ h => h) (by rfl) hHeld ?_
  try simp only [Act.put, List.setIfInBounds_toArray, List.set_cons_zero, List.set_cons_succ]
  refine takeN (i := 7) (d := some 12) rfl rfl (by kernel_rfl) (by kernel_rfl) (by kernel_rfl) (fun _ _ _ h => h) (by rfl) hHeld ?_
  try simp only [Act.put, List.setIfInBounds_toArray, List.set_cons_zero, List.set_cons_succ]
  refine takeN (i := 8) (d := some 13) rfl rfl (by kernel_rfl) (by kernel_rfl) (by kernel_rfl) (fun _ _ _ h => h) (by rfl) hHeld ?_
  try simp only [Act.put, List.setIfInBounds_toArray, List.set_cons_zero, List.set_cons_succ]
  refine takeN (i := 9) (d := some 14) rfl rfl (by kernel_rfl) (by kernel_rfl) (by kernel_rfl) (fun _ _ _ h => h) (by rfl) hHeld ?_
  try simp only [Act.put, List.setIfInBounds_toArray, List.set_cons_zero, List.set_cons_succ]
  refine takeN (i := 10) (d := some 15) rfl rfl (by kernel_rfl) (by kernel_rfl) (by kernel_rfl) (fun _ _ _ h => h) (by rfl) hHeld ?_
  try simp only [Act.put, List.setIfInBounds_toArray, List.set_cons_zero, List.set_cons_succ]
  refine takeY (i := 11) (d := some 16) (v := ?_) rfl rfl (by kernel_rfl) (by kernel_rfl) (by kernel_rfl) (fun _ _ _ h => h) (by rfl) ?_ hHeld ?_
  rotate_left
  · intro w9 hS9
    first | (go_simp; done) | (go_simp; with_reducible rfl)
  try simp only [Act.put, List.setIfInBounds_toArray, List.set_cons_zero, List.set_cons_succ]
  refine takeY (i := 12) (d := some 17) (v := ?_) rfl rfl (by kernel_rfl) (by kernel_rfl) (by kernel_rfl) (fun _ _ _ h => h) (by rfl) ?_ hHeld ?_
  rotate_left
  · intro w9 hS9
    first | (go_simp; done) | (go_simp; with_reducible rfl)
  try simp only [Act.put, List.setIfInBounds_toArray, List.set_cons_zero, List.set_cons_succ]
  refine takeN (i := 13) (d := some 18) rfl rfl (by kernel_rfl) (by kernel_rfl) (by kernel_rfl) (fun _ _ _ h => h) (by rfl) hHeld ?_
  try simp only [Act.put, List.setIfInBounds_toArray, List.set_cons_zero, List.set_cons_succ]
  refine takeN (i := 14) (d := some 19) rfl rfl (by kernel_rfl) (by kernel_rfl) (by kernel_rfl) (fun _ _ _ h => h) (by rfl) hHeld ?_
  try simp only [Act.put, List.setIfInBounds_toArray, List.set_cons_zero, List.set_cons_succ]
  refine takeN (i := 16) (d := some 21) rfl rfl (by kernel_rfl) (by kernel_rfl) (by kernel_rfl) (fun _ _ _ h => h) (by rfl) hHeld ?_
  try simp only [Act.put, List.setIfInBounds_toArray, List.set_cons_zero, List.set_cons_succ]
  refine takeN (i := 17) (d := some 22) rfl rfl (by kernel_rfl) (by kernel_rfl) (by kernel_rfl) (fun _ _ _ h => h) (by rfl) hHeld ?_
  try simp only [Act.put, List.setIfInBounds_toArray, List.set_cons_zero, List.set_cons_succ]
  refine wpAnyH_ready (rs := [15]) (by kernel_rfl) (by simp) ?_
  refine AllReadyH.cons rfl (fun K hK => ?_) AllReadyH.nil
  go_simp
  refine hK.out _ _ hHeld (fun hHeld => ?_)
  clear hK K
  try simp only [Act.put, List.setIfInBounds_toArray, List.set_cons_zero, List.set_cons_succ]
  refine wpAnyH_ready (rs := [18]) (by kernel_rfl) (by simp) ?_
  refine AllReadyH.cons rfl (fun K hK => ?_) AllReadyH.nil
  go_simp
  refine hK.out _ _ hHeld (fun hHeld => ?_)
  clear hK K
  try simp only [Act.put, List.setIfInBounds_toArray, List.set_cons_zero, List.set_cons_succ]
  refine takeY (i := 19) (d := some 24) (v := ?_) rfl rfl (by kernel_rfl) (by kernel_rfl) (by kernel_rfl) (fun _ _ _ h => h) (by rfl) ?_ hHeld ?_
  rotate_left
  · intro w9 hS9
    first | (go_simp; done) | (go_simp; with_reducible rfl)
  try simp only [Act.put, List.setIfInBounds_toArray, List.set_cons_zero, List.set_cons_succ]
  refine takeY (i := 20) (d := some 25) (v := ?_) rfl rfl (by kernel_rfl) (by kernel_rfl) (by kernel_rfl) (fun _ _ _ h => h) (by rfl) ?_ hHeld ?_
  rotate_left
  · intro w9 hS9
    first | (go_simp; done) | (go_simp; with_reducible rfl)
  try simp only [Act.put, List.setIfInBounds_toArray, List.set_cons_zero, List.set_cons_succ]
  refine takeN (i := 21) (d := some 26) rfl rfl (by kernel_rfl) (by kernel_rfl) (by kernel_rfl) (fun _ _ _ h => h) (by rfl) hHeld ?_
  try simp only [Act.put, List.setIfInBounds_toArray, List.set_cons_zero, List.set_cons_succ]
  refine takeN (i := 22) (d := some 27) rfl rfl (by kernel_rfl) (by kernel_rfl) (by kernel_rfl) (fun _ _ _ h => h) (by rfl) hHeld ?_
  try simp only [Act.put, List.setIfInBounds_toArray, List.set_cons_zero, List.set_cons_succ]
  refine takeN (i := 24) (d := some 29) rfl rfl (by kernel_rfl) (by kernel_rfl) (by kernel_rfl) (fun _ _ _ h => h) (by rfl) hHeld ?_
  try simp only [Act.put, List.setIfInBounds_toArray, List.set_cons_zero, List.set_cons_succ]
  refine takeN (i := 25) (d := some 30) rfl rfl (by kernel_rfl) (by kernel_rfl) (by kernel_rfl) (fun _ _ _ h => h) (by rfl) hHeld ?_
  try simp only [Act.put, List.setIfInBounds_toArray, List.set_cons_zero, List.set_cons_succ]
  refine wpAnyH_ready (rs := [23]) (by kernel_rfl) (by simp) ?_
  refine AllReadyH.cons rfl (fun K hK => ?_) AllReadyH.nil
  go_simp
  refine hK.out _ _ hHeld (fun hHeld => ?_)
  clear hK K
  try simp only [Act.put, List.setIfInBounds_toArray, List.set_cons_zero, List.set_cons_succ]
  refine wpAnyH_ready (rs := [26]) (by kernel_rfl) (by simp) ?_
  refine AllReadyH.cons rfl (fun K hK => ?_) AllReadyH.nil
  go_simp
  refine hK.out _ _ hHeld (fun hHeld => ?_)
  clear hK K
  try simp only [Act.put, List.setIfInBounds_toArray, List.set_cons_zero, List.set_cons_succ]
  refine takeY (i := 27) (d := some 32) (v := ?_) rfl rfl (by kernel_rfl) (by kernel_rfl) (by kernel_rfl) (fun _ _ _ h => h) (by rfl) ?_ hHeld ?_
  rotate_left
  · intro w9 hS9
    first | (go_simp; done) | (go_simp; with_reducible rfl)
  try simp only [Act.put, List.setIfInBounds_toArray, List.set_cons_zero, List.set_cons_succ]
  refine takeY (i := 28) (d := some 33) (v := ?_) rfl rfl (by kernel_rfl) (by kernel_rfl) (by kernel_rfl) (fun _ _ _ h => h) (by rfl) ?_ hHeld ?_
  rotate_left
  · intro w9 hS9
    first | (go_simp; done) | (go_simp; with_reducible rfl)
  try simp only [Act.put, List.setIfInBounds_toArray, List.set_cons_zero, List.set_cons_succ]
  refine takeN (i := 29) (d := some 34) rfl rfl (by kernel_rfl) (by kernel_rfl) (by kernel_rfl) (fun _ _ _ h => h) (by rfl) hHeld ?_
  try simp only [Act.put, List.setIfInBounds_toArray, List.set_cons_zero, List.set_cons_succ]
  refine takeN (i := 30) (d := some 35) rfl rfl (by kernel_rfl) (by kernel_rfl) (by kernel_rfl) (fun _ _ _ h => h) (by rfl) hHeld ?_
  try simp only [Act.put, List.setIfInBounds_toArray, List.set_cons_zero, List.set_cons_succ]
  refine takeN (i := 31) (d := some 36) rfl rfl (by kernel_rfl) (by kernel_rfl) (by kernel_rfl) (fun _ _ _ h => h) (by rfl) hHeld ?_
  try simp only [Act.put, List.setIfInBounds_toArray, List.set_cons_zero, List.set_cons_succ]
  refine takeN (i := 32) (d := some 37) rfl rfl (by kernel_rfl) (by kernel_rfl) (by kernel_rfl) (fun _ _ _ h => h) (by rfl) hHeld ?_
  try simp only [Act.put, List.setIfInBounds_toArray, List.set_cons_zero, List.set_cons_succ]
  refine takeN (i := 33) (d := some 38) rfl rfl (by kernel_rfl) (by kernel_rfl) (by kernel_rfl) (fun _ _ _ h => h) (by rfl) hHeld ?_
  try simp only [Act.put, List.setIfInBounds_toArray, List.set_cons_zero, List.set_cons_succ]
  refine wpAnyH_ready (rs := [34]) (by kernel_rfl) (by simp) ?_
  refine AllReadyH.cons rfl (fun K hK => ?_) AllReadyH.nil
  go_simp
  refine hK.out _ _ hHeld (fun hHeld => ?_)
  clear hK K
  try simp only [Act.put, List.setIfInBounds_toArray, List.set_cons_zero, List.set_cons_succ]
  refine takeY (i := 35) (d := some 40) (v := ?_) rfl rfl (by kernel_rfl) (by kernel_rfl) (by kernel_rfl) (fun _ _ _ h => h) (by rfl) ?_ hHeld ?_
  rotate_left
  · intro w9 hS9
    first | (go_simp; done) | (go_simp; with_reducible rfl)
  try simp only [Act.put, List.setIfInBounds_toArray, List.set_cons_zero, List.set_cons_succ]
  refine takeY (i := 36) (d := some 41) (v := ?_) rfl rfl (by kernel_rfl) (by kernel_rfl) (by kernel_rfl) (fun _ _ _ h => h) (by rfl) ?_ hHeld ?_
  rotate_left
  · intro w9 hS9
    first | (go_simp; done) | (go_simp; with_reducible rfl)
  try simp only [Act.put, List.setIfInBounds_toArray, List.set_cons_zero, List.set_cons_succ]
  refine takeN (i := 37) (d := some 42) rfl rfl (by kernel_rfl) (by kernel_rfl) (by kernel_rfl) (fun _ _ _ h => h) (by rfl) hHeld ?_
  try simp only [Act.put, List.setIfInBounds_toArray, List.set_cons_zero, List.set_cons_succ]
  refine takeN (i := 38) (d := some 43) rfl rfl (by kernel_rfl) (by kernel_rfl) (by kernel_rfl) (fun _ _ _ h => h) (by rfl) hHeld ?_
  try simp only [Act.put, List.setIfInBounds_toArray, List.set_cons_zero, List.set_cons_succ]
  refine takeN (i := 40) (d := some 45) rfl rfl (by kernel_rfl) (by kernel_rfl) (by kernel_rfl) (fun _ _ _ h => h) (by rfl) hHeld ?_
  try simp only [Act.put, List.setIfInBounds_toArray, List.set_cons_zero, List.set_cons_succ]
  refine takeN (i := 41) (d := some 46) rfl rfl (by kernel_rfl) (by kernel_rfl) (by kernel_rfl) (fun _ _ _ h => h) (by rfl) hHeld ?_
  try simp only [Act.put, List.setIfInBounds_toArray, List.set_cons_zero, List.set_cons_succ]
  refine wpAnyH_ready (rs := [39]) (by kernel_rfl) (by simp) ?_
  refine AllReadyH.cons rfl (fun K hK => ?_) AllReadyH.nil
  go_simp
  refine hK.out _ _ hHeld (fun hHeld => ?_)
  clear hK K
  try simp only [Act.put, List.setIfInBounds_toArray, List.set_cons_zero, List.set_cons_succ]
  refine wpAnyH_ready (rs := [42]) (by kernel_rfl) (by simp) ?_
  refine AllReadyH.cons rfl (fun K hK => ?_) AllReadyH.nil
  go_simp
  refine hK.out _ _ hHeld (fun hHeld => ?_)
  clear hK K
  try simp only [Act.put, List.setIfInBounds_toArray, List.set_cons_zero, List.set_cons_succ]
  refine takeY (i := 43) (d := some 48) (v := ?_) rfl rfl (by kernel_rfl) (by kernel_rfl) (by kernel_rfl) (fun _ _ _ h => h) (by rfl) ?_ hHeld ?_
  rotate_left
  · intro w9 hS9
    first | (go_simp; done) | (go_simp; with_reducible rfl)
  try simp only [Act.put, List.setIfInBounds_toArray, List.set_cons_zero, List.set_cons_succ]
  refine takeY (i := 44) (d := some 49) (v := ?_) rfl rfl (by kernel_rfl) (by kernel_rfl) (by kernel_rfl) (fun _ _ _ h => h) (by rfl) ?_ hHeld ?_
  rotate_left
  · intro w9 hS9
    first | (go_simp; done) | (go_simp; with_reducible rfl)
  try simp only [Act.put, List.setIfInBounds_toArray, List.set_cons_zero, List.set_cons_succ]
  refine takeN (i := 45) (d := some 50) rfl rfl (by kernel_rfl) (by kernel_rfl) (by kernel_rfl) (fun _ _ _ h => h) (by rfl) hHeld ?_
  try simp only [Act.put, List.setIfInBounds_toArray, List.set_cons_zero, List.set_cons_succ]
  refine takeN (i := 46) (d := some 51) rfl rfl (by kernel_rfl) (by kernel_rfl) (by kernel_rfl) (fun _ _ _ h => h) (by rfl) hHeld ?_
  try simp only [Act.put, List.setIfInBounds_toArray, List.set_cons_zero, List.set_cons_succ]
  refine takeN (i := 47) (d := some 52) rfl rfl (by kernel_rfl) (by kernel_rfl) (by kernel_rfl) (fun _ _ _ h => h) (by rfl) hHeld ?_
  try simp only [Act.put, List.setIfInBounds_toArray, List.set_cons_zero, List.set_cons_succ]
  refine takeN (i := 48) (d := some 53) rfl rfl (by kernel_rfl) (by kernel_rfl) (by kernel_rfl) (fun _ _ _ h => h) (by rfl) hHeld ?_
  try simp only [Act.put, List.setIfInBounds_toArray, List.set_cons_zero, List.set_cons_succ]
  refine takeN (i := 49) (d := some 54) rfl rfl (by kernel_rfl) (by kernel_rfl) (by kernel_rfl) (fun _ _ _ h => h) (by rfl) hHeld ?_
  try simp only [Act.put, List.setIfInBounds_toArray, List.set_cons_zero, List.set_cons_succ]
  refine wpAnyH_ready (rs := [50]) (by kernel_rfl) (by simp) ?_
  refine AllReadyH.cons rfl (fun K hK => ?_) AllReadyH.nil
  go_simp
  refine hK.out _ _ hHeld (fun hHeld => ?_)
  clear hK K
  try simp only [Act.put, List.setIfInBounds_toArray, List.set_cons_zero, List.set_cons_succ]
  refine takeY (i := 51) (d := some 56) (v := ?_) rfl rfl (by kernel_rfl) (by kernel_rfl) (by kernel_rfl) (fun _ _ _ h => h) (by rfl) ?_ hHeld ?_
  rotate_left
  · intro w9 hS9
    first | (go_simp; done) | (go_simp; with_reducible rfl)
  try simp only [Act.put, List.setIfInBounds_toArray, List.set_cons_zero, List.set_cons_succ]
  refine takeY (i := 52) (d := some 4) (v := ?_) rfl rfl (by kernel_rfl) (by kernel_rfl) (by kernel_rfl) (fun _ _ _ h => h) (by rfl) ?_ hHeld ?_
  rotate_left
  · intro w9 hS9
    first | (go_simp; done) | (go_simp; with_reducible rfl)
  try simp only [Act.put, List.setIfInBounds_toArray, List.set_cons_zero, List.set_cons_succ]
  refine wpAnyH_done (by kernel_rfl) ?_ _
  go_wp2
  go_ret
  exact ⟨rfl, HB.out.trans (HW0.out.mono HB.out.size)⟩

set_option maxHeartbeats 4000000 in
set_option maxRecDepth 100000 in
theorem eqBd1 (nm : ByteArray) (k k' : Int) (rA : Option Addr) (rn rc : Nat) (rL : List ByteArray) (oA : Option Addr) (on oc : Nat) (oL : List Pr) (tA : Option Addr) (tn tc : Nat) (tL : List TyW) (lA : Option Addr) (ln lc : Nat) (lL : List LcW) (bA : Option Addr) (bn bc : Nat) (bL : List BkW) (rA' : Option Addr) (rn' rc' : Nat) (rL' : List ByteArray) (oA' : Option Addr) (on' oc' : Nat) (oL' : List Pr) (tA' : Option Addr) (tn' tc' : Nat) (tL' : List TyW) (lA' : Option Addr) (ln' lc' : Nat) (lL' : List LcW) (bA' : Option Addr) (bn' bc' : Nat) (bL' : List BkW) (t : (k == k') = false)
    (w : World) (hx : OneBd w w.heap.size ⟨nm, ⟨rA, rn, rc, rL⟩, ⟨oA, on, oc, oL⟩, ⟨tA, tn, tc, tL⟩, ⟨lA, ln, lc, lL⟩, k, ⟨bA, bn, bc, bL⟩⟩) (hy : OneBd w w.heap.size ⟨nm, ⟨rA', rn', rc', rL'⟩, ⟨oA', on', oc', oL'⟩, ⟨tA', tn', tc', tL'⟩, ⟨lA', ln', lc', lL'⟩, k', ⟨bA', bn', bc', bL'⟩⟩) :
    Calls Tryz.prog 11 #[aggBd ⟨nm, ⟨rA, rn, rc, rL⟩, ⟨oA, on, oc, oL⟩, ⟨tA, tn, tc, tL⟩, ⟨lA, ln, lc, lL⟩, k, ⟨bA, bn, bc, bL⟩⟩, aggBd ⟨nm, ⟨rA', rn', rc', rL'⟩, ⟨oA', on', oc', oL'⟩, ⟨tA', tn', tc', tL'⟩, ⟨lA', ln', lc', lL'⟩, k', ⟨bA', bn', bc', bL'⟩⟩] w fun e w' => e = .returned (.bool false) ∧ Below w.heap.size w w' := by
  have HB := hide (bx2_below w (cBd ⟨nm, ⟨rA, rn, rc, rL⟩, ⟨oA, on, oc, oL⟩, ⟨tA, tn, tc, tL⟩, ⟨lA, ln, lc, lL⟩, k, ⟨bA, bn, bc, bL⟩⟩) (cBd ⟨nm, ⟨rA', rn', rc', rL'⟩, ⟨oA', on', oc', oL'⟩, ⟨tA', tn', tc', tL'⟩, ⟨lA', ln', lc', lL'⟩, k', ⟨bA', bn', bc', bL'⟩⟩) 28)
  have HX := hide (hx.up HB.out)
  have HY := hide (hy.up HB.out)
  have hs := hide fun (w' : World) (h : Below (bx2 w (cBd ⟨nm, ⟨rA, rn, rc, rL⟩, ⟨oA, on, oc, oL⟩, ⟨tA, tn, tc, tL⟩, ⟨lA, ln, lc, lL⟩, k, ⟨bA, bn, bc, bL⟩⟩) (cBd ⟨nm, ⟨rA', rn', rc', rL'⟩, ⟨oA', on', oc', oL'⟩, ⟨tA', tn', tc', tL'⟩, ⟨lA', ln', lc', lL'⟩, k', ⟨bA', bn', bc', bL'⟩⟩) 28).heap.size (bx2 w (cBd ⟨nm, ⟨rA, rn, rc, rL⟩, ⟨oA, on, oc, oL⟩, ⟨tA, tn, tc, tL⟩, ⟨lA, ln, lc, lL⟩, k, ⟨bA, bn, bc, bL⟩⟩) (cBd ⟨nm, ⟨rA', rn', rc', rL'⟩, ⟨oA', on', oc', oL'⟩, ⟨tA', tn', tc', tL'⟩, ⟨lA', ln', lc', lL'⟩, k', ⟨bA', bn', bc', bL'⟩⟩) 28) w') => bx2_cells h
  clear hx hy
  go_enter Tryz.func11, Tryz.ntmps11
  have hc := hide fun (w' : World) (h : Below (bx2 w (cBd ⟨nm, ⟨rA, rn, rc, rL⟩, ⟨oA, on, oc, oL⟩, ⟨tA, tn, tc, tL⟩, ⟨lA, ln, lc, lL⟩, k, ⟨bA, bn, bc, bL⟩⟩) (cBd ⟨nm, ⟨rA', rn', rc', rL'⟩, ⟨oA', on', oc', oL'⟩, ⟨tA', tn', tc', tL'⟩, ⟨lA', ln', lc', lL'⟩, k', ⟨bA', bn', bc', bL'⟩⟩) 28).heap.size (bx2 w (cBd ⟨nm, ⟨rA, rn, rc, rL⟩, ⟨oA, on, oc, oL⟩, ⟨tA, tn, tc, tL⟩, ⟨lA, ln, lc, lL⟩, k, ⟨bA, bn, bc, bL⟩⟩) (cBd ⟨nm, ⟨rA', rn', rc', rL'⟩, ⟨oA', on', oc', oL'⟩, ⟨tA', tn', tc', tL'⟩, ⟨lA', ln', lc', lL'⟩, k', ⟨bA', bn', bc', bL'⟩⟩) 28) w') => (show w'.cell? ⟨w.heap.size, 0, none⟩ = some (.string nm) ∧ w'.cell? ⟨w.heap.size + 1, 0, none⟩ = some (.string nm) ∧ w'.cell? ⟨w.heap.size, 1, none⟩ = some (.slice rA rn rc) ∧ w'.cell? ⟨w.heap.size + 1, 1, none⟩ = some (.slice rA' rn' rc') ∧ w'.cell? ⟨w.heap.size, 2, none⟩ = some (.slice oA on oc) ∧ w'.cell? ⟨w.heap.size + 1, 2, none⟩ = some (.slice oA' on' oc') ∧ w'.cell? ⟨w.heap.size, 3, none⟩ = some (.slice tA tn tc) ∧ w'.cell? ⟨w.heap.size + 1, 3, none⟩ = some (.slice tA' tn' tc') ∧ w'.cell? ⟨w.heap.size, 4, none⟩ = some (.slice lA ln lc) ∧ w'.cell? ⟨w.heap.size + 1, 4, none⟩ = some (.slice lA' ln' lc') ∧ w'.cell? ⟨w.heap.size, 5, none⟩ = some (.int .i64 k) ∧ w'.cell? ⟨w.heap.size + 1, 5, none⟩ = some (.int .i64 k') ∧ w'.cell? ⟨w.heap.size, 6, none⟩ = some (.slice bA bn bc) ∧ w'.cell? ⟨w.heap.size + 1, 6, none⟩ = some (.slice bA' bn' bc') from ⟨(hs.out w' h 0 _ _ rfl rfl).1, (hs.out w' h 0 _ _ rfl rfl).2, (hs.out w' h 1 _ _ rfl rfl).1, (hs.out w' h 1 _ _ rfl rfl).2, (hs.out w' h 2 _ _ rfl rfl).1, (hs.out w' h 2 _ _ rfl rfl).2, (hs.out w' h 3 _ _ rfl rfl).1, (hs.out w' h 3 _ _ rfl rfl).2, (hs.out w' h 4 _ _ rfl rfl).1, (hs.out w' h 4 _ _ rfl rfl).2, (hs.out w' h 5 _ _ rfl rfl).1, (hs.out w' h 5 _ _ rfl rfl).2, (hs.out w' h 6 _ _ rfl rfl).1, (hs.out w' h 6 _ _ rfl rfl).2⟩)
  have HW0 := hide (show Below (bx2 w (cBd ⟨nm, ⟨rA, rn, rc, rL⟩, ⟨oA, on, oc, oL⟩, ⟨tA, tn, tc, tL⟩, ⟨lA, ln, lc, lL⟩, k, ⟨bA, bn, bc, bL⟩⟩) (cBd ⟨nm, ⟨rA', rn', rc', rL'⟩, ⟨oA', on', oc', oL'⟩, ⟨tA', tn', tc', tL'⟩, ⟨lA', ln', lc', lL'⟩, k', ⟨bA', bn', bc', bL'⟩⟩) 28).heap.size (bx2 w (cBd ⟨nm, ⟨rA, rn, rc, rL⟩, ⟨oA, on, oc, oL⟩, ⟨tA, tn, tc, tL⟩, ⟨lA, ln, lc, lL⟩, k, ⟨bA, bn, bc, bL⟩⟩) (cBd ⟨nm, ⟨rA', rn', rc', rL'⟩, ⟨oA', on', oc', oL'⟩, ⟨tA', tn', tc', tL'⟩, ⟨lA', ln', lc', lL'⟩, k', ⟨bA', bn', bc', bL'⟩⟩) 28) (World.drew (bx2 w (cBd ⟨nm, ⟨rA, rn, rc, rL⟩, ⟨oA, on, oc, oL⟩, ⟨tA, tn, tc, tL⟩, ⟨lA, ln, lc, lL⟩, k, ⟨bA, bn, bc, bL⟩⟩) (cBd ⟨nm, ⟨rA', rn', rc', rL'⟩, ⟨oA', on', oc', oL'⟩, ⟨tA', tn', tc', tL'⟩, ⟨lA', ln', lc', lL'⟩, k', ⟨bA', bn', bc', bL'⟩⟩) 28)) from (Below.refl _ _).drew)
  go_wp2
  change Code.wp _ _ _ _ (bx2 w (cBd ⟨nm, ⟨rA, rn, rc, rL⟩, ⟨oA, on, oc, oL⟩, ⟨tA, tn, tc, tL⟩, ⟨lA, ln, lc, lL⟩, k, ⟨bA, bn, bc, bL⟩⟩) (cBd ⟨nm, ⟨rA', rn', rc', rL'⟩, ⟨oA', on', oc', oL'⟩, ⟨tA', tn', tc', tL'⟩, ⟨lA', ln', lc', lL'⟩, k', ⟨bA', bn', bc', bL'⟩⟩) 28)
  refine wp_region_held_drew (S := (fun w' => Below (bx2 w (cBd ⟨nm, ⟨rA, rn, rc, rL⟩, ⟨oA, on, oc, oL⟩, ⟨tA, tn, tc, tL⟩, ⟨lA, ln, lc, lL⟩, k, ⟨bA, bn, bc, bL⟩⟩) (cBd ⟨nm, ⟨rA', rn', rc', rL'⟩, ⟨oA', on', oc', oL'⟩, ⟨tA', tn', tc', tL'⟩, ⟨lA', ln', lc', lL'⟩, k', ⟨bA', bn', bc', bL'⟩⟩) 28).heap.size (bx2 w (cBd ⟨nm, ⟨rA, rn, rc, rL⟩, ⟨oA, on, oc, oL⟩, ⟨tA, tn, tc, tL⟩, ⟨lA, ln, lc, lL⟩, k, ⟨bA, bn, bc, bL⟩⟩) (cBd ⟨nm, ⟨rA', rn', rc', rL'⟩, ⟨oA', on', oc', oL'⟩, ⟨tA', tn', tc', tL'⟩, ⟨lA', ln', lc', lL'⟩, k', ⟨bA', bn', bc', bL'⟩⟩) 28) w' ∧ w'.cell? ⟨w.heap.size, 0, none⟩ = some (.string nm) ∧ w'.cell? ⟨w.heap.size + 1, 0, none⟩ = some (.string nm) ∧ w'.cell? ⟨w.heap.size, 1, none⟩ = some (.slice rA rn rc) ∧ w'.cell? ⟨w.heap.size + 1, 1, none⟩ = some (.slice rA' rn' rc') ∧ w'.cell? ⟨w.heap.size, 2, none⟩ = some (.slice oA on oc) ∧ w'.cell? ⟨w.heap.size + 1, 2, none⟩ = some (.slice oA' on' oc') ∧ w'.cell? ⟨w.heap.size, 3, none⟩ = some (.slice tA tn tc) ∧ w'.cell? ⟨w.heap.size + 1, 3, none⟩ = some (.slice tA' tn' tc') ∧ w'.cell? ⟨w.heap.size, 4, none⟩ = some (.slice lA ln lc) ∧ w'.cell? ⟨w.heap.size + 1, 4, none⟩ = some (.slice lA' ln' lc') ∧ w'.cell? ⟨w.heap.size, 5, none⟩ = some (.int .i64 k) ∧ w'.cell? ⟨w.heap.size + 1, 5, none⟩ = some (.int .i64 k') ∧ w'.cell? ⟨w.heap.size, 6, none⟩ = some (.slice bA bn bc) ∧ w'.cell? ⟨w.heap.size + 1, 6, none⟩ = some (.slice bA' bn' bc'))) (by kernel_rfl) ⟨HW0.out, hc.out _ HW0.out⟩ (fun hHeld => ?_)
  refine takeY (i := 0) (d := some 5) (v := ?_) rfl rfl (by kernel_rfl) (by kernel_rfl) (by kernel_rfl) (fun _ _ _ h => h) (by rfl) ?_ hHeld ?_
  rotate_left
  · intro w9 hS9
    first | (go_simp; done) | (go_simp; with_reducible rfl)
  try simp only [Act.put, List.setIfInBounds_toArray, List.set_cons_zero, List.set_cons_succ]
  refine takeY (i := 1) (d := some 6) (v := ?_) rfl rfl (by kernel_rfl) (by kernel_rfl) (by kernel_rfl) (fun _ _ _ h => h) (by rfl) ?_ hHeld ?_
  rotate_left
  · intro w9 hS9
    obtain ⟨_, c0, d0, c1, d1, c2, d2, c3, d3, c4, d4, c5, d5, c6, d6⟩ := hS9
    first | (go_simp; done) | (go_simp; with_reducible rfl)
  try simp only [Act.put, List.setIfInBounds_toArray, List.set_cons_zero, List.set_cons_succ]
  refine takeY (i := 2) (d := some 7) (v := ?_) rfl rfl (by kernel_rfl) (by kernel_rfl) (by kernel_rfl) (fun _ _ _ h => h) (by rfl) ?_ hHeld ?_
  rotate_left
  · intro w9 hS9
    first | (go_simp; done) | (go_simp; with_reducible rfl)
  try simp only [Act.put, List.setIfInBounds_toArray, List.set_cons_zero, List.set_cons_succ]
  refine takeY (i := 3) (d := some 8) (v := ?_) rfl rfl (by kernel_rfl) (by kernel_rfl) (by kernel_rfl) (fun _ _ _ h => h) (by rfl) ?_ hHeld ?_
  rotate_left
  · intro w9 hS9
    obtain ⟨_, c0, d0, c1, d1, c2, d2, c3, d3, c4, d4, c5, d5, c6, d6⟩ := hS9
    first | (go_simp; done) | (go_simp; with_reducible rfl)
  try simp only [Act.put, List.setIfInBounds_toArray, List.set_cons_zero, List.set_cons_succ]
  refine takeY (i := 4) (d := some 9) (v := ?_) rfl rfl (by kernel_rfl) (by kernel_rfl) (by kernel_rfl) (fun _ _ _ h => h) (by rfl) ?_ hHeld ?_
  rotate_left
  · intro w9 hS9
    first | (go_simp; done) | (go_simp; with_reducible rfl)
  try simp only [Act.put, List.setIfInBounds_toArray, List.set_cons_zero, List.set_cons_succ]
  refine takeY (i := 5) (d := some 10) (v := ?_) rfl rfl (by kernel_rfl) (by kernel_rfl) (by kernel_rfl) (fun _ _ _ h => h) (by rfl) ?_ hHeld ?_
  rotate_left
  · intro w9 hS9
    first | (go_simp; done) | (go_simp; with_reducible rfl)
  try simp only [Act.put, List.setIfInBounds_toArray, List.set_cons_zero, List.set_cons_succ]
  refine takeY (i := 6) (d := some 11) (v := ?_) rfl rfl (by kernel_rfl) (by kernel_rfl) (by kernel_rfl) (fun _ _ _ h => h) (by rfl) ?_ hHeld ?_
  rotate_left
  · intro w9 hS9
    first | (go_simp; done) | (go_simp; with_reducible rfl)
  try simp only [Act.put, List.setIfInBounds_toArray, List.set_cons_zero, List.set_cons_succ]
  refine takeY (i := 7) (d := some 12) (v := ?_) rfl rfl (by kernel_rfl) (by kernel_rfl) (by kernel_rfl) (fun _ _ _ h => h) (by rfl) ?_ hHeld ?_
  rotate_left
  · intro w9 hS9
    obtain ⟨_, c0, d0, c1, d1, c2, d2, c3, d3, c4, d4, c5, d5, c6, d6⟩ := hS9
    first | (go_simp; done) | (go_simp; with_reducible rfl)
  try simp only [Act.put, List.setIfInBounds_toArray, List.set_cons_zero, List.set_cons_succ]
  refine takeY (i := 8) (d := some 13) (v := ?_) rfl rfl (by kernel_rfl) (by kernel_rfl) (by kernel_rfl) (fun _ _ _ h => h) (by rfl) ?_ hHeld ?_
  rotate_left
  · intro w9 hS9
    first | (go_simp; done) | (go_simp; with_reducible rfl)
  try simp only [Act.put, List.setIfInBounds_toArray, List.set_cons_zero, List.set_cons_succ]
  refine takeY (i := 9) (d := some 14) (v := ?_) rfl rfl (by kernel_rfl) (by kernel_rfl) (by kernel_rfl) (fun _ _ _ h => h) (by rfl) ?_ hHeld ?_
  rotate_left
  · intro w9 hS9
    obtain ⟨_, c0, d0, c1, d1, c2, d2, c3, d3, c4, d4, c5, d5, c6, d6⟩ := hS9
    first | (go_simp; done) | (go_simp; with_reducible rfl)
  try simp only [Act.put, List.setIfInBounds_toArray, List.set_cons_zero, List.set_cons_succ]
  refine takeY (i := 10) (d := some 15) (v := ?_) rfl rfl (by kernel_rfl) (by kernel_rfl) (by kernel_rfl) (fun _ _ _ h => h) (by rfl) ?_ hHeld ?_
  rotate_left
  · intro w9 hS9
    first | (go_simp; done) | (go_simp; with_reducible rfl)
  try simp only [Act.put, List.setIfInBounds_toArray, List.set_cons_zero, List.set_cons_succ]
  refine takeY (i := 11) (d := some 16) (v := ?_) rfl rfl (by kernel_rfl) (by kernel_rfl) (by kernel_rfl) (fun _ _ _ h => h) (by rfl) ?_ hHeld ?_
  rotate_left
  · intro w9 hS9
    first | (go_simp; done) | (go_simp; with_reducible rfl)
  try simp only [Act.put, List.setIfInBounds_toArray, List.set_cons_zero, List.set_cons_succ]
  refine takeY (i := 12) (d := some 17) (v := ?_) rfl rfl (by kernel_rfl) (by kernel_rfl) (by kernel_rfl) (fun _ _ _ h => h) (by rfl) ?_ hHeld ?_
  rotate_left
  · intro w9 hS9
    first | (go_simp; done) | (go_simp; with_reducible rfl)
  try simp only [Act.put, List.setIfInBounds_toArray, List.set_cons_zero, List.set_cons_succ]
  refine takeN (i := 13) (d := some 18) rfl rfl (by kernel_rfl) (by kernel_rfl) (by kernel_rfl) (fun _ _ _ h => h) (by rfl) hHeld ?_
  try simp only [Act.put, List.setIfInBounds_toArray, List.set_cons_zero, List.set_cons_succ]
  refine takeN (i := 14) (d := some 19) rfl rfl (by kernel_rfl) (by kernel_rfl) (by kernel_rfl) (fun _ _ _ h => h) (by rfl) hHeld ?_
  try simp only [Act.put, List.setIfInBounds_toArray, List.set_cons_zero, List.set_cons_succ]
  refine takeN (i := 16) (d := some 21) rfl rfl (by kernel_rfl) (by kernel_rfl) (by kernel_rfl) (fun _ _ _ h => h) (by rfl) hHeld ?_
  try simp only [Act.put, List.setIfInBounds_toArray, List.set_cons_zero, List.set_cons_succ]
  refine takeN (i := 17) (d := some 22) rfl rfl (by kernel_rfl) (by kernel_rfl) (by kernel_rfl) (fun _ _ _ h => h) (by rfl) hHeld ?_
  try simp only [Act.put, List.setIfInBounds_toArray, List.set_cons_zero, List.set_cons_succ]
  refine wpAnyH_ready (rs := [15]) (by kernel_rfl) (by simp) ?_
  refine AllReadyH.cons rfl (fun K hK => ?_) AllReadyH.nil
  go_simp
  refine hK.out _ _ hHeld (fun hHeld => ?_)
  clear hK K
  try simp only [Act.put, List.setIfInBounds_toArray, List.set_cons_zero, List.set_cons_succ]
  refine wpAnyH_ready (rs := [18]) (by kernel_rfl) (by simp) ?_
  refine AllReadyH.cons rfl (fun K hK => ?_) AllReadyH.nil
  go_simp
  refine hK.out _ _ hHeld (fun hHeld => ?_)
  clear hK K
  try simp only [Act.put, List.setIfInBounds_toArray, List.set_cons_zero, List.set_cons_succ]
  refine takeY (i := 19) (d := some 24) (v := ?_) rfl rfl (by kernel_rfl) (by kernel_rfl) (by kernel_rfl) (fun _ _ _ h => h) (by rfl) ?_ hHeld ?_
  rotate_left
  · intro w9 hS9
    first | (go_simp; done) | (go_simp; with_reducible rfl)
  try simp only [Act.put, List.setIfInBounds_toArray, List.set_cons_zero, List.set_cons_succ]
  refine takeY (i := 20) (d := some 25) (v := ?_) rfl rfl (by kernel_rfl) (by kernel_rfl) (by kernel_rfl) (fun _ _ _ h => h) (by rfl) ?_ hHeld ?_
  rotate_left
  · intro w9 hS9
    first | (go_simp; done) | (go_simp; with_reducible rfl)
  try simp only [Act.put, List.setIfInBounds_toArray, List.set_cons_zero, List.set_cons_succ]
  refine takeN (i := 21) (d := some 26) rfl rfl (by kernel_rfl) (by kernel_rfl) (by kernel_rfl) (fun _ _ _ h => h) (by rfl) hHeld ?_
  try simp only [Act.put, List.setIfInBounds_toArray, List.set_cons_zero, List.set_cons_succ]
  refine takeN (i := 22) (d := some 27) rfl rfl (by kernel_rfl) (by kernel_rfl) (by kernel_rfl) (fun _ _ _ h => h) (by rfl) hHeld ?_
  try simp only [Act.put, List.setIfInBounds_toArray, List.set_cons_zero, List.set_cons_succ]
  refine takeN (i := 24) (d := some 29) rfl rfl (by kernel_rfl) (by kernel_rfl) (by kernel_rfl) (fun _ _ _ h => h) (by rfl) hHeld ?_
  try simp only [Act.put, List.setIfInBounds_toArray, List.set_cons_zero, List.set_cons_succ]
  refine takeN (i := 25) (d := some 30) rfl rfl (by kernel_rfl) (by kernel_rfl) (by kernel_rfl) (fun _ _ _ h => h) (by rfl) hHeld ?_
  try simp only [Act.put, List.setIfInBounds_toArray, List.set_cons_zero, List.set_cons_succ]
  refine wpAnyH_ready (rs := [23]) (by kernel_rfl) (by simp) ?_
  refine AllReadyH.cons rfl (fun K hK => ?_) AllReadyH.nil
  go_simp
  refine hK.out _ _ hHeld (fun hHeld => ?_)
  clear hK K
  try simp only [Act.put, List.setIfInBounds_toArray, List.set_cons_zero, List.set_cons_succ]
  refine wpAnyH_ready (rs := [26]) (by kernel_rfl) (by simp) ?_
  refine AllReadyH.cons rfl (fun K hK => ?_) AllReadyH.nil
  go_simp
  refine hK.out _ _ hHeld (fun hHeld => ?_)
  clear hK K
  try simp only [Act.put, List.setIfInBounds_toArray, List.set_cons_zero, List.set_cons_succ]
  refine takeY (i := 27) (d := some 32) (v := ?_) rfl rfl (by kernel_rfl) (by kernel_rfl) (by kernel_rfl) (fun _ _ _ h => h) (by rfl) ?_ hHeld ?_
  rotate_left
  · intro w9 hS9
    first | (go_simp; done) | (go_simp; with_reducible rfl)
  try simp only [Act.put, List.setIfInBounds_toArray, List.set_cons_zero, List.set_cons_succ]
  refine takeY (i := 28) (d := some 33) (v := ?_) rfl rfl (by kernel_rfl) (by kernel_rfl) (by kernel_rfl) (fun _ _ _ h => h) (by rfl) ?_ hHeld ?_
  rotate_left
  · intro w9 hS9
    first | (go_simp; done) | (go_simp; with_reducible rfl)
  try simp only [Act.put, List.setIfInBounds_toArray, List.set_cons_zero, List.set_cons_succ]
  refine takeN (i := 29) (d := some 34) rfl rfl (by kernel_rfl) (by kernel_rfl) (by kernel_rfl) (fun _ _ _ h => h) (by rfl) hHeld ?_
  try simp only [Act.put, List.setIfInBounds_toArray, List.set_cons_zero, List.set_cons_succ]
  refine takeN (i := 30) (d := some 35) rfl rfl (by kernel_rfl) (by kernel_rfl) (by kernel_rfl) (fun _ _ _ h => h) (by rfl) hHeld ?_
  try simp only [Act.put, List.setIfInBounds_toArray, List.set_cons_zero, List.set_cons_succ]
  refine takeN (i := 31) (d := some 36) rfl rfl (by kernel_rfl) (by kernel_rfl) (by kernel_rfl) (fun _ _ _ h => h) (by rfl) hHeld ?_
  try simp only [Act.put, List.setIfInBounds_toArray, List.set_cons_zero, List.set_cons_succ]
  refine takeN (i := 32) (d := some 37) rfl rfl (by kernel_rfl) (by kernel_rfl) (by kernel_rfl) (fun _ _ _ h => h) (by rfl) hHeld ?_
  try simp only [Act.put, List.setIfInBounds_toArray, List.set_cons_zero, List.set_cons_succ]
  refine takeN (i := 33) (d := some 38) rfl rfl (by kernel_rfl) (by kernel_rfl) (by kernel_rfl) (fun _ _ _ h => h) (by rfl) hHeld ?_
  try simp only [Act.put, List.setIfInBounds_toArray, List.set_cons_zero, List.set_cons_succ]
  refine wpAnyH_ready (rs := [34]) (by kernel_rfl) (by simp) ?_
  refine AllReadyH.cons rfl (fun K hK => ?_) AllReadyH.nil
  go_simp
  refine hK.out _ _ hHeld (fun hHeld => ?_)
  clear hK K
  try simp only [Act.put, List.setIfInBounds_toArray, List.set_cons_zero, List.set_cons_succ]
  refine takeY (i := 35) (d := some 40) (v := ?_) rfl rfl (by kernel_rfl) (by kernel_rfl) (by kernel_rfl) (fun _ _ _ h => h) (by rfl) ?_ hHeld ?_
  rotate_left
  · intro w9 hS9
    first | (go_simp; done) | (go_simp; with_reducible rfl)
  try simp only [Act.put, List.setIfInBounds_toArray, List.set_cons_zero, List.set_cons_succ]
  refine takeY (i := 36) (d := some 41) (v := ?_) rfl rfl (by kernel_rfl) (by kernel_rfl) (by kernel_rfl) (fun _ _ _ h => h) (by rfl) ?_ hHeld ?_
  rotate_left
  · intro w9 hS9
    first | (go_simp; done) | (go_simp; with_reducible rfl)
  try simp only [Act.put, List.setIfInBounds_toArray, List.set_cons_zero, List.set_cons_succ]
  refine takeN (i := 37) (d := some 42) rfl rfl (by kernel_rfl) (by kernel_rfl) (by kernel_rfl) (fun _ _ _ h => h) (by rfl) hHeld ?_
  try simp only [Act.put, List.setIfInBounds_toArray, List.set_cons_zero, List.set_cons_succ]
  refine takeN (i := 38) (d := some 43) rfl rfl (by kernel_rfl) (by kernel_rfl) (by kernel_rfl) (fun _ _ _ h => h) (by rfl) hHeld ?_
  try simp only [Act.put, List.setIfInBounds_toArray, List.set_cons_zero, List.set_cons_succ]
  refine takeN (i := 40) (d := some 45) rfl rfl (by kernel_rfl) (by kernel_rfl) (by kernel_rfl) (fun _ _ _ h => h) (by rfl) hHeld ?_
  try simp only [Act.put, List.setIfInBounds_toArray, List.set_cons_zero, List.set_cons_succ]
  refine takeN (i := 41) (d := some 46) rfl rfl (by kernel_rfl) (by kernel_rfl) (by kernel_rfl) (fun _ _ _ h => h) (by rfl) hHeld ?_
  try simp only [Act.put, List.setIfInBounds_toArray, List.set_cons_zero, List.set_cons_succ]
  refine wpAnyH_ready (rs := [39]) (by kernel_rfl) (by simp) ?_
  refine AllReadyH.cons rfl (fun K hK => ?_) AllReadyH.nil
  go_simp
  refine hK.out _ _ hHeld (fun hHeld => ?_)
  clear hK K
  try simp only [Act.put, List.setIfInBounds_toArray, List.set_cons_zero, List.set_cons_succ]
  refine wpAnyH_ready (rs := [42]) (by kernel_rfl) (by simp) ?_
  refine AllReadyH.cons rfl (fun K hK => ?_) AllReadyH.nil
  go_simp
  refine hK.out _ _ hHeld (fun hHeld => ?_)
  clear hK K
  try simp only [Act.put, List.setIfInBounds_toArray, List.set_cons_zero, List.set_cons_succ]
  refine takeY (i := 43) (d := some 48) (v := ?_) rfl rfl (by kernel_rfl) (by kernel_rfl) (by kernel_rfl) (fun _ _ _ h => h) (by rfl) ?_ hHeld ?_
  rotate_left
  · intro w9 hS9
    first | (go_simp; done) | (go_simp; with_reducible rfl)
  try simp only [Act.put, List.setIfInBounds_toArray, List.set_cons_zero, List.set_cons_succ]
  refine takeY (i := 44) (d := some 49) (v := ?_) rfl rfl (by kernel_rfl) (by kernel_rfl) (by kernel_rfl) (fun _ _ _ h => h) (by rfl) ?_ hHeld ?_
  rotate_left
  · intro w9 hS9
    first | (go_simp; done) | (go_simp; with_reducible rfl)
  try simp only [Act.put, List.setIfInBounds_toArray, List.set_cons_zero, List.set_cons_succ]
  refine takeN (i := 45) (d := some 50) rfl rfl (by kernel_rfl) (by kernel_rfl) (by kernel_rfl) (fun _ _ _ h => h) (by rfl) hHeld ?_
  try simp only [Act.put, List.setIfInBounds_toArray, List.set_cons_zero, List.set_cons_succ]
  refine takeN (i := 46) (d := some 51) rfl rfl (by kernel_rfl) (by kernel_rfl) (by kernel_rfl) (fun _ _ _ h => h) (by rfl) hHeld ?_
  try simp only [Act.put, List.setIfInBounds_toArray, List.set_cons_zero, List.set_cons_succ]
  refine takeN (i := 47) (d := some 52) rfl rfl (by kernel_rfl) (by kernel_rfl) (by kernel_rfl) (fun _ _ _ h => h) (by rfl) hHeld ?_
  try simp only [Act.put, List.setIfInBounds_toArray, List.set_cons_zero, List.set_cons_succ]
  refine takeN (i := 48) (d := some 53) rfl rfl (by kernel_rfl) (by kernel_rfl) (by kernel_rfl) (fun _ _ _ h => h) (by rfl) hHeld ?_
  try simp only [Act.put, List.setIfInBounds_toArray, List.set_cons_zero, List.set_cons_succ]
  refine takeN (i := 49) (d := some 54) rfl rfl (by kernel_rfl) (by kernel_rfl) (by kernel_rfl) (fun _ _ _ h => h) (by rfl) hHeld ?_
  try simp only [Act.put, List.setIfInBounds_toArray, List.set_cons_zero, List.set_cons_succ]
  refine wpAnyH_ready (rs := [50]) (by kernel_rfl) (by simp) ?_
  refine AllReadyH.cons rfl (fun K hK => ?_) AllReadyH.nil
  go_simp
  refine hK.out _ _ hHeld (fun hHeld => ?_)
  clear hK K
  try simp only [Act.put, List.setIfInBounds_toArray, List.set_cons_zero, List.set_cons_succ]
  refine takeY (i := 51) (d := some 56) (v := ?_) rfl rfl (by kernel_rfl) (by kernel_rfl) (by kernel_rfl) (fun _ _ _ h => h) (by rfl) ?_ hHeld ?_
  rotate_left
  · intro w9 hS9
    first | (go_simp; done) | (go_simp; with_reducible rfl)
  try simp only [Act.put, List.setIfInBounds_toArray, List.set_cons_zero, List.set_cons_succ]
  refine takeY (i := 52) (d := some 4) (v := ?_) rfl rfl (by kernel_rfl) (by kernel_rfl) (by kernel_rfl) (fun _ _ _ h => h) (by rfl) ?_ hHeld ?_
  rotate_left
  · intro w9 hS9
    first | (go_simp; done) | (go_simp; with_reducible rfl)
  try simp only [Act.put, List.setIfInBounds_toArray, List.set_cons_zero, List.set_cons_succ]
  refine wpAnyH_done (by kernel_rfl) ?_ _
  go_wp2
  go_ret
  exact ⟨rfl, HB.out.trans (HW0.out.mono HB.out.size)⟩

set_option maxHeartbeats 4000000 in
set_option maxRecDepth 100000 in
theorem eqBd2 (nm : ByteArray) (k : Int) (rA : Option Addr) (rn rc : Nat) (rL : List ByteArray) (oA : Option Addr) (on oc : Nat) (oL : List Pr) (tA : Option Addr) (tn tc : Nat) (tL : List TyW) (lA : Option Addr) (ln lc : Nat) (lL : List LcW) (bA : Option Addr) (bn bc : Nat) (bL : List BkW) (rA' : Option Addr) (rn' rc' : Nat) (rL' : List ByteArray) (oA' : Option Addr) (on' oc' : Nat) (oL' : List Pr) (tA' : Option Addr) (tn' tc' : Nat) (tL' : List TyW) (lA' : Option Addr) (ln' lc' : Nat) (lL' : List LcW) (bA' : Option Addr) (bn' bc' : Nat) (bL' : List BkW) (h2 : eqStrs ⟨rA, rn, rc, rL⟩ ⟨rA', rn', rc', rL'⟩ = false)
    (w : World) (hx : OneBd w w.heap.size ⟨nm, ⟨rA, rn, rc, rL⟩, ⟨oA, on, oc, oL⟩, ⟨tA, tn, tc, tL⟩, ⟨lA, ln, lc, lL⟩, k, ⟨bA, bn, bc, bL⟩⟩) (hy : OneBd w w.heap.size ⟨nm, ⟨rA', rn', rc', rL'⟩, ⟨oA', on', oc', oL'⟩, ⟨tA', tn', tc', tL'⟩, ⟨lA', ln', lc', lL'⟩, k, ⟨bA', bn', bc', bL'⟩⟩) :
    Calls Tryz.prog 11 #[aggBd ⟨nm, ⟨rA, rn, rc, rL⟩, ⟨oA, on, oc, oL⟩, ⟨tA, tn, tc, tL⟩, ⟨lA, ln, lc, lL⟩, k, ⟨bA, bn, bc, bL⟩⟩, aggBd ⟨nm, ⟨rA', rn', rc', rL'⟩, ⟨oA', on', oc', oL'⟩, ⟨tA', tn', tc', tL'⟩, ⟨lA', ln', lc', lL'⟩, k, ⟨bA', bn', bc', bL'⟩⟩] w fun e w' => e = .returned (.bool false) ∧ Below w.heap.size w w' := by
  have HB := hide (bx2_below w (cBd ⟨nm, ⟨rA, rn, rc, rL⟩, ⟨oA, on, oc, oL⟩, ⟨tA, tn, tc, tL⟩, ⟨lA, ln, lc, lL⟩, k, ⟨bA, bn, bc, bL⟩⟩) (cBd ⟨nm, ⟨rA', rn', rc', rL'⟩, ⟨oA', on', oc', oL'⟩, ⟨tA', tn', tc', tL'⟩, ⟨lA', ln', lc', lL'⟩, k, ⟨bA', bn', bc', bL'⟩⟩) 28)
  have HX := hide (hx.up HB.out)
  have HY := hide (hy.up HB.out)
  have hs := hide fun (w' : World) (h : Below (bx2 w (cBd ⟨nm, ⟨rA, rn, rc, rL⟩, ⟨oA, on, oc, oL⟩, ⟨tA, tn, tc, tL⟩, ⟨lA, ln, lc, lL⟩, k, ⟨bA, bn, bc, bL⟩⟩) (cBd ⟨nm, ⟨rA', rn', rc', rL'⟩, ⟨oA', on', oc', oL'⟩, ⟨tA', tn', tc', tL'⟩, ⟨lA', ln', lc', lL'⟩, k, ⟨bA', bn', bc', bL'⟩⟩) 28).heap.size (bx2 w (cBd ⟨nm, ⟨rA, rn, rc, rL⟩, ⟨oA, on, oc, oL⟩, ⟨tA, tn, tc, tL⟩, ⟨lA, ln, lc, lL⟩, k, ⟨bA, bn, bc, bL⟩⟩) (cBd ⟨nm, ⟨rA', rn', rc', rL'⟩, ⟨oA', on', oc', oL'⟩, ⟨tA', tn', tc', tL'⟩, ⟨lA', ln', lc', lL'⟩, k, ⟨bA', bn', bc', bL'⟩⟩) 28) w') => bx2_cells h
  have H2 := hide h2
  clear h2
  clear hx hy
  go_enter Tryz.func11, Tryz.ntmps11
  have hc := hide fun (w' : World) (h : Below (bx2 w (cBd ⟨nm, ⟨rA, rn, rc, rL⟩, ⟨oA, on, oc, oL⟩, ⟨tA, tn, tc, tL⟩, ⟨lA, ln, lc, lL⟩, k, ⟨bA, bn, bc, bL⟩⟩) (cBd ⟨nm, ⟨rA', rn', rc', rL'⟩, ⟨oA', on', oc', oL'⟩, ⟨tA', tn', tc', tL'⟩, ⟨lA', ln', lc', lL'⟩, k, ⟨bA', bn', bc', bL'⟩⟩) 28).heap.size (bx2 w (cBd ⟨nm, ⟨rA, rn, rc, rL⟩, ⟨oA, on, oc, oL⟩, ⟨tA, tn, tc, tL⟩, ⟨lA, ln, lc, lL⟩, k, ⟨bA, bn, bc, bL⟩⟩) (cBd ⟨nm, ⟨rA', rn', rc', rL'⟩, ⟨oA', on', oc', oL'⟩, ⟨tA', tn', tc', tL'⟩, ⟨lA', ln', lc', lL'⟩, k, ⟨bA', bn', bc', bL'⟩⟩) 28) w') => (show w'.cell? ⟨w.heap.size, 0, none⟩ = some (.string nm) ∧ w'.cell? ⟨w.heap.size + 1, 0, none⟩ = some (.string nm) ∧ w'.cell? ⟨w.heap.size, 1, none⟩ = some (.slice rA rn rc) ∧ w'.cell? ⟨w.heap.size + 1, 1, none⟩ = some (.slice rA' rn' rc') ∧ w'.cell? ⟨w.heap.size, 2, none⟩ = some (.slice oA on oc) ∧ w'.cell? ⟨w.heap.size + 1, 2, none⟩ = some (.slice oA' on' oc') ∧ w'.cell? ⟨w.heap.size, 3, none⟩ = some (.slice tA tn tc) ∧ w'.cell? ⟨w.heap.size + 1, 3, none⟩ = some (.slice tA' tn' tc') ∧ w'.cell? ⟨w.heap.size, 4, none⟩ = some (.slice lA ln lc) ∧ w'.cell? ⟨w.heap.size + 1, 4, none⟩ = some (.slice lA' ln' lc') ∧ w'.cell? ⟨w.heap.size, 5, none⟩ = some (.int .i64 k) ∧ w'.cell? ⟨w.heap.size + 1, 5, none⟩ = some (.int .i64 k) ∧ w'.cell? ⟨w.heap.size, 6, none⟩ = some (.slice bA bn bc) ∧ w'.cell? ⟨w.heap.size + 1, 6, none⟩ = some (.slice bA' bn' bc') from ⟨(hs.out w' h 0 _ _ rfl rfl).1, (hs.out w' h 0 _ _ rfl rfl).2, (hs.out w' h 1 _ _ rfl rfl).1, (hs.out w' h 1 _ _ rfl rfl).2, (hs.out w' h 2 _ _ rfl rfl).1, (hs.out w' h 2 _ _ rfl rfl).2, (hs.out w' h 3 _ _ rfl rfl).1, (hs.out w' h 3 _ _ rfl rfl).2, (hs.out w' h 4 _ _ rfl rfl).1, (hs.out w' h 4 _ _ rfl rfl).2, (hs.out w' h 5 _ _ rfl rfl).1, (hs.out w' h 5 _ _ rfl rfl).2, (hs.out w' h 6 _ _ rfl rfl).1, (hs.out w' h 6 _ _ rfl rfl).2⟩)
  have HW0 := hide (show Below (bx2 w (cBd ⟨nm, ⟨rA, rn, rc, rL⟩, ⟨oA, on, oc, oL⟩, ⟨tA, tn, tc, tL⟩, ⟨lA, ln, lc, lL⟩, k, ⟨bA, bn, bc, bL⟩⟩) (cBd ⟨nm, ⟨rA', rn', rc', rL'⟩, ⟨oA', on', oc', oL'⟩, ⟨tA', tn', tc', tL'⟩, ⟨lA', ln', lc', lL'⟩, k, ⟨bA', bn', bc', bL'⟩⟩) 28).heap.size (bx2 w (cBd ⟨nm, ⟨rA, rn, rc, rL⟩, ⟨oA, on, oc, oL⟩, ⟨tA, tn, tc, tL⟩, ⟨lA, ln, lc, lL⟩, k, ⟨bA, bn, bc, bL⟩⟩) (cBd ⟨nm, ⟨rA', rn', rc', rL'⟩, ⟨oA', on', oc', oL'⟩, ⟨tA', tn', tc', tL'⟩, ⟨lA', ln', lc', lL'⟩, k, ⟨bA', bn', bc', bL'⟩⟩) 28) (World.drew (bx2 w (cBd ⟨nm, ⟨rA, rn, rc, rL⟩, ⟨oA, on, oc, oL⟩, ⟨tA, tn, tc, tL⟩, ⟨lA, ln, lc, lL⟩, k, ⟨bA, bn, bc, bL⟩⟩) (cBd ⟨nm, ⟨rA', rn', rc', rL'⟩, ⟨oA', on', oc', oL'⟩, ⟨tA', tn', tc', tL'⟩, ⟨lA', ln', lc', lL'⟩, k, ⟨bA', bn', bc', bL'⟩⟩) 28)) from (Below.refl _ _).drew)
  go_wp2
  change Code.wp _ _ _ _ (bx2 w (cBd ⟨nm, ⟨rA, rn, rc, rL⟩, ⟨oA, on, oc, oL⟩, ⟨tA, tn, tc, tL⟩, ⟨lA, ln, lc, lL⟩, k, ⟨bA, bn, bc, bL⟩⟩) (cBd ⟨nm, ⟨rA', rn', rc', rL'⟩, ⟨oA', on', oc', oL'⟩, ⟨tA', tn', tc', tL'⟩, ⟨lA', ln', lc', lL'⟩, k, ⟨bA', bn', bc', bL'⟩⟩) 28)
  refine wp_region_held_drew (S := (fun w' => Below (bx2 w (cBd ⟨nm, ⟨rA, rn, rc, rL⟩, ⟨oA, on, oc, oL⟩, ⟨tA, tn, tc, tL⟩, ⟨lA, ln, lc, lL⟩, k, ⟨bA, bn, bc, bL⟩⟩) (cBd ⟨nm, ⟨rA', rn', rc', rL'⟩, ⟨oA', on', oc', oL'⟩, ⟨tA', tn', tc', tL'⟩, ⟨lA', ln', lc', lL'⟩, k, ⟨bA', bn', bc', bL'⟩⟩) 28).heap.size (bx2 w (cBd ⟨nm, ⟨rA, rn, rc, rL⟩, ⟨oA, on, oc, oL⟩, ⟨tA, tn, tc, tL⟩, ⟨lA, ln, lc, lL⟩, k, ⟨bA, bn, bc, bL⟩⟩) (cBd ⟨nm, ⟨rA', rn', rc', rL'⟩, ⟨oA', on', oc', oL'⟩, ⟨tA', tn', tc', tL'⟩, ⟨lA', ln', lc', lL'⟩, k, ⟨bA', bn', bc', bL'⟩⟩) 28) w' ∧ w'.cell? ⟨w.heap.size, 0, none⟩ = some (.string nm) ∧ w'.cell? ⟨w.heap.size + 1, 0, none⟩ = some (.string nm) ∧ w'.cell? ⟨w.heap.size, 1, none⟩ = some (.slice rA rn rc) ∧ w'.cell? ⟨w.heap.size + 1, 1, none⟩ = some (.slice rA' rn' rc') ∧ w'.cell? ⟨w.heap.size, 2, none⟩ = some (.slice oA on oc) ∧ w'.cell? ⟨w.heap.size + 1, 2, none⟩ = some (.slice oA' on' oc') ∧ w'.cell? ⟨w.heap.size, 3, none⟩ = some (.slice tA tn tc) ∧ w'.cell? ⟨w.heap.size + 1, 3, none⟩ = some (.slice tA' tn' tc') ∧ w'.cell? ⟨w.heap.size, 4, none⟩ = some (.slice lA ln lc) ∧ w'.cell? ⟨w.heap.size + 1, 4, none⟩ = some (.slice lA' ln' lc') ∧ w'.cell? ⟨w.heap.size, 5, none⟩ = some (.int .i64 k) ∧ w'.cell? ⟨w.heap.size + 1, 5, none⟩ = some (.int .i64 k) ∧ w'.cell? ⟨w.heap.size, 6, none⟩ = some (.slice bA bn bc) ∧ w'.cell? ⟨w.heap.size + 1, 6, none⟩ = some (.slice bA' bn' bc'))) (by kernel_rfl) ⟨HW0.out, hc.out _ HW0.out⟩ (fun hHeld => ?_)
  refine takeY (i := 0) (d := some 5) (v := ?_) rfl rfl (by kernel_rfl) (by kernel_rfl) (by kernel_rfl) (fun _ _ _ h => h) (by rfl) ?_ hHeld ?_
  rotate_left
  · intro w9 hS9
    first | (go_simp; done) | (go_simp; with_reducible rfl)
  try simp only [Act.put, List.setIfInBounds_toArray, List.set_cons_zero, List.set_cons_succ]
  refine takeY (i := 1) (d := some 6) (v := ?_) rfl rfl (by kernel_rfl) (by kernel_rfl) (by kernel_rfl) (fun _ _ _ h => h) (by rfl) ?_ hHeld ?_
  rotate_left
  · intro w9 hS9
    obtain ⟨_, c0, d0, c1, d1, c2, d2, c3, d3, c4, d4, c5, d5, c6, d6⟩ := hS9
    first | (go_simp; done) | (go_simp; with_reducible rfl)
  try simp only [Act.put, List.setIfInBounds_toArray, List.set_cons_zero, List.set_cons_succ]
  refine takeY (i := 2) (d := some 7) (v := ?_) rfl rfl (by kernel_rfl) (by kernel_rfl) (by kernel_rfl) (fun _ _ _ h => h) (by rfl) ?_ hHeld ?_
  rotate_left
  · intro w9 hS9
    first | (go_simp; done) | (go_simp; with_reducible rfl)
  try simp only [Act.put, List.setIfInBounds_toArray, List.set_cons_zero, List.set_cons_succ]
  refine takeY (i := 3) (d := some 8) (v := ?_) rfl rfl (by kernel_rfl) (by kernel_rfl) (by kernel_rfl) (fun _ _ _ h => h) (by rfl) ?_ hHeld ?_
  rotate_left
  · intro w9 hS9
    obtain ⟨_, c0, d0, c1, d1, c2, d2, c3, d3, c4, d4, c5, d5, c6, d6⟩ := hS9
    first | (go_simp; done) | (go_simp; with_reducible rfl)
  try simp only [Act.put, List.setIfInBounds_toArray, List.set_cons_zero, List.set_cons_succ]
  refine takeY (i := 4) (d := some 9) (v := ?_) rfl rfl (by kernel_rfl) (by kernel_rfl) (by kernel_rfl) (fun _ _ _ h => h) (by rfl) ?_ hHeld ?_
  rotate_left
  · intro w9 hS9
    first | (go_simp; done) | (go_simp; with_reducible rfl)
  try simp only [Act.put, List.setIfInBounds_toArray, List.set_cons_zero, List.set_cons_succ]
  refine takeY (i := 5) (d := some 10) (v := ?_) rfl rfl (by kernel_rfl) (by kernel_rfl) (by kernel_rfl) (fun _ _ _ h => h) (by rfl) ?_ hHeld ?_
  rotate_left
  · intro w9 hS9
    first | (go_simp; done) | (go_simp; with_reducible rfl)
  try simp only [Act.put, List.setIfInBounds_toArray, List.set_cons_zero, List.set_cons_succ]
  refine takeY (i := 6) (d := some 11) (v := ?_) rfl rfl (by kernel_rfl) (by kernel_rfl) (by kernel_rfl) (fun _ _ _ h => h) (by rfl) ?_ hHeld ?_
  rotate_left
  · intro w9 hS9
    first | (go_simp; done) | (go_simp; with_reducible rfl)
  try simp only [Act.put, List.setIfInBounds_toArray, List.set_cons_zero, List.set_cons_succ]
  refine takeY (i := 7) (d := some 12) (v := ?_) rfl rfl (by kernel_rfl) (by kernel_rfl) (by kernel_rfl) (fun _ _ _ h => h) (by rfl) ?_ hHeld ?_
  rotate_left
  · intro w9 hS9
    obtain ⟨_, c0, d0, c1, d1, c2, d2, c3, d3, c4, d4, c5, d5, c6, d6⟩ := hS9
    first | (go_simp; done) | (go_simp; with_reducible rfl)
  try simp only [Act.put, List.setIfInBounds_toArray, List.set_cons_zero, List.set_cons_succ]
  refine takeY (i := 8) (d := some 13) (v := ?_) rfl rfl (by kernel_rfl) (by kernel_rfl) (by kernel_rfl) (fun _ _ _ h => h) (by rfl) ?_ hHeld ?_
  rotate_left
  · intro w9 hS9
    first | (go_simp; done) | (go_simp; with_reducible rfl)
  try simp only [Act.put, List.setIfInBounds_toArray, List.set_cons_zero, List.set_cons_succ]
  refine takeY (i := 9) (d := some 14) (v := ?_) rfl rfl (by kernel_rfl) (by kernel_rfl) (by kernel_rfl) (fun _ _ _ h => h) (by rfl) ?_ hHeld ?_
  rotate_left
  · intro w9 hS9
    obtain ⟨_, c0, d0, c1, d1, c2, d2, c3, d3, c4, d4, c5, d5, c6, d6⟩ := hS9
    first | (go_simp; done) | (go_simp; with_reducible rfl)
  try simp only [Act.put, List.setIfInBounds_toArray, List.set_cons_zero, List.set_cons_succ]
  refine takeY (i := 10) (d := some 15) (v := ?_) rfl rfl (by kernel_rfl) (by kernel_rfl) (by kernel_rfl) (fun _ _ _ h => h) (by rfl) ?_ hHeld ?_
  rotate_left
  · intro w9 hS9
    first | (go_simp; done) | (go_simp; with_reducible rfl)
  try simp only [Act.put, List.setIfInBounds_toArray, List.set_cons_zero, List.set_cons_succ]
  refine takeY (i := 11) (d := some 16) (v := ?_) rfl rfl (by kernel_rfl) (by kernel_rfl) (by kernel_rfl) (fun _ _ _ h => h) (by rfl) ?_ hHeld ?_
  rotate_left
  · intro w9 hS9
    first | (go_simp; done) | (go_simp; with_reducible rfl)
  try simp only [Act.put, List.setIfInBounds_toArray, List.set_cons_zero, List.set_cons_succ]
  refine takeY (i := 12) (d := some 17) (v := ?_) rfl rfl (by kernel_rfl) (by kernel_rfl) (by kernel_rfl) (fun _ _ _ h => h) (by rfl) ?_ hHeld ?_
  rotate_left
  · intro w9 hS9
    first | (go_simp; done) | (go_simp; with_reducible rfl)
  try simp only [Act.put, List.setIfInBounds_toArray, List.set_cons_zero, List.set_cons_succ]
  refine takeY (i := 13) (d := some 18) (v := ?_) rfl rfl (by kernel_rfl) (by kernel_rfl) (by kernel_rfl) (fun _ _ _ h => h) (by rfl) ?_ hHeld ?_
  rotate_left
  · intro w9 hS9
    first | (go_simp; done) | (go_simp; with_reducible rfl)
  try simp only [Act.put, List.setIfInBounds_toArray, List.set_cons_zero, List.set_cons_succ]
  refine takeY (i := 14) (d := some 19) (v := ?_) rfl rfl (by kernel_rfl) (by kernel_rfl) (by kernel_rfl) (fun _ _ _ h => h) (by rfl) ?_ hHeld ?_
  rotate_left
  · intro w9 hS9
    obtain ⟨_, c0, d0, c1, d1, c2, d2, c3, d3, c4, d4, c5, d5, c6, d6⟩ := hS9
    first | (go_simp; done) | (go_simp; with_reducible rfl)
  try simp only [Act.put, List.setIfInBounds_toArray, List.set_cons_zero, List.set_cons_succ]
  refine takeY (i := 16) (d := some 21) (v := ?_) rfl rfl (by kernel_rfl) (by kernel_rfl) (by kernel_rfl) (fun _ _ _ h => h) (by rfl) ?_ hHeld ?_
  rotate_left
  · intro w9 hS9
    first | (go_simp; done) | (go_simp; with_reducible rfl)
  try simp only [Act.put, List.setIfInBounds_toArray, List.set_cons_zero, List.set_cons_succ]
  refine takeY (i := 17) (d := some 22) (v := ?_) rfl rfl (by kernel_rfl) (by kernel_rfl) (by kernel_rfl) (fun _ _ _ h => h) (by rfl) ?_ hHeld ?_
  rotate_left
  · intro w9 hS9
    obtain ⟨_, c0, d0, c1, d1, c2, d2, c3, d3, c4, d4, c5, d5, c6, d6⟩ := hS9
    first | (go_simp; done) | (go_simp; with_reducible rfl)
  try simp only [Act.put, List.setIfInBounds_toArray, List.set_cons_zero, List.set_cons_succ]
  refine wpAnyH_ready (rs := [15]) (by kernel_rfl) (by simp) ?_
  refine AllReadyH.cons rfl (fun K hK => ?_) AllReadyH.nil
  go_simp
  refine (PlainStr_any ⟨rA, rn, rc, rL⟩ _).mono ?_
  rintro x9 w1 ⟨rfl, hb0⟩
  have HW1 := hide (HW0.out.trans (hb0.mono HW0.out.size))
  clear hb0
  refine hK.out _ _ ⟨HW1.out, hc.out _ HW1.out⟩ (fun hHeld => ?_)
  clear hK K
  try simp only [Act.put, List.setIfInBounds_toArray, List.set_cons_zero, List.set_cons_succ]
  refine wpAnyH_ready (rs := [18]) (by kernel_rfl) (by simp) ?_
  refine AllReadyH.cons rfl (fun K hK => ?_) AllReadyH.nil
  go_simp
  refine (EqStrs_is (s := ⟨rA, rn, rc, rL⟩) (t := ⟨rA', rn', rc', rL'⟩) H2.out _ (Strs.up HX.out.regions HW1.out) (Strs.up HY.out.regions HW1.out)).mono ?_
  rintro x9 w2 ⟨rfl, hb0⟩
  have HW2 := hide (HW1.out.trans (hb0.mono HW1.out.size))
  clear hb0
  refine hK.out _ _ ⟨HW2.out, hc.out _ HW2.out⟩ (fun hHeld => ?_)
  clear hK K
  try simp only [Act.put, List.setIfInBounds_toArray, List.set_cons_zero, List.set_cons_succ]
  refine takeY (i := 19) (d := some 24) (v := ?_) rfl rfl (by kernel_rfl) (by kernel_rfl) (by kernel_rfl) (fun _ _ _ h => h) (by rfl) ?_ hHeld ?_
  rotate_left
  · intro w9 hS9
    first | (go_simp; done) | (go_simp; with_reducible rfl)
  try simp only [Act.put, List.setIfInBounds_toArray, List.set_cons_zero, List.set_cons_succ]
  refine takeY (i := 20) (d := some 25) (v := ?_) rfl rfl (by kernel_rfl) (by kernel_rfl) (by kernel_rfl) (fun _ _ _ h => h) (by rfl) ?_ hHeld ?_
  rotate_left
  · intro w9 hS9
    first | (go_simp; done) | (go_simp; with_reducible rfl)
  try simp only [Act.put, List.setIfInBounds_toArray, List.set_cons_zero, List.set_cons_succ]
  refine takeN (i := 21) (d := some 26) rfl rfl (by kernel_rfl) (by kernel_rfl) (by kernel_rfl) (fun _ _ _ h => h) (by rfl) hHeld ?_
  try simp only [Act.put, List.setIfInBounds_toArray, List.set_cons_zero, List.set_cons_succ]
  refine takeN (i := 22) (d := some 27) rfl rfl (by kernel_rfl) (by kernel_rfl) (by kernel_rfl) (fun _ _ _ h => h) (by rfl) hHeld ?_
  try simp only [Act.put, List.setIfInBounds_toArray, List.set_cons_zero, List.set_cons_succ]
  refine takeN (i := 24) (d := some 29) rfl rfl (by kernel_rfl) (by kernel_rfl) (by kernel_rfl) (fun _ _ _ h => h) (by rfl) hHeld ?_
  try simp only [Act.put, List.setIfInBounds_toArray, List.set_cons_zero, List.set_cons_succ]
  refine takeN (i := 25) (d := some 30) rfl rfl (by kernel_rfl) (by kernel_rfl) (by kernel_rfl) (fun _ _ _ h => h) (by rfl) hHeld ?_
  try simp only [Act.put, List.setIfInBounds_toArray, List.set_cons_zero, List.set_cons_succ]
  refine wpAnyH_ready (rs := [23]) (by kernel_rfl) (by simp) ?_
  refine AllReadyH.cons rfl (fun K hK => ?_) AllReadyH.nil
  go_simp
  refine hK.out _ _ hHeld (fun hHeld => ?_)
  clear hK K
  try simp only [Act.put, List.setIfInBounds_toArray, List.set_cons_zero, List.set_cons_succ]
  refine wpAnyH_ready (rs := [26]) (by kernel_rfl) (by simp) ?_
  refine AllReadyH.cons rfl (fun K hK => ?_) AllReadyH.nil
  go_simp
  refine hK.out _ _ hHeld (fun hHeld => ?_)
  clear hK K
  try simp only [Act.put, List.setIfInBounds_toArray, List.set_cons_zero, List.set_cons_succ]
  refine takeY (i := 27) (d := some 32) (v := ?_) rfl rfl (by kernel_rfl) (by kernel_rfl) (by kernel_rfl) (fun _ _ _ h => h) (by rfl) ?_ hHeld ?_
  rotate_left
  · intro w9 hS9
    first | (go_simp; done) | (go_simp; with_reducible rfl)
  try simp only [Act.put, List.setIfInBounds_toArray, List.set_cons_zero, List.set_cons_succ]
  refine takeY (i := 28) (d := some 33) (v := ?_) rfl rfl (by kernel_rfl) (by kernel_rfl) (by kernel_rfl) (fun _ _ _ h => h) (by rfl) ?_ hHeld ?_
  rotate_left
  · intro w9 hS9
    first | (go_simp; done) | (go_simp; with_reducible rfl)
  try simp only [Act.put, List.setIfInBounds_toArray, List.set_cons_zero, List.set_cons_succ]
  refine takeN (i := 29) (d := some 34) rfl rfl (by kernel_rfl) (by kernel_rfl) (by kernel_rfl) (fun _ _ _ h => h) (by rfl) hHeld ?_
  try simp only [Act.put, List.setIfInBounds_toArray, List.set_cons_zero, List.set_cons_succ]
  refine takeN (i := 30) (d := some 35) rfl rfl (by kernel_rfl) (by kernel_rfl) (by kernel_rfl) (fun _ _ _ h => h) (by rfl) hHeld ?_
  try simp only [Act.put, List.setIfInBounds_toArray, List.set_cons_zero, List.set_cons_succ]
  refine takeN (i := 31) (d := some 36) rfl rfl (by kernel_rfl) (by kernel_rfl) (by kernel_rfl) (fun _ _ _ h => h) (by rfl) hHeld ?_
  try simp only [Act.put, List.setIfInBounds_toArray, List.set_cons_zero, List.set_cons_succ]
  refine takeN (i := 32) (d := some 37) rfl rfl (by kernel_rfl) (by kernel_rfl) (by kernel_rfl) (fun _ _ _ h => h) (by rfl) hHeld ?_
  try simp only [Act.put, List.setIfInBounds_toArray, List.set_cons_zero, List.set_cons_succ]
  refine takeN (i := 33) (d := some 38) rfl rfl (by kernel_rfl) (by kernel_rfl) (by kernel_rfl) (fun _ _ _ h => h) (by rfl) hHeld ?_
  try simp only [Act.put, List.setIfInBounds_toArray, List.set_cons_zero, List.set_cons_succ]
  refine wpAnyH_ready (rs := [34]) (by kernel_rfl) (by simp) ?_
  refine AllReadyH.cons rfl (fun K hK => ?_) AllReadyH.nil
  go_simp
  refine hK.out _ _ hHeld (fun hHeld => ?_)
  clear hK K
  try simp only [Act.put, List.setIfInBounds_toArray, List.set_cons_zero, List.set_cons_succ]
  refine takeY (i := 35) (d := some 40) (v := ?_) rfl rfl (by kernel_rfl) (by kernel_rfl) (by kernel_rfl) (fun _ _ _ h => h) (by rfl) ?_ hHeld ?_
  rotate_left
  · intro w9 hS9
    first | (go_simp; done) | (go_simp; with_reducible rfl)
  try simp only [Act.put, List.setIfInBounds_toArray, List.set_cons_zero, List.set_cons_succ]
  refine takeY (i := 36) (d := some 41) (v := ?_) rfl rfl (by kernel_rfl) (by kernel_rfl) (by kernel_rfl) (fun _ _ _ h => h) (by rfl) ?_ hHeld ?_
  rotate_left
  · intro w9 hS9
    first | (go_simp; done) | (go_simp; with_reducible rfl)
  try simp only [Act.put, List.setIfInBounds_toArray, List.set_cons_zero, List.set_cons_succ]
  refine takeN (i := 37) (d := some 42) rfl rfl (by kernel_rfl) (by kernel_rfl) (by kernel_rfl) (fun _ _ _ h => h) (by rfl) hHeld ?_
  try simp only [Act.put, List.setIfInBounds_toArray, List.set_cons_zero, List.set_cons_succ]
  refine takeN (i := 38) (d := some 43) rfl rfl (by kernel_rfl) (by kernel_rfl) (by kernel_rfl) (fun _ _ _ h => h) (by rfl) hHeld ?_
  try simp only [Act.put, List.setIfInBounds_toArray, List.set_cons_zero, List.set_cons_succ]
  refine takeN (i := 40) (d := some 45) rfl rfl (by kernel_rfl) (by kernel_rfl) (by kernel_rfl) (fun _ _ _ h => h) (by rfl) hHeld ?_
  try simp only [Act.put, List.setIfInBounds_toArray, List.set_cons_zero, List.set_cons_succ]
  refine takeN (i := 41) (d := some 46) rfl rfl (by kernel_rfl) (by kernel_rfl) (by kernel_rfl) (fun _ _ _ h => h) (by rfl) hHeld ?_
  try simp only [Act.put, List.setIfInBounds_toArray, List.set_cons_zero, List.set_cons_succ]
  refine wpAnyH_ready (rs := [39]) (by kernel_rfl) (by simp) ?_
  refine AllReadyH.cons rfl (fun K hK => ?_) AllReadyH.nil
  go_simp
  refine hK.out _ _ hHeld (fun hHeld => ?_)
  clear hK K
  try simp only [Act.put, List.setIfInBounds_toArray, List.set_cons_zero, List.set_cons_succ]
  refine wpAnyH_ready (rs := [42]) (by kernel_rfl) (by simp) ?_
  refine AllReadyH.cons rfl (fun K hK => ?_) AllReadyH.nil
  go_simp
  refine hK.out _ _ hHeld (fun hHeld => ?_)
  clear hK K
  try simp only [Act.put, List.setIfInBounds_toArray, List.set_cons_zero, List.set_cons_succ]
  refine takeY (i := 43) (d := some 48) (v := ?_) rfl rfl (by kernel_rfl) (by kernel_rfl) (by kernel_rfl) (fun _ _ _ h => h) (by rfl) ?_ hHeld ?_
  rotate_left
  · intro w9 hS9
    first | (go_simp; done) | (go_simp; with_reducible rfl)
  try simp only [Act.put, List.setIfInBounds_toArray, List.set_cons_zero, List.set_cons_succ]
  refine takeY (i := 44) (d := some 49) (v := ?_) rfl rfl (by kernel_rfl) (by kernel_rfl) (by kernel_rfl) (fun _ _ _ h => h) (by rfl) ?_ hHeld ?_
  rotate_left
  · intro w9 hS9
    first | (go_simp; done) | (go_simp; with_reducible rfl)
  try simp only [Act.put, List.setIfInBounds_toArray, List.set_cons_zero, List.set_cons_succ]
  refine takeN (i := 45) (d := some 50) rfl rfl (by kernel_rfl) (by kernel_rfl) (by kernel_rfl) (fun _ _ _ h => h) (by rfl) hHeld ?_
  try simp only [Act.put, List.setIfInBounds_toArray, List.set_cons_zero, List.set_cons_succ]
  refine takeN (i := 46) (d := some 51) rfl rfl (by kernel_rfl) (by kernel_rfl) (by kernel_rfl) (fun _ _ _ h => h) (by rfl) hHeld ?_
  try simp only [Act.put, List.setIfInBounds_toArray, List.set_cons_zero, List.set_cons_succ]
  refine takeN (i := 47) (d := some 52) rfl rfl (by kernel_rfl) (by kernel_rfl) (by kernel_rfl) (fun _ _ _ h => h) (by rfl) hHeld ?_
  try simp only [Act.put, List.setIfInBounds_toArray, List.set_cons_zero, List.set_cons_succ]
  refine takeN (i := 48) (d := some 53) rfl rfl (by kernel_rfl) (by kernel_rfl) (by kernel_rfl) (fun _ _ _ h => h) (by rfl) hHeld ?_
  try simp only [Act.put, List.setIfInBounds_toArray, List.set_cons_zero, List.set_cons_succ]
  refine takeN (i := 49) (d := some 54) rfl rfl (by kernel_rfl) (by kernel_rfl) (by kernel_rfl) (fun _ _ _ h => h) (by rfl) hHeld ?_
  try simp only [Act.put, List.setIfInBounds_toArray, List.set_cons_zero, List.set_cons_succ]
  refine wpAnyH_ready (rs := [50]) (by kernel_rfl) (by simp) ?_
  refine AllReadyH.cons rfl (fun K hK => ?_) AllReadyH.nil
  go_simp
  refine hK.out _ _ hHeld (fun hHeld => ?_)
  clear hK K
  try simp only [Act.put, List.setIfInBounds_toArray, List.set_cons_zero, List.set_cons_succ]
  refine takeY (i := 51) (d := some 56) (v := ?_) rfl rfl (by kernel_rfl) (by kernel_rfl) (by kernel_rfl) (fun _ _ _ h => h) (by rfl) ?_ hHeld ?_
  rotate_left
  · intro w9 hS9
    first | (go_simp; done) | (go_simp; with_reducible rfl)
  try simp only [Act.put, List.setIfInBounds_toArray, List.set_cons_zero, List.set_cons_succ]
  refine takeY (i := 52) (d := some 4) (v := ?_) rfl rfl (by kernel_rfl) (by kernel_rfl) (by kernel_rfl) (fun _ _ _ h => h) (by rfl) ?_ hHeld ?_
  rotate_left
  · intro w9 hS9
    first | (go_simp; done) | (go_simp; with_reducible rfl)
  try simp only [Act.put, List.setIfInBounds_toArray, List.set_cons_zero, List.set_cons_succ]
  refine wpAnyH_done (by kernel_rfl) ?_ _
  go_wp2
  go_ret
  exact ⟨rfl, HB.out.trans (HW2.out.mono HB.out.size)⟩

set_option maxHeartbeats 4000000 in
set_option maxRecDepth 100000 in
theorem eqBd3 (nm : ByteArray) (k : Int) (rA : Option Addr) (rn rc : Nat) (rL : List ByteArray) (oA : Option Addr) (on oc : Nat) (oL : List Pr) (tA : Option Addr) (tn tc : Nat) (tL : List TyW) (lA : Option Addr) (ln lc : Nat) (lL : List LcW) (bA : Option Addr) (bn bc : Nat) (bL : List BkW) (rA' : Option Addr) (rn' rc' : Nat) (rL' : List ByteArray) (oA' : Option Addr) (on' oc' : Nat) (oL' : List Pr) (tA' : Option Addr) (tn' tc' : Nat) (tL' : List TyW) (lA' : Option Addr) (ln' lc' : Nat) (lL' : List LcW) (bA' : Option Addr) (bn' bc' : Nat) (bL' : List BkW) (h2 : eqStrs ⟨rA, rn, rc, rL⟩ ⟨rA', rn', rc', rL'⟩ = true) (h3 : eqPrs ⟨oA, on, oc, oL⟩ ⟨oA', on', oc', oL'⟩ = false)
    (w : World) (hx : OneBd w w.heap.size ⟨nm, ⟨rA, rn, rc, rL⟩, ⟨oA, on, oc, oL⟩, ⟨tA, tn, tc, tL⟩, ⟨lA, ln, lc, lL⟩, k, ⟨bA, bn, bc, bL⟩⟩) (hy : OneBd w w.heap.size ⟨nm, ⟨rA', rn', rc', rL'⟩, ⟨oA', on', oc', oL'⟩, ⟨tA', tn', tc', tL'⟩, ⟨lA', ln', lc', lL'⟩, k, ⟨bA', bn', bc', bL'⟩⟩) :
    Calls Tryz.prog 11 #[aggBd ⟨nm, ⟨rA, rn, rc, rL⟩, ⟨oA, on, oc, oL⟩, ⟨tA, tn, tc, tL⟩, ⟨lA, ln, lc, lL⟩, k, ⟨bA, bn, bc, bL⟩⟩, aggBd ⟨nm, ⟨rA', rn', rc', rL'⟩, ⟨oA', on', oc', oL'⟩, ⟨tA', tn', tc', tL'⟩, ⟨lA', ln', lc', lL'⟩, k, ⟨bA', bn', bc', bL'⟩⟩] w fun e w' => e = .returned (.bool false) ∧ Below w.heap.size w w' := by
  have HB := hide (bx2_below w (cBd ⟨nm, ⟨rA, rn, rc, rL⟩, ⟨oA, on, oc, oL⟩, ⟨tA, tn, tc, tL⟩, ⟨lA, ln, lc, lL⟩, k, ⟨bA, bn, bc, bL⟩⟩) (cBd ⟨nm, ⟨rA', rn', rc', rL'⟩, ⟨oA', on', oc', oL'⟩, ⟨tA', tn', tc', tL'⟩, ⟨lA', ln', lc', lL'⟩, k, ⟨bA', bn', bc', bL'⟩⟩) 28)
  have HX := hide (hx.up HB.out)
  have HY := hide (hy.up HB.out)
  have hs := hide fun (w' : World) (h : Below (bx2 w (cBd ⟨nm, ⟨rA, rn, rc, rL⟩, ⟨oA, on, oc, oL⟩, ⟨tA, tn, tc, tL⟩, ⟨lA, ln, lc, lL⟩, k, ⟨bA, bn, bc, bL⟩⟩) (cBd ⟨nm, ⟨rA', rn', rc', rL'⟩, ⟨oA', on', oc', oL'⟩, ⟨tA', tn', tc', tL'⟩, ⟨lA', ln', lc', lL'⟩, k, ⟨bA', bn', bc', bL'⟩⟩) 28).heap.size (bx2 w (cBd ⟨nm, ⟨rA, rn, rc, rL⟩, ⟨oA, on, oc, oL⟩, ⟨tA, tn, tc, tL⟩, ⟨lA, ln, lc, lL⟩, k, ⟨bA, bn, bc, bL⟩⟩) (cBd ⟨nm, ⟨rA', rn', rc', rL'⟩, ⟨oA', on', oc', oL'⟩, ⟨tA', tn', tc', tL'⟩, ⟨lA', ln', lc', lL'⟩, k, ⟨bA', bn', bc', bL'⟩⟩) 28) w') => bx2_cells h
  have H2 := hide h2
  clear h2
  have H3 := hide h3
  clear h3
  clear hx hy
  go_enter Tryz.func11, Tryz.ntmps11
  have hc := hide fun (w' : World) (h : Below (bx2 w (cBd ⟨nm, ⟨rA, rn, rc, rL⟩, ⟨oA, on, oc, oL⟩, ⟨tA, tn, tc, tL⟩, ⟨lA, ln, lc, lL⟩, k, ⟨bA, bn, bc, bL⟩⟩) (cBd ⟨nm, ⟨rA', rn', rc', rL'⟩, ⟨oA', on', oc', oL'⟩, ⟨tA', tn', tc', tL'⟩, ⟨lA', ln', lc', lL'⟩, k, ⟨bA', bn', bc', bL'⟩⟩) 28).heap.size (bx2 w (cBd ⟨nm, ⟨rA, rn, rc, rL⟩, ⟨oA, on, oc, oL⟩, ⟨tA, tn, tc, tL⟩, ⟨lA, ln, lc, lL⟩, k, ⟨bA, bn, bc, bL⟩⟩) (cBd ⟨nm, ⟨rA', rn', rc', rL'⟩, ⟨oA', on', oc', oL'⟩, ⟨tA', tn', tc', tL'⟩, ⟨lA', ln', lc', lL'⟩, k, ⟨bA', bn', bc', bL'⟩⟩) 28) w') => (show w'.cell? ⟨w.heap.size, 0, none⟩ = some (.string nm) ∧ w'.cell? ⟨w.heap.size + 1, 0, none⟩ = some (.string nm) ∧ w'.cell? ⟨w.heap.size, 1, none⟩ = some (.slice rA rn rc) ∧ w'.cell? ⟨w.heap.size + 1, 1, none⟩ = some (.slice rA' rn' rc') ∧ w'.cell? ⟨w.heap.size, 2, none⟩ = some (.slice oA on oc) ∧ w'.cell? ⟨w.heap.size + 1, 2, none⟩ = some (.slice oA' on' oc') ∧ w'.cell? ⟨w.heap.size, 3, none⟩ = some (.slice tA tn tc) ∧ w'.cell? ⟨w.heap.size + 1, 3, none⟩ = some (.slice tA' tn' tc') ∧ w'.cell? ⟨w.heap.size, 4, none⟩ = some (.slice lA ln lc) ∧ w'.cell? ⟨w.heap.size + 1, 4, none⟩ = some (.slice lA' ln' lc') ∧ w'.cell? ⟨w.heap.size, 5, none⟩ = some (.int .i64 k) ∧ w'.cell? ⟨w.heap.size + 1, 5, none⟩ = some (.int .i64 k) ∧ w'.cell? ⟨w.heap.size, 6, none⟩ = some (.slice bA bn bc) ∧ w'.cell? ⟨w.heap.size + 1, 6, none⟩ = some (.slice bA' bn' bc') from ⟨(hs.out w' h 0 _ _ rfl rfl).1, (hs.out w' h 0 _ _ rfl rfl).2, (hs.out w' h 1 _ _ rfl rfl).1, (hs.out w' h 1 _ _ rfl rfl).2, (hs.out w' h 2 _ _ rfl rfl).1, (hs.out w' h 2 _ _ rfl rfl).2, (hs.out w' h 3 _ _ rfl rfl).1, (hs.out w' h 3 _ _ rfl rfl).2, (hs.out w' h 4 _ _ rfl rfl).1, (hs.out w' h 4 _ _ rfl rfl).2, (hs.out w' h 5 _ _ rfl rfl).1, (hs.out w' h 5 _ _ rfl rfl).2, (hs.out w' h 6 _ _ rfl rfl).1, (hs.out w' h 6 _ _ rfl rfl).2⟩)
  have HW0 := hide (show Below (bx2 w (cBd ⟨nm, ⟨rA, rn, rc, rL⟩, ⟨oA, on, oc, oL⟩, ⟨tA, tn, tc, tL⟩, ⟨lA, ln, lc, lL⟩, k, ⟨bA, bn, bc, bL⟩⟩) (cBd ⟨nm, ⟨rA', rn', rc', rL'⟩, ⟨oA', on', oc', oL'⟩, ⟨tA', tn', tc', tL'⟩, ⟨lA', ln', lc', lL'⟩, k, ⟨bA', bn', bc', bL'⟩⟩) 28).heap.size (bx2 w (cBd ⟨nm, ⟨rA, rn, rc, rL⟩, ⟨oA, on, oc, oL⟩, ⟨tA, tn, tc, tL⟩, ⟨lA, ln, lc, lL⟩, k, ⟨bA, bn, bc, bL⟩⟩) (cBd ⟨nm, ⟨rA', rn', rc', rL'⟩, ⟨oA', on', oc', oL'⟩, ⟨tA', tn', tc', tL'⟩, ⟨lA', ln', lc', lL'⟩, k, ⟨bA', bn', bc', bL'⟩⟩) 28) (World.drew (bx2 w (cBd ⟨nm, ⟨rA, rn, rc, rL⟩, ⟨oA, on, oc, oL⟩, ⟨tA, tn, tc, tL⟩, ⟨lA, ln, lc, lL⟩, k, ⟨bA, bn, bc, bL⟩⟩) (cBd ⟨nm, ⟨rA', rn', rc', rL'⟩, ⟨oA', on', oc', oL'⟩, ⟨tA', tn', tc', tL'⟩, ⟨lA', ln', lc', lL'⟩, k, ⟨bA', bn', bc', bL'⟩⟩) 28)) from (Below.refl _ _).drew)
  go_wp2
  change Code.wp _ _ _ _ (bx2 w (cBd ⟨nm, ⟨rA, rn, rc, rL⟩, ⟨oA, on, oc, oL⟩, ⟨tA, tn, tc, tL⟩, ⟨lA, ln, lc, lL⟩, k, ⟨bA, bn, bc, bL⟩⟩) (cBd ⟨nm, ⟨rA', rn', rc', rL'⟩, ⟨oA', on', oc', oL'⟩, ⟨tA', tn', tc', tL'⟩, ⟨lA', ln', lc', lL'⟩, k, ⟨bA', bn', bc', bL'⟩⟩) 28)
  refine wp_region_held_drew (S := (fun w' => Below (bx2 w (cBd ⟨nm, ⟨rA, rn, rc, rL⟩, ⟨oA, on, oc, oL⟩, ⟨tA, tn, tc, tL⟩, ⟨lA, ln, lc, lL⟩, k, ⟨bA, bn, bc, bL⟩⟩) (cBd ⟨nm, ⟨rA', rn', rc', rL'⟩, ⟨oA', on', oc', oL'⟩, ⟨tA', tn', tc', tL'⟩, ⟨lA', ln', lc', lL'⟩, k, ⟨bA', bn', bc', bL'⟩⟩) 28).heap.size (bx2 w (cBd ⟨nm, ⟨rA, rn, rc, rL⟩, ⟨oA, on, oc, oL⟩, ⟨tA, tn, tc, tL⟩, ⟨lA, ln, lc, lL⟩, k, ⟨bA, bn, bc, bL⟩⟩) (cBd ⟨nm, ⟨rA', rn', rc', rL'⟩, ⟨oA', on', oc', oL'⟩, ⟨tA', tn', tc', tL'⟩, ⟨lA', ln', lc', lL'⟩, k, ⟨bA', bn', bc', bL'⟩⟩) 28) w' ∧ w'.cell? ⟨w.heap.size, 0, none⟩ = some (.string nm) ∧ w'.cell? ⟨w.heap.size + 1, 0, none⟩ = some (.string nm) ∧ w'.cell? ⟨w.heap.size, 1, none⟩ = some (.slice rA rn rc) ∧ w'.cell? ⟨w.heap.size + 1, 1, none⟩ = some (.slice rA' rn' rc') ∧ w'.cell? ⟨w.heap.size, 2, none⟩ = some (.slice oA on oc) ∧ w'.cell? ⟨w.heap.size + 1, 2, none⟩ = some (.slice oA' on' oc') ∧ w'.cell? ⟨w.heap.size, 3, none⟩ = some (.slice tA tn tc) ∧ w'.cell? ⟨w.heap.size + 1, 3, none⟩ = some (.slice tA' tn' tc') ∧ w'.cell? ⟨w.heap.size, 4, none⟩ = some (.slice lA ln lc) ∧ w'.cell? ⟨w.heap.size + 1, 4, none⟩ = some (.slice lA' ln' lc') ∧ w'.cell? ⟨w.heap.size, 5, none⟩ = some (.int .i64 k) ∧ w'.cell? ⟨w.heap.size + 1, 5, none⟩ = some (.int .i64 k) ∧ w'.cell? ⟨w.heap.size, 6, none⟩ = some (.slice bA bn bc) ∧ w'.cell? ⟨w.heap.size + 1, 6, none⟩ = some (.slice bA' bn' bc'))) (by kernel_rfl) ⟨HW0.out, hc.out _ HW0.out⟩ (fun hHeld => ?_)
  refine takeY (i := 0) (d := some 5) (v := ?_) rfl rfl (by kernel_rfl) (by kernel_rfl) (by kernel_rfl) (fun _ _ _ h => h) (by rfl) ?_ hHeld ?_
  rotate_left
  · intro w9 hS9
    first | (go_simp; done) | (go_simp; with_reducible rfl)
  try simp only [Act.put, List.setIfInBounds_toArray, List.set_cons_zero, List.set_cons_succ]
  refine takeY (i := 1) (d := some 6) (v := ?_) rfl rfl (by kernel_rfl) (by kernel_rfl) (by kernel_rfl) (fun _ _ _ h => h) (by rfl) ?_ hHeld ?_
  rotate_left
  · intro w9 hS9
    obtain ⟨_, c0, d0, c1, d1, c2, d2, c3, d3, c4, d4, c5, d5, c6, d6⟩ := hS9
    first | (go_simp; done) | (go_simp; with_reducible rfl)
  try simp only [Act.put, List.setIfInBounds_toArray, List.set_cons_zero, List.set_cons_succ]
  refine takeY (i := 2) (d := some 7) (v := ?_) rfl rfl (by kernel_rfl) (by kernel_rfl) (by kernel_rfl) (fun _ _ _ h => h) (by rfl) ?_ hHeld ?_
  rotate_left
  · intro w9 hS9
    first | (go_simp; done) | (go_simp; with_reducible rfl)
  try simp only [Act.put, List.setIfInBounds_toArray, List.set_cons_zero, List.set_cons_succ]
  refine takeY (i := 3) (d := some 8) (v := ?_) rfl rfl (by kernel_rfl) (by kernel_rfl) (by kernel_rfl) (fun _ _ _ h => h) (by rfl) ?_ hHeld ?_
  rotate_left
  · intro w9 hS9
    obtain ⟨_, c0, d0, c1, d1, c2, d2, c3, d3, c4, d4, c5, d5, c6, d6⟩ := hS9
    first | (go_simp; done) | (go_simp; with_reducible rfl)
  try simp only [Act.put, List.setIfInBounds_toArray, List.set_cons_zero, List.set_cons_succ]
  refine takeY (i := 4) (d := some 9) (v := ?_) rfl rfl (by kernel_rfl) (by kernel_rfl) (by kernel_rfl) (fun _ _ _ h => h) (by rfl) ?_ hHeld ?_
  rotate_left
  · intro w9 hS9
    first | (go_simp; done) | (go_simp; with_reducible rfl)
  try simp only [Act.put, List.setIfInBounds_toArray, List.set_cons_zero, List.set_cons_succ]
  refine takeY (i := 5) (d := some 10) (v := ?_) rfl rfl (by kernel_rfl) (by kernel_rfl) (by kernel_rfl) (fun _ _ _ h => h) (by rfl) ?_ hHeld ?_
  rotate_left
  · intro w9 hS9
    first | (go_simp; done) | (go_simp; with_reducible rfl)
  try simp only [Act.put, List.setIfInBounds_toArray, List.set_cons_zero, List.set_cons_succ]
  refine takeY (i := 6) (d := some 11) (v := ?_) rfl rfl (by kernel_rfl) (by kernel_rfl) (by kernel_rfl) (fun _ _ _ h => h) (by rfl) ?_ hHeld ?_
  rotate_left
  · intro w9 hS9
    first | (go_simp; done) | (go_simp; with_reducible rfl)
  try simp only [Act.put, List.setIfInBounds_toArray, List.set_cons_zero, List.set_cons_succ]
  refine takeY (i := 7) (d := some 12) (v := ?_) rfl rfl (by kernel_rfl) (by kernel_rfl) (by kernel_rfl) (fun _ _ _ h => h) (by rfl) ?_ hHeld ?_
  rotate_left
  · intro w9 hS9
    obtain ⟨_, c0, d0, c1, d1, c2, d2, c3, d3, c4, d4, c5, d5, c6, d6⟩ := hS9
    first | (go_simp; done) | (go_simp; with_reducible rfl)
  try simp only [Act.put, List.setIfInBounds_toArray, List.set_cons_zero, List.set_cons_succ]
  refine takeY (i := 8) (d := some 13) (v := ?_) rfl rfl (by kernel_rfl) (by kernel_rfl) (by kernel_rfl) (fun _ _ _ h => h) (by rfl) ?_ hHeld ?_
  rotate_left
  · intro w9 hS9
    first | (go_simp; done) | (go_simp; with_reducible rfl)
  try simp only [Act.put, List.setIfInBounds_toArray, List.set_cons_zero, List.set_cons_succ]
  refine takeY (i := 9) (d := some 14) (v := ?_) rfl rfl (by kernel_rfl) (by kernel_rfl) (by kernel_rfl) (fun _ _ _ h => h) (by rfl) ?_ hHeld ?_
  rotate_left
  · intro w9 hS9
    obtain ⟨_, c0, d0, c1, d1, c2, d2, c3, d3, c4, d4, c5, d5, c6, d6⟩ := hS9
    first | (go_simp; done) | (go_simp; with_reducible rfl)
  try simp only [Act.put, List.setIfInBounds_toArray, List.set_cons_zero, List.set_cons_succ]
  refine takeY (i := 10) (d := some 15) (v := ?_) rfl rfl (by kernel_rfl) (by kernel_rfl) (by kernel_rfl) (fun _ _ _ h => h) (by rfl) ?_ hHeld ?_
  rotate_left
  · intro w9 hS9
    first | (go_simp; done) | (go_simp; with_reducible rfl)
  try simp only [Act.put, List.setIfInBounds_toArray, List.set_cons_zero, List.set_cons_succ]
  refine takeY (i := 11) (d := some 16) (v := ?_) rfl rfl (by kernel_rfl) (by kernel_rfl) (by kernel_rfl) (fun _ _ _ h => h) (by rfl) ?_ hHeld ?_
  rotate_left
  · intro w9 hS9
    first | (go_simp; done) | (go_simp; with_reducible rfl)
  try simp only [Act.put, List.setIfInBounds_toArray, List.set_cons_zero, List.set_cons_succ]
  refine takeY (i := 12) (d := some 17) (v := ?_) rfl rfl (by kernel_rfl) (by kernel_rfl) (by kernel_rfl) (fun _ _ _ h => h) (by rfl) ?_ hHeld ?_
  rotate_left
  · intro w9 hS9
    first | (go_simp; done) | (go_simp; with_reducible rfl)
  try simp only [Act.put, List.setIfInBounds_toArray, List.set_cons_zero, List.set_cons_succ]
  refine takeY (i := 13) (d := some 18) (v := ?_) rfl rfl (by kernel_rfl) (by kernel_rfl) (by kernel_rfl) (fun _ _ _ h => h) (by rfl) ?_ hHeld ?_
  rotate_left
  · intro w9 hS9
    first | (go_simp; done) | (go_simp; with_reducible rfl)
  try simp only [Act.put, List.setIfInBounds_toArray, List.set_cons_zero, List.set_cons_succ]
  refine takeY (i := 14) (d := some 19) (v := ?_) rfl rfl (by kernel_rfl) (by kernel_rfl) (by kernel_rfl) (fun _ _ _ h => h) (by rfl) ?_ hHeld ?_
  rotate_left
  · intro w9 hS9
    obtain ⟨_, c0, d0, c1, d1, c2, d2, c3, d3, c4, d4, c5, d5, c6, d6⟩ := hS9
    first | (go_simp; done) | (go_simp; with_reducible rfl)
  try simp only [Act.put, List.setIfInBounds_toArray, List.set_cons_zero, List.set_cons_succ]
  refine takeY (i := 16) (d := some 21) (v := ?_) rfl rfl (by kernel_rfl) (by kernel_rfl) (by kernel_rfl) (fun _ _ _ h => h) (by rfl) ?_ hHeld ?_
  rotate_left
  · intro w9 hS9
    first | (go_simp; done) | (go_simp; with_reducible rfl)
  try simp only [Act.put, List.setIfInBounds_toArray, List.set_cons_zero, List.set_cons_succ]
  refine takeY (i := 17) (d := some 22) (v := ?_) rfl rfl (by kernel_rfl) (by kernel_rfl) (by kernel_rfl) (fun _ _ _ h => h) (by rfl) ?_ hHeld ?_
  rotate_left
  · intro w9 hS9
    obtain ⟨_, c0, d0, c1, d1, c2, d2, c3, d3, c4, d4, c5, d5, c6, d6⟩ := hS9
    first | (go_simp; done) | (go_simp; with_reducible rfl)
  try simp only [Act.put, List.setIfInBounds_toArray, List.set_cons_zero, List.set_cons_succ]
  refine wpAnyH_ready (rs := [15]) (by kernel_rfl) (by simp) ?_
  refine AllReadyH.cons rfl (fun K hK => ?_) AllReadyH.nil
  go_simp
  refine (PlainStr_any ⟨rA, rn, rc, rL⟩ _).mono ?_
  rintro x9 w1 ⟨rfl, hb0⟩
  have HW1 := hide (HW0.out.trans (hb0.mono HW0.out.size))
  clear hb0
  refine hK.out _ _ ⟨HW1.out, hc.out _ HW1.out⟩ (fun hHeld => ?_)
  clear hK K
  try simp only [Act.put, List.setIfInBounds_toArray, List.set_cons_zero, List.set_cons_succ]
  refine wpAnyH_ready (rs := [18]) (by kernel_rfl) (by simp) ?_
  refine AllReadyH.cons rfl (fun K hK => ?_) AllReadyH.nil
  go_simp
  refine (EqStrs_is (s := ⟨rA, rn, rc, rL⟩) (t := ⟨rA', rn', rc', rL'⟩) H2.out _ (Strs.up HX.out.regions HW1.out) (Strs.up HY.out.regions HW1.out)).mono ?_
  rintro x9 w2 ⟨rfl, hb0⟩
  have HW2 := hide (HW1.out.trans (hb0.mono HW1.out.size))
  clear hb0
  refine hK.out _ _ ⟨HW2.out, hc.out _ HW2.out⟩ (fun hHeld => ?_)
  clear hK K
  try simp only [Act.put, List.setIfInBounds_toArray, List.set_cons_zero, List.set_cons_succ]
  refine takeY (i := 19) (d := some 24) (v := ?_) rfl rfl (by kernel_rfl) (by kernel_rfl) (by kernel_rfl) (fun _ _ _ h => h) (by rfl) ?_ hHeld ?_
  rotate_left
  · intro w9 hS9
    first | (go_simp; done) | (go_simp; with_reducible rfl)
  try simp only [Act.put, List.setIfInBounds_toArray, List.set_cons_zero, List.set_cons_succ]
  refine takeY (i := 20) (d := some 25) (v := ?_) rfl rfl (by kernel_rfl) (by kernel_rfl) (by kernel_rfl) (fun _ _ _ h => h) (by rfl) ?_ hHeld ?_
  rotate_left
  · intro w9 hS9
    first | (go_simp; done) | (go_simp; with_reducible rfl)
  try simp only [Act.put, List.setIfInBounds_toArray, List.set_cons_zero, List.set_cons_succ]
  refine takeY (i := 21) (d := some 26) (v := ?_) rfl rfl (by kernel_rfl) (by kernel_rfl) (by kernel_rfl) (fun _ _ _ h => h) (by rfl) ?_ hHeld ?_
  rotate_left
  · intro w9 hS9
    first | (go_simp; done) | (go_simp; with_reducible rfl)
  try simp only [Act.put, List.setIfInBounds_toArray, List.set_cons_zero, List.set_cons_succ]
  refine takeY (i := 22) (d := some 27) (v := ?_) rfl rfl (by kernel_rfl) (by kernel_rfl) (by kernel_rfl) (fun _ _ _ h => h) (by rfl) ?_ hHeld ?_
  rotate_left
  · intro w9 hS9
    obtain ⟨_, c0, d0, c1, d1, c2, d2, c3, d3, c4, d4, c5, d5, c6, d6⟩ := hS9
    first | (go_simp; done) | (go_simp; with_reducible rfl)
  try simp only [Act.put, List.setIfInBounds_toArray, List.set_cons_zero, List.set_cons_succ]
  refine takeY (i := 24) (d := some 29) (v := ?_) rfl rfl (by kernel_rfl) (by kernel_rfl) (by kernel_rfl) (fun _ _ _ h => h) (by rfl) ?_ hHeld ?_
  rotate_left
  · intro w9 hS9
    first | (go_simp; done) | (go_simp; with_reducible rfl)
  try simp only [Act.put, List.setIfInBounds_toArray, List.set_cons_zero, List.set_cons_succ]
  refine takeY (i := 25) (d := some 30) (v := ?_) rfl rfl (by kernel_rfl) (by kernel_rfl) (by kernel_rfl) (fun _ _ _ h => h) (by rfl) ?_ hHeld ?_
  rotate_left
  · intro w9 hS9
    obtain ⟨_, c0, d0, c1, d1, c2, d2, c3, d3, c4, d4, c5, d5, c6, d6⟩ := hS9
    first | (go_simp; done) | (go_simp; with_reducible rfl)
  try simp only [Act.put, List.setIfInBounds_toArray, List.set_cons_zero, List.set_cons_succ]
  refine wpAnyH_ready (rs := [23]) (by kernel_rfl) (by simp) ?_
  refine AllReadyH.cons rfl (fun K hK => ?_) AllReadyH.nil
  go_simp
  refine (PlainPr_any ⟨oA, on, oc, oL⟩ _).mono ?_
  rintro x9 w3 ⟨rfl, hb0⟩
  have HW3 := hide (HW2.out.trans (hb0.mono HW2.out.size))
  clear hb0
  refine hK.out _ _ ⟨HW3.out, hc.out _ HW3.out⟩ (fun hHeld => ?_)
  clear hK K
  try simp only [Act.put, List.setIfInBounds_toArray, List.set_cons_zero, List.set_cons_succ]
  refine wpAnyH_ready (rs := [26]) (by kernel_rfl) (by simp) ?_
  refine AllReadyH.cons rfl (fun K hK => ?_) AllReadyH.nil
  go_simp
  refine (EqPrs_is (s := ⟨oA, on, oc, oL⟩) (t := ⟨oA', on', oc', oL'⟩) H3.out _ (Prs2.up HX.out.outl HW3.out) (Prs2.up HY.out.outl HW3.out)).mono ?_
  rintro x9 w4 ⟨rfl, hb0⟩
  have HW4 := hide (HW3.out.trans (hb0.mono HW3.out.size))
  clear hb0
  refine hK.out _ _ ⟨HW4.out, hc.out _ HW4.out⟩ (fun hHeld => ?_)
  clear hK K
  try simp only [Act.put, List.setIfInBounds_toArray, List.set_cons_zero, List.set_cons_succ]
  refine takeY (i := 27) (d := some 32) (v := ?_) rfl rfl (by kernel_rfl) (by kernel_rfl) (by kernel_rfl) (fun _ _ _ h => h) (by rfl) ?_ hHeld ?_
  rotate_left
  · intro w9 hS9
    first | (go_simp; done) | (go_simp; with_reducible rfl)
  try simp only [Act.put, List.setIfInBounds_toArray, List.set_cons_zero, List.set_cons_succ]
  refine takeY (i := 28) (d := some 33) (v := ?_) rfl rfl (by kernel_rfl) (by kernel_rfl) (by kernel_rfl) (fun _ _ _ h => h) (by rfl) ?_ hHeld ?_
  rotate_left
  · intro w9 hS9
    first | (go_simp; done) | (go_simp; with_reducible rfl)
  try simp only [Act.put, List.setIfInBounds_toArray, List.set_cons_zero, List.set_cons_succ]
  refine takeN (i := 29) (d := some 34) rfl rfl (by kernel_rfl) (by kernel_rfl) (by kernel_rfl) (fun _ _ _ h => h) (by rfl) hHeld ?_
  try simp only [Act.put, List.setIfInBounds_toArray, List.set_cons_zero, List.set_cons_succ]
  refine takeN (i := 30) (d := some 35) rfl rfl (by kernel_rfl) (by kernel_rfl) (by kernel_rfl) (fun _ _ _ h => h) (by rfl) hHeld ?_
  try simp only [Act.put, List.setIfInBounds_toArray, List.set_cons_zero, List.set_cons_succ]
  refine takeN (i := 31) (d := some 36) rfl rfl (by kernel_rfl) (by kernel_rfl) (by kernel_rfl) (fun _ _ _ h => h) (by rfl) hHeld ?_
  try simp only [Act.put, List.setIfInBounds_toArray, List.set_cons_zero, List.set_cons_succ]
  refine takeN (i := 32) (d := some 37) rfl rfl (by kernel_rfl) (by kernel_rfl) (by kernel_rfl) (fun _ _ _ h => h) (by rfl) hHeld ?_
  try simp only [Act.put, List.setIfInBounds_toArray, List.set_cons_zero, List.set_cons_succ]
  refine takeN (i := 33) (d := some 38) rfl rfl (by kernel_rfl) (by kernel_rfl) (by kernel_rfl) (fun _ _ _ h => h) (by rfl) hHeld ?_
  try simp only [Act.put, List.setIfInBounds_toArray, List.set_cons_zero, List.set_cons_succ]
  refine wpAnyH_ready (rs := [34]) (by kernel_rfl) (by simp) ?_
  refine AllReadyH.cons rfl (fun K hK => ?_) AllReadyH.nil
  go_simp
  refine hK.out _ _ hHeld (fun hHeld => ?_)
  clear hK K
  try simp only [Act.put, List.setIfInBounds_toArray, List.set_cons_zero, List.set_cons_succ]
  refine takeY (i := 35) (d := some 40) (v := ?_) rfl rfl (by kernel_rfl) (by kernel_rfl) (by kernel_rfl) (fun _ _ _ h => h) (by rfl) ?_ hHeld ?_
  rotate_left
  · intro w9 hS9
    first | (go_simp; done) | (go_simp; with_reducible rfl)
  try simp only [Act.put, List.setIfInBounds_toArray, List.set_cons_zero, List.set_cons_succ]
  refine takeY (i := 36) (d := some 41) (v := ?_) rfl rfl (by kernel_rfl) (by kernel_rfl) (by kernel_rfl) (fun _ _ _ h => h) (by rfl) ?_ hHeld ?_
  rotate_left
  · intro w9 hS9
    first | (go_simp; done) | (go_simp; with_reducible rfl)
  try simp only [Act.put, List.setIfInBounds_toArray, List.set_cons_zero, List.set_cons_succ]
  refine takeN (i := 37) (d := some 42) rfl rfl (by kernel_rfl) (by kernel_rfl) (by kernel_rfl) (fun _ _ _ h => h) (by rfl) hHeld ?_
  try simp only [Act.put, List.setIfInBounds_toArray, List.set_cons_zero, List.set_cons_succ]
  refine takeN (i := 38) (d := some 43) rfl rfl (by kernel_rfl) (by kernel_rfl) (by kernel_rfl) (fun _ _ _ h => h) (by rfl) hHeld ?_
  try simp only [Act.put, List.setIfInBounds_toArray, List.set_cons_zero, List.set_cons_succ]
  refine takeN (i := 40) (d := some 45) rfl rfl (by kernel_rfl) (by kernel_rfl) (by kernel_rfl) (fun _ _ _ h => h) (by rfl) hHeld ?_
  try simp only [Act.put, List.setIfInBounds_toArray, List.set_cons_zero, List.set_cons_succ]
  refine takeN (i := 41) (d := some 46) rfl rfl (by kernel_rfl) (by kernel_rfl) (by kernel_rfl) (fun _ _ _ h => h) (by rfl) hHeld ?_
  try simp only [Act.put, List.setIfInBounds_toArray, List.set_cons_zero, List.set_cons_succ]
  refine wpAnyH_ready (rs := [39]) (by kernel_rfl) (by simp) ?_
  refine AllReadyH.cons rfl (fun K hK => ?_) AllReadyH.nil
  go_simp
  refine hK.out _ _ hHeld (fun hHeld => ?_)
  clear hK K
  try simp only [Act.put, List.setIfInBounds_toArray, List.set_cons_zero, List.set_cons_succ]
  refine wpAnyH_ready (rs := [42]) (by kernel_rfl) (by simp) ?_
  refine AllReadyH.cons rfl (fun K hK => ?_) AllReadyH.nil
  go_simp
  refine hK.out _ _ hHeld (fun hHeld => ?_)
  clear hK K
  try simp only [Act.put, List.setIfInBounds_toArray, List.set_cons_zero, List.set_cons_succ]
  refine takeY (i := 43) (d := some 48) (v := ?_) rfl rfl (by kernel_rfl) (by kernel_rfl) (by kernel_rfl) (fun _ _ _ h => h) (by rfl) ?_ hHeld ?_
  rotate_left
  · intro w9 hS9
    first | (go_simp; done) | (go_simp; with_reducible rfl)
  try simp only [Act.put, List.setIfInBounds_toArray, List.set_cons_zero, List.set_cons_succ]
  refine takeY (i := 44) (d := some 49) (v := ?_) rfl rfl (by kernel_rfl) (by kernel_rfl) (by kernel_rfl) (fun _ _ _ h => h) (by rfl) ?_ hHeld ?_
  rotate_left
  · intro w9 hS9
    first | (go_simp; done) | (go_simp; with_reducible rfl)
  try simp only [Act.put, List.setIfInBounds_toArray, List.set_cons_zero, List.set_cons_succ]
  refine takeN (i := 45) (d := some 50) rfl rfl (by kernel_rfl) (by kernel_rfl) (by kernel_rfl) (fun _ _ _ h => h) (by rfl) hHeld ?_
  try simp only [Act.put, List.setIfInBounds_toArray, List.set_cons_zero, List.set_cons_succ]
  refine takeN (i := 46) (d := some 51) rfl rfl (by kernel_rfl) (by kernel_rfl) (by kernel_rfl) (fun _ _ _ h => h) (by rfl) hHeld ?_
  try simp only [Act.put, List.setIfInBounds_toArray, List.set_cons_zero, List.set_cons_succ]
  refine takeN (i := 47) (d := some 52) rfl rfl (by kernel_rfl) (by kernel_rfl) (by kernel_rfl) (fun _ _ _ h => h) (by rfl) hHeld ?_
  try simp only [Act.put, List.setIfInBounds_toArray, List.set_cons_zero, List.set_cons_succ]
  refine takeN (i := 48) (d := some 53) rfl rfl (by kernel_rfl) (by kernel_rfl) (by kernel_rfl) (fun _ _ _ h => h) (by rfl) hHeld ?_
  try simp only [Act.put, List.setIfInBounds_toArray, List.set_cons_zero, List.set_cons_succ]
  refine takeN (i := 49) (d := some 54) rfl rfl (by kernel_rfl) (by kernel_rfl) (by kernel_rfl) (fun _ _ _ h => h) (by rfl) hHeld ?_
  try simp only [Act.put, List.setIfInBounds_toArray, List.set_cons_zero, List.set_cons_succ]
  refine wpAnyH_ready (rs := [50]) (by kernel_rfl) (by simp) ?_
  refine AllReadyH.cons rfl (fun K hK => ?_) AllReadyH.nil
  go_simp
  refine hK.out _ _ hHeld (fun hHeld => ?_)
  clear hK K
  try simp only [Act.put, List.setIfInBounds_toArray, List.set_cons_zero, List.set_cons_succ]
  refine takeY (i := 51) (d := some 56) (v := ?_) rfl rfl (by kernel_rfl) (by kernel_rfl) (by kernel_rfl) (fun _ _ _ h => h) (by rfl) ?_ hHeld ?_
  rotate_left
  · intro w9 hS9
    first | (go_simp; done) | (go_simp; with_reducible rfl)
  try simp only [Act.put, List.setIfInBounds_toArray, List.set_cons_zero, List.set_cons_succ]
  refine takeY (i := 52) (d := some 4) (v := ?_) rfl rfl (by kernel_rfl) (by kernel_rfl) (by kernel_rfl) (fun _ _ _ h => h) (by rfl) ?_ hHeld ?_
  rotate_left
  · intro w9 hS9
    first | (go_simp; done) | (go_simp; with_reducible rfl)
  try simp only [Act.put, List.setIfInBounds_toArray, List.set_cons_zero, List.set_cons_succ]
  refine wpAnyH_done (by kernel_rfl) ?_ _
  go_wp2
  go_ret
  exact ⟨rfl, HB.out.trans (HW4.out.mono HB.out.size)⟩

set_option maxHeartbeats 4000000 in
set_option maxRecDepth 100000 in
theorem eqBd4 (nm : ByteArray) (k : Int) (rA : Option Addr) (rn rc : Nat) (rL : List ByteArray) (oA : Option Addr) (on oc : Nat) (oL : List Pr) (tA : Option Addr) (tn tc : Nat) (tL : List TyW) (lA : Option Addr) (ln lc : Nat) (lL : List LcW) (bA : Option Addr) (bn bc : Nat) (bL : List BkW) (rA' : Option Addr) (rn' rc' : Nat) (rL' : List ByteArray) (oA' : Option Addr) (on' oc' : Nat) (oL' : List Pr) (tA' : Option Addr) (tn' tc' : Nat) (tL' : List TyW) (lA' : Option Addr) (ln' lc' : Nat) (lL' : List LcW) (bA' : Option Addr) (bn' bc' : Nat) (bL' : List BkW) (h2 : eqStrs ⟨rA, rn, rc, rL⟩ ⟨rA', rn', rc', rL'⟩ = true) (h3 : eqPrs ⟨oA, on, oc, oL⟩ ⟨oA', on', oc', oL'⟩ = true) (h4 : eqTys ⟨tA, tn, tc, tL⟩ ⟨tA', tn', tc', tL'⟩ = false)
    (w : World) (hx : OneBd w w.heap.size ⟨nm, ⟨rA, rn, rc, rL⟩, ⟨oA, on, oc, oL⟩, ⟨tA, tn, tc, tL⟩, ⟨lA, ln, lc, lL⟩, k, ⟨bA, bn, bc, bL⟩⟩) (hy : OneBd w w.heap.size ⟨nm, ⟨rA', rn', rc', rL'⟩, ⟨oA', on', oc', oL'⟩, ⟨tA', tn', tc', tL'⟩, ⟨lA', ln', lc', lL'⟩, k, ⟨bA', bn', bc', bL'⟩⟩) :
    Calls Tryz.prog 11 #[aggBd ⟨nm, ⟨rA, rn, rc, rL⟩, ⟨oA, on, oc, oL⟩, ⟨tA, tn, tc, tL⟩, ⟨lA, ln, lc, lL⟩, k, ⟨bA, bn, bc, bL⟩⟩, aggBd ⟨nm, ⟨rA', rn', rc', rL'⟩, ⟨oA', on', oc', oL'⟩, ⟨tA', tn', tc', tL'⟩, ⟨lA', ln', lc', lL'⟩, k, ⟨bA', bn', bc', bL'⟩⟩] w fun e w' => e = .returned (.bool false) ∧ Below w.heap.size w w' := by
  have HB := hide (bx2_below w (cBd ⟨nm, ⟨rA, rn, rc, rL⟩, ⟨oA, on, oc, oL⟩, ⟨tA, tn, tc, tL⟩, ⟨lA, ln, lc, lL⟩, k, ⟨bA, bn, bc, bL⟩⟩) (cBd ⟨nm, ⟨rA', rn', rc', rL'⟩, ⟨oA', on', oc', oL'⟩, ⟨tA', tn', tc', tL'⟩, ⟨lA', ln', lc', lL'⟩, k, ⟨bA', bn', bc', bL'⟩⟩) 28)
  have HX := hide (hx.up HB.out)
  have HY := hide (hy.up HB.out)
  have hs := hide fun (w' : World) (h : Below (bx2 w (cBd ⟨nm, ⟨rA, rn, rc, rL⟩, ⟨oA, on, oc, oL⟩, ⟨tA, tn, tc, tL⟩, ⟨lA, ln, lc, lL⟩, k, ⟨bA, bn, bc, bL⟩⟩) (cBd ⟨nm, ⟨rA', rn', rc', rL'⟩, ⟨oA', on', oc', oL'⟩, ⟨tA', tn', tc', tL'⟩, ⟨lA', ln', lc', lL'⟩, k, ⟨bA', bn', bc', bL'⟩⟩) 28).heap.size (bx2 w (cBd ⟨nm, ⟨rA, rn, rc, rL⟩, ⟨oA, on, oc, oL⟩, ⟨tA, tn, tc, tL⟩, ⟨lA, ln, lc, lL⟩, k, ⟨bA, bn, bc, bL⟩⟩) (cBd ⟨nm, ⟨rA', rn', rc', rL'⟩, ⟨oA', on', oc', oL'⟩, ⟨tA', tn', tc', tL'⟩, ⟨lA', ln', lc', lL'⟩, k, ⟨bA', bn', bc', bL'⟩⟩) 28) w') => bx2_cells h
  have H2 := hide h2
  clear h2
  have H3 := hide h3
  clear h3
  have H4 := hide h4
  clear h4
  clear hx hy
  go_enter Tryz.func11, Tryz.ntmps11
  have hc := hide fun (w' : World) (h : Below (bx2 w (cBd ⟨nm, ⟨rA, rn, rc, rL⟩, ⟨oA, on, oc, oL⟩, ⟨tA, tn, tc, tL⟩, ⟨lA, ln, lc, lL⟩, k, ⟨bA, bn, bc, bL⟩⟩) (cBd ⟨nm, ⟨rA', rn', rc', rL'⟩, ⟨oA', on', oc', oL'⟩, ⟨tA', tn', tc', tL'⟩, ⟨lA', ln', lc', lL'⟩, k, ⟨bA', bn', bc', bL'⟩⟩) 28).heap.size (bx2 w (cBd ⟨nm, ⟨rA, rn, rc, rL⟩, ⟨oA, on, oc, oL⟩, ⟨tA, tn, tc, tL⟩, ⟨lA, ln, lc, lL⟩, k, ⟨bA, bn, bc, bL⟩⟩) (cBd ⟨nm, ⟨rA', rn', rc', rL'⟩, ⟨oA', on', oc', oL'⟩, ⟨tA', tn', tc', tL'⟩, ⟨lA', ln', lc', lL'⟩, k, ⟨bA', bn', bc', bL'⟩⟩) 28) w') => (show w'.cell? ⟨w.heap.size, 0, none⟩ = some (.string nm) ∧ w'.cell? ⟨w.heap.size + 1, 0, none⟩ = some (.string nm) ∧ w'.cell? ⟨w.heap.size, 1, none⟩ = some (.slice rA rn rc) ∧ w'.cell? ⟨w.heap.size + 1, 1, none⟩ = some (.slice rA' rn' rc') ∧ w'.cell? ⟨w.heap.size, 2, none⟩ = some (.slice oA on oc) ∧ w'.cell? ⟨w.heap.size + 1, 2, none⟩ = some (.slice oA' on' oc') ∧ w'.cell? ⟨w.heap.size, 3, none⟩ = some (.slice tA tn tc) ∧ w'.cell? ⟨w.heap.size + 1, 3, none⟩ = some (.slice tA' tn' tc') ∧ w'.cell? ⟨w.heap.size, 4, none⟩ = some (.slice lA ln lc) ∧ w'.cell? ⟨w.heap.size + 1, 4, none⟩ = some (.slice lA' ln' lc') ∧ w'.cell? ⟨w.heap.size, 5, none⟩ = some (.int .i64 k) ∧ w'.cell? ⟨w.heap.size + 1, 5, none⟩ = some (.int .i64 k) ∧ w'.cell? ⟨w.heap.size, 6, none⟩ = some (.slice bA bn bc) ∧ w'.cell? ⟨w.heap.size + 1, 6, none⟩ = some (.slice bA' bn' bc') from ⟨(hs.out w' h 0 _ _ rfl rfl).1, (hs.out w' h 0 _ _ rfl rfl).2, (hs.out w' h 1 _ _ rfl rfl).1, (hs.out w' h 1 _ _ rfl rfl).2, (hs.out w' h 2 _ _ rfl rfl).1, (hs.out w' h 2 _ _ rfl rfl).2, (hs.out w' h 3 _ _ rfl rfl).1, (hs.out w' h 3 _ _ rfl rfl).2, (hs.out w' h 4 _ _ rfl rfl).1, (hs.out w' h 4 _ _ rfl rfl).2, (hs.out w' h 5 _ _ rfl rfl).1, (hs.out w' h 5 _ _ rfl rfl).2, (hs.out w' h 6 _ _ rfl rfl).1, (hs.out w' h 6 _ _ rfl rfl).2⟩)
  have HW0 := hide (show Below (bx2 w (cBd ⟨nm, ⟨rA, rn, rc, rL⟩, ⟨oA, on, oc, oL⟩, ⟨tA, tn, tc, tL⟩, ⟨lA, ln, lc, lL⟩, k, ⟨bA, bn, bc, bL⟩⟩) (cBd ⟨nm, ⟨rA', rn', rc', rL'⟩, ⟨oA', on', oc', oL'⟩, ⟨tA', tn', tc', tL'⟩, ⟨lA', ln', lc', lL'⟩, k, ⟨bA', bn', bc', bL'⟩⟩) 28).heap.size (bx2 w (cBd ⟨nm, ⟨rA, rn, rc, rL⟩, ⟨oA, on, oc, oL⟩, ⟨tA, tn, tc, tL⟩, ⟨lA, ln, lc, lL⟩, k, ⟨bA, bn, bc, bL⟩⟩) (cBd ⟨nm, ⟨rA', rn', rc', rL'⟩, ⟨oA', on', oc', oL'⟩, ⟨tA', tn', tc', tL'⟩, ⟨lA', ln', lc', lL'⟩, k, ⟨bA', bn', bc', bL'⟩⟩) 28) (World.drew (bx2 w (cBd ⟨nm, ⟨rA, rn, rc, rL⟩, ⟨oA, on, oc, oL⟩, ⟨tA, tn, tc, tL⟩, ⟨lA, ln, lc, lL⟩, k, ⟨bA, bn, bc, bL⟩⟩) (cBd ⟨nm, ⟨rA', rn', rc', rL'⟩, ⟨oA', on', oc', oL'⟩, ⟨tA', tn', tc', tL'⟩, ⟨lA', ln', lc', lL'⟩, k, ⟨bA', bn', bc', bL'⟩⟩) 28)) from (Below.refl _ _).drew)
  go_wp2
  change Code.wp _ _ _ _ (bx2 w (cBd ⟨nm, ⟨rA, rn, rc, rL⟩, ⟨oA, on, oc, oL⟩, ⟨tA, tn, tc, tL⟩, ⟨lA, ln, lc, lL⟩, k, ⟨bA, bn, bc, bL⟩⟩) (cBd ⟨nm, ⟨rA', rn', rc', rL'⟩, ⟨oA', on', oc', oL'⟩, ⟨tA', tn', tc', tL'⟩, ⟨lA', ln', lc', lL'⟩, k, ⟨bA', bn', bc', bL'⟩⟩) 28)
  refine wp_region_held_drew (S := (fun w' => Below (bx2 w (cBd ⟨nm, ⟨rA, rn, rc, rL⟩, ⟨oA, on, oc, oL⟩, ⟨tA, tn, tc, tL⟩, ⟨lA, ln, lc, lL⟩, k, ⟨bA, bn, bc, bL⟩⟩) (cBd ⟨nm, ⟨rA', rn', rc', rL'⟩, ⟨oA', on', oc', oL'⟩, ⟨tA', tn', tc', tL'⟩, ⟨lA', ln', lc', lL'⟩, k, ⟨bA', bn', bc', bL'⟩⟩) 28).heap.size (bx2 w (cBd ⟨nm, ⟨rA, rn, rc, rL⟩, ⟨oA, on, oc, oL⟩, ⟨tA, tn, tc, tL⟩, ⟨lA, ln, lc, lL⟩, k, ⟨bA, bn, bc, bL⟩⟩) (cBd ⟨nm, ⟨rA', rn', rc', rL'⟩, ⟨oA', on', oc', oL'⟩, ⟨tA', tn', tc', tL'⟩, ⟨lA', ln', lc', lL'⟩, k, ⟨bA', bn', bc', bL'⟩⟩) 28) w' ∧ w'.cell? ⟨w.heap.size, 0, none⟩ = some (.string nm) ∧ w'.cell? ⟨w.heap.size + 1, 0, none⟩ = some (.string nm) ∧ w'.cell? ⟨w.heap.size, 1, none⟩ = some (.slice rA rn rc) ∧ w'.cell? ⟨w.heap.size + 1, 1, none⟩ = some (.slice rA' rn' rc') ∧ w'.cell? ⟨w.heap.size, 2, none⟩ = some (.slice oA on oc) ∧ w'.cell? ⟨w.heap.size + 1, 2, none⟩ = some (.slice oA' on' oc') ∧ w'.cell? ⟨w.heap.size, 3, none⟩ = some (.slice tA tn tc) ∧ w'.cell? ⟨w.heap.size + 1, 3, none⟩ = some (.slice tA' tn' tc') ∧ w'.cell? ⟨w.heap.size, 4, none⟩ = some (.slice lA ln lc) ∧ w'.cell? ⟨w.heap.size + 1, 4, none⟩ = some (.slice lA' ln' lc') ∧ w'.cell? ⟨w.heap.size, 5, none⟩ = some (.int .i64 k) ∧ w'.cell? ⟨w.heap.size + 1, 5, none⟩ = some (.int .i64 k) ∧ w'.cell? ⟨w.heap.size, 6, none⟩ = some (.slice bA bn bc) ∧ w'.cell? ⟨w.heap.size + 1, 6, none⟩ = some (.slice bA' bn' bc'))) (by kernel_rfl) ⟨HW0.out, hc.out _ HW0.out⟩ (fun hHeld => ?_)
  refine takeY (i := 0) (d := some 5) (v := ?_) rfl rfl (by kernel_rfl) (by kernel_rfl) (by kernel_rfl) (fun _ _ _ h => h) (by rfl) ?_ hHeld ?_
  rotate_left
  · intro w9 hS9
    first | (go_simp; done) | (go_simp; with_reducible rfl)
  try simp only [Act.put, List.setIfInBounds_toArray, List.set_cons_zero, List.set_cons_succ]
  refine takeY (i := 1) (d := some 6) (v := ?_) rfl rfl (by kernel_rfl) (by kernel_rfl) (by kernel_rfl) (fun _ _ _ h => h) (by rfl) ?_ hHeld ?_
  rotate_left
  · intro w9 hS9
    obtain ⟨_, c0, d0, c1, d1, c2, d2, c3, d3, c4, d4, c5, d5, c6, d6⟩ := hS9
    first | (go_simp; done) | (go_simp; with_reducible rfl)
  try simp only [Act.put, List.setIfInBounds_toArray, List.set_cons_zero, List.set_cons_succ]
  refine takeY (i := 2) (d := some 7) (v := ?_) rfl rfl (by kernel_rfl) (by kernel_rfl) (by kernel_rfl) (fun _ _ _ h => h) (by rfl) ?_ hHeld ?_
  rotate_left
  · intro w9 hS9
    first | (go_simp; done) | (go_simp; with_reducible rfl)
  try simp only [Act.put, List.setIfInBounds_toArray, List.set_cons_zero, List.set_cons_succ]
  refine takeY (i := 3) (d := some 8) (v := ?_) rfl rfl (by kernel_rfl) (by kernel_rfl) (by kernel_rfl) (fun _ _ _ h => h) (by rfl) ?_ hHeld ?_
  rotate_left
  · intro w9 hS9
    obtain ⟨_, c0, d0, c1, d1, c2, d2, c3, d3, c4, d4, c5, d5, c6, d6⟩ := hS9
    first | (go_simp; done) | (go_simp; with_reducible rfl)
  try simp only [Act.put, List.setIfInBounds_toArray, List.set_cons_zero, List.set_cons_succ]
  refine takeY (i := 4) (d := some 9) (v := ?_) rfl rfl (by kernel_rfl) (by kernel_rfl) (by kernel_rfl) (fun _ _ _ h => h) (by rfl) ?_ hHeld ?_
  rotate_left
  · intro w9 hS9
    first | (go_simp; done) | (go_simp; with_reducible rfl)
  try simp only [Act.put, List.setIfInBounds_toArray, List.set_cons_zero, List.set_cons_succ]
  refine takeY (i := 5) (d := some 10) (v := ?_) rfl rfl (by kernel_rfl) (by kernel_rfl) (by kernel_rfl) (fun _ _ _ h => h) (by rfl) ?_ hHeld ?_
  rotate_left
  · intro w9 hS9
    first | (go_simp; done) | (go_simp; with_reducible rfl)
  try simp only [Act.put, List.setIfInBounds_toArray, List.set_cons_zero, List.set_cons_succ]
  refine takeY (i := 6) (d := some 11) (v := ?_) rfl rfl (by kernel_rfl) (by kernel_rfl) (by kernel_rfl) (fun _ _ _ h => h) (by rfl) ?_ hHeld ?_
  rotate_left
  · intro w9 hS9
    first | (go_simp; done) | (go_simp; with_reducible rfl)
  try simp only [Act.put, List.setIfInBounds_toArray, List.set_cons_zero, List.set_cons_succ]
  refine takeY (i := 7) (d := some 12) (v := ?_) rfl rfl (by kernel_rfl) (by kernel_rfl) (by kernel_rfl) (fun _ _ _ h => h) (by rfl) ?_ hHeld ?_
  rotate_left
  · intro w9 hS9
    obtain ⟨_, c0, d0, c1, d1, c2, d2, c3, d3, c4, d4, c5, d5, c6, d6⟩ := hS9
    first | (go_simp; done) | (go_simp; with_reducible rfl)
  try simp only [Act.put, List.setIfInBounds_toArray, List.set_cons_zero, List.set_cons_succ]
  refine takeY (i := 8) (d := some 13) (v := ?_) rfl rfl (by kernel_rfl) (by kernel_rfl) (by kernel_rfl) (fun _ _ _ h => h) (by rfl) ?_ hHeld ?_
  rotate_left
  · intro w9 hS9
    first | (go_simp; done) | (go_simp; with_reducible rfl)
  try simp only [Act.put, List.setIfInBounds_toArray, List.set_cons_zero, List.set_cons_succ]
  refine takeY (i := 9) (d := some 14) (v := ?_) rfl rfl (by kernel_rfl) (by kernel_rfl) (by kernel_rfl) (fun _ _ _ h => h) (by rfl) ?_ hHeld ?_
  rotate_left
  · intro w9 hS9
    obtain ⟨_, c0, d0, c1, d1, c2, d2, c3, d3, c4, d4, c5, d5, c6, d6⟩ := hS9
    first | (go_simp; done) | (go_simp; with_reducible rfl)
  try simp only [Act.put, List.setIfInBounds_toArray, List.set_cons_zero, List.set_cons_succ]
  refine takeY (i := 10) (d := some 15) (v := ?_) rfl rfl (by kernel_rfl) (by kernel_rfl) (by kernel_rfl) (fun _ _ _ h => h) (by rfl) ?_ hHeld ?_
  rotate_left
  · intro w9 hS9
    first | (go_simp; done) | (go_simp; with_reducible rfl)
  try simp only [Act.put, List.setIfInBounds_toArray, List.set_cons_zero, List.set_cons_succ]
  refine takeY (i := 11) (d := some 16) (v := ?_) rfl rfl (by kernel_rfl) (by kernel_rfl) (by kernel_rfl) (fun _ _ _ h => h) (by rfl) ?_ hHeld ?_
  rotate_left
  · intro w9 hS9
    first | (go_simp; done) | (go_simp; with_reducible rfl)
  try simp only [Act.put, List.setIfInBounds_toArray, List.set_cons_zero, List.set_cons_succ]
  refine takeY (i := 12) (d := some 17) (v := ?_) rfl rfl (by kernel_rfl) (by kernel_rfl) (by kernel_rfl) (fun _ _ _ h => h) (by rfl) ?_ hHeld ?_
  rotate_left
  · intro w9 hS9
    first | (go_simp; done) | (go_simp; with_reducible rfl)
  try simp only [Act.put, List.setIfInBounds_toArray, List.set_cons_zero, List.set_cons_succ]
  refine takeY (i := 13) (d := some 18) (v := ?_) rfl rfl (by kernel_rfl) (by kernel_rfl) (by kernel_rfl) (fun _ _ _ h => h) (by rfl) ?_ hHeld ?_
  rotate_left
  · intro w9 hS9
    first | (go_simp; done) | (go_simp; with_reducible rfl)
  try simp only [Act.put, List.setIfInBounds_toArray, List.set_cons_zero, List.set_cons_succ]
  refine takeY (i := 14) (d := some 19) (v := ?_) rfl rfl (by kernel_rfl) (by kernel_rfl) (by kernel_rfl) (fun _ _ _ h => h) (by rfl) ?_ hHeld ?_
  rotate_left
  · intro w9 hS9
    obtain ⟨_, c0, d0, c1, d1, c2, d2, c3, d3, c4, d4, c5, d5, c6, d6⟩ := hS9
    first | (go_simp; done) | (go_simp; with_reducible rfl)
  try simp only [Act.put, List.setIfInBounds_toArray, List.set_cons_zero, List.set_cons_succ]
  refine takeY (i := 16) (d := some 21) (v := ?_) rfl rfl (by kernel_rfl) (by kernel_rfl) (by kernel_rfl) (fun _ _ _ h => h) (by rfl) ?_ hHeld ?_
  rotate_left
  · intro w9 hS9
    first | (go_simp; done) | (go_simp; with_reducible rfl)
  try simp only [Act.put, List.setIfInBounds_toArray, List.set_cons_zero, List.set_cons_succ]
  refine takeY (i := 17) (d := some 22) (v := ?_) rfl rfl (by kernel_rfl) (by kernel_rfl) (by kernel_rfl) (fun _ _ _ h => h) (by rfl) ?_ hHeld ?_
  rotate_left
  · intro w9 hS9
    obtain ⟨_, c0, d0, c1, d1, c2, d2, c3, d3, c4, d4, c5, d5, c6, d6⟩ := hS9
    first | (go_simp; done) | (go_simp; with_reducible rfl)
  try simp only [Act.put, List.setIfInBounds_toArray, List.set_cons_zero, List.set_cons_succ]
  refine wpAnyH_ready (rs := [15]) (by kernel_rfl) (by simp) ?_
  refine AllReadyH.cons rfl (fun K hK => ?_) AllReadyH.nil
  go_simp
  refine (PlainStr_any ⟨rA, rn, rc, rL⟩ _).mono ?_
  rintro x9 w1 ⟨rfl, hb0⟩
  have HW1 := hide (HW0.out.trans (hb0.mono HW0.out.size))
  clear hb0
  refine hK.out _ _ ⟨HW1.out, hc.out _ HW1.out⟩ (fun hHeld => ?_)
  clear hK K
  try simp only [Act.put, List.setIfInBounds_toArray, List.set_cons_zero, List.set_cons_succ]
  refine wpAnyH_ready (rs := [18]) (by kernel_rfl) (by simp) ?_
  refine AllReadyH.cons rfl (fun K hK => ?_) AllReadyH.nil
  go_simp
  refine (EqStrs_is (s := ⟨rA, rn, rc, rL⟩) (t := ⟨rA', rn', rc', rL'⟩) H2.out _ (Strs.up HX.out.regions HW1.out) (Strs.up HY.out.regions HW1.out)).mono ?_
  rintro x9 w2 ⟨rfl, hb0⟩
  have HW2 := hide (HW1.out.trans (hb0.mono HW1.out.size))
  clear hb0
  refine hK.out _ _ ⟨HW2.out, hc.out _ HW2.out⟩ (fun hHeld => ?_)
  clear hK K
  try simp only [Act.put, List.setIfInBounds_toArray, List.set_cons_zero, List.set_cons_succ]
  refine takeY (i := 19) (d := some 24) (v := ?_) rfl rfl (by kernel_rfl) (by kernel_rfl) (by kernel_rfl) (fun _ _ _ h => h) (by rfl) ?_ hHeld ?_
  rotate_left
  · intro w9 hS9
    first | (go_simp; done) | (go_simp; with_reducible rfl)
  try simp only [Act.put, List.setIfInBounds_toArray, List.set_cons_zero, List.set_cons_succ]
  refine takeY (i := 20) (d := some 25) (v := ?_) rfl rfl (by kernel_rfl) (by kernel_rfl) (by kernel_rfl) (fun _ _ _ h => h) (by rfl) ?_ hHeld ?_
  rotate_left
  · intro w9 hS9
    first | (go_simp; done) | (go_simp; with_reducible rfl)
  try simp only [Act.put, List.setIfInBounds_toArray, List.set_cons_zero, List.set_cons_succ]
  refine takeY (i := 21) (d := some 26) (v := ?_) rfl rfl (by kernel_rfl) (by kernel_rfl) (by kernel_rfl) (fun _ _ _ h => h) (by rfl) ?_ hHeld ?_
  rotate_left
  · intro w9 hS9
    first | (go_simp; done) | (go_simp; with_reducible rfl)
  try simp only [Act.put, List.setIfInBounds_toArray, List.set_cons_zero, List.set_cons_succ]
  refine takeY (i := 22) (d := some 27) (v := ?_) rfl rfl (by kernel_rfl) (by kernel_rfl) (by kernel_rfl) (fun _ _ _ h => h) (by rfl) ?_ hHeld ?_
  rotate_left
  · intro w9 hS9
    obtain ⟨_, c0, d0, c1, d1, c2, d2, c3, d3, c4, d4, c5, d5, c6, d6⟩ := hS9
    first | (go_simp; done) | (go_simp; with_reducible rfl)
  try simp only [Act.put, List.setIfInBounds_toArray, List.set_cons_zero, List.set_cons_succ]
  refine takeY (i := 24) (d := some 29) (v := ?_) rfl rfl (by kernel_rfl) (by kernel_rfl) (by kernel_rfl) (fun _ _ _ h => h) (by rfl) ?_ hHeld ?_
  rotate_left
  · intro w9 hS9
    first | (go_simp; done) | (go_simp; with_reducible rfl)
  try simp only [Act.put, List.setIfInBounds_toArray, List.set_cons_zero, List.set_cons_succ]
  refine takeY (i := 25) (d := some 30) (v := ?_) rfl rfl (by kernel_rfl) (by kernel_rfl) (by kernel_rfl) (fun _ _ _ h => h) (by rfl) ?_ hHeld ?_
  rotate_left
  · intro w9 hS9
    obtain ⟨_, c0, d0, c1, d1, c2, d2, c3, d3, c4, d4, c5, d5, c6, d6⟩ := hS9
    first | (go_simp; done) | (go_simp; with_reducible rfl)
  try simp only [Act.put, List.setIfInBounds_toArray, List.set_cons_zero, List.set_cons_succ]
  refine wpAnyH_ready (rs := [23]) (by kernel_rfl) (by simp) ?_
  refine AllReadyH.cons rfl (fun K hK => ?_) AllReadyH.nil
  go_simp
  refine (PlainPr_any ⟨oA, on, oc, oL⟩ _).mono ?_
  rintro x9 w3 ⟨rfl, hb0⟩
  have HW3 := hide (HW2.out.trans (hb0.mono HW2.out.size))
  clear hb0
  refine hK.out _ _ ⟨HW3.out, hc.out _ HW3.out⟩ (fun hHeld => ?_)
  clear hK K
  try simp only [Act.put, List.setIfInBounds_toArray, List.set_cons_zero, List.set_cons_succ]
  refine wpAnyH_ready (rs := [26]) (by kernel_rfl) (by simp) ?_
  refine AllReadyH.cons rfl (fun K hK => ?_) AllReadyH.nil
  go_simp
  refine (EqPrs_is (s := ⟨oA, on, oc, oL⟩) (t := ⟨oA', on', oc', oL'⟩) H3.out _ (Prs2.up HX.out.outl HW3.out) (Prs2.up HY.out.outl HW3.out)).mono ?_
  rintro x9 w4 ⟨rfl, hb0⟩
  have HW4 := hide (HW3.out.trans (hb0.mono HW3.out.size))
  clear hb0
  refine hK.out _ _ ⟨HW4.out, hc.out _ HW4.out⟩ (fun hHeld => ?_)
  clear hK K
  try simp only [Act.put, List.setIfInBounds_toArray, List.set_cons_zero, List.set_cons_succ]
  refine takeY (i := 27) (d := some 32) (v := ?_) rfl rfl (by kernel_rfl) (by kernel_rfl) (by kernel_rfl) (fun _ _ _ h => h) (by rfl) ?_ hHeld ?_
  rotate_left
  · intro w9 hS9
    first | (go_simp; done) | (go_simp; with_reducible rfl)
  try simp only [Act.put, List.setIfInBounds_toArray, List.set_cons_zero, List.set_cons_succ]
  refine takeY (i := 28) (d := some 33) (v := ?_) rfl rfl (by kernel_rfl) (by kernel_rfl) (by kernel_rfl) (fun _ _ _ h => h) (by rfl) ?_ hHeld ?_
  rotate_left
  · intro w9 hS9
    first | (go_simp; done) | (go_simp; with_reducible rfl)
  try simp only [Act.put, List.setIfInBounds_toArray, List.set_cons_zero, List.set_cons_succ]
  refine takeY (i := 29) (d := some 34) (v := ?_) rfl rfl (by kernel_rfl) (by kernel_rfl) (by kernel_rfl) (fun _ _ _ h => h) (by rfl) ?_ hHeld ?_
  rotate_left
  · intro w9 hS9
    first | (go_simp; done) | (go_simp; with_reducible rfl)
  try simp only [Act.put, List.setIfInBounds_toArray, List.set_cons_zero, List.set_cons_succ]
  refine takeY (i := 30) (d := some 35) (v := ?_) rfl rfl (by kernel_rfl) (by kernel_rfl) (by kernel_rfl) (fun _ _ _ h => h) (by rfl) ?_ hHeld ?_
  rotate_left
  · intro w9 hS9
    obtain ⟨_, c0, d0, c1, d1, c2, d2, c3, d3, c4, d4, c5, d5, c6, d6⟩ := hS9
    first | (go_simp; done) | (go_simp; with_reducible rfl)
  try simp only [Act.put, List.setIfInBounds_toArray, List.set_cons_zero, List.set_cons_succ]
  refine takeY (i := 31) (d := some 36) (v := ?_) rfl rfl (by kernel_rfl) (by kernel_rfl) (by kernel_rfl) (fun _ _ _ h => h) (by rfl) ?_ hHeld ?_
  rotate_left
  · intro w9 hS9
    first | (go_simp; done) | (go_simp; with_reducible rfl)
  try simp only [Act.put, List.setIfInBounds_toArray, List.set_cons_zero, List.set_cons_succ]
  refine takeY (i := 32) (d := some 37) (v := ?_) rfl rfl (by kernel_rfl) (by kernel_rfl) (by kernel_rfl) (fun _ _ _ h => h) (by rfl) ?_ hHeld ?_
  rotate_left
  · intro w9 hS9
    first | (go_simp; done) | (go_simp; with_reducible rfl)
  try simp only [Act.put, List.setIfInBounds_toArray, List.set_cons_zero, List.set_cons_succ]
  refine takeY (i := 33) (d := some 38) (v := ?_) rfl rfl (by kernel_rfl) (by kernel_rfl) (by kernel_rfl) (fun _ _ _ h => h) (by rfl) ?_ hHeld ?_
  rotate_left
  · intro w9 hS9
    obtain ⟨_, c0, d0, c1, d1, c2, d2, c3, d3, c4, d4, c5, d5, c6, d6⟩ := hS9
    first | (go_simp; done) | (go_simp; with_reducible rfl)
  try simp only [Act.put, List.setIfInBounds_toArray, List.set_cons_zero, List.set_cons_succ]
  refine wpAnyH_ready (rs := [34]) (by kernel_rfl) (by simp) ?_
  refine AllReadyH.cons rfl (fun K hK => ?_) AllReadyH.nil
  go_simp
  refine (EqTys_is (s := ⟨tA, tn, tc, tL⟩) (t := ⟨tA', tn', tc', tL'⟩) H4.out _ (Tys2.up HX.out.types HW4.out) (Tys2.up HY.out.types HW4.out)).mono ?_
  rintro x9 w5 ⟨rfl, hb0⟩
  have HW5 := hide (HW4.out.trans (hb0.mono HW4.out.size))
  clear hb0
  refine hK.out _ _ ⟨HW5.out, hc.out _ HW5.out⟩ (fun hHeld => ?_)
  clear hK K
  try simp only [Act.put, List.setIfInBounds_toArray, List.set_cons_zero, List.set_cons_succ]
  refine takeY (i := 35) (d := some 40) (v := ?_) rfl rfl (by kernel_rfl) (by kernel_rfl) (by kernel_rfl) (fun _ _ _ h => h) (by rfl) ?_ hHeld ?_
  rotate_left
  · intro w9 hS9
    first | (go_simp; done) | (go_simp; with_reducible rfl)
  try simp only [Act.put, List.setIfInBounds_toArray, List.set_cons_zero, List.set_cons_succ]
  refine takeY (i := 36) (d := some 41) (v := ?_) rfl rfl (by kernel_rfl) (by kernel_rfl) (by kernel_rfl) (fun _ _ _ h => h) (by rfl) ?_ hHeld ?_
  rotate_left
  · intro w9 hS9
    first | (go_simp; done) | (go_simp; with_reducible rfl)
  try simp only [Act.put, List.setIfInBounds_toArray, List.set_cons_zero, List.set_cons_succ]
  refine takeN (i := 37) (d := some 42) rfl rfl (by kernel_rfl) (by kernel_rfl) (by kernel_rfl) (fun _ _ _ h => h) (by rfl) hHeld ?_
  try simp only [Act.put, List.setIfInBounds_toArray, List.set_cons_zero, List.set_cons_succ]
  refine takeN (i := 38) (d := some 43) rfl rfl (by kernel_rfl) (by kernel_rfl) (by kernel_rfl) (fun _ _ _ h => h) (by rfl) hHeld ?_
  try simp only [Act.put, List.setIfInBounds_toArray, List.set_cons_zero, List.set_cons_succ]
  refine takeN (i := 40) (d := some 45) rfl rfl (by kernel_rfl) (by kernel_rfl) (by kernel_rfl) (fun _ _ _ h => h) (by rfl) hHeld ?_
  try simp only [Act.put, List.setIfInBounds_toArray, List.set_cons_zero, List.set_cons_succ]
  refine takeN (i := 41) (d := some 46) rfl rfl (by kernel_rfl) (by kernel_rfl) (by kernel_rfl) (fun _ _ _ h => h) (by rfl) hHeld ?_
  try simp only [Act.put, List.setIfInBounds_toArray, List.set_cons_zero, List.set_cons_succ]
  refine wpAnyH_ready (rs := [39]) (by kernel_rfl) (by simp) ?_
  refine AllReadyH.cons rfl (fun K hK => ?_) AllReadyH.nil
  go_simp
  refine hK.out _ _ hHeld (fun hHeld => ?_)
  clear hK K
  try simp only [Act.put, List.setIfInBounds_toArray, List.set_cons_zero, List.set_cons_succ]
  refine wpAnyH_ready (rs := [42]) (by kernel_rfl) (by simp) ?_
  refine AllReadyH.cons rfl (fun K hK => ?_) AllReadyH.nil
  go_simp
  refine hK.out _ _ hHeld (fun hHeld => ?_)
  clear hK K
  try simp only [Act.put, List.setIfInBounds_toArray, List.set_cons_zero, List.set_cons_succ]
  refine takeY (i := 43) (d := some 48) (v := ?_) rfl rfl (by kernel_rfl) (by kernel_rfl) (by kernel_rfl) (fun _ _ _ h => h) (by rfl) ?_ hHeld ?_
  rotate_left
  · intro w9 hS9
    first | (go_simp; done) | (go_simp; with_reducible rfl)
  try simp only [Act.put, List.setIfInBounds_toArray, List.set_cons_zero, List.set_cons_succ]
  refine takeY (i := 44) (d := some 49) (v := ?_) rfl rfl (by kernel_rfl) (by kernel_rfl) (by kernel_rfl) (fun _ _ _ h => h) (by rfl) ?_ hHeld ?_
  rotate_left
  · intro w9 hS9
    first | (go_simp; done) | (go_simp; with_reducible rfl)
  try simp only [Act.put, List.setIfInBounds_toArray, List.set_cons_zero, List.set_cons_succ]
  refine takeN (i := 45) (d := some 50) rfl rfl (by kernel_rfl) (by kernel_rfl) (by kernel_rfl) (fun _ _ _ h => h) (by rfl) hHeld ?_
  try simp only [Act.put, List.setIfInBounds_toArray, List.set_cons_zero, List.set_cons_succ]
  refine takeN (i := 46) (d := some 51) rfl rfl (by kernel_rfl) (by kernel_rfl) (by kernel_rfl) (fun _ _ _ h => h) (by rfl) hHeld ?_
  try simp only [Act.put, List.setIfInBounds_toArray, List.set_cons_zero, List.set_cons_succ]
  refine takeN (i := 47) (d := some 52) rfl rfl (by kernel_rfl) (by kernel_rfl) (by kernel_rfl) (fun _ _ _ h => h) (by rfl) hHeld ?_
  try simp only [Act.put, List.setIfInBounds_toArray, List.set_cons_zero, List.set_cons_succ]
  refine takeN (i := 48) (d := some 53) rfl rfl (by kernel_rfl) (by kernel_rfl) (by kernel_rfl) (fun _ _ _ h => h) (by rfl) hHeld ?_
  try simp only [Act.put, List.setIfInBounds_toArray, List.set_cons_zero, List.set_cons_succ]
  refine takeN (i := 49) (d := some 54) rfl rfl (by kernel_rfl) (by kernel_rfl) (by kernel_rfl) (fun _ _ _ h => h) (by rfl) hHeld ?_
  try simp only [Act.put, List.setIfInBounds_toArray, List.set_cons_zero, List.set_cons_succ]
  refine wpAnyH_ready (rs := [50]) (by kernel_rfl) (by simp) ?_
  refine AllReadyH.cons rfl (fun K hK => ?_) AllReadyH.nil
  go_simp
  refine hK.out _ _ hHeld (fun hHeld => ?_)
  clear hK K
  try simp only [Act.put, List.setIfInBounds_toArray, List.set_cons_zero, List.set_cons_succ]
  refine takeY (i := 51) (d := some 56) (v := ?_) rfl rfl (by kernel_rfl) (by kernel_rfl) (by kernel_rfl) (fun _ _ _ h => h) (by rfl) ?_ hHeld ?_
  rotate_left
  · intro w9 hS9
    first | (go_simp; done) | (go_simp; with_reducible rfl)
  try simp only [Act.put, List.setIfInBounds_toArray, List.set_cons_zero, List.set_cons_succ]
  refine takeY (i := 52) (d := some 4) (v := ?_) rfl rfl (by kernel_rfl) (by kernel_rfl) (by kernel_rfl) (fun _ _ _ h => h) (by rfl) ?_ hHeld ?_
  rotate_left
  · intro w9 hS9
    first | (go_simp; done) | (go_simp; with_reducible rfl)
  try simp only [Act.put, List.setIfInBounds_toArray, List.set_cons_zero, List.set_cons_succ]
  refine wpAnyH_done (by kernel_rfl) ?_ _
  go_wp2
  go_ret
  exact ⟨rfl, HB.out.trans (HW5.out.mono HB.out.size)⟩

set_option maxHeartbeats 4000000 in
set_option maxRecDepth 100000 in
theorem eqBd5 (nm : ByteArray) (k : Int) (rA : Option Addr) (rn rc : Nat) (rL : List ByteArray) (oA : Option Addr) (on oc : Nat) (oL : List Pr) (tA : Option Addr) (tn tc : Nat) (tL : List TyW) (lA : Option Addr) (ln lc : Nat) (lL : List LcW) (bA : Option Addr) (bn bc : Nat) (bL : List BkW) (rA' : Option Addr) (rn' rc' : Nat) (rL' : List ByteArray) (oA' : Option Addr) (on' oc' : Nat) (oL' : List Pr) (tA' : Option Addr) (tn' tc' : Nat) (tL' : List TyW) (lA' : Option Addr) (ln' lc' : Nat) (lL' : List LcW) (bA' : Option Addr) (bn' bc' : Nat) (bL' : List BkW) (h2 : eqStrs ⟨rA, rn, rc, rL⟩ ⟨rA', rn', rc', rL'⟩ = true) (h3 : eqPrs ⟨oA, on, oc, oL⟩ ⟨oA', on', oc', oL'⟩ = true) (h4 : eqTys ⟨tA, tn, tc, tL⟩ ⟨tA', tn', tc', tL'⟩ = true) (h5 : eqLcs ⟨lA, ln, lc, lL⟩ ⟨lA', ln', lc', lL'⟩ = false)
    (w : World) (hx : OneBd w w.heap.size ⟨nm, ⟨rA, rn, rc, rL⟩, ⟨oA, on, oc, oL⟩, ⟨tA, tn, tc, tL⟩, ⟨lA, ln, lc, lL⟩, k, ⟨bA, bn, bc, bL⟩⟩) (hy : OneBd w w.heap.size ⟨nm, ⟨rA', rn', rc', rL'⟩, ⟨oA', on', oc', oL'⟩, ⟨tA', tn', tc', tL'⟩, ⟨lA', ln', lc', lL'⟩, k, ⟨bA', bn', bc', bL'⟩⟩) :
    Calls Tryz.prog 11 #[aggBd ⟨nm, ⟨rA, rn, rc, rL⟩, ⟨oA, on, oc, oL⟩, ⟨tA, tn, tc, tL⟩, ⟨lA, ln, lc, lL⟩, k, ⟨bA, bn, bc, bL⟩⟩, aggBd ⟨nm, ⟨rA', rn', rc', rL'⟩, ⟨oA', on', oc', oL'⟩, ⟨tA', tn', tc', tL'⟩, ⟨lA', ln', lc', lL'⟩, k, ⟨bA', bn', bc', bL'⟩⟩] w fun e w' => e = .returned (.bool false) ∧ Below w.heap.size w w' := by
  have HB := hide (bx2_below w (cBd ⟨nm, ⟨rA, rn, rc, rL⟩, ⟨oA, on, oc, oL⟩, ⟨tA, tn, tc, tL⟩, ⟨lA, ln, lc, lL⟩, k, ⟨bA, bn, bc, bL⟩⟩) (cBd ⟨nm, ⟨rA', rn', rc', rL'⟩, ⟨oA', on', oc', oL'⟩, ⟨tA', tn', tc', tL'⟩, ⟨lA', ln', lc', lL'⟩, k, ⟨bA', bn', bc', bL'⟩⟩) 28)
  have HX := hide (hx.up HB.out)
  have HY := hide (hy.up HB.out)
  have hs := hide fun (w' : World) (h : Below (bx2 w (cBd ⟨nm, ⟨rA, rn, rc, rL⟩, ⟨oA, on, oc, oL⟩, ⟨tA, tn, tc, tL⟩, ⟨lA, ln, lc, lL⟩, k, ⟨bA, bn, bc, bL⟩⟩) (cBd ⟨nm, ⟨rA', rn', rc', rL'⟩, ⟨oA', on', oc', oL'⟩, ⟨tA', tn', tc', tL'⟩, ⟨lA', ln', lc', lL'⟩, k, ⟨bA', bn', bc', bL'⟩⟩) 28).heap.size (bx2 w (cBd ⟨nm, ⟨rA, rn, rc, rL⟩, ⟨oA, on, oc, oL⟩, ⟨tA, tn, tc, tL⟩, ⟨lA, ln, lc, lL⟩, k, ⟨bA, bn, bc, bL⟩⟩) (cBd ⟨nm, ⟨rA', rn', rc', rL'⟩, ⟨oA', on', oc', oL'⟩, ⟨tA', tn', tc', tL'⟩, ⟨lA', ln', lc', lL'⟩, k, ⟨bA', bn', bc', bL'⟩⟩) 28) w') => bx2_cells h
  have H2 := hide h2
  clear h2
  have H3 := hide h3
  clear h3
  have H4 := hide h4
  clear h4
  have H5 := hide h5
  clear h5
  clear hx hy
  go_enter Tryz.func11, Tryz.ntmps11
  have hc := hide fun (w' : World) (h : Below (bx2 w (cBd ⟨nm, ⟨rA, rn, rc, rL⟩, ⟨oA, on, oc, oL⟩, ⟨tA, tn, tc, tL⟩, ⟨lA, ln, lc, lL⟩, k, ⟨bA, bn, bc, bL⟩⟩) (cBd ⟨nm, ⟨rA', rn', rc', rL'⟩, ⟨oA', on', oc', oL'⟩, ⟨tA', tn', tc', tL'⟩, ⟨lA', ln', lc', lL'⟩, k, ⟨bA', bn', bc', bL'⟩⟩) 28).heap.size (bx2 w (cBd ⟨nm, ⟨rA, rn, rc, rL⟩, ⟨oA, on, oc, oL⟩, ⟨tA, tn, tc, tL⟩, ⟨lA, ln, lc, lL⟩, k, ⟨bA, bn, bc, bL⟩⟩) (cBd ⟨nm, ⟨rA', rn', rc', rL'⟩, ⟨oA', on', oc', oL'⟩, ⟨tA', tn', tc', tL'⟩, ⟨lA', ln', lc', lL'⟩, k, ⟨bA', bn', bc', bL'⟩⟩) 28) w') => (show w'.cell? ⟨w.heap.size, 0, none⟩ = some (.string nm) ∧ w'.cell? ⟨w.heap.size + 1, 0, none⟩ = some (.string nm) ∧ w'.cell? ⟨w.heap.size, 1, none⟩ = some (.slice rA rn rc) ∧ w'.cell? ⟨w.heap.size + 1, 1, none⟩ = some (.slice rA' rn' rc') ∧ w'.cell? ⟨w.heap.size, 2, none⟩ = some (.slice oA on oc) ∧ w'.cell? ⟨w.heap.size + 1, 2, none⟩ = some (.slice oA' on' oc') ∧ w'.cell? ⟨w.heap.size, 3, none⟩ = some (.slice tA tn tc) ∧ w'.cell? ⟨w.heap.size + 1, 3, none⟩ = some (.slice tA' tn' tc') ∧ w'.cell? ⟨w.heap.size, 4, none⟩ = some (.slice lA ln lc) ∧ w'.cell? ⟨w.heap.size + 1, 4, none⟩ = some (.slice lA' ln' lc') ∧ w'.cell? ⟨w.heap.size, 5, none⟩ = some (.int .i64 k) ∧ w'.cell? ⟨w.heap.size + 1, 5, none⟩ = some (.int .i64 k) ∧ w'.cell? ⟨w.heap.size, 6, none⟩ = some (.slice bA bn bc) ∧ w'.cell? ⟨w.heap.size + 1, 6, none⟩ = some (.slice bA' bn' bc') from ⟨(hs.out w' h 0 _ _ rfl rfl).1, (hs.out w' h 0 _ _ rfl rfl).2, (hs.out w' h 1 _ _ rfl rfl).1, (hs.out w' h 1 _ _ rfl rfl).2, (hs.out w' h 2 _ _ rfl rfl).1, (hs.out w' h 2 _ _ rfl rfl).2, (hs.out w' h 3 _ _ rfl rfl).1, (hs.out w' h 3 _ _ rfl rfl).2, (hs.out w' h 4 _ _ rfl rfl).1, (hs.out w' h 4 _ _ rfl rfl).2, (hs.out w' h 5 _ _ rfl rfl).1, (hs.out w' h 5 _ _ rfl rfl).2, (hs.out w' h 6 _ _ rfl rfl).1, (hs.out w' h 6 _ _ rfl rfl).2⟩)
  have HW0 := hide (show Below (bx2 w (cBd ⟨nm, ⟨rA, rn, rc, rL⟩, ⟨oA, on, oc, oL⟩, ⟨tA, tn, tc, tL⟩, ⟨lA, ln, lc, lL⟩, k, ⟨bA, bn, bc, bL⟩⟩) (cBd ⟨nm, ⟨rA', rn', rc', rL'⟩, ⟨oA', on', oc', oL'⟩, ⟨tA', tn', tc', tL'⟩, ⟨lA', ln', lc', lL'⟩, k, ⟨bA', bn', bc', bL'⟩⟩) 28).heap.size (bx2 w (cBd ⟨nm, ⟨rA, rn, rc, rL⟩, ⟨oA, on, oc, oL⟩, ⟨tA, tn, tc, tL⟩, ⟨lA, ln, lc, lL⟩, k, ⟨bA, bn, bc, bL⟩⟩) (cBd ⟨nm, ⟨rA', rn', rc', rL'⟩, ⟨oA', on', oc', oL'⟩, ⟨tA', tn', tc', tL'⟩, ⟨lA', ln', lc', lL'⟩, k, ⟨bA', bn', bc', bL'⟩⟩) 28) (World.drew (bx2 w (cBd ⟨nm, ⟨rA, rn, rc, rL⟩, ⟨oA, on, oc, oL⟩, ⟨tA, tn, tc, tL⟩, ⟨lA, ln, lc, lL⟩, k, ⟨bA, bn, bc, bL⟩⟩) (cBd ⟨nm, ⟨rA', rn', rc', rL'⟩, ⟨oA', on', oc', oL'⟩, ⟨tA', tn', tc', tL'⟩, ⟨lA', ln', lc', lL'⟩, k, ⟨bA', bn', bc', bL'⟩⟩) 28)) from (Below.refl _ _).drew)
  go_wp2
  change Code.wp _ _ _ _ (bx2 w (cBd ⟨nm, ⟨rA, rn, rc, rL⟩, ⟨oA, on, oc, oL⟩, ⟨tA, tn, tc, tL⟩, ⟨lA, ln, lc, lL⟩, k, ⟨bA, bn, bc, bL⟩⟩) (cBd ⟨nm, ⟨rA', rn', rc', rL'⟩, ⟨oA', on', oc', oL'⟩, ⟨tA', tn', tc', tL'⟩, ⟨lA', ln', lc', lL'⟩, k, ⟨bA', bn', bc', bL'⟩⟩) 28)
  refine wp_region_held_drew (S := (fun w' => Below (bx2 w (cBd ⟨nm, ⟨rA, rn, rc, rL⟩, ⟨oA, on, oc, oL⟩, ⟨tA, tn, tc, tL⟩, ⟨lA, ln, lc, lL⟩, k, ⟨bA, bn, bc, bL⟩⟩) (cBd ⟨nm, ⟨rA', rn', rc', rL'⟩, ⟨oA', on', oc', oL'⟩, ⟨tA', tn', tc', tL'⟩, ⟨lA', ln', lc', lL'⟩, k, ⟨bA', bn', bc', bL'⟩⟩) 28).heap.size (bx2 w (cBd ⟨nm, ⟨rA, rn, rc, rL⟩, ⟨oA, on, oc, oL⟩, ⟨tA, tn, tc, tL⟩, ⟨lA, ln, lc, lL⟩, k, ⟨bA, bn, bc, bL⟩⟩) (cBd ⟨nm, ⟨rA', rn', rc', rL'⟩, ⟨oA', on', oc', oL'⟩, ⟨tA', tn', tc', tL'⟩, ⟨lA', ln', lc', lL'⟩, k, ⟨bA', bn', bc', bL'⟩⟩) 28) w' ∧ w'.cell? ⟨w.heap.size, 0, none⟩ = some (.string nm) ∧ w'.cell? ⟨w.heap.size + 1, 0, none⟩ = some (.string nm) ∧ w'.cell? ⟨w.heap.size, 1, none⟩ = some (.slice rA rn rc) ∧ w'.cell? ⟨w.heap.size + 1, 1, none⟩ = some (.slice rA' rn' rc') ∧ w'.cell? ⟨w.heap.size, 2, none⟩ = some (.slice oA on oc) ∧ w'.cell? ⟨w.heap.size + 1, 2, none⟩ = some (.slice oA' on' oc') ∧ w'.cell? ⟨w.heap.size, 3, none⟩ = some (.slice tA tn tc) ∧ w'.cell? ⟨w.heap.size + 1, 3, none⟩ = some (.slice tA' tn' tc') ∧ w'.cell? ⟨w.heap.size, 4, none⟩ = some (.slice lA ln lc) ∧ w'.cell? ⟨w.heap.size + 1, 4, none⟩ = some (.slice lA' ln' lc') ∧ w'.cell? ⟨w.heap.size, 5, none⟩ = some (.int .i64 k) ∧ w'.cell? ⟨w.heap.size + 1, 5, none⟩ = some (.int .i64 k) ∧ w'.cell? ⟨w.heap.size, 6, none⟩ = some (.slice bA bn bc) ∧ w'.cell? ⟨w.heap.size + 1, 6, none⟩ = some (.slice bA' bn' bc'))) (by kernel_rfl) ⟨HW0.out, hc.out _ HW0.out⟩ (fun hHeld => ?_)
  refine takeY (i := 0) (d := some 5) (v := ?_) rfl rfl (by kernel_rfl) (by kernel_rfl) (by kernel_rfl) (fun _ _ _ h => h) (by rfl) ?_ hHeld ?_
  rotate_left
  · intro w9 hS9
    first | (go_simp; done) | (go_simp; with_reducible rfl)
  try simp only [Act.put, List.setIfInBounds_toArray, List.set_cons_zero, List.set_cons_succ]
  refine takeY (i := 1) (d := some 6) (v := ?_) rfl rfl (by kernel_rfl) (by kernel_rfl) (by kernel_rfl) (fun _ _ _ h => h) (by rfl) ?_ hHeld ?_
  rotate_left
  · intro w9 hS9
    obtain ⟨_, c0, d0, c1, d1, c2, d2, c3, d3, c4, d4, c5, d5, c6, d6⟩ := hS9
    first | (go_simp; done) | (go_simp; with_reducible rfl)
  try simp only [Act.put, List.setIfInBounds_toArray, List.set_cons_zero, List.set_cons_succ]
  refine takeY (i := 2) (d := some 7) (v := ?_) rfl rfl (by kernel_rfl) (by kernel_rfl) (by kernel_rfl) (fun _ _ _ h => h) (by rfl) ?_ hHeld ?_
  rotate_left
  · intro w9 hS9
    first | (go_simp; done) | (go_simp; with_reducible rfl)
  try simp only [Act.put, List.setIfInBounds_toArray, List.set_cons_zero, List.set_cons_succ]
  refine takeY (i := 3) (d := some 8) (v := ?_) rfl rfl (by kernel_rfl) (by kernel_rfl) (by kernel_rfl) (fun _ _ _ h => h) (by rfl) ?_ hHeld ?_
  rotate_left
  · intro w9 hS9
    obtain ⟨_, c0, d0, c1, d1, c2, d2, c3, d3, c4, d4, c5, d5, c6, d6⟩ := hS9
    first | (go_simp; done) | (go_simp; with_reducible rfl)
  try simp only [Act.put, List.setIfInBounds_toArray, List.set_cons_zero, List.set_cons_succ]
  refine takeY (i := 4) (d := some 9) (v := ?_) rfl rfl (by kernel_rfl) (by kernel_rfl) (by kernel_rfl) (fun _ _ _ h => h) (by rfl) ?_ hHeld ?_
  rotate_left
  · intro w9 hS9
    first | (go_simp; done) | (go_simp; with_reducible rfl)
  try simp only [Act.put, List.setIfInBounds_toArray, List.set_cons_zero, List.set_cons_succ]
  refine takeY (i := 5) (d := some 10) (v := ?_) rfl rfl (by kernel_rfl) (by kernel_rfl) (by kernel_rfl) (fun _ _ _ h => h) (by rfl) ?_ hHeld ?_
  rotate_left
  · intro w9 hS9
    first | (go_simp; done) | (go_simp; with_reducible rfl)
  try simp only [Act.put, List.setIfInBounds_toArray, List.set_cons_zero, List.set_cons_succ]
  refine takeY (i := 6) (d := some 11) (v := ?_) rfl rfl (by kernel_rfl) (by kernel_rfl) (by kernel_rfl) (fun _ _ _ h => h) (by rfl) ?_ hHeld ?_
  rotate_left
  · intro w9 hS9
    first | (go_simp; done) | (go_simp; with_reducible rfl)
  try simp only [Act.put, List.setIfInBounds_toArray, List.set_cons_zero, List.set_cons_succ]
  refine takeY (i := 7) (d := some 12) (v := ?_) rfl rfl (by kernel_rfl) (by kernel_rfl) (by kernel_rfl) (fun _ _ _ h => h) (by rfl) ?_ hHeld ?_
  rotate_left
  · intro w9 hS9
    obtain ⟨_, c0, d0, c1, d1, c2, d2, c3, d3, c4, d4, c5, d5, c6, d6⟩ := hS9
    first | (go_simp; done) | (go_simp; with_reducible rfl)
  try simp only [Act.put, List.setIfInBounds_toArray, List.set_cons_zero, List.set_cons_succ]
  refine takeY (i := 8) (d := some 13) (v := ?_) rfl rfl (by kernel_rfl) (by kernel_rfl) (by kernel_rfl) (fun _ _ _ h => h) (by rfl) ?_ hHeld ?_
  rotate_left
  · intro w9 hS9
    first | (go_simp; done) | (go_simp; with_reducible rfl)
  try simp only [Act.put, List.setIfInBounds_toArray, List.set_cons_zero, List.set_cons_succ]
  refine takeY (i := 9) (d := some 14) (v := ?_) rfl rfl (by kernel_rfl) (by kernel_rfl) (by kernel_rfl) (fun _ _ _ h => h) (by rfl) ?_ hHeld ?_
  rotate_left
  · intro w9 hS9
    obtain ⟨_, c0, d0, c1, d1, c2, d2, c3, d3, c4, d4, c5, d5, c6, d6⟩ := hS9
    first | (go_simp; done) | (go_simp; with_reducible rfl)
  try simp only [Act.put, List.setIfInBounds_toArray, List.set_cons_zero, List.set_cons_succ]
  refine takeY (i := 10) (d := some 15) (v := ?_) rfl rfl (by kernel_rfl) (by kernel_rfl) (by kernel_rfl) (fun _ _ _ h => h) (by rfl) ?_ hHeld ?_
  rotate_left
  · intro w9 hS9
    first | (go_simp; done) | (go_simp; with_reducible rfl)
  try simp only [Act.put, List.setIfInBounds_toArray, List.set_cons_zero, List.set_cons_succ]
  refine takeY (i := 11) (d := some 16) (v := ?_) rfl rfl (by kernel_rfl) (by kernel_rfl) (by kernel_rfl) (fun _ _ _ h => h) (by rfl) ?_ hHeld ?_
  rotate_left
  · intro w9 hS9
    first | (go_simp; done) | (go_simp; with_reducible rfl)
  try simp only [Act.put, List.setIfInBounds_toArray, List.set_cons_zero, List.set_cons_succ]
  refine takeY (i := 12) (d := some 17) (v := ?_) rfl rfl (by kernel_rfl) (by kernel_rfl) (by kernel_rfl) (fun _ _ _ h => h) (by rfl) ?_ hHeld ?_
  rotate_left
  · intro w9 hS9
    first | (go_simp; done) | (go_simp; with_reducible rfl)
  try simp only [Act.put, List.setIfInBounds_toArray, List.set_cons_zero, List.set_cons_succ]
  refine takeY (i := 13) (d := some 18) (v := ?_) rfl rfl (by kernel_rfl) (by kernel_rfl) (by kernel_rfl) (fun _ _ _ h => h) (by rfl) ?_ hHeld ?_
  rotate_left
  · intro w9 hS9
    first | (go_simp; done) | (go_simp; with_reducible rfl)
  try simp only [Act.put, List.setIfInBounds_toArray, List.set_cons_zero, List.set_cons_succ]
  refine takeY (i := 14) (d := some 19) (v := ?_) rfl rfl (by kernel_rfl) (by kernel_rfl) (by kernel_rfl) (fun _ _ _ h => h) (by rfl) ?_ hHeld ?_
  rotate_left
  · intro w9 hS9
    obtain ⟨_, c0, d0, c1, d1, c2, d2, c3, d3, c4, d4, c5, d5, c6, d6⟩ := hS9
    first | (go_simp; done) | (go_simp; with_reducible rfl)
  try simp only [Act.put, List.setIfInBounds_toArray, List.set_cons_zero, List.set_cons_succ]
  refine takeY (i := 16) (d := some 21) (v := ?_) rfl rfl (by kernel_rfl) (by kernel_rfl) (by kernel_rfl) (fun _ _ _ h => h) (by rfl) ?_ hHeld ?_
  rotate_left
  · intro w9 hS9
    first | (go_simp; done) | (go_simp; with_reducible rfl)
  try simp only [Act.put, List.setIfInBounds_toArray, List.set_cons_zero, List.set_cons_succ]
  refine takeY (i := 17) (d := some 22) (v := ?_) rfl rfl (by kernel_rfl) (by kernel_rfl) (by kernel_rfl) (fun _ _ _ h => h) (by rfl) ?_ hHeld ?_
  rotate_left
  · intro w9 hS9
    obtain ⟨_, c0, d0, c1, d1, c2, d2, c3, d3, c4, d4, c5, d5, c6, d6⟩ := hS9
    first | (go_simp; done) | (go_simp; with_reducible rfl)
  try simp only [Act.put, List.setIfInBounds_toArray, List.set_cons_zero, List.set_cons_succ]
  refine wpAnyH_ready (rs := [15]) (by kernel_rfl) (by simp) ?_
  refine AllReadyH.cons rfl (fun K hK => ?_) AllReadyH.nil
  go_simp
  refine (PlainStr_any ⟨rA, rn, rc, rL⟩ _).mono ?_
  rintro x9 w1 ⟨rfl, hb0⟩
  have HW1 := hide (HW0.out.trans (hb0.mono HW0.out.size))
  clear hb0
  refine hK.out _ _ ⟨HW1.out, hc.out _ HW1.out⟩ (fun hHeld => ?_)
  clear hK K
  try simp only [Act.put, List.setIfInBounds_toArray, List.set_cons_zero, List.set_cons_succ]
  refine wpAnyH_ready (rs := [18]) (by kernel_rfl) (by simp) ?_
  refine AllReadyH.cons rfl (fun K hK => ?_) AllReadyH.nil
  go_simp
  refine (EqStrs_is (s := ⟨rA, rn, rc, rL⟩) (t := ⟨rA', rn', rc', rL'⟩) H2.out _ (Strs.up HX.out.regions HW1.out) (Strs.up HY.out.regions HW1.out)).mono ?_
  rintro x9 w2 ⟨rfl, hb0⟩
  have HW2 := hide (HW1.out.trans (hb0.mono HW1.out.size))
  clear hb0
  refine hK.out _ _ ⟨HW2.out, hc.out _ HW2.out⟩ (fun hHeld => ?_)
  clear hK K
  try simp only [Act.put, List.setIfInBounds_toArray, List.set_cons_zero, List.set_cons_succ]
  refine takeY (i := 19) (d := some 24) (v := ?_) rfl rfl (by kernel_rfl) (by kernel_rfl) (by kernel_rfl) (fun _ _ _ h => h) (by rfl) ?_ hHeld ?_
  rotate_left
  · intro w9 hS9
    first | (go_simp; done) | (go_simp; with_reducible rfl)
  try simp only [Act.put, List.setIfInBounds_toArray, List.set_cons_zero, List.set_cons_succ]
  refine takeY (i := 20) (d := some 25) (v := ?_) rfl rfl (by kernel_rfl) (by kernel_rfl) (by kernel_rfl) (fun _ _ _ h => h) (by rfl) ?_ hHeld ?_
  rotate_left
  · intro w9 hS9
    first | (go_simp; done) | (go_simp; with_reducible rfl)
  try simp only [Act.put, List.setIfInBounds_toArray, List.set_cons_zero, List.set_cons_succ]
  refine takeY (i := 21) (d := some 26) (v := ?_) rfl rfl (by kernel_rfl) (by kernel_rfl) (by kernel_rfl) (fun _ _ _ h => h) (by rfl) ?_ hHeld ?_
  rotate_left
  · intro w9 hS9
    first | (go_simp; done) | (go_simp; with_reducible rfl)
  try simp only [Act.put, List.setIfInBounds_toArray, List.set_cons_zero, List.set_cons_succ]
  refine takeY (i := 22) (d := some 27) (v := ?_) rfl rfl (by kernel_rfl) (by kernel_rfl) (by kernel_rfl) (fun _ _ _ h => h) (by rfl) ?_ hHeld ?_
  rotate_left
  · intro w9 hS9
    obtain ⟨_, c0, d0, c1, d1, c2, d2, c3, d3, c4, d4, c5, d5, c6, d6⟩ := hS9
    first | (go_simp; done) | (go_simp; with_reducible rfl)
  try simp only [Act.put, List.setIfInBounds_toArray, List.set_cons_zero, List.set_cons_succ]
  refine takeY (i := 24) (d := some 29) (v := ?_) rfl rfl (by kernel_rfl) (by kernel_rfl) (by kernel_rfl) (fun _ _ _ h => h) (by rfl) ?_ hHeld ?_
  rotate_left
  · intro w9 hS9
    first | (go_simp; done) | (go_simp; with_reducible rfl)
  try simp only [Act.put, List.setIfInBounds_toArray, List.set_cons_zero, List.set_cons_succ]
  refine takeY (i := 25) (d := some 30) (v := ?_) rfl rfl (by kernel_rfl) (by kernel_rfl) (by kernel_rfl) (fun _ _ _ h => h) (by rfl) ?_ hHeld ?_
  rotate_left
  · intro w9 hS9
    obtain ⟨_, c0, d0, c1, d1, c2, d2, c3, d3, c4, d4, c5, d5, c6, d6⟩ := hS9
    first | (go_simp; done) | (go_simp; with_reducible rfl)
  try simp only [Act.put, List.setIfInBounds_toArray, List.set_cons_zero, List.set_cons_succ]
  refine wpAnyH_ready (rs := [23]) (by kernel_rfl) (by simp) ?_
  refine AllReadyH.cons rfl (fun K hK => ?_) AllReadyH.nil
  go_simp
  refine (PlainPr_any ⟨oA, on, oc, oL⟩ _).mono ?_
  rintro x9 w3 ⟨rfl, hb0⟩
  have HW3 := hide (HW2.out.trans (hb0.mono HW2.out.size))
  clear hb0
  refine hK.out _ _ ⟨HW3.out, hc.out _ HW3.out⟩ (fun hHeld => ?_)
  clear hK K
  try simp only [Act.put, List.setIfInBounds_toArray, List.set_cons_zero, List.set_cons_succ]
  refine wpAnyH_ready (rs := [26]) (by kernel_rfl) (by simp) ?_
  refine AllReadyH.cons rfl (fun K hK => ?_) AllReadyH.nil
  go_simp
  refine (EqPrs_is (s := ⟨oA, on, oc, oL⟩) (t := ⟨oA', on', oc', oL'⟩) H3.out _ (Prs2.up HX.out.outl HW3.out) (Prs2.up HY.out.outl HW3.out)).mono ?_
  rintro x9 w4 ⟨rfl, hb0⟩
  have HW4 := hide (HW3.out.trans (hb0.mono HW3.out.size))
  clear hb0
  refine hK.out _ _ ⟨HW4.out, hc.out _ HW4.out⟩ (fun hHeld => ?_)
  clear hK K
  try simp only [Act.put, List.setIfInBounds_toArray, List.set_cons_zero, List.set_cons_succ]
  refine takeY (i := 27) (d := some 32) (v := ?_) rfl rfl (by kernel_rfl) (by kernel_rfl) (by kernel_rfl) (fun _ _ _ h => h) (by rfl) ?_ hHeld ?_
  rotate_left
  · intro w9 hS9
    first | (go_simp; done) | (go_simp; with_reducible rfl)
  try simp only [Act.put, List.setIfInBounds_toArray, List.set_cons_zero, List.set_cons_succ]
  refine takeY (i := 28) (d := some 33) (v := ?_) rfl rfl (by kernel_rfl) (by kernel_rfl) (by kernel_rfl) (fun _ _ _ h => h) (by rfl) ?_ hHeld ?_
  rotate_left
  · intro w9 hS9
    first | (go_simp; done) | (go_simp; with_reducible rfl)
  try simp only [Act.put, List.setIfInBounds_toArray, List.set_cons_zero, List.set_cons_succ]
  refine takeY (i := 29) (d := some 34) (v := ?_) rfl rfl (by kernel_rfl) (by kernel_rfl) (by kernel_rfl) (fun _ _ _ h => h) (by rfl) ?_ hHeld ?_
  rotate_left
  · intro w9 hS9
    first | (go_simp; done) | (go_simp; with_reducible rfl)
  try simp only [Act.put, List.setIfInBounds_toArray, List.set_cons_zero, List.set_cons_succ]
  refine takeY (i := 30) (d := some 35) (v := ?_) rfl rfl (by kernel_rfl) (by kernel_rfl) (by kernel_rfl) (fun _ _ _ h => h) (by rfl) ?_ hHeld ?_
  rotate_left
  · intro w9 hS9
    obtain ⟨_, c0, d0, c1, d1, c2, d2, c3, d3, c4, d4, c5, d5, c6, d6⟩ := hS9
    first | (go_simp; done) | (go_simp; with_reducible rfl)
  try simp only [Act.put, List.setIfInBounds_toArray, List.set_cons_zero, List.set_cons_succ]
  refine takeY (i := 31) (d := some 36) (v := ?_) rfl rfl (by kernel_rfl) (by kernel_rfl) (by kernel_rfl) (fun _ _ _ h => h) (by rfl) ?_ hHeld ?_
  rotate_left
  · intro w9 hS9
    first | (go_simp; done) | (go_simp; with_reducible rfl)
  try simp only [Act.put, List.setIfInBounds_toArray, List.set_cons_zero, List.set_cons_succ]
  refine takeY (i := 32) (d := some 37) (v := ?_) rfl rfl (by kernel_rfl) (by kernel_rfl) (by kernel_rfl) (fun _ _ _ h => h) (by rfl) ?_ hHeld ?_
  rotate_left
  · intro w9 hS9
    first | (go_simp; done) | (go_simp; with_reducible rfl)
  try simp only [Act.put, List.setIfInBounds_toArray, List.set_cons_zero, List.set_cons_succ]
  refine takeY (i := 33) (d := some 38) (v := ?_) rfl rfl (by kernel_rfl) (by kernel_rfl) (by kernel_rfl) (fun _ _ _ h => h) (by rfl) ?_ hHeld ?_
  rotate_left
  · intro w9 hS9
    obtain ⟨_, c0, d0, c1, d1, c2, d2, c3, d3, c4, d4, c5, d5, c6, d6⟩ := hS9
    first | (go_simp; done) | (go_simp; with_reducible rfl)
  try simp only [Act.put, List.setIfInBounds_toArray, List.set_cons_zero, List.set_cons_succ]
  refine wpAnyH_ready (rs := [34]) (by kernel_rfl) (by simp) ?_
  refine AllReadyH.cons rfl (fun K hK => ?_) AllReadyH.nil
  go_simp
  refine (EqTys_is (s := ⟨tA, tn, tc, tL⟩) (t := ⟨tA', tn', tc', tL'⟩) H4.out _ (Tys2.up HX.out.types HW4.out) (Tys2.up HY.out.types HW4.out)).mono ?_
  rintro x9 w5 ⟨rfl, hb0⟩
  have HW5 := hide (HW4.out.trans (hb0.mono HW4.out.size))
  clear hb0
  refine hK.out _ _ ⟨HW5.out, hc.out _ HW5.out⟩ (fun hHeld => ?_)
  clear hK K
  try simp only [Act.put, List.setIfInBounds_toArray, List.set_cons_zero, List.set_cons_succ]
  refine takeY (i := 35) (d := some 40) (v := ?_) rfl rfl (by kernel_rfl) (by kernel_rfl) (by kernel_rfl) (fun _ _ _ h => h) (by rfl) ?_ hHeld ?_
  rotate_left
  · intro w9 hS9
    first | (go_simp; done) | (go_simp; with_reducible rfl)
  try simp only [Act.put, List.setIfInBounds_toArray, List.set_cons_zero, List.set_cons_succ]
  refine takeY (i := 36) (d := some 41) (v := ?_) rfl rfl (by kernel_rfl) (by kernel_rfl) (by kernel_rfl) (fun _ _ _ h => h) (by rfl) ?_ hHeld ?_
  rotate_left
  · intro w9 hS9
    first | (go_simp; done) | (go_simp; with_reducible rfl)
  try simp only [Act.put, List.setIfInBounds_toArray, List.set_cons_zero, List.set_cons_succ]
  refine takeY (i := 37) (d := some 42) (v := ?_) rfl rfl (by kernel_rfl) (by kernel_rfl) (by kernel_rfl) (fun _ _ _ h => h) (by rfl) ?_ hHeld ?_
  rotate_left
  · intro w9 hS9
    first | (go_simp; done) | (go_simp; with_reducible rfl)
  try simp only [Act.put, List.setIfInBounds_toArray, List.set_cons_zero, List.set_cons_succ]
  refine takeY (i := 38) (d := some 43) (v := ?_) rfl rfl (by kernel_rfl) (by kernel_rfl) (by kernel_rfl) (fun _ _ _ h => h) (by rfl) ?_ hHeld ?_
  rotate_left
  · intro w9 hS9
    obtain ⟨_, c0, d0, c1, d1, c2, d2, c3, d3, c4, d4, c5, d5, c6, d6⟩ := hS9
    first | (go_simp; done) | (go_simp; with_reducible rfl)
  try simp only [Act.put, List.setIfInBounds_toArray, List.set_cons_zero, List.set_cons_succ]
  refine takeY (i := 40) (d := some 45) (v := ?_) rfl rfl (by kernel_rfl) (by kernel_rfl) (by kernel_rfl) (fun _ _ _ h => h) (by rfl) ?_ hHeld ?_
  rotate_left
  · intro w9 hS9
    first | (go_simp; done) | (go_simp; with_reducible rfl)
  try simp only [Act.put, List.setIfInBounds_toArray, List.set_cons_zero, List.set_cons_succ]
  refine takeY (i := 41) (d := some 46) (v := ?_) rfl rfl (by kernel_rfl) (by kernel_rfl) (by kernel_rfl) (fun _ _ _ h => h) (by rfl) ?_ hHeld ?_
  rotate_left
  · intro w9 hS9
    obtain ⟨_, c0, d0, c1, d1, c2, d2, c3, d3, c4, d4, c5, d5, c6, d6⟩ := hS9
    first | (go_simp; done) | (go_simp; with_reducible rfl)
  try simp only [Act.put, List.setIfInBounds_toArray, List.set_cons_zero, List.set_cons_succ]
  refine wpAnyH_ready (rs := [39]) (by kernel_rfl) (by simp) ?_
  refine AllReadyH.cons rfl (fun K hK => ?_) AllReadyH.nil
  go_simp
  refine (PlainLc_any ⟨lA, ln, lc, lL⟩ _).mono ?_
  rintro x9 w6 ⟨rfl, hb0⟩
  have HW6 := hide (HW5.out.trans (hb0.mono HW5.out.size))
  clear hb0
  refine hK.out _ _ ⟨HW6.out, hc.out _ HW6.out⟩ (fun hHeld => ?_)
  clear hK K
  try simp only [Act.put, List.setIfInBounds_toArray, List.set_cons_zero, List.set_cons_succ]
  refine wpAnyH_ready (rs := [42]) (by kernel_rfl) (by simp) ?_
  refine AllReadyH.cons rfl (fun K hK => ?_) AllReadyH.nil
  go_simp
  refine (EqLcs_is (s := ⟨lA, ln, lc, lL⟩) (t := ⟨lA', ln', lc', lL'⟩) H5.out _ (Lcs2.up HX.out.locals HW6.out) (Lcs2.up HY.out.locals HW6.out)).mono ?_
  rintro x9 w7 ⟨rfl, hb0⟩
  have HW7 := hide (HW6.out.trans (hb0.mono HW6.out.size))
  clear hb0
  refine hK.out _ _ ⟨HW7.out, hc.out _ HW7.out⟩ (fun hHeld => ?_)
  clear hK K
  try simp only [Act.put, List.setIfInBounds_toArray, List.set_cons_zero, List.set_cons_succ]
  refine takeY (i := 43) (d := some 48) (v := ?_) rfl rfl (by kernel_rfl) (by kernel_rfl) (by kernel_rfl) (fun _ _ _ h => h) (by rfl) ?_ hHeld ?_
  rotate_left
  · intro w9 hS9
    first | (go_simp; done) | (go_simp; with_reducible rfl)
  try simp only [Act.put, List.setIfInBounds_toArray, List.set_cons_zero, List.set_cons_succ]
  refine takeY (i := 44) (d := some 49) (v := ?_) rfl rfl (by kernel_rfl) (by kernel_rfl) (by kernel_rfl) (fun _ _ _ h => h) (by rfl) ?_ hHeld ?_
  rotate_left
  · intro w9 hS9
    first | (go_simp; done) | (go_simp; with_reducible rfl)
  try simp only [Act.put, List.setIfInBounds_toArray, List.set_cons_zero, List.set_cons_succ]
  refine takeN (i := 45) (d := some 50) rfl rfl (by kernel_rfl) (by kernel_rfl) (by kernel_rfl) (fun _ _ _ h => h) (by rfl) hHeld ?_
  try simp only [Act.put, List.setIfInBounds_toArray, List.set_cons_zero, List.set_cons_succ]
  refine takeN (i := 46) (d := some 51) rfl rfl (by kernel_rfl) (by kernel_rfl) (by kernel_rfl) (fun _ _ _ h => h) (by rfl) hHeld ?_
  try simp only [Act.put, List.setIfInBounds_toArray, List.set_cons_zero, List.set_cons_succ]
  refine takeN (i := 47) (d := some 52) rfl rfl (by kernel_rfl) (by kernel_rfl) (by kernel_rfl) (fun _ _ _ h => h) (by rfl) hHeld ?_
  try simp only [Act.put, List.setIfInBounds_toArray, List.set_cons_zero, List.set_cons_succ]
  refine takeN (i := 48) (d := some 53) rfl rfl (by kernel_rfl) (by kernel_rfl) (by kernel_rfl) (fun _ _ _ h => h) (by rfl) hHeld ?_
  try simp only [Act.put, List.setIfInBounds_toArray, List.set_cons_zero, List.set_cons_succ]
  refine takeN (i := 49) (d := some 54) rfl rfl (by kernel_rfl) (by kernel_rfl) (by kernel_rfl) (fun _ _ _ h => h) (by rfl) hHeld ?_
  try simp only [Act.put, List.setIfInBounds_toArray, List.set_cons_zero, List.set_cons_succ]
  refine wpAnyH_ready (rs := [50]) (by kernel_rfl) (by simp) ?_
  refine AllReadyH.cons rfl (fun K hK => ?_) AllReadyH.nil
  go_simp
  refine hK.out _ _ hHeld (fun hHeld => ?_)
  clear hK K
  try simp only [Act.put, List.setIfInBounds_toArray, List.set_cons_zero, List.set_cons_succ]
  refine takeY (i := 51) (d := some 56) (v := ?_) rfl rfl (by kernel_rfl) (by kernel_rfl) (by kernel_rfl) (fun _ _ _ h => h) (by rfl) ?_ hHeld ?_
  rotate_left
  · intro w9 hS9
    first | (go_simp; done) | (go_simp; with_reducible rfl)
  try simp only [Act.put, List.setIfInBounds_toArray, List.set_cons_zero, List.set_cons_succ]
  refine takeY (i := 52) (d := some 4) (v := ?_) rfl rfl (by kernel_rfl) (by kernel_rfl) (by kernel_rfl) (fun _ _ _ h => h) (by rfl) ?_ hHeld ?_
  rotate_left
  · intro w9 hS9
    first | (go_simp; done) | (go_simp; with_reducible rfl)
  try simp only [Act.put, List.setIfInBounds_toArray, List.set_cons_zero, List.set_cons_succ]
  refine wpAnyH_done (by kernel_rfl) ?_ _
  go_wp2
  go_ret
  exact ⟨rfl, HB.out.trans (HW7.out.mono HB.out.size)⟩

set_option maxHeartbeats 4000000 in
set_option maxRecDepth 100000 in
theorem eqBd6 (nm : ByteArray) (k : Int) (rA : Option Addr) (rn rc : Nat) (rL : List ByteArray) (oA : Option Addr) (on oc : Nat) (oL : List Pr) (tA : Option Addr) (tn tc : Nat) (tL : List TyW) (lA : Option Addr) (ln lc : Nat) (lL : List LcW) (bA : Option Addr) (bn bc : Nat) (bL : List BkW) (rA' : Option Addr) (rn' rc' : Nat) (rL' : List ByteArray) (oA' : Option Addr) (on' oc' : Nat) (oL' : List Pr) (tA' : Option Addr) (tn' tc' : Nat) (tL' : List TyW) (lA' : Option Addr) (ln' lc' : Nat) (lL' : List LcW) (bA' : Option Addr) (bn' bc' : Nat) (bL' : List BkW) (h2 : eqStrs ⟨rA, rn, rc, rL⟩ ⟨rA', rn', rc', rL'⟩ = true) (h3 : eqPrs ⟨oA, on, oc, oL⟩ ⟨oA', on', oc', oL'⟩ = true) (h4 : eqTys ⟨tA, tn, tc, tL⟩ ⟨tA', tn', tc', tL'⟩ = true) (h5 : eqLcs ⟨lA, ln, lc, lL⟩ ⟨lA', ln', lc', lL'⟩ = true) (h6 : eqBks ⟨bA, bn, bc, bL⟩ ⟨bA', bn', bc', bL'⟩ = false)
    (w : World) (hx : OneBd w w.heap.size ⟨nm, ⟨rA, rn, rc, rL⟩, ⟨oA, on, oc, oL⟩, ⟨tA, tn, tc, tL⟩, ⟨lA, ln, lc, lL⟩, k, ⟨bA, bn, bc, bL⟩⟩) (hy : OneBd w w.heap.size ⟨nm, ⟨rA', rn', rc', rL'⟩, ⟨oA', on', oc', oL'⟩, ⟨tA', tn', tc', tL'⟩, ⟨lA', ln', lc', lL'⟩, k, ⟨bA', bn', bc', bL'⟩⟩) :
    Calls Tryz.prog 11 #[aggBd ⟨nm, ⟨rA, rn, rc, rL⟩, ⟨oA, on, oc, oL⟩, ⟨tA, tn, tc, tL⟩, ⟨lA, ln, lc, lL⟩, k, ⟨bA, bn, bc, bL⟩⟩, aggBd ⟨nm, ⟨rA', rn', rc', rL'⟩, ⟨oA', on', oc', oL'⟩, ⟨tA', tn', tc', tL'⟩, ⟨lA', ln', lc', lL'⟩, k, ⟨bA', bn', bc', bL'⟩⟩] w fun e w' => e = .returned (.bool false) ∧ Below w.heap.size w w' := by
  have HB := hide (bx2_below w (cBd ⟨nm, ⟨rA, rn, rc, rL⟩, ⟨oA, on, oc, oL⟩, ⟨tA, tn, tc, tL⟩, ⟨lA, ln, lc, lL⟩, k, ⟨bA, bn, bc, bL⟩⟩) (cBd ⟨nm, ⟨rA', rn', rc', rL'⟩, ⟨oA', on', oc', oL'⟩, ⟨tA', tn', tc', tL'⟩, ⟨lA', ln', lc', lL'⟩, k, ⟨bA', bn', bc', bL'⟩⟩) 28)
  have HX := hide (hx.up HB.out)
  have HY := hide (hy.up HB.out)
  have hs := hide fun (w' : World) (h : Below (bx2 w (cBd ⟨nm, ⟨rA, rn, rc, rL⟩, ⟨oA, on, oc, oL⟩, ⟨tA, tn, tc, tL⟩, ⟨lA, ln, lc, lL⟩, k, ⟨bA, bn, bc, bL⟩⟩) (cBd ⟨nm, ⟨rA', rn', rc', rL'⟩, ⟨oA', on', oc', oL'⟩, ⟨tA', tn', tc', tL'⟩, ⟨lA', ln', lc', lL'⟩, k, ⟨bA', bn', bc', bL'⟩⟩) 28).heap.size (bx2 w (cBd ⟨nm, ⟨rA, rn, rc, rL⟩, ⟨oA, on, oc, oL⟩, ⟨tA, tn, tc, tL⟩, ⟨lA, ln, lc, lL⟩, k, ⟨bA, bn, bc, bL⟩⟩) (cBd ⟨nm, ⟨rA', rn', rc', rL'⟩, ⟨oA', on', oc', oL'⟩, ⟨tA', tn', tc', tL'⟩, ⟨lA', ln', lc', lL'⟩, k, ⟨bA', bn', bc', bL'⟩⟩) 28) w') => bx2_cells h
  have H2 := hide h2
  clear h2
  have H3 := hide h3
  clear h3
  have H4 := hide h4
  clear h4
  have H5 := hide h5
  clear h5
  have H6 := hide h6
  clear h6
  clear hx hy
  go_enter Tryz.func11, Tryz.ntmps11
  have hc := hide fun (w' : World) (h : Below (bx2 w (cBd ⟨nm, ⟨rA, rn, rc, rL⟩, ⟨oA, on, oc, oL⟩, ⟨tA, tn, tc, tL⟩, ⟨lA, ln, lc, lL⟩, k, ⟨bA, bn, bc, bL⟩⟩) (cBd ⟨nm, ⟨rA', rn', rc', rL'⟩, ⟨oA', on', oc', oL'⟩, ⟨tA', tn', tc', tL'⟩, ⟨lA', ln', lc', lL'⟩, k, ⟨bA', bn', bc', bL'⟩⟩) 28).heap.size (bx2 w (cBd ⟨nm, ⟨rA, rn, rc, rL⟩, ⟨oA, on, oc, oL⟩, ⟨tA, tn, tc, tL⟩, ⟨lA, ln, lc, lL⟩, k, ⟨bA, bn, bc, bL⟩⟩) (cBd ⟨nm, ⟨rA', rn', rc', rL'⟩, ⟨oA', on', oc', oL'⟩, ⟨tA', tn', tc', tL'⟩, ⟨lA', ln', lc', lL'⟩, k, ⟨bA', bn', bc', bL'⟩⟩) 28) w') => (show w'.cell? ⟨w.heap.size, 0, none⟩ = some (.string nm) ∧ w'.cell? ⟨w.heap.size + 1, 0, none⟩ = some (.string nm) ∧ w'.cell? ⟨w.heap.size, 1, none⟩ = some (.slice rA rn rc) ∧ w'.cell? ⟨w.heap.size + 1, 1, none⟩ = some (.slice rA' rn' rc') ∧ w'.cell? ⟨w.heap.size, 2, none⟩ = some (.slice oA on oc) ∧ w'.cell? ⟨w.heap.size + 1, 2, none⟩ = some (.slice oA' on' oc') ∧ w'.cell? ⟨w.heap.size, 3, none⟩ = some (.slice tA tn tc) ∧ w'.cell? ⟨w.heap.size + 1, 3, none⟩ = some (.slice tA' tn' tc') ∧ w'.cell? ⟨w.heap.size, 4, none⟩ = some (.slice lA ln lc) ∧ w'.cell? ⟨w.heap.size + 1, 4, none⟩ = some (.slice lA' ln' lc') ∧ w'.cell? ⟨w.heap.size, 5, none⟩ = some (.int .i64 k) ∧ w'.cell? ⟨w.heap.size + 1, 5, none⟩ = some (.int .i64 k) ∧ w'.cell? ⟨w.heap.size, 6, none⟩ = some (.slice bA bn bc) ∧ w'.cell? ⟨w.heap.size + 1, 6, none⟩ = some (.slice bA' bn' bc') from ⟨(hs.out w' h 0 _ _ rfl rfl).1, (hs.out w' h 0 _ _ rfl rfl).2, (hs.out w' h 1 _ _ rfl rfl).1, (hs.out w' h 1 _ _ rfl rfl).2, (hs.out w' h 2 _ _ rfl rfl).1, (hs.out w' h 2 _ _ rfl rfl).2, (hs.out w' h 3 _ _ rfl rfl).1, (hs.out w' h 3 _ _ rfl rfl).2, (hs.out w' h 4 _ _ rfl rfl).1, (hs.out w' h 4 _ _ rfl rfl).2, (hs.out w' h 5 _ _ rfl rfl).1, (hs.out w' h 5 _ _ rfl rfl).2, (hs.out w' h 6 _ _ rfl rfl).1, (hs.out w' h 6 _ _ rfl rfl).2⟩)
  have HW0 := hide (show Below (bx2 w (cBd ⟨nm, ⟨rA, rn, rc, rL⟩, ⟨oA, on, oc, oL⟩, ⟨tA, tn, tc, tL⟩, ⟨lA, ln, lc, lL⟩, k, ⟨bA, bn, bc, bL⟩⟩) (cBd ⟨nm, ⟨rA', rn', rc', rL'⟩, ⟨oA', on', oc', oL'⟩, ⟨tA', tn', tc', tL'⟩, ⟨lA', ln', lc', lL'⟩, k, ⟨bA', bn', bc', bL'⟩⟩) 28).heap.size (bx2 w (cBd ⟨nm, ⟨rA, rn, rc, rL⟩, ⟨oA, on, oc, oL⟩, ⟨tA, tn, tc, tL⟩, ⟨lA, ln, lc, lL⟩, k, ⟨bA, bn, bc, bL⟩⟩) (cBd ⟨nm, ⟨rA', rn', rc', rL'⟩, ⟨oA', on', oc', oL'⟩, ⟨tA', tn', tc', tL'⟩, ⟨lA', ln', lc', lL'⟩, k, ⟨bA', bn', bc', bL'⟩⟩) 28) (World.drew (bx2 w (cBd ⟨nm, ⟨rA, rn, rc, rL⟩, ⟨oA, on, oc, oL⟩, ⟨tA, tn, tc, tL⟩, ⟨lA, ln, lc, lL⟩, k, ⟨bA, bn, bc, bL⟩⟩) (cBd ⟨nm, ⟨rA', rn', rc', rL'⟩, ⟨oA', on', oc', oL'⟩, ⟨tA', tn', tc', tL'⟩, ⟨lA', ln', lc', lL'⟩, k, ⟨bA', bn', bc', bL'⟩⟩) 28)) from (Below.refl _ _).drew)
  go_wp2
  change Code.wp _ _ _ _ (bx2 w (cBd ⟨nm, ⟨rA, rn, rc, rL⟩, ⟨oA, on, oc, oL⟩, ⟨tA, tn, tc, tL⟩, ⟨lA, ln, lc, lL⟩, k, ⟨bA, bn, bc, bL⟩⟩) (cBd ⟨nm, ⟨rA', rn', rc', rL'⟩, ⟨oA', on', oc', oL'⟩, ⟨tA', tn', tc', tL'⟩, ⟨lA', ln', lc', lL'⟩, k, ⟨bA', bn', bc', bL'⟩⟩) 28)
  refine wp_region_held_drew (S := (fun w' => Below (bx2 w (cBd ⟨nm, ⟨rA, rn, rc, rL⟩, ⟨oA, on, oc, oL⟩, ⟨tA, tn, tc, tL⟩, ⟨lA, ln, lc, lL⟩, k, ⟨bA, bn, bc, bL⟩⟩) (cBd ⟨nm, ⟨rA', rn', rc', rL'⟩, ⟨oA', on', oc', oL'⟩, ⟨tA', tn', tc', tL'⟩, ⟨lA', ln', lc', lL'⟩, k, ⟨bA', bn', bc', bL'⟩⟩) 28).heap.size (bx2 w (cBd ⟨nm, ⟨rA, rn, rc, rL⟩, ⟨oA, on, oc, oL⟩, ⟨tA, tn, tc, tL⟩, ⟨lA, ln, lc, lL⟩, k, ⟨bA, bn, bc, bL⟩⟩) (cBd ⟨nm, ⟨rA', rn', rc', rL'⟩, ⟨oA', on', oc', oL'⟩, ⟨tA', tn', tc', tL'⟩, ⟨lA', ln', lc', lL'⟩, k, ⟨bA', bn', bc', bL'⟩⟩) 28) w' ∧ w'.cell? ⟨w.heap.size, 0, none⟩ = some (.string nm) ∧ w'.cell? ⟨w.heap.size + 1, 0, none⟩ = some (.string nm) ∧ w'.cell? ⟨w.heap.size, 1, none⟩ = some (.slice rA rn rc) ∧ w'.cell? ⟨w.heap.size + 1, 1, none⟩ = some (.slice rA' rn' rc') ∧ w'.cell? ⟨w.heap.size, 2, none⟩ = some (.slice oA on oc) ∧ w'.cell? ⟨w.heap.size + 1, 2, none⟩ = some (.slice oA' on' oc') ∧ w'.cell? ⟨w.heap.size, 3, none⟩ = some (.slice tA tn tc) ∧ w'.cell? ⟨w.heap.size + 1, 3, none⟩ = some (.slice tA' tn' tc') ∧ w'.cell? ⟨w.heap.size, 4, none⟩ = some (.slice lA ln lc) ∧ w'.cell? ⟨w.heap.size + 1, 4, none⟩ = some (.slice lA' ln' lc') ∧ w'.cell? ⟨w.heap.size, 5, none⟩ = some (.int .i64 k) ∧ w'.cell? ⟨w.heap.size + 1, 5, none⟩ = some (.int .i64 k) ∧ w'.cell? ⟨w.heap.size, 6, none⟩ = some (.slice bA bn bc) ∧ w'.cell? ⟨w.heap.size + 1, 6, none⟩ = some (.slice bA' bn' bc'))) (by kernel_rfl) ⟨HW0.out, hc.out _ HW0.out⟩ (fun hHeld => ?_)
  refine takeY (i := 0) (d := some 5) (v := ?_) rfl rfl (by kernel_rfl) (by kernel_rfl) (by kernel_rfl) (fun _ _ _ h => h) (by rfl) ?_ hHeld ?_
  rotate_left
  · intro w9 hS9
    first | (go_simp; done) | (go_simp; with_reducible rfl)
  try simp only [Act.put, List.setIfInBounds_toArray, List.set_cons_zero, List.set_cons_succ]
  refine takeY (i := 1) (d := some 6) (v := ?_) rfl rfl (by kernel_rfl) (by kernel_rfl) (by kernel_rfl) (fun _ _ _ h => h) (by rfl) ?_ hHeld ?_
  rotate_left
  · intro w9 hS9
    obtain ⟨_, c0, d0, c1, d1, c2, d2, c3, d3, c4, d4, c5, d5, c6, d6⟩ := hS9
    first | (go_simp; done) | (go_simp; with_reducible rfl)
  try simp only [Act.put, List.setIfInBounds_toArray, List.set_cons_zero, List.set_cons_succ]
  refine takeY (i := 2) (d := some 7) (v := ?_) rfl rfl (by kernel_rfl) (by kernel_rfl) (by kernel_rfl) (fun _ _ _ h => h) (by rfl) ?_ hHeld ?_
  rotate_left
  · intro w9 hS9
    first | (go_simp; done) | (go_simp; with_reducible rfl)
  try simp only [Act.put, List.setIfInBounds_toArray, List.set_cons_zero, List.set_cons_succ]
  refine takeY (i := 3) (d := some 8) (v := ?_) rfl rfl (by kernel_rfl) (by kernel_rfl) (by kernel_rfl) (fun _ _ _ h => h) (by rfl) ?_ hHeld ?_
  rotate_left
  · intro w9 hS9
    obtain ⟨_, c0, d0, c1, d1, c2, d2, c3, d3, c4, d4, c5, d5, c6, d6⟩ := hS9
    first | (go_simp; done) | (go_simp; with_reducible rfl)
  try simp only [Act.put, List.setIfInBounds_toArray, List.set_cons_zero, List.set_cons_succ]
  refine takeY (i := 4) (d := some 9) (v := ?_) rfl rfl (by kernel_rfl) (by kernel_rfl) (by kernel_rfl) (fun _ _ _ h => h) (by rfl) ?_ hHeld ?_
  rotate_left
  · intro w9 hS9
    first | (go_simp; done) | (go_simp; with_reducible rfl)
  try simp only [Act.put, List.setIfInBounds_toArray, List.set_cons_zero, List.set_cons_succ]
  refine takeY (i := 5) (d := some 10) (v := ?_) rfl rfl (by kernel_rfl) (by kernel_rfl) (by kernel_rfl) (fun _ _ _ h => h) (by rfl) ?_ hHeld ?_
  rotate_left
  · intro w9 hS9
    first | (go_simp; done) | (go_simp; with_reducible rfl)
  try simp only [Act.put, List.setIfInBounds_toArray, List.set_cons_zero, List.set_cons_succ]
  refine takeY (i := 6) (d := some 11) (v := ?_) rfl rfl (by kernel_rfl) (by kernel_rfl) (by kernel_rfl) (fun _ _ _ h => h) (by rfl) ?_ hHeld ?_
  rotate_left
  · intro w9 hS9
    first | (go_simp; done) | (go_simp; with_reducible rfl)
  try simp only [Act.put, List.setIfInBounds_toArray, List.set_cons_zero, List.set_cons_succ]
  refine takeY (i := 7) (d := some 12) (v := ?_) rfl rfl (by kernel_rfl) (by kernel_rfl) (by kernel_rfl) (fun _ _ _ h => h) (by rfl) ?_ hHeld ?_
  rotate_left
  · intro w9 hS9
    obtain ⟨_, c0, d0, c1, d1, c2, d2, c3, d3, c4, d4, c5, d5, c6, d6⟩ := hS9
    first | (go_simp; done) | (go_simp; with_reducible rfl)
  try simp only [Act.put, List.setIfInBounds_toArray, List.set_cons_zero, List.set_cons_succ]
  refine takeY (i := 8) (d := some 13) (v := ?_) rfl rfl (by kernel_rfl) (by kernel_rfl) (by kernel_rfl) (fun _ _ _ h => h) (by rfl) ?_ hHeld ?_
  rotate_left
  · intro w9 hS9
    first | (go_simp; done) | (go_simp; with_reducible rfl)
  try simp only [Act.put, List.setIfInBounds_toArray, List.set_cons_zero, List.set_cons_succ]
  refine takeY (i := 9) (d := some 14) (v := ?_) rfl rfl (by kernel_rfl) (by kernel_rfl) (by kernel_rfl) (fun _ _ _ h => h) (by rfl) ?_ hHeld ?_
  rotate_left
  · intro w9 hS9
    obtain ⟨_, c0, d0, c1, d1, c2, d2, c3, d3, c4, d4, c5, d5, c6, d6⟩ := hS9
    first | (go_simp; done) | (go_simp; with_reducible rfl)
  try simp only [Act.put, List.setIfInBounds_toArray, List.set_cons_zero, List.set_cons_succ]
  refine takeY (i := 10) (d := some 15) (v := ?_) rfl rfl (by kernel_rfl) (by kernel_rfl) (by kernel_rfl) (fun _ _ _ h => h) (by rfl) ?_ hHeld ?_
  rotate_left
  · intro w9 hS9
    first | (go_simp; done) | (go_simp; with_reducible rfl)
  try simp only [Act.put, List.setIfInBounds_toArray, List.set_cons_zero, List.set_cons_succ]
  refine takeY (i := 11) (d := some 16) (v := ?_) rfl rfl (by kernel_rfl) (by kernel_rfl) (by kernel_rfl) (fun _ _ _ h => h) (by rfl) ?_ hHeld ?_
  rotate_left
  · intro w9 hS9
    first | (go_simp; done) | (go_simp; with_reducible rfl)
  try simp only [Act.put, List.setIfInBounds_toArray, List.set_cons_zero, List.set_cons_succ]
  refine takeY (i := 12) (d := some 17) (v := ?_) rfl rfl (by kernel_rfl) (by kernel_rfl) (by kernel_rfl) (fun _ _ _ h => h) (by rfl) ?_ hHeld ?_
  rotate_left
  · intro w9 hS9
    first | (go_simp; done) | (go_simp; with_reducible rfl)
  try simp only [Act.put, List.setIfInBounds_toArray, List.set_cons_zero, List.set_cons_succ]
  refine takeY (i := 13) (d := some 18) (v := ?_) rfl rfl (by kernel_rfl) (by kernel_rfl) (by kernel_rfl) (fun _ _ _ h => h) (by rfl) ?_ hHeld ?_
  rotate_left
  · intro w9 hS9
    first | (go_simp; done) | (go_simp; with_reducible rfl)
  try simp only [Act.put, List.setIfInBounds_toArray, List.set_cons_zero, List.set_cons_succ]
  refine takeY (i := 14) (d := some 19) (v := ?_) rfl rfl (by kernel_rfl) (by kernel_rfl) (by kernel_rfl) (fun _ _ _ h => h) (by rfl) ?_ hHeld ?_
  rotate_left
  · intro w9 hS9
    obtain ⟨_, c0, d0, c1, d1, c2, d2, c3, d3, c4, d4, c5, d5, c6, d6⟩ := hS9
    first | (go_simp; done) | (go_simp; with_reducible rfl)
  try simp only [Act.put, List.setIfInBounds_toArray, List.set_cons_zero, List.set_cons_succ]
  refine takeY (i := 16) (d := some 21) (v := ?_) rfl rfl (by kernel_rfl) (by kernel_rfl) (by kernel_rfl) (fun _ _ _ h => h) (by rfl) ?_ hHeld ?_
  rotate_left
  · intro w9 hS9
    first | (go_simp; done) | (go_simp; with_reducible rfl)
  try simp only [Act.put, List.setIfInBounds_toArray, List.set_cons_zero, List.set_cons_succ]
  refine takeY (i := 17) (d := some 22) (v := ?_) rfl rfl (by kernel_rfl) (by kernel_rfl) (by kernel_rfl) (fun _ _ _ h => h) (by rfl) ?_ hHeld ?_
  rotate_left
  · intro w9 hS9
    obtain ⟨_, c0, d0, c1, d1, c2, d2, c3, d3, c4, d4, c5, d5, c6, d6⟩ := hS9
    first | (go_simp; done) | (go_simp; with_reducible rfl)
  try simp only [Act.put, List.setIfInBounds_toArray, List.set_cons_zero, List.set_cons_succ]
  refine wpAnyH_ready (rs := [15]) (by kernel_rfl) (by simp) ?_
  refine AllReadyH.cons rfl (fun K hK => ?_) AllReadyH.nil
  go_simp
  refine (PlainStr_any ⟨rA, rn, rc, rL⟩ _).mono ?_
  rintro x9 w1 ⟨rfl, hb0⟩
  have HW1 := hide (HW0.out.trans (hb0.mono HW0.out.size))
  clear hb0
  refine hK.out _ _ ⟨HW1.out, hc.out _ HW1.out⟩ (fun hHeld => ?_)
  clear hK K
  try simp only [Act.put, List.setIfInBounds_toArray, List.set_cons_zero, List.set_cons_succ]
  refine wpAnyH_ready (rs := [18]) (by kernel_rfl) (by simp) ?_
  refine AllReadyH.cons rfl (fun K hK => ?_) AllReadyH.nil
  go_simp
  refine (EqStrs_is (s := ⟨rA, rn, rc, rL⟩) (t := ⟨rA', rn', rc', rL'⟩) H2.out _ (Strs.up HX.out.regions HW1.out) (Strs.up HY.out.regions HW1.out)).mono ?_
  rintro x9 w2 ⟨rfl, hb0⟩
  have HW2 := hide (HW1.out.trans (hb0.mono HW1.out.size))
  clear hb0
  refine hK.out _ _ ⟨HW2.out, hc.out _ HW2.out⟩ (fun hHeld => ?_)
  clear hK K
  try simp only [Act.put, List.setIfInBounds_toArray, List.set_cons_zero, List.set_cons_succ]
  refine takeY (i := 19) (d := some 24) (v := ?_) rfl rfl (by kernel_rfl) (by kernel_rfl) (by kernel_rfl) (fun _ _ _ h => h) (by rfl) ?_ hHeld ?_
  rotate_left
  · intro w9 hS9
    first | (go_simp; done) | (go_simp; with_reducible rfl)
  try simp only [Act.put, List.setIfInBounds_toArray, List.set_cons_zero, List.set_cons_succ]
  refine takeY (i := 20) (d := some 25) (v := ?_) rfl rfl (by kernel_rfl) (by kernel_rfl) (by kernel_rfl) (fun _ _ _ h => h) (by rfl) ?_ hHeld ?_
  rotate_left
  · intro w9 hS9
    first | (go_simp; done) | (go_simp; with_reducible rfl)
  try simp only [Act.put, List.setIfInBounds_toArray, List.set_cons_zero, List.set_cons_succ]
  refine takeY (i := 21) (d := some 26) (v := ?_) rfl rfl (by kernel_rfl) (by kernel_rfl) (by kernel_rfl) (fun _ _ _ h => h) (by rfl) ?_ hHeld ?_
  rotate_left
  · intro w9 hS9
    first | (go_simp; done) | (go_simp; with_reducible rfl)
  try simp only [Act.put, List.setIfInBounds_toArray, List.set_cons_zero, List.set_cons_succ]
  refine takeY (i := 22) (d := some 27) (v := ?_) rfl rfl (by kernel_rfl) (by kernel_rfl) (by kernel_rfl) (fun _ _ _ h => h) (by rfl) ?_ hHeld ?_
  rotate_left
  · intro w9 hS9
    obtain ⟨_, c0, d0, c1, d1, c2, d2, c3, d3, c4, d4, c5, d5, c6, d6⟩ := hS9
    first | (go_simp; done) | (go_simp; with_reducible rfl)
  try simp only [Act.put, List.setIfInBounds_toArray, List.set_cons_zero, List.set_cons_succ]
  refine takeY (i := 24) (d := some 29) (v := ?_) rfl rfl (by kernel_rfl) (by kernel_rfl) (by kernel_rfl) (fun _ _ _ h => h) (by rfl) ?_ hHeld ?_
  rotate_left
  · intro w9 hS9
    first | (go_simp; done) | (go_simp; with_reducible rfl)
  try simp only [Act.put, List.setIfInBounds_toArray, List.set_cons_zero, List.set_cons_succ]
  refine takeY (i := 25) (d := some 30) (v := ?_) rfl rfl (by kernel_rfl) (by kernel_rfl) (by kernel_rfl) (fun _ _ _ h => h) (by rfl) ?_ hHeld ?_
  rotate_left
  · intro w9 hS9
    obtain ⟨_, c0, d0, c1, d1, c2, d2, c3, d3, c4, d4, c5, d5, c6, d6⟩ := hS9
    first | (go_simp; done) | (go_simp; with_reducible rfl)
  try simp only [Act.put, List.setIfInBounds_toArray, List.set_cons_zero, List.set_cons_succ]
  refine wpAnyH_ready (rs := [23]) (by kernel_rfl) (by simp) ?_
  refine AllReadyH.cons rfl (fun K hK => ?_) AllReadyH.nil
  go_simp
  refine (PlainPr_any ⟨oA, on, oc, oL⟩ _).mono ?_
  rintro x9 w3 ⟨rfl, hb0⟩
  have HW3 := hide (HW2.out.trans (hb0.mono HW2.out.size))
  clear hb0
  refine hK.out _ _ ⟨HW3.out, hc.out _ HW3.out⟩ (fun hHeld => ?_)
  clear hK K
  try simp only [Act.put, List.setIfInBounds_toArray, List.set_cons_zero, List.set_cons_succ]
  refine wpAnyH_ready (rs := [26]) (by kernel_rfl) (by simp) ?_
  refine AllReadyH.cons rfl (fun K hK => ?_) AllReadyH.nil
  go_simp
  refine (EqPrs_is (s := ⟨oA, on, oc, oL⟩) (t := ⟨oA', on', oc', oL'⟩) H3.out _ (Prs2.up HX.out.outl HW3.out) (Prs2.up HY.out.outl HW3.out)).mono ?_
  rintro x9 w4 ⟨rfl, hb0⟩
  have HW4 := hide (HW3.out.trans (hb0.mono HW3.out.size))
  clear hb0
  refine hK.out _ _ ⟨HW4.out, hc.out _ HW4.out⟩ (fun hHeld => ?_)
  clear hK K
  try simp only [Act.put, List.setIfInBounds_toArray, List.set_cons_zero, List.set_cons_succ]
  refine takeY (i := 27) (d := some 32) (v := ?_) rfl rfl (by kernel_rfl) (by kernel_rfl) (by kernel_rfl) (fun _ _ _ h => h) (by rfl) ?_ hHeld ?_
  rotate_left
  · intro w9 hS9
    first | (go_simp; done) | (go_simp; with_reducible rfl)
  try simp only [Act.put, List.setIfInBounds_toArray, List.set_cons_zero, List.set_cons_succ]
  refine takeY (i := 28) (d := some 33) (v := ?_) rfl rfl (by kernel_rfl) (by kernel_rfl) (by kernel_rfl) (fun _ _ _ h => h) (by rfl) ?_ hHeld ?_
  rotate_left
  · intro w9 hS9
    first | (go_simp; done) | (go_simp; with_reducible rfl)
  try simp only [Act.put, List.setIfInBounds_toArray, List.set_cons_zero, List.set_cons_succ]
  refine takeY (i := 29) (d := some 34) (v := ?_) rfl rfl (by kernel_rfl) (by kernel_rfl) (by kernel_rfl) (fun _ _ _ h => h) (by rfl) ?_ hHeld ?_
  rotate_left
  · intro w9 hS9
    first | (go_simp; done) | (go_simp; with_reducible rfl)
  try simp only [Act.put, List.setIfInBounds_toArray, List.set_cons_zero, List.set_cons_succ]
  refine takeY (i := 30) (d := some 35) (v := ?_) rfl rfl (by kernel_rfl) (by kernel_rfl) (by kernel_rfl) (fun _ _ _ h => h) (by rfl) ?_ hHeld ?_
  rotate_left
  · intro w9 hS9
    obtain ⟨_, c0, d0, c1, d1, c2, d2, c3, d3, c4, d4, c5, d5, c6, d6⟩ := hS9
    first | (go_simp; done) | (go_simp; with_reducible rfl)
  try simp only [Act.put, List.setIfInBounds_toArray, List.set_cons_zero, List.set_cons_succ]
  refine takeY (i := 31) (d := some 36) (v := ?_) rfl rfl (by kernel_rfl) (by kernel_rfl) (by kernel_rfl) (fun _ _ _ h => h) (by rfl) ?_ hHeld ?_
  rotate_left
  · intro w9 hS9
    first | (go_simp; done) | (go_simp; with_reducible rfl)
  try simp only [Act.put, List.setIfInBounds_toArray, List.set_cons_zero, List.set_cons_succ]
  refine takeY (i := 32) (d := some 37) (v := ?_) rfl rfl (by kernel_rfl) (by kernel_rfl) (by kernel_rfl) (fun _ _ _ h => h) (by rfl) ?_ hHeld ?_
  rotate_left
  · intro w9 hS9
    first | (go_simp; done) | (go_simp; with_reducible rfl)
  try simp only [Act.put, List.setIfInBounds_toArray, List.set_cons_zero, List.set_cons_succ]
  refine takeY (i := 33) (d := some 38) (v := ?_) rfl rfl (by kernel_rfl) (by kernel_rfl) (by kernel_rfl) (fun _ _ _ h => h) (by rfl) ?_ hHeld ?_
  rotate_left
  · intro w9 hS9
    obtain ⟨_, c0, d0, c1, d1, c2, d2, c3, d3, c4, d4, c5, d5, c6, d6⟩ := hS9
    first | (go_simp; done) | (go_simp; with_reducible rfl)
  try simp only [Act.put, List.setIfInBounds_toArray, List.set_cons_zero, List.set_cons_succ]
  refine wpAnyH_ready (rs := [34]) (by kernel_rfl) (by simp) ?_
  refine AllReadyH.cons rfl (fun K hK => ?_) AllReadyH.nil
  go_simp
  refine (EqTys_is (s := ⟨tA, tn, tc, tL⟩) (t := ⟨tA', tn', tc', tL'⟩) H4.out _ (Tys2.up HX.out.types HW4.out) (Tys2.up HY.out.types HW4.out)).mono ?_
  rintro x9 w5 ⟨rfl, hb0⟩
  have HW5 := hide (HW4.out.trans (hb0.mono HW4.out.size))
  clear hb0
  refine hK.out _ _ ⟨HW5.out, hc.out _ HW5.out⟩ (fun hHeld => ?_)
  clear hK K
  try simp only [Act.put, List.setIfInBounds_toArray, List.set_cons_zero, List.set_cons_succ]
  refine takeY (i := 35) (d := some 40) (v := ?_) rfl rfl (by kernel_rfl) (by kernel_rfl) (by kernel_rfl) (fun _ _ _ h => h) (by rfl) ?_ hHeld ?_
  rotate_left
  · intro w9 hS9
    first | (go_simp; done) | (go_simp; with_reducible rfl)
  try simp only [Act.put, List.setIfInBounds_toArray, List.set_cons_zero, List.set_cons_succ]
  refine takeY (i := 36) (d := some 41) (v := ?_) rfl rfl (by kernel_rfl) (by kernel_rfl) (by kernel_rfl) (fun _ _ _ h => h) (by rfl) ?_ hHeld ?_
  rotate_left
  · intro w9 hS9
    first | (go_simp; done) | (go_simp; with_reducible rfl)
  try simp only [Act.put, List.setIfInBounds_toArray, List.set_cons_zero, List.set_cons_succ]
  refine takeY (i := 37) (d := some 42) (v := ?_) rfl rfl (by kernel_rfl) (by kernel_rfl) (by kernel_rfl) (fun _ _ _ h => h) (by rfl) ?_ hHeld ?_
  rotate_left
  · intro w9 hS9
    first | (go_simp; done) | (go_simp; with_reducible rfl)
  try simp only [Act.put, List.setIfInBounds_toArray, List.set_cons_zero, List.set_cons_succ]
  refine takeY (i := 38) (d := some 43) (v := ?_) rfl rfl (by kernel_rfl) (by kernel_rfl) (by kernel_rfl) (fun _ _ _ h => h) (by rfl) ?_ hHeld ?_
  rotate_left
  · intro w9 hS9
    obtain ⟨_, c0, d0, c1, d1, c2, d2, c3, d3, c4, d4, c5, d5, c6, d6⟩ := hS9
    first | (go_simp; done) | (go_simp; with_reducible rfl)
  try simp only [Act.put, List.setIfInBounds_toArray, List.set_cons_zero, List.set_cons_succ]
  refine takeY (i := 40) (d := some 45) (v := ?_) rfl rfl (by kernel_rfl) (by kernel_rfl) (by kernel_rfl) (fun _ _ _ h => h) (by rfl) ?_ hHeld ?_
  rotate_left
  · intro w9 hS9
    first | (go_simp; done) | (go_simp; with_reducible rfl)
  try simp only [Act.put, List.setIfInBounds_toArray, List.set_cons_zero, List.set_cons_succ]
  refine takeY (i := 41) (d := some 46) (v := ?_) rfl rfl (by kernel_rfl) (by kernel_rfl) (by kernel_rfl) (fun _ _ _ h => h) (by rfl) ?_ hHeld ?_
  rotate_left
  · intro w9 hS9
    obtain ⟨_, c0, d0, c1, d1, c2, d2, c3, d3, c4, d4, c5, d5, c6, d6⟩ := hS9
    first | (go_simp; done) | (go_simp; with_reducible rfl)
  try simp only [Act.put, List.setIfInBounds_toArray, List.set_cons_zero, List.set_cons_succ]
  refine wpAnyH_ready (rs := [39]) (by kernel_rfl) (by simp) ?_
  refine AllReadyH.cons rfl (fun K hK => ?_) AllReadyH.nil
  go_simp
  refine (PlainLc_any ⟨lA, ln, lc, lL⟩ _).mono ?_
  rintro x9 w6 ⟨rfl, hb0⟩
  have HW6 := hide (HW5.out.trans (hb0.mono HW5.out.size))
  clear hb0
  refine hK.out _ _ ⟨HW6.out, hc.out _ HW6.out⟩ (fun hHeld => ?_)
  clear hK K
  try simp only [Act.put, List.setIfInBounds_toArray, List.set_cons_zero, List.set_cons_succ]
  refine wpAnyH_ready (rs := [42]) (by kernel_rfl) (by simp) ?_
  refine AllReadyH.cons rfl (fun K hK => ?_) AllReadyH.nil
  go_simp
  refine (EqLcs_is (s := ⟨lA, ln, lc, lL⟩) (t := ⟨lA', ln', lc', lL'⟩) H5.out _ (Lcs2.up HX.out.locals HW6.out) (Lcs2.up HY.out.locals HW6.out)).mono ?_
  rintro x9 w7 ⟨rfl, hb0⟩
  have HW7 := hide (HW6.out.trans (hb0.mono HW6.out.size))
  clear hb0
  refine hK.out _ _ ⟨HW7.out, hc.out _ HW7.out⟩ (fun hHeld => ?_)
  clear hK K
  try simp only [Act.put, List.setIfInBounds_toArray, List.set_cons_zero, List.set_cons_succ]
  refine takeY (i := 43) (d := some 48) (v := ?_) rfl rfl (by kernel_rfl) (by kernel_rfl) (by kernel_rfl) (fun _ _ _ h => h) (by rfl) ?_ hHeld ?_
  rotate_left
  · intro w9 hS9
    first | (go_simp; done) | (go_simp; with_reducible rfl)
  try simp only [Act.put, List.setIfInBounds_toArray, List.set_cons_zero, List.set_cons_succ]
  refine takeY (i := 44) (d := some 49) (v := ?_) rfl rfl (by kernel_rfl) (by kernel_rfl) (by kernel_rfl) (fun _ _ _ h => h) (by rfl) ?_ hHeld ?_
  rotate_left
  · intro w9 hS9
    first | (go_simp; done) | (go_simp; with_reducible rfl)
  try simp only [Act.put, List.setIfInBounds_toArray, List.set_cons_zero, List.set_cons_succ]
  refine takeY (i := 45) (d := some 50) (v := ?_) rfl rfl (by kernel_rfl) (by kernel_rfl) (by kernel_rfl) (fun _ _ _ h => h) (by rfl) ?_ hHeld ?_
  rotate_left
  · intro w9 hS9
    first | (go_simp; done) | (go_simp; with_reducible rfl)
  try simp only [Act.put, List.setIfInBounds_toArray, List.set_cons_zero, List.set_cons_succ]
  refine takeY (i := 46) (d := some 51) (v := ?_) rfl rfl (by kernel_rfl) (by kernel_rfl) (by kernel_rfl) (fun _ _ _ h => h) (by rfl) ?_ hHeld ?_
  rotate_left
  · intro w9 hS9
    obtain ⟨_, c0, d0, c1, d1, c2, d2, c3, d3, c4, d4, c5, d5, c6, d6⟩ := hS9
    first | (go_simp; done) | (go_simp; with_reducible rfl)
  try simp only [Act.put, List.setIfInBounds_toArray, List.set_cons_zero, List.set_cons_succ]
  refine takeY (i := 47) (d := some 52) (v := ?_) rfl rfl (by kernel_rfl) (by kernel_rfl) (by kernel_rfl) (fun _ _ _ h => h) (by rfl) ?_ hHeld ?_
  rotate_left
  · intro w9 hS9
    first | (go_simp; done) | (go_simp; with_reducible rfl)
  try simp only [Act.put, List.setIfInBounds_toArray, List.set_cons_zero, List.set_cons_succ]
  refine takeY (i := 48) (d := some 53) (v := ?_) rfl rfl (by kernel_rfl) (by kernel_rfl) (by kernel_rfl) (fun _ _ _ h => h) (by rfl) ?_ hHeld ?_
  rotate_left
  · intro w9 hS9
    first | (go_simp; done) | (go_simp; with_reducible rfl)
  try simp only [Act.put, List.setIfInBounds_toArray, List.set_cons_zero, List.set_cons_succ]
  refine takeY (i := 49) (d := some 54) (v := ?_) rfl rfl (by kernel_rfl) (by kernel_rfl) (by kernel_rfl) (fun _ _ _ h => h) (by rfl) ?_ hHeld ?_
  rotate_left
  · intro w9 hS9
    obtain ⟨_, c0, d0, c1, d1, c2, d2, c3, d3, c4, d4, c5, d5, c6, d6⟩ := hS9
    first | (go_simp; done) | (go_simp; with_reducible rfl)
  try simp only [Act.put, List.setIfInBounds_toArray, List.set_cons_zero, List.set_cons_succ]
  refine wpAnyH_ready (rs := [50]) (by kernel_rfl) (by simp) ?_
  refine AllReadyH.cons rfl (fun K hK => ?_) AllReadyH.nil
  go_simp
  refine (EqBks_is (s := ⟨bA, bn, bc, bL⟩) (t := ⟨bA', bn', bc', bL'⟩) H6.out _ (Bks2.up HX.out.blocks HW7.out) (Bks2.up HY.out.blocks HW7.out)).mono ?_
  rintro x9 w8 ⟨rfl, hb0⟩
  have HW8 := hide (HW7.out.trans (hb0.mono HW7.out.size))
  clear hb0
  refine hK.out _ _ ⟨HW8.out, hc.out _ HW8.out⟩ (fun hHeld => ?_)
  clear hK K
  try simp only [Act.put, List.setIfInBounds_toArray, List.set_cons_zero, List.set_cons_succ]
  refine takeY (i := 51) (d := some 56) (v := ?_) rfl rfl (by kernel_rfl) (by kernel_rfl) (by kernel_rfl) (fun _ _ _ h => h) (by rfl) ?_ hHeld ?_
  rotate_left
  · intro w9 hS9
    first | (go_simp; done) | (go_simp; with_reducible rfl)
  try simp only [Act.put, List.setIfInBounds_toArray, List.set_cons_zero, List.set_cons_succ]
  refine takeY (i := 52) (d := some 4) (v := ?_) rfl rfl (by kernel_rfl) (by kernel_rfl) (by kernel_rfl) (fun _ _ _ h => h) (by rfl) ?_ hHeld ?_
  rotate_left
  · intro w9 hS9
    first | (go_simp; done) | (go_simp; with_reducible rfl)
  try simp only [Act.put, List.setIfInBounds_toArray, List.set_cons_zero, List.set_cons_succ]
  refine wpAnyH_done (by kernel_rfl) ?_ _
  go_wp2
  go_ret
  exact ⟨rfl, HB.out.trans (HW8.out.mono HB.out.size)⟩

set_option maxHeartbeats 4000000 in
set_option maxRecDepth 100000 in
theorem eqBd7 (nm : ByteArray) (k : Int) (rA : Option Addr) (rn rc : Nat) (rL : List ByteArray) (oA : Option Addr) (on oc : Nat) (oL : List Pr) (tA : Option Addr) (tn tc : Nat) (tL : List TyW) (lA : Option Addr) (ln lc : Nat) (lL : List LcW) (bA : Option Addr) (bn bc : Nat) (bL : List BkW) (rA' : Option Addr) (rn' rc' : Nat) (rL' : List ByteArray) (oA' : Option Addr) (on' oc' : Nat) (oL' : List Pr) (tA' : Option Addr) (tn' tc' : Nat) (tL' : List TyW) (lA' : Option Addr) (ln' lc' : Nat) (lL' : List LcW) (bA' : Option Addr) (bn' bc' : Nat) (bL' : List BkW) (h2 : eqStrs ⟨rA, rn, rc, rL⟩ ⟨rA', rn', rc', rL'⟩ = true) (h3 : eqPrs ⟨oA, on, oc, oL⟩ ⟨oA', on', oc', oL'⟩ = true) (h4 : eqTys ⟨tA, tn, tc, tL⟩ ⟨tA', tn', tc', tL'⟩ = true) (h5 : eqLcs ⟨lA, ln, lc, lL⟩ ⟨lA', ln', lc', lL'⟩ = true) (h6 : eqBks ⟨bA, bn, bc, bL⟩ ⟨bA', bn', bc', bL'⟩ = true)
    (w : World) (hx : OneBd w w.heap.size ⟨nm, ⟨rA, rn, rc, rL⟩, ⟨oA, on, oc, oL⟩, ⟨tA, tn, tc, tL⟩, ⟨lA, ln, lc, lL⟩, k, ⟨bA, bn, bc, bL⟩⟩) (hy : OneBd w w.heap.size ⟨nm, ⟨rA', rn', rc', rL'⟩, ⟨oA', on', oc', oL'⟩, ⟨tA', tn', tc', tL'⟩, ⟨lA', ln', lc', lL'⟩, k, ⟨bA', bn', bc', bL'⟩⟩) :
    Calls Tryz.prog 11 #[aggBd ⟨nm, ⟨rA, rn, rc, rL⟩, ⟨oA, on, oc, oL⟩, ⟨tA, tn, tc, tL⟩, ⟨lA, ln, lc, lL⟩, k, ⟨bA, bn, bc, bL⟩⟩, aggBd ⟨nm, ⟨rA', rn', rc', rL'⟩, ⟨oA', on', oc', oL'⟩, ⟨tA', tn', tc', tL'⟩, ⟨lA', ln', lc', lL'⟩, k, ⟨bA', bn', bc', bL'⟩⟩] w fun e w' => e = .returned (.bool true) ∧ Below w.heap.size w w' := by
  have HB := hide (bx2_below w (cBd ⟨nm, ⟨rA, rn, rc, rL⟩, ⟨oA, on, oc, oL⟩, ⟨tA, tn, tc, tL⟩, ⟨lA, ln, lc, lL⟩, k, ⟨bA, bn, bc, bL⟩⟩) (cBd ⟨nm, ⟨rA', rn', rc', rL'⟩, ⟨oA', on', oc', oL'⟩, ⟨tA', tn', tc', tL'⟩, ⟨lA', ln', lc', lL'⟩, k, ⟨bA', bn', bc', bL'⟩⟩) 28)
  have HX := hide (hx.up HB.out)
  have HY := hide (hy.up HB.out)
  have hs := hide fun (w' : World) (h : Below (bx2 w (cBd ⟨nm, ⟨rA, rn, rc, rL⟩, ⟨oA, on, oc, oL⟩, ⟨tA, tn, tc, tL⟩, ⟨lA, ln, lc, lL⟩, k, ⟨bA, bn, bc, bL⟩⟩) (cBd ⟨nm, ⟨rA', rn', rc', rL'⟩, ⟨oA', on', oc', oL'⟩, ⟨tA', tn', tc', tL'⟩, ⟨lA', ln', lc', lL'⟩, k, ⟨bA', bn', bc', bL'⟩⟩) 28).heap.size (bx2 w (cBd ⟨nm, ⟨rA, rn, rc, rL⟩, ⟨oA, on, oc, oL⟩, ⟨tA, tn, tc, tL⟩, ⟨lA, ln, lc, lL⟩, k, ⟨bA, bn, bc, bL⟩⟩) (cBd ⟨nm, ⟨rA', rn', rc', rL'⟩, ⟨oA', on', oc', oL'⟩, ⟨tA', tn', tc', tL'⟩, ⟨lA', ln', lc', lL'⟩, k, ⟨bA', bn', bc', bL'⟩⟩) 28) w') => bx2_cells h
  have H2 := hide h2
  clear h2
  have H3 := hide h3
  clear h3
  have H4 := hide h4
  clear h4
  have H5 := hide h5
  clear h5
  have H6 := hide h6
  clear h6
  clear hx hy
  go_enter Tryz.func11, Tryz.ntmps11
  have hc := hide fun (w' : World) (h : Below (bx2 w (cBd ⟨nm, ⟨rA, rn, rc, rL⟩, ⟨oA, on, oc, oL⟩, ⟨tA, tn, tc, tL⟩, ⟨lA, ln, lc, lL⟩, k, ⟨bA, bn, bc, bL⟩⟩) (cBd ⟨nm, ⟨rA', rn', rc', rL'⟩, ⟨oA', on', oc', oL'⟩, ⟨tA', tn', tc', tL'⟩, ⟨lA', ln', lc', lL'⟩, k, ⟨bA', bn', bc', bL'⟩⟩) 28).heap.size (bx2 w (cBd ⟨nm, ⟨rA, rn, rc, rL⟩, ⟨oA, on, oc, oL⟩, ⟨tA, tn, tc, tL⟩, ⟨lA, ln, lc, lL⟩, k, ⟨bA, bn, bc, bL⟩⟩) (cBd ⟨nm, ⟨rA', rn', rc', rL'⟩, ⟨oA', on', oc', oL'⟩, ⟨tA', tn', tc', tL'⟩, ⟨lA', ln', lc', lL'⟩, k, ⟨bA', bn', bc', bL'⟩⟩) 28) w') => (show w'.cell? ⟨w.heap.size, 0, none⟩ = some (.string nm) ∧ w'.cell? ⟨w.heap.size + 1, 0, none⟩ = some (.string nm) ∧ w'.cell? ⟨w.heap.size, 1, none⟩ = some (.slice rA rn rc) ∧ w'.cell? ⟨w.heap.size + 1, 1, none⟩ = some (.slice rA' rn' rc') ∧ w'.cell? ⟨w.heap.size, 2, none⟩ = some (.slice oA on oc) ∧ w'.cell? ⟨w.heap.size + 1, 2, none⟩ = some (.slice oA' on' oc') ∧ w'.cell? ⟨w.heap.size, 3, none⟩ = some (.slice tA tn tc) ∧ w'.cell? ⟨w.heap.size + 1, 3, none⟩ = some (.slice tA' tn' tc') ∧ w'.cell? ⟨w.heap.size, 4, none⟩ = some (.slice lA ln lc) ∧ w'.cell? ⟨w.heap.size + 1, 4, none⟩ = some (.slice lA' ln' lc') ∧ w'.cell? ⟨w.heap.size, 5, none⟩ = some (.int .i64 k) ∧ w'.cell? ⟨w.heap.size + 1, 5, none⟩ = some (.int .i64 k) ∧ w'.cell? ⟨w.heap.size, 6, none⟩ = some (.slice bA bn bc) ∧ w'.cell? ⟨w.heap.size + 1, 6, none⟩ = some (.slice bA' bn' bc') from ⟨(hs.out w' h 0 _ _ rfl rfl).1, (hs.out w' h 0 _ _ rfl rfl).2, (hs.out w' h 1 _ _ rfl rfl).1, (hs.out w' h 1 _ _ rfl rfl).2, (hs.out w' h 2 _ _ rfl rfl).1, (hs.out w' h 2 _ _ rfl rfl).2, (hs.out w' h 3 _ _ rfl rfl).1, (hs.out w' h 3 _ _ rfl rfl).2, (hs.out w' h 4 _ _ rfl rfl).1, (hs.out w' h 4 _ _ rfl rfl).2, (hs.out w' h 5 _ _ rfl rfl).1, (hs.out w' h 5 _ _ rfl rfl).2, (hs.out w' h 6 _ _ rfl rfl).1, (hs.out w' h 6 _ _ rfl rfl).2⟩)
  have HW0 := hide (show Below (bx2 w (cBd ⟨nm, ⟨rA, rn, rc, rL⟩, ⟨oA, on, oc, oL⟩, ⟨tA, tn, tc, tL⟩, ⟨lA, ln, lc, lL⟩, k, ⟨bA, bn, bc, bL⟩⟩) (cBd ⟨nm, ⟨rA', rn', rc', rL'⟩, ⟨oA', on', oc', oL'⟩, ⟨tA', tn', tc', tL'⟩, ⟨lA', ln', lc', lL'⟩, k, ⟨bA', bn', bc', bL'⟩⟩) 28).heap.size (bx2 w (cBd ⟨nm, ⟨rA, rn, rc, rL⟩, ⟨oA, on, oc, oL⟩, ⟨tA, tn, tc, tL⟩, ⟨lA, ln, lc, lL⟩, k, ⟨bA, bn, bc, bL⟩⟩) (cBd ⟨nm, ⟨rA', rn', rc', rL'⟩, ⟨oA', on', oc', oL'⟩, ⟨tA', tn', tc', tL'⟩, ⟨lA', ln', lc', lL'⟩, k, ⟨bA', bn', bc', bL'⟩⟩) 28) (World.drew (bx2 w (cBd ⟨nm, ⟨rA, rn, rc, rL⟩, ⟨oA, on, oc, oL⟩, ⟨tA, tn, tc, tL⟩, ⟨lA, ln, lc, lL⟩, k, ⟨bA, bn, bc, bL⟩⟩) (cBd ⟨nm, ⟨rA', rn', rc', rL'⟩, ⟨oA', on', oc', oL'⟩, ⟨tA', tn', tc', tL'⟩, ⟨lA', ln', lc', lL'⟩, k, ⟨bA', bn', bc', bL'⟩⟩) 28)) from (Below.refl _ _).drew)
  go_wp2
  change Code.wp _ _ _ _ (bx2 w (cBd ⟨nm, ⟨rA, rn, rc, rL⟩, ⟨oA, on, oc, oL⟩, ⟨tA, tn, tc, tL⟩, ⟨lA, ln, lc, lL⟩, k, ⟨bA, bn, bc, bL⟩⟩) (cBd ⟨nm, ⟨rA', rn', rc', rL'⟩, ⟨oA', on', oc', oL'⟩, ⟨tA', tn', tc', tL'⟩, ⟨lA', ln', lc', lL'⟩, k, ⟨bA', bn', bc', bL'⟩⟩) 28)
  refine wp_region_held_drew (S := (fun w' => Below (bx2 w (cBd ⟨nm, ⟨rA, rn, rc, rL⟩, ⟨oA, on, oc, oL⟩, ⟨tA, tn, tc, tL⟩, ⟨lA, ln, lc, lL⟩, k, ⟨bA, bn, bc, bL⟩⟩) (cBd ⟨nm, ⟨rA', rn', rc', rL'⟩, ⟨oA', on', oc', oL'⟩, ⟨tA', tn', tc', tL'⟩, ⟨lA', ln', lc', lL'⟩, k, ⟨bA', bn', bc', bL'⟩⟩) 28).heap.size (bx2 w (cBd ⟨nm, ⟨rA, rn, rc, rL⟩, ⟨oA, on, oc, oL⟩, ⟨tA, tn, tc, tL⟩, ⟨lA, ln, lc, lL⟩, k, ⟨bA, bn, bc, bL⟩⟩) (cBd ⟨nm, ⟨rA', rn', rc', rL'⟩, ⟨oA', on', oc', oL'⟩, ⟨tA', tn', tc', tL'⟩, ⟨lA', ln', lc', lL'⟩, k, ⟨bA', bn', bc', bL'⟩⟩) 28) w' ∧ w'.cell? ⟨w.heap.size, 0, none⟩ = some (.string nm) ∧ w'.cell? ⟨w.heap.size + 1, 0, none⟩ = some (.string nm) ∧ w'.cell? ⟨w.heap.size, 1, none⟩ = some (.slice rA rn rc) ∧ w'.cell? ⟨w.heap.size + 1, 1, none⟩ = some (.slice rA' rn' rc') ∧ w'.cell? ⟨w.heap.size, 2, none⟩ = some (.slice oA on oc) ∧ w'.cell? ⟨w.heap.size + 1, 2, none⟩ = some (.slice oA' on' oc') ∧ w'.cell? ⟨w.heap.size, 3, none⟩ = some (.slice tA tn tc) ∧ w'.cell? ⟨w.heap.size + 1, 3, none⟩ = some (.slice tA' tn' tc') ∧ w'.cell? ⟨w.heap.size, 4, none⟩ = some (.slice lA ln lc) ∧ w'.cell? ⟨w.heap.size + 1, 4, none⟩ = some (.slice lA' ln' lc') ∧ w'.cell? ⟨w.heap.size, 5, none⟩ = some (.int .i64 k) ∧ w'.cell? ⟨w.heap.size + 1, 5, none⟩ = some (.int .i64 k) ∧ w'.cell? ⟨w.heap.size, 6, none⟩ = some (.slice bA bn bc) ∧ w'.cell? ⟨w.heap.size + 1, 6, none⟩ = some (.slice bA' bn' bc'))) (by kernel_rfl) ⟨HW0.out, hc.out _ HW0.out⟩ (fun hHeld => ?_)
  refine takeY (i := 0) (d := some 5) (v := ?_) rfl rfl (by kernel_rfl) (by kernel_rfl) (by kernel_rfl) (fun _ _ _ h => h) (by rfl) ?_ hHeld ?_
  rotate_left
  · intro w9 hS9
    first | (go_simp; done) | (go_simp; with_reducible rfl)
  try simp only [Act.put, List.setIfInBounds_toArray, List.set_cons_zero, List.set_cons_succ]
  refine takeY (i := 1) (d := some 6) (v := ?_) rfl rfl (by kernel_rfl) (by kernel_rfl) (by kernel_rfl) (fun _ _ _ h => h) (by rfl) ?_ hHeld ?_
  rotate_left
  · intro w9 hS9
    obtain ⟨_, c0, d0, c1, d1, c2, d2, c3, d3, c4, d4, c5, d5, c6, d6⟩ := hS9
    first | (go_simp; done) | (go_simp; with_reducible rfl)
  try simp only [Act.put, List.setIfInBounds_toArray, List.set_cons_zero, List.set_cons_succ]
  refine takeY (i := 2) (d := some 7) (v := ?_) rfl rfl (by kernel_rfl) (by kernel_rfl) (by kernel_rfl) (fun _ _ _ h => h) (by rfl) ?_ hHeld ?_
  rotate_left
  · intro w9 hS9
    first | (go_simp; done) | (go_simp; with_reducible rfl)
  try simp only [Act.put, List.setIfInBounds_toArray, List.set_cons_zero, List.set_cons_succ]
  refine takeY (i := 3) (d := some 8) (v := ?_) rfl rfl (by kernel_rfl) (by kernel_rfl) (by kernel_rfl) (fun _ _ _ h => h) (by rfl) ?_ hHeld ?_
  rotate_left
  · intro w9 hS9
    obtain ⟨_, c0, d0, c1, d1, c2, d2, c3, d3, c4, d4, c5, d5, c6, d6⟩ := hS9
    first | (go_simp; done) | (go_simp; with_reducible rfl)
  try simp only [Act.put, List.setIfInBounds_toArray, List.set_cons_zero, List.set_cons_succ]
  refine takeY (i := 4) (d := some 9) (v := ?_) rfl rfl (by kernel_rfl) (by kernel_rfl) (by kernel_rfl) (fun _ _ _ h => h) (by rfl) ?_ hHeld ?_
  rotate_left
  · intro w9 hS9
    first | (go_simp; done) | (go_simp; with_reducible rfl)
  try simp only [Act.put, List.setIfInBounds_toArray, List.set_cons_zero, List.set_cons_succ]
  refine takeY (i := 5) (d := some 10) (v := ?_) rfl rfl (by kernel_rfl) (by kernel_rfl) (by kernel_rfl) (fun _ _ _ h => h) (by rfl) ?_ hHeld ?_
  rotate_left
  · intro w9 hS9
    first | (go_simp; done) | (go_simp; with_reducible rfl)
  try simp only [Act.put, List.setIfInBounds_toArray, List.set_cons_zero, List.set_cons_succ]
  refine takeY (i := 6) (d := some 11) (v := ?_) rfl rfl (by kernel_rfl) (by kernel_rfl) (by kernel_rfl) (fun _ _ _ h => h) (by rfl) ?_ hHeld ?_
  rotate_left
  · intro w9 hS9
    first | (go_simp; done) | (go_simp; with_reducible rfl)
  try simp only [Act.put, List.setIfInBounds_toArray, List.set_cons_zero, List.set_cons_succ]
  refine takeY (i := 7) (d := some 12) (v := ?_) rfl rfl (by kernel_rfl) (by kernel_rfl) (by kernel_rfl) (fun _ _ _ h => h) (by rfl) ?_ hHeld ?_
  rotate_left
  · intro w9 hS9
    obtain ⟨_, c0, d0, c1, d1, c2, d2, c3, d3, c4, d4, c5, d5, c6, d6⟩ := hS9
    first | (go_simp; done) | (go_simp; with_reducible rfl)
  try simp only [Act.put, List.setIfInBounds_toArray, List.set_cons_zero, List.set_cons_succ]
  refine takeY (i := 8) (d := some 13) (v := ?_) rfl rfl (by kernel_rfl) (by kernel_rfl) (by kernel_rfl) (fun _ _ _ h => h) (by rfl) ?_ hHeld ?_
  rotate_left
  · intro w9 hS9
    first | (go_simp; done) | (go_simp; with_reducible rfl)
  try simp only [Act.put, List.setIfInBounds_toArray, List.set_cons_zero, List.set_cons_succ]
  refine takeY (i := 9) (d := some 14) (v := ?_) rfl rfl (by kernel_rfl) (by kernel_rfl) (by kernel_rfl) (fun _ _ _ h => h) (by rfl) ?_ hHeld ?_
  rotate_left
  · intro w9 hS9
    obtain ⟨_, c0, d0, c1, d1, c2, d2, c3, d3, c4, d4, c5, d5, c6, d6⟩ := hS9
    first | (go_simp; done) | (go_simp; with_reducible rfl)
  try simp only [Act.put, List.setIfInBounds_toArray, List.set_cons_zero, List.set_cons_succ]
  refine takeY (i := 10) (d := some 15) (v := ?_) rfl rfl (by kernel_rfl) (by kernel_rfl) (by kernel_rfl) (fun _ _ _ h => h) (by rfl) ?_ hHeld ?_
  rotate_left
  · intro w9 hS9
    first | (go_simp; done) | (go_simp; with_reducible rfl)
  try simp only [Act.put, List.setIfInBounds_toArray, List.set_cons_zero, List.set_cons_succ]
  refine takeY (i := 11) (d := some 16) (v := ?_) rfl rfl (by kernel_rfl) (by kernel_rfl) (by kernel_rfl) (fun _ _ _ h => h) (by rfl) ?_ hHeld ?_
  rotate_left
  · intro w9 hS9
    first | (go_simp; done) | (go_simp; with_reducible rfl)
  try simp only [Act.put, List.setIfInBounds_toArray, List.set_cons_zero, List.set_cons_succ]
  refine takeY (i := 12) (d := some 17) (v := ?_) rfl rfl (by kernel_rfl) (by kernel_rfl) (by kernel_rfl) (fun _ _ _ h => h) (by rfl) ?_ hHeld ?_
  rotate_left
  · intro w9 hS9
    first | (go_simp; done) | (go_simp; with_reducible rfl)
  try simp only [Act.put, List.setIfInBounds_toArray, List.set_cons_zero, List.set_cons_succ]
  refine takeY (i := 13) (d := some 18) (v := ?_) rfl rfl (by kernel_rfl) (by kernel_rfl) (by kernel_rfl) (fun _ _ _ h => h) (by rfl) ?_ hHeld ?_
  rotate_left
  · intro w9 hS9
    first | (go_simp; done) | (go_simp; with_reducible rfl)
  try simp only [Act.put, List.setIfInBounds_toArray, List.set_cons_zero, List.set_cons_succ]
  refine takeY (i := 14) (d := some 19) (v := ?_) rfl rfl (by kernel_rfl) (by kernel_rfl) (by kernel_rfl) (fun _ _ _ h => h) (by rfl) ?_ hHeld ?_
  rotate_left
  · intro w9 hS9
    obtain ⟨_, c0, d0, c1, d1, c2, d2, c3, d3, c4, d4, c5, d5, c6, d6⟩ := hS9
    first | (go_simp; done) | (go_simp; with_reducible rfl)
  try simp only [Act.put, List.setIfInBounds_toArray, List.set_cons_zero, List.set_cons_succ]
  refine takeY (i := 16) (d := some 21) (v := ?_) rfl rfl (by kernel_rfl) (by kernel_rfl) (by kernel_rfl) (fun _ _ _ h => h) (by rfl) ?_ hHeld ?_
  rotate_left
  · intro w9 hS9
    first | (go_simp; done) | (go_simp; with_reducible rfl)
  try simp only [Act.put, List.setIfInBounds_toArray, List.set_cons_zero, List.set_cons_succ]
  refine takeY (i := 17) (d := some 22) (v := ?_) rfl rfl (by kernel_rfl) (by kernel_rfl) (by kernel_rfl) (fun _ _ _ h => h) (by rfl) ?_ hHeld ?_
  rotate_left
  · intro w9 hS9
    obtain ⟨_, c0, d0, c1, d1, c2, d2, c3, d3, c4, d4, c5, d5, c6, d6⟩ := hS9
    first | (go_simp; done) | (go_simp; with_reducible rfl)
  try simp only [Act.put, List.setIfInBounds_toArray, List.set_cons_zero, List.set_cons_succ]
  refine wpAnyH_ready (rs := [15]) (by kernel_rfl) (by simp) ?_
  refine AllReadyH.cons rfl (fun K hK => ?_) AllReadyH.nil
  go_simp
  refine (PlainStr_any ⟨rA, rn, rc, rL⟩ _).mono ?_
  rintro x9 w1 ⟨rfl, hb0⟩
  have HW1 := hide (HW0.out.trans (hb0.mono HW0.out.size))
  clear hb0
  refine hK.out _ _ ⟨HW1.out, hc.out _ HW1.out⟩ (fun hHeld => ?_)
  clear hK K
  try simp only [Act.put, List.setIfInBounds_toArray, List.set_cons_zero, List.set_cons_succ]
  refine wpAnyH_ready (rs := [18]) (by kernel_rfl) (by simp) ?_
  refine AllReadyH.cons rfl (fun K hK => ?_) AllReadyH.nil
  go_simp
  refine (EqStrs_is (s := ⟨rA, rn, rc, rL⟩) (t := ⟨rA', rn', rc', rL'⟩) H2.out _ (Strs.up HX.out.regions HW1.out) (Strs.up HY.out.regions HW1.out)).mono ?_
  rintro x9 w2 ⟨rfl, hb0⟩
  have HW2 := hide (HW1.out.trans (hb0.mono HW1.out.size))
  clear hb0
  refine hK.out _ _ ⟨HW2.out, hc.out _ HW2.out⟩ (fun hHeld => ?_)
  clear hK K
  try simp only [Act.put, List.setIfInBounds_toArray, List.set_cons_zero, List.set_cons_succ]
  refine takeY (i := 19) (d := some 24) (v := ?_) rfl rfl (by kernel_rfl) (by kernel_rfl) (by kernel_rfl) (fun _ _ _ h => h) (by rfl) ?_ hHeld ?_
  rotate_left
  · intro w9 hS9
    first | (go_simp; done) | (go_simp; with_reducible rfl)
  try simp only [Act.put, List.setIfInBounds_toArray, List.set_cons_zero, List.set_cons_succ]
  refine takeY (i := 20) (d := some 25) (v := ?_) rfl rfl (by kernel_rfl) (by kernel_rfl) (by kernel_rfl) (fun _ _ _ h => h) (by rfl) ?_ hHeld ?_
  rotate_left
  · intro w9 hS9
    first | (go_simp; done) | (go_simp; with_reducible rfl)
  try simp only [Act.put, List.setIfInBounds_toArray, List.set_cons_zero, List.set_cons_succ]
  refine takeY (i := 21) (d := some 26) (v := ?_) rfl rfl (by kernel_rfl) (by kernel_rfl) (by kernel_rfl) (fun _ _ _ h => h) (by rfl) ?_ hHeld ?_
  rotate_left
  · intro w9 hS9
    first | (go_simp; done) | (go_simp; with_reducible rfl)
  try simp only [Act.put, List.setIfInBounds_toArray, List.set_cons_zero, List.set_cons_succ]
  refine takeY (i := 22) (d := some 27) (v := ?_) rfl rfl (by kernel_rfl) (by kernel_rfl) (by kernel_rfl) (fun _ _ _ h => h) (by rfl) ?_ hHeld ?_
  rotate_left
  · intro w9 hS9
    obtain ⟨_, c0, d0, c1, d1, c2, d2, c3, d3, c4, d4, c5, d5, c6, d6⟩ := hS9
    first | (go_simp; done) | (go_simp; with_reducible rfl)
  try simp only [Act.put, List.setIfInBounds_toArray, List.set_cons_zero, List.set_cons_succ]
  refine takeY (i := 24) (d := some 29) (v := ?_) rfl rfl (by kernel_rfl) (by kernel_rfl) (by kernel_rfl) (fun _ _ _ h => h) (by rfl) ?_ hHeld ?_
  rotate_left
  · intro w9 hS9
    first | (go_simp; done) | (go_simp; with_reducible rfl)
  try simp only [Act.put, List.setIfInBounds_toArray, List.set_cons_zero, List.set_cons_succ]
  refine takeY (i := 25) (d := some 30) (v := ?_) rfl rfl (by kernel_rfl) (by kernel_rfl) (by kernel_rfl) (fun _ _ _ h => h) (by rfl) ?_ hHeld ?_
  rotate_left
  · intro w9 hS9
    obtain ⟨_, c0, d0, c1, d1, c2, d2, c3, d3, c4, d4, c5, d5, c6, d6⟩ := hS9
    first | (go_simp; done) | (go_simp; with_reducible rfl)
  try simp only [Act.put, List.setIfInBounds_toArray, List.set_cons_zero, List.set_cons_succ]
  refine wpAnyH_ready (rs := [23]) (by kernel_rfl) (by simp) ?_
  refine AllReadyH.cons rfl (fun K hK => ?_) AllReadyH.nil
  go_simp
  refine (PlainPr_any ⟨oA, on, oc, oL⟩ _).mono ?_
  rintro x9 w3 ⟨rfl, hb0⟩
  have HW3 := hide (HW2.out.trans (hb0.mono HW2.out.size))
  clear hb0
  refine hK.out _ _ ⟨HW3.out, hc.out _ HW3.out⟩ (fun hHeld => ?_)
  clear hK K
  try simp only [Act.put, List.setIfInBounds_toArray, List.set_cons_zero, List.set_cons_succ]
  refine wpAnyH_ready (rs := [26]) (by kernel_rfl) (by simp) ?_
  refine AllReadyH.cons rfl (fun K hK => ?_) AllReadyH.nil
  go_simp
  refine (EqPrs_is (s := ⟨oA, on, oc, oL⟩) (t := ⟨oA', on', oc', oL'⟩) H3.out _ (Prs2.up HX.out.outl HW3.out) (Prs2.up HY.out.outl HW3.out)).mono ?_
  rintro x9 w4 ⟨rfl, hb0⟩
  have HW4 := hide (HW3.out.trans (hb0.mono HW3.out.size))
  clear hb0
  refine hK.out _ _ ⟨HW4.out, hc.out _ HW4.out⟩ (fun hHeld => ?_)
  clear hK K
  try simp only [Act.put, List.setIfInBounds_toArray, List.set_cons_zero, List.set_cons_succ]
  refine takeY (i := 27) (d := some 32) (v := ?_) rfl rfl (by kernel_rfl) (by kernel_rfl) (by kernel_rfl) (fun _ _ _ h => h) (by rfl) ?_ hHeld ?_
  rotate_left
  · intro w9 hS9
    first | (go_simp; done) | (go_simp; with_reducible rfl)
  try simp only [Act.put, List.setIfInBounds_toArray, List.set_cons_zero, List.set_cons_succ]
  refine takeY (i := 28) (d := some 33) (v := ?_) rfl rfl (by kernel_rfl) (by kernel_rfl) (by kernel_rfl) (fun _ _ _ h => h) (by rfl) ?_ hHeld ?_
  rotate_left
  · intro w9 hS9
    first | (go_simp; done) | (go_simp; with_reducible rfl)
  try simp only [Act.put, List.setIfInBounds_toArray, List.set_cons_zero, List.set_cons_succ]
  refine takeY (i := 29) (d := some 34) (v := ?_) rfl rfl (by kernel_rfl) (by kernel_rfl) (by kernel_rfl) (fun _ _ _ h => h) (by rfl) ?_ hHeld ?_
  rotate_left
  · intro w9 hS9
    first | (go_simp; done) | (go_simp; with_reducible rfl)
  try simp only [Act.put, List.setIfInBounds_toArray, List.set_cons_zero, List.set_cons_succ]
  refine takeY (i := 30) (d := some 35) (v := ?_) rfl rfl (by kernel_rfl) (by kernel_rfl) (by kernel_rfl) (fun _ _ _ h => h) (by rfl) ?_ hHeld ?_
  rotate_left
  · intro w9 hS9
    obtain ⟨_, c0, d0, c1, d1, c2, d2, c3, d3, c4, d4, c5, d5, c6, d6⟩ := hS9
    first | (go_simp; done) | (go_simp; with_reducible rfl)
  try simp only [Act.put, List.setIfInBounds_toArray, List.set_cons_zero, List.set_cons_succ]
  refine takeY (i := 31) (d := some 36) (v := ?_) rfl rfl (by kernel_rfl) (by kernel_rfl) (by kernel_rfl) (fun _ _ _ h => h) (by rfl) ?_ hHeld ?_
  rotate_left
  · intro w9 hS9
    first | (go_simp; done) | (go_simp; with_reducible rfl)
  try simp only [Act.put, List.setIfInBounds_toArray, List.set_cons_zero, List.set_cons_succ]
  refine takeY (i := 32) (d := some 37) (v := ?_) rfl rfl (by kernel_rfl) (by kernel_rfl) (by kernel_rfl) (fun _ _ _ h => h) (by rfl) ?_ hHeld ?_
  rotate_left
  · intro w9 hS9
    first | (go_simp; done) | (go_simp; with_reducible rfl)
  try simp only [Act.put, List.setIfInBounds_toArray, List.set_cons_zero, List.set_cons_succ]
  refine takeY (i := 33) (d := some 38) (v := ?_) rfl rfl (by kernel_rfl) (by kernel_rfl) (by kernel_rfl) (fun _ _ _ h => h) (by rfl) ?_ hHeld ?_
  rotate_left
  · intro w9 hS9
    obtain ⟨_, c0, d0, c1, d1, c2, d2, c3, d3, c4, d4, c5, d5, c6, d6⟩ := hS9
    first | (go_simp; done) | (go_simp; with_reducible rfl)
  try simp only [Act.put, List.setIfInBounds_toArray, List.set_cons_zero, List.set_cons_succ]
  refine wpAnyH_ready (rs := [34]) (by kernel_rfl) (by simp) ?_
  refine AllReadyH.cons rfl (fun K hK => ?_) AllReadyH.nil
  go_simp
  refine (EqTys_is (s := ⟨tA, tn, tc, tL⟩) (t := ⟨tA', tn', tc', tL'⟩) H4.out _ (Tys2.up HX.out.types HW4.out) (Tys2.up HY.out.types HW4.out)).mono ?_
  rintro x9 w5 ⟨rfl, hb0⟩
  have HW5 := hide (HW4.out.trans (hb0.mono HW4.out.size))
  clear hb0
  refine hK.out _ _ ⟨HW5.out, hc.out _ HW5.out⟩ (fun hHeld => ?_)
  clear hK K
  try simp only [Act.put, List.setIfInBounds_toArray, List.set_cons_zero, List.set_cons_succ]
  refine takeY (i := 35) (d := some 40) (v := ?_) rfl rfl (by kernel_rfl) (by kernel_rfl) (by kernel_rfl) (fun _ _ _ h => h) (by rfl) ?_ hHeld ?_
  rotate_left
  · intro w9 hS9
    first | (go_simp; done) | (go_simp; with_reducible rfl)
  try simp only [Act.put, List.setIfInBounds_toArray, List.set_cons_zero, List.set_cons_succ]
  refine takeY (i := 36) (d := some 41) (v := ?_) rfl rfl (by kernel_rfl) (by kernel_rfl) (by kernel_rfl) (fun _ _ _ h => h) (by rfl) ?_ hHeld ?_
  rotate_left
  · intro w9 hS9
    first | (go_simp; done) | (go_simp; with_reducible rfl)
  try simp only [Act.put, List.setIfInBounds_toArray, List.set_cons_zero, List.set_cons_succ]
  refine takeY (i := 37) (d := some 42) (v := ?_) rfl rfl (by kernel_rfl) (by kernel_rfl) (by kernel_rfl) (fun _ _ _ h => h) (by rfl) ?_ hHeld ?_
  rotate_left
  · intro w9 hS9
    first | (go_simp; done) | (go_simp; with_reducible rfl)
  try simp only [Act.put, List.setIfInBounds_toArray, List.set_cons_zero, List.set_cons_succ]
  refine takeY (i := 38) (d := some 43) (v := ?_) rfl rfl (by kernel_rfl) (by kernel_rfl) (by kernel_rfl) (fun _ _ _ h => h) (by rfl) ?_ hHeld ?_
  rotate_left
  · intro w9 hS9
    obtain ⟨_, c0, d0, c1, d1, c2, d2, c3, d3, c4, d4, c5, d5, c6, d6⟩ := hS9
    first | (go_simp; done) | (go_simp; with_reducible rfl)
  try simp only [Act.put, List.setIfInBounds_toArray, List.set_cons_zero, List.set_cons_succ]
  refine takeY (i := 40) (d := some 45) (v := ?_) rfl rfl (by kernel_rfl) (by kernel_rfl) (by kernel_rfl) (fun _ _ _ h => h) (by rfl) ?_ hHeld ?_
  rotate_left
  · intro w9 hS9
    first | (go_simp; done) | (go_simp; with_reducible rfl)
  try simp only [Act.put, List.setIfInBounds_toArray, List.set_cons_zero, List.set_cons_succ]
  refine takeY (i := 41) (d := some 46) (v := ?_) rfl rfl (by kernel_rfl) (by kernel_rfl) (by kernel_rfl) (fun _ _ _ h => h) (by rfl) ?_ hHeld ?_
  rotate_left
  · intro w9 hS9
    obtain ⟨_, c0, d0, c1, d1, c2, d2, c3, d3, c4, d4, c5, d5, c6, d6⟩ := hS9
    first | (go_simp; done) | (go_simp; with_reducible rfl)
  try simp only [Act.put, List.setIfInBounds_toArray, List.set_cons_zero, List.set_cons_succ]
  refine wpAnyH_ready (rs := [39]) (by kernel_rfl) (by simp) ?_
  refine AllReadyH.cons rfl (fun K hK => ?_) AllReadyH.nil
  go_simp
  refine (PlainLc_any ⟨lA, ln, lc, lL⟩ _).mono ?_
  rintro x9 w6 ⟨rfl, hb0⟩
  have HW6 := hide (HW5.out.trans (hb0.mono HW5.out.size))
  clear hb0
  refine hK.out _ _ ⟨HW6.out, hc.out _ HW6.out⟩ (fun hHeld => ?_)
  clear hK K
  try simp only [Act.put, List.setIfInBounds_toArray, List.set_cons_zero, List.set_cons_succ]
  refine wpAnyH_ready (rs := [42]) (by kernel_rfl) (by simp) ?_
  refine AllReadyH.cons rfl (fun K hK => ?_) AllReadyH.nil
  go_simp
  refine (EqLcs_is (s := ⟨lA, ln, lc, lL⟩) (t := ⟨lA', ln', lc', lL'⟩) H5.out _ (Lcs2.up HX.out.locals HW6.out) (Lcs2.up HY.out.locals HW6.out)).mono ?_
  rintro x9 w7 ⟨rfl, hb0⟩
  have HW7 := hide (HW6.out.trans (hb0.mono HW6.out.size))
  clear hb0
  refine hK.out _ _ ⟨HW7.out, hc.out _ HW7.out⟩ (fun hHeld => ?_)
  clear hK K
  try simp only [Act.put, List.setIfInBounds_toArray, List.set_cons_zero, List.set_cons_succ]
  refine takeY (i := 43) (d := some 48) (v := ?_) rfl rfl (by kernel_rfl) (by kernel_rfl) (by kernel_rfl) (fun _ _ _ h => h) (by rfl) ?_ hHeld ?_
  rotate_left
  · intro w9 hS9
    first | (go_simp; done) | (go_simp; with_reducible rfl)
  try simp only [Act.put, List.setIfInBounds_toArray, List.set_cons_zero, List.set_cons_succ]
  refine takeY (i := 44) (d := some 49) (v := ?_) rfl rfl (by kernel_rfl) (by kernel_rfl) (by kernel_rfl) (fun _ _ _ h => h) (by rfl) ?_ hHeld ?_
  rotate_left
  · intro w9 hS9
    first | (go_simp; done) | (go_simp; with_reducible rfl)
  try simp only [Act.put, List.setIfInBounds_toArray, List.set_cons_zero, List.set_cons_succ]
  refine takeY (i := 45) (d := some 50) (v := ?_) rfl rfl (by kernel_rfl) (by kernel_rfl) (by kernel_rfl) (fun _ _ _ h => h) (by rfl) ?_ hHeld ?_
  rotate_left
  · intro w9 hS9
    first | (go_simp; done) | (go_simp; with_reducible rfl)
  try simp only [Act.put, List.setIfInBounds_toArray, List.set_cons_zero, List.set_cons_succ]
  refine takeY (i := 46) (d := some 51) (v := ?_) rfl rfl (by kernel_rfl) (by kernel_rfl) (by kernel_rfl) (fun _ _ _ h => h) (by rfl) ?_ hHeld ?_
  rotate_left
  · intro w9 hS9
    obtain ⟨_, c0, d0, c1, d1, c2, d2, c3, d3, c4, d4, c5, d5, c6, d6⟩ := hS9
    first | (go_simp; done) | (go_simp; with_reducible rfl)
  try simp only [Act.put, List.setIfInBounds_toArray, List.set_cons_zero, List.set_cons_succ]
  refine takeY (i := 47) (d := some 52) (v := ?_) rfl rfl (by kernel_rfl) (by kernel_rfl) (by kernel_rfl) (fun _ _ _ h => h) (by rfl) ?_ hHeld ?_
  rotate_left
  · intro w9 hS9
    first | (go_simp; done) | (go_simp; with_reducible rfl)
  try simp only [Act.put, List.setIfInBounds_toArray, List.set_cons_zero, List.set_cons_succ]
  refine takeY (i := 48) (d := some 53) (v := ?_) rfl rfl (by kernel_rfl) (by kernel_rfl) (by kernel_rfl) (fun _ _ _ h => h) (by rfl) ?_ hHeld ?_
  rotate_left
  · intro w9 hS9
    first | (go_simp; done) | (go_simp; with_reducible rfl)
  try simp only [Act.put, List.setIfInBounds_toArray, List.set_cons_zero, List.set_cons_succ]
  refine takeY (i := 49) (d := some 54) (v := ?_) rfl rfl (by kernel_rfl) (by kernel_rfl) (by kernel_rfl) (fun _ _ _ h => h) (by rfl) ?_ hHeld ?_
  rotate_left
  · intro w9 hS9
    obtain ⟨_, c0, d0, c1, d1, c2, d2, c3, d3, c4, d4, c5, d5, c6, d6⟩ := hS9
    first | (go_simp; done) | (go_simp; with_reducible rfl)
  try simp only [Act.put, List.setIfInBounds_toArray, List.set_cons_zero, List.set_cons_succ]
  refine wpAnyH_ready (rs := [50]) (by kernel_rfl) (by simp) ?_
  refine AllReadyH.cons rfl (fun K hK => ?_) AllReadyH.nil
  go_simp
  refine (EqBks_is (s := ⟨bA, bn, bc, bL⟩) (t := ⟨bA', bn', bc', bL'⟩) H6.out _ (Bks2.up HX.out.blocks HW7.out) (Bks2.up HY.out.blocks HW7.out)).mono ?_
  rintro x9 w8 ⟨rfl, hb0⟩
  have HW8 := hide (HW7.out.trans (hb0.mono HW7.out.size))
  clear hb0
  refine hK.out _ _ ⟨HW8.out, hc.out _ HW8.out⟩ (fun hHeld => ?_)
  clear hK K
  try simp only [Act.put, List.setIfInBounds_toArray, List.set_cons_zero, List.set_cons_succ]
  refine takeY (i := 51) (d := some 56) (v := ?_) rfl rfl (by kernel_rfl) (by kernel_rfl) (by kernel_rfl) (fun _ _ _ h => h) (by rfl) ?_ hHeld ?_
  rotate_left
  · intro w9 hS9
    first | (go_simp; done) | (go_simp; with_reducible rfl)
  try simp only [Act.put, List.setIfInBounds_toArray, List.set_cons_zero, List.set_cons_succ]
  refine takeY (i := 52) (d := some 4) (v := ?_) rfl rfl (by kernel_rfl) (by kernel_rfl) (by kernel_rfl) (fun _ _ _ h => h) (by rfl) ?_ hHeld ?_
  rotate_left
  · intro w9 hS9
    first | (go_simp; done) | (go_simp; with_reducible rfl)
  try simp only [Act.put, List.setIfInBounds_toArray, List.set_cons_zero, List.set_cons_succ]
  refine wpAnyH_done (by kernel_rfl) ?_ _
  go_wp2
  go_ret
  exact ⟨rfl, HB.out.trans (HW8.out.mono HB.out.size)⟩

theorem EqBd_any (x y : BdW) (w : World) (hx : OneBd w w.heap.size x) (hy : OneBd w w.heap.size y) :
    Calls Tryz.prog 11 #[aggBd x, aggBd y] w fun e w' => e = .returned (.bool (eqBd x y)) ∧ Below w.heap.size w w' := by
  obtain ⟨nm, ⟨rA, rn, rc, rL⟩, ⟨oA, on, oc, oL⟩, ⟨tA, tn, tc, tL⟩, ⟨lA, ln, lc, lL⟩, k, ⟨bA, bn, bc, bL⟩⟩ := x
  obtain ⟨nm', ⟨rA', rn', rc', rL'⟩, ⟨oA', on', oc', oL'⟩, ⟨tA', tn', tc', tL'⟩, ⟨lA', ln', lc', lL'⟩, k', ⟨bA', bn', bc', bL'⟩⟩ := y
  have hv : ∀ b, (nm = nm' ∧ k = k' ∧ eqStrs ⟨rA, rn, rc, rL⟩ ⟨rA', rn', rc', rL'⟩ = true ∧ eqPrs ⟨oA, on, oc, oL⟩ ⟨oA', on', oc', oL'⟩ = true ∧ eqTys ⟨tA, tn, tc, tL⟩ ⟨tA', tn', tc', tL'⟩ = true ∧ eqLcs ⟨lA, ln, lc, lL⟩ ⟨lA', ln', lc', lL'⟩ = true ∧ eqBks ⟨bA, bn, bc, bL⟩ ⟨bA', bn', bc', bL'⟩ = true ↔ b = true) → eqBd ⟨nm, ⟨rA, rn, rc, rL⟩, ⟨oA, on, oc, oL⟩, ⟨tA, tn, tc, tL⟩, ⟨lA, ln, lc, lL⟩, k, ⟨bA, bn, bc, bL⟩⟩ ⟨nm', ⟨rA', rn', rc', rL'⟩, ⟨oA', on', oc', oL'⟩, ⟨tA', tn', tc', tL'⟩, ⟨lA', ln', lc', lL'⟩, k', ⟨bA', bn', bc', bL'⟩⟩ = b := fun b h => by rw [Bool.eq_iff_iff, ← h, eqBd_iff]
  by_cases e0 : nm = nm'
  rotate_left
  · rw [hv false (by simp [e0])]
    exact eqBd0 _ _ _ _ _ _ _ _ _ _ _ _ _ _ _ _ _ _ _ _ _ _ _ _ _ _ _ _ _ _ _ _ _ _ _ _ _ _ _ _ _ _ _ _ (str_ne e0) w hx hy
  subst e0
  by_cases e1 : k = k'
  rotate_left
  · rw [hv false (by simp [e1])]
    exact eqBd1 _ _ _ _ _ _ _ _ _ _ _ _ _ _ _ _ _ _ _ _ _ _ _ _ _ _ _ _ _ _ _ _ _ _ _ _ _ _ _ _ _ _ _ (by simpa using e1) w hx hy
  subst e1
  cases e2 : eqStrs ⟨rA, rn, rc, rL⟩ ⟨rA', rn', rc', rL'⟩
  · rw [hv false (by simp [e2])]
    exact eqBd2 _ _ _ _ _ _ _ _ _ _ _ _ _ _ _ _ _ _ _ _ _ _ _ _ _ _ _ _ _ _ _ _ _ _ _ _ _ _ _ _ _ _ e2 w hx hy
  cases e3 : eqPrs ⟨oA, on, oc, oL⟩ ⟨oA', on', oc', oL'⟩
  · rw [hv false (by simp [e3])]
    exact eqBd3 _ _ _ _ _ _ _ _ _ _ _ _ _ _ _ _ _ _ _ _ _ _ _ _ _ _ _ _ _ _ _ _ _ _ _ _ _ _ _ _ _ _ e2 e3 w hx hy
  cases e4 : eqTys ⟨tA, tn, tc, tL⟩ ⟨tA', tn', tc', tL'⟩
  · rw [hv false (by simp [e4])]
    exact eqBd4 _ _ _ _ _ _ _ _ _ _ _ _ _ _ _ _ _ _ _ _ _ _ _ _ _ _ _ _ _ _ _ _ _ _ _ _ _ _ _ _ _ _ e2 e3 e4 w hx hy
  cases e5 : eqLcs ⟨lA, ln, lc, lL⟩ ⟨lA', ln', lc', lL'⟩
  · rw [hv false (by simp [e5])]
    exact eqBd5 _ _ _ _ _ _ _ _ _ _ _ _ _ _ _ _ _ _ _ _ _ _ _ _ _ _ _ _ _ _ _ _ _ _ _ _ _ _ _ _ _ _ e2 e3 e4 e5 w hx hy
  cases e6 : eqBks ⟨bA, bn, bc, bL⟩ ⟨bA', bn', bc', bL'⟩
  · rw [hv false (by simp [e6])]
    exact eqBd6 _ _ _ _ _ _ _ _ _ _ _ _ _ _ _ _ _ _ _ _ _ _ _ _ _ _ _ _ _ _ _ _ _ _ _ _ _ _ _ _ _ _ e2 e3 e4 e5 e6 w hx hy
  rw [hv true (by simp [e2, e3, e4, e5, e6])]
  exact eqBd7 _ _ _ _ _ _ _ _ _ _ _ _ _ _ _ _ _ _ _ _ _ _ _ _ _ _ _ _ _ _ _ _ _ _ _ _ _ _ _ _ _ _ e2 e3 e4 e5 e6 w hx hy
theorem EqBd_is {x y : BdW} {v : Bool} (h : eqBd x y = v) (w : World) (hx : OneBd w w.heap.size x) (hy : OneBd w w.heap.size y) :
    Calls Tryz.prog 11 #[aggBd x, aggBd y] w fun e w' => e = .returned (.bool v) ∧ Below w.heap.size w w' := h ▸ EqBd_any x y w hx hy

end Go.Proofs.YtbdimnncobpfdaaGreat
