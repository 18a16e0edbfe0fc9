/- Part 13 of the contracts and their mathematics. -/
import Derived.Test.YtfgacmgjpikgaaaGreatDoorQ11
import Derived.Deep.RegionHeld3
set_option linter.unusedVariables false
set_option linter.unusedSimpArgs false
namespace Go.Proofs.YtfgacmgjpikgaaaGreatDoor
open Go.RowKit
def szOps (s : SlW OpW) : Nat := s.n + sumN (fun o => o.pl.n) s.L
def szSt (s : StW) : Nat := s.pl.n + s.rv.pl.n + szOps s.rv.args
def szBk (b : BkW) : Nat := 1 + b.stmts.n + b.term.targets.n + b.term.pl.n + min b.term.name.size 9000 + sumN szSt b.stmts.L + szOps b.term.args
def szR (s : ByteArray) : Nat := 1 + min s.size 9000
def szT (t : TyW) : Nat := 1 + min t.n 9000
def szL (l : LcW) : Nat := 1 + min l.name.size 9000
def szB (x : BdW) : Nat := min x.name.size 9000 + x.outl.n + sumN szR x.regions.L + sumN szT x.types.L + sumN szL x.locals.L + sumN szBk x.blocks.L
def st1 (w : World) (x : StW) : World := w.alloc (.cells #[.int .i64 x.kind, .int .i64 x.pl.l, .slice x.pl.A x.pl.n x.pl.c, .int .i64 x.rv.kind, .int .i64 x.rv.op, .int .i64 x.rv.region, .bool x.rv.mut_, .int .i64 x.rv.pl.l, .slice x.rv.pl.A x.rv.pl.n x.rv.pl.c, .slice x.rv.args.A x.rv.args.n x.rv.args.c, .int .i64 x.loc] 46)
theorem st1_size (w : World) (x : StW) : (st1 w x).heap.size = w.heap.size + 1 := by simp [st1]
theorem st1_below (w : World) (x : StW) : Below w.heap.size w (st1 w x) := (Below.refl _ w).alloc (Nat.le_refl _) _
theorem st1_cells {w w' : World} {x : StW} (h : Below (st1 w x).heap.size (st1 w x) w') : ∀ j u, (cSt x)[j]? = some u → w'.cell? ⟨w.heap.size, j, none⟩ = some u := by
 have hs := st1_size w x
 intro j u hu
 refine (h.cell (show w.heap.size < (st1 w x).heap.size by omega)).trans ?_
 unfold st1
 simp only [cSt] at hu
 rw [← hu]
 rcases j with _ | _ | _ | _ | _ | _ | _ | _ | _ | _ | _ | j <;> simp [go_sem]
def LargeOut (w : World) (x : BdW) (e : Ending) (w' : World) : Prop := (e = .returned (.int .i64 1) ∨ e = .returned (.int .i64 0) ∧ szB x ≤ 3000) ∧ Below w.heap.size w w'
set_option maxHeartbeats 8000000 in
set_option maxRecDepth 100000 in
theorem Large_any (x : BdW) (w : World) (hx : OneBd w w.heap.size x) (hF : FitBd x) :
  Calls Tryz.prog 16 #[aggBd x] w (LargeOut w x) := by
 have HB := hide (bd1_below w x)
 have HX := hide (hx.up HB.out)
 have HRL := hide hx.regions.len
 have HTL := hide hx.types.len
 have HLL := hide hx.locals.len
 have HBL := hide hx.blocks.len
 have hbn := hx.blocks.nm
 have hs := hide fun (w' : World) (h : Below (bd1 w x).heap.size (bd1 w x) w') => bd1_cells h
 have hr47 := hF.regions
 have ho47 := hF.outl
 have ht47 := hF.types
 have hl47 := hF.locals
 have HFB := hide hF.blocks
 have hnm := hx.name
 clear hx hF
 obtain ⟨nm, ⟨rA, rn, rc, rL⟩, ⟨oA, on, oc, oL⟩, ⟨tA, tn, tc, tL⟩, ⟨lA, ln, lc, lL⟩, ar, ⟨bA, bn, bc, bL⟩⟩ := x
 simp only [] at hbn hr47 ho47 ht47 hl47 hnm
 unfold maxLen at hbn hnm
 obtain ⟨q0, hq0⟩ : ∃ q, min nm.size 9000 = q := ⟨_, rfl⟩
 have hq9 : q0 ≤ 9000 := by omega
 obtain ⟨S1, hS1⟩ : ∃ S, sumN szR rL = S := ⟨_, rfl⟩
 obtain ⟨S2, hS2⟩ : ∃ S, sumN szT tL = S := ⟨_, rfl⟩
 obtain ⟨S3, hS3⟩ : ∃ S, sumN szL lL = S := ⟨_, rfl⟩
 have HSZ := hide (show ∀ r, q0 + on + S1 + S2 + S3 + sumN szBk bL ≤ r → szB ⟨nm, ⟨rA, rn, rc, rL⟩, ⟨oA, on, oc, oL⟩, ⟨tA, tn, tc, tL⟩, ⟨lA, ln, lc, lL⟩, ar, ⟨bA, bn, bc, bL⟩⟩ ≤ r from fun r h => by unfold szB; simp only [hq0, hS1, hS2, hS3]; exact h)
 have HS1 := hide hS1
 have HS2 := hide hS2
 have HS3 := hide hS3
 clear hS1 hS2 hS3
 by_cases h9 : 9000 < nm.size
 ·
  have hi1 : (9000 : Int) < (nm.size : Int) := by omega
  have hi2 : (9000 : Int) ≤ (nm.size : Int) := by omega
  have hq := hide (show q0 = 9000 by omega)
  have t0 : IntKind.i64.wrap (9000 + (on : Int)) = 9000 + (on : Int) := wrapI9 _ (by omega) (by omega)
  clear hq0
  go_enter Tryz.func16, Tryz.ntmps16
  go_wp2
  go_loopw [3, 25] (fun v i wr => ∃ j m : Nat, i = .int .i64 (j : Int) ∧ v = .int .i64 (m : Int) ∧ j ≤ rn ∧ m ≤ 140737488364328 + 9001 * (0 + j) ∧ Hid (m = q0 + on + sumN szR (rL.take j)) ∧ Hid (Below (bd1 w ⟨nm, ⟨rA, rn, rc, rL⟩, ⟨oA, on, oc, oL⟩, ⟨tA, tn, tc, tL⟩, ⟨lA, ln, lc, lL⟩, ar, ⟨bA, bn, bc, bL⟩⟩).heap.size (bd1 w ⟨nm, ⟨rA, rn, rc, rL⟩, ⟨oA, on, oc, oL⟩, ⟨tA, tn, tc, tL⟩, ⟨lA, ln, lc, lL⟩, ar, ⟨bA, bn, bc, bL⟩⟩) wr)) (fun _ i _ => rn - (intOf i).toNat)
  case atStart => exact ⟨0, q0 + on, rfl, congrArg (fun z : Int => Value.int .i64 z) (by have := hq.out; omega), Nat.zero_le _, by omega, hide (by simp [sumN]), hide (Below.refl _ _)⟩
  case round =>
   clear t0
   obtain ⟨j, m, rfl, rfl, hj, hm, HM, HR1⟩ := hrel
   have hsz : (bd1 w ⟨nm, ⟨rA, rn, rc, rL⟩, ⟨oA, on, oc, oL⟩, ⟨tA, tn, tc, tL⟩, ⟨lA, ln, lc, lL⟩, ar, ⟨bA, bn, bc, bL⟩⟩).heap.size ≤ wr.heap.size := HR1.out.size
   by_cases hlt : j < rn
   ·
    obtain ⟨p, hp⟩ := HX.out.regions.get hlt
    obtain ⟨g, o, hA, hg, h1, c0⟩ := HX.out.regions.at_ hp
    simp only [] at hA
    subst hA
    have hlt' : (j : Int) < (rn : Int) := by omega
    have c0_ := (HR1.out.cell hg).trans (c0 0 _ rfl)
    simp only [Nat.mul_one, Nat.add_zero] at c0_
    have hu := sumN_up (f := szR) hp
    have HB2 := hide (HR1.out)
    by_cases hb : 9000 < p.size
    ·
     have hb1 : (9000 : Int) < (p.size : Int) := by omega
     have hb2 : (9000 : Int) ≤ (p.size : Int) := by omega
     have HM2 := hide (show m + (1 + 9000) = q0 + on + sumN szR (rL.take (j + 1)) by rw [hu, HM.out, show szR p = 1 + 9000 by unfold szR; omega, Nat.add_assoc])
     have t1 : IntKind.i64.wrap ((m : Int) + 9001) = (m : Int) + 9001 := wrapI9 _ (by omega) (by omega)
     have t2 : IntKind.i64.wrap (1 + 9000) = 1 + 9000 := wrapI9 _ (by omega) (by omega)
     clear c0 h1 hu hp
     go_wp2
     go_roundw
     case rel => exact ⟨j + 1, m + (1 + 9000), by go_num, congrArg (fun z : Int => Value.int .i64 z) (by omega), by omega, by omega, HM2, HB2⟩
     case measure => simp [intOf]; omega
    ·
     have hb1 : ¬ (9000 : Int) < (p.size : Int) := by omega
     have hb2 : (p.size : Int) ≤ 9000 := by omega
     have HM2 := hide (show m + (1 + p.size) = q0 + on + sumN szR (rL.take (j + 1)) by rw [hu, HM.out, show szR p = 1 + p.size by unfold szR; omega, Nat.add_assoc])
     have t1 : IntKind.i64.wrap ((m : Int) + (1 + (p.size : Int))) = (m : Int) + (1 + (p.size : Int)) := wrapI9 _ (by omega) (by omega)
     have t2 : IntKind.i64.wrap (1 + (p.size : Int)) = 1 + (p.size : Int) := wrapI9 _ (by omega) (by omega)
     clear c0 h1 hu hp
     go_wp2
     go_roundw
     case rel => exact ⟨j + 1, m + (1 + p.size), by go_num, congrArg (fun z : Int => Value.int .i64 z) (by omega), by omega, by omega, HM2, HB2⟩
     case measure => simp [intOf]; omega
   ·
    have hjn : rn = j := by omega
    have hge : ¬ (j : Int) < (rn : Int) := by omega
    have HM1 := hide (show m = q0 + on + S1 by rw [HM.out, ← hjn, sumN_all _ HRL.out, HS1.out])
    have hm2 : m ≤ 140737488364328 + 9001 * rn := by omega
    clear hjn HM
    have v3 := hs.out _ HR1.out 3 _ rfl
    simp only [] at v3
    go_wp2
    clear v3 hge hlt hj hm hsz
    go_loopw [3, 39] (fun v i wr => ∃ j m : Nat, i = .int .i64 (j : Int) ∧ v = .int .i64 (m : Int) ∧ j ≤ tn ∧ m ≤ 140737488364328 + 9001 * (rn + j) ∧ Hid (m = q0 + on + S1 + sumN szT (tL.take j)) ∧ Hid (Below (bd1 w ⟨nm, ⟨rA, rn, rc, rL⟩, ⟨oA, on, oc, oL⟩, ⟨tA, tn, tc, tL⟩, ⟨lA, ln, lc, lL⟩, ar, ⟨bA, bn, bc, bL⟩⟩).heap.size (bd1 w ⟨nm, ⟨rA, rn, rc, rL⟩, ⟨oA, on, oc, oL⟩, ⟨tA, tn, tc, tL⟩, ⟨lA, ln, lc, lL⟩, ar, ⟨bA, bn, bc, bL⟩⟩) wr)) (fun _ i _ => tn - (intOf i).toNat)
    case atStart => exact ⟨0, m, rfl, rfl, Nat.zero_le _, by omega, hide (by rw [HM1.out]; simp [sumN]), HR1⟩
    case round =>
     clear hm2 HR1 HM1
     obtain ⟨j, m, rfl, rfl, hj, hm, HM, HR2⟩ := hrel
     have hsz : (bd1 w ⟨nm, ⟨rA, rn, rc, rL⟩, ⟨oA, on, oc, oL⟩, ⟨tA, tn, tc, tL⟩, ⟨lA, ln, lc, lL⟩, ar, ⟨bA, bn, bc, bL⟩⟩).heap.size ≤ wr.heap.size := HR2.out.size
     by_cases hlt : j < tn
     ·
      obtain ⟨p, hp⟩ := HX.out.types.get hlt
      obtain ⟨g, o, hA, hg, h1, c0⟩ := HX.out.types.at_ hp
      simp only [] at hA
      subst hA
      have hlt' : (j : Int) < (tn : Int) := by omega
      have c0_ := (HR2.out.cell hg).trans (c0 0 _ rfl)
      have c1_ := (HR2.out.cell hg).trans (c0 1 _ rfl)
      have c2_ := (HR2.out.cell hg).trans (c0 2 _ rfl)
      have c3_ := (HR2.out.cell hg).trans (c0 3 _ rfl)
      have c4_ := (HR2.out.cell hg).trans (c0 4 _ rfl)
      simp only [Nat.mul_one, Nat.add_zero] at c0_ c1_ c2_ c3_ c4_
      have hu := sumN_up (f := szT) hp
      have HB2 := hide (HR2.out.alloc hsz (.cells #[.int .i64 p.t.kind, .bool p.t.mut_, .int .i64 p.t.region, .int .i64 p.t.elem, .slice p.A p.n p.c] 62))
      by_cases hb : 9000 < p.n
      ·
       have hb1 : (9000 : Int) < (p.n : Int) := by omega
       have hb2 : (9000 : Int) ≤ (p.n : Int) := by omega
       have HM2 := hide (show m + (1 + 9000) = q0 + on + S1 + sumN szT (tL.take (j + 1)) by rw [hu, HM.out, show szT p = 1 + 9000 by unfold szT; omega, Nat.add_assoc])
       have t1 : IntKind.i64.wrap ((m : Int) + 9001) = (m : Int) + 9001 := wrapI9 _ (by omega) (by omega)
       have t2 : IntKind.i64.wrap (1 + 9000) = 1 + 9000 := wrapI9 _ (by omega) (by omega)
       clear c0 h1 hu hp
       go_wp2
       go_roundw
       case rel => exact ⟨j + 1, m + (1 + 9000), by go_num, congrArg (fun z : Int => Value.int .i64 z) (by omega), by omega, by omega, HM2, HB2⟩
       case measure => simp [intOf]; omega
      ·
       have hb1 : ¬ (9000 : Int) < (p.n : Int) := by omega
       have hb2 : (p.n : Int) ≤ 9000 := by omega
       have HM2 := hide (show m + (1 + p.n) = q0 + on + S1 + sumN szT (tL.take (j + 1)) by rw [hu, HM.out, show szT p = 1 + p.n by unfold szT; omega, Nat.add_assoc])
       have t1 : IntKind.i64.wrap ((m : Int) + (1 + (p.n : Int))) = (m : Int) + (1 + (p.n : Int)) := wrapI9 _ (by omega) (by omega)
       have t2 : IntKind.i64.wrap (1 + (p.n : Int)) = 1 + (p.n : Int) := wrapI9 _ (by omega) (by omega)
       clear c0 h1 hu hp
       go_wp2
       go_roundw
       case rel => exact ⟨j + 1, m + (1 + p.n), by go_num, congrArg (fun z : Int => Value.int .i64 z) (by omega), by omega, by omega, HM2, HB2⟩
       case measure => simp [intOf]; omega
     ·
      have hjn : tn = j := by omega
      have hge : ¬ (j : Int) < (tn : Int) := by omega
      have HM2 := hide (show m = q0 + on + S1 + S2 by rw [HM.out, ← hjn, sumN_all _ HTL.out, HS2.out])
      have hm2 : m ≤ 140737488364328 + 9001 * (rn + tn) := by omega
      clear hjn HM
      have v4 := hs.out _ HR2.out 4 _ rfl
      simp only [] at v4
      go_wp2
      clear v4 hge hlt hj hm hsz
      go_loopw [3, 54] (fun v i wr => ∃ j m : Nat, i = .int .i64 (j : Int) ∧ v = .int .i64 (m : Int) ∧ j ≤ ln ∧ m ≤ 140737488364328 + 9001 * ((rn + tn) + j) ∧ Hid (m = q0 + on + S1 + S2 + sumN szL (lL.take j)) ∧ Hid (Below (bd1 w ⟨nm, ⟨rA, rn, rc, rL⟩, ⟨oA, on, oc, oL⟩, ⟨tA, tn, tc, tL⟩, ⟨lA, ln, lc, lL⟩, ar, ⟨bA, bn, bc, bL⟩⟩).heap.size (bd1 w ⟨nm, ⟨rA, rn, rc, rL⟩, ⟨oA, on, oc, oL⟩, ⟨tA, tn, tc, tL⟩, ⟨lA, ln, lc, lL⟩, ar, ⟨bA, bn, bc, bL⟩⟩) wr)) (fun _ i _ => ln - (intOf i).toNat)
      case atStart => exact ⟨0, m, rfl, rfl, Nat.zero_le _, by omega, hide (by rw [HM2.out]; simp [sumN]), HR2⟩
      case round =>
       clear hm2 HR2 HM2
       obtain ⟨j, m, rfl, rfl, hj, hm, HM, HR3⟩ := hrel
       have hsz : (bd1 w ⟨nm, ⟨rA, rn, rc, rL⟩, ⟨oA, on, oc, oL⟩, ⟨tA, tn, tc, tL⟩, ⟨lA, ln, lc, lL⟩, ar, ⟨bA, bn, bc, bL⟩⟩).heap.size ≤ wr.heap.size := HR3.out.size
       by_cases hlt : j < ln
       ·
        obtain ⟨p, hp⟩ := HX.out.locals.get hlt
        obtain ⟨g, o, hA, hg, h1, c0⟩ := HX.out.locals.at_ hp
        simp only [] at hA
        subst hA
        have hlt' : (j : Int) < (ln : Int) := by omega
        have c0_ := (HR3.out.cell hg).trans (c0 0 _ rfl)
        have c1_ := (HR3.out.cell hg).trans (c0 1 _ rfl)
        simp only [Nat.mul_one, Nat.add_zero] at c0_ c1_
        have hu := sumN_up (f := szL) hp
        have HB2 := hide (HR3.out.alloc hsz (.cells #[.string p.name, .int .i64 p.ty] 64))
        by_cases hb : 9000 < p.name.size
        ·
         have hb1 : (9000 : Int) < (p.name.size : Int) := by omega
         have hb2 : (9000 : Int) ≤ (p.name.size : Int) := by omega
         have HM2 := hide (show m + (1 + 9000) = q0 + on + S1 + S2 + sumN szL (lL.take (j + 1)) by rw [hu, HM.out, show szL p = 1 + 9000 by unfold szL; omega, Nat.add_assoc])
         have t1 : IntKind.i64.wrap ((m : Int) + 9001) = (m : Int) + 9001 := wrapI9 _ (by omega) (by omega)
         have t2 : IntKind.i64.wrap (1 + 9000) = 1 + 9000 := wrapI9 _ (by omega) (by omega)
         clear c0 h1 hu hp
         go_wp2
         go_roundw
         case rel => exact ⟨j + 1, m + (1 + 9000), by go_num, congrArg (fun z : Int => Value.int .i64 z) (by omega), by omega, by omega, HM2, HB2⟩
         case measure => simp [intOf]; omega
        ·
         have hb1 : ¬ (9000 : Int) < (p.name.size : Int) := by omega
         have hb2 : (p.name.size : Int) ≤ 9000 := by omega
         have HM2 := hide (show m + (1 + p.name.size) = q0 + on + S1 + S2 + sumN szL (lL.take (j + 1)) by rw [hu, HM.out, show szL p = 1 + p.name.size by unfold szL; omega, Nat.add_assoc])
         have t1 : IntKind.i64.wrap ((m : Int) + (1 + (p.name.size : Int))) = (m : Int) + (1 + (p.name.size : Int)) := wrapI9 _ (by omega) (by omega)
         have t2 : IntKind.i64.wrap (1 + (p.name.size : Int)) = 1 + (p.name.size : Int) := wrapI9 _ (by omega) (by omega)
         clear c0 h1 hu hp
         go_wp2
         go_roundw
         case rel => exact ⟨j + 1, m + (1 + p.name.size), by go_num, congrArg (fun z : Int => Value.int .i64 z) (by omega), by omega, by omega, HM2, HB2⟩
         case measure => simp [intOf]; omega
       ·
        have hjn : ln = j := by omega
        have hge : ¬ (j : Int) < (ln : Int) := by omega
        have HM3 := hide (show m = q0 + on + S1 + S2 + S3 by rw [HM.out, ← hjn, sumN_all _ HLL.out, HS3.out])
        have hm2 : m ≤ 140737488364328 + 9001 * (rn + tn + ln) := by omega
        clear hjn HM
        have v6 := hs.out _ HR3.out 6 _ rfl
        simp only [] at v6
        by_cases h30 : 3000 < m
        ·
         have hi30 : (3000 : Int) < (m : Int) := by omega
         go_wp2
         go_ret
         exact ⟨.inl rfl, HB.out.trans (HR3.out.mono HB.out.size)⟩
        have hi30 : ¬ (3000 : Int) < (m : Int) := by omega
        go_wp2
        clear v6 hge hlt hj hm hsz hm2 hi30
        go_loopw [3, 71] (fun v i wr => ∃ j m : Nat, i = .int .i64 (j : Int) ∧ v = .int .i64 (m : Int) ∧ j ≤ bn ∧ m ≤ 21000 ∧ Hid (m ≤ 3000 → m = q0 + on + S1 + S2 + S3 + sumN szBk (bL.take j)) ∧ Hid (Below (bd1 w ⟨nm, ⟨rA, rn, rc, rL⟩, ⟨oA, on, oc, oL⟩, ⟨tA, tn, tc, tL⟩, ⟨lA, ln, lc, lL⟩, ar, ⟨bA, bn, bc, bL⟩⟩).heap.size (bd1 w ⟨nm, ⟨rA, rn, rc, rL⟩, ⟨oA, on, oc, oL⟩, ⟨tA, tn, tc, tL⟩, ⟨lA, ln, lc, lL⟩, ar, ⟨bA, bn, bc, bL⟩⟩) wr)) (fun _ i _ => bn - (intOf i).toNat)
        case atStart => exact ⟨0, m, rfl, rfl, Nat.zero_le _, by omega, hide (fun _ => by rw [HM3.out]; simp [sumN]), HR3⟩
        case round =>
         clear HM3 HR3 h30
         rename World => wo
         obtain ⟨j, m, rfl, rfl, hj, hm, HM, HR4⟩ := hrel
         by_cases hlt : j < bn
         ·
          obtain ⟨p, hp⟩ := HX.out.blocks.get hlt
          obtain ⟨g, o, hA, hg, h1, c0⟩ := HX.out.blocks.at_ hp
          have hfb := HFB.out p (List.mem_of_getElem? hp)
          simp only [] at hA
          subst hA
          have hu := sumN_up (f := szBk) hp
          obtain ⟨⟨sA, sn, sc, sL⟩, ⟨tk, ⟨uA, un, uc, uL⟩, ⟨gA, gn, gc, gL⟩, ⟨pl, pA, pn, pc, ps⟩, tnm⟩⟩ := p
          have hlt' : (j : Int) < (bn : Int) := by omega
          have f1 := hfb.stmts
          have f2 := hfb.targets
          have f3 := hfb.pl
          have HF4 := hide hfb.sts
          have HP := hide h1
          have HSL := hide h1.stmts.len
          have hsn := h1.stmts.nm
          unfold maxLen at hsn
          have htz : tnm.size ≤ 9223372036854775807 := h1.term.name
          simp only [] at f1 f2 f3 hsn
          have HU := hide hu
          clear hfb h1 hu hp
          have c0_ := (HR4.out.cell hg).trans (c0 0 _ rfl)
          have c1_ := (HR4.out.cell hg).trans (c0 1 _ rfl)
          have c2_ := (HR4.out.cell hg).trans (c0 2 _ rfl)
          have c3_ := (HR4.out.cell hg).trans (c0 3 _ rfl)
          have c4_ := (HR4.out.cell hg).trans (c0 4 _ rfl)
          have c5_ := (HR4.out.cell hg).trans (c0 5 _ rfl)
          have c6_ := (HR4.out.cell hg).trans (c0 6 _ rfl)
          simp only [Nat.add_zero] at c0_ c1_ c2_ c3_ c4_ c5_ c6_
          have HBK := hide (bk1_below wo ⟨⟨sA, sn, sc, sL⟩, ⟨tk, ⟨uA, un, uc, uL⟩, ⟨gA, gn, gc, gL⟩, ⟨pl, pA, pn, pc, ps⟩, tnm⟩⟩)
          clear c0
          by_cases hb : 9000 < tnm.size
          ·
           have hb1 : (9000 : Int) < (tnm.size : Int) := by omega
           have hb2 : (9000 : Int) ≤ (tnm.size : Int) := by omega
           have k0 : IntKind.i64.wrap (1 + (sn : Int)) = 1 + (sn : Int) := wrapI9 _ (by omega) (by omega)
           have k1 : IntKind.i64.wrap (1 + (sn : Int) + (un : Int)) = 1 + (sn : Int) + (un : Int) := wrapI9 _ (by omega) (by omega)
           have k2 : IntKind.i64.wrap (1 + (sn : Int) + (un : Int) + (pn : Int)) = 1 + (sn : Int) + (un : Int) + (pn : Int) := wrapI9 _ (by omega) (by omega)
           have k3 : IntKind.i64.wrap (1 + (sn : Int) + (un : Int) + (pn : Int) + 9000) = 1 + (sn : Int) + (un : Int) + (pn : Int) + 9000 := wrapI9 _ (by omega) (by omega)
           have k4 : IntKind.i64.wrap ((m : Int) + (1 + (sn : Int) + (un : Int) + (pn : Int) + 9000)) = (m : Int) + (1 + (sn : Int) + (un : Int) + (pn : Int) + 9000) := wrapI9 _ (by omega) (by omega)
           have h3 : (3000 : Int) < (m : Int) + (1 + (sn : Int) + (un : Int) + (pn : Int) + 9000) := by omega
           go_wp2
           go_ret
           exact ⟨.inl rfl, HB.out.trans ((HR4.out.trans (HBK.out.mono HR4.out.size)).mono HB.out.size)⟩
          have hb1 : ¬ (9000 : Int) < (tnm.size : Int) := by omega
          have hb2 : (tnm.size : Int) ≤ 9000 := by omega
          have k0 : IntKind.i64.wrap (1 + (sn : Int)) = 1 + (sn : Int) := wrapI9 _ (by omega) (by omega)
          have k1 : IntKind.i64.wrap (1 + (sn : Int) + (un : Int)) = 1 + (sn : Int) + (un : Int) := wrapI9 _ (by omega) (by omega)
          have k2 : IntKind.i64.wrap (1 + (sn : Int) + (un : Int) + (pn : Int)) = 1 + (sn : Int) + (un : Int) + (pn : Int) := wrapI9 _ (by omega) (by omega)
          have k3 : IntKind.i64.wrap (1 + (sn : Int) + (un : Int) + (pn : Int) + (tnm.size : Int)) = 1 + (sn : Int) + (un : Int) + (pn : Int) + (tnm.size : Int) := wrapI9 _ (by omega) (by omega)
          have k4 : IntKind.i64.wrap ((m : Int) + (1 + (sn : Int) + (un : Int) + (pn : Int) + (tnm.size : Int))) = (m : Int) + (1 + (sn : Int) + (un : Int) + (pn : Int) + (tnm.size : Int)) := wrapI9 _ (by omega) (by omega)
          obtain ⟨m1, hm1⟩ : ∃ m1, m + (1 + sn + un + pn + tnm.size) = m1 := ⟨_, rfl⟩
          have hm1i : (m : Int) + (1 + (sn : Int) + (un : Int) + (pn : Int) + (tnm.size : Int)) = (m1 : Int) := by omega
          replace k4 := k4.trans hm1i
          by_cases h30 : 3000 < m1
          ·
           have h3 : (3000 : Int) < (m1 : Int) := by omega
           clear hm1i
           go_wp2
           go_ret
           exact ⟨.inl rfl, HB.out.trans ((HR4.out.trans (HBK.out.mono HR4.out.size)).mono HB.out.size)⟩
          have h3 : ¬ (3000 : Int) < (m1 : Int) := by omega
          have HM1 := hide (show m1 = q0 + on + S1 + S2 + S3 + sumN szBk (bL.take j) + (1 + sn + un + pn + min tnm.size 9000) by rw [← HM.out (by omega), ← hm1, Nat.min_eq_left (by omega)])
          clear hm1i hm1
          go_wp2
          clear c0_ c1_ c2_ c3_ c4_ c5_ c6_ h3 hb1 hb2 k0 k1 k2 k3 k4
          go_loopw [3, 103] (fun v i wr => ∃ j2 m2 : Nat, i = .int .i64 (j2 : Int) ∧ v = .int .i64 (m2 : Int) ∧ j2 ≤ sn ∧ m2 ≤ 3000 ∧ Hid (m2 = m1 + sumN szSt (sL.take j2)) ∧ Hid (Below (bk1 wo ⟨⟨sA, sn, sc, sL⟩, ⟨tk, ⟨uA, un, uc, uL⟩, ⟨gA, gn, gc, gL⟩, ⟨pl, pA, pn, pc, ps⟩, tnm⟩⟩).heap.size (bk1 wo ⟨⟨sA, sn, sc, sL⟩, ⟨tk, ⟨uA, un, uc, uL⟩, ⟨gA, gn, gc, gL⟩, ⟨pl, pA, pn, pc, ps⟩, tnm⟩⟩) wr)) (fun _ i _ => sn - (intOf i).toNat)
          case atStart => exact ⟨0, m1, rfl, rfl, Nat.zero_le _, by omega, hide (by simp [sumN]), hide (Below.refl _ _)⟩
          case round =>
           obtain ⟨j2, m2, rfl, rfl, hj2, hm2, HM2, HW2⟩ := hrel
           have HRC := hide (HR4.out.trans ((HBK.out.trans (HW2.out.mono HBK.out.size)).mono HR4.out.size))
           by_cases hlt2 : j2 < sn
           ·
            obtain ⟨s, hs2⟩ := HP.out.stmts.get hlt2
            obtain ⟨g3, o3, hA3, hg3, h13, c03⟩ := HP.out.stmts.at_ hs2
            have hf4 := HF4.out s (List.mem_of_getElem? hs2)
            have hu3 := sumN_up (f := szSt) hs2
            simp only [] at hA3
            subst hA3
            have hlt2' : (j2 : Int) < (sn : Int) := by omega
            have f5 := hf4.1
            have f6 := hf4.2
            have c0_ := (HRC.out.cell hg3).trans (c03 0 _ rfl)
            have c1_ := (HRC.out.cell hg3).trans (c03 1 _ rfl)
            have c2_ := (HRC.out.cell hg3).trans (c03 2 _ rfl)
            have c3_ := (HRC.out.cell hg3).trans (c03 3 _ rfl)
            have c4_ := (HRC.out.cell hg3).trans (c03 4 _ rfl)
            have c5_ := (HRC.out.cell hg3).trans (c03 5 _ rfl)
            have c6_ := (HRC.out.cell hg3).trans (c03 6 _ rfl)
            have c7_ := (HRC.out.cell hg3).trans (c03 7 _ rfl)
            have c8_ := (HRC.out.cell hg3).trans (c03 8 _ rfl)
            have c9_ := (HRC.out.cell hg3).trans (c03 9 _ rfl)
            have c10_ := (HRC.out.cell hg3).trans (c03 10 _ rfl)
            simp only [Nat.add_zero] at c0_ c1_ c2_ c3_ c4_ c5_ c6_ c7_ c8_ c9_ c10_
            have HS2 := hide (st1_below wr s)
            have HA := hide (h13.rv.args.up (HRC.out.trans (HS2.out.mono HRC.out.size)))
            have hcs := hide fun (w' : World) (h : Below (st1 wr s).heap.size (st1 wr s) w') => (show w'.cell? ⟨wr.heap.size, 2, none⟩ = some (.slice s.pl.A s.pl.n s.pl.c) ∧ w'.cell? ⟨wr.heap.size, 8, none⟩ = some (.slice s.rv.pl.A s.rv.pl.n s.rv.pl.c) ∧ w'.cell? ⟨wr.heap.size, 9, none⟩ = some (.slice s.rv.args.A s.rv.args.n s.rv.args.c) from ⟨st1_cells h 2 _ rfl, st1_cells h 8 _ rfl, st1_cells h 9 _ rfl⟩)
            have hst : szSt s = s.pl.n + s.rv.pl.n + szOps s.rv.args := rfl
            obtain ⟨T3, hT3⟩ : ∃ T, sumN szSt (List.take j2 sL) = T := ⟨_, rfl⟩
            obtain ⟨T4, hT4⟩ : ∃ T, sumN szSt (List.take (j2 + 1) sL) = T := ⟨_, rfl⟩
            obtain ⟨O3, hO3⟩ : ∃ T, szOps s.rv.args = T := ⟨_, rfl⟩
            have HN := hide (show ∀ r, m2 + (s.pl.n + s.rv.pl.n + r) ≤ 3000 → (r ≤ 3000 → O3 = r) → m2 + (s.pl.n + s.rv.pl.n + r) = m1 + T4 from fun r h1 h2 => by
             have := HM2.out
             have h3 := h2 (by omega)
             simp only [] at hu3
             rw [hT4, hT3, hst, hO3] at hu3
             rw [hT3] at this
             omega)
            have HO3 := hide hO3
            have HT4 := hide hT4
            have s1 : IntKind.i64.wrap ((s.pl.n : Int) + (s.rv.pl.n : Int)) = (s.pl.n : Int) + (s.rv.pl.n : Int) := wrapI9 _ (by omega) (by omega)
            clear c03 h13 hf4 hu3 hst hT3 hT4 hO3 hs2
            go_wp2
            clear c0_ c1_ c2_ c3_ c4_ c5_ c6_ c7_ c8_ c9_ c10_
            change Code.wp _ _ _ _ (st1 wr s)
            go_region_held3 (fun w' => Below (st1 wr s).heap.size (st1 wr s) w' ∧ w'.cell? ⟨wr.heap.size, 2, none⟩ = some (.slice s.pl.A s.pl.n s.pl.c) ∧ w'.cell? ⟨wr.heap.size, 8, none⟩ = some (.slice s.rv.pl.A s.rv.pl.n s.rv.pl.c) ∧ w'.cell? ⟨wr.heap.size, 9, none⟩ = some (.slice s.rv.args.A s.rv.args.n s.rv.args.c))
             (first | exact ⟨by assumption, hcs.out _ (by assumption)⟩ | exact ⟨Below.refl _ _, hcs.out _ (Below.refl _ _)⟩ | exact ⟨(Below.refl _ _).drew, hcs.out _ (Below.refl _ _).drew⟩)
             (first | (go_at_call 37; go_split_ands; refine (LOperands_any s.rv.args _ (HA.out.up (by assumption))).mono ?_; rintro x9 w1 ⟨r, rfl, hr1, hr2, hb0⟩; have hb1 := Below.trans (by assumption : Below (st1 wr s).heap.size (st1 wr s) _) (hb0.mono (Below.size (by assumption : Below (st1 wr s).heap.size (st1 wr s) _))); have s2 : IntKind.i64.wrap ((s.pl.n : Int) + (s.rv.pl.n : Int) + (r : Int)) = (s.pl.n : Int) + (s.rv.pl.n : Int) + (r : Int) := wrapI9 _ (by omega) (by omega); have s3 : IntKind.i64.wrap ((m2 : Int) + ((s.pl.n : Int) + (s.rv.pl.n : Int) + (r : Int))) = (m2 : Int) + ((s.pl.n : Int) + (s.rv.pl.n : Int) + (r : Int)) := wrapI9 _ (by omega) (by omega)))
            all_goals
             go_split_ands
             by_cases h4 : 3000 < m2 + (s.pl.n + s.rv.pl.n + r)
             ·
              have h4i : (3000 : Int) < (m2 : Int) + ((s.pl.n : Int) + (s.rv.pl.n : Int) + (r : Int)) := by omega
              go_wp2
              go_ret
              exact ⟨.inl rfl, HB.out.trans ((HRC.out.trans ((HS2.out.trans (Below.mono (by assumption) HS2.out.size)).mono HRC.out.size)).mono HB.out.size)⟩
             ·
              have h4i : ¬ (3000 : Int) < (m2 : Int) + ((s.pl.n : Int) + (s.rv.pl.n : Int) + (r : Int)) := by omega
              go_wp2
              go_roundw
              case rel => exact ⟨j2 + 1, m2 + (s.pl.n + s.rv.pl.n + r), by go_num, congrArg (fun z : Int => Value.int .i64 z) (by omega), by omega, by omega, hide (by rw [HT4.out]; exact HN.out r (by omega) (fun h => HO3.out ▸ hr2 h)), hide (HW2.out.trans (Below.mono (HS2.out.trans (Below.mono (by assumption) HS2.out.size)) HW2.out.size))⟩
              case measure => simp [intOf]; omega
           ·
            have hjn : sn = j2 := by omega
            have hge : ¬ (j2 : Int) < (sn : Int) := by omega
            have HM5 := hide (show m2 = m1 + sumN szSt sL by rw [HM2.out, ← hjn, sumN_all _ HSL.out])
            have v3 := bk1_cells HW2.out 3 _ rfl
            simp only [] at v3
            clear hjn HM2
            go_wp2_with fail
            refine (LOperands_any ⟨gA, gn, gc, gL⟩ _ (HP.out.term.args.up HRC.out)).mono ?_
            rintro e w3 ⟨r, rfl, hr1, hr2, hb⟩
            have HW3 := hide (HRC.out.trans (hb.mono HRC.out.size))
            have s1 : IntKind.i64.wrap ((m2 : Int) + (r : Int)) = (m2 : Int) + (r : Int) := wrapI9 _ (by omega) (by omega)
            have HFIN := hide (show m2 + r ≤ 3000 → m2 + r = q0 + on + S1 + S2 + S3 + sumN szBk (bL.take (j + 1)) from fun h => by
             have h2 := hr2 (by omega)
             have h3 := HU.out
             simp only [] at h2 h3
             rw [h3, HM5.out, HM1.out, ← h2]
             unfold szBk szOps
             simp only []
             omega)
            clear hb hr2 v3
            go_wp2
            go_roundw
            case rel => exact ⟨j + 1, m2 + r, by go_num, congrArg (fun z : Int => Value.int .i64 z) (by omega), by omega, by omega, HFIN, HW3⟩
            case measure => simp [intOf]; omega
         ·
          have hjn : bn = j := by omega
          have hge : ¬ (j : Int) < (bn : Int) := by omega
          have HFIN := hide (show m ≤ 3000 → szB ⟨nm, ⟨rA, rn, rc, rL⟩, ⟨oA, on, oc, oL⟩, ⟨tA, tn, tc, tL⟩, ⟨lA, ln, lc, lL⟩, ar, ⟨bA, bn, bc, bL⟩⟩ ≤ 3000 from fun h => HSZ.out 3000 (by have := HM.out h; rw [← hjn, sumN_all _ HBL.out] at this; omega))
          clear hjn
          by_cases h4 : 3000 < m
          ·
           have h4i : (3000 : Int) < (m : Int) := by omega
           go_wp2
           go_ret
           exact ⟨.inl rfl, HB.out.trans (HR4.out.mono HB.out.size)⟩
          ·
           have h4i : ¬ (3000 : Int) < (m : Int) := by omega
           go_wp2
           go_ret
           exact ⟨.inr ⟨rfl, HFIN.out (by omega)⟩, HB.out.trans (HR4.out.mono HB.out.size)⟩
 ·
  have hi1 : ¬ (9000 : Int) < (nm.size : Int) := by omega
  have hi2 : (nm.size : Int) ≤ 9000 := by omega
  have hq := hide (show q0 = nm.size by omega)
  have t0 : IntKind.i64.wrap ((nm.size : Int) + (on : Int)) = (nm.size : Int) + (on : Int) := wrapI9 _ (by omega) (by omega)
  clear hq0
  go_enter Tryz.func16, Tryz.ntmps16
  go_wp2
  go_loopw [3, 25] (fun v i wr => ∃ j m : Nat, i = .int .i64 (j : Int) ∧ v = .int .i64 (m : Int) ∧ j ≤ rn ∧ m ≤ 140737488364328 + 9001 * (0 + j) ∧ Hid (m = q0 + on + sumN szR (rL.take j)) ∧ Hid (Below (bd1 w ⟨nm, ⟨rA, rn, rc, rL⟩, ⟨oA, on, oc, oL⟩, ⟨tA, tn, tc, tL⟩, ⟨lA, ln, lc, lL⟩, ar, ⟨bA, bn, bc, bL⟩⟩).heap.size (bd1 w ⟨nm, ⟨rA, rn, rc, rL⟩, ⟨oA, on, oc, oL⟩, ⟨tA, tn, tc, tL⟩, ⟨lA, ln, lc, lL⟩, ar, ⟨bA, bn, bc, bL⟩⟩) wr)) (fun _ i _ => rn - (intOf i).toNat)
  case atStart => exact ⟨0, q0 + on, rfl, congrArg (fun z : Int => Value.int .i64 z) (by have := hq.out; omega), Nat.zero_le _, by omega, hide (by simp [sumN]), hide (Below.refl _ _)⟩
  case round =>
   clear t0
   obtain ⟨j, m, rfl, rfl, hj, hm, HM, HR1⟩ := hrel
   have hsz : (bd1 w ⟨nm, ⟨rA, rn, rc, rL⟩, ⟨oA, on, oc, oL⟩, ⟨tA, tn, tc, tL⟩, ⟨lA, ln, lc, lL⟩, ar, ⟨bA, bn, bc, bL⟩⟩).heap.size ≤ wr.heap.size := HR1.out.size
   by_cases hlt : j < rn
   ·
    obtain ⟨p, hp⟩ := HX.out.regions.get hlt
    obtain ⟨g, o, hA, hg, h1, c0⟩ := HX.out.regions.at_ hp
    simp only [] at hA
    subst hA
    have hlt' : (j : Int) < (rn : Int) := by omega
    have c0_ := (HR1.out.cell hg).trans (c0 0 _ rfl)
    simp only [Nat.mul_one, Nat.add_zero] at c0_
    have hu := sumN_up (f := szR) hp
    have HB2 := hide (HR1.out)
    by_cases hb : 9000 < p.size
    ·
     have hb1 : (9000 : Int) < (p.size : Int) := by omega
     have hb2 : (9000 : Int) ≤ (p.size : Int) := by omega
     have HM2 := hide (show m + (1 + 9000) = q0 + on + sumN szR (rL.take (j + 1)) by rw [hu, HM.out, show szR p = 1 + 9000 by unfold szR; omega, Nat.add_assoc])
     have t1 : IntKind.i64.wrap ((m : Int) + 9001) = (m : Int) + 9001 := wrapI9 _ (by omega) (by omega)
     have t2 : IntKind.i64.wrap (1 + 9000) = 1 + 9000 := wrapI9 _ (by omega) (by omega)
     clear c0 h1 hu hp
     go_wp2
     go_roundw
     case rel => exact ⟨j + 1, m + (1 + 9000), by go_num, congrArg (fun z : Int => Value.int .i64 z) (by omega), by omega, by omega, HM2, HB2⟩
     case measure => simp [intOf]; omega
    ·
     have hb1 : ¬ (9000 : Int) < (p.size : Int) := by omega
     have hb2 : (p.size : Int) ≤ 9000 := by omega
     have HM2 := hide (show m + (1 + p.size) = q0 + on + sumN szR (rL.take (j + 1)) by rw [hu, HM.out, show szR p = 1 + p.size by unfold szR; omega, Nat.add_assoc])
     have t1 : IntKind.i64.wrap ((m : Int) + (1 + (p.size : Int))) = (m : Int) + (1 + (p.size : Int)) := wrapI9 _ (by omega) (by omega)
     have t2 : IntKind.i64.wrap (1 + (p.size : Int)) = 1 + (p.size : Int) := wrapI9 _ (by omega) (by omega)
     clear c0 h1 hu hp
     go_wp2
     go_roundw
     case rel => exact ⟨j + 1, m + (1 + p.size), by go_num, congrArg (fun z : Int => Value.int .i64 z) (by omega), by omega, by omega, HM2, HB2⟩
     case measure => simp [intOf]; omega
   ·
    have hjn : rn = j := by omega
    have hge : ¬ (j : Int) < (rn : Int) := by omega
    have HM1 := hide (show m = q0 + on + S1 by rw [HM.out, ← hjn, sumN_all _ HRL.out, HS1.out])
    have hm2 : m ≤ 140737488364328 + 9001 * rn := by omega
    clear hjn HM
    have v3 := hs.out _ HR1.out 3 _ rfl
    simp only [] at v3
    go_wp2
    clear v3 hge hlt hj hm hsz
    go_loopw [3, 39] (fun v i wr => ∃ j m : Nat, i = .int .i64 (j : Int) ∧ v = .int .i64 (m : Int) ∧ j ≤ tn ∧ m ≤ 140737488364328 + 9001 * (rn + j) ∧ Hid (m = q0 + on + S1 + sumN szT (tL.take j)) ∧ Hid (Below (bd1 w ⟨nm, ⟨rA, rn, rc, rL⟩, ⟨oA, on, oc, oL⟩, ⟨tA, tn, tc, tL⟩, ⟨lA, ln, lc, lL⟩, ar, ⟨bA, bn, bc, bL⟩⟩).heap.size (bd1 w ⟨nm, ⟨rA, rn, rc, rL⟩, ⟨oA, on, oc, oL⟩, ⟨tA, tn, tc, tL⟩, ⟨lA, ln, lc, lL⟩, ar, ⟨bA, bn, bc, bL⟩⟩) wr)) (fun _ i _ => tn - (intOf i).toNat)
    case atStart => exact ⟨0, m, rfl, rfl, Nat.zero_le _, by omega, hide (by rw [HM1.out]; simp [sumN]), HR1⟩
    case round =>
     clear hm2 HR1 HM1
     obtain ⟨j, m, rfl, rfl, hj, hm, HM, HR2⟩ := hrel
     have hsz : (bd1 w ⟨nm, ⟨rA, rn, rc, rL⟩, ⟨oA, on, oc, oL⟩, ⟨tA, tn, tc, tL⟩, ⟨lA, ln, lc, lL⟩, ar, ⟨bA, bn, bc, bL⟩⟩).heap.size ≤ wr.heap.size := HR2.out.size
     by_cases hlt : j < tn
     ·
      obtain ⟨p, hp⟩ := HX.out.types.get hlt
      obtain ⟨g, o, hA, hg, h1, c0⟩ := HX.out.types.at_ hp
      simp only [] at hA
      subst hA
      have hlt' : (j : Int) < (tn : Int) := by omega
      have c0_ := (HR2.out.cell hg).trans (c0 0 _ rfl)
      have c1_ := (HR2.out.cell hg).trans (c0 1 _ rfl)
      have c2_ := (HR2.out.cell hg).trans (c0 2 _ rfl)
      have c3_ := (HR2.out.cell hg).trans (c0 3 _ rfl)
      have c4_ := (HR2.out.cell hg).trans (c0 4 _ rfl)
      simp only [Nat.mul_one, Nat.add_zero] at c0_ c1_ c2_ c3_ c4_
      have hu := sumN_up (f := szT) hp
      have HB2 := hide (HR2.out.alloc hsz (.cells #[.int .i64 p.t.kind, .bool p.t.mut_, .int .i64 p.t.region, .int .i64 p.t.elem, .slice p.A p.n p.c] 62))
      by_cases hb : 9000 < p.n
      ·
       have hb1 : (9000 : Int) < (p.n : Int) := by omega
       have hb2 : (9000 : Int) ≤ (p.n : Int) := by omega
       have HM2 := hide (show m + (1 + 9000) = q0 + on + S1 + sumN szT (tL.take (j + 1)) by rw [hu, HM.out, show szT p = 1 + 9000 by unfold szT; omega, Nat.add_assoc])
       have t1 : IntKind.i64.wrap ((m : Int) + 9001) = (m : Int) + 9001 := wrapI9 _ (by omega) (by omega)
       have t2 : IntKind.i64.wrap (1 + 9000) = 1 + 9000 := wrapI9 _ (by omega) (by omega)
       clear c0 h1 hu hp
       go_wp2
       go_roundw
       case rel => exact ⟨j + 1, m + (1 + 9000), by go_num, congrArg (fun z : Int => Value.int .i64 z) (by omega), by omega, by omega, HM2, HB2⟩
       case measure => simp [intOf]; omega
      ·
       have hb1 : ¬ (9000 : Int) < (p.n : Int) := by omega
       have hb2 : (p.n : Int) ≤ 9000 := by omega
       have HM2 := hide (show m + (1 + p.n) = q0 + on + S1 + sumN szT (tL.take (j + 1)) by rw [hu, HM.out, show szT p = 1 + p.n by unfold szT; omega, Nat.add_assoc])
       have t1 : IntKind.i64.wrap ((m : Int) + (1 + (p.n : Int))) = (m : Int) + (1 + (p.n : Int)) := wrapI9 _ (by omega) (by omega)
       have t2 : IntKind.i64.wrap (1 + (p.n : Int)) = 1 + (p.n : Int) := wrapI9 _ (by omega) (by omega)
       clear c0 h1 hu hp
       go_wp2
       go_roundw
       case rel => exact ⟨j + 1, m + (1 + p.n), by go_num, congrArg (fun z : Int => Value.int .i64 z) (by omega), by omega, by omega, HM2, HB2⟩
       case measure => simp [intOf]; omega
     ·
      have hjn : tn = j := by omega
      have hge : ¬ (j : Int) < (tn : Int) := by omega
      have HM2 := hide (show m = q0 + on + S1 + S2 by rw [HM.out, ← hjn, sumN_all _ HTL.out, HS2.out])
      have hm2 : m ≤ 140737488364328 + 9001 * (rn + tn) := by omega
      clear hjn HM
      have v4 := hs.out _ HR2.out 4 _ rfl
      simp only [] at v4
      go_wp2
      clear v4 hge hlt hj hm hsz
      go_loopw [3, 54] (fun v i wr => ∃ j m : Nat, i = .int .i64 (j : Int) ∧ v = .int .i64 (m : Int) ∧ j ≤ ln ∧ m ≤ 140737488364328 + 9001 * ((rn + tn) + j) ∧ Hid (m = q0 + on + S1 + S2 + sumN szL (lL.take j)) ∧ Hid (Below (bd1 w ⟨nm, ⟨rA, rn, rc, rL⟩, ⟨oA, on, oc, oL⟩, ⟨tA, tn, tc, tL⟩, ⟨lA, ln, lc, lL⟩, ar, ⟨bA, bn, bc, bL⟩⟩).heap.size (bd1 w ⟨nm, ⟨rA, rn, rc, rL⟩, ⟨oA, on, oc, oL⟩, ⟨tA, tn, tc, tL⟩, ⟨lA, ln, lc, lL⟩, ar, ⟨bA, bn, bc, bL⟩⟩) wr)) (fun _ i _ => ln - (intOf i).toNat)
      case atStart => exact ⟨0, m, rfl, rfl, Nat.zero_le _, by omega, hide (by rw [HM2.out]; simp [sumN]), HR2⟩
      case round =>
       clear hm2 HR2 HM2
       obtain ⟨j, m, rfl, rfl, hj, hm, HM, HR3⟩ := hrel
       have hsz : (bd1 w ⟨nm, ⟨rA, rn, rc, rL⟩, ⟨oA, on, oc, oL⟩, ⟨tA, tn, tc, tL⟩, ⟨lA, ln, lc, lL⟩, ar, ⟨bA, bn, bc, bL⟩⟩).heap.size ≤ wr.heap.size := HR3.out.size
       by_cases hlt : j < ln
       ·
        obtain ⟨p, hp⟩ := HX.out.locals.get hlt
        obtain ⟨g, o, hA, hg, h1, c0⟩ := HX.out.locals.at_ hp
        simp only [] at hA
        subst hA
        have hlt' : (j : Int) < (ln : Int) := by omega
        have c0_ := (HR3.out.cell hg).trans (c0 0 _ rfl)
        have c1_ := (HR3.out.cell hg).trans (c0 1 _ rfl)
        simp only [Nat.mul_one, Nat.add_zero] at c0_ c1_
        have hu := sumN_up (f := szL) hp
        have HB2 := hide (HR3.out.alloc hsz (.cells #[.string p.name, .int .i64 p.ty] 64))
        by_cases hb : 9000 < p.name.size
        ·
         have hb1 : (9000 : Int) < (p.name.size : Int) := by omega
         have hb2 : (9000 : Int) ≤ (p.name.size : Int) := by omega
         have HM2 := hide (show m + (1 + 9000) = q0 + on + S1 + S2 + sumN szL (lL.take (j + 1)) by rw [hu, HM.out, show szL p = 1 + 9000 by unfold szL; omega, Nat.add_assoc])
         have t1 : IntKind.i64.wrap ((m : Int) + 9001) = (m : Int) + 9001 := wrapI9 _ (by omega) (by omega)
         have t2 : IntKind.i64.wrap (1 + 9000) = 1 + 9000 := wrapI9 _ (by omega) (by omega)
         clear c0 h1 hu hp
         go_wp2
         go_roundw
         case rel => exact ⟨j + 1, m + (1 + 9000), by go_num, congrArg (fun z : Int => Value.int .i64 z) (by omega), by omega, by omega, HM2, HB2⟩
         case measure => simp [intOf]; omega
        ·
         have hb1 : ¬ (9000 : Int) < (p.name.size : Int) := by omega
         have hb2 : (p.name.size : Int) ≤ 9000 := by omega
         have HM2 := hide (show m + (1 + p.name.size) = q0 + on + S1 + S2 + sumN szL (lL.take (j + 1)) by rw [hu, HM.out, show szL p = 1 + p.name.size by unfold szL; omega, Nat.add_assoc])
         have t1 : IntKind.i64.wrap ((m : Int) + (1 + (p.name.size : Int))) = (m : Int) + (1 + (p.name.size : Int)) := wrapI9 _ (by omega) (by omega)
         have t2 : IntKind.i64.wrap (1 + (p.name.size : Int)) = 1 + (p.name.size : Int) := wrapI9 _ (by omega) (by omega)
         clear c0 h1 hu hp
         go_wp2
         go_roundw
         case rel => exact ⟨j + 1, m + (1 + p.name.size), by go_num, congrArg (fun z : Int => Value.int .i64 z) (by omega), by omega, by omega, HM2, HB2⟩
         case measure => simp [intOf]; omega
       ·
        have hjn : ln = j := by omega
        have hge : ¬ (j : Int) < (ln : Int) := by omega
        have HM3 := hide (show m = q0 + on + S1 + S2 + S3 by rw [HM.out, ← hjn, sumN_all _ HLL.out, HS3.out])
        have hm2 : m ≤ 140737488364328 + 9001 * (rn + tn + ln) := by omega
        clear hjn HM
        have v6 := hs.out _ HR3.out 6 _ rfl
        simp only [] at v6
        by_cases h30 : 3000 < m
        ·
         have hi30 : (3000 : Int) < (m : Int) := by omega
         go_wp2
         go_ret
         exact ⟨.inl rfl, HB.out.trans (HR3.out.mono HB.out.size)⟩
        have hi30 : ¬ (3000 : Int) < (m : Int) := by omega
        go_wp2
        clear v6 hge hlt hj hm hsz hm2 hi30
        go_loopw [3, 71] (fun v i wr => ∃ j m : Nat, i = .int .i64 (j : Int) ∧ v = .int .i64 (m : Int) ∧ j ≤ bn ∧ m ≤ 21000 ∧ Hid (m ≤ 3000 → m = q0 + on + S1 + S2 + S3 + sumN szBk (bL.take j)) ∧ Hid (Below (bd1 w ⟨nm, ⟨rA, rn, rc, rL⟩, ⟨oA, on, oc, oL⟩, ⟨tA, tn, tc, tL⟩, ⟨lA, ln, lc, lL⟩, ar, ⟨bA, bn, bc, bL⟩⟩).heap.size (bd1 w ⟨nm, ⟨rA, rn, rc, rL⟩, ⟨oA, on, oc, oL⟩, ⟨tA, tn, tc, tL⟩, ⟨lA, ln, lc, lL⟩, ar, ⟨bA, bn, bc, bL⟩⟩) wr)) (fun _ i _ => bn - (intOf i).toNat)
        case atStart => exact ⟨0, m, rfl, rfl, Nat.zero_le _, by omega, hide (fun _ => by rw [HM3.out]; simp [sumN]), HR3⟩
        case round =>
         clear HM3 HR3 h30
         rename World => wo
         obtain ⟨j, m, rfl, rfl, hj, hm, HM, HR4⟩ := hrel
         by_cases hlt : j < bn
         ·
          obtain ⟨p, hp⟩ := HX.out.blocks.get hlt
          obtain ⟨g, o, hA, hg, h1, c0⟩ := HX.out.blocks.at_ hp
          have hfb := HFB.out p (List.mem_of_getElem? hp)
          simp only [] at hA
          subst hA
          have hu := sumN_up (f := szBk) hp
          obtain ⟨⟨sA, sn, sc, sL⟩, ⟨tk, ⟨uA, un, uc, uL⟩, ⟨gA, gn, gc, gL⟩, ⟨pl, pA, pn, pc, ps⟩, tnm⟩⟩ := p
          have hlt' : (j : Int) < (bn : Int) := by omega
          have f1 := hfb.stmts
          have f2 := hfb.targets
          have f3 := hfb.pl
          have HF4 := hide hfb.sts
          have HP := hide h1
          have HSL := hide h1.stmts.len
          have hsn := h1.stmts.nm
          unfold maxLen at hsn
          have htz : tnm.size ≤ 9223372036854775807 := h1.term.name
          simp only [] at f1 f2 f3 hsn
          have HU := hide hu
          clear hfb h1 hu hp
          have c0_ := (HR4.out.cell hg).trans (c0 0 _ rfl)
          have c1_ := (HR4.out.cell hg).trans (c0 1 _ rfl)
          have c2_ := (HR4.out.cell hg).trans (c0 2 _ rfl)
          have c3_ := (HR4.out.cell hg).trans (c0 3 _ rfl)
          have c4_ := (HR4.out.cell hg).trans (c0 4 _ rfl)
          have c5_ := (HR4.out.cell hg).trans (c0 5 _ rfl)
          have c6_ := (HR4.out.cell hg).trans (c0 6 _ rfl)
          simp only [Nat.add_zero] at c0_ c1_ c2_ c3_ c4_ c5_ c6_
          have HBK := hide (bk1_below wo ⟨⟨sA, sn, sc, sL⟩, ⟨tk, ⟨uA, un, uc, uL⟩, ⟨gA, gn, gc, gL⟩, ⟨pl, pA, pn, pc, ps⟩, tnm⟩⟩)
          clear c0
          by_cases hb : 9000 < tnm.size
          ·
           have hb1 : (9000 : Int) < (tnm.size : Int) := by omega
           have hb2 : (9000 : Int) ≤ (tnm.size : Int) := by omega
           have k0 : IntKind.i64.wrap (1 + (sn : Int)) = 1 + (sn : Int) := wrapI9 _ (by omega) (by omega)
           have k1 : IntKind.i64.wrap (1 + (sn : Int) + (un : Int)) = 1 + (sn : Int) + (un : Int) := wrapI9 _ (by omega) (by omega)
           have k2 : IntKind.i64.wrap (1 + (sn : Int) + (un : Int) + (pn : Int)) = 1 + (sn : Int) + (un : Int) + (pn : Int) := wrapI9 _ (by omega) (by omega)
           have k3 : IntKind.i64.wrap (1 + (sn : Int) + (un : Int) + (pn : Int) + 9000) = 1 + (sn : Int) + (un : Int) + (pn : Int) + 9000 := wrapI9 _ (by omega) (by omega)
           have k4 : IntKind.i64.wrap ((m : Int) + (1 + (sn : Int) + (un : Int) + (pn : Int) + 9000)) = (m : Int) + (1 + (sn : Int) + (un : Int) + (pn : Int) + 9000) := wrapI9 _ (by omega) (by omega)
           have h3 : (3000 : Int) < (m : Int) + (1 + (sn : Int) + (un : Int) + (pn : Int) + 9000) := by omega
           go_wp2
           go_ret
           exact ⟨.inl rfl, HB.out.trans ((HR4.out.trans (HBK.out.mono HR4.out.size)).mono HB.out.size)⟩
          have hb1 : ¬ (9000 : Int) < (tnm.size : Int) := by omega
          have hb2 : (tnm.size : Int) ≤ 9000 := by omega
          have k0 : IntKind.i64.wrap (1 + (sn : Int)) = 1 + (sn : Int) := wrapI9 _ (by omega) (by omega)
          have k1 : IntKind.i64.wrap (1 + (sn : Int) + (un : Int)) = 1 + (sn : Int) + (un : Int) := wrapI9 _ (by omega) (by omega)
          have k2 : IntKind.i64.wrap (1 + (sn : Int) + (un : Int) + (pn : Int)) = 1 + (sn : Int) + (un : Int) + (pn : Int) := wrapI9 _ (by omega) (by omega)
          have k3 : IntKind.i64.wrap (1 + (sn : Int) + (un : Int) + (pn : Int) + (tnm.size : Int)) = 1 + (sn : Int) + (un : Int) + (pn : Int) + (tnm.size : Int) := wrapI9 _ (by omega) (by omega)
          have k4 : IntKind.i64.wrap ((m : Int) + (1 + (sn : Int) + (un : Int) + (pn : Int) + (tnm.size : Int))) = (m : Int) + (1 + (sn : Int) + (un : Int) + (pn : Int) + (tnm.size : Int)) := wrapI9 _ (by omega) (by omega)
          obtain ⟨m1, hm1⟩ : ∃ m1, m + (1 + sn + un + pn + tnm.size) = m1 := ⟨_, rfl⟩
          have hm1i : (m : Int) + (1 + (sn : Int) + (un : Int) + (pn : Int) + (tnm.size : Int)) = (m1 : Int) := by omega
          replace k4 := k4.trans hm1i
          by_cases h30 : 3000 < m1
          ·
           have h3 : (3000 : Int) < (m1 : Int) := by omega
           clear hm1i
           go_wp2
           go_ret
           exact ⟨.inl rfl, HB.out.trans ((HR4.out.trans (HBK.out.mono HR4.out.size)).mono HB.out.size)⟩
          have h3 : ¬ (3000 : Int) < (m1 : Int) := by omega
          have HM1 := hide (show m1 = q0 + on + S1 + S2 + S3 + sumN szBk (bL.take j) + (1 + sn + un + pn + min tnm.size 9000) by rw [← HM.out (by omega), ← hm1, Nat.min_eq_left (by omega)])
          clear hm1i hm1
          go_wp2
          clear c0_ c1_ c2_ c3_ c4_ c5_ c6_ h3 hb1 hb2 k0 k1 k2 k3 k4
          go_loopw [3, 103] (fun v i wr => ∃ j2 m2 : Nat, i = .int .i64 (j2 : Int) ∧ v = .int .i64 (m2 : Int) ∧ j2 ≤ sn ∧ m2 ≤ 3000 ∧ Hid (m2 = m1 + sumN szSt (sL.take j2)) ∧ Hid (Below (bk1 wo ⟨⟨sA, sn, sc, sL⟩, ⟨tk, ⟨uA, un, uc, uL⟩, ⟨gA, gn, gc, gL⟩, ⟨pl, pA, pn, pc, ps⟩, tnm⟩⟩).heap.size (bk1 wo ⟨⟨sA, sn, sc, sL⟩, ⟨tk, ⟨uA, un, uc, uL⟩, ⟨gA, gn, gc, gL⟩, ⟨pl, pA, pn, pc, ps⟩, tnm⟩⟩) wr)) (fun _ i _ => sn - (intOf i).toNat)
          case atStart => exact ⟨0, m1, rfl, rfl, Nat.zero_le _, by omega, hide (by simp [sumN]), hide (Below.refl _ _)⟩
          case round =>
           obtain ⟨j2, m2, rfl, rfl, hj2, hm2, HM2, HW2⟩ := hrel
           have HRC := hide (HR4.out.trans ((HBK.out.trans (HW2.out.mono HBK.out.size)).mono HR4.out.size))
           by_cases hlt2 : j2 < sn
           ·
            obtain ⟨s, hs2⟩ := HP.out.stmts.get hlt2
            obtain ⟨g3, o3, hA3, hg3, h13, c03⟩ := HP.out.stmts.at_ hs2
            have hf4 := HF4.out s (List.mem_of_getElem? hs2)
            have hu3 := sumN_up (f := szSt) hs2
            simp only [] at hA3
            subst hA3
            have hlt2' : (j2 : Int) < (sn : Int) := by omega
            have f5 := hf4.1
            have f6 := hf4.2
            have c0_ := (HRC.out.cell hg3).trans (c03 0 _ rfl)
            have c1_ := (HRC.out.cell hg3).trans (c03 1 _ rfl)
            have c2_ := (HRC.out.cell hg3).trans (c03 2 _ rfl)
            have c3_ := (HRC.out.cell hg3).trans (c03 3 _ rfl)
            have c4_ := (HRC.out.cell hg3).trans (c03 4 _ rfl)
            have c5_ := (HRC.out.cell hg3).trans (c03 5 _ rfl)
            have c6_ := (HRC.out.cell hg3).trans (c03 6 _ rfl)
            have c7_ := (HRC.out.cell hg3).trans (c03 7 _ rfl)
            have c8_ := (HRC.out.cell hg3).trans (c03 8 _ rfl)
            have c9_ := (HRC.out.cell hg3).trans (c03 9 _ rfl)
            have c10_ := (HRC.out.cell hg3).trans (c03 10 _ rfl)
            simp only [Nat.add_zero] at c0_ c1_ c2_ c3_ c4_ c5_ c6_ c7_ c8_ c9_ c10_
            have HS2 := hide (st1_below wr s)
            have HA := hide (h13.rv.args.up (HRC.out.trans (HS2.out.mono HRC.out.size)))
            have hcs := hide fun (w' : World) (h : Below (st1 wr s).heap.size (st1 wr s) w') => (show w'.cell? ⟨wr.heap.size, 2, none⟩ = some (.slice s.pl.A s.pl.n s.pl.c) ∧ w'.cell? ⟨wr.heap.size, 8, none⟩ = some (.slice s.rv.pl.A s.rv.pl.n s.rv.pl.c) ∧ w'.cell? ⟨wr.heap.size, 9, none⟩ = some (.slice s.rv.args.A s.rv.args.n s.rv.args.c) from ⟨st1_cells h 2 _ rfl, st1_cells h 8 _ rfl, st1_cells h 9 _ rfl⟩)
            have hst : szSt s = s.pl.n + s.rv.pl.n + szOps s.rv.args := rfl
            obtain ⟨T3, hT3⟩ : ∃ T, sumN szSt (List.take j2 sL) = T := ⟨_, rfl⟩
            obtain ⟨T4, hT4⟩ : ∃ T, sumN szSt (List.take (j2 + 1) sL) = T := ⟨_, rfl⟩
            obtain ⟨O3, hO3⟩ : ∃ T, szOps s.rv.args = T := ⟨_, rfl⟩
            have HN := hide (show ∀ r, m2 + (s.pl.n + s.rv.pl.n + r) ≤ 3000 → (r ≤ 3000 → O3 = r) → m2 + (s.pl.n + s.rv.pl.n + r) = m1 + T4 from fun r h1 h2 => by
             have := HM2.out
             have h3 := h2 (by omega)
             simp only [] at hu3
             rw [hT4, hT3, hst, hO3] at hu3
             rw [hT3] at this
             omega)
            have HO3 := hide hO3
            have HT4 := hide hT4
            have s1 : IntKind.i64.wrap ((s.pl.n : Int) + (s.rv.pl.n : Int)) = (s.pl.n : Int) + (s.rv.pl.n : Int) := wrapI9 _ (by omega) (by omega)
            clear c03 h13 hf4 hu3 hst hT3 hT4 hO3 hs2
            go_wp2
            clear c0_ c1_ c2_ c3_ c4_ c5_ c6_ c7_ c8_ c9_ c10_
            change Code.wp _ _ _ _ (st1 wr s)
            go_region_held3 (fun w' => Below (st1 wr s).heap.size (st1 wr s) w' ∧ w'.cell? ⟨wr.heap.size, 2, none⟩ = some (.slice s.pl.A s.pl.n s.pl.c) ∧ w'.cell? ⟨wr.heap.size, 8, none⟩ = some (.slice s.rv.pl.A s.rv.pl.n s.rv.pl.c) ∧ w'.cell? ⟨wr.heap.size, 9, none⟩ = some (.slice s.rv.args.A s.rv.args.n s.rv.args.c))
             (first | exact ⟨by assumption, hcs.out _ (by assumption)⟩ | exact ⟨Below.refl _ _, hcs.out _ (Below.refl _ _)⟩ | exact ⟨(Below.refl _ _).drew, hcs.out _ (Below.refl _ _).drew⟩)
             (first | (go_at_call 37; go_split_ands; refine (LOperands_any s.rv.args _ (HA.out.up (by assumption))).mono ?_; rintro x9 w1 ⟨r, rfl, hr1, hr2, hb0⟩; have hb1 := Below.trans (by assumption : Below (st1 wr s).heap.size (st1 wr s) _) (hb0.mono (Below.size (by assumption : Below (st1 wr s).heap.size (st1 wr s) _))); have s2 : IntKind.i64.wrap ((s.pl.n : Int) + (s.rv.pl.n : Int) + (r : Int)) = (s.pl.n : Int) + (s.rv.pl.n : Int) + (r : Int) := wrapI9 _ (by omega) (by omega); have s3 : IntKind.i64.wrap ((m2 : Int) + ((s.pl.n : Int) + (s.rv.pl.n : Int) + (r : Int))) = (m2 : Int) + ((s.pl.n : Int) + (s.rv.pl.n : Int) + (r : Int)) := wrapI9 _ (by omega) (by omega)))
            all_goals
             go_split_ands
             by_cases h4 : 3000 < m2 + (s.pl.n + s.rv.pl.n + r)
             ·
              have h4i : (3000 : Int) < (m2 : Int) + ((s.pl.n : Int) + (s.rv.pl.n : Int) + (r : Int)) := by omega
              go_wp2
              go_ret
              exact ⟨.inl rfl, HB.out.trans ((HRC.out.trans ((HS2.out.trans (Below.mono (by assumption) HS2.out.size)).mono HRC.out.size)).mono HB.out.size)⟩
             ·
              have h4i : ¬ (3000 : Int) < (m2 : Int) + ((s.pl.n : Int) + (s.rv.pl.n : Int) + (r : Int)) := by omega
              go_wp2
              go_roundw
              case rel => exact ⟨j2 + 1, m2 + (s.pl.n + s.rv.pl.n + r), by go_num, congrArg (fun z : Int => Value.int .i64 z) (by omega), by omega, by omega, hide (by rw [HT4.out]; exact HN.out r (by omega) (fun h => HO3.out ▸ hr2 h)), hide (HW2.out.trans (Below.mono (HS2.out.trans (Below.mono (by assumption) HS2.out.size)) HW2.out.size))⟩
              case measure => simp [intOf]; omega
           ·
            have hjn : sn = j2 := by omega
            have hge : ¬ (j2 : Int) < (sn : Int) := by omega
            have HM5 := hide (show m2 = m1 + sumN szSt sL by rw [HM2.out, ← hjn, sumN_all _ HSL.out])
            have v3 := bk1_cells HW2.out 3 _ rfl
            simp only [] at v3
            clear hjn HM2
            go_wp2_with fail
            refine (LOperands_any ⟨gA, gn, gc, gL⟩ _ (HP.out.term.args.up HRC.out)).mono ?_
            rintro e w3 ⟨r, rfl, hr1, hr2, hb⟩
            have HW3 := hide (HRC.out.trans (hb.mono HRC.out.size))
            have s1 : IntKind.i64.wrap ((m2 : Int) + (r : Int)) = (m2 : Int) + (r : Int) := wrapI9 _ (by omega) (by omega)
            have HFIN := hide (show m2 + r ≤ 3000 → m2 + r = q0 + on + S1 + S2 + S3 + sumN szBk (bL.take (j + 1)) from fun h => by
             have h2 := hr2 (by omega)
             have h3 := HU.out
             simp only [] at h2 h3
             rw [h3, HM5.out, HM1.out, ← h2]
             unfold szBk szOps
             simp only []
             omega)
            clear hb hr2 v3
            go_wp2
            go_roundw
            case rel => exact ⟨j + 1, m2 + r, by go_num, congrArg (fun z : Int => Value.int .i64 z) (by omega), by omega, by omega, HFIN, HW3⟩
            case measure => simp [intOf]; omega
         ·
          have hjn : bn = j := by omega
          have hge : ¬ (j : Int) < (bn : Int) := by omega
          have HFIN := hide (show m ≤ 3000 → szB ⟨nm, ⟨rA, rn, rc, rL⟩, ⟨oA, on, oc, oL⟩, ⟨tA, tn, tc, tL⟩, ⟨lA, ln, lc, lL⟩, ar, ⟨bA, bn, bc, bL⟩⟩ ≤ 3000 from fun h => HSZ.out 3000 (by have := HM.out h; rw [← hjn, sumN_all _ HBL.out] at this; omega))
          clear hjn
          by_cases h4 : 3000 < m
          ·
           have h4i : (3000 : Int) < (m : Int) := by omega
           go_wp2
           go_ret
           exact ⟨.inl rfl, HB.out.trans (HR4.out.mono HB.out.size)⟩
          ·
           have h4i : ¬ (3000 : Int) < (m : Int) := by omega
           go_wp2
           go_ret
           exact ⟨.inr ⟨rfl, HFIN.out (by omega)⟩, HB.out.trans (HR4.out.mono HB.out.size)⟩
end Go.Proofs.YtfgacmgjpikgaaaGreatDoor
