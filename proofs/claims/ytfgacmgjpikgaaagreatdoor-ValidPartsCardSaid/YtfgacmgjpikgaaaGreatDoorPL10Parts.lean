/- ValidParts: a body whose declaration part is valid is valid exactly if its statements and terminators are. Its condition: the lengths of the argument are within the reach. -/
import Derived.Test.YtfgacmgjpikgaaaGreatDoorQ16
import Derived.Test.YtfgacmgjpikgaaaGreatDoorQ48
import Derived.Test.YtfgacmgjpikgaaaGreatDoorQ49
import Derived.Test.YtfgacmgjpikgaaaGreatDoorTie
import Derived.Test.YtfgacmgjpikgaaaGreatDoorCards
import Derived.SevenTiedAt
import Derived.Test.YtfgacmgjpikgaaaGreatDoorQR3
set_option linter.unusedVariables false
set_option linter.unusedSimpArgs false
namespace Go.Proofs.YtfgacmgjpikgaaaGreatDoor.validParts
open Go.ChangeShapes Go.WideShapes Go.ChangeAt Go.ChangeMaps Go.RowKit Go.Shelf Go.WideElems
theorem stErr_use {E : Env} {s : StV} (h : stErr E s = 0) (hk : s.kind = 0) (hr : s.rv.kind = 0) : ∃ o, s.rv.args = [o] ∧ opErr E o = 0 := by
 have hl : s.loc = 0 := by
  unfold stErr at h
  rw [if_pos hk] at h
  by_cases hl : s.loc = 0
  ·
   exact hl
  ·
   rw [if_pos hl] at h; cases h
 rw [stErr_asg hk hl, asgV] at h
 split at h
 ·
  rename_i h1; exact absurd h h1
 split at h
 ·
  cases h
 have hs : shErr s.rv = 0 := by
  unfold asErr at h
  split at h
  ·
   rename_i h1; exact absurd h h1
  ·
   rename_i h1; exact Decidable.not_not.1 h1
 obtain ⟨o, ho⟩ := List.length_eq_one_iff.1 ((shErr_zero hs).2.1 (.inl hr))
 rw [asErr_use10 hr hs] at h
 split at h
 ·
  rename_i h1; exact absurd h h1
 rename_i h1
 exact ⟨o, ho, opsErr_zero.1 (Decidable.not_not.1 h1) o (by rw [ho]; exact List.mem_singleton.2 rfl)⟩
theorem all_up {α : Type} (p : α → Bool) {l : List α} {j : Nat} {x : α} (h : l[j]? = some x) : (l.take (j + 1)).all p = ((l.take j).all p && p x) := by
 rw [take_up10 h, List.all_append]
 simp
theorem bks_ok {E : Env} {l : List BkV} (hs : ∀ b ∈ l, b.stmts.length ≤ 65535) : (l.all fun b => (b.stmts.all fun s => decide (stErr E s = 0)) && decide (tmErr E b.term = 0)) = decide (bksErr E l = 0) := by
 rw [Bool.eq_iff_iff, decide_eq_true_iff, bksErr_zero, List.all_eq_true]
 refine ⟨fun h b hb => ?_, fun h b hb => ?_⟩
 ·
  have h1 := h b hb
  rw [Bool.and_eq_true, List.all_eq_true, decide_eq_true_iff] at h1
  exact bkErr_zero.2 ⟨hs b hb, (fun s hs => of_decide_eq_true (h1.1 s hs)), h1.2⟩
 ·
  obtain ⟨_, h2, h3⟩ := bkErr_zero.1 (h b hb)
  rw [Bool.and_eq_true, List.all_eq_true, decide_eq_true_iff]
  exact ⟨(fun s hs => decide_eq_true (h2 s hs)), h3⟩
theorem szB_stmts {x : BdW} {b : BkW} (h : szB x ≤ 3000) (hb : b ∈ x.blocks.L) : b.stmts.n ≤ 3000 := by
 have h1 := sumN_one (f := szBk) hb
 have h2 : sumN szBk x.blocks.L ≤ szB x := by unfold szB; omega
 have h3 : b.stmts.n ≤ szBk b := by unfold szBk; omega
 omega
set_option maxHeartbeats 8000000 in
set_option maxRecDepth 100000 in
theorem walk (x0 : BdW) (w : World) (h0 : OneBd w w.heap.size x0) (s0 : FitBd x0) (hT : OpsT w) :
  Calls Tryz.prog 7 #[aggBd x0] w fun e w' => e = .returned (.bool true) ∧ Below w.heap.size w w' := by
 obtain ⟨de, hde⟩ : ∃ u, deErr x0.v = u := ⟨_, rfl⟩
 obtain ⟨v, hv⟩ : ∃ u, bdErr x0.v = u := ⟨_, rfl⟩
 have hbl := h0.blocks.len
 have hbm := h0.blocks.nm
 unfold maxLen at hbm
 have HBL := hide hbl
 clear hbl
 obtain ⟨nm, ⟨rA, rn, rc, rL⟩, ⟨oA, on, oc, oL⟩, ⟨tA, tm, tc, tL⟩, ⟨lA, ln, lc, lL⟩, ar, ⟨bA, bn, bc, bL⟩⟩ := x0
 have HB := hide (show Below w.heap.size w (w.alloc (.cells #[.string nm, .slice rA rn rc, .slice oA on oc, .slice tA tm tc, .slice lA ln lc, .int .i64 ar, .slice bA bn bc] 28)) from (Below.refl w.heap.size w).alloc (Nat.le_refl _) _)
 have HX := hide (h0.up HB.out)
 have HF := hide s0
 have HT := hide (hT.up HB.out)
 have HDE := hide hde
 have HV := hide hv
 have hcs := hide fun (w' : World) (y : Below (w.alloc (.cells #[.string nm, .slice rA rn rc, .slice oA on oc, .slice tA tm tc, .slice lA ln lc, .int .i64 ar, .slice bA bn bc] 28)).heap.size (w.alloc (.cells #[.string nm, .slice rA rn rc, .slice oA on oc, .slice tA tm tc, .slice lA ln lc, .int .i64 ar, .slice bA bn bc] 28)) w') => (show w'.cell? ⟨w.heap.size, 0, none⟩ = some (.string nm) ∧ w'.cell? ⟨w.heap.size, 1, none⟩ = some (.slice rA rn rc) ∧ w'.cell? ⟨w.heap.size, 2, none⟩ = some (.slice oA on oc) ∧ w'.cell? ⟨w.heap.size, 3, none⟩ = some (.slice tA tm tc) ∧ w'.cell? ⟨w.heap.size, 4, none⟩ = some (.slice lA ln lc) ∧ w'.cell? ⟨w.heap.size, 5, none⟩ = some (.int .i64 ar) ∧ w'.cell? ⟨w.heap.size, 6, none⟩ = some (.slice bA bn bc) from ⟨one_cells (cs := [.string nm, .slice rA rn rc, .slice oA on oc, .slice tA tm tc, .slice lA ln lc, .int .i64 ar, .slice bA bn bc]) y 0 _ rfl, one_cells (cs := [.string nm, .slice rA rn rc, .slice oA on oc, .slice tA tm tc, .slice lA ln lc, .int .i64 ar, .slice bA bn bc]) y 1 _ rfl, one_cells (cs := [.string nm, .slice rA rn rc, .slice oA on oc, .slice tA tm tc, .slice lA ln lc, .int .i64 ar, .slice bA bn bc]) y 2 _ rfl, one_cells (cs := [.string nm, .slice rA rn rc, .slice oA on oc, .slice tA tm tc, .slice lA ln lc, .int .i64 ar, .slice bA bn bc]) y 3 _ rfl, one_cells (cs := [.string nm, .slice rA rn rc, .slice oA on oc, .slice tA tm tc, .slice lA ln lc, .int .i64 ar, .slice bA bn bc]) y 4 _ rfl, one_cells (cs := [.string nm, .slice rA rn rc, .slice oA on oc, .slice tA tm tc, .slice lA ln lc, .int .i64 ar, .slice bA bn bc]) y 5 _ rfl, one_cells (cs := [.string nm, .slice rA rn rc, .slice oA on oc, .slice tA tm tc, .slice lA ln lc, .int .i64 ar, .slice bA bn bc]) y 6 _ rfl⟩)
 clear h0 s0 hT hde hv
 have hbm : bn ≤ 2 ^ 63 - 1 := hbm
 go_enter Tryz.func7, Tryz.ntmps7
 go_wp2_with fail
 refine (Skip10_any ⟨nm, ⟨rA, rn, rc, rL⟩, ⟨oA, on, oc, oL⟩, ⟨tA, tm, tc, tL⟩, ⟨lA, ln, lc, lL⟩, ar, ⟨bA, bn, bc, bL⟩⟩ _ HX.out HF.out).mono ?_
 rintro e1 w1 ⟨h1, hb1⟩
 have HW1 := hide (show Below (w.alloc (.cells #[.string nm, .slice rA rn rc, .slice oA on oc, .slice tA tm tc, .slice lA ln lc, .int .i64 ar, .slice bA bn bc] 28)).heap.size (w.alloc (.cells #[.string nm, .slice rA rn rc, .slice oA on oc, .slice tA tm tc, .slice lA ln lc, .int .i64 ar, .slice bA bn bc] 28)) w1 from hb1)
 clear hb1
 rcases h1 with rfl | ⟨rfl, hn, hsz, hbk⟩
 case inl =>
  go_wp2_with fail
  refine (alive10_any _ (HT.out.up HW1.out)).mono ?_
  rintro e9 w9 ⟨rfl, hb9⟩
  have HW9 := hide (HW1.out.trans (hb9.mono HW1.out.size))
  clear hb9
  go_wp2
  go_ret
  exact ⟨rfl, HB.out.trans (HW9.out.mono HB.out.size)⟩
 have HN := hide hn
 have HSZ := hide hsz
 have HBK := hide hbk
 clear hn hsz hbk
 obtain ⟨b1_0, b1_1, b1_2, b1_3, b1_4, b1_5, b1_6⟩ := hcs.out _ HW1.out
 by_cases q2 : de = 0
 case neg =>
  have t2 : (de != 0) = true := by simp [q2]
  clear q2
  go_wp2_with fail
  refine (RDecl_is (HX.out.up HW1.out) HDE.out).mono ?_
  rintro e3 w3 ⟨rfl, hb3⟩
  have HW3 := hide (HW1.out.trans (hb3.mono HW1.out.size))
  clear hb3
  go_wp2_with fail
  refine (alive10_any _ (HT.out.up HW3.out)).mono ?_
  rintro e9 w9 ⟨rfl, hb9⟩
  have HW9 := hide (HW3.out.trans (hb9.mono HW3.out.size))
  clear hb9
  go_wp2
  go_ret
  exact ⟨rfl, HB.out.trans (HW9.out.mono HB.out.size)⟩
 have HVB := hide (show VB (w.alloc (.cells #[.string nm, .slice rA rn rc, .slice oA on oc, .slice tA tm tc, .slice lA ln lc, .int .i64 ar, .slice bA bn bc] 28)) ⟨nm, ⟨rA, rn, rc, rL⟩, ⟨oA, on, oc, oL⟩, ⟨tA, tm, tc, tL⟩, ⟨lA, ln, lc, lL⟩, ar, ⟨bA, bn, bc, bL⟩⟩ from ⟨HX.out, deErr_ok (HDE.out.trans q2)⟩)
 have HD0 := hide (HDE.out.trans q2)
 have t2 : (de != 0) = false := by simp [q2]
 clear q2
 go_wp2_with fail
 refine (RDecl_is (HX.out.up HW1.out) HDE.out).mono ?_
 rintro e3 w3 ⟨rfl, hb3⟩
 have HW3 := hide (HW1.out.trans (hb3.mono HW1.out.size))
 clear hb3
 have HBD := hide (show bdErr (BdW.v ⟨nm, ⟨rA, rn, rc, rL⟩, ⟨oA, on, oc, oL⟩, ⟨tA, tm, tc, tL⟩, ⟨lA, ln, lc, lL⟩, ar, ⟨bA, bn, bc, bL⟩⟩) = bksErr (wE ⟨nm, ⟨rA, rn, rc, rL⟩, ⟨oA, on, oc, oL⟩, ⟨tA, tm, tc, tL⟩, ⟨lA, ln, lc, lL⟩, ar, ⟨bA, bn, bc, bL⟩⟩) (bL.map BkW.v) from by rw [← wE_v]; unfold bdErr; rw [if_neg (by rw [HD0.out]; simp)]; rfl)
 obtain ⟨b3_0, b3_1, b3_2, b3_3, b3_4, b3_5, b3_6⟩ := hcs.out _ HW3.out
 go_wp2
 go_loopw [3, 20] (fun ov i wr => ∃ j : Nat, ∃ ok : Bool, ov = .bool ok ∧ i = .int .i64 (j : Int) ∧ j ≤ bn ∧ Hid (((bL.map BkW.v).take j).all (fun bb : BkV => (bb.stmts.all fun s => decide (stErr (wE ⟨nm, ⟨rA, rn, rc, rL⟩, ⟨oA, on, oc, oL⟩, ⟨tA, tm, tc, tL⟩, ⟨lA, ln, lc, lL⟩, ar, ⟨bA, bn, bc, bL⟩⟩) s = 0)) && decide (tmErr (wE ⟨nm, ⟨rA, rn, rc, rL⟩, ⟨oA, on, oc, oL⟩, ⟨tA, tm, tc, tL⟩, ⟨lA, ln, lc, lL⟩, ar, ⟨bA, bn, bc, bL⟩⟩) bb.term = 0)) = ok) ∧ Hid (Below (w.alloc (.cells #[.string nm, .slice rA rn rc, .slice oA on oc, .slice tA tm tc, .slice lA ln lc, .int .i64 ar, .slice bA bn bc] 28)).heap.size (w.alloc (.cells #[.string nm, .slice rA rn rc, .slice oA on oc, .slice tA tm tc, .slice lA ln lc, .int .i64 ar, .slice bA bn bc] 28)) wr)) (fun _ i _ => bn - (intOf i).toNat)
 case atStart => exact ⟨0, true, rfl, rfl, Nat.zero_le _, hide rfl, hide HW3.out⟩
 case round =>
  obtain ⟨j, ok, rfl, rfl, hj, HE, HW⟩ := hrel
  generalize wr = wq at *
  clear b1_0 b1_1 b1_2 b1_3 b1_4 b1_5 b1_6 b3_0 b3_1 b3_2 b3_3 b3_4 b3_5 b3_6
  by_cases hlt : j < bn
  ·
   have hlt' : (j : Int) < (bn : Int) := by omega
   obtain ⟨p, hp⟩ : ∃ p, bL[j]? = some p := ⟨_, List.getElem?_eq_getElem (by have : bL.length = bn := HBL.out; omega)⟩
   have hpv : (bL.map BkW.v)[j]? = some p.v := by rw [List.getElem?_map, hp]; rfl
   have HSN := hide (szB_stmts HSZ.out (List.mem_of_getElem? hp))
   obtain ⟨b, o, hA, _, hone, hc⟩ := (HX.out.up HW.out).blocks.at_ hp
   have hA : bA = some ⟨b, o, none⟩ := hA
   subst hA
   obtain ⟨⟨sA, sn, sc, sL⟩, ⟨k, ⟨xA, xn, xc, xL⟩, ⟨gA, gn, gc, gL⟩, ⟨l, pA, pn, pc, ps⟩, tn⟩⟩ := p
   have c0 : wq.cell? ⟨b, o + j * 7, none⟩ = some (.slice sA sn sc) := hc 0 _ rfl
   have c1 : wq.cell? ⟨b, o + j * 7 + 1, none⟩ = some (.int .i64 k) := hc 1 _ rfl
   have c2 : wq.cell? ⟨b, o + j * 7 + 2, none⟩ = some (.slice xA xn xc) := hc 2 _ rfl
   have c3 : wq.cell? ⟨b, o + j * 7 + 3, none⟩ = some (.slice gA gn gc) := hc 3 _ rfl
   have c4 : wq.cell? ⟨b, o + j * 7 + 4, none⟩ = some (.int .i64 l) := hc 4 _ rfl
   have c5 : wq.cell? ⟨b, o + j * 7 + 5, none⟩ = some (.slice pA pn pc) := hc 5 _ rfl
   have c6 : wq.cell? ⟨b, o + j * 7 + 6, none⟩ = some (.string tn) := hc 6 _ rfl
   have hWB := (Below.refl wq.heap.size wq).alloc (Nat.le_refl _) (.cells #[.slice sA sn sc, .int .i64 k, .slice xA xn xc, .slice gA gn gc, .int .i64 l, .slice pA pn pc, .string tn] 52)
   have HW2 := hide (HW.out.trans (hWB.mono HW.out.size))
   have HO := hide (hone.up hWB)
   have hsl : sL.length = sn := hone.stmts.len
   have hsm : sn ≤ maxLen := hone.stmts.nm
   unfold maxLen at hsm
   have HSL := hide hsl
   have HUP := hide (all_up (fun bb : BkV => (bb.stmts.all fun s => decide (stErr (wE ⟨nm, ⟨rA, rn, rc, rL⟩, ⟨oA, on, oc, oL⟩, ⟨tA, tm, tc, tL⟩, ⟨lA, ln, lc, lL⟩, ar, ⟨some ⟨b, o, none⟩, bn, bc, bL⟩⟩) s = 0)) && decide (tmErr (wE ⟨nm, ⟨rA, rn, rc, rL⟩, ⟨oA, on, oc, oL⟩, ⟨tA, tm, tc, tL⟩, ⟨lA, ln, lc, lL⟩, ar, ⟨some ⟨b, o, none⟩, bn, bc, bL⟩⟩) bb.term = 0)) hpv)
   have hbx := hide fun (w' : World) (q : Below (wq.alloc (.cells #[.slice sA sn sc, .int .i64 k, .slice xA xn xc, .slice gA gn gc, .int .i64 l, .slice pA pn pc, .string tn] 52)).heap.size (wq.alloc (.cells #[.slice sA sn sc, .int .i64 k, .slice xA xn xc, .slice gA gn gc, .int .i64 l, .slice pA pn pc, .string tn] 52)) w') => (show w'.cell? ⟨wq.heap.size, 0, none⟩ = some (.slice sA sn sc) ∧ w'.cell? ⟨wq.heap.size, 1, none⟩ = some (.int .i64 k) ∧ w'.cell? ⟨wq.heap.size, 2, none⟩ = some (.slice xA xn xc) ∧ w'.cell? ⟨wq.heap.size, 3, none⟩ = some (.slice gA gn gc) ∧ w'.cell? ⟨wq.heap.size, 4, none⟩ = some (.int .i64 l) ∧ w'.cell? ⟨wq.heap.size, 5, none⟩ = some (.slice pA pn pc) ∧ w'.cell? ⟨wq.heap.size, 6, none⟩ = some (.string tn) from ⟨one_cells (w := wq) (cs := [.slice sA sn sc, .int .i64 k, .slice xA xn xc, .slice gA gn gc, .int .i64 l, .slice pA pn pc, .string tn]) q 0 _ rfl, one_cells (w := wq) (cs := [.slice sA sn sc, .int .i64 k, .slice xA xn xc, .slice gA gn gc, .int .i64 l, .slice pA pn pc, .string tn]) q 1 _ rfl, one_cells (w := wq) (cs := [.slice sA sn sc, .int .i64 k, .slice xA xn xc, .slice gA gn gc, .int .i64 l, .slice pA pn pc, .string tn]) q 2 _ rfl, one_cells (w := wq) (cs := [.slice sA sn sc, .int .i64 k, .slice xA xn xc, .slice gA gn gc, .int .i64 l, .slice pA pn pc, .string tn]) q 3 _ rfl, one_cells (w := wq) (cs := [.slice sA sn sc, .int .i64 k, .slice xA xn xc, .slice gA gn gc, .int .i64 l, .slice pA pn pc, .string tn]) q 4 _ rfl, one_cells (w := wq) (cs := [.slice sA sn sc, .int .i64 k, .slice xA xn xc, .slice gA gn gc, .int .i64 l, .slice pA pn pc, .string tn]) q 5 _ rfl, one_cells (w := wq) (cs := [.slice sA sn sc, .int .i64 k, .slice xA xn xc, .slice gA gn gc, .int .i64 l, .slice pA pn pc, .string tn]) q 6 _ rfl⟩)
   obtain ⟨tv, htv⟩ : ∃ u, tmErr (wE ⟨nm, ⟨rA, rn, rc, rL⟩, ⟨oA, on, oc, oL⟩, ⟨tA, tm, tc, tL⟩, ⟨lA, ln, lc, lL⟩, ar, ⟨some ⟨b, o, none⟩, bn, bc, bL⟩⟩) (TmW.v ⟨k, ⟨xA, xn, xc, xL⟩, ⟨gA, gn, gc, gL⟩, ⟨l, pA, pn, pc, ps⟩, tn⟩) = u := ⟨_, rfl⟩
   have HTV := hide htv
   clear hp hpv hone hc hWB hsl htv
   go_wp2
   go_loopw [3, 27] (fun ov i wr => ∃ q : Nat, ∃ ok2 : Bool, ov = .bool ok2 ∧ i = .int .i64 (q : Int) ∧ q ≤ sn ∧ Hid ((ok && ((sL.map StW.v).take q).all (fun s : StV => decide (stErr (wE ⟨nm, ⟨rA, rn, rc, rL⟩, ⟨oA, on, oc, oL⟩, ⟨tA, tm, tc, tL⟩, ⟨lA, ln, lc, lL⟩, ar, ⟨some ⟨b, o, none⟩, bn, bc, bL⟩⟩) s = 0))) = ok2) ∧ Hid (Below (wq.alloc (.cells #[.slice sA sn sc, .int .i64 k, .slice xA xn xc, .slice gA gn gc, .int .i64 l, .slice pA pn pc, .string tn] 52)).heap.size (wq.alloc (.cells #[.slice sA sn sc, .int .i64 k, .slice xA xn xc, .slice gA gn gc, .int .i64 l, .slice pA pn pc, .string tn] 52)) wr)) (fun _ i _ => sn - (intOf i).toNat)
   case atStart => exact ⟨0, ok, rfl, rfl, Nat.zero_le _, hide (Bool.and_true _), hide (Below.refl _ _)⟩
   case round =>
    obtain ⟨q, ok2, rfl, rfl, hq, HQ, HY⟩ := hrel
    have HYa := hide (HW2.out.trans (HY.out.mono HW2.out.size))
    by_cases hlq : q < sn
    ·
     have hlq' : (q : Int) < (sn : Int) := by omega
     obtain ⟨p, hp⟩ : ∃ p, sL[q]? = some p := ⟨_, List.getElem?_eq_getElem (by have : sL.length = sn := HSL.out; omega)⟩
     have hpv : (sL.map StW.v)[q]? = some p.v := by rw [List.getElem?_map, hp]; rfl
     obtain ⟨b2, o2, hA2, hb2, hone, hc⟩ := (HO.out.up HY.out).stmts.at_ hp
     have hA2 : sA = some ⟨b2, o2, none⟩ := hA2
     subst hA2
     obtain ⟨kq, ⟨ql, qA, qn, qc, qs⟩, ⟨rk, op, rg, mu, ⟨rl, zA, zn, zc, zs⟩, ⟨aA, an, ac, aL⟩⟩, lo⟩ := p
     have s0 : wr.cell? ⟨b2, o2 + q * 11, none⟩ = some (.int .i64 kq) := hc 0 _ rfl
     have s1 : wr.cell? ⟨b2, o2 + q * 11 + 1, none⟩ = some (.int .i64 ql) := hc 1 _ rfl
     have s2 : wr.cell? ⟨b2, o2 + q * 11 + 2, none⟩ = some (.slice qA qn qc) := hc 2 _ rfl
     have s3 : wr.cell? ⟨b2, o2 + q * 11 + 3, none⟩ = some (.int .i64 rk) := hc 3 _ rfl
     have s4 : wr.cell? ⟨b2, o2 + q * 11 + 4, none⟩ = some (.int .i64 op) := hc 4 _ rfl
     have s5 : wr.cell? ⟨b2, o2 + q * 11 + 5, none⟩ = some (.int .i64 rg) := hc 5 _ rfl
     have s6 : wr.cell? ⟨b2, o2 + q * 11 + 6, none⟩ = some (.bool mu) := hc 6 _ rfl
     have s7 : wr.cell? ⟨b2, o2 + q * 11 + 7, none⟩ = some (.int .i64 rl) := hc 7 _ rfl
     have s8 : wr.cell? ⟨b2, o2 + q * 11 + 8, none⟩ = some (.slice zA zn zc) := hc 8 _ rfl
     have s9 : wr.cell? ⟨b2, o2 + q * 11 + 9, none⟩ = some (.slice aA an ac) := hc 9 _ rfl
     have s10 : wr.cell? ⟨b2, o2 + q * 11 + 10, none⟩ = some (.int .i64 lo) := hc 10 _ rfl
     have hal : aL.length = an := hone.rv.args.len
     have hWS := (Below.refl wr.heap.size wr).alloc (Nat.le_refl _) (.cells #[.int .i64 kq, .int .i64 ql, .slice qA qn qc, .int .i64 rk, .int .i64 op, .int .i64 rg, .bool mu, .int .i64 rl, .slice zA zn zc, .slice aA an ac, .int .i64 lo] 46)
     have HWS := hide (HYa.out.trans (hWS.mono HYa.out.size))
     have HOS := hide (hone.up hWS)
     have HYS := hide (HY.out.trans (hWS.mono HY.out.size))
     obtain ⟨sv, hsv⟩ : ∃ u, stErr (wE ⟨nm, ⟨rA, rn, rc, rL⟩, ⟨oA, on, oc, oL⟩, ⟨tA, tm, tc, tL⟩, ⟨lA, ln, lc, lL⟩, ar, ⟨some ⟨b, o, none⟩, bn, bc, bL⟩⟩) (StW.v ⟨kq, ⟨ql, qA, qn, qc, qs⟩, ⟨rk, op, rg, mu, ⟨rl, zA, zn, zc, zs⟩, ⟨aA, an, ac, aL⟩⟩, lo⟩) = u := ⟨_, rfl⟩
     have HSV := hide hsv
     have HUS := hide (all_up (fun s : StV => decide (stErr (wE ⟨nm, ⟨rA, rn, rc, rL⟩, ⟨oA, on, oc, oL⟩, ⟨tA, tm, tc, tL⟩, ⟨lA, ln, lc, lL⟩, ar, ⟨some ⟨b, o, none⟩, bn, bc, bL⟩⟩) s = 0)) hpv)
     have hsx := hide fun (w' : World) (y : Below (wr.alloc (.cells #[.int .i64 kq, .int .i64 ql, .slice qA qn qc, .int .i64 rk, .int .i64 op, .int .i64 rg, .bool mu, .int .i64 rl, .slice zA zn zc, .slice aA an ac, .int .i64 lo] 46)).heap.size (wr.alloc (.cells #[.int .i64 kq, .int .i64 ql, .slice qA qn qc, .int .i64 rk, .int .i64 op, .int .i64 rg, .bool mu, .int .i64 rl, .slice zA zn zc, .slice aA an ac, .int .i64 lo] 46)) w') => (show w'.cell? ⟨w.heap.size, 0, none⟩ = some (.string nm) ∧ w'.cell? ⟨w.heap.size, 1, none⟩ = some (.slice rA rn rc) ∧ w'.cell? ⟨w.heap.size, 2, none⟩ = some (.slice oA on oc) ∧ w'.cell? ⟨w.heap.size, 3, none⟩ = some (.slice tA tm tc) ∧ w'.cell? ⟨w.heap.size, 4, none⟩ = some (.slice lA ln lc) ∧ w'.cell? ⟨w.heap.size, 5, none⟩ = some (.int .i64 ar) ∧ w'.cell? ⟨w.heap.size, 6, none⟩ = some (.slice (some ⟨b, o, none⟩) bn bc) ∧ w'.cell? ⟨wr.heap.size, 0, none⟩ = some (.int .i64 kq) ∧ w'.cell? ⟨wr.heap.size, 1, none⟩ = some (.int .i64 ql) ∧ w'.cell? ⟨wr.heap.size, 2, none⟩ = some (.slice qA qn qc) ∧ w'.cell? ⟨wr.heap.size, 3, none⟩ = some (.int .i64 rk) ∧ w'.cell? ⟨wr.heap.size, 4, none⟩ = some (.int .i64 op) ∧ w'.cell? ⟨wr.heap.size, 5, none⟩ = some (.int .i64 rg) ∧ w'.cell? ⟨wr.heap.size, 6, none⟩ = some (.bool mu) ∧ w'.cell? ⟨wr.heap.size, 7, none⟩ = some (.int .i64 rl) ∧ w'.cell? ⟨wr.heap.size, 8, none⟩ = some (.slice zA zn zc) ∧ w'.cell? ⟨wr.heap.size, 9, none⟩ = some (.slice aA an ac) ∧ w'.cell? ⟨wr.heap.size, 10, none⟩ = some (.int .i64 lo) from by
      obtain ⟨a0, a1, a2, a3, a4, a5, a6⟩ := hcs.out _ (HWS.out.trans (y.mono HWS.out.size))
      have h9 := one_cells (w := wr) (cs := [.int .i64 kq, .int .i64 ql, .slice qA qn qc, .int .i64 rk, .int .i64 op, .int .i64 rg, .bool mu, .int .i64 rl, .slice zA zn zc, .slice aA an ac, .int .i64 lo]) (T := 46) y
      exact ⟨a0, a1, a2, a3, a4, a5, a6, h9 0 _ rfl, h9 1 _ rfl, h9 2 _ rfl, h9 3 _ rfl, h9 4 _ rfl, h9 5 _ rfl, h9 6 _ rfl, h9 7 _ rfl, h9 8 _ rfl, h9 9 _ rfl, h9 10 _ rfl⟩)
     have HCS := hide fun (w' : World) (y : Below (wr.alloc (.cells #[.int .i64 kq, .int .i64 ql, .slice qA qn qc, .int .i64 rk, .int .i64 op, .int .i64 rg, .bool mu, .int .i64 rl, .slice zA zn zc, .slice aA an ac, .int .i64 lo] 46)).heap.size (wr.alloc (.cells #[.int .i64 kq, .int .i64 ql, .slice qA qn qc, .int .i64 rk, .int .i64 op, .int .i64 rg, .bool mu, .int .i64 rl, .slice zA zn zc, .slice aA an ac, .int .i64 lo] 46)) w') => vStmt_is (x := ⟨nm, ⟨rA, rn, rc, rL⟩, ⟨oA, on, oc, oL⟩, ⟨tA, tm, tc, tL⟩, ⟨lA, ln, lc, lL⟩, ar, ⟨some ⟨b, o, none⟩, bn, bc, bL⟩⟩) (HVB.out.up (HWS.out.trans (y.mono HWS.out.size))) HN.out (HT.out.up (HWS.out.trans (y.mono HWS.out.size))) (HOS.out.up y) HSV.out
     have HUse := hide fun (e0 : sv = 0) (e1 : kq = 0) (e2 : rk = 0) => stErr_use (s := StW.v ⟨kq, ⟨ql, qA, qn, qc, qs⟩, ⟨rk, op, rg, mu, ⟨rl, zA, zn, zc, zs⟩, ⟨aA, an, ac, aL⟩⟩, lo⟩) (hsv.trans e0) e1 e2
     have HAL := hide hal
     have HW0s := hide (Below.refl (wr.alloc (.cells #[.int .i64 kq, .int .i64 ql, .slice qA qn qc, .int .i64 rk, .int .i64 op, .int .i64 rg, .bool mu, .int .i64 rl, .slice zA zn zc, .slice aA an ac, .int .i64 lo] 46)).heap.size (wr.alloc (.cells #[.int .i64 kq, .int .i64 ql, .slice qA qn qc, .int .i64 rk, .int .i64 op, .int .i64 rg, .bool mu, .int .i64 rl, .slice zA zn zc, .slice aA an ac, .int .i64 lo] 46)))
     obtain ⟨d0, d1, d2, d3, d4, d5, d6, e0, e1, e2, e3, e4, e5, e6, e7, e8, e9, e10⟩ := hsx.out _ HW0s.out
     clear hp hpv hone hc hWS hsv hal
     cases ok2
     case false =>
      have HOK3 := hide (show (ok && ((sL.map StW.v).take (q + 1)).all (fun s : StV => decide (stErr (wE ⟨nm, ⟨rA, rn, rc, rL⟩, ⟨oA, on, oc, oL⟩, ⟨tA, tm, tc, tL⟩, ⟨lA, ln, lc, lL⟩, ar, ⟨some ⟨b, o, none⟩, bn, bc, bL⟩⟩) s = 0))) = false from by rw [HUS.out, ← Bool.and_assoc, HQ.out]; rfl)
      have HA := hide (Below.refl (wr.alloc (.cells #[.int .i64 kq, .int .i64 ql, .slice qA qn qc, .int .i64 rk, .int .i64 op, .int .i64 rg, .bool mu, .int .i64 rl, .slice zA zn zc, .slice aA an ac, .int .i64 lo] 46)).heap.size (wr.alloc (.cells #[.int .i64 kq, .int .i64 ql, .slice qA qn qc, .int .i64 rk, .int .i64 op, .int .i64 rg, .bool mu, .int .i64 rl, .slice zA zn zc, .slice aA an ac, .int .i64 lo] 46)))
      by_cases e0 : sv = 0
      case pos =>
       subst e0
       by_cases k0 : kq = 0
       case neg =>
        have k0b : (kq == 0) = false := by simp [k0]
        clear k0
        go_wp2
        have HD := hide HA.out.drew
        refine wp_region_held_drew (S := (fun w' => Below (wr.alloc (.cells #[.int .i64 kq, .int .i64 ql, .slice qA qn qc, .int .i64 rk, .int .i64 op, .int .i64 rg, .bool mu, .int .i64 rl, .slice zA zn zc, .slice aA an ac, .int .i64 lo] 46)).heap.size (wr.alloc (.cells #[.int .i64 kq, .int .i64 ql, .slice qA qn qc, .int .i64 rk, .int .i64 op, .int .i64 rg, .bool mu, .int .i64 rl, .slice zA zn zc, .slice aA an ac, .int .i64 lo] 46)) w')) (by kernel_rfl) HD.out (fun hHeld => ?_)
        refine plan [(0, some 38, true), (1, some 39, true), (2, some 40, true), (3, some 41, true), (4, some 42, false), (5, some 43, false), (6, some 44, false), (7, some 45, false), (8, some 46, true), (9, some 47, true), (10, some 48, false), (11, some 49, false)] ?_
        repeat' ((first | refine pN hHeld rfl rfl ?_ | (refine pY (v := ?_) hHeld rfl rfl ?_ ?_; rotate_left; (· (intro w9 hS9; obtain ⟨s0, s1, s2, s3, s4, s5, s6, s7, s8, s9, s10, s11, s12, s13, s14, s15, s16, s17⟩ := hsx.out _ hS9; first | (go_simp; done) | (go_simp; with_reducible rfl))))); try simp only [Act.put, List.setIfInBounds_toArray, List.set_cons_zero, List.set_cons_succ])
        refine plan0 ?_
        refine wpAnyH_ready (rs := [12]) (by kernel_rfl) (by simp) ?_
        refine AllReadyH.cons rfl (fun KZ hK => ?_) AllReadyH.nil
        go_simp
        refine hK.out _ _ hHeld (fun hHeld => ?_)
        clear hK KZ
        try simp only [Act.put, List.setIfInBounds_toArray, List.set_cons_zero, List.set_cons_succ]
        refine plan [(13, some 51, false), (14, some 52, true), (15, some 53, true), (16, some 54, false), (17, some 55, false), (18, some 56, false), (19, some 57, false), (20, some 58, false), (21, some 59, false), (22, some 60, false), (23, some 61, false), (24, some 62, false), (25, some 63, false), (26, some 64, false), (27, some 65, false)] ?_
        repeat' ((first | refine pN hHeld rfl rfl ?_ | (refine pY (v := ?_) hHeld rfl rfl ?_ ?_; rotate_left; (· (intro w9 hS9; obtain ⟨s0, s1, s2, s3, s4, s5, s6, s7, s8, s9, s10, s11, s12, s13, s14, s15, s16, s17⟩ := hsx.out _ hS9; first | (go_simp; done) | (go_simp; with_reducible rfl))))); try simp only [Act.put, List.setIfInBounds_toArray, List.set_cons_zero, List.set_cons_succ])
        refine plan0 ?_
        refine wpAnyH_ready (rs := [28]) (by kernel_rfl) (by simp) ?_
        refine AllReadyH.cons rfl (fun KZ hK => ?_) AllReadyH.nil
        go_simp
        refine hK.out _ _ hHeld (fun hHeld => ?_)
        clear hK KZ
        try simp only [Act.put, List.setIfInBounds_toArray, List.set_cons_zero, List.set_cons_succ]
        refine plan [(29, some 67, false), (30, some 68, false), (31, some 69, true)] ?_
        repeat' ((first | refine pN hHeld rfl rfl ?_ | (refine pY (v := ?_) hHeld rfl rfl ?_ ?_; rotate_left; (· (intro w9 hS9; obtain ⟨s0, s1, s2, s3, s4, s5, s6, s7, s8, s9, s10, s11, s12, s13, s14, s15, s16, s17⟩ := hsx.out _ hS9; first | (go_simp; done) | (go_simp; with_reducible rfl))))); try simp only [Act.put, List.setIfInBounds_toArray, List.set_cons_zero, List.set_cons_succ])
        refine plan0 ?_
        refine wpAnyH_done (by kernel_rfl) ?_ _
        have HZ := hide (HYS.out.trans (HD.out.mono HYS.out.size))
        go_wp2
        go_roundw
        case rel => exact ⟨q + 1, false, rfl, by go_num, by omega, hide HOK3.out, hide HZ.out⟩
        case measure => simp [intOf]; omega
       have k0b : (kq == 0) = true := by simp [k0]
       by_cases k1 : rk = 0
       case neg =>
        have k1b : (rk == 0) = false := by simp [k1]
        clear k0 k1
        go_wp2
        have HD := hide HA.out.drew
        refine wp_region_held_drew (S := (fun w' => Below (wr.alloc (.cells #[.int .i64 kq, .int .i64 ql, .slice qA qn qc, .int .i64 rk, .int .i64 op, .int .i64 rg, .bool mu, .int .i64 rl, .slice zA zn zc, .slice aA an ac, .int .i64 lo] 46)).heap.size (wr.alloc (.cells #[.int .i64 kq, .int .i64 ql, .slice qA qn qc, .int .i64 rk, .int .i64 op, .int .i64 rg, .bool mu, .int .i64 rl, .slice zA zn zc, .slice aA an ac, .int .i64 lo] 46)) w')) (by kernel_rfl) HD.out (fun hHeld => ?_)
        refine plan [(0, some 38, true), (1, some 39, true), (2, some 40, true), (3, some 41, true), (4, some 42, true), (5, some 43, true), (6, some 44, true), (7, some 45, true), (8, some 46, true), (9, some 47, true), (10, some 48, false), (11, some 49, false)] ?_
        repeat' ((first | refine pN hHeld rfl rfl ?_ | (refine pY (v := ?_) hHeld rfl rfl ?_ ?_; rotate_left; (· (intro w9 hS9; obtain ⟨s0, s1, s2, s3, s4, s5, s6, s7, s8, s9, s10, s11, s12, s13, s14, s15, s16, s17⟩ := hsx.out _ hS9; first | (go_simp; done) | (go_simp; with_reducible rfl))))); try simp only [Act.put, List.setIfInBounds_toArray, List.set_cons_zero, List.set_cons_succ])
        refine plan0 ?_
        refine wpAnyH_ready (rs := [12]) (by kernel_rfl) (by simp) ?_
        refine AllReadyH.cons rfl (fun KZ hK => ?_) AllReadyH.nil
        go_simp
        refine hK.out _ _ hHeld (fun hHeld => ?_)
        clear hK KZ
        try simp only [Act.put, List.setIfInBounds_toArray, List.set_cons_zero, List.set_cons_succ]
        refine plan [(13, some 51, false), (14, some 52, true), (15, some 53, true), (16, some 54, false), (17, some 55, false), (18, some 56, false), (19, some 57, false), (20, some 58, false), (21, some 59, false), (22, some 60, false), (23, some 61, false), (24, some 62, false), (25, some 63, false), (26, some 64, false), (27, some 65, false)] ?_
        repeat' ((first | refine pN hHeld rfl rfl ?_ | (refine pY (v := ?_) hHeld rfl rfl ?_ ?_; rotate_left; (· (intro w9 hS9; obtain ⟨s0, s1, s2, s3, s4, s5, s6, s7, s8, s9, s10, s11, s12, s13, s14, s15, s16, s17⟩ := hsx.out _ hS9; first | (go_simp; done) | (go_simp; with_reducible rfl))))); try simp only [Act.put, List.setIfInBounds_toArray, List.set_cons_zero, List.set_cons_succ])
        refine plan0 ?_
        refine wpAnyH_ready (rs := [28]) (by kernel_rfl) (by simp) ?_
        refine AllReadyH.cons rfl (fun KZ hK => ?_) AllReadyH.nil
        go_simp
        refine hK.out _ _ hHeld (fun hHeld => ?_)
        clear hK KZ
        try simp only [Act.put, List.setIfInBounds_toArray, List.set_cons_zero, List.set_cons_succ]
        refine plan [(29, some 67, false), (30, some 68, false), (31, some 69, true)] ?_
        repeat' ((first | refine pN hHeld rfl rfl ?_ | (refine pY (v := ?_) hHeld rfl rfl ?_ ?_; rotate_left; (· (intro w9 hS9; obtain ⟨s0, s1, s2, s3, s4, s5, s6, s7, s8, s9, s10, s11, s12, s13, s14, s15, s16, s17⟩ := hsx.out _ hS9; first | (go_simp; done) | (go_simp; with_reducible rfl))))); try simp only [Act.put, List.setIfInBounds_toArray, List.set_cons_zero, List.set_cons_succ])
        refine plan0 ?_
        refine wpAnyH_done (by kernel_rfl) ?_ _
        have HZ := hide (HYS.out.trans (HD.out.mono HYS.out.size))
        go_wp2
        go_roundw
        case rel => exact ⟨q + 1, false, rfl, by go_num, by omega, hide HOK3.out, hide HZ.out⟩
        case measure => simp [intOf]; omega
       have k1b : (rk == 0) = true := by simp [k1]
       obtain ⟨o1, ho1, ho2⟩ := HUse.out (by first | rfl | trivial) k0 k1
       have ho4 : aL.map OpW.v = [o1] := ho1
       have han : an = 1 := by have h9 := congrArg List.length ho4; rw [List.length_map] at h9; have h8 := HAL.out; simpa [h8] using h9
       subst han
       obtain ⟨pw, hpw⟩ := List.length_eq_one_iff.1 HAL.out
       have ho3 : pw.v = o1 := by rw [hpw] at ho4; simpa using ho4
       subst ho3
       have hgp : aL[0]? = some pw := by rw [hpw]; rfl
       obtain ⟨b3, o3, hA3, hb3, hone3, hc3⟩ := HOS.out.rv.args.at_ hgp
       have hA3 : aA = some ⟨b3, o3, none⟩ := hA3
       subst hA3
       obtain ⟨ok9, ⟨ol, oA9, on9, oc9, os9⟩, oz⟩ := pw
       have u0 : (wr.alloc (.cells #[.int .i64 kq, .int .i64 ql, .slice qA qn qc, .int .i64 rk, .int .i64 op, .int .i64 rg, .bool mu, .int .i64 rl, .slice zA zn zc, .slice (some ⟨b3, o3, none⟩) 1 ac, .int .i64 lo] 46)).cell? ⟨b3, o3, none⟩ = some (.int .i64 ok9) := by have := hc3 0 _ rfl; simpa using this
       have u1 : (wr.alloc (.cells #[.int .i64 kq, .int .i64 ql, .slice qA qn qc, .int .i64 rk, .int .i64 op, .int .i64 rg, .bool mu, .int .i64 rl, .slice zA zn zc, .slice (some ⟨b3, o3, none⟩) 1 ac, .int .i64 lo] 46)).cell? ⟨b3, o3 + 1, none⟩ = some (.int .i64 ol) := by have := hc3 1 _ rfl; simpa using this
       have u2 : (wr.alloc (.cells #[.int .i64 kq, .int .i64 ql, .slice qA qn qc, .int .i64 rk, .int .i64 op, .int .i64 rg, .bool mu, .int .i64 rl, .slice zA zn zc, .slice (some ⟨b3, o3, none⟩) 1 ac, .int .i64 lo] 46)).cell? ⟨b3, o3 + 2, none⟩ = some (.slice oA9 on9 oc9) := by have := hc3 2 _ rfl; simpa using this
       have u3 : (wr.alloc (.cells #[.int .i64 kq, .int .i64 ql, .slice qA qn qc, .int .i64 rk, .int .i64 op, .int .i64 rg, .bool mu, .int .i64 rl, .slice zA zn zc, .slice (some ⟨b3, o3, none⟩) 1 ac, .int .i64 lo] 46)).cell? ⟨b3, o3 + 3, none⟩ = some (.int .i64 oz) := by have := hc3 3 _ rfl; simpa using this
       have hsx2 := hide fun (w' : World) (y : Below (wr.alloc (.cells #[.int .i64 kq, .int .i64 ql, .slice qA qn qc, .int .i64 rk, .int .i64 op, .int .i64 rg, .bool mu, .int .i64 rl, .slice zA zn zc, .slice (some ⟨b3, o3, none⟩) 1 ac, .int .i64 lo] 46)).heap.size (wr.alloc (.cells #[.int .i64 kq, .int .i64 ql, .slice qA qn qc, .int .i64 rk, .int .i64 op, .int .i64 rg, .bool mu, .int .i64 rl, .slice zA zn zc, .slice (some ⟨b3, o3, none⟩) 1 ac, .int .i64 lo] 46)) w') => (show w'.cell? ⟨w.heap.size, 0, none⟩ = some (.string nm) ∧ w'.cell? ⟨w.heap.size, 1, none⟩ = some (.slice rA rn rc) ∧ w'.cell? ⟨w.heap.size, 2, none⟩ = some (.slice oA on oc) ∧ w'.cell? ⟨w.heap.size, 3, none⟩ = some (.slice tA tm tc) ∧ w'.cell? ⟨w.heap.size, 4, none⟩ = some (.slice lA ln lc) ∧ w'.cell? ⟨w.heap.size, 5, none⟩ = some (.int .i64 ar) ∧ w'.cell? ⟨w.heap.size, 6, none⟩ = some (.slice (some ⟨b, o, none⟩) bn bc) ∧ w'.cell? ⟨wr.heap.size, 0, none⟩ = some (.int .i64 kq) ∧ w'.cell? ⟨wr.heap.size, 1, none⟩ = some (.int .i64 ql) ∧ w'.cell? ⟨wr.heap.size, 2, none⟩ = some (.slice qA qn qc) ∧ w'.cell? ⟨wr.heap.size, 3, none⟩ = some (.int .i64 rk) ∧ w'.cell? ⟨wr.heap.size, 4, none⟩ = some (.int .i64 op) ∧ w'.cell? ⟨wr.heap.size, 5, none⟩ = some (.int .i64 rg) ∧ w'.cell? ⟨wr.heap.size, 6, none⟩ = some (.bool mu) ∧ w'.cell? ⟨wr.heap.size, 7, none⟩ = some (.int .i64 rl) ∧ w'.cell? ⟨wr.heap.size, 8, none⟩ = some (.slice zA zn zc) ∧ w'.cell? ⟨wr.heap.size, 9, none⟩ = some (.slice (some ⟨b3, o3, none⟩) 1 ac) ∧ w'.cell? ⟨wr.heap.size, 10, none⟩ = some (.int .i64 lo) ∧ w'.cell? ⟨b3, o3, none⟩ = some (.int .i64 ok9) ∧ w'.cell? ⟨b3, o3 + 1, none⟩ = some (.int .i64 ol) ∧ w'.cell? ⟨b3, o3 + 2, none⟩ = some (.slice oA9 on9 oc9) ∧ w'.cell? ⟨b3, o3 + 3, none⟩ = some (.int .i64 oz) from by
        obtain ⟨x0, x1, x2, x3, x4, x5, x6, x7, x8, x9, x10, x11, x12, x13, x14, x15, x16, x17⟩ := hsx.out _ y
        exact ⟨x0, x1, x2, x3, x4, x5, x6, x7, x8, x9, x10, x11, x12, x13, x14, x15, x16, x17, (y.cell (p := ⟨b3, o3, none⟩) hb3).trans u0, (y.cell (p := ⟨b3, o3 + 1, none⟩) hb3).trans u1, (y.cell (p := ⟨b3, o3 + 2, none⟩) hb3).trans u2, (y.cell (p := ⟨b3, o3 + 3, none⟩) hb3).trans u3⟩)
       have HOPc := hide fun (w' : World) (y : Below (wr.alloc (.cells #[.int .i64 kq, .int .i64 ql, .slice qA qn qc, .int .i64 rk, .int .i64 op, .int .i64 rg, .bool mu, .int .i64 rl, .slice zA zn zc, .slice (some ⟨b3, o3, none⟩) 1 ac, .int .i64 lo] 46)).heap.size (wr.alloc (.cells #[.int .i64 kq, .int .i64 ql, .slice qA qn qc, .int .i64 rk, .int .i64 op, .int .i64 rg, .bool mu, .int .i64 rl, .slice zA zn zc, .slice (some ⟨b3, o3, none⟩) 1 ac, .int .i64 lo] 46)) w') => vOperand_is (x := ⟨nm, ⟨rA, rn, rc, rL⟩, ⟨oA, on, oc, oL⟩, ⟨tA, tm, tc, tL⟩, ⟨lA, ln, lc, lL⟩, ar, ⟨some ⟨b, o, none⟩, bn, bc, bL⟩⟩) (HVB.out.up (HWS.out.trans (y.mono HWS.out.size))) HN.out (HT.out.up (HWS.out.trans (y.mono HWS.out.size))) (hone3.up y) ho2
       clear hgp hone3 hc3 ho1 ho4 ho2 hpw k0 k1
       go_wp2
       have HD := hide HA.out.drew
       refine wp_region_held_drew (S := (fun w' => Below (wr.alloc (.cells #[.int .i64 kq, .int .i64 ql, .slice qA qn qc, .int .i64 rk, .int .i64 op, .int .i64 rg, .bool mu, .int .i64 rl, .slice zA zn zc, .slice (some ⟨b3, o3, none⟩) 1 ac, .int .i64 lo] 46)).heap.size (wr.alloc (.cells #[.int .i64 kq, .int .i64 ql, .slice qA qn qc, .int .i64 rk, .int .i64 op, .int .i64 rg, .bool mu, .int .i64 rl, .slice zA zn zc, .slice (some ⟨b3, o3, none⟩) 1 ac, .int .i64 lo] 46)) w')) (by kernel_rfl) HD.out (fun hHeld => ?_)
       refine plan [(0, some 38, true), (1, some 39, true), (2, some 40, true), (3, some 41, true), (4, some 42, true), (5, some 43, true), (6, some 44, true), (7, some 45, true), (8, some 46, true), (9, some 47, true), (10, some 48, true), (11, some 49, true)] ?_
       repeat' ((first | refine pN hHeld rfl rfl ?_ | (refine pY (v := ?_) hHeld rfl rfl ?_ ?_; rotate_left; (· (intro w9 hS9; obtain ⟨s0, s1, s2, s3, s4, s5, s6, s7, s8, s9, s10, s11, s12, s13, s14, s15, s16, s17, s18, s19, s20, s21⟩ := hsx2.out _ hS9; first | (go_simp; done) | (go_simp; with_reducible rfl))))); try simp only [Act.put, List.setIfInBounds_toArray, List.set_cons_zero, List.set_cons_succ])
       refine plan0 ?_
       refine wpAnyH_ready (rs := [12]) (by kernel_rfl) (by simp) ?_
       refine AllReadyH.cons rfl (fun KZ hK => ?_) AllReadyH.nil
       go_simp
       refine (HCS.out _ HD.out).mono ?_
       rintro f7 w7 ⟨rfl, hb7⟩
       have HX7 := hide (HD.out.trans (hb7.mono HD.out.size))
       clear hb7
       refine hK.out _ _ HX7.out (fun hHeld => ?_)
       clear hK KZ
       try simp only [Act.put, List.setIfInBounds_toArray, List.set_cons_zero, List.set_cons_succ]
       refine plan [(13, some 51, true), (14, some 52, true), (15, some 53, true), (16, some 54, true), (17, some 55, true), (18, some 56, true), (19, some 57, true), (20, some 58, true), (21, some 59, true), (22, some 60, true), (23, some 61, true), (24, some 62, true), (25, some 63, true), (26, some 64, true), (27, some 65, true)] ?_
       repeat' ((first | refine pN hHeld rfl rfl ?_ | (refine pY (v := ?_) hHeld rfl rfl ?_ ?_; rotate_left; (· (intro w9 hS9; obtain ⟨s0, s1, s2, s3, s4, s5, s6, s7, s8, s9, s10, s11, s12, s13, s14, s15, s16, s17, s18, s19, s20, s21⟩ := hsx2.out _ hS9; first | (go_simp; done) | (go_simp; with_reducible rfl))))); try simp only [Act.put, List.setIfInBounds_toArray, List.set_cons_zero, List.set_cons_succ])
       refine plan0 ?_
       refine wpAnyH_ready (rs := [28]) (by kernel_rfl) (by simp) ?_
       refine AllReadyH.cons rfl (fun KZ hK => ?_) AllReadyH.nil
       go_simp
       refine (HOPc.out _ HX7.out).mono ?_
       rintro f8 w8 ⟨rfl, hb8⟩
       have HX8 := hide (HX7.out.trans (hb8.mono HX7.out.size))
       clear hb8
       refine hK.out _ _ HX8.out (fun hHeld => ?_)
       clear hK KZ
       try simp only [Act.put, List.setIfInBounds_toArray, List.set_cons_zero, List.set_cons_succ]
       refine plan [(29, some 67, true), (30, some 68, true), (31, some 69, true)] ?_
       repeat' ((first | refine pN hHeld rfl rfl ?_ | (refine pY (v := ?_) hHeld rfl rfl ?_ ?_; rotate_left; (· (intro w9 hS9; obtain ⟨s0, s1, s2, s3, s4, s5, s6, s7, s8, s9, s10, s11, s12, s13, s14, s15, s16, s17, s18, s19, s20, s21⟩ := hsx2.out _ hS9; first | (go_simp; done) | (go_simp; with_reducible rfl))))); try simp only [Act.put, List.setIfInBounds_toArray, List.set_cons_zero, List.set_cons_succ])
       refine plan0 ?_
       refine wpAnyH_done (by kernel_rfl) ?_ _
       have HZ := hide (HYS.out.trans (HX8.out.mono HYS.out.size))
       go_wp2
       go_roundw
       case rel => exact ⟨q + 1, false, rfl, by go_num, by omega, hide HOK3.out, hide HZ.out⟩
       case measure => simp [intOf]; omega
      have t9 : (sv == 0) = false := by simp [e0]
      clear e0
      by_cases k0 : kq = 0
      case neg =>
       have k0b : (kq == 0) = false := by simp [k0]
       clear k0
       go_wp2
       have HD := hide HA.out.drew
       refine wp_region_held_drew (S := (fun w' => Below (wr.alloc (.cells #[.int .i64 kq, .int .i64 ql, .slice qA qn qc, .int .i64 rk, .int .i64 op, .int .i64 rg, .bool mu, .int .i64 rl, .slice zA zn zc, .slice aA an ac, .int .i64 lo] 46)).heap.size (wr.alloc (.cells #[.int .i64 kq, .int .i64 ql, .slice qA qn qc, .int .i64 rk, .int .i64 op, .int .i64 rg, .bool mu, .int .i64 rl, .slice zA zn zc, .slice aA an ac, .int .i64 lo] 46)) w')) (by kernel_rfl) HD.out (fun hHeld => ?_)
       refine plan [(0, some 38, true), (1, some 39, true), (2, some 40, true), (3, some 41, true), (4, some 42, false), (5, some 43, false), (6, some 44, false), (7, some 45, false), (8, some 46, true), (9, some 47, true), (10, some 48, false), (11, some 49, false)] ?_
       repeat' ((first | refine pN hHeld rfl rfl ?_ | (refine pY (v := ?_) hHeld rfl rfl ?_ ?_; rotate_left; (· (intro w9 hS9; obtain ⟨s0, s1, s2, s3, s4, s5, s6, s7, s8, s9, s10, s11, s12, s13, s14, s15, s16, s17⟩ := hsx.out _ hS9; first | (go_simp; done) | (go_simp; with_reducible rfl))))); try simp only [Act.put, List.setIfInBounds_toArray, List.set_cons_zero, List.set_cons_succ])
       refine plan0 ?_
       refine wpAnyH_ready (rs := [12]) (by kernel_rfl) (by simp) ?_
       refine AllReadyH.cons rfl (fun KZ hK => ?_) AllReadyH.nil
       go_simp
       refine hK.out _ _ hHeld (fun hHeld => ?_)
       clear hK KZ
       try simp only [Act.put, List.setIfInBounds_toArray, List.set_cons_zero, List.set_cons_succ]
       refine plan [(13, some 51, false), (14, some 52, true), (15, some 53, true), (16, some 54, false), (17, some 55, false), (18, some 56, false), (19, some 57, false), (20, some 58, false), (21, some 59, false), (22, some 60, false), (23, some 61, false), (24, some 62, false), (25, some 63, false), (26, some 64, false), (27, some 65, false)] ?_
       repeat' ((first | refine pN hHeld rfl rfl ?_ | (refine pY (v := ?_) hHeld rfl rfl ?_ ?_; rotate_left; (· (intro w9 hS9; obtain ⟨s0, s1, s2, s3, s4, s5, s6, s7, s8, s9, s10, s11, s12, s13, s14, s15, s16, s17⟩ := hsx.out _ hS9; first | (go_simp; done) | (go_simp; with_reducible rfl))))); try simp only [Act.put, List.setIfInBounds_toArray, List.set_cons_zero, List.set_cons_succ])
       refine plan0 ?_
       refine wpAnyH_ready (rs := [28]) (by kernel_rfl) (by simp) ?_
       refine AllReadyH.cons rfl (fun KZ hK => ?_) AllReadyH.nil
       go_simp
       refine hK.out _ _ hHeld (fun hHeld => ?_)
       clear hK KZ
       try simp only [Act.put, List.setIfInBounds_toArray, List.set_cons_zero, List.set_cons_succ]
       refine plan [(29, some 67, false), (30, some 68, false), (31, some 69, true)] ?_
       repeat' ((first | refine pN hHeld rfl rfl ?_ | (refine pY (v := ?_) hHeld rfl rfl ?_ ?_; rotate_left; (· (intro w9 hS9; obtain ⟨s0, s1, s2, s3, s4, s5, s6, s7, s8, s9, s10, s11, s12, s13, s14, s15, s16, s17⟩ := hsx.out _ hS9; first | (go_simp; done) | (go_simp; with_reducible rfl))))); try simp only [Act.put, List.setIfInBounds_toArray, List.set_cons_zero, List.set_cons_succ])
       refine plan0 ?_
       refine wpAnyH_done (by kernel_rfl) ?_ _
       have HZ := hide (HYS.out.trans (HD.out.mono HYS.out.size))
       go_wp2
       go_roundw
       case rel => exact ⟨q + 1, false, rfl, by go_num, by omega, hide HOK3.out, hide HZ.out⟩
       case measure => simp [intOf]; omega
      have k0b : (kq == 0) = true := by simp [k0]
      by_cases k1 : rk = 0
      case neg =>
       have k1b : (rk == 0) = false := by simp [k1]
       clear k0 k1
       go_wp2
       have HD := hide HA.out.drew
       refine wp_region_held_drew (S := (fun w' => Below (wr.alloc (.cells #[.int .i64 kq, .int .i64 ql, .slice qA qn qc, .int .i64 rk, .int .i64 op, .int .i64 rg, .bool mu, .int .i64 rl, .slice zA zn zc, .slice aA an ac, .int .i64 lo] 46)).heap.size (wr.alloc (.cells #[.int .i64 kq, .int .i64 ql, .slice qA qn qc, .int .i64 rk, .int .i64 op, .int .i64 rg, .bool mu, .int .i64 rl, .slice zA zn zc, .slice aA an ac, .int .i64 lo] 46)) w')) (by kernel_rfl) HD.out (fun hHeld => ?_)
       refine plan [(0, some 38, true), (1, some 39, true), (2, some 40, true), (3, some 41, true), (4, some 42, true), (5, some 43, true), (6, some 44, true), (7, some 45, true), (8, some 46, true), (9, some 47, true), (10, some 48, false), (11, some 49, false)] ?_
       repeat' ((first | refine pN hHeld rfl rfl ?_ | (refine pY (v := ?_) hHeld rfl rfl ?_ ?_; rotate_left; (· (intro w9 hS9; obtain ⟨s0, s1, s2, s3, s4, s5, s6, s7, s8, s9, s10, s11, s12, s13, s14, s15, s16, s17⟩ := hsx.out _ hS9; first | (go_simp; done) | (go_simp; with_reducible rfl))))); try simp only [Act.put, List.setIfInBounds_toArray, List.set_cons_zero, List.set_cons_succ])
       refine plan0 ?_
       refine wpAnyH_ready (rs := [12]) (by kernel_rfl) (by simp) ?_
       refine AllReadyH.cons rfl (fun KZ hK => ?_) AllReadyH.nil
       go_simp
       refine hK.out _ _ hHeld (fun hHeld => ?_)
       clear hK KZ
       try simp only [Act.put, List.setIfInBounds_toArray, List.set_cons_zero, List.set_cons_succ]
       refine plan [(13, some 51, false), (14, some 52, true), (15, some 53, true), (16, some 54, false), (17, some 55, false), (18, some 56, false), (19, some 57, false), (20, some 58, false), (21, some 59, false), (22, some 60, false), (23, some 61, false), (24, some 62, false), (25, some 63, false), (26, some 64, false), (27, some 65, false)] ?_
       repeat' ((first | refine pN hHeld rfl rfl ?_ | (refine pY (v := ?_) hHeld rfl rfl ?_ ?_; rotate_left; (· (intro w9 hS9; obtain ⟨s0, s1, s2, s3, s4, s5, s6, s7, s8, s9, s10, s11, s12, s13, s14, s15, s16, s17⟩ := hsx.out _ hS9; first | (go_simp; done) | (go_simp; with_reducible rfl))))); try simp only [Act.put, List.setIfInBounds_toArray, List.set_cons_zero, List.set_cons_succ])
       refine plan0 ?_
       refine wpAnyH_ready (rs := [28]) (by kernel_rfl) (by simp) ?_
       refine AllReadyH.cons rfl (fun KZ hK => ?_) AllReadyH.nil
       go_simp
       refine hK.out _ _ hHeld (fun hHeld => ?_)
       clear hK KZ
       try simp only [Act.put, List.setIfInBounds_toArray, List.set_cons_zero, List.set_cons_succ]
       refine plan [(29, some 67, false), (30, some 68, false), (31, some 69, true)] ?_
       repeat' ((first | refine pN hHeld rfl rfl ?_ | (refine pY (v := ?_) hHeld rfl rfl ?_ ?_; rotate_left; (· (intro w9 hS9; obtain ⟨s0, s1, s2, s3, s4, s5, s6, s7, s8, s9, s10, s11, s12, s13, s14, s15, s16, s17⟩ := hsx.out _ hS9; first | (go_simp; done) | (go_simp; with_reducible rfl))))); try simp only [Act.put, List.setIfInBounds_toArray, List.set_cons_zero, List.set_cons_succ])
       refine plan0 ?_
       refine wpAnyH_done (by kernel_rfl) ?_ _
       have HZ := hide (HYS.out.trans (HD.out.mono HYS.out.size))
       go_wp2
       go_roundw
       case rel => exact ⟨q + 1, false, rfl, by go_num, by omega, hide HOK3.out, hide HZ.out⟩
       case measure => simp [intOf]; omega
      have k1b : (rk == 0) = true := by simp [k1]
      clear k0 k1
      go_wp2
      have HD := hide HA.out.drew
      refine wp_region_held_drew (S := (fun w' => Below (wr.alloc (.cells #[.int .i64 kq, .int .i64 ql, .slice qA qn qc, .int .i64 rk, .int .i64 op, .int .i64 rg, .bool mu, .int .i64 rl, .slice zA zn zc, .slice aA an ac, .int .i64 lo] 46)).heap.size (wr.alloc (.cells #[.int .i64 kq, .int .i64 ql, .slice qA qn qc, .int .i64 rk, .int .i64 op, .int .i64 rg, .bool mu, .int .i64 rl, .slice zA zn zc, .slice aA an ac, .int .i64 lo] 46)) w')) (by kernel_rfl) HD.out (fun hHeld => ?_)
      refine plan [(0, some 38, true), (1, some 39, true), (2, some 40, true), (3, some 41, true), (4, some 42, true), (5, some 43, true), (6, some 44, true), (7, some 45, true), (8, some 46, true), (9, some 47, true), (10, some 48, true), (11, some 49, true)] ?_
      repeat' ((first | refine pN hHeld rfl rfl ?_ | (refine pY (v := ?_) hHeld rfl rfl ?_ ?_; rotate_left; (· (intro w9 hS9; obtain ⟨s0, s1, s2, s3, s4, s5, s6, s7, s8, s9, s10, s11, s12, s13, s14, s15, s16, s17⟩ := hsx.out _ hS9; first | (go_simp; done) | (go_simp; with_reducible rfl))))); try simp only [Act.put, List.setIfInBounds_toArray, List.set_cons_zero, List.set_cons_succ])
      refine plan0 ?_
      refine wpAnyH_ready (rs := [12]) (by kernel_rfl) (by simp) ?_
      refine AllReadyH.cons rfl (fun KZ hK => ?_) AllReadyH.nil
      go_simp
      refine (HCS.out _ HD.out).mono ?_
      rintro f7 w7 ⟨rfl, hb7⟩
      have HX7 := hide (HD.out.trans (hb7.mono HD.out.size))
      clear hb7
      refine hK.out _ _ HX7.out (fun hHeld => ?_)
      clear hK KZ
      try simp only [Act.put, List.setIfInBounds_toArray, List.set_cons_zero, List.set_cons_succ]
      refine plan [(13, some 51, true), (14, some 52, true), (15, some 53, true), (16, some 54, false), (17, some 55, false), (18, some 56, false), (19, some 57, false), (20, some 58, false), (21, some 59, false), (22, some 60, false), (23, some 61, false), (24, some 62, false), (25, some 63, false), (26, some 64, false), (27, some 65, false)] ?_
      repeat' ((first | refine pN hHeld rfl rfl ?_ | (refine pY (v := ?_) hHeld rfl rfl ?_ ?_; rotate_left; (· (intro w9 hS9; obtain ⟨s0, s1, s2, s3, s4, s5, s6, s7, s8, s9, s10, s11, s12, s13, s14, s15, s16, s17⟩ := hsx.out _ hS9; first | (go_simp; done) | (go_simp; with_reducible rfl))))); try simp only [Act.put, List.setIfInBounds_toArray, List.set_cons_zero, List.set_cons_succ])
      refine plan0 ?_
      refine wpAnyH_ready (rs := [28]) (by kernel_rfl) (by simp) ?_
      refine AllReadyH.cons rfl (fun KZ hK => ?_) AllReadyH.nil
      go_simp
      refine hK.out _ _ hHeld (fun hHeld => ?_)
      clear hK KZ
      try simp only [Act.put, List.setIfInBounds_toArray, List.set_cons_zero, List.set_cons_succ]
      refine plan [(29, some 67, false), (30, some 68, false), (31, some 69, true)] ?_
      repeat' ((first | refine pN hHeld rfl rfl ?_ | (refine pY (v := ?_) hHeld rfl rfl ?_ ?_; rotate_left; (· (intro w9 hS9; obtain ⟨s0, s1, s2, s3, s4, s5, s6, s7, s8, s9, s10, s11, s12, s13, s14, s15, s16, s17⟩ := hsx.out _ hS9; first | (go_simp; done) | (go_simp; with_reducible rfl))))); try simp only [Act.put, List.setIfInBounds_toArray, List.set_cons_zero, List.set_cons_succ])
      refine plan0 ?_
      refine wpAnyH_done (by kernel_rfl) ?_ _
      have HZ := hide (HYS.out.trans (HX7.out.mono HYS.out.size))
      go_wp2
      go_roundw
      case rel => exact ⟨q + 1, false, rfl, by go_num, by omega, hide HOK3.out, hide HZ.out⟩
      case measure => simp [intOf]; omega
     case true =>
      by_cases e0 : sv = 0
      case pos =>
       subst e0
       have HOK3 := hide (show (ok && ((sL.map StW.v).take (q + 1)).all (fun s : StV => decide (stErr (wE ⟨nm, ⟨rA, rn, rc, rL⟩, ⟨oA, on, oc, oL⟩, ⟨tA, tm, tc, tL⟩, ⟨lA, ln, lc, lL⟩, ar, ⟨some ⟨b, o, none⟩, bn, bc, bL⟩⟩) s = 0))) = true from by rw [HUS.out, ← Bool.and_assoc, HQ.out, HSV.out]; rfl)
       go_wp2_with fail
       refine (HCS.out _ HW0s.out).mono ?_
       rintro f6 w6 ⟨rfl, hb6⟩
       have HA := hide (HW0s.out.trans hb6)
       clear hb6
       obtain ⟨x0, x1, x2, x3, x4, x5, x6, y0, y1, y2, y3, y4, y5, y6, y7, y8, y9, y10⟩ := hsx.out _ HA.out
       by_cases k0 : kq = 0
       case neg =>
        have k0b : (kq == 0) = false := by simp [k0]
        clear k0
        go_wp2
        have HD := hide HA.out.drew
        refine wp_region_held_drew (S := (fun w' => Below (wr.alloc (.cells #[.int .i64 kq, .int .i64 ql, .slice qA qn qc, .int .i64 rk, .int .i64 op, .int .i64 rg, .bool mu, .int .i64 rl, .slice zA zn zc, .slice aA an ac, .int .i64 lo] 46)).heap.size (wr.alloc (.cells #[.int .i64 kq, .int .i64 ql, .slice qA qn qc, .int .i64 rk, .int .i64 op, .int .i64 rg, .bool mu, .int .i64 rl, .slice zA zn zc, .slice aA an ac, .int .i64 lo] 46)) w')) (by kernel_rfl) HD.out (fun hHeld => ?_)
        refine plan [(0, some 38, true), (1, some 39, true), (2, some 40, true), (3, some 41, true), (4, some 42, false), (5, some 43, false), (6, some 44, false), (7, some 45, false), (8, some 46, true), (9, some 47, true), (10, some 48, false), (11, some 49, false)] ?_
        repeat' ((first | refine pN hHeld rfl rfl ?_ | (refine pY (v := ?_) hHeld rfl rfl ?_ ?_; rotate_left; (· (intro w9 hS9; obtain ⟨s0, s1, s2, s3, s4, s5, s6, s7, s8, s9, s10, s11, s12, s13, s14, s15, s16, s17⟩ := hsx.out _ hS9; first | (go_simp; done) | (go_simp; with_reducible rfl))))); try simp only [Act.put, List.setIfInBounds_toArray, List.set_cons_zero, List.set_cons_succ])
        refine plan0 ?_
        refine wpAnyH_ready (rs := [12]) (by kernel_rfl) (by simp) ?_
        refine AllReadyH.cons rfl (fun KZ hK => ?_) AllReadyH.nil
        go_simp
        refine hK.out _ _ hHeld (fun hHeld => ?_)
        clear hK KZ
        try simp only [Act.put, List.setIfInBounds_toArray, List.set_cons_zero, List.set_cons_succ]
        refine plan [(13, some 51, false), (14, some 52, true), (15, some 53, true), (16, some 54, false), (17, some 55, false), (18, some 56, false), (19, some 57, false), (20, some 58, false), (21, some 59, false), (22, some 60, false), (23, some 61, false), (24, some 62, false), (25, some 63, false), (26, some 64, false), (27, some 65, false)] ?_
        repeat' ((first | refine pN hHeld rfl rfl ?_ | (refine pY (v := ?_) hHeld rfl rfl ?_ ?_; rotate_left; (· (intro w9 hS9; obtain ⟨s0, s1, s2, s3, s4, s5, s6, s7, s8, s9, s10, s11, s12, s13, s14, s15, s16, s17⟩ := hsx.out _ hS9; first | (go_simp; done) | (go_simp; with_reducible rfl))))); try simp only [Act.put, List.setIfInBounds_toArray, List.set_cons_zero, List.set_cons_succ])
        refine plan0 ?_
        refine wpAnyH_ready (rs := [28]) (by kernel_rfl) (by simp) ?_
        refine AllReadyH.cons rfl (fun KZ hK => ?_) AllReadyH.nil
        go_simp
        refine hK.out _ _ hHeld (fun hHeld => ?_)
        clear hK KZ
        try simp only [Act.put, List.setIfInBounds_toArray, List.set_cons_zero, List.set_cons_succ]
        refine plan [(29, some 67, false), (30, some 68, false), (31, some 69, true)] ?_
        repeat' ((first | refine pN hHeld rfl rfl ?_ | (refine pY (v := ?_) hHeld rfl rfl ?_ ?_; rotate_left; (· (intro w9 hS9; obtain ⟨s0, s1, s2, s3, s4, s5, s6, s7, s8, s9, s10, s11, s12, s13, s14, s15, s16, s17⟩ := hsx.out _ hS9; first | (go_simp; done) | (go_simp; with_reducible rfl))))); try simp only [Act.put, List.setIfInBounds_toArray, List.set_cons_zero, List.set_cons_succ])
        refine plan0 ?_
        refine wpAnyH_done (by kernel_rfl) ?_ _
        have HZ := hide (HYS.out.trans (HD.out.mono HYS.out.size))
        go_wp2
        go_roundw
        case rel => exact ⟨q + 1, true, rfl, by go_num, by omega, hide HOK3.out, hide HZ.out⟩
        case measure => simp [intOf]; omega
       have k0b : (kq == 0) = true := by simp [k0]
       by_cases k1 : rk = 0
       case neg =>
        have k1b : (rk == 0) = false := by simp [k1]
        clear k0 k1
        go_wp2
        have HD := hide HA.out.drew
        refine wp_region_held_drew (S := (fun w' => Below (wr.alloc (.cells #[.int .i64 kq, .int .i64 ql, .slice qA qn qc, .int .i64 rk, .int .i64 op, .int .i64 rg, .bool mu, .int .i64 rl, .slice zA zn zc, .slice aA an ac, .int .i64 lo] 46)).heap.size (wr.alloc (.cells #[.int .i64 kq, .int .i64 ql, .slice qA qn qc, .int .i64 rk, .int .i64 op, .int .i64 rg, .bool mu, .int .i64 rl, .slice zA zn zc, .slice aA an ac, .int .i64 lo] 46)) w')) (by kernel_rfl) HD.out (fun hHeld => ?_)
        refine plan [(0, some 38, true), (1, some 39, true), (2, some 40, true), (3, some 41, true), (4, some 42, true), (5, some 43, true), (6, some 44, true), (7, some 45, true), (8, some 46, true), (9, some 47, true), (10, some 48, false), (11, some 49, false)] ?_
        repeat' ((first | refine pN hHeld rfl rfl ?_ | (refine pY (v := ?_) hHeld rfl rfl ?_ ?_; rotate_left; (· (intro w9 hS9; obtain ⟨s0, s1, s2, s3, s4, s5, s6, s7, s8, s9, s10, s11, s12, s13, s14, s15, s16, s17⟩ := hsx.out _ hS9; first | (go_simp; done) | (go_simp; with_reducible rfl))))); try simp only [Act.put, List.setIfInBounds_toArray, List.set_cons_zero, List.set_cons_succ])
        refine plan0 ?_
        refine wpAnyH_ready (rs := [12]) (by kernel_rfl) (by simp) ?_
        refine AllReadyH.cons rfl (fun KZ hK => ?_) AllReadyH.nil
        go_simp
        refine hK.out _ _ hHeld (fun hHeld => ?_)
        clear hK KZ
        try simp only [Act.put, List.setIfInBounds_toArray, List.set_cons_zero, List.set_cons_succ]
        refine plan [(13, some 51, false), (14, some 52, true), (15, some 53, true), (16, some 54, false), (17, some 55, false), (18, some 56, false), (19, some 57, false), (20, some 58, false), (21, some 59, false), (22, some 60, false), (23, some 61, false), (24, some 62, false), (25, some 63, false), (26, some 64, false), (27, some 65, false)] ?_
        repeat' ((first | refine pN hHeld rfl rfl ?_ | (refine pY (v := ?_) hHeld rfl rfl ?_ ?_; rotate_left; (· (intro w9 hS9; obtain ⟨s0, s1, s2, s3, s4, s5, s6, s7, s8, s9, s10, s11, s12, s13, s14, s15, s16, s17⟩ := hsx.out _ hS9; first | (go_simp; done) | (go_simp; with_reducible rfl))))); try simp only [Act.put, List.setIfInBounds_toArray, List.set_cons_zero, List.set_cons_succ])
        refine plan0 ?_
        refine wpAnyH_ready (rs := [28]) (by kernel_rfl) (by simp) ?_
        refine AllReadyH.cons rfl (fun KZ hK => ?_) AllReadyH.nil
        go_simp
        refine hK.out _ _ hHeld (fun hHeld => ?_)
        clear hK KZ
        try simp only [Act.put, List.setIfInBounds_toArray, List.set_cons_zero, List.set_cons_succ]
        refine plan [(29, some 67, false), (30, some 68, false), (31, some 69, true)] ?_
        repeat' ((first | refine pN hHeld rfl rfl ?_ | (refine pY (v := ?_) hHeld rfl rfl ?_ ?_; rotate_left; (· (intro w9 hS9; obtain ⟨s0, s1, s2, s3, s4, s5, s6, s7, s8, s9, s10, s11, s12, s13, s14, s15, s16, s17⟩ := hsx.out _ hS9; first | (go_simp; done) | (go_simp; with_reducible rfl))))); try simp only [Act.put, List.setIfInBounds_toArray, List.set_cons_zero, List.set_cons_succ])
        refine plan0 ?_
        refine wpAnyH_done (by kernel_rfl) ?_ _
        have HZ := hide (HYS.out.trans (HD.out.mono HYS.out.size))
        go_wp2
        go_roundw
        case rel => exact ⟨q + 1, true, rfl, by go_num, by omega, hide HOK3.out, hide HZ.out⟩
        case measure => simp [intOf]; omega
       have k1b : (rk == 0) = true := by simp [k1]
       obtain ⟨o1, ho1, ho2⟩ := HUse.out (by first | rfl | trivial) k0 k1
       have ho4 : aL.map OpW.v = [o1] := ho1
       have han : an = 1 := by have h9 := congrArg List.length ho4; rw [List.length_map] at h9; have h8 := HAL.out; simpa [h8] using h9
       subst han
       obtain ⟨pw, hpw⟩ := List.length_eq_one_iff.1 HAL.out
       have ho3 : pw.v = o1 := by rw [hpw] at ho4; simpa using ho4
       subst ho3
       have hgp : aL[0]? = some pw := by rw [hpw]; rfl
       obtain ⟨b3, o3, hA3, hb3, hone3, hc3⟩ := HOS.out.rv.args.at_ hgp
       have hA3 : aA = some ⟨b3, o3, none⟩ := hA3
       subst hA3
       obtain ⟨ok9, ⟨ol, oA9, on9, oc9, os9⟩, oz⟩ := pw
       have u0 : (wr.alloc (.cells #[.int .i64 kq, .int .i64 ql, .slice qA qn qc, .int .i64 rk, .int .i64 op, .int .i64 rg, .bool mu, .int .i64 rl, .slice zA zn zc, .slice (some ⟨b3, o3, none⟩) 1 ac, .int .i64 lo] 46)).cell? ⟨b3, o3, none⟩ = some (.int .i64 ok9) := by have := hc3 0 _ rfl; simpa using this
       have u1 : (wr.alloc (.cells #[.int .i64 kq, .int .i64 ql, .slice qA qn qc, .int .i64 rk, .int .i64 op, .int .i64 rg, .bool mu, .int .i64 rl, .slice zA zn zc, .slice (some ⟨b3, o3, none⟩) 1 ac, .int .i64 lo] 46)).cell? ⟨b3, o3 + 1, none⟩ = some (.int .i64 ol) := by have := hc3 1 _ rfl; simpa using this
       have u2 : (wr.alloc (.cells #[.int .i64 kq, .int .i64 ql, .slice qA qn qc, .int .i64 rk, .int .i64 op, .int .i64 rg, .bool mu, .int .i64 rl, .slice zA zn zc, .slice (some ⟨b3, o3, none⟩) 1 ac, .int .i64 lo] 46)).cell? ⟨b3, o3 + 2, none⟩ = some (.slice oA9 on9 oc9) := by have := hc3 2 _ rfl; simpa using this
       have u3 : (wr.alloc (.cells #[.int .i64 kq, .int .i64 ql, .slice qA qn qc, .int .i64 rk, .int .i64 op, .int .i64 rg, .bool mu, .int .i64 rl, .slice zA zn zc, .slice (some ⟨b3, o3, none⟩) 1 ac, .int .i64 lo] 46)).cell? ⟨b3, o3 + 3, none⟩ = some (.int .i64 oz) := by have := hc3 3 _ rfl; simpa using this
       have hsx2 := hide fun (w' : World) (y : Below (wr.alloc (.cells #[.int .i64 kq, .int .i64 ql, .slice qA qn qc, .int .i64 rk, .int .i64 op, .int .i64 rg, .bool mu, .int .i64 rl, .slice zA zn zc, .slice (some ⟨b3, o3, none⟩) 1 ac, .int .i64 lo] 46)).heap.size (wr.alloc (.cells #[.int .i64 kq, .int .i64 ql, .slice qA qn qc, .int .i64 rk, .int .i64 op, .int .i64 rg, .bool mu, .int .i64 rl, .slice zA zn zc, .slice (some ⟨b3, o3, none⟩) 1 ac, .int .i64 lo] 46)) w') => (show w'.cell? ⟨w.heap.size, 0, none⟩ = some (.string nm) ∧ w'.cell? ⟨w.heap.size, 1, none⟩ = some (.slice rA rn rc) ∧ w'.cell? ⟨w.heap.size, 2, none⟩ = some (.slice oA on oc) ∧ w'.cell? ⟨w.heap.size, 3, none⟩ = some (.slice tA tm tc) ∧ w'.cell? ⟨w.heap.size, 4, none⟩ = some (.slice lA ln lc) ∧ w'.cell? ⟨w.heap.size, 5, none⟩ = some (.int .i64 ar) ∧ w'.cell? ⟨w.heap.size, 6, none⟩ = some (.slice (some ⟨b, o, none⟩) bn bc) ∧ w'.cell? ⟨wr.heap.size, 0, none⟩ = some (.int .i64 kq) ∧ w'.cell? ⟨wr.heap.size, 1, none⟩ = some (.int .i64 ql) ∧ w'.cell? ⟨wr.heap.size, 2, none⟩ = some (.slice qA qn qc) ∧ w'.cell? ⟨wr.heap.size, 3, none⟩ = some (.int .i64 rk) ∧ w'.cell? ⟨wr.heap.size, 4, none⟩ = some (.int .i64 op) ∧ w'.cell? ⟨wr.heap.size, 5, none⟩ = some (.int .i64 rg) ∧ w'.cell? ⟨wr.heap.size, 6, none⟩ = some (.bool mu) ∧ w'.cell? ⟨wr.heap.size, 7, none⟩ = some (.int .i64 rl) ∧ w'.cell? ⟨wr.heap.size, 8, none⟩ = some (.slice zA zn zc) ∧ w'.cell? ⟨wr.heap.size, 9, none⟩ = some (.slice (some ⟨b3, o3, none⟩) 1 ac) ∧ w'.cell? ⟨wr.heap.size, 10, none⟩ = some (.int .i64 lo) ∧ w'.cell? ⟨b3, o3, none⟩ = some (.int .i64 ok9) ∧ w'.cell? ⟨b3, o3 + 1, none⟩ = some (.int .i64 ol) ∧ w'.cell? ⟨b3, o3 + 2, none⟩ = some (.slice oA9 on9 oc9) ∧ w'.cell? ⟨b3, o3 + 3, none⟩ = some (.int .i64 oz) from by
        obtain ⟨x0, x1, x2, x3, x4, x5, x6, x7, x8, x9, x10, x11, x12, x13, x14, x15, x16, x17⟩ := hsx.out _ y
        exact ⟨x0, x1, x2, x3, x4, x5, x6, x7, x8, x9, x10, x11, x12, x13, x14, x15, x16, x17, (y.cell (p := ⟨b3, o3, none⟩) hb3).trans u0, (y.cell (p := ⟨b3, o3 + 1, none⟩) hb3).trans u1, (y.cell (p := ⟨b3, o3 + 2, none⟩) hb3).trans u2, (y.cell (p := ⟨b3, o3 + 3, none⟩) hb3).trans u3⟩)
       have HOPc := hide fun (w' : World) (y : Below (wr.alloc (.cells #[.int .i64 kq, .int .i64 ql, .slice qA qn qc, .int .i64 rk, .int .i64 op, .int .i64 rg, .bool mu, .int .i64 rl, .slice zA zn zc, .slice (some ⟨b3, o3, none⟩) 1 ac, .int .i64 lo] 46)).heap.size (wr.alloc (.cells #[.int .i64 kq, .int .i64 ql, .slice qA qn qc, .int .i64 rk, .int .i64 op, .int .i64 rg, .bool mu, .int .i64 rl, .slice zA zn zc, .slice (some ⟨b3, o3, none⟩) 1 ac, .int .i64 lo] 46)) w') => vOperand_is (x := ⟨nm, ⟨rA, rn, rc, rL⟩, ⟨oA, on, oc, oL⟩, ⟨tA, tm, tc, tL⟩, ⟨lA, ln, lc, lL⟩, ar, ⟨some ⟨b, o, none⟩, bn, bc, bL⟩⟩) (HVB.out.up (HWS.out.trans (y.mono HWS.out.size))) HN.out (HT.out.up (HWS.out.trans (y.mono HWS.out.size))) (hone3.up y) ho2
       clear hgp hone3 hc3 ho1 ho4 ho2 hpw k0 k1
       go_wp2
       have HD := hide HA.out.drew
       refine wp_region_held_drew (S := (fun w' => Below (wr.alloc (.cells #[.int .i64 kq, .int .i64 ql, .slice qA qn qc, .int .i64 rk, .int .i64 op, .int .i64 rg, .bool mu, .int .i64 rl, .slice zA zn zc, .slice (some ⟨b3, o3, none⟩) 1 ac, .int .i64 lo] 46)).heap.size (wr.alloc (.cells #[.int .i64 kq, .int .i64 ql, .slice qA qn qc, .int .i64 rk, .int .i64 op, .int .i64 rg, .bool mu, .int .i64 rl, .slice zA zn zc, .slice (some ⟨b3, o3, none⟩) 1 ac, .int .i64 lo] 46)) w')) (by kernel_rfl) HD.out (fun hHeld => ?_)
       refine plan [(0, some 38, true), (1, some 39, true), (2, some 40, true), (3, some 41, true), (4, some 42, true), (5, some 43, true), (6, some 44, true), (7, some 45, true), (8, some 46, true), (9, some 47, true), (10, some 48, true), (11, some 49, true)] ?_
       repeat' ((first | refine pN hHeld rfl rfl ?_ | (refine pY (v := ?_) hHeld rfl rfl ?_ ?_; rotate_left; (· (intro w9 hS9; obtain ⟨s0, s1, s2, s3, s4, s5, s6, s7, s8, s9, s10, s11, s12, s13, s14, s15, s16, s17, s18, s19, s20, s21⟩ := hsx2.out _ hS9; first | (go_simp; done) | (go_simp; with_reducible rfl))))); try simp only [Act.put, List.setIfInBounds_toArray, List.set_cons_zero, List.set_cons_succ])
       refine plan0 ?_
       refine wpAnyH_ready (rs := [12]) (by kernel_rfl) (by simp) ?_
       refine AllReadyH.cons rfl (fun KZ hK => ?_) AllReadyH.nil
       go_simp
       refine (HCS.out _ HD.out).mono ?_
       rintro f7 w7 ⟨rfl, hb7⟩
       have HX7 := hide (HD.out.trans (hb7.mono HD.out.size))
       clear hb7
       refine hK.out _ _ HX7.out (fun hHeld => ?_)
       clear hK KZ
       try simp only [Act.put, List.setIfInBounds_toArray, List.set_cons_zero, List.set_cons_succ]
       refine plan [(13, some 51, true), (14, some 52, true), (15, some 53, true), (16, some 54, true), (17, some 55, true), (18, some 56, true), (19, some 57, true), (20, some 58, true), (21, some 59, true), (22, some 60, true), (23, some 61, true), (24, some 62, true), (25, some 63, true), (26, some 64, true), (27, some 65, true)] ?_
       repeat' ((first | refine pN hHeld rfl rfl ?_ | (refine pY (v := ?_) hHeld rfl rfl ?_ ?_; rotate_left; (· (intro w9 hS9; obtain ⟨s0, s1, s2, s3, s4, s5, s6, s7, s8, s9, s10, s11, s12, s13, s14, s15, s16, s17, s18, s19, s20, s21⟩ := hsx2.out _ hS9; first | (go_simp; done) | (go_simp; with_reducible rfl))))); try simp only [Act.put, List.setIfInBounds_toArray, List.set_cons_zero, List.set_cons_succ])
       refine plan0 ?_
       refine wpAnyH_ready (rs := [28]) (by kernel_rfl) (by simp) ?_
       refine AllReadyH.cons rfl (fun KZ hK => ?_) AllReadyH.nil
       go_simp
       refine (HOPc.out _ HX7.out).mono ?_
       rintro f8 w8 ⟨rfl, hb8⟩
       have HX8 := hide (HX7.out.trans (hb8.mono HX7.out.size))
       clear hb8
       refine hK.out _ _ HX8.out (fun hHeld => ?_)
       clear hK KZ
       try simp only [Act.put, List.setIfInBounds_toArray, List.set_cons_zero, List.set_cons_succ]
       refine plan [(29, some 67, true), (30, some 68, true), (31, some 69, true)] ?_
       repeat' ((first | refine pN hHeld rfl rfl ?_ | (refine pY (v := ?_) hHeld rfl rfl ?_ ?_; rotate_left; (· (intro w9 hS9; obtain ⟨s0, s1, s2, s3, s4, s5, s6, s7, s8, s9, s10, s11, s12, s13, s14, s15, s16, s17, s18, s19, s20, s21⟩ := hsx2.out _ hS9; first | (go_simp; done) | (go_simp; with_reducible rfl))))); try simp only [Act.put, List.setIfInBounds_toArray, List.set_cons_zero, List.set_cons_succ])
       refine plan0 ?_
       refine wpAnyH_done (by kernel_rfl) ?_ _
       have HZ := hide (HYS.out.trans (HX8.out.mono HYS.out.size))
       go_wp2
       go_roundw
       case rel => exact ⟨q + 1, true, rfl, by go_num, by omega, hide HOK3.out, hide HZ.out⟩
       case measure => simp [intOf]; omega
      have t9 : (sv == 0) = false := by simp [e0]
      have HOK3 := hide (show (ok && ((sL.map StW.v).take (q + 1)).all (fun s : StV => decide (stErr (wE ⟨nm, ⟨rA, rn, rc, rL⟩, ⟨oA, on, oc, oL⟩, ⟨tA, tm, tc, tL⟩, ⟨lA, ln, lc, lL⟩, ar, ⟨some ⟨b, o, none⟩, bn, bc, bL⟩⟩) s = 0))) = false from by rw [HUS.out, ← Bool.and_assoc, HQ.out, HSV.out]; simp [e0])
      clear e0
      go_wp2_with fail
      refine (HCS.out _ HW0s.out).mono ?_
      rintro f6 w6 ⟨rfl, hb6⟩
      have HA := hide (HW0s.out.trans hb6)
      clear hb6
      obtain ⟨x0, x1, x2, x3, x4, x5, x6, y0, y1, y2, y3, y4, y5, y6, y7, y8, y9, y10⟩ := hsx.out _ HA.out
      by_cases k0 : kq = 0
      case neg =>
       have k0b : (kq == 0) = false := by simp [k0]
       clear k0
       go_wp2
       have HD := hide HA.out.drew
       refine wp_region_held_drew (S := (fun w' => Below (wr.alloc (.cells #[.int .i64 kq, .int .i64 ql, .slice qA qn qc, .int .i64 rk, .int .i64 op, .int .i64 rg, .bool mu, .int .i64 rl, .slice zA zn zc, .slice aA an ac, .int .i64 lo] 46)).heap.size (wr.alloc (.cells #[.int .i64 kq, .int .i64 ql, .slice qA qn qc, .int .i64 rk, .int .i64 op, .int .i64 rg, .bool mu, .int .i64 rl, .slice zA zn zc, .slice aA an ac, .int .i64 lo] 46)) w')) (by kernel_rfl) HD.out (fun hHeld => ?_)
       refine plan [(0, some 38, true), (1, some 39, true), (2, some 40, true), (3, some 41, true), (4, some 42, false), (5, some 43, false), (6, some 44, false), (7, some 45, false), (8, some 46, true), (9, some 47, true), (10, some 48, false), (11, some 49, false)] ?_
       repeat' ((first | refine pN hHeld rfl rfl ?_ | (refine pY (v := ?_) hHeld rfl rfl ?_ ?_; rotate_left; (· (intro w9 hS9; obtain ⟨s0, s1, s2, s3, s4, s5, s6, s7, s8, s9, s10, s11, s12, s13, s14, s15, s16, s17⟩ := hsx.out _ hS9; first | (go_simp; done) | (go_simp; with_reducible rfl))))); try simp only [Act.put, List.setIfInBounds_toArray, List.set_cons_zero, List.set_cons_succ])
       refine plan0 ?_
       refine wpAnyH_ready (rs := [12]) (by kernel_rfl) (by simp) ?_
       refine AllReadyH.cons rfl (fun KZ hK => ?_) AllReadyH.nil
       go_simp
       refine hK.out _ _ hHeld (fun hHeld => ?_)
       clear hK KZ
       try simp only [Act.put, List.setIfInBounds_toArray, List.set_cons_zero, List.set_cons_succ]
       refine plan [(13, some 51, false), (14, some 52, true), (15, some 53, true), (16, some 54, false), (17, some 55, false), (18, some 56, false), (19, some 57, false), (20, some 58, false), (21, some 59, false), (22, some 60, false), (23, some 61, false), (24, some 62, false), (25, some 63, false), (26, some 64, false), (27, some 65, false)] ?_
       repeat' ((first | refine pN hHeld rfl rfl ?_ | (refine pY (v := ?_) hHeld rfl rfl ?_ ?_; rotate_left; (· (intro w9 hS9; obtain ⟨s0, s1, s2, s3, s4, s5, s6, s7, s8, s9, s10, s11, s12, s13, s14, s15, s16, s17⟩ := hsx.out _ hS9; first | (go_simp; done) | (go_simp; with_reducible rfl))))); try simp only [Act.put, List.setIfInBounds_toArray, List.set_cons_zero, List.set_cons_succ])
       refine plan0 ?_
       refine wpAnyH_ready (rs := [28]) (by kernel_rfl) (by simp) ?_
       refine AllReadyH.cons rfl (fun KZ hK => ?_) AllReadyH.nil
       go_simp
       refine hK.out _ _ hHeld (fun hHeld => ?_)
       clear hK KZ
       try simp only [Act.put, List.setIfInBounds_toArray, List.set_cons_zero, List.set_cons_succ]
       refine plan [(29, some 67, false), (30, some 68, false), (31, some 69, true)] ?_
       repeat' ((first | refine pN hHeld rfl rfl ?_ | (refine pY (v := ?_) hHeld rfl rfl ?_ ?_; rotate_left; (· (intro w9 hS9; obtain ⟨s0, s1, s2, s3, s4, s5, s6, s7, s8, s9, s10, s11, s12, s13, s14, s15, s16, s17⟩ := hsx.out _ hS9; first | (go_simp; done) | (go_simp; with_reducible rfl))))); try simp only [Act.put, List.setIfInBounds_toArray, List.set_cons_zero, List.set_cons_succ])
       refine plan0 ?_
       refine wpAnyH_done (by kernel_rfl) ?_ _
       have HZ := hide (HYS.out.trans (HD.out.mono HYS.out.size))
       go_wp2
       go_roundw
       case rel => exact ⟨q + 1, false, rfl, by go_num, by omega, hide HOK3.out, hide HZ.out⟩
       case measure => simp [intOf]; omega
      have k0b : (kq == 0) = true := by simp [k0]
      by_cases k1 : rk = 0
      case neg =>
       have k1b : (rk == 0) = false := by simp [k1]
       clear k0 k1
       go_wp2
       have HD := hide HA.out.drew
       refine wp_region_held_drew (S := (fun w' => Below (wr.alloc (.cells #[.int .i64 kq, .int .i64 ql, .slice qA qn qc, .int .i64 rk, .int .i64 op, .int .i64 rg, .bool mu, .int .i64 rl, .slice zA zn zc, .slice aA an ac, .int .i64 lo] 46)).heap.size (wr.alloc (.cells #[.int .i64 kq, .int .i64 ql, .slice qA qn qc, .int .i64 rk, .int .i64 op, .int .i64 rg, .bool mu, .int .i64 rl, .slice zA zn zc, .slice aA an ac, .int .i64 lo] 46)) w')) (by kernel_rfl) HD.out (fun hHeld => ?_)
       refine plan [(0, some 38, true), (1, some 39, true), (2, some 40, true), (3, some 41, true), (4, some 42, true), (5, some 43, true), (6, some 44, true), (7, some 45, true), (8, some 46, true), (9, some 47, true), (10, some 48, false), (11, some 49, false)] ?_
       repeat' ((first | refine pN hHeld rfl rfl ?_ | (refine pY (v := ?_) hHeld rfl rfl ?_ ?_; rotate_left; (· (intro w9 hS9; obtain ⟨s0, s1, s2, s3, s4, s5, s6, s7, s8, s9, s10, s11, s12, s13, s14, s15, s16, s17⟩ := hsx.out _ hS9; first | (go_simp; done) | (go_simp; with_reducible rfl))))); try simp only [Act.put, List.setIfInBounds_toArray, List.set_cons_zero, List.set_cons_succ])
       refine plan0 ?_
       refine wpAnyH_ready (rs := [12]) (by kernel_rfl) (by simp) ?_
       refine AllReadyH.cons rfl (fun KZ hK => ?_) AllReadyH.nil
       go_simp
       refine hK.out _ _ hHeld (fun hHeld => ?_)
       clear hK KZ
       try simp only [Act.put, List.setIfInBounds_toArray, List.set_cons_zero, List.set_cons_succ]
       refine plan [(13, some 51, false), (14, some 52, true), (15, some 53, true), (16, some 54, false), (17, some 55, false), (18, some 56, false), (19, some 57, false), (20, some 58, false), (21, some 59, false), (22, some 60, false), (23, some 61, false), (24, some 62, false), (25, some 63, false), (26, some 64, false), (27, some 65, false)] ?_
       repeat' ((first | refine pN hHeld rfl rfl ?_ | (refine pY (v := ?_) hHeld rfl rfl ?_ ?_; rotate_left; (· (intro w9 hS9; obtain ⟨s0, s1, s2, s3, s4, s5, s6, s7, s8, s9, s10, s11, s12, s13, s14, s15, s16, s17⟩ := hsx.out _ hS9; first | (go_simp; done) | (go_simp; with_reducible rfl))))); try simp only [Act.put, List.setIfInBounds_toArray, List.set_cons_zero, List.set_cons_succ])
       refine plan0 ?_
       refine wpAnyH_ready (rs := [28]) (by kernel_rfl) (by simp) ?_
       refine AllReadyH.cons rfl (fun KZ hK => ?_) AllReadyH.nil
       go_simp
       refine hK.out _ _ hHeld (fun hHeld => ?_)
       clear hK KZ
       try simp only [Act.put, List.setIfInBounds_toArray, List.set_cons_zero, List.set_cons_succ]
       refine plan [(29, some 67, false), (30, some 68, false), (31, some 69, true)] ?_
       repeat' ((first | refine pN hHeld rfl rfl ?_ | (refine pY (v := ?_) hHeld rfl rfl ?_ ?_; rotate_left; (· (intro w9 hS9; obtain ⟨s0, s1, s2, s3, s4, s5, s6, s7, s8, s9, s10, s11, s12, s13, s14, s15, s16, s17⟩ := hsx.out _ hS9; first | (go_simp; done) | (go_simp; with_reducible rfl))))); try simp only [Act.put, List.setIfInBounds_toArray, List.set_cons_zero, List.set_cons_succ])
       refine plan0 ?_
       refine wpAnyH_done (by kernel_rfl) ?_ _
       have HZ := hide (HYS.out.trans (HD.out.mono HYS.out.size))
       go_wp2
       go_roundw
       case rel => exact ⟨q + 1, false, rfl, by go_num, by omega, hide HOK3.out, hide HZ.out⟩
       case measure => simp [intOf]; omega
      have k1b : (rk == 0) = true := by simp [k1]
      clear k0 k1
      go_wp2
      have HD := hide HA.out.drew
      refine wp_region_held_drew (S := (fun w' => Below (wr.alloc (.cells #[.int .i64 kq, .int .i64 ql, .slice qA qn qc, .int .i64 rk, .int .i64 op, .int .i64 rg, .bool mu, .int .i64 rl, .slice zA zn zc, .slice aA an ac, .int .i64 lo] 46)).heap.size (wr.alloc (.cells #[.int .i64 kq, .int .i64 ql, .slice qA qn qc, .int .i64 rk, .int .i64 op, .int .i64 rg, .bool mu, .int .i64 rl, .slice zA zn zc, .slice aA an ac, .int .i64 lo] 46)) w')) (by kernel_rfl) HD.out (fun hHeld => ?_)
      refine plan [(0, some 38, true), (1, some 39, true), (2, some 40, true), (3, some 41, true), (4, some 42, true), (5, some 43, true), (6, some 44, true), (7, some 45, true), (8, some 46, true), (9, some 47, true), (10, some 48, true), (11, some 49, true)] ?_
      repeat' ((first | refine pN hHeld rfl rfl ?_ | (refine pY (v := ?_) hHeld rfl rfl ?_ ?_; rotate_left; (· (intro w9 hS9; obtain ⟨s0, s1, s2, s3, s4, s5, s6, s7, s8, s9, s10, s11, s12, s13, s14, s15, s16, s17⟩ := hsx.out _ hS9; first | (go_simp; done) | (go_simp; with_reducible rfl))))); try simp only [Act.put, List.setIfInBounds_toArray, List.set_cons_zero, List.set_cons_succ])
      refine plan0 ?_
      refine wpAnyH_ready (rs := [12]) (by kernel_rfl) (by simp) ?_
      refine AllReadyH.cons rfl (fun KZ hK => ?_) AllReadyH.nil
      go_simp
      refine (HCS.out _ HD.out).mono ?_
      rintro f7 w7 ⟨rfl, hb7⟩
      have HX7 := hide (HD.out.trans (hb7.mono HD.out.size))
      clear hb7
      refine hK.out _ _ HX7.out (fun hHeld => ?_)
      clear hK KZ
      try simp only [Act.put, List.setIfInBounds_toArray, List.set_cons_zero, List.set_cons_succ]
      refine plan [(13, some 51, true), (14, some 52, true), (15, some 53, true), (16, some 54, false), (17, some 55, false), (18, some 56, false), (19, some 57, false), (20, some 58, false), (21, some 59, false), (22, some 60, false), (23, some 61, false), (24, some 62, false), (25, some 63, false), (26, some 64, false), (27, some 65, false)] ?_
      repeat' ((first | refine pN hHeld rfl rfl ?_ | (refine pY (v := ?_) hHeld rfl rfl ?_ ?_; rotate_left; (· (intro w9 hS9; obtain ⟨s0, s1, s2, s3, s4, s5, s6, s7, s8, s9, s10, s11, s12, s13, s14, s15, s16, s17⟩ := hsx.out _ hS9; first | (go_simp; done) | (go_simp; with_reducible rfl))))); try simp only [Act.put, List.setIfInBounds_toArray, List.set_cons_zero, List.set_cons_succ])
      refine plan0 ?_
      refine wpAnyH_ready (rs := [28]) (by kernel_rfl) (by simp) ?_
      refine AllReadyH.cons rfl (fun KZ hK => ?_) AllReadyH.nil
      go_simp
      refine hK.out _ _ hHeld (fun hHeld => ?_)
      clear hK KZ
      try simp only [Act.put, List.setIfInBounds_toArray, List.set_cons_zero, List.set_cons_succ]
      refine plan [(29, some 67, false), (30, some 68, false), (31, some 69, true)] ?_
      repeat' ((first | refine pN hHeld rfl rfl ?_ | (refine pY (v := ?_) hHeld rfl rfl ?_ ?_; rotate_left; (· (intro w9 hS9; obtain ⟨s0, s1, s2, s3, s4, s5, s6, s7, s8, s9, s10, s11, s12, s13, s14, s15, s16, s17⟩ := hsx.out _ hS9; first | (go_simp; done) | (go_simp; with_reducible rfl))))); try simp only [Act.put, List.setIfInBounds_toArray, List.set_cons_zero, List.set_cons_succ])
      refine plan0 ?_
      refine wpAnyH_done (by kernel_rfl) ?_ _
      have HZ := hide (HYS.out.trans (HX7.out.mono HYS.out.size))
      go_wp2
      go_roundw
      case rel => exact ⟨q + 1, false, rfl, by go_num, by omega, hide HOK3.out, hide HZ.out⟩
      case measure => simp [intOf]; omega
    ·
     obtain rfl : sn = q := by omega
     have HOK4 := hide (show (ok && (sL.map StW.v).all (fun s : StV => decide (stErr (wE ⟨nm, ⟨rA, rn, rc, rL⟩, ⟨oA, on, oc, oL⟩, ⟨tA, tm, tc, tL⟩, ⟨lA, ln, lc, lL⟩, ar, ⟨some ⟨b, o, none⟩, bn, bc, bL⟩⟩) s = 0))) = ok2 from by rw [← HQ.out, List.take_of_length_le (by rw [List.length_map]; have : sL.length = sn := HSL.out; omega)])
     obtain ⟨g0, g1, g2, g3, g4, g5, g6⟩ := hbx.out _ HY.out
     obtain ⟨h0, h1, h2, h3, h4, h5, h6⟩ := hcs.out _ HYa.out
     clear hlq hq
     cases ok2
     case false =>
      have HOK5 := hide (show (((bL.map BkW.v).take (j + 1)).all (fun bb : BkV => (bb.stmts.all fun s => decide (stErr (wE ⟨nm, ⟨rA, rn, rc, rL⟩, ⟨oA, on, oc, oL⟩, ⟨tA, tm, tc, tL⟩, ⟨lA, ln, lc, lL⟩, ar, ⟨some ⟨b, o, none⟩, bn, bc, bL⟩⟩) s = 0)) && decide (tmErr (wE ⟨nm, ⟨rA, rn, rc, rL⟩, ⟨oA, on, oc, oL⟩, ⟨tA, tm, tc, tL⟩, ⟨lA, ln, lc, lL⟩, ar, ⟨some ⟨b, o, none⟩, bn, bc, bL⟩⟩) bb.term = 0))) = false from by rw [HUP.out, HE.out]; show (ok && (((sL.map StW.v).all (fun s : StV => decide (stErr (wE ⟨nm, ⟨rA, rn, rc, rL⟩, ⟨oA, on, oc, oL⟩, ⟨tA, tm, tc, tL⟩, ⟨lA, ln, lc, lL⟩, ar, ⟨some ⟨b, o, none⟩, bn, bc, bL⟩⟩) s = 0))) && decide (tmErr (wE ⟨nm, ⟨rA, rn, rc, rL⟩, ⟨oA, on, oc, oL⟩, ⟨tA, tm, tc, tL⟩, ⟨lA, ln, lc, lL⟩, ar, ⟨some ⟨b, o, none⟩, bn, bc, bL⟩⟩) (TmW.v ⟨k, ⟨xA, xn, xc, xL⟩, ⟨gA, gn, gc, gL⟩, ⟨l, pA, pn, pc, ps⟩, tn⟩) = 0))) = false; rw [← Bool.and_assoc, HOK4.out]; rfl)
      go_wp2
      go_roundw
      case rel => exact ⟨j + 1, false, rfl, by go_num, by omega, hide HOK5.out, hide HYa.out⟩
      case measure => simp [intOf]; omega
     case true =>
      have HCT := hide (vTerm_is (x := ⟨nm, ⟨rA, rn, rc, rL⟩, ⟨oA, on, oc, oL⟩, ⟨tA, tm, tc, tL⟩, ⟨lA, ln, lc, lL⟩, ar, ⟨some ⟨b, o, none⟩, bn, bc, bL⟩⟩) (o := ⟨k, ⟨xA, xn, xc, xL⟩, ⟨gA, gn, gc, gL⟩, ⟨l, pA, pn, pc, ps⟩, tn⟩) (HVB.out.up HYa.out) HN.out (HT.out.up HYa.out) ((HO.out.up HY.out).term) HTV.out)
      by_cases e0 : tv = 0
      case pos =>
       subst e0
       have HOK5 := hide (show (((bL.map BkW.v).take (j + 1)).all (fun bb : BkV => (bb.stmts.all fun s => decide (stErr (wE ⟨nm, ⟨rA, rn, rc, rL⟩, ⟨oA, on, oc, oL⟩, ⟨tA, tm, tc, tL⟩, ⟨lA, ln, lc, lL⟩, ar, ⟨some ⟨b, o, none⟩, bn, bc, bL⟩⟩) s = 0)) && decide (tmErr (wE ⟨nm, ⟨rA, rn, rc, rL⟩, ⟨oA, on, oc, oL⟩, ⟨tA, tm, tc, tL⟩, ⟨lA, ln, lc, lL⟩, ar, ⟨some ⟨b, o, none⟩, bn, bc, bL⟩⟩) bb.term = 0))) = true from by rw [HUP.out, HE.out]; show (ok && (((sL.map StW.v).all (fun s : StV => decide (stErr (wE ⟨nm, ⟨rA, rn, rc, rL⟩, ⟨oA, on, oc, oL⟩, ⟨tA, tm, tc, tL⟩, ⟨lA, ln, lc, lL⟩, ar, ⟨some ⟨b, o, none⟩, bn, bc, bL⟩⟩) s = 0))) && decide (tmErr (wE ⟨nm, ⟨rA, rn, rc, rL⟩, ⟨oA, on, oc, oL⟩, ⟨tA, tm, tc, tL⟩, ⟨lA, ln, lc, lL⟩, ar, ⟨some ⟨b, o, none⟩, bn, bc, bL⟩⟩) (TmW.v ⟨k, ⟨xA, xn, xc, xL⟩, ⟨gA, gn, gc, gL⟩, ⟨l, pA, pn, pc, ps⟩, tn⟩) = 0))) = true; rw [← Bool.and_assoc, HOK4.out, HTV.out]; rfl)
       go_wp2_with fail
       refine HCT.out.mono ?_
       rintro f5 w5 ⟨rfl, hb5⟩
       have HZ := hide (HYa.out.trans (hb5.mono HYa.out.size))
       clear hb5
       go_wp2
       go_roundw
       case rel => exact ⟨j + 1, true, rfl, by go_num, by omega, hide HOK5.out, hide HZ.out⟩
       case measure => simp [intOf]; omega
      have t8 : (tv == 0) = false := by simp [e0]
      have HOK5 := hide (show (((bL.map BkW.v).take (j + 1)).all (fun bb : BkV => (bb.stmts.all fun s => decide (stErr (wE ⟨nm, ⟨rA, rn, rc, rL⟩, ⟨oA, on, oc, oL⟩, ⟨tA, tm, tc, tL⟩, ⟨lA, ln, lc, lL⟩, ar, ⟨some ⟨b, o, none⟩, bn, bc, bL⟩⟩) s = 0)) && decide (tmErr (wE ⟨nm, ⟨rA, rn, rc, rL⟩, ⟨oA, on, oc, oL⟩, ⟨tA, tm, tc, tL⟩, ⟨lA, ln, lc, lL⟩, ar, ⟨some ⟨b, o, none⟩, bn, bc, bL⟩⟩) bb.term = 0))) = false from by rw [HUP.out, HE.out]; show (ok && (((sL.map StW.v).all (fun s : StV => decide (stErr (wE ⟨nm, ⟨rA, rn, rc, rL⟩, ⟨oA, on, oc, oL⟩, ⟨tA, tm, tc, tL⟩, ⟨lA, ln, lc, lL⟩, ar, ⟨some ⟨b, o, none⟩, bn, bc, bL⟩⟩) s = 0))) && decide (tmErr (wE ⟨nm, ⟨rA, rn, rc, rL⟩, ⟨oA, on, oc, oL⟩, ⟨tA, tm, tc, tL⟩, ⟨lA, ln, lc, lL⟩, ar, ⟨some ⟨b, o, none⟩, bn, bc, bL⟩⟩) (TmW.v ⟨k, ⟨xA, xn, xc, xL⟩, ⟨gA, gn, gc, gL⟩, ⟨l, pA, pn, pc, ps⟩, tn⟩) = 0))) = false; rw [← Bool.and_assoc, HOK4.out, HTV.out]; simp [e0])
      clear e0
      go_wp2_with fail
      refine HCT.out.mono ?_
      rintro f5 w5 ⟨rfl, hb5⟩
      have HZ := hide (HYa.out.trans (hb5.mono HYa.out.size))
      clear hb5
      go_wp2
      go_roundw
      case rel => exact ⟨j + 1, false, rfl, by go_num, by omega, hide HOK5.out, hide HZ.out⟩
      case measure => simp [intOf]; omega
  ·
   obtain rfl : bn = j := by omega
   have HEND := hide (show decide (v = 0) = ok from by rw [← HV.out, HBD.out, ← bks_ok (fun b hb => by obtain ⟨c, hc, rfl⟩ := List.mem_map.1 hb; show (c.stmts.L.map StW.v).length ≤ 65535; rw [List.length_map]; have h1 := szB_stmts HSZ.out hc; have h2 := (HX.out.blocks.all c hc).stmts.len; omega), ← HE.out, List.take_of_length_le (by rw [List.length_map]; have : bL.length = bn := HBL.out; omega)])
   obtain ⟨h0, h1, h2, h3, h4, h5, h6⟩ := hcs.out _ HW.out
   clear hlt hj
   go_wp2_with fail
   refine (alive10_any _ (HT.out.up HW.out)).mono ?_
   rintro e9 w9 ⟨rfl, hb9⟩
   have HW9 := hide (HW.out.trans (hb9.mono HW.out.size))
   clear hb9
   obtain ⟨i0, i1, i2, i3, i4, i5, i6⟩ := hcs.out _ HW9.out
   by_cases e0 : v = 0
   case pos =>
    obtain rfl : ok = true := by rw [← HEND.out, e0]; rfl
    subst e0
    go_wp2_with fail
    refine (vCheck_is (x := ⟨nm, ⟨rA, rn, rc, rL⟩, ⟨oA, on, oc, oL⟩, ⟨tA, tm, tc, tL⟩, ⟨lA, ln, lc, lL⟩, ar, ⟨bA, bn, bc, bL⟩⟩) (HX.out.up HW9.out) HN.out (HT.out.up HW9.out) HV.out).mono ?_
    rintro e7 w7 ⟨rfl, hb7⟩
    have HZ := hide (HW9.out.trans (hb7.mono HW9.out.size))
    clear hb7
    go_wp2
    go_ret
    exact ⟨rfl, HB.out.trans (HZ.out.mono HB.out.size)⟩
   have t8 : (v == 0) = false := by simp [e0]
   obtain rfl : ok = false := by rw [← HEND.out]; simp [e0]
   clear e0
   go_wp2_with fail
   refine (vCheck_is (x := ⟨nm, ⟨rA, rn, rc, rL⟩, ⟨oA, on, oc, oL⟩, ⟨tA, tm, tc, tL⟩, ⟨lA, ln, lc, lL⟩, ar, ⟨bA, bn, bc, bL⟩⟩) (HX.out.up HW9.out) HN.out (HT.out.up HW9.out) HV.out).mono ?_
   rintro e7 w7 ⟨rfl, hb7⟩
   have HZ := hide (HW9.out.trans (hb7.mono HW9.out.size))
   clear hb7
   go_wp2
   go_ret
   exact ⟨rfl, HB.out.trans (HZ.out.mono HB.out.size)⟩
theorem own : ownKnob Tryz.prog.godebug = none := by kernel_rfl
theorem laidOut : laidOutB Tryz.prog = true := by kernel_rfl
set_option maxRecDepth 100000 in
theorem contract (H : Type) (enc : TypeId × Value → H) (W : World) (base : Nat) (args : Array Value) (ds gs : List (DataW H)) (before : List MemPlace)
  (hval0 : ∀ (j : Nat) t v, Tryz.f7.params[j]? = some t → args[j]? = some v → Value.okWide Tryz.prog W .any base t v)
  (hW : DataW.Whole enc Tryz.prog Tryz.f7.params.toList Rows.validPartsSpec.vars false W args.toList ds gs before) (hsz0 : (DataW.weightsEach Tryz.prog (Tryz.f7.params.toList ++ Rows.validPartsSpec.plain.varTypes Tryz.prog) (ds ++ gs)).all (· ≤ reachBytes) = true) (hT : OpsT W) :
  Calls Tryz.prog 7 args W fun e W' => ∃ v, e = .returned v ∧ Rows.validPartsSpec.post enc Tryz.prog Tryz.f7 false true false false W args v W' := by
 have hval : ∀ (j : Nat) t v, Tryz.f7.params[j]? = some t → args[j]? = some v → Value.okWide Tryz.prog W .any base t v := hval0
 have hW' := hW
 obtain ⟨p, q, hA0, hV, rfl, hfz, hnd⟩ := hW
 have hA : DataW.TrodAll enc Tryz.prog W 0 (fun _ => true) true Tryz.f7.params.toList args.toList ds p := hA0
 have hsz : (DataW.weightsEach Tryz.prog (Tryz.f7.params.toList ++ Rows.validPartsSpec.plain.varTypes Tryz.prog) (ds ++ gs)).all (· ≤ reachBytes) = true := hsz0
 rw [Tryz.params7] at hA hval hsz
 obtain ⟨v0, vs0, d0, ds0, p0, q0, hargs, rfl, rfl, h0, r0⟩ := trodAll_cons hA
 obtain ⟨rfl, rfl, rfl⟩ := trodAll_nil r0
 obtain rfl : args = #[v0] := by cases args; simp_all
 obtain ⟨rfl, rfl⟩ := trodVars_none hV
 have k0 := h0
 have lt0 : ∀ x ∈ p0, x.block < W.heap.size := by obtain ⟨m, hm⟩ := k0; exact DataW.trod_lt m _ _ _ hm
 obtain ⟨x0, rfl, g0, f0⟩ := openBody (hval 0 28 v0 rfl rfl) h0
 have s0 : FitBd x0 := f0 (List.all_eq_true.2 fun n hn => List.all_eq_true.1 hsz n (DataW.weights_mem_each (j := 0) (t := 28) rfl rfl n hn))
 clear hA0 hval0 hsz hsz0
 simp only [List.append_nil] at hW'
 refine (walk x0 W g0 s0 hT).mono fun e W' ⟨he, bel⟩ => ?_
 subst he
 exact ⟨_, rfl, _, _, _, [], _, [], hW', trodAll_mk1 (shut_bool Tryz.underlying4 _), (trodAll_cons_mk (Below.trod laidOut (by kernel_rfl) (of_decide_eq_true (by kernel_rfl)) k0 bel lt0) trodAll_mk0), rfl, bel.frame _, fun h => by cases h⟩
set_option maxRecDepth 100000 in
theorem lifted (os : Os) (started : os.Started) (H : Type) (enc : TypeId × Value → H) :
  ReturnsInHanded {} Tryz.checked os 7 .any (fun w args => (Rows.validPartsSpec.pre enc Tryz.prog Tryz.f7 [] false w args ∧ laidMetH Tryz.prog laid1 w) ∧ sizedMet enc Tryz.prog Tryz.f7 (OpenSpec.ofChange Rows.validPartsSpec) false w args) (Rows.validPartsSpec.post enc Tryz.prog Tryz.f7 false true false false) := by
 refine returnsInHanded_of_change_and (C := Tryz.checked) (X := fun w _ => laidMetH Tryz.prog laid1 w) (fun _ _ _ hh h => h.of_heap hh) own started (by kernel_rfl) Tryz.func7
  (ChangeSpec.witness_shaped (enc := enc) (C := Tryz.checked) (os := os) (X := fun w _ => laidMetH Tryz.prog laid1 w) false (World.doorLaid Tryz.prog 400 os) #[.agg #[.string .empty, .slice none 0 0, .slice none 0 0, .slice none 0 0, .slice none 0 0, .int .i64 0, .slice none 0 0]] 8 rfl (World.shaped_of_RefB (by kernel_rfl) (by kernel_rfl)) (by kernel_rfl) (by kernel_rfl) (by kernel_rfl) (door_met os _)) ?_
 intro W base args ds gs before hval hW _ hsz hL _
 exact contract H enc W base args ds gs before hval hW hsz (opsT_of hL)
theorem rowProved : Rows.ValidPartsSaid :=
 OpenClaim.holds_of_wide 7 Tryz.f7 rfl rfl rfl rfl rfl rfl rfl ⟨rfl, rfl, rfl, rfl, rfl⟩ rfl rfl rfl rfl rfl (by kernel_rfl) Tryz.func7 (by kernel_rfl)
  (of_decide_eq_true (by kernel_rfl)) (by unfold Func.isWrapper; first | (rw [if_pos (by decide +kernel)]; kernel_rfl) | (rw [if_neg (by decide +kernel)]; exact ⟨rfl, rfl⟩))
  (fun os started H enc _ => lifted os started H enc)
theorem proved : Rows.ValidPartsCardSaid :=
 Claim7.holds_tied_plain_at .later [] [.data] true Rows.validPartsCard.stood.harness false
  rowProved (fun _ h => by cases h) (by kernel_rfl) (fun _ h => by cases h) validParts_row_tie rfl ⟨rfl, rfl⟩ (by kernel_rfl) rfl
  (fun f fn hf hfn => by
   obtain rfl : f = 7 := Option.some.inj ((show Tryz.prog.funcNamed "mirtower/mirtowerlaw10.ValidParts" = some 7 by kernel_rfl).symm.trans hf) |>.symm
   obtain rfl : fn = Tryz.f7 := (Option.some.inj (Tryz.func7.symm.trans hfn)).symm
   exact ⟨by kernel_rfl, fun j t ht => by
    rw [Tryz.params7] at ht
    have hm : t ∈ [28] := by simpa using Array.mem_of_getElem? ht
    have hall : ([28].all fun u => !Tryz.prog.wantsStandIn u) = true := by kernel_rfl
    exact (show Tryz.prog.wantsStandIn t = false by simpa using List.all_eq_true.1 hall t hm)⟩)
  (by kernel_rfl)
end Go.Proofs.YtfgacmgjpikgaaaGreatDoor.validParts
