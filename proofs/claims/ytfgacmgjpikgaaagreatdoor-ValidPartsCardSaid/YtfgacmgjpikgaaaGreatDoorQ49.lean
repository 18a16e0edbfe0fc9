/- Part 50 of the contracts and their mathematics. -/
import Derived.Test.YtfgacmgjpikgaaaGreatDoorQ19
import Derived.Test.YtfgacmgjpikgaaaGreatDoorRows
import Derived.LaidMore
import Derived.Stop.Joined
import Derived.Lib.SmallJoins
set_option linter.unusedVariables false
set_option linter.unusedSimpArgs false
namespace Go.Proofs.YtfgacmgjpikgaaaGreatDoor
open Go.Joins Go.ChangeShapes Go.WideShapes Go.ChangeAt Go.ChangeMaps Go.RowKit Go.WideElems
theorem gOps : Tryz.prog.globalNamed "mirtower/valid.operators" = some 0 := by kernel_rfl
theorem tOps : (Tryz.prog.globals[0]?).map (·.type) = some 141 := by kernel_rfl
abbrev laid1 : List (String × DataW Unit) := [("mirtower/valid.operators", Rows.laid_mirtower_valid_operators)]
theorem door_met (os : Os) (args : Array Value) : laidMetH Tryz.prog laid1 ((World.doorLaid Tryz.prog 400 os).forCall (fun _ _ => 0) ⟨#[], args, []⟩).memory :=
 laidMetH_of_parts3 (fuel := 8) (laidMet_of_run' 8 (by kernel_rfl) (by kernel_rfl)) (by kernel_rfl) (by kernel_rfl)
theorem cells140 : Tryz.prog.cellsOf 140 = 4 := by kernel_rfl
theorem cells141 : Tryz.prog.cellsOf 141 = 32 := by kernel_rfl
theorem cellsI : Tryz.prog.cellsOf 3 = 1 := by kernel_rfl
theorem num1 {W : World} {n : Nat} {cs : List Value} {y : DataW Unit × List MemPlace} {a : Int} (h : DataW.trod (fun _ => ()) Tryz.prog W 0 (fun _ => true) false n 3 cs = some y) (hy : y.1 = .lit (.int .i64 a)) : cs = [.int .i64 a] := by
 obtain ⟨k, rfl, rfl, _⟩ := DataW.trod_int Tryz.underlying3 h
 have e : (DataW.lit (.int .i64 k) : DataW Unit) = .lit (.int .i64 a) := hy
 injection e with e
 injection e with _ e
 rw [e]
set_option maxRecDepth 100000 in
theorem row4 {W : World} {n : Nat} {cs : List Value} {x : DataW Unit × List MemPlace} {a b c d : Int} (h : DataW.trod (fun _ => ()) Tryz.prog W 0 (fun _ => true) false n 140 cs = some x) (hx : x.1 = .agg [.lit (.int .i64 a), .lit (.int .i64 b), .lit (.int .i64 c), .lit (.int .i64 d)]) : cs = [.int .i64 a, .int .i64 b, .int .i64 c, .int .i64 d] := by
 obtain ⟨y0, y1, y2, y3, m, rfl, hl, h0, h1, h2, h3⟩ := trod_struct4 Tryz.underlying140 h
 have e : (DataW.agg [y0.1, y1.1, y2.1, y3.1] : DataW Unit) = .agg [.lit (.int .i64 a), .lit (.int .i64 b), .lit (.int .i64 c), .lit (.int .i64 d)] := hx
 injection e with e
 injection e with e0 e
 injection e with e1 e
 injection e with e2 e
 injection e with e3 _
 rw [cells140] at hl
 have g0 := num1 h0 e0
 have g1 := num1 h1 e1
 have g2 := num1 h2 e2
 have g3 := num1 h3 e3
 simp only [cellsI] at g0 g1 g2 g3
 match cs, hl with
 | [c0, c1, c2, c3], _ =>
  simp at g0 g1 g2 g3
  rw [g0, g1, g2, g3]
set_option maxRecDepth 100000 in
theorem opsT_of {W : World} (h : laidMetH Tryz.prog laid1 W) : OpsT W := by
 rw [MakeChecks.laidMetH_plain _ _ _ (by kernel_rfl)] at h
 obtain ⟨ps, ⟨g0, t0, cs0, f0, p0, q0, hg0, ht0, hv0, hd0, _, _⟩, _, _⟩ := h
 obtain rfl := Option.some.inj (gOps.symm.trans hg0)
 obtain rfl := Option.some.inj (tOps.symm.trans ht0)
 obtain ⟨xs, m, _, hx, hlen, hn, hel⟩ := DataW.trod_array Tryz.underlying141 hd0
 rw [cells141] at hlen
 rw [cells140] at hel
 have hx1 : (Rows.laid_mirtower_valid_operators : DataW Unit) = .agg (xs.map (·.1)) := by injection hx
 unfold Rows.laid_mirtower_valid_operators at hx1
 injection hx1 with hx1
 have hrow : ∀ (j : Nat) (a b c d : Int), j < 8 → xs[j]?.map Prod.fst = some (.agg [.lit (.int .i64 a), .lit (.int .i64 b), .lit (.int .i64 c), .lit (.int .i64 d)]) → (cs0.toList.drop (j * 4)).take 4 = [.int .i64 a, .int .i64 b, .int .i64 c, .int .i64 d] := by
  intro j a b c d hj hxj
  cases hq : xs[j]? with
  | none => rw [hq] at hxj; cases hxj
  | some x =>
   rw [hq] at hxj
   exact row4 ((hel j hj).trans hq) (Option.some.inj hxj)
 have hmap : ∀ j : Nat, xs[j]?.map Prod.fst = (xs.map (·.1))[j]? := fun j => by rw [List.getElem?_map]
 have r0 := hrow 0 2 0 2 2 (by omega) (by rw [hmap, ← hx1]; rfl)
 have r1 := hrow 1 2 1 1 1 (by omega) (by rw [hmap, ← hx1]; rfl)
 have r2 := hrow 2 3 0 2 2 (by omega) (by rw [hmap, ← hx1]; rfl)
 have r3 := hrow 3 3 1 2 2 (by omega) (by rw [hmap, ← hx1]; rfl)
 have r4 := hrow 4 3 2 2 2 (by omega) (by rw [hmap, ← hx1]; rfl)
 have r5 := hrow 5 3 3 2 1 (by omega) (by rw [hmap, ← hx1]; rfl)
 have r6 := hrow 6 3 4 2 1 (by omega) (by rw [hmap, ← hx1]; rfl)
 have r7 := hrow 7 3 5 1 1 (by omega) (by rw [hmap, ← hx1]; rfl)
 have hall : cs0.toList = opCells := by
  have hs : ∀ (l : List Value) (k : Nat), l.drop k = (l.drop k).take 4 ++ l.drop (k + 4) := fun l k => by
   rw [← List.drop_drop]
   exact (List.take_append_drop 4 (l.drop k)).symm
  have e : cs0.toList = cs0.toList.drop 0 := rfl
  rw [e, hs _ 0, hs _ (0 + 4), hs _ (0 + 4 + 4), hs _ (0 + 4 + 4 + 4), hs _ (0 + 4 + 4 + 4 + 4), hs _ (0 + 4 + 4 + 4 + 4 + 4), hs _ (0 + 4 + 4 + 4 + 4 + 4 + 4), hs _ (0 + 4 + 4 + 4 + 4 + 4 + 4 + 4)]
  rw [List.drop_of_length_le (i := 0 + 4 + 4 + 4 + 4 + 4 + 4 + 4 + 4) (by rw [hlen]; omega)]
  have q0 : (cs0.toList.drop 0).take 4 = _ := r0
  have q1 : (cs0.toList.drop (0 + 4)).take 4 = _ := r1
  have q2 : (cs0.toList.drop (0 + 4 + 4)).take 4 = _ := r2
  have q3 : (cs0.toList.drop (0 + 4 + 4 + 4)).take 4 = _ := r3
  have q4 : (cs0.toList.drop (0 + 4 + 4 + 4 + 4)).take 4 = _ := r4
  have q5 : (cs0.toList.drop (0 + 4 + 4 + 4 + 4 + 4)).take 4 = _ := r5
  have q6 : (cs0.toList.drop (0 + 4 + 4 + 4 + 4 + 4 + 4)).take 4 = _ := r6
  have q7 : (cs0.toList.drop (0 + 4 + 4 + 4 + 4 + 4 + 4 + 4)).take 4 = _ := r7
  rw [q0, q1, q2, q3, q4, q5, q6, q7]
  rfl
 intro j u hu
 have hc := World.var?_cell hg0 hv0 j
 rw [← hall] at hu
 exact hc.trans (by simpa using hu)
end Go.Proofs.YtfgacmgjpikgaaaGreatDoor
