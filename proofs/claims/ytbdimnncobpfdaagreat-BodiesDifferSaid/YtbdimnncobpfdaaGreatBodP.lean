/- The code's Operands. -/
import Derived.Test.YtbdimnncobpfdaaGreatBodC
set_option linter.unusedVariables false
namespace Go.Proofs.YtbdimnncobpfdaaGreat
open Go.RowKit Go.Shelf

def OpsOut2 (w : World) (x : BkW) (e : Ending) (w' : World) : Prop := ∃ s : SlW OpW, e = .returned s.val ∧ s.L.map OpW.v = (opsOf x).map OpW.v ∧ Ops w' w'.heap.size s ∧ Below w.heap.size w w'
theorem opsOf_one {w : World} {B : Nat} {x : BkW} (h : OneBk w B x) : ∀ y ∈ opsOf x, OneOp w B y := by
  intro y hy
  unfold opsOf at hy
  rcases List.mem_append.1 hy with hy | hy
  · obtain ⟨s, hs, hy⟩ := List.mem_flatMap.1 hy
    exact (h.stmts.all s hs).rv.args.all y hy
  · exact h.term.args.all y hy
theorem opsOf_sm {x : BkW} (h : SmBk x) : ∀ y ∈ opsOf x, SmOp y := by
  intro y hy
  unfold opsOf at hy
  rcases List.mem_append.1 hy with hy | hy
  · obtain ⟨s, hs, hy⟩ := List.mem_flatMap.1 hy
    exact (h.all s hs).args.all y hy
  · exact h.term.args.all y hy

set_option maxHeartbeats 4000000 in
set_option maxRecDepth 100000 in
theorem Operands_any (x : BkW) (w : World) (hx : OneBk w w.heap.size x) (hN : (opsOf x).length ≤ 2 ^ 39) (hS : SmBk x) :
    Calls Tryz.prog 20 #[aggBk x] w (OpsOut2 w x) := by
  obtain ⟨i0, hi, hz0, hz1, hz2⟩ := info_parts infoOp
  have HB := hide (bk1_below w x)
  have HX := hide (hx.up HB.out)
  have HSL := hide hx.stmts.len
  have HOA := hide (opsOf_one hx)
  have HSA := hide (opsOf_sm hS)
  have hsn := hx.stmts.nm
  have hs := hide fun (w' : World) (h : Below (bk1 w x).heap.size (bk1 w x) w') => bk1_cells h
  obtain ⟨base, hbase⟩ : ∃ b, (bk1 w x).heap.size = b := ⟨_, rfl⟩
  have Hbase := hide hbase
  clear hx hbase
  obtain ⟨⟨sA, sn, sc, sL⟩, tt⟩ := x
  simp only [] at hsn
  unfold maxLen at hsn
  have hNT : (sL.flatMap (fun s : StW => s.rv.args.L)).length + tt.args.L.length ≤ 2 ^ 39 := by
    unfold opsOf at hN
    simp only [List.length_append] at hN
    exact hN
  clear hN
  have htl : tt.args.L.length = tt.args.n := HX.out.term.args.len
  go_enter Tryz.func20, Tryz.ntmps20
  go_wp2
  go_loopw [3, 9] (fun v i wr => ∃ j m : Nat, ∃ X : List OpW, i = .int .i64 (j : Int) ∧ j ≤ sn ∧ Hid (m = X.length) ∧ Hid (X = (sL.take j).flatMap (fun s => s.rv.args.L)) ∧ Hid (wr.ownsRow base 96 4 v m (X.flatMap cOp)) ∧ Hid (Below (bk1 w ⟨⟨sA, sn, sc, sL⟩, tt⟩).heap.size (bk1 w ⟨⟨sA, sn, sc, sL⟩, tt⟩) wr)) (fun _ i _ => sn - (intOf i).toNat)
  case atStart => exact ⟨0, 0, [], rfl, Nat.zero_le _, hide rfl, hide rfl, hide (World.ownsRow_nil _ _ _ _), hide (Below.refl _ _)⟩
  case round =>
    obtain ⟨j, m, X, rfl, hj, HM, HXX, HO, HR⟩ := hrel
    have v0 := hs.out _ HR.out 0 _ rfl
    simp only [] at v0
    have hsz : base ≤ wr.heap.size := by rw [← Hbase.out]; exact HR.out.size
    by_cases hlt : j < sn
    · obtain ⟨p, hp⟩ := HX.out.stmts.get hlt
      obtain ⟨g, o, hA, hg, h1, c0⟩ := HX.out.stmts.at_ hp
      simp only [] at hA
      subst hA
      obtain ⟨k, ⟨l, pA, pn, pc, ps⟩, ⟨rk, ro, rr, rm, ⟨rl, rA, rn, rc, rps⟩, ⟨gA, gn, gc, gL⟩⟩, lo⟩ := p
      have hlt' : (j : Int) < (sn : Int) := by omega
      have c1 := (HR.out.cell hg).trans (c0 1 _ rfl)
      have c2 := (HR.out.cell hg).trans (c0 2 _ rfl)
      have c3 := (HR.out.cell hg).trans (c0 3 _ rfl)
      have c4 := (HR.out.cell hg).trans (c0 4 _ rfl)
      have c5 := (HR.out.cell hg).trans (c0 5 _ rfl)
      have c6 := (HR.out.cell hg).trans (c0 6 _ rfl)
      have c7 := (HR.out.cell hg).trans (c0 7 _ rfl)
      have c8 := (HR.out.cell hg).trans (c0 8 _ rfl)
      have c9 := (HR.out.cell hg).trans (c0 9 _ rfl)
      have c10 := (HR.out.cell hg).trans (c0 10 _ rfl)
      have c11 := (HR.out.cell hg).trans (c0 0 _ rfl)
      simp only [Nat.add_zero] at c1 c2 c3 c4 c5 c6 c7 c8 c9 c10 c11
      have HBQ := hide (HR.out.alloc HR.out.size (.cells #[.int .i64 k, .int .i64 l, .slice pA pn pc, .int .i64 rk, .int .i64 ro, .int .i64 rr, .bool rm, .int .i64 rl, .slice rA rn rc, .slice gA gn gc, .int .i64 lo] 58))
      have HC := hide (show Cells (wr.alloc (.cells #[.int .i64 k, .int .i64 l, .slice pA pn pc, .int .i64 rk, .int .i64 ro, .int .i64 rr, .bool rm, .int .i64 rl, .slice rA rn rc, .slice gA gn gc, .int .i64 lo] 58)) _ 4 cOp gA gn gL from (Ops.up h1.rv.args HBQ.out).cells)
      have HO1 := hide (HO.out.alloc (.cells #[.int .i64 k, .int .i64 l, .slice pA pn pc, .int .i64 rk, .int .i64 ro, .int .i64 rr, .bool rm, .int .i64 rl, .slice rA rn rc, .slice gA gn gc, .int .i64 lo] 58))
      have hsz1 : base ≤ (wr.alloc (.cells #[.int .i64 k, .int .i64 l, .slice pA pn pc, .int .i64 rk, .int .i64 ro, .int .i64 rr, .bool rm, .int .i64 rl, .slice rA rn rc, .slice gA gn gc, .int .i64 lo] 58)).heap.size := by simp; omega
      have hpl : gL.length = gn := h1.rv.args.len
      have ht := take_flat (f := fun s : StW => s.rv.args.L) hp
      have hle := take_flat_le (fun s : StW => s.rv.args.L) sL (j + 1)
      have HX2 := hide (show X ++ gL = (sL.take (j + 1)).flatMap (fun s => s.rv.args.L) by rw [ht, HXX.out])
      have HM2 := hide (show m + gn = (X ++ gL).length by rw [List.length_append, ← HM.out, hpl])
      have hbd : m + gn ≤ 2 ^ 39 := by rw [HM2.out, HX2.out]; omega
      clear c0 h1 hpl ht hle hp
      go_wp2_with (at_builtin; refine wpList_append_cells _ rfl (.tmp 13) (.tmp 16) 37 rfl cOp_len (by decide) cOp_one base 96 i0 _ 48 Tryz.underlying37 hi hz0 hz1 hz2 rfl _ m (X.flatMap cOp) rfl HO1.out _ gA gn gc gL rfl HC.out (by unfold maxLen; omega) (by omega) hsz1 ?_; intro v5 w5 hown5 hg5 hat5; have HO5 := hide hown5; have HB5 := hide (below_app (Hbase.out ▸ HBQ.out) HO1.out hsz1 hg5); clear hown5 hg5 hat5)
      go_roundw
      case rel => exact ⟨j + 1, m + gn, X ++ gL, by go_num, by omega, HM2, HX2, hide (by rw [List.flatMap_append]; exact HO5.out), hide (Hbase.out ▸ HB5.out)⟩
      case measure => simp [intOf]; omega
    · have hjn : sn = j := by omega
      have hge : ¬ (j : Int) < (sn : Int) := by omega
      have v2 := hs.out _ HR.out 3 _ rfl
      simp only [] at v2
      have HXF := hide (show X = sL.flatMap (fun s : StW => s.rv.args.L) by rw [HXX.out, ← hjn, List.take_of_length_le (Nat.le_of_eq HSL.out)])
      have HC := hide (show Cells wr _ 4 cOp tt.args.A tt.args.n tt.args.L from (HX.out.term.args.up HR.out).cells)
      have hbd : m + tt.args.n ≤ 2 ^ 39 := by rw [HM.out, HXF.out]; omega
      clear hjn
      go_wp2_with (at_builtin; refine wpList_append_cells wr rfl (.tmp 19) (.tmp 22) 37 rfl cOp_len (by decide) cOp_one base 96 i0 _ 48 Tryz.underlying37 hi hz0 hz1 hz2 rfl _ m (X.flatMap cOp) rfl HO.out _ tt.args.A tt.args.n tt.args.c tt.args.L rfl HC.out (by unfold maxLen; omega) (by omega) hsz ?_; intro v5 w5 hown5 hg5 hat5; have HO5 := hide hown5; have HB5 := hide (below_app (Hbase.out ▸ HR.out) HO.out hsz hg5); obtain ⟨A5, c5, rfl⟩ := own_slice9 hown5; clear hown5 hg5 hat5)
      have hlen : (opsOf ⟨⟨sA, sn, sc, sL⟩, tt⟩).length = m + tt.args.n := by unfold opsOf; simp only [List.length_append]; rw [← HXF.out, ← HM.out, htl]
      have hfl : (opsOf ⟨⟨sA, sn, sc, sL⟩, tt⟩).flatMap cOp = X.flatMap cOp ++ tt.args.L.flatMap cOp := by unfold opsOf; simp only [List.flatMap_append]; rw [HXF.out]
      have hb6 : Below (bk1 w ⟨⟨sA, sn, sc, sL⟩, tt⟩).heap.size (bk1 w ⟨⟨sA, sn, sc, sL⟩, tt⟩) _ := (Hbase.out ▸ HB5.out)
      have hO6 : Ops _ _ ⟨A5, m + tt.args.n, c5, opsOf ⟨⟨sA, sn, sc, sL⟩, tt⟩⟩ := own_sl (s := ⟨A5, m + tt.args.n, c5, opsOf ⟨⟨sA, sn, sc, sL⟩, tt⟩⟩) cOp_len (by decide) (hfl ▸ HO5.out) (fun y hy => (HOA.out y hy).up (HB.out.trans (hb6.mono HB.out.size)))
      have HO6 := hide hO6
      have HB6 := hide (HB.out.trans (hb6.mono HB.out.size))
      clear hb6 hO6 hfl
      refine (EachOps_any ⟨A5, m + tt.args.n, c5, opsOf ⟨⟨sA, sn, sc, sL⟩, tt⟩⟩ _ HO6.out ⟨hbd, HSA.out⟩).mono ?_
      rintro e7 w7 ⟨⟨A7, n7, c7, L7⟩, h9, hm7, ho7, hb7⟩
      obtain rfl : e7 = .returned (.slice A7 n7 c7) := h9
      have HM7 := hide hm7
      have HO7 := hide (Ops.of_own HO6.out hm7 ho7)
      have HB7 := hide (HB6.out.trans (hb7.mono HB6.out.size))
      clear hm7 ho7 hb7
      go_wp2
      go_ret
      exact ⟨⟨A7, n7, c7, L7⟩, rfl, HM7.out, HO7.out, HB7.out⟩
end Go.Proofs.YtbdimnncobpfdaaGreat
