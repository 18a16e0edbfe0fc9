/- BodiesOperands: for every body the operands of its blocks are those of the reference, and there are at most as many as nodes. No condition. -/
import Derived.Test.YtbdimnncobpfdaaGreatBodU
import Derived.Test.YtbdimnncobpfdaaGreatAlive09
import Derived.Test.YtbdimnncobpfdaaGreatBodP
import Derived.Test.YtbdimnncobpfdaaGreatRows
import Derived.Test.YtbdimnncobpfdaaGreatOpenB
import Derived.SizedLaws
set_option linter.unusedVariables false
set_option linter.unusedSimpArgs false
namespace Go.Proofs.YtbdimnncobpfdaaGreat.bodiesOperands
open Go.ChangeShapes Go.WideShapes Go.ChangeAt Go.ChangeMaps Go.RowKit Go.Shelf

theorem len_opsN (L : List OpW) : L.length ≤ opsN (L.map OpW.v) := by
  rw [opsN, sumN_map]
  exact sumN_len fun o => by show 1 ≤ 1 + plN o.pl.v; omega
theorem sumN_mono {α : Type} {f g : α → Nat} {l : List α} (h : ∀ x ∈ l, f x ≤ g x) : sumN f l ≤ sumN g l := by
  induction l with
  | nil => exact Nat.le_refl _
  | cons a l ih =>
    rw [sumN_cons, sumN_cons]
    have h1 := h a (List.mem_cons_self ..)
    have h2 := ih fun x hx => h x (List.mem_cons_of_mem _ hx)
    omega
theorem ops_le (b : BkW) : (opsOf b).length ≤ bkN b.v := by
  show (b.stmts.L.flatMap (fun s : StW => s.rv.args.L) ++ b.term.args.L).length ≤ sumN stN (b.stmts.L.map StW.v) + tmN b.term.v
  rw [List.length_append, List.length_flatMap, sumN_map]
  have h1 : sumN (fun s : StW => s.rv.args.L.length) b.stmts.L ≤ sumN (fun s => stN (StW.v s)) b.stmts.L := sumN_mono fun s _ => by
    have := len_opsN s.rv.args.L
    show s.rv.args.L.length ≤ 1 + plN s.pl.v + 1 + plN s.rv.pl.v + opsN (s.rv.args.L.map OpW.v)
    omega
  have h2 := len_opsN b.term.args.L
  have h3 : tmN b.term.v = 1 + b.term.targets.L.length + opsN (b.term.args.L.map OpW.v) + plN b.term.pl.v := rfl
  unfold sumN at *
  omega
theorem all_ops_le (x : BdW) : sumN (fun b => (opsOf b).length) x.blocks.L ≤ bdN x.v := by
  have h1 : sumN (fun b => (opsOf b).length) x.blocks.L ≤ sumN (fun b => bkN (BkW.v b)) x.blocks.L := sumN_mono fun b _ => ops_le b
  have h2 : bdN x.v = bdN0 x.v + sumN (fun t : Ty => t.fields.length) x.v.types + sumN bkN (x.blocks.L.map BkW.v) := rfl
  rw [sumN_map] at h2
  omega

set_option maxHeartbeats 2000000 in
set_option maxRecDepth 100000 in
theorem walk (x0 : BdW) (w : World) (h0 : OneBd w w.heap.size x0) (s0 : FitBd x0) :
    Calls Tryz.prog 5 #[aggBd x0] w fun e w' => e = .returned (.bool true) ∧ Below w.heap.size w w' := by
  have HB := hide (bd1_below w x0)
  have HX := hide (h0.up HB.out)
  have HBL := hide h0.blocks.len
  have hbn := h0.blocks.nm
  have HFX := hide s0
  have HALL := hide (all_ops_le x0)
  have hs := hide fun (w' : World) (h : Below (bd1 w x0).heap.size (bd1 w x0) w') => bd1_cells h
  obtain ⟨nn, hnn⟩ : ∃ n, bdN x0.v = n := ⟨_, rfl⟩
  have HNN := hide hnn
  clear h0 s0 hnn
  obtain ⟨nm, ⟨rA, rn, rc, rL⟩, ⟨oA, on, oc, oL⟩, ⟨tA, tn, tc, tL⟩, ⟨lA, ln, lc, lL⟩, ar, ⟨bA, bn, bc, bL⟩⟩ := x0
  simp only [] at hbn
  unfold maxLen at hbn
  have hc := hide fun (w' : World) (h : Below (bd1 w ⟨nm, ⟨rA, rn, rc, rL⟩, ⟨oA, on, oc, oL⟩, ⟨tA, tn, tc, tL⟩, ⟨lA, ln, lc, lL⟩, ar, ⟨bA, bn, bc, bL⟩⟩).heap.size (bd1 w ⟨nm, ⟨rA, rn, rc, rL⟩, ⟨oA, on, oc, oL⟩, ⟨tA, tn, tc, tL⟩, ⟨lA, ln, lc, lL⟩, ar, ⟨bA, bn, bc, bL⟩⟩) w') => (show w'.cell? ⟨w.heap.size, 0, none⟩ = some (.string nm) ∧ w'.cell? ⟨w.heap.size, 1, none⟩ = some (.slice rA rn rc) ∧ w'.cell? ⟨w.heap.size, 2, none⟩ = some (.slice oA on oc) ∧ w'.cell? ⟨w.heap.size, 3, none⟩ = some (.slice tA tn tc) ∧ w'.cell? ⟨w.heap.size, 4, none⟩ = some (.slice lA ln lc) ∧ w'.cell? ⟨w.heap.size, 5, none⟩ = some (.int .i64 ar) ∧ w'.cell? ⟨w.heap.size, 6, none⟩ = some (.slice bA bn bc) from ⟨hs.out w' h 0 _ rfl, hs.out w' h 1 _ rfl, hs.out w' h 2 _ rfl, hs.out w' h 3 _ rfl, hs.out w' h 4 _ rfl, hs.out w' h 5 _ rfl, hs.out w' h 6 _ rfl⟩)
  go_enter Tryz.func5, Tryz.ntmps5
  go_wp2_with fail
  refine (Large9_any ⟨nm, ⟨rA, rn, rc, rL⟩, ⟨oA, on, oc, oL⟩, ⟨tA, tn, tc, tL⟩, ⟨lA, ln, lc, lL⟩, ar, ⟨bA, bn, bc, bL⟩⟩ _ HX.out HFX.out).mono ?_
  rintro e1 w1 ⟨hb1, h⟩
  have HW1 := hide (show Below (bd1 w ⟨nm, ⟨rA, rn, rc, rL⟩, ⟨oA, on, oc, oL⟩, ⟨tA, tn, tc, tL⟩, ⟨lA, ln, lc, lL⟩, ar, ⟨bA, bn, bc, bL⟩⟩).heap.size (bd1 w ⟨nm, ⟨rA, rn, rc, rL⟩, ⟨oA, on, oc, oL⟩, ⟨tA, tn, tc, tL⟩, ⟨lA, ln, lc, lL⟩, ar, ⟨bA, bn, bc, bL⟩⟩) w1 from hb1)
  rcases h with rfl | ⟨rfl, hok⟩
  · go_wp2_with fail
    refine (alive09_any _).mono ?_
    rintro e2 w2 ⟨rfl, hb2⟩
    have HW2 := hide (HW1.out.trans (hb2.mono HW1.out.size))
    clear hb1 hb2
    go_wp2
    go_ret
    exact ⟨rfl, HB.out.trans (HW2.out.mono HB.out.size)⟩
  have HOK := hide hok
  obtain ⟨c0, c1, c2, c3, c4, c5, c6⟩ := hc.out _ HW1.out
  clear hok hb1
  go_wp2
  clear c0 c1 c2 c3 c4 c5 c6
  go_loopw [3, 14] (fun v i wr => ∃ j m : Nat, i = .int .i64 (j : Int) ∧ v = .int .i64 (m : Int) ∧ j ≤ bn ∧ Hid (m = sumN (fun b => (opsOf b).length) (bL.take j)) ∧ Hid (Below (bd1 w ⟨nm, ⟨rA, rn, rc, rL⟩, ⟨oA, on, oc, oL⟩, ⟨tA, tn, tc, tL⟩, ⟨lA, ln, lc, lL⟩, ar, ⟨bA, bn, bc, bL⟩⟩).heap.size (bd1 w ⟨nm, ⟨rA, rn, rc, rL⟩, ⟨oA, on, oc, oL⟩, ⟨tA, tn, tc, tL⟩, ⟨lA, ln, lc, lL⟩, ar, ⟨bA, bn, bc, bL⟩⟩) wr)) (fun _ i _ => bn - (intOf i).toNat)
  case atStart => exact ⟨0, 0, rfl, rfl, Nat.zero_le _, hide rfl, hide HW1.out⟩
  case round =>
    obtain ⟨j, m, rfl, rfl, hj, HM, HR⟩ := hrel
    by_cases hlt : j < bn
    · obtain ⟨p, hp⟩ := HX.out.blocks.get hlt
      obtain ⟨g, o, hA, hg, h1, c0⟩ := HX.out.blocks.at_ hp
      simp only [] at hA
      subst hA
      have hlt' : (j : Int) < (bn : Int) := by omega
      have hup := sumN_up (f := fun b : BkW => (opsOf b).length) hp
      have hle := sumN_le (fun b : BkW => (opsOf b).length) bL (j + 1)
      have hol := HOK.out.ops p (List.mem_of_getElem? hp)
      have hsm := HOK.out.sm.bks p (List.mem_of_getElem? hp)
      have hmm := HM.out
      have hall : sumN (fun b => (opsOf b).length) bL ≤ bdN (BdW.v _) := HALL.out
      have hnd := HOK.out.nodes
      have HOL := hide hol
      have HSM := hide hsm
      obtain ⟨q, hq⟩ : ∃ q, (opsOf p).length = q := ⟨_, rfl⟩
      have HQ := hide hq
      have HM2 := hide (show m + q = sumN (fun b => (opsOf b).length) (bL.take (j + 1)) by rw [hup, hmm, hq])
      have hbd : m + q ≤ 2 ^ 62 := by rw [HM2.out]; exact Nat.le_trans hle (Nat.le_trans hall hnd)
      have H1 := hide h1
      clear hp hup hle hol hsm hmm hall hnd hq h1
      obtain ⟨⟨sA, sn, sc, sL⟩, ⟨tk, ⟨tgA, tgn, tgc, tgL⟩, ⟨taA, tan, tac, taL⟩, ⟨tpl, tpA, tpn, tpc, tps⟩, tnm⟩⟩ := p
      have c1 := (HR.out.cell hg).trans (c0 1 _ rfl)
      have c2 := (HR.out.cell hg).trans (c0 2 _ rfl)
      have c3 := (HR.out.cell hg).trans (c0 3 _ rfl)
      have c4 := (HR.out.cell hg).trans (c0 4 _ rfl)
      have c5 := (HR.out.cell hg).trans (c0 5 _ rfl)
      have c6 := (HR.out.cell hg).trans (c0 6 _ rfl)
      have c7 := (HR.out.cell hg).trans (c0 0 _ rfl)
      simp only [Nat.add_zero] at c1 c2 c3 c4 c5 c6 c7
      have HBQ := hide (HR.out.alloc HR.out.size (.cells #[.slice sA sn sc, .int .i64 tk, .slice tgA tgn tgc, .slice taA tan tac, .int .i64 tpl, .slice tpA tpn tpc, .string tnm] 44))
      have HXB := hide (Bx.new wr [.slice sA sn sc, .int .i64 tk, .slice tgA tgn tgc, .slice taA tan tac, .int .i64 tpl, .slice tpA tpn tpc, .string tnm] 44)
      have t1 : IntKind.i64.wrap ((m : Int) + (q : Int)) = (m : Int) + (q : Int) := wrapI9 _ (by omega) (by omega)
      clear c0
      go_wp2_with fail
      refine (Operands_any ⟨⟨sA, sn, sc, sL⟩, ⟨tk, ⟨tgA, tgn, tgc, tgL⟩, ⟨taA, tan, tac, taL⟩, ⟨tpl, tpA, tpn, tpc, tps⟩, tnm⟩⟩ _ (H1.out.up HBQ.out) HOL.out HSM.out).mono ?_
      rintro e2 w2 ⟨⟨A1, n1, k1, L1⟩, h9, hm1, ho1, hb1⟩
      obtain rfl : e2 = .returned (.slice A1 n1 k1) := h9
      obtain rfl : n1 = q := by
        have h2 := ho1.len
        have h3 := congrArg List.length hm1
        rw [List.length_map, List.length_map, HQ.out] at h3
        simp only [] at h2 h3
        omega
      have HE := hide hm1
      have HO1 := hide ho1
      have HW2 := hide (HBQ.out.trans (hb1.mono HBQ.out.size))
      have HXB2 := hide (HXB.out.below hb1)
      clear c1 c2 c3 c4 c5 c6 c7 hm1 ho1 hb1
      have d0 := HXB2.out.cell (j := 0) rfl
      have d1 := HXB2.out.cell (j := 1) rfl
      have d2 := HXB2.out.cell (j := 2) rfl
      have d3 := HXB2.out.cell (j := 3) rfl
      have d4 := HXB2.out.cell (j := 4) rfl
      have d5 := HXB2.out.cell (j := 5) rfl
      have d6 := HXB2.out.cell (j := 6) rfl
      go_wp2_with fail
      refine (ROperandsOf_any ⟨⟨sA, sn, sc, sL⟩, ⟨tk, ⟨tgA, tgn, tgc, tgL⟩, ⟨taA, tan, tac, taL⟩, ⟨tpl, tpA, tpn, tpc, tps⟩, tnm⟩⟩ _ (H1.out.up HW2.out) (Nat.le_trans HOL.out (by decide))).mono ?_
      rintro e3 w3 ⟨v3, rfl, hown, hb3⟩
      unfold OwnOps at hown
      obtain ⟨A3, k3, rfl⟩ := own_slice9 hown
      have HW3 := hide (HW2.out.trans (hb3.mono HW2.out.size))
      have HO3 := hide (show Ops w3 w3.heap.size ⟨A3, (opsOf ⟨⟨sA, sn, sc, sL⟩, ⟨tk, ⟨tgA, tgn, tgc, tgL⟩, ⟨taA, tan, tac, taL⟩, ⟨tpl, tpA, tpn, tpc, tps⟩, tnm⟩⟩).length, k3, opsOf ⟨⟨sA, sn, sc, sL⟩, ⟨tk, ⟨tgA, tgn, tgc, tgL⟩, ⟨taA, tan, tac, taL⟩, ⟨tpl, tpA, tpn, tpc, tps⟩, tnm⟩⟩⟩ from own_sl (s := ⟨A3, (opsOf ⟨⟨sA, sn, sc, sL⟩, ⟨tk, ⟨tgA, tgn, tgc, tgL⟩, ⟨taA, tan, tac, taL⟩, ⟨tpl, tpA, tpn, tpc, tps⟩, tnm⟩⟩).length, k3, opsOf ⟨⟨sA, sn, sc, sL⟩, ⟨tk, ⟨tgA, tgn, tgc, tgL⟩, ⟨taA, tan, tac, taL⟩, ⟨tpl, tpA, tpn, tpc, tps⟩, tnm⟩⟩⟩) cOp_len (by decide) hown (fun y hy => (opsOf_one H1.out y hy).up HW3.out))
      have HO1b := hide (Ops.up HO1.out hb3)
      clear hown hb3 d0 d1 d2 d3 d4 d5 d6
      go_wp2_with fail
      refine (RSameOperands_is (s := ⟨A1, n1, k1, L1⟩) (t := ⟨A3, (opsOf ⟨⟨sA, sn, sc, sL⟩, ⟨tk, ⟨tgA, tgn, tgc, tgL⟩, ⟨taA, tan, tac, taL⟩, ⟨tpl, tpA, tpn, tpc, tps⟩, tnm⟩⟩).length, k3, opsOf ⟨⟨sA, sn, sc, sL⟩, ⟨tk, ⟨tgA, tgn, tgc, tgL⟩, ⟨taA, tan, tac, taL⟩, ⟨tpl, tpA, tpn, tpc, tps⟩, tnm⟩⟩⟩) (eqL_iff.2 HE.out) _ HO1b.out HO3.out).mono ?_
      rintro e4 w4 ⟨rfl, hb4⟩
      have HW4 := hide (HW3.out.trans (hb4.mono HW3.out.size))
      clear hb4
      go_wp2
      go_roundw
      case rel => exact ⟨j + 1, m + n1, by go_num, by go_num, by omega, HM2, HW4⟩
      case measure => simp [intOf]; omega
    · have hjn : bn = j := by omega
      have hge : ¬ (j : Int) < (bn : Int) := by omega
      have hle : (m : Int) ≤ (nn : Int) := by
        have h1 := HM.out
        rw [← hjn, List.take_of_length_le (Nat.le_of_eq HBL.out)] at h1
        have h2 : sumN (fun b => (opsOf b).length) bL ≤ bdN (BdW.v _) := HALL.out
        have h3 := HNN.out
        rw [h3] at h2
        omega
      clear hjn
      go_wp2_with fail
      refine (alive09_any _).mono ?_
      rintro e2 w2 ⟨rfl, hb2⟩
      have HW2 := hide (HR.out.trans (hb2.mono HR.out.size))
      obtain ⟨c0, c1, c2, c3, c4, c5, c6⟩ := hc.out _ HW2.out
      clear hb2
      go_wp2_with fail
      refine (Nodes_is (x := ⟨nm, ⟨rA, rn, rc, rL⟩, ⟨oA, on, oc, oL⟩, ⟨tA, tn, tc, tL⟩, ⟨lA, ln, lc, lL⟩, ar, ⟨bA, bn, bc, bL⟩⟩) HNN.out _ (HX.out.up HW2.out) (HNN.out ▸ HOK.out.nodes)).mono ?_
      rintro e3 w3 ⟨rfl, hb3⟩
      have HW3 := hide (HW2.out.trans (hb3.mono HW2.out.size))
      clear hb3 c0 c1 c2 c3 c4 c5 c6
      go_wp2
      go_ret
      exact ⟨rfl, HB.out.trans (HW3.out.mono HB.out.size)⟩
theorem own : ownKnob Tryz.prog.godebug = none := by kernel_rfl
theorem laidOut : laidOutB Tryz.prog = true := by kernel_rfl

set_option maxRecDepth 100000 in
/-- what the walk gives, for every argument that can be read -/
theorem contract (H : Type) (enc : TypeId × Value → H) (W : World) (base : Nat) (args : Array Value) (ds gs : List (DataW H)) (before : List MemPlace)
    (hval0 : ∀ (j : Nat) t v, Tryz.f5.params[j]? = some t → args[j]? = some v → Value.okWide Tryz.prog W .any base t v)
    (hW : DataW.Whole enc Tryz.prog Tryz.f5.params.toList Rows.bodiesOperandsSpec.vars false W args.toList ds gs before) (hsz0 : (DataW.weightsEach Tryz.prog (Tryz.f5.params.toList ++ Rows.bodiesOperandsSpec.plain.varTypes Tryz.prog) (ds ++ gs)).all (· ≤ reachBytes) = true) :
    Calls Tryz.prog 5 args W fun e W' => ∃ v, e = .returned v ∧ Rows.bodiesOperandsSpec.post enc Tryz.prog Tryz.f5 false true false false W args v W' := by
  have hval : ∀ (j : Nat) t v, Tryz.f5.params[j]? = some t → args[j]? = some v → Value.okWide Tryz.prog W .any base t v := hval0
  have hW' := hW
  obtain ⟨p, q, hA0, hV, rfl, hfz, hnd⟩ := hW
  have hA : DataW.TrodAll enc Tryz.prog W 0 (fun _ => true) true Tryz.f5.params.toList args.toList ds p := hA0
  have hsz : (DataW.weightsEach Tryz.prog (Tryz.f5.params.toList ++ Rows.bodiesOperandsSpec.plain.varTypes Tryz.prog) (ds ++ gs)).all (· ≤ reachBytes) = true := hsz0
  rw [Tryz.params5] at hA hval hsz
  obtain ⟨v0, vs0, d0, ds0, p0, q0, hargs, rfl, rfl, h0, r0⟩ := trodAll_cons hA
  obtain ⟨rfl, rfl, rfl⟩ := trodAll_nil r0
  obtain rfl : args = #[v0] := by cases args; simp_all
  obtain ⟨rfl, rfl⟩ := trodVars_none hV
  have k0 := h0
  have lt0 : ∀ x ∈ p0, x.block < W.heap.size := by obtain ⟨m, hm⟩ := k0; exact DataW.trod_lt m _ _ _ hm
  obtain ⟨x0, rfl, g0, f0⟩ := openBody (hval 0 28 v0 rfl rfl) h0
  have s0 : FitBd x0 := f0 (List.all_eq_true.2 fun n hn => List.all_eq_true.1 hsz n (DataW.weights_mem_each (j := 0) (t := 28) rfl rfl n hn))
  clear hA0 hval0 hsz hsz0
  simp only [List.append_nil] at hW'
  refine (walk x0 W g0 s0).mono fun e W' ⟨he, bel⟩ => ?_
  subst he
  exact ⟨_, rfl, _, _, _, [], _, [], hW', trodAll_mk1 (shut_bool Tryz.underlying4 _), (trodAll_cons_mk (Below.trod laidOut (by kernel_rfl) (of_decide_eq_true (by kernel_rfl)) k0 bel lt0) trodAll_mk0), rfl, bel.frame _, fun h => by cases h⟩

set_option maxRecDepth 100000 in
theorem lifted (os : Os) (started : os.Started) (H : Type) (enc : TypeId × Value → H) :
    ReturnsInHanded {} Tryz.checked os 5 .any (Rows.bodiesOperandsSpec.pre6 enc Tryz.prog Tryz.f5 Rows.bodiesOperandsRow.domain false) (Rows.bodiesOperandsSpec.post enc Tryz.prog Tryz.f5 false true false false) := by
  refine returnsInHanded_of_change_sized (C := Tryz.checked) own started (by kernel_rfl) Tryz.func5
    (ChangeSpec.witness6 (enc := enc) (C := Tryz.checked) false ⟨#[], #[.agg #[.string .empty, .slice none 0 0, .slice none 0 0, .slice none 0 0, .slice none 0 0, .int .i64 0, .slice none 0 0]], []⟩ 8 (by kernel_rfl) (by kernel_rfl) (by kernel_rfl) (by kernel_rfl)) ?_
  intro W base args ds gs before hval hW _ hsz _
  exact contract H enc W base args ds gs before hval hW hsz

/-- the statement -/
theorem proved : Rows.BodiesOperandsSaid :=
  OpenClaim.holds_of_wide 5 Tryz.f5 rfl rfl rfl rfl rfl rfl rfl ⟨rfl, rfl, rfl, rfl, rfl⟩ rfl rfl rfl rfl rfl (by kernel_rfl) Tryz.func5 (by kernel_rfl)
    (of_decide_eq_true (by kernel_rfl)) (by unfold Func.isWrapper; first | (rw [if_pos (by decide +kernel)]; kernel_rfl) | (rw [if_neg (by decide +kernel)]; exact ⟨rfl, rfl⟩))
    (fun os started H enc _ => lifted os started H enc)
end Go.Proofs.YtbdimnncobpfdaaGreat.bodiesOperands
