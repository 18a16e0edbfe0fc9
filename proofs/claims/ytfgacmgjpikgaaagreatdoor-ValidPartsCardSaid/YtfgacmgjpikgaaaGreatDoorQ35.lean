/- Part 36 of the contracts and their mathematics. -/
import Derived.Test.YtfgacmgjpikgaaaGreatDoorQ32
import Derived.Test.YtfgacmgjpikgaaaGreatDoorQ33
import Derived.Test.YtfgacmgjpikgaaaGreatDoorQ34
set_option linter.unusedVariables false
set_option linter.unusedSimpArgs false
namespace Go.Proofs.YtfgacmgjpikgaaaGreatDoor
open Go.RowKit
theorem Wy.box2w {K : CkW} {w w' : World} {cs ds : List Value} {T U : TypeId} (h0 : Ck K w) (h : Wy K (two w cs T ds U) w') : (∀ (j : Nat) (u : Value), cs[j]? = some u → w'.cell? ⟨w.heap.size, j, none⟩ = some u) ∧ (∀ (j : Nat) (u : Value), ds[j]? = some u → w'.cell? ⟨w.heap.size + 1, j, none⟩ = some u) := by
 obtain ⟨a, b⟩ := two_cells (Below.refl (two w cs T ds U).heap.size (two w cs T ds U))
 have hs : (two w cs T ds U).heap.size = w.heap.size + 2 := by simp [two]
 have hn : ∀ k, w.heap.size ≤ k → ¬ K.S k := fun k hk q => by have := h0.sLt _ q; omega
 exact ⟨fun j u hu => (h.turn.cell (p := ⟨w.heap.size, j, none⟩) (by rw [hs]; show w.heap.size < _; omega) (hn _ (Nat.le_refl _))).trans (a j u hu), fun j u hu => (h.turn.cell (p := ⟨w.heap.size + 1, j, none⟩) (by rw [hs]; show w.heap.size + 1 < _; omega) (hn _ (Nat.le_succ _))).trans (b j u hu)⟩
noncomputable def asgV (E : Env) (p : PlV) (r : RvV) : Int := if (tyV E p).2 ≠ 0 then (tyV E p).2 else if muV E p = false then 22 else asErr E r (tyV E p).1
theorem asgV_eq (E : Env) (p : PlV) (r : RvV) : asgV E p r = if (wrV E p).2 ≠ 0 then (wrV E p).2 else if shErr r ≠ 0 then shErr r else asErr E r (wrV E p).1 := by
 unfold asgV wrV
 by_cases h : (tyV E p).2 = 0
 ·
  cases hm : muV E p
  ·
   simp [h]
  ·
   by_cases hs : shErr r = 0
   ·
    simp [h, hs]
   ·
    simp [h, hs]
    unfold asErr
    rw [if_pos hs]
 ·
  simp [h]
theorem wrV_ty {K : CkW} {w : World} (h : Ck K w) {p : PlV} (he : (wrV K.E p).2 = 0) : ∃ (i : Nat) (ty : TyW), (wrV K.E p).1 = (i : Int) ∧ K.x.types.L[i]? = some ty := by
 unfold wrV at he ⊢
 split at he
 ·
  rename_i h1; exact absurd he h1
 ·
  rename_i h1
  split at he
  ·
   cases he
  ·
   rename_i h2
   rw [if_neg h1, if_neg h2]
   exact h.vb.ty (p := p) (Decidable.not_not.1 h1)
theorem shErr_zero {r : RvV} (h : shErr r = 0) : (0 ≤ r.kind ∧ r.kind ≤ 4) ∧ ((r.kind = 0 ∨ r.kind = 2) → r.args.length = 1) ∧ (r.kind = 3 → r.args.length = 2) := by
 unfold shErr at h
 split at h
 ·
  cases h
 rename_i h1
 split at h
 ·
  cases h
 split at h
 ·
  cases h
 rename_i h3
 refine ⟨by omega, fun hk => ?_, fun hk => ?_⟩
 ·
  apply Decidable.byContradiction; intro hn; exact h3 (.inl ⟨hk, hn⟩)
 ·
  apply Decidable.byContradiction; intro hn; exact h3 (.inr ⟨hk, hn⟩)
theorem asErr_bor {E : Env} {r : RvV} {t : Int} (hk : r.kind = 1) (hs : shErr r = 0) : asErr E r t = boErr E r t := by
 unfold asErr
 rw [if_neg (by omega), if_pos hk]
theorem asErr_tup {E : Env} {r : RvV} {t : Int} (hk : r.kind = 4) (hs : shErr r = 0) : asErr E r t = tuV E r t := by
 unfold asErr tuV
 rw [if_neg (by omega), if_neg (by omega), if_neg (by omega), if_pos hk]
theorem asErr_use {E : Env} {r : RvV} {t : Int} {o : OpV} (hk : r.kind = 0) (ha : r.args = [o]) (hs : shErr r = 0) : asErr E r t = vaV E o t := by
 unfold asErr
 rw [if_neg (by omega), if_neg (by omega), if_neg (by omega), if_neg (by omega), ha, if_pos hk]
 unfold vaV opsErr opsErr
 by_cases h : opErr E o = 0
 ·
  cases hf : fitT E o t <;> simp [h, hf]
 ·
  simp [h]
theorem all_kd {E : Env} {L : List OpV} (h : opsErr E L = 0) (c : Int) : (L.all fun o => fitK E o c) = L.all fun o => decide (kdV E o = c) := by
 rw [Bool.eq_iff_iff, List.all_eq_true, List.all_eq_true]
 exact ⟨fun q o ho => by rw [← fitK_kd (opsErr_zero.1 h o ho)]; exact q o ho, fun q o ho => by rw [fitK_kd (opsErr_zero.1 h o ho)]; exact q o ho⟩
theorem asErr_op {E : Env} {r : RvV} {t : Int} (hk : r.kind = 2 ∨ r.kind = 3) (hs : shErr r = 0) : asErr E r t = opeV E r (tyGet E.T t).kind := by
 have hrow : ∀ (f c d : Int), opeV E r (tyGet E.T t).kind = (if opsErr E r.args ≠ 0 then opsErr E r.args else if (r.args.all fun o => decide (kdV E o = c)) = true ∧ (tyGet E.T t).kind = d then 0 else 22) → opFrom r = c → opTo r = d → ¬ ((r.kind = 2 ∧ (r.op < 0 ∨ 1 < r.op)) ∨ (r.kind = 3 ∧ (r.op < 0 ∨ 5 < r.op))) → asErr E r t = opeV E r (tyGet E.T t).kind := by
  intro _ c d h1 h2 h3 h4
  rw [h1]
  unfold asErr
  rw [if_neg (show ¬ shErr r ≠ 0 by omega), if_neg (show ¬ r.kind = 1 by omega), if_neg h4, if_neg (show ¬ r.kind = 4 by omega), h2, h3]
  by_cases he : opsErr E r.args = 0
  ·
   rw [if_neg (show ¬ opsErr E r.args ≠ 0 by omega), if_neg (show ¬ r.kind = 0 by omega), all_kd he, if_neg (show ¬ opsErr E r.args ≠ 0 by omega)]
  ·
   rw [if_pos he, if_pos he]
 by_cases hb : (r.kind = 2 ∧ (r.op < 0 ∨ 1 < r.op)) ∨ (r.kind = 3 ∧ (r.op < 0 ∨ 5 < r.op))
 ·
  unfold asErr
  rw [if_neg (by omega), if_neg (by omega), if_pos hb]
  unfold opeV opR opRun opRun opRun opRun opRun opRun opRun opRun opRun
  simp only []
  rcases hb with ⟨h1, h2⟩ | ⟨h1, h2⟩ <;> simp [h1] <;> omega
 ·
  have h8 : (r.kind = 2 ∧ (r.op = 0 ∨ r.op = 1)) ∨ (r.kind = 3 ∧ (r.op = 0 ∨ r.op = 1 ∨ r.op = 2 ∨ r.op = 3 ∨ r.op = 4 ∨ r.op = 5)) := by omega
  rcases h8 with ⟨h1, h2 | h2⟩ | ⟨h1, h2 | h2 | h2 | h2 | h2 | h2⟩
  ·
   refine hrow 0 2 2 ?_ (by simp [opFrom, h1, h2]) (by simp [opTo, h1, h2]) hb
   unfold opeV opR opRun opRun opRun opRun opRun opRun opRun opRun opRun
   simp [h1, h2]
  ·
   refine hrow 0 1 1 ?_ (by simp [opFrom, h1, h2]) (by simp [opTo, h1, h2]) hb
   unfold opeV opR opRun opRun opRun opRun opRun opRun opRun opRun opRun
   simp [h1, h2]
  ·
   refine hrow 0 2 2 ?_ (by simp [opFrom, h1, h2]) (by simp [opTo, h1, h2]) hb
   unfold opeV opR opRun opRun opRun opRun opRun opRun opRun opRun opRun
   simp [h1, h2]
  ·
   refine hrow 0 2 2 ?_ (by simp [opFrom, h1, h2]) (by simp [opTo, h1, h2]) hb
   unfold opeV opR opRun opRun opRun opRun opRun opRun opRun opRun opRun
   simp [h1, h2]
  ·
   refine hrow 0 2 2 ?_ (by simp [opFrom, h1, h2]) (by simp [opTo, h1, h2]) hb
   unfold opeV opR opRun opRun opRun opRun opRun opRun opRun opRun opRun
   simp [h1, h2]
  ·
   refine hrow 0 2 1 ?_ (by simp [opFrom, h1, h2]) (by simp [opTo, h1, h2]) hb
   unfold opeV opR opRun opRun opRun opRun opRun opRun opRun opRun opRun
   simp [h1, h2]
  ·
   refine hrow 0 2 1 ?_ (by simp [opFrom, h1, h2]) (by simp [opTo, h1, h2]) hb
   unfold opeV opR opRun opRun opRun opRun opRun opRun opRun opRun opRun
   simp [h1, h2]
  ·
   refine hrow 0 1 1 ?_ (by simp [opFrom, h1, h2]) (by simp [opTo, h1, h2]) hb
   unfold opeV opR opRun opRun opRun opRun opRun opRun opRun opRun opRun
   simp [h1, h2]
set_option maxHeartbeats 8000000 in
set_option maxRecDepth 100000 in
theorem casg_is {K : CkW} {p : PlW} {x : RvW} {v : Int} {w : World} (h : Ck K w) (hp : OnePl w K.B p) (hx : OneRv w K.B x) (hv : asgV K.E p.v x.v = v) :
  Calls Tryz.prog 60 #[K.ptr, aggPl p, aggRv x] w fun e w' => e = .returned (.int .i64 v) ∧ Wy K w w' := by
 obtain ⟨l, pA, pn, pc, ps⟩ := p
 obtain ⟨k, op, rg, mu, ⟨rl, qA, qn, qc, qs⟩, ⟨gA, gn, gc, gL⟩⟩ := x
 obtain ⟨wa, hwa⟩ : ∃ u, (wrV K.E (PlW.v ⟨l, pA, pn, pc, ps⟩)).1 = u := ⟨_, rfl⟩
 obtain ⟨wb, hwb⟩ : ∃ u, (wrV K.E (PlW.v ⟨l, pA, pn, pc, ps⟩)).2 = u := ⟨_, rfl⟩
 have hwv : wrV K.E (PlW.v ⟨l, pA, pn, pc, ps⟩) = (wa, wb) := Prod.ext hwa hwb
 obtain ⟨sh, hsh⟩ : ∃ u, shErr (RvW.v ⟨k, op, rg, mu, ⟨rl, qA, qn, qc, qs⟩, ⟨gA, gn, gc, gL⟩⟩) = u := ⟨_, rfl⟩
 have hv9 : (if wb ≠ 0 then wb else if sh ≠ 0 then sh else asErr K.E (RvW.v ⟨k, op, rg, mu, ⟨rl, qA, qn, qc, qs⟩, ⟨gA, gn, gc, gL⟩⟩) wa) = v := by
  rw [← hv, ← hwa, ← hwb, ← hsh]
  exact (asgV_eq _ _ _).symm
 clear hv
 have hv := hv9
 clear hv9
 have hcop : IntR k := hx.kind
 have H0 := hide h
 by_cases hb0 : wb = 0
 case neg =>
  have t0 : (wb != 0) = true := by simp [hb0]
  rw [if_pos hb0] at hv
  obtain rfl : wb = v := hv
  have HB := hide (two_below w [.int .i64 l, .slice pA pn pc] 36 [.int .i64 k, .int .i64 op, .int .i64 rg, .bool mu, .int .i64 rl, .slice qA qn qc, .slice gA gn gc] 44)
  have HK := hide (H0.out.up HB.out)
  have HP := hide (hp.below (HB.out.mono H0.out.bs))
  have HX := hide (hx.below (HB.out.mono H0.out.bs))
  have HC := hide (cwritten_is HK.out HP.out hwv)
  clear h hp hx hwa hwb hwv hsh hb0 hcop
  go_enter Tryz.func60, Tryz.ntmps60
  go_wp2_with fail
  refine HC.out.mono ?_
  rintro e1 w1 ⟨rfl, hb1⟩
  have HW1 := hide (Wy.new HK.out hb1)
  clear hb1
  go_wp2
  go_ret
  exact ⟨rfl, (Turn.of_below HB.out).trans HW1.out.turn, HW1.out.ck⟩
 have t0 : (wb != 0) = false := by simp [hb0]
 rw [if_neg (by omega)] at hv
 by_cases hs0 : sh = 0
 case neg =>
  have t1 : (sh != 0) = true := by simp [hs0]
  rw [if_pos hs0] at hv
  obtain rfl : sh = v := hv
  have HB := hide (two_below w [.int .i64 l, .slice pA pn pc] 36 [.int .i64 k, .int .i64 op, .int .i64 rg, .bool mu, .int .i64 rl, .slice qA qn qc, .slice gA gn gc] 44)
  have HK := hide (H0.out.up HB.out)
  have HP := hide (hp.below (HB.out.mono H0.out.bs))
  have HX := hide (hx.below (HB.out.mono H0.out.bs))
  have HC := hide (cwritten_is HK.out HP.out hwv)
  have HSH := hide hsh
  clear h hp hx hwa hwb hwv hsh hb0 hs0 hcop
  go_enter Tryz.func60, Tryz.ntmps60
  go_wp2_with fail
  refine HC.out.mono ?_
  rintro e1 w1 ⟨rfl, hb1⟩
  have HW1 := hide (Wy.new HK.out hb1)
  clear hb1
  obtain ⟨hcp, hcr⟩ := Wy.box2w H0.out HW1.out
  have p10 := hcp 0 (.int .i64 l) rfl
  have p11 := hcp 1 (.slice pA pn pc) rfl
  have r10 := hcr 0 (.int .i64 k) rfl
  have r11 := hcr 1 (.int .i64 op) rfl
  have r12 := hcr 2 (.int .i64 rg) rfl
  have r13 := hcr 3 (.bool mu) rfl
  have r14 := hcr 4 (.int .i64 rl) rfl
  have r15 := hcr 5 (.slice qA qn qc) rfl
  have r16 := hcr 6 (.slice gA gn gc) rfl
  clear hcp hcr
  go_wp2_with fail
  refine (cRv_is (x := ⟨k, op, rg, mu, ⟨rl, qA, qn, qc, qs⟩, ⟨gA, gn, gc, gL⟩⟩) HSH.out w1 ((HX.out.below (HW1.out.low HK.out)).more HW1.out.ck.bs)).mono ?_
  rintro e2 w2 ⟨rfl, hb2⟩
  have HW2 := hide (HW1.out.up hb2)
  clear hb2
  obtain ⟨hcp, hcr⟩ := Wy.box2w H0.out HW2.out
  have p20 := hcp 0 (.int .i64 l) rfl
  have p21 := hcp 1 (.slice pA pn pc) rfl
  have r20 := hcr 0 (.int .i64 k) rfl
  have r21 := hcr 1 (.int .i64 op) rfl
  have r22 := hcr 2 (.int .i64 rg) rfl
  have r23 := hcr 3 (.bool mu) rfl
  have r24 := hcr 4 (.int .i64 rl) rfl
  have r25 := hcr 5 (.slice qA qn qc) rfl
  have r26 := hcr 6 (.slice gA gn gc) rfl
  clear hcp hcr
  go_wp2
  go_ret
  exact ⟨rfl, (Turn.of_below HB.out).trans HW2.out.turn, HW2.out.ck⟩
 subst hs0
 rw [if_neg (by simp)] at hv
 obtain ⟨i, ty, hi, hty⟩ := wrV_ty h (p := PlW.v ⟨l, pA, pn, pc, ps⟩) (hwb.trans hb0)
 obtain rfl : wa = (i : Int) := hwa.symm.trans hi
 have hk := shErr_zero hsh
 have hgn : gL.length = gn := hx.args.len
 have hgm : gn ≤ maxLen := hx.args.nm
 unfold maxLen at hgm
 have hk5 : k = 0 ∨ k = 1 ∨ k = 2 ∨ k = 3 ∨ k = 4 := by have := hk.1; have e : (RvW.v ⟨k, op, rg, mu, ⟨rl, qA, qn, qc, qs⟩, ⟨gA, gn, gc, gL⟩⟩).kind = k := rfl; rw [e] at this; omega
 rcases hk5 with rfl | rfl | rfl | rfl | rfl
 case inl =>
  have HB := hide (two_below w [.int .i64 l, .slice pA pn pc] 36 [.int .i64 (0), .int .i64 op, .int .i64 rg, .bool mu, .int .i64 rl, .slice qA qn qc, .slice gA gn gc] 44)
  have HK := hide (H0.out.up HB.out)
  have HP := hide (hp.below (HB.out.mono H0.out.bs))
  have HX := hide (hx.below (HB.out.mono H0.out.bs))
  have HC := hide (cwritten_is HK.out HP.out hwv)
  have HSH := hide hsh
  have hl1 : gn = 1 := by have := hk.2.1 (.inl rfl); rw [← hgn]; have e : (RvW.v ⟨0, op, rg, mu, ⟨rl, qA, qn, qc, qs⟩, ⟨gA, gn, gc, gL⟩⟩).args.length = gL.length := List.length_map _; omega
  subst hl1
  obtain ⟨q, hq⟩ : ∃ q, gL = [q] := List.length_eq_one_iff.1 hgn
  subst hq
  have hva : vaV K.E q.v (i : Int) = v := by rw [← hv]; exact (asErr_use (r := RvW.v ⟨0, op, rg, mu, ⟨rl, qA, qn, qc, qs⟩, ⟨gA, 1, gc, [q]⟩⟩) rfl rfl hsh).symm
  have HVA := hide fun (w' : World) (y : Wy K (two w [.int .i64 l, .slice pA pn pc] 36 [.int .i64 (0), .int .i64 op, .int .i64 rg, .bool mu, .int .i64 rl, .slice qA qn qc, .slice gA 1 gc] 44) w') (ho : OneOp w' K.B q) => cval_is y.ck ho hty hva
  have HAX := hide fun (w' : World) (y : Wy K (two w [.int .i64 l, .slice pA pn pc] 36 [.int .i64 (0), .int .i64 op, .int .i64 rg, .bool mu, .int .i64 rl, .slice qA qn qc, .slice gA 1 gc] 44) w') => (Ops.below (y.low HK.out) HX.out.args).at_ (i := 0) (x := q) rfl
  clear h hp hx hwa hwb hwv hsh hb0 hcop hi hty hk hgn hgm hv hva
  go_enter Tryz.func60, Tryz.ntmps60
  go_wp2_with fail
  refine HC.out.mono ?_
  rintro e1 w1 ⟨rfl, hb1⟩
  have HW1 := hide (Wy.new HK.out hb1)
  clear hb1
  obtain ⟨hcp, hcr⟩ := Wy.box2w H0.out HW1.out
  have p10 := hcp 0 (.int .i64 l) rfl
  have p11 := hcp 1 (.slice pA pn pc) rfl
  have r10 := hcr 0 (.int .i64 (0)) rfl
  have r11 := hcr 1 (.int .i64 op) rfl
  have r12 := hcr 2 (.int .i64 rg) rfl
  have r13 := hcr 3 (.bool mu) rfl
  have r14 := hcr 4 (.int .i64 rl) rfl
  have r15 := hcr 5 (.slice qA qn qc) rfl
  have r16 := hcr 6 (.slice gA 1 gc) rfl
  clear hcp hcr
  go_wp2_with fail
  refine (cRv_is (x := ⟨0, op, rg, mu, ⟨rl, qA, qn, qc, qs⟩, ⟨gA, 1, gc, [q]⟩⟩) HSH.out w1 ((HX.out.below (HW1.out.low HK.out)).more HW1.out.ck.bs)).mono ?_
  rintro e2 w2 ⟨rfl, hb2⟩
  have HW2 := hide (HW1.out.up hb2)
  clear hb2
  obtain ⟨hcp, hcr⟩ := Wy.box2w H0.out HW2.out
  have p20 := hcp 0 (.int .i64 l) rfl
  have p21 := hcp 1 (.slice pA pn pc) rfl
  have r20 := hcr 0 (.int .i64 (0)) rfl
  have r21 := hcr 1 (.int .i64 op) rfl
  have r22 := hcr 2 (.int .i64 rg) rfl
  have r23 := hcr 3 (.bool mu) rfl
  have r24 := hcr 4 (.int .i64 rl) rfl
  have r25 := hcr 5 (.slice qA qn qc) rfl
  have r26 := hcr 6 (.slice gA 1 gc) rfl
  clear hcp hcr
  obtain ⟨b, o, hA, _, hone, hc⟩ := HAX.out w2 HW2.out
  have hA : gA = some ⟨b, o, none⟩ := hA
  subst hA
  obtain ⟨kq, ⟨lq, zA, zn, zc, zs⟩, nq⟩ := q
  have c0 : w2.cell? ⟨b, o, none⟩ = some (.int .i64 kq) := hc 0 _ rfl
  have c1 : w2.cell? ⟨b, o + 1, none⟩ = some (.int .i64 lq) := hc 1 _ rfl
  have c2 : w2.cell? ⟨b, o + 2, none⟩ = some (.slice zA zn zc) := hc 2 _ rfl
  have c3 : w2.cell? ⟨b, o + 3, none⟩ = some (.int .i64 nq) := hc 3 _ rfl
  have HO := hide (HVA.out w2 HW2.out hone)
  clear hone hc
  go_wp2_with fail
  refine HO.out.mono ?_
  rintro e3 w3 ⟨rfl, hb3⟩
  have HW3 := hide (HW2.out.trans hb3)
  clear hb3
  go_wp2
  go_ret
  exact ⟨rfl, (Turn.of_below HB.out).trans HW3.out.turn, HW3.out.ck⟩
 case inr.inl =>
  have HB := hide (two_below w [.int .i64 l, .slice pA pn pc] 36 [.int .i64 (1), .int .i64 op, .int .i64 rg, .bool mu, .int .i64 rl, .slice qA qn qc, .slice gA gn gc] 44)
  have HK := hide (H0.out.up HB.out)
  have HP := hide (hp.below (HB.out.mono H0.out.bs))
  have HX := hide (hx.below (HB.out.mono H0.out.bs))
  have HC := hide (cwritten_is HK.out HP.out hwv)
  have HSH := hide hsh
  have hva : boErr K.E (RvW.v ⟨1, op, rg, mu, ⟨rl, qA, qn, qc, qs⟩, ⟨gA, gn, gc, gL⟩⟩) (i : Int) = v := by rw [← hv]; exact (asErr_bor (r := RvW.v ⟨1, op, rg, mu, ⟨rl, qA, qn, qc, qs⟩, ⟨gA, gn, gc, gL⟩⟩) rfl hsh).symm
  have HVA := hide fun (w' : World) (y : Wy K (two w [.int .i64 l, .slice pA pn pc] 36 [.int .i64 (1), .int .i64 op, .int .i64 rg, .bool mu, .int .i64 rl, .slice qA qn qc, .slice gA gn gc] 44) w') => cbor_is y.ck (HX.out.below (y.low HK.out)) hty hva
  clear h hp hx hwa hwb hwv hsh hb0 hcop hi hty hk hgn hgm hv hva
  go_enter Tryz.func60, Tryz.ntmps60
  go_wp2_with fail
  refine HC.out.mono ?_
  rintro e1 w1 ⟨rfl, hb1⟩
  have HW1 := hide (Wy.new HK.out hb1)
  clear hb1
  obtain ⟨hcp, hcr⟩ := Wy.box2w H0.out HW1.out
  have p10 := hcp 0 (.int .i64 l) rfl
  have p11 := hcp 1 (.slice pA pn pc) rfl
  have r10 := hcr 0 (.int .i64 (1)) rfl
  have r11 := hcr 1 (.int .i64 op) rfl
  have r12 := hcr 2 (.int .i64 rg) rfl
  have r13 := hcr 3 (.bool mu) rfl
  have r14 := hcr 4 (.int .i64 rl) rfl
  have r15 := hcr 5 (.slice qA qn qc) rfl
  have r16 := hcr 6 (.slice gA gn gc) rfl
  clear hcp hcr
  go_wp2_with fail
  refine (cRv_is (x := ⟨1, op, rg, mu, ⟨rl, qA, qn, qc, qs⟩, ⟨gA, gn, gc, gL⟩⟩) HSH.out w1 ((HX.out.below (HW1.out.low HK.out)).more HW1.out.ck.bs)).mono ?_
  rintro e2 w2 ⟨rfl, hb2⟩
  have HW2 := hide (HW1.out.up hb2)
  clear hb2
  obtain ⟨hcp, hcr⟩ := Wy.box2w H0.out HW2.out
  have p20 := hcp 0 (.int .i64 l) rfl
  have p21 := hcp 1 (.slice pA pn pc) rfl
  have r20 := hcr 0 (.int .i64 (1)) rfl
  have r21 := hcr 1 (.int .i64 op) rfl
  have r22 := hcr 2 (.int .i64 rg) rfl
  have r23 := hcr 3 (.bool mu) rfl
  have r24 := hcr 4 (.int .i64 rl) rfl
  have r25 := hcr 5 (.slice qA qn qc) rfl
  have r26 := hcr 6 (.slice gA gn gc) rfl
  clear hcp hcr
  go_wp2_with fail
  refine (HVA.out w2 HW2.out).mono ?_
  rintro e3 w3 ⟨rfl, hb3⟩
  have HW3 := hide (HW2.out.trans hb3)
  clear hb3
  go_wp2
  go_ret
  exact ⟨rfl, (Turn.of_below HB.out).trans HW3.out.turn, HW3.out.ck⟩
 case inr.inr.inl =>
  have HB := hide (two_below w [.int .i64 l, .slice pA pn pc] 36 [.int .i64 (2), .int .i64 op, .int .i64 rg, .bool mu, .int .i64 rl, .slice qA qn qc, .slice gA gn gc] 44)
  have HK := hide (H0.out.up HB.out)
  have HP := hide (hp.below (HB.out.mono H0.out.bs))
  have HX := hide (hx.below (HB.out.mono H0.out.bs))
  have HC := hide (cwritten_is HK.out HP.out hwv)
  have HSH := hide hsh
  obtain ⟨⟨kx, tmu, trg, tel, fs⟩, fA, fn, fc⟩ := ty
  have htt : (tys K.x.types.L)[i]? = some ⟨kx, tmu, trg, tel, fs⟩ := by
   show (K.x.types.L.map TyW.t)[i]? = _
   rw [List.getElem?_map, hty]
   rfl
  have hva : opeV K.E (RvW.v ⟨2, op, rg, mu, ⟨rl, qA, qn, qc, qs⟩, ⟨gA, gn, gc, gL⟩⟩) kx = v := by
   rw [← hv, asErr_op (r := RvW.v ⟨2, op, rg, mu, ⟨rl, qA, qn, qc, qs⟩, ⟨gA, gn, gc, gL⟩⟩) (.inl rfl) hsh]
   show _ = opeV K.E _ (tyGet (tys K.x.types.L) (i : Int)).kind
   rw [tyGet_at htt]
  have hfd := fieldKind kx trg tel tmu fA fn fc
  have HTA := hide fun (w' : World) (q : Ck K w') => ctypeAt_is q hty
  have HVA := hide fun (w' : World) (y : Wy K (two w [.int .i64 l, .slice pA pn pc] 36 [.int .i64 (2), .int .i64 op, .int .i64 rg, .bool mu, .int .i64 rl, .slice qA qn qc, .slice gA gn gc] 44) w') => cope_is y.ck (HX.out.below (y.low HK.out)) hva
  have hcs := hide fun (w' : World) (y : Wy K (two w [.int .i64 l, .slice pA pn pc] 36 [.int .i64 (2), .int .i64 op, .int .i64 rg, .bool mu, .int .i64 rl, .slice qA qn qc, .slice gA gn gc] 44) w') => (show w'.cell? ⟨w.heap.size + 1, 0, none⟩ = some (.int .i64 (2)) ∧ w'.cell? ⟨w.heap.size + 1, 1, none⟩ = some (.int .i64 op) ∧ w'.cell? ⟨w.heap.size + 1, 2, none⟩ = some (.int .i64 rg) ∧ w'.cell? ⟨w.heap.size + 1, 3, none⟩ = some (.bool mu) ∧ w'.cell? ⟨w.heap.size + 1, 4, none⟩ = some (.int .i64 rl) ∧ w'.cell? ⟨w.heap.size + 1, 5, none⟩ = some (.slice qA qn qc) ∧ w'.cell? ⟨w.heap.size + 1, 6, none⟩ = some (.slice gA gn gc) from by
   obtain ⟨_, hcr⟩ := Wy.box2w H0.out y
   exact ⟨hcr 0 _ rfl, hcr 1 _ rfl, hcr 2 _ rfl, hcr 3 _ rfl, hcr 4 _ rfl, hcr 5 _ rfl, hcr 6 _ rfl⟩)
  clear h hp hx hwa hwb hwv hsh hb0 hcop hi hty hk hgn hgm hv hva htt
  go_enter Tryz.func60, Tryz.ntmps60
  go_wp2_with fail
  refine HC.out.mono ?_
  rintro e1 w1 ⟨rfl, hb1⟩
  have HW1 := hide (Wy.new HK.out hb1)
  clear hb1
  obtain ⟨hcp, hcr⟩ := Wy.box2w H0.out HW1.out
  have p10 := hcp 0 (.int .i64 l) rfl
  have p11 := hcp 1 (.slice pA pn pc) rfl
  have r10 := hcr 0 (.int .i64 (2)) rfl
  have r11 := hcr 1 (.int .i64 op) rfl
  have r12 := hcr 2 (.int .i64 rg) rfl
  have r13 := hcr 3 (.bool mu) rfl
  have r14 := hcr 4 (.int .i64 rl) rfl
  have r15 := hcr 5 (.slice qA qn qc) rfl
  have r16 := hcr 6 (.slice gA gn gc) rfl
  clear hcp hcr
  go_wp2_with fail
  refine (cRv_is (x := ⟨2, op, rg, mu, ⟨rl, qA, qn, qc, qs⟩, ⟨gA, gn, gc, gL⟩⟩) HSH.out w1 ((HX.out.below (HW1.out.low HK.out)).more HW1.out.ck.bs)).mono ?_
  rintro e2 w2 ⟨rfl, hb2⟩
  have HW2 := hide (HW1.out.up hb2)
  clear hb2
  obtain ⟨hcp, hcr⟩ := Wy.box2w H0.out HW2.out
  have p20 := hcp 0 (.int .i64 l) rfl
  have p21 := hcp 1 (.slice pA pn pc) rfl
  have r20 := hcr 0 (.int .i64 (2)) rfl
  have r21 := hcr 1 (.int .i64 op) rfl
  have r22 := hcr 2 (.int .i64 rg) rfl
  have r23 := hcr 3 (.bool mu) rfl
  have r24 := hcr 4 (.int .i64 rl) rfl
  have r25 := hcr 5 (.slice qA qn qc) rfl
  have r26 := hcr 6 (.slice gA gn gc) rfl
  clear hcp hcr
  go_wp2
  have HX2 := hide (HW2.out.drew)
  refine wp_region_held_drew (S := (fun w' => w'.cell? ⟨w.heap.size + 1, 0, none⟩ = some (.int .i64 (2)) ∧ w'.cell? ⟨w.heap.size + 1, 1, none⟩ = some (.int .i64 op) ∧ w'.cell? ⟨w.heap.size + 1, 2, none⟩ = some (.int .i64 rg) ∧ w'.cell? ⟨w.heap.size + 1, 3, none⟩ = some (.bool mu) ∧ w'.cell? ⟨w.heap.size + 1, 4, none⟩ = some (.int .i64 rl) ∧ w'.cell? ⟨w.heap.size + 1, 5, none⟩ = some (.slice qA qn qc) ∧ w'.cell? ⟨w.heap.size + 1, 6, none⟩ = some (.slice gA gn gc))) (by kernel_rfl) (hcs.out _ HX2.out) (fun hHeld => ?_)
  refine plan [(0, some 47, true), (1, some 48, true), (2, some 49, true), (3, some 50, true)] ?_
  repeat' (first | (refine planN hHeld rfl rfl (by kernel_rfl) (by kernel_rfl) (by kernel_rfl) (fun _ _ _ h => h) (by rfl) ?_; try simp only [Act.put, List.setIfInBounds_toArray, List.set_cons_zero, List.set_cons_succ]) | (refine planY (v := ?_) hHeld rfl rfl (by kernel_rfl) (by kernel_rfl) (by kernel_rfl) (fun _ _ _ h => h) (by rfl) ?_ ?_; rotate_left; (· (intro w9 hS9; obtain ⟨s0, s1, s2, s3, s4, s5, s6⟩ := hS9; first | (go_simp; done) | (go_simp; with_reducible rfl))); try simp only [Act.put, List.setIfInBounds_toArray, List.set_cons_zero, List.set_cons_succ]))
  refine plan0 ?_
  refine wpAnyH_ready (rs := [4]) (by kernel_rfl) (by simp) ?_
  refine AllReadyH.cons rfl (fun KZ hK => ?_) AllReadyH.nil
  go_simp
  refine (HTA.out _ HX2.out.ck).mono ?_
  rintro e3 w3 ⟨he3, hb3⟩
  obtain rfl : e3 = .returned (.agg #[.int .i64 kx, .bool tmu, .int .i64 trg, .int .i64 tel, .slice fA fn fc]) := he3
  have HW3 := hide (HX2.out.up hb3)
  clear hb3
  refine hK.out _ _ (hcs.out _ HW3.out) (fun hHeld => ?_)
  clear hK KZ
  try simp only [Act.put, List.setIfInBounds_toArray, List.set_cons_zero, List.set_cons_succ]
  refine plan [(5, some 52, true)] ?_
  repeat' (first | (refine planN hHeld rfl rfl (by kernel_rfl) (by kernel_rfl) (by kernel_rfl) (fun _ _ _ h => h) (by rfl) ?_; try simp only [Act.put, List.setIfInBounds_toArray, List.set_cons_zero, List.set_cons_succ]) | (refine planY (v := ?_) hHeld rfl rfl (by kernel_rfl) (by kernel_rfl) (by kernel_rfl) (fun _ _ _ h => h) (by rfl) ?_ ?_; rotate_left; (· (intro w9 hS9; obtain ⟨s0, s1, s2, s3, s4, s5, s6⟩ := hS9; first | (go_simp; done) | (go_simp; with_reducible rfl))); try simp only [Act.put, List.setIfInBounds_toArray, List.set_cons_zero, List.set_cons_succ]))
  refine plan0 ?_
  refine wpAnyH_ready (rs := [6]) (by kernel_rfl) (by simp) ?_
  refine AllReadyH.cons rfl (fun KZ hK => ?_) AllReadyH.nil
  go_simp
  refine (HVA.out _ HW3.out).mono ?_
  rintro e4 w4 ⟨rfl, hb4⟩
  have HW4 := hide (HW3.out.trans hb4)
  clear hb4
  refine hK.out _ _ (hcs.out _ HW4.out) (fun hHeld => ?_)
  clear hK KZ
  try simp only [Act.put, List.setIfInBounds_toArray, List.set_cons_zero, List.set_cons_succ]
  refine plan [(7, some 6, true)] ?_
  repeat' (first | (refine planN hHeld rfl rfl (by kernel_rfl) (by kernel_rfl) (by kernel_rfl) (fun _ _ _ h => h) (by rfl) ?_; try simp only [Act.put, List.setIfInBounds_toArray, List.set_cons_zero, List.set_cons_succ]) | (refine planY (v := ?_) hHeld rfl rfl (by kernel_rfl) (by kernel_rfl) (by kernel_rfl) (fun _ _ _ h => h) (by rfl) ?_ ?_; rotate_left; (· (intro w9 hS9; obtain ⟨s0, s1, s2, s3, s4, s5, s6⟩ := hS9; first | (go_simp; done) | (go_simp; with_reducible rfl))); try simp only [Act.put, List.setIfInBounds_toArray, List.set_cons_zero, List.set_cons_succ]))
  refine plan0 ?_
  refine wpAnyH_done (by kernel_rfl) ?_ _
  go_wp2
  go_ret
  exact ⟨rfl, (Turn.of_below HB.out).trans HW4.out.turn, HW4.out.ck⟩
 case inr.inr.inr.inl =>
  have HB := hide (two_below w [.int .i64 l, .slice pA pn pc] 36 [.int .i64 (3), .int .i64 op, .int .i64 rg, .bool mu, .int .i64 rl, .slice qA qn qc, .slice gA gn gc] 44)
  have HK := hide (H0.out.up HB.out)
  have HP := hide (hp.below (HB.out.mono H0.out.bs))
  have HX := hide (hx.below (HB.out.mono H0.out.bs))
  have HC := hide (cwritten_is HK.out HP.out hwv)
  have HSH := hide hsh
  obtain ⟨⟨kx, tmu, trg, tel, fs⟩, fA, fn, fc⟩ := ty
  have htt : (tys K.x.types.L)[i]? = some ⟨kx, tmu, trg, tel, fs⟩ := by
   show (K.x.types.L.map TyW.t)[i]? = _
   rw [List.getElem?_map, hty]
   rfl
  have hva : opeV K.E (RvW.v ⟨3, op, rg, mu, ⟨rl, qA, qn, qc, qs⟩, ⟨gA, gn, gc, gL⟩⟩) kx = v := by
   rw [← hv, asErr_op (r := RvW.v ⟨3, op, rg, mu, ⟨rl, qA, qn, qc, qs⟩, ⟨gA, gn, gc, gL⟩⟩) (.inr rfl) hsh]
   show _ = opeV K.E _ (tyGet (tys K.x.types.L) (i : Int)).kind
   rw [tyGet_at htt]
  have hfd := fieldKind kx trg tel tmu fA fn fc
  have HTA := hide fun (w' : World) (q : Ck K w') => ctypeAt_is q hty
  have HVA := hide fun (w' : World) (y : Wy K (two w [.int .i64 l, .slice pA pn pc] 36 [.int .i64 (3), .int .i64 op, .int .i64 rg, .bool mu, .int .i64 rl, .slice qA qn qc, .slice gA gn gc] 44) w') => cope_is y.ck (HX.out.below (y.low HK.out)) hva
  have hcs := hide fun (w' : World) (y : Wy K (two w [.int .i64 l, .slice pA pn pc] 36 [.int .i64 (3), .int .i64 op, .int .i64 rg, .bool mu, .int .i64 rl, .slice qA qn qc, .slice gA gn gc] 44) w') => (show w'.cell? ⟨w.heap.size + 1, 0, none⟩ = some (.int .i64 (3)) ∧ w'.cell? ⟨w.heap.size + 1, 1, none⟩ = some (.int .i64 op) ∧ w'.cell? ⟨w.heap.size + 1, 2, none⟩ = some (.int .i64 rg) ∧ w'.cell? ⟨w.heap.size + 1, 3, none⟩ = some (.bool mu) ∧ w'.cell? ⟨w.heap.size + 1, 4, none⟩ = some (.int .i64 rl) ∧ w'.cell? ⟨w.heap.size + 1, 5, none⟩ = some (.slice qA qn qc) ∧ w'.cell? ⟨w.heap.size + 1, 6, none⟩ = some (.slice gA gn gc) from by
   obtain ⟨_, hcr⟩ := Wy.box2w H0.out y
   exact ⟨hcr 0 _ rfl, hcr 1 _ rfl, hcr 2 _ rfl, hcr 3 _ rfl, hcr 4 _ rfl, hcr 5 _ rfl, hcr 6 _ rfl⟩)
  clear h hp hx hwa hwb hwv hsh hb0 hcop hi hty hk hgn hgm hv hva htt
  go_enter Tryz.func60, Tryz.ntmps60
  go_wp2_with fail
  refine HC.out.mono ?_
  rintro e1 w1 ⟨rfl, hb1⟩
  have HW1 := hide (Wy.new HK.out hb1)
  clear hb1
  obtain ⟨hcp, hcr⟩ := Wy.box2w H0.out HW1.out
  have p10 := hcp 0 (.int .i64 l) rfl
  have p11 := hcp 1 (.slice pA pn pc) rfl
  have r10 := hcr 0 (.int .i64 (3)) rfl
  have r11 := hcr 1 (.int .i64 op) rfl
  have r12 := hcr 2 (.int .i64 rg) rfl
  have r13 := hcr 3 (.bool mu) rfl
  have r14 := hcr 4 (.int .i64 rl) rfl
  have r15 := hcr 5 (.slice qA qn qc) rfl
  have r16 := hcr 6 (.slice gA gn gc) rfl
  clear hcp hcr
  go_wp2_with fail
  refine (cRv_is (x := ⟨3, op, rg, mu, ⟨rl, qA, qn, qc, qs⟩, ⟨gA, gn, gc, gL⟩⟩) HSH.out w1 ((HX.out.below (HW1.out.low HK.out)).more HW1.out.ck.bs)).mono ?_
  rintro e2 w2 ⟨rfl, hb2⟩
  have HW2 := hide (HW1.out.up hb2)
  clear hb2
  obtain ⟨hcp, hcr⟩ := Wy.box2w H0.out HW2.out
  have p20 := hcp 0 (.int .i64 l) rfl
  have p21 := hcp 1 (.slice pA pn pc) rfl
  have r20 := hcr 0 (.int .i64 (3)) rfl
  have r21 := hcr 1 (.int .i64 op) rfl
  have r22 := hcr 2 (.int .i64 rg) rfl
  have r23 := hcr 3 (.bool mu) rfl
  have r24 := hcr 4 (.int .i64 rl) rfl
  have r25 := hcr 5 (.slice qA qn qc) rfl
  have r26 := hcr 6 (.slice gA gn gc) rfl
  clear hcp hcr
  go_wp2
  have HX2 := hide (HW2.out.drew)
  refine wp_region_held_drew (S := (fun w' => w'.cell? ⟨w.heap.size + 1, 0, none⟩ = some (.int .i64 (3)) ∧ w'.cell? ⟨w.heap.size + 1, 1, none⟩ = some (.int .i64 op) ∧ w'.cell? ⟨w.heap.size + 1, 2, none⟩ = some (.int .i64 rg) ∧ w'.cell? ⟨w.heap.size + 1, 3, none⟩ = some (.bool mu) ∧ w'.cell? ⟨w.heap.size + 1, 4, none⟩ = some (.int .i64 rl) ∧ w'.cell? ⟨w.heap.size + 1, 5, none⟩ = some (.slice qA qn qc) ∧ w'.cell? ⟨w.heap.size + 1, 6, none⟩ = some (.slice gA gn gc))) (by kernel_rfl) (hcs.out _ HX2.out) (fun hHeld => ?_)
  refine plan [(0, some 47, true), (1, some 48, true), (2, some 49, true), (3, some 50, true)] ?_
  repeat' (first | (refine planN hHeld rfl rfl (by kernel_rfl) (by kernel_rfl) (by kernel_rfl) (fun _ _ _ h => h) (by rfl) ?_; try simp only [Act.put, List.setIfInBounds_toArray, List.set_cons_zero, List.set_cons_succ]) | (refine planY (v := ?_) hHeld rfl rfl (by kernel_rfl) (by kernel_rfl) (by kernel_rfl) (fun _ _ _ h => h) (by rfl) ?_ ?_; rotate_left; (· (intro w9 hS9; obtain ⟨s0, s1, s2, s3, s4, s5, s6⟩ := hS9; first | (go_simp; done) | (go_simp; with_reducible rfl))); try simp only [Act.put, List.setIfInBounds_toArray, List.set_cons_zero, List.set_cons_succ]))
  refine plan0 ?_
  refine wpAnyH_ready (rs := [4]) (by kernel_rfl) (by simp) ?_
  refine AllReadyH.cons rfl (fun KZ hK => ?_) AllReadyH.nil
  go_simp
  refine (HTA.out _ HX2.out.ck).mono ?_
  rintro e3 w3 ⟨he3, hb3⟩
  obtain rfl : e3 = .returned (.agg #[.int .i64 kx, .bool tmu, .int .i64 trg, .int .i64 tel, .slice fA fn fc]) := he3
  have HW3 := hide (HX2.out.up hb3)
  clear hb3
  refine hK.out _ _ (hcs.out _ HW3.out) (fun hHeld => ?_)
  clear hK KZ
  try simp only [Act.put, List.setIfInBounds_toArray, List.set_cons_zero, List.set_cons_succ]
  refine plan [(5, some 52, true)] ?_
  repeat' (first | (refine planN hHeld rfl rfl (by kernel_rfl) (by kernel_rfl) (by kernel_rfl) (fun _ _ _ h => h) (by rfl) ?_; try simp only [Act.put, List.setIfInBounds_toArray, List.set_cons_zero, List.set_cons_succ]) | (refine planY (v := ?_) hHeld rfl rfl (by kernel_rfl) (by kernel_rfl) (by kernel_rfl) (fun _ _ _ h => h) (by rfl) ?_ ?_; rotate_left; (· (intro w9 hS9; obtain ⟨s0, s1, s2, s3, s4, s5, s6⟩ := hS9; first | (go_simp; done) | (go_simp; with_reducible rfl))); try simp only [Act.put, List.setIfInBounds_toArray, List.set_cons_zero, List.set_cons_succ]))
  refine plan0 ?_
  refine wpAnyH_ready (rs := [6]) (by kernel_rfl) (by simp) ?_
  refine AllReadyH.cons rfl (fun KZ hK => ?_) AllReadyH.nil
  go_simp
  refine (HVA.out _ HW3.out).mono ?_
  rintro e4 w4 ⟨rfl, hb4⟩
  have HW4 := hide (HW3.out.trans hb4)
  clear hb4
  refine hK.out _ _ (hcs.out _ HW4.out) (fun hHeld => ?_)
  clear hK KZ
  try simp only [Act.put, List.setIfInBounds_toArray, List.set_cons_zero, List.set_cons_succ]
  refine plan [(7, some 6, true)] ?_
  repeat' (first | (refine planN hHeld rfl rfl (by kernel_rfl) (by kernel_rfl) (by kernel_rfl) (fun _ _ _ h => h) (by rfl) ?_; try simp only [Act.put, List.setIfInBounds_toArray, List.set_cons_zero, List.set_cons_succ]) | (refine planY (v := ?_) hHeld rfl rfl (by kernel_rfl) (by kernel_rfl) (by kernel_rfl) (fun _ _ _ h => h) (by rfl) ?_ ?_; rotate_left; (· (intro w9 hS9; obtain ⟨s0, s1, s2, s3, s4, s5, s6⟩ := hS9; first | (go_simp; done) | (go_simp; with_reducible rfl))); try simp only [Act.put, List.setIfInBounds_toArray, List.set_cons_zero, List.set_cons_succ]))
  refine plan0 ?_
  refine wpAnyH_done (by kernel_rfl) ?_ _
  go_wp2
  go_ret
  exact ⟨rfl, (Turn.of_below HB.out).trans HW4.out.turn, HW4.out.ck⟩
 case inr.inr.inr.inr =>
  have HB := hide (two_below w [.int .i64 l, .slice pA pn pc] 36 [.int .i64 (4), .int .i64 op, .int .i64 rg, .bool mu, .int .i64 rl, .slice qA qn qc, .slice gA gn gc] 44)
  have HK := hide (H0.out.up HB.out)
  have HP := hide (hp.below (HB.out.mono H0.out.bs))
  have HX := hide (hx.below (HB.out.mono H0.out.bs))
  have HC := hide (cwritten_is HK.out HP.out hwv)
  have HSH := hide hsh
  have hva : tuV K.E (RvW.v ⟨4, op, rg, mu, ⟨rl, qA, qn, qc, qs⟩, ⟨gA, gn, gc, gL⟩⟩) (i : Int) = v := by rw [← hv]; exact (asErr_tup (r := RvW.v ⟨4, op, rg, mu, ⟨rl, qA, qn, qc, qs⟩, ⟨gA, gn, gc, gL⟩⟩) rfl hsh).symm
  have HVA := hide fun (w' : World) (y : Wy K (two w [.int .i64 l, .slice pA pn pc] 36 [.int .i64 (4), .int .i64 op, .int .i64 rg, .bool mu, .int .i64 rl, .slice qA qn qc, .slice gA gn gc] 44) w') => ctup_is y.ck (HX.out.below (y.low HK.out)) hty hva
  clear h hp hx hwa hwb hwv hsh hb0 hcop hi hty hk hgn hgm hv hva
  go_enter Tryz.func60, Tryz.ntmps60
  go_wp2_with fail
  refine HC.out.mono ?_
  rintro e1 w1 ⟨rfl, hb1⟩
  have HW1 := hide (Wy.new HK.out hb1)
  clear hb1
  obtain ⟨hcp, hcr⟩ := Wy.box2w H0.out HW1.out
  have p10 := hcp 0 (.int .i64 l) rfl
  have p11 := hcp 1 (.slice pA pn pc) rfl
  have r10 := hcr 0 (.int .i64 (4)) rfl
  have r11 := hcr 1 (.int .i64 op) rfl
  have r12 := hcr 2 (.int .i64 rg) rfl
  have r13 := hcr 3 (.bool mu) rfl
  have r14 := hcr 4 (.int .i64 rl) rfl
  have r15 := hcr 5 (.slice qA qn qc) rfl
  have r16 := hcr 6 (.slice gA gn gc) rfl
  clear hcp hcr
  go_wp2_with fail
  refine (cRv_is (x := ⟨4, op, rg, mu, ⟨rl, qA, qn, qc, qs⟩, ⟨gA, gn, gc, gL⟩⟩) HSH.out w1 ((HX.out.below (HW1.out.low HK.out)).more HW1.out.ck.bs)).mono ?_
  rintro e2 w2 ⟨rfl, hb2⟩
  have HW2 := hide (HW1.out.up hb2)
  clear hb2
  obtain ⟨hcp, hcr⟩ := Wy.box2w H0.out HW2.out
  have p20 := hcp 0 (.int .i64 l) rfl
  have p21 := hcp 1 (.slice pA pn pc) rfl
  have r20 := hcr 0 (.int .i64 (4)) rfl
  have r21 := hcr 1 (.int .i64 op) rfl
  have r22 := hcr 2 (.int .i64 rg) rfl
  have r23 := hcr 3 (.bool mu) rfl
  have r24 := hcr 4 (.int .i64 rl) rfl
  have r25 := hcr 5 (.slice qA qn qc) rfl
  have r26 := hcr 6 (.slice gA gn gc) rfl
  clear hcp hcr
  go_wp2_with fail
  refine (HVA.out w2 HW2.out).mono ?_
  rintro e3 w3 ⟨rfl, hb3⟩
  have HW3 := hide (HW2.out.trans hb3)
  clear hb3
  go_wp2
  go_ret
  exact ⟨rfl, (Turn.of_below HB.out).trans HW3.out.turn, HW3.out.ck⟩
end Go.Proofs.YtfgacmgjpikgaaaGreatDoor
