/- RegionsSubtypeIsPreorder: for every input the law returns true, and turns nothing that lay. No condition. -/
import Derived.Test.YtagnikaghhobjaaRows
import Derived.Test.YtagnikaghhobjaaOpenY
import Derived.Test.YtagnikaghhobjaaRegR
namespace Go.Proofs.Ytagnikaghhobjaa.regionsSubtypeIsPreorder
open Go.ChangeShapes Go.WideShapes Go.ChangeAt Go.ChangeMaps Go.RowKit
set_option linter.unusedVariables false

theorem RDepth_eq {A : Option Addr} {n c : Nat} {L : List TyW} {w : World} {d r : Int} {i : Nat} (h : tyDep (tys L) (i : Int) = d) (hA : Typs w w.heap.size A n L) (hn : n ≤ 65535) (hok : TyOk (tys L) r) (hi : i < n) :
    Calls Try.prog 26 #[.slice A n c, .int .i64 (i : Int)] w fun e w' => e = .returned (.int .i64 d) ∧ Below w.heap.size w w' := h ▸ RDepth_in hA hn hok i hi

set_option maxHeartbeats 16000000 in
set_option maxRecDepth 100000 in
theorem walk (A : Option Addr) (n c : Nat) (P : List Pr) (A2 : Option Addr) (n2 c2 : Nat) (L : List TyW) (a b d : Int) (w : World) (hA : ArgP w A n c P) (hT : ArgY w A2 n2 c2 L) (hst : (0 ≤ a ∧ a ≤ 255) ∧ (0 ≤ b ∧ b ≤ 255) ∧ 0 ≤ d ∧ d ≤ 255) :
    Calls Try.prog 8 #[.slice A n c, .slice A2 n2 c2, .agg #[.int .u8 a, .int .u8 b, .int .u8 d]] w fun e w' => e = .returned (.bool true) ∧ Below w.heap.size w w' := by
  have hB0 := (Below.refl w.heap.size w).alloc (Nat.le_refl _) (.cells #[.int .u8 a, .int .u8 b, .int .u8 d] 40)
  have HB0 := hide hB0
  have HA := hide ((hA.prs.below hB0).more hB0.size)
  have HT := hide ((hT.typs.below hB0).more hB0.size)
  have HL := hide hT.typs.len
  have hnm : n ≤ maxLen := Nat.le_trans hA.nc hA.cm
  have hnm2 : n2 ≤ maxLen := Nat.le_trans hT.nc hT.cm
  have hnc2 := hT.nc
  have HST := hide hst
  clear hA hT hst hB0
  by_cases hn0 : n2 = 0
  · subst hn0
    go_enter Try.func8, Try.ntmps8
    go_wp2_with fail
    refine (alive07_any _).mono ?_
    rintro e w2 ⟨rfl, hb⟩
    have HB := hide (HB0.out.trans (hb.mono HB0.out.size))
    clear hb
    go_wp2_with fail
    go_ret
    exact ⟨rfl, HB.out⟩
  have tn0 : ((n2 : Int) == 0) = false := beq_eq_false_iff_ne.2 (by omega)
  have tn1 : ¬ (n2 : Int) = 0 := by omega
  cases hlg : lrg n 5
  case true =>
    have HG := hide hlg
    clear hlg
    go_enter Try.func8, Try.ntmps8
    go_wp2_with fail
    refine (Lrg_is HG.out _ hnm).mono ?_
    rintro e w1 ⟨rfl, rfl⟩
    go_wp2_with fail
    refine (alive07_any _).mono ?_
    rintro e w2 ⟨rfl, hb⟩
    have HB := hide (HB0.out.trans (hb.mono HB0.out.size))
    clear hb
    go_wp2_with fail
    go_ret
    exact ⟨rfl, HB.out⟩
  have HG := hide hlg
  clear hlg
  have hn40 := (lrg_no HG.out).1
  obtain ⟨v, hv⟩ : ∃ v, prChk P 5 = v := ⟨_, rfl⟩
  have HV := hide hv
  clear hv
  by_cases hv0 : v = 0
  rotate_left
  · have vn : (v != 0) = true := by rw [bne_iff_ne]; exact hv0
    clear hv0
    go_enter Try.func8, Try.ntmps8
    go_wp2_with fail
    refine (Lrg_is HG.out _ hnm).mono ?_
    rintro e w1 ⟨rfl, rfl⟩
    go_wp2_with fail
    refine (RRegCheck_is HV.out _ HA.out hnm).mono ?_
    rintro e w1 ⟨rfl, rfl⟩
    go_wp2_with fail
    refine (alive07_any _).mono ?_
    rintro e w2 ⟨rfl, hb⟩
    have HB := hide (HB0.out.trans (hb.mono HB0.out.size))
    clear hb
    go_wp2_with fail
    go_ret
    exact ⟨rfl, HB.out⟩
  subst hv0
  obtain ⟨⟨a0, a1⟩, ⟨b0, b1⟩, d0, d1⟩ := HST.out
  have qs : ∀ x : Int, 0 ≤ x → ∃ q : Nat, x.tmod (n2 : Int) = (q : Int) ∧ q < n2 := fun x hx => by
    have h1 := Int.tmod_nonneg (n2 : Int) hx
    have h2 := Int.tmod_lt_of_pos x (show (0 : Int) < (n2 : Int) by omega)
    exact ⟨(x.tmod (n2 : Int)).toNat, by omega, by omega⟩
  obtain ⟨qa, ea, qa1⟩ := qs a a0
  obtain ⟨qb, eb, qb1⟩ := qs b b0
  obtain ⟨qd, ed, qd1⟩ := qs d d0
  have wa : IntKind.i64.wrap a = a := by rw [IntKind.wrap_i64]; omega
  have wb : IntKind.i64.wrap b = b := by rw [IntKind.wrap_i64]; omega
  have wd : IntKind.i64.wrap d = d := by rw [IntKind.wrap_i64]; omega
  have hcell : ∀ w' : World, Below (w.alloc (.cells #[.int .u8 a, .int .u8 b, .int .u8 d] 40)).heap.size (w.alloc (.cells #[.int .u8 a, .int .u8 b, .int .u8 d] 40)) w' → w'.cell? ⟨w.heap.size, 0, none⟩ = some (.int .u8 a) ∧ w'.cell? ⟨w.heap.size, 1, none⟩ = some (.int .u8 b) ∧ w'.cell? ⟨w.heap.size, 2, none⟩ = some (.int .u8 d) := fun w' h =>
    ⟨(h.cell (p := ⟨w.heap.size, 0, none⟩) (by simp)).trans (by simp [go_sem]), (h.cell (p := ⟨w.heap.size, 1, none⟩) (by simp)).trans (by simp [go_sem]), (h.cell (p := ⟨w.heap.size, 2, none⟩) (by simp)).trans (by simp [go_sem])⟩
  have HCell := hide hcell
  clear hcell qs a0 a1 b0 b1 d0 d1
  go_enter Try.func8, Try.ntmps8
  go_wp2_with fail
  refine (Lrg_is HG.out _ hnm).mono ?_
  rintro e w1 ⟨rfl, rfl⟩
  go_wp2_with fail
  refine (RRegCheck_is HV.out _ HA.out hnm).mono ?_
  rintro e w1 ⟨rfl, rfl⟩
  go_wp2_with fail
  refine (Skip_any A2 n2 c2 L _ HT.out hnm2).mono ?_
  rintro e w1 ⟨⟨v1, rfl, hv1, hv2⟩, hb⟩
  have HV1 := hide hv1
  have HBx := hide hb
  have HB1 := hide (HB0.out.trans (hb.mono HB0.out.size))
  clear hb hv1
  rcases hv2 with rfl | rfl
  rotate_left
  · go_wp2_with fail
    refine (alive07_any _).mono ?_
    rintro e w2 ⟨rfl, hb⟩
    have HB2 := hide (HB1.out.trans (hb.mono HB1.out.size))
    clear hb
    go_wp2_with fail
    go_ret
    exact ⟨rfl, HB2.out⟩
  have hsm : tyLarge (tys L) = false := by
    cases h : tyLarge (tys L) with
    | false => rfl
    | true => exact absurd (HV1.out h) (by decide)
  have hn2 : n2 ≤ 200 := by
    have := (tyLarge_small hsm).1
    rw [tys_len, HL.out] at this
    omega
  clear hsm
  obtain ⟨u, hu⟩ : ∃ u, tyChk (tys L) 5 = u := ⟨_, rfl⟩
  have HU := hide hu
  clear hu
  go_wp2_with fail
  refine (RCheckT_is HU.out w1 ((HT.out.below HBx.out).more HBx.out.size) hnm2 hnc2).mono ?_
  rintro e w2 ⟨rfl, hb⟩
  have HBy := hide (HBx.out.trans (hb.mono HBx.out.size))
  have HB2 := hide (HB1.out.trans (hb.mono HB1.out.size))
  clear hb
  by_cases hu0 : u = 0
  rotate_left
  · have un : (u != 0) = true := by rw [bne_iff_ne]; exact hu0
    clear hu0
    go_wp2_with fail
    refine (alive07_any _).mono ?_
    rintro e w3 ⟨rfl, hb⟩
    have HB3 := hide (HB2.out.trans (hb.mono HB2.out.size))
    clear hb
    go_wp2_with fail
    go_ret
    exact ⟨rfl, HB3.out⟩
  subst hu0
  have HOK := hide (tyChk_iff.1 HU.out)
  have hn65 : n2 ≤ 65535 := by omega
  have wqa : IntKind.i64.wrap (qa : Int) = (qa : Int) := by rw [IntKind.wrap_i64]; omega
  have wqb : IntKind.i64.wrap (qb : Int) = (qb : Int) := by rw [IntKind.wrap_i64]; omega
  have wqd : IntKind.i64.wrap (qd : Int) = (qd : Int) := by rw [IntKind.wrap_i64]; omega
  have IA : IntR (qa : Int) := by unfold IntR; omega
  have IB : IntR (qb : Int) := by unfold IntR; omega
  have ID : IntR (qd : Int) := by unfold IntR; omega
  go_wp2_with fail
  refine (New_good A n c P 5 _ ((HA.out.below HBy.out).more HBy.out.size) HV.out).mono ?_
  rintro e w4 ⟨r, rfl, hR, hb⟩
  have HRel := hide fun (w' : World) (h : Below w4.heap.size w4 w') => (hR.below h).more h.size
  have HBv := hide (HBy.out.trans (hb.mono HBy.out.size))
  have HB4 := hide (HB2.out.trans (hb.mono HB2.out.size))
  have HTs := hide fun (w' : World) (h : Below w4.heap.size w4 w') => ((HT.out.below (HBv.out.trans (h.mono HBv.out.size))).more (HBv.out.trans (h.mono HBv.out.size)).size : Typs w' w'.heap.size A2 n2 L)
  obtain ⟨e0, e1, e2⟩ := HCell.out w4 HBv.out
  have hs4 : w.heap.size < w4.heap.size := Nat.lt_of_lt_of_le (by simp) HBv.out.size
  clear hb hR
  have hex : ∃ x, L[qa]? = some x := ⟨_, List.getElem?_eq_getElem (by have := HL.out; omega)⟩
  obtain ⟨xa, hxa⟩ := hex
  have hex : ∃ x, L[qb]? = some x := ⟨_, List.getElem?_eq_getElem (by have := HL.out; omega)⟩
  obtain ⟨xb, hxb⟩ := hex
  have HXA := hide hxa
  have HXB := hide hxb
  have hta : tyAt (tys L) (qa : Int) = some xa.t := by rw [tyAt_nat]; exact tys_at hxa
  have htb : tyAt (tys L) (qb : Int) = some xb.t := by rw [tyAt_nat]; exact tys_at hxb
  obtain ⟨o1, h1⟩ : ∃ o, sub (out P 5) (tys L) (qa : Int) (qb : Int) = o := ⟨_, rfl⟩
  obtain ⟨o2, h2⟩ : ∃ o, sub (out P 5) (tys L) (qb : Int) (qd : Int) = o := ⟨_, rfl⟩
  obtain ⟨o3, h3⟩ : ∃ o, sub (out P 5) (tys L) (qa : Int) (qd : Int) = o := ⟨_, rfl⟩
  have H0 := hide (show sub (out P 5) (tys L) (qa : Int) (qa : Int) = true from sub_iff.2 (sub_refl (O := out P 5) HOK.out (fun x hx hx2 => out_iff.2 (Out.refl ⟨hx, hx2⟩)) _ _ _ (Nat.lt_succ_self _) hta))
  have H1 := hide h1
  have H2 := hide h2
  have H3 := hide h3
  have HTR := hide (show o1 = true → o2 = true → o3 = true from fun e1 e2 => h3.symm.trans (sub_iff.2 (sub_trans (O := out P 5) HOK.out (fun x y z hx hy => out_iff.2 ((out_iff.1 hx).trans (out_iff.1 hy))) _ _ _ _ (Nat.lt_succ_self _) (sub_iff.1 (h1.trans e1)) (sub_iff.1 (h2.trans e2)))))
  have HSH := hide (show o1 = true → xb.t.kind = xa.t.kind ∧ xb.t.mut_ = xa.t.mut_ ∧ tyDep (tys L) (qb : Int) = tyDep (tys L) (qa : Int) from fun e1 => by
    obtain ⟨a', b', g1, g2, g3, g4, g5⟩ := sub_shape (O := out P 5) HOK.out (sub_iff.1 (h1.trans e1))
    rw [hta] at g1; injection g1 with g1; subst g1
    rw [htb] at g2; injection g2 with g2; subst g2
    exact ⟨g3.symm, g4.symm, g5.symm⟩)
  obtain ⟨dd, hdd⟩ : ∃ v, tyDep (tys L) (qa : Int) = v := ⟨_, rfl⟩
  have HD1 := hide hdd
  have qa0 : (0 : Int) ≤ (qa : Int) := Int.natCast_nonneg _
  have qb0 : (0 : Int) ≤ (qb : Int) := Int.natCast_nonneg _
  have qa2 : (qa : Int) < (n2 : Int) := by omega
  have qb2 : (qb : Int) < (n2 : Int) := by omega
  have hA2 : ∃ bl ol, A2 = some ⟨bl, ol, none⟩ := by obtain ⟨bl, ol, e, _⟩ := (HTs.out w4 (Below.refl _ _)).at_ hxa; exact ⟨bl, ol, e⟩
  obtain ⟨bl, ol, rfl⟩ := hA2
  have HBI := hide (Below.refl w4.heap.size w4)
  clear h1 h2 h3 hxa hxb hta htb hdd
  go_wp2_with fail
  go_quiet (fail)
  have HBq := hide (tyN HBI.out nq)
  go_wp2_with fail
  refine (Subtype_is H1.out _ (HRel.out _ HBq.out) (HTs.out _ HBq.out) (by omega) HOK.out IA IB).mono ?_
  rintro e w5 ⟨rfl, hb⟩
  have HB5 := hide (HBq.out.trans (hb.mono HBq.out.size))
  clear hb
  go_wp2_with fail
  refine (Subtype_is H2.out _ (HRel.out _ HB5.out) (HTs.out _ HB5.out) (by omega) HOK.out IB ID).mono ?_
  rintro e w6 ⟨rfl, hb⟩
  have HB6 := hide (HB5.out.trans (hb.mono HB5.out.size))
  clear hb
  go_wp2_with fail
  refine (Subtype_is H3.out _ (HRel.out _ HB6.out) (HTs.out _ HB6.out) (by omega) HOK.out IA ID).mono ?_
  rintro e w7 ⟨rfl, hb⟩
  have HB7 := hide (HB6.out.trans (hb.mono HB6.out.size))
  clear hb
  have HRel7 := hide fun (w' : World) (h : Below w7.heap.size w7 w') => HRel.out w' (HB7.out.trans (h.mono HB7.out.size))
  have HTs7 := hide fun (w' : World) (h : Below w7.heap.size w7 w') => HTs.out w' (HB7.out.trans (h.mono HB7.out.size))
  have HB47 := hide (HB4.out.trans (HB7.out.mono HB4.out.size))
  cases o1
  · go_wp2_with fail
    go_quiet (fail)
    have hbq := tyN (Below.refl w7.heap.size w7) nq
    go_wp2_with fail
    refine (alive07_any _).mono ?_
    rintro e w8 ⟨rfl, hb⟩
    have HB8 := hide (Below.trans (by assumption : Below w7.heap.size w7 _) (hb.mono (Below.size (by assumption : Below w7.heap.size w7 _))))
    clear hb
    go_wp2_with fail
    refine (Subtype_is H0.out _ (HRel7.out _ HB8.out) (HTs7.out _ HB8.out) (by omega) HOK.out IA IA).mono ?_
    rintro e w9 ⟨rfl, hb⟩
    have HB9 := hide (HB8.out.trans (hb.mono HB8.out.size))
    clear hb
    go_wp2_with fail
    go_ret
    exact ⟨rfl, HB47.out.trans (HB9.out.mono HB47.out.size)⟩
  · obtain ⟨ek, em, ed2⟩ := HSH.out (by trivial)
    have HDep := hide (show ∀ i : Nat, i = qa ∨ i = qb → ∀ w' : World, Below w7.heap.size w7 w' → Calls Try.prog 26 #[.slice (some ⟨bl, ol, none⟩) n2 c2, .int .i64 (i : Int)] w' fun e w'' => e = .returned (.int .i64 dd) ∧ Below w'.heap.size w' w'' from fun i hi w' hw => by
      rcases hi with rfl | rfl
      · exact RDepth_eq HD1.out (HTs7.out w' hw) hn65 HOK.out qa1
      · exact RDepth_eq (ed2.trans HD1.out) (HTs7.out w' hw) hn65 HOK.out qb1)
    have hS := hide fun (w' : World) (h : Below w7.heap.size w7 w') => show Below w7.heap.size w7 w' ∧ w'.cell? ⟨bl, ol + qa * 5, none⟩ = some (.int .i64 xa.t.kind) ∧ w'.cell? ⟨bl, ol + qa * 5 + 1, none⟩ = some (.bool xa.t.mut_) ∧ w'.cell? ⟨bl, ol + qb * 5, none⟩ = some (.int .i64 xa.t.kind) ∧ w'.cell? ⟨bl, ol + qb * 5 + 1, none⟩ = some (.bool xa.t.mut_) from by
      obtain ⟨b1, o1, y1, _, _, a0, a1, _⟩ := (HTs7.out w' h).at_ HXA.out
      obtain ⟨rfl, rfl⟩ : bl = b1 ∧ ol = o1 := by injection y1 with y1; injection y1 with y1 y2; exact ⟨y1, y2⟩
      obtain ⟨b2, o2, y2, _, _, c0, c1, _⟩ := (HTs7.out w' h).at_ HXB.out
      obtain ⟨rfl, rfl⟩ : bl = b2 ∧ ol = o2 := by injection y2 with y2; injection y2 with y1 y2; exact ⟨y1, y2⟩
      rw [ek] at c0
      rw [em] at c1
      exact ⟨h, a0, a1, c0, c1⟩
    obtain ⟨kk, hkk⟩ : ∃ v, xa.t.kind = v := ⟨_, rfl⟩
    obtain ⟨mm, hmm⟩ : ∃ v, xa.t.mut_ = v := ⟨_, rfl⟩
    rw [hkk, hmm] at hS
    have tk : (kk != kk) = false := by simp
    have td : (dd != dd) = false := by simp
    clear ek em ed2 hkk hmm
    go_wp2_with fail
    go_region_held3 (fun w' => Below w7.heap.size w7 w' ∧ w'.cell? ⟨bl, ol + qa * 5, none⟩ = some (.int .i64 kk) ∧ w'.cell? ⟨bl, ol + qa * 5 + 1, none⟩ = some (.bool mm) ∧ w'.cell? ⟨bl, ol + qb * 5, none⟩ = some (.int .i64 kk) ∧ w'.cell? ⟨bl, ol + qb * 5 + 1, none⟩ = some (.bool mm))
      (first | exact hS.out _ (by assumption) | exact hS.out _ (Below.refl _ _) | exact hS.out _ (Below.refl _ _).drew | exact hS.out _ (Below.drew (by assumption)))
      ((go_at_call 26; go_split_ands; refine (HDep.out _ (by first | exact Or.inl rfl | exact Or.inr rfl) _ (by assumption)).mono ?_; rintro e w8 ⟨rfl, hb0⟩; have hb1 := Below.trans (by assumption : Below w7.heap.size w7 _) (hb0.mono (Below.size (by assumption : Below w7.heap.size w7 _)))))
    all_goals
      go_split_ands
      go_wp2_with fail
      refine (alive07_any _).mono ?_
      rintro e w8 ⟨rfl, hb⟩
      have HB8 := hide (Below.trans (by assumption : Below w7.heap.size w7 _) (hb.mono (Below.size (by assumption : Below w7.heap.size w7 _))))
      clear hb
      go_wp2_with fail
      refine (Subtype_is H0.out _ (HRel7.out _ HB8.out) (HTs7.out _ HB8.out) (by omega) HOK.out IA IA).mono ?_
      rintro e w9 ⟨rfl, hb⟩
      have HB9 := hide (HB8.out.trans (hb.mono HB8.out.size))
      clear hb
      cases o2
      · go_wp2_with fail
        go_ret
        exact ⟨rfl, HB47.out.trans (HB9.out.mono HB47.out.size)⟩
      · have e3 := HTR.out (by trivial) (by trivial)
        subst e3
        go_wp2_with fail
        go_ret
        exact ⟨rfl, HB47.out.trans (HB9.out.mono HB47.out.size)⟩

theorem own : ownKnob Try.prog.godebug = none := by kernel_rfl
theorem laidOut : laidOutB Try.prog = true := by kernel_rfl

set_option maxRecDepth 100000 in
/-- what the walk gives, for every argument that can be read -/
theorem contract (H : Type) (enc : TypeId × Value → H) (W : World) (base : Nat) (args : Array Value) (ds gs : List (DataW H)) (before : List MemPlace)
    (hval0 : ∀ (j : Nat) t v, Try.f8.params[j]? = some t → args[j]? = some v → Value.okWide Try.prog W .any base t v)
    (hW : DataW.Whole enc Try.prog Try.f8.params.toList Rows.regionsSubtypeIsPreorderSpec.vars false W args.toList ds gs before) :
    Calls Try.prog 8 args W fun e W' => ∃ v, e = .returned v ∧ Rows.regionsSubtypeIsPreorderSpec.post enc Try.prog Try.f8 false true false false W args v W' := by
  have hval : ∀ (j : Nat) t v, Try.f8.params[j]? = some t → args[j]? = some v → Value.okWide Try.prog W .any base t v := hval0
  have hW' := hW
  obtain ⟨p, q, hA0, hV, rfl, hfz, hnd⟩ := hW
  have hA : DataW.TrodAll enc Try.prog W 0 (fun _ => true) true Try.f8.params.toList args.toList ds p := hA0
  rw [Try.params8] at hA hval
  obtain ⟨v0, vs0, d0, ds0, p0, q0, hargs, rfl, rfl, h0, r0⟩ := trodAll_cons hA
  obtain ⟨v1, vs1, d1, ds1, p1, q1, rfl, rfl, rfl, h1, r1⟩ := trodAll_cons r0
  obtain ⟨v2, vs2, d2, ds2, p2, q2, rfl, rfl, rfl, h2, r2⟩ := trodAll_cons r1
  obtain ⟨rfl, rfl, rfl⟩ := trodAll_nil r2
  obtain rfl : args = #[v0, v1, v2] := by cases args; simp_all
  obtain ⟨rfl, rfl⟩ := trodVars_none hV
  have k0 := h0
  have lt0 : ∀ x ∈ p0, x.block < W.heap.size := by obtain ⟨m, hm⟩ := k0; exact DataW.trod_lt m _ _ _ hm
  obtain ⟨A0, n0, c0, xs0, rfl, g0⟩ := openPrs Try.underlying22 Try.underlying31 Try.underlying3 (by kernel_rfl) (by kernel_rfl) (hval 0 22 v0 rfl rfl) h0
  have k1 := h1
  have lt1 : ∀ x ∈ p1, x.block < W.heap.size := by obtain ⟨m, hm⟩ := k1; exact DataW.trod_lt m _ _ _ hm
  obtain ⟨A1, n1, c1, xs1, rfl, g1⟩ := openTyps Try.underlying42 Try.underlying50 rfl (by kernel_rfl) (by kernel_rfl) Try.underlying3 Try.underlying4 Try.underlying3 Try.underlying3 Try.underlying35 Try.underlying3 (by kernel_rfl) (hval 1 42 v1 rfl rfl) h1
  have k2 := h2
  have lt2 : ∀ x ∈ p2, x.block < W.heap.size := by obtain ⟨m, hm⟩ := k2; exact DataW.trod_lt m _ _ _ hm
  obtain ⟨a2, b2, c2, rfl, g2⟩ := openTri8 Try.underlying40 Try.underlying5 (by kernel_rfl) (by kernel_rfl) (hval 2 40 v2 rfl rfl) h2
  clear hA0 hval0
  simp only [List.append_nil] at hW'
  refine (walk A0 n0 c0 xs0 A1 n1 c1 xs1 a2 b2 c2 W g0 g1 g2).mono fun e W' ⟨he, bel⟩ => ?_
  subst he
  exact ⟨_, rfl, _, _, _, [], _, [], hW', trodAll_mk1 (shut_bool Try.underlying4 _), (trodAll_cons_mk (Below.trod laidOut (by kernel_rfl) (of_decide_eq_true (by kernel_rfl)) k0 bel lt0) (trodAll_cons_mk (Below.trod laidOut (by kernel_rfl) (of_decide_eq_true (by kernel_rfl)) k1 bel lt1) (trodAll_cons_mk (Below.trod laidOut (by kernel_rfl) (of_decide_eq_true (by kernel_rfl)) k2 bel lt2) trodAll_mk0))), rfl, bel.frame _, fun h => by cases h⟩

set_option maxRecDepth 100000 in
theorem lifted (os : Os) (started : os.Started) (H : Type) (enc : TypeId × Value → H) :
    ReturnsInHanded {} Try.checked os 8 .any (Rows.regionsSubtypeIsPreorderSpec.pre6 enc Try.prog Try.f8 Rows.regionsSubtypeIsPreorderRow.domain false) (Rows.regionsSubtypeIsPreorderSpec.post enc Try.prog Try.f8 false true false false) := by
  refine returnsInHanded_of_change (C := Try.checked) own started (by kernel_rfl) Try.func8
    (ChangeSpec.witness6 (enc := enc) (C := Try.checked) false ⟨#[], #[.slice none 0 0, .slice none 0 0, .agg #[.int .u8 0, .int .u8 0, .int .u8 0]], []⟩ 8 (by kernel_rfl) (by kernel_rfl) (by kernel_rfl) (by kernel_rfl)) ?_
  intro W base args ds gs before hval hW _ _
  exact contract H enc W base args ds gs before hval hW

/-- the statement -/
theorem proved : Rows.RegionsSubtypeIsPreorderSaid :=
  OpenClaim.holds_of_wide 8 Try.f8 rfl rfl rfl rfl rfl rfl rfl ⟨rfl, rfl, rfl, rfl, rfl⟩ rfl rfl rfl rfl rfl (by kernel_rfl) Try.func8 (by kernel_rfl)
    (of_decide_eq_true (by kernel_rfl)) (by unfold Func.isWrapper; first | (rw [if_pos (by decide +kernel)]; kernel_rfl) | (rw [if_neg (by decide +kernel)]; exact ⟨rfl, rfl⟩))
    (fun os started H enc _ => lifted os started H enc)
end Go.Proofs.Ytagnikaghhobjaa.regionsSubtypeIsPreorder
