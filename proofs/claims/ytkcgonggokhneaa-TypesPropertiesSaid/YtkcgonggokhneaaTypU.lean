/- The reference's check of one element, where it comes to the end. -/
import Derived.Test.YtkcgonggokhneaaTypT
set_option linter.unusedVariables false
namespace Go.Proofs.Ytkcgonggokhneaa
open Go.RowKit


set_option maxHeartbeats 2000000 in
set_option maxRecDepth 100000 in
theorem rcheck_ref (A : Option Addr) (n c : Nat) (L : List TyW) (k : Nat) (kd : Int) (m : Bool) (r el : Int) (fs : List Int) (B : Option Addr) (nf cf : Nat) (Ad : Option Addr) (cd : Nat) (rg : Int) (w : World) (h : RC A n c L k ⟨⟨kd, m, r, el, fs⟩, B, nf, cf⟩ Ad cd rg w) (h3 : kd = 3) (hf : nf = 0) :
    Calls Try.prog 29 #[.slice A n c, .slice Ad k cd, .int .i64 (k : Int), .int .i64 rg] w fun e w' => e = .returned (.int .i64 (tyErr ((tys L).take k) ⟨kd, m, r, el, fs⟩ rg)) ∧ Below w.heap.size w w' := by
  have HB := hide ((Below.refl w.heap.size w).alloc (Nat.le_refl _) (.cells #[.int .i64 kd, .bool m, .int .i64 r, .int .i64 el, .slice B nf cf] 31))
  have hkn := h.lt
  have hkn' : (k : Int) < (n : Int) := by omega
  have hn := h.few
  have hnc := h.nc
  obtain ⟨g, o, rfl, hgB, hone, c0, c1, c2, c3, c4⟩ := h.ty.at_ h.at_
  simp only [] at c0 c1 c2 c3 c4
  have hl : fs.length = nf := hone.ok.len
  have hnf : nf ≤ maxLen := Nat.le_trans hone.ok.nc hone.ok.cm
  unfold maxLen at hnf
  have hpl := h.plen
  have kc0 : (0 : Int) ≤ (k : Int) := Int.natCast_nonneg _
  have kc1 : (k : Int) ≤ (c : Int) := by omega
  have kc2 : k ≤ c := by omega
  have kc3 : ¬ (k : Int) < 0 := by omega
  have kc4 : ¬ (c : Int) < (k : Int) := by omega
  have H := hide h
  have HONE := hide hone
  have HPL := hide hpl
  subst hf
  have hfs : fs = [] := List.eq_nil_of_length_eq_zero hl
  have e3 : (kd == 3) = true := beq_iff_eq.2 h3
  have e3n : (kd != 3) = false := by simp [h3]
  have e4 : (kd == 4) = false := beq_eq_false_iff_ne.2 (by omega)
  have e4n : (kd != 4) = true := by rw [bne_iff_ne]; omega
  have h00 : 0 ≤ kd := by omega
  have h01 : kd ≤ 4 := by omega
  have hpp : tyParts ⟨kd, m, r, el, fs⟩ = [el] := tyParts_ref h3
  have HO : Hid (tyOwn ⟨kd, m, r, el, fs⟩ (k : Int) rg = if tyIn r rg = false ∨ tyIn el (k : Int) = false then 3 else 0) := by
    show _ = _
    rw [tyOwn_in2 h00 h01, if_neg (by rw [hfs]; simp [h3]), hpp, if_neg (show ¬ (kd = 4 ∧ (fs.length = 0 ∨ 65535 < fs.length)) by omega)]
    simp [h3, tyAllIn]
  have D0 := hide (show (w.alloc (.cells #[.int .i64 kd, .bool m, .int .i64 r, .int .i64 el, .slice B 0 cf] 31)).cell? ⟨w.heap.size, 0, none⟩ = some (.int .i64 kd) from by simp [go_sem])
  have D1 := hide (show (w.alloc (.cells #[.int .i64 kd, .bool m, .int .i64 r, .int .i64 el, .slice B 0 cf] 31)).cell? ⟨w.heap.size, 1, none⟩ = some (.bool m) from by simp [go_sem])
  have D2 := hide (show (w.alloc (.cells #[.int .i64 kd, .bool m, .int .i64 r, .int .i64 el, .slice B 0 cf] 31)).cell? ⟨w.heap.size, 2, none⟩ = some (.int .i64 r) from by simp [go_sem])
  have D3 := hide (show (w.alloc (.cells #[.int .i64 kd, .bool m, .int .i64 r, .int .i64 el, .slice B 0 cf] 31)).cell? ⟨w.heap.size, 3, none⟩ = some (.int .i64 el) from by simp [go_sem])
  have D4 := hide (show (w.alloc (.cells #[.int .i64 kd, .bool m, .int .i64 r, .int .i64 el, .slice B 0 cf] 31)).cell? ⟨w.heap.size, 4, none⟩ = some (.slice B 0 cf) from by simp [go_sem])
  have HTY := hide (show Typs (w.alloc (.cells #[.int .i64 kd, .bool m, .int .i64 r, .int .i64 el, .slice B 0 cf] 31)).drew (w.alloc (.cells #[.int .i64 kd, .bool m, .int .i64 r, .int .i64 el, .slice B 0 cf] 31)).drew.heap.size (some ⟨g, o, none⟩) k (L.take k) from (((h.ty.take (Nat.le_of_lt hkn)).below HB.out).more (by simp)).below ((Below.refl _ _).drew))
  have HX := hide (show OneT (w.alloc (.cells #[.int .i64 kd, .bool m, .int .i64 r, .int .i64 el, .slice B 0 cf] 31)).drew (w.alloc (.cells #[.int .i64 kd, .bool m, .int .i64 r, .int .i64 el, .slice B 0 cf] 31)).drew.heap.size ⟨⟨kd, m, r, el, fs⟩, B, 0, cf⟩ from ((hone.below HB.out).more (by simp)).below ((Below.refl _ _).drew))
  by_cases hr0 : 0 ≤ r
  rotate_left
  · have hr1 : r < 0 := by omega
    have HF := hide (tyErr_own (rg := rg) hpl (HO.out.trans (if_pos (.inl (tyIn_not.2 (by omega))))) (by decide))
    clear h hone hpl hl hfs h3 hpp
    go_enter Try.func29, Try.ntmps29
    go_wp2
    go_ret
    exact ⟨ret_m HF.out, HB.out⟩
  by_cases hr1 : r < rg
  rotate_left
  · have hr2 : rg ≤ r := by omega
    have HF := hide (tyErr_own (rg := rg) hpl (HO.out.trans (if_pos (.inl (tyIn_not.2 (by omega))))) (by decide))
    clear h hone hpl hl hfs h3 hpp
    go_enter Try.func29, Try.ntmps29
    go_wp2
    go_ret
    exact ⟨ret_m HF.out, HB.out⟩
  by_cases he0 : 0 ≤ el
  rotate_left
  · have he1 : el < 0 := by omega
    have HF := hide (tyErr_own (rg := rg) hpl (HO.out.trans (if_pos (.inr (tyIn_not.2 (by omega))))) (by decide))
    clear h hone hpl hl hfs h3 hpp
    go_enter Try.func29, Try.ntmps29
    go_wp2
    go_ret
    exact ⟨ret_m HF.out, HB.out⟩
  by_cases he1 : el < (k : Int)
  rotate_left
  · have he2 : (k : Int) ≤ el := by omega
    have HF := hide (tyErr_own (rg := rg) hpl (HO.out.trans (if_pos (.inr (tyIn_not.2 (by omega))))) (by decide))
    clear h hone hpl hl hfs h3 hpp
    go_enter Try.func29, Try.ntmps29
    go_wp2
    go_ret
    exact ⟨ret_m HF.out, HB.out⟩
  have hr2 : ¬ rg ≤ r := by omega
  have he2 : ¬ (k : Int) ≤ el := by omega
  have HOWN := hide (HO.out.trans (if_neg (by rw [tyIn_iff.2 ⟨hr0, hr1⟩, tyIn_iff.2 ⟨he0, he1⟩]; simp)))
  obtain ⟨q, hq⟩ := Int.eq_ofNat_of_zero_le he0
  have hex : ∃ v, (tyDeps ((tys L).take k))[q]? = some v := ⟨_, List.getElem?_eq_getElem (by rw [tyDeps_len, hpl]; omega)⟩
  obtain ⟨v, hv⟩ := hex
  have hv1 := tyDeps_bd2 h.ok v (List.mem_of_getElem? hv)
  obtain ⟨hv0, hv2⟩ := hv1
  have HD := hide (tyDpt_ref (ds := tyDeps ((tys L).take k)) (t := ⟨kd, m, r, el, fs⟩) h3 (show _ = v by show (tyDeps ((tys L).take k)).getD el.toNat 0 = v; rw [hq, Int.toNat_natCast, List.getD_eq_getElem?_getD, hv]; rfl) hv0)
  obtain ⟨g1, o1, rfl, hg1, d0⟩ := h.d.int hv
  have hq1 : (q : Int) < (k : Int) := by omega
  subst hq
  clear h hone hpl hl hfs h3 hpp hv
  go_enter Try.func29, Try.ntmps29
  go_wp2_with fail
  go_loop [10, 11] (fun kk j => j = .int .i64 0 ∧ kk = .int .i64 v) (fun _ _ => 0)
  case atStart => exact ⟨rfl, rfl⟩
  case round =>
    obtain ⟨rfl, rfl⟩ := hrel
    have hmemx : (⟨kd, m, r, (q : Int), fs⟩ ∈ (tys L).take k) ∨ ¬ (⟨kd, m, r, (q : Int), fs⟩ ∈ (tys L).take k) := Classical.em _
    by_cases h32 : 32 < v + 1
    · have HF := hide (tyErr_deep (rg := rg) HPL.out HOWN.out HD.out h32)
      clear hmemx
      go_wp2_with fail
      go_ret
      exact ⟨ret_m HF.out, HB.out⟩
    · rcases hmemx with hmem | hmem
      · have HF := hide (tyErr_dup (rg := rg) HPL.out HOWN.out HD.out h32 hmem)
        have HM := hide hmem
        clear hmem
        go_wp2_with fail
        generalize (w.alloc (.cells #[.int .i64 kd, .bool m, .int .i64 r, .int .i64 (q : Int), .slice B 0 cf] 31)) = W at *
        have d0 := D0.out
        have d1 := D1.out
        have d2 := D2.out
        have d3 := D3.out
        have d4 := D4.out
        go_still_tail 4, (by kernel_rfl)
        go_wp2_with fail
        refine (RFindT_yes _ HTY.out HX.out (by unfold maxLen; omega) (by rw [tys_take]; exact HM.out)).mono ?_
        rintro e w1 ⟨s, rfl, hb1⟩
        have HB1 := hide (HB.out.drew.trans (hb1.mono HB.out.size))
        have hs0 : (0 : Int) ≤ (s : Int) := Int.natCast_nonneg _
        clear hb1
        go_wp2_with fail
        go_ret
        exact ⟨ret_m HF.out, HB1.out⟩
      · have HF := hide (tyErr_fine (rg := rg) HPL.out HOWN.out HD.out h32 hmem)
        have HM := hide hmem
        clear hmem
        go_wp2_with fail
        generalize (w.alloc (.cells #[.int .i64 kd, .bool m, .int .i64 r, .int .i64 (q : Int), .slice B 0 cf] 31)) = W at *
        have d0 := D0.out
        have d1 := D1.out
        have d2 := D2.out
        have d3 := D3.out
        have d4 := D4.out
        go_still_tail 4, (by kernel_rfl)
        go_wp2_with fail
        refine (RFindT_no _ HTY.out HX.out (by unfold maxLen; omega) (by rw [tys_take]; exact HM.out)).mono ?_
        rintro e w1 ⟨rfl, hb1⟩
        have HB1 := hide (HB.out.drew.trans (hb1.mono HB.out.size))
        clear hb1
        go_wp2_with fail
        go_ret
        exact ⟨ret_m HF.out, HB1.out⟩

set_option maxHeartbeats 2000000 in
set_option maxRecDepth 100000 in
theorem rcheck_plain (A : Option Addr) (n c : Nat) (L : List TyW) (k : Nat) (kd : Int) (m : Bool) (r el : Int) (fs : List Int) (B : Option Addr) (nf cf : Nat) (Ad : Option Addr) (cd : Nat) (rg : Int) (w : World) (h : RC A n c L k ⟨⟨kd, m, r, el, fs⟩, B, nf, cf⟩ Ad cd rg w) (h00 : 0 ≤ kd) (h01 : kd ≤ 4) (h3 : kd ≠ 3) (h4 : kd ≠ 4) (hm : m = false) (hr : r = 0) (he : el = 0) (hf : nf = 0) :
    Calls Try.prog 29 #[.slice A n c, .slice Ad k cd, .int .i64 (k : Int), .int .i64 rg] w fun e w' => e = .returned (.int .i64 (tyErr ((tys L).take k) ⟨kd, m, r, el, fs⟩ rg)) ∧ Below w.heap.size w w' := by
  have HB := hide ((Below.refl w.heap.size w).alloc (Nat.le_refl _) (.cells #[.int .i64 kd, .bool m, .int .i64 r, .int .i64 el, .slice B nf cf] 31))
  have hkn := h.lt
  have hkn' : (k : Int) < (n : Int) := by omega
  have hn := h.few
  have hnc := h.nc
  obtain ⟨g, o, rfl, hgB, hone, c0, c1, c2, c3, c4⟩ := h.ty.at_ h.at_
  simp only [] at c0 c1 c2 c3 c4
  have hl : fs.length = nf := hone.ok.len
  have hnf : nf ≤ maxLen := Nat.le_trans hone.ok.nc hone.ok.cm
  unfold maxLen at hnf
  have hpl := h.plen
  have kc0 : (0 : Int) ≤ (k : Int) := Int.natCast_nonneg _
  have kc1 : (k : Int) ≤ (c : Int) := by omega
  have kc2 : k ≤ c := by omega
  have kc3 : ¬ (k : Int) < 0 := by omega
  have kc4 : ¬ (c : Int) < (k : Int) := by omega
  have H := hide h
  have HONE := hide hone
  have HPL := hide hpl
  subst hm hr he hf
  have hfs : fs = [] := List.eq_nil_of_length_eq_zero hl
  have e3 : (kd == 3) = false := beq_eq_false_iff_ne.2 h3
  have e3n : (kd != 3) = true := by rw [bne_iff_ne]; exact h3
  have e4 : (kd == 4) = false := beq_eq_false_iff_ne.2 h4
  have e4n : (kd != 4) = true := by rw [bne_iff_ne]; exact h4
  have hpp : tyParts ⟨kd, false, 0, 0, fs⟩ = [] := tyParts_none h3 h4
  have HOWN : Hid (tyOwn ⟨kd, false, 0, 0, fs⟩ (k : Int) rg = 0) := by
    show _ = _
    rw [tyOwn_in2 h00 h01, hpp, hfs]
    simp [h3, h4, tyAllIn]
  have HD : Hid (tyDpt (tyDeps ((tys L).take k)) ⟨kd, false, 0, 0, fs⟩ = 0 + 1) := by
    show _ = _
    unfold tyDpt
    rw [hpp]
    rfl
  have D0 := hide (show (w.alloc (.cells #[.int .i64 kd, .bool false, .int .i64 0, .int .i64 0, .slice B 0 cf] 31)).cell? ⟨w.heap.size, 0, none⟩ = some (.int .i64 kd) from by simp [go_sem])
  have D1 := hide (show (w.alloc (.cells #[.int .i64 kd, .bool false, .int .i64 0, .int .i64 0, .slice B 0 cf] 31)).cell? ⟨w.heap.size, 1, none⟩ = some (.bool false) from by simp [go_sem])
  have D2 := hide (show (w.alloc (.cells #[.int .i64 kd, .bool false, .int .i64 0, .int .i64 0, .slice B 0 cf] 31)).cell? ⟨w.heap.size, 2, none⟩ = some (.int .i64 0) from by simp [go_sem])
  have D3 := hide (show (w.alloc (.cells #[.int .i64 kd, .bool false, .int .i64 0, .int .i64 0, .slice B 0 cf] 31)).cell? ⟨w.heap.size, 3, none⟩ = some (.int .i64 0) from by simp [go_sem])
  have D4 := hide (show (w.alloc (.cells #[.int .i64 kd, .bool false, .int .i64 0, .int .i64 0, .slice B 0 cf] 31)).cell? ⟨w.heap.size, 4, none⟩ = some (.slice B 0 cf) from by simp [go_sem])
  have HTY := hide (show Typs (w.alloc (.cells #[.int .i64 kd, .bool false, .int .i64 0, .int .i64 0, .slice B 0 cf] 31)).drew (w.alloc (.cells #[.int .i64 kd, .bool false, .int .i64 0, .int .i64 0, .slice B 0 cf] 31)).drew.heap.size (some ⟨g, o, none⟩) k (L.take k) from (((h.ty.take (Nat.le_of_lt hkn)).below HB.out).more (by simp)).below ((Below.refl _ _).drew))
  have HX := hide (show OneT (w.alloc (.cells #[.int .i64 kd, .bool false, .int .i64 0, .int .i64 0, .slice B 0 cf] 31)).drew (w.alloc (.cells #[.int .i64 kd, .bool false, .int .i64 0, .int .i64 0, .slice B 0 cf] 31)).drew.heap.size ⟨⟨kd, false, 0, 0, fs⟩, B, 0, cf⟩ from ((hone.below HB.out).more (by simp)).below ((Below.refl _ _).drew))
  clear h hone hpl hl hfs h3 h4 hpp
  go_enter Try.func29, Try.ntmps29
  go_wp2_with fail
  go_loop [10, 11] (fun kk j => j = .int .i64 0 ∧ kk = .int .i64 0) (fun _ _ => 0)
  case atStart => exact ⟨rfl, rfl⟩
  case round =>
    obtain ⟨rfl, rfl⟩ := hrel
    have hmemx : (⟨kd, false, 0, 0, fs⟩ ∈ (tys L).take k) ∨ ¬ (⟨kd, false, 0, 0, fs⟩ ∈ (tys L).take k) := Classical.em _
    by_cases h32 : 32 < (0 : Int) + 1
    · exact absurd h32 (by decide)
    · rcases hmemx with hmem | hmem
      · have HF := hide (tyErr_dup (rg := rg) HPL.out HOWN.out HD.out h32 hmem)
        have HM := hide hmem
        clear hmem
        go_wp2_with fail
        generalize (w.alloc (.cells #[.int .i64 kd, .bool false, .int .i64 0, .int .i64 0, .slice B 0 cf] 31)) = W at *
        have d0 := D0.out
        have d1 := D1.out
        have d2 := D2.out
        have d3 := D3.out
        have d4 := D4.out
        go_still_tail 4, (by kernel_rfl)
        go_wp2_with fail
        refine (RFindT_yes _ HTY.out HX.out (by unfold maxLen; omega) (by rw [tys_take]; exact HM.out)).mono ?_
        rintro e w1 ⟨s, rfl, hb1⟩
        have HB1 := hide (HB.out.drew.trans (hb1.mono HB.out.size))
        have hs0 : (0 : Int) ≤ (s : Int) := Int.natCast_nonneg _
        clear hb1
        go_wp2_with fail
        go_ret
        exact ⟨ret_m HF.out, HB1.out⟩
      · have HF := hide (tyErr_fine (rg := rg) HPL.out HOWN.out HD.out h32 hmem)
        have HM := hide hmem
        clear hmem
        go_wp2_with fail
        generalize (w.alloc (.cells #[.int .i64 kd, .bool false, .int .i64 0, .int .i64 0, .slice B 0 cf] 31)) = W at *
        have d0 := D0.out
        have d1 := D1.out
        have d2 := D2.out
        have d3 := D3.out
        have d4 := D4.out
        go_still_tail 4, (by kernel_rfl)
        go_wp2_with fail
        refine (RFindT_no _ HTY.out HX.out (by unfold maxLen; omega) (by rw [tys_take]; exact HM.out)).mono ?_
        rintro e w1 ⟨rfl, hb1⟩
        have HB1 := hide (HB.out.drew.trans (hb1.mono HB.out.size))
        clear hb1
        go_wp2_with fail
        go_ret
        exact ⟨ret_m HF.out, HB1.out⟩

end Go.Proofs.Ytkcgonggokhneaa
