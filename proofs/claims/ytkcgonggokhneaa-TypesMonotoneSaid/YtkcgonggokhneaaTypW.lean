/- The reference's check of a tuple, and of any element. -/
import Derived.Test.YtkcgonggokhneaaTypU
set_option linter.unusedVariables false
namespace Go.Proofs.Ytkcgonggokhneaa
open Go.RowKit


set_option maxHeartbeats 2000000 in
set_option maxRecDepth 100000 in
theorem rcheck_tup (A : Option Addr) (n c : Nat) (L : List TyW) (k : Nat) (kd : Int) (m : Bool) (r el : Int) (fs : List Int) (B : Option Addr) (nf cf : Nat) (Ad : Option Addr) (cd : Nat) (rg : Int) (w : World) (h : RC A n c L k ⟨⟨kd, m, r, el, fs⟩, B, nf, cf⟩ Ad cd rg w) (h4 : kd = 4) (hm : m = false) (hr : r = 0) (he : el = 0) :
    Calls Try.prog 29 #[.slice A n c, .slice Ad k cd, .int .i64 (k : Int), .int .i64 rg] w fun e w' => e = .returned (.int .i64 (tyErr ((tys L).take k) ⟨kd, m, r, el, fs⟩ rg)) ∧ Below w.heap.size w w' := by
  have HB := hide ((Below.refl w.heap.size w).alloc (Nat.le_refl _) (.cells #[.int .i64 kd, .bool m, .int .i64 r, .int .i64 el, .slice B nf cf] 31))
  have hkn := h.lt
  have hkn' : (k : Int) < (n : Int) := by omega
  have hn := h.few
  have hnc := h.nc
  obtain ⟨g, o, rfl, hgB, hone, c0, c1, c2, c3, c4⟩ := h.ty.at_ h.at_
  simp only [] at c0 c1 c2 c3 c4
  have hl : fs.length = nf := hone.ok.len
  have hnf : nf ≤ maxLen := Nat.le_trans hone.ok.nc hone.ok.cm
  unfold maxLen at hnf
  have hpl := h.plen
  have kc0 : (0 : Int) ≤ (k : Int) := Int.natCast_nonneg _
  have kc1 : (k : Int) ≤ (c : Int) := by omega
  have kc2 : k ≤ c := by omega
  have kc3 : ¬ (k : Int) < 0 := by omega
  have kc4 : ¬ (c : Int) < (k : Int) := by omega
  have H := hide h
  have HONE := hide hone
  have HPL := hide hpl
  subst hm hr he
  have e3 : (kd == 3) = false := beq_eq_false_iff_ne.2 (by omega)
  have e3n : (kd != 3) = true := by rw [bne_iff_ne]; omega
  have e4 : (kd == 4) = true := beq_iff_eq.2 h4
  have e4n : (kd != 4) = false := by simp [h4]
  have h00 : 0 ≤ kd := by omega
  have h01 : kd ≤ 4 := by omega
  have hpp : tyParts ⟨kd, false, 0, 0, fs⟩ = fs := tyParts_tup h4
  have HO : Hid (tyOwn ⟨kd, false, 0, 0, fs⟩ (k : Int) rg = if tyAllIn fs (k : Int) = false then 3 else if nf = 0 ∨ 65535 < nf then 15 else 0) := by
    show _ = _
    rw [tyOwn_in2 h00 h01, if_neg (by simp [h4]), hpp, hl]
    simp [h4]
  have hdl : (tyDeps ((tys L).take k)).length = k := by rw [tyDeps_len, hpl]
  have hbd := tyDeps_bd2 h.ok
  have HD0 := hide (tyDpt_to (ds := tyDeps ((tys L).take k)) hpp (Nat.le_of_eq hl))
  have HMB := hide (maxTo_bd (ps := fs) (d := fun p => (tyDeps ((tys L).take k)).getD p.toNat 0) (fun p _ => tyDpt_bd hbd p))
  have HRF := hide hone.rd
  have HRD := hide h.d
  have HDL := hide hdl
  have HBD := hide hbd
  have HL := hide hl
  have D0 := hide (show (w.alloc (.cells #[.int .i64 kd, .bool false, .int .i64 0, .int .i64 0, .slice B nf cf] 31)).cell? ⟨w.heap.size, 0, none⟩ = some (.int .i64 kd) from by simp [go_sem])
  have D1 := hide (show (w.alloc (.cells #[.int .i64 kd, .bool false, .int .i64 0, .int .i64 0, .slice B nf cf] 31)).cell? ⟨w.heap.size, 1, none⟩ = some (.bool false) from by simp [go_sem])
  have D2 := hide (show (w.alloc (.cells #[.int .i64 kd, .bool false, .int .i64 0, .int .i64 0, .slice B nf cf] 31)).cell? ⟨w.heap.size, 2, none⟩ = some (.int .i64 0) from by simp [go_sem])
  have D3 := hide (show (w.alloc (.cells #[.int .i64 kd, .bool false, .int .i64 0, .int .i64 0, .slice B nf cf] 31)).cell? ⟨w.heap.size, 3, none⟩ = some (.int .i64 0) from by simp [go_sem])
  have D4 := hide (show (w.alloc (.cells #[.int .i64 kd, .bool false, .int .i64 0, .int .i64 0, .slice B nf cf] 31)).cell? ⟨w.heap.size, 4, none⟩ = some (.slice B nf cf) from by simp [go_sem])
  have HTY := hide (show Typs (w.alloc (.cells #[.int .i64 kd, .bool false, .int .i64 0, .int .i64 0, .slice B nf cf] 31)).drew (w.alloc (.cells #[.int .i64 kd, .bool false, .int .i64 0, .int .i64 0, .slice B nf cf] 31)).drew.heap.size (some ⟨g, o, none⟩) k (L.take k) from (((h.ty.take (Nat.le_of_lt hkn)).below HB.out).more (by simp)).below ((Below.refl _ _).drew))
  have HX := hide (show OneT (w.alloc (.cells #[.int .i64 kd, .bool false, .int .i64 0, .int .i64 0, .slice B nf cf] 31)).drew (w.alloc (.cells #[.int .i64 kd, .bool false, .int .i64 0, .int .i64 0, .slice B nf cf] 31)).drew.heap.size ⟨⟨kd, false, 0, 0, fs⟩, B, nf, cf⟩ from ((hone.below HB.out).more (by simp)).below ((Below.refl _ _).drew))
  generalize hds : tyDeps ((tys L).take k) = ds at *
  have HDS := hide hds
  clear h hone hpl hl h4 hpp hdl hbd hds
  go_enter Try.func29, Try.ntmps29
  go_wp2_with fail
  go_loop [10, 11] (fun kk j => ∃ i : Nat, j = .int .i64 (i : Int) ∧ i ≤ nf ∧ kk = .int .i64 (maxTo fs (fun p => ds.getD p.toNat 0) i) ∧ Hid (∀ p ∈ fs.take i, 0 ≤ p ∧ p < (k : Int))) (fun _ j => nf - (intOf j).toNat)
  case atStart => exact ⟨0, rfl, Nat.zero_le _, rfl, fun p hp => by simp at hp⟩
  case round =>
    obtain ⟨i, rfl, hi, rfl, HALL⟩ := hrel
    have hmb := HMB.out i
    obtain ⟨hb0, hb2⟩ := hmb
    by_cases hlt : i < nf
    · have hlt' : (i : Int) < (nf : Int) := by omega
      have hex : ∃ p, fs[i]? = some p := ⟨_, List.getElem?_eq_getElem (by have := HL.out; omega)⟩
      obtain ⟨p, hp⟩ := hex
      obtain ⟨gf, of, rfl, hgf, df⟩ := HRF.out.int hp
      have hmem := List.mem_of_getElem? hp
      have HP := hide hp
      by_cases hp0 : 0 ≤ p
      rotate_left
      · have hp1 : p < 0 := by omega
        have HF := hide (tyErr_own (rg := rg) HPL.out (HO.out.trans (if_pos (by cases hq : tyAllIn fs (k : Int) with | false => rfl | true => exact absurd (tyAllIn_iff.1 hq p hmem).1 hp0))) (by decide))
        clear hp hmem
        go_wp2
        go_ret
        exact ⟨ret_m HF.out, HB.out⟩
      by_cases hp1 : p < (k : Int)
      rotate_left
      · have hp2 : (k : Int) ≤ p := by omega
        have HF := hide (tyErr_own (rg := rg) HPL.out (HO.out.trans (if_pos (by cases hq : tyAllIn fs (k : Int) with | false => rfl | true => exact absurd (tyAllIn_iff.1 hq p hmem).2 hp1))) (by decide))
        clear hp hmem
        go_wp2
        go_ret
        exact ⟨ret_m HF.out, HB.out⟩
      obtain ⟨q, hq⟩ := Int.eq_ofNat_of_zero_le hp0
      have hex : ∃ v, ds[q]? = some v := ⟨_, List.getElem?_eq_getElem (by have := HDL.out; omega)⟩
      obtain ⟨v, hv⟩ := hex
      obtain ⟨g1, o1, rfl, hg1, d0⟩ := HRD.out.int hv
      have hms := maxTo_succ (fun p : Int => ds.getD p.toNat 0) hp
      have he : ds.getD p.toNat 0 = v := by rw [hq, Int.toNat_natCast, List.getD_eq_getElem?_getD, hv]; rfl
      simp only [he] at hms
      have HMS := hide hms
      have HA2 : Hid (∀ p ∈ fs.take (i + 1), 0 ≤ p ∧ p < (k : Int)) := fun y hy => by
        rw [List.take_add_one, HP.out] at hy
        rcases List.mem_append.1 hy with hy | hy
        · exact HALL.out y hy
        · obtain rfl : y = p := by simpa using hy
          exact ⟨hp0, hp1⟩
      have hq1 : (q : Int) < (k : Int) := by omega
      have hq2 : ¬ (k : Int) ≤ (q : Int) := by omega
      have hv1 := HBD.out v (List.mem_of_getElem? hv)
      obtain ⟨hv0, hv2⟩ := hv1
      subst hq
      generalize maxTo fs (fun p => ds.getD p.toNat 0) i = mm at *
      clear hp hmem hv hms he
      go_wp2_with fail
      go_round
      case rel => exact ⟨i + 1, by go_num, by omega, by rw [HMS.out, ite_max], HA2.out⟩
      case measure => simp [intOf]; omega
    · obtain rfl : i = nf := by omega
      have hall : tyAllIn fs (k : Int) = true := tyAllIn_iff.2 fun p hp => HALL.out p (by rw [List.take_of_length_le (Nat.le_of_eq HL.out)]; exact hp)
      have HO2 := hide (HO.out.trans (if_neg (by rw [hall]; decide)))
      generalize hmm : maxTo fs (fun p => ds.getD p.toNat 0) i = mm at *
      have HD := HD0
      rw [← HDS.out] at HD
      clear hall hmm
      by_cases hf : i = 0
      · have HF := hide (tyErr_own (rg := rg) HPL.out (HO2.out.trans (if_pos (.inl hf))) (by decide))
        have e5 : ((i : Int) == 0) = true := beq_iff_eq.2 (by omega)
        clear hf
        go_wp2
        go_ret
        exact ⟨ret_m HF.out, HB.out⟩
      · have e5 : ((i : Int) == 0) = false := beq_eq_false_iff_ne.2 (by omega)
        by_cases hg : 65535 < i
        · have HF := hide (tyErr_own (rg := rg) HPL.out (HO2.out.trans (if_pos (.inr hg))) (by decide))
          have hg1 : (65535 : Int) < (i : Int) := by omega
          clear hf hg
          go_wp2
          go_ret
          exact ⟨ret_m HF.out, HB.out⟩
        · have HOWN := hide (HO2.out.trans (if_neg (by omega)))
          have hg1 : ¬ (65535 : Int) < (i : Int) := by omega
          clear hf hg
          have hmemx : (⟨kd, false, 0, 0, fs⟩ ∈ (tys L).take k) ∨ ¬ (⟨kd, false, 0, 0, fs⟩ ∈ (tys L).take k) := Classical.em _
          by_cases h32 : 32 < mm + 1
          · have HF := hide (tyErr_deep (rg := rg) HPL.out HOWN.out HD.out h32)
            clear hmemx
            go_wp2_with fail
            go_ret
            exact ⟨ret_m HF.out, HB.out⟩
          · rcases hmemx with hmem | hmem
            · have HF := hide (tyErr_dup (rg := rg) HPL.out HOWN.out HD.out h32 hmem)
              have HM := hide hmem
              clear hmem
              go_wp2_with fail
              generalize (w.alloc (.cells #[.int .i64 kd, .bool false, .int .i64 0, .int .i64 0, .slice B i cf] 31)) = W at *
              have d0 := D0.out
              have d1 := D1.out
              have d2 := D2.out
              have d3 := D3.out
              have d4 := D4.out
              go_still_tail 4, (by kernel_rfl)
              go_wp2_with fail
              refine (RFindT_yes _ HTY.out HX.out (by unfold maxLen; omega) (by rw [tys_take]; exact HM.out)).mono ?_
              rintro e w1 ⟨s, rfl, hb1⟩
              have HB1 := hide (HB.out.drew.trans (hb1.mono HB.out.size))
              have hs0 : (0 : Int) ≤ (s : Int) := Int.natCast_nonneg _
              clear hb1
              go_wp2_with fail
              go_ret
              exact ⟨ret_m HF.out, HB1.out⟩
            · have HF := hide (tyErr_fine (rg := rg) HPL.out HOWN.out HD.out h32 hmem)
              have HM := hide hmem
              clear hmem
              go_wp2_with fail
              generalize (w.alloc (.cells #[.int .i64 kd, .bool false, .int .i64 0, .int .i64 0, .slice B i cf] 31)) = W at *
              have d0 := D0.out
              have d1 := D1.out
              have d2 := D2.out
              have d3 := D3.out
              have d4 := D4.out
              go_still_tail 4, (by kernel_rfl)
              go_wp2_with fail
              refine (RFindT_no _ HTY.out HX.out (by unfold maxLen; omega) (by rw [tys_take]; exact HM.out)).mono ?_
              rintro e w1 ⟨rfl, hb1⟩
              have HB1 := hide (HB.out.drew.trans (hb1.mono HB.out.size))
              clear hb1
              go_wp2_with fail
              go_ret
              exact ⟨ret_m HF.out, HB1.out⟩


theorem rcheck_any {A : Option Addr} {n c : Nat} {L : List TyW} {k : Nat} {x : TyW} {Ad : Option Addr} {cd : Nat} {rg : Int} {w : World} (h : RC A n c L k x Ad cd rg w) :
    Calls Try.prog 29 #[.slice A n c, .slice Ad k cd, .int .i64 (k : Int), .int .i64 rg] w fun e w' => e = .returned (.int .i64 (tyErr ((tys L).take k) x.t rg)) ∧ Below w.heap.size w w' := by
  obtain ⟨⟨kd, m, r, el, fs⟩, B, nf, cf⟩ := x
  by_cases h0 : kd < 0
  · exact rcheck_low A n c L k kd m r el fs B nf cf Ad cd rg w h h0
  by_cases h1 : 4 < kd
  · exact rcheck_high A n c L k kd m r el fs B nf cf Ad cd rg w h h1
  by_cases h3 : kd = 3
  · by_cases hf : nf = 0
    · exact rcheck_ref A n c L k kd m r el fs B nf cf Ad cd rg w h h3 hf
    · exact rcheck_full A n c L k kd m r el fs B nf cf Ad cd rg w h (by omega) (by omega) (by omega) (fun h => absurd h3 h) (by omega)
  by_cases hbad : m = true ∨ r ≠ 0 ∨ el ≠ 0
  · exact rcheck_bad A n c L k kd m r el fs B nf cf Ad cd rg w h (by omega) (by omega) h3 hbad
  have hm : m = false := by
    cases hm : m
    · rfl
    · exact absurd (.inl hm) hbad
  have hr : r = 0 := Classical.byContradiction fun h => hbad (.inr (.inl h))
  have he : el = 0 := Classical.byContradiction fun h => hbad (.inr (.inr h))
  by_cases h4 : kd = 4
  · exact rcheck_tup A n c L k kd m r el fs B nf cf Ad cd rg w h h4 hm hr he
  · by_cases hf : nf = 0
    · exact rcheck_plain A n c L k kd m r el fs B nf cf Ad cd rg w h (by omega) (by omega) h3 h4 hm hr he hf
    · exact rcheck_full A n c L k kd m r el fs B nf cf Ad cd rg w h (by omega) (by omega) h4 (fun _ => ⟨hm, hr, he⟩) (by omega)
theorem rcheck_is {A : Option Addr} {n c : Nat} {L : List TyW} {k : Nat} {x : TyW} {Ad : Option Addr} {cd : Nat} {rg v : Int} {w : World} (h : RC A n c L k x Ad cd rg w) (hv : tyErr ((tys L).take k) x.t rg = v) :
    Calls Try.prog 29 #[.slice A n c, .slice Ad k cd, .int .i64 (k : Int), .int .i64 rg] w fun e w' => e = .returned (.int .i64 v) ∧ Below w.heap.size w w' := hv ▸ rcheck_any h
end Go.Proofs.Ytkcgonggokhneaa
