/- What container reads: the header, a frame. -/
import Derived.Test.YtgfeimlieibjhaaContW
import Derived.Test.YtgfeimlieibjhaaGet
import Derived.Test.YtgfeimlieibjhaaCrcChk
set_option linter.unusedVariables false
namespace Go.Proofs.Ytgfeimlieibjhaa
open Go.RowKit

theorem HasPrefix_any (A B : Option Addr) (n m c d : Nat) (xs ys : List Int) (w : World) (k l : Nat) (hx : Rd w k A n (u8s xs)) (hy : Rd w l B m (u8s ys)) (bx : Byt xs) (b_y : Byt ys) (hnc : n ≤ c) :
    Calls Try.prog 50 #[.slice A n c, .slice B m d] w fun e w' => e = .returned (.bool (eqB (xs.take m) ys)) ∧ w = w' := by
  have hxl : xs.length = n := by simpa using hx.1
  have hyl : ys.length = m := by simpa using hy.1
  by_cases hm : m ≤ n
  · have hz := hx.to_ (k := m) hm
    rw [← List.map_take] at hz
    have hh : decide ((m : Int) ≤ (n : Int)) = true := by simp; omega
    have h0 : m ≤ c := by omega
    have HE := hide (Equal_any A B m m c d (xs.take m) ys w k l hz hy (bx.take m) b_y)
    clear hz hxl hyl
    go_enter Try.func50, Try.ntmps50
    go_wp2_with fail
    refine HE.out.mono ?_
    rintro e w' ⟨rfl, rfl⟩
    go_wp2_with fail
    go_ret
    exact ⟨rfl, rfl⟩
  · have hh : decide ((m : Int) ≤ (n : Int)) = false := by simp; omega
    have HE : Hid (eqB (xs.take m) ys = false) := by
      show _ = _
      unfold eqB
      rw [decide_eq_false_iff_not]
      intro h
      have := congrArg List.length h
      rw [List.length_take] at this
      omega
    clear hxl hyl
    go_enter Try.func50, Try.ntmps50
    go_wp2_with fail
    go_ret
    exact ⟨congrArg (fun v => Ending.returned (.bool v)) HE.out.symm, rfl⟩

set_option maxRecDepth 100000 in
set_option maxHeartbeats 1000000 in
theorem header_any (A : Option Addr) (n c : Nat) (xs : List Int) (w : World) (B : Nat) (hr : Rd w B A n (u8s xs)) (hB : B ≤ w.heap.size) (hx : Byt xs) (hnc : n ≤ c) (hcm : c ≤ maxLen) :
    Calls Try.prog 46 #[.slice A n c] w fun e w' => e = .returned (.int .i64 (hdr xs)) ∧ Below w.heap.size w w' := by
  have hl : xs.length = n := by simpa using hr.1
  unfold maxLen at hcm
  have hw1 := hide ((Below.refl w.heap.size w).alloc (Nat.le_refl _) (.cells #[.int .u8 77, .int .u8 73, .int .u8 82, .int .u8 84] 5 (4, 5)))
  have HP := hide (HasPrefix_any A (some ⟨w.heap.size, 0, none⟩) n 4 c 4 xs [77, 73, 82, 84] _ _ _ (hr.below (hw1.out.mono hB)) (Rd_mark w [77, 73, 82, 84] 5 (4, 5)) hx (by intro x hx; simp only [List.mem_cons, List.not_mem_nil, or_false] at hx; omega) hnc)
  have kc := fun (w : World) (C : Array Value) (n c : Nat) => Lib.run_convert_bytes_const (P := Try.prog) w 29 5 C n c Try.underlying29 Try.underlying5
  by_cases h4 : xs.take 4 = [77, 73, 82, 84]
  · have e1 : eqB (xs.take 4) [77, 73, 82, 84] = true := by rw [h4]; rfl
    rw [e1] at HP
    have hn4 : 4 ≤ n := by have := congrArg List.length h4; simp at this; omega
    by_cases hn : n = 4
    · have hd : Hid (hdr xs = 4) := by show _ = _; unfold hdr; rw [if_neg (by simp [h4]), if_pos (by omega)]
      have t1 : ((n : Int) == 4) = true := by simp; omega
      clear h4 e1 hl hn
      go_enter Try.func46, Try.ntmps46
      go_wp2_with fail
      refine HP.out.mono ?_
      rintro e w1 ⟨rfl, rfl⟩
      go_wp2_with fail
      go_ret
      exact ⟨congrArg (fun v => Ending.returned (.int .i64 v)) hd.out.symm, hw1.out⟩
    · have t1 : ((n : Int) == 4) = false := by simp; omega
      have hi4 : ∃ x, xs[4]? = some x := ⟨_, List.getElem?_eq_getElem (by omega)⟩
      obtain ⟨x, hx4⟩ := hi4
      obtain ⟨b, o, rfl, hbB, hcell⟩ := hr.cell (k := 4) (u := .int .u8 x) (by rw [List.getElem?_map, hx4]; rfl)
      have hc1 := (hw1.out.cell (p := ⟨b, o + 4, none⟩) (Nat.lt_of_lt_of_le hbB hB)).trans hcell
      have hx0 := hx.at hx4
      have i1 : (4 : Int) < (n : Int) := by omega
      have i2 : 4 < n := by omega
      have hgd : xs.getD 4 0 = x := by rw [List.getD_eq_getElem?_getD, hx4]; rfl
      by_cases h1 : x = 1
      · have hd : Hid (hdr xs = 0) := by show _ = _; unfold hdr; rw [if_neg (by simp [h4]), if_neg (by omega), if_neg (by rw [hgd]; simp [h1])]
        have t2 : (x != 1) = false := by simp [h1]
        clear h4 e1 hl hn h1 hgd hx4 hr hcell
        go_enter Try.func46, Try.ntmps46
        go_wp2_with fail
        refine HP.out.mono ?_
        rintro e w1 ⟨rfl, rfl⟩
        go_wp2_with fail
        go_ret
        exact ⟨congrArg (fun v => Ending.returned (.int .i64 v)) hd.out.symm, hw1.out⟩
      · have hd : Hid (hdr xs = 8) := by show _ = _; unfold hdr; rw [if_neg (by simp [h4]), if_neg (by omega), if_pos (by rw [hgd]; exact h1)]
        have t2 : (x != 1) = true := by simp [h1]
        clear h4 e1 hl hn h1 hgd hx4 hr hcell
        go_enter Try.func46, Try.ntmps46
        go_wp2_with fail
        refine HP.out.mono ?_
        rintro e w1 ⟨rfl, rfl⟩
        go_wp2_with fail
        go_ret
        exact ⟨congrArg (fun v => Ending.returned (.int .i64 v)) hd.out.symm, hw1.out⟩
  · have e1 : eqB (xs.take 4) [77, 73, 82, 84] = false := by unfold eqB; simpa using h4
    rw [e1] at HP
    have hd : Hid (hdr xs = 7) := by show _ = _; unfold hdr; rw [if_pos h4]
    clear h4 e1 hl
    go_enter Try.func46, Try.ntmps46
    go_wp2_with fail
    refine HP.out.mono ?_
    rintro e w1 ⟨rfl, rfl⟩
    go_wp2_with fail
    go_ret
    exact ⟨congrArg (fun v => Ending.returned (.int .i64 v)) hd.out.symm, hw1.out⟩

/-! ### a frame -/
def frV (f : Fr) : Value := .agg #[.int .i64 f.id, .int .i64 (f.fr : Int), .int .i64 (f.to : Int)]
def frRes (f : Fr) : Value := .tuple #[frV f, .int .i64 f.e]
theorem frm_1 {xs : List Int} {a : Nat} {b : Int} (h : folB (xs.getD a 0) b = false) : frm xs a b = .err 9 := by unfold frm; rw [if_pos h]
theorem frm_2 {xs : List Int} {a : Nat} {b : Int} (h : folB (xs.getD a 0) b = true) (h2 : gE xs ((a : Int) + 1) ≠ 0) : frm xs a b = .err (gE xs ((a : Int) + 1)) := by unfold frm; rw [if_neg (by rw [h]; decide), if_pos h2]
theorem frm_3 {xs : List Int} {a n l : Nat} {b : Int} (h : folB (xs.getD a 0) b = true) (h2 : gE xs ((a : Int) + 1) = 0) (hN : gN xs ((a : Int) + 1) = n) (hT : gT xs ((a : Int) + 1) = l) (h3 : xs.length < l + 4 ∨ xs.length < l + n + 4) : frm xs a b = .err 4 := by
  unfold frm
  rw [if_neg (by rw [h]; decide), if_neg (by simp [h2]), hN, hT, if_pos (by omega)]
theorem frm_4 {xs : List Int} {a n l : Nat} {b : Int} (h : folB (xs.getD a 0) b = true) (h2 : gE xs ((a : Int) + 1) = 0) (hN : gN xs ((a : Int) + 1) = n) (hT : gT xs ((a : Int) + 1) = l) (h3 : l + n + 4 ≤ xs.length) (h4 : chk ((xs.drop l).take (n + 4)) = false) : frm xs a b = .err 10 := by
  unfold frm
  rw [if_neg (by rw [h]; decide), if_neg (by simp [h2]), hN, hT, if_neg (by omega), Int.toNat_natCast, Int.toNat_natCast, if_pos h4]
theorem frm_5 {xs : List Int} {a n l : Nat} {b : Int} (h : folB (xs.getD a 0) b = true) (h2 : gE xs ((a : Int) + 1) = 0) (hN : gN xs ((a : Int) + 1) = n) (hT : gT xs ((a : Int) + 1) = l) (h3 : l + n + 4 ≤ xs.length) (h4 : chk ((xs.drop l).take (n + 4)) = true) : frm xs a b = ⟨xs.getD a 0, l, l + n, 0⟩ := by
  unfold frm
  rw [if_neg (by rw [h]; decide), if_neg (by simp [h2]), hN, hT, if_neg (by omega), Int.toNat_natCast, Int.toNat_natCast, if_neg (by simp [h4])]

set_option maxRecDepth 100000 in
set_option maxHeartbeats 4000000 in
theorem frameAt_any (A : Option Addr) (n c a : Nat) (b : Int) (xs : List Int) (w : World) (B : Nat) (hr : Rd w B A n (u8s xs)) (hB : B ≤ w.heap.size) (hx : Byt xs) (hnc : n ≤ c) (hcm : c ≤ maxLen) (hn : n ≤ 1000000) (ha : a < n) :
    Calls Try.prog 47 #[.slice A n c, .int .i64 (a : Int), .int .i64 b] w fun e w' => e = .returned (frRes (frm xs a b)) ∧ Below w.heap.size w w' := by
  have hl : xs.length = n := by simpa using hr.1
  unfold maxLen at hcm
  have hex : ∃ x, xs[a]? = some x := ⟨_, List.getElem?_eq_getElem (by omega)⟩
  obtain ⟨x, hxa⟩ := hex
  have hgd : xs.getD a 0 = x := by rw [List.getD_eq_getElem?_getD, hxa]; rfl
  obtain ⟨g, o, rfl, hbB, hcell⟩ := hr.cell (k := a) (u := .int .u8 x) (by rw [List.getElem?_map, hxa]; rfl)
  have hx0 := hx.at hxa
  have hw1 := hide ((Below.refl w.heap.size w).alloc (Nat.le_refl _) (.cells #[.int .i64 0, .int .i64 0, .int .i64 0] 63))
  have HG := hide (Get_any (some ⟨g, o, none⟩) n c ((a : Int) + 1) xs _ (hr.below (hw1.out.mono hB)) hx hnc (by unfold maxLen; omega))
  unfold gRes at HG
  have hc1 := (hw1.out.cell (p := ⟨g, o + a, none⟩) (Nat.lt_of_lt_of_le hbB hB)).trans hcell
  clear hxa hcell
  rcases hf : folB x b with _ | _
  · have hF := hide (frm_1 (b := b) (hgd ▸ hf))
    have hf' := hide hf
    clear hf hgd hl hr
    go_enter Try.func47, Try.ntmps47
    go_wp2_with fail
    refine (follows_any _ _ _).mono ?_
    rintro e w' ⟨rfl, rfl⟩
    rw [hf'.out]
    go_wp2_with fail
    refine bodyPost_ret (v := frRes (.err 9)) (by simp [results, Try.results47, go_sem, frRes, frV, Fr.err]) rfl ⟨by rw [hF.out], ?_⟩
    exact hw1.out
  · have hf' := hide hf
    by_cases he : gE xs ((a : Int) + 1) = 0
    · have he' := he
      rw [show ((a : Int) + 1) = ((a + 1 : Nat) : Int) by omega] at he'
      obtain ⟨_, N, l, _, _, hal, hN, hT⟩ := g_ok he'
      rw [show ((a + 1 : Nat) : Int) = ((a : Int) + 1) by omega] at hN hT
      generalize hF : a + 1 + l = F at *
      rw [he, hN, hT] at HG
      have hF1 : a + 1 < F := by omega
      have hFn : F ≤ n := by omega
      clear he' hF
      by_cases h3 : n < F + 4
      · have hF := hide (frm_3 (b := b) (hgd ▸ hf) he hN hT (.inl (by omega)))
        have t1 : decide ((n : Int) - (F : Int) - 4 < 0) = true := by simp; omega
        clear hf hgd hl hr he hN hT hal h3
        go_enter Try.func47, Try.ntmps47
        go_wp2_with fail
        refine (follows_any _ _ _).mono ?_
        rintro e w' ⟨rfl, rfl⟩
        rw [hf'.out]
        go_wp2_with fail
        refine HG.out.mono ?_
        rintro e w' ⟨rfl, rfl⟩
        go_wp2_with fail
        refine bodyPost_ret (v := frRes (.err 4)) (by simp [results, Try.results47, go_sem, frRes, frV, Fr.err]) rfl ⟨by rw [hF.out], hw1.out⟩
      · have t1 : decide ((n : Int) - (F : Int) - 4 < 0) = false := by simp; omega
        have t2 : (0 : Int) ≤ (n : Int) - (F : Int) - 4 := by omega
        by_cases h4 : n < F + N + 4
        · have hF := hide (frm_3 (b := b) (hgd ▸ hf) he hN hT (.inr (by omega)))
          have t3 : (n : Int) - (F : Int) - 4 < (N : Int) := by omega
          clear hf hgd hl hr he hN hT hal h3 h4
          go_enter Try.func47, Try.ntmps47
          go_wp2_with fail
          refine (follows_any _ _ _).mono ?_
          rintro e w' ⟨rfl, rfl⟩
          rw [hf'.out]
          go_wp2_with fail
          refine HG.out.mono ?_
          rintro e w' ⟨rfl, rfl⟩
          go_wp2_with fail
          refine bodyPost_ret (v := frRes (.err 4)) (by simp [results, Try.results47, go_sem, frRes, frV, Fr.err]) rfl ⟨by rw [hF.out], hw1.out⟩
        · have t3 : ¬ ((n : Int) - (F : Int) - 4 < (N : Int)) := by omega
          have hsub := (hr.from_ (k := F) (cap := c) (by omega) (by omega)).to_ (k := N + 4) (by omega)
          rw [if_neg (by omega), ← List.map_drop, ← List.map_take] at hsub
          have k1 : ¬ c = F := by omega
          have k2 : F + N + 4 ≤ c := by omega
          have k3 : F ≤ c := by omega
          have k4 : N < 1000000 := by omega
          have hnn : F + N + 4 - F = N + 4 := by omega
          have HK := hide (Check_any (some ⟨g, o + F, none⟩) (N + 4) (c - F) _ _ B (by
            have h := hsub.below (hw1.out.mono hB)
            simp only [Option.map_some, Addr.add] at h
            rwa [if_neg (by omega)] at h) (Nat.le_trans hB hw1.out.size) ((hx.drop F).take (N + 4)) (by omega) (by unfold maxLen; omega))
          rcases hk : chk ((xs.drop F).take (N + 4)) with _ | _
          · have hF := hide (frm_4 (b := b) (hgd ▸ hf) he hN hT (by omega) hk)
            rw [hk] at HK
            clear hf hgd hl hr he hN hT hal h3 h4 hsub hk
            go_enter Try.func47, Try.ntmps47
            go_wp2_with fail
            refine (follows_any _ _ _).mono ?_
            rintro e w' ⟨rfl, rfl⟩
            rw [hf'.out]
            go_wp2_with fail
            refine HG.out.mono ?_
            rintro e w' ⟨rfl, rfl⟩
            go_wp2_with fail
            refine HK.out.mono ?_
            rintro e w2 ⟨rfl, hb2⟩
            have hb := hw1.out.trans (hb2.mono hw1.out.size)
            have f0 := (hb2.cell (p := ⟨w.heap.size, 0, none⟩) (by simp)).trans (show _ = some (Value.int .i64 0) by simp [go_sem])
            have f1 := (hb2.cell (p := ⟨w.heap.size, 1, none⟩) (by simp)).trans (show _ = some (Value.int .i64 0) by simp [go_sem])
            have f2 := (hb2.cell (p := ⟨w.heap.size, 2, none⟩) (by simp)).trans (show _ = some (Value.int .i64 0) by simp [go_sem])
            have z0 := (hb2.frozen (p := ⟨w.heap.size, 0, none⟩) (by simp)).trans (show _ = false by simp [go_sem])
            have z1 := (hb2.frozen (p := ⟨w.heap.size, 1, none⟩) (by simp)).trans (show _ = false by simp [go_sem])
            have z2 := (hb2.frozen (p := ⟨w.heap.size, 2, none⟩) (by simp)).trans (show _ = false by simp [go_sem])
            go_wp2_with fail
            refine bodyPost_ret (v := frRes (.err 10)) (by simp [results, Try.results47, go_sem, frRes, frV, Fr.err, f0, f1, f2]) rfl ⟨by rw [hF.out], ?_⟩
            exact ((hb.setCell (p := ⟨w.heap.size, 0, none⟩) (Nat.le_refl _) _).setCell (p := ⟨w.heap.size, 1, none⟩) (Nat.le_refl _) _).setCell (p := ⟨w.heap.size, 2, none⟩) (Nat.le_refl _) _
          · have hF := hide (frm_5 (b := b) (hgd ▸ hf) he hN hT (by omega) hk)
            rw [hk] at HK
            rw [hgd] at hF
            clear hf hgd hl hr he hN hT hal h3 h4 hsub hk
            go_enter Try.func47, Try.ntmps47
            go_wp2_with fail
            refine (follows_any _ _ _).mono ?_
            rintro e w' ⟨rfl, rfl⟩
            rw [hf'.out]
            go_wp2_with fail
            refine HG.out.mono ?_
            rintro e w' ⟨rfl, rfl⟩
            go_wp2_with fail
            refine HK.out.mono ?_
            rintro e w2 ⟨rfl, hb2⟩
            have hb := hw1.out.trans (hb2.mono hw1.out.size)
            have f0 := (hb2.cell (p := ⟨w.heap.size, 0, none⟩) (by simp)).trans (show _ = some (Value.int .i64 0) by simp [go_sem])
            have f1 := (hb2.cell (p := ⟨w.heap.size, 1, none⟩) (by simp)).trans (show _ = some (Value.int .i64 0) by simp [go_sem])
            have f2 := (hb2.cell (p := ⟨w.heap.size, 2, none⟩) (by simp)).trans (show _ = some (Value.int .i64 0) by simp [go_sem])
            have z0 := (hb2.frozen (p := ⟨w.heap.size, 0, none⟩) (by simp)).trans (show _ = false by simp [go_sem])
            have z1 := (hb2.frozen (p := ⟨w.heap.size, 1, none⟩) (by simp)).trans (show _ = false by simp [go_sem])
            have z2 := (hb2.frozen (p := ⟨w.heap.size, 2, none⟩) (by simp)).trans (show _ = false by simp [go_sem])
            go_wp2_with fail
            trace_state
            refine bodyPost_ret (v := frRes ⟨x, F, F + N, 0⟩) (by simp [results, Try.results47, go_sem, frRes, frV, f0, f1, f2]) rfl ⟨by rw [hF.out], ?_⟩
            exact ((hb.setCell (p := ⟨w.heap.size, 0, none⟩) (Nat.le_refl _) _).setCell (p := ⟨w.heap.size, 1, none⟩) (Nat.le_refl _) _).setCell (p := ⟨w.heap.size, 2, none⟩) (Nat.le_refl _) _
    · have hF := hide (frm_2 (b := b) (hgd ▸ hf) he)
      have hr6 := gE_rng xs (a + 1)
      rw [show ((a + 1 : Nat) : Int) = ((a : Int) + 1) by omega] at hr6
      generalize gE xs ((a : Int) + 1) = E at *
      have he' : (E != 0) = true := by simpa using he
      clear hf hgd hl hr he
      go_enter Try.func47, Try.ntmps47
      go_wp2_with fail
      refine (follows_any _ _ _).mono ?_
      rintro e w' ⟨rfl, rfl⟩
      rw [hf'.out]
      go_wp2_with fail
      refine HG.out.mono ?_
      rintro e w' ⟨rfl, rfl⟩
      go_wp2_with fail
      refine bodyPost_ret (v := frRes (.err E)) (by simp [results, Try.results47, go_sem, frRes, frV, Fr.err]) rfl ⟨by rw [hF.out], hw1.out⟩
end Go.Proofs.Ytgfeimlieibjhaa
