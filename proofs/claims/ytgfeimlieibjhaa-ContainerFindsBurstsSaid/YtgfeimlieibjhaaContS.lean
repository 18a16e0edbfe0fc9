/- container.Read, container.Spans; the reference's Read; what the law's 'same' compares. -/
import Derived.Test.YtgfeimlieibjhaaContE
import Derived.Test.YtgfeimlieibjhaaContR
set_option linter.unusedVariables false
namespace Go.Proofs.Ytgfeimlieibjhaa
open Go.RowKit

theorem Read_any (A : Option Addr) (nn c : Nat) (xs : List Int) (w : World) (hr : Rd w w.heap.size A nn (u8s xs)) (hx : Byt xs) (hnc : nn ≤ c) (hcm : c ≤ maxLen) (hle : nn ≤ 1000000) :
    Calls Try.prog 15 #[.slice A nn c] w fun e w' => ∃ v, e = .returned (.tuple #[v, .int .i64 (rdE xs)]) ∧ Coll w' w.heap.size v (rdL xs) ∧ Below w.heap.size w w' := by
  have hb1 := hide ((Below.refl w.heap.size w).alloc (Nat.le_refl _) (.cells #[.slice A nn c] 29))
  have HC := hide (callsIn_wide.1 (collect1_in w.heap.size A nn c xs (w.alloc (.cells #[.slice A nn c] 29)) (by simp [go_sem]) ((hr.below hb1.out).more hb1.out.size) hx hnc hcm hle))
  clear hr
  go_enter Try.func15, Try.ntmps15
  go_wp2_with fail
  refine HC.out.mono ?_
  rintro e w2 ⟨v, rfl, hc, hb⟩
  have HB := hide (hb1.out.trans (hb.mono hb1.out.size))
  have HC2 := hide (hc.lower hb1.out.size)
  clear hb hc HC
  go_wp2_with fail
  go_ret2
  exact ⟨_, rfl, HC2.out, HB.out⟩

theorem Spans_any (A : Option Addr) (nn c : Nat) (xs : List Int) (w : World) (hr : Rd w w.heap.size A nn (u8s xs)) (hx : Byt xs) (hnc : nn ≤ c) (hcm : c ≤ maxLen) (hle : nn ≤ 1000000) :
    Calls Try.prog 16 #[.slice A nn c] w fun e w' => ∃ v, e = .returned (.tuple #[v, .int .i64 (rdE xs)]) ∧ CollP w' w.heap.size v (rdP xs) ∧ Below w.heap.size w w' := by
  have HC := hide (callsIn_wide.1 (collect2_in A nn c xs w hr hx hnc hcm hle))
  clear hr
  go_enter Try.func16, Try.ntmps16
  go_wp2_with fail
  refine HC.out.mono ?_
  rintro e w2 ⟨v, rfl, hc, hb⟩
  have HB := hide hb
  have HC2 := hide hc
  clear hb hc HC
  go_wp2_with fail
  go_ret2
  exact ⟨_, rfl, HC2.out, HB.out⟩

/-! ### the reference -/
/-- the sections that the reference has collected so far, with their offsets -/
def Coll4 (W : World) (base : Nat) (v : Value) (S : List Sec) (P : List (Nat × Nat)) : Prop := ∃ L : List SecW, W.ownsRow base 46 4 v L.length (L.flatMap c4) ∧ (∀ y ∈ L, Dat W base v.ownBlock y) ∧ vals L = S ∧ L.map (fun y => (y.fr, y.to)) = P
theorem infoSec4 : (Try.prog.info? 46).map (fun i => (i.zero, i.size, i.bytes)) = some (some (.agg #[.int .i64 0, .slice none 0 0, .int .i64 0, .int .i64 0]), 4, 48) := by kernel_rfl

theorem strConst {xs : List Int} (hx : Byt xs) : ((strOfNums xs).toList == [77, 73, 82, 84]) = eqB xs [77, 73, 82, 84] := by
  have h := strOfNums_beq (ys := [77, 73, 82, 84]) hx (by intro x hx; simp only [List.mem_cons, List.not_mem_nil, or_false] at hx; omega)
  have e : (strOfNums [77, 73, 82, 84]).toList = [77, 73, 82, 84] := by rw [Lib.strOfNums_toList]; decide
  rw [e] at h
  exact h
theorem rd_err {xs : List Int} {fs : List Fr} {e : Int} (h : fs ++ [Fr.err e] = yall xs) (h0 : ∀ f ∈ fs, f.e = 0) (he : e ≠ 0) : rdE xs = e ∧ rdL xs = [] ∧ rdP xs = [] := by
  have h1 : rdE xs = e := by unfold rdE; rw [← h, firstE_app h0, firstE_bad (by exact he)]; rfl
  refine ⟨h1, ?_, ?_⟩
  · unfold rdL rdF; rw [if_neg (by rw [h1]; exact he)]; rfl
  · unfold rdP rdF; rw [if_neg (by rw [h1]; exact he)]; rfl
theorem bad_hdr {xs : List Int} {e : Int} (hd : hdr xs = e) (he : e ≠ 0) : Hid (rdE xs = e ∧ rdL xs = [] ∧ rdP xs = []) := by
  subst hd
  exact rd_err (fs := []) (yall_bad he).symm (fun f hf => by cases hf) he
theorem rd_ok {xs : List Int} {fs : List Fr} (h : fs = yall xs) (h0 : ∀ f ∈ fs, f.e = 0) : rdE xs = 0 ∧ rdL xs = fs.map (fun f => (f.id, dat xs f)) ∧ rdP xs = fs.map (fun f => (f.fr, f.to)) := by
  have h1 : rdE xs = 0 := by unfold rdE; rw [← h]; exact firstE_all h0
  refine ⟨h1, ?_, ?_⟩
  · unfold rdL rdF; rw [if_pos h1, h]
  · unfold rdP rdF; rw [if_pos h1, h]
theorem Coll4.nil (W : World) (base : Nat) : Coll4 W base (.slice none 0 0) [] [] := ⟨[], World.ownsRow_nil _ _ _ _, (fun y hy => by cases hy), rfl, rfl⟩
theorem Coll4.below {W W' : World} {base : Nat} {v : Value} {S : List Sec} {P : List (Nat × Nat)} (h : Coll4 W base v S P) (hb : Below W.heap.size W W') : Coll4 W' base v S P := by
  obtain ⟨L, h2, h3, h4⟩ := h
  exact ⟨L, ownsRow_below h2 hb, fun y hy => (h3 y hy).below hb, h4⟩
theorem coll4_up {W w5 : World} {base : Nat} {v v5 : Value} {L : List SecW} {S : List Sec} {P : List (Nat × Nat)} {y : SecW} (hd : ∀ x ∈ L, Dat W base v.ownBlock x) (hv : vals L = S) (hp : L.map (fun y => (y.fr, y.to)) = P) (hy : Dat W base v.ownBlock y)
    (hown5 : w5.ownsRow base 46 4 v5 (L.length + 1) (L.flatMap c4 ++ c4 y)) (hg : W.grownBy w5 v.ownBlock) (hat : v5.ownBlock = v.ownBlock ∨ v5.ownBlock = some W.heap.size) : Coll4 w5 base v5 (S ++ [y.v]) (P ++ [(y.fr, y.to)]) := by
  refine ⟨L ++ [y], by simpa using hown5, fun x hx => ?_, by rw [← hv]; simp, by rw [← hp]; simp⟩
  rcases List.mem_append.1 hx with hx | hx
  · exact (hd x hx).grown hg hat
  · obtain rfl : x = y := by simpa using hx
    exact hy.grown hg hat

/-- what the reference's Read returns -/
def Ref4 (w : World) (xs : List Int) (e : Ending) (w' : World) : Prop := ∃ v, e = .returned (.tuple #[v, .int .i64 (rdE xs)]) ∧ Coll4 w' w.heap.size v (rdL xs) (rdP xs) ∧ Below w.heap.size w w'
theorem ref4_err {w w' : World} {xs : List Int} {e : Int} (h : Hid (rdE xs = e ∧ rdL xs = [] ∧ rdP xs = [])) (hb : Below w.heap.size w w') : Ref4 w xs (.returned (.tuple #[.slice none 0 0, .int .i64 e])) w' := by
  refine ⟨_, by rw [h.out.1], ?_, hb⟩
  rw [h.out.2.1, h.out.2.2]
  exact Coll4.nil _ _

set_option maxHeartbeats 8000000 in
set_option maxRecDepth 100000 in
theorem RefRead_any (A : Option Addr) (nn c : Nat) (xs : List Int) (w : World) (hr : Rd w w.heap.size A nn (u8s xs)) (hx : Byt xs) (hnc : nn ≤ c) (hcm : c ≤ maxLen) (hle : nn ≤ 1000000) :
    Calls Try.prog 17 #[.slice A nn c] w (Ref4 w xs) := by
  have hl : xs.length = nn := by simpa using hr.1
  have hHL := hide hl
  obtain ⟨i0, hi, hz0, hz1, hz2⟩ := info_parts infoSec4
  obtain ⟨j0, hj, hy0, hy1, hy2⟩ := info_parts infoU8
  have HR := hide hr
  unfold maxLen at hcm
  by_cases h4 : 4 ≤ nn
  · have hz := hr.to_ (k := 4) (by omega)
    rw [← List.map_take] at hz
    have hcv := hz.convert (c := c) 29 5 9 Try.underlying29 Try.underlying5 Try.underlying9
    have k1 : 4 ≤ c := by omega
    have t1 : ¬ (nn : Int) < 4 := by omega
    have hsc := strConst (hx.take 4)
    by_cases hm : xs.take 4 = [77, 73, 82, 84]
    · have e1 : eqB (xs.take 4) [77, 73, 82, 84] = true := by rw [hm]; rfl
      rw [e1] at hsc
      by_cases h5 : nn = 4
      · have hd : hdr xs = 4 := by unfold hdr; rw [if_neg (by simp [hm]), if_pos (by omega)]
        have hE := bad_hdr hd (by decide)
        have t2 : (nn : Int) < 5 := by omega
        clear hz hl hm e1 hd
        go_enter Try.func17, Try.ntmps17
        go_wp2_with fail
        go_ret2
        exact ref4_err hE (Below.refl _ _)
      · have t2 : ¬ (nn : Int) < 5 := by omega
        have hi4 : ∃ x, xs[4]? = some x := ⟨_, List.getElem?_eq_getElem (by omega)⟩
        obtain ⟨x, hx4⟩ := hi4
        obtain ⟨b, o, rfl, hbB, hcell⟩ := hr.cell (k := 4) (u := .int .u8 x) (by rw [List.getElem?_map, hx4]; rfl)
        have hgd : xs.getD 4 0 = x := by rw [List.getD_eq_getElem?_getD, hx4]; rfl
        have i1 : (4 : Int) < (nn : Int) := by omega
        have i2 : 4 < nn := by omega
        by_cases h1 : x = 1
        · have hd : hdr xs = 0 := by unfold hdr; rw [if_neg (by simp [hm]), if_neg (by omega), if_neg (by rw [hgd]; simp [h1])]
          have hy := hide (yall_good hd)
          have t3 : (x != 1) = false := by simp [h1]
          clear hz hl hm e1 hd h1 hgd hx4 hr
          go_enter Try.func17, Try.ntmps17
          go_wp2_with fail
          go_loopw [4, 5, 6] (fun v q p wr => ∃ (fs : List Fr) (a : Nat) (bb : Int), p = .int .i64 (a : Int) ∧ q = .int .i64 bb ∧ a ≤ nn ∧ Hid (fs ++ seq xs a bb = yall xs) ∧ Hid (∀ f ∈ fs, f.e = 0) ∧ Coll4 wr w.heap.size v (fs.map fun f => (f.id, dat xs f)) (fs.map fun f => (f.fr, f.to)) ∧ Below w.heap.size w wr) (fun _ _ p _ => nn - (intOf p).toNat)
          case atStart => exact ⟨[], 5, 0, rfl, rfl, by omega, (show _ = _ by rw [hy.out]; rfl), (fun f hf => by cases hf), Coll4.nil _ _, Below.refl _ _⟩
          case round =>
            obtain ⟨fs, a, bb, rfl, rfl, han, HP, HZ, hcoll, hb⟩ := hrel
            by_cases hlt : a < nn
            · have hex : ∃ z, xs[a]? = some z := ⟨_, List.getElem?_eq_getElem (by rw [hHL.out]; exact hlt)⟩
              obtain ⟨z, hxa⟩ := hex
              have hgd : xs.getD a 0 = z := by rw [List.getD_eq_getElem?_getD, hxa]; rfl
              obtain ⟨b2, o2, e2, _, hc2⟩ := HR.out.cell (k := a) (u := .int .u8 z) (by rw [List.getElem?_map, hxa]; rfl)
              injection e2 with e2
              injection e2 with e3 e4
              subst e3 e4
              have hca := (hb.cell (p := ⟨b, o + a, none⟩) hbB).trans hc2
              have hzb := hx.at hxa
              have HB := hide hb
              have HG := hide (RefGet_any (some ⟨b, o, none⟩) nn c ((a : Int) + 1) xs wr (HR.out.below hb) hx (by unfold maxLen; omega))
              unfold gRes at HG
              have hsq := HP
              clear hc2 hxa
              rcases hf : folB z bb with _ | _
              · have hfr := frm_1 (b := bb) (hgd ▸ hf)
                rw [seq_err (by rw [hHL.out]; exact hlt) (by rw [hfr]; decide), hfr] at hsq
                have hE := hide (rd_err hsq.out HZ.out (by decide))
                have hno := folB_no hf
                clear hf hfr hsq hgd hb hcoll
                rcases hno with g1 | ⟨g1, g2⟩
                · go_wp2_with fail
                  go_ret2
                  exact ref4_err hE HB.out
                · go_wp2_with fail
                  go_ret2
                  exact ref4_err hE HB.out
              · obtain ⟨g1, g2⟩ := folB_iff.1 hf
                have q1 : decide (z ≤ bb) = false := by simp; omega
                have q2 : ¬ 127 < z := by omega
                by_cases he : gE xs ((a : Int) + 1) = 0
                · have he' := he
                  rw [show ((a : Int) + 1) = ((a + 1 : Nat) : Int) by omega] at he'
                  obtain ⟨_, N, l, _, _, hal, hN, hT⟩ := g_ok he'
                  rw [show ((a + 1 : Nat) : Int) = ((a : Int) + 1) by omega] at hN hT
                  generalize hFF : a + 1 + l = F at *
                  rw [he, hN, hT] at HG
                  have hF1 : a + 1 < F := by omega
                  rw [hHL.out] at hal
                  clear he' hFF
                  by_cases h3 : nn < F + 4
                  · have hfr := frm_3 (b := bb) (hgd ▸ hf) he hN hT (.inl (by rw [hHL.out]; omega))
                    rw [seq_err (by rw [hHL.out]; exact hlt) (by rw [hfr]; decide), hfr] at hsq
                    have hE := hide (rd_err hsq.out HZ.out (by decide))
                    have t4 : (nn : Int) - (F : Int) < 4 := by omega
                    clear hf hfr hsq hgd hb hcoll he hN hT h3
                    go_wp2_with fail
                    refine HG.out.mono ?_
                    rintro e w' ⟨rfl, rfl⟩
                    go_wp2_with fail
                    go_ret2
                    exact ref4_err hE HB.out
                  · have t4 : ¬ (nn : Int) - (F : Int) < 4 := by omega
                    have t5 : (0 : Int) ≤ (nn : Int) - (F : Int) - 4 := by omega
                    by_cases h4 : nn < F + N + 4
                    · have hfr := frm_3 (b := bb) (hgd ▸ hf) he hN hT (.inr (by rw [hHL.out]; omega))
                      rw [seq_err (by rw [hHL.out]; exact hlt) (by rw [hfr]; decide), hfr] at hsq
                      have hE := hide (rd_err hsq.out HZ.out (by decide))
                      have t6 : (nn : Int) - (F : Int) - 4 < (N : Int) := by omega
                      clear hf hfr hsq hgd hb hcoll he hN hT h3 h4
                      go_wp2_with fail
                      refine HG.out.mono ?_
                      rintro e w' ⟨rfl, rfl⟩
                      go_wp2_with fail
                      go_ret2
                      exact ref4_err hE HB.out
                    · have t6 : ¬ ((nn : Int) - (F : Int) - 4 < (N : Int)) := by omega
                      have hsub0 := (HR.out.from_ (k := F) (cap := c) (by omega) (by omega)).to_ (k := N + 4) (by omega)
                      rw [if_neg (by omega), ← List.map_drop, ← List.map_take] at hsub0
                      simp only [Option.map_some, Addr.add] at hsub0
                      rw [if_neg (by omega)] at hsub0
                      have hsub1 := hsub0.to_ (k := N) (by omega)
                      rw [← List.map_take, List.take_take, Nat.min_eq_left (by omega)] at hsub1
                      have k2 : ¬ c = F := by omega
                      have k3 : F + N + 4 ≤ c := by omega
                      have k4 : F ≤ c := by omega
                      have k5 : N < 1000000 := by omega
                      have k6 : F + N ≤ c := by omega
                      have hnn : F + N + 4 - F = N + 4 := by omega
                      have hnn2 : F + N - F = N := by omega
                      have HK := hide (RefCheck_any (some ⟨b, o + F, none⟩) (N + 4) (c - F) _ _ w.heap.size (hsub0.below HB.out) HB.out.size ((hx.drop F).take (N + 4)) (by omega) (by unfold maxLen; omega))
                      have HS1 := hide hsub1
                      rcases hk : chk ((xs.drop F).take (N + 4)) with _ | _
                      · have hfr := frm_4 (b := bb) (hgd ▸ hf) he hN hT (by rw [hHL.out]; omega) hk
                        rw [hk] at HK
                        rw [seq_err (by rw [hHL.out]; exact hlt) (by rw [hfr]; decide), hfr] at hsq
                        have hE := hide (rd_err hsq.out HZ.out (by decide))
                        clear hf hfr hsq hgd hb hcoll he hN hT h3 h4 hsub0 hsub1 hk
                        go_wp2_with fail
                        refine HG.out.mono ?_
                        rintro e w' ⟨rfl, rfl⟩
                        go_wp2_with fail
                        refine HK.out.mono ?_
                        rintro e w2 ⟨rfl, hb2⟩
                        have HB2 := hide (HB.out.trans (hb2.mono HB.out.size))
                        clear hb2
                        go_wp2_with fail
                        go_ret2
                        exact ref4_err hE HB2.out
                      · have hfr := frm_5 (b := bb) (hgd ▸ hf) he hN hT (by rw [hHL.out]; omega) hk
                        rw [hk] at HK
                        rw [seq_ok (by rw [hHL.out]; exact hlt) (by rw [hfr]), hfr, hgd] at hsq
                        simp only [] at hsq
                        have hby := hide ((hx.drop F).take N)
                        have HC := hide hcoll
                        have hyl : Hid (((xs.drop F).take N).length = N) := by
                          show _ = _
                          rw [List.length_take, List.length_drop, hHL.out]
                          omega
                        have hfl : Hid (fs.length ≤ 1000001) := by
                          show _ ≤ _
                          have h1 := congrArg List.length HP.out
                          have h2 := yall_len xs
                          rw [List.length_append] at h1
                          rw [hHL.out] at h2
                          omega
                        have hsN : Hid (dat xs ⟨z, F, F + N, 0⟩ = (xs.drop F).take N) := by show _ = _; unfold dat; simp
                        generalize (xs.drop F).take N = ys at *
                        clear hf hfr hgd hb hcoll he hN hT h3 h4 hsub0 hsub1 hk hcell hcv hsc
                        go_wp2_with fail
                        refine HG.out.mono ?_
                        rintro e w' ⟨rfl, rfl⟩
                        go_wp2_with fail
                        refine HK.out.mono ?_
                        rintro e w2 ⟨rfl, hb2⟩
                        have HB2 := hide (HB.out.trans (hb2.mono HB.out.size))
                        obtain ⟨L, hownL, hdL, hvL, hpL⟩ := HC.out.below hb2
                        have hLb : L.length ≤ 1000001 := by
                          have h1 := congrArg List.length hvL
                          rw [List.length_map, List.length_map] at h1
                          rw [h1]
                          exact hfl.out
                        have HOL := hide hownL
                        have HDL := hide hdL
                        have HVL := hide hvL
                        have HPL := hide hpL
                        have hs2 := HB2.out.size
                        clear hb2 hownL hdL hvL hpL
                        go_wp2_with (first
                          | (at_builtin; refine wpList_append_rd _ rfl (.tmp 84) (.tmp 88) 29 rfl w2.heap.size 5 j0 (.int .u8 0) 1 Try.underlying29 hj hy0 hy1 hy2 rfl _ 0 [] rfl (own_empty w2) w.heap.size (some ⟨b, o + F, none⟩) (F + N - F) (c - F) (u8s ys) rfl (by rw [hnn2]; exact (HS1.out.below HB2.out).alloc hs2 _) (ints_oneCell _ _) (by unfold maxLen; omega) (by omega) (by simp) ?_; intro v9 w9 hown9 hg9 hat9; simp only [hnn2, Nat.zero_add, List.nil_append] at hown9; have hb9 := hide (below_app ((Below.refl w2.heap.size w2).alloc (Nat.le_refl _) _) (own_empty w2) (by simp) hg9); obtain ⟨A9, n9, c9, rfl, hnc9, hcm9, hrd9, hwn9, HN9⟩ := (ownB_of (w := w2) (xs := ys) (by rw [hyl.out]; exact hown9)).var; have HR9 := hide hrd9; have HW9 := hide hwn9; have hs9 := hb9.out.size; clear hg9 hat9 hown9 hrd9 hwn9)
                          | (at_builtin; refine wpList_append_own_at _ rfl (.tmp 82) (.tmp 93) 26 rfl w.heap.size 46 i0 (.agg #[.int .i64 0, .slice none 0 0, .int .i64 0, .int .i64 0]) 4 48 Try.underlying26 hi hz0 hz1 hz2 rfl (by decide) u4 L.length (L.flatMap c4) rfl ((ownsRow_below HOL.out hb9.out).alloc _) ⟨w9.heap.size, 0, none⟩ 1 1 [.int .i64 z, .slice A9 n9 c9, .int .i64 (F : Int), .int .i64 ((F : Int) + (N : Int))] rfl rfl (news_new w9 [.int .i64 z, .slice A9 n9 c9, .int .i64 (F : Int), .int .i64 ((F : Int) + (N : Int))] 46) (by intro u hu; simp only [List.mem_cons, List.not_mem_nil, or_false] at hu; rcases hu with rfl | rfl | rfl | rfl <;> rfl) (by unfold maxLen; omega) (by omega) (by simp; omega) ?_; intro v5 w5 hown5 hg5 _ hat5))
                        have hb10 := hb9.out.alloc hs9 (.cells #[.int .i64 z, .slice A9 n9 c9, .int .i64 (F : Int), .int .i64 ((F : Int) + (N : Int))] 46)
                        have hY : Dat w9 w.heap.size u4.ownBlock ⟨z, A9, n9, c9, ys, F, F + N⟩ := Dat.of ⟨hnc9, hcm9, hby.out, by simpa using HR9.out.len, by simp only []; omega, by simp only []; omega⟩ HR9.out (fun q hq => by
                          have hq1 := (HW9.out.lt q hq).1
                          refine ⟨by omega, fun e => ?_⟩
                          have := (HOL.out.lt q e.symm).2
                          omega)
                        have hcu := coll4_up (y := ⟨z, A9, n9, c9, ys, F, F + N⟩) (fun q hq => (HDL.out q hq).below hb10) HVL.out HPL.out (hY.below ((Below.refl w9.heap.size w9).alloc (Nat.le_refl _) _)) hown5 hg5 hat5
                        have hb11 : Below w.heap.size w w5 := (HB2.out.trans (hb10.mono hs2)).grown hg5 (by simp; omega) (fun k hk => (HOL.out.lt k hk).1)
                        go_roundw
                        case rel =>
                          refine ⟨fs ++ [⟨z, F, F + N, 0⟩], F + N + 4, z, by go_num, rfl, by omega, ?_, ?_, ?_, hb11⟩
                          · show _ = _
                            rw [List.append_assoc]
                            exact hsq.out
                          · intro f hf
                            rcases List.mem_append.1 hf with hf | hf
                            · exact HZ.out f hf
                            · obtain rfl : f = _ := by simpa using hf
                              rfl
                          · rw [List.map_append, List.map_append]
                            have e : dat xs ⟨z, F, F + N, 0⟩ = ys := hsN.out
                            simp only [List.map_cons, List.map_nil, e]
                            exact hcu
                        case measure => simp [intOf]; omega
                · have hfr := frm_2 (b := bb) (hgd ▸ hf) he
                  have hr6 := gE_rng xs (a + 1)
                  rw [show ((a + 1 : Nat) : Int) = ((a : Int) + 1) by omega] at hr6
                  rw [seq_err (by rw [hHL.out]; exact hlt) (by rw [hfr]; exact he), hfr] at hsq
                  have hE := hide (rd_err hsq.out HZ.out he)
                  clear hfr hsq
                  generalize gE xs ((a : Int) + 1) = E at *
                  have he' : (E != 0) = true := by simpa using he
                  clear hf hgd hb hcoll he
                  go_wp2_with fail
                  refine HG.out.mono ?_
                  rintro e w' ⟨rfl, rfl⟩
                  go_wp2_with fail
                  go_ret2
                  exact ref4_err hE HB.out
            · obtain rfl : a = nn := by omega
              have hP := HP.out
              rw [seq_end (by rw [hHL.out]; omega), List.append_nil] at hP
              have hE := hide (rd_ok hP HZ.out)
              have HC := hide hcoll
              have HB := hide hb
              clear hP hcoll hb hcell hcv hsc HR
              go_wp2_with fail
              go_ret2
              refine ⟨_, congrArg (fun z => Ending.returned (.tuple #[_, .int .i64 z])) hE.out.1.symm, ?_, HB.out⟩
              rw [hE.out.2.1, hE.out.2.2]
              exact HC.out
        · have hd : hdr xs = 8 := by unfold hdr; rw [if_neg (by simp [hm]), if_neg (by omega), if_pos (by rw [hgd]; exact h1)]
          have hE := bad_hdr hd (by decide)
          have t3 : (x != 1) = true := by simp [h1]
          clear hz hl hm e1 hd h1 hgd hx4 hr
          go_enter Try.func17, Try.ntmps17
          go_wp2_with fail
          go_ret2
          exact ref4_err hE (Below.refl _ _)
    · have e1 : eqB (xs.take 4) [77, 73, 82, 84] = false := by unfold eqB; simpa using hm
      rw [e1] at hsc
      have hd : hdr xs = 7 := by unfold hdr; rw [if_pos hm]
      have hE := bad_hdr hd (by decide)
      clear hz hl hm e1 hd
      go_enter Try.func17, Try.ntmps17
      go_wp2_with fail
      go_ret2
      exact ref4_err hE (Below.refl _ _)
  · have hd : hdr xs = 7 := by
      unfold hdr
      rw [if_pos]
      intro h
      have := congrArg List.length h
      rw [List.length_take] at this
      simp at this
      omega
    have hE := bad_hdr hd (by decide)
    have t1 : (nn : Int) < 4 := by omega
    clear hl hd hr
    go_enter Try.func17, Try.ntmps17
    go_wp2_with fail
    go_ret2
    exact ref4_err hE (Below.refl _ _)
end Go.Proofs.Ytgfeimlieibjhaa
