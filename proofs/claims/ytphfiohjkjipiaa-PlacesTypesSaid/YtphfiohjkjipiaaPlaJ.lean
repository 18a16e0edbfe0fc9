/- The reference's references, Mutable and Regions. -/
import Derived.Test.YtphfiohjkjipiaaPlaG
import Derived.Test.YtphfiohjkjipiaaPlaH
set_option linter.unusedVariables false
namespace Go.Proofs.Ytphfiohjkjipiaa
open Go.RowKit

/-- the references came back, in a row of the call's own -/
def RowE (w : World) (R : List TyW) (e : Ending) (w' : World) : Prop := ∃ A m c, e = .returned (.slice A m c) ∧ m ≤ c ∧ c ≤ maxLen ∧ w'.ownsRow w.heap.size 48 5 (.slice A m c) m (R.flatMap c5) ∧ m = R.length ∧ Below w.heap.size w w'

set_option maxHeartbeats 4000000 in
set_option maxRecDepth 100000 in
theorem RReferences_any {At Al : Option Addr} {nt ct nl cl : Nat} {L : List TyW} {LL : List LcW} {x : PlW} {r : Int} {w : World} (h : Pl8 w At Al nt nl L LL x r) {k : Nat} {lc : LcW} (hk : x.l = (k : Int)) (hlc : LL[k]? = some lc) (hp0 : plErr x.l x.ps = 0) (he : (goL (tys L) lc.ty x.ps).2 = 0) :
    Calls Try.prog 35 #[.slice At nt ct, .slice Al nl cl, aggPl x] w (RowE w (refTo L (tys L) lc.ty x.ps x.ps.length)) := by
  obtain ⟨i0, hi, hz0, hz1, hz2⟩ := info_parts infoTy
  have hB0 := (Below.refl w.heap.size w).alloc (Nat.le_refl _) (.cells #[.int .i64 x.l, .slice x.A x.n x.c] 24)
  have HB0 := hide hB0
  have HBX := hide (heap_alloc_new w (.cells #[.int .i64 x.l, .slice x.A x.n x.c] 24))
  have H := hide fun w' (hb : Below w.heap.size w w') => h.up hb
  have HWW := hide (h.way hk hlc)
  have hpl : x.ps.length = x.n := h.one.prs.len
  have HST := hide fun (j : Nat) (hj : j ≤ x.n) => (show Stp (tys L) lc.ty x.ps x.ps.length from ⟨Nat.le_refl _, by unfold erA; rw [goL_take_all]; exact he⟩).down (show j ≤ x.ps.length by omega)
  have HTY := hide fun (j : Nat) (hj : j ≤ x.n) => (show tyOfP (tys L) (lcs LL) x.l (x.ps.take j) = (tyA (tys L) lc.ty x.ps j, erA (tys L) lc.ty x.ps j) from tyOfP_in (plErr_take hp0 j) hk (lcs_at hlc))
  have hp32 := (plErr_zero.1 hp0).2.1
  have HRT := hide fun (j : Nat) (w' : World) (hj : j ≤ x.n) (hb : Below w.heap.size w w') => (show Calls Try.prog 14 #[.slice At nt ct, .slice Al nl cl, .agg #[.int .i64 x.l, .slice x.A j x.c]] w' fun e w'' => e = .returned (.tuple #[.int .i64 (tyA (tys L) lc.ty x.ps j), .int .i64 0]) ∧ Below w'.heap.size w' w'' from by
    have h2 := RTypeOf_is (ct := ct) (cl := cl) ((h.up hb).take hj) (HTY.out j hj)
    rw [(HST.out j hj).ok] at h2
    exact h2)
  have hnc := h.one.nc
  have hcm := h.one.cm
  have hntm := h.nt
  obtain ⟨l, A, n, c, ps⟩ := x
  simp only [] at hpl hp32 hnc hcm HRT HST HBX
  have HS := hide fun w' (h : Below (w.alloc (.cells #[.int .i64 l, .slice A n c] 24)).heap.size (w.alloc (.cells #[.int .i64 l, .slice A n c] 24)) w') => show Below (w.alloc (.cells #[.int .i64 l, .slice A n c] 24)).heap.size (w.alloc (.cells #[.int .i64 l, .slice A n c] 24)) w' ∧ w'.cell? ⟨w.heap.size, 0, none⟩ = some (.int .i64 l) ∧ w'.cell? ⟨w.heap.size, 1, none⟩ = some (.slice A n c) from
    ⟨h, cell_of_heap ((h.block w.heap.size (by simp)).trans HBX.out) 0, cell_of_heap ((h.block w.heap.size (by simp)).trans HBX.out) 1⟩
  have HPL := hide hpl
  unfold maxLen at hcm hntm
  have hB1 := hide (show (w.alloc (.cells #[.int .i64 l, .slice A n c] 24)).heap.size = w.heap.size + 1 by simp)
  clear h hB0 hlc hp0 he hpl HBX HTY hk
  go_enter Try.func35, Try.ntmps35
  go_wp2
  go_loopw [7, 8] (fun v i wr => ∃ (j m : Nat), i = .int .i64 (j : Int) ∧ j ≤ n ∧ wr.ownsRow (w.heap.size + 1) 48 5 v m ((refTo L (tys L) lc.ty ps j).flatMap c5) ∧ Hid (m = (refTo L (tys L) lc.ty ps j).length) ∧ Below (w.alloc (.cells #[.int .i64 l, .slice A n c] 24)).heap.size (w.alloc (.cells #[.int .i64 l, .slice A n c] 24)) wr) (fun _ i _ => n - (intOf i).toNat)
  case atStart => exact ⟨0, 0, rfl, Nat.zero_le _, World.ownsRow_nil _ _ _ _, rfl, Below.refl _ _⟩
  case round =>
    obtain ⟨j, m, rfl, hj, hown, HM, hb⟩ := hrel
    obtain ⟨A2, c2, rfl, hm1, hc1⟩ := ownsRow_shape3 hown
    have HO := hide hown
    have HB := hide hb
    obtain ⟨_, z0, z1⟩ := HS.out _ hb
    have hsz : w.heap.size + 1 ≤ wr.heap.size := by have := hb.size; simpa using this
    have HBW := hide (HB0.out.trans (hb.mono HB0.out.size))
    have hm40 : m ≤ 40 := by
      have h1 := HM.out
      have h2 := refTo_len L (tys L) lc.ty ps j
      have h3 := HPL.out
      omega
    unfold maxLen at hc1
    clear hown hb
    by_cases hlt : j < n
    · have hlt' : (j : Int) < (n : Int) := by omega
      have hjc : j ≤ c := by omega
      have hjc' : (j : Int) ≤ (c : Int) := by omega
      have hj0 : (0 : Int) ≤ (j : Int) := by omega
      obtain ⟨p, hp⟩ : ∃ p, ps[j]? = some p := ⟨_, List.getElem?_eq_getElem (by have := HPL.out; omega)⟩
      obtain ⟨b2, o2, hA, _, _, d0, d1⟩ := (H.out wr HBW.out).one.prs.at_ hp
      simp only [] at hA
      subst hA
      obtain ⟨pk, pf⟩ := p
      simp only [] at d0 d1
      by_cases h0 : pk = 0
      · subst h0
        obtain ⟨i, u, hti, hu⟩ := (HST.out j (by omega)).lt HWW.out.ok HWW.out.t0 (by rw [tys_len]; exact HWW.out.t1)
        obtain ⟨y, hy, hyt⟩ := tys_back hu
        have HN := hide (refTo_yes (G := L) hp rfl hti hy)
        have HRJ := hide fun w' hb => HRT.out j w' (by omega) hb
        rw [hti] at HRJ
        have hin : i < nt := by have := (List.getElem?_eq_some_iff.1 hy).1; have := (H.out w (Below.refl _ _)).typs.len; omega
        have hin' : (i : Int) < (nt : Int) := by omega
        obtain ⟨b, o, rfl, hbb, _, e0, e1, e2, e3, e4⟩ := (H.out wr HBW.out).typs.at_ hy
        obtain ⟨⟨k0, mu, r0, el, fs⟩, Af, nf, cf⟩ := y
        simp only [] at e0 e1 e2 e3 e4
        have HR := hide fun (w' : World) (hb : Below wr.heap.size wr w') => show w'.cell? ⟨b, o + i * 5, none⟩ = some (.int .i64 k0) ∧ w'.cell? ⟨b, o + i * 5 + 1, none⟩ = some (.bool mu) ∧ w'.cell? ⟨b, o + i * 5 + 2, none⟩ = some (.int .i64 r0) ∧ w'.cell? ⟨b, o + i * 5 + 3, none⟩ = some (.int .i64 el) ∧ w'.cell? ⟨b, o + i * 5 + 4, none⟩ = some (.slice Af nf cf) from
          ⟨(hb.cell (p := ⟨b, o + i * 5, none⟩) hbb).trans e0, (hb.cell (p := ⟨b, o + i * 5 + 1, none⟩) hbb).trans e1, (hb.cell (p := ⟨b, o + i * 5 + 2, none⟩) hbb).trans e2, (hb.cell (p := ⟨b, o + i * 5 + 3, none⟩) hbb).trans e3, (hb.cell (p := ⟨b, o + i * 5 + 4, none⟩) hbb).trans e4⟩
        have HSR := hide fun (w' : World) (hb : Below wr.heap.size wr w') => show Below wr.heap.size wr w' ∧ w'.cell? ⟨w.heap.size, 0, none⟩ = some (.int .i64 l) ∧ w'.cell? ⟨w.heap.size, 1, none⟩ = some (.slice (some ⟨b2, o2, none⟩) n c) from ⟨hb, (HS.out _ (HB.out.trans (hb.mono HB.out.size))).2⟩
        clear hp hti hu hy hyt e0 e1 e2 e3 e4
        go_wp2
        go_region_held3 (fun w' => Below wr.heap.size wr w' ∧ w'.cell? ⟨w.heap.size, 0, none⟩ = some (.int .i64 l) ∧ w'.cell? ⟨w.heap.size, 1, none⟩ = some (.slice (some ⟨b2, o2, none⟩) n c))
          (first | exact HSR.out _ (by assumption) | exact HSR.out _ (Below.refl _ _) | exact HSR.out _ (Below.refl _ _).drew)
          (first
            | (go_at_call 14; go_split_ands; refine (HRJ.out _ (HBW.out.trans (Below.mono (by assumption : Below wr.heap.size wr _) HBW.out.size))).mono ?_; rintro e w4 ⟨rfl, hb0⟩; have hb4 := Below.trans (by assumption : Below wr.heap.size wr _) (hb0.mono (Below.size (by assumption : Below wr.heap.size wr _)))))
        all_goals
          go_split_ands
          have hb4' := (by assumption : Below wr.heap.size wr w4)
          have HB4 := hide hb4'
          have hs4 := hb4'.size
          obtain ⟨r0', r1, r2, r3, r4⟩ := HR.out _ hb4'
          have HO4 := hide (ownsRow_below HO.out hb4')
          have HBT := hide (HB.out.trans (hb4'.mono HB.out.size))
          clear hb4'
          go_wp2_with (at_builtin; refine wpList_append_own_at _ rfl (.tmp 38) (.tmp 43) 30 rfl (w.heap.size + 1) 48 i0 (.agg #[.int .i64 0, .bool false, .int .i64 0, .int .i64 0, .slice none 0 0]) 5 56 Try.underlying30 hi hz0 hz1 hz2 rfl (by decide) _ m _ rfl (HO4.out.alloc _) ⟨w4.heap.size, 0, none⟩ 1 1 (c5 ⟨⟨k0, mu, r0, el, fs⟩, Af, nf, cf⟩) rfl rfl (news_new8 w4 [.int .i64 k0, .bool mu, .int .i64 r0, .int .i64 el, .slice Af nf cf] 48) (c5_one _) (by unfold maxLen; omega) (by omega) (by simp; omega) ?_; intro v5 w5 hown5 hg5 _ hat5; have HO5 := hide hown5; have HB5 := hide (below_app (base := w.heap.size + 1) (show Below (w.heap.size + 1) _ _ from hB1.out ▸ HBT.out.alloc HBT.out.size _) (HO4.out.alloc _) (by simp; omega) hg5); clear hown5 hg5 hat5)
          go_roundw
          case rel =>
            refine ⟨j + 1, m + 1, by go_num, by omega, ?_, (show m + 1 = _ by rw [HN.out, List.length_append, List.length_singleton, ← HM.out]), hB1.out ▸ HB5.out⟩
            rw [HN.out, List.flatMap_append, List.flatMap_cons, List.flatMap_nil, List.append_nil]
            exact HO5.out
          case measure => simp [intOf]; omega
      · have tp : (pk == 0) = false := by simpa using h0
        have HN := hide (show refTo L (tys L) lc.ty ps (j + 1) = refTo L (tys L) lc.ty ps j from refTo_no fun q hq => by
          rw [hp] at hq
          injection hq with hq
          rw [← hq]
          exact h0)
        clear hp h0
        go_wp2
        go_roundw
        case rel => exact ⟨j + 1, m, by go_num, by omega, by rw [HN.out]; exact HO.out, (show m = _ by rw [HN.out, ← HM.out]), HB.out⟩
        case measure => simp [intOf]; omega
    · obtain rfl : j = n := by omega
      have HF := hide (show wr.ownsRow w.heap.size 48 5 (.slice A2 m c2) m ((refTo L (tys L) lc.ty ps ps.length).flatMap c5) ∧ m = (refTo L (tys L) lc.ty ps ps.length).length from by
        rw [HPL.out]
        exact ⟨ownsRow_base HO.out (by omega), HM.out⟩)
      go_wp2
      go_ret
      exact ⟨A2, m, c2, rfl, hm1, hc1, HF.out.1, HF.out.2, HBW.out⟩

/-- the references, as a list in memory -/
theorem RRefs_typs {At Al : Option Addr} {nt ct nl cl : Nat} {L : List TyW} {LL : List LcW} {x : PlW} {r : Int} {w : World} (h : Pl8 w At Al nt nl L LL x r) (hv : (tyOfP (tys L) (lcs LL) x.l x.ps).2 = 0) :
    Calls Try.prog 35 #[.slice At nt ct, .slice Al nl cl, aggPl x] w fun e w' => ∃ A m c R, e = .returned (.slice A m c) ∧ tys R = refP (tys L) (lcs LL) x.l x.ps ∧ m ≤ 40 ∧ Typs w' w'.heap.size A m R ∧ Below w.heap.size w w' := by
  obtain ⟨hp0, k, t, hk, ht, hg⟩ := tyOfP_zero hv
  have hkl := (List.getElem?_eq_some_iff.1 ht).1
  rw [lcs_len] at hkl
  obtain ⟨lc, hlc⟩ : ∃ lc, LL[k]? = some lc := ⟨_, List.getElem?_eq_getElem hkl⟩
  have ht2 := lcs_at hlc
  rw [ht] at ht2
  injection ht2 with ht2
  subst ht2
  rw [hg] at hv
  refine (RReferences_any (ct := ct) (cl := cl) h hk hlc hp0 hv).mono ?_
  rintro e w' ⟨A, m, c, rfl, _, _, hrow, hm, hb⟩
  refine ⟨A, m, c, refTo L (tys L) lc.ty x.ps x.ps.length, rfl, ?_, ?_, ⟨Cells.of_own c5_len (by decide) hrow, fun y hy => ?_⟩, hb⟩
  · rw [tys_refTo]
    unfold refP
    rw [hg, if_pos hv, hk, Int.toNat_natCast, List.getD_eq_getElem?_getD, ht]
    rfl
  · have h1 := refTo_len L (tys L) lc.ty x.ps x.ps.length
    have h2 := (plErr_zero.1 hp0).2.1
    omega
  · exact ((h.typs.one y (refTo_mem hy)).below hb).more hb.size

set_option maxHeartbeats 2000000 in
theorem RMutable_any {At Al : Option Addr} {nt ct nl cl : Nat} {L : List TyW} {LL : List LcW} {x : PlW} {r : Int} {w : World} (h : Pl8 w At Al nt nl L LL x r) :
    Calls Try.prog 16 #[.slice At nt ct, .slice Al nl cl, aggPl x] w fun e w' => e = .returned (.bool (mutP (tys L) (lcs LL) x.l x.ps)) ∧ Below w.heap.size w w' := by
  have hB0 := (Below.refl w.heap.size w).alloc (Nat.le_refl _) (.cells #[.int .i64 x.l, .slice x.A x.n x.c] 24)
  have HB0 := hide hB0
  obtain ⟨u, v, hv⟩ : ∃ u v, tyOfP (tys L) (lcs LL) x.l x.ps = (u, v) := ⟨_, _, rfl⟩
  have HC := hide (RTypeOf_is (ct := ct) (cl := cl) (h.up hB0) hv)
  have HBX := hide (heap_alloc_new w (.cells #[.int .i64 x.l, .slice x.A x.n x.c] 24))
  obtain ⟨mm, hmm⟩ : ∃ mm, mutP (tys L) (lcs LL) x.l x.ps = mm := ⟨_, rfl⟩
  rw [hmm]
  by_cases hv0 : v = 0
  · subst hv0
    have HR := hide fun w' (hb : Below w.heap.size w w') => RRefs_typs (ct := ct) (cl := cl) (h.up hb) (by rw [hv])
    have HMM := hide (show ∀ R : List TyW, tys R = refP (tys L) (lcs LL) x.l x.ps → R.all (fun y => y.t.mut_) = mm from fun R hR => by
      rw [← hmm]
      unfold mutP
      rw [hv, ← hR, List.all_map]
      simp
      rfl)
    obtain ⟨l, A, n, c, ps⟩ := x
    clear h hB0 hv hmm
    go_enter Try.func16, Try.ntmps16
    go_wp2_with fail
    refine HC.out.mono ?_
    rintro e w1 ⟨rfl, hb1⟩
    have HB1 := hide (HB0.out.trans (hb1.mono HB0.out.size))
    have hbX := (hb1.block w.heap.size (by simp)).trans HBX.out
    have z0 := cell_of_heap hbX 0
    have z1 := cell_of_heap hbX 1
    clear hb1 hbX
    go_wp2_with fail
    refine (HR.out _ HB1.out).mono ?_
    rintro e w2 ⟨A1, m, c1, R, rfl, hR, hm, hT, hb2⟩
    have HB2 := hide (HB1.out.trans (hb2.mono HB1.out.size))
    have HF := hide (HMM.out R hR)
    have HT := hide hT
    have HL := hide hT.len
    clear hb2 hR hT
    go_wp2
    go_loop [10] (fun i => ∃ j : Nat, i = .int .i64 (j : Int) ∧ j ≤ m ∧ Hid (∀ t x, t < j → R[t]? = some x → x.t.mut_ = true)) (fun i => m - (intOf i).toNat)
    case atStart => exact ⟨0, rfl, Nat.zero_le _, fun t x h => absurd h (Nat.not_lt_zero _)⟩
    case round =>
      obtain ⟨j, rfl, hj, HE⟩ := hrel
      by_cases hlt : j < m
      · have hlt' : (j : Int) < (m : Int) := by omega
        obtain ⟨y, hy⟩ : ∃ y, R[j]? = some y := ⟨_, List.getElem?_eq_getElem (by have := HL.out; omega)⟩
        obtain ⟨b, o, rfl, _, _, d0, d1, d2, d3, d4⟩ := HT.out.at_ hy
        have HY := hide hy
        obtain ⟨⟨k0, mu, r0, el, fs⟩, Af, nf, cf⟩ := y
        simp only [] at d0 d1 d2 d3 d4
        clear hy
        cases mu
        · have HF2 := hide (show mm = false from by
            rw [← HF.out, ← Bool.not_eq_true, List.all_eq_true]
            exact fun h => by cases h _ (List.mem_of_getElem? HY.out))
          go_wp2
          go_ret
          exact ⟨congrArg (fun v => Ending.returned (.bool v)) HF2.out.symm, HB2.out⟩
        · have HN := hide (show ∀ t x, t < j + 1 → R[t]? = some x → x.t.mut_ = true from fun t x ht hx => by
            rcases Nat.lt_or_ge t j with h1 | h1
            · exact HE.out t x h1 hx
            · obtain rfl : t = j := by omega
              rw [HY.out] at hx
              injection hx with hx
              rw [← hx])
          go_wp2
          go_round
          case rel => exact ⟨j + 1, by go_num, by omega, HN.out⟩
          case measure => simp [intOf]; omega
      · obtain rfl : j = m := by omega
        have HF2 := hide (show mm = true from by
          rw [← HF.out, List.all_eq_true]
          intro y hy
          obtain ⟨t, ht⟩ := List.getElem?_of_mem hy
          exact HE.out t y (by have := (List.getElem?_eq_some_iff.1 ht).1; have := HL.out; omega) ht)
        go_wp2
        go_ret
        exact ⟨congrArg (fun v => Ending.returned (.bool v)) HF2.out.symm, HB2.out⟩
  · have tv : (v != 0) = true := by rw [bne_iff_ne]; exact hv0
    have HF := hide (show mm = false from by
      rw [← hmm]
      unfold mutP
      simp [hv, hv0])
    obtain ⟨l, A, n, c, ps⟩ := x
    clear h hB0 hv hmm hv0
    go_enter Try.func16, Try.ntmps16
    go_wp2_with fail
    refine HC.out.mono ?_
    rintro e w1 ⟨rfl, hb1⟩
    have HB1 := hide (HB0.out.trans (hb1.mono HB0.out.size))
    clear hb1
    go_wp2
    go_ret
    exact ⟨congrArg (fun v => Ending.returned (.bool v)) HF.out.symm, HB1.out⟩
theorem RMutable_is {At Al : Option Addr} {nt ct nl cl : Nat} {L : List TyW} {LL : List LcW} {x : PlW} {r : Int} {v : Bool} {w : World} (h : Pl8 w At Al nt nl L LL x r) (hv : mutP (tys L) (lcs LL) x.l x.ps = v) :
    Calls Try.prog 16 #[.slice At nt ct, .slice Al nl cl, aggPl x] w fun e w' => e = .returned (.bool v) ∧ Below w.heap.size w w' := hv ▸ RMutable_any h

set_option maxHeartbeats 2000000 in
set_option maxRecDepth 100000 in
theorem RRegionsP_any {At Al : Option Addr} {nt ct nl cl : Nat} {L : List TyW} {LL : List LcW} {x : PlW} {r : Int} {w : World} (h : Pl8 w At Al nt nl L LL x r) :
    Calls Try.prog 19 #[.slice At nt ct, .slice Al nl cl, aggPl x] w (IntsOut w (regP (tys L) (lcs LL) x.l x.ps)) := by
  obtain ⟨i0, hi, hz0, hz1, hz2⟩ := info_parts infoInt
  have hB0 := (Below.refl w.heap.size w).alloc (Nat.le_refl _) (.cells #[.int .i64 x.l, .slice x.A x.n x.c] 24)
  have HB0 := hide hB0
  obtain ⟨u, v, hv⟩ : ∃ u v, tyOfP (tys L) (lcs LL) x.l x.ps = (u, v) := ⟨_, _, rfl⟩
  have HC := hide (RTypeOf_is (ct := ct) (cl := cl) (h.up hB0) hv)
  have HBX := hide (heap_alloc_new w (.cells #[.int .i64 x.l, .slice x.A x.n x.c] 24))
  obtain ⟨rg, hrg⟩ : ∃ rg, regP (tys L) (lcs LL) x.l x.ps = rg := ⟨_, rfl⟩
  rw [hrg]
  by_cases hv0 : v = 0
  · subst hv0
    have HR := hide fun w' (hb : Below w.heap.size w w') => RRefs_typs (ct := ct) (cl := cl) (h.up hb) (by rw [hv])
    have HRG := hide (show ∀ R : List TyW, tys R = refP (tys L) (lcs LL) x.l x.ps → R.map (fun y => y.t.region) = rg from fun R hR => by
      rw [← hrg]
      unfold regP
      rw [← hR, List.map_map]
      rfl)
    obtain ⟨l, A, n, c, ps⟩ := x
    clear h hB0 hv hrg
    go_enter Try.func19, Try.ntmps19
    go_wp2_with fail
    refine HC.out.mono ?_
    rintro e w1 ⟨rfl, hb1⟩
    have HB1 := hide (HB0.out.trans (hb1.mono HB0.out.size))
    have hbX := (hb1.block w.heap.size (by simp)).trans HBX.out
    have z0 := cell_of_heap hbX 0
    have z1 := cell_of_heap hbX 1
    clear hb1 hbX
    go_wp2_with fail
    refine (HR.out _ HB1.out).mono ?_
    rintro e w2 ⟨A1, m, c1, R, rfl, hR, hm, hT, hb2⟩
    have HB2 := hide (HB1.out.trans (hb2.mono HB1.out.size))
    have HF := hide (HRG.out R hR)
    have HT := hide hT
    have HL := hide hT.len
    clear hb2 hR hT
    go_wp2
    go_loopw [7, 11] (fun v i wr => ∃ j : Nat, i = .int .i64 (j : Int) ∧ j ≤ m ∧ wr.ownsRow w2.heap.size 3 1 v j (i64s ((R.take j).map fun x => x.t.region)) ∧ Below w2.heap.size w2 wr) (fun _ i _ => m - (intOf i).toNat)
    case atStart => exact ⟨0, rfl, Nat.zero_le _, World.ownsRow_nil _ _ _ _, Below.refl _ _⟩
    case round =>
      obtain ⟨j, rfl, hj, hown, hb⟩ := hrel
      obtain ⟨A2, c2, rfl, hj1, hc1⟩ := ownsRow_shape3 hown
      have HO := hide hown
      have HB := hide hb
      have HBW := hide (HB2.out.trans (hb.mono HB2.out.size))
      have hsz := hb.size
      unfold maxLen at hc1
      clear hown hb
      by_cases hlt : j < m
      · have hlt' : (j : Int) < (m : Int) := by omega
        obtain ⟨y, hy⟩ : ∃ y, R[j]? = some y := ⟨_, List.getElem?_eq_getElem (by have := HL.out; omega)⟩
        obtain ⟨b, o, rfl, _, _, d0, d1, d2, d3, d4⟩ := (HT.out.below HB.out).at_ hy
        have HUP := hide (take_map_up (f := fun x : TyW => x.t.region) hy)
        obtain ⟨⟨k0, mu, rr, el, fs⟩, Af, nf, cf⟩ := y
        simp only [] at d0 d1 d2 d3 d4 HUP
        clear hy
        go_wp2_with (at_builtin; refine wpList_append_own_at _ rfl (.tmp 32) (.tmp 38) 39 rfl w2.heap.size 3 i0 (.int .i64 0) 1 8 Try.underlying39 hi hz0 hz1 hz2 rfl (by decide) _ j _ rfl (HO.out.alloc _) ⟨wr.heap.size, 0, none⟩ 1 1 (i64s [rr]) rfl rfl (cell_int8 wr rr 3) (ints_oneCell _ _) (by unfold maxLen; omega) (by omega) (by simp; omega) ?_; intro v5 w5 hown5 hg5 _ hat5; have HO5 := hide hown5; have HB5 := hide (below_app (HB.out.alloc hsz (.cells #[.int .i64 rr] 3)) (HO.out.alloc _) (by simp; omega) hg5); clear hown5 hg5 hat5)
        go_roundw
        case rel =>
          refine ⟨j + 1, by go_num, by omega, ?_, HB5.out⟩
          rw [HUP.out]
          have h := HO5.out
          rw [← List.map_append] at h
          exact h
        case measure => simp [intOf]; omega
      · obtain rfl : j = m := by omega
        have HE := hide (show wr.ownsRow w.heap.size 3 1 (.slice A2 j c2) j (i64s rg) from by
          rw [← HF.out]
          have h := HO.out
          rw [List.take_of_length_le (by have := HL.out; omega)] at h
          exact ownsRow_base h (by have := HB2.out.size; omega))
        go_wp2
        go_ret
        exact ⟨A2, j, c2, rfl, by omega, hj1, hc1, HE.out, HBW.out⟩
  · have tv : (v != 0) = true := by rw [bne_iff_ne]; exact hv0
    have HF := hide (show rg = [] from by
      rw [← hrg]
      unfold regP refP
      rw [hv, if_neg hv0]
      rfl)
    obtain ⟨l, A, n, c, ps⟩ := x
    clear h hB0 hv hrg hv0
    go_enter Try.func19, Try.ntmps19
    go_wp2_with fail
    refine HC.out.mono ?_
    rintro e w1 ⟨rfl, hb1⟩
    have HB1 := hide (HB0.out.trans (hb1.mono HB0.out.size))
    clear hb1
    go_wp2
    go_ret
    exact ⟨none, 0, 0, rfl, by omega, Nat.le_refl _, Nat.zero_le _, by rw [HF.out]; exact World.ownsRow_nil _ _ _ _, HB1.out⟩
end Go.Proofs.Ytphfiohjkjipiaa
