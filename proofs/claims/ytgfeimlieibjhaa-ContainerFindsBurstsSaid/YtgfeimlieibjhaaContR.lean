/- The reference's Write. -/
import Derived.Test.YtgfeimlieibjhaaContW
set_option linter.unusedVariables false
namespace Go.Proofs.Ytgfeimlieibjhaa
open Go.RowKit

theorem folB_no {id b : Int} (h : folB id b = false) : id ≤ b ∨ b < id ∧ 127 < id := by
  have : ¬ (b < id ∧ id ≤ 127) := fun h' => by rw [folB_iff.2 h'] at h; cases h
  omega
set_option maxHeartbeats 4000000 in
set_option maxRecDepth 100000 in
theorem RefWrite_any (A : Option Addr) (n c : Nat) (L : List SecW) (w : World) (hA : Secs w w.heap.size 4 c4 A n L) (hn : n ≤ maxLen) (hsz : (encC (vals L)).length ≤ 1000000) :
    Calls Try.prog 13 #[.slice A n c] w fun e w' => ∃ v, e = .returned (.tuple #[v, .int .i64 (wrE (vals L))]) ∧ OwnB w w' v (wrB (vals L)) ∧ Below w.heap.size w w' := by
  obtain ⟨i0, hi, hz0, hz1, hz2⟩ := info_parts infoU8
  have HA := hide hA
  have HL := hide hA.len
  unfold maxLen at hn
  have HT := hide fun k => Nat.le_trans (enc_take (vals L) k) hsz
  clear hA hsz
  go_enter Try.func13, Try.ntmps13
  go_wp2_with fail
  have hb2 := hide ((Below.refl w.heap.size w).alloc (Nat.le_refl _) (.cells (u8s magicL).toArray 5))
  have ho2 := hide (World.ownsRow_lit w (e := 5) (size := 1) (base := w.heap.size) (u8s magicL).toArray 5 (Nat.le_refl _) (by unfold maxLen; omega) rfl)
  go_loopw [4, 5, 6] (fun s l i wr => ∃ (k m : Nat) (b : Int) (ys : List Int), i = .int .i64 (k : Int) ∧ k ≤ n ∧ l = .int .i64 b ∧ 0 ≤ b ∧ b ≤ 127 ∧ wr.ownsRow w.heap.size 5 1 s m (u8s ys) ∧ Hid (ys = magicL ++ ((vals L).take k).flatMap encS) ∧ Hid (ordL 0 (vals L) = ordL b (vals (L.drop k))) ∧ Below w.heap.size w wr) (fun _ _ i _ => n - (intOf i).toNat)
  case atStart => exact ⟨0, 5, 0, magicL, rfl, Nat.zero_le _, rfl, by omega, by omega, ho2.out, by show _ = _; simp, rfl, hb2.out⟩
  case round =>
    obtain ⟨k, m, b, ys, rfl, hk, rfl, hb0, hb1, hown, HY, HT2, hb⟩ := hrel
    have hml : ys.length = m := by have := hown.1; simp only [List.length_map] at this; omega
    by_cases hlt : k < n
    · have hex : ∃ a, L[k]? = some a := ⟨_, List.getElem?_eq_getElem (by have := HL.out; omega)⟩
      obtain ⟨x, hx⟩ := hex
      have hrd := (HA.out.2 _ (List.mem_of_getElem? hx)).2
      have HAT := hide fun w' (hb' : Below w.heap.size w w') => (HA.out.below hb').at4 hx
      obtain ⟨g, o, rfl, hgB, hok, _, c0, c1, _, _⟩ := (HA.out.below hb).at4 hx
      have HS := hide (enc_take_succ (vals_at hx))
      have hT2 := HT.out (k + 1)
      rw [HS.out, ← HY.out] at hT2
      simp only [List.length_append, hml] at hT2
      rw [drop_cons hx, ordL_cons] at HT2
      have HB := hide hb
      have hgb := hide fun w' (h : Below w.heap.size w w') (j : Nat) => (h.cell (p := ⟨g, j, none⟩) hgB)
      have hcl0 := hide ((HA.out.at4 hx))
      rcases hf : folB x.id b with _ | _
      · rw [hf, Bool.false_and] at HT2
        have r1 : Hid (wrE (vals L) = 2) := by show _ = _; unfold wrE; rw [HT2.out]; rfl
        have r2 : Hid (wrB (vals L) = []) := by show _ = _; unfold wrB; rw [HT2.out]; rfl
        have hno := folB_no hf
        clear hx hf HS hT2 hml hrd HL hb
        rcases hno with h1 | ⟨h1, h2⟩
        · go_wp2_with fail
          go_ret2
          refine ⟨_, congrArg (fun z => Ending.returned (.tuple #[.slice none 0 0, .int .i64 z])) r1.out.symm, ?_, HB.out⟩
          rw [r2.out]
          exact ownB_of (World.ownsRow_nil _ _ _ _)
        · go_wp2_with fail
          go_ret2
          refine ⟨_, congrArg (fun z => Ending.returned (.tuple #[.slice none 0 0, .int .i64 z])) r1.out.symm, ?_, HB.out⟩
          rw [r2.out]
          exact ownB_of (World.ownsRow_nil _ _ _ _)
      · rw [hf, Bool.true_and] at HT2
        obtain ⟨h1, h2⟩ := folB_iff.1 hf
        obtain ⟨xid, xA, xn, xc, xxs, xfr, xto⟩ := x
        obtain ⟨hnc, hcm, hbyt, hlen, _, _⟩ := hok
        simp only [] at *
        have hD1 : decide (xid ≤ b) = false := by simp; omega
        have hD2 : ¬ 127 < xid := by omega
        have HR := hide hrd
        have HP := hide fun w' => RefPut_any (xn : Int) (by omega) (by omega) w'
        rw [Int.toNat_natCast] at HP
        have HC := hide fun w' (h : Rd w' w.heap.size xA xn (u8s xxs)) (hB : w.heap.size ≤ w'.heap.size) => RefAppend_any xA xn xc xxs w' w.heap.size h hB hbyt (by omega)
        rw [hlen] at HS hT2
        simp only [List.length_cons, List.length_nil, sto_len] at hT2
        generalize hvl : (vput xn).length = vl at *
        have HV := hide hvl
        have hsz := hb.size
        have e0 := hide c0
        have e1 := hide c1
        have K0 := hide fun w' (h : Below w.heap.size w w') => ((h.cell (p := ⟨g, o + k * 4, none⟩) hgB).trans ((hb.cell (p := ⟨g, o + k * 4, none⟩) hgB).symm.trans c0) : w'.cell? ⟨g, o + k * 4, none⟩ = _)
        have K1 := hide fun w' (h : Below w.heap.size w w') => ((h.cell (p := ⟨g, o + k * 4 + 1, none⟩) hgB).trans ((hb.cell (p := ⟨g, o + k * 4 + 1, none⟩) hgB).symm.trans c1) : w'.cell? ⟨g, o + k * 4 + 1, none⟩ = _)
        clear hx hvl hb hrd hbyt hml HL hf HAT hgb hcl0
        go_wp2_with (at_builtin; refine wpList_append_rd _ rfl (.tmp 34) (.tmp 37) 29 rfl w.heap.size 5 i0 (.int .u8 0) 1 Try.underlying29 hi hz0 hz1 hz2 rfl _ m (u8s ys) rfl (hown.alloc _) (wr.heap.size + 1) _ 1 1 (u8s [xid]) rfl (Rd_lit wr [xid] 5) (ints_oneCell _ _) (by unfold maxLen; omega) (by omega) (by simp; omega) ?_; intro v3 w3 hown3 hg3 hat3; have hb3 : Below w.heap.size w w3 := below_app (HB.out.alloc hsz _) (hown.alloc _) (by simp; omega) hg3; have f0 := K0.out w3 hb3; have f1 := K1.out w3 hb3; have HB3 := hide hb3; have HO3 := hide hown3; clear hg3 hat3 hb3 hown3 c0 c1)
        refine (HP.out _).mono ?_
        rintro e w4 ⟨v4, rfl, hob4, hb4⟩
        obtain ⟨A4, n4, c4', rfl, _, _, hrd4, _, HN4⟩ := hob4.var
        have hn4 : n4 = vl := HN4.out.trans HV.out
        have HB4 := hide (HB3.out.trans (hb4.mono HB3.out.size))
        have HO4 := hide (ownsRow_below HO3.out hb4)
        have hsz4 := HB4.out.size
        subst hn4
        clear f0 f1 hob4 hb4 HP HN4
        go_wp2_with (at_builtin; refine wpList_append_rd _ rfl (.tmp 39) (.tmp 47) 29 rfl w.heap.size 5 i0 (.int .u8 0) 1 Try.underlying29 hi hz0 hz1 hz2 rfl _ (m + 1) (u8s ys ++ u8s [xid]) rfl HO4.out w4.heap.size A4 n4 c4' (u8s (vput xn)) rfl hrd4 (ints_oneCell _ _) (by unfold maxLen; omega) (by omega) hsz4 ?_; intro v5 w5 hown5 hg5 hat5; have HB5 := hide (below_app HB4.out HO4.out hsz4 hg5); have HO5 := hide hown5; have f1 := K1.out w5 HB5.out; have hsz5 := HB5.out.size; clear hg5 hat5 hown5)
        refine (HC.out _ (HR.out.below HB5.out) hsz5).mono ?_
        rintro e w6 ⟨v6, rfl, hob6, hb6⟩
        obtain ⟨A6, n6, c6, rfl, _, _, hrd6, _, HN6⟩ := hob6.var
        have hn6 : n6 = xn + 4 := by rw [HN6.out, List.length_append, hlen, sto_len]
        have HB6 := hide (HB5.out.trans (hb6.mono hsz5))
        have HO6 := hide (ownsRow_below HO5.out hb6)
        have hsz6 := HB6.out.size
        subst hn6
        clear f1 hob6 hb6 HC HN6
        go_wp2_with (at_builtin; refine wpList_append_rd _ rfl (.tmp 49) (.tmp 55) 29 rfl w.heap.size 5 i0 (.int .u8 0) 1 Try.underlying29 hi hz0 hz1 hz2 rfl _ (m + 1 + n4) (u8s ys ++ u8s [xid] ++ u8s (vput xn)) rfl HO6.out w6.heap.size A6 (xn + 4) c6 (u8s (xxs ++ sto (sum xxs))) rfl hrd6 (ints_oneCell _ _) (by unfold maxLen; omega) (by omega) hsz6 ?_; intro v7 w7 hown7 hg7 hat7; have HB7 := hide (below_app HB6.out HO6.out hsz6 hg7); have HO7 := hide hown7; clear hg7 hat7 hown7)
        go_roundw
        case rel =>
          refine ⟨k + 1, m + 1 + n4 + (xn + 4), xid, ys ++ [xid] ++ vput xn ++ (xxs ++ sto (sum xxs)), by go_num, by omega, rfl, by omega, by omega, ?_, ?_, HT2, HB7.out⟩
          · simpa [u8s] using HO7.out
          · show _ = _
            rw [HS.out, HY.out]
        case measure => simp [intOf]; omega
    · obtain rfl : k = n := by omega
      rw [List.take_of_length_le (by rw [List.length_map, HL.out]; omega)] at HY
      rw [List.drop_of_length_le (by rw [HL.out]; omega)] at HT2
      have r1 : Hid (wrE (vals L) = 0) := by show _ = _; unfold wrE; rw [HT2.out]; rfl
      have r2 : Hid (wrB (vals L) = encC (vals L)) := by show _ = _; unfold wrB; rw [HT2.out]; rfl
      have hob := hide hown
      have hbb := hide hb
      clear hown hb hml
      go_wp2_with fail
      go_ret2
      refine ⟨_, congrArg (fun z => Ending.returned (.tuple #[_, .int .i64 z])) r1.out.symm, ?_, hbb.out⟩
      rw [r2.out]
      have hy : ys = encC (vals L) := HY.out
      subst hy
      have hm : (encC (vals L)).length = m := by have := hob.out.1; simp only [List.length_map] at this; omega
      refine ownB_of ?_
      rw [hm]
      exact hob.out
end Go.Proofs.Ytgfeimlieibjhaa
