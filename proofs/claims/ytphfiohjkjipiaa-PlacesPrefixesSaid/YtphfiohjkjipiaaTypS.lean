/- The reference's depths. -/
import Derived.Test.YtphfiohjkjipiaaTypQ
import Derived.Test.YtphfiohjkjipiaaTypC
import Derived.Test.YtphfiohjkjipiaaTypX
import Derived.Test.YtphfiohjkjipiaaAppend
set_option linter.unusedVariables false
namespace Go.Proofs.Ytphfiohjkjipiaa
open Go.RowKit

theorem ownsRow_shape3 {w : World} {base : Nat} {e : TypeId} {size n : Nat} {v : Value} {xs : List Value} (h : w.ownsRow base e size v n xs) : ∃ A c, v = .slice A n c ∧ n ≤ c ∧ c ≤ maxLen := by
  rcases h.2 with ⟨rfl, h0⟩ | ⟨g, cap, cur, rfl, _, _, h1, h2, _⟩
  · exact ⟨none, 0, by rw [h0], by omega, Nat.zero_le _⟩
  · exact ⟨_, _, rfl, h1, h2⟩
theorem cell_int2 (w : World) (x : Int) (t : TypeId) : ∀ j u, (i64s [x])[j]? = some u → (w.alloc (.cells #[.int .i64 x] t)).cell? ((⟨w.heap.size, 0, none⟩ : Addr).add j) = some u :=
  World.news_of_block (heap_alloc_new w _)
theorem ite_max (a b : Int) : (if a < b then b else a) = max a b := by split <;> omega
theorem tyDeps_len (l : List Ty) : (tyDeps l).length = l.length := tyTab_len _ _
theorem tyDeps_bd2 {l : List Ty} {r : Int} (h : TyOk l r) : ∀ v ∈ tyDeps l, 0 ≤ v ∧ v ≤ 65535 := fun v hv => by
  obtain ⟨j, hj⟩ := List.getElem?_of_mem hv
  have := tyDep_bd h (j : Int)
  unfold tyDep at this
  rw [Int.toNat_natCast, List.getD_eq_getElem?_getD, hj] at this
  exact this
theorem tyDeps_take {l : List Ty} {k : Nat} (hk : k ≤ l.length) : tyDeps (l.take k) = (tyDeps l).take k := tyTab_take _ _ _ hk
theorem tyDeps_snoc (l : List Ty) (t : Ty) : tyDeps (l ++ [t]) = tyDeps l ++ [tyDpt (tyDeps l) t] := tyTab_snoc _ _ _
theorem tyDpt_ref {ds : List Int} {t : Ty} (h : t.kind = 3) {v : Int} (hv : ds.getD t.elem.toNat 0 = v) (h0 : 0 ≤ v) : tyDpt ds t = v + 1 := by
  unfold tyDpt
  rw [tyParts_ref h]
  simp only [List.map_cons, List.map_nil, List.foldl_cons, List.foldl_nil, hv]
  rw [Int.max_eq_right h0]
theorem tyDpt_to {ds : List Int} {t : Ty} {fs : List Int} (h : tyParts t = fs) {n : Nat} (hn : fs.length ≤ n) : tyDpt ds t = maxTo fs (fun p => ds.getD p.toNat 0) n + 1 := by
  unfold tyDpt maxTo
  rw [h, List.take_of_length_le hn]

set_option maxHeartbeats 2000000 in
set_option maxRecDepth 100000 in
theorem depths_any (A : Option Addr) (n c : Nat) (L : List TyW) (m : Nat) (rg : Int) (w : World) (hA : Typs w w.heap.size A n L) (hm : m ≤ n) (hn : n ≤ 65535) (hok : TyOk ((tys L).take m) rg) :
    Calls Try.prog 38 #[.slice A n c, .int .i64 (m : Int)] w fun e w' => ∃ A' c', e = .returned (.slice A' m c') ∧ m ≤ c' ∧ c' ≤ maxLen ∧ w'.ownsRow w.heap.size 3 1 (.slice A' m c') m (i64s (tyDeps ((tys L).take m))) ∧ Below w.heap.size w w' := by
  obtain ⟨i0, hi, hz0, hz1, hz2⟩ := info_parts infoInt
  have HA := hide hA
  have HL := hide hA.len
  have HOK := hide hok
  clear hA hok
  go_enter Try.func38, Try.ntmps38
  go_wp2
  go_loopw [5, 6] (fun v i wr => ∃ k : Nat, i = .int .i64 (k : Int) ∧ k ≤ m ∧ wr.ownsRow w.heap.size 3 1 v k (i64s (tyDeps ((tys L).take k))) ∧ Below w.heap.size w wr) (fun _ i _ => m - (intOf i).toNat)
  case atStart => exact ⟨0, rfl, Nat.zero_le _, World.ownsRow_nil _ _ _ _, Below.refl _ _⟩
  case round =>
    obtain ⟨k, rfl, hk, hown, hb⟩ := hrel
    obtain ⟨A1, c1, rfl, hk1, hc1⟩ := ownsRow_shape3 hown
    have HO := hide hown
    have HB := hide hb
    have hsz := hb.size
    unfold maxLen at hc1
    clear hown hb
    by_cases hlt : k < m
    · have hlt' : (k : Int) < (m : Int) := by omega
      have hkn : (k : Int) < (n : Int) := by omega
      have hex : ∃ a, L[k]? = some a := ⟨_, List.getElem?_eq_getElem (by have := HL.out; omega)⟩
      obtain ⟨x, hx⟩ := hex
      obtain ⟨g, o, rfl, hgB, h1, c0, _, _, c3, c4⟩ := (HA.out.below HB.out).at_ hx
      have hat := tys_at hx
      have hat' : ((tys L).take m)[k]? = some x.t := by rw [List.getElem?_take, if_pos hlt]; exact hat
      have how := HOK.out.own hat'
      have hsn := tyTake_snoc hat
      have hpre : TyOk ((tys L).take k) rg := by
        have := HOK.out.take k
        rwa [List.take_take, Nat.min_eq_left (by omega)] at this
      have hbd := tyDeps_bd2 hpre
      have hdl : (tyDeps ((tys L).take k)).length = k := by rw [tyDeps_len, List.length_take, tys_len]; have := HL.out; omega
      have hup := tyDeps_snoc ((tys L).take k) x.t
      rw [← hsn] at hup
      generalize hds : tyDeps ((tys L).take k) = ds at *
      have HR := hide (Rd.of_own HO.out)
      have HUP := hide hup
      have HDL := hide hdl
      have HBD := hide hbd
      by_cases h3 : x.t.kind = 3
      · have e3 : (x.t.kind == 3) = true := beq_iff_eq.2 h3
        have hfs : x.n = 0 := by rw [← h1.ok.len, how.2.2.1 (by omega)]; rfl
        have hp := how.2.2.2.2.1 x.t.elem (by rw [tyParts_ref h3]; simp)
        obtain ⟨hp0, hp1⟩ := hp
        obtain ⟨q, hq⟩ := Int.eq_ofNat_of_zero_le hp0
        rw [hq] at c3 hp1
        have hex : ∃ v, ds[q]? = some v := ⟨_, List.getElem?_eq_getElem (by omega)⟩
        obtain ⟨v, hv⟩ := hex
        have hv1 := hbd v (List.mem_of_getElem? hv)
        obtain ⟨g1, o1, rfl, hg1, d0⟩ := HR.out.int hv
        have hd : tyDpt ds x.t = v + 1 := tyDpt_ref h3 (by rw [hq, Int.toNat_natCast, List.getD_eq_getElem?_getD, hv]; rfl) hv1.1
        have HD := hide hd
        rw [hfs] at c4
        obtain ⟨hv0, hv2⟩ := hv1
        clear hx hat hat' how hsn hpre hbd hdl hup hds h3 h1 hfs hv hd hq
        go_wp2_with fail
        go_loop [7, 8] (fun kk j => j = .int .i64 0 ∧ kk = .int .i64 v) (fun _ _ => 0)
        case atStart => exact ⟨rfl, rfl⟩
        case round =>
          obtain ⟨rfl, rfl⟩ := hrel
          go_wp2_with (at_builtin; refine wpList_append_own_at _ rfl (.tmp 51) (.tmp 54) 39 rfl w.heap.size 3 i0 (.int .i64 0) 1 8 Try.underlying39 hi hz0 hz1 hz2 rfl (by decide) _ k _ rfl (HO.out.alloc _) ⟨wr.heap.size, 0, none⟩ 1 1 (i64s [v + 1]) rfl rfl (cell_int2 wr (v + 1) 3) (ints_oneCell _ _) (by unfold maxLen; omega) (by omega) (by simp; omega) ?_; intro v5 w5 hown5 hg5 _ hat5; have HO5 := hide hown5; have HB5 := hide (below_app (HB.out.alloc hsz _) (HO.out.alloc _) (by simp; omega) hg5); clear hown5 hg5 hat5)
          go_roundw
          case rel =>
            refine ⟨k + 1, by go_num, by omega, ?_, HB5.out⟩
            have h := HO5.out
            rw [← List.map_append] at h
            rw [HUP.out, HD.out]
            exact h
          case measure => simp [intOf]; omega
      · have e3 : (x.t.kind == 3) = false := beq_eq_false_iff_ne.2 h3
        have hpf : tyParts x.t = x.t.fields := by
          by_cases h4 : x.t.kind = 4
          · exact tyParts_tup h4
          · rw [tyParts_none h3 h4, how.2.2.1 h4]
        have hfl := h1.ok.len
        have HFL := hide hfl
        have HRF := hide h1.rd
        have HP := hide (fun p hp => how.2.2.2.2.1 p (by rw [hpf]; exact hp) : ∀ p ∈ x.t.fields, 0 ≤ p ∧ p < (k : Int))
        have HD := hide (tyDpt_to (ds := ds) hpf (Nat.le_of_eq hfl))
        have HMB := hide (maxTo_bd (ps := x.t.fields) (d := fun p => ds.getD p.toNat 0) (fun p _ => tyDpt_bd hbd p))
        have hxn : x.n ≤ maxLen := Nat.le_trans h1.ok.nc h1.ok.cm
        unfold maxLen at hxn
        clear hx hat hat' how hsn hpre hbd hdl hup hds h3 h1 hpf hfl
        go_wp2_with fail
        go_loop [7, 8] (fun kk j => ∃ i : Nat, j = .int .i64 (i : Int) ∧ i ≤ x.n ∧ kk = .int .i64 (maxTo x.t.fields (fun p => ds.getD p.toNat 0) i)) (fun _ j => x.n - (intOf j).toNat)
        case atStart => exact ⟨0, rfl, Nat.zero_le _, rfl⟩
        case round =>
          obtain ⟨i, rfl, hi', rfl⟩ := hrel
          by_cases hlt2 : i < x.n
          · have hlt2' : (i : Int) < (x.n : Int) := by omega
            have hex : ∃ p, x.t.fields[i]? = some p := ⟨_, List.getElem?_eq_getElem (by have := HFL.out; omega)⟩
            obtain ⟨p, hp⟩ := hex
            obtain ⟨gf, of, hAf, hgf, df⟩ := HRF.out.int hp
            rw [hAf] at c4
            have hpp := HP.out p (List.mem_of_getElem? hp)
            obtain ⟨hp0, hp1⟩ := hpp
            obtain ⟨q, rfl⟩ := Int.eq_ofNat_of_zero_le hp0
            have hex : ∃ v, ds[q]? = some v := ⟨_, List.getElem?_eq_getElem (by have := HDL.out; omega)⟩
            obtain ⟨v, hv⟩ := hex
            obtain ⟨g1, o1, rfl, hg1, d0⟩ := HR.out.int hv
            have hms := maxTo_succ (fun p : Int => ds.getD p.toNat 0) hp
            have he : ds.getD ((q : Int)).toNat 0 = v := by rw [Int.toNat_natCast, List.getD_eq_getElem?_getD, hv]; rfl
            simp only [he] at hms
            have HMS := hide hms
            have hv1 := HBD.out v (List.mem_of_getElem? hv)
            obtain ⟨hv0, hv2⟩ := hv1
            have hb1 := HMB.out i
            obtain ⟨hb0, hb2⟩ := hb1
            generalize maxTo x.t.fields (fun p => ds.getD p.toNat 0) i = mm at *
            clear hp hv hms he hAf
            go_wp2_with fail
            go_round
            case rel => exact ⟨i + 1, by go_num, by omega, by rw [HMS.out, ite_max]⟩
            case measure => simp [intOf]; omega
          · obtain rfl : i = x.n := by omega
            have hb1 := HMB.out x.n
            obtain ⟨hb0, hb2⟩ := hb1
            have hex : ∃ mm, mm = maxTo x.t.fields (fun p => ds.getD p.toNat 0) x.n := ⟨_, rfl⟩
            obtain ⟨mm, hmm⟩ := hex
            rw [← hmm] at HD hb0 hb2 ⊢
            clear hmm
            go_wp2_with (at_builtin; refine wpList_append_own_at _ rfl (.tmp 51) (.tmp 54) 39 rfl w.heap.size 3 i0 (.int .i64 0) 1 8 Try.underlying39 hi hz0 hz1 hz2 rfl (by decide) _ k _ rfl (HO.out.alloc _) ⟨wr.heap.size, 0, none⟩ 1 1 (i64s [mm + 1]) rfl rfl (cell_int2 wr (mm + 1) 3) (ints_oneCell _ _) (by unfold maxLen; omega) (by omega) (by simp; omega) ?_; intro v5 w5 hown5 hg5 _ hat5; have HO5 := hide hown5; have HB5 := hide (below_app (HB.out.alloc hsz _) (HO.out.alloc _) (by simp; omega) hg5); clear hown5 hg5 hat5)
            go_roundw
            case rel =>
              refine ⟨k + 1, by go_num, by omega, ?_, HB5.out⟩
              have h := HO5.out
              rw [← List.map_append] at h
              rw [HUP.out, HD.out]
              exact h
            case measure => simp [intOf]; omega
    · obtain rfl : k = m := by omega
      go_wp2
      go_ret
      exact ⟨A1, c1, rfl, hk1, by unfold maxLen; omega, HO.out, HB.out⟩
end Go.Proofs.Ytphfiohjkjipiaa
