/- The search walked. -/
import Derived.Test.YtagnikaghhobjaaRegS
import Derived.WalkMore
set_option linter.unusedVariables false
namespace Go.Proofs.Ytagnikaghhobjaa
open Go.RowKit Go.Shelf
attribute [local go_sem] Oper.semAt_some

theorem i64app2 {w : World} {base n : Nat} {e : TypeId} {v : Value} {xs ys : List Int} (h : w.ownsRow base e 1 v n (i64s xs ++ i64s ys)) : w.ownsRow base e 1 v n (i64s (xs ++ ys)) := by rw [← List.map_append] at h; exact h
/-- what the body of the loop is known to do -/
def RoundX (base X N l : Nat) (J Jx : List Int → World → Prop) : Prop := ∀ m pre x W1, J pre W1 → pre.length < N → YieldAt Fence.wide m Try.prog l #[.int .i64 x] W1 fun e W' =>
      (e = .returned (.bool true) ∧ J (pre ++ [x]) W' ∧ KeepX base X W1 W') ∨ (e = .returned (.bool false) ∧ Jx (pre ++ [x]) W')

theorem snoc_of {α : Type} : ∀ {L : List α} {n : Nat}, L.length = n + 1 → ∃ M x, L = M ++ [x] ∧ M.length = n := by
  intro L n h
  refine ⟨L.take n, L[n]'(by omega), ?_, by rw [List.length_take]; omega⟩
  have := List.take_append_getElem (show n < L.length by omega)
  rw [this, ← h, List.take_length]

set_option maxHeartbeats 8000000 in
set_option maxRecDepth 100000 in
theorem search_in (m l base X n₀ N : Nat) (J Jx : List Int → World → Prop) (hJ : ∀ s A B, J s A → ItX n₀ X A B → J s B) (hY : RoundX base X N l J Jx)
    (r : Nat) (ps : List Pr) (rg : Int) (A1 : Option Addr) (nD cD : Nat) (D : List Int) (A2 : Option Addr) (c2 : Nat) (L : List RowW) (W0 : World) (hR : RelW W0 base r ps rg A1 nD cD D A2 c2 L)
    (hbn : base ≤ n₀) (hbX : base ≤ X) (hXn : X < n₀) (hn : n₀ ≤ W0.heap.size) (G : Int → Prop) (hG : ∀ a b, (a, b) ∈ ps → G b → G a)
    (A : Option Addr) (n c : Nat) (S : List Int) (hS : RdX W0.heap.size X W0 A n S) (hnn : n ≤ 140737488355327) (hSg : ∀ x ∈ S, (0 ≤ x ∧ x < (D.length : Int)) ∧ ∀ a, D[x.toNat]? = some a → G a)
    (pre0 : List Int) (h0 : J pre0 W0) (hO : ∀ g, ownX X W0 = some g → n₀ ≤ g ∧ g < W0.heap.size) (hN : pre0.length + nD ≤ N) :
    CallsIn Fence.wide m Try.prog 44 #[.pointer (some ⟨r, 0, none⟩), .slice A n c, .func (.yield l) #[] #[]] W0 fun e W' => (∃ v, e = .returned v) ∧
      ((∃ ys : List Int, (∀ a ∈ ys, G a) ∧ (∀ s ∈ S, ∀ b, D[s.toNat]? = some b → ∀ a, Way ps a b → a ∈ ys) ∧ J (pre0 ++ ys) W') ∨ (∃ ys : List Int, (∀ a ∈ ys, G a) ∧ Jx (pre0 ++ ys) W')) := by
  obtain ⟨i0, hi, hz0, hz1, hz2⟩ := info_parts infoInt
  obtain ⟨i1, hi1, hy0, hy1, hy2⟩ := info_parts infoBool
  have HR := hide hR
  have hDl : D.length = nD := hR.dec.ilen
  have hfew := hR.few
  have HJ := hide hJ
  have HYY := hide hY
  have HG := hide hG
  have hc1 := hR.d1
  have hrl : r < W0.heap.size := Nat.lt_of_lt_of_le hR.lt (by omega)
  have HS0 := hide hS
  have HSr := hide (Sr.begin (ab := L.map RowW.xs) hSg)
  rw [hDl] at HSr
  have hA0 : Below W0.heap.size W0 (W0.alloc (.cells (Array.replicate nD (.bool false)) 4)) := (Below.refl _ _).alloc (Nat.le_refl _) _
  have HJ0 := hide (hJ _ _ _ h0 (ItX.of_below hA0 hn))
  have HW0 := hide (show SrW base n₀ X W0.heap.size W0 (W0.alloc (.cells (Array.replicate nD (.bool false)) 4)) (List.replicate nD false) (.slice none 0 0) 0 [] from
    ⟨(Below.refl base W0).alloc (by omega) _, by rw [heap_alloc_new]; simp, World.ownsRow_nil _ _ _ _, fun g hg => by
      have e : ownX X (W0.alloc (.cells (Array.replicate nD (.bool false)) 4)) = ownX X W0 := ownX_eq (hA0.cell (p := ⟨X, 0, none⟩) (show X < W0.heap.size by omega))
      rw [e] at hg
      have := hO g hg
      exact ⟨this.1, by simp; omega, by omega, fun e => by cases e⟩⟩)
  have HS1 := hide (hS.low hA0 (by omega))
  clear hJ hY hG hS hSg h0 hO hR hA0
  refine callsIn_of_wp Try.func44 rfl trivial ?_ rfl
  simp only [Try.ntmps44, List.size_toArray, List.length_cons, List.length_nil, Nat.reduceAdd, Nat.reduceSub, Array.replicate_succ, Array.replicate_zero, List.push_toArray, List.append_toArray, List.nil_append, List.cons_append]
  refine wpIn_wide.2 (wp_scope_straight ((wpIn_wide (n := m)).1 ?_))
  gi_wp2_with (gi_at_make; refine wpListIn_make_rep _ rfl _ _ _ rfl 4 i1 _ Try.underlying90 hi1 hy0 hy1 rfl nD rfl rfl (by rw [hy2]; omega) (by omega) ?_)
  apply wpIn_label
  gi_wp2
  have hgw : W0.heap.size < (W0.alloc (.cells (Array.replicate nD (.bool false)) 4)).heap.size := by rw [World.size_alloc]; omega
  generalize W0.alloc (.cells (Array.replicate nD (.bool false)) 4) = w1 at *
  have hex : ∃ gF, gF = W0.heap.size := ⟨_, rfl⟩
  obtain ⟨gF, hgF⟩ := hex
  rw [← hgF] at HW0 HS1 hn hrl hgw ⊢
  clear hgF
  gi_loopg [1, 7] (2 * nD) (fun g v1 v7 wr => ∃ (A : Option Addr) (n c : Nat) (Ix : List Int) (F : List Bool) (W : List Int) (ys : List Int) (m2 : Nat), v1 = .slice A n c ∧ n ≤ 140737488355327 ∧ Hid (RdX gF X wr A n Ix) ∧ Hid (SrW base n₀ X gF W0 wr F v7 m2 W) ∧ Hid (Sr D (L.map RowW.xs) G S Ix W F ys) ∧ Hid (ys.length + left_ F = nD) ∧ Hid (2 * left_ F + m2 ≤ g) ∧ Hid (g ≤ 2 * nD) ∧ Hid (J (pre0 ++ ys) wr))
  case atStart =>
    have hleft : left_ (List.replicate nD false) = nD := by unfold left_; rw [List.countP_replicate]; simp
    exact ⟨A, n, c, S, _, [], [], 0, rfl, hnn, HS1.out, HW0.out, HSr.out, (show _ = _ by rw [hleft]; simp), (show _ ≤ _ by rw [hleft]; omega), (show _ ≤ _ by omega), (show J (pre0 ++ []) _ by rw [List.append_nil]; exact HJ0.out)⟩
  case round =>
    obtain ⟨A, n, c, Ix, F, W, ys, m2, rfl, hnn, HRd, HSW, HSS, HC, HM, HGK, HJ1⟩ := hrel
    gi_wp2
    gi_loopw [7, 19] (fun v7 i wr => ∃ (k : Nat) (F : List Bool) (W : List Int) (ys : List Int) (m2 : Nat), i = .int .i64 (k : Int) ∧ k ≤ n ∧ Hid (RdX gF X wr A n Ix) ∧ Hid (SrW base n₀ X gF W0 wr F v7 m2 W) ∧ Hid (Sr D (L.map RowW.xs) G S (Ix.drop k) W F ys) ∧ Hid (ys.length + left_ F = nD) ∧ Hid (2 * left_ F + m2 ≤ gk) ∧ Hid (J (pre0 ++ ys) wr)) (fun _ i _ => n - (intOf i).toNat)
    case atStart => exact ⟨0, F, W, ys, m2, rfl, Nat.zero_le _, HRd.out, HSW.out, HSS.out, HC.out, HM.out, HJ1.out⟩
    case round =>
      clear HRd HSW HSS HC HM HJ1
      obtain ⟨k, F, W, ys, m2, rfl, hk, HRd, HSW, HSS, HC, HM, HJ1⟩ := hrel
      have hgr := HSW.out.lt
      by_cases hlt : k < n
      · have hex : ∃ x, Ix[k]? = some x := ⟨_, List.getElem?_eq_getElem (by have := HRd.out.1; omega)⟩
        obtain ⟨x, hx⟩ := hex
        have hlt' : (k : Int) < (n : Int) := by omega
        have hdrop : Ix.drop k = x :: Ix.drop (k + 1) := by
          have hkl := (List.getElem?_eq_some_iff.1 hx).1
          rw [List.drop_eq_getElem_cons hkl]
          rw [List.getElem?_eq_getElem hkl] at hx
          injection hx with hx
          rw [hx]
        have HS2 := HSS
        rw [hdrop] at HS2
        obtain ⟨⟨hx0, hx1⟩, _⟩ := HS2.out.ix x (by simp)
        obtain ⟨i, rfl⟩ := Int.eq_ofNat_of_zero_le hx0
        have hiD : i < nD := by omega
        have hex : ∃ fb, F[i]? = some fb := ⟨_, List.getElem?_eq_getElem (by have := HSW.out; have := HSS.out.len; omega)⟩
        obtain ⟨fb, hfb⟩ := hex
        obtain ⟨b, o, rfl, hbg, hbX, hbO, c0⟩ := HRd.out.at_ hx
        obtain ⟨f0, f1⟩ := HSW.out.cell hfb
        have hi0 : (0 : Int) ≤ (i : Int) := Int.natCast_nonneg _
        have hiD' : (i : Int) < (nD : Int) := by omega
        cases fb
        · have hex : ∃ a, D[i]? = some a := ⟨_, List.getElem?_eq_getElem (by omega)⟩
          obtain ⟨a, ha⟩ := hex
          obtain ⟨hm1, hm2⟩ := HSW.out.mark hn hXn hbn i
          have hlo2 : Below gF wr (wr.setCell ⟨gF, i, none⟩ (.bool true)) := (Below.refl gF wr).setCell (p := ⟨gF, i, none⟩) (Nat.le_refl _) _
          have hRd2 := HRd.out.low hlo2 (by omega)
          obtain ⟨bD, oD, rfl, hbD, dD⟩ := (HR.out.below hm1.low).dec.int ha
          have d1 := (HR.out.below hm1.low).d1
          have hleft := left_set hfb
          have HS3 := hide (show Sr D (L.map RowW.xs) G S (Ix.drop (k + 1)) (W ++ [(i : Int)]) (F.set i true) (ys ++ [a]) from by have h := HS2.out.take (a := a) (by rw [Int.toNat_natCast]; exact ha); rw [Int.toNat_natCast] at h; exact h)
          have HC3 := hide (show (ys ++ [a]).length + left_ (F.set i true) = nD by rw [List.length_append, List.length_singleton]; have := HC.out; omega)
          have HM3 := hide (show 2 * left_ (F.set i true) + (m2 + 1) ≤ gk by have := HM.out; omega)
          have hm2D : m2 ≤ 400000 := by
            have h2 := HM.out
            have := HGK.out
            omega
          obtain ⟨fn, tmps, assign, body, hy, hRR⟩ := HYY.out (m - 1) (pre0 ++ ys) a _ (HJ.out _ _ _ HJ1.out hm2) (by rw [List.length_append]; have := HC.out; omega)
          have HW2 := hide hm1
          have HRd2 := hide hRd2
          clear hx hdrop HS2 hfb hm1 hm2 hlo2 hRd2 ha hleft HSS HC HM HJ1 HRd HSW
          gi_wp2
          refine ⟨fun h => (by cases h), hRR.mono ?_⟩
          rintro e W3 (⟨rfl, hJ3, hk3⟩ | ⟨rfl, hJx3⟩)
          · have HW3 := hide (HW2.out.keep hk3 hn hXn)
            have HRd3 := hide (HRd2.out.keep hk3 (by simp [World.setCell]; omega))
            have HJ3 := hide hJ3
            clear hJ3 hk3 hRR hy f0 f1 d1 dD c0
            have hg3 := HW3.out.lt
            gi_wp2_with (gi_at_builtin; go_must (refine wpListIn_append_own_at _ rfl _ _ 35 rfl (gF + 1) 3 i0 (.int .i64 0) 1 8 Try.underlying35 hi hz0 hz1 hz2 rfl (by decide) _ m2 _ rfl (HW3.out.own.alloc _) ⟨W3.heap.size, 0, none⟩ 1 1 (i64s [(i : Int)]) rfl rfl (cell_int2 W3 (i : Int) 3) (ints_oneCell _ _) (by unfold maxLen; omega) (by omega) (by rw [World.size_alloc]; omega) ?_; intro v5 w5 hown5 hg5 _ hat5; have hal := (Below.refl W3.heap.size W3).alloc (Nat.le_refl _) (.cells #[.int .i64 (i : Int)] 3); have HWa := HW3.out.alloc (by omega) hal (by omega); have happ := HWa.app hn hXn hbn (i64app2 hown5) hg5 hat5; have HW5 := hide happ.1; have HJ5 := hide (HJ.out _ _ _ (HJ.out _ _ _ HJ3.out (ItX.of_below hal (by omega))) happ.2); have HRd5 := hide ((HRd3.out.low (hal.mono (by omega : gF ≤ W3.heap.size)) (by omega)).low ((Below.refl gF _).grown hg5 (by rw [World.size_alloc]; omega) (fun k hk => by have := (HWa.own.lt k hk).1; omega)) (by omega)); clear hown5 hg5 hat5 hal HWa happ))
            exact ⟨⟨k + 1, F.set i true, W ++ [(i : Int)], ys ++ [a], m2 + 1, by go_num, by omega, HRd5.out, HW5.out, HS3.out, HC3.out, HM3.out, (show J (pre0 ++ (ys ++ [a])) w5 by rw [← List.append_assoc]; exact HJ5.out)⟩, by simp [intOf]; omega⟩
          · have HJx3 := hide hJx3
            clear hJx3 hRR hy f0 f1 d1 dD c0
            gi_wp2
            rw [Exit.noGoto_normal]
            go_end0
            exact ⟨⟨_, rfl⟩, .inr ⟨ys ++ [a], HS3.out.good, (by rw [← List.append_assoc]; exact HJx3.out)⟩⟩
        · have HS3 := hide (HS2.out.skip (show Fnd F (i : Int) from by unfold Fnd; rw [Int.toNat_natCast]; exact hfb))
          clear hx hdrop HS2 hfb
          gi_wp2
          exact ⟨⟨k + 1, F, W, ys, m2, by go_num, by omega, HRd.out, HSW.out, HS3.out, HC.out, HM.out, HJ1.out⟩, by simp [intOf]; omega⟩
      · have e : k = n := by omega
        have hlt' : ¬ (k : Int) < (n : Int) := by omega
        have HS2 := HSS
        rw [List.drop_of_length_le (by have := HRd.out.1; omega)] at HS2
        obtain ⟨A7, c7, rfl, hmc, hcm⟩ := ownsRow_shape3 HSW.out.own
        have hWl : W.length = m2 := by have := HSW.out.own.1; simpa using this
        have hm2D : m2 ≤ 400000 := by
          have h2 := HM.out
          have := HGK.out
          omega
        unfold maxLen at hcm
        rcases Nat.eq_zero_or_pos m2 with h0 | h0
        · subst h0
          have e0 : W = [] := List.eq_nil_of_length_eq_zero hWl
          subst e0
          have HE := hide (show ∀ s ∈ S, ∀ b, D[s.toNat]? = some b → ∀ a, Way ps a b → a ∈ ys from fun s hs b hb a ha => HS2.out.end_ HR.out.rel hs hb ha)
          have HSE := hide HS2.out.good
          clear HSS HS2 hWl
          gi_wp2
          go_end0
          exact ⟨⟨_, rfl⟩, .inl ⟨ys, HSE.out, HE.out, HJ1.out⟩⟩
        · obtain ⟨m3, rfl⟩ : ∃ m3, m2 = m3 + 1 := ⟨m2 - 1, by omega⟩
          obtain ⟨W3, x, rfl, hW3⟩ := snoc_of hWl
          obtain ⟨hfx, hx0⟩ := HS2.out.wait x (by simp)
          obtain ⟨i, rfl⟩ := Int.eq_ofNat_of_zero_le hx0
          have hiD : i < nD := by
            unfold Fnd at hfx
            have h1 := (List.getElem?_eq_some_iff.1 hfx).1
            have h2 := HS2.out.len
            rw [Int.toNat_natCast] at h1
            omega
          have hex : ∃ z, L[i]? = some z := ⟨_, List.getElem?_eq_getElem (by have h1 := HR.out.above.len; rw [List.length_map] at h1; omega)⟩
          obtain ⟨z, hz⟩ := hex
          have hex : ∃ y, D[i]? = some y := ⟨_, List.getElem?_eq_getElem (by omega)⟩
          obtain ⟨y, hy⟩ := hex
          have hzx : (L.map RowW.xs)[i]? = some z.xs := by rw [List.getElem?_map, hz]; rfl
          have hGy : G y := HS2.out.good y ((HS2.out.come y).2 ⟨i, by unfold Fnd at hfx; rw [Int.toNat_natCast] at hfx; exact hfx, hy⟩)
          have HS3 := hide (HS2.out.pop (x := (i : Int)) (xs := z.xs) (by rw [Int.toNat_natCast]; exact hzx) (fun t ht => HR.out.rel.rng i z.xs hzx t ht) (fun t ht a ha => by
            obtain ⟨h0, h1⟩ := HR.out.rel.rng i z.xs hzx t ht
            obtain ⟨q, rfl⟩ := Int.eq_ofNat_of_zero_le h0
            rw [Int.toNat_natCast] at ha
            exact HG.out a y ((HR.out.rel.ab i z.xs y hzx hy q a ha).1 ht) hGy))
          obtain ⟨hz1, hz2, hz3⟩ := (HR.out.below HSW.out.low).rows z (List.mem_of_getElem? hz)
          have HRz := hide (RdX.of_rd hz1 hbX (by omega : base ≤ gF) (fun g hg => by have := (HSW.out.ox g hg).1; omega))
          obtain ⟨bL, oL, rfl, hbL, dL⟩ := (HR.out.below HSW.out.low).above.cell (k := i) (u := rowV z) (by rw [List.getElem?_map, hz]; rfl)
          have d2 := (HR.out.below HSW.out.low).d2
          obtain ⟨g7, cap7, hv7, hg7, hg7l⟩ := HSW.out.own.form (by omega)
          obtain ⟨rfl, rfl⟩ : A7 = some ⟨g7, 0, none⟩ ∧ c7 = cap7 := by injection hv7 with h1 h2 h3; exact ⟨h1, h3⟩
          have dW : wr.cell? ⟨g7, m3, none⟩ = some (.int .i64 (i : Int)) := by
            obtain ⟨b, o, e, _, h⟩ := (Rd.of_own HSW.out.own).int (k := m3) (x := (i : Int)) (by rw [List.getElem?_append_right (by omega), hW3, Nat.sub_self]; rfl)
            injection e with e
            injection e with e1 e2
            subst e1 e2
            rw [Nat.zero_add] at h
            exact h
          have e7 : i64s (W3 ++ [(i : Int)]) = i64s W3 ++ [.int .i64 (i : Int)] := List.map_append
          have h7 := HSW.out.own
          rw [e7] at h7
          have HO3 := hide (ownsRow_pop h7)
          clear h7 e7
          have HSW3 := hide (show SrW base n₀ X gF W0 wr F (.slice (some ⟨g7, 0, none⟩) m3 c7) m3 W3 from ⟨HSW.out.low, HSW.out.fnd, HO3.out, HSW.out.ox⟩)
          have hi0 : (0 : Int) ≤ (i : Int) := Int.natCast_nonneg _
          have hiD' : (i : Int) < (nD : Int) := by omega
          have hm0 : (0 : Int) ≤ (m3 : Int) := Int.natCast_nonneg _
          have hm1 : (m3 : Int) ≤ (m3 : Int) + 1 := by omega
          obtain ⟨zxs, zA, zn, zc⟩ := z
          simp only [rowV] at dL
          clear HSS HS2 hWl hfx hz hy hzx hGy hz1 hx0 HSW HO3 hv7 hW3
          gi_wp2
          gi_quiet (fail)
          gi_wp2
          have hq := tyN (Below.refl wr.heap.size wr) nq
          have hgr2 := HSW3.out.lt
          have HSW4 := hide (HSW3.out.alloc (by omega) hq (by omega))
          have HRz4 := hide (HRz.out.low (hq.mono (by omega : gF ≤ wr.heap.size)) (by omega))
          have HJ4 := hide (HJ.out _ _ _ HJ1.out (ItX.of_below hq (by omega)))
          gi_roundg (2 * left_ F + m3)
          case rel => exact ⟨zA, zn, zc, zxs, F, W3, ys, m3, rfl, hz3, HRz4.out, HSW4.out, HS3.out, HC.out, Nat.le_refl _, (show _ ≤ _ by have := HM.out; have := HGK.out; omega), HJ4.out⟩
          case measure => have := HM.out; omega
end Go.Proofs.Ytagnikaghhobjaa
