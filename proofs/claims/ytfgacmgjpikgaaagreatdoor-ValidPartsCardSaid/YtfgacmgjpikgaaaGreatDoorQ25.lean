/- Part 26 of the contracts and their mathematics. -/
import Derived.Test.YtfgacmgjpikgaaaGreatDoorQ18
import Derived.Test.YtfgacmgjpikgaaaGreatDoorQ22
import Derived.Test.YtfgacmgjpikgaaaGreatDoorQ24
import Derived.WalkMore
set_option linter.unusedVariables false
set_option linter.unusedSimpArgs false
namespace Go.Proofs.YtfgacmgjpikgaaaGreatDoor
open Go.RowKit Go.Shelf
attribute [local go_sem] Oper.semAt_some
theorem i64app2 {w : World} {base n : Nat} {e : TypeId} {v : Value} {xs ys : List Int} (h : w.ownsRow base e 1 v n (i64s xs ++ i64s ys)) : w.ownsRow base e 1 v n (i64s (xs ++ ys)) := by rw [← List.map_append] at h; exact h
def RoundX (base X N l : Nat) (J Jx : List Int → World → Prop) : Prop := ∀ m pre x W1, J pre W1 → pre.length < N → YieldAt Fence.wide m Tryz.prog l #[.int .i64 x] W1 fun e W' =>
   (e = .returned (.bool true) ∧ J (pre ++ [x]) W' ∧ KeepX base X W1 W') ∨ (e = .returned (.bool false) ∧ Jx (pre ++ [x]) W')
theorem snoc_of {α : Type} : ∀ {L : List α} {n : Nat}, L.length = n + 1 → ∃ M x, L = M ++ [x] ∧ M.length = n := by
 intro L n h
 refine ⟨L.take n, L[n]'(by omega), ?_, by rw [List.length_take]; omega⟩
 have := List.take_append_getElem (show n < L.length by omega)
 rw [this, ← h, List.take_length]
set_option maxHeartbeats 8000000 in
set_option maxRecDepth 100000 in
theorem search_in (m l base X n₀ N : Nat) (J Jx : List Int → World → Prop) (hJ : ∀ s A B, J s A → ItX n₀ X A B → J s B) (hY : RoundX base X N l J Jx)
  (r : Nat) (ps : List Pr) (rg : Int) (A1 : Option Addr) (nD cD : Nat) (D : List Int) (A2 : Option Addr) (c2 : Nat) (L : List RowW) (W0 : World) (hR : RelW W0 base r ps rg A1 nD cD D A2 c2 L)
  (hbn : base ≤ n₀) (hbX : base ≤ X) (hXn : X < n₀) (hn : n₀ ≤ W0.heap.size) (G : Int → Prop) (hG : ∀ a b, (a, b) ∈ ps → G b → G a)
  (A : Option Addr) (n c : Nat) (S : List Int) (hS : RdX W0.heap.size X W0 A n S) (hnn : n ≤ 140737488355327) (hSg : ∀ x ∈ S, (0 ≤ x ∧ x < (D.length : Int)) ∧ ∀ a, D[x.toNat]? = some a → G a)
  (pre0 : List Int) (h0 : J pre0 W0) (hO : ∀ g, ownX X W0 = some g → n₀ ≤ g ∧ g < W0.heap.size) (hN : pre0.length + nD ≤ N) :
  CallsIn Fence.wide m Tryz.prog 141 #[.pointer (some ⟨r, 0, none⟩), .slice A n c, .func (.yield l) #[] #[]] W0 fun e W' => (∃ v, e = .returned v) ∧
   ((∃ ys : List Int, (∀ a ∈ ys, G a) ∧ (∀ s ∈ S, ∀ b, D[s.toNat]? = some b → ∀ a, Way ps a b → a ∈ ys) ∧ J (pre0 ++ ys) W') ∨ (∃ ys : List Int, (∀ a ∈ ys, G a) ∧ Jx (pre0 ++ ys) W')) := by
 obtain ⟨i0, hi, hz0, hz1, hz2⟩ := info_parts infoInt
 obtain ⟨i1, hi1, hy0, hy1, hy2⟩ := info_parts infoBool
 have HR := hide hR
 have hDl : D.length = nD := hR.dec.ilen
 have hfew := hR.few
 have HJ := hide hJ
 have HYY := hide hY
 have HG := hide hG
 have hc1 := hR.d1
 have hrl : r < W0.heap.size := Nat.lt_of_lt_of_le hR.lt (by omega)
 have HS0 := hide hS
 have HSr := hide (Sr.begin (ab := L.map RowW.xs) hSg)
 rw [hDl] at HSr
 have hA0 : Below W0.heap.size W0 (W0.alloc (.cells (Array.replicate nD (.bool false)) 4)) := (Below.refl _ _).alloc (Nat.le_refl _) _
 have HJ0 := hide (hJ _ _ _ h0 (ItX.of_below hA0 hn))
 have HW0 := hide (show SrW base n₀ X W0.heap.size W0 (W0.alloc (.cells (Array.replicate nD (.bool false)) 4)) (List.replicate nD false) (.slice none 0 0) 0 [] from
  ⟨(Below.refl base W0).alloc (by omega) _, by rw [heap_alloc_new]; simp, World.ownsRow_nil _ _ _ _, fun g hg => by
   have e : ownX X (W0.alloc (.cells (Array.replicate nD (.bool false)) 4)) = ownX X W0 := ownX_eq (hA0.cell (p := ⟨X, 0, none⟩) (show X < W0.heap.size by omega))
   rw [e] at hg
   have := hO g hg
   exact ⟨this.1, by simp; omega, by omega, fun e => by cases e⟩⟩)
 have HS1 := hide (hS.low hA0 (by omega))
 clear hJ hY hG hS hSg h0 hO hR hA0
 refine callsIn_of_wp Tryz.func141 rfl trivial ?_ rfl
 simp only [Tryz.ntmps141, List.size_toArray, List.length_cons, List.length_nil, Nat.reduceAdd, Nat.reduceSub, Array.replicate_succ, Array.replicate_zero, List.push_toArray, List.append_toArray, List.nil_append, List.cons_append]
 refine wpIn_wide.2 (wp_scope_straight ((wpIn_wide (n := m)).1 ?_))
 gi_wp2_with (gi_at_make; refine wpListIn_make_rep _ rfl _ _ _ rfl 4 i1 _ Tryz.underlying179 hi1 hy0 hy1 rfl nD rfl rfl (by rw [hy2]; omega) (by omega) ?_)
 apply wpIn_label
 gi_wp2
 have hgw : W0.heap.size < (W0.alloc (.cells (Array.replicate nD (.bool false)) 4)).heap.size := by rw [World.size_alloc]; omega
 generalize W0.alloc (.cells (Array.replicate nD (.bool false)) 4) = w1 at *
 have hex : ∃ gF, gF = W0.heap.size := ⟨_, rfl⟩
 obtain ⟨gF, hgF⟩ := hex
 rw [← hgF] at HW0 HS1 hn hrl hgw ⊢
 clear hgF
 gi_loopg [1, 7] (2 * nD) (fun g v1 v7 wr => ∃ (A : Option Addr) (n c : Nat) (Ix : List Int) (F : List Bool) (W : List Int) (ys : List Int) (m2 : Nat), v1 = .slice A n c ∧ n ≤ 140737488355327 ∧ Hid (RdX gF X wr A n Ix) ∧ Hid (SrW base n₀ X gF W0 wr F v7 m2 W) ∧ Hid (Sr D (L.map RowW.xs) G S Ix W F ys) ∧ Hid (ys.length + left_ F = nD) ∧ Hid (2 * left_ F + m2 ≤ g) ∧ Hid (g ≤ 2 * nD) ∧ Hid (J (pre0 ++ ys) wr))
 case atStart =>
  have hleft : left_ (List.replicate nD false) = nD := by unfold left_; rw [List.countP_replicate]; simp
  exact ⟨A, n, c, S, _, [], [], 0, rfl, hnn, HS1.out, HW0.out, HSr.out, (show _ = _ by rw [hleft]; simp), (show _ ≤ _ by rw [hleft]; omega), (show _ ≤ _ by omega), (show J (pre0 ++ []) _ by rw [List.append_nil]; exact HJ0.out)⟩
 case round =>
  obtain ⟨A, n, c, Ix, F, W, ys, m2, rfl, hnn, HRd, HSW, HSS, HC, HM, HGK, HJ1⟩ := hrel
  gi_wp2
  gi_loopw [7, 19] (fun v7 i wr => ∃ (k : Nat) (F : List Bool) (W : List Int) (ys : List Int) (m2 : Nat), i = .int .i64 (k : Int) ∧ k ≤ n ∧ Hid (RdX gF X wr A n Ix) ∧ Hid (SrW base n₀ X gF W0 wr F v7 m2 W) ∧ Hid (Sr D (L.map RowW.xs) G S (Ix.drop k) W F ys) ∧ Hid (ys.length + left_ F = nD) ∧ Hid (2 * left_ F + m2 ≤ gk) ∧ Hid (J (pre0 ++ ys) wr)) (fun _ i _ => n - (intOf i).toNat)
  case atStart => exact ⟨0, F, W, ys, m2, rfl, Nat.zero_le _, HRd.out, HSW.out, HSS.out, HC.out, HM.out, HJ1.out⟩
  case round =>
   clear HRd HSW HSS HC HM HJ1
   obtain ⟨k, F, W, ys, m2, rfl, hk, HRd, HSW, HSS, HC, HM, HJ1⟩ := hrel
   have hgr := HSW.out.lt
   by_cases hlt : k < n
   ·
    have hex : ∃ x, Ix[k]? = some x := ⟨_, List.getElem?_eq_getElem (by have := HRd.out.1; omega)⟩
    obtain ⟨x, hx⟩ := hex
    have hlt' : (k : Int) < (n : Int) := by omega
    have hdrop : Ix.drop k = x :: Ix.drop (k + 1) := by
     have hkl := (List.getElem?_eq_some_iff.1 hx).1
     rw [List.drop_eq_getElem_cons hkl]
     rw [List.getElem?_eq_getElem hkl] at hx
     injection hx with hx
     rw [hx]
    have HS2 := HSS
    rw [hdrop] at HS2
    obtain ⟨⟨hx0, hx1⟩, _⟩ := HS2.out.ix x (by simp)
    obtain ⟨i, rfl⟩ := Int.eq_ofNat_of_zero_le hx0
    have hiD : i < nD := by omega
    have hex : ∃ fb, F[i]? = some fb := ⟨_, List.getElem?_eq_getElem (by have := HSW.out; have := HSS.out.len; omega)⟩
    obtain ⟨fb, hfb⟩ := hex
    obtain ⟨b, o, rfl, hbg, hbX, hbO, c0⟩ := HRd.out.at_ hx
    obtain ⟨f0, f1⟩ := HSW.out.cell hfb
    have hi0 : (0 : Int) ≤ (i : Int) := Int.natCast_nonneg _
    have hiD' : (i : Int) < (nD : Int) := by omega
    cases fb
    ·
     have hex : ∃ a, D[i]? = some a := ⟨_, List.getElem?_eq_getElem (by omega)⟩
     obtain ⟨a, ha⟩ := hex
     obtain ⟨hm1, hm2⟩ := HSW.out.mark hn hXn hbn i
     have hlo2 : Below gF wr (wr.setCell ⟨gF, i, none⟩ (.bool true)) := (Below.refl gF wr).setCell (p := ⟨gF, i, none⟩) (Nat.le_refl _) _
     have hRd2 := HRd.out.low hlo2 (by omega)
     obtain ⟨bD, oD, rfl, hbD, dD⟩ := (HR.out.below hm1.low).dec.int ha
     have d1 := (HR.out.below hm1.low).d1
     have hleft := left_set hfb
     have HS3 := hide (show Sr D (L.map RowW.xs) G S (Ix.drop (k + 1)) (W ++ [(i : Int)]) (F.set i true) (ys ++ [a]) from by have h := HS2.out.take (a := a) (by rw [Int.toNat_natCast]; exact ha); rw [Int.toNat_natCast] at h; exact h)
     have HC3 := hide (show (ys ++ [a]).length + left_ (F.set i true) = nD by rw [List.length_append, List.length_singleton]; have := HC.out; omega)
     have HM3 := hide (show 2 * left_ (F.set i true) + (m2 + 1) ≤ gk by have := HM.out; omega)
     have hm2D : m2 ≤ 400000 := by
      have h2 := HM.out
      have := HGK.out
      omega
     obtain ⟨fn, tmps, assign, body, hy, hRR⟩ := HYY.out (m - 1) (pre0 ++ ys) a _ (HJ.out _ _ _ HJ1.out hm2) (by rw [List.length_append]; have := HC.out; omega)
     have HW2 := hide hm1
     have HRd2 := hide hRd2
     clear hx hdrop HS2 hfb hm1 hm2 hlo2 hRd2 ha hleft HSS HC HM HJ1 HRd HSW
     gi_wp2
     refine ⟨fun h => (by cases h), hRR.mono ?_⟩
     rintro e W3 (⟨rfl, hJ3, hk3⟩ | ⟨rfl, hJx3⟩)
     ·
      have HW3 := hide (HW2.out.keep hk3 hn hXn)
      have HRd3 := hide (HRd2.out.keep hk3 (by simp [World.setCell]; omega))
      have HJ3 := hide hJ3
      clear hJ3 hk3 hRR hy f0 f1 d1 dD c0
      have hg3 := HW3.out.lt
      gi_wp2_with (gi_at_builtin; go_must (refine wpListIn_append_own_at _ rfl _ _ 48 rfl (gF + 1) 3 i0 (.int .i64 0) 1 8 Tryz.underlying48 hi hz0 hz1 hz2 rfl (by decide) _ m2 _ rfl (HW3.out.own.alloc _) ⟨W3.heap.size, 0, none⟩ 1 1 (i64s [(i : Int)]) rfl rfl (cell_int2 W3 (i : Int) 3) (ints_oneCell _ _) (by unfold maxLen; omega) (by omega) (by rw [World.size_alloc]; omega) ?_; intro v5 w5 hown5 hg5 _ hat5; have hal := (Below.refl W3.heap.size W3).alloc (Nat.le_refl _) (.cells #[.int .i64 (i : Int)] 3); have HWa := HW3.out.alloc (by omega) hal (by omega); have happ := HWa.app hn hXn hbn (i64app2 hown5) hg5 hat5; have HW5 := hide happ.1; have HJ5 := hide (HJ.out _ _ _ (HJ.out _ _ _ HJ3.out (ItX.of_below hal (by omega))) happ.2); have HRd5 := hide ((HRd3.out.low (hal.mono (by omega : gF ≤ W3.heap.size)) (by omega)).low ((Below.refl gF _).grown hg5 (by rw [World.size_alloc]; omega) (fun k hk => by have := (HWa.own.lt k hk).1; omega)) (by omega)); clear hown5 hg5 hat5 hal HWa happ))
      exact ⟨⟨k + 1, F.set i true, W ++ [(i : Int)], ys ++ [a], m2 + 1, by go_num, by omega, HRd5.out, HW5.out, HS3.out, HC3.out, HM3.out, (show J (pre0 ++ (ys ++ [a])) w5 by rw [← List.append_assoc]; exact HJ5.out)⟩, by simp [intOf]; omega⟩
     ·
      have HJx3 := hide hJx3
      clear hJx3 hRR hy f0 f1 d1 dD c0
      gi_wp2
      rw [Exit.noGoto_normal]
      go_end0
      exact ⟨⟨_, rfl⟩, .inr ⟨ys ++ [a], HS3.out.good, (by rw [← List.append_assoc]; exact HJx3.out)⟩⟩
    ·
     have HS3 := hide (HS2.out.skip (show Fnd F (i : Int) from by unfold Fnd; rw [Int.toNat_natCast]; exact hfb))
     clear hx hdrop HS2 hfb
     gi_wp2
     exact ⟨⟨k + 1, F, W, ys, m2, by go_num, by omega, HRd.out, HSW.out, HS3.out, HC.out, HM.out, HJ1.out⟩, by simp [intOf]; omega⟩
   ·
    have e : k = n := by omega
    have hlt' : ¬ (k : Int) < (n : Int) := by omega
    have HS2 := HSS
    rw [List.drop_of_length_le (by have := HRd.out.1; omega)] at HS2
    obtain ⟨A7, c7, rfl, hmc, hcm⟩ := ownsRow_shape3 HSW.out.own
    have hWl : W.length = m2 := by have := HSW.out.own.1; simpa using this
    have hm2D : m2 ≤ 400000 := by
     have h2 := HM.out
     have := HGK.out
     omega
    unfold maxLen at hcm
    rcases Nat.eq_zero_or_pos m2 with h0 | h0
    ·
     subst h0
     have e0 : W = [] := List.eq_nil_of_length_eq_zero hWl
     subst e0
     have HE := hide (show ∀ s ∈ S, ∀ b, D[s.toNat]? = some b → ∀ a, Way ps a b → a ∈ ys from fun s hs b hb a ha => HS2.out.end_ HR.out.rel hs hb ha)
     have HSE := hide HS2.out.good
     clear HSS HS2 hWl
     gi_wp2
     go_end0
     exact ⟨⟨_, rfl⟩, .inl ⟨ys, HSE.out, HE.out, HJ1.out⟩⟩
    ·
     obtain ⟨m3, rfl⟩ : ∃ m3, m2 = m3 + 1 := ⟨m2 - 1, by omega⟩
     obtain ⟨W3, x, rfl, hW3⟩ := snoc_of hWl
     obtain ⟨hfx, hx0⟩ := HS2.out.wait x (by simp)
     obtain ⟨i, rfl⟩ := Int.eq_ofNat_of_zero_le hx0
     have hiD : i < nD := by
      unfold Fnd at hfx
      have h1 := (List.getElem?_eq_some_iff.1 hfx).1
      have h2 := HS2.out.len
      rw [Int.toNat_natCast] at h1
      omega
     have hex : ∃ z, L[i]? = some z := ⟨_, List.getElem?_eq_getElem (by have h1 := HR.out.above.len; rw [List.length_map] at h1; omega)⟩
     obtain ⟨z, hz⟩ := hex
     have hex : ∃ y, D[i]? = some y := ⟨_, List.getElem?_eq_getElem (by omega)⟩
     obtain ⟨y, hy⟩ := hex
     have hzx : (L.map RowW.xs)[i]? = some z.xs := by rw [List.getElem?_map, hz]; rfl
     have hGy : G y := HS2.out.good y ((HS2.out.come y).2 ⟨i, by unfold Fnd at hfx; rw [Int.toNat_natCast] at hfx; exact hfx, hy⟩)
     have HS3 := hide (HS2.out.pop (x := (i : Int)) (xs := z.xs) (by rw [Int.toNat_natCast]; exact hzx) (fun t ht => HR.out.rel.rng i z.xs hzx t ht) (fun t ht a ha => by
      obtain ⟨h0, h1⟩ := HR.out.rel.rng i z.xs hzx t ht
      obtain ⟨q, rfl⟩ := Int.eq_ofNat_of_zero_le h0
      rw [Int.toNat_natCast] at ha
      exact HG.out a y ((HR.out.rel.ab i z.xs y hzx hy q a ha).1 ht) hGy))
     obtain ⟨hz1, hz2, hz3⟩ := (HR.out.below HSW.out.low).rows z (List.mem_of_getElem? hz)
     have HRz := hide (RdX.of_rd hz1 hbX (by omega : base ≤ gF) (fun g hg => by have := (HSW.out.ox g hg).1; omega))
     obtain ⟨bL, oL, rfl, hbL, dL⟩ := (HR.out.below HSW.out.low).above.cell (k := i) (u := rowV z) (by rw [List.getElem?_map, hz]; rfl)
     have d2 := (HR.out.below HSW.out.low).d2
     obtain ⟨g7, cap7, hv7, hg7, hg7l⟩ := HSW.out.own.form (by omega)
     obtain ⟨rfl, rfl⟩ : A7 = some ⟨g7, 0, none⟩ ∧ c7 = cap7 := by injection hv7 with h1 h2 h3; exact ⟨h1, h3⟩
     have dW : wr.cell? ⟨g7, m3, none⟩ = some (.int .i64 (i : Int)) := by
      obtain ⟨b, o, e, _, h⟩ := (Rd.of_own HSW.out.own).int (k := m3) (x := (i : Int)) (by rw [List.getElem?_append_right (by omega), hW3, Nat.sub_self]; rfl)
      injection e with e
      injection e with e1 e2
      subst e1 e2
      rw [Nat.zero_add] at h
      exact h
     have e7 : i64s (W3 ++ [(i : Int)]) = i64s W3 ++ [.int .i64 (i : Int)] := List.map_append
     have h7 := HSW.out.own
     rw [e7] at h7
     have HO3 := hide (ownsRow_pop h7)
     clear h7 e7
     have HSW3 := hide (show SrW base n₀ X gF W0 wr F (.slice (some ⟨g7, 0, none⟩) m3 c7) m3 W3 from ⟨HSW.out.low, HSW.out.fnd, HO3.out, HSW.out.ox⟩)
     have hi0 : (0 : Int) ≤ (i : Int) := Int.natCast_nonneg _
     have hiD' : (i : Int) < (nD : Int) := by omega
     have hm0 : (0 : Int) ≤ (m3 : Int) := Int.natCast_nonneg _
     have hm1 : (m3 : Int) ≤ (m3 : Int) + 1 := by omega
     obtain ⟨zxs, zA, zn, zc⟩ := z
     simp only [rowV] at dL
     clear HSS HS2 hWl hfx hz hy hzx hGy hz1 hx0 HSW HO3 hv7 hW3
     gi_wp2
     gi_quiet (fail)
     gi_wp2
     have hq := tyN (Below.refl wr.heap.size wr) nq
     have hgr2 := HSW3.out.lt
     have HSW4 := hide (HSW3.out.alloc (by omega) hq (by omega))
     have HRz4 := hide (HRz.out.low (hq.mono (by omega : gF ≤ wr.heap.size)) (by omega))
     have HJ4 := hide (HJ.out _ _ _ HJ1.out (ItX.of_below hq (by omega)))
     gi_roundg (2 * left_ F + m3)
     case rel => exact ⟨zA, zn, zc, zxs, F, W3, ys, m3, rfl, hz3, HRz4.out, HSW4.out, HS3.out, HC.out, Nat.le_refl _, (show _ ≤ _ by have := HM.out; have := HGK.out; omega), HJ4.out⟩
     case measure => have := HM.out; omega
end Go.Proofs.YtfgacmgjpikgaaaGreatDoor
namespace Go.Proofs.YtfgacmgjpikgaaaGreatDoor
open Go.RowKit Go.Shelf
attribute [local go_sem] Oper.semAt_some
theorem RdX.more {B B' X : Nat} {w : World} {A : Option Addr} {n : Nat} {xs : List Int} (h : RdX B X w A n xs) (hB : B ≤ B') : RdX B' X w A n xs :=
 ⟨h.1, fun hn => by
  obtain ⟨b, o, h1, h2, h3⟩ := h.2 hn
  exact ⟨b, o, h1, by omega, h3⟩⟩
theorem way_undeclared {ps : List Pr} {a b : Int} (h : Way ps a b) (hb : ∀ p ∈ ps, b ≠ p.2) : a = b := by
 induction h with
 | refl => rfl
 | @step a c b m w ih =>
  have e := ih hb
  subst e
  exact absurd rfl (hb _ m)
structure SeU (base n₀ X : Nat) (W0 w : World) (v : Value) (m : Nat) (S : List Int) : Prop where
 low : Below base W0 w
 size : n₀ ≤ w.heap.size
 own : w.ownsRow n₀ 3 1 v m (i64s S)
 ox : ∀ g, ownX X w = some g → n₀ ≤ g ∧ g < w.heap.size ∧ v.ownBlock ≠ some g
section
variable {base n₀ X : Nat} {W0 w w' : World} {v : Value} {m : Nat} {S : List Int}
theorem SeU.keep (h : SeU base n₀ X W0 w v m S) (hk : KeepX base X w w') (hX : X < n₀) : SeU base n₀ X W0 w' v m S := by
 refine ⟨h.low.trans hk.low, Nat.le_trans h.size hk.low.size, ⟨h.own.1, ?_⟩, fun g hg => ?_⟩
 ·
  rcases h.own.2 with hv | ⟨g, cap, cur, e, hb, hgg, rest⟩
  ·
   exact .inl hv
  ·
   refine .inr ⟨g, cap, cur, e, hb, hk.cells g _ _ _ hgg (by omega) (fun e2 => ?_), rest⟩
   exact (h.ox g e2.symm).2.2 (by rw [e]; rfl)
 ·
  have hf := hk.fits (fun g hg => (h.ox g hg).2.1) g hg
  rcases hk.own with e | ⟨g', e, hg'⟩
  ·
   rw [e] at hg
   have := h.ox g hg
   exact ⟨this.1, hf, this.2.2⟩
  ·
   rw [e] at hg
   injection hg with hg
   subst hg
   have := h.size
   exact ⟨by omega, hf, fun e2 => by have := (h.own.lt g' e2).2; omega⟩
theorem SeU.alloc (h : SeU base n₀ X W0 w v m S) (hX : X < n₀) (hbl : Below w.heap.size w w') (hb : base ≤ n₀) : SeU base n₀ X W0 w' v m S := by
 have hs := h.size
 have e : ownX X w' = ownX X w := ownX_eq (hbl.cell (p := ⟨X, 0, none⟩) (show X < w.heap.size by omega))
 refine ⟨h.low.trans (hbl.mono (by omega)), Nat.le_trans hs hbl.size, ownsRow_below h.own hbl, fun g hg => ?_⟩
 rw [e] at hg
 have := h.ox g hg
 exact ⟨this.1, Nat.lt_of_lt_of_le this.2.1 hbl.size, this.2.2⟩
theorem SeU.app (h : SeU base n₀ X W0 w v m S) (hX : X < n₀) (hb : base ≤ n₀) {v' : Value} {m' : Nat} {ys : List Int} (hown : w'.ownsRow n₀ 3 1 v' m' (i64s ys)) (hg : w.grownBy w' v.ownBlock) (hat : v'.ownBlock = v.ownBlock ∨ v'.ownBlock = some w.heap.size) :
  SeU base n₀ X W0 w' v' m' ys ∧ ItX n₀ X w w' := by
 have hs := h.size
 have hob : ∀ k, v.ownBlock = some k → n₀ ≤ k := fun k hk => (h.own.lt k hk).1
 have e : ownX X w' = ownX X w := ownX_eq (World.cell?_of_block (w := w) (a := ⟨X, 0, none⟩) (hg.block X (by omega) (fun e => by have := hob X e.symm; omega)))
 refine ⟨⟨h.low.grown hg (by omega) (fun k hk => by have := hob k hk; omega), Nat.le_trans hs hg.size, hown, fun g hg' => ?_⟩, ItX.of_grown hg hs fun k hk => ⟨hob k hk, fun e2 => (h.ox k e2.symm).2.2 hk⟩⟩
 rw [e] at hg'
 have h1 := h.ox g hg'
 refine ⟨h1.1, Nat.lt_of_lt_of_le h1.2.1 hg.size, fun e2 => ?_⟩
 rcases hat with e3 | e3
 ·
  exact h1.2.2 (e3 ▸ e2)
 ·
  rw [e3] at e2
  injection e2 with e2
  omega
theorem SeU.rd (h : SeU base n₀ X W0 w v m S) (hX : X < n₀) {A : Option Addr} {c : Nat} (hv : v = .slice A m c) : RdX w.heap.size X w A m S := by
 subst hv
 have hr := Rd.of_own h.own
 refine ⟨hr.ilen, fun hn => ?_⟩
 obtain ⟨b, o, e, hb, hc⟩ := hr.2 hn
 subst e
 have hbn : n₀ ≤ b := (h.own.lt b rfl).1
 exact ⟨b, o, rfl, hb, by omega, fun e2 => (h.ox b e2.symm).2.2 rfl, fun j x hx => hc j _ (by rw [List.getElem?_map, hx]; rfl)⟩
end
structure Ls (ps : List Pr) (rg : Int) (D l : List Int) (k : Nat) (S pre : List Int) : Prop where
 few : pre.length ≤ k
 good : ∀ a ∈ pre, OutL ps rg l a
 all : ∀ (t : Nat) b, t < k → l[t]? = some b → b ∉ D → 0 ≤ b → b < rg → b ∈ pre
 rng : ∀ x ∈ S, (0 ≤ x ∧ x < (D.length : Int)) ∧ ∀ a, D[x.toNat]? = some a → a ∈ l
 dec : ∀ (t : Nat) b (i : Nat), t < k → l[t]? = some b → D[i]? = some b → (i : Int) ∈ S
section
variable {ps : List Pr} {rg : Int} {D l : List Int} {k : Nat} {S pre : List Int}
theorem Ls.begin : Ls ps rg D l 0 [] [] := ⟨Nat.le_refl _, (fun a h => by cases h), (fun t b h => absurd h (Nat.not_lt_zero _)), (fun x h => by cases h), fun t b i h => absurd h (Nat.not_lt_zero _)⟩
theorem Ls.declared (h : Ls ps rg D l k S pre) (hD : D.Pairwise (· < ·)) {b : Int} {i : Nat} (hb : l[k]? = some b) (hi : D[i]? = some b) : Ls ps rg D l (k + 1) (S ++ [(i : Int)]) pre := by
 refine ⟨by have := h.few; omega, h.good, fun t c ht hc hn => ?_, fun x hx => ?_, fun t c j ht hc hj => ?_⟩
 ·
  rcases Nat.lt_or_ge t k with h1 | h1
  ·
   exact h.all t c h1 hc hn
  ·
   obtain rfl : t = k := by omega
   rw [hb] at hc; injection hc with hc; subst hc
   exact absurd (List.mem_of_getElem? hi) hn
 ·
  rcases List.mem_append.1 hx with hx | hx
  ·
   exact h.rng x hx
  ·
   have e : x = (i : Int) := by simpa using hx
   subst e
   have := (List.getElem?_eq_some_iff.1 hi).1
   refine ⟨by omega, fun a ha => ?_⟩
   rw [Int.toNat_natCast, hi] at ha
   injection ha with ha
   subst ha
   exact List.mem_of_getElem? hb
 ·
  rcases Nat.lt_or_ge t k with h1 | h1
  ·
   exact List.mem_append_left _ (h.dec t c j h1 hc hj)
  ·
   obtain rfl : t = k := by omega
   rw [hb] at hc; injection hc with hc; subst hc
   rw [asc_injR hD hj hi]; simp
theorem Ls.other (h : Ls ps rg D l k S pre) {b : Int} (hb : l[k]? = some b) (hi : b ∉ D) (hr : ¬ (0 ≤ b ∧ b < rg)) : Ls ps rg D l (k + 1) S pre := by
 refine ⟨by have := h.few; omega, h.good, fun t c ht hc hn h0 h1 => ?_, h.rng, fun t c j ht hc hj => ?_⟩
 ·
  rcases Nat.lt_or_ge t k with h2 | h2
  ·
   exact h.all t c h2 hc hn h0 h1
  ·
   obtain rfl : t = k := by omega
   rw [hb] at hc; injection hc with hc; subst hc
   exact absurd ⟨h0, h1⟩ hr
 ·
  rcases Nat.lt_or_ge t k with h2 | h2
  ·
   exact h.dec t c j h2 hc hj
  ·
   obtain rfl : t = k := by omega
   rw [hb] at hc; injection hc with hc; subst hc
   exact absurd (List.mem_of_getElem? hj) hi
theorem Ls.yielded (h : Ls ps rg D l k S pre) {b : Int} (hb : l[k]? = some b) (hi : b ∉ D) (hr : 0 ≤ b ∧ b < rg) : Ls ps rg D l (k + 1) S (pre ++ [b]) := by
 refine ⟨by have := h.few; simp; omega, fun a ha => ?_, fun t c ht hc hn h0 h1 => ?_, h.rng, fun t c j ht hc hj => ?_⟩
 ·
  rcases List.mem_append.1 ha with ha | ha
  ·
   exact h.good a ha
  ·
   have e : a = b := by simpa using ha
   subst e
   exact ⟨a, List.mem_of_getElem? hb, Out.refl hr⟩
 ·
  rcases Nat.lt_or_ge t k with h2 | h2
  ·
   exact List.mem_append_left _ (h.all t c h2 hc hn h0 h1)
  ·
   obtain rfl : t = k := by omega
   rw [hb] at hc; injection hc with hc; subst hc
   simp
 ·
  rcases Nat.lt_or_ge t k with h2 | h2
  ·
   exact h.dec t c j h2 hc hj
  ·
   obtain rfl : t = k := by omega
   rw [hb] at hc; injection hc with hc; subst hc
   exact absurd (List.mem_of_getElem? hj) hi
theorem dec_in {ab : List (List Int)} (hr : RelD ps rg D ab) (hok : PrOk ps rg) {a : Int} (h : a ∈ D) : 0 ≤ a ∧ a < rg := by
 obtain ⟨p, hp, rfl | rfl⟩ := (hr.mem a).1 h
 ·
  exact hok.a p hp
 ·
  exact hok.b p hp
theorem Ls.end_ {ab : List (List Int)} (h : Ls ps rg D l k S pre) (hk : l.length ≤ k) (hr : RelD ps rg D ab) (hok : PrOk ps rg) {ys : List Int} (h1 : ∀ a ∈ ys, OutL ps rg l a) (h2 : ∀ s ∈ S, ∀ b, D[s.toNat]? = some b → ∀ a, Way ps a b → a ∈ ys) : ∀ a, a ∈ pre ++ ys ↔ OutL ps rg l a := by
 intro a
 constructor
 ·
  intro ha
  rcases List.mem_append.1 ha with ha | ha
  ·
   exact h.good a ha
  ·
   exact h1 a ha
 ·
  rintro ⟨b, hb, ⟨_, hbr, hw⟩⟩
  obtain ⟨t, ht⟩ := List.getElem?_of_mem hb
  have htl := (List.getElem?_eq_some_iff.1 ht).1
  by_cases hD : b ∈ D
  ·
   obtain ⟨i, hi⟩ := List.getElem?_of_mem hD
   exact List.mem_append_right _ (h2 _ (h.dec t b i (by omega) ht hi) b (by rw [Int.toNat_natCast]; exact hi) a hw)
  ·
   have e := way_undeclared hw (fun p hp e => hD ((hr.mem b).2 ⟨p, hp, .inr e⟩))
   subst e
   exact List.mem_append_left _ (h.all t a (by omega) ht hD hbr.1 hbr.2)
theorem outL_up (hok : PrOk ps rg) : ∀ a b, (a, b) ∈ ps → OutL ps rg l b → OutL ps rg l a := by
 rintro a b hm ⟨c, hc, h⟩
 exact ⟨c, hc, ⟨hok.a _ hm, h.2.1, .step hm h.2.2⟩⟩
end
set_option maxHeartbeats 8000000 in
set_option maxRecDepth 100000 in
theorem outliving_seq (m : Nat) (hm1 : 1 ≤ m) (base X Bl Br r : Nat) (ps : List Pr) (rg : Int) (A1 : Option Addr) (nD cD : Nat) (D : List Int) (A2 : Option Addr) (c2 : Nat) (L : List RowW) (A : Option Addr) (n c : Nat) (l : List Int) (w : World)
  (hR : RelW w base r ps rg A1 nD cD D A2 c2 L) (hbX : base ≤ X) (hXw : X < w.heap.size) (hL : RdX w.heap.size X w A n l) (hn : n ≤ 1000000000) (hBl : w.cell? ⟨Bl, 0, none⟩ = some (.slice A n c)) (hBr : w.cell? ⟨Br, 0, none⟩ = some (.pointer (some ⟨r, 0, none⟩))) (hBX : Br ≠ X) :
  SeqX m Tryz.prog 140 #[.pointer (some ⟨Bl, 0, none⟩), .pointer (some ⟨Br, 0, none⟩)] base X (fun xs => ∀ a, a ∈ xs ↔ OutL ps rg l a) (fun pre => ∀ a ∈ pre, OutL ps rg l a) (n + nD) w := by
 intro yl J Jx W hbW hO hXW hJ hJx hY0 h0
 have hY : RoundX base X (n + nD) yl J Jx := fun m' pre x W1 h h' => round_deep m' (hY0 pre x W1 h h')
 have hBll : Bl < w.heap.size := World.block_lt_of_cell? w _ hBl
 have hBrl : Br < w.heap.size := World.block_lt_of_cell? w _ hBr
 have hbl := (hbW.cell (p := ⟨Bl, 0, none⟩) hBll).trans hBl
 have hbr := (hbW.cell (p := ⟨Br, 0, none⟩) hBrl).trans hBr
 have hRW := hR.below (hbW.mono (by omega))
 have hLW := hL.low hbW hXw
 have hbs := hbW.size
 have hll : l.length = n := hL.1
 generalize hn0 : W.heap.size = n₀ at *
 have HR := hide hRW
 have HL := hide (hLW.more hbs)
 have HJ := hide hJ
 have HYY := hide hY
 have HSt := hide (show SeU base n₀ X W W (.slice none 0 0) 0 [] from ⟨Below.refl _ _, by omega, World.ownsRow_nil _ _ _ _, fun g hg => by rw [hO] at hg; cases hg⟩)
 have HJ0 := hide h0
 obtain ⟨i0, hi, hz0, hz1, hz2⟩ := info_parts infoInt
 have hnl : nD ≤ 200000 := hRW.few
 have hbase : base ≤ n₀ := by omega
 clear hY0 hR hL hRW hLW hJ hJx hY h0 hbW hBl hBr hO
 show CallsIn Fence.wide m Tryz.prog 140 #[.func (.yield yl) #[] #[], .pointer (some ⟨Bl, 0, none⟩), .pointer (some ⟨Br, 0, none⟩)] W _
 refine callsIn_of_wp Tryz.func140 rfl trivial ?_ rfl
 simp only [Tryz.ntmps140, List.size_toArray, List.length_cons, List.length_nil, Nat.reduceAdd, Nat.reduceSub, Array.replicate_succ, Array.replicate_zero, List.push_toArray, List.append_toArray, List.nil_append, List.cons_append]
 gi_wp2
 gi_loopw [4, 11] (fun v i wr => ∃ (k m2 : Nat) (S pre : List Int), i = .int .i64 (k : Int) ∧ k ≤ n ∧ m2 ≤ k ∧ Hid (SeU base n₀ X W wr v m2 S) ∧ Hid (RdX n₀ X wr A n l) ∧ wr.cell? ⟨Br, 0, none⟩ = some (.pointer (some ⟨r, 0, none⟩)) ∧ Hid (Ls ps rg D l k S pre) ∧ Hid (J pre wr)) (fun _ i _ => n - (intOf i).toNat)
 case atStart => exact ⟨0, 0, [], [], rfl, Nat.zero_le _, Nat.le_refl _, HSt.out, HL.out, hbr, Ls.begin, HJ0.out⟩
 case round =>
  obtain ⟨k, m2, S, pre, rfl, hk, hm2, HS, HRd, hbr, HLs, HJ1⟩ := hrel
  have hsz := HS.out.size
  obtain ⟨A7, c7, rfl, hmc, hcm⟩ := ownsRow_shape3 HS.out.own
  unfold maxLen at hcm
  have hXn : X < n₀ := by omega
  have hBrn : Br < n₀ := by omega
  by_cases hlt : k < n
  ·
   have hex : ∃ b, l[k]? = some b := ⟨_, List.getElem?_eq_getElem (by omega)⟩
   obtain ⟨b, hb⟩ := hex
   obtain ⟨bl, ol, rfl, hbg, hbX2, hbO, c0⟩ := HRd.out.at_ hb
   have hlt' : (k : Int) < (n : Int) := by omega
   have RW := HR.out.below HS.out.low
   have r0 := RW.d0
   have HB := hide hb
   by_cases hD : b ∈ D
   ·
    obtain ⟨i, hiD⟩ := List.getElem?_of_mem hD
    have HC := hide (index_yes (cD := cD) hiD wr RW.d1 RW.dec RW.rel.asc (by omega))
    have HLs2 := hide (HLs.out.declared RW.rel.asc hb hiD)
    clear hb hiD hD RW
    gi_wp2_with (first
     | (refine ⟨trivial, ?_⟩; gi_at_call 139; go_must (refine (callsIn_wide.2 HC.out).mono ?_); rintro e w1 ⟨rfl, q, rfl⟩; have hq := tyN (Below.refl wr.heap.size wr) q; have HSq := hide (HS.out.alloc hXn hq hbase); have hal := hq.alloc hq.size (.cells #[.int .i64 (i : Int)] 3))
     | (gi_at_builtin; go_must (refine wpListIn_append_own_at _ rfl _ _ 48 rfl n₀ 3 i0 (.int .i64 0) 1 8 Tryz.underlying48 hi hz0 hz1 hz2 rfl (by decide) _ m2 _ rfl (HSq.out.own.alloc _) ⟨wr.heap.size, 0, none⟩ 1 1 (i64s [(i : Int)]) rfl rfl (cell_int2 (wr.drewN q) (i : Int) 3) (ints_oneCell _ _) (by unfold maxLen; omega) (by omega) (by rw [World.size_alloc]; have := HSq.out.size; omega) ?_; intro v5 w5 hown5 hg5 _ hat5; have HSa := HS.out.alloc hXn hal hbase; have happ := HSa.app hXn hbase (i64app2 hown5) hg5 hat5; have HS5 := hide happ.1; have HJ5 := hide (HJ.out _ _ _ (HJ.out _ _ _ HJ1.out (ItX.of_below hal hsz)) happ.2); have hlow5 := hide ((hal.mono hsz).trans happ.2.low); clear hown5 hg5 hat5 happ)))
    exact ⟨⟨k + 1, m2 + 1, S ++ [(i : Int)], pre, by go_num, by omega, by omega, HS5.out, HRd.out.low hlow5.out hXn, (hlow5.out.cell (p := ⟨Br, 0, none⟩) hBrn).trans hbr, HLs2.out, HJ5.out⟩, by simp [intOf]; omega⟩
   ·
    have HC := hide (index_no (cD := cD) hD wr RW.d1 RW.dec RW.rel.asc (by omega))
    by_cases hrg : 0 ≤ b ∧ b < rg
    ·
     have HT := hide (show tyIn b rg = true from tyIn_iff.2 hrg)
     have HLs2 := hide (HLs.out.yielded hb hD hrg)
     clear hb hD RW
     gi_wp2_with (first
      | (refine ⟨trivial, ?_⟩; gi_at_call 139; go_must (refine (callsIn_wide.2 HC.out).mono ?_); go_must (rintro e w1 ⟨⟨k0, rfl⟩, q, rfl⟩); have hq := tyN (Below.refl wr.heap.size wr) q; have HSq := hide (HS.out.alloc hXn hq hbase); have r0' : (wr.drewN q).cell? ⟨r, 0, none⟩ = _ := r0; have hbr' : (wr.drewN q).cell? ⟨Br, 0, none⟩ = _ := hbr; obtain ⟨fn, tmps, assign, body, hy, hRR⟩ := HYY.out (m - 1) pre b (wr.drewN q) (HJ.out _ _ _ HJ1.out (ItX.of_below hq hsz)) (by have := HLs.out.few; omega))
      | (refine ⟨trivial, ?_⟩; gi_at_call 73; refine (callsIn_wide.2 (rwithin_is HT.out _)).mono ?_; rintro e w1 ⟨rfl, rfl⟩))
     refine hRR.mono ?_
     rintro e W3 (⟨rfl, hJ3, hk3⟩ | ⟨rfl, hJx3⟩)
     ·
      have HS3 := hide (HSq.out.keep hk3 hXn)
      have HRd3 := hide ((HRd.out.low (hq.mono hsz) hXn).keep hk3 hsz)
      have hbr3 : W3.cell? ⟨Br, 0, none⟩ = some (.pointer (some ⟨r, 0, none⟩)) := hk3.cell hbr' hBX (fun e => by have := (HSq.out.ox Br e.symm).1; omega)
      have HJ3 := hide hJ3
      clear hJ3 hk3 hRR hy
      gi_wp2
      exact ⟨⟨k + 1, m2, S, pre ++ [b], by go_num, by omega, by omega, HS3.out, HRd3.out, hbr3, HLs2.out, HJ3.out⟩, by simp [intOf]; omega⟩
     ·
      have HJx3 := hide hJx3
      clear hJx3 hRR hy
      gi_wp2
      refine bodyPost_ret (results_none rfl _ _ _) rfl ?_
      exact ⟨⟨_, rfl⟩, .inr ⟨pre ++ [b], HLs2.out.good, HJx3.out⟩⟩
    ·
     have HT := hide (show tyIn b rg = false from tyIn_not.2 hrg)
     have HLs2 := hide (HLs.out.other hb hD hrg)
     clear hb hD hrg RW
     gi_wp2_with (first
      | (refine ⟨trivial, ?_⟩; gi_at_call 139; go_must (refine (callsIn_wide.2 HC.out).mono ?_); go_must (rintro e w1 ⟨⟨k0, rfl⟩, q, rfl⟩); have hq := tyN (Below.refl wr.heap.size wr) q; have HSq := hide (HS.out.alloc hXn hq hbase); have r0' : (wr.drewN q).cell? ⟨r, 0, none⟩ = _ := r0; have hbr' : (wr.drewN q).cell? ⟨Br, 0, none⟩ = _ := hbr)
      | (refine ⟨trivial, ?_⟩; gi_at_call 73; refine (callsIn_wide.2 (rwithin_is HT.out _)).mono ?_; rintro e w1 ⟨rfl, rfl⟩))
     refine ⟨fun _ h => (by cases h), ?_⟩
     gi_wp2
     exact ⟨⟨k + 1, m2, S, pre, by go_num, by omega, by omega, HSq.out, HRd.out.low (hq.mono hsz) hXn, hbr', HLs2.out, HJ.out _ _ _ HJ1.out (ItX.of_below hq hsz)⟩, by simp [intOf]; omega⟩
  ·
   have e : k = n := by omega
   have hlt' : ¬ (k : Int) < (n : Int) := by omega
   have RW := hide (HR.out.below HS.out.low)
   have hSR := HS.out.rd hXn rfl
   have HC := hide (search_in (m - 1) yl base X n₀ (n + nD) J Jx HJ.out HYY.out r ps rg A1 nD cD D A2 c2 L wr RW.out hbase hbX hXn hsz (OutL ps rg l) (outL_up RW.out.ok) A7 m2 c7 S hSR (by omega)
    (fun x hx => ⟨(HLs.out.rng x hx).1, fun a ha => by
     have h1 := (HLs.out.rng x hx).2 a ha
     exact ⟨a, h1, Out.refl (dec_in RW.out.rel RW.out.ok (List.mem_of_getElem? ha))⟩⟩) pre HJ1.out (fun g hg => ⟨(HS.out.ox g hg).1, (HS.out.ox g hg).2.1⟩) (by have := HLs.out.few; omega))
   clear hSR hlt
   gi_wp2_with (refine ⟨trivial, ?_⟩; gi_at_call 141; refine HC.out.mono ?_; rintro e W3 ⟨⟨v, rfl⟩, hres⟩)
   go_end0
   refine ⟨⟨_, rfl⟩, ?_⟩
   rcases hres with ⟨ys, h1, h2, h3⟩ | ⟨ys, h1, h3⟩
   ·
    exact .inl ⟨pre ++ ys, HLs.out.end_ (by omega) RW.out.rel RW.out.ok h1 h2, h3⟩
   ·
    exact .inr ⟨pre ++ ys, fun a ha => (List.mem_append.1 ha).elim (HLs.out.good a) (h1 a), h3⟩
end Go.Proofs.YtfgacmgjpikgaaaGreatDoor
