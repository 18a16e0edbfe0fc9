/- compare. -/
import Derived.Test.YtagnikaghhobjaaRegQ
set_option linter.unusedVariables false
namespace Go.Proofs.Ytagnikaghhobjaa
open Go.RowKit

abbrev cellsT (x : TyW) : Array Value := #[.int .i64 x.t.kind, .bool x.t.mut_, .int .i64 x.t.region, .int .i64 x.t.elem, .slice x.A x.n x.c]
/-- the world behind the two boxes -/
abbrev box2 (w : World) (a b : TyW) : World := (w.alloc (.cells (cellsT a) 50)).alloc (.cells (cellsT b) 50)
theorem box2_below (w : World) (a b : TyW) : Below w.heap.size w (box2 w a b) := ((Below.refl _ _).alloc (Nat.le_refl _) _).alloc (by simp) _
theorem own_lit2 (w : World) (x y : Int) (t : TypeId) : (w.alloc (.cells #[.int .i64 x, .int .i64 y] t)).ownsRow w.heap.size t 2 (.slice (some ⟨w.heap.size, 0, none⟩) 1 1) 1 ([(x, y)].flatMap pV) :=
  ⟨rfl, .inr ⟨w.heap.size, 1, _, rfl, Nat.le_refl _, heap_alloc_new w _, Nat.le_refl _, by unfold maxLen; decide, rfl, rfl⟩⟩
theorem newsP (w : World) (x y : Int) (t : TypeId) {g : Nat} (hg : g = w.heap.size) : ∀ j u, ([(x, y)].flatMap pV)[j]? = some u → (w.alloc (.cells #[.int .i64 x, .int .i64 y] t)).cell? ((⟨g, 0, none⟩ : Addr).add j) = some u := by
  subst hg
  intro j u hu
  exact World.news_of_block (heap_alloc_new w (.cells #[.int .i64 x, .int .i64 y] t)) j u (by simpa [pV] using hu)
theorem RetP.of_own {w : World} {base n c : Nat} {A : Option Addr} {ps : List Pr} (h : w.ownsRow base 31 2 (.slice A n c) n (ps.flatMap pV)) : RetP w A n c ps := by
  obtain ⟨A', c', e, h1, h2⟩ := ownsRow_shape3 h
  cases e
  exact ⟨h1, h2, Cells.of_own pV_len (by decide) h⟩
theorem RetP.below {w w' : World} {A : Option Addr} {n c : Nat} {ps : List Pr} (h : RetP w A n c ps) (hb : Below w.heap.size w w') : RetP w' A n c ps := ⟨h.1, h.2.1, (h.2.2.below hb).more hb.size⟩

theorem cmpR_mk {w w' : World} {ps : List Pr} {rg : Int} {a b : Ty} {A : Option Addr} {n c : Nat} {v : Bool} (hp : poss (out ps rg) a b = v) (hr : v = true → RetP w' A n c (needs a b)) (hb : Below w.heap.size w w') : CmpR w ps rg a b (.returned (.tuple #[.slice A n c, .bool v])) w' := by
  subst hp
  exact ⟨A, n, c, rfl, hr, hb⟩

set_option maxHeartbeats 4000000 in
set_option maxRecDepth 100000 in
theorem cmp_ne (r : Nat) (a b : TyW) (ps : List Pr) (rg : Int) (w : World) (h : a.t.kind ≠ b.t.kind) :
    Calls Try.prog 39 #[.pointer (some ⟨r, 0, none⟩), aggT a, aggT b] w (CmpR w ps rg a.t b.t) := by
  have HB := hide (box2_below w a b)
  have HP := hide (poss_kind_ne (O := out ps rg) h)
  have t : (a.t.kind != b.t.kind) = true := by rw [bne_iff_ne]; exact h
  obtain ⟨⟨k, m, r1, e1, fs⟩, A, n, c⟩ := a
  obtain ⟨⟨k', m', r1', e1', fs'⟩, A', n', c'⟩ := b
  simp only [cellsT, box2] at HB HP t
  clear h
  go_enter Try.func39, Try.ntmps39
  go_wp2
  go_ret2
  exact cmpR_mk HP.out (fun h => by cases h) HB.out

set_option maxHeartbeats 4000000 in
set_option maxRecDepth 100000 in
theorem cmp_flat (r : Nat) (a b : TyW) (ps : List Pr) (rg : Int) (w : World) (h : a.t.kind = b.t.kind) (h0 : a.t.kind = 0 ∨ a.t.kind = 1 ∨ a.t.kind = 2) :
    Calls Try.prog 39 #[.pointer (some ⟨r, 0, none⟩), aggT a, aggT b] w (CmpR w ps rg a.t b.t) := by
  have HB := hide (box2_below w a b)
  have HP := hide (poss_flat (O := out ps rg) h h0)
  have HN := hide (needs_flat (a := a.t) (b := b.t) (by omega) (by omega))
  obtain ⟨⟨k, m, r1, e1, fs⟩, A, n, c⟩ := a
  obtain ⟨⟨k', m', r1', e1', fs'⟩, A', n', c'⟩ := b
  simp only [cellsT, box2] at HB HP HN h h0
  subst h
  have t : (k != k) = false := by simp
  have fin : ∀ w', Below w.heap.size w w' → CmpR w ps rg ⟨k, m, r1, e1, fs⟩ ⟨k, m', r1', e1', fs'⟩ (.returned (.tuple #[.slice none 0 0, .bool true])) w' := fun w' hb => cmpR_mk HP.out (fun _ => by rw [HN.out]; exact RetP.nil _) hb
  have HF := hide (fin _ HB.out)
  clear fin
  rcases h0 with h0 | h0 | h0
  · have t0 : (k == 0) = true := beq_iff_eq.2 h0
    clear h0
    go_enter Try.func39, Try.ntmps39
    go_wp2
    go_ret2
    exact HF.out
  · have t0 : (k == 0) = false := by rw [h0]; rfl
    have t1 : (k == 1) = true := beq_iff_eq.2 h0
    clear h0
    go_enter Try.func39, Try.ntmps39
    go_wp2
    go_ret2
    exact HF.out
  · have t0 : (k == 0) = false := by rw [h0]; rfl
    have t1 : (k == 1) = false := by rw [h0]; rfl
    have t2 : (k == 2) = true := beq_iff_eq.2 h0
    clear h0
    go_enter Try.func39, Try.ntmps39
    go_wp2
    go_ret2
    exact HF.out

set_option maxHeartbeats 4000000 in
set_option maxRecDepth 100000 in
theorem cmp_other (r : Nat) (a b : TyW) (ps : List Pr) (rg : Int) (w : World) (h : a.t.kind = b.t.kind) (h0 : a.t.kind ≠ 0) (h1 : a.t.kind ≠ 1) (h2 : a.t.kind ≠ 2) (h3 : a.t.kind ≠ 3) (h4 : a.t.kind ≠ 4) :
    Calls Try.prog 39 #[.pointer (some ⟨r, 0, none⟩), aggT a, aggT b] w (CmpR w ps rg a.t b.t) := by
  have HB := hide (box2_below w a b)
  have HP := hide (poss_none (O := out ps rg) h h0 h1 h2 h3 h4)
  obtain ⟨⟨k, m, r1, e1, fs⟩, A, n, c⟩ := a
  obtain ⟨⟨k', m', r1', e1', fs'⟩, A', n', c'⟩ := b
  simp only [cellsT, box2] at HB HP h h0 h1 h2 h3 h4
  subst h
  have t : (k != k) = false := by simp
  have t0 : (k == 0) = false := beq_eq_false_iff_ne.2 h0
  have t1 : (k == 1) = false := beq_eq_false_iff_ne.2 h1
  have t2 : (k == 2) = false := beq_eq_false_iff_ne.2 h2
  have t3 : (k == 3) = false := beq_eq_false_iff_ne.2 h3
  have t4 : (k == 4) = false := beq_eq_false_iff_ne.2 h4
  clear h0 h1 h2 h3 h4
  go_enter Try.func39, Try.ntmps39
  go_wp2
  go_ret2
  exact cmpR_mk HP.out (fun h => by cases h) HB.out

set_option maxHeartbeats 4000000 in
set_option maxRecDepth 100000 in
theorem cmp_tup (r : Nat) (a b : TyW) (ps : List Pr) (rg : Int) (w : World) (ha : OneT w w.heap.size a) (hb : OneT w w.heap.size b) (h : a.t.kind = b.t.kind) (h4 : a.t.kind = 4) (hn : a.n ≤ 65535) (hn' : b.n ≤ 65535) :
    Calls Try.prog 39 #[.pointer (some ⟨r, 0, none⟩), aggT a, aggT b] w (CmpR w ps rg a.t b.t) := by
  have hB := box2_below w a b
  have HN := hide (needs_tup (a := a.t) (b := b.t) h4)
  have HB := hide hB
  have la := ha.ok.len
  have lb := hb.ok.len
  have HA := hide ((ha.rd.below hB).more hB.size)
  have HBB := hide ((hb.rd.below hB).more hB.size)
  have HPY := hide (show a.n = b.n → poss (out ps rg) a.t b.t = true from fun e => poss_mktup h h4 (by omega))
  have HPN := hide (show a.n ≠ b.n → poss (out ps rg) a.t b.t = false from fun e => poss_tup_ne h h4 (by omega))
  clear ha hb hB la lb
  obtain ⟨⟨k, m, r1, e1, fs⟩, A, n, c⟩ := a
  obtain ⟨⟨k', m', r1', e1', fs'⟩, A', n', c'⟩ := b
  simp only [cellsT, box2] at HB HA HBB HPY HPN HN h h4 hn hn'
  subst h
  have t : (k != k) = false := by simp
  have t0 : (k == 0) = false := by rw [h4]; rfl
  have t1 : (k == 1) = false := by rw [h4]; rfl
  have t2 : (k == 2) = false := by rw [h4]; rfl
  have t3 : (k == 3) = false := by rw [h4]; rfl
  have t4 : (k == 4) = true := beq_iff_eq.2 h4
  clear h4
  by_cases e : n = n'
  · subst e
    have HP := hide (HPY.out rfl)
    go_enter Try.func39, Try.ntmps39
    go_wp2_with fail
    refine (pairUp_yes A A' n c c' fs fs' _ HA.out HBB.out hn).mono ?_
    rintro e w1 ⟨A1, c1, rfl, hr, hb1⟩
    have HR := hide hr
    have HB1 := hide hb1
    clear hr hb1
    go_wp2_with fail
    go_ret2
    exact cmpR_mk HP.out (fun _ => by rw [HN.out]; exact HR.out) (HB.out.trans (HB1.out.mono HB.out.size))
  · have HP := hide (HPN.out e)
    go_enter Try.func39, Try.ntmps39
    go_wp2_with fail
    refine (pairUp_no A A' n n' c c' _ e (by omega) (by omega)).mono ?_
    rintro e w1 ⟨rfl, rfl⟩
    go_wp2_with fail
    go_ret2
    exact cmpR_mk HP.out (fun h => by cases h) HB.out

theorem cell_up {w w5 : World} {v : Value} {base b i H : Nat} {u : Value} (hg : w.grownBy w5 v.ownBlock) (hlt : ∀ k, v.ownBlock = some k → base ≤ k ∧ k < H) (hb : b < base) (hc : w.cell? ⟨b, i, none⟩ = some u) : w5.cell? ⟨b, i, none⟩ = some u :=
  hg.cell hc (fun e => by have h := (hlt b e.symm).1; omega)

set_option maxHeartbeats 8000000 in
set_option maxRecDepth 100000 in
theorem cmp_ref (r : Nat) (a b : TyW) (ps : List Pr) (rg : Int) (w : World) (hR : Rel w w.heap.size r ps rg) (h : a.t.kind = b.t.kind) (h3 : a.t.kind = 3) :
    Calls Try.prog 39 #[.pointer (some ⟨r, 0, none⟩), aggT a, aggT b] w (CmpR w ps rg a.t b.t) := by
  obtain ⟨i0, hi, hz0, hz1, hz2⟩ := info_parts infoArr
  have hB := box2_below w a b
  have hB3 := hB.alloc hB.size (.cells #[.int .i64 a.t.elem, .int .i64 b.t.elem] 31)
  have HB := hide hB
  have HB3 := hide hB3
  have HRel := hide fun (w' : World) (hb : Below w.heap.size w w') => (hR.below hb).more hb.size
  have HN1 := hide (needs_im (a := a.t) (b := b.t) h3)
  have HN2 := hide (needs_mu (a := a.t) (b := b.t) h3)
  have HP1 := hide fun (v : Bool) (hm : a.t.mut_ = b.t.mut_) (hv : out ps rg a.t.region b.t.region = v) => poss_ref_eq (O := out ps rg) h h3 hm hv
  have HP2 := hide fun (hm : a.t.mut_ ≠ b.t.mut_) => poss_ref_ne (O := out ps rg) h h3 hm
  clear hB hB3 hR
  obtain ⟨⟨k, m, r1, e1, fs⟩, A, n, c⟩ := a
  obtain ⟨⟨k', m', r1', e1', fs'⟩, A', n', c'⟩ := b
  simp only [cellsT, box2] at HB HB3 HN1 HN2 HP1 HP2 h h3
  subst h
  have t : (k != k) = false := by simp
  have t0 : (k == 0) = false := by rw [h3]; rfl
  have t1 : (k == 1) = false := by rw [h3]; rfl
  have t2 : (k == 2) = false := by rw [h3]; rfl
  have t3 : (k == 3) = true := beq_iff_eq.2 h3
  clear h3
  obtain ⟨v, hv⟩ : ∃ v, out ps rg r1 r1' = v := ⟨_, rfl⟩
  have HV := hide hv
  clear hv
  have hw2 : ((w.alloc (.cells #[.int .i64 k, .bool m, .int .i64 r1, .int .i64 e1, .slice A n c] 50)).alloc (.cells #[.int .i64 k, .bool m', .int .i64 r1', .int .i64 e1', .slice A' n' c'] 50)).heap.size = w.heap.size + 2 := by simp
  cases m
  · cases m'
    · have HP := hide (HP1.out v rfl HV.out)
      go_enter Try.func39, Try.ntmps39
      go_wp2_with fail
      refine (Outlives_is HV.out _ (HRel.out _ HB3.out)).mono ?_
      rintro e w1 ⟨rfl, hb1⟩
      have HR1 := hide (retP_lit1 _ e1 e1' 31 hb1)
      rw [hw2] at HR1
      have HB1 := hide (HB3.out.trans (hb1.mono HB3.out.size))
      clear hb1
      go_wp2_with fail
      go_ret2
      exact cmpR_mk HP.out (fun _ => by rw [HN1.out (by trivial)]; exact HR1.out) HB1.out
    · have HP := hide (HP2.out (by decide))
      go_enter Try.func39, Try.ntmps39
      go_wp2_with fail
      go_ret2
      exact cmpR_mk HP.out (fun h => by cases h) HB3.out
  · have HO := hide (own_lit2 ((w.alloc (.cells #[.int .i64 k, .bool true, .int .i64 r1, .int .i64 e1, .slice A n c] 50)).alloc (.cells #[.int .i64 k, .bool m', .int .i64 r1', .int .i64 e1', .slice A' n' c'] 50)) e1 e1' 31)
    rw [hw2] at HO
    have hB4 := HB3.out.alloc HB3.out.size (.cells #[.int .i64 e1', .int .i64 e1] 31)
    have HB4 := hide hB4
    clear hB4
    cases m'
    · have HP := hide (HP2.out (by decide))
      go_enter Try.func39, Try.ntmps39
      go_wp2_with (at_builtin; go_must (refine wpList_append_own_at _ rfl _ _ 22 rfl (w.heap.size + 2) 31 i0 (.agg #[.int .i64 0, .int .i64 0]) 2 16 Try.underlying22 hi hz0 hz1 hz2 rfl (by decide) _ 1 _ rfl (HO.out.alloc _) ⟨w.heap.size + 1 + 1 + 1, 0, none⟩ 1 1 ([(e1', e1)].flatMap pV) rfl rfl (newsP _ e1' e1 31 (by simp)) (by intro u hu; obtain ⟨p, _, hp⟩ := List.mem_flatMap.1 hu; exact pV_one p u hp) (by unfold maxLen; decide) (by decide) (by simp) ?_; intro v5 w5 hown5 hg5 _ hat5; have HB5 := hide (HB4.out.grown hg5 (by simp; omega) (fun k hk => by have := ((HO.out.alloc (.cells #[.int .i64 e1', .int .i64 e1] 31)).lt k hk).1; omega)); obtain ⟨g5, cap5, rfl⟩ := ownsRow_succ hown5; have hlt5 := (HO.out.alloc (.cells #[.int .i64 e1', .int .i64 e1] 31)).lt; have d2 : w5.cell? ⟨w.heap.size, 2, none⟩ = some (.int .i64 r1) := cell_up hg5 hlt5 (by omega) (by simp [go_sem]); have d2' : w5.cell? ⟨w.heap.size + 1, 2, none⟩ = some (.int .i64 r1') := cell_up hg5 hlt5 (by omega) (by simp [go_sem]); have d1 : w5.cell? ⟨w.heap.size, 1, none⟩ = some (.bool true) := cell_up hg5 hlt5 (by omega) (by simp [go_sem]); have d1' : w5.cell? ⟨w.heap.size + 1, 1, none⟩ = some (.bool false) := cell_up hg5 hlt5 (by omega) (by simp [go_sem]); clear hlt5 hown5 hg5 hat5))
      go_ret2
      exact cmpR_mk HP.out (fun h => by cases h) HB5.out
    · have HP := hide (HP1.out v rfl HV.out)
      go_enter Try.func39, Try.ntmps39
      go_wp2_with (first
        | (at_builtin; go_must (refine wpList_append_own_at _ rfl _ _ 22 rfl (w.heap.size + 2) 31 i0 (.agg #[.int .i64 0, .int .i64 0]) 2 16 Try.underlying22 hi hz0 hz1 hz2 rfl (by decide) _ 1 _ rfl (HO.out.alloc _) ⟨w.heap.size + 1 + 1 + 1, 0, none⟩ 1 1 ([(e1', e1)].flatMap pV) rfl rfl (newsP _ e1' e1 31 (by simp)) (by intro u hu; obtain ⟨p, _, hp⟩ := List.mem_flatMap.1 hu; exact pV_one p u hp) (by unfold maxLen; decide) (by decide) (by simp) ?_; intro v5 w5 hown5 hg5 _ hat5; have HB5 := hide (HB4.out.grown hg5 (by simp; omega) (fun k hk => by have := ((HO.out.alloc (.cells #[.int .i64 e1', .int .i64 e1] 31)).lt k hk).1; omega)); obtain ⟨g5, cap5, rfl⟩ := ownsRow_succ hown5; have HO5 := hide (show w5.ownsRow (w.heap.size + 2) 31 2 (.slice (some ⟨g5, 0, none⟩) 2 cap5) 2 ([(e1, e1'), (e1', e1)].flatMap pV) from hown5); have hlt5 := (HO.out.alloc (.cells #[.int .i64 e1', .int .i64 e1] 31)).lt; have d2 : w5.cell? ⟨w.heap.size, 2, none⟩ = some (.int .i64 r1) := cell_up hg5 hlt5 (by omega) (by simp [go_sem]); have d2' : w5.cell? ⟨w.heap.size + 1, 2, none⟩ = some (.int .i64 r1') := cell_up hg5 hlt5 (by omega) (by simp [go_sem]); have d1 : w5.cell? ⟨w.heap.size, 1, none⟩ = some (.bool true) := cell_up hg5 hlt5 (by omega) (by simp [go_sem]); have d1' : w5.cell? ⟨w.heap.size + 1, 1, none⟩ = some (.bool true) := cell_up hg5 hlt5 (by omega) (by simp [go_sem]); clear hlt5; clear hown5 hg5 hat5))
        | (go_at_call 16; go_must (refine (Outlives_is HV.out _ (HRel.out _ HB5.out)).mono ?_; rintro e w1 ⟨rfl, hb1⟩; have HR1 := hide ((RetP.of_own HO5.out).below hb1); have HB1 := hide (HB5.out.trans (hb1.mono HB5.out.size)); clear hb1)))
      go_ret2
      exact cmpR_mk HP.out (fun _ => by rw [HN2.out (by trivial)]; exact HR1.out) HB1.out

theorem compare_any (r : Nat) (a b : TyW) (ps : List Pr) (rg : Int) (w : World) (hR : Rel w w.heap.size r ps rg) (ha : OneT w w.heap.size a) (hb : OneT w w.heap.size b) (hn : a.n ≤ 65535) (hn' : b.n ≤ 65535) :
    Calls Try.prog 39 #[.pointer (some ⟨r, 0, none⟩), aggT a, aggT b] w (CmpR w ps rg a.t b.t) := by
  by_cases e : a.t.kind = b.t.kind
  · by_cases h3 : a.t.kind = 3
    · exact cmp_ref r a b ps rg w hR e h3
    · by_cases h4 : a.t.kind = 4
      · exact cmp_tup r a b ps rg w ha hb e h4 hn hn'
      · by_cases h0 : a.t.kind = 0 ∨ a.t.kind = 1 ∨ a.t.kind = 2
        · exact cmp_flat r a b ps rg w e h0
        · exact cmp_other r a b ps rg w e (by omega) (by omega) (by omega) h3 h4
  · exact cmp_ne r a b ps rg w e
end Go.Proofs.Ytagnikaghhobjaa
