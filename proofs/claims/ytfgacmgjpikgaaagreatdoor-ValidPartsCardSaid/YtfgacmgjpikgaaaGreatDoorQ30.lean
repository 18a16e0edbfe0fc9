/- Part 31 of the contracts and their mathematics. -/
import Derived.Test.YtfgacmgjpikgaaaGreatDoorQ29
set_option linter.unusedVariables false
set_option linter.unusedSimpArgs false
namespace Go.Proofs.YtfgacmgjpikgaaaGreatDoor
open Go.RowKit
def rdV (E : Env) (o : OpV) : Int := if (tyV E o.pl).2 ≠ 0 then (tyV E o.pl).2 else if (o.kind = 0 ∧ tyCop E.T (tyV E o.pl).1 = false) ∨ (o.kind = 1 ∧ hasD o.pl.ps 0 = true) then 22 else 0
set_option maxHeartbeats 4000000 in
set_option maxRecDepth 100000 in
theorem cread_is {K : CkW} {o : OpW} {v : Int} {w : World} (h : Ck K w) (ho : OneOp w K.B o) (hk : o.kind = 0 ∨ o.kind = 1) (hv : rdV K.E o.v = v) :
  Calls Tryz.prog 56 #[K.ptr, aggOp o] w fun e w' => e = .returned (.int .i64 v) ∧ Wy K w w' := by
 obtain ⟨k, ⟨l, pA, pn, pc, ps⟩, n⟩ := o
 simp only [] at hk
 obtain ⟨tu, htu⟩ : ∃ u, (tyV K.E (PlW.v ⟨l, pA, pn, pc, ps⟩)).1 = u := ⟨_, rfl⟩
 obtain ⟨te, hte⟩ : ∃ u, (tyV K.E (PlW.v ⟨l, pA, pn, pc, ps⟩)).2 = u := ⟨_, rfl⟩
 have htv : tyV K.E (PlW.v ⟨l, pA, pn, pc, ps⟩) = (tu, te) := Prod.ext htu hte
 have hv0 : rdV K.E (OpW.v ⟨k, ⟨l, pA, pn, pc, ps⟩, n⟩) = if te ≠ 0 then te else if (k = 0 ∧ tyCop (tys K.x.types.L) tu = false) ∨ (k = 1 ∧ hasD ps 0 = true) then 22 else 0 := by
  rw [← htu, ← hte]
  rfl
 rw [hv0] at hv
 clear hv0
 by_cases he : te = 0
 ·
  subst he
  rw [if_neg (by simp)] at hv
  obtain ⟨i, ty, hi, hty⟩ := h.vb.ty (p := PlW.v ⟨l, pA, pn, pc, ps⟩) hte
  have hi : (tyV K.E (PlW.v ⟨l, pA, pn, pc, ps⟩)).1 = (i : Int) := hi
  obtain rfl : tu = (i : Int) := htu.symm.trans hi
  have hin : i < K.x.types.n := by have h1 := (List.getElem?_eq_some_iff.1 hty).1; have h2 := h.one.types.len; omega
  rcases hk with rfl | rfl
  ·
   have HB := hide ((Below.refl w.heap.size w).alloc (Nat.le_refl _) (.cells (cOp ⟨0, ⟨l, pA, pn, pc, ps⟩, n⟩).toArray 38))
   have HK := hide (h.up HB.out)
   have H0 := hide h
   have HO := hide (ho.below (HB.out.mono h.bs))
   have HC := hide (ctypeOf_is HK.out HO.out.pl htv)
   obtain ⟨b, hb⟩ : ∃ b, tyCop (tys K.x.types.L) (i : Int) = b := ⟨_, rfl⟩
   rw [hb] at hv
   have HM := hide fun (w' : World) (q : Wy K (w.alloc (.cells (cOp ⟨0, ⟨l, pA, pn, pc, ps⟩, n⟩).toArray 38)) w') => cisCop_is q.ck hin hb
   clear h ho htu hte htv hi hty hb
   cases b
   ·
    obtain rfl : v = 22 := by rw [← hv]; simp
    clear hv
    go_enter Tryz.func56, Tryz.ntmps56
    go_wp2_with fail
    refine HC.out.mono ?_
    rintro e1 w1 ⟨rfl, hb1⟩
    have HW1 := hide (Wy.new HK.out hb1)
    clear hb1
    have hcx := Wy.box (cs := cOp ⟨0, ⟨l, pA, pn, pc, ps⟩, n⟩) (T := 38) H0.out HW1.out
    have x10 := hcx 0 (.int .i64 (0)) rfl
    have x11 := hcx 1 (.int .i64 l) rfl
    have x12 := hcx 2 (.slice pA pn pc) rfl
    have x13 := hcx 3 (.int .i64 n) rfl
    clear hcx
    go_wp2_with fail
    refine (HM.out w1 HW1.out).mono ?_
    rintro e2 w2 ⟨rfl, hb2⟩
    have HW2 := hide (HW1.out.trans hb2)
    clear hb2
    have hcx := Wy.box (cs := cOp ⟨0, ⟨l, pA, pn, pc, ps⟩, n⟩) (T := 38) H0.out HW2.out
    have x20 := hcx 0 (.int .i64 (0)) rfl
    have x21 := hcx 1 (.int .i64 l) rfl
    have x22 := hcx 2 (.slice pA pn pc) rfl
    have x23 := hcx 3 (.int .i64 n) rfl
    clear hcx
    go_wp2
    go_ret
    exact ⟨rfl, (Turn.of_below HB.out).trans HW2.out.turn, HW2.out.ck⟩
   ·
    obtain rfl : v = 0 := by rw [← hv]; simp
    clear hv
    go_enter Tryz.func56, Tryz.ntmps56
    go_wp2_with fail
    refine HC.out.mono ?_
    rintro e1 w1 ⟨rfl, hb1⟩
    have HW1 := hide (Wy.new HK.out hb1)
    clear hb1
    have hcx := Wy.box (cs := cOp ⟨0, ⟨l, pA, pn, pc, ps⟩, n⟩) (T := 38) H0.out HW1.out
    have x10 := hcx 0 (.int .i64 (0)) rfl
    have x11 := hcx 1 (.int .i64 l) rfl
    have x12 := hcx 2 (.slice pA pn pc) rfl
    have x13 := hcx 3 (.int .i64 n) rfl
    clear hcx
    go_wp2_with fail
    refine (HM.out w1 HW1.out).mono ?_
    rintro e2 w2 ⟨rfl, hb2⟩
    have HW2 := hide (HW1.out.trans hb2)
    clear hb2
    have hcx := Wy.box (cs := cOp ⟨0, ⟨l, pA, pn, pc, ps⟩, n⟩) (T := 38) H0.out HW2.out
    have x20 := hcx 0 (.int .i64 (0)) rfl
    have x21 := hcx 1 (.int .i64 l) rfl
    have x22 := hcx 2 (.slice pA pn pc) rfl
    have x23 := hcx 3 (.int .i64 n) rfl
    clear hcx
    go_wp2
    go_ret
    exact ⟨rfl, (Turn.of_below HB.out).trans HW2.out.turn, HW2.out.ck⟩
  ·
   have HB := hide ((Below.refl w.heap.size w).alloc (Nat.le_refl _) (.cells (cOp ⟨1, ⟨l, pA, pn, pc, ps⟩, n⟩).toArray 38))
   have HK := hide (h.up HB.out)
   have H0 := hide h
   have HO := hide (ho.below (HB.out.mono h.bs))
   have HC := hide (ctypeOf_is HK.out HO.out.pl htv)
   obtain ⟨b, hb⟩ : ∃ b, hasD ps 0 = b := ⟨_, rfl⟩
   rw [hb] at hv
   have HM := hide fun (w' : World) (q : Wy K (w.alloc (.cells (cOp ⟨1, ⟨l, pA, pn, pc, ps⟩, n⟩).toArray 38)) w') => HasDeref_is (x := ⟨l, pA, pn, pc, ps⟩) (f := 0) hb w' ((HO.out.pl.below (q.low HK.out)).more q.ck.bs)
   clear h ho htu hte htv hi hty hb
   cases b
   ·
    obtain rfl : v = 0 := by rw [← hv]; simp
    clear hv
    go_enter Tryz.func56, Tryz.ntmps56
    go_wp2_with fail
    refine HC.out.mono ?_
    rintro e1 w1 ⟨rfl, hb1⟩
    have HW1 := hide (Wy.new HK.out hb1)
    clear hb1
    have hcx := Wy.box (cs := cOp ⟨1, ⟨l, pA, pn, pc, ps⟩, n⟩) (T := 38) H0.out HW1.out
    have x10 := hcx 0 (.int .i64 (1)) rfl
    have x11 := hcx 1 (.int .i64 l) rfl
    have x12 := hcx 2 (.slice pA pn pc) rfl
    have x13 := hcx 3 (.int .i64 n) rfl
    clear hcx
    go_wp2_with fail
    refine (HM.out w1 HW1.out).mono ?_
    rintro e2 w2 ⟨rfl, hb2⟩
    have HW2 := hide (HW1.out.up hb2)
    clear hb2
    have hcx := Wy.box (cs := cOp ⟨1, ⟨l, pA, pn, pc, ps⟩, n⟩) (T := 38) H0.out HW2.out
    have x20 := hcx 0 (.int .i64 (1)) rfl
    have x21 := hcx 1 (.int .i64 l) rfl
    have x22 := hcx 2 (.slice pA pn pc) rfl
    have x23 := hcx 3 (.int .i64 n) rfl
    clear hcx
    go_wp2
    go_ret
    exact ⟨rfl, (Turn.of_below HB.out).trans HW2.out.turn, HW2.out.ck⟩
   ·
    obtain rfl : v = 22 := by rw [← hv]; simp
    clear hv
    go_enter Tryz.func56, Tryz.ntmps56
    go_wp2_with fail
    refine HC.out.mono ?_
    rintro e1 w1 ⟨rfl, hb1⟩
    have HW1 := hide (Wy.new HK.out hb1)
    clear hb1
    have hcx := Wy.box (cs := cOp ⟨1, ⟨l, pA, pn, pc, ps⟩, n⟩) (T := 38) H0.out HW1.out
    have x10 := hcx 0 (.int .i64 (1)) rfl
    have x11 := hcx 1 (.int .i64 l) rfl
    have x12 := hcx 2 (.slice pA pn pc) rfl
    have x13 := hcx 3 (.int .i64 n) rfl
    clear hcx
    go_wp2_with fail
    refine (HM.out w1 HW1.out).mono ?_
    rintro e2 w2 ⟨rfl, hb2⟩
    have HW2 := hide (HW1.out.up hb2)
    clear hb2
    have hcx := Wy.box (cs := cOp ⟨1, ⟨l, pA, pn, pc, ps⟩, n⟩) (T := 38) H0.out HW2.out
    have x20 := hcx 0 (.int .i64 (1)) rfl
    have x21 := hcx 1 (.int .i64 l) rfl
    have x22 := hcx 2 (.slice pA pn pc) rfl
    have x23 := hcx 3 (.int .i64 n) rfl
    clear hcx
    go_wp2
    go_ret
    exact ⟨rfl, (Turn.of_below HB.out).trans HW2.out.turn, HW2.out.ck⟩
 ·
  have te0 : (te != 0) = true := by simp [he]
  rw [if_pos he] at hv
  obtain rfl : te = v := hv
  have HB := hide ((Below.refl w.heap.size w).alloc (Nat.le_refl _) (.cells (cOp ⟨k, ⟨l, pA, pn, pc, ps⟩, n⟩).toArray 38))
  have HK := hide (h.up HB.out)
  have H0 := hide h
  have HO := hide (ho.below (HB.out.mono h.bs))
  have HC := hide (ctypeOf_is HK.out HO.out.pl htv)
  clear h ho htu hte htv he hk
  go_enter Tryz.func56, Tryz.ntmps56
  go_wp2_with fail
  refine HC.out.mono ?_
  rintro e1 w1 ⟨rfl, hb1⟩
  have HW1 := hide (Wy.new HK.out hb1)
  clear hb1
  have hcx := Wy.box (cs := cOp ⟨k, ⟨l, pA, pn, pc, ps⟩, n⟩) (T := 38) H0.out HW1.out
  have x10 := hcx 0 (.int .i64 k) rfl
  have x11 := hcx 1 (.int .i64 l) rfl
  have x12 := hcx 2 (.slice pA pn pc) rfl
  have x13 := hcx 3 (.int .i64 n) rfl
  clear hcx
  go_wp2
  go_ret
  exact ⟨rfl, (Turn.of_below HB.out).trans HW1.out.turn, HW1.out.ck⟩
theorem opErr_pl {E : Env} {o : OpV} (hk : o.kind = 0 ∨ o.kind = 1) (hn : o.n = 0) : opErr E o = rdV E o := by
 unfold opErr rdV
 rw [if_neg (by omega), if_neg (by rintro (⟨h1, _⟩ | ⟨h1, _⟩) <;> omega), if_neg (by omega), if_neg (by omega)]
set_option maxHeartbeats 4000000 in
set_option maxRecDepth 100000 in
theorem cop_is {K : CkW} {o : OpW} {v : Int} {w : World} (h : Ck K w) (ho : OneOp w K.B o) (hv : opErr K.E o.v = v) :
  Calls Tryz.prog 32 #[K.ptr, aggOp o] w fun e w' => e = .returned (.int .i64 v) ∧ Wy K w w' := by
 obtain ⟨k, ⟨l, pA, pn, pc, ps⟩, n⟩ := o
 by_cases hk : 0 ≤ k ∧ k ≤ 4
 ·
  have hk : k = 0 ∨ k = 1 ∨ k = 2 ∨ k = 3 ∨ k = 4 := by omega
  rcases hk with rfl | rfl | rfl | rfl | rfl
  ·
   -- kind 0
   have HB := hide ((Below.refl w.heap.size w).alloc (Nat.le_refl _) (.cells (cOp ⟨0, ⟨l, pA, pn, pc, ps⟩, n⟩).toArray 38))
   have HK := hide (h.up HB.out)
   have H0 := hide h
   have HO := hide (ho.below (HB.out.mono h.bs))
   by_cases hn : n = 0
   ·
    have tn : (n != 0) = false := by simp [hn]
    have hrd : rdV K.E (OpW.v ⟨0, ⟨l, pA, pn, pc, ps⟩, n⟩) = v := (opErr_pl (by simp [OpW.v]) hn).symm.trans hv
    have HC := hide (cread_is HK.out HO.out (by simp) hrd)
    clear h ho hv hrd hn
    go_enter Tryz.func32, Tryz.ntmps32
    go_wp2_with fail
    refine HC.out.mono ?_
    rintro e1 w1 ⟨rfl, hb1⟩
    have HW1 := hide hb1
    clear hb1
    go_wp2
    go_ret
    exact ⟨rfl, (Turn.of_below HB.out).trans HW1.out.turn, HW1.out.ck⟩
   ·
    have tn : (n != 0) = true := by simp [hn]
    obtain rfl : v = 2 := by
     rw [← hv]
     simp [opErr, OpW.v, hn]
    clear hv
    clear h ho hn
    go_enter Tryz.func32, Tryz.ntmps32
    go_wp2
    go_ret
    exact ⟨rfl, Turn.of_below HB.out, HK.out⟩
  ·
   -- kind 1
   have HB := hide ((Below.refl w.heap.size w).alloc (Nat.le_refl _) (.cells (cOp ⟨1, ⟨l, pA, pn, pc, ps⟩, n⟩).toArray 38))
   have HK := hide (h.up HB.out)
   have H0 := hide h
   have HO := hide (ho.below (HB.out.mono h.bs))
   by_cases hn : n = 0
   ·
    have tn : (n != 0) = false := by simp [hn]
    have hrd : rdV K.E (OpW.v ⟨1, ⟨l, pA, pn, pc, ps⟩, n⟩) = v := (opErr_pl (by simp [OpW.v]) hn).symm.trans hv
    have HC := hide (cread_is HK.out HO.out (by simp) hrd)
    clear h ho hv hrd hn
    go_enter Tryz.func32, Tryz.ntmps32
    go_wp2_with fail
    refine HC.out.mono ?_
    rintro e1 w1 ⟨rfl, hb1⟩
    have HW1 := hide hb1
    clear hb1
    go_wp2
    go_ret
    exact ⟨rfl, (Turn.of_below HB.out).trans HW1.out.turn, HW1.out.ck⟩
   ·
    have tn : (n != 0) = true := by simp [hn]
    obtain rfl : v = 2 := by
     rw [← hv]
     simp [opErr, OpW.v, hn]
    clear hv
    clear h ho hn
    go_enter Tryz.func32, Tryz.ntmps32
    go_wp2
    go_ret
    exact ⟨rfl, Turn.of_below HB.out, HK.out⟩
  ·
   -- kind 2
   have HB := hide ((Below.refl w.heap.size w).alloc (Nat.le_refl _) (.cells (cOp ⟨2, ⟨l, pA, pn, pc, ps⟩, n⟩).toArray 38))
   have HK := hide (h.up HB.out)
   have H0 := hide h
   have HO := hide (ho.below (HB.out.mono h.bs))
   by_cases hz : noP (PlW.v ⟨l, pA, pn, pc, ps⟩) = true
   ·
    obtain rfl : v = 0 := by
     rw [← hv]
     simp [opErr, OpW.v, hz]
    clear hv
    clear h ho
    go_enter Tryz.func32, Tryz.ntmps32
    go_wp2_with fail
    refine (cZero_is (x := ⟨l, pA, pn, pc, ps⟩) hz _ (HO.out.pl.more HK.out.bs)).mono ?_
    rintro e1 w1 ⟨rfl, hb1⟩
    have HW1 := hide (Wy.new HK.out hb1)
    clear hb1
    have hcx := Wy.box (cs := cOp ⟨2, ⟨l, pA, pn, pc, ps⟩, n⟩) (T := 38) H0.out HW1.out
    have x10 := hcx 0 (.int .i64 (2)) rfl
    have x11 := hcx 1 (.int .i64 l) rfl
    have x12 := hcx 2 (.slice pA pn pc) rfl
    have x13 := hcx 3 (.int .i64 n) rfl
    clear hcx
    go_wp2
    go_ret
    exact ⟨rfl, (Turn.of_below HB.out).trans HW1.out.turn, HW1.out.ck⟩
   ·
    have hz : noP (PlW.v ⟨l, pA, pn, pc, ps⟩) = false := by simpa using hz
    obtain rfl : v = 2 := by
     rw [← hv]
     simp [opErr, OpW.v, hz]
    clear hv
    clear h ho
    go_enter Tryz.func32, Tryz.ntmps32
    go_wp2_with fail
    refine (cZero_is (x := ⟨l, pA, pn, pc, ps⟩) hz _ (HO.out.pl.more HK.out.bs)).mono ?_
    rintro e1 w1 ⟨rfl, hb1⟩
    have HW1 := hide (Wy.new HK.out hb1)
    clear hb1
    have hcx := Wy.box (cs := cOp ⟨2, ⟨l, pA, pn, pc, ps⟩, n⟩) (T := 38) H0.out HW1.out
    have x10 := hcx 0 (.int .i64 (2)) rfl
    have x11 := hcx 1 (.int .i64 l) rfl
    have x12 := hcx 2 (.slice pA pn pc) rfl
    have x13 := hcx 3 (.int .i64 n) rfl
    clear hcx
    go_wp2
    go_ret
    exact ⟨rfl, (Turn.of_below HB.out).trans HW1.out.turn, HW1.out.ck⟩
  ·
   -- kind 3
   have HB := hide ((Below.refl w.heap.size w).alloc (Nat.le_refl _) (.cells (cOp ⟨3, ⟨l, pA, pn, pc, ps⟩, n⟩).toArray 38))
   have HK := hide (h.up HB.out)
   have H0 := hide h
   have HO := hide (ho.below (HB.out.mono h.bs))
   by_cases hz : noP (PlW.v ⟨l, pA, pn, pc, ps⟩) = true
   ·
    by_cases h0 : n = 0
    ·
     have t0 : (n != 0) = false := by simp [h0]
     obtain rfl : v = 0 := by
      rw [← hv]
      simp [opErr, OpW.v, hz, h0]
     clear hv
     clear h ho h0
     go_enter Tryz.func32, Tryz.ntmps32
     go_wp2_with fail
     refine (cZero_is (x := ⟨l, pA, pn, pc, ps⟩) hz _ (HO.out.pl.more HK.out.bs)).mono ?_
     rintro e1 w1 ⟨rfl, hb1⟩
     have HW1 := hide (Wy.new HK.out hb1)
     clear hb1
     have hcx := Wy.box (cs := cOp ⟨3, ⟨l, pA, pn, pc, ps⟩, n⟩) (T := 38) H0.out HW1.out
     have x10 := hcx 0 (.int .i64 (3)) rfl
     have x11 := hcx 1 (.int .i64 l) rfl
     have x12 := hcx 2 (.slice pA pn pc) rfl
     have x13 := hcx 3 (.int .i64 n) rfl
     clear hcx
     go_wp2
     go_ret
     exact ⟨rfl, (Turn.of_below HB.out).trans HW1.out.turn, HW1.out.ck⟩
    ·
     have t0 : (n != 0) = true := by simp [h0]
     by_cases h1 : n = 1
     ·
      have t1 : (n != 1) = false := by simp [h1]
      obtain rfl : v = 0 := by
       rw [← hv]
       simp [opErr, OpW.v, hz, h1]
      clear hv
      clear h ho h0 h1
      go_enter Tryz.func32, Tryz.ntmps32
      go_wp2_with fail
      refine (cZero_is (x := ⟨l, pA, pn, pc, ps⟩) hz _ (HO.out.pl.more HK.out.bs)).mono ?_
      rintro e1 w1 ⟨rfl, hb1⟩
      have HW1 := hide (Wy.new HK.out hb1)
      clear hb1
      have hcx := Wy.box (cs := cOp ⟨3, ⟨l, pA, pn, pc, ps⟩, n⟩) (T := 38) H0.out HW1.out
      have x10 := hcx 0 (.int .i64 (3)) rfl
      have x11 := hcx 1 (.int .i64 l) rfl
      have x12 := hcx 2 (.slice pA pn pc) rfl
      have x13 := hcx 3 (.int .i64 n) rfl
      clear hcx
      go_wp2
      go_ret
      exact ⟨rfl, (Turn.of_below HB.out).trans HW1.out.turn, HW1.out.ck⟩
     ·
      have t1 : (n != 1) = true := by simp [h1]
      obtain rfl : v = 3 := by
       rw [← hv]
       simp [opErr, OpW.v, hz, h0, h1]
      clear hv
      clear h ho h0 h1
      go_enter Tryz.func32, Tryz.ntmps32
      go_wp2_with fail
      refine (cZero_is (x := ⟨l, pA, pn, pc, ps⟩) hz _ (HO.out.pl.more HK.out.bs)).mono ?_
      rintro e1 w1 ⟨rfl, hb1⟩
      have HW1 := hide (Wy.new HK.out hb1)
      clear hb1
      have hcx := Wy.box (cs := cOp ⟨3, ⟨l, pA, pn, pc, ps⟩, n⟩) (T := 38) H0.out HW1.out
      have x10 := hcx 0 (.int .i64 (3)) rfl
      have x11 := hcx 1 (.int .i64 l) rfl
      have x12 := hcx 2 (.slice pA pn pc) rfl
      have x13 := hcx 3 (.int .i64 n) rfl
      clear hcx
      go_wp2
      go_ret
      exact ⟨rfl, (Turn.of_below HB.out).trans HW1.out.turn, HW1.out.ck⟩
   ·
    have hz : noP (PlW.v ⟨l, pA, pn, pc, ps⟩) = false := by simpa using hz
    obtain rfl : v = 2 := by
     rw [← hv]
     simp [opErr, OpW.v, hz]
    clear hv
    clear h ho
    go_enter Tryz.func32, Tryz.ntmps32
    go_wp2_with fail
    refine (cZero_is (x := ⟨l, pA, pn, pc, ps⟩) hz _ (HO.out.pl.more HK.out.bs)).mono ?_
    rintro e1 w1 ⟨rfl, hb1⟩
    have HW1 := hide (Wy.new HK.out hb1)
    clear hb1
    have hcx := Wy.box (cs := cOp ⟨3, ⟨l, pA, pn, pc, ps⟩, n⟩) (T := 38) H0.out HW1.out
    have x10 := hcx 0 (.int .i64 (3)) rfl
    have x11 := hcx 1 (.int .i64 l) rfl
    have x12 := hcx 2 (.slice pA pn pc) rfl
    have x13 := hcx 3 (.int .i64 n) rfl
    clear hcx
    go_wp2
    go_ret
    exact ⟨rfl, (Turn.of_below HB.out).trans HW1.out.turn, HW1.out.ck⟩
  ·
   -- kind 4
   have HB := hide ((Below.refl w.heap.size w).alloc (Nat.le_refl _) (.cells (cOp ⟨4, ⟨l, pA, pn, pc, ps⟩, n⟩).toArray 38))
   have HK := hide (h.up HB.out)
   have H0 := hide h
   have HO := hide (ho.below (HB.out.mono h.bs))
   by_cases hn : n = 0
   ·
    have tn : (n != 0) = false := by simp [hn]
    by_cases hz : noP (PlW.v ⟨l, pA, pn, pc, ps⟩) = true
    ·
     obtain rfl : v = 0 := by
      rw [← hv]
      simp [opErr, OpW.v, hz, hn]
     clear hv
     clear h ho hn
     go_enter Tryz.func32, Tryz.ntmps32
     go_wp2_with fail
     refine (cZero_is (x := ⟨l, pA, pn, pc, ps⟩) hz _ (HO.out.pl.more HK.out.bs)).mono ?_
     rintro e1 w1 ⟨rfl, hb1⟩
     have HW1 := hide (Wy.new HK.out hb1)
     clear hb1
     have hcx := Wy.box (cs := cOp ⟨4, ⟨l, pA, pn, pc, ps⟩, n⟩) (T := 38) H0.out HW1.out
     have x10 := hcx 0 (.int .i64 (4)) rfl
     have x11 := hcx 1 (.int .i64 l) rfl
     have x12 := hcx 2 (.slice pA pn pc) rfl
     have x13 := hcx 3 (.int .i64 n) rfl
     clear hcx
     go_wp2
     go_ret
     exact ⟨rfl, (Turn.of_below HB.out).trans HW1.out.turn, HW1.out.ck⟩
    ·
     have hz : noP (PlW.v ⟨l, pA, pn, pc, ps⟩) = false := by simpa using hz
     obtain rfl : v = 2 := by
      rw [← hv]
      simp [opErr, OpW.v, hz, hn]
     clear hv
     clear h ho hn
     go_enter Tryz.func32, Tryz.ntmps32
     go_wp2_with fail
     refine (cZero_is (x := ⟨l, pA, pn, pc, ps⟩) hz _ (HO.out.pl.more HK.out.bs)).mono ?_
     rintro e1 w1 ⟨rfl, hb1⟩
     have HW1 := hide (Wy.new HK.out hb1)
     clear hb1
     have hcx := Wy.box (cs := cOp ⟨4, ⟨l, pA, pn, pc, ps⟩, n⟩) (T := 38) H0.out HW1.out
     have x10 := hcx 0 (.int .i64 (4)) rfl
     have x11 := hcx 1 (.int .i64 l) rfl
     have x12 := hcx 2 (.slice pA pn pc) rfl
     have x13 := hcx 3 (.int .i64 n) rfl
     clear hcx
     go_wp2
     go_ret
     exact ⟨rfl, (Turn.of_below HB.out).trans HW1.out.turn, HW1.out.ck⟩
   ·
    have tn : (n != 0) = true := by simp [hn]
    obtain rfl : v = 2 := by
     rw [← hv]
     simp [opErr, OpW.v, hn]
    clear hv
    clear h ho hn
    go_enter Tryz.func32, Tryz.ntmps32
    go_wp2
    go_ret
    exact ⟨rfl, Turn.of_below HB.out, HK.out⟩
 ·
  have hk2 : k < 0 ∨ 4 < k := by omega
  have hv0 : opErr K.E (OpW.v ⟨k, ⟨l, pA, pn, pc, ps⟩, n⟩) = 14 := by unfold opErr; exact if_pos hk2
  obtain rfl : v = 14 := hv.symm.trans hv0
  have t0 : (k == 0) = false := by rw [beq_eq_false_iff_ne]; omega
  have t1 : (k == 1) = false := by rw [beq_eq_false_iff_ne]; omega
  have t2 : (k == 2) = false := by rw [beq_eq_false_iff_ne]; omega
  have t3 : (k == 3) = false := by rw [beq_eq_false_iff_ne]; omega
  have t4 : (k == 4) = false := by rw [beq_eq_false_iff_ne]; omega
  have t9 : (k != 4) = true := by rw [bne_iff_ne]; omega
  have HB := hide ((Below.refl w.heap.size w).alloc (Nat.le_refl _) (.cells (cOp ⟨k, ⟨l, pA, pn, pc, ps⟩, n⟩).toArray 38))
  have HK := hide (h.up HB.out)
  have H0 := hide h
  have HO := hide (ho.below (HB.out.mono h.bs))
  clear hk hk2 hv hv0 h ho
  go_enter Tryz.func32, Tryz.ntmps32
  go_wp2
  go_ret
  exact ⟨rfl, Turn.of_below HB.out, HK.out⟩
theorem opErr_zero {E : Env} {o : OpV} (h : opErr E o = 0) : (o.kind = 2 ∨ o.kind = 3 ∨ o.kind = 4) ∨ ((o.kind = 0 ∨ o.kind = 1) ∧ (tyV E o.pl).2 = 0) := by
 unfold opErr at h
 split at h
 ·
  cases h
 rename_i h1
 split at h
 ·
  cases h
 split at h
 ·
  cases h
 split at h
 ·
  left; omega
 rename_i h4
 split at h
 ·
  rename_i h5; exact absurd h h5
 rename_i h5
 right
 exact ⟨by omega, Decidable.not_not.1 h5⟩
theorem fitK_kd {E : Env} {o : OpV} (h : opErr E o = 0) (kd : Int) : fitK E o kd = decide (kdV E o = kd) := by
 rcases opErr_zero h with (e | e | e) | ⟨e | e, _⟩ <;> unfold fitK kdV conK <;> simp [e, eq_comm]
theorem fitT_kd {E : Env} {o : OpV} (h : o.kind = 2 ∨ o.kind = 3 ∨ o.kind = 4) (t : Int) : fitT E o t = decide (kdV E o = (tyGet E.T t).kind) := by
 rcases h with e | e | e <;> unfold fitT kdV conK <;> simp [e, eq_comm]
set_option maxHeartbeats 4000000 in
set_option maxRecDepth 100000 in
theorem cfits_is {K : CkW} {o : OpW} {i : Nat} {ty : TyW} {v : Bool} {w : World} (h : Ck K w) (ho : OneOp w K.B o) (hE : opErr K.E o.v = 0) (ht : K.x.types.L[i]? = some ty) (hv : fitT K.E o.v (i : Int) = v) :
  Calls Tryz.prog 105 #[K.ptr, aggOp o, .int .i64 (i : Int)] w fun e w' => e = .returned (.bool v) ∧ Wy K w w' := by
 obtain ⟨k, ⟨l, pA, pn, pc, ps⟩, n⟩ := o
 have htt : (tys K.x.types.L)[i]? = some ty.t := by
  show (K.x.types.L.map TyW.t)[i]? = _
  rw [List.getElem?_map, ht]
  rfl
 have hin : i < K.x.types.n := by have h1 := (List.getElem?_eq_some_iff.1 ht).1; have h2 := h.one.types.len; omega
 have hk := opErr_zero hE
 have hf65 := h.few
 rcases hk with hc | ⟨hk, he⟩
 ·
  have hkd := (fitT_kd hc (i : Int)).symm.trans hv
  have hkd : decide (kdV K.E (OpW.v ⟨k, ⟨l, pA, pn, pc, ps⟩, n⟩) = (tyGet (tys K.x.types.L) (i : Int)).kind) = v := hkd
  rw [tyGet_at htt] at hkd
  obtain ⟨⟨kx, mu, rg, el, fs⟩, fA, fn, fc⟩ := ty
  have hfd := fieldKind kx rg el mu fA fn fc
  simp only [] at hkd
  have hc : k = 2 ∨ k = 3 ∨ k = 4 := hc
  rcases hc with rfl | rfl | rfl
  ·
   have hkv : kdV K.E (OpW.v ⟨2, ⟨l, pA, pn, pc, ps⟩, n⟩) = 2 := rfl
   rw [hkv] at hkd
   have HB := hide ((Below.refl w.heap.size w).alloc (Nat.le_refl _) (.cells (cOp ⟨2, ⟨l, pA, pn, pc, ps⟩, n⟩).toArray 38))
   have HK := hide (h.up HB.out)
   have H0 := hide h
   have HO := hide (ho.below (HB.out.mono h.bs))
   have HC := hide (ckind_is HK.out HO.out (by simp) hkv)
   have HT := hide fun (w' : World) (q : Ck K w') => ctypeAt_is q ht
   clear h ho hE ht hv htt hin hf65 hkv
   by_cases hq : 2 = kx
   ·
    have tq : ((2 : Int) == kx) = true := by simp [hq]
    obtain rfl : v = true := by rw [← hkd]; simp [hq]
    clear hq hkd
    go_enter Tryz.func105, Tryz.ntmps105
    go_wp2_with fail
    refine HC.out.mono ?_
    rintro e1 w1 ⟨rfl, hb1⟩
    have HW1 := hide (Wy.new HK.out hb1)
    clear hb1
    go_wp2_with fail
    refine (HT.out w1 HW1.out.ck).mono ?_
    rintro e2 w2 ⟨he2, hb2⟩
    obtain rfl : e2 = .returned (.agg #[.int .i64 kx, .bool mu, .int .i64 rg, .int .i64 el, .slice fA fn fc]) := he2
    have HW2 := hide (HW1.out.up hb2)
    clear hb2
    go_wp2
    go_ret
    exact ⟨rfl, (Turn.of_below HB.out).trans HW2.out.turn, HW2.out.ck⟩
   ·
    have tq : ((2 : Int) == kx) = false := by simp [hq]
    obtain rfl : v = false := by rw [← hkd]; simp [hq]
    clear hq hkd
    go_enter Tryz.func105, Tryz.ntmps105
    go_wp2_with fail
    refine HC.out.mono ?_
    rintro e1 w1 ⟨rfl, hb1⟩
    have HW1 := hide (Wy.new HK.out hb1)
    clear hb1
    go_wp2_with fail
    refine (HT.out w1 HW1.out.ck).mono ?_
    rintro e2 w2 ⟨he2, hb2⟩
    obtain rfl : e2 = .returned (.agg #[.int .i64 kx, .bool mu, .int .i64 rg, .int .i64 el, .slice fA fn fc]) := he2
    have HW2 := hide (HW1.out.up hb2)
    clear hb2
    go_wp2
    go_ret
    exact ⟨rfl, (Turn.of_below HB.out).trans HW2.out.turn, HW2.out.ck⟩
  ·
   have hkv : kdV K.E (OpW.v ⟨3, ⟨l, pA, pn, pc, ps⟩, n⟩) = 1 := rfl
   rw [hkv] at hkd
   have HB := hide ((Below.refl w.heap.size w).alloc (Nat.le_refl _) (.cells (cOp ⟨3, ⟨l, pA, pn, pc, ps⟩, n⟩).toArray 38))
   have HK := hide (h.up HB.out)
   have H0 := hide h
   have HO := hide (ho.below (HB.out.mono h.bs))
   have HC := hide (ckind_is HK.out HO.out (by simp) hkv)
   have HT := hide fun (w' : World) (q : Ck K w') => ctypeAt_is q ht
   clear h ho hE ht hv htt hin hf65 hkv
   by_cases hq : 1 = kx
   ·
    have tq : ((1 : Int) == kx) = true := by simp [hq]
    obtain rfl : v = true := by rw [← hkd]; simp [hq]
    clear hq hkd
    go_enter Tryz.func105, Tryz.ntmps105
    go_wp2_with fail
    refine HC.out.mono ?_
    rintro e1 w1 ⟨rfl, hb1⟩
    have HW1 := hide (Wy.new HK.out hb1)
    clear hb1
    go_wp2_with fail
    refine (HT.out w1 HW1.out.ck).mono ?_
    rintro e2 w2 ⟨he2, hb2⟩
    obtain rfl : e2 = .returned (.agg #[.int .i64 kx, .bool mu, .int .i64 rg, .int .i64 el, .slice fA fn fc]) := he2
    have HW2 := hide (HW1.out.up hb2)
    clear hb2
    go_wp2
    go_ret
    exact ⟨rfl, (Turn.of_below HB.out).trans HW2.out.turn, HW2.out.ck⟩
   ·
    have tq : ((1 : Int) == kx) = false := by simp [hq]
    obtain rfl : v = false := by rw [← hkd]; simp [hq]
    clear hq hkd
    go_enter Tryz.func105, Tryz.ntmps105
    go_wp2_with fail
    refine HC.out.mono ?_
    rintro e1 w1 ⟨rfl, hb1⟩
    have HW1 := hide (Wy.new HK.out hb1)
    clear hb1
    go_wp2_with fail
    refine (HT.out w1 HW1.out.ck).mono ?_
    rintro e2 w2 ⟨he2, hb2⟩
    obtain rfl : e2 = .returned (.agg #[.int .i64 kx, .bool mu, .int .i64 rg, .int .i64 el, .slice fA fn fc]) := he2
    have HW2 := hide (HW1.out.up hb2)
    clear hb2
    go_wp2
    go_ret
    exact ⟨rfl, (Turn.of_below HB.out).trans HW2.out.turn, HW2.out.ck⟩
  ·
   have hkv : kdV K.E (OpW.v ⟨4, ⟨l, pA, pn, pc, ps⟩, n⟩) = 0 := rfl
   rw [hkv] at hkd
   have HB := hide ((Below.refl w.heap.size w).alloc (Nat.le_refl _) (.cells (cOp ⟨4, ⟨l, pA, pn, pc, ps⟩, n⟩).toArray 38))
   have HK := hide (h.up HB.out)
   have H0 := hide h
   have HO := hide (ho.below (HB.out.mono h.bs))
   have HC := hide (ckind_is HK.out HO.out (by simp) hkv)
   have HT := hide fun (w' : World) (q : Ck K w') => ctypeAt_is q ht
   clear h ho hE ht hv htt hin hf65 hkv
   by_cases hq : 0 = kx
   ·
    have tq : ((0 : Int) == kx) = true := by simp [hq]
    obtain rfl : v = true := by rw [← hkd]; simp [hq]
    clear hq hkd
    go_enter Tryz.func105, Tryz.ntmps105
    go_wp2_with fail
    refine HC.out.mono ?_
    rintro e1 w1 ⟨rfl, hb1⟩
    have HW1 := hide (Wy.new HK.out hb1)
    clear hb1
    go_wp2_with fail
    refine (HT.out w1 HW1.out.ck).mono ?_
    rintro e2 w2 ⟨he2, hb2⟩
    obtain rfl : e2 = .returned (.agg #[.int .i64 kx, .bool mu, .int .i64 rg, .int .i64 el, .slice fA fn fc]) := he2
    have HW2 := hide (HW1.out.up hb2)
    clear hb2
    go_wp2
    go_ret
    exact ⟨rfl, (Turn.of_below HB.out).trans HW2.out.turn, HW2.out.ck⟩
   ·
    have tq : ((0 : Int) == kx) = false := by simp [hq]
    obtain rfl : v = false := by rw [← hkd]; simp [hq]
    clear hq hkd
    go_enter Tryz.func105, Tryz.ntmps105
    go_wp2_with fail
    refine HC.out.mono ?_
    rintro e1 w1 ⟨rfl, hb1⟩
    have HW1 := hide (Wy.new HK.out hb1)
    clear hb1
    go_wp2_with fail
    refine (HT.out w1 HW1.out.ck).mono ?_
    rintro e2 w2 ⟨he2, hb2⟩
    obtain rfl : e2 = .returned (.agg #[.int .i64 kx, .bool mu, .int .i64 rg, .int .i64 el, .slice fA fn fc]) := he2
    have HW2 := hide (HW1.out.up hb2)
    clear hb2
    go_wp2
    go_ret
    exact ⟨rfl, (Turn.of_below HB.out).trans HW2.out.turn, HW2.out.ck⟩
 ·
  have he : (tyV K.E (PlW.v ⟨l, pA, pn, pc, ps⟩)).2 = 0 := he
  obtain ⟨j, tj, hi, hj⟩ := h.vb.ty (p := PlW.v ⟨l, pA, pn, pc, ps⟩) he
  have hu : tyV K.E (PlW.v ⟨l, pA, pn, pc, ps⟩) = ((j : Int), 0) := Prod.ext hi he
  have hjn : j < K.x.types.n := by have h1 := (List.getElem?_eq_some_iff.1 hj).1; have h2 := h.one.types.len; omega
  have hk : k = 0 ∨ k = 1 := hk
  have hsv : sub (out K.x.outl.L ((K.x.regions.L.length : Nat) : Int)) (tys K.x.types.L) (j : Int) (i : Int) = v := by
   rw [← hv, ← (show (tyV K.E (PlW.v ⟨l, pA, pn, pc, ps⟩)).1 = (j : Int) from hi)]
   exact (if_neg (show ¬ 1 < k by omega)).symm
  rcases hk with rfl | rfl
  ·
   have HB := hide ((Below.refl w.heap.size w).alloc (Nat.le_refl _) (.cells (cOp ⟨0, ⟨l, pA, pn, pc, ps⟩, n⟩).toArray 38))
   have HK := hide (h.up HB.out)
   have H0 := hide h
   have HO := hide (ho.below (HB.out.mono h.bs))
   have HC := hide (ctypeOf_is HK.out HO.out.pl hu)
   have HS := hide fun (w' : World) (q : Ck K w') => csub_is q (s := (j : Int)) (t := (i : Int)) (by unfold IntR; omega) (by unfold IntR; omega) ⟨⟨by omega, by show (j : Int) < _; omega⟩, by show 0 ≤ (i : Int); omega, by show (i : Int) < _; omega⟩ hsv
   clear h ho hE ht hv htt hin hf65 he hi hj hu hjn hsv
   go_enter Tryz.func105, Tryz.ntmps105
   go_wp2_with fail
   refine HC.out.mono ?_
   rintro e1 w1 ⟨rfl, hb1⟩
   have HW1 := hide (Wy.new HK.out hb1)
   clear hb1
   have hcx := Wy.box (cs := cOp ⟨0, ⟨l, pA, pn, pc, ps⟩, n⟩) (T := 38) H0.out HW1.out
   have x10 := hcx 0 (.int .i64 (0)) rfl
   have x11 := hcx 1 (.int .i64 l) rfl
   have x12 := hcx 2 (.slice pA pn pc) rfl
   have x13 := hcx 3 (.int .i64 n) rfl
   clear hcx
   go_wp2_with fail
   refine (HS.out w1 HW1.out.ck).mono ?_
   rintro e2 w2 ⟨rfl, hb2⟩
   have HW2 := hide (HW1.out.trans hb2)
   clear hb2
   go_wp2
   go_ret
   exact ⟨rfl, (Turn.of_below HB.out).trans HW2.out.turn, HW2.out.ck⟩
  ·
   have HB := hide ((Below.refl w.heap.size w).alloc (Nat.le_refl _) (.cells (cOp ⟨1, ⟨l, pA, pn, pc, ps⟩, n⟩).toArray 38))
   have HK := hide (h.up HB.out)
   have H0 := hide h
   have HO := hide (ho.below (HB.out.mono h.bs))
   have HC := hide (ctypeOf_is HK.out HO.out.pl hu)
   have HS := hide fun (w' : World) (q : Ck K w') => csub_is q (s := (j : Int)) (t := (i : Int)) (by unfold IntR; omega) (by unfold IntR; omega) ⟨⟨by omega, by show (j : Int) < _; omega⟩, by show 0 ≤ (i : Int); omega, by show (i : Int) < _; omega⟩ hsv
   clear h ho hE ht hv htt hin hf65 he hi hj hu hjn hsv
   go_enter Tryz.func105, Tryz.ntmps105
   go_wp2_with fail
   refine HC.out.mono ?_
   rintro e1 w1 ⟨rfl, hb1⟩
   have HW1 := hide (Wy.new HK.out hb1)
   clear hb1
   have hcx := Wy.box (cs := cOp ⟨1, ⟨l, pA, pn, pc, ps⟩, n⟩) (T := 38) H0.out HW1.out
   have x10 := hcx 0 (.int .i64 (1)) rfl
   have x11 := hcx 1 (.int .i64 l) rfl
   have x12 := hcx 2 (.slice pA pn pc) rfl
   have x13 := hcx 3 (.int .i64 n) rfl
   clear hcx
   go_wp2_with fail
   refine (HS.out w1 HW1.out.ck).mono ?_
   rintro e2 w2 ⟨rfl, hb2⟩
   have HW2 := hide (HW1.out.trans hb2)
   clear hb2
   go_wp2
   go_ret
   exact ⟨rfl, (Turn.of_below HB.out).trans HW2.out.turn, HW2.out.ck⟩
noncomputable def vaV (E : Env) (o : OpV) (t : Int) : Int := if opErr E o ≠ 0 then opErr E o else if fitT E o t = false then 22 else 0
set_option maxHeartbeats 4000000 in
set_option maxRecDepth 100000 in
theorem cval_is {K : CkW} {o : OpW} {i : Nat} {ty : TyW} {v : Int} {w : World} (h : Ck K w) (ho : OneOp w K.B o) (ht : K.x.types.L[i]? = some ty) (hv : vaV K.E o.v (i : Int) = v) :
  Calls Tryz.prog 86 #[K.ptr, aggOp o, .int .i64 (i : Int)] w fun e w' => e = .returned (.int .i64 v) ∧ Wy K w w' := by
 obtain ⟨k, ⟨l, pA, pn, pc, ps⟩, n⟩ := o
 obtain ⟨c, hc⟩ : ∃ c, opErr K.E (OpW.v ⟨k, ⟨l, pA, pn, pc, ps⟩, n⟩) = c := ⟨_, rfl⟩
 unfold vaV at hv
 rw [hc] at hv
 have HB := hide ((Below.refl w.heap.size w).alloc (Nat.le_refl _) (.cells (cOp ⟨k, ⟨l, pA, pn, pc, ps⟩, n⟩).toArray 38))
 have HK := hide (h.up HB.out)
 have H0 := hide h
 have HO := hide (ho.below (HB.out.mono h.bs))
 have HC := hide (cop_is HK.out HO.out hc)
 by_cases h0 : c = 0
 ·
  subst h0
  obtain ⟨b, hb⟩ : ∃ b, fitT K.E (OpW.v ⟨k, ⟨l, pA, pn, pc, ps⟩, n⟩) (i : Int) = b := ⟨_, rfl⟩
  rw [hb, if_neg (by simp)] at hv
  have HF := hide fun (w' : World) (q : Wy K (w.alloc (.cells (cOp ⟨k, ⟨l, pA, pn, pc, ps⟩, n⟩).toArray 38)) w') => cfits_is q.ck (HO.out.below (q.low HK.out)) hc ht hb
  clear h ho ht hc hb
  cases b
  ·
   obtain rfl : v = 22 := by rw [← hv]; simp
   clear hv
   go_enter Tryz.func86, Tryz.ntmps86
   go_wp2_with fail
   refine HC.out.mono ?_
   rintro e1 w1 ⟨rfl, hb1⟩
   have HW1 := hide hb1
   clear hb1
   have hcx := Wy.box (cs := cOp ⟨k, ⟨l, pA, pn, pc, ps⟩, n⟩) (T := 38) H0.out HW1.out
   have x10 := hcx 0 (.int .i64 k) rfl
   have x11 := hcx 1 (.int .i64 l) rfl
   have x12 := hcx 2 (.slice pA pn pc) rfl
   have x13 := hcx 3 (.int .i64 n) rfl
   clear hcx
   go_wp2_with fail
   refine (HF.out w1 HW1.out).mono ?_
   rintro e2 w2 ⟨rfl, hb2⟩
   have HW2 := hide (HW1.out.trans hb2)
   clear hb2
   go_wp2
   go_ret
   exact ⟨rfl, (Turn.of_below HB.out).trans HW2.out.turn, HW2.out.ck⟩
  ·
   obtain rfl : v = 0 := by rw [← hv]; simp
   clear hv
   go_enter Tryz.func86, Tryz.ntmps86
   go_wp2_with fail
   refine HC.out.mono ?_
   rintro e1 w1 ⟨rfl, hb1⟩
   have HW1 := hide hb1
   clear hb1
   have hcx := Wy.box (cs := cOp ⟨k, ⟨l, pA, pn, pc, ps⟩, n⟩) (T := 38) H0.out HW1.out
   have x10 := hcx 0 (.int .i64 k) rfl
   have x11 := hcx 1 (.int .i64 l) rfl
   have x12 := hcx 2 (.slice pA pn pc) rfl
   have x13 := hcx 3 (.int .i64 n) rfl
   clear hcx
   go_wp2_with fail
   refine (HF.out w1 HW1.out).mono ?_
   rintro e2 w2 ⟨rfl, hb2⟩
   have HW2 := hide (HW1.out.trans hb2)
   clear hb2
   go_wp2
   go_ret
   exact ⟨rfl, (Turn.of_below HB.out).trans HW2.out.turn, HW2.out.ck⟩
 ·
  have t0 : (c == 0) = false := by simp [h0]
  rw [if_pos h0] at hv
  obtain rfl : c = v := hv
  clear h ho ht hc h0
  go_enter Tryz.func86, Tryz.ntmps86
  go_wp2_with fail
  refine HC.out.mono ?_
  rintro e1 w1 ⟨rfl, hb1⟩
  have HW1 := hide hb1
  clear hb1
  go_wp2
  go_ret
  exact ⟨rfl, (Turn.of_below HB.out).trans HW1.out.turn, HW1.out.ck⟩
def coV (E : Env) (o : OpV) : Int := if opErr E o ≠ 0 then opErr E o else if kdV E o = 1 then 0 else 22
set_option maxHeartbeats 4000000 in
set_option maxRecDepth 100000 in
theorem ccond_is {K : CkW} {o : OpW} {v : Int} {w : World} (h : Ck K w) (ho : OneOp w K.B o) (hv : coV K.E o.v = v) :
  Calls Tryz.prog 66 #[K.ptr, aggOp o] w fun e w' => e = .returned (.int .i64 v) ∧ Wy K w w' := by
 obtain ⟨k, ⟨l, pA, pn, pc, ps⟩, n⟩ := o
 obtain ⟨c, hc⟩ : ∃ c, opErr K.E (OpW.v ⟨k, ⟨l, pA, pn, pc, ps⟩, n⟩) = c := ⟨_, rfl⟩
 unfold coV at hv
 rw [hc] at hv
 have HB := hide ((Below.refl w.heap.size w).alloc (Nat.le_refl _) (.cells (cOp ⟨k, ⟨l, pA, pn, pc, ps⟩, n⟩).toArray 38))
 have HK := hide (h.up HB.out)
 have H0 := hide h
 have HO := hide (ho.below (HB.out.mono h.bs))
 have HC := hide (cop_is HK.out HO.out hc)
 by_cases h0 : c = 0
 ·
  subst h0
  obtain ⟨b, hb⟩ : ∃ b, kdV K.E (OpW.v ⟨k, ⟨l, pA, pn, pc, ps⟩, n⟩) = b := ⟨_, rfl⟩
  rw [hb, if_neg (by simp)] at hv
  have hz := opErr_zero hc
  have HF := hide fun (w' : World) (q : Wy K (w.alloc (.cells (cOp ⟨k, ⟨l, pA, pn, pc, ps⟩, n⟩).toArray 38)) w') => ckind_is q.ck (HO.out.below (q.low HK.out)) (hz.imp id fun q => q.2) hb
  clear h ho hc hb hz
  by_cases hb1 : b = 1
  ·
   have tb : (b != 1) = false := by simp [hb1]
   obtain rfl : v = 0 := by rw [← hv]; simp [hb1]
   clear hv hb1
   go_enter Tryz.func66, Tryz.ntmps66
   go_wp2_with fail
   refine HC.out.mono ?_
   rintro e1 w1 ⟨rfl, hb1⟩
   have HW1 := hide hb1
   clear hb1
   have hcx := Wy.box (cs := cOp ⟨k, ⟨l, pA, pn, pc, ps⟩, n⟩) (T := 38) H0.out HW1.out
   have x10 := hcx 0 (.int .i64 k) rfl
   have x11 := hcx 1 (.int .i64 l) rfl
   have x12 := hcx 2 (.slice pA pn pc) rfl
   have x13 := hcx 3 (.int .i64 n) rfl
   clear hcx
   go_wp2_with fail
   refine (HF.out w1 HW1.out).mono ?_
   rintro e2 w2 ⟨rfl, hb2⟩
   have HW2 := hide (HW1.out.up hb2)
   clear hb2
   go_wp2
   go_ret
   exact ⟨rfl, (Turn.of_below HB.out).trans HW2.out.turn, HW2.out.ck⟩
  ·
   have tb : (b != 1) = true := by simp [hb1]
   obtain rfl : v = 22 := by rw [← hv]; simp [hb1]
   clear hv hb1
   go_enter Tryz.func66, Tryz.ntmps66
   go_wp2_with fail
   refine HC.out.mono ?_
   rintro e1 w1 ⟨rfl, hb1⟩
   have HW1 := hide hb1
   clear hb1
   have hcx := Wy.box (cs := cOp ⟨k, ⟨l, pA, pn, pc, ps⟩, n⟩) (T := 38) H0.out HW1.out
   have x10 := hcx 0 (.int .i64 k) rfl
   have x11 := hcx 1 (.int .i64 l) rfl
   have x12 := hcx 2 (.slice pA pn pc) rfl
   have x13 := hcx 3 (.int .i64 n) rfl
   clear hcx
   go_wp2_with fail
   refine (HF.out w1 HW1.out).mono ?_
   rintro e2 w2 ⟨rfl, hb2⟩
   have HW2 := hide (HW1.out.up hb2)
   clear hb2
   go_wp2
   go_ret
   exact ⟨rfl, (Turn.of_below HB.out).trans HW2.out.turn, HW2.out.ck⟩
 ·
  have t0 : (c == 0) = false := by simp [h0]
  rw [if_pos h0] at hv
  obtain rfl : c = v := hv
  clear h ho hc h0
  go_enter Tryz.func66, Tryz.ntmps66
  go_wp2_with fail
  refine HC.out.mono ?_
  rintro e1 w1 ⟨rfl, hb1⟩
  have HW1 := hide hb1
  clear hb1
  go_wp2
  go_ret
  exact ⟨rfl, (Turn.of_below HB.out).trans HW1.out.turn, HW1.out.ck⟩
end Go.Proofs.YtfgacmgjpikgaaaGreatDoor
