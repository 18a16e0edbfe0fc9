/- Part 22 of the contracts and their mathematics. -/
import Derived.Test.YtfgacmgjpikgaaaGreatDoorQ19
import Derived.Test.YtfgacmgjpikgaaaGreatDoorQ20
set_option linter.unusedVariables false
set_option linter.unusedSimpArgs false
namespace Go.Proofs.YtfgacmgjpikgaaaGreatDoor
open Go.RowKit
set_option maxHeartbeats 2000000 in
set_option maxRecDepth 100000 in
theorem ctypeOf_is {K : CkW} {p : PlW} {u v : Int} {w : World} (h : Ck K w) (hp : OnePl w K.B p) (hv : tyV K.E p.v = (u, v)) :
  Calls Tryz.prog 79 #[K.ptr, aggPl p] w fun e w' => e = .returned (.tuple #[.int .i64 u, .int .i64 v]) ∧ Below w.heap.size w w' := by
 obtain ⟨B, g, m1, m2, m3, ⟨nm, ⟨rA, rn, rc, rL⟩, ⟨oA, on, oc, oL⟩, ⟨tA, tm, tc, tL⟩, ⟨lA, ln, lc, lL⟩, ar, ⟨bA, bn, bc, bL⟩⟩⟩ := K
 obtain ⟨l, pA, pn, pc, ps⟩ := p
 have HB := hide ((Below.refl w.heap.size w).alloc (Nat.le_refl _) (.cells #[.int .i64 l, .slice pA pn pc] 36))
 have hp1 : OnePl w w.heap.size ⟨l, pA, pn, pc, ps⟩ := hp.more h.bs
 have HP := hide (hp1.up HB.out)
 have HK := hide (h.up HB.out)
 have HC := hide fun (w' : World) (hb : Below (w.alloc (.cells #[.int .i64 l, .slice pA pn pc] 36)).heap.size (w.alloc (.cells #[.int .i64 l, .slice pA pn pc] 36)) w') => TypeOf_is (ct := tc) (cl := lc) (((HK.out.up hb).vb).pl8 (HP.out.up hb)) hv
 have hcs := hide fun (w' : World) (hb : Below (w.alloc (.cells #[.int .i64 l, .slice pA pn pc] 36)).heap.size (w.alloc (.cells #[.int .i64 l, .slice pA pn pc] 36)) w') => (show w'.cell? ⟨g, 3, none⟩ = some (.slice tA tm tc) ∧ w'.cell? ⟨g, 4, none⟩ = some (.slice lA ln lc) ∧ w'.cell? ⟨w.heap.size, 0, none⟩ = some (.int .i64 l) ∧ w'.cell? ⟨w.heap.size, 1, none⟩ = some (.slice pA pn pc) from
  ⟨(HK.out.up hb).cells 3 _ rfl, (HK.out.up hb).cells 4 _ rfl, one_cells (cs := [.int .i64 l, .slice pA pn pc]) hb 0 _ rfl, one_cells (cs := [.int .i64 l, .slice pA pn pc]) hb 1 _ rfl⟩)
 clear h hp hp1 hv
 go_enter Tryz.func79, Tryz.ntmps79
 go_wp2
 go_region_held3 (fun w' => Below (w.alloc (.cells #[.int .i64 l, .slice pA pn pc] 36)).heap.size (w.alloc (.cells #[.int .i64 l, .slice pA pn pc] 36)) w' ∧ w'.cell? ⟨g, 3, none⟩ = some (.slice tA tm tc) ∧ w'.cell? ⟨g, 4, none⟩ = some (.slice lA ln lc) ∧ w'.cell? ⟨w.heap.size, 0, none⟩ = some (.int .i64 l) ∧ w'.cell? ⟨w.heap.size, 1, none⟩ = some (.slice pA pn pc))
  (first | exact ⟨by assumption, hcs.out _ (by assumption)⟩ | exact ⟨Below.refl _ _, hcs.out _ (Below.refl _ _)⟩ | exact ⟨(Below.refl _ _).drew, hcs.out _ (Below.refl _ _).drew⟩)
  (first | (go_at_call 100; go_split_ands; refine (HC.out _ (by assumption)).mono ?_; rintro x9 w1 ⟨rfl, hb0⟩; have hb1 := Below.trans (by assumption : Below (w.alloc (.cells #[.int .i64 l, .slice pA pn pc] 36)).heap.size (w.alloc (.cells #[.int .i64 l, .slice pA pn pc] 36)) _) (hb0.mono (Below.size (by assumption : Below (w.alloc (.cells #[.int .i64 l, .slice pA pn pc] 36)).heap.size (w.alloc (.cells #[.int .i64 l, .slice pA pn pc] 36)) _)))))
 all_goals
  go_split_ands
  go_wp2
  go_ret2
  exact ⟨rfl, HB.out.trans (Below.mono (by assumption : Below (w.alloc (.cells #[.int .i64 l, .slice pA pn pc] 36)).heap.size (w.alloc (.cells #[.int .i64 l, .slice pA pn pc] 36)) _) HB.out.size)⟩
set_option maxHeartbeats 2000000 in
set_option maxRecDepth 100000 in
theorem cmut_is {K : CkW} {p : PlW} {v : Bool} {w : World} (h : Ck K w) (hp : OnePl w K.B p) (hv : muV K.E p.v = v) :
  Calls Tryz.prog 104 #[K.ptr, aggPl p] w fun e w' => e = .returned (.bool v) ∧ Below w.heap.size w w' := by
 obtain ⟨B, g, m1, m2, m3, ⟨nm, ⟨rA, rn, rc, rL⟩, ⟨oA, on, oc, oL⟩, ⟨tA, tm, tc, tL⟩, ⟨lA, ln, lc, lL⟩, ar, ⟨bA, bn, bc, bL⟩⟩⟩ := K
 obtain ⟨l, pA, pn, pc, ps⟩ := p
 have HB := hide ((Below.refl w.heap.size w).alloc (Nat.le_refl _) (.cells #[.int .i64 l, .slice pA pn pc] 36))
 have hp1 : OnePl w w.heap.size ⟨l, pA, pn, pc, ps⟩ := hp.more h.bs
 have HP := hide (hp1.up HB.out)
 have HK := hide (h.up HB.out)
 have HC := hide fun (w' : World) (hb : Below (w.alloc (.cells #[.int .i64 l, .slice pA pn pc] 36)).heap.size (w.alloc (.cells #[.int .i64 l, .slice pA pn pc] 36)) w') => Mutable_is (ct := tc) (cl := lc) (((HK.out.up hb).vb).pl8 (HP.out.up hb)) hv
 have hcs := hide fun (w' : World) (hb : Below (w.alloc (.cells #[.int .i64 l, .slice pA pn pc] 36)).heap.size (w.alloc (.cells #[.int .i64 l, .slice pA pn pc] 36)) w') => (show w'.cell? ⟨g, 3, none⟩ = some (.slice tA tm tc) ∧ w'.cell? ⟨g, 4, none⟩ = some (.slice lA ln lc) ∧ w'.cell? ⟨w.heap.size, 0, none⟩ = some (.int .i64 l) ∧ w'.cell? ⟨w.heap.size, 1, none⟩ = some (.slice pA pn pc) from
  ⟨(HK.out.up hb).cells 3 _ rfl, (HK.out.up hb).cells 4 _ rfl, one_cells (cs := [.int .i64 l, .slice pA pn pc]) hb 0 _ rfl, one_cells (cs := [.int .i64 l, .slice pA pn pc]) hb 1 _ rfl⟩)
 clear h hp hp1 hv
 go_enter Tryz.func104, Tryz.ntmps104
 go_wp2
 go_region_held3 (fun w' => Below (w.alloc (.cells #[.int .i64 l, .slice pA pn pc] 36)).heap.size (w.alloc (.cells #[.int .i64 l, .slice pA pn pc] 36)) w' ∧ w'.cell? ⟨g, 3, none⟩ = some (.slice tA tm tc) ∧ w'.cell? ⟨g, 4, none⟩ = some (.slice lA ln lc) ∧ w'.cell? ⟨w.heap.size, 0, none⟩ = some (.int .i64 l) ∧ w'.cell? ⟨w.heap.size, 1, none⟩ = some (.slice pA pn pc))
  (first | exact ⟨by assumption, hcs.out _ (by assumption)⟩ | exact ⟨Below.refl _ _, hcs.out _ (Below.refl _ _)⟩ | exact ⟨(Below.refl _ _).drew, hcs.out _ (Below.refl _ _).drew⟩)
  (first | (go_at_call 116; go_split_ands; refine (HC.out _ (by assumption)).mono ?_; rintro x9 w1 ⟨rfl, hb0⟩; have hb1 := Below.trans (by assumption : Below (w.alloc (.cells #[.int .i64 l, .slice pA pn pc] 36)).heap.size (w.alloc (.cells #[.int .i64 l, .slice pA pn pc] 36)) _) (hb0.mono (Below.size (by assumption : Below (w.alloc (.cells #[.int .i64 l, .slice pA pn pc] 36)).heap.size (w.alloc (.cells #[.int .i64 l, .slice pA pn pc] 36)) _)))))
 all_goals
  go_split_ands
  go_wp2
  go_ret
  exact ⟨rfl, HB.out.trans (Below.mono (by assumption : Below (w.alloc (.cells #[.int .i64 l, .slice pA pn pc] 36)).heap.size (w.alloc (.cells #[.int .i64 l, .slice pA pn pc] 36)) _) HB.out.size)⟩
def wrV (E : Env) (p : PlV) : Int × Int := if (tyV E p).2 ≠ 0 then (0, (tyV E p).2) else if muV E p = false then (0, 22) else ((tyV E p).1, 0)
set_option maxHeartbeats 2000000 in
set_option maxRecDepth 100000 in
theorem cwritten_is {K : CkW} {p : PlW} {a b : Int} {w : World} (h : Ck K w) (hp : OnePl w K.B p) (hv : wrV K.E p.v = (a, b)) :
  Calls Tryz.prog 84 #[K.ptr, aggPl p] w fun e w' => e = .returned (.tuple #[.int .i64 a, .int .i64 b]) ∧ Below w.heap.size w w' := by
 obtain ⟨l, pA, pn, pc, ps⟩ := p
 have HB := hide ((Below.refl w.heap.size w).alloc (Nat.le_refl _) (.cells #[.int .i64 l, .slice pA pn pc] 36))
 have HK := hide (h.up HB.out)
 have HP := hide (hp.below (HB.out.mono h.bs))
 obtain ⟨u, hu⟩ : ∃ u, (tyV K.E (PlW.v ⟨l, pA, pn, pc, ps⟩)).1 = u := ⟨_, rfl⟩
 obtain ⟨v, hv0⟩ : ∃ v, (tyV K.E (PlW.v ⟨l, pA, pn, pc, ps⟩)).2 = v := ⟨_, rfl⟩
 have huv : tyV K.E (PlW.v ⟨l, pA, pn, pc, ps⟩) = (u, v) := Prod.ext hu hv0
 unfold wrV at hv
 rw [hu, hv0] at hv
 have HC := hide (ctypeOf_is HK.out HP.out huv)
 by_cases hv1 : v = 0
 ·
  have tv : (v != 0) = false := by simp [hv1]
  rw [if_neg (by omega)] at hv
  obtain ⟨mu, hmu⟩ : ∃ mu, muV K.E (PlW.v ⟨l, pA, pn, pc, ps⟩) = mu := ⟨_, rfl⟩
  rw [hmu] at hv
  have HM := hide fun (w' : World) (hb : Below (w.alloc (.cells #[.int .i64 l, .slice pA pn pc] 36)).heap.size (w.alloc (.cells #[.int .i64 l, .slice pA pn pc] 36)) w') => cmut_is (HK.out.up hb) (HP.out.below (hb.mono HK.out.bs)) hmu
  clear h hp huv hu hv0 hv1 hmu
  cases mu
  ·
   have ha : a = 0 ∧ b = 22 := by simpa [eq_comm] using hv
   obtain ⟨rfl, rfl⟩ := ha
   clear hv
   go_enter Tryz.func84, Tryz.ntmps84
   go_wp2_with fail
   refine HC.out.mono ?_
   rintro e w1 ⟨rfl, hb1⟩
   have HW1 := hide (show Below (w.alloc (.cells #[.int .i64 l, .slice pA pn pc] 36)).heap.size (w.alloc (.cells #[.int .i64 l, .slice pA pn pc] 36)) w1 from hb1)
   clear hb1
   have x10 := one_cells (cs := [.int .i64 l, .slice pA pn pc]) HW1.out 0 _ rfl
   have x11 := one_cells (cs := [.int .i64 l, .slice pA pn pc]) HW1.out 1 _ rfl
   go_wp2_with fail
   refine (HM.out w1 HW1.out).mono ?_
   rintro e2 w2 ⟨rfl, hb2⟩
   have HW2 := hide (HW1.out.trans (hb2.mono HW1.out.size))
   clear hb2
   go_wp2
   go_ret2
   exact ⟨rfl, HB.out.trans (HW2.out.mono HB.out.size)⟩
  ·
   have ha : a = u ∧ b = 0 := by simpa [eq_comm] using hv
   obtain ⟨rfl, rfl⟩ := ha
   clear hv
   go_enter Tryz.func84, Tryz.ntmps84
   go_wp2_with fail
   refine HC.out.mono ?_
   rintro e w1 ⟨rfl, hb1⟩
   have HW1 := hide (show Below (w.alloc (.cells #[.int .i64 l, .slice pA pn pc] 36)).heap.size (w.alloc (.cells #[.int .i64 l, .slice pA pn pc] 36)) w1 from hb1)
   clear hb1
   have x10 := one_cells (cs := [.int .i64 l, .slice pA pn pc]) HW1.out 0 _ rfl
   have x11 := one_cells (cs := [.int .i64 l, .slice pA pn pc]) HW1.out 1 _ rfl
   go_wp2_with fail
   refine (HM.out w1 HW1.out).mono ?_
   rintro e2 w2 ⟨rfl, hb2⟩
   have HW2 := hide (HW1.out.trans (hb2.mono HW1.out.size))
   clear hb2
   go_wp2
   go_ret2
   exact ⟨rfl, HB.out.trans (HW2.out.mono HB.out.size)⟩
 ·
  have tv : (v != 0) = true := by simp [hv1]
  rw [if_pos hv1] at hv
  have ha : a = 0 ∧ b = v := by simpa [eq_comm] using hv
  obtain ⟨rfl, rfl⟩ := ha
  clear h hp huv hu hv0 hv1 hv
  go_enter Tryz.func84, Tryz.ntmps84
  go_wp2_with fail
  refine HC.out.mono ?_
  rintro e w1 ⟨rfl, hb1⟩
  have HW1 := hide (show Below (w.alloc (.cells #[.int .i64 l, .slice pA pn pc] 36)).heap.size (w.alloc (.cells #[.int .i64 l, .slice pA pn pc] 36)) w1 from hb1)
  clear hb1
  go_wp2
  go_ret2
  exact ⟨rfl, HB.out.trans (HW1.out.mono HB.out.size)⟩
def drV (E : Env) (p : PlV) : Int := if (tyV E p).2 ≠ 0 then (tyV E p).2 else if hasD p.ps 0 = true then 22 else 0
set_option maxHeartbeats 2000000 in
set_option maxRecDepth 100000 in
theorem cdrop_is {K : CkW} {p : PlW} {b : Int} {w : World} (h : Ck K w) (hp : OnePl w K.B p) (hv : drV K.E p.v = b) :
  Calls Tryz.prog 68 #[K.ptr, aggPl p] w fun e w' => e = .returned (.int .i64 b) ∧ Below w.heap.size w w' := by
 obtain ⟨l, pA, pn, pc, ps⟩ := p
 have HB := hide ((Below.refl w.heap.size w).alloc (Nat.le_refl _) (.cells #[.int .i64 l, .slice pA pn pc] 36))
 have HK := hide (h.up HB.out)
 have HP := hide (hp.below (HB.out.mono h.bs))
 obtain ⟨u, hu⟩ : ∃ u, (tyV K.E (PlW.v ⟨l, pA, pn, pc, ps⟩)).1 = u := ⟨_, rfl⟩
 obtain ⟨v, hv0⟩ : ∃ v, (tyV K.E (PlW.v ⟨l, pA, pn, pc, ps⟩)).2 = v := ⟨_, rfl⟩
 have huv : tyV K.E (PlW.v ⟨l, pA, pn, pc, ps⟩) = (u, v) := Prod.ext hu hv0
 unfold drV at hv
 rw [hv0] at hv
 have HC := hide (ctypeOf_is HK.out HP.out huv)
 by_cases hv1 : v = 0
 ·
  have tv : (v == 0) = true := by simp [hv1]
  rw [if_neg (by omega)] at hv
  obtain ⟨d, hd⟩ : ∃ d, hasD (PlW.v ⟨l, pA, pn, pc, ps⟩).ps 0 = d := ⟨_, rfl⟩
  rw [hd] at hv
  have HM := hide fun (w' : World) (hb : Below (w.alloc (.cells #[.int .i64 l, .slice pA pn pc] 36)).heap.size (w.alloc (.cells #[.int .i64 l, .slice pA pn pc] 36)) w') => HasDeref_is (x := ⟨l, pA, pn, pc, ps⟩) (f := 0) hd w' ((HP.out.below (hb.mono HK.out.bs)).more (Nat.le_trans HK.out.bs hb.size))
  clear h hp huv hu hv0 hd
  cases d
  ·
   have ha : b = v := by rw [hv1]; simpa [eq_comm] using hv
   subst ha
   clear hv hv1
   go_enter Tryz.func68, Tryz.ntmps68
   go_wp2_with fail
   refine HC.out.mono ?_
   rintro e w1 ⟨rfl, hb1⟩
   have HW1 := hide (show Below (w.alloc (.cells #[.int .i64 l, .slice pA pn pc] 36)).heap.size (w.alloc (.cells #[.int .i64 l, .slice pA pn pc] 36)) w1 from hb1)
   clear hb1
   have x10 := one_cells (cs := [.int .i64 l, .slice pA pn pc]) HW1.out 0 _ rfl
   have x11 := one_cells (cs := [.int .i64 l, .slice pA pn pc]) HW1.out 1 _ rfl
   go_wp2_with fail
   refine (HM.out w1 HW1.out).mono ?_
   rintro e2 w2 ⟨rfl, hb2⟩
   have HW2 := hide (HW1.out.trans (hb2.mono HW1.out.size))
   clear hb2
   go_wp2
   go_ret
   exact ⟨rfl, HB.out.trans (HW2.out.mono HB.out.size)⟩
  ·
   have ha : b = 22 := by simpa [eq_comm] using hv
   subst ha
   clear hv hv1
   go_enter Tryz.func68, Tryz.ntmps68
   go_wp2_with fail
   refine HC.out.mono ?_
   rintro e w1 ⟨rfl, hb1⟩
   have HW1 := hide (show Below (w.alloc (.cells #[.int .i64 l, .slice pA pn pc] 36)).heap.size (w.alloc (.cells #[.int .i64 l, .slice pA pn pc] 36)) w1 from hb1)
   clear hb1
   have x10 := one_cells (cs := [.int .i64 l, .slice pA pn pc]) HW1.out 0 _ rfl
   have x11 := one_cells (cs := [.int .i64 l, .slice pA pn pc]) HW1.out 1 _ rfl
   go_wp2_with fail
   refine (HM.out w1 HW1.out).mono ?_
   rintro e2 w2 ⟨rfl, hb2⟩
   have HW2 := hide (HW1.out.trans (hb2.mono HW1.out.size))
   clear hb2
   go_wp2
   go_ret
   exact ⟨rfl, HB.out.trans (HW2.out.mono HB.out.size)⟩
 ·
  have tv : (v == 0) = false := by simp [hv1]
  rw [if_pos hv1] at hv
  obtain rfl : v = b := hv
  clear h hp huv hu hv0 hv1
  go_enter Tryz.func68, Tryz.ntmps68
  go_wp2_with fail
  refine HC.out.mono ?_
  rintro e w1 ⟨rfl, hb1⟩
  have HW1 := hide (show Below (w.alloc (.cells #[.int .i64 l, .slice pA pn pc] 36)).heap.size (w.alloc (.cells #[.int .i64 l, .slice pA pn pc] 36)) w1 from hb1)
  clear hb1
  go_wp2
  go_ret
  exact ⟨rfl, HB.out.trans (HW1.out.mono HB.out.size)⟩
set_option maxHeartbeats 4000000 in
set_option maxRecDepth 100000 in
theorem ctypeAt_is {K : CkW} {i : Nat} {ty : TyW} {w : World} (h : Ck K w) (ht : K.x.types.L[i]? = some ty) :
  Calls Tryz.prog 90 #[K.ptr, .int .i64 (i : Int)] w fun e w' => e = .returned (aggT ty) ∧ Below w.heap.size w w' := by
 obtain ⟨B, g, m1, m2, m3, ⟨nm, ⟨rA, rn, rc, rL⟩, ⟨oA, on, oc, oL⟩, ⟨tA, tm, tc, tL⟩, ⟨lA, ln, lc, lL⟩, ar, ⟨bA, bn, bc, bL⟩⟩⟩ := K
 obtain ⟨⟨k, mu, rg, el, fs⟩, fA, fn, fc⟩ := ty
 have ht : tL[i]? = some ⟨⟨k, mu, rg, el, fs⟩, fA, fn, fc⟩ := ht
 have HB := hide ((Below.refl w.heap.size w).alloc (Nat.le_refl _) (.cells #[.int .i64 0, .bool false, .int .i64 0, .int .i64 0, .slice none 0 0] 62))
 have HK := hide (h.up HB.out)
 have hil : i < tm := by
  have h1 : i < tL.length := (List.getElem?_eq_some_iff.1 ht).1
  have h2 : tL.length = tm := h.one.types.len
  omega
 have hil' : (i : Int) < (tm : Int) := by omega
 have hi0 : (0 : Int) ≤ (i : Int) := by omega
 have hf65 : tm ≤ 1000 := h.few
 have HWI := hide (vwithin_is (tyIn_iff.2 ⟨hi0, hil'⟩))
 obtain ⟨b, q, hg, hgB, _, _⟩ := h.one.typs.at_ ht
 have hg : tA = some ⟨b, q, none⟩ := hg
 subst hg
 have hcs := hide fun (w' : World) (hb : Below (w.alloc (.cells #[.int .i64 0, .bool false, .int .i64 0, .int .i64 0, .slice none 0 0] 62)).heap.size (w.alloc (.cells #[.int .i64 0, .bool false, .int .i64 0, .int .i64 0, .slice none 0 0] 62)) w') => (show w'.cell? ⟨g, 3, none⟩ = some (.slice (some ⟨b, q, none⟩) tm tc) ∧ w'.cell? ⟨b, q + i * 5, none⟩ = some (.int .i64 k) ∧ w'.cell? ⟨b, q + i * 5 + 1, none⟩ = some (.bool mu) ∧ w'.cell? ⟨b, q + i * 5 + 2, none⟩ = some (.int .i64 rg) ∧ w'.cell? ⟨b, q + i * 5 + 3, none⟩ = some (.int .i64 el) ∧ w'.cell? ⟨b, q + i * 5 + 4, none⟩ = some (.slice fA fn fc) from by
  obtain ⟨b', q', hg', _, _, c0, c1, c2, c3, c4⟩ := (HK.out.up hb).one.typs.at_ ht
  injection hg' with hg'
  injection hg' with hga hgb
  subst hga hgb
  exact ⟨(HK.out.up hb).cells 3 _ rfl, c0, c1, c2, c3, c4⟩)
 have hHR : ((w.alloc (.cells #[.int .i64 0, .bool false, .int .i64 0, .int .i64 0, .slice none 0 0] 62))).heap[w.heap.size]? = some (.cells #[.int .i64 0, .bool false, .int .i64 0, .int .i64 0, .slice none 0 0] 62 (0, 0)) := heap_alloc_new w _
 have HR := hide hHR
 have HSZ := hide (show (Tryz.prog.info? 62).map (·.size) = some 5 by kernel_rfl)
 have HONE := hide (all_oneCell_toArray (cs := [.int .i64 k, .bool mu, .int .i64 rg, .int .i64 el, .slice fA fn fc]) (fun u hu => by simp only [List.mem_cons, List.not_mem_nil, or_false] at hu; rcases hu with rfl | rfl | rfl | rfl | rfl <;> rfl))
 obtain ⟨y0, y1, y2, y3, y4, y5⟩ := hcs.out (w.alloc (.cells #[.int .i64 0, .bool false, .int .i64 0, .int .i64 0, .slice none 0 0] 62)) (Below.refl _ _)
 clear h ht hgB hHR
 go_enter Tryz.func90, Tryz.ntmps90
 go_wp2
 refine bodyPost_ret (results_cell_row rfl _ _ w.heap.size _ #[.int .i64 k, .bool mu, .int .i64 rg, .int .i64 el, .slice fA fn fc] (0, 0) _ rfl (heap_alloc_new w _) Tryz.underlying62 rfl (by kernel_rfl)) rfl ⟨rfl, (Below.refl w.heap.size w).alloc (Nat.le_refl _) _⟩
theorem fieldKind (kx rg el : Int) (mu : Bool) (fA : Option Addr) (fn fc : Nat) (W : World) : (Instr.field 62 (.agg #[.int .i64 kx, .bool mu, .int .i64 rg, .int .i64 el, .slice fA fn fc]) 0).run Tryz.prog W = .ok (.int .i64 kx) W := by kernel_rfl
def kdV (E : Env) (o : OpV) : Int := if o.kind = 2 then 2 else if o.kind = 3 then 1 else if o.kind = 4 then 0 else (tyGet E.T (tyV E o.pl).1).kind
set_option maxHeartbeats 2000000 in
set_option maxRecDepth 100000 in
theorem ckind_is {K : CkW} {o : OpW} {v : Int} {w : World} (h : Ck K w) (ho : OneOp w K.B o) (hk : (o.kind = 2 ∨ o.kind = 3 ∨ o.kind = 4) ∨ (tyV K.E o.pl.v).2 = 0) (hv : kdV K.E o.v = v) :
  Calls Tryz.prog 95 #[K.ptr, aggOp o] w fun e w' => e = .returned (.int .i64 v) ∧ Below w.heap.size w w' := by
 obtain ⟨k, ⟨l, pA, pn, pc, ps⟩, n⟩ := o
 simp only [] at hk
 by_cases h2 : k = 2
 ·
  subst h2
  obtain rfl : v = 2 := hv.symm
  have HB := hide ((Below.refl w.heap.size w).alloc (Nat.le_refl _) (.cells (cOp ⟨2, ⟨l, pA, pn, pc, ps⟩, n⟩).toArray 38))
  clear h ho hk hv
  go_enter Tryz.func95, Tryz.ntmps95
  go_wp2
  go_ret
  exact ⟨rfl, HB.out⟩
 by_cases h3 : k = 3
 ·
  subst h3
  obtain rfl : v = 1 := hv.symm
  have HB := hide ((Below.refl w.heap.size w).alloc (Nat.le_refl _) (.cells (cOp ⟨3, ⟨l, pA, pn, pc, ps⟩, n⟩).toArray 38))
  clear h ho hk hv
  go_enter Tryz.func95, Tryz.ntmps95
  go_wp2
  go_ret
  exact ⟨rfl, HB.out⟩
 by_cases h4 : k = 4
 ·
  subst h4
  obtain rfl : v = 0 := hv.symm
  have HB := hide ((Below.refl w.heap.size w).alloc (Nat.le_refl _) (.cells (cOp ⟨4, ⟨l, pA, pn, pc, ps⟩, n⟩).toArray 38))
  clear h ho hk hv
  go_enter Tryz.func95, Tryz.ntmps95
  go_wp2
  go_ret
  exact ⟨rfl, HB.out⟩
 have he : (tyV K.E (PlW.v ⟨l, pA, pn, pc, ps⟩)).2 = 0 := by
  rcases hk with (e | e | e) | e
  ·
   exact absurd e h2
  ·
   exact absurd e h3
  ·
   exact absurd e h4
  ·
   exact e
 obtain ⟨i, ty, hi, hty⟩ := h.vb.ty (p := PlW.v ⟨l, pA, pn, pc, ps⟩) he
 have hu : tyV K.E (PlW.v ⟨l, pA, pn, pc, ps⟩) = ((i : Int), 0) := Prod.ext hi he
 have htt : (tys K.x.types.L)[i]? = some ty.t := by
  show (K.x.types.L.map TyW.t)[i]? = _
  rw [List.getElem?_map, hty]
  rfl
 have hkd : kdV K.E (OpW.v ⟨k, ⟨l, pA, pn, pc, ps⟩, n⟩) = ty.t.kind := by
  show (if k = 2 then (2 : Int) else if k = 3 then 1 else if k = 4 then 0 else (tyGet (tys K.x.types.L) (tyV K.E (PlW.v ⟨l, pA, pn, pc, ps⟩)).1).kind) = _
  rw [if_neg h2, if_neg h3, if_neg h4, hi, tyGet_at htt]
 rw [hkd] at hv
 have HB := hide ((Below.refl w.heap.size w).alloc (Nat.le_refl _) (.cells (cOp ⟨k, ⟨l, pA, pn, pc, ps⟩, n⟩).toArray 38))
 have HK := hide (h.up HB.out)
 have HP := hide (ho.pl.below (HB.out.mono h.bs))
 have HC := hide (ctypeOf_is HK.out HP.out hu)
 have HT := hide fun (w' : World) (hb : Below (w.alloc (.cells (cOp ⟨k, ⟨l, pA, pn, pc, ps⟩, n⟩).toArray 38)).heap.size (w.alloc (.cells (cOp ⟨k, ⟨l, pA, pn, pc, ps⟩, n⟩).toArray 38)) w') => ctypeAt_is (HK.out.up hb) hty
 have t2 : (k == 2) = false := by simp [h2]
 have t3 : (k == 3) = false := by simp [h3]
 have t4 : (k == 4) = false := by simp [h4]
 clear h ho hk he hi hty hu htt hkd h2 h3 h4
 obtain ⟨⟨kx, mu, rg, el, fs⟩, fA, fn, fc⟩ := ty
 have hv : kx = v := hv
 subst hv
 have hfd := fieldKind kx rg el mu fA fn fc
 go_enter Tryz.func95, Tryz.ntmps95
 go_wp2_with fail
 refine HC.out.mono ?_
 rintro e w1 ⟨rfl, hb1⟩
 have HW1 := hide (show Below (w.alloc (.cells (cOp ⟨k, ⟨l, pA, pn, pc, ps⟩, n⟩).toArray 38)).heap.size (w.alloc (.cells (cOp ⟨k, ⟨l, pA, pn, pc, ps⟩, n⟩).toArray 38)) w1 from hb1)
 clear hb1
 go_wp2_with fail
 refine (HT.out w1 HW1.out).mono ?_
 rintro e2 w2 ⟨he2, hb2⟩
 obtain rfl : e2 = .returned (.agg #[.int .i64 kx, .bool mu, .int .i64 rg, .int .i64 el, .slice fA fn fc]) := he2
 have HW2 := hide (HW1.out.trans (hb2.mono HW1.out.size))
 clear hb2
 go_wp2
 go_ret
 exact ⟨rfl, HB.out.trans (HW2.out.mono HB.out.size)⟩
section
variable {P : Program} {md : Region.Mode} {ops : Array Oper} {Q : Exit → Act → World → Prop} {S : World → Prop}
theorem takeY {i : Nat} {oi : Oper} {d : Option Tmp} {v : Value} {fuel : Nat} {listed : Array Bool} {a : Act} {w : World} (hi : ops[i]? = some oi) (hd : oi.dst = d)
  (hs : Region.noSelect ops = true) (hf : Region.free md ops listed i = true) (hr : (Region.ready md ops listed).contains i = true)
  (hQ : ∀ c a w, Q (.panic c) (a.put d v) w → Q (.panic c) a w) (hw : Region.wanted oi (yielded ops a.tmps) = true) (hy : ∀ w, S w → (execOp a.eval oi).run P w = .ok (.value v) w) (hS : S w)
  (h : wpAnyH P md ops Q S fuel (listed.setIfInBounds i true) (a.put d v) w) : wpAnyH P md ops Q S (fuel + 1) listed a w := by
 subst hd
 exact wpAnyH_take hi hs hf hr hQ (Or.inl ⟨hw, hy⟩) hS h
theorem takeN {i : Nat} {oi : Oper} {d : Option Tmp} {fuel : Nat} {listed : Array Bool} {a : Act} {w : World} (hi : ops[i]? = some oi) (hd : oi.dst = d)
  (hs : Region.noSelect ops = true) (hf : Region.free md ops listed i = true) (hr : (Region.ready md ops listed).contains i = true)
  (hQ : ∀ c a w, Q (.panic c) (a.put d undef) w → Q (.panic c) a w) (hw : Region.wanted oi (yielded ops a.tmps) = false) (hS : S w)
  (h : wpAnyH P md ops Q S fuel (listed.setIfInBounds i true) (a.put d undef) w) : wpAnyH P md ops Q S (fuel + 1) listed a w := by
 subst hd
 exact wpAnyH_take hi hs hf hr hQ (Or.inr ⟨hw, rfl⟩) hS h
end
def Plan (_is : List (Nat × Option Tmp × Bool)) (P : Program) (md : Region.Mode) (ops : Array Oper) (Q : Exit → Act → World → Prop) (S : World → Prop) (fuel : Nat) (listed : Array Bool) (a : Act) (w : World) : Prop := wpAnyH P md ops Q S fuel listed a w
section
variable {P : Program} {md : Region.Mode} {ops : Array Oper} {Q : Exit → Act → World → Prop} {S : World → Prop}
theorem plan (is : List (Nat × Option Tmp × Bool)) {fuel : Nat} {listed : Array Bool} {a : Act} {w : World} (h : Plan is P md ops Q S fuel listed a w) : wpAnyH P md ops Q S fuel listed a w := h
theorem plan0 {fuel : Nat} {listed : Array Bool} {a : Act} {w : World} (h : wpAnyH P md ops Q S fuel listed a w) : Plan [] P md ops Q S fuel listed a w := h
theorem planY {i : Nat} {d : Option Tmp} {is : List (Nat × Option Tmp × Bool)} {oi : Oper} {v : Value} {fuel : Nat} {listed : Array Bool} {a : Act} {w : World} (hS : S w) (hi : ops[i]? = some oi) (hd : oi.dst = d)
  (hs : Region.noSelect ops = true) (hf : Region.free md ops listed i = true) (hr : (Region.ready md ops listed).contains i = true)
  (hQ : ∀ c a w, Q (.panic c) (a.put d v) w → Q (.panic c) a w) (hw : Region.wanted oi (yielded ops a.tmps) = true)
  (hy : ∀ w, S w → (execOp a.eval oi).run P w = .ok (.value v) w) (h : Plan is P md ops Q S fuel (listed.setIfInBounds i true) (a.put d v) w) : Plan ((i, d, true) :: is) P md ops Q S (fuel + 1) listed a w := takeY hi hd hs hf hr hQ hw hy hS h
theorem planN {i : Nat} {d : Option Tmp} {is : List (Nat × Option Tmp × Bool)} {oi : Oper} {fuel : Nat} {listed : Array Bool} {a : Act} {w : World} (hS : S w) (hi : ops[i]? = some oi) (hd : oi.dst = d)
  (hs : Region.noSelect ops = true) (hf : Region.free md ops listed i = true) (hr : (Region.ready md ops listed).contains i = true)
  (hQ : ∀ c a w, Q (.panic c) (a.put d undef) w → Q (.panic c) a w) (hw : Region.wanted oi (yielded ops a.tmps) = false)
  (h : Plan is P md ops Q S fuel (listed.setIfInBounds i true) (a.put d undef) w) : Plan ((i, d, false) :: is) P md ops Q S (fuel + 1) listed a w := takeN hi hd hs hf hr hQ hw hS h
end
end Go.Proofs.YtfgacmgjpikgaaaGreatDoor
