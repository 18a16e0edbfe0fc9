/- Part 16 of the contracts and their mathematics. -/
import Derived.Test.YtfgacmgjpikgaaaGreatDoorQ14
set_option linter.unusedVariables false
set_option linter.unusedSimpArgs false
namespace Go.Proofs.YtfgacmgjpikgaaaGreatDoor
open Go.RowKit
theorem pjErr_zero {p : Pr} (h : pjErr p = 0) : (p.1 = 0 ∧ p.2 = 0) ∨ (p.1 = 1 ∧ 0 ≤ p.2) := by
 unfold pjErr at h
 split at h
 ·
  cases h
 ·
  split at h
  ·
   cases h
  ·
   split at h
   ·
    cases h
   ·
    omega
theorem plErr_take {l : Int} {ps : List Pr} (h : plErr l ps = 0) (k : Nat) : plErr l (ps.take k) = 0 := by
 obtain ⟨h1, h2, h3⟩ := plErr_zero.1 h
 exact plErr_zero.2 ⟨h1, by rw [List.length_take]; omega, fun p hp => h3 p (List.mem_of_mem_take hp)⟩
set_option maxHeartbeats 1000000 in
theorem RHasDeref_any (x : PlW) (f : Int) (w : World) (hx : OnePl w w.heap.size x) :
  Calls Tryz.prog 36 #[aggPl x, .int .i64 f] w fun e w' => e = .returned (.bool (hasD x.ps f)) ∧ Below w.heap.size w w' := by
 obtain ⟨l, A, n, c, ps⟩ := x
 have hn := Nat.le_trans hx.nc hx.cm
 simp only [] at hn
 have HX := hide hx.prs
 have HL := hide hx.prs.len
 have HA := hide ((Below.refl w.heap.size w).alloc (Nat.le_refl _) (.cells #[.int .i64 l, .slice A n c] 36))
 clear hx
 unfold maxLen at hn
 have c1 : (w.alloc (.cells #[.int .i64 l, .slice A n c] 36)).cell? ⟨w.heap.size, 1, none⟩ = some (.slice A n c) := by simp [go_sem]
 have HC1 := hide c1
 clear c1
 go_enter Tryz.func36, Tryz.ntmps36
 go_wp2
 go_loop [5] (fun i => ∃ j : Nat, i = .int .i64 (j : Int) ∧ j ≤ n ∧ Hid (noDTo ps f j)) (fun i => n - (intOf i).toNat)
 case atStart => exact ⟨0, rfl, Nat.zero_le _, fun i p h => absurd h (Nat.not_lt_zero _)⟩
 case round =>
  obtain ⟨j, rfl, hj, HE⟩ := hrel
  by_cases hlt : j < n
  ·
   have hlt' : (j : Int) < (n : Int) := by omega
   obtain ⟨p, hp⟩ : ∃ p, ps[j]? = some p := ⟨_, List.getElem?_eq_getElem (by have : ps.length = n := HL.out; omega)⟩
   obtain ⟨b, o, rfl, _, hi, c0, c1⟩ := (HX.out.below HA.out).at_ hp
   obtain ⟨k, fl⟩ := p
   simp only [] at c0 c1
   have HP := hide hp
   clear hp hi
   by_cases hf : f ≤ (j : Int)
   ·
    by_cases h0 : k = 0
    ·
     subst h0
     have HF := hide (hasD_yes HP.out hf rfl)
     go_wp2
     go_ret
     exact ⟨congrArg (fun v => Ending.returned (.bool v)) HF.out.symm, HA.out⟩
    ·
     have t0 : (k == 0) = false := by simpa using h0
     have HN := hide (noDTo_up HE.out HP.out fun _ => h0)
     clear h0
     go_wp2
     go_round
     case rel => exact ⟨j + 1, by go_num, by omega, HN.out⟩
     case measure => simp [intOf]; omega
   ·
    have hf' : (j : Int) < f := by omega
    have HN := hide (noDTo_up HE.out HP.out fun h => absurd h hf)
    clear hf
    go_wp2
    go_round
    case rel => exact ⟨j + 1, by go_num, by omega, HN.out⟩
    case measure => simp [intOf]; omega
  ·
   obtain rfl : j = n := by omega
   have HF := hide (hasD_no (show noDTo ps f ps.length from (show ps.length = j from HL.out) ▸ HE.out))
   go_wp2
   go_ret
   exact ⟨congrArg (fun v => Ending.returned (.bool v)) HF.out.symm, HA.out⟩
theorem RHasDeref_is {x : PlW} {f : Int} {v : Bool} (h : hasD x.ps f = v) (w : World) (hx : OnePl w w.heap.size x) :
  Calls Tryz.prog 36 #[aggPl x, .int .i64 f] w fun e w' => e = .returned (.bool v) ∧ Below w.heap.size w w' := h ▸ RHasDeref_any x f w hx
set_option maxHeartbeats 2000000 in
theorem RCheckP_any (x : PlW) (w : World) (hx : OnePl w w.heap.size x) :
  Calls Tryz.prog 82 #[aggPl x] w fun e w' => e = .returned (.int .i64 (plErr x.l x.ps)) ∧ Below w.heap.size w w' := by
 obtain ⟨l, A, n, c, ps⟩ := x
 have hcm := hx.cm
 have hnc := hx.nc
 simp only [] at hcm hnc
 have HX := hide hx.prs
 have HL := hide hx.prs.len
 have HA := hide ((Below.refl w.heap.size w).alloc (Nat.le_refl _) (.cells #[.int .i64 l, .slice A n c] 36))
 clear hx
 unfold maxLen at hcm
 by_cases hl : l < 0
 ·
  have HF := hide (show plErr l ps = 3 from if_pos hl)
  go_enter Tryz.func82, Tryz.ntmps82
  go_wp2
  go_ret
  exact ⟨congrArg (fun v => Ending.returned (.int .i64 v)) HF.out.symm, HA.out⟩
 by_cases hn : 32 < n
 ·
  have HF := hide (show plErr l ps = 19 from by unfold plErr; rw [if_neg hl, if_pos (by have : ps.length = n := HL.out; omega)])
  have hn' : (32 : Int) < (n : Int) := by omega
  go_enter Tryz.func82, Tryz.ntmps82
  go_wp2
  go_ret
  exact ⟨congrArg (fun v => Ending.returned (.int .i64 v)) HF.out.symm, HA.out⟩
 have HF := hide (show plErr l ps = pjsErr (ps.drop 0) from by unfold plErr; rw [if_neg hl, if_neg (by have : ps.length = n := HL.out; omega)]; rfl)
 have hn' : (n : Int) ≤ 32 := by omega
 have hl' : 0 ≤ l := by omega
 clear hl hn
 have HC := hide fun (w' : World) (h : Below (w.alloc (.cells #[.int .i64 l, .slice A n c] 36)).heap.size (w.alloc (.cells #[.int .i64 l, .slice A n c] 36)) w') => ((h.cell (p := ⟨w.heap.size, 1, none⟩) (by simp)).trans (by simp [go_sem]) : w'.cell? ⟨w.heap.size, 1, none⟩ = some (.slice A n c))
 go_enter Tryz.func82, Tryz.ntmps82
 go_wp2
 go_loopw [3] (fun i wr => ∃ j : Nat, i = .int .i64 (j : Int) ∧ j ≤ n ∧ Hid (pjsErr (ps.drop j) = pjsErr (ps.drop 0)) ∧ Below (w.alloc (.cells #[.int .i64 l, .slice A n c] 36)).heap.size (w.alloc (.cells #[.int .i64 l, .slice A n c] 36)) wr) (fun i _ => n - (intOf i).toNat)
 case atStart => exact ⟨0, rfl, Nat.zero_le _, rfl, Below.refl _ _⟩
 case round =>
  obtain ⟨j, rfl, hj, HE, hb⟩ := hrel
  have HB := hide (HA.out.trans (hb.mono (by simp)))
  have HB0 := hide hb
  have cz := HC.out _ hb
  clear hb
  by_cases hlt : j < n
  ·
   have hlt' : (j : Int) < (n : Int) := by omega
   obtain ⟨p, hp⟩ : ∃ p, ps[j]? = some p := ⟨_, List.getElem?_eq_getElem (by have : ps.length = n := HL.out; omega)⟩
   obtain ⟨b, o, rfl, _, hi, c0, c1⟩ := (HX.out.below HB.out).at_ hp
   have HS := hide (pjsErr_at hp)
   obtain ⟨k, f⟩ := p
   simp only [] at c0 c1
   have HB2 := hide (HB.out.alloc HB.out.size (.cells #[.int .i64 k, .int .i64 f] 102))
   have HB3 := hide (HB0.out.alloc HB0.out.size (.cells #[.int .i64 k, .int .i64 f] 102))
   clear hp hi
   have good : ∀ v, pjErr (k, f) = v → v ≠ 0 → Hid (plErr l ps = v) := fun v hv hv0 => (show _ = _ by rw [HF.out, ← HE.out, HS.out, hv, if_neg hv0])
   have next : pjErr (k, f) = 0 → Hid (pjsErr (ps.drop (j + 1)) = pjsErr (ps.drop 0)) := fun hv => (show _ = _ by rw [← HE.out, HS.out, if_pos hv])
   by_cases h0 : k = 0
   ·
    subst h0
    by_cases hf : f = 0
    ·
     subst hf
     have HN := next (by decide)
     clear good next
     go_wp2
     go_roundw
     case rel => exact ⟨j + 1, by go_num, by omega, HN.out, HB3.out⟩
     case measure => simp [intOf]; omega
    ·
     have t1 : (f != 0) = true := by rw [bne_iff_ne]; exact hf
     have HN := good 2 (by unfold pjErr; rw [if_neg (by omega), if_pos ⟨rfl, hf⟩]) (by decide)
     clear good next hf
     go_wp2
     go_ret
     exact ⟨congrArg (fun v => Ending.returned (.int .i64 v)) HN.out.symm, HB2.out⟩
   ·
    have t0 : (k != 0) = true := by rw [bne_iff_ne]; exact h0
    have t00 : (k == 0) = false := by simpa using h0
    by_cases h1 : k = 1
    ·
     subst h1
     clear h0 t0 t00
     by_cases hf : f < 0
     ·
      have HN := good 3 (by unfold pjErr; rw [if_neg (by omega), if_neg (by omega), if_pos hf]) (by decide)
      clear good next
      go_wp2
      go_ret
      exact ⟨congrArg (fun v => Ending.returned (.int .i64 v)) HN.out.symm, HB2.out⟩
     ·
      have HN := next (by unfold pjErr; rw [if_neg (by omega), if_neg (by omega), if_neg hf])
      clear good next
      have hf' : 0 ≤ f := by omega
      go_wp2
      go_roundw
      case rel => exact ⟨j + 1, by go_num, by omega, HN.out, HB3.out⟩
      case measure => simp [intOf]; omega
    ·
     have t1 : (k != 1) = true := by rw [bne_iff_ne]; exact h1
     have HN := good 14 (by unfold pjErr; rw [if_pos ⟨h0, h1⟩]) (by decide)
     clear good next h0 h1
     go_wp2
     go_ret
     exact ⟨congrArg (fun v => Ending.returned (.int .i64 v)) HN.out.symm, HB2.out⟩
  ·
   obtain rfl : j = n := by omega
   have HN := hide (show plErr l ps = 0 from by rw [HF.out, ← HE.out, List.drop_of_length_le (by have : ps.length = j := HL.out; omega)]; rfl)
   go_wp2
   go_ret
   exact ⟨congrArg (fun v => Ending.returned (.int .i64 v)) HN.out.symm, HB.out⟩
theorem RCheckP_is {x : PlW} {v : Int} (h : plErr x.l x.ps = v) (w : World) (hx : OnePl w w.heap.size x) :
  Calls Tryz.prog 82 #[aggPl x] w fun e w' => e = .returned (.int .i64 v) ∧ Below w.heap.size w w' := h ▸ RCheckP_any x w hx
theorem goL_one {T : List Ty} {t : Int} {ps : List Pr} {m : Nat} {p : Pr} (hl : ps.length = m + 1) (hp : ps[m]? = some p) : goL T t ps = if erA T t ps m = 0 then stepT (tyGet T (tyA T t ps m)) p else (0, erA T t ps m) := by
 rw [← goA_up hp, ← hl, List.take_length]
theorem wrapI8 (n : Int) (h0 : -9223372036854775808 ≤ n) (h1 : n ≤ 9223372036854775807) : IntKind.i64.wrap n = n := by
 simp [IntKind.wrap, IntKind.bits, IntKind.signed]
 omega
def TyE (L : List TyW) (LL : List LcW) (x : PlW) (w : World) (e : Ending) (w' : World) : Prop := e = .returned (.tuple #[.int .i64 (tyOfP (tys L) (lcs LL) x.l x.ps).1, .int .i64 (tyOfP (tys L) (lcs LL) x.l x.ps).2]) ∧ Below w.heap.size w w'
theorem tyE_mk {L : List TyW} {LL : List LcW} {x : PlW} {w : World} {e : Ending} {w' : World} {u v : Int} (h : tyOfP (tys L) (lcs LL) x.l x.ps = (u, v)) (he : e = .returned (.tuple #[.int .i64 u, .int .i64 v])) (hb : Below w.heap.size w w') : TyE L LL x w e w' := ⟨by rw [he, h], hb⟩
set_option maxHeartbeats 1000000 in
theorem RTypeOf_err {At Al : Option Addr} {nt ct nl cl : Nat} {L : List TyW} {LL : List LcW} {r : Int} {x : PlW} {w : World} (h : Pl8 w At Al nt nl L LL x r) {v : Int} (hv : plErr x.l x.ps = v) (hv0 : v ≠ 0) :
  Calls Tryz.prog 57 #[.slice At nt ct, .slice Al nl cl, aggPl x] w (TyE L LL x w) := by
 have hB0 := (Below.refl w.heap.size w).alloc (Nat.le_refl _) (.cells #[.int .i64 x.l, .slice x.A x.n x.c] 36)
 have HB0 := hide hB0
 have HC := hide (RCheckP_is hv _ (h.one.up hB0))
 have tv : (v != 0) = true := by rw [bne_iff_ne]; exact hv0
 have HF := hide (tyOfP_err (T := tys L) (lc := lcs LL) hv hv0)
 obtain ⟨l, A, n, c, ps⟩ := x
 clear h hB0 hv hv0
 go_enter Tryz.func57, Tryz.ntmps57
 go_wp2_with fail
 refine HC.out.mono ?_
 rintro e w1 ⟨rfl, hb1⟩
 have HB1 := hide (HB0.out.trans (hb1.mono HB0.out.size))
 clear hb1
 go_wp2
 go_ret2
 exact tyE_mk HF.out rfl HB1.out
set_option maxHeartbeats 1000000 in
theorem RTypeOf_out {At Al : Option Addr} {nt ct nl cl : Nat} {L : List TyW} {LL : List LcW} {r : Int} {x : PlW} {w : World} (h : Pl8 w At Al nt nl L LL x r) (hv : plErr x.l x.ps = 0) (hl : (nl : Int) ≤ x.l) :
  Calls Tryz.prog 57 #[.slice At nt ct, .slice Al nl cl, aggPl x] w (TyE L LL x w) := by
 have hB0 := (Below.refl w.heap.size w).alloc (Nat.le_refl _) (.cells #[.int .i64 x.l, .slice x.A x.n x.c] 36)
 have HB0 := hide hB0
 have HC := hide (RCheckP_is hv _ (h.one.up hB0))
 have HBX := hide (heap_alloc_new w (.cells #[.int .i64 x.l, .slice x.A x.n x.c] 36))
 have HF := hide (tyOfP_out (T := tys L) (lc := lcs LL) hv (by rw [lcs_len, h.locs.len]; omega))
 obtain ⟨l, A, n, c, ps⟩ := x
 simp only [] at hl
 clear h hB0 hv
 go_enter Tryz.func57, Tryz.ntmps57
 go_wp2_with fail
 refine HC.out.mono ?_
 rintro e w1 ⟨rfl, hb1⟩
 have HB1 := hide (HB0.out.trans (hb1.mono HB0.out.size))
 have hbX := (hb1.block w.heap.size (by simp)).trans HBX.out
 have z0 := cell_of_heap hbX 0
 clear hb1 hbX
 go_wp2
 go_ret2
 exact tyE_mk HF.out rfl HB1.out
set_option maxHeartbeats 1000000 in
theorem RTypeOf_zero {At Al : Option Addr} {nt ct nl cl : Nat} {L : List TyW} {LL : List LcW} {r : Int} {x : PlW} {w : World} (h : Pl8 w At Al nt nl L LL x r) (hq : x.n = 0) (hv : plErr x.l x.ps = 0) {k : Nat} {lc : LcW} (hk : x.l = (k : Int)) (hlc : LL[k]? = some lc) :
  Calls Tryz.prog 57 #[.slice At nt ct, .slice Al nl cl, aggPl x] w (TyE L LL x w) := by
 have hB0 := (Below.refl w.heap.size w).alloc (Nat.le_refl _) (.cells #[.int .i64 x.l, .slice x.A x.n x.c] 36)
 have HB0 := hide hB0
 have HC := hide (RCheckP_is hv _ (h.one.up hB0))
 have HBX := hide (heap_alloc_new w (.cells #[.int .i64 x.l, .slice x.A x.n x.c] 36))
 have hnl := h.locs.len
 have hkl := (List.getElem?_eq_some_iff.1 hlc).1
 have hkl' : (k : Int) < (nl : Int) := by omega
 have hps : x.ps = [] := List.eq_nil_of_length_eq_zero (by have := h.one.prs.len; omega)
 have HF := hide (show tyOfP (tys L) (lcs LL) x.l x.ps = (lc.ty, 0) from by rw [tyOfP_in hv hk (lcs_at hlc), hps]; rfl)
 obtain ⟨b, o, rfl, hbb, c0, c1⟩ := h.locs.at_ hlc
 have HCC := hide fun (w' : World) (hb : Below w.heap.size w w') => (hb.cell (p := ⟨b, o + k * 2 + 1, none⟩) hbb).trans c1
 obtain ⟨l, A, n, c, ps⟩ := x
 simp only [] at hq hk
 subst hq hk
 obtain ⟨nm, ty⟩ := lc
 simp only [] at HF HCC
 clear h hB0 hlc hv hps c0 c1 hkl
 go_enter Tryz.func57, Tryz.ntmps57
 go_wp2_with fail
 refine HC.out.mono ?_
 rintro e w1 ⟨rfl, hb1⟩
 have HB1 := hide (HB0.out.trans (hb1.mono HB0.out.size))
 have hbX := (hb1.block w.heap.size (by simp)).trans HBX.out
 have z0 := cell_of_heap hbX 0
 have z1 := cell_of_heap hbX 1
 have c1 := HCC.out _ HB1.out
 clear hb1 hbX
 go_wp2
 go_ret2
 exact tyE_mk HF.out rfl HB1.out
set_option maxHeartbeats 4000000 in
set_option maxRecDepth 100000 in
theorem RTypeOf_step {At Al : Option Addr} {nt ct nl cl : Nat} {L : List TyW} {LL : List LcW} {r : Int} {x : PlW} {w : World} (h : Pl8 w At Al nt nl L LL x r) {m : Nat} (hq : x.n = m + 1) (hv : plErr x.l x.ps = 0) {k : Nat} {lc : LcW} (hk : x.l = (k : Int)) (hlc : LL[k]? = some lc)
  (ih : ∀ w', Below w.heap.size w w' → Calls Tryz.prog 57 #[.slice At nt ct, .slice Al nl cl, .agg #[.int .i64 x.l, .slice x.A m x.c]] w' fun e w'' => e = .returned (.tuple #[.int .i64 (tyA (tys L) lc.ty x.ps m), .int .i64 (erA (tys L) lc.ty x.ps m)]) ∧ Below w'.heap.size w' w'') :
  Calls Tryz.prog 57 #[.slice At nt ct, .slice Al nl cl, aggPl x] w (TyE L LL x w) := by
 obtain ⟨l, A, n, c, ps⟩ := x
 simp only [] at hq hv hk ih
 subst hq
 have hpl : ps.length = m + 1 := h.one.prs.len
 obtain ⟨p, hp⟩ : ∃ p, ps[m]? = some p := ⟨_, List.getElem?_eq_getElem (by omega)⟩
 obtain ⟨b2, o2, hA, hbb2, hint, d0, d1⟩ := h.one.prs.at_ hp
 simp only [] at hA
 subst hA
 have hB0 := (Below.refl w.heap.size w).alloc (Nat.le_refl _) (.cells #[.int .i64 l, .slice (some ⟨b2, o2, none⟩) (m + 1) c] 36)
 have HB0 := hide hB0
 have HC := hide (RCheckP_is (x := ⟨l, some ⟨b2, o2, none⟩, m + 1, c, ps⟩) hv _ (h.one.up hB0))
 have HBX := hide (heap_alloc_new w (.cells #[.int .i64 l, .slice (some ⟨b2, o2, none⟩) (m + 1) c] 36))
 have hnl := h.locs.len
 have hkl := (List.getElem?_eq_some_iff.1 hlc).1
 have hkl' : l < (nl : Int) := by omega
 have hW := h.way hk hlc
 have hg := goL_one (T := tys L) (t := lc.ty) hpl hp
 have hgx : tyOfP (tys L) (lcs LL) l ps = goL (tys L) lc.ty ps := tyOfP_in hv hk (lcs_at hlc)
 have H := hide fun w' (hb : Below w.heap.size w w') => h.up hb
 have hnc : m + 1 ≤ c := h.one.nc
 have hmc : m ≤ c := by omega
 have hxn : m + 1 ≤ maxLen := Nat.le_trans h.one.nc h.one.cm
 have hn0 : (((m : Int) + 1) == 0) = false := by simp; omega
 have hwr : IntKind.i64.wrap (m : Int) = (m : Int) := wrapI8 _ (by omega) (by unfold maxLen at hxn; omega)
 have k0 : (0 : Int) ≤ (m : Int) := by omega
 have k1 : (m : Int) ≤ (m : Int) + 1 := by omega
 have k2 : (m : Int) + 1 ≤ (c : Int) := by omega
 have k3 : (m : Int) ≤ (c : Int) := by omega
 have k5 : (m : Int) < (m : Int) + 1 := by omega
 have hxs : m ≤ 40 := by have := (plErr_zero.1 hv).2.1; omega
 obtain ⟨ev, hev⟩ : ∃ ev, erA (tys L) lc.ty ps m = ev := ⟨_, rfl⟩
 obtain ⟨tv, htv⟩ : ∃ tv, tyA (tys L) lc.ty ps m = tv := ⟨_, rfl⟩
 rw [hev, htv] at ih hg
 have HIH := hide ih
 have HEV := hide hev
 have HTV := hide htv
 have HS := hide fun w' (h : Below (w.alloc (.cells #[.int .i64 l, .slice (some ⟨b2, o2, none⟩) (m + 1) c] 36)).heap.size (w.alloc (.cells #[.int .i64 l, .slice (some ⟨b2, o2, none⟩) (m + 1) c] 36)) w') => show Below (w.alloc (.cells #[.int .i64 l, .slice (some ⟨b2, o2, none⟩) (m + 1) c] 36)).heap.size (w.alloc (.cells #[.int .i64 l, .slice (some ⟨b2, o2, none⟩) (m + 1) c] 36)) w' ∧ w'.cell? ⟨w.heap.size, 0, none⟩ = some (.int .i64 l) ∧ w'.cell? ⟨w.heap.size, 1, none⟩ = some (.slice (some ⟨b2, o2, none⟩) (m + 1) c) from
  ⟨h, cell_of_heap ((h.block w.heap.size (by simp)).trans HBX.out) 0, cell_of_heap ((h.block w.heap.size (by simp)).trans HBX.out) 1⟩
 have HP := hide hp
 have HGX := hide (hgx.trans hg)
 have HWW := hide hW
 have HPL := hide hpl
 have HPL0 := hide hv
 unfold maxLen at hxn
 clear h hB0 hlc hv hp hg hgx hev hk ih hW hpl HBX hkl htv
 go_enter Tryz.func57, Tryz.ntmps57
 go_wp2_with fail
 refine HC.out.mono ?_
 rintro e w1 ⟨rfl, hb1⟩
 obtain ⟨_, z0, z1⟩ := HS.out _ hb1
 have HB1 := hide hb1
 clear hb1 HC
 go_wp2
 by_cases hev0 : ev = 0
 rotate_left
 ·
  have tev : (ev != 0) = true := by rw [bne_iff_ne]; exact hev0
  have HF := hide (show tyOfP (tys L) (lcs LL) l ps = (0, ev) from by rw [HGX.out, if_neg hev0])
  clear hev0
  go_region_held3 (fun w' => Below (w.alloc (.cells #[.int .i64 l, .slice (some ⟨b2, o2, none⟩) (m + 1) c] 36)).heap.size (w.alloc (.cells #[.int .i64 l, .slice (some ⟨b2, o2, none⟩) (m + 1) c] 36)) w' ∧ w'.cell? ⟨w.heap.size, 0, none⟩ = some (.int .i64 l) ∧ w'.cell? ⟨w.heap.size, 1, none⟩ = some (.slice (some ⟨b2, o2, none⟩) (m + 1) c))
   (first | exact HS.out _ (by assumption) | exact HS.out _ HB1.out | exact HS.out _ HB1.out.drew)
   (first
    | (go_at_call 57; go_split_ands; refine (HIH.out _ (HB0.out.trans (Below.mono (by assumption : Below (w.alloc (.cells #[.int .i64 l, .slice (some ⟨b2, o2, none⟩) (m + 1) c] 36)).heap.size (w.alloc (.cells #[.int .i64 l, .slice (some ⟨b2, o2, none⟩) (m + 1) c] 36)) _) HB0.out.size))).mono ?_; rintro e w4 ⟨rfl, hb0⟩; have hb4 := Below.trans (by assumption : Below (w.alloc (.cells #[.int .i64 l, .slice (some ⟨b2, o2, none⟩) (m + 1) c] 36)).heap.size (w.alloc (.cells #[.int .i64 l, .slice (some ⟨b2, o2, none⟩) (m + 1) c] 36)) _) (hb0.mono (Below.size (by assumption : Below (w.alloc (.cells #[.int .i64 l, .slice (some ⟨b2, o2, none⟩) (m + 1) c] 36)).heap.size (w.alloc (.cells #[.int .i64 l, .slice (some ⟨b2, o2, none⟩) (m + 1) c] 36)) _)))))
  all_goals
   go_split_ands
   have hb4' := (by assumption : Below (w.alloc (.cells #[.int .i64 l, .slice (some ⟨b2, o2, none⟩) (m + 1) c] 36)).heap.size (w.alloc (.cells #[.int .i64 l, .slice (some ⟨b2, o2, none⟩) (m + 1) c] 36)) w4)
   go_wp2
   go_ret2
   exact tyE_mk HF.out rfl (HB0.out.trans (hb4'.mono HB0.out.size))
 subst hev0
 obtain ⟨i, u, hti, hu⟩ := Stp.lt HWW.out.ok HWW.out.t0 (by rw [tys_len]; exact HWW.out.t1) (show Stp (tys L) lc.ty ps m from ⟨by have := HPL.out; omega, HEV.out⟩)
 rw [HTV.out] at hti
 subst hti
 obtain ⟨y, hy, hyt⟩ := tys_back hu
 rw [if_pos rfl, tyGet_at hu, ← hyt] at HGX
 have HY := hide hy
 have HCASE := hide (stepT_cases y.t p)
 have hin : i < nt := by have := (List.getElem?_eq_some_iff.1 hy).1; have := (H.out w (Below.refl _ _)).typs.len; omega
 have hin' : (i : Int) < (nt : Int) := by omega
 have hnt := (H.out w (Below.refl _ _)).nt
 have HTP := hide (((H.out w (Below.refl _ _)).typs.at_ hy))
 unfold maxLen at hnt
 clear hu hyt hy
 obtain ⟨b, o, rfl, hbb, hone, c0, c1, c2, c3, c4⟩ := HTP.out
 obtain ⟨pk, pf⟩ := p
 have HONE := hide hone
 obtain ⟨⟨kd, mu, rr, el, fs⟩, Af, nf, cf⟩ := y
 simp only [] at c0 c1 c2 c3 c4 d0 d1
 have HR := hide fun (w' : World) (hb : Below w.heap.size w w') => show w'.cell? ⟨b, o + i * 5, none⟩ = some (.int .i64 kd) ∧ w'.cell? ⟨b, o + i * 5 + 1, none⟩ = some (.bool mu) ∧ w'.cell? ⟨b, o + i * 5 + 2, none⟩ = some (.int .i64 rr) ∧ w'.cell? ⟨b, o + i * 5 + 3, none⟩ = some (.int .i64 el) ∧ w'.cell? ⟨b, o + i * 5 + 4, none⟩ = some (.slice Af nf cf) ∧ w'.cell? ⟨b2, o2 + m * 2, none⟩ = some (.int .i64 pk) ∧ w'.cell? ⟨b2, o2 + m * 2 + 1, none⟩ = some (.int .i64 pf) from
  ⟨(hb.cell (p := ⟨b, o + i * 5, none⟩) hbb).trans c0, (hb.cell (p := ⟨b, o + i * 5 + 1, none⟩) hbb).trans c1, (hb.cell (p := ⟨b, o + i * 5 + 2, none⟩) hbb).trans c2, (hb.cell (p := ⟨b, o + i * 5 + 3, none⟩) hbb).trans c3, (hb.cell (p := ⟨b, o + i * 5 + 4, none⟩) hbb).trans c4, (hb.cell (p := ⟨b2, o2 + m * 2, none⟩) hbb2).trans d0, (hb.cell (p := ⟨b2, o2 + m * 2 + 1, none⟩) hbb2).trans d1⟩
 have hok := hone.ok
 have hlen : fs.length = nf := hok.len
 have hnf : nf ≤ cf := hok.nc
 have hcf : cf ≤ maxLen := hok.cm
 unfold maxLen at hcf
 clear hone hok c0 c1 c2 c3 c4 d0 d1 hint
 go_region_held3 (fun w' => Below (w.alloc (.cells #[.int .i64 l, .slice (some ⟨b2, o2, none⟩) (m + 1) c] 36)).heap.size (w.alloc (.cells #[.int .i64 l, .slice (some ⟨b2, o2, none⟩) (m + 1) c] 36)) w' ∧ w'.cell? ⟨w.heap.size, 0, none⟩ = some (.int .i64 l) ∧ w'.cell? ⟨w.heap.size, 1, none⟩ = some (.slice (some ⟨b2, o2, none⟩) (m + 1) c))
  (first | exact HS.out _ (by assumption) | exact HS.out _ HB1.out | exact HS.out _ HB1.out.drew)
  (first
   | (go_at_call 57; go_split_ands; refine (HIH.out _ (HB0.out.trans (Below.mono (by assumption : Below (w.alloc (.cells #[.int .i64 l, .slice (some ⟨b2, o2, none⟩) (m + 1) c] 36)).heap.size (w.alloc (.cells #[.int .i64 l, .slice (some ⟨b2, o2, none⟩) (m + 1) c] 36)) _) HB0.out.size))).mono ?_; rintro e w4 ⟨rfl, hb0⟩; have hb4 := Below.trans (by assumption : Below (w.alloc (.cells #[.int .i64 l, .slice (some ⟨b2, o2, none⟩) (m + 1) c] 36)).heap.size (w.alloc (.cells #[.int .i64 l, .slice (some ⟨b2, o2, none⟩) (m + 1) c] 36)) _) (hb0.mono (Below.size (by assumption : Below (w.alloc (.cells #[.int .i64 l, .slice (some ⟨b2, o2, none⟩) (m + 1) c] 36)).heap.size (w.alloc (.cells #[.int .i64 l, .slice (some ⟨b2, o2, none⟩) (m + 1) c] 36)) _)))))
 all_goals
  go_split_ands
  have hb4' := (by assumption : Below (w.alloc (.cells #[.int .i64 l, .slice (some ⟨b2, o2, none⟩) (m + 1) c] 36)).heap.size (w.alloc (.cells #[.int .i64 l, .slice (some ⟨b2, o2, none⟩) (m + 1) c] 36)) w4)
  have HB4 := hide hb4'
  have hbw := HB0.out.trans (hb4'.mono HB0.out.size)
  have HBW := hide hbw
  have ha1 := hbw.alloc hbw.size (.cells #[.int .i64 kd, .bool mu, .int .i64 rr, .int .i64 el, .slice Af nf cf] 62)
  have HB5 := hide (ha1.alloc ha1.size (.cells #[.int .i64 pk, .int .i64 pf] 102))
  obtain ⟨r0, r1, r2, r3, r4, r5, r6⟩ := HR.out _ hbw
  obtain ⟨_, _, _, _, _, s5, s6⟩ := HR.out _ ha1
  have z2 := (HS.out _ (hb4'.alloc hb4'.size (.cells #[.int .i64 kd, .bool mu, .int .i64 rr, .int .i64 el, .slice Af nf cf] 62))).2.2
  clear hb4' hbw ha1
  rcases HCASE.out with ⟨h1, h2, h3⟩ | ⟨h1, h2, q, v, hq, hv, h3⟩ | ⟨h1, h2, h4, h3⟩ | ⟨h1, h2, h3⟩
  ·
   subst h1 h2
   have HF := hide (HGX.out.trans h3)
   clear h3
   go_wp2
   go_ret2
   exact tyE_mk HF.out rfl HB5.out
  ·
   subst h1 h2 hq
   have hql := (List.getElem?_eq_some_iff.1 hv).1
   have hql' : (q : Int) < (nf : Int) := by omega
   have HF := hide (HGX.out.trans h3)
   obtain ⟨b3, o3, hAf, _, f0⟩ := (HONE.out.below HB5.out).rd.int hv
   simp only [] at hAf
   subst hAf
   clear h3 hv
   go_wp2
   go_ret2
   exact tyE_mk HF.out rfl HB5.out
  ·
   subst h1 h2
   have HF := hide (HGX.out.trans h3)
   have hpe := pjErr_zero ((plErr_zero.1 HPL0.out).2.2 _ (List.mem_of_getElem? HP.out))
   simp only [] at hpe
   have hge : (nf : Int) ≤ pf := by omega
   clear h3 h4 hpe
   go_wp2
   go_ret2
   exact tyE_mk HF.out rfl HB5.out
  ·
   have HF := hide (HGX.out.trans h3)
   clear h3
   by_cases p0 : pk = 0
   ·
    subst p0
    have k3' : ¬ kd = 3 := fun h => h1 ⟨rfl, h⟩
    have t1 : (kd == 3) = false := by simpa using k3'
    clear h1 h2 k3'
    go_wp2
    go_ret2
    exact tyE_mk HF.out rfl HB5.out
   ·
    have t0 : (pk == 0) = false := by simpa using p0
    by_cases p1 : pk = 1
    ·
     subst p1
     have k4' : ¬ kd = 4 := fun h => h2 ⟨rfl, h⟩
     have t1 : (kd == 4) = false := by simpa using k4'
     clear h1 h2 k4' t0 p0
     go_wp2
     go_ret2
     exact tyE_mk HF.out rfl HB5.out
    ·
     have t2 : (pk == 1) = false := by simpa using p1
     clear h1 h2 p0 p1
     go_wp2
     go_ret2
     exact tyE_mk HF.out rfl HB5.out
theorem RTypeOf_any {At Al : Option Addr} {nt ct nl cl : Nat} {L : List TyW} {LL : List LcW} {r : Int} : ∀ (q : Nat) (x : PlW) (w : World), x.n = q → Pl8 w At Al nt nl L LL x r →
  Calls Tryz.prog 57 #[.slice At nt ct, .slice Al nl cl, aggPl x] w (TyE L LL x w)
 | q, x, w, hq, h => by
  by_cases hv : plErr x.l x.ps = 0
  ·
   have h0 := (plErr_zero.1 hv).1
   by_cases hl : x.l < (nl : Int)
   ·
    have hnl := h.locs.len
    obtain ⟨lc, hlc⟩ : ∃ lc, LL[x.l.toNat]? = some lc := ⟨_, List.getElem?_eq_getElem (by omega)⟩
    have hk : x.l = ((x.l.toNat : Nat) : Int) := by omega
    match q, hq with
    | 0, hq => exact RTypeOf_zero h hq hv hk hlc
    | m + 1, hq =>
     refine RTypeOf_step (x := x) h hq hv hk hlc fun w' hb => ?_
     have h2 := RTypeOf_any (ct := ct) (cl := cl) m (x.take m) w' rfl ((h.up hb).take (by omega))
     have e : tyOfP (tys L) (lcs LL) (x.take m).l (x.take m).ps = (tyA (tys L) lc.ty x.ps m, erA (tys L) lc.ty x.ps m) := tyOfP_in (plErr_take hv m) hk (lcs_at hlc)
     unfold TyE at h2
     rw [e] at h2
     exact h2
   ·
    exact RTypeOf_out h hv (by omega)
  ·
   exact RTypeOf_err h rfl hv
theorem RTypeOf_is {At Al : Option Addr} {nt ct nl cl : Nat} {L : List TyW} {LL : List LcW} {x : PlW} {r u v : Int} {w : World} (h : Pl8 w At Al nt nl L LL x r) (hv : tyOfP (tys L) (lcs LL) x.l x.ps = (u, v)) :
  Calls Tryz.prog 57 #[.slice At nt ct, .slice Al nl cl, aggPl x] w fun e w' => e = .returned (.tuple #[.int .i64 u, .int .i64 v]) ∧ Below w.heap.size w w' := by
 have := RTypeOf_any (ct := ct) (cl := cl) x.n x w rfl h
 unfold TyE at this
 rw [hv] at this
 exact this
abbrev bp1 (w : World) (x : BdW) (p : PlW) : World := two w (cBd x) 28 [.int .i64 p.l, .slice p.A p.n p.c] 36
set_option maxHeartbeats 1000000 in
set_option maxRecDepth 100000 in
theorem Rnone_any (x : PlW) (w : World) (hx : OnePl w w.heap.size x) :
  Calls Tryz.prog 33 #[aggPl x] w fun e w' => e = .returned (.bool (noP x.v)) ∧ Below w.heap.size w w' := by
 obtain ⟨l, A, n, c, ps⟩ := x
 have hl : ps.length = n := hx.prs.len
 have HB := hide ((Below.refl w.heap.size w).alloc (Nat.le_refl _) (.cells #[.int .i64 l, .slice A n c] 36))
 have hv : noP (PlW.v ⟨l, A, n, c, ps⟩) = (decide (l = 0) && decide (n = 0)) := by
  unfold noP PlW.v
  simp only []
  rw [hl]
 rw [hv]
 clear hv hl hx
 by_cases h0 : l = 0
 ·
  have t0 : (l == 0) = true := by simpa using h0
  by_cases h1 : n = 0
  ·
   have t1 : ((n : Int) == 0) = true := by simp [h1]
   have e : (decide (l = 0) && decide (n = 0)) = true := by simp [h0, h1]
   rw [e]
   clear e h0 h1
   go_enter Tryz.func33, Tryz.ntmps33
   go_wp2
   go_ret
   exact ⟨rfl, HB.out⟩
  ·
   have t1 : ((n : Int) == 0) = false := by rw [beq_eq_false_iff_ne]; omega
   have e : (decide (l = 0) && decide (n = 0)) = false := by simp [h1]
   rw [e]
   clear e h0 h1
   go_enter Tryz.func33, Tryz.ntmps33
   go_wp2
   go_ret
   exact ⟨rfl, HB.out⟩
 ·
  have t0 : (l == 0) = false := by simpa using h0
  have e : (decide (l = 0) && decide (n = 0)) = false := by simp [h0]
  rw [e]
  clear e h0
  go_enter Tryz.func33, Tryz.ntmps33
  go_wp2
  go_ret
  exact ⟨rfl, HB.out⟩
theorem Rnone_is {x : PlW} {v : Bool} (h : noP x.v = v) (w : World) (hx : OnePl w w.heap.size x) :
  Calls Tryz.prog 33 #[aggPl x] w fun e w' => e = .returned (.bool v) ∧ Below w.heap.size w w' := h ▸ Rnone_any x w hx
set_option maxHeartbeats 1000000 in
set_option maxRecDepth 100000 in
theorem RtypeOf_is {x : BdW} {p : PlW} {u v : Int} {w : World} (h : VB w x) (hp : OnePl w w.heap.size p) (hv : tyV (wE x) p.v = (u, v)) :
  Calls Tryz.prog 34 #[aggBd x, aggPl p] w fun e w' => e = .returned (.tuple #[.int .i64 u, .int .i64 v]) ∧ Below w.heap.size w w' := by
 have HB := hide (two_below w (cBd x) 28 [.int .i64 p.l, .slice p.A p.n p.c] 36)
 have HC := hide (RTypeOf_is (ct := x.types.c) (cl := x.locals.c) ((h.pl8 hp).up HB.out) hv)
 obtain ⟨hcx, hco⟩ := two_cells (Below.refl (bp1 w x p).heap.size (bp1 w x p))
 have z3 := hcx 3 _ rfl
 have z4 := hcx 4 _ rfl
 have p0 := hco 0 _ rfl
 have p1 := hco 1 _ rfl
 clear h hp hv hcx hco
 obtain ⟨nm, ⟨rA, rn, rc, rL⟩, ⟨oA, on, oc, oL⟩, ⟨tA, tn, tc, tL⟩, ⟨lA, ln, lc, lL⟩, ar, ⟨bA, bn, bc, bL⟩⟩ := x
 obtain ⟨l, A, n, c, ps⟩ := p
 simp only [] at z3 z4 p0 p1
 go_enter Tryz.func34, Tryz.ntmps34
 go_wp2_with fail
 refine HC.out.mono ?_
 rintro e w1 ⟨rfl, hb1⟩
 have HB1 := hide (HB.out.trans (hb1.mono HB.out.size))
 clear hb1
 go_wp2
 go_ret2
 exact ⟨rfl, HB1.out⟩
set_option maxHeartbeats 2000000 in
set_option maxRecDepth 100000 in
theorem RCop_in {A : Option Addr} {n c : Nat} {L : List TyW} {B : Nat} (hn : n ≤ 65535) {r : Int} (hok : TyOk (tys L) r) :
  ∀ m i : Nat, i < m → i < n → ∀ w : World, Typs w B A n L → B ≤ w.heap.size →
   Calls Tryz.prog 35 #[.slice A n c, .int .i64 (i : Int)] w fun e w' => e = .returned (.bool (tyCop (tys L) (i : Int))) ∧ Below w.heap.size w w' := by
 intro m
 induction m with
 | zero => intro i hi; exact absurd hi (by omega)
 | succ m ih =>
  intro i him hi w hA hB
  have hl := hA.len
  have hex : ∃ a, L[i]? = some a := ⟨_, List.getElem?_eq_getElem (by omega)⟩
  obtain ⟨x, hx⟩ := hex
  have hat := tys_at hx
  have how := hok.own hat
  have hcp := hok.cop_at hat
  have hi' : (i : Int) < (n : Int) := by omega
  have hi2 : ¬ (n : Int) ≤ (i : Int) := by omega
  have HA := hide hA
  have hex : ∃ v, v = tyCop (tys L) (i : Int) := ⟨_, rfl⟩
  obtain ⟨v, hv⟩ := hex
  rw [← hv] at hcp ⊢
  clear hv
  by_cases h3 : x.t.kind = 3
  ·
   obtain ⟨g, o, rfl, hgB, hone, c0, c1, c2, c3, c4⟩ := hA.at_ hx
   have e3 : (x.t.kind != 3) = false := by simp [h3]
   have hfs : x.n = 0 := by rw [← hone.ok.len, how.2.2.1 (by omega)]; rfl
   rw [hfs] at c4
   rw [if_pos h3] at hcp
   cases hmu : x.t.mut_
   ·
    rw [hmu] at c1 hcp
    subst hcp
    clear hA hx hat how hone hfs ih h3 hok hmu
    go_enter Tryz.func35, Tryz.ntmps35
    go_wp2_with fail
    go_loop [5] (fun j => j = .int .i64 0) (fun _ => 0)
    case atStart => rfl
    case round =>
     subst hrel
     go_wp2
     go_ret
     exact ⟨rfl, Below.refl _ _⟩
   ·
    rw [hmu] at c1 hcp
    subst hcp
    clear hA hx hat how hone hfs ih h3 hok hmu
    go_enter Tryz.func35, Tryz.ntmps35
    go_wp2_with fail
    go_loop [5] (fun j => j = .int .i64 0) (fun _ => 0)
    case atStart => rfl
    case round =>
     subst hrel
     go_wp2
     go_ret
     exact ⟨rfl, Below.refl _ _⟩
  ·
   have e3 : (x.t.kind != 3) = true := by rw [bne_iff_ne]; exact h3
   have hpp : tyParts x.t = x.t.fields := hok.fields hat h3
   rw [if_neg h3, hpp] at hcp
   have HCP := hide hcp
   have HX := hide hx
   have HIH := hide ih
   have hone := hA.one x (List.mem_of_getElem? hx)
   have HONE := hide hone
   have HFL := hide hone.ok.len
   have hnf : x.n ≤ maxLen := Nat.le_trans hone.ok.nc hone.ok.cm
   unfold maxLen at hnf
   have HPP := hide (fun p hp => how.2.2.2.2.1 p (by rw [hpp]; exact hp) : ∀ p ∈ x.t.fields, 0 ≤ p ∧ p < (i : Int))
   clear hA hx hat how hcp hone hpp ih h3 hok
   go_enter Tryz.func35, Tryz.ntmps35
   go_wp2_with fail
   go_loopw [5] (fun j wr => ∃ k : Nat, j = .int .i64 (k : Int) ∧ k ≤ x.n ∧ Hid ((x.t.fields.take k).all (tyCop (tys L)) = true) ∧ Hid (Below w.heap.size w wr)) (fun j _ => x.n - (intOf j).toNat)
   case atStart => exact ⟨0, rfl, Nat.zero_le _, rfl, Below.refl _ _⟩
   case round =>
    obtain ⟨k, rfl, hk, HN, HW⟩ := hrel
    have hsz := HW.out.size
    have hAr := HA.out.below (HW.out.mono hB)
    obtain ⟨g, o, rfl, hgB, _, c0, c1, c2, c3, c4⟩ := hAr.at_ HX.out
    by_cases hlt : k < x.n
    ·
     have hlt' : (k : Int) < (x.n : Int) := by omega
     have hex : ∃ p, x.t.fields[k]? = some p := ⟨_, List.getElem?_eq_getElem (by have := HFL.out; omega)⟩
     obtain ⟨p, hp⟩ := hex
     obtain ⟨gf, of, hAf, hgf, df⟩ := (HONE.out.rd.below (HW.out.mono hB)).int hp
     rw [hAf] at c4
     have hmem := List.mem_of_getElem? hp
     have HP := hide hp
     have hpp := HPP.out p hmem
     obtain ⟨hp0, hp1⟩ := hpp
     obtain ⟨y, rfl⟩ := Int.eq_ofNat_of_zero_le hp0
     have hih := HIH.out y (by omega) (by omega) wr hAr (by omega)
     cases hc : tyCop (tys L) (y : Int)
     ·
      rw [hc] at hih
      have HC := hide hih
      have hvf : v = false := by
       rw [HCP.out]
       cases hq : x.t.fields.all (tyCop (tys L))
       ·
        rfl
       ·
        rw [List.all_eq_true.1 hq _ hmem] at hc; cases hc
      subst hvf
      clear hp hmem hih hc hAr hAf
      go_wp2_with fail
      refine HC.out.mono ?_
      rintro e w1 ⟨rfl, hb1⟩
      have HB1 := hide (HW.out.trans (hb1.mono hsz))
      clear hb1
      go_wp2_with fail
      go_ret
      exact ⟨rfl, HB1.out⟩
     ·
      rw [hc] at hih
      have HC := hide hih
      have HN2 : Hid ((x.t.fields.take (k + 1)).all (tyCop (tys L)) = true) := by
       show _ = _
       rw [List.take_add_one, HP.out, List.all_append, HN.out]
       simp [hc]
      clear hp hmem hih hc hAr hAf
      go_wp2_with fail
      refine HC.out.mono ?_
      rintro e w1 ⟨rfl, hb1⟩
      have HB1 := hide (HW.out.trans (hb1.mono hsz))
      clear hb1
      go_wp2_with fail
      go_roundw
      case rel => exact ⟨k + 1, by go_num, by omega, HN2.out, HB1.out⟩
      case measure => simp [intOf]; omega
    ·
     obtain rfl : k = x.n := by omega
     have hvt : v = true := by
      rw [HCP.out]
      have := HN.out
      rwa [List.take_of_length_le (Nat.le_of_eq HFL.out)] at this
     subst hvt
     clear hAr
     go_wp2
     go_ret
     exact ⟨rfl, HW.out⟩
end Go.Proofs.YtfgacmgjpikgaaaGreatDoor
