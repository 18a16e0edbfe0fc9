/- The reference's TypeOf, by the type of the place without its last projection. -/
import Derived.Test.YtphfiohjkjipiaaPlaO
import Derived.Test.YtphfiohjkjipiaaPlaR
set_option linter.unusedVariables false
namespace Go.Proofs.Ytphfiohjkjipiaa
open Go.RowKit

theorem goL_one {T : List Ty} {t : Int} {ps : List Pr} {m : Nat} {p : Pr} (hl : ps.length = m + 1) (hp : ps[m]? = some p) : goL T t ps = if erA T t ps m = 0 then stepT (tyGet T (tyA T t ps m)) p else (0, erA T t ps m) := by
  rw [← goA_up hp, ← hl, List.take_length]

theorem wrapI8 (n : Int) (h0 : -9223372036854775808 ≤ n) (h1 : n ≤ 9223372036854775807) : IntKind.i64.wrap n = n := by
  simp [IntKind.wrap, IntKind.bits, IntKind.signed]
  omega

/-- the type of x, or an error, came back -/
def TyE (L : List TyW) (LL : List LcW) (x : PlW) (w : World) (e : Ending) (w' : World) : Prop := e = .returned (.tuple #[.int .i64 (tyOfP (tys L) (lcs LL) x.l x.ps).1, .int .i64 (tyOfP (tys L) (lcs LL) x.l x.ps).2]) ∧ Below w.heap.size w w'
theorem tyE_mk {L : List TyW} {LL : List LcW} {x : PlW} {w : World} {e : Ending} {w' : World} {u v : Int} (h : tyOfP (tys L) (lcs LL) x.l x.ps = (u, v)) (he : e = .returned (.tuple #[.int .i64 u, .int .i64 v])) (hb : Below w.heap.size w w') : TyE L LL x w e w' := ⟨by rw [he, h], hb⟩

set_option maxHeartbeats 1000000 in
theorem RTypeOf_err {At Al : Option Addr} {nt ct nl cl : Nat} {L : List TyW} {LL : List LcW} {r : Int} {x : PlW} {w : World} (h : Pl8 w At Al nt nl L LL x r) {v : Int} (hv : plErr x.l x.ps = v) (hv0 : v ≠ 0) :
    Calls Try.prog 14 #[.slice At nt ct, .slice Al nl cl, aggPl x] w (TyE L LL x w) := by
  have hB0 := (Below.refl w.heap.size w).alloc (Nat.le_refl _) (.cells #[.int .i64 x.l, .slice x.A x.n x.c] 24)
  have HB0 := hide hB0
  have HC := hide (RCheckP_is hv _ (h.one.up hB0))
  have tv : (v != 0) = true := by rw [bne_iff_ne]; exact hv0
  have HF := hide (tyOfP_err (T := tys L) (lc := lcs LL) hv hv0)
  obtain ⟨l, A, n, c, ps⟩ := x
  clear h hB0 hv hv0
  go_enter Try.func14, Try.ntmps14
  go_wp2_with fail
  refine HC.out.mono ?_
  rintro e w1 ⟨rfl, hb1⟩
  have HB1 := hide (HB0.out.trans (hb1.mono HB0.out.size))
  clear hb1
  go_wp2
  go_ret2
  exact tyE_mk HF.out rfl HB1.out

set_option maxHeartbeats 1000000 in
theorem RTypeOf_out {At Al : Option Addr} {nt ct nl cl : Nat} {L : List TyW} {LL : List LcW} {r : Int} {x : PlW} {w : World} (h : Pl8 w At Al nt nl L LL x r) (hv : plErr x.l x.ps = 0) (hl : (nl : Int) ≤ x.l) :
    Calls Try.prog 14 #[.slice At nt ct, .slice Al nl cl, aggPl x] w (TyE L LL x w) := by
  have hB0 := (Below.refl w.heap.size w).alloc (Nat.le_refl _) (.cells #[.int .i64 x.l, .slice x.A x.n x.c] 24)
  have HB0 := hide hB0
  have HC := hide (RCheckP_is hv _ (h.one.up hB0))
  have HBX := hide (heap_alloc_new w (.cells #[.int .i64 x.l, .slice x.A x.n x.c] 24))
  have HF := hide (tyOfP_out (T := tys L) (lc := lcs LL) hv (by rw [lcs_len, h.locs.len]; omega))
  obtain ⟨l, A, n, c, ps⟩ := x
  simp only [] at hl
  clear h hB0 hv
  go_enter Try.func14, Try.ntmps14
  go_wp2_with fail
  refine HC.out.mono ?_
  rintro e w1 ⟨rfl, hb1⟩
  have HB1 := hide (HB0.out.trans (hb1.mono HB0.out.size))
  have hbX := (hb1.block w.heap.size (by simp)).trans HBX.out
  have z0 := cell_of_heap hbX 0
  clear hb1 hbX
  go_wp2
  go_ret2
  exact tyE_mk HF.out rfl HB1.out

set_option maxHeartbeats 1000000 in
theorem RTypeOf_zero {At Al : Option Addr} {nt ct nl cl : Nat} {L : List TyW} {LL : List LcW} {r : Int} {x : PlW} {w : World} (h : Pl8 w At Al nt nl L LL x r) (hq : x.n = 0) (hv : plErr x.l x.ps = 0) {k : Nat} {lc : LcW} (hk : x.l = (k : Int)) (hlc : LL[k]? = some lc) :
    Calls Try.prog 14 #[.slice At nt ct, .slice Al nl cl, aggPl x] w (TyE L LL x w) := by
  have hB0 := (Below.refl w.heap.size w).alloc (Nat.le_refl _) (.cells #[.int .i64 x.l, .slice x.A x.n x.c] 24)
  have HB0 := hide hB0
  have HC := hide (RCheckP_is hv _ (h.one.up hB0))
  have HBX := hide (heap_alloc_new w (.cells #[.int .i64 x.l, .slice x.A x.n x.c] 24))
  have hnl := h.locs.len
  have hkl := (List.getElem?_eq_some_iff.1 hlc).1
  have hkl' : (k : Int) < (nl : Int) := by omega
  have hps : x.ps = [] := List.eq_nil_of_length_eq_zero (by have := h.one.prs.len; omega)
  have HF := hide (show tyOfP (tys L) (lcs LL) x.l x.ps = (lc.ty, 0) from by rw [tyOfP_in hv hk (lcs_at hlc), hps]; rfl)
  obtain ⟨b, o, rfl, hbb, c0, c1⟩ := h.locs.at_ hlc
  have HCC := hide fun (w' : World) (hb : Below w.heap.size w w') => (hb.cell (p := ⟨b, o + k * 2 + 1, none⟩) hbb).trans c1
  obtain ⟨l, A, n, c, ps⟩ := x
  simp only [] at hq hk
  subst hq hk
  obtain ⟨nm, ty⟩ := lc
  simp only [] at HF HCC
  clear h hB0 hlc hv hps c0 c1 hkl
  go_enter Try.func14, Try.ntmps14
  go_wp2_with fail
  refine HC.out.mono ?_
  rintro e w1 ⟨rfl, hb1⟩
  have HB1 := hide (HB0.out.trans (hb1.mono HB0.out.size))
  have hbX := (hb1.block w.heap.size (by simp)).trans HBX.out
  have z0 := cell_of_heap hbX 0
  have z1 := cell_of_heap hbX 1
  have c1 := HCC.out _ HB1.out
  clear hb1 hbX
  go_wp2
  go_ret2
  exact tyE_mk HF.out rfl HB1.out

set_option maxHeartbeats 4000000 in
set_option maxRecDepth 100000 in
theorem RTypeOf_step {At Al : Option Addr} {nt ct nl cl : Nat} {L : List TyW} {LL : List LcW} {r : Int} {x : PlW} {w : World} (h : Pl8 w At Al nt nl L LL x r) {m : Nat} (hq : x.n = m + 1) (hv : plErr x.l x.ps = 0) {k : Nat} {lc : LcW} (hk : x.l = (k : Int)) (hlc : LL[k]? = some lc)
    (ih : ∀ w', Below w.heap.size w w' → Calls Try.prog 14 #[.slice At nt ct, .slice Al nl cl, .agg #[.int .i64 x.l, .slice x.A m x.c]] w' fun e w'' => e = .returned (.tuple #[.int .i64 (tyA (tys L) lc.ty x.ps m), .int .i64 (erA (tys L) lc.ty x.ps m)]) ∧ Below w'.heap.size w' w'') :
    Calls Try.prog 14 #[.slice At nt ct, .slice Al nl cl, aggPl x] w (TyE L LL x w) := by
  obtain ⟨l, A, n, c, ps⟩ := x
  simp only [] at hq hv hk ih
  subst hq
  have hpl : ps.length = m + 1 := h.one.prs.len
  obtain ⟨p, hp⟩ : ∃ p, ps[m]? = some p := ⟨_, List.getElem?_eq_getElem (by omega)⟩
  obtain ⟨b2, o2, hA, hbb2, hint, d0, d1⟩ := h.one.prs.at_ hp
  simp only [] at hA
  subst hA
  have hB0 := (Below.refl w.heap.size w).alloc (Nat.le_refl _) (.cells #[.int .i64 l, .slice (some ⟨b2, o2, none⟩) (m + 1) c] 24)
  have HB0 := hide hB0
  have HC := hide (RCheckP_is (x := ⟨l, some ⟨b2, o2, none⟩, m + 1, c, ps⟩) hv _ (h.one.up hB0))
  have HBX := hide (heap_alloc_new w (.cells #[.int .i64 l, .slice (some ⟨b2, o2, none⟩) (m + 1) c] 24))
  have hnl := h.locs.len
  have hkl := (List.getElem?_eq_some_iff.1 hlc).1
  have hkl' : l < (nl : Int) := by omega
  have hW := h.way hk hlc
  have hg := goL_one (T := tys L) (t := lc.ty) hpl hp
  have hgx : tyOfP (tys L) (lcs LL) l ps = goL (tys L) lc.ty ps := tyOfP_in hv hk (lcs_at hlc)
  have H := hide fun w' (hb : Below w.heap.size w w') => h.up hb
  have hnc : m + 1 ≤ c := h.one.nc
  have hmc : m ≤ c := by omega
  have hxn : m + 1 ≤ maxLen := Nat.le_trans h.one.nc h.one.cm
  have hn0 : (((m : Int) + 1) == 0) = false := by simp; omega
  have hwr : IntKind.i64.wrap (m : Int) = (m : Int) := wrapI8 _ (by omega) (by unfold maxLen at hxn; omega)
  have k0 : (0 : Int) ≤ (m : Int) := by omega
  have k1 : (m : Int) ≤ (m : Int) + 1 := by omega
  have k2 : (m : Int) + 1 ≤ (c : Int) := by omega
  have k3 : (m : Int) ≤ (c : Int) := by omega
  have k5 : (m : Int) < (m : Int) + 1 := by omega
  have hxs : m ≤ 40 := by have := (plErr_zero.1 hv).2.1; omega
  obtain ⟨ev, hev⟩ : ∃ ev, erA (tys L) lc.ty ps m = ev := ⟨_, rfl⟩
  obtain ⟨tv, htv⟩ : ∃ tv, tyA (tys L) lc.ty ps m = tv := ⟨_, rfl⟩
  rw [hev, htv] at ih hg
  have HIH := hide ih
  have HEV := hide hev
  have HTV := hide htv
  have HS := hide fun w' (h : Below (w.alloc (.cells #[.int .i64 l, .slice (some ⟨b2, o2, none⟩) (m + 1) c] 24)).heap.size (w.alloc (.cells #[.int .i64 l, .slice (some ⟨b2, o2, none⟩) (m + 1) c] 24)) w') => show Below (w.alloc (.cells #[.int .i64 l, .slice (some ⟨b2, o2, none⟩) (m + 1) c] 24)).heap.size (w.alloc (.cells #[.int .i64 l, .slice (some ⟨b2, o2, none⟩) (m + 1) c] 24)) w' ∧ w'.cell? ⟨w.heap.size, 0, none⟩ = some (.int .i64 l) ∧ w'.cell? ⟨w.heap.size, 1, none⟩ = some (.slice (some ⟨b2, o2, none⟩) (m + 1) c) from
    ⟨h, cell_of_heap ((h.block w.heap.size (by simp)).trans HBX.out) 0, cell_of_heap ((h.block w.heap.size (by simp)).trans HBX.out) 1⟩
  have HP := hide hp
  have HGX := hide (hgx.trans hg)
  have HWW := hide hW
  have HPL := hide hpl
  have HPL0 := hide hv
  unfold maxLen at hxn
  clear h hB0 hlc hv hp hg hgx hev hk ih hW hpl HBX hkl htv
  go_enter Try.func14, Try.ntmps14
  go_wp2_with fail
  refine HC.out.mono ?_
  rintro e w1 ⟨rfl, hb1⟩
  obtain ⟨_, z0, z1⟩ := HS.out _ hb1
  have HB1 := hide hb1
  clear hb1 HC
  go_wp2
  by_cases hev0 : ev = 0
  rotate_left
  · have tev : (ev != 0) = true := by rw [bne_iff_ne]; exact hev0
    have HF := hide (show tyOfP (tys L) (lcs LL) l ps = (0, ev) from by rw [HGX.out, if_neg hev0])
    clear hev0
    go_region_held3 (fun w' => Below (w.alloc (.cells #[.int .i64 l, .slice (some ⟨b2, o2, none⟩) (m + 1) c] 24)).heap.size (w.alloc (.cells #[.int .i64 l, .slice (some ⟨b2, o2, none⟩) (m + 1) c] 24)) w' ∧ w'.cell? ⟨w.heap.size, 0, none⟩ = some (.int .i64 l) ∧ w'.cell? ⟨w.heap.size, 1, none⟩ = some (.slice (some ⟨b2, o2, none⟩) (m + 1) c))
      (first | exact HS.out _ (by assumption) | exact HS.out _ HB1.out | exact HS.out _ HB1.out.drew)
      (first
        | (go_at_call 14; go_split_ands; refine (HIH.out _ (HB0.out.trans (Below.mono (by assumption : Below (w.alloc (.cells #[.int .i64 l, .slice (some ⟨b2, o2, none⟩) (m + 1) c] 24)).heap.size (w.alloc (.cells #[.int .i64 l, .slice (some ⟨b2, o2, none⟩) (m + 1) c] 24)) _) HB0.out.size))).mono ?_; rintro e w4 ⟨rfl, hb0⟩; have hb4 := Below.trans (by assumption : Below (w.alloc (.cells #[.int .i64 l, .slice (some ⟨b2, o2, none⟩) (m + 1) c] 24)).heap.size (w.alloc (.cells #[.int .i64 l, .slice (some ⟨b2, o2, none⟩) (m + 1) c] 24)) _) (hb0.mono (Below.size (by assumption : Below (w.alloc (.cells #[.int .i64 l, .slice (some ⟨b2, o2, none⟩) (m + 1) c] 24)).heap.size (w.alloc (.cells #[.int .i64 l, .slice (some ⟨b2, o2, none⟩) (m + 1) c] 24)) _)))))
    all_goals
      go_split_ands
      have hb4' := (by assumption : Below (w.alloc (.cells #[.int .i64 l, .slice (some ⟨b2, o2, none⟩) (m + 1) c] 24)).heap.size (w.alloc (.cells #[.int .i64 l, .slice (some ⟨b2, o2, none⟩) (m + 1) c] 24)) w4)
      go_wp2
      go_ret2
      exact tyE_mk HF.out rfl (HB0.out.trans (hb4'.mono HB0.out.size))
  subst hev0
  obtain ⟨i, u, hti, hu⟩ := Stp.lt HWW.out.ok HWW.out.t0 (by rw [tys_len]; exact HWW.out.t1) (show Stp (tys L) lc.ty ps m from ⟨by have := HPL.out; omega, HEV.out⟩)
  rw [HTV.out] at hti
  subst hti
  obtain ⟨y, hy, hyt⟩ := tys_back hu
  rw [if_pos rfl, tyGet_at hu, ← hyt] at HGX
  have HY := hide hy
  have HCASE := hide (stepT_cases y.t p)
  have hin : i < nt := by have := (List.getElem?_eq_some_iff.1 hy).1; have := (H.out w (Below.refl _ _)).typs.len; omega
  have hin' : (i : Int) < (nt : Int) := by omega
  have hnt := (H.out w (Below.refl _ _)).nt
  have HTP := hide (((H.out w (Below.refl _ _)).typs.at_ hy))
  unfold maxLen at hnt
  clear hu hyt hy
  obtain ⟨b, o, rfl, hbb, hone, c0, c1, c2, c3, c4⟩ := HTP.out
  obtain ⟨pk, pf⟩ := p
  have HONE := hide hone
  obtain ⟨⟨kd, mu, rr, el, fs⟩, Af, nf, cf⟩ := y
  simp only [] at c0 c1 c2 c3 c4 d0 d1
  have HR := hide fun (w' : World) (hb : Below w.heap.size w w') => show w'.cell? ⟨b, o + i * 5, none⟩ = some (.int .i64 kd) ∧ w'.cell? ⟨b, o + i * 5 + 1, none⟩ = some (.bool mu) ∧ w'.cell? ⟨b, o + i * 5 + 2, none⟩ = some (.int .i64 rr) ∧ w'.cell? ⟨b, o + i * 5 + 3, none⟩ = some (.int .i64 el) ∧ w'.cell? ⟨b, o + i * 5 + 4, none⟩ = some (.slice Af nf cf) ∧ w'.cell? ⟨b2, o2 + m * 2, none⟩ = some (.int .i64 pk) ∧ w'.cell? ⟨b2, o2 + m * 2 + 1, none⟩ = some (.int .i64 pf) from
    ⟨(hb.cell (p := ⟨b, o + i * 5, none⟩) hbb).trans c0, (hb.cell (p := ⟨b, o + i * 5 + 1, none⟩) hbb).trans c1, (hb.cell (p := ⟨b, o + i * 5 + 2, none⟩) hbb).trans c2, (hb.cell (p := ⟨b, o + i * 5 + 3, none⟩) hbb).trans c3, (hb.cell (p := ⟨b, o + i * 5 + 4, none⟩) hbb).trans c4, (hb.cell (p := ⟨b2, o2 + m * 2, none⟩) hbb2).trans d0, (hb.cell (p := ⟨b2, o2 + m * 2 + 1, none⟩) hbb2).trans d1⟩
  have hok := hone.ok
  have hlen : fs.length = nf := hok.len
  have hnf : nf ≤ cf := hok.nc
  have hcf : cf ≤ maxLen := hok.cm
  unfold maxLen at hcf
  clear hone hok c0 c1 c2 c3 c4 d0 d1 hint
  go_region_held3 (fun w' => Below (w.alloc (.cells #[.int .i64 l, .slice (some ⟨b2, o2, none⟩) (m + 1) c] 24)).heap.size (w.alloc (.cells #[.int .i64 l, .slice (some ⟨b2, o2, none⟩) (m + 1) c] 24)) w' ∧ w'.cell? ⟨w.heap.size, 0, none⟩ = some (.int .i64 l) ∧ w'.cell? ⟨w.heap.size, 1, none⟩ = some (.slice (some ⟨b2, o2, none⟩) (m + 1) c))
    (first | exact HS.out _ (by assumption) | exact HS.out _ HB1.out | exact HS.out _ HB1.out.drew)
    (first
      | (go_at_call 14; go_split_ands; refine (HIH.out _ (HB0.out.trans (Below.mono (by assumption : Below (w.alloc (.cells #[.int .i64 l, .slice (some ⟨b2, o2, none⟩) (m + 1) c] 24)).heap.size (w.alloc (.cells #[.int .i64 l, .slice (some ⟨b2, o2, none⟩) (m + 1) c] 24)) _) HB0.out.size))).mono ?_; rintro e w4 ⟨rfl, hb0⟩; have hb4 := Below.trans (by assumption : Below (w.alloc (.cells #[.int .i64 l, .slice (some ⟨b2, o2, none⟩) (m + 1) c] 24)).heap.size (w.alloc (.cells #[.int .i64 l, .slice (some ⟨b2, o2, none⟩) (m + 1) c] 24)) _) (hb0.mono (Below.size (by assumption : Below (w.alloc (.cells #[.int .i64 l, .slice (some ⟨b2, o2, none⟩) (m + 1) c] 24)).heap.size (w.alloc (.cells #[.int .i64 l, .slice (some ⟨b2, o2, none⟩) (m + 1) c] 24)) _)))))
  all_goals
    go_split_ands
    have hb4' := (by assumption : Below (w.alloc (.cells #[.int .i64 l, .slice (some ⟨b2, o2, none⟩) (m + 1) c] 24)).heap.size (w.alloc (.cells #[.int .i64 l, .slice (some ⟨b2, o2, none⟩) (m + 1) c] 24)) w4)
    have HB4 := hide hb4'
    have hbw := HB0.out.trans (hb4'.mono HB0.out.size)
    have HBW := hide hbw
    have ha1 := hbw.alloc hbw.size (.cells #[.int .i64 kd, .bool mu, .int .i64 rr, .int .i64 el, .slice Af nf cf] 48)
    have HB5 := hide (ha1.alloc ha1.size (.cells #[.int .i64 pk, .int .i64 pf] 46))
    obtain ⟨r0, r1, r2, r3, r4, r5, r6⟩ := HR.out _ hbw
    obtain ⟨_, _, _, _, _, s5, s6⟩ := HR.out _ ha1
    have z2 := (HS.out _ (hb4'.alloc hb4'.size (.cells #[.int .i64 kd, .bool mu, .int .i64 rr, .int .i64 el, .slice Af nf cf] 48))).2.2
    clear hb4' hbw ha1
    rcases HCASE.out with ⟨h1, h2, h3⟩ | ⟨h1, h2, q, v, hq, hv, h3⟩ | ⟨h1, h2, h4, h3⟩ | ⟨h1, h2, h3⟩
    · subst h1 h2
      have HF := hide (HGX.out.trans h3)
      clear h3
      go_wp2
      go_ret2
      exact tyE_mk HF.out rfl HB5.out
    · subst h1 h2 hq
      have hql := (List.getElem?_eq_some_iff.1 hv).1
      have hql' : (q : Int) < (nf : Int) := by omega
      have HF := hide (HGX.out.trans h3)
      obtain ⟨b3, o3, hAf, _, f0⟩ := (HONE.out.below HB5.out).rd.int hv
      simp only [] at hAf
      subst hAf
      clear h3 hv
      go_wp2
      go_ret2
      exact tyE_mk HF.out rfl HB5.out
    · subst h1 h2
      have HF := hide (HGX.out.trans h3)
      have hpe := pjErr_zero ((plErr_zero.1 HPL0.out).2.2 _ (List.mem_of_getElem? HP.out))
      simp only [] at hpe
      have hge : (nf : Int) ≤ pf := by omega
      clear h3 h4 hpe
      go_wp2
      go_ret2
      exact tyE_mk HF.out rfl HB5.out
    · have HF := hide (HGX.out.trans h3)
      clear h3
      by_cases p0 : pk = 0
      · subst p0
        have k3' : ¬ kd = 3 := fun h => h1 ⟨rfl, h⟩
        have t1 : (kd == 3) = false := by simpa using k3'
        clear h1 h2 k3'
        go_wp2
        go_ret2
        exact tyE_mk HF.out rfl HB5.out
      · have t0 : (pk == 0) = false := by simpa using p0
        by_cases p1 : pk = 1
        · subst p1
          have k4' : ¬ kd = 4 := fun h => h2 ⟨rfl, h⟩
          have t1 : (kd == 4) = false := by simpa using k4'
          clear h1 h2 k4' t0 p0
          go_wp2
          go_ret2
          exact tyE_mk HF.out rfl HB5.out
        · have t2 : (pk == 1) = false := by simpa using p1
          clear h1 h2 p0 p1
          go_wp2
          go_ret2
          exact tyE_mk HF.out rfl HB5.out
theorem RTypeOf_any {At Al : Option Addr} {nt ct nl cl : Nat} {L : List TyW} {LL : List LcW} {r : Int} : ∀ (q : Nat) (x : PlW) (w : World), x.n = q → Pl8 w At Al nt nl L LL x r →
    Calls Try.prog 14 #[.slice At nt ct, .slice Al nl cl, aggPl x] w (TyE L LL x w)
  | q, x, w, hq, h => by
    by_cases hv : plErr x.l x.ps = 0
    · have h0 := (plErr_zero.1 hv).1
      by_cases hl : x.l < (nl : Int)
      · have hnl := h.locs.len
        obtain ⟨lc, hlc⟩ : ∃ lc, LL[x.l.toNat]? = some lc := ⟨_, List.getElem?_eq_getElem (by omega)⟩
        have hk : x.l = ((x.l.toNat : Nat) : Int) := by omega
        match q, hq with
        | 0, hq => exact RTypeOf_zero h hq hv hk hlc
        | m + 1, hq =>
          refine RTypeOf_step (x := x) h hq hv hk hlc fun w' hb => ?_
          have h2 := RTypeOf_any (ct := ct) (cl := cl) m (x.take m) w' rfl ((h.up hb).take (by omega))
          have e : tyOfP (tys L) (lcs LL) (x.take m).l (x.take m).ps = (tyA (tys L) lc.ty x.ps m, erA (tys L) lc.ty x.ps m) := tyOfP_in (plErr_take hv m) hk (lcs_at hlc)
          unfold TyE at h2
          rw [e] at h2
          exact h2
      · exact RTypeOf_out h hv (by omega)
    · exact RTypeOf_err h rfl hv
theorem RTypeOf_is {At Al : Option Addr} {nt ct nl cl : Nat} {L : List TyW} {LL : List LcW} {x : PlW} {r u v : Int} {w : World} (h : Pl8 w At Al nt nl L LL x r) (hv : tyOfP (tys L) (lcs LL) x.l x.ps = (u, v)) :
    Calls Try.prog 14 #[.slice At nt ct, .slice Al nl cl, aggPl x] w fun e w' => e = .returned (.tuple #[.int .i64 u, .int .i64 v]) ∧ Below w.heap.size w w' := by
  have := RTypeOf_any (ct := ct) (cl := cl) x.n x w rfl h
  unfold TyE at this
  rw [hv] at this
  exact this
end Go.Proofs.Ytphfiohjkjipiaa
