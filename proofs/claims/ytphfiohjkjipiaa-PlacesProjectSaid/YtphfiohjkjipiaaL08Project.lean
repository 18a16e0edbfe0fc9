/- PlacesProject: for every input the law returns true, and turns nothing that lay. No condition. -/
import Derived.Test.YtphfiohjkjipiaaRows
import Derived.Test.YtphfiohjkjipiaaOpenL
import Derived.Test.YtphfiohjkjipiaaOpenY
import Derived.Test.YtphfiohjkjipiaaAlive08
import Derived.Test.YtphfiohjkjipiaaLaw08
import Derived.Test.YtphfiohjkjipiaaPlaH
import Derived.BigRegion
namespace Go.Proofs.Ytphfiohjkjipiaa.placesProject
open Go.ChangeShapes Go.WideShapes Go.ChangeAt Go.ChangeMaps Go.RowKit
set_option linter.unusedVariables false

/-- two blocks that were made one behind the other -/
theorem two_new {w w' : World} {a b : Obj} (h : Below ((w.alloc a).alloc b).drew.heap.size ((w.alloc a).alloc b).drew w') : w'.heap[w.heap.size]? = some a ∧ w'.heap[w.heap.size + 1]? = some b := by
  have hs : ((w.alloc a).alloc b).drew.heap.size = w.heap.size + 2 := by show ((w.alloc a).alloc b).heap.size = _; simp
  have e1 : ((w.alloc a).alloc b).drew.heap[w.heap.size]? = some a := (((Below.refl (w.alloc a).heap.size (w.alloc a)).alloc (Nat.le_refl _) b).block w.heap.size (by simp)).trans (heap_alloc_new w a)
  have e2 : ((w.alloc a).alloc b).drew.heap[w.heap.size + 1]? = some b := by
    have := heap_alloc_new (w.alloc a) b
    rwa [World.size_alloc] at this
  exact ⟨(h.block _ (by omega)).trans e1, (h.block _ (by omega)).trans e2⟩

/-- what the law says of the types with and without the last projection -/
theorem last_step {T : List Ty} {lc : List Int} {l : Int} {ps : List Pr} {m : Nat} {r u v u' v' : Int} {p : Pr} (hT : TyOk T r) (hl : LcOk T lc) (hlen : ps.length = m + 1) (hp : ps[m]? = some p) (h : tyOfP T lc l ps = (u, v)) (h' : tyOfP T lc l (ps.take m) = (u', v')) :
    (v' ≠ 0 → v ≠ 0) ∧ (v = 0 → v' = 0 → ∃ (i : Nat) (t : Ty), u' = (i : Int) ∧ T[i]? = some t ∧ stepT t p = (u, 0)) := by
  by_cases hv : v = 0
  · subst hv
    obtain ⟨hp0, k, t0, hk, ht, hg⟩ := tyOfP_zero (by rw [h])
    have hg2 : tyOfP T lc l (ps.take m) = (tyA T t0 ps m, erA T t0 ps m) := tyOfP_in (plErr_take hp0 m) hk ht
    have hst : Stp T t0 ps ps.length := ⟨Nat.le_refl _, by unfold erA; rw [goL_take_all, ← hg, h]⟩
    have hm := hst.down (show m ≤ ps.length by omega)
    rw [hg2, hm.ok] at h'
    injection h' with e1 e2
    have ht0 := hl t0 (List.mem_of_getElem? ht)
    obtain ⟨i, t, hi, hti⟩ := hm.lt hT ht0.1 ht0.2
    refine ⟨fun hne => absurd e2.symm hne, fun _ _ => ⟨i, t, by rw [← e1, hi], hti, ?_⟩⟩
    have := goL_one (T := T) (t := t0) hlen hp
    rw [if_pos hm.ok, hi, tyGet_at hti, ← hg, h] at this
    exact this.symm
  · exact ⟨fun _ => hv, fun h0 => absurd h0 hv⟩

set_option maxHeartbeats 8000000 in
set_option maxRecDepth 100000 in
/-- where the place has projections -/
theorem walk_some (At : Option Addr) (nt ct : Nat) (L : List TyW) (Al : Option Addr) (nl cl : Nat) (LL : List LcW) (l : Int) (b2 o2 m c : Nat) (ps : List Pr) (p : Pr) (w : World) (hT : ArgY w At nt ct L) (hL : ArgL w Al nl cl LL) (hx : OnePl w w.heap.size ⟨l, some ⟨b2, o2, none⟩, m + 1, c, ps⟩) (hp : ps[m]? = some p) :
    Calls Try.prog 8 #[.slice At nt ct, .slice Al nl cl, .agg #[.int .i64 l, .slice (some ⟨b2, o2, none⟩) (m + 1) c]] w fun e w' => e = .returned (.bool true) ∧ Below w.heap.size w w' := by
  have hB0 := (Below.refl w.heap.size w).alloc (Nat.le_refl _) (.cells #[.int .i64 l, .slice (some ⟨b2, o2, none⟩) (m + 1) c] 24)
  have HB0 := hide hB0
  have HBX := hide (heap_alloc_new w (.cells #[.int .i64 l, .slice (some ⟨b2, o2, none⟩) (m + 1) c] 24))
  have HSK := hide (skip8_any At Al nt ct nl cl L LL _ (hT.typs.up hB0) (hL.locs.up hB0) (Nat.le_trans hT.nc hT.cm) hT.nc (Nat.le_trans hL.nc hL.cm))
  have HPL := hide fun (w' : World) (hb : Below w.heap.size w w') (hok : TyOk (tys L) 1000) (hlc : LcOk (tys L) (lcs LL)) => (show Pl8 w' At Al nt nl L LL ⟨l, some ⟨b2, o2, none⟩, m + 1, c, ps⟩ 1000 from ⟨hT.typs.up hb, hL.locs.up hb, hx.up hb, Nat.le_trans hT.nc hT.cm, Nat.le_trans hL.nc hL.cm, hok, hlc⟩)
  obtain ⟨u, v, huv⟩ : ∃ u v, tyOfP (tys L) (lcs LL) l ps = (u, v) := ⟨_, _, rfl⟩
  obtain ⟨u', v', huv'⟩ : ∃ u v, tyOfP (tys L) (lcs LL) l (ps.take m) = (u, v) := ⟨_, _, rfl⟩
  have HUV := hide huv
  have HUV' := hide huv'
  have HP0 := hide hp
  have hlen : ps.length = m + 1 := hx.prs.len
  have HLAST := hide fun (hok : TyOk (tys L) 1000) (hlc : LcOk (tys L) (lcs LL)) => last_step hok hlc hlen hp huv huv'
  have hnx : m + 1 ≤ maxLen := Nat.le_trans hx.nc hx.cm
  have hnc : m + 1 ≤ c := hx.nc
  have hnt : nt ≤ maxLen := Nat.le_trans hT.nc hT.cm
  have HTL := hide hT.typs.len
  unfold maxLen at hnx hnt
  have HS := hide fun w' (h : Below (w.alloc (.cells #[.int .i64 l, .slice (some ⟨b2, o2, none⟩) (m + 1) c] 24)).heap.size (w.alloc (.cells #[.int .i64 l, .slice (some ⟨b2, o2, none⟩) (m + 1) c] 24)) w') => show Below (w.alloc (.cells #[.int .i64 l, .slice (some ⟨b2, o2, none⟩) (m + 1) c] 24)).heap.size (w.alloc (.cells #[.int .i64 l, .slice (some ⟨b2, o2, none⟩) (m + 1) c] 24)) w' ∧ w'.cell? ⟨w.heap.size, 0, none⟩ = some (.int .i64 l) ∧ w'.cell? ⟨w.heap.size, 1, none⟩ = some (.slice (some ⟨b2, o2, none⟩) (m + 1) c) from
    ⟨h, cell_of_heap ((h.block w.heap.size (by simp)).trans HBX.out) 0, cell_of_heap ((h.block w.heap.size (by simp)).trans HBX.out) 1⟩
  have hwr : IntKind.i64.wrap (m : Int) = (m : Int) := wrapI8 _ (by omega) (by omega)
  have hn0 : (((m : Int) + 1) == 0) = false := by simp; omega
  have k0 : (0 : Int) ≤ (m : Int) := by omega
  have k1 : (m : Int) ≤ (m : Int) + 1 := by omega
  have k2 : (m : Int) + 1 ≤ (c : Int) := by omega
  have k3 : (m : Int) ≤ (c : Int) := by omega
  have k5 : (m : Int) < (m : Int) + 1 := by omega
  have hmc : m ≤ c := by omega
  clear hT hL hx hB0 huv huv' hp hlen
  go_enter Try.func8, Try.ntmps8
  go_wp2_with fail
  refine HSK.out.mono ?_
  rintro e w1 ⟨⟨b, rfl, hsk⟩, hb⟩
  have HB1 := hide (show Below (w.alloc (.cells #[.int .i64 l, .slice (some ⟨b2, o2, none⟩) (m + 1) c] 24)).heap.size (w.alloc (.cells #[.int .i64 l, .slice (some ⟨b2, o2, none⟩) (m + 1) c] 24)) w1 from hb)
  have HSKK := hide hsk
  obtain ⟨_, z0, z1⟩ := HS.out _ HB1.out
  clear hb hsk
  cases b
  rotate_left
  · go_wp2_with fail
    refine (alive08_any _).mono ?_
    rintro e w2 ⟨rfl, hb⟩
    have HB2 := hide (HB1.out.trans (hb.mono HB1.out.size))
    clear hb
    go_wp2
    go_ret
    exact ⟨rfl, HB0.out.trans (HB2.out.mono HB0.out.size)⟩
  by_cases hn : 31 < m
  · have hn' : (32 : Int) < (m : Int) + 1 := by omega
    go_wp2_with fail
    refine (alive08_any _).mono ?_
    rintro e w2 ⟨rfl, hb⟩
    have HB2 := hide (HB1.out.trans (hb.mono HB1.out.size))
    clear hb
    go_wp2
    go_ret
    exact ⟨rfl, HB0.out.trans (HB2.out.mono HB0.out.size)⟩
  have hn' : (m : Int) + 1 ≤ 32 := by omega
  have HP := hide fun (w' : World) (h : Below (w.alloc (.cells #[.int .i64 l, .slice (some ⟨b2, o2, none⟩) (m + 1) c] 24)).heap.size (w.alloc (.cells #[.int .i64 l, .slice (some ⟨b2, o2, none⟩) (m + 1) c] 24)) w') => HPL.out w' (HB0.out.trans (h.mono HB0.out.size)) (HSKK.out (by trivial)).2.2.1 (HSKK.out (by trivial)).2.2.2
  have HL := hide (HLAST.out (HSKK.out (by trivial)).2.2.1 (HSKK.out (by trivial)).2.2.2)
  clear hn
  go_wp2_with fail
  refine (TypeOf_is (HP.out _ HB1.out) HUV.out).mono ?_
  rintro e w2 ⟨rfl, hb⟩
  have HB2 := hide (HB1.out.trans (hb.mono HB1.out.size))
  obtain ⟨_, z0, z1⟩ := HS.out _ HB2.out
  have HT2 := hide fun (w' : World) (h : Below (w.alloc (.cells #[.int .i64 l, .slice (some ⟨b2, o2, none⟩) (m + 1) c] 24)).heap.size (w.alloc (.cells #[.int .i64 l, .slice (some ⟨b2, o2, none⟩) (m + 1) c] 24)) w') => (show Calls Try.prog 13 #[.slice At nt ct, .slice Al nl cl, .agg #[.int .i64 l, .slice (some ⟨b2, o2, none⟩) m c]] w' fun e w'' => e = .returned (.tuple #[.int .i64 u', .int .i64 v']) ∧ Below w'.heap.size w' w'' from TypeOf_is (x := PlW.take ⟨l, some ⟨b2, o2, none⟩, m + 1, c, ps⟩ m) ((HP.out w' h).take (Nat.le_succ m)) HUV'.out)
  clear hb
  go_wp2_with fail
  go_region_held3 (fun w' => Below (w.alloc (.cells #[.int .i64 l, .slice (some ⟨b2, o2, none⟩) (m + 1) c] 24)).heap.size (w.alloc (.cells #[.int .i64 l, .slice (some ⟨b2, o2, none⟩) (m + 1) c] 24)) w' ∧ w'.cell? ⟨w.heap.size, 0, none⟩ = some (.int .i64 l) ∧ w'.cell? ⟨w.heap.size, 1, none⟩ = some (.slice (some ⟨b2, o2, none⟩) (m + 1) c))
    (first | exact HS.out _ (by assumption) | exact HS.out _ HB2.out | exact HS.out _ HB2.out.drew | exact HS.out _ (Below.drew (by assumption)))
    (first
      | (go_at_call 13; go_split_ands; refine (HT2.out _ (by assumption : Below (w.alloc (.cells #[.int .i64 l, .slice (some ⟨b2, o2, none⟩) (m + 1) c] 24)).heap.size (w.alloc (.cells #[.int .i64 l, .slice (some ⟨b2, o2, none⟩) (m + 1) c] 24)) _)).mono ?_; rintro e w5 ⟨rfl, hb0⟩; have hb1 := Below.trans (by assumption : Below (w.alloc (.cells #[.int .i64 l, .slice (some ⟨b2, o2, none⟩) (m + 1) c] 24)).heap.size (w.alloc (.cells #[.int .i64 l, .slice (some ⟨b2, o2, none⟩) (m + 1) c] 24)) _) (hb0.mono (Below.size (by assumption : Below (w.alloc (.cells #[.int .i64 l, .slice (some ⟨b2, o2, none⟩) (m + 1) c] 24)).heap.size (w.alloc (.cells #[.int .i64 l, .slice (some ⟨b2, o2, none⟩) (m + 1) c] 24)) _)))))
  all_goals
    go_split_ands
    have HB3 := hide (by assumption : Below (w.alloc (.cells #[.int .i64 l, .slice (some ⟨b2, o2, none⟩) (m + 1) c] 24)).heap.size (w.alloc (.cells #[.int .i64 l, .slice (some ⟨b2, o2, none⟩) (m + 1) c] 24)) w5)
    have HB3w := hide (HB0.out.trans (HB3.out.mono HB0.out.size))
    obtain ⟨_, z0, z1⟩ := HS.out _ HB3.out
  by_cases hv0 : v = 0
  rotate_left
  · have tv : (v != 0) = true := by rw [bne_iff_ne]; exact hv0
    clear hv0
    go_wp2_with fail
    refine (alive08_any _).mono ?_
    rintro e w6 ⟨rfl, hb⟩
    have HB4 := hide (HB3.out.trans (hb.mono HB3.out.size))
    clear hb
    go_wp2
    go_ret
    exact ⟨rfl, HB0.out.trans (HB4.out.mono HB0.out.size)⟩
  subst hv0
  by_cases hv1 : v' = 0
  rotate_left
  · exact absurd rfl (HL.out.1 hv1)
  subst hv1
  obtain ⟨i, t, hi, hti, hst⟩ := HL.out.2 rfl rfl
  subst hi
  obtain ⟨y, hy, hyt⟩ := tys_back hti
  subst hyt
  have hin : i < nt := by have := (List.getElem?_eq_some_iff.1 hy).1; have := HTL.out; omega
  have hin' : (i : Int) < (nt : Int) := by omega
  obtain ⟨b, o, hA, hbb, hone, c0, c1, c2, c3, c4⟩ := (HP.out _ HB3.out).typs.at_ hy
  subst hA
  obtain ⟨b2', o2', hA, hbb2, hint, d0, d1⟩ := (HP.out _ HB3.out).one.prs.at_ HP0.out
  simp only [] at hA
  injection hA with hA
  injection hA with hA1 hA2
  subst hA1 hA2
  obtain ⟨pk, pf⟩ := p
  obtain ⟨⟨kd, mu, rr, el, fs⟩, Af, nf, cf⟩ := y
  have HCASE := hide (stepT_cases ⟨kd, mu, rr, el, fs⟩ (pk, pf))
  simp only [] at c0 c1 c2 c3 c4 d0 d1
  have HST := hide hst
  have HONE := hide hone
  clear hti hy hst hone hint
  have HALL := hide fun (w' : World) (hb : Below w5.heap.size w5 w') => show w'.cell? ⟨w.heap.size, 1, none⟩ = some (.slice (some ⟨b2, o2, none⟩) (m + 1) c) ∧ w'.cell? ⟨b, o + i * 5, none⟩ = some (.int .i64 kd) ∧ w'.cell? ⟨b, o + i * 5 + 1, none⟩ = some (.bool mu) ∧ w'.cell? ⟨b, o + i * 5 + 2, none⟩ = some (.int .i64 rr) ∧ w'.cell? ⟨b, o + i * 5 + 3, none⟩ = some (.int .i64 el) ∧ w'.cell? ⟨b, o + i * 5 + 4, none⟩ = some (.slice Af nf cf) ∧ w'.cell? ⟨b2, o2 + m * 2, none⟩ = some (.int .i64 pk) ∧ w'.cell? ⟨b2, o2 + m * 2 + 1, none⟩ = some (.int .i64 pf) from
    ⟨(hb.cell (p := ⟨w.heap.size, 1, none⟩) (World.block_lt_of_cell? w5 _ z1)).trans z1, (hb.cell (p := ⟨b, o + i * 5, none⟩) hbb).trans c0, (hb.cell (p := ⟨b, o + i * 5 + 1, none⟩) hbb).trans c1, (hb.cell (p := ⟨b, o + i * 5 + 2, none⟩) hbb).trans c2, (hb.cell (p := ⟨b, o + i * 5 + 3, none⟩) hbb).trans c3, (hb.cell (p := ⟨b, o + i * 5 + 4, none⟩) hbb).trans c4, (hb.cell (p := ⟨b2, o2 + m * 2, none⟩) hbb2).trans d0, (hb.cell (p := ⟨b2, o2 + m * 2 + 1, none⟩) hbb2).trans d1⟩
  have q48 := (Below.refl w5.heap.size w5).alloc (Nat.le_refl _) (.cells #[.int .i64 0, .bool false, .int .i64 0, .int .i64 0, .slice none 0 0] 48)
  have q46 := (Below.refl w5.heap.size w5).alloc (Nat.le_refl _) (.cells #[.int .i64 0, .int .i64 0] 46)
  obtain ⟨f0, f1, f2, f3, f4, f5, f6, f7⟩ := HALL.out _ q48
  obtain ⟨g0, g1, g2, g3, g4, g5, g6, g7⟩ := HALL.out _ q46
  obtain ⟨h0, h1, h2, h3, h4, h5, h6, h7⟩ := HALL.out _ (q48.alloc q48.size (.cells #[.int .i64 0, .int .i64 0] 46))
  obtain ⟨j0, j1, j2, j3, j4, j5, j6, j7⟩ := HALL.out _ (q46.alloc q46.size (.cells #[.int .i64 0, .bool false, .int .i64 0, .int .i64 0, .slice none 0 0] 48))
  clear q48 q46
  go_wp2
  go_region
  clear f0 f1 f2 f3 f4 f5 f6 f7 g0 g1 g2 g3 g4 g5 g6 g7 h0 h1 h2 h3 h4 h5 h6 h7 j0 j1 j2 j3 j4 j5 j6 j7
  · have HBN := hide (show Below w5.heap.size w5 (((w5.alloc (.cells #[.int .i64 pk, .int .i64 pf] 46)).alloc (.cells #[.int .i64 kd, .bool mu, .int .i64 rr, .int .i64 el, .slice Af nf cf] 48)).drew) from (((Below.refl w5.heap.size w5).alloc (Nat.le_refl _) (.cells #[.int .i64 pk, .int .i64 pf] 46)).alloc (by simp) (.cells #[.int .i64 kd, .bool mu, .int .i64 rr, .int .i64 el, .slice Af nf cf] 48)).drew)
    have HNEW := hide fun (w' : World) (h : Below (((w5.alloc (.cells #[.int .i64 pk, .int .i64 pf] 46)).alloc (.cells #[.int .i64 kd, .bool mu, .int .i64 rr, .int .i64 el, .slice Af nf cf] 48)).drew).heap.size (((w5.alloc (.cells #[.int .i64 pk, .int .i64 pf] 46)).alloc (.cells #[.int .i64 kd, .bool mu, .int .i64 rr, .int .i64 el, .slice Af nf cf] 48)).drew) w') => two_new h
    have HB6 := hide (HB3.out.trans (HBN.out.mono HB3.out.size))
    rcases HCASE.out with ⟨h1, h2, h3⟩ | ⟨h1, h2, q, v, hq, hv, h3⟩ | ⟨h1, h2, h4, h3⟩ | ⟨h1, h2, h3⟩
    · have hu2 : u = el := by
        have := h3.symm.trans HST.out
        injection this with this _
        exact this.symm
      subst h1 h2 hu2
      have euu : (u == u) = true := beq_iff_eq.2 rfl
      clear h3
      go_wp2_with fail
      refine (alive08_any _).mono ?_
      rintro e w6 ⟨rfl, hb⟩
      obtain ⟨n1, n2⟩ := HNEW.out _ hb
      have y0 := cell_of_heap n2 0
      have y3 := cell_of_heap n2 3
      have x0 := cell_of_heap n1 0
      have HB7 := hide (HB6.out.trans (hb.mono HB6.out.size))
      clear hb n1 n2
      go_wp2
      go_ret
      exact ⟨rfl, HB0.out.trans (HB7.out.mono HB0.out.size)⟩
    · have hu2 : v = u := by
        have := h3.symm.trans HST.out
        injection this with this _
      subst h1 h2 hq hu2
      have hnf : fs.length = nf := HONE.out.ok.len
      have hcf : nf ≤ cf := HONE.out.ok.nc
      have hcm : cf ≤ maxLen := HONE.out.ok.cm
      unfold maxLen at hcm
      have hql := (List.getElem?_eq_some_iff.1 hv).1
      have hql' : (q : Int) < (nf : Int) := by omega
      have hq0 : (0 : Int) ≤ (q : Int) := by omega
      have hmx : max (q : Int) 0 = (q : Int) := by omega
      have euu : (v == v) = true := beq_iff_eq.2 rfl
      obtain ⟨b4, o4, hAf, hb4, f40⟩ := HONE.out.rd.int hv
      simp only [] at hAf
      subst hAf
      have HF4 := hide fun (w' : World) (h : Below w5.heap.size w5 w') => (h.cell (p := ⟨b4, o4 + q, none⟩) hb4).trans f40
      clear h3 hv f40
      go_wp2_with fail
      refine (alive08_any _).mono ?_
      rintro e w6 ⟨rfl, hb⟩
      obtain ⟨n1, n2⟩ := HNEW.out _ hb
      have y0 := cell_of_heap n2 0
      have y4 := cell_of_heap n2 4
      have x1 := cell_of_heap n1 1
      have f40 := HF4.out _ (HBN.out.trans (hb.mono HBN.out.size))
      have HB7 := hide (HB6.out.trans (hb.mono HB6.out.size))
      clear hb n1 n2
      go_wp2
      go_ret
      exact ⟨rfl, HB0.out.trans (HB7.out.mono HB0.out.size)⟩
    · have := h3.symm.trans HST.out
      injection this with _ this
      cases this
    · have := h3.symm.trans HST.out
      injection this with _ this
      cases this
  · have HBN := hide (show Below w5.heap.size w5 (((w5.alloc (.cells #[.int .i64 kd, .bool mu, .int .i64 rr, .int .i64 el, .slice Af nf cf] 48)).alloc (.cells #[.int .i64 pk, .int .i64 pf] 46)).drew) from (((Below.refl w5.heap.size w5).alloc (Nat.le_refl _) (.cells #[.int .i64 kd, .bool mu, .int .i64 rr, .int .i64 el, .slice Af nf cf] 48)).alloc (by simp) (.cells #[.int .i64 pk, .int .i64 pf] 46)).drew)
    have HNEW := hide fun (w' : World) (h : Below (((w5.alloc (.cells #[.int .i64 kd, .bool mu, .int .i64 rr, .int .i64 el, .slice Af nf cf] 48)).alloc (.cells #[.int .i64 pk, .int .i64 pf] 46)).drew).heap.size (((w5.alloc (.cells #[.int .i64 kd, .bool mu, .int .i64 rr, .int .i64 el, .slice Af nf cf] 48)).alloc (.cells #[.int .i64 pk, .int .i64 pf] 46)).drew) w') => two_new h
    have HB6 := hide (HB3.out.trans (HBN.out.mono HB3.out.size))
    rcases HCASE.out with ⟨h1, h2, h3⟩ | ⟨h1, h2, q, v, hq, hv, h3⟩ | ⟨h1, h2, h4, h3⟩ | ⟨h1, h2, h3⟩
    · have hu2 : u = el := by
        have := h3.symm.trans HST.out
        injection this with this _
        exact this.symm
      subst h1 h2 hu2
      have euu : (u == u) = true := beq_iff_eq.2 rfl
      clear h3
      go_wp2_with fail
      refine (alive08_any _).mono ?_
      rintro e w6 ⟨rfl, hb⟩
      obtain ⟨n1, n2⟩ := HNEW.out _ hb
      have y0 := cell_of_heap n1 0
      have y3 := cell_of_heap n1 3
      have x0 := cell_of_heap n2 0
      have HB7 := hide (HB6.out.trans (hb.mono HB6.out.size))
      clear hb n1 n2
      go_wp2
      go_ret
      exact ⟨rfl, HB0.out.trans (HB7.out.mono HB0.out.size)⟩
    · have hu2 : v = u := by
        have := h3.symm.trans HST.out
        injection this with this _
      subst h1 h2 hq hu2
      have hnf : fs.length = nf := HONE.out.ok.len
      have hcf : nf ≤ cf := HONE.out.ok.nc
      have hcm : cf ≤ maxLen := HONE.out.ok.cm
      unfold maxLen at hcm
      have hql := (List.getElem?_eq_some_iff.1 hv).1
      have hql' : (q : Int) < (nf : Int) := by omega
      have hq0 : (0 : Int) ≤ (q : Int) := by omega
      have hmx : max (q : Int) 0 = (q : Int) := by omega
      have euu : (v == v) = true := beq_iff_eq.2 rfl
      obtain ⟨b4, o4, hAf, hb4, f40⟩ := HONE.out.rd.int hv
      simp only [] at hAf
      subst hAf
      have HF4 := hide fun (w' : World) (h : Below w5.heap.size w5 w') => (h.cell (p := ⟨b4, o4 + q, none⟩) hb4).trans f40
      clear h3 hv f40
      go_wp2_with fail
      refine (alive08_any _).mono ?_
      rintro e w6 ⟨rfl, hb⟩
      obtain ⟨n1, n2⟩ := HNEW.out _ hb
      have y0 := cell_of_heap n1 0
      have y4 := cell_of_heap n1 4
      have x1 := cell_of_heap n2 1
      have f40 := HF4.out _ (HBN.out.trans (hb.mono HBN.out.size))
      have HB7 := hide (HB6.out.trans (hb.mono HB6.out.size))
      clear hb n1 n2
      go_wp2
      go_ret
      exact ⟨rfl, HB0.out.trans (HB7.out.mono HB0.out.size)⟩
    · have := h3.symm.trans HST.out
      injection this with _ this
      cases this
    · have := h3.symm.trans HST.out
      injection this with _ this
      cases this

set_option maxHeartbeats 4000000 in
set_option maxRecDepth 100000 in
theorem walk (At : Option Addr) (nt ct : Nat) (L : List TyW) (Al : Option Addr) (nl cl : Nat) (LL : List LcW) (x : PlW) (w : World) (hT : ArgY w At nt ct L) (hL : ArgL w Al nl cl LL) (hx : OnePl w w.heap.size x) :
    Calls Try.prog 8 #[.slice At nt ct, .slice Al nl cl, aggPl x] w fun e w' => e = .returned (.bool true) ∧ Below w.heap.size w w' := by
  obtain ⟨l, A, n, c, ps⟩ := x
  cases n with
  | succ m =>
    have hlen : ps.length = m + 1 := hx.prs.len
    obtain ⟨p, hp⟩ : ∃ p, ps[m]? = some p := ⟨_, List.getElem?_eq_getElem (by omega)⟩
    obtain ⟨b2, o2, hA, _, _, _, _⟩ := hx.prs.at_ hp
    simp only [] at hA
    subst hA
    exact walk_some At nt ct L Al nl cl LL l b2 o2 m c ps p w hT hL hx hp
  | zero =>
    have hB0 := (Below.refl w.heap.size w).alloc (Nat.le_refl _) (.cells #[.int .i64 l, .slice A 0 c] 24)
    have HB0 := hide hB0
    have HSK := hide (skip8_any At Al nt ct nl cl L LL _ (hT.typs.up hB0) (hL.locs.up hB0) (Nat.le_trans hT.nc hT.cm) hT.nc (Nat.le_trans hL.nc hL.cm))
    clear hT hL hx hB0
    go_enter Try.func8, Try.ntmps8
    go_wp2_with fail
    refine HSK.out.mono ?_
    rintro e w1 ⟨⟨b, rfl, hsk⟩, hb⟩
    have HB1 := hide (HB0.out.trans (hb.mono HB0.out.size))
    clear hb hsk
    cases b
    · go_wp2_with fail
      refine (alive08_any _).mono ?_
      rintro e w2 ⟨rfl, hb⟩
      have HB2 := hide (HB1.out.trans (hb.mono HB1.out.size))
      clear hb
      go_wp2
      go_ret
      exact ⟨rfl, HB2.out⟩
    · go_wp2_with fail
      refine (alive08_any _).mono ?_
      rintro e w2 ⟨rfl, hb⟩
      have HB2 := hide (HB1.out.trans (hb.mono HB1.out.size))
      clear hb
      go_wp2
      go_ret
      exact ⟨rfl, HB2.out⟩

theorem own : ownKnob Try.prog.godebug = none := by kernel_rfl
theorem laidOut : laidOutB Try.prog = true := by kernel_rfl

set_option maxRecDepth 100000 in
/-- what the walk gives, for every argument that can be read -/
theorem contract (H : Type) (enc : TypeId × Value → H) (W : World) (base : Nat) (args : Array Value) (ds gs : List (DataW H)) (before : List MemPlace)
    (hval0 : ∀ (j : Nat) t v, Try.f8.params[j]? = some t → args[j]? = some v → Value.okWide Try.prog W .any base t v)
    (hW : DataW.Whole enc Try.prog Try.f8.params.toList Rows.placesProjectSpec.vars false W args.toList ds gs before) :
    Calls Try.prog 8 args W fun e W' => ∃ v, e = .returned v ∧ Rows.placesProjectSpec.post enc Try.prog Try.f8 false true false false W args v W' := by
  have hval : ∀ (j : Nat) t v, Try.f8.params[j]? = some t → args[j]? = some v → Value.okWide Try.prog W .any base t v := hval0
  have hW' := hW
  obtain ⟨p, q, hA0, hV, rfl, hfz, hnd⟩ := hW
  have hA : DataW.TrodAll enc Try.prog W 0 (fun _ => true) true Try.f8.params.toList args.toList ds p := hA0
  rw [Try.params8] at hA hval
  obtain ⟨v0, vs0, d0, ds0, p0, q0, hargs, rfl, rfl, h0, r0⟩ := trodAll_cons hA
  obtain ⟨v1, vs1, d1, ds1, p1, q1, rfl, rfl, rfl, h1, r1⟩ := trodAll_cons r0
  obtain ⟨v2, vs2, d2, ds2, p2, q2, rfl, rfl, rfl, h2, r2⟩ := trodAll_cons r1
  obtain ⟨rfl, rfl, rfl⟩ := trodAll_nil r2
  obtain rfl : args = #[v0, v1, v2] := by cases args; simp_all
  obtain ⟨rfl, rfl⟩ := trodVars_none hV
  have k0 := h0
  have lt0 : ∀ x ∈ p0, x.block < W.heap.size := by obtain ⟨m, hm⟩ := k0; exact DataW.trod_lt m _ _ _ hm
  obtain ⟨A0, n0, c0, xs0, rfl, g0⟩ := openTyps Try.underlying30 Try.underlying48 rfl (by kernel_rfl) (by kernel_rfl) Try.underlying3 Try.underlying4 Try.underlying3 Try.underlying3 Try.underlying39 Try.underlying3 (by kernel_rfl) (hval 0 30 v0 rfl rfl) h0
  have k1 := h1
  have lt1 : ∀ x ∈ p1, x.block < W.heap.size := by obtain ⟨m, hm⟩ := k1; exact DataW.trod_lt m _ _ _ hm
  obtain ⟨A1, n1, c1, xs1, rfl, g1⟩ := openLocs Try.underlying31 Try.underlying50 (by kernel_rfl) (by kernel_rfl) Try.underlying9 Try.underlying3 (hval 1 31 v1 rfl rfl) h1
  have k2 := h2
  have lt2 : ∀ x ∈ p2, x.block < W.heap.size := by obtain ⟨m, hm⟩ := k2; exact DataW.trod_lt m _ _ _ hm
  obtain ⟨x2, rfl, g2⟩ := openPlace Try.underlying24 (by kernel_rfl) (by kernel_rfl) Try.underlying3 Try.underlying22 Try.underlying46 (by kernel_rfl) (by kernel_rfl) Try.underlying3 Try.underlying3 (hval 2 24 v2 rfl rfl) h2
  clear hA0 hval0
  simp only [List.append_nil] at hW'
  refine (walk A0 n0 c0 xs0 A1 n1 c1 xs1 x2 W g0 g1 g2).mono fun e W' ⟨he, bel⟩ => ?_
  subst he
  exact ⟨_, rfl, _, _, _, [], _, [], hW', trodAll_mk1 (shut_bool Try.underlying4 _), (trodAll_cons_mk (Below.trod laidOut (by kernel_rfl) (of_decide_eq_true (by kernel_rfl)) k0 bel lt0) (trodAll_cons_mk (Below.trod laidOut (by kernel_rfl) (of_decide_eq_true (by kernel_rfl)) k1 bel lt1) (trodAll_cons_mk (Below.trod laidOut (by kernel_rfl) (of_decide_eq_true (by kernel_rfl)) k2 bel lt2) trodAll_mk0))), rfl, bel.frame _, fun h => by cases h⟩

set_option maxRecDepth 100000 in
theorem lifted (os : Os) (started : os.Started) (H : Type) (enc : TypeId × Value → H) :
    ReturnsInHanded {} Try.checked os 8 .any (Rows.placesProjectSpec.pre6 enc Try.prog Try.f8 Rows.placesProjectRow.domain false) (Rows.placesProjectSpec.post enc Try.prog Try.f8 false true false false) := by
  refine returnsInHanded_of_change (C := Try.checked) own started (by kernel_rfl) Try.func8
    (ChangeSpec.witness6 (enc := enc) (C := Try.checked) false ⟨#[], #[.slice none 0 0, .slice none 0 0, .agg #[.int .i64 0, .slice none 0 0]], []⟩ 8 (by kernel_rfl) (by kernel_rfl) (by kernel_rfl) (by kernel_rfl)) ?_
  intro W base args ds gs before hval hW _ _
  exact contract H enc W base args ds gs before hval hW

/-- the statement -/
theorem proved : Rows.PlacesProjectSaid :=
  OpenClaim.holds_of_wide 8 Try.f8 rfl rfl rfl rfl rfl rfl rfl ⟨rfl, rfl, rfl, rfl, rfl⟩ rfl rfl rfl rfl rfl (by kernel_rfl) Try.func8 (by kernel_rfl)
    (of_decide_eq_true (by kernel_rfl)) (by unfold Func.isWrapper; first | (rw [if_pos (by decide +kernel)]; kernel_rfl) | (rw [if_neg (by decide +kernel)]; exact ⟨rfl, rfl⟩))
    (fun os started H enc _ => lifted os started H enc)
end Go.Proofs.Ytphfiohjkjipiaa.placesProject
