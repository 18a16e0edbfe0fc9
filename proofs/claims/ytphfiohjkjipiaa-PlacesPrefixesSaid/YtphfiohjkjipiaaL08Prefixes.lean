/- PlacesPrefixes: for every input the law returns true, and turns nothing that lay. No condition. -/
import Derived.Test.YtphfiohjkjipiaaRows
import Derived.Test.YtphfiohjkjipiaaOpenL
import Derived.Test.YtphfiohjkjipiaaOpenY
import Derived.Test.YtphfiohjkjipiaaAlive08
import Derived.Test.YtphfiohjkjipiaaLaw08
import Derived.Test.YtphfiohjkjipiaaPlaH
import Derived.BigRegion
namespace Go.Proofs.Ytphfiohjkjipiaa.placesPrefixes
open Go.ChangeShapes Go.WideShapes Go.ChangeAt Go.ChangeMaps Go.RowKit
set_option linter.unusedVariables false

/-! ### the references along a part of the way -/
def regK (T : List Ty) (t : Int) (ps : List Pr) (j : Nat) : List Int := (refTo T T t ps j).map Ty.region
def mutK (T : List Ty) (t : Int) (ps : List Pr) (j : Nat) : Bool := (refTo T T t ps j).all Ty.mut_
/-- the answer of the round before -/
def lastK (T : List Ty) (t : Int) (ps : List Pr) : Nat → Bool
  | 0 => true
  | j + 1 => mutK T t ps j
theorem lastK_of {T : List Ty} {t : Int} {ps : List Pr} {j : Nat} (h : mutK T t ps j = true) : lastK T t ps j = true := by
  cases j with
  | zero => rfl
  | succ j =>
    show mutK T t ps j = true
    unfold mutK at h ⊢
    rw [refTo_up, List.all_append, Bool.and_eq_true] at h
    exact h.1
theorem regK_pre (T : List Ty) (t : Int) (ps : List Pr) {j n : Nat} (h : j ≤ n) : ∃ r, regK T t ps n = regK T t ps j ++ r := by
  obtain ⟨r, hr⟩ := refTo_pre (G := T) (T := T) (t := t) (ps := ps) h
  exact ⟨r.map Ty.region, by unfold regK; rw [hr, List.map_append]⟩
theorem regK_eq (T : List Ty) (t : Int) (ps : List Pr) {j n m : Nat} (h : j ≤ n) (hm : (regK T t ps j).length = m) : eqIs (regK T t ps j) ((regK T t ps n).take m) = true := by
  obtain ⟨r, hr⟩ := regK_pre T t ps h
  rw [eqIs_iff, hr, ← hm, List.take_left]
theorem regK_le (T : List Ty) (t : Int) (ps : List Pr) {j n : Nat} (h : j ≤ n) : (regK T t ps j).length ≤ (regK T t ps n).length := by
  obtain ⟨r, hr⟩ := regK_pre T t ps h
  rw [hr, List.length_append]
  omega
/-- what holds of a part of a place that has a type -/
theorem part_of {T : List Ty} {lc : List Int} {l : Int} {ps : List Pr} {u : Int} (h : tyOfP T lc l ps = (u, 0)) : ∃ t, ∀ j, j ≤ ps.length → (∃ u', tyOfP T lc l (ps.take j) = (u', 0)) ∧ regP T lc l (ps.take j) = regK T t ps j ∧ mutP T lc l (ps.take j) = mutK T t ps j := by
  obtain ⟨hp0, k, t0, hk, ht, hg⟩ := tyOfP_zero (by rw [h])
  refine ⟨t0, fun j hj => ?_⟩
  have hst : Stp T t0 ps ps.length := ⟨Nat.le_refl _, by unfold erA; rw [goL_take_all, ← hg, h]⟩
  have hm := hst.down hj
  have hg2 : tyOfP T lc l (ps.take j) = (tyA T t0 ps j, 0) := by
    rw [tyOfP_in (plErr_take hp0 j) hk ht]
    have := hm.ok
    unfold erA at this
    unfold tyA
    rw [← this]
  have hr : refP T lc l (ps.take j) = refTo T T t0 ps j := by
    unfold refP
    rw [hg2, if_pos rfl, hk, Int.toNat_natCast, List.getD_eq_getElem?_getD, ht, List.length_take, Nat.min_eq_left hj]
    exact refTo_take (Nat.le_refl _)
  refine ⟨⟨_, hg2⟩, ?_, ?_⟩
  · unfold regP regK; rw [hr]
  · unfold mutP mutK; rw [hg2, hr]; simp
theorem Rd_take8 {w : World} {B : Nat} {A : Option Addr} {n : Nat} {xs : List Int} (h : Rd w B A n (i64s xs)) {k : Nat} (hk : k ≤ n) : Rd w B A k (i64s (xs.take k)) := by
  have := h.to_ hk
  rwa [← List.map_take] at this

set_option maxHeartbeats 8000000 in
set_option maxRecDepth 100000 in
theorem walk (At : Option Addr) (nt ct : Nat) (L : List TyW) (Al : Option Addr) (nl cl : Nat) (LL : List LcW) (x : PlW) (w : World) (hT : ArgY w At nt ct L) (hL : ArgL w Al nl cl LL) (hx : OnePl w w.heap.size x) :
    Calls Try.prog 7 #[.slice At nt ct, .slice Al nl cl, aggPl x] w fun e w' => e = .returned (.bool true) ∧ Below w.heap.size w w' := by
  have hB0 := (Below.refl w.heap.size w).alloc (Nat.le_refl _) (.cells #[.int .i64 x.l, .slice x.A x.n x.c] 24)
  have HB0 := hide hB0
  have HBX := hide (heap_alloc_new w (.cells #[.int .i64 x.l, .slice x.A x.n x.c] 24))
  have HSK := hide (skip8_any At Al nt ct nl cl L LL _ (hT.typs.up hB0) (hL.locs.up hB0) (Nat.le_trans hT.nc hT.cm) hT.nc (Nat.le_trans hL.nc hL.cm))
  have HPL := hide fun (w' : World) (hb : Below w.heap.size w w') (hok : TyOk (tys L) 1000) (hlc : LcOk (tys L) (lcs LL)) => (show Pl8 w' At Al nt nl L LL x 1000 from ⟨hT.typs.up hb, hL.locs.up hb, hx.up hb, Nat.le_trans hT.nc hT.cm, Nat.le_trans hL.nc hL.cm, hok, hlc⟩)
  obtain ⟨u, v, huv⟩ : ∃ u v, tyOfP (tys L) (lcs LL) x.l x.ps = (u, v) := ⟨_, _, rfl⟩
  have HUV := hide huv
  have hpl : x.ps.length = x.n := hx.prs.len
  have HPLN := hide hpl
  obtain ⟨l, A, n, c, ps⟩ := x
  have hnx : n ≤ maxLen := Nat.le_trans hx.nc hx.cm
  have hnc : n ≤ c := hx.nc
  have hcm : c ≤ maxLen := hx.cm
  unfold maxLen at hnx hcm
  have HS := hide fun w' (h : Below (w.alloc (.cells #[.int .i64 l, .slice A n c] 24)).heap.size (w.alloc (.cells #[.int .i64 l, .slice A n c] 24)) w') => show Below (w.alloc (.cells #[.int .i64 l, .slice A n c] 24)).heap.size (w.alloc (.cells #[.int .i64 l, .slice A n c] 24)) w' ∧ w'.cell? ⟨w.heap.size, 0, none⟩ = some (.int .i64 l) ∧ w'.cell? ⟨w.heap.size, 1, none⟩ = some (.slice A n c) from
    ⟨h, cell_of_heap ((h.block w.heap.size (by simp)).trans HBX.out) 0, cell_of_heap ((h.block w.heap.size (by simp)).trans HBX.out) 1⟩
  clear hT hL hx hB0 huv hpl
  go_enter Try.func7, Try.ntmps7
  go_wp2_with fail
  refine HSK.out.mono ?_
  rintro e w1 ⟨⟨b, rfl, hsk⟩, hb⟩
  have HB1 := hide (show Below (w.alloc (.cells #[.int .i64 l, .slice A n c] 24)).heap.size (w.alloc (.cells #[.int .i64 l, .slice A n c] 24)) w1 from hb)
  have HSKK := hide hsk
  obtain ⟨_, z0, z1⟩ := HS.out _ HB1.out
  clear hb hsk
  cases b
  rotate_left
  · go_wp2_with fail
    refine (alive08_any _).mono ?_
    rintro e w2 ⟨rfl, hb⟩
    have HB2 := hide (HB1.out.trans (hb.mono HB1.out.size))
    clear hb
    go_wp2
    go_ret
    exact ⟨rfl, HB0.out.trans (HB2.out.mono HB0.out.size)⟩
  by_cases hn : 100 < n
  · have hn' : (100 : Int) < (n : Int) := by omega
    go_wp2_with fail
    refine (alive08_any _).mono ?_
    rintro e w2 ⟨rfl, hb⟩
    have HB2 := hide (HB1.out.trans (hb.mono HB1.out.size))
    clear hb
    go_wp2
    go_ret
    exact ⟨rfl, HB0.out.trans (HB2.out.mono HB0.out.size)⟩
  have hn' : (n : Int) ≤ 100 := by omega
  have HP := hide fun (w' : World) (h : Below (w.alloc (.cells #[.int .i64 l, .slice A n c] 24)).heap.size (w.alloc (.cells #[.int .i64 l, .slice A n c] 24)) w') => HPL.out w' (HB0.out.trans (h.mono HB0.out.size)) (HSKK.out (by trivial)).2.2.1 (HSKK.out (by trivial)).2.2.2
  clear hn
  by_cases hv0 : v = 0
  rotate_left
  · have tv : (v != 0) = true := by rw [bne_iff_ne]; exact hv0
    clear hv0
    go_wp2_with fail
    refine (RTypeOf_is (HP.out _ HB1.out) HUV.out).mono ?_
    rintro e w2 ⟨rfl, hb⟩
    have HB2 := hide (HB1.out.trans (hb.mono HB1.out.size))
    clear hb
    go_wp2_with fail
    refine (alive08_any _).mono ?_
    rintro e w3 ⟨rfl, hb⟩
    have HB3 := hide (HB2.out.trans (hb.mono HB2.out.size))
    clear hb
    go_wp2
    go_ret
    exact ⟨rfl, HB0.out.trans (HB3.out.mono HB0.out.size)⟩
  subst hv0
  obtain ⟨t0, hpart⟩ := part_of HUV.out
  have HPART := hide hpart
  clear hpart
  go_wp2_with fail
  refine (RTypeOf_is (HP.out _ HB1.out) HUV.out).mono ?_
  rintro e w2 ⟨rfl, hb⟩
  have HB2 := hide (HB1.out.trans (hb.mono HB1.out.size))
  obtain ⟨_, z0, z1⟩ := HS.out _ HB2.out
  have HREG := hide (RegionsP_any (ct := ct) (cl := cl) (HP.out _ HB2.out))
  have hall := (HPART.out ps.length (Nat.le_refl _)).2.1
  rw [List.take_length] at hall
  rw [show regP (tys L) (lcs LL) l ps = regK (tys L) t0 ps n from by rw [hall, show ps.length = n from HPLN.out]] at HREG
  clear hb hall
  go_wp2_with fail
  refine HREG.out.mono ?_
  rintro e w3 ⟨Aa, ma, ca, rfl, hma, hmca, hca, hown, hb⟩
  have HB3 := hide (HB2.out.trans (hb.mono HB2.out.size))
  obtain ⟨_, z0, z1⟩ := HS.out _ HB3.out
  have HRA := hide (Rd.of_own hown)
  have HMA := hide (Rd.of_own hown).ilen
  unfold maxLen at hca
  have hwr : IntKind.i64.wrap ((n : Int) + 1) = (n : Int) + 1 := wrapI8 _ (by omega) (by omega)
  clear hb hown HREG
  go_wp2
  go_loopw [10, 45] (fun v i wr => ∃ j : Nat, v = .bool (lastK (tys L) t0 ps j) ∧ i = .int .i64 (j : Int) ∧ j ≤ n + 1 ∧ Below w3.heap.size w3 wr) (fun _ i _ => n + 1 - (intOf i).toNat)
  case atStart => exact ⟨0, rfl, rfl, Nat.zero_le _, Below.refl _ _⟩
  case round =>
    obtain ⟨j, rfl, rfl, hj, hb⟩ := hrel
    have HBr := hide (HB3.out.trans (hb.mono HB3.out.size))
    have HBr3 := hide hb
    obtain ⟨_, z0, z1⟩ := HS.out _ HBr.out
    clear hb
    by_cases hlt : j ≤ n
    · have hlt' : (j : Int) < (n : Int) + 1 := by omega
      have hjc : j ≤ c := by omega
      have hjc' : (j : Int) ≤ (c : Int) := by omega
      have hj0 : (0 : Int) ≤ (j : Int) := by omega
      obtain ⟨⟨u', huj⟩, hrj, hmj⟩ := HPART.out j (show j ≤ ps.length by have : ps.length = n := HPLN.out; omega)
      have HUJ := hide huj
      have HMJ := hide hmj
      have HRJ := hide hrj
      have q1 := (Below.refl wr.heap.size wr).alloc (Nat.le_refl _) (.cells #[.int .i64 0, .slice none 0 0] 24)
      obtain ⟨_, y0, y1⟩ := HS.out _ (HBr.out.trans (q1.mono HBr.out.size))
      have HQA := hide ((Below.refl wr.heap.size wr).alloc (Nat.le_refl _) (.cells #[.int .i64 l, .slice A j c] 24)).drew
      have HQB := hide fun (w' : World) (h : Below ((wr.alloc (.cells #[.int .i64 l, .slice A j c] 24)).drew).heap.size ((wr.alloc (.cells #[.int .i64 l, .slice A j c] 24)).drew) w') => (h.block wr.heap.size (by show wr.heap.size < (wr.alloc (.cells #[.int .i64 l, .slice A j c] 24)).heap.size; simp)).trans (show ((wr.alloc (.cells #[.int .i64 l, .slice A j c] 24)).drew).heap[wr.heap.size]? = some (.cells #[.int .i64 l, .slice A j c] 24) from heap_alloc_new wr _)
      have HB4 := hide (HBr.out.trans (HQA.out.mono HBr.out.size))
      have HPJ := hide fun (w' : World) (h : Below (w.alloc (.cells #[.int .i64 l, .slice A n c] 24)).heap.size (w.alloc (.cells #[.int .i64 l, .slice A n c] 24)) w') => (show Pl8 w' At Al nt nl L LL ⟨l, A, j, c, ps.take j⟩ 1000 from (HP.out w' h).take hlt)
      have x0 := cell_of_heap (HQB.out _ (Below.refl _ _)) 0
      have x1 := cell_of_heap (HQB.out _ (Below.refl _ _)) 1
      clear q1 huj hmj hrj
      go_wp2
      go_region
      go_wp2_with fail
      refine (TypeOf_is (HPJ.out _ HB4.out) HUJ.out).mono ?_
      rintro e w5 ⟨rfl, hb⟩
      have HQ5 := hide hb
      have HB5 := hide (HB4.out.trans (hb.mono HB4.out.size))
      have x0 := cell_of_heap (HQB.out _ HQ5.out) 0
      have x1 := cell_of_heap (HQB.out _ HQ5.out) 1
      have HRG5 := hide (RegionsP_any (ct := ct) (cl := cl) (HPJ.out _ HB5.out))
      rw [show regP (tys L) (lcs LL) l (ps.take j) = regK (tys L) t0 ps j from HRJ.out] at HRG5
      clear hb
      go_wp2_with fail
      refine HRG5.out.mono ?_
      rintro e w6 ⟨Ak, mk, ck, rfl, hmk, hmck, hck, hown, hb⟩
      have HQ6 := hide (HQ5.out.trans (hb.mono HQ5.out.size))
      have HB6 := hide (HB5.out.trans (hb.mono HB5.out.size))
      have x0 := cell_of_heap (HQB.out _ HQ6.out) 0
      have x1 := cell_of_heap (HQB.out _ HQ6.out) 1
      have HRK := hide (Rd.of_own hown)
      have hmkl := (Rd.of_own hown).ilen
      obtain ⟨b1, hb1⟩ : ∃ b, mutK (tys L) t0 ps j = b := ⟨_, rfl⟩
      have HMK := hide (HMJ.out.trans hb1)
      have HLK := hide (show b1 = true → lastK (tys L) t0 ps j = true from fun h => lastK_of (hb1.trans h))
      have HLN := hide (show lastK (tys L) t0 ps (j + 1) = b1 from hb1)
      have HEQ := hide (regK_eq (tys L) t0 ps hlt hmkl)
      have hle := regK_le (tys L) t0 ps hlt
      rw [hmkl, HMA.out] at hle
      have hle1 : (mk : Int) ≤ (ma : Int) := by omega
      have hle2 : (mk : Int) ≤ (ca : Int) := by omega
      have hle3 : mk ≤ ca := by omega
      have hmk0 : (0 : Int) ≤ (mk : Int) := by omega
      clear hb hown hmkl hb1 HRG5
      go_wp2_with fail
      refine (Mutable_is (HPJ.out _ HB6.out) HMK.out).mono ?_
      rintro e w7 ⟨rfl, hb⟩
      have HQ7 := hide (HQ6.out.trans (hb.mono HQ6.out.size))
      have HB7 := hide (HB6.out.trans (hb.mono HB6.out.size))
      have HR7 := hide (HRK.out.below hb)
      have HA7 := hide (Rd_take8 ((HRA.out.below (HBr3.out.trans ((HQA.out.trans (HQ7.out.mono HQA.out.size)).mono HBr3.out.size)))) hle)
      clear hb
      go_wp2_with fail
      refine (EqI_is8 HEQ.out HR7.out HA7.out (by unfold maxLen; omega) (by unfold maxLen; omega)).mono ?_
      rintro e w8 ⟨rfl, hb⟩
      have HQ8 := hide (HQ7.out.trans (hb.mono HQ7.out.size))
      have HB8 := hide (HB7.out.trans (hb.mono HB7.out.size))
      have x0 := cell_of_heap (HQB.out _ HQ8.out) 0
      have x1 := cell_of_heap (HQB.out _ HQ8.out) 1
      obtain ⟨_, z0, z1⟩ := HS.out _ HB8.out
      have HPRE := hide (IsPrefix_is (x := ⟨l, A, j, c, ps.take j⟩) (y := ⟨l, A, n, c, ps⟩) (v := true) (prePl_iff.2 ⟨rfl, List.take_prefix j ps⟩) w8 (HPJ.out _ HB8.out).one (HP.out _ HB8.out).one)
      clear hb
      cases b1
      · go_wp2_with fail
        refine HPRE.out.mono ?_
        rintro e w9 ⟨rfl, hb⟩
        have HB9 := hide ((HBr3.out.trans (HQA.out.mono HBr3.out.size)).trans ((HQ8.out.trans (hb.mono HQ8.out.size)).mono (HBr3.out.trans (HQA.out.mono HBr3.out.size)).size))
        clear hb
        go_wp2
        go_roundw
        case rel => exact ⟨j + 1, by rw [HLN.out], by go_num, by omega, HB9.out⟩
        case measure => simp [intOf]; omega
      · have hlast := HLK.out (by trivial)
        rw [hlast]
        go_wp2_with fail
        refine HPRE.out.mono ?_
        rintro e w9 ⟨rfl, hb⟩
        have HB9 := hide ((HBr3.out.trans (HQA.out.mono HBr3.out.size)).trans ((HQ8.out.trans (hb.mono HQ8.out.size)).mono (HBr3.out.trans (HQA.out.mono HBr3.out.size)).size))
        clear hb
        go_wp2
        go_roundw
        case rel => exact ⟨j + 1, by rw [HLN.out], by go_num, by omega, HB9.out⟩
        case measure => simp [intOf]; omega
    · obtain rfl : j = n + 1 := by omega
      go_wp2_with fail
      refine (alive08_any _).mono ?_
      rintro e w5 ⟨rfl, hb⟩
      have HB5 := hide (HBr.out.trans (hb.mono HBr.out.size))
      clear hb
      go_wp2
      go_ret
      exact ⟨rfl, HB0.out.trans (HB5.out.mono HB0.out.size)⟩

theorem own : ownKnob Try.prog.godebug = none := by kernel_rfl
theorem laidOut : laidOutB Try.prog = true := by kernel_rfl

set_option maxRecDepth 100000 in
/-- what the walk gives, for every argument that can be read -/
theorem contract (H : Type) (enc : TypeId × Value → H) (W : World) (base : Nat) (args : Array Value) (ds gs : List (DataW H)) (before : List MemPlace)
    (hval0 : ∀ (j : Nat) t v, Try.f7.params[j]? = some t → args[j]? = some v → Value.okWide Try.prog W .any base t v)
    (hW : DataW.Whole enc Try.prog Try.f7.params.toList Rows.placesPrefixesSpec.vars false W args.toList ds gs before) :
    Calls Try.prog 7 args W fun e W' => ∃ v, e = .returned v ∧ Rows.placesPrefixesSpec.post enc Try.prog Try.f7 false true false false W args v W' := by
  have hval : ∀ (j : Nat) t v, Try.f7.params[j]? = some t → args[j]? = some v → Value.okWide Try.prog W .any base t v := hval0
  have hW' := hW
  obtain ⟨p, q, hA0, hV, rfl, hfz, hnd⟩ := hW
  have hA : DataW.TrodAll enc Try.prog W 0 (fun _ => true) true Try.f7.params.toList args.toList ds p := hA0
  rw [Try.params7] at hA hval
  obtain ⟨v0, vs0, d0, ds0, p0, q0, hargs, rfl, rfl, h0, r0⟩ := trodAll_cons hA
  obtain ⟨v1, vs1, d1, ds1, p1, q1, rfl, rfl, rfl, h1, r1⟩ := trodAll_cons r0
  obtain ⟨v2, vs2, d2, ds2, p2, q2, rfl, rfl, rfl, h2, r2⟩ := trodAll_cons r1
  obtain ⟨rfl, rfl, rfl⟩ := trodAll_nil r2
  obtain rfl : args = #[v0, v1, v2] := by cases args; simp_all
  obtain ⟨rfl, rfl⟩ := trodVars_none hV
  have k0 := h0
  have lt0 : ∀ x ∈ p0, x.block < W.heap.size := by obtain ⟨m, hm⟩ := k0; exact DataW.trod_lt m _ _ _ hm
  obtain ⟨A0, n0, c0, xs0, rfl, g0⟩ := openTyps Try.underlying30 Try.underlying48 rfl (by kernel_rfl) (by kernel_rfl) Try.underlying3 Try.underlying4 Try.underlying3 Try.underlying3 Try.underlying39 Try.underlying3 (by kernel_rfl) (hval 0 30 v0 rfl rfl) h0
  have k1 := h1
  have lt1 : ∀ x ∈ p1, x.block < W.heap.size := by obtain ⟨m, hm⟩ := k1; exact DataW.trod_lt m _ _ _ hm
  obtain ⟨A1, n1, c1, xs1, rfl, g1⟩ := openLocs Try.underlying31 Try.underlying50 (by kernel_rfl) (by kernel_rfl) Try.underlying9 Try.underlying3 (hval 1 31 v1 rfl rfl) h1
  have k2 := h2
  have lt2 : ∀ x ∈ p2, x.block < W.heap.size := by obtain ⟨m, hm⟩ := k2; exact DataW.trod_lt m _ _ _ hm
  obtain ⟨x2, rfl, g2⟩ := openPlace Try.underlying24 (by kernel_rfl) (by kernel_rfl) Try.underlying3 Try.underlying22 Try.underlying46 (by kernel_rfl) (by kernel_rfl) Try.underlying3 Try.underlying3 (hval 2 24 v2 rfl rfl) h2
  clear hA0 hval0
  simp only [List.append_nil] at hW'
  refine (walk A0 n0 c0 xs0 A1 n1 c1 xs1 x2 W g0 g1 g2).mono fun e W' ⟨he, bel⟩ => ?_
  subst he
  exact ⟨_, rfl, _, _, _, [], _, [], hW', trodAll_mk1 (shut_bool Try.underlying4 _), (trodAll_cons_mk (Below.trod laidOut (by kernel_rfl) (of_decide_eq_true (by kernel_rfl)) k0 bel lt0) (trodAll_cons_mk (Below.trod laidOut (by kernel_rfl) (of_decide_eq_true (by kernel_rfl)) k1 bel lt1) (trodAll_cons_mk (Below.trod laidOut (by kernel_rfl) (of_decide_eq_true (by kernel_rfl)) k2 bel lt2) trodAll_mk0))), rfl, bel.frame _, fun h => by cases h⟩

set_option maxRecDepth 100000 in
theorem lifted (os : Os) (started : os.Started) (H : Type) (enc : TypeId × Value → H) :
    ReturnsInHanded {} Try.checked os 7 .any (Rows.placesPrefixesSpec.pre6 enc Try.prog Try.f7 Rows.placesPrefixesRow.domain false) (Rows.placesPrefixesSpec.post enc Try.prog Try.f7 false true false false) := by
  refine returnsInHanded_of_change (C := Try.checked) own started (by kernel_rfl) Try.func7
    (ChangeSpec.witness6 (enc := enc) (C := Try.checked) false ⟨#[], #[.slice none 0 0, .slice none 0 0, .agg #[.int .i64 0, .slice none 0 0]], []⟩ 8 (by kernel_rfl) (by kernel_rfl) (by kernel_rfl) (by kernel_rfl)) ?_
  intro W base args ds gs before hval hW _ _
  exact contract H enc W base args ds gs before hval hW

/-- the statement -/
theorem proved : Rows.PlacesPrefixesSaid :=
  OpenClaim.holds_of_wide 7 Try.f7 rfl rfl rfl rfl rfl rfl rfl ⟨rfl, rfl, rfl, rfl, rfl⟩ rfl rfl rfl rfl rfl (by kernel_rfl) Try.func7 (by kernel_rfl)
    (of_decide_eq_true (by kernel_rfl)) (by unfold Func.isWrapper; first | (rw [if_pos (by decide +kernel)]; kernel_rfl) | (rw [if_neg (by decide +kernel)]; exact ⟨rfl, rfl⟩))
    (fun os started H enc _ => lifted os started H enc)
end Go.Proofs.Ytphfiohjkjipiaa.placesPrefixes
