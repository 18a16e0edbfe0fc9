/- CrcIsLinear: for every input the law returns true, and turns nothing that lay. No condition. -/
import Derived.Test.YtcmcjpimophpeaaRows
import Derived.Test.YtcmcjpimophpeaaAlive02
import Derived.Test.YtcmcjpimophpeaaOpen
import Derived.StillTailTactics
import Derived.Deep.RegionHeld3
namespace Go.Proofs.Ytcmcjpimophpeaa.crcIsLinear
open Go.ChangeShapes Go.WideShapes Go.ChangeAt Go.RowKit
set_option linter.unusedVariables false

theorem min4 (a b c : Nat) : ∃ m : Nat, m ≤ a ∧ m ≤ b ∧ m ≤ c ∧ m ≤ 2000 ∧ ∀ (ts : Array TypeId) (t : TypeId) (w : World),
    (Builtin.min_ ts t #[.int .i64 (a : Int), .int .i64 (b : Int), .int .i64 (c : Int), .int .i64 2000]).run Try.prog w = .ok (.int .i64 (m : Int)) w := by
  refine ⟨min (min (min a b) c) 2000, by omega, by omega, by omega, by omega, fun ts t w => ?_⟩
  simp only [Builtin.min_, Builtin.min2, List.foldlM, Sem.run_bind, Sem.run_pure, Result.andThen_ok]
  simp
  by_cases q1 : b < a <;> simp only [q1, ↓reduceIte] <;> (repeat' split) <;> omega

theorem xorByte (x y z : Int) (hx : 0 ≤ x ∧ x < 256) (hy : 0 ≤ y ∧ y < 256) (hz : 0 ≤ z ∧ z < 256) : bits .xor .u8 (bits .xor .u8 x y) z = ((x.toNat ^^^ y.toNat ^^^ z.toNat : Nat) : Int) ∧ (x.toNat ^^^ y.toNat ^^^ z.toNat : Nat) < 256 := by
  have h1 : x.toNat ^^^ y.toNat < 2 ^ 8 := Nat.xor_lt_two_pow (by omega) (by omega)
  have h2 : x.toNat ^^^ y.toNat ^^^ z.toNat < 2 ^ 8 := Nat.xor_lt_two_pow h1 (by omega)
  refine ⟨?_, by omega⟩
  rw [u8_xor x y hx.1 hx.2 hy.1 hy.2, u8_xor _ z (by omega) (by omega) hz.1 hz.2, Int.toNat_natCast]
theorem xor3_eq {a b c : List Int} {k : Nat} {x y z : Int} (hx : a[k]? = some x) (hy : b[k]? = some y) (hz : c[k]? = some z) : xor3 a b c k = ((x.toNat ^^^ y.toNat ^^^ z.toNat : Nat) : Int) := by
  unfold xor3
  rw [List.getD_eq_getElem?_getD, List.getD_eq_getElem?_getD, List.getD_eq_getElem?_getD, hx, hy, hz]
  rfl

theorem xor3_take {a b c : List Int} {m k : Nat} (hk : k < m) : xor3 (a.take m) (b.take m) (c.take m) k = xor3 a b c k := by
  unfold xor3
  simp only [List.getD_eq_getElem?_getD, List.getElem?_take, if_pos hk]
theorem lin4 {a b c d : List Int} (ha : Byt a) (hb : Byt b) (hc : Byt c) (hd : Byt d) (h : sum a ^^^ sum b ^^^ sum c ^^^ sum d = 0) :
    bits .xor .u32 (bits .xor .u32 (bits .xor .u32 ((sum a : Nat) : Int) ((sum b : Nat) : Int)) ((sum c : Nat) : Int)) ((sum d : Nat) : Int) = 0 := by
  have la := sum_lt ha
  have lb := sum_lt hb
  have lc := sum_lt hc
  have ld := sum_lt hd
  rw [u32_xor_nat _ _ la lb, u32_xor_nat _ _ (xor32 la lb) lc, u32_xor_nat _ _ (xor32 (xor32 la lb) lc) ld, h]
  rfl

set_option maxRecDepth 100000 in
set_option maxHeartbeats 4000000 in
theorem walk (A1 : Option Addr) (n1 c1 : Nat) (xs1 : List Int) (A2 : Option Addr) (n2 c2 : Nat) (xs2 : List Int) (A3 : Option Addr) (n3 c3 : Nat) (xs3 : List Int) (w : World) (h1 : Arg w A1 n1 c1 xs1) (h2 : Arg w A2 n2 c2 xs2) (h3 : Arg w A3 n3 c3 xs3) :
    Calls Try.prog 7 #[.slice A1 n1 c1, .slice A2 n2 c2, .slice A3 n3 c3] w fun e w' => e = .returned (.bool true) ∧ Below w.heap.size w w' := by
  obtain ⟨nc1, cm1, b1, r1⟩ := h1
  obtain ⟨nc2, cm2, b2, r2⟩ := h2
  obtain ⟨nc3, cm3, b3, r3⟩ := h3
  unfold maxLen at cm1 cm2 cm3
  obtain ⟨i0, hi0, hz0, hz1, hz2⟩ := info_parts infoU8
  obtain ⟨m, hm1, hm2, hm3, hm4, hmin⟩ := min4 n1 n2 n3
  go_enter Try.func7, Try.ntmps7
  go_wp2_with (refine wpList_make_full _ rfl (.tmp 17) (.tmp 17) 22 rfl w.heap.size 5 i0 (.int .u8 0) 1 Try.underlying22 hi0 hz0 hz1 .i64 .i64 (m : Int) (m : Int) m rfl rfl rfl rfl (by rw [hz2]; omega) (by unfold maxLen; omega) (Nat.le_refl _) ?_; intro w1 hown1 hg1)
  rw [Nat.mul_one, show (Value.int .u8 0).cells = #[Value.int .u8 0] from rfl, toList_madeCells_one] at hown1
  have hb1 : Below w.heap.size w w1 := (Below.refl _ _).grown hg1 (Nat.le_refl _) (fun _ h => by cases h)
  clear hmin hg1
  go_loopw [21] (fun i wr => ∃ (k : Nat) (ds : List Int), i = .int .i64 (k : Int) ∧ k ≤ m ∧ Hid (ds.length = m) ∧ Byt ds ∧ Hid (∀ j, j < k → ds.getD j 0 = xor3 xs1 xs2 xs3 j) ∧
    wr.ownsRow w.heap.size 5 1 (.slice (some ⟨w.heap.size, 0, none⟩) m m) m (u8s ds) ∧ Below w.heap.size w wr) (fun i _ => m - (intOf i).toNat)
  case atStart => exact ⟨0, List.replicate m 0, rfl, by omega, (show (List.replicate m (0 : Int)).length = m by simp), fun x hx => by have := List.eq_of_mem_replicate hx; omega, fun j hj => by omega, by
    unfold u8s; rw [List.map_replicate]; exact hown1, hb1⟩
  case round =>
    obtain ⟨k, ds, rfl, hk, hdl, hdb, hdx, hown, hb⟩ := hrel
    by_cases hlt : k < m
    · have hl1 : xs1.length = n1 := by simpa using r1.1
      have hl2 : xs2.length = n2 := by simpa using r2.1
      have hl3 : xs3.length = n3 := by simpa using r3.1
      obtain ⟨x, hx⟩ : ∃ x, xs1[k]? = some x := ⟨_, List.getElem?_eq_getElem (by omega)⟩
      obtain ⟨y, hy⟩ : ∃ y, xs2[k]? = some y := ⟨_, List.getElem?_eq_getElem (by omega)⟩
      obtain ⟨z, hz⟩ : ∃ z, xs3[k]? = some z := ⟨_, List.getElem?_eq_getElem (by omega)⟩
      clear hl1 hl2 hl3
      obtain ⟨p1, o1, rfl, q1, d1⟩ := (r1.below hb).cell (k := k) (u := .int .u8 x) (by rw [List.getElem?_map, hx]; rfl)
      obtain ⟨p2, o2, rfl, q2, d2⟩ := (r2.below hb).cell (k := k) (u := .int .u8 y) (by rw [List.getElem?_map, hy]; rfl)
      obtain ⟨p3, o3, rfl, q3, d3⟩ := (r3.below hb).cell (k := k) (u := .int .u8 z) (by rw [List.getElem?_map, hz]; rfl)
      obtain ⟨x0, x1⟩ := b1.at hx
      obtain ⟨y0, y1⟩ := b2.at hy
      obtain ⟨z0, z1⟩ := b3.at hz
      have i1 : (k : Int) < (n1 : Int) := by omega
      have i2 : (k : Int) < (n2 : Int) := by omega
      have i3 : (k : Int) < (n3 : Int) := by omega
      have i4 : (k : Int) < (m : Int) := by omega
      have i0' : (0 : Int) ≤ (k : Int) := by omega
      obtain ⟨V, hV⟩ : ∃ V : Nat, Hid (V = x.toNat ^^^ y.toNat ^^^ z.toNat) := ⟨_, rfl⟩
      have HV : Hid (bits .xor .u8 (bits .xor .u8 x y) z = (V : Int)) := by show _ = _; rw [hV.out]; exact (xorByte x y z ⟨x0, x1⟩ ⟨y0, y1⟩ ⟨z0, z1⟩).1
      have V1 : V < 256 := by rw [hV.out]; exact (xorByte x y z ⟨x0, x1⟩ ⟨y0, y1⟩ ⟨z0, z1⟩).2
      have hdx2 : Hid (∀ j, j < k + 1 → (ds.set k (V : Int)).getD j 0 = xor3 xs1 xs2 xs3 j) := by
        intro j hj
        rw [List.getD_eq_getElem?_getD, List.getElem?_set]
        by_cases e : k = j
        · subst e
          rw [if_pos rfl, if_pos (by rw [hdl.out]; exact hlt), xor3_eq hx hy hz, ← hV.out]
          rfl
        · rw [if_neg e, ← List.getD_eq_getElem?_getD]
          exact hdx.out j (by omega)
      have hc := hown.cellAt k (by omega)
      have hfr := hown.frozenAt k
      obtain ⟨u, hu⟩ : ∃ u, ds[k]? = some u := ⟨_, List.getElem?_eq_getElem (by rw [hdl.out]; exact hlt)⟩
      rw [List.getElem?_map, hu] at hc
      simp only [Option.map_some] at hc
      have hst := (hown.stored k (.int .u8 (V : Int))).1
      rw [show (u8s ds).set k (.int .u8 (V : Int)) = u8s (ds.set k (V : Int)) by unfold u8s; rw [List.map_set]] at hst
      have hst2 := hide hst
      have hbl := hide (hb.setCell (p := ⟨w.heap.size, k, none⟩) (Nat.le_refl _) (.int .u8 (V : Int)))
      have hdl2 := hide (show (ds.set k (V : Int)).length = m by rw [List.length_set, hdl.out])
      have hdb2 : Byt (ds.set k (V : Int)) := fun v hv => by
        rcases List.mem_or_eq_of_mem_set hv with h | rfl
        · exact hdb v h
        · omega
      have Hx := hide hx
      have Hy := hide hy
      have Hz := hide hz
      clear hu hst
      go_wp2_with fail
      go_still_tail 17, (by kernel_rfl)
      change wpList _ _ _ _ _ wr.drew
      go_wp2_with fail
      go_roundw
      case rel =>
        rw [HV.out]
        exact ⟨k + 1, _, by go_num, by omega, hdl2, hdb2, hdx2, hst2.out.drew, hbl.out.drew⟩
      case measure => simp [intOf]; omega
    · obtain rfl : k = m := by omega
      have t1 := (r1.below hb).to_ hm1
      have t2 := (r2.below hb).to_ hm2
      have t3 := (r3.below hb).to_ hm3
      rw [← List.map_take] at t1 t2 t3
      have t4 := Rd.of_own hown
      have s1 := b1.take k
      have s2 := b2.take k
      have s3 := b3.take k
      have e1 : (xs1.take k).length = k := by simpa using t1.1
      have e2 : (xs2.take k).length = k := by simpa using t2.1
      have e3 : (xs3.take k).length = k := by simpa using t3.1
      have lin := lin4 s1 s2 s3 hdb (linear s1 s2 s3 hdb (by rw [e1, e2]) (by rw [e1, e3]) (by rw [e1, hdl.out]) (fun j hj => by rw [e1] at hj; rw [xor3_take hj]; exact hdx.out j hj))
      clear e1 e2 e3
      generalize xs1.take k = ys1 at *
      generalize xs2.take k = ys2 at *
      generalize xs3.take k = ys3 at *
      have hz : w.heap.size ≤ wr.heap.size := hb.size
      have i0' : (0 : Int) ≤ (k : Int) := by omega
      have i1 : (k : Int) ≤ (c1 : Int) := by omega
      have i2 : (k : Int) ≤ (c2 : Int) := by omega
      have i3 : (k : Int) ≤ (c3 : Int) := by omega
      have j1 : k ≤ c1 := by omega
      have j2 : k ≤ c2 := by omega
      have j3 : k ≤ c3 := by omega
      go_wp2_with fail
      go_region_held3 (fun w' => Below wr.heap.size wr w')
        (first | assumption | exact Below.refl _ _ | exact (Below.refl _ _).drew)
        (first
          | (go_at_call 9; refine (alive02_any _).mono ?_; rintro e w2 ⟨rfl, hb2⟩; have hb2' := (by assumption : Below wr.heap.size wr _).trans (hb2.mono (by assumption : Below wr.heap.size wr _).size))
          | (go_at_call_of 10 (Value.slice A1 k c1); refine (Sum_any A1 k c1 ys1 _ _ (t1.below ((by assumption : Below wr.heap.size wr _).mono hz)) (Nat.le_trans hz (by assumption : Below wr.heap.size wr _).size) s1 (by omega)).mono ?_; rintro e w3 ⟨rfl, hb3⟩; have hb3' := (by assumption : Below wr.heap.size wr _).trans (hb3.mono (by assumption : Below wr.heap.size wr _).size))
          | (go_at_call_of 10 (Value.slice A2 k c2); refine (Sum_any A2 k c2 ys2 _ _ (t2.below ((by assumption : Below wr.heap.size wr _).mono hz)) (Nat.le_trans hz (by assumption : Below wr.heap.size wr _).size) s2 (by omega)).mono ?_; rintro e w4 ⟨rfl, hb4⟩; have hb4' := (by assumption : Below wr.heap.size wr _).trans (hb4.mono (by assumption : Below wr.heap.size wr _).size))
          | (go_at_call_of 10 (Value.slice A3 k c3); refine (Sum_any A3 k c3 ys3 _ _ (t3.below ((by assumption : Below wr.heap.size wr _).mono hz)) (Nat.le_trans hz (by assumption : Below wr.heap.size wr _).size) s3 (by omega)).mono ?_; rintro e w5 ⟨rfl, hb5⟩; have hb5' := (by assumption : Below wr.heap.size wr _).trans (hb5.mono (by assumption : Below wr.heap.size wr _).size))
          | (go_at_call_of 10 (Value.slice (some ⟨w.heap.size, 0, none⟩) k k); refine (Sum_any _ k k ds _ _ (t4.below (by assumption : Below wr.heap.size wr _)) (by assumption : Below wr.heap.size wr _).size hdb (by omega)).mono ?_; rintro e w6 ⟨rfl, hb6⟩; have hb6' := (by assumption : Below wr.heap.size wr _).trans (hb6.mono (by assumption : Below wr.heap.size wr _).size)))
      all_goals
        go_wp2
        go_ret
        exact ⟨rfl, hb.trans ((by assumption : Below wr.heap.size wr _).mono hz)⟩

theorem own : ownKnob Try.prog.godebug = none := by kernel_rfl
theorem laidOut : laidOutB Try.prog = true := by kernel_rfl

/-- what the walk gives, for every argument that can be read -/
theorem contract (H : Type) (enc : TypeId × Value → H) (W : World) (base : Nat) (args : Array Value) (ds gs : List (DataW H)) (before : List MemPlace)
    (hval0 : ∀ (j : Nat) t v, Try.f7.params[j]? = some t → args[j]? = some v → Value.okWide Try.prog W .any base t v)
    (hW : DataW.Whole enc Try.prog Try.f7.params.toList Rows.crcIsLinearSpec.vars false W args.toList ds gs before) :
    Calls Try.prog 7 args W fun e W' => ∃ v, e = .returned v ∧ Rows.crcIsLinearSpec.post enc Try.prog Try.f7 false true false false W args v W' := by
  have hval : ∀ (j : Nat) t v, Try.f7.params[j]? = some t → args[j]? = some v → Value.okWide Try.prog W .any base t v := hval0
  have hW' := hW
  obtain ⟨p, q, hA0, hV, rfl, hfz, hnd⟩ := hW
  have hA : DataW.TrodAll enc Try.prog W 0 (fun _ => true) true Try.f7.params.toList args.toList ds p := hA0
  rw [Try.params7] at hA hval
  obtain ⟨v0, vs0, d0, ds0, p0, q0, hargs, rfl, rfl, h0, r0⟩ := trodAll_cons hA
  obtain ⟨v1, vs1, d1, ds1, p1, q1, rfl, rfl, rfl, h1, r1⟩ := trodAll_cons r0
  obtain ⟨v2, vs2, d2, ds2, p2, q2, rfl, rfl, rfl, h2, r2⟩ := trodAll_cons r1
  obtain ⟨rfl, rfl, rfl⟩ := trodAll_nil r2
  obtain rfl : args = #[v0, v1, v2] := by cases args; simp_all
  obtain ⟨rfl, rfl⟩ := trodVars_none hV
  have k0 := h0
  have lt0 : ∀ x ∈ p0, x.block < W.heap.size := by obtain ⟨m, hm⟩ := k0; exact DataW.trod_lt m _ _ _ hm
  obtain ⟨A0, n0, c0, xs0, rfl, g0, _⟩ := openBytes Try.underlying22 Try.underlying5 (by kernel_rfl) (hval 0 22 v0 rfl rfl) h0
  have k1 := h1
  have lt1 : ∀ x ∈ p1, x.block < W.heap.size := by obtain ⟨m, hm⟩ := k1; exact DataW.trod_lt m _ _ _ hm
  obtain ⟨A1, n1, c1, xs1, rfl, g1, _⟩ := openBytes Try.underlying22 Try.underlying5 (by kernel_rfl) (hval 1 22 v1 rfl rfl) h1
  have k2 := h2
  have lt2 : ∀ x ∈ p2, x.block < W.heap.size := by obtain ⟨m, hm⟩ := k2; exact DataW.trod_lt m _ _ _ hm
  obtain ⟨A2, n2, c2, xs2, rfl, g2, _⟩ := openBytes Try.underlying22 Try.underlying5 (by kernel_rfl) (hval 2 22 v2 rfl rfl) h2
  clear hA0 hval0
  simp only [List.append_nil] at hW'
  refine (walk A0 n0 c0 xs0 A1 n1 c1 xs1 A2 n2 c2 xs2 W g0 g1 g2).mono fun e W' ⟨he, bel⟩ => ?_
  subst he
  exact ⟨_, rfl, _, _, _, [], _, [], hW', trodAll_mk1 (shut_bool Try.underlying4 _), (trodAll_cons_mk (Below.trod laidOut (by kernel_rfl) (of_decide_eq_true (by kernel_rfl)) k0 bel lt0) (trodAll_cons_mk (Below.trod laidOut (by kernel_rfl) (of_decide_eq_true (by kernel_rfl)) k1 bel lt1) (trodAll_cons_mk (Below.trod laidOut (by kernel_rfl) (of_decide_eq_true (by kernel_rfl)) k2 bel lt2) trodAll_mk0))), rfl, bel.frame _, fun h => by cases h⟩

set_option maxRecDepth 100000 in
theorem lifted (os : Os) (started : os.Started) (H : Type) (enc : TypeId × Value → H) :
    ReturnsInHanded {} Try.checked os 7 .any (Rows.crcIsLinearSpec.pre6 enc Try.prog Try.f7 Rows.crcIsLinearRow.domain false) (Rows.crcIsLinearSpec.post enc Try.prog Try.f7 false true false false) := by
  refine returnsInHanded_of_change (C := Try.checked) own started (by kernel_rfl) Try.func7
    (ChangeSpec.witness6 (enc := enc) (C := Try.checked) false ⟨#[], #[.slice none 0 0, .slice none 0 0, .slice none 0 0], []⟩ 8 (by kernel_rfl) (by kernel_rfl) (by kernel_rfl) (by kernel_rfl)) ?_
  intro W base args ds gs before hval hW _ _
  exact contract H enc W base args ds gs before hval hW

/-- the statement -/
theorem proved : Rows.CrcIsLinearSaid :=
  OpenClaim.holds_of_wide 7 Try.f7 rfl rfl rfl rfl rfl rfl rfl ⟨rfl, rfl, rfl, rfl, rfl⟩ rfl rfl rfl rfl rfl (by kernel_rfl) Try.func7 (by kernel_rfl)
    (of_decide_eq_true (by kernel_rfl)) (by unfold Func.isWrapper; first | (rw [if_pos (by decide +kernel)]; kernel_rfl) | (rw [if_neg (by decide +kernel)]; exact ⟨rfl, rfl⟩))
    (fun os started H enc _ => lifted os started H enc)
end Go.Proofs.Ytcmcjpimophpeaa.crcIsLinear
