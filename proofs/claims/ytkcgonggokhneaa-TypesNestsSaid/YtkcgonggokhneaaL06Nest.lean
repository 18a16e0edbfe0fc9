/- TypesNests: for every input the law returns true, and turns nothing that lay. No condition. -/
import Derived.Test.YtkcgonggokhneaaRows
import Derived.Test.YtkcgonggokhneaaAlive06
import Derived.Test.YtkcgonggokhneaaOpenY
import Derived.Test.YtkcgonggokhneaaLaw06
import Derived.Maps.AppendAt
namespace Go.Proofs.Ytkcgonggokhneaa.typesNests
open Go.ChangeShapes Go.WideShapes Go.ChangeAt Go.ChangeMaps Go.RowKit
set_option linter.unusedVariables false

/-- the element that is added in round i -/
def nestE (b : Bool) (i : Nat) : Ty := if b = true then ⟨4, false, 0, 0, [(i : Int), (i : Int)]⟩ else ⟨3, false, 0, (i : Int), []⟩
/-- the list behind k rounds -/
def nestT (b : Bool) (k : Nat) : List Ty := ⟨2, false, 0, 0, []⟩ :: (List.range k).map (nestE b)
theorem nest_succ (b : Bool) (k : Nat) : nestT b (k + 1) = nestT b k ++ [nestE b k] := by
  simp [nestT, List.range_succ]
theorem nest_len (b : Bool) (k : Nat) : (nestT b k).length = k + 1 := by simp [nestT]
theorem nest_chk : ∀ b : Bool, ∀ k : Nat, k < 40 → tyChk (nestT b k) 1 = if 32 < k + 1 then 19 else 0 := by decide +kernel
theorem nest_dep : ∀ b : Bool, ∀ k : Nat, k < 32 → tyDep (nestT b k) (k : Int) = (k : Int) + 1 := by decide +kernel
theorem infoT : (Try.prog.info? 31).map (fun i => (i.zero, i.size, i.bytes)) = some (some (.agg #[.int .i64 0, .bool false, .int .i64 0, .int .i64 0, .slice none 0 0]), 5, 56) := by kernel_rfl

/-- what the loop keeps -/
structure NestR (w : World) (b : Bool) (k : Nat) (l : Value) (wr : World) (L : List TyW) : Prop where
  own : wr.ownsRow w.heap.size 31 5 l (k + 1) (L.flatMap c5)
  is_ : tys L = nestT b k
  one : ∀ x ∈ L, OneT wr wr.heap.size x ∧ ∀ g o, 0 < x.n → x.A = some ⟨g, o, none⟩ → l.ownBlock ≠ some g
  bel : Below w.heap.size w wr

theorem NestR.typs {w : World} {b : Bool} {k : Nat} {A : Option Addr} {c : Nat} {wr : World} {L : List TyW} (h : NestR w b k (.slice A (k + 1) c) wr L) : Typs wr wr.heap.size A (k + 1) L :=
  ⟨Cells.of_own (fun x => c5_len x) (by decide) h.own, fun x hx => (h.one x hx).1⟩

/-- one more element: behind the append -/
theorem NestR.up {w w1 w' : World} {b : Bool} {k : Nat} {l l' : Value} {wr : World} {L : List TyW} {x : TyW} (h : NestR w b k l wr L)
    (h1 : Below wr.heap.size wr w1) (hown : w'.ownsRow w.heap.size 31 5 l' (k + 1 + 1) (L.flatMap c5 ++ c5 x)) (hg : w1.grownBy w' l.ownBlock) (hat : l'.ownBlock = l.ownBlock ∨ l'.ownBlock = some w1.heap.size)
    (hx : OneT w1 w1.heap.size x) (hxA : ∀ g o, 0 < x.n → x.A = some ⟨g, o, none⟩ → wr.heap.size ≤ g) (hxt : x.t = nestE b k) : NestR w b (k + 1) l' w' (L ++ [x]) := by
  have hlt := h.own.lt
  have hsz := h.bel.size
  have hz := h1.size
  have keep : ∀ y : TyW, OneT w1 w1.heap.size y → (∀ g o, 0 < y.n → y.A = some ⟨g, o, none⟩ → l.ownBlock ≠ some g) → OneT w' w'.heap.size y ∧ ∀ g o, 0 < y.n → y.A = some ⟨g, o, none⟩ → l'.ownBlock ≠ some g := by
    intro y hy hne
    refine ⟨⟨hy.ok, hy.rd.1, fun hn => ?_⟩, fun g o hn e hl => ?_⟩
    · obtain ⟨g, o, e, hgl, hc⟩ := hy.rd.2 hn
      have hne' := hne g o hn e
      refine ⟨g, o, e, Nat.lt_of_lt_of_le hgl hg.size, fun j u hu => ?_⟩
      rw [World.cell?_of_block (w := w1) (w' := w') (a := ⟨g, o + j, none⟩) (hg.block g hgl (fun e' => hne' e'.symm))]
      exact hc j u hu
    · rcases hat with h' | h'
      · exact hne g o hn e (h'.symm.trans hl)
      · obtain ⟨g', o', e', hgl, _⟩ := hy.rd.2 hn
        rw [h'] at hl
        rw [e] at e'
        injection hl with hl
        injection e' with e'
        injection e' with e1 e2
        omega
  refine ⟨?_, ?_, fun y hy => ?_, ?_⟩
  · rw [List.flatMap_append]
    simpa using hown
  · rw [show tys (L ++ [x]) = tys L ++ [x.t] from List.map_append, h.is_, nest_succ, hxt]
  · rcases List.mem_append.1 hy with hy | hy
    · obtain ⟨ha, hb⟩ := h.one y hy
      exact keep y ((ha.below h1).more hz) hb
    · obtain rfl : y = x := by simpa using hy
      refine keep y hx fun g o hn e hl => ?_
      have := hlt g hl
      have := hxA g o hn e
      omega
  · exact (h.bel.trans (h1.mono hsz)).grown hg (by omega) (fun j hj => (hlt j hj).1)

theorem cells_last (w : World) (cs : List Value) (t : TypeId) (g : Nat) (hg : g = w.heap.size) : ∀ j u, cs[j]? = some u → (w.alloc (.cells cs.toArray t)).cell? ((⟨g, 0, none⟩ : Addr).add j) = some u := by
  subst hg
  exact World.news_of_block (heap_alloc_new w _)
abbrev yRef (k : Nat) : TyW := ⟨⟨3, false, 0, (k : Int), []⟩, none, 0, 0⟩
abbrev yTup (g k : Nat) : TyW := ⟨⟨4, false, 0, 0, [(k : Int), (k : Int)]⟩, some ⟨g, 0, none⟩, 2, 2⟩
theorem yRef_one (w : World) (B : Nat) {k : Nat} (hk : k < 40) : OneT w B (yRef k) := oneT_flat _ _ rfl rfl rfl (show IntR 3 by unfold IntR; decide) (show IntR 0 by unfold IntR; decide) (show IntR (k : Int) by unfold IntR; omega)
theorem yTup_one (w : World) {k g : Nat} (hg : g = w.heap.size) (hk : k < 40) : OneT (w.alloc (.cells #[.int .i64 (k : Int), .int .i64 (k : Int)] 3)) (w.heap.size + 1) (yTup g k) := by
  subst hg
  refine ⟨⟨Nat.le_refl _, (show (2 : Nat) ≤ maxLen by unfold maxLen; decide), rfl, (show IntR 4 by unfold IntR; decide), (show IntR 0 by unfold IntR; decide), (show IntR 0 by unfold IntR; decide), fun y hy => ?_⟩, Rd_ints w [(k : Int), (k : Int)] 3⟩
  have hy' : y ∈ ([(k : Int), (k : Int)] : List Int) := hy
  simp only [List.mem_cons, List.not_mem_nil, or_false, or_self] at hy'
  subst hy'
  unfold IntR
  omega

theorem Depth_is {A : Option Addr} {n c : Nat} {L : List TyW} {w : World} {d r : Int} {i : Nat} (h : tyDep (tys L) (i : Int) = d) (hA : Typs w w.heap.size A n L) (hnc : n ≤ c) (hcm : c ≤ maxLen) (hn : n ≤ 65535) (hok : TyOk (tys L) r) (hi : i < n) :
    Calls Try.prog 18 #[.slice A n c, .int .i64 (i : Int)] w fun e w' => e = .returned (.int .i64 d) ∧ Below w.heap.size w w' := h ▸ Depth_in hA (Nat.le_refl _) hnc hcm hn hok i hi

set_option maxHeartbeats 4000000 in
set_option maxRecDepth 100000 in
theorem walk (m : Int) (tup : Bool) (w : World) (hm : 0 ≤ m ∧ m ≤ 255) :
    Calls Try.prog 7 #[.int .u8 m, .bool tup] w fun e w' => e = .returned (.bool true) ∧ Below w.heap.size w w' := by
  obtain ⟨i0, hi, hz0, hz1, hz2⟩ := info_parts infoT
  obtain ⟨hm0, hm1⟩ := hm
  have hex : ∃ K : Nat, m % 40 = (K : Int) ∧ K < 40 := ⟨(m % 40).toNat, by omega, by omega⟩
  obtain ⟨K, hK, hK40⟩ := hex
  have hKt : m.tmod 40 = (K : Int) := by rw [Int.tmod_eq_emod_of_nonneg hm0]; exact hK
  go_enter Try.func7, Try.ntmps7
  go_wp2_with fail
  go_loopw [6, 15] (fun l i wr => ∃ (k : Nat) (L : List TyW), i = .int .i64 (k : Int) ∧ k ≤ K ∧ NestR w tup k l wr L) (fun _ i _ => K - (intOf i).toNat)
  case atStart =>
    refine ⟨0, [xInt], rfl, Nat.zero_le _, ?_, rfl, fun x hx => ?_, ?_⟩
    · exact World.ownsRow_lit w (c5 xInt).toArray 1 (Nat.le_refl _) (by decide) rfl
    · obtain rfl : x = xInt := by simpa using hx
      exact ⟨oneT_flat _ _ rfl rfl rfl (by unfold IntR; decide) (by unfold IntR; decide) (by unfold IntR; decide), fun g o hn => absurd hn (by decide)⟩
    · exact (Below.refl _ _).alloc (Nat.le_refl _) _
  case round =>
    obtain ⟨k, L, rfl, hk, hR⟩ := hrel
    have HR := hide hR
    obtain ⟨A1, c1, rfl, hk1, hc1⟩ := ownsRow_shape3 hR.own
    clear hR
    by_cases hlt : k < K
    · have hlt' : (k : Int) < (K : Int) := by omega
      cases tup
      · have H1 := hide ((Below.refl wr.heap.size wr).alloc (Nat.le_refl _) (.cells (c5 (yRef k)).toArray 31))
        go_wp2_with (at_builtin; refine wpList_append_own_at _ rfl _ _ 22 rfl w.heap.size 31 i0 _ 5 56 Try.underlying22 hi hz0 hz1 hz2 rfl (by decide) _ (k + 1) (L.flatMap c5) rfl ((HR.out.own.alloc _).alloc _) ⟨wr.heap.size + 1, 0, none⟩ 1 1 (c5 (yRef k)) rfl rfl (cells_last _ _ _ _ (by simp)) (c5_one _) (by unfold maxLen; omega) (by omega) (by have := HR.out.bel.size; simp; omega) ?_; intro v5 w5 hown5 hg5 _ hat5; have HN5 := hide (HR.out.up (H1.out.alloc (by simp) (.cells (c5 (yRef k)).toArray 31)) hown5 hg5 hat5 (yRef_one _ _ (by omega)) (fun g o hn => absurd hn (Nat.lt_irrefl 0)) rfl); clear hown5 hg5 hat5)
        go_roundw
        case rel => exact ⟨k + 1, L ++ [yRef k], by go_num, by omega, HN5.out⟩
        case measure => simp [intOf]; omega
      · have H1 := hide (((Below.refl wr.heap.size wr).alloc (Nat.le_refl _) (.cells (c5 (yTup (wr.heap.size + 1) k)).toArray 31)).alloc (by simp) (.cells #[.int .i64 (k : Int), .int .i64 (k : Int)] 3))
        have H2 := hide (yTup_one (wr.alloc (.cells (c5 (yTup (wr.heap.size + 1) k)).toArray 31)) (k := k) (g := wr.heap.size + 1) (by simp) (by omega))
        go_wp2_with (at_builtin; refine wpList_append_own_at _ rfl _ _ 22 rfl w.heap.size 31 i0 _ 5 56 Try.underlying22 hi hz0 hz1 hz2 rfl (by decide) _ (k + 1) (L.flatMap c5) rfl (((HR.out.own.alloc _).alloc _).alloc _) ⟨wr.heap.size + 1 + 1, 0, none⟩ 1 1 (c5 (yTup (wr.heap.size + 1) k)) rfl rfl (cells_last _ _ _ _ (by simp)) (c5_one _) (by unfold maxLen; omega) (by omega) (by have := HR.out.bel.size; simp; omega) ?_; intro v5 w5 hown5 hg5 _ hat5; have HN5 := hide (HR.out.up (H1.out.alloc (by simp; omega) (.cells (c5 (yTup (wr.heap.size + 1) k)).toArray 31)) hown5 hg5 hat5 ((H2.out.below ((Below.refl _ _).alloc (by simp) _)).more (by simp)) (fun g o hn e => by injection e with e; injection e with e1 e2; omega) rfl); clear hown5 hg5 hat5)
        go_roundw
        case rel => exact ⟨k + 1, L ++ [yTup (wr.heap.size + 1) k], by go_num, by omega, HN5.out⟩
        case measure => simp [intOf]; omega
    · obtain rfl : k = K := by omega
      have HTY := hide HR.out.typs
      have HIS := hide HR.out.is_
      have HB := hide HR.out.bel
      have hc1' := hc1
      unfold maxLen at hc1'
      by_cases h32 : k + 1 ≤ 32
      · have h32' : (k : Int) + 1 ≤ 32 := by omega
        have HCK := hide (show tyChk (tys L) 1 = 0 by rw [HIS.out, nest_chk tup k hK40, if_neg (by omega)])
        have HDP := hide (show tyDep (tys L) (k : Int) = (k : Int) + 1 by rw [HIS.out, nest_dep tup k (by omega)])
        go_wp2_with fail
        refine (alive06_any _).mono ?_
        rintro e w3 ⟨rfl, hb⟩
        have HB3 := hide (HB.out.trans (hb.mono HB.out.size))
        have HTY3 := hide ((HTY.out.below hb).more hb.size)
        clear hb
        go_wp2_with fail
        refine (CheckT_is HCK.out w3 HTY3.out (Nat.le_trans hk1 hc1)).mono ?_
        rintro e w4 ⟨rfl, hb⟩
        have HB4 := hide (HB3.out.trans (hb.mono HB3.out.size))
        have HTY4 := hide ((HTY3.out.below hb).more hb.size)
        clear hb
        go_wp2_with fail
        refine (Depth_is HDP.out HTY4.out hk1 hc1 (by omega) (tyChk_iff.1 HCK.out) (by omega)).mono ?_
        rintro e w5 ⟨rfl, hb⟩
        have HB5 := hide (HB4.out.trans (hb.mono HB4.out.size))
        clear hb
        go_wp2_with fail
        go_ret
        exact ⟨rfl, HB5.out⟩
      · have h32' : (32 : Int) < (k : Int) + 1 := by omega
        have HCK := hide (show tyChk (tys L) 1 = 19 by rw [HIS.out, nest_chk tup k hK40, if_pos (by omega)])
        go_wp2_with fail
        refine (alive06_any _).mono ?_
        rintro e w3 ⟨rfl, hb⟩
        have HB3 := hide (HB.out.trans (hb.mono HB.out.size))
        have HTY3 := hide ((HTY.out.below hb).more hb.size)
        clear hb
        go_wp2_with fail
        refine (CheckT_is HCK.out w3 HTY3.out (Nat.le_trans hk1 hc1)).mono ?_
        rintro e w4 ⟨rfl, hb⟩
        have HB4 := hide (HB3.out.trans (hb.mono HB3.out.size))
        clear hb
        go_wp2_with fail
        go_ret
        exact ⟨rfl, HB4.out⟩

theorem own : ownKnob Try.prog.godebug = none := by kernel_rfl
theorem laidOut : laidOutB Try.prog = true := by kernel_rfl

set_option maxRecDepth 100000 in
/-- what the walk gives, for every argument that can be read -/
theorem contract (H : Type) (enc : TypeId × Value → H) (W : World) (base : Nat) (args : Array Value) (ds gs : List (DataW H)) (before : List MemPlace)
    (hval0 : ∀ (j : Nat) t v, Try.f7.params[j]? = some t → args[j]? = some v → Value.okWide Try.prog W .any base t v)
    (hW : DataW.Whole enc Try.prog Try.f7.params.toList Rows.typesNestsSpec.vars false W args.toList ds gs before) :
    Calls Try.prog 7 args W fun e W' => ∃ v, e = .returned v ∧ Rows.typesNestsSpec.post enc Try.prog Try.f7 false true false false W args v W' := by
  have hval : ∀ (j : Nat) t v, Try.f7.params[j]? = some t → args[j]? = some v → Value.okWide Try.prog W .any base t v := hval0
  have hW' := hW
  obtain ⟨p, q, hA0, hV, rfl, hfz, hnd⟩ := hW
  have hA : DataW.TrodAll enc Try.prog W 0 (fun _ => true) true Try.f7.params.toList args.toList ds p := hA0
  rw [Try.params7] at hA hval
  obtain ⟨v0, vs0, d0, ds0, p0, q0, hargs, rfl, rfl, h0, r0⟩ := trodAll_cons hA
  obtain ⟨v1, vs1, d1, ds1, p1, q1, rfl, rfl, rfl, h1, r1⟩ := trodAll_cons r0
  obtain ⟨rfl, rfl, rfl⟩ := trodAll_nil r1
  obtain rfl : args = #[v0, v1] := by cases args; simp_all
  obtain ⟨rfl, rfl⟩ := trodVars_none hV
  obtain ⟨a0, rfl, rfl, rfl, w0⟩ := open_int Try.underlying5 (hval 0 5 v0 rfl rfl) h0
  have g0 : 0 ≤ a0 ∧ a0 ≤ 255 := by simpa [Lit.wf, IntKind.min, IntKind.max, IntKind.signed, IntKind.bits] using w0
  obtain ⟨a1, rfl, rfl, rfl⟩ := open_bool Try.underlying4 (hval 1 4 v1 rfl rfl) h1
  clear hA0 hval0
  simp only [List.append_nil] at hW'
  refine (walk a0 a1 W g0).mono fun e W' ⟨he, bel⟩ => ?_
  subst he
  exact ⟨_, rfl, _, _, _, [], _, [], hW', trodAll_mk1 (shut_bool Try.underlying4 _), (trodAll_cons_mk (shut_int Try.underlying5 w0) (trodAll_cons_mk (shut_bool Try.underlying4 a1) trodAll_mk0)), rfl, bel.frame _, fun h => by cases h⟩

set_option maxRecDepth 100000 in
theorem lifted (os : Os) (started : os.Started) (H : Type) (enc : TypeId × Value → H) :
    ReturnsInHanded {} Try.checked os 7 .any (Rows.typesNestsSpec.pre6 enc Try.prog Try.f7 Rows.typesNestsRow.domain false) (Rows.typesNestsSpec.post enc Try.prog Try.f7 false true false false) := by
  refine returnsInHanded_of_change (C := Try.checked) own started (by kernel_rfl) Try.func7
    (ChangeSpec.witness6 (enc := enc) (C := Try.checked) false ⟨#[], #[.int .u8 0, .bool false], []⟩ 8 (by kernel_rfl) (by kernel_rfl) (by kernel_rfl) (by kernel_rfl)) ?_
  intro W base args ds gs before hval hW _ _
  exact contract H enc W base args ds gs before hval hW

/-- the statement -/
theorem proved : Rows.TypesNestsSaid :=
  OpenClaim.holds_of_wide 7 Try.f7 rfl rfl rfl rfl rfl rfl rfl ⟨rfl, rfl, rfl, rfl, rfl⟩ rfl rfl rfl rfl rfl (by kernel_rfl) Try.func7 (by kernel_rfl)
    (of_decide_eq_true (by kernel_rfl)) (by unfold Func.isWrapper; first | (rw [if_pos (by decide +kernel)]; kernel_rfl) | (rw [if_neg (by decide +kernel)]; exact ⟨rfl, rfl⟩))
    (fun os started H enc _ => lifted os started H enc)
end Go.Proofs.Ytkcgonggokhneaa.typesNests
