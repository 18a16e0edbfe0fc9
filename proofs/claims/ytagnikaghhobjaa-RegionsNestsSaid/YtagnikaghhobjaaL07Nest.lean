/- RegionsNests: for every input the law returns true, and turns nothing that lay. No condition. -/
import Derived.Test.YtagnikaghhobjaaRows
import Derived.Test.YtagnikaghhobjaaOpen
import Derived.Test.YtagnikaghhobjaaRegZ
import Derived.Maps.AppendAt
namespace Go.Proofs.Ytagnikaghhobjaa.regionsNests
open Go.ChangeShapes Go.WideShapes Go.ChangeAt Go.ChangeMaps Go.RowKit
set_option linter.unusedVariables false

theorem infoT : (Try.prog.info? 50).map (fun i => (i.zero, i.size, i.bytes)) = some (some (.agg #[.int .i64 0, .bool false, .int .i64 0, .int .i64 0, .slice none 0 0]), 5, 56) := by kernel_rfl

/-- what the loops keep -/
structure NestS (w : World) (tup mu : Bool) (k n : Nat) (l : Value) (wr : World) (L : List TyW) : Prop where
  own : wr.ownsRow w.heap.size 50 5 l n (L.flatMap c5)
  n_ : n = k + 3
  is_ : tys L = nestT7 tup mu k
  one : ∀ x ∈ L, OneT wr wr.heap.size x ∧ ∀ g o, 0 < x.n → x.A = some ⟨g, o, none⟩ → l.ownBlock ≠ some g
  bel : Below w.heap.size w wr

theorem NestS.typs {w : World} {tup mu : Bool} {k n : Nat} {A : Option Addr} {c : Nat} {wr : World} {L : List TyW} (h : NestS w tup mu k n (.slice A n c) wr L) : Typs wr wr.heap.size A n L :=
  ⟨Cells.of_own (fun x => c5_len x) (by decide) h.own, fun x hx => (h.one x hx).1⟩

/-- one more element: behind the append -/
theorem NestS.up {w w1 w' : World} {tup mu : Bool} {k n : Nat} {l l' : Value} {wr : World} {L : List TyW} {x : TyW} (h : NestS w tup mu k n l wr L)
    (h1 : Below wr.heap.size wr w1) (hown : w'.ownsRow w.heap.size 50 5 l' (n + 1) (L.flatMap c5 ++ c5 x)) (hg : w1.grownBy w' l.ownBlock) (hat : l'.ownBlock = l.ownBlock ∨ l'.ownBlock = some w1.heap.size)
    (hx : OneT w1 w1.heap.size x) (hxA : ∀ g o, 0 < x.n → x.A = some ⟨g, o, none⟩ → wr.heap.size ≤ g) (hxt : x.t = nestE7 tup mu k) : NestS w tup mu (k + 1) (n + 1) l' w' (L ++ [x]) := by
  have hlt := h.own.lt
  have hsz := h.bel.size
  have hz := h1.size
  have keep : ∀ y : TyW, OneT w1 w1.heap.size y → (∀ g o, 0 < y.n → y.A = some ⟨g, o, none⟩ → l.ownBlock ≠ some g) → OneT w' w'.heap.size y ∧ ∀ g o, 0 < y.n → y.A = some ⟨g, o, none⟩ → l'.ownBlock ≠ some g := by
    intro y hy hne
    refine ⟨⟨hy.ok, hy.rd.1, fun hn => ?_⟩, fun g o hn e hl => ?_⟩
    · obtain ⟨g, o, e, hgl, hc⟩ := hy.rd.2 hn
      have hne' := hne g o hn e
      refine ⟨g, o, e, Nat.lt_of_lt_of_le hgl hg.size, fun j u hu => ?_⟩
      rw [World.cell?_of_block (w := w1) (w' := w') (a := ⟨g, o + j, none⟩) (hg.block g hgl (fun e' => hne' e'.symm))]
      exact hc j u hu
    · rcases hat with h' | h'
      · exact hne g o hn e (h'.symm.trans hl)
      · obtain ⟨g', o', e', hgl, _⟩ := hy.rd.2 hn
        rw [h'] at hl
        rw [e] at e'
        injection hl with hl
        injection e' with e'
        injection e' with e1 e2
        omega
  refine ⟨?_, by have := h.n_; omega, ?_, fun y hy => ?_, ?_⟩
  · rw [List.flatMap_append]
    simpa using hown
  · rw [show tys (L ++ [x]) = tys L ++ [x.t] from List.map_append, h.is_, nest7_succ, hxt]
  · rcases List.mem_append.1 hy with hy | hy
    · obtain ⟨ha, hb⟩ := h.one y hy
      exact keep y ((ha.below h1).more hz) hb
    · obtain rfl : y = x := by simpa using hy
      refine keep y hx fun g o hn e hl => ?_
      have := hlt g hl
      have := hxA g o hn e
      omega
  · exact (h.bel.trans (h1.mono hsz)).grown hg (by omega) (fun j hj => (hlt j hj).1)

theorem cells_last (w : World) (cs : List Value) (t : TypeId) (g : Nat) (hg : g = w.heap.size) : ∀ j u, cs[j]? = some u → (w.alloc (.cells cs.toArray t)).cell? ((⟨g, 0, none⟩ : Addr).add j) = some u := by
  subst hg
  exact World.news_of_block (heap_alloc_new w _)
abbrev yRef (mu : Bool) (e : Int) : TyW := ⟨⟨3, mu, 0, e, []⟩, none, 0, 0⟩
abbrev yTup (g : Nat) (e : Int) : TyW := ⟨⟨4, false, 0, 0, [e, e]⟩, some ⟨g, 0, none⟩, 2, 2⟩
theorem yRef_one (w : World) (B : Nat) {mu : Bool} {e : Int} (he : IntR e) : OneT w B (yRef mu e) := oneT_flat7 _ _ rfl rfl rfl (show IntR 3 by unfold IntR; decide) (show IntR 0 by unfold IntR; decide) he
theorem yTup_one (w : World) {e : Int} {g : Nat} (hg : g = w.heap.size) (he : IntR e) : OneT (w.alloc (.cells #[.int .i64 e, .int .i64 e] 3)) (w.heap.size + 1) (yTup g e) := by
  subst hg
  refine ⟨⟨Nat.le_refl _, (show (2 : Nat) ≤ maxLen by unfold maxLen; decide), rfl, (show IntR 4 by unfold IntR; decide), (show IntR 0 by unfold IntR; decide), (show IntR 0 by unfold IntR; decide), fun y hy => ?_⟩, ints_new w [e, e] 3⟩
  have hy' : y ∈ ([e, e] : List Int) := hy
  simp only [List.mem_cons, List.not_mem_nil, or_false, or_self] at hy'
  subst hy'
  exact he

set_option maxHeartbeats 8000000 in
set_option maxRecDepth 100000 in
theorem walk (tup mu : Bool) (w : World) :
    Calls Try.prog 9 #[.bool tup, .bool mu] w fun e w' => e = .returned (.bool true) ∧ Below w.heap.size w w' := by
  obtain ⟨i0, hi, hz0, hz1, hz2⟩ := info_parts infoT
  go_enter Try.func9, Try.ntmps9
  go_wp2_with fail
  go_loopw [5, 6] (fun l i wr => ∃ (o I n : Nat) (L : List TyW), i = .int .i64 (I : Int) ∧ I = 2 * o + 1 ∧ o ≤ 29 ∧ NestS w tup mu (2 * o) n l wr L) (fun _ i _ => 59 - (intOf i).toNat)
  case atStart =>
    refine ⟨0, 1, 3, ex7L, rfl, rfl, by omega, ⟨?_, rfl, rfl, fun x hx => ?_, ?_⟩⟩
    · exact World.ownsRow_lit w (ex7L.flatMap c5).toArray 3 (Nat.le_refl _) (by decide) rfl
    · have hx' : x = tInt7 ∨ x = tRef7 0 ∨ x = tRef7 1 := by simpa using hx
      rcases hx' with rfl | rfl | rfl <;> exact ⟨oneT_flat7 _ _ rfl rfl rfl (by unfold IntR; decide) (by unfold IntR; decide) (by unfold IntR; decide), fun g o hn => absurd hn (by decide)⟩
    · exact (Below.refl _ _).alloc (Nat.le_refl _) _
  case round =>
    obtain ⟨o, I, n, L, rfl, hI, ho, hR⟩ := hrel
    have HR := hide hR
    have hn := hR.n_
    obtain ⟨A1, c1, rfl, hk1, hc1⟩ := ownsRow_shape3 hR.own
    clear hR
    by_cases hlt : o < 29
    · have hlt' : (n : Int) < 61 := by omega
      have HI := hide hI
      have hIb : I ≤ 57 := by omega
      clear hI hn
      go_wp2_with fail
      go_loopw [5, 21] (fun l kk wr => ∃ (q n : Nat) (L : List TyW), kk = .int .i64 (q : Int) ∧ q ≤ 2 ∧ NestS w tup mu (2 * o + q) n l wr L) (fun _ kk _ => 2 - (intOf kk).toNat)
      case atStart => exact ⟨0, n, L, rfl, by omega, HR.out⟩
      case round =>
        clear HR hk1 hc1 hlt'
        obtain ⟨q, n, L, rfl, hq, hR⟩ := hrel
        have HR := hide hR
        have hnb : n ≤ 61 := by have := hR.n_; omega
        obtain ⟨A1, c1, rfl, hk1, hc1⟩ := ownsRow_shape3 hR.own
        clear hR
        by_cases hq2 : q < 2
        · have hq2' : (q : Int) < 2 := by omega
          have hq0 : (0 : Int) ≤ (q : Int) := Int.natCast_nonneg _
          cases tup
          · have H1 := hide ((Below.refl wr.heap.size wr).alloc (Nat.le_refl _) (.cells (c5 (yRef mu ((I : Int) + (q : Int)))).toArray 50))
            go_wp2_with (at_builtin; refine wpList_append_own_at _ rfl _ _ 42 rfl w.heap.size 50 i0 _ 5 56 Try.underlying42 hi hz0 hz1 hz2 rfl (by decide) _ n (L.flatMap c5) rfl ((HR.out.own.alloc _).alloc _) ⟨wr.heap.size + 1, 0, none⟩ 1 1 (c5 (yRef mu ((I : Int) + (q : Int)))) rfl rfl (cells_last _ _ _ _ (by simp)) (c5_one _) (by unfold maxLen; omega) (by omega) (by have := HR.out.bel.size; simp; omega) ?_; intro v5 w5 hown5 hg5 _ hat5; have HN5 := hide (HR.out.up (H1.out.alloc (by simp) (.cells (c5 (yRef mu ((I : Int) + (q : Int)))).toArray 50)) hown5 hg5 hat5 (yRef_one _ _ (by unfold IntR; omega)) (fun g o hn => absurd hn (Nat.lt_irrefl 0)) (by unfold nestE7; rw [if_neg (by decide), show ((I : Int) + (q : Int)) = ((2 * o + q : Nat) : Int) + 1 by have := HI.out; omega])); clear hown5 hg5 hat5)
            go_roundw
            case rel => exact ⟨q + 1, n + 1, L ++ [yRef mu ((I : Int) + (q : Int))], by go_num, by omega, HN5.out⟩
            case measure => simp [intOf]; omega
          · have H1 := hide (((Below.refl wr.heap.size wr).alloc (Nat.le_refl _) (.cells (c5 (yTup (wr.heap.size + 1) ((I : Int) + (q : Int)))).toArray 50)).alloc (by simp) (.cells #[.int .i64 ((I : Int) + (q : Int)), .int .i64 ((I : Int) + (q : Int))] 3))
            have H2 := hide (yTup_one (wr.alloc (.cells (c5 (yTup (wr.heap.size + 1) ((I : Int) + (q : Int)))).toArray 50)) (e := (I : Int) + (q : Int)) (g := wr.heap.size + 1) (by simp) (by unfold IntR; omega))
            go_wp2_with (at_builtin; refine wpList_append_own_at _ rfl _ _ 42 rfl w.heap.size 50 i0 _ 5 56 Try.underlying42 hi hz0 hz1 hz2 rfl (by decide) _ n (L.flatMap c5) rfl (((HR.out.own.alloc _).alloc _).alloc _) ⟨wr.heap.size + 1 + 1, 0, none⟩ 1 1 (c5 (yTup (wr.heap.size + 1) ((I : Int) + (q : Int)))) rfl rfl (cells_last _ _ _ _ (by simp)) (c5_one _) (by unfold maxLen; omega) (by omega) (by have := HR.out.bel.size; simp; omega) ?_; intro v5 w5 hown5 hg5 _ hat5; have HN5 := hide (HR.out.up (H1.out.alloc (by simp; omega) (.cells (c5 (yTup (wr.heap.size + 1) ((I : Int) + (q : Int)))).toArray 50)) hown5 hg5 hat5 ((H2.out.below ((Below.refl _ _).alloc (by simp) _)).more (by simp)) (fun g o hn e => by injection e with e; injection e with e1 e2; omega) (by unfold nestE7; rw [if_pos rfl, show ((I : Int) + (q : Int)) = ((2 * o + q : Nat) : Int) + 1 by have := HI.out; omega])); clear hown5 hg5 hat5)
            go_roundw
            case rel => exact ⟨q + 1, n + 1, L ++ [(yTup (wr.heap.size + 1) ((I : Int) + (q : Int)))], by go_num, by omega, HN5.out⟩
            case measure => simp [intOf]; omega
        · have e2 : 2 = q := by omega
          subst e2
          have hq2' : ¬ ((2 : Nat) : Int) < 2 := by omega
          clear hq2
          go_wp2_with fail
          go_roundw
          case rel => exact ⟨o + 1, I + 2, n, L, by go_num, by have := HI.out; omega, by omega, by rw [show 2 * (o + 1) = 2 * o + 2 by omega]; exact HR.out⟩
          case measure => simp [intOf]; have := HI.out; omega
    · have eo : 29 = o := by omega
      subst eo
      have en : 61 = n := by omega
      subst en
      clear hI hn hlt
      have hIS := HR.out.is_
      have HOK := hide (show TyOk (tys L) 2 by rw [hIS]; exact tyChk_iff.1 (nest7_ok tup mu))
      have HS1 := hide (show ∀ v, (tup || !mu) = v → sub (out ps1 2) (tys L) 59 60 = v from fun v hv => by rw [hIS]; exact (nest7_s1 tup mu).trans hv)
      have HS2 := hide (show sub (out ps1 2) (tys L) 60 59 = false by rw [hIS]; exact nest7_s2 tup mu)
      have HS3 := hide (show sub (out ps1 2) (tys L) 60 60 = true by rw [hIS]; exact nest7_s3 tup mu)
      have hP := (prs_new wr ps1 31 (by intro p hp; simp at hp; subst hp; unfold IntP IntR; decide))
      have HP := hide hP
      have HAl := hide ((Below.refl wr.heap.size wr).alloc (Nat.le_refl _) (.cells (ps1.flatMap pV).toArray 31))
      clear hP hIS
      go_wp2_with fail
      refine (New_good _ 1 1 ps1 2 _ (HP.out.more (by simp)) ps1_chk).mono ?_
      rintro e w4 ⟨r, rfl, hR4, hb4⟩
      have HRel := hide fun (w' : World) (h : Below w4.heap.size w4 w') => (hR4.below h).more h.size
      have hb5 := HAl.out.trans (hb4.mono HAl.out.size)
      have HTs := hide fun (w' : World) (h : Below w4.heap.size w4 w') => ((HR.out.typs.below (hb5.trans (h.mono hb5.size))).more (hb5.trans (h.mono hb5.size)).size : Typs w' w'.heap.size A1 61 L)
      have HB4 := hide (HR.out.bel.trans (hb5.mono HR.out.bel.size))
      clear hR4 hb4 hb5
      cases tup <;> cases mu
      · have HSa := hide (HS1.out true rfl)
        go_wp2_with fail
        refine (alive07_any _).mono ?_
        rintro e w5 ⟨rfl, hb⟩
        have HB5 := hide (hb)
        clear hb
        go_wp2_with fail
        refine (Subtype_is HSa.out _ (HRel.out _ HB5.out) (HTs.out _ HB5.out) (by omega) HOK.out (by unfold IntR; decide) (by unfold IntR; decide)).mono ?_
        rintro e w6 ⟨rfl, hb⟩
        have HB6 := hide (HB5.out.trans (hb.mono HB5.out.size))
        clear hb
        go_wp2_with fail
        refine (Subtype_is HS2.out _ (HRel.out _ HB6.out) (HTs.out _ HB6.out) (by omega) HOK.out (by unfold IntR; decide) (by unfold IntR; decide)).mono ?_
        rintro e w7 ⟨rfl, hb⟩
        have HB7 := hide (HB6.out.trans (hb.mono HB6.out.size))
        clear hb
        go_wp2_with fail
        refine (Subtype_is HS3.out _ (HRel.out _ HB7.out) (HTs.out _ HB7.out) (by omega) HOK.out (by unfold IntR; decide) (by unfold IntR; decide)).mono ?_
        rintro e w8 ⟨rfl, hb⟩
        have HB8 := hide (HB7.out.trans (hb.mono HB7.out.size))
        clear hb
        go_wp2_with fail
        go_ret
        exact ⟨rfl, HB4.out.trans (HB8.out.mono HB4.out.size)⟩
      · have HSa := hide (HS1.out false rfl)
        go_wp2_with fail
        refine (alive07_any _).mono ?_
        rintro e w5 ⟨rfl, hb⟩
        have HB5 := hide (hb)
        clear hb
        go_wp2_with fail
        refine (Subtype_is HSa.out _ (HRel.out _ HB5.out) (HTs.out _ HB5.out) (by omega) HOK.out (by unfold IntR; decide) (by unfold IntR; decide)).mono ?_
        rintro e w6 ⟨rfl, hb⟩
        have HB6 := hide (HB5.out.trans (hb.mono HB5.out.size))
        clear hb
        go_wp2_with fail
        refine (Subtype_is HS2.out _ (HRel.out _ HB6.out) (HTs.out _ HB6.out) (by omega) HOK.out (by unfold IntR; decide) (by unfold IntR; decide)).mono ?_
        rintro e w7 ⟨rfl, hb⟩
        have HB7 := hide (HB6.out.trans (hb.mono HB6.out.size))
        clear hb
        go_wp2_with fail
        refine (Subtype_is HS3.out _ (HRel.out _ HB7.out) (HTs.out _ HB7.out) (by omega) HOK.out (by unfold IntR; decide) (by unfold IntR; decide)).mono ?_
        rintro e w8 ⟨rfl, hb⟩
        have HB8 := hide (HB7.out.trans (hb.mono HB7.out.size))
        clear hb
        go_wp2_with fail
        go_ret
        exact ⟨rfl, HB4.out.trans (HB8.out.mono HB4.out.size)⟩
      · have HSa := hide (HS1.out true rfl)
        go_wp2_with fail
        refine (alive07_any _).mono ?_
        rintro e w5 ⟨rfl, hb⟩
        have HB5 := hide (hb)
        clear hb
        go_wp2_with fail
        refine (Subtype_is HSa.out _ (HRel.out _ HB5.out) (HTs.out _ HB5.out) (by omega) HOK.out (by unfold IntR; decide) (by unfold IntR; decide)).mono ?_
        rintro e w6 ⟨rfl, hb⟩
        have HB6 := hide (HB5.out.trans (hb.mono HB5.out.size))
        clear hb
        go_wp2_with fail
        refine (Subtype_is HS2.out _ (HRel.out _ HB6.out) (HTs.out _ HB6.out) (by omega) HOK.out (by unfold IntR; decide) (by unfold IntR; decide)).mono ?_
        rintro e w7 ⟨rfl, hb⟩
        have HB7 := hide (HB6.out.trans (hb.mono HB6.out.size))
        clear hb
        go_wp2_with fail
        refine (Subtype_is HS3.out _ (HRel.out _ HB7.out) (HTs.out _ HB7.out) (by omega) HOK.out (by unfold IntR; decide) (by unfold IntR; decide)).mono ?_
        rintro e w8 ⟨rfl, hb⟩
        have HB8 := hide (HB7.out.trans (hb.mono HB7.out.size))
        clear hb
        go_wp2_with fail
        go_ret
        exact ⟨rfl, HB4.out.trans (HB8.out.mono HB4.out.size)⟩
      · have HSa := hide (HS1.out true rfl)
        go_wp2_with fail
        refine (alive07_any _).mono ?_
        rintro e w5 ⟨rfl, hb⟩
        have HB5 := hide (hb)
        clear hb
        go_wp2_with fail
        refine (Subtype_is HSa.out _ (HRel.out _ HB5.out) (HTs.out _ HB5.out) (by omega) HOK.out (by unfold IntR; decide) (by unfold IntR; decide)).mono ?_
        rintro e w6 ⟨rfl, hb⟩
        have HB6 := hide (HB5.out.trans (hb.mono HB5.out.size))
        clear hb
        go_wp2_with fail
        refine (Subtype_is HS2.out _ (HRel.out _ HB6.out) (HTs.out _ HB6.out) (by omega) HOK.out (by unfold IntR; decide) (by unfold IntR; decide)).mono ?_
        rintro e w7 ⟨rfl, hb⟩
        have HB7 := hide (HB6.out.trans (hb.mono HB6.out.size))
        clear hb
        go_wp2_with fail
        refine (Subtype_is HS3.out _ (HRel.out _ HB7.out) (HTs.out _ HB7.out) (by omega) HOK.out (by unfold IntR; decide) (by unfold IntR; decide)).mono ?_
        rintro e w8 ⟨rfl, hb⟩
        have HB8 := hide (HB7.out.trans (hb.mono HB7.out.size))
        clear hb
        go_wp2_with fail
        go_ret
        exact ⟨rfl, HB4.out.trans (HB8.out.mono HB4.out.size)⟩

theorem own : ownKnob Try.prog.godebug = none := by kernel_rfl
theorem laidOut : laidOutB Try.prog = true := by kernel_rfl

set_option maxRecDepth 100000 in
/-- what the walk gives, for every argument that can be read -/
theorem contract (H : Type) (enc : TypeId × Value → H) (W : World) (base : Nat) (args : Array Value) (ds gs : List (DataW H)) (before : List MemPlace)
    (hval0 : ∀ (j : Nat) t v, Try.f9.params[j]? = some t → args[j]? = some v → Value.okWide Try.prog W .any base t v)
    (hW : DataW.Whole enc Try.prog Try.f9.params.toList Rows.regionsNestsSpec.vars false W args.toList ds gs before) :
    Calls Try.prog 9 args W fun e W' => ∃ v, e = .returned v ∧ Rows.regionsNestsSpec.post enc Try.prog Try.f9 false true false false W args v W' := by
  have hval : ∀ (j : Nat) t v, Try.f9.params[j]? = some t → args[j]? = some v → Value.okWide Try.prog W .any base t v := hval0
  have hW' := hW
  obtain ⟨p, q, hA0, hV, rfl, hfz, hnd⟩ := hW
  have hA : DataW.TrodAll enc Try.prog W 0 (fun _ => true) true Try.f9.params.toList args.toList ds p := hA0
  rw [Try.params9] at hA hval
  obtain ⟨v0, vs0, d0, ds0, p0, q0, hargs, rfl, rfl, h0, r0⟩ := trodAll_cons hA
  obtain ⟨v1, vs1, d1, ds1, p1, q1, rfl, rfl, rfl, h1, r1⟩ := trodAll_cons r0
  obtain ⟨rfl, rfl, rfl⟩ := trodAll_nil r1
  obtain rfl : args = #[v0, v1] := by cases args; simp_all
  obtain ⟨rfl, rfl⟩ := trodVars_none hV
  obtain ⟨a0, rfl, rfl, rfl⟩ := open_bool Try.underlying4 (hval 0 4 v0 rfl rfl) h0
  obtain ⟨a1, rfl, rfl, rfl⟩ := open_bool Try.underlying4 (hval 1 4 v1 rfl rfl) h1
  clear hA0 hval0
  simp only [List.append_nil] at hW'
  refine (walk a0 a1 W ).mono fun e W' ⟨he, bel⟩ => ?_
  subst he
  exact ⟨_, rfl, _, _, _, [], _, [], hW', trodAll_mk1 (shut_bool Try.underlying4 _), (trodAll_cons_mk (shut_bool Try.underlying4 a0) (trodAll_cons_mk (shut_bool Try.underlying4 a1) trodAll_mk0)), rfl, bel.frame _, fun h => by cases h⟩

set_option maxRecDepth 100000 in
theorem lifted (os : Os) (started : os.Started) (H : Type) (enc : TypeId × Value → H) :
    ReturnsInHanded {} Try.checked os 9 .any (Rows.regionsNestsSpec.pre6 enc Try.prog Try.f9 Rows.regionsNestsRow.domain false) (Rows.regionsNestsSpec.post enc Try.prog Try.f9 false true false false) := by
  refine returnsInHanded_of_change (C := Try.checked) own started (by kernel_rfl) Try.func9
    (ChangeSpec.witness6 (enc := enc) (C := Try.checked) false ⟨#[], #[.bool false, .bool false], []⟩ 8 (by kernel_rfl) (by kernel_rfl) (by kernel_rfl) (by kernel_rfl)) ?_
  intro W base args ds gs before hval hW _ _
  exact contract H enc W base args ds gs before hval hW

/-- the statement -/
theorem proved : Rows.RegionsNestsSaid :=
  OpenClaim.holds_of_wide 9 Try.f9 rfl rfl rfl rfl rfl rfl rfl ⟨rfl, rfl, rfl, rfl, rfl⟩ rfl rfl rfl rfl rfl (by kernel_rfl) Try.func9 (by kernel_rfl)
    (of_decide_eq_true (by kernel_rfl)) (by unfold Func.isWrapper; first | (rw [if_pos (by decide +kernel)]; kernel_rfl) | (rw [if_neg (by decide +kernel)]; exact ⟨rfl, rfl⟩))
    (fun os started H enc _ => lifted os started H enc)
end Go.Proofs.Ytagnikaghhobjaa.regionsNests
