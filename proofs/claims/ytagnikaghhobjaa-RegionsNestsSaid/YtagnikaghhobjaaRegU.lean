/- The iterator over what outlives one of a list. -/
import Derived.Test.YtagnikaghhobjaaRegT
import Derived.Test.YtagnikaghhobjaaRegC
set_option linter.unusedVariables false
namespace Go.Proofs.Ytagnikaghhobjaa
open Go.RowKit Go.Shelf
attribute [local go_sem] Oper.semAt_some

theorem RdX.more {B B' X : Nat} {w : World} {A : Option Addr} {n : Nat} {xs : List Int} (h : RdX B X w A n xs) (hB : B ≤ B') : RdX B' X w A n xs :=
  ⟨h.1, fun hn => by
    obtain ⟨b, o, h1, h2, h3⟩ := h.2 hn
    exact ⟨b, o, h1, by omega, h3⟩⟩
theorem way_undeclared {ps : List Pr} {a b : Int} (h : Way ps a b) (hb : ∀ p ∈ ps, b ≠ p.2) : a = b := by
  induction h with
  | refl => rfl
  | @step a c b m w ih =>
    have e := ih hb
    subst e
    exact absurd rfl (hb _ m)

/-- the starts that are collected -/
structure StW (base n₀ X : Nat) (W0 w : World) (v : Value) (m : Nat) (S : List Int) : Prop where
  low : Below base W0 w
  size : n₀ ≤ w.heap.size
  own : w.ownsRow n₀ 3 1 v m (i64s S)
  ox : ∀ g, ownX X w = some g → n₀ ≤ g ∧ g < w.heap.size ∧ v.ownBlock ≠ some g
section
variable {base n₀ X : Nat} {W0 w w' : World} {v : Value} {m : Nat} {S : List Int}
theorem StW.keep (h : StW base n₀ X W0 w v m S) (hk : KeepX base X w w') (hX : X < n₀) : StW base n₀ X W0 w' v m S := by
  refine ⟨h.low.trans hk.low, Nat.le_trans h.size hk.low.size, ⟨h.own.1, ?_⟩, fun g hg => ?_⟩
  · rcases h.own.2 with hv | ⟨g, cap, cur, e, hb, hgg, rest⟩
    · exact .inl hv
    · refine .inr ⟨g, cap, cur, e, hb, hk.cells g _ _ _ hgg (by omega) (fun e2 => ?_), rest⟩
      exact (h.ox g e2.symm).2.2 (by rw [e]; rfl)
  · have hf := hk.fits (fun g hg => (h.ox g hg).2.1) g hg
    rcases hk.own with e | ⟨g', e, hg'⟩
    · rw [e] at hg
      have := h.ox g hg
      exact ⟨this.1, hf, this.2.2⟩
    · rw [e] at hg
      injection hg with hg
      subst hg
      have := h.size
      exact ⟨by omega, hf, fun e2 => by have := (h.own.lt g' e2).2; omega⟩
theorem StW.alloc (h : StW base n₀ X W0 w v m S) (hX : X < n₀) (hbl : Below w.heap.size w w') (hb : base ≤ n₀) : StW base n₀ X W0 w' v m S := by
  have hs := h.size
  have e : ownX X w' = ownX X w := ownX_eq (hbl.cell (p := ⟨X, 0, none⟩) (show X < w.heap.size by omega))
  refine ⟨h.low.trans (hbl.mono (by omega)), Nat.le_trans hs hbl.size, ownsRow_below h.own hbl, fun g hg => ?_⟩
  rw [e] at hg
  have := h.ox g hg
  exact ⟨this.1, Nat.lt_of_lt_of_le this.2.1 hbl.size, this.2.2⟩
theorem StW.app (h : StW base n₀ X W0 w v m S) (hX : X < n₀) (hb : base ≤ n₀) {v' : Value} {m' : Nat} {ys : List Int} (hown : w'.ownsRow n₀ 3 1 v' m' (i64s ys)) (hg : w.grownBy w' v.ownBlock) (hat : v'.ownBlock = v.ownBlock ∨ v'.ownBlock = some w.heap.size) :
    StW base n₀ X W0 w' v' m' ys ∧ ItX n₀ X w w' := by
  have hs := h.size
  have hob : ∀ k, v.ownBlock = some k → n₀ ≤ k := fun k hk => (h.own.lt k hk).1
  have e : ownX X w' = ownX X w := ownX_eq (World.cell?_of_block (w := w) (a := ⟨X, 0, none⟩) (hg.block X (by omega) (fun e => by have := hob X e.symm; omega)))
  refine ⟨⟨h.low.grown hg (by omega) (fun k hk => by have := hob k hk; omega), Nat.le_trans hs hg.size, hown, fun g hg' => ?_⟩, ItX.of_grown hg hs fun k hk => ⟨hob k hk, fun e2 => (h.ox k e2.symm).2.2 hk⟩⟩
  rw [e] at hg'
  have h1 := h.ox g hg'
  refine ⟨h1.1, Nat.lt_of_lt_of_le h1.2.1 hg.size, fun e2 => ?_⟩
  rcases hat with e3 | e3
  · exact h1.2.2 (e3 ▸ e2)
  · rw [e3] at e2
    injection e2 with e2
    omega
theorem StW.rd (h : StW base n₀ X W0 w v m S) (hX : X < n₀) {A : Option Addr} {c : Nat} (hv : v = .slice A m c) : RdX w.heap.size X w A m S := by
  subst hv
  have hr := Rd.of_own h.own
  refine ⟨hr.ilen, fun hn => ?_⟩
  obtain ⟨b, o, e, hb, hc⟩ := hr.2 hn
  subst e
  have hbn : n₀ ≤ b := (h.own.lt b rfl).1
  exact ⟨b, o, rfl, hb, by omega, fun e2 => (h.ox b e2.symm).2.2 rfl, fun j x hx => hc j _ (by rw [List.getElem?_map, hx]; rfl)⟩
end

/-- what has been done of the list -/
structure Ls (ps : List Pr) (rg : Int) (D l : List Int) (k : Nat) (S pre : List Int) : Prop where
  few : pre.length ≤ k
  good : ∀ a ∈ pre, OutL ps rg l a
  all : ∀ (t : Nat) b, t < k → l[t]? = some b → b ∉ D → 0 ≤ b → b < rg → b ∈ pre
  rng : ∀ x ∈ S, (0 ≤ x ∧ x < (D.length : Int)) ∧ ∀ a, D[x.toNat]? = some a → a ∈ l
  dec : ∀ (t : Nat) b (i : Nat), t < k → l[t]? = some b → D[i]? = some b → (i : Int) ∈ S
section
variable {ps : List Pr} {rg : Int} {D l : List Int} {k : Nat} {S pre : List Int}
theorem Ls.begin : Ls ps rg D l 0 [] [] := ⟨Nat.le_refl _, (fun a h => by cases h), (fun t b h => absurd h (Nat.not_lt_zero _)), (fun x h => by cases h), fun t b i h => absurd h (Nat.not_lt_zero _)⟩
theorem Ls.declared (h : Ls ps rg D l k S pre) (hD : D.Pairwise (· < ·)) {b : Int} {i : Nat} (hb : l[k]? = some b) (hi : D[i]? = some b) : Ls ps rg D l (k + 1) (S ++ [(i : Int)]) pre := by
  refine ⟨by have := h.few; omega, h.good, fun t c ht hc hn => ?_, fun x hx => ?_, fun t c j ht hc hj => ?_⟩
  · rcases Nat.lt_or_ge t k with h1 | h1
    · exact h.all t c h1 hc hn
    · obtain rfl : t = k := by omega
      rw [hb] at hc; injection hc with hc; subst hc
      exact absurd (List.mem_of_getElem? hi) hn
  · rcases List.mem_append.1 hx with hx | hx
    · exact h.rng x hx
    · have e : x = (i : Int) := by simpa using hx
      subst e
      have := (List.getElem?_eq_some_iff.1 hi).1
      refine ⟨by omega, fun a ha => ?_⟩
      rw [Int.toNat_natCast, hi] at ha
      injection ha with ha
      subst ha
      exact List.mem_of_getElem? hb
  · rcases Nat.lt_or_ge t k with h1 | h1
    · exact List.mem_append_left _ (h.dec t c j h1 hc hj)
    · obtain rfl : t = k := by omega
      rw [hb] at hc; injection hc with hc; subst hc
      rw [asc_inj hD hj hi]; simp
theorem Ls.other (h : Ls ps rg D l k S pre) {b : Int} (hb : l[k]? = some b) (hi : b ∉ D) (hr : ¬ (0 ≤ b ∧ b < rg)) : Ls ps rg D l (k + 1) S pre := by
  refine ⟨by have := h.few; omega, h.good, fun t c ht hc hn h0 h1 => ?_, h.rng, fun t c j ht hc hj => ?_⟩
  · rcases Nat.lt_or_ge t k with h2 | h2
    · exact h.all t c h2 hc hn h0 h1
    · obtain rfl : t = k := by omega
      rw [hb] at hc; injection hc with hc; subst hc
      exact absurd ⟨h0, h1⟩ hr
  · rcases Nat.lt_or_ge t k with h2 | h2
    · exact h.dec t c j h2 hc hj
    · obtain rfl : t = k := by omega
      rw [hb] at hc; injection hc with hc; subst hc
      exact absurd (List.mem_of_getElem? hj) hi
theorem Ls.yielded (h : Ls ps rg D l k S pre) {b : Int} (hb : l[k]? = some b) (hi : b ∉ D) (hr : 0 ≤ b ∧ b < rg) : Ls ps rg D l (k + 1) S (pre ++ [b]) := by
  refine ⟨by have := h.few; simp; omega, fun a ha => ?_, fun t c ht hc hn h0 h1 => ?_, h.rng, fun t c j ht hc hj => ?_⟩
  · rcases List.mem_append.1 ha with ha | ha
    · exact h.good a ha
    · have e : a = b := by simpa using ha
      subst e
      exact ⟨a, List.mem_of_getElem? hb, Out.refl hr⟩
  · rcases Nat.lt_or_ge t k with h2 | h2
    · exact List.mem_append_left _ (h.all t c h2 hc hn h0 h1)
    · obtain rfl : t = k := by omega
      rw [hb] at hc; injection hc with hc; subst hc
      simp
  · rcases Nat.lt_or_ge t k with h2 | h2
    · exact h.dec t c j h2 hc hj
    · obtain rfl : t = k := by omega
      rw [hb] at hc; injection hc with hc; subst hc
      exact absurd (List.mem_of_getElem? hj) hi
theorem dec_in {ab : List (List Int)} (hr : RelD ps rg D ab) (hok : PrOk ps rg) {a : Int} (h : a ∈ D) : 0 ≤ a ∧ a < rg := by
  obtain ⟨p, hp, rfl | rfl⟩ := (hr.mem a).1 h
  · exact hok.a p hp
  · exact hok.b p hp
theorem Ls.end_ {ab : List (List Int)} (h : Ls ps rg D l k S pre) (hk : l.length ≤ k) (hr : RelD ps rg D ab) (hok : PrOk ps rg) {ys : List Int} (h1 : ∀ a ∈ ys, OutL ps rg l a) (h2 : ∀ s ∈ S, ∀ b, D[s.toNat]? = some b → ∀ a, Way ps a b → a ∈ ys) : ∀ a, a ∈ pre ++ ys ↔ OutL ps rg l a := by
  intro a
  constructor
  · intro ha
    rcases List.mem_append.1 ha with ha | ha
    · exact h.good a ha
    · exact h1 a ha
  · rintro ⟨b, hb, ⟨_, hbr, hw⟩⟩
    obtain ⟨t, ht⟩ := List.getElem?_of_mem hb
    have htl := (List.getElem?_eq_some_iff.1 ht).1
    by_cases hD : b ∈ D
    · obtain ⟨i, hi⟩ := List.getElem?_of_mem hD
      exact List.mem_append_right _ (h2 _ (h.dec t b i (by omega) ht hi) b (by rw [Int.toNat_natCast]; exact hi) a hw)
    · have e := way_undeclared hw (fun p hp e => hD ((hr.mem b).2 ⟨p, hp, .inr e⟩))
      subst e
      exact List.mem_append_left _ (h.all t a (by omega) ht hD hbr.1 hbr.2)
theorem outL_up (hok : PrOk ps rg) : ∀ a b, (a, b) ∈ ps → OutL ps rg l b → OutL ps rg l a := by
  rintro a b hm ⟨c, hc, h⟩
  exact ⟨c, hc, ⟨hok.a _ hm, h.2.1, .step hm h.2.2⟩⟩
end

set_option maxHeartbeats 8000000 in
set_option maxRecDepth 100000 in
theorem outliving_seq (m : Nat) (hm1 : 1 ≤ m) (base X Bl Br r : Nat) (ps : List Pr) (rg : Int) (A1 : Option Addr) (nD cD : Nat) (D : List Int) (A2 : Option Addr) (c2 : Nat) (L : List RowW) (A : Option Addr) (n c : Nat) (l : List Int) (w : World)
    (hR : RelW w base r ps rg A1 nD cD D A2 c2 L) (hbX : base ≤ X) (hXw : X < w.heap.size) (hL : RdX w.heap.size X w A n l) (hn : n ≤ 1000000000) (hBl : w.cell? ⟨Bl, 0, none⟩ = some (.slice A n c)) (hBr : w.cell? ⟨Br, 0, none⟩ = some (.pointer (some ⟨r, 0, none⟩))) (hBX : Br ≠ X) :
    SeqX m Try.prog 43 #[.pointer (some ⟨Bl, 0, none⟩), .pointer (some ⟨Br, 0, none⟩)] base X (fun xs => ∀ a, a ∈ xs ↔ OutL ps rg l a) (fun pre => ∀ a ∈ pre, OutL ps rg l a) (n + nD) w := by
  intro yl J Jx W hbW hO hXW hJ hJx hY0 h0
  have hY : RoundX base X (n + nD) yl J Jx := fun m' pre x W1 h h' => round_deep m' (hY0 pre x W1 h h')
  have hBll : Bl < w.heap.size := World.block_lt_of_cell? w _ hBl
  have hBrl : Br < w.heap.size := World.block_lt_of_cell? w _ hBr
  have hbl := (hbW.cell (p := ⟨Bl, 0, none⟩) hBll).trans hBl
  have hbr := (hbW.cell (p := ⟨Br, 0, none⟩) hBrl).trans hBr
  have hRW := hR.below (hbW.mono (by omega))
  have hLW := hL.low hbW hXw
  have hbs := hbW.size
  have hll : l.length = n := hL.1
  generalize hn0 : W.heap.size = n₀ at *
  have HR := hide hRW
  have HL := hide (hLW.more hbs)
  have HJ := hide hJ
  have HYY := hide hY
  have HSt := hide (show StW base n₀ X W W (.slice none 0 0) 0 [] from ⟨Below.refl _ _, by omega, World.ownsRow_nil _ _ _ _, fun g hg => by rw [hO] at hg; cases hg⟩)
  have HJ0 := hide h0
  obtain ⟨i0, hi, hz0, hz1, hz2⟩ := info_parts infoInt
  have hnl : nD ≤ 200000 := hRW.few
  have hbase : base ≤ n₀ := by omega
  clear hY0 hR hL hRW hLW hJ hJx hY h0 hbW hBl hBr hO
  show CallsIn Fence.wide m Try.prog 43 #[.func (.yield yl) #[] #[], .pointer (some ⟨Bl, 0, none⟩), .pointer (some ⟨Br, 0, none⟩)] W _
  refine callsIn_of_wp Try.func43 rfl trivial ?_ rfl
  simp only [Try.ntmps43, List.size_toArray, List.length_cons, List.length_nil, Nat.reduceAdd, Nat.reduceSub, Array.replicate_succ, Array.replicate_zero, List.push_toArray, List.append_toArray, List.nil_append, List.cons_append]
  gi_wp2
  gi_loopw [4, 11] (fun v i wr => ∃ (k m2 : Nat) (S pre : List Int), i = .int .i64 (k : Int) ∧ k ≤ n ∧ m2 ≤ k ∧ Hid (StW base n₀ X W wr v m2 S) ∧ Hid (RdX n₀ X wr A n l) ∧ wr.cell? ⟨Br, 0, none⟩ = some (.pointer (some ⟨r, 0, none⟩)) ∧ Hid (Ls ps rg D l k S pre) ∧ Hid (J pre wr)) (fun _ i _ => n - (intOf i).toNat)
  case atStart => exact ⟨0, 0, [], [], rfl, Nat.zero_le _, Nat.le_refl _, HSt.out, HL.out, hbr, Ls.begin, HJ0.out⟩
  case round =>
    obtain ⟨k, m2, S, pre, rfl, hk, hm2, HS, HRd, hbr, HLs, HJ1⟩ := hrel
    have hsz := HS.out.size
    obtain ⟨A7, c7, rfl, hmc, hcm⟩ := ownsRow_shape3 HS.out.own
    unfold maxLen at hcm
    have hXn : X < n₀ := by omega
    have hBrn : Br < n₀ := by omega
    by_cases hlt : k < n
    · have hex : ∃ b, l[k]? = some b := ⟨_, List.getElem?_eq_getElem (by omega)⟩
      obtain ⟨b, hb⟩ := hex
      obtain ⟨bl, ol, rfl, hbg, hbX2, hbO, c0⟩ := HRd.out.at_ hb
      have hlt' : (k : Int) < (n : Int) := by omega
      have RW := HR.out.below HS.out.low
      have r0 := RW.d0
      have HB := hide hb
      by_cases hD : b ∈ D
      · obtain ⟨i, hiD⟩ := List.getElem?_of_mem hD
        have HC := hide (index_yes (cD := cD) hiD wr RW.d1 RW.dec RW.rel.asc (by omega))
        have HLs2 := hide (HLs.out.declared RW.rel.asc hb hiD)
        clear hb hiD hD RW
        gi_wp2_with (first
          | (refine ⟨trivial, ?_⟩; gi_at_call 29; go_must (refine (callsIn_wide.2 HC.out).mono ?_); rintro e w1 ⟨rfl, q, rfl⟩; have hq := tyN (Below.refl wr.heap.size wr) q; have HSq := hide (HS.out.alloc hXn hq hbase); have hal := hq.alloc hq.size (.cells #[.int .i64 (i : Int)] 3))
          | (gi_at_builtin; go_must (refine wpListIn_append_own_at _ rfl _ _ 35 rfl n₀ 3 i0 (.int .i64 0) 1 8 Try.underlying35 hi hz0 hz1 hz2 rfl (by decide) _ m2 _ rfl (HSq.out.own.alloc _) ⟨wr.heap.size, 0, none⟩ 1 1 (i64s [(i : Int)]) rfl rfl (cell_int2 (wr.drewN q) (i : Int) 3) (ints_oneCell _ _) (by unfold maxLen; omega) (by omega) (by rw [World.size_alloc]; have := HSq.out.size; omega) ?_; intro v5 w5 hown5 hg5 _ hat5; have HSa := HS.out.alloc hXn hal hbase; have happ := HSa.app hXn hbase (i64app2 hown5) hg5 hat5; have HS5 := hide happ.1; have HJ5 := hide (HJ.out _ _ _ (HJ.out _ _ _ HJ1.out (ItX.of_below hal hsz)) happ.2); have hlow5 := hide ((hal.mono hsz).trans happ.2.low); clear hown5 hg5 hat5 happ)))
        exact ⟨⟨k + 1, m2 + 1, S ++ [(i : Int)], pre, by go_num, by omega, by omega, HS5.out, HRd.out.low hlow5.out hXn, (hlow5.out.cell (p := ⟨Br, 0, none⟩) hBrn).trans hbr, HLs2.out, HJ5.out⟩, by simp [intOf]; omega⟩
      · have HC := hide (index_no (cD := cD) hD wr RW.d1 RW.dec RW.rel.asc (by omega))
        by_cases hrg : 0 ≤ b ∧ b < rg
        · have HT := hide (show tyIn b rg = true from tyIn_iff.2 hrg)
          have HLs2 := hide (HLs.out.yielded hb hD hrg)
          clear hb hD RW
          gi_wp2_with (first
            | (refine ⟨trivial, ?_⟩; gi_at_call 29; go_must (refine (callsIn_wide.2 HC.out).mono ?_); go_must (rintro e w1 ⟨⟨k0, rfl⟩, q, rfl⟩); have hq := tyN (Below.refl wr.heap.size wr) q; have HSq := hide (HS.out.alloc hXn hq hbase); have r0' : (wr.drewN q).cell? ⟨r, 0, none⟩ = _ := r0; have hbr' : (wr.drewN q).cell? ⟨Br, 0, none⟩ = _ := hbr; obtain ⟨fn, tmps, assign, body, hy, hRR⟩ := HYY.out (m - 1) pre b (wr.drewN q) (HJ.out _ _ _ HJ1.out (ItX.of_below hq hsz)) (by have := HLs.out.few; omega))
            | (refine ⟨trivial, ?_⟩; gi_at_call 30; refine (callsIn_wide.2 (rwithin_is HT.out _)).mono ?_; rintro e w1 ⟨rfl, rfl⟩))
          refine hRR.mono ?_
          rintro e W3 (⟨rfl, hJ3, hk3⟩ | ⟨rfl, hJx3⟩)
          · have HS3 := hide (HSq.out.keep hk3 hXn)
            have HRd3 := hide ((HRd.out.low (hq.mono hsz) hXn).keep hk3 hsz)
            have hbr3 : W3.cell? ⟨Br, 0, none⟩ = some (.pointer (some ⟨r, 0, none⟩)) := hk3.cell hbr' hBX (fun e => by have := (HSq.out.ox Br e.symm).1; omega)
            have HJ3 := hide hJ3
            clear hJ3 hk3 hRR hy
            gi_wp2
            exact ⟨⟨k + 1, m2, S, pre ++ [b], by go_num, by omega, by omega, HS3.out, HRd3.out, hbr3, HLs2.out, HJ3.out⟩, by simp [intOf]; omega⟩
          · have HJx3 := hide hJx3
            clear hJx3 hRR hy
            gi_wp2
            refine bodyPost_ret (results_none rfl _ _ _) rfl ?_
            exact ⟨⟨_, rfl⟩, .inr ⟨pre ++ [b], HLs2.out.good, HJx3.out⟩⟩
        · have HT := hide (show tyIn b rg = false from tyIn_not.2 hrg)
          have HLs2 := hide (HLs.out.other hb hD hrg)
          clear hb hD hrg RW
          gi_wp2_with (first
            | (refine ⟨trivial, ?_⟩; gi_at_call 29; go_must (refine (callsIn_wide.2 HC.out).mono ?_); go_must (rintro e w1 ⟨⟨k0, rfl⟩, q, rfl⟩); have hq := tyN (Below.refl wr.heap.size wr) q; have HSq := hide (HS.out.alloc hXn hq hbase); have r0' : (wr.drewN q).cell? ⟨r, 0, none⟩ = _ := r0; have hbr' : (wr.drewN q).cell? ⟨Br, 0, none⟩ = _ := hbr)
            | (refine ⟨trivial, ?_⟩; gi_at_call 30; refine (callsIn_wide.2 (rwithin_is HT.out _)).mono ?_; rintro e w1 ⟨rfl, rfl⟩))
          refine ⟨fun _ h => (by cases h), ?_⟩
          gi_wp2
          exact ⟨⟨k + 1, m2, S, pre, by go_num, by omega, by omega, HSq.out, HRd.out.low (hq.mono hsz) hXn, hbr', HLs2.out, HJ.out _ _ _ HJ1.out (ItX.of_below hq hsz)⟩, by simp [intOf]; omega⟩
    · have e : k = n := by omega
      have hlt' : ¬ (k : Int) < (n : Int) := by omega
      have RW := hide (HR.out.below HS.out.low)
      have hSR := HS.out.rd hXn rfl
      have HC := hide (search_in (m - 1) yl base X n₀ (n + nD) J Jx HJ.out HYY.out r ps rg A1 nD cD D A2 c2 L wr RW.out hbase hbX hXn hsz (OutL ps rg l) (outL_up RW.out.ok) A7 m2 c7 S hSR (by omega)
        (fun x hx => ⟨(HLs.out.rng x hx).1, fun a ha => by
          have h1 := (HLs.out.rng x hx).2 a ha
          exact ⟨a, h1, Out.refl (dec_in RW.out.rel RW.out.ok (List.mem_of_getElem? ha))⟩⟩) pre HJ1.out (fun g hg => ⟨(HS.out.ox g hg).1, (HS.out.ox g hg).2.1⟩) (by have := HLs.out.few; omega))
      clear hSR hlt
      gi_wp2_with (refine ⟨trivial, ?_⟩; gi_at_call 44; refine HC.out.mono ?_; rintro e W3 ⟨⟨v, rfl⟩, hres⟩)
      go_end0
      refine ⟨⟨_, rfl⟩, ?_⟩
      rcases hres with ⟨ys, h1, h2, h3⟩ | ⟨ys, h1, h3⟩
      · exact .inl ⟨pre ++ ys, HLs.out.end_ (by omega) RW.out.rel RW.out.ok h1 h2, h3⟩
      · exact .inr ⟨pre ++ ys, fun a ha => (List.mem_append.1 ha).elim (HLs.out.good a) (h1 a), h3⟩
end Go.Proofs.Ytagnikaghhobjaa
