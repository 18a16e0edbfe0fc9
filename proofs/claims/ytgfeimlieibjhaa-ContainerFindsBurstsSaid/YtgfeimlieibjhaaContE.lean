/- What container.collect makes of spans. -/
import Derived.Test.YtgfeimlieibjhaaContD
set_option linter.unusedVariables false
namespace Go.Proofs.Ytgfeimlieibjhaa
open Go.RowKit Go.Shelf
attribute [local go_sem] Oper.semAt_some

def rdP (xs : List Int) : List (Nat × Nat) := (rdF xs).map fun f => (f.fr, f.to)
def cp (x : Nat × Nat) : List Value := [.int .i64 (x.1 : Int), .int .i64 (x.2 : Int)]
theorem cp_len (x : Nat × Nat) : (cp x).length = 2 := rfl
theorem cp_one (x : Nat × Nat) : ∀ u ∈ cp x, u.oneCell' = true := by intro u hu; simp only [cp, List.mem_cons, List.not_mem_nil, or_false] at hu; rcases hu with rfl | rfl <;> rfl
/-- the spans collected so far -/
def CollP (W : World) (base : Nat) (v : Value) (S : List (Nat × Nat)) : Prop := W.ownsRow base 44 2 v S.length (S.flatMap cp)
theorem CollP.own {W W' : World} {row : Option Nat} {base : Nat} {v : Value} {S : List (Nat × Nat)} (h : CollP W base v S) (hg : W.grownBy W' row) (hr : ∀ r, row = some r → ∃ o : Obj, W.heap[r]? = some o ∧ o.isCells = false) : CollP W' base v S := row_own h hg hr
theorem CollP.below {W W' : World} {base : Nat} {v : Value} {S : List (Nat × Nat)} (h : CollP W base v S) (hb : Below W.heap.size W W') : CollP W' base v S := ownsRow_below h hb
theorem CollP.setCell {W : World} {base : Nat} {v : Value} {S : List (Nat × Nat)} (h : CollP W base v S) {a : Addr} (ha : a.block < base) (u : Value) : CollP (W.setCell a u) base v S := ownsRow_setCell_below h ha u
theorem CollP.lower {W : World} {base base' : Nat} {v : Value} {S : List (Nat × Nat)} (h : CollP W base v S) (hb : base' ≤ base) : CollP W base' v S := ownsRow_base h hb
theorem CollP.form {W : World} {base : Nat} {v : Value} {S : List (Nat × Nat)} (h : CollP W base v S) : ∃ A n c, v = .slice A n c ∧ Hid (n = S.length) ∧ n ≤ c ∧ c ≤ maxLen := by
  rcases h.2 with ⟨rfl, h0⟩ | ⟨g, cap, cur, rfl, _, _, h5, h6, _⟩
  · exact ⟨_, _, _, rfl, (show _ = _ by omega), Nat.le_refl _, Nat.zero_le _⟩
  · exact ⟨_, _, _, rfl, rfl, h5, h6⟩
theorem collP_up {w5 : World} {base B : Nat} {v5 : Value} {S : List (Nat × Nat)} {y : Nat × Nat} (hown5 : w5.ownsRow base 44 2 v5 (S.length + 1) (S.flatMap cp ++ cp y)) (hB : B < base) : CollP (w5.setCell ⟨B, 0, none⟩ v5) base v5 (S ++ [y]) := by
  have := ownsRow_setCell_below hown5 (a := ⟨B, 0, none⟩) hB v5
  unfold CollP
  simpa using this
theorem infoPair : (Try.prog.info? 44).map (fun i => (i.zero, i.size, i.bytes)) = some (some (.agg #[.int .i64 0, .int .i64 0]), 2, 16) := by kernel_rfl

set_option maxRecDepth 100000 in
set_option maxHeartbeats 4000000 in
theorem collect2_in (A : Option Addr) (nn c : Nat) (xs : List Int) (w : World) (hr : Rd w w.heap.size A nn (u8s xs)) (hx : Byt xs) (hnc : nn ≤ c) (hcm : c ≤ maxLen) (hle : nn ≤ 1000000) :
    CallsIn Fence.wide 9 Try.prog 28 #[.slice A nn c, .func (.func 29) #[] #[]] w fun e W' =>
      ∃ v, e = .returned (.tuple #[v, .int .i64 (rdE xs)]) ∧ CollP W' w.heap.size v (rdP xs) ∧ Below w.heap.size w W' := by
  refine callsIn_of_wp_marks Try.func28 rfl trivial ?_ rfl
  simp only [Try.ntmps28, List.size_toArray, List.length_cons, List.length_nil, Nat.reduceAdd, Nat.reduceSub, Array.replicate_succ, Array.replicate_zero, List.push_toArray, List.append_toArray, List.nil_append, List.cons_append]
  gi_wp2_with (refine ⟨trivial, ?_⟩; gi_at_call 39; refine (frames_in _ _ _ _ _).mono ?_; rintro e w' ⟨rfl, rfl⟩)
  obtain ⟨i0, hi, hz0, hz1, hz2⟩ := info_parts infoPair
  have bP := ((((Boxed.new w 66 (.func (.func 29) #[] #[])).alloc (.cells #[.slice none 0 0] 38)).alloc (.cells #[.int .i64 0] 30)).alloc (.cells #[.slice none 0 0] 38)).alloc (.cells #[.slice A nn c] 29)
  have bR := (((Boxed.new (w.alloc (.cells #[.func (.func 29) #[] #[]] 66)) 38 (.slice none 0 0)).alloc (.cells #[.int .i64 0] 30)).alloc (.cells #[.slice none 0 0] 38)).alloc (.cells #[.slice A nn c] 29)
  have bE := ((Boxed.new ((w.alloc (.cells #[.func (.func 29) #[] #[]] 66)).alloc (.cells #[.slice none 0 0] 38)) 30 (.int .i64 0)).alloc (.cells #[.slice none 0 0] 38)).alloc (.cells #[.slice A nn c] 29)
  have bA := (Boxed.new (((w.alloc (.cells #[.func (.func 29) #[] #[]] 66)).alloc (.cells #[.slice none 0 0] 38)).alloc (.cells #[.int .i64 0] 30)) 38 (.slice none 0 0)).alloc (.cells #[.slice A nn c] 29)
  have bF := Boxed.new ((((w.alloc (.cells #[.func (.func 29) #[] #[]] 66)).alloc (.cells #[.slice none 0 0] 38)).alloc (.cells #[.int .i64 0] 30)).alloc (.cells #[.slice none 0 0] 38)) 29 (.slice A nn c)
  simp only [World.size_alloc] at bR bE bA bF
  have hB0 : Below w.heap.size w (((((w.alloc (.cells #[.func (.func 29) #[] #[]] 66)).alloc (.cells #[.slice none 0 0] 38)).alloc (.cells #[.int .i64 0] 30)).alloc (.cells #[.slice none 0 0] 38)).alloc (.cells #[.slice A nn c] 29)) :=
    (((((Below.refl _ w).alloc (Nat.le_refl _) _).alloc (by simp) _).alloc (by simp; omega) _).alloc (by simp; omega) _).alloc (by simp; omega) _
  have hsz : (((((w.alloc (.cells #[.func (.func 29) #[] #[]] 66)).alloc (.cells #[.slice none 0 0] 38)).alloc (.cells #[.int .i64 0] 30)).alloc (.cells #[.slice none 0 0] 38)).alloc (.cells #[.slice A nn c] 29)).heap.size = w.heap.size + 5 := by simp
  obtain ⟨W0, hW0⟩ : ∃ W0, ((((w.alloc (.cells #[.func (.func 29) #[] #[]] 66)).alloc (.cells #[.slice none 0 0] 38)).alloc (.cells #[.int .i64 0] 30)).alloc (.cells #[.slice none 0 0] 38)).alloc (.cells #[.slice A nn c] 29) = W0 := ⟨_, rfl⟩
  rw [hW0] at bP bR bE bA bF hB0 hsz ⊢
  clear hW0
  have hlen := hide (yall_len xs)
  have hxl : xs.length = nn := by simpa using hr.1
  refine wpIn_rangeFunc_ownH rfl (by omega) (gf := 45) (lb := #[.pointer (some ⟨w.heap.size + 1 + 1 + 1 + 1, 0, none⟩)]) rfl trivial (enters_of Try.func45 (by kernel_rfl) rfl)
    (frames_stops _ (by omega) (w.heap.size + 1 + 1 + 1 + 1) w.heap.size A nn c xs W0 hx hnc hcm hle bF (hr.below hB0) (by omega)) keepT_t (keepT_b (by omega)) (Below.refl _ _) (fun _ => rfl)
    (fun pre W => ((∀ x ∈ pre, x.1.e = 0) ∧ w.heap.size + 5 ≤ W.heap.size ∧ Boxed W w.heap.size 66 (.func (.func 29) #[] #[]) ∧ Boxed W (w.heap.size + 1) 38 (.slice none 0 0) ∧ Boxed W (w.heap.size + 1 + 1) 30 (.int .i64 0) ∧
      ∃ v, Boxed W (w.heap.size + 1 + 1 + 1) 38 v ∧ CollP W (w.heap.size + 5) v (pre.map fun x => (x.1.fr, x.1.to))) ∧ Below w.heap.size w W)
    (fun cd pre W => (cd = .ret ∧ LeftBy (fun W f => Boxed W (w.heap.size + 1) 38 (.slice none 0 0) ∧ Boxed W (w.heap.size + 1 + 1) 30 (.int .i64 f.e)) pre W) ∧ Below w.heap.size w W)
    (OwnFrom.and (Own.from (fun s X Y row hs hg hr => ⟨hs.1, Nat.le_trans hs.2.1 hg.size, block_own hs.2.2.1 hg hr, block_own hs.2.2.2.1 hg hr, block_own hs.2.2.2.2.1 hg hr, by
      obtain ⟨v, h1, h2⟩ := hs.2.2.2.2.2
      exact ⟨v, block_own h1 hg hr, h2.own hg hr⟩⟩) _) (ownFrom_below (Nat.le_refl _) (by omega)))
    (fun cd => OwnFrom.and (Own.from (fun s X Y row hs hg hr => ⟨hs.1, by
      obtain ⟨q, x, h1, h2, h3, h4, h5⟩ := hs.2
      exact ⟨q, x, h1, h2, h3, block_own h4 hg hr, block_own h5 hg hr⟩⟩) _) (ownFrom_below (Nat.le_refl _) (by omega)))
    ⟨⟨(fun x hx => by cases hx), by omega, bP, bR, bE, _, bA, World.ownsRow_nil _ _ _ _⟩, hB0⟩
    (fun x a' W => ∃ Bf, w.heap.size + 5 ≤ Bf ∧ W.heap[Bf]? = some (.cells #[.int .i64 x.1.id, .int .i64 (x.1.fr : Int), .int .i64 (x.1.to : Int)] 63 (0, 0)) ∧ a' = { tmps := #[.slice A nn c, .func (.func 29) #[] #[], undef, .pointer (some ⟨w.heap.size, 0, none⟩), .pointer (some ⟨w.heap.size + 1, 0, none⟩), .pointer (some ⟨w.heap.size + 1 + 1, 0, none⟩), .pointer (some ⟨w.heap.size + 1 + 1 + 1, 0, none⟩), .pointer (some ⟨Bf, 0, none⟩), .int .i64 x.1.e, .slice A nn c, .func (.func 45) #[] #[.pointer (some ⟨w.heap.size + 1 + 1 + 1 + 1, 0, none⟩)], frV x.1, .int .i64 x.1.e, undef, undef, undef, undef, undef, undef, undef, undef, undef, undef], defers := [] })
    (fun x a' _ X Y row hs hg hr => by obtain ⟨Bf, h1, h2, h3⟩ := hs; exact ⟨Bf, h1, block_own h2 hg (fun r e => (hr r e).2), h3⟩)
    ?assign ?body ?done ?stop
  case assign =>
    rintro l pre x W K ⟨⟨h1, hlo, h2, h3, h4, v, h5, h6⟩, hB⟩ hK
    obtain ⟨⟨id, fF, tT, ee⟩, hok⟩ := x
    have hb := (Below.refl W.heap.size W).alloc (Nat.le_refl _) (.cells #[.int .i64 id, .int .i64 (fF : Int), .int .i64 (tT : Int)] 63)
    have hKp : KeepT w.heap.size frTs W _ := KeepT.of_below hb hB.size
    have HK := hide hK
    clear hK
    dsimp only [fenc, frV]
    gi_wp2
    exact HK.out _ _ ((KeepsOthers.alloc _ _).from _) hKp ⟨⟨h1, by simp; omega, h2.alloc _, h3.alloc _, h4.alloc _, v, h5.alloc _, h6.below hb⟩, hB.trans (hb.mono hB.size)⟩ ⟨W.heap.size, hlo, heap_alloc_new W _, rfl⟩
  case body =>
    rintro l pre x a' W hl ⟨r, hrr⟩ ⟨⟨h1, hlo, h2, h3, h4, v, h5, h6⟩, hB⟩ ⟨Bf, hBf, bX, rfl⟩ hlt
    obtain ⟨⟨id, fF, tT, ee⟩, hok⟩ := x
    dsimp only at bX
    by_cases he : ee = 0
    · subst he
      have cA := h5.cell
      have cP := h2.cell
      have d0 := cell_of_heap bX 0
      have d1 := cell_of_heap bX 1
      have d2 := cell_of_heap bX 2
      have hown := h6
      obtain ⟨LS, HLS⟩ : ∃ LS : List (Nat × Nat), Hid (LS = pre.map fun x => (x.1.fr, x.1.to)) := ⟨_, rfl⟩
      unfold CollP at hown
      rw [← HLS.out] at hown
      have hLb : LS.length ≤ 1000001 := by have := hlen.out; rw [HLS.out, List.length_map]; omega
      have hBfl : Bf < W.heap.size := (Array.getElem?_eq_some_iff.1 bX).1
      have HX := hide fun w' (hb : Below W.heap.size W w') => (hb.block Bf hBfl).trans bX
      have HS := hide fun w' (hb : Below W.heap.size W w') => (⟨(boxed_below h2 hb).cell, (hb.cell (p := ⟨Bf, 0, none⟩) hBfl).trans d0, (hb.cell (p := ⟨Bf, 1, none⟩) hBfl).trans d1, (hb.cell (p := ⟨Bf, 2, none⟩) hBfl).trans d2⟩ : w'.cell? ⟨w.heap.size, 0, none⟩ = some (.func (.func 29) #[] #[]) ∧ w'.cell? ⟨Bf, 0, none⟩ = some (.int .i64 id) ∧ w'.cell? ⟨Bf, 1, none⟩ = some (.int .i64 (fF : Int)) ∧ w'.cell? ⟨Bf, 2, none⟩ = some (.int .i64 (tT : Int)))
      clear hrr h6
      gi_wp2
      refine region_in (S := fun w' => w'.cell? ⟨w.heap.size, 0, none⟩ = some (.func (.func 29) #[] #[]) ∧ w'.cell? ⟨Bf, 0, none⟩ = some (.int .i64 id) ∧ w'.cell? ⟨Bf, 1, none⟩ = some (.int .i64 (fF : Int)) ∧ w'.cell? ⟨Bf, 2, none⟩ = some (.int .i64 (tT : Int))) (by kernel_rfl) (by kernel_rfl) (by rintro ⟨_, _, h⟩; exact h) ⟨cP, d0, d1, d2⟩ (fun hHeld => ?_)
      refine wpAnyH_take (i := 1) (v := .func (.func 29) #[] #[]) rfl (by kernel_rfl) (by kernel_rfl) (by kernel_rfl) (fun _ _ _ h => h) (Or.inl ⟨by rfl, fun w' hS => by obtain ⟨s0, s1, s2, s3⟩ := hS; go_simp⟩) hHeld ?_
      simp only [Act.put, List.setIfInBounds_toArray]
      refine wpAnyH_take (i := 2) (v := .agg #[.int .i64 id, .int .i64 (fF : Int), .int .i64 (tT : Int)]) rfl (by kernel_rfl) (by kernel_rfl) (by kernel_rfl) (fun _ _ _ h => h) (Or.inl ⟨by rfl, fun w' hS => by obtain ⟨s0, s1, s2, s3⟩ := hS; go_simp⟩) hHeld ?_
      simp only [Act.put]
      refine wpAnyH_ready (rs := [0, 3]) (by kernel_rfl) (by simp) ?_
      refine AllReadyH.cons rfl (fun K hK => ?_) (AllReadyH.cons rfl (fun K hK => ?_) AllReadyH.nil)
      · go_simp
        refine hK.out _ _ hHeld (fun hHeld => ?_)
        clear hK K
        refine wpAnyH_ready (rs := [3]) (by kernel_rfl) (by simp) ?_
        refine AllReadyH.cons rfl (fun K hK => ?_) AllReadyH.nil
        go_simp
        refine (part2_any id fF tT _).mono ?_
        rintro e w3 ⟨rfl, hb3⟩
        have hb3' : Below W.heap.size W w3 := (Below.refl _ W).drew.trans hb3
        have S3 := HS.out _ hb3'
        have cA3 := (boxed_below h5 hb3').cell
        clear hb3
        refine hK.out _ _ S3 (fun hHeld => ?_)
        clear hK K
        refine wpAnyH_ready (rs := [4]) (by kernel_rfl) (by simp) ?_
        refine AllReadyH.cons rfl (fun K hK => ?_) AllReadyH.nil
        go_simp
        have hb4 := hide (hb3'.alloc hb3'.size (.cells #[.int .i64 (fF : Int), .int .i64 (tT : Int)] 44))
        have S4 := HS.out _ hb4.out
        refine hK.out _ _ S4 (fun hHeld => ?_)
        clear hK K
        refine wpAnyH_ready (rs := [5]) (by kernel_rfl) (by simp) ?_
        refine AllReadyH.cons rfl (fun K hK => ?_) AllReadyH.nil
        refine step_append_lies _ (by rfl) (.tmp 16) (.tmp 20) 38 (by rfl) (w.heap.size + 5) 44 i0 (.agg #[.int .i64 0, .int .i64 0]) 2 16 Try.underlying38 hi hz0 hz1 hz2 rfl (by decide) v LS.length (LS.flatMap cp) (by rfl) (ownsRow_below hown hb4.out) ⟨w3.heap.size, 0, none⟩ 1 1 (cp (fF, tT)) (by rfl) rfl (news_new w3 [.int .i64 (fF : Int), .int .i64 (tT : Int)] 44) (cp_one _) (by decide) (by unfold maxLen; omega) (by omega) (by have := hb4.out.size; omega) _ rfl ?_
        intro g5 cap5 w5 hown5 hg5 hat5 hlt5
        have hb3s := hb3'.size
        have cB5 := boxed_row (boxed_below h5 hb4.out) hg5 (ownsRow_below hown hb4.out) (by decide)
        have cA5 := cB5.cell
        have fA5 := cB5.frozen
        have S5 : _ ∧ _ ∧ _ ∧ _ := ⟨(boxed_row (boxed_below h2 hb4.out) hg5 (ownsRow_below hown hb4.out) (by decide)).cell, hg5.cell S4.2.1 (ne_row (HX.out _ hb4.out) (ownsRow_below hown hb4.out) (by decide)), hg5.cell S4.2.2.1 (ne_row (HX.out _ hb4.out) (ownsRow_below hown hb4.out) (by decide)), hg5.cell S4.2.2.2 (ne_row (HX.out _ hb4.out) (ownsRow_below hown hb4.out) (by decide))⟩
        refine hK.out _ _ S5 (fun hHeld => ?_)
        clear hK K
        refine wpAnyH_ready (rs := [6]) (by kernel_rfl) (by simp) ?_
        refine AllReadyH.cons rfl (fun K hK => ?_) AllReadyH.nil
        go_simp
        refine hK.out _ _ ⟨(World.cell?_setCell_other _ _ _ _ (by simp <;> omega)).trans S5.1, (World.cell?_setCell_other _ _ _ _ (by simp <;> omega)).trans S5.2.1, (World.cell?_setCell_other _ _ _ _ (by simp <;> omega)).trans S5.2.2.1, (World.cell?_setCell_other _ _ _ _ (by simp <;> omega)).trans S5.2.2.2⟩ (fun hHeld => ?_)
        clear hK K
        refine wpAnyH_done (by kernel_rfl) ?_ _
        have hcu := collP_up (B := w.heap.size + 1 + 1 + 1) hown5 (by omega)
        have hk1 : KeepT w.heap.size frTs W _ := (KeepT.of_below hb4.out hB.size).trans ((KeepT.row hg5 (ownsRow_below hown hb4.out) (by omega) (by have := hb4.out.size; have := hB.size; omega) (by decide)).trans (KeepT.box cB5 (by omega) (by decide) (.slice (some ⟨g5, 0, none⟩) (LS.length + 1) cap5)))
        have hk2 : KeepsFrom W0.heap.size W _ := (keepsFrom_below hb4.out).trans ((keepsFrom_row hg5 (ownsRow_below hown hb4.out)).trans ((KeepsOthers.setCell w5 ⟨w.heap.size + 1 + 1 + 1, 0, none⟩ (.slice (some ⟨g5, 0, none⟩) (LS.length + 1) cap5)).from _))
        refine ⟨hk2, hk1, ⟨?_, ?_, ?_, ?_, ?_, _, cB5.set _, ?_⟩, hB.trans hk1.1⟩
        · intro x hx
          rcases List.mem_append.1 hx with hx | hx
          · exact h1 x hx
          · obtain rfl : x = _ := by simpa using hx
            rfl
        · rw [size_set]; have := hb4.out.size; have := hg5.size; omega
        · exact (boxed_row (boxed_below h2 hb4.out) hg5 (ownsRow_below hown hb4.out) (by decide)).other (by omega) _
        · exact (boxed_row (boxed_below h3 hb4.out) hg5 (ownsRow_below hown hb4.out) (by decide)).other (by omega) _
        · exact (boxed_row (boxed_below h4 hb4.out) hg5 (ownsRow_below hown hb4.out) (by decide)).other (by omega) _
        · rw [List.map_append, ← HLS.out]
          exact hcu
      · go_simp
        refine (part2_any id fF tT _).mono ?_
        rintro e w3 ⟨rfl, hb3⟩
        have hb3' : Below W.heap.size W w3 := (Below.refl _ W).drew.trans hb3
        have S3 := HS.out _ hb3'
        have cA3 := (boxed_below h5 hb3').cell
        clear hb3
        refine hK.out _ _ S3 (fun hHeld => ?_)
        clear hK K
        refine wpAnyH_ready (rs := [0, 4]) (by kernel_rfl) (by simp) ?_
        refine AllReadyH.cons rfl (fun K hK => ?_) (AllReadyH.cons rfl (fun K hK => ?_) AllReadyH.nil)
        · go_simp
          refine hK.out _ _ S3 (fun hHeld => ?_)
          clear hK K
          refine wpAnyH_ready (rs := [4]) (by kernel_rfl) (by simp) ?_
          refine AllReadyH.cons rfl (fun K hK => ?_) AllReadyH.nil
          go_simp
          have hb4 := hide (hb3'.alloc hb3'.size (.cells #[.int .i64 (fF : Int), .int .i64 (tT : Int)] 44))
          have S4 := HS.out _ hb4.out
          refine hK.out _ _ S4 (fun hHeld => ?_)
          clear hK K
          refine wpAnyH_ready (rs := [5]) (by kernel_rfl) (by simp) ?_
          refine AllReadyH.cons rfl (fun K hK => ?_) AllReadyH.nil
          refine step_append_lies _ (by rfl) (.tmp 16) (.tmp 20) 38 (by rfl) (w.heap.size + 5) 44 i0 (.agg #[.int .i64 0, .int .i64 0]) 2 16 Try.underlying38 hi hz0 hz1 hz2 rfl (by decide) v LS.length (LS.flatMap cp) (by rfl) (ownsRow_below hown hb4.out) ⟨w3.heap.size, 0, none⟩ 1 1 (cp (fF, tT)) (by rfl) rfl (news_new w3 [.int .i64 (fF : Int), .int .i64 (tT : Int)] 44) (cp_one _) (by decide) (by unfold maxLen; omega) (by omega) (by have := hb4.out.size; omega) _ rfl ?_
          intro g5 cap5 w5 hown5 hg5 hat5 hlt5
          have hb3s := hb3'.size
          have cB5 := boxed_row (boxed_below h5 hb4.out) hg5 (ownsRow_below hown hb4.out) (by decide)
          have cA5 := cB5.cell
          have fA5 := cB5.frozen
          have S5 : _ ∧ _ ∧ _ ∧ _ := ⟨(boxed_row (boxed_below h2 hb4.out) hg5 (ownsRow_below hown hb4.out) (by decide)).cell, hg5.cell S4.2.1 (ne_row (HX.out _ hb4.out) (ownsRow_below hown hb4.out) (by decide)), hg5.cell S4.2.2.1 (ne_row (HX.out _ hb4.out) (ownsRow_below hown hb4.out) (by decide)), hg5.cell S4.2.2.2 (ne_row (HX.out _ hb4.out) (ownsRow_below hown hb4.out) (by decide))⟩
          refine hK.out _ _ S5 (fun hHeld => ?_)
          clear hK K
          refine wpAnyH_ready (rs := [6]) (by kernel_rfl) (by simp) ?_
          refine AllReadyH.cons rfl (fun K hK => ?_) AllReadyH.nil
          go_simp
          refine hK.out _ _ ⟨(World.cell?_setCell_other _ _ _ _ (by simp <;> omega)).trans S5.1, (World.cell?_setCell_other _ _ _ _ (by simp <;> omega)).trans S5.2.1, (World.cell?_setCell_other _ _ _ _ (by simp <;> omega)).trans S5.2.2.1, (World.cell?_setCell_other _ _ _ _ (by simp <;> omega)).trans S5.2.2.2⟩ (fun hHeld => ?_)
          clear hK K
          refine wpAnyH_done (by kernel_rfl) ?_ _
          have hcu := collP_up (B := w.heap.size + 1 + 1 + 1) hown5 (by omega)
          have hk1 : KeepT w.heap.size frTs W _ := (KeepT.of_below hb4.out hB.size).trans ((KeepT.row hg5 (ownsRow_below hown hb4.out) (by omega) (by have := hb4.out.size; have := hB.size; omega) (by decide)).trans (KeepT.box cB5 (by omega) (by decide) (.slice (some ⟨g5, 0, none⟩) (LS.length + 1) cap5)))
          have hk2 : KeepsFrom W0.heap.size W _ := (keepsFrom_below hb4.out).trans ((keepsFrom_row hg5 (ownsRow_below hown hb4.out)).trans ((KeepsOthers.setCell w5 ⟨w.heap.size + 1 + 1 + 1, 0, none⟩ (.slice (some ⟨g5, 0, none⟩) (LS.length + 1) cap5)).from _))
          refine ⟨hk2, hk1, ⟨?_, ?_, ?_, ?_, ?_, _, cB5.set _, ?_⟩, hB.trans hk1.1⟩
          · intro x hx
            rcases List.mem_append.1 hx with hx | hx
            · exact h1 x hx
            · obtain rfl : x = _ := by simpa using hx
              rfl
          · rw [size_set]; have := hb4.out.size; have := hg5.size; omega
          · exact (boxed_row (boxed_below h2 hb4.out) hg5 (ownsRow_below hown hb4.out) (by decide)).other (by omega) _
          · exact (boxed_row (boxed_below h3 hb4.out) hg5 (ownsRow_below hown hb4.out) (by decide)).other (by omega) _
          · exact (boxed_row (boxed_below h4 hb4.out) hg5 (ownsRow_below hown hb4.out) (by decide)).other (by omega) _
          · rw [List.map_append, ← HLS.out]
            exact hcu
        · go_simp
          have hb4 := hide (hb3'.alloc hb3'.size (.cells #[.int .i64 (fF : Int), .int .i64 (tT : Int)] 44))
          have S4 := HS.out _ hb4.out
          refine hK.out _ _ S4 (fun hHeld => ?_)
          clear hK K
          refine wpAnyH_ready (rs := [0]) (by kernel_rfl) (by simp) ?_
          refine AllReadyH.cons rfl (fun K hK => ?_) AllReadyH.nil
          have cA4 := (boxed_below h5 hb4.out).cell
          go_simp
          refine hK.out _ _ S4 (fun hHeld => ?_)
          clear hK K
          refine wpAnyH_ready (rs := [5]) (by kernel_rfl) (by simp) ?_
          refine AllReadyH.cons rfl (fun K hK => ?_) AllReadyH.nil
          refine step_append_lies _ (by rfl) (.tmp 16) (.tmp 20) 38 (by rfl) (w.heap.size + 5) 44 i0 (.agg #[.int .i64 0, .int .i64 0]) 2 16 Try.underlying38 hi hz0 hz1 hz2 rfl (by decide) v LS.length (LS.flatMap cp) (by rfl) (ownsRow_below hown hb4.out) ⟨w3.heap.size, 0, none⟩ 1 1 (cp (fF, tT)) (by rfl) rfl (news_new w3 [.int .i64 (fF : Int), .int .i64 (tT : Int)] 44) (cp_one _) (by decide) (by unfold maxLen; omega) (by omega) (by have := hb4.out.size; omega) _ rfl ?_
          intro g5 cap5 w5 hown5 hg5 hat5 hlt5
          have hb3s := hb3'.size
          have cB5 := boxed_row (boxed_below h5 hb4.out) hg5 (ownsRow_below hown hb4.out) (by decide)
          have cA5 := cB5.cell
          have fA5 := cB5.frozen
          have S5 : _ ∧ _ ∧ _ ∧ _ := ⟨(boxed_row (boxed_below h2 hb4.out) hg5 (ownsRow_below hown hb4.out) (by decide)).cell, hg5.cell S4.2.1 (ne_row (HX.out _ hb4.out) (ownsRow_below hown hb4.out) (by decide)), hg5.cell S4.2.2.1 (ne_row (HX.out _ hb4.out) (ownsRow_below hown hb4.out) (by decide)), hg5.cell S4.2.2.2 (ne_row (HX.out _ hb4.out) (ownsRow_below hown hb4.out) (by decide))⟩
          refine hK.out _ _ S5 (fun hHeld => ?_)
          clear hK K
          refine wpAnyH_ready (rs := [6]) (by kernel_rfl) (by simp) ?_
          refine AllReadyH.cons rfl (fun K hK => ?_) AllReadyH.nil
          go_simp
          refine hK.out _ _ ⟨(World.cell?_setCell_other _ _ _ _ (by simp <;> omega)).trans S5.1, (World.cell?_setCell_other _ _ _ _ (by simp <;> omega)).trans S5.2.1, (World.cell?_setCell_other _ _ _ _ (by simp <;> omega)).trans S5.2.2.1, (World.cell?_setCell_other _ _ _ _ (by simp <;> omega)).trans S5.2.2.2⟩ (fun hHeld => ?_)
          clear hK K
          refine wpAnyH_done (by kernel_rfl) ?_ _
          have hcu := collP_up (B := w.heap.size + 1 + 1 + 1) hown5 (by omega)
          have hk1 : KeepT w.heap.size frTs W _ := (KeepT.of_below hb4.out hB.size).trans ((KeepT.row hg5 (ownsRow_below hown hb4.out) (by omega) (by have := hb4.out.size; have := hB.size; omega) (by decide)).trans (KeepT.box cB5 (by omega) (by decide) (.slice (some ⟨g5, 0, none⟩) (LS.length + 1) cap5)))
          have hk2 : KeepsFrom W0.heap.size W _ := (keepsFrom_below hb4.out).trans ((keepsFrom_row hg5 (ownsRow_below hown hb4.out)).trans ((KeepsOthers.setCell w5 ⟨w.heap.size + 1 + 1 + 1, 0, none⟩ (.slice (some ⟨g5, 0, none⟩) (LS.length + 1) cap5)).from _))
          refine ⟨hk2, hk1, ⟨?_, ?_, ?_, ?_, ?_, _, cB5.set _, ?_⟩, hB.trans hk1.1⟩
          · intro x hx
            rcases List.mem_append.1 hx with hx | hx
            · exact h1 x hx
            · obtain rfl : x = _ := by simpa using hx
              rfl
          · rw [size_set]; have := hb4.out.size; have := hg5.size; omega
          · exact (boxed_row (boxed_below h2 hb4.out) hg5 (ownsRow_below hown hb4.out) (by decide)).other (by omega) _
          · exact (boxed_row (boxed_below h3 hb4.out) hg5 (ownsRow_below hown hb4.out) (by decide)).other (by omega) _
          · exact (boxed_row (boxed_below h4 hb4.out) hg5 (ownsRow_below hown hb4.out) (by decide)).other (by omega) _
          · rw [List.map_append, ← HLS.out]
            exact hcu
    · have t1 : (ee != 0) = true := by simpa using he
      have cR := h3.cell
      have fR := h3.frozen
      have cE := h4.cell
      have fE := h4.frozen
      have HR := hide ((h3.set (.slice none 0 0)).other (B' := w.heap.size + 1 + 1) (by omega) (.int .i64 ee))
      have HE := hide ((h4.other (B' := w.heap.size + 1) (by omega) (.slice none 0 0)).set (.int .i64 ee))
      clear h6
      gi_wp2
      exact ⟨((KeepsOthers.setCell _ _ _).trans (KeepsOthers.setCell _ _ _)).from _, ⟨rfl, pre, ⟨⟨id, fF, tT, ee⟩, hok⟩, rfl, h1, he, HR.out, HE.out⟩, (hB.setCell (p := ⟨w.heap.size + 1, 0, none⟩) (by show w.heap.size ≤ w.heap.size + 1; omega) _).setCell (p := ⟨w.heap.size + 1 + 1, 0, none⟩) (by show w.heap.size ≤ w.heap.size + 1 + 1; omega) _⟩
  case done =>
    rintro D ys W hD hS ⟨⟨h1, hlo, h2, h3, h4, v, h5, h6⟩, hB⟩ hK
    have cA := h5.cell
    have cR := h3.cell
    have fR := h3.frozen
    have cE := h4.cell
    have fE := h4.frozen
    have hz : rdE xs = 0 := by
      unfold rdE
      rw [← hS]
      refine firstE_all fun f hf => ?_
      obtain ⟨x, hx, rfl⟩ := List.mem_map.1 hf
      exact h1 x hx
    have hL : rdP xs = ys.map fun x => (x.1.fr, x.1.to) := by
      unfold rdP rdF
      rw [if_pos hz, ← hS, List.map_map]
      rfl
    have HZ := hide hz
    have HL := hide hL
    obtain ⟨A2, n2, c2', rfl, _⟩ := h6.form
    have HK := hide (((KeepsOthers.setCell W ⟨w.heap.size + 1, 0, none⟩ (.slice A2 n2 c2')).trans (KeepsOthers.setCell _ ⟨w.heap.size + 1 + 1, 0, none⟩ (.int .i64 0))).same D _ hK rfl)
    have HC := hide (((h6.setCell (a := ⟨w.heap.size + 1, 0, none⟩) (by show w.heap.size + 1 < _; omega) (.slice A2 n2 c2')).setCell (a := ⟨w.heap.size + 1 + 1, 0, none⟩) (by show w.heap.size + 1 + 1 < _; omega) (.int .i64 0)))
    have HB := hide ((hB.setCell (p := ⟨w.heap.size + 1, 0, none⟩) (by show w.heap.size ≤ w.heap.size + 1; omega) (.slice A2 n2 c2')).setCell (p := ⟨w.heap.size + 1 + 1, 0, none⟩) (by show w.heap.size ≤ w.heap.size + 1 + 1; omega) (.int .i64 0))
    have HR := hide ((h3.set (.slice A2 n2 c2')).other (B' := w.heap.size + 1 + 1) (by omega) (.int .i64 0))
    have HE := hide ((h4.other (B' := w.heap.size + 1) (by omega) (.slice A2 n2 c2')).set (.int .i64 0))
    clear hz hL hS h6 hK
    gi_wp2
    refine ⟨by simp, .inl ⟨_, _, rfl, run_takeDeferred HK.out, ?_⟩⟩
    have x0 := cell_kept HR.out.cell (grownBy_putObj' _ D (.deferred none)) (fun r e => by cases e; exact ⟨_, HK.out, rfl⟩)
    have x1 := cell_kept HE.out.cell (grownBy_putObj' _ D (.deferred none)) (fun r e => by cases e; exact ⟨_, HK.out, rfl⟩)
    refine ⟨.tuple #[.slice A2 n2 c2', .int .i64 0], ?_, _, congrArg (fun z => Ending.returned (.tuple #[.slice A2 n2 c2', .int .i64 z])) HZ.out.symm, ?_, ?_⟩
    · simp [results, Try.f28, go_sem, x0, x1]
    · rw [HL.out]
      exact (HC.out.own (grownBy_putObj' _ D (.deferred none)) (fun r e => by cases e; exact ⟨_, HK.out, rfl⟩)).lower (by omega)
    · exact HB.out.trans (belowK_b (w := w) (Nat.le_refl _) _ D _ _ (by omega) HK.out rfl rfl)
  case stop =>
    rintro D cd pre W hD hpre ⟨⟨rfl, q, x, rfl, h2, h3, h4, h5⟩, hB⟩ hK
    have HX : Hid (rdE xs = x.1.e) := firstE_prefix (by rw [map_snoc] at hpre; exact hpre) (fun g hg => by
      obtain ⟨y, hy, rfl⟩ := List.mem_map.1 hg
      exact h2 y hy) h3
    have HL : Hid (rdP xs = []) := by
      show _ = _
      unfold rdP rdF
      rw [if_neg (by rw [HX.out]; exact h3)]
      rfl
    gi_wp2
    refine ⟨by simp, .inl ⟨_, _, rfl, run_takeDeferred hK, ?_⟩⟩
    have x0 := cell_kept h4.cell (grownBy_putObj' _ D (.deferred none)) (fun r e => by cases e; exact ⟨_, hK, rfl⟩)
    have x1 := cell_kept h5.cell (grownBy_putObj' _ D (.deferred none)) (fun r e => by cases e; exact ⟨_, hK, rfl⟩)
    refine ⟨.tuple #[.slice none 0 0, .int .i64 x.1.e], ?_, _, congrArg (fun z => Ending.returned (.tuple #[.slice none 0 0, .int .i64 z])) HX.out.symm, ?_, ?_⟩
    · simp [results, Try.f28, go_sem, x0, x1]
    · rw [HL.out]
      exact World.ownsRow_nil _ _ _ _
    · exact hB.trans (belowK_b (w := w) (Nat.le_refl _) W D _ _ (by omega) hK rfl rfl)
end Go.Proofs.Ytgfeimlieibjhaa
