/- Mutable and Regions. -/
import Derived.Test.YtphfiohjkjipiaaPlaF
import Derived.Test.YtphfiohjkjipiaaAppend
import Derived.Test.YtphfiohjkjipiaaTypS
set_option linter.unusedVariables false
namespace Go.Proofs.Ytphfiohjkjipiaa
open Go.RowKit

/-! ### the references, as a list in memory -/
theorem tys_refTo (L : List TyW) (t : Int) (ps : List Pr) (n : Nat) : tys (refTo L (tys L) t ps n) = refTo (tys L) (tys L) t ps n := refTo_map TyW.t L t ps n
/-- what references says -/
def RefsE (w : World) (L : List TyW) (LL : List LcW) (x : PlW) (e : Ending) (w' : World) : Prop :=
  (∃ A m c R, e = .returned (.tuple #[.slice A m c, .bool true]) ∧ (tyOfP (tys L) (lcs LL) x.l x.ps).2 = 0 ∧ tys R = refP (tys L) (lcs LL) x.l x.ps ∧ m ≤ 40 ∧ Typs w' w'.heap.size A m R ∧ Below w.heap.size w w') ∨
  (e = .returned (.tuple #[.slice none 0 0, .bool false]) ∧ (tyOfP (tys L) (lcs LL) x.l x.ps).2 ≠ 0 ∧ Below w.heap.size w w')
theorem References_any {At Al : Option Addr} {nt ct nl cl : Nat} {L : List TyW} {LL : List LcW} {x : PlW} {r : Int} {w : World} (h : Pl8 w At Al nt nl L LL x r) :
    Calls Try.prog 32 #[.slice At nt ct, .slice Al nl cl, aggPl x] w (RefsE w L LL x) := by
  by_cases hv : (tyOfP (tys L) (lcs LL) x.l x.ps).2 = 0
  · obtain ⟨hp0, k, t, hk, ht, hg⟩ := tyOfP_zero hv
    have hkl := (List.getElem?_eq_some_iff.1 ht).1
    rw [lcs_len] at hkl
    obtain ⟨lc, hlc⟩ : ∃ lc, LL[k]? = some lc := ⟨_, List.getElem?_eq_getElem hkl⟩
    have ht2 := lcs_at hlc
    rw [ht] at ht2
    injection ht2 with ht2
    subst ht2
    rw [hg] at hv
    refine (callsIn_wide.1 (References_yes (ct := ct) (cl := cl) h hk hlc hp0 hv)).mono ?_
    rintro e w' ⟨v, m, rfl, hrow, hm, hb⟩
    obtain ⟨A, c, rfl, _, _⟩ := ownsRow_shape3 hrow
    refine .inl ⟨A, m, c, refTo L (tys L) lc.ty x.ps x.ps.length, rfl, by rw [hg]; exact hv, ?_, ?_, ⟨Cells.of_own c5_len (by decide) hrow, fun y hy => ?_⟩, hb⟩
    · rw [tys_refTo]
      unfold refP
      rw [hg, if_pos hv, hk, Int.toNat_natCast, List.getD_eq_getElem?_getD, ht]
      rfl
    · have h1 := refTo_len L (tys L) lc.ty x.ps x.ps.length
      have h2 := (plErr_zero.1 hp0).2.1
      omega
    · exact ((h.typs.one y (refTo_mem hy)).below hb).more hb.size
  · obtain ⟨u, v, he⟩ : ∃ u v, tyOfP (tys L) (lcs LL) x.l x.ps = (u, v) := ⟨_, _, rfl⟩
    rw [he] at hv
    refine (References_no (ct := ct) (cl := cl) h he hv).mono ?_
    rintro e w' ⟨rfl, hb⟩
    exact .inr ⟨rfl, by rw [he]; exact hv, hb⟩

/-! ### is one of them not mutable? -/
theorem Mutable1_any (x : TyW) (w : World) : Calls Try.prog 34 #[aggT x] w fun e w' => e = .returned (.bool (!x.t.mut_)) ∧ Below w.heap.size w w' := by
  obtain ⟨⟨k, mu, r, el, fs⟩, A, n, c⟩ := x
  have HA := hide ((Below.refl w.heap.size w).alloc (Nat.le_refl _) (.cells #[.int .i64 k, .bool mu, .int .i64 r, .int .i64 el, .slice A n c] 48))
  go_enter Try.func34, Try.ntmps34
  go_wp2
  go_ret
  exact ⟨rfl, HA.out⟩
/-- the first that is not mutable -/
def IdxE (R : List TyW) (e : Ending) : Prop := ∃ v : Int, e = .returned (.int .i64 v) ∧ ((R.all (fun x => x.t.mut_) = true ∧ v = -1) ∨ (R.all (fun x => x.t.mut_) = false ∧ 0 ≤ v))
set_option maxHeartbeats 1000000 in
theorem IndexFunc_any (A : Option Addr) (n c : Nat) (R : List TyW) (w : World) (hA : Typs w w.heap.size A n R) (hn : n ≤ maxLen) :
    Calls Try.prog 41 #[.slice A n c, .func (.func 34) #[] #[]] w fun e w' => IdxE R e ∧ Below w.heap.size w w' := by
  have HA := hide hA
  have HL := hide hA.len
  unfold maxLen at hn
  clear hA
  go_enter Try.func41, Try.ntmps41
  go_wp2
  go_loopw [8] (fun i wr => ∃ j : Nat, i = .int .i64 (j : Int) ∧ j ≤ n ∧ Hid (∀ t x, t < j → R[t]? = some x → x.t.mut_ = true) ∧ Below w.heap.size w wr) (fun i _ => n - (intOf i).toNat)
  case atStart => exact ⟨0, rfl, Nat.zero_le _, fun t x h => absurd h (Nat.not_lt_zero _), Below.refl _ _⟩
  case round =>
    obtain ⟨j, rfl, hj, HE, hb⟩ := hrel
    have HB := hide hb
    clear hb
    by_cases hlt : j < n
    · have hlt' : (j : Int) < (n : Int) := by omega
      obtain ⟨x, hx⟩ : ∃ x, R[j]? = some x := ⟨_, List.getElem?_eq_getElem (by have := HL.out; omega)⟩
      obtain ⟨b, o, rfl, _, _, c0, c1, c2, c3, c4⟩ := (HA.out.below HB.out).at_ hx
      have HM := hide (Mutable1_any x wr)
      have HX := hide hx
      obtain ⟨⟨k, mu, r, el, fs⟩, Af, nf, cf⟩ := x
      simp only [] at c0 c1 c2 c3 c4 HM
      clear hx
      cases mu
      · have HF := hide (show R.all (fun x => x.t.mut_) = false from by
          rw [← Bool.not_eq_true, List.all_eq_true]
          exact fun h => by cases h _ (List.mem_of_getElem? HX.out))
        go_wp2_with fail
        refine HM.out.mono ?_
        rintro e w1 ⟨rfl, hb⟩
        have HB1 := hide (HB.out.trans (hb.mono HB.out.size))
        clear hb
        go_wp2
        go_ret
        exact ⟨⟨_, rfl, .inr ⟨HF.out, by omega⟩⟩, HB1.out⟩
      · have HN := hide (show ∀ t x, t < j + 1 → R[t]? = some x → x.t.mut_ = true from fun t x ht hx => by
          rcases Nat.lt_or_ge t j with h1 | h1
          · exact HE.out t x h1 hx
          · obtain rfl : t = j := by omega
            rw [HX.out] at hx
            injection hx with hx
            rw [← hx])
        go_wp2_with fail
        refine HM.out.mono ?_
        rintro e w1 ⟨rfl, hb⟩
        have HB1 := hide (HB.out.trans (hb.mono HB.out.size))
        clear hb
        go_wp2
        go_roundw
        case rel => exact ⟨j + 1, by go_num, by omega, HN.out, HB1.out⟩
        case measure => simp [intOf]; omega
    · obtain rfl : j = n := by omega
      have HF := hide (show R.all (fun x => x.t.mut_) = true from by
        rw [List.all_eq_true]
        intro x hx
        obtain ⟨t, ht⟩ := List.getElem?_of_mem hx
        exact HE.out t x (by have := (List.getElem?_eq_some_iff.1 ht).1; have := HL.out; omega) ht)
      go_wp2
      go_ret
      exact ⟨⟨_, rfl, .inl ⟨HF.out, rfl⟩⟩, HB.out⟩
theorem ContainsFunc_any (A : Option Addr) (n c : Nat) (R : List TyW) (w : World) (hA : Typs w w.heap.size A n R) (hn : n ≤ maxLen) :
    Calls Try.prog 33 #[.slice A n c, .func (.func 34) #[] #[]] w fun e w' => e = .returned (.bool (!R.all (fun x => x.t.mut_))) ∧ Below w.heap.size w w' := by
  go_enter Try.func33, Try.ntmps33
  go_wp2_with fail
  refine (IndexFunc_any A n c R w hA hn).mono ?_
  rintro e w1 ⟨⟨v, rfl, hv⟩, hb⟩
  have HB := hide hb
  clear hb
  rcases hv with ⟨h1, rfl⟩ | ⟨h1, h2⟩
  · have HF := hide h1
    clear h1
    go_wp2
    go_ret
    exact ⟨by rw [HF.out]; rfl, HB.out⟩
  · have HF := hide h1
    have t1 : decide (0 ≤ v) = true := decide_eq_true h2
    clear h1
    go_wp2
    go_ret
    exact ⟨by rw [HF.out]; rfl, HB.out⟩

set_option maxHeartbeats 1000000 in
theorem Mutable_any {At Al : Option Addr} {nt ct nl cl : Nat} {L : List TyW} {LL : List LcW} {x : PlW} {r : Int} {w : World} (h : Pl8 w At Al nt nl L LL x r) :
    Calls Try.prog 15 #[.slice At nt ct, .slice Al nl cl, aggPl x] w fun e w' => e = .returned (.bool (mutP (tys L) (lcs LL) x.l x.ps)) ∧ Below w.heap.size w w' := by
  have hB0 := (Below.refl w.heap.size w).alloc (Nat.le_refl _) (.cells #[.int .i64 x.l, .slice x.A x.n x.c] 24)
  have HB0 := hide hB0
  have HC := hide (References_any (ct := ct) (cl := cl) (h.up hB0))
  obtain ⟨mm, hmm⟩ : ∃ mm, mutP (tys L) (lcs LL) x.l x.ps = mm := ⟨_, rfl⟩
  rw [hmm]
  have HMM := hide hmm
  obtain ⟨l, A, n, c, ps⟩ := x
  clear h hB0 hmm
  go_enter Try.func15, Try.ntmps15
  go_wp2_with fail
  refine HC.out.mono ?_
  rintro e w1 (⟨A1, m, c1, R, rfl, h0, hR, hm, hT, hb⟩ | ⟨rfl, h0, hb⟩)
  · have HB1 := hide (HB0.out.trans (hb.mono HB0.out.size))
    have HF := hide (show R.all (fun x => x.t.mut_) = mm from by
      rw [← HMM.out]
      unfold mutP
      simp only [] at h0 hR
      rw [h0, ← hR, List.all_map]
      simp
      rfl)
    have HT := hide hT
    clear hb h0 hR hT
    go_wp2_with fail
    refine (ContainsFunc_any A1 m c1 R w1 HT.out (by unfold maxLen; omega)).mono ?_
    rintro e w2 ⟨rfl, hb⟩
    have HB2 := hide (HB1.out.trans (hb.mono HB1.out.size))
    clear hb
    generalize R.all (fun x => x.t.mut_) = bb at *
    go_wp2
    go_ret
    exact ⟨congrArg (fun v => Ending.returned (.bool v)) HF.out, HB2.out⟩
  · have HB1 := hide (HB0.out.trans (hb.mono HB0.out.size))
    have HF := hide (show mm = false from by
      rw [← HMM.out]
      unfold mutP
      simp only [] at h0
      simp [h0])
    clear hb h0
    go_wp2
    go_ret
    exact ⟨congrArg (fun v => Ending.returned (.bool v)) HF.out.symm, HB1.out⟩
theorem Mutable_is {At Al : Option Addr} {nt ct nl cl : Nat} {L : List TyW} {LL : List LcW} {x : PlW} {r : Int} {v : Bool} {w : World} (h : Pl8 w At Al nt nl L LL x r) (hv : mutP (tys L) (lcs LL) x.l x.ps = v) :
    Calls Try.prog 15 #[.slice At nt ct, .slice Al nl cl, aggPl x] w fun e w' => e = .returned (.bool v) ∧ Below w.heap.size w w' := hv ▸ Mutable_any h

/-! ### the regions of the references -/
/-- numbers came back, in a row of the call's own -/
def IntsOut (w : World) (xs : List Int) (e : Ending) (w' : World) : Prop := ∃ A m c, e = .returned (.slice A m c) ∧ m ≤ 40 ∧ m ≤ c ∧ c ≤ maxLen ∧ w'.ownsRow w.heap.size 3 1 (.slice A m c) m (i64s xs) ∧ Below w.heap.size w w'
theorem take_map_up {α β : Type} {l : List α} {f : α → β} {k : Nat} {x : α} (h : l[k]? = some x) : (l.take (k + 1)).map f = (l.take k).map f ++ [f x] := by
  rw [List.take_add_one, h, List.map_append]; rfl
theorem cell_int8 (w : World) (x : Int) (t : TypeId) : ∀ j u, (i64s [x])[j]? = some u → (w.alloc (.cells #[.int .i64 x] t)).cell? ((⟨w.heap.size, 0, none⟩ : Addr).add j) = some u :=
  World.news_of_block (heap_alloc_new w _)

set_option maxHeartbeats 2000000 in
set_option maxRecDepth 100000 in
theorem RegionsP_any {At Al : Option Addr} {nt ct nl cl : Nat} {L : List TyW} {LL : List LcW} {x : PlW} {r : Int} {w : World} (h : Pl8 w At Al nt nl L LL x r) :
    Calls Try.prog 18 #[.slice At nt ct, .slice Al nl cl, aggPl x] w (IntsOut w (regP (tys L) (lcs LL) x.l x.ps)) := by
  obtain ⟨i0, hi, hz0, hz1, hz2⟩ := info_parts infoInt
  have hB0 := (Below.refl w.heap.size w).alloc (Nat.le_refl _) (.cells #[.int .i64 x.l, .slice x.A x.n x.c] 24)
  have HB0 := hide hB0
  have HC := hide (References_any (ct := ct) (cl := cl) (h.up hB0))
  obtain ⟨rg, hrg⟩ : ∃ rg, regP (tys L) (lcs LL) x.l x.ps = rg := ⟨_, rfl⟩
  rw [hrg]
  have HRG := hide hrg
  obtain ⟨l, A, n, c, ps⟩ := x
  clear h hB0 hrg
  go_enter Try.func18, Try.ntmps18
  go_wp2_with fail
  refine HC.out.mono ?_
  rintro e w1 (⟨A1, m, c1, R, rfl, h0, hR, hm, hT, hb⟩ | ⟨rfl, h0, hb⟩)
  · have HB1 := hide (HB0.out.trans (hb.mono HB0.out.size))
    have HF := hide (show R.map (fun x => x.t.region) = rg from by
      rw [← HRG.out]
      unfold regP
      simp only [] at hR
      rw [← hR, List.map_map]
      rfl)
    have HT := hide hT
    have HL := hide hT.len
    clear hb h0 hR hT
    go_wp2
    go_loopw [9, 21] (fun v i wr => ∃ j : Nat, i = .int .i64 (j : Int) ∧ j ≤ m ∧ wr.ownsRow w1.heap.size 3 1 v j (i64s ((R.take j).map fun x => x.t.region)) ∧ Below w1.heap.size w1 wr) (fun _ i _ => m - (intOf i).toNat)
    case atStart => exact ⟨0, rfl, Nat.zero_le _, World.ownsRow_nil _ _ _ _, Below.refl _ _⟩
    case round =>
      obtain ⟨j, rfl, hj, hown, hb⟩ := hrel
      obtain ⟨A2, c2, rfl, hj1, hc1⟩ := ownsRow_shape3 hown
      have HO := hide hown
      have HB := hide hb
      have HBW := hide (HB1.out.trans (hb.mono HB1.out.size))
      have hsz := hb.size
      have hszw := HBW.out.size
      unfold maxLen at hc1
      clear hown hb
      by_cases hlt : j < m
      · have hlt' : (j : Int) < (m : Int) := by omega
        obtain ⟨y, hy⟩ : ∃ y, R[j]? = some y := ⟨_, List.getElem?_eq_getElem (by have := HL.out; omega)⟩
        obtain ⟨b, o, rfl, _, _, d0, d1, d2, d3, d4⟩ := (HT.out.below HB.out).at_ hy
        have HUP := hide (take_map_up (f := fun x : TyW => x.t.region) hy)
        obtain ⟨⟨k, mu, rr, el, fs⟩, Af, nf, cf⟩ := y
        simp only [] at d0 d1 d2 d3 d4 HUP
        clear hy
        have HBx := hide ((Below.refl wr.heap.size wr).alloc (Nat.le_refl _) (.cells #[.int .i64 k, .bool mu, .int .i64 rr, .int .i64 el, .slice Af nf cf] 48))
        go_wp2_with (at_builtin; refine wpList_append_own_at _ rfl (.tmp 25) (.tmp 28) 39 rfl w1.heap.size 3 i0 (.int .i64 0) 1 8 Try.underlying39 hi hz0 hz1 hz2 rfl (by decide) _ j _ rfl ((HO.out.alloc _).alloc _) ⟨wr.heap.size + 1, 0, none⟩ 1 1 (i64s [rr]) rfl rfl (by simpa using cell_int8 (wr.alloc (.cells #[.int .i64 k, .bool mu, .int .i64 rr, .int .i64 el, .slice Af nf cf] 48)) rr 3) (ints_oneCell _ _) (by unfold maxLen; omega) (by omega) (by simp; omega) ?_; intro v5 w5 hown5 hg5 _ hat5; have HO5 := hide hown5; have HB5 := hide (below_app ((HB.out.alloc hsz (.cells #[.int .i64 k, .bool mu, .int .i64 rr, .int .i64 el, .slice Af nf cf] 48)).alloc (by simp; omega) (.cells #[.int .i64 rr] 3)) ((HO.out.alloc _).alloc _) (by simp; omega) hg5); clear hown5 hg5 hat5)
        go_roundw
        case rel =>
          refine ⟨j + 1, by go_num, by omega, ?_, HB5.out⟩
          rw [HUP.out]
          have h := HO5.out
          rw [← List.map_append] at h
          exact h
        case measure => simp [intOf]; omega
      · obtain rfl : j = m := by omega
        have HE := hide (show wr.ownsRow w.heap.size 3 1 (.slice A2 j c2) j (i64s rg) from by
          rw [← HF.out]
          have h := HO.out
          rw [List.take_of_length_le (by have := HL.out; omega)] at h
          exact ownsRow_base h (by have := HB1.out.size; omega))
        go_wp2
        go_ret
        exact ⟨A2, j, c2, rfl, by omega, hj1, hc1, HE.out, HBW.out⟩
  · have HB1 := hide (HB0.out.trans (hb.mono HB0.out.size))
    have HF := hide (show rg = [] from by
      rw [← HRG.out]
      unfold regP refP
      simp only [] at h0
      rw [if_neg h0]
      rfl)
    clear hb h0
    go_wp2
    go_loopw [9, 21] (fun v i wr => v = .slice none 0 0 ∧ i = .int .i64 0 ∧ Below w.heap.size w wr) (fun _ i _ => 0)
    case atStart => exact ⟨rfl, rfl, HB1.out⟩
    case round =>
      obtain ⟨rfl, rfl, hb⟩ := hrel
      have HB2 := hide hb
      clear hb
      go_wp2
      go_ret
      exact ⟨none, 0, 0, rfl, by omega, Nat.le_refl _, Nat.zero_le _, by rw [HF.out]; exact World.ownsRow_nil _ _ _ _, HB2.out⟩
end Go.Proofs.Ytphfiohjkjipiaa
