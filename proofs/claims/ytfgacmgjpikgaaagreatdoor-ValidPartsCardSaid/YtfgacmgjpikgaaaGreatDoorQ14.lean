/- Part 15 of the contracts and their mathematics. -/
import Derived.Test.YtfgacmgjpikgaaaGreatDoorQ6
import Derived.Test.YtfgacmgjpikgaaaGreatDoorQ7
import Derived.Test.YtfgacmgjpikgaaaGreatDoorQ10
import Derived.Test.YtfgacmgjpikgaaaGreatDoorQ12
import Derived.Test.YtfgacmgjpikgaaaGreatDoorQ13
set_option linter.unusedVariables false
set_option linter.unusedSimpArgs false
namespace Go.Proofs.YtfgacmgjpikgaaaGreatDoor
open Go.RowKit
theorem tys_refTo (L : List TyW) (t : Int) (ps : List Pr) (n : Nat) : tys (refTo L (tys L) t ps n) = refTo (tys L) (tys L) t ps n := refTo_map TyW.t L t ps n
def RefsE (w : World) (L : List TyW) (LL : List LcW) (x : PlW) (e : Ending) (w' : World) : Prop :=
 (∃ A m c R, e = .returned (.tuple #[.slice A m c, .bool true]) ∧ (tyOfP (tys L) (lcs LL) x.l x.ps).2 = 0 ∧ tys R = refP (tys L) (lcs LL) x.l x.ps ∧ m ≤ 40 ∧ Typs w' w'.heap.size A m R ∧ Below w.heap.size w w') ∨
 (e = .returned (.tuple #[.slice none 0 0, .bool false]) ∧ (tyOfP (tys L) (lcs LL) x.l x.ps).2 ≠ 0 ∧ Below w.heap.size w w')
theorem References_any {At Al : Option Addr} {nt ct nl cl : Nat} {L : List TyW} {LL : List LcW} {x : PlW} {r : Int} {w : World} (h : Pl8 w At Al nt nl L LL x r) :
  Calls Tryz.prog 119 #[.slice At nt ct, .slice Al nl cl, aggPl x] w (RefsE w L LL x) := by
 by_cases hv : (tyOfP (tys L) (lcs LL) x.l x.ps).2 = 0
 ·
  obtain ⟨hp0, k, t, hk, ht, hg⟩ := tyOfP_zero hv
  have hkl := (List.getElem?_eq_some_iff.1 ht).1
  rw [lcs_len] at hkl
  obtain ⟨lc, hlc⟩ : ∃ lc, LL[k]? = some lc := ⟨_, List.getElem?_eq_getElem hkl⟩
  have ht2 := lcs_at hlc
  rw [ht] at ht2
  injection ht2 with ht2
  subst ht2
  rw [hg] at hv
  refine (callsIn_wide.1 (References_yes (ct := ct) (cl := cl) h hk hlc hp0 hv)).mono ?_
  rintro e w' ⟨v, m, rfl, hrow, hm, hb⟩
  obtain ⟨A, c, rfl, _, _⟩ := ownsRow_shape3 hrow
  refine .inl ⟨A, m, c, refTo L (tys L) lc.ty x.ps x.ps.length, rfl, by rw [hg]; exact hv, ?_, ?_, ⟨Cells.of_own c5_len (by decide) hrow, fun y hy => ?_⟩, hb⟩
  ·
   rw [tys_refTo]
   unfold refP
   rw [hg, if_pos hv, hk, Int.toNat_natCast, List.getD_eq_getElem?_getD, ht]
   rfl
  ·
   have h1 := refTo_len L (tys L) lc.ty x.ps x.ps.length
   have h2 := (plErr_zero.1 hp0).2.1
   omega
  ·
   exact ((h.typs.one y (refTo_mem hy)).below hb).more hb.size
 ·
  obtain ⟨u, v, he⟩ : ∃ u v, tyOfP (tys L) (lcs LL) x.l x.ps = (u, v) := ⟨_, _, rfl⟩
  rw [he] at hv
  refine (References_no (ct := ct) (cl := cl) h he hv).mono ?_
  rintro e w' ⟨rfl, hb⟩
  exact .inr ⟨rfl, by rw [he]; exact hv, hb⟩
theorem Mutable1_any (x : TyW) (w : World) : Calls Tryz.prog 130 #[aggT x] w fun e w' => e = .returned (.bool (!x.t.mut_)) ∧ Below w.heap.size w w' := by
 obtain ⟨⟨k, mu, r, el, fs⟩, A, n, c⟩ := x
 have HA := hide ((Below.refl w.heap.size w).alloc (Nat.le_refl _) (.cells #[.int .i64 k, .bool mu, .int .i64 r, .int .i64 el, .slice A n c] 62))
 go_enter Tryz.func130, Tryz.ntmps130
 go_wp2
 go_ret
 exact ⟨rfl, HA.out⟩
def IdxE (R : List TyW) (e : Ending) : Prop := ∃ v : Int, e = .returned (.int .i64 v) ∧ ((R.all (fun x => x.t.mut_) = true ∧ v = -1) ∨ (R.all (fun x => x.t.mut_) = false ∧ 0 ≤ v))
set_option maxHeartbeats 1000000 in
theorem IndexFunc_any (A : Option Addr) (n c : Nat) (R : List TyW) (w : World) (hA : Typs w w.heap.size A n R) (hn : n ≤ maxLen) :
    Calls Tryz.prog 135 #[.slice A n c, .func (.func 130) #[] #[]] w fun e w' => IdxE R e ∧ Below w.heap.size w w' := by
  have HA := hide hA
  have HL := hide hA.len
  unfold maxLen at hn
  clear hA
  go_enter Tryz.func135, Tryz.ntmps135
  go_wp2
  go_loopw [8] (fun i wr => ∃ j : Nat, i = .int .i64 (j : Int) ∧ j ≤ n ∧ Hid (∀ t x, t < j → R[t]? = some x → x.t.mut_ = true) ∧ Below w.heap.size w wr) (fun i _ => n - (intOf i).toNat)
  case atStart => exact ⟨0, rfl, Nat.zero_le _, fun t x h => absurd h (Nat.not_lt_zero _), Below.refl _ _⟩
  case round =>
    obtain ⟨j, rfl, hj, HE, hb⟩ := hrel
    have HB := hide hb
    clear hb
    by_cases hlt : j < n
    · have hlt' : (j : Int) < (n : Int) := by omega
      obtain ⟨x, hx⟩ : ∃ x, R[j]? = some x := ⟨_, List.getElem?_eq_getElem (by have := HL.out; omega)⟩
      obtain ⟨b, o, rfl, _, _, c0, c1, c2, c3, c4⟩ := (HA.out.below HB.out).at_ hx
      have HM := hide (Mutable1_any x wr)
      have HX := hide hx
      obtain ⟨⟨k, mu, r, el, fs⟩, Af, nf, cf⟩ := x
      simp only [] at c0 c1 c2 c3 c4 HM
      clear hx
      cases mu
      · have HF := hide (show R.all (fun x => x.t.mut_) = false from by
          rw [← Bool.not_eq_true, List.all_eq_true]
          exact fun h => by cases h _ (List.mem_of_getElem? HX.out))
        go_wp2_with fail
        refine HM.out.mono ?_
        rintro e w1 ⟨rfl, hb⟩
        have HB1 := hide (HB.out.trans (hb.mono HB.out.size))
        clear hb
        go_wp2
        go_ret
        exact ⟨⟨_, rfl, .inr ⟨HF.out, by omega⟩⟩, HB1.out⟩
      · have HN := hide (show ∀ t x, t < j + 1 → R[t]? = some x → x.t.mut_ = true from fun t x ht hx => by
          rcases Nat.lt_or_ge t j with h1 | h1
          · exact HE.out t x h1 hx
          · obtain rfl : t = j := by omega
            rw [HX.out] at hx
            injection hx with hx
            rw [← hx])
        go_wp2_with fail
        refine HM.out.mono ?_
        rintro e w1 ⟨rfl, hb⟩
        have HB1 := hide (HB.out.trans (hb.mono HB.out.size))
        clear hb
        go_wp2
        go_roundw
        case rel => exact ⟨j + 1, by go_num, by omega, HN.out, HB1.out⟩
        case measure => simp [intOf]; omega
    · obtain rfl : j = n := by omega
      have HF := hide (show R.all (fun x => x.t.mut_) = true from by
        rw [List.all_eq_true]
        intro x hx
        obtain ⟨t, ht⟩ := List.getElem?_of_mem hx
        exact HE.out t x (by have := (List.getElem?_eq_some_iff.1 ht).1; have := HL.out; omega) ht)
      go_wp2
      go_ret
      exact ⟨⟨_, rfl, .inl ⟨HF.out, rfl⟩⟩, HB.out⟩
theorem ContainsFunc_any (A : Option Addr) (n c : Nat) (R : List TyW) (w : World) (hA : Typs w w.heap.size A n R) (hn : n ≤ maxLen) :
  Calls Tryz.prog 129 #[.slice A n c, .func (.func 130) #[] #[]] w fun e w' => e = .returned (.bool (!R.all (fun x => x.t.mut_))) ∧ Below w.heap.size w w' := by
 go_enter Tryz.func129, Tryz.ntmps129
 go_wp2_with fail
 refine (IndexFunc_any A n c R w hA hn).mono ?_
 rintro e w1 ⟨⟨v, rfl, hv⟩, hb⟩
 have HB := hide hb
 clear hb
 rcases hv with ⟨h1, rfl⟩ | ⟨h1, h2⟩
 ·
  have HF := hide h1
  clear h1
  go_wp2
  go_ret
  exact ⟨by rw [HF.out]; rfl, HB.out⟩
 ·
  have HF := hide h1
  have t1 : decide (0 ≤ v) = true := decide_eq_true h2
  clear h1
  go_wp2
  go_ret
  exact ⟨by rw [HF.out]; rfl, HB.out⟩
set_option maxHeartbeats 1000000 in
theorem Mutable_any {At Al : Option Addr} {nt ct nl cl : Nat} {L : List TyW} {LL : List LcW} {x : PlW} {r : Int} {w : World} (h : Pl8 w At Al nt nl L LL x r) :
  Calls Tryz.prog 116 #[.slice At nt ct, .slice Al nl cl, aggPl x] w fun e w' => e = .returned (.bool (mutP (tys L) (lcs LL) x.l x.ps)) ∧ Below w.heap.size w w' := by
 have hB0 := (Below.refl w.heap.size w).alloc (Nat.le_refl _) (.cells #[.int .i64 x.l, .slice x.A x.n x.c] 36)
 have HB0 := hide hB0
 have HC := hide (References_any (ct := ct) (cl := cl) (h.up hB0))
 obtain ⟨mm, hmm⟩ : ∃ mm, mutP (tys L) (lcs LL) x.l x.ps = mm := ⟨_, rfl⟩
 rw [hmm]
 have HMM := hide hmm
 obtain ⟨l, A, n, c, ps⟩ := x
 clear h hB0 hmm
 go_enter Tryz.func116, Tryz.ntmps116
 go_wp2_with fail
 refine HC.out.mono ?_
 rintro e w1 (⟨A1, m, c1, R, rfl, h0, hR, hm, hT, hb⟩ | ⟨rfl, h0, hb⟩)
 ·
  have HB1 := hide (HB0.out.trans (hb.mono HB0.out.size))
  have HF := hide (show R.all (fun x => x.t.mut_) = mm from by
   rw [← HMM.out]
   unfold mutP
   simp only [] at h0 hR
   rw [h0, ← hR, List.all_map]
   simp
   rfl)
  have HT := hide hT
  clear hb h0 hR hT
  go_wp2_with fail
  refine (ContainsFunc_any A1 m c1 R w1 HT.out (by unfold maxLen; omega)).mono ?_
  rintro e w2 ⟨rfl, hb⟩
  have HB2 := hide (HB1.out.trans (hb.mono HB1.out.size))
  clear hb
  generalize R.all (fun x => x.t.mut_) = bb at *
  go_wp2
  go_ret
  exact ⟨congrArg (fun v => Ending.returned (.bool v)) HF.out, HB2.out⟩
 ·
  have HB1 := hide (HB0.out.trans (hb.mono HB0.out.size))
  have HF := hide (show mm = false from by
   rw [← HMM.out]
   unfold mutP
   simp only [] at h0
   simp [h0])
  clear hb h0
  go_wp2
  go_ret
  exact ⟨congrArg (fun v => Ending.returned (.bool v)) HF.out.symm, HB1.out⟩
theorem Mutable_is {At Al : Option Addr} {nt ct nl cl : Nat} {L : List TyW} {LL : List LcW} {x : PlW} {r : Int} {v : Bool} {w : World} (h : Pl8 w At Al nt nl L LL x r) (hv : mutP (tys L) (lcs LL) x.l x.ps = v) :
  Calls Tryz.prog 116 #[.slice At nt ct, .slice Al nl cl, aggPl x] w fun e w' => e = .returned (.bool v) ∧ Below w.heap.size w w' := hv ▸ Mutable_any h
def IntsOut (w : World) (xs : List Int) (e : Ending) (w' : World) : Prop := ∃ A m c, e = .returned (.slice A m c) ∧ m ≤ 40 ∧ m ≤ c ∧ c ≤ maxLen ∧ w'.ownsRow w.heap.size 3 1 (.slice A m c) m (i64s xs) ∧ Below w.heap.size w w'
theorem take_map_up {α β : Type} {l : List α} {f : α → β} {k : Nat} {x : α} (h : l[k]? = some x) : (l.take (k + 1)).map f = (l.take k).map f ++ [f x] := by
 rw [List.take_add_one, h, List.map_append]; rfl
theorem cell_int8 (w : World) (x : Int) (t : TypeId) : ∀ j u, (i64s [x])[j]? = some u → (w.alloc (.cells #[.int .i64 x] t)).cell? ((⟨w.heap.size, 0, none⟩ : Addr).add j) = some u :=
 World.news_of_block (heap_alloc_new w _)
set_option maxHeartbeats 2000000 in
set_option maxRecDepth 100000 in
theorem RegionsP_any {At Al : Option Addr} {nt ct nl cl : Nat} {L : List TyW} {LL : List LcW} {x : PlW} {r : Int} {w : World} (h : Pl8 w At Al nt nl L LL x r) :
  Calls Tryz.prog 107 #[.slice At nt ct, .slice Al nl cl, aggPl x] w (IntsOut w (regP (tys L) (lcs LL) x.l x.ps)) := by
 obtain ⟨i0, hi, hz0, hz1, hz2⟩ := info_parts infoInt
 have hB0 := (Below.refl w.heap.size w).alloc (Nat.le_refl _) (.cells #[.int .i64 x.l, .slice x.A x.n x.c] 36)
 have HB0 := hide hB0
 have HC := hide (References_any (ct := ct) (cl := cl) (h.up hB0))
 obtain ⟨rg, hrg⟩ : ∃ rg, regP (tys L) (lcs LL) x.l x.ps = rg := ⟨_, rfl⟩
 rw [hrg]
 have HRG := hide hrg
 obtain ⟨l, A, n, c, ps⟩ := x
 clear h hB0 hrg
 go_enter Tryz.func107, Tryz.ntmps107
 go_wp2_with fail
 refine HC.out.mono ?_
 rintro e w1 (⟨A1, m, c1, R, rfl, h0, hR, hm, hT, hb⟩ | ⟨rfl, h0, hb⟩)
 ·
  have HB1 := hide (HB0.out.trans (hb.mono HB0.out.size))
  have HF := hide (show R.map (fun x => x.t.region) = rg from by
   rw [← HRG.out]
   unfold regP
   simp only [] at hR
   rw [← hR, List.map_map]
   rfl)
  have HT := hide hT
  have HL := hide hT.len
  clear hb h0 hR hT
  go_wp2
  go_loopw [9, 21] (fun v i wr => ∃ j : Nat, i = .int .i64 (j : Int) ∧ j ≤ m ∧ wr.ownsRow w1.heap.size 3 1 v j (i64s ((R.take j).map fun x => x.t.region)) ∧ Below w1.heap.size w1 wr) (fun _ i _ => m - (intOf i).toNat)
  case atStart => exact ⟨0, rfl, Nat.zero_le _, World.ownsRow_nil _ _ _ _, Below.refl _ _⟩
  case round =>
   obtain ⟨j, rfl, hj, hown, hb⟩ := hrel
   obtain ⟨A2, c2, rfl, hj1, hc1⟩ := ownsRow_shape3 hown
   have HO := hide hown
   have HB := hide hb
   have HBW := hide (HB1.out.trans (hb.mono HB1.out.size))
   have hsz := hb.size
   have hszw := HBW.out.size
   unfold maxLen at hc1
   clear hown hb
   by_cases hlt : j < m
   ·
    have hlt' : (j : Int) < (m : Int) := by omega
    obtain ⟨y, hy⟩ : ∃ y, R[j]? = some y := ⟨_, List.getElem?_eq_getElem (by have := HL.out; omega)⟩
    obtain ⟨b, o, rfl, _, _, d0, d1, d2, d3, d4⟩ := (HT.out.below HB.out).at_ hy
    have HUP := hide (take_map_up (f := fun x : TyW => x.t.region) hy)
    obtain ⟨⟨k, mu, rr, el, fs⟩, Af, nf, cf⟩ := y
    simp only [] at d0 d1 d2 d3 d4 HUP
    clear hy
    have HBx := hide ((Below.refl wr.heap.size wr).alloc (Nat.le_refl _) (.cells #[.int .i64 k, .bool mu, .int .i64 rr, .int .i64 el, .slice Af nf cf] 62))
    go_wp2_with (at_builtin; refine wpList_append_own_at _ rfl (.tmp 25) (.tmp 28) 48 rfl w1.heap.size 3 i0 (.int .i64 0) 1 8 Tryz.underlying48 hi hz0 hz1 hz2 rfl (by decide) _ j _ rfl ((HO.out.alloc _).alloc _) ⟨wr.heap.size + 1, 0, none⟩ 1 1 (i64s [rr]) rfl rfl (by simpa using cell_int8 (wr.alloc (.cells #[.int .i64 k, .bool mu, .int .i64 rr, .int .i64 el, .slice Af nf cf] 62)) rr 3) (ints_oneCell _ _) (by unfold maxLen; omega) (by omega) (by simp; omega) ?_; intro v5 w5 hown5 hg5 _ hat5; have HO5 := hide hown5; have HB5 := hide (below_app ((HB.out.alloc hsz (.cells #[.int .i64 k, .bool mu, .int .i64 rr, .int .i64 el, .slice Af nf cf] 62)).alloc (by simp; omega) (.cells #[.int .i64 rr] 3)) ((HO.out.alloc _).alloc _) (by simp; omega) hg5); clear hown5 hg5 hat5)
    go_roundw
    case rel =>
     refine ⟨j + 1, by go_num, by omega, ?_, HB5.out⟩
     rw [HUP.out]
     have h := HO5.out
     rw [← List.map_append] at h
     exact h
    case measure => simp [intOf]; omega
   ·
    obtain rfl : j = m := by omega
    have HE := hide (show wr.ownsRow w.heap.size 3 1 (.slice A2 j c2) j (i64s rg) from by
     rw [← HF.out]
     have h := HO.out
     rw [List.take_of_length_le (by have := HL.out; omega)] at h
     exact ownsRow_base h (by have := HB1.out.size; omega))
    go_wp2
    go_ret
    exact ⟨A2, j, c2, rfl, by omega, hj1, hc1, HE.out, HBW.out⟩
 ·
  have HB1 := hide (HB0.out.trans (hb.mono HB0.out.size))
  have HF := hide (show rg = [] from by
   rw [← HRG.out]
   unfold regP refP
   simp only [] at h0
   rw [if_neg h0]
   rfl)
  clear hb h0
  go_wp2
  go_loopw [9, 21] (fun v i wr => v = .slice none 0 0 ∧ i = .int .i64 0 ∧ Below w.heap.size w wr) (fun _ i _ => 0)
  case atStart => exact ⟨rfl, rfl, HB1.out⟩
  case round =>
   obtain ⟨rfl, rfl, hb⟩ := hrel
   have HB2 := hide hb
   clear hb
   go_wp2
   go_ret
   exact ⟨none, 0, 0, rfl, by omega, Nat.le_refl _, Nat.zero_le _, by rw [HF.out]; exact World.ownsRow_nil _ _ _ _, HB2.out⟩
def wE (x : BdW) : Env := ⟨tys x.types.L, lcs x.locals.L, x.outl.L, x.regions.L.length, x.blocks.L.length⟩
theorem wE_v (x : BdW) : x.v.env = wE x := by
 unfold BdV.env wE BdW.v lcs
 simp only [List.map_map, List.length_map]
 rfl
structure VB (w : World) (x : BdW) : Prop where
 one : OneBd w w.heap.size x
 ok : DeOk x.v
theorem VB.up {w w' : World} {x : BdW} (h : VB w x) (hb : Below w.heap.size w w') : VB w' x := ⟨h.one.up hb, h.ok⟩
theorem VB.pl8 {w : World} {x : BdW} (h : VB w x) {p : PlW} (hp : OnePl w w.heap.size p) : Pl8 w x.types.A x.locals.A x.types.n x.locals.n x.types.L x.locals.L p (x.regions.L.length : Nat) :=
 ⟨h.one.typs, h.one.locs, hp, h.one.types.nm, h.one.locals.nm, tyChk_iff.1 h.ok.ty, by
  have e : lcs x.locals.L = (x.v.locals.map LcV.ty) := by
   unfold lcs BdW.v
   rw [List.map_map]
   rfl
  rw [e]
  exact h.ok.lc⟩
theorem VB.nt65 {w : World} {x : BdW} (h : VB w x) : x.types.n ≤ 65535 := by
 have h1 := h.one.types.len
 have h2 := h.ok.ty
 unfold tyChk at h2
 split at h2
 ·
  cases h2
 ·
  rename_i h3
  have h4 : x.v.types.length = x.types.L.length := tys_len _
  omega
theorem VB.ty {w : World} {x : BdW} (h : VB w x) {p : PlV} (he : (tyV (wE x) p).2 = 0) : ∃ (i : Nat) (u : TyW), (tyV (wE x) p).1 = (i : Int) ∧ x.types.L[i]? = some u := by
 have hok := tyChk_iff.1 h.ok.ty
 obtain ⟨h0, k, t, hk, ht, hg⟩ := tyOfP_zero (T := tys x.types.L) (lc := lcs x.locals.L) (l := p.l) (ps := p.ps) he
 have hlc : 0 ≤ t ∧ t < ((tys x.types.L).length : Int) := by
  have e : lcs x.locals.L = (x.v.locals.map LcV.ty) := by
   unfold lcs BdW.v
   rw [List.map_map]
   rfl
  exact h.ok.lc t (e ▸ List.mem_of_getElem? ht)
 have e1 : (tyV (wE x) p) = goL (tys x.types.L) t p.ps := hg
 have hS : Stp (tys x.types.L) t p.ps p.ps.length := ⟨Nat.le_refl _, by
  unfold erA
  rw [goL_take_all, ← e1]
  exact he⟩
 obtain ⟨i, u, hi, hu⟩ := Stp.lt hok hlc.1 hlc.2 hS
 unfold tyA at hi
 rw [goL_take_all] at hi
 have hu' : (x.types.L.map TyW.t)[i]? = some u := hu
 rw [List.getElem?_map, Option.map_eq_some_iff] at hu'
 obtain ⟨y, hy, _⟩ := hu'
 exact ⟨i, y, by rw [e1]; exact hi, hy⟩
def two (w : World) (cs : List Value) (T : TypeId) (ds : List Value) (U : TypeId) : World := (w.alloc (.cells cs.toArray T)).alloc (.cells ds.toArray U)
theorem two_below (w : World) (cs : List Value) (T : TypeId) (ds : List Value) (U : TypeId) : Below w.heap.size w (two w cs T ds U) := ((Below.refl _ w).alloc (Nat.le_refl _) _).alloc (by simp) _
theorem two_cells {w w' : World} {cs ds : List Value} {T U : TypeId} (h : Below (two w cs T ds U).heap.size (two w cs T ds U) w') : (∀ (j : Nat) (u : Value), cs[j]? = some u → w'.cell? ⟨w.heap.size, j, none⟩ = some u) ∧ (∀ (j : Nat) (u : Value), ds[j]? = some u → w'.cell? ⟨w.heap.size + 1, j, none⟩ = some u) := by
 have hs : (two w cs T ds U).heap.size = w.heap.size + 2 := by simp [two]
 have e1 : (w.alloc (.cells cs.toArray T)).heap.size = w.heap.size + 1 := by simp
 have b1 : w'.heap[w.heap.size]? = _ := (h.block w.heap.size (by omega)).trans ((((Below.refl (w.heap.size + 1) _).alloc (by rw [e1]; exact Nat.le_refl _) _).block w.heap.size (by omega)).trans (heap_alloc_new w _))
 have b3 := heap_alloc_new (w.alloc (.cells cs.toArray T)) (.cells ds.toArray U)
 rw [e1] at b3
 have b2 := (h.block (w.heap.size + 1) (by omega)).trans b3
 exact ⟨fun j u hu => (cell_of_heap b1 j).trans (by rw [List.getElem?_toArray]; exact hu), fun j u hu => (cell_of_heap b2 j).trans (by rw [List.getElem?_toArray]; exact hu)⟩
theorem one_cells {w w' : World} {cs : List Value} {T : TypeId} (h : Below (w.alloc (.cells cs.toArray T)).heap.size (w.alloc (.cells cs.toArray T)) w') : ∀ (j : Nat) (u : Value), cs[j]? = some u → w'.cell? ⟨w.heap.size, j, none⟩ = some u := fun j u hu => by
 have b1 := (h.block w.heap.size (by simp)).trans (heap_alloc_new w (.cells cs.toArray T))
 exact (cell_of_heap b1 j).trans (by rw [List.getElem?_toArray]; exact hu)
def Skip10 (x : BdW) (e : Ending) : Prop := e = .returned (.int .i64 1) ∨ e = .returned (.int .i64 0) ∧ x.types.n ≤ 1000 ∧ szB x ≤ 3000 ∧ x.blocks.n ≤ 200
set_option maxHeartbeats 4000000 in
set_option maxRecDepth 100000 in
theorem Skip10_any (x : BdW) (w : World) (hx : OneBd w w.heap.size x) (hF : FitBd x) :
  Calls Tryz.prog 9 #[aggBd x] w fun e w' => Skip10 x e ∧ Below w.heap.size w w' := by
 have htm := hx.types.nm
 have htc := hx.types.nc
 have htl := hx.types.len
 obtain ⟨nm, ⟨rA, rn, rc, rL⟩, ⟨oA, on, oc, oL⟩, ⟨tA, tm, tc, tL⟩, ⟨lA, ln, lc, lL⟩, ar, ⟨bA, bn, bc, bL⟩⟩ := x
 have htl : tL.length = tm := htl
 obtain ⟨e3, he3⟩ : ∃ u, tyChk (tys tL) (rn : Int) = u := ⟨_, rfl⟩
 have HB := hide (show Below w.heap.size w (w.alloc (.cells #[.string nm, .slice rA rn rc, .slice oA on oc, .slice tA tm tc, .slice lA ln lc, .int .i64 ar, .slice bA bn bc] 28)) from (Below.refl w.heap.size w).alloc (Nat.le_refl _) _)
 have HX := hide (hx.up HB.out)
 have HF := hide hF
 have hcs := hide fun (w' : World) (y : Below (w.alloc (.cells #[.string nm, .slice rA rn rc, .slice oA on oc, .slice tA tm tc, .slice lA ln lc, .int .i64 ar, .slice bA bn bc] 28)).heap.size (w.alloc (.cells #[.string nm, .slice rA rn rc, .slice oA on oc, .slice tA tm tc, .slice lA ln lc, .int .i64 ar, .slice bA bn bc] 28)) w') => (show w'.cell? ⟨w.heap.size, 0, none⟩ = some (.string nm) ∧ w'.cell? ⟨w.heap.size, 1, none⟩ = some (.slice rA rn rc) ∧ w'.cell? ⟨w.heap.size, 2, none⟩ = some (.slice oA on oc) ∧ w'.cell? ⟨w.heap.size, 3, none⟩ = some (.slice tA tm tc) ∧ w'.cell? ⟨w.heap.size, 4, none⟩ = some (.slice lA ln lc) ∧ w'.cell? ⟨w.heap.size, 5, none⟩ = some (.int .i64 ar) ∧ w'.cell? ⟨w.heap.size, 6, none⟩ = some (.slice bA bn bc) from ⟨one_cells (cs := [.string nm, .slice rA rn rc, .slice oA on oc, .slice tA tm tc, .slice lA ln lc, .int .i64 ar, .slice bA bn bc]) y 0 _ rfl, one_cells (cs := [.string nm, .slice rA rn rc, .slice oA on oc, .slice tA tm tc, .slice lA ln lc, .int .i64 ar, .slice bA bn bc]) y 1 _ rfl, one_cells (cs := [.string nm, .slice rA rn rc, .slice oA on oc, .slice tA tm tc, .slice lA ln lc, .int .i64 ar, .slice bA bn bc]) y 2 _ rfl, one_cells (cs := [.string nm, .slice rA rn rc, .slice oA on oc, .slice tA tm tc, .slice lA ln lc, .int .i64 ar, .slice bA bn bc]) y 3 _ rfl, one_cells (cs := [.string nm, .slice rA rn rc, .slice oA on oc, .slice tA tm tc, .slice lA ln lc, .int .i64 ar, .slice bA bn bc]) y 4 _ rfl, one_cells (cs := [.string nm, .slice rA rn rc, .slice oA on oc, .slice tA tm tc, .slice lA ln lc, .int .i64 ar, .slice bA bn bc]) y 5 _ rfl, one_cells (cs := [.string nm, .slice rA rn rc, .slice oA on oc, .slice tA tm tc, .slice lA ln lc, .int .i64 ar, .slice bA bn bc]) y 6 _ rfl⟩)
 have HTM := hide htm
 have HTC := hide htc
 have HTL := hide htl
 have HE3 := hide he3
 clear hx hF htm htc htl he3
 go_enter Tryz.func9, Tryz.ntmps9
 go_wp2_with fail
 refine (Large_any ⟨nm, ⟨rA, rn, rc, rL⟩, ⟨oA, on, oc, oL⟩, ⟨tA, tm, tc, tL⟩, ⟨lA, ln, lc, lL⟩, ar, ⟨bA, bn, bc, bL⟩⟩ _ HX.out HF.out).mono ?_
 rintro e1 w1 ⟨h1, hb1⟩
 have HW1 := hide (show Below (w.alloc (.cells #[.string nm, .slice rA rn rc, .slice oA on oc, .slice tA tm tc, .slice lA ln lc, .int .i64 ar, .slice bA bn bc] 28)).heap.size (w.alloc (.cells #[.string nm, .slice rA rn rc, .slice oA on oc, .slice tA tm tc, .slice lA ln lc, .int .i64 ar, .slice bA bn bc] 28)) w1 from hb1)
 clear hb1
 obtain ⟨c0, c1, c2, c3, c4, c5, c6⟩ := hcs.out _ HW1.out
 rcases h1 with rfl | ⟨rfl, hsz⟩
 case inl =>
  go_wp2
  go_ret
  exact ⟨.inl rfl, HB.out.trans (HW1.out.mono HB.out.size)⟩
 have HSZ := hide hsz
 clear hsz
 go_wp2_with fail
 refine (Skip_any tA tm tc tL _ ((HX.out.up HW1.out).typs) HTM.out).mono ?_
 rintro e2 w2 ⟨⟨v, rfl, hv, hv01⟩, hb2⟩
 have HW2 := hide (HW1.out.trans (hb2.mono HW1.out.size))
 clear hb2
 obtain ⟨d0, d1, d2, d3, d4, d5, d6⟩ := hcs.out _ HW2.out
 rcases hv01 with rfl | rfl
 case inr =>
  clear hv
  go_wp2
  go_ret
  exact ⟨.inl rfl, HB.out.trans (HW2.out.mono HB.out.size)⟩
 have hlg : tyLarge (tys tL) = false := by cases hq : tyLarge (tys tL); rfl; exact absurd (hv hq) (by decide)
 have hsm : tm ≤ 200 := by have h9 := (tyBig_small (n := 0) (by omega) hlg).1; have h8 : (tys tL).length = tL.length := List.length_map _; have h7 := HTL.out; omega
 have HSM := hide hsm
 clear hv hlg
 by_cases q1 : 200 < on
 case pos =>
  have q1i : (200 : Int) < (on : Int) := by omega
  go_wp2
  go_ret
  exact ⟨.inl rfl, HB.out.trans (HW2.out.mono HB.out.size)⟩
 have q1i : ¬ (200 : Int) < (on : Int) := by omega
 by_cases q2 : 200 < rn
 case pos =>
  have q2i : (200 : Int) < (rn : Int) := by omega
  go_wp2
  go_ret
  exact ⟨.inl rfl, HB.out.trans (HW2.out.mono HB.out.size)⟩
 have q2i : ¬ (200 : Int) < (rn : Int) := by omega
 by_cases q3 : 200 < bn
 case pos =>
  have q3i : (200 : Int) < (bn : Int) := by omega
  go_wp2
  go_ret
  exact ⟨.inl rfl, HB.out.trans (HW2.out.mono HB.out.size)⟩
 have q3i : ¬ (200 : Int) < (bn : Int) := by omega
 have HBN := hide (show bn ≤ 200 by omega)
 have HCK := hide (RCheckT_is (c := tc) HE3.out w2 ((HX.out.up HW2.out).typs) HTM.out HTC.out)
 by_cases q4 : e3 = 0
 case neg =>
  have t4 : (e3 != 0) = true := by simp [q4]
  clear q4
  go_wp2_with fail
  refine HCK.out.mono ?_
  rintro e4 w4 ⟨rfl, hb4⟩
  have HW4 := hide (HW2.out.trans (hb4.mono HW2.out.size))
  clear hb4
  go_wp2
  go_ret
  exact ⟨.inr ⟨rfl, (Nat.le_trans HSM.out (by decide)), HSZ.out, HBN.out⟩, HB.out.trans (HW4.out.mono HB.out.size)⟩
 have HOK := hide (tyChk_iff.1 (HE3.out.trans q4))
 have t4 : (e3 != 0) = false := by simp [q4]
 clear q4
 go_wp2_with fail
 refine HCK.out.mono ?_
 rintro e4 w4 ⟨rfl, hb4⟩
 have HW4 := hide (HW2.out.trans (hb4.mono HW2.out.size))
 clear hb4
 obtain ⟨f0, f1, f2, f3, f4, f5, f6⟩ := hcs.out _ HW4.out
 go_wp2
 go_loopw [41] (fun i wr => ∃ j : Nat, i = .int .i64 (j : Int) ∧ j ≤ tm ∧ Hid (Below (w.alloc (.cells #[.string nm, .slice rA rn rc, .slice oA on oc, .slice tA tm tc, .slice lA ln lc, .int .i64 ar, .slice bA bn bc] 28)).heap.size (w.alloc (.cells #[.string nm, .slice rA rn rc, .slice oA on oc, .slice tA tm tc, .slice lA ln lc, .int .i64 ar, .slice bA bn bc] 28)) wr)) (fun i _ => tm - (intOf i).toNat)
 case atStart => exact ⟨0, rfl, Nat.zero_le _, hide HW4.out⟩
 case round =>
  obtain ⟨j, rfl, hj, HW⟩ := hrel
  obtain ⟨g0, g1, g2, g3, g4, g5, g6⟩ := hcs.out _ HW.out
  by_cases hlt : j < tm
  ·
   have hlt' : (j : Int) < (tm : Int) := by omega
   obtain ⟨dd, hd⟩ : ∃ u, tyDep (tys tL) (j : Int) = u := ⟨_, rfl⟩
   have HDP := hide (show Calls Tryz.prog 24 #[.slice tA tm tc, .int .i64 (j : Int)] wr (fun e w' => e = .returned (.int .i64 dd) ∧ Below wr.heap.size wr w') from hd ▸ RDepth_in (c := tc) ((HX.out.up HW.out).typs) (Nat.le_trans HSM.out (by decide)) HOK.out j hlt)
   clear hd
   by_cases q5 : 8 < dd
   case pos =>
    go_wp2_with fail
    refine HDP.out.mono ?_
    rintro e6 w6 ⟨rfl, hb6⟩
    have HW6 := hide (HW.out.trans (hb6.mono HW.out.size))
    clear hb6
    go_wp2
    go_ret
    exact ⟨.inl rfl, HB.out.trans (HW6.out.mono HB.out.size)⟩
   have q5n : dd ≤ 8 := by omega
   go_wp2_with fail
   refine HDP.out.mono ?_
   rintro e6 w6 ⟨rfl, hb6⟩
   have HW6 := hide (HW.out.trans (hb6.mono HW.out.size))
   clear hb6
   go_wp2
   go_roundw
   case rel => exact ⟨j + 1, by go_num, by omega, hide HW6.out⟩
   case measure => simp [intOf]; omega
  ·
   obtain rfl : tm = j := by omega
   go_wp2
   go_ret
   exact ⟨.inr ⟨rfl, (Nat.le_trans HSM.out (by decide)), HSZ.out, HBN.out⟩, HB.out.trans (HW.out.mono HB.out.size)⟩
end Go.Proofs.YtfgacmgjpikgaaaGreatDoor
