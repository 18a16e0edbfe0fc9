/- Places that are compared: slices.Equal of projections; the code's and the reference's Equal and IsPrefix. -/
import Derived.Test.YtbdimnncobpfdaaGreatPlaR
import Derived.Deep.RegionHeld3
set_option linter.unusedVariables false
namespace Go.Proofs.YtbdimnncobpfdaaGreat
open Go.RowKit

/-- do two lists of projections agree? -/
def eqPs (xs ys : List Pr) : Bool := decide (xs = ys)
theorem eqPs_iff {xs ys : List Pr} : eqPs xs ys = true ↔ xs = ys := by simp [eqPs]
def eqPUpto (xs ys : List Pr) (k : Nat) : Prop := ∀ j, j < k → xs[j]? = ys[j]?
theorem eqPUpto_up {xs ys : List Pr} {k : Nat} {p : Pr} (h : eqPUpto xs ys k) (hx : xs[k]? = some p) (hy : ys[k]? = some p) : eqPUpto xs ys (k + 1) := fun i hi => by
  rcases Nat.lt_or_ge i k with h1 | h1
  · exact h i h1
  · obtain rfl : i = k := by omega
    rw [hx, hy]
theorem eqPs_no {xs ys : List Pr} {k : Nat} {p q : Pr} (hx : xs[k]? = some p) (hy : ys[k]? = some q) (h : p ≠ q) : eqPs xs ys = false := by
  cases e : eqPs xs ys
  · rfl
  · rw [eqPs_iff] at e
    subst e
    rw [hx] at hy
    injection hy with hy
    exact absurd hy h
theorem eqPs_yes {xs ys : List Pr} {n : Nat} (h : eqPUpto xs ys n) (hx : xs.length = n) (hy : ys.length = n) : eqPs xs ys = true := by
  rw [eqPs_iff]
  refine List.ext_getElem? fun i => ?_
  rcases Nat.lt_or_ge i n with h1 | h1
  · exact h i h1
  · rw [List.getElem?_eq_none (by omega), List.getElem?_eq_none (by omega)]

set_option maxHeartbeats 1000000 in
/-- slices.Equal of projections -/
theorem EqPj_any (A B : Option Addr) (n m c d : Nat) (xs ys : List Pr) (w : World) (k l : Nat) (hx : Prs w k A n xs) (hy : Prs w l B m ys) (hn : n ≤ maxLen) (hm : m ≤ maxLen) :
    Calls Tryz.prog 117 #[.slice A n c, .slice B m d] w fun e w' => e = .returned (.bool (eqPs xs ys)) ∧ Below w.heap.size w w' := by
  have HX := hide hx
  have HY := hide hy
  have HXL := hide hx.len
  have HYL := hide hy.len
  unfold maxLen at hn hm
  clear hx hy
  by_cases hnm : n = m
  · subst hnm
    go_enter Tryz.func117, Tryz.ntmps117
    go_wp2
    go_loopw [13] (fun i wr => ∃ j : Nat, i = .int .i64 (j : Int) ∧ j ≤ n ∧ Hid (eqPUpto xs ys j) ∧ Below w.heap.size w wr ∧ (∀ p, wr.cell? p = w.cell? p)) (fun i _ => n - (intOf i).toNat)
    case atStart => exact ⟨0, rfl, Nat.zero_le _, fun j h => absurd h (by omega), Below.refl _ _, fun _ => rfl⟩
    case round =>
      obtain ⟨j, rfl, hj, HE, hb, hc⟩ := hrel
      have HB := hide hb
      have HC := hide hc
      clear hb hc
      by_cases hlt : j < n
      · obtain ⟨p, hp⟩ : ∃ a, xs[j]? = some a := ⟨_, List.getElem?_eq_getElem (by have := HXL.out; omega)⟩
        obtain ⟨q, hq⟩ : ∃ a, ys[j]? = some a := ⟨_, List.getElem?_eq_getElem (by have := HYL.out; omega)⟩
        obtain ⟨g, o, rfl, _, _, c0, c1⟩ := HX.out.at_ hp
        obtain ⟨g', o', rfl, _, _, d0, d1⟩ := HY.out.at_ hq
        rw [← HC.out] at c0 c1 d0 d1
        have hlt' : (j : Int) < (n : Int) := by omega
        have HP := hide hp
        have HQ := hide hq
        clear hp hq
        obtain ⟨a, b⟩ := p
        obtain ⟨a', b'⟩ := q
        simp only [] at c0 c1 d0 d1
        by_cases hab : a = a' ∧ b = b'
        · obtain ⟨rfl, rfl⟩ := hab
          have HE2 := hide (eqPUpto_up HE.out HP.out HQ.out)
          go_wp2
          go_quiet (fail)
          go_wp2
          go_roundw
          case rel => exact ⟨j + 1, by go_num, by omega, HE2.out, tyN HB.out _, HC.out⟩
          case measure => simp [intOf]; omega
        · have HF := hide (eqPs_no HP.out HQ.out (fun e => hab (by injection e with e1 e2; exact ⟨e1, e2⟩)))
          by_cases h1 : a = a'
          · subst h1
            have h2 : ¬ b = b' := fun e => hab ⟨rfl, e⟩
            clear hab
            go_wp2
            go_quiet (fail)
            go_wp2
            go_ret
            exact ⟨congrArg (fun v => Ending.returned (.bool v)) HF.out.symm, tyN HB.out _⟩
          · clear hab
            go_wp2
            go_quiet (fail)
            go_wp2
            go_ret
            exact ⟨congrArg (fun v => Ending.returned (.bool v)) HF.out.symm, tyN HB.out _⟩
      · obtain rfl : j = n := by omega
        have HF := hide (eqPs_yes HE.out HXL.out HYL.out)
        go_wp2
        go_ret
        exact ⟨congrArg (fun v => Ending.returned (.bool v)) HF.out.symm, HB.out⟩
  · have e1 : ((n : Int) != (m : Int)) = true := by simp; omega
    have HF := hide (show eqPs xs ys = false by
      cases h : eqPs xs ys
      · rfl
      · rw [eqPs_iff] at h
        subst h
        have h1 := HXL.out
        have h2 := HYL.out
        omega)
    go_enter Tryz.func117, Tryz.ntmps117
    go_wp2
    go_ret
    exact ⟨congrArg (fun v => Ending.returned (.bool v)) HF.out.symm, Below.refl _ _⟩
theorem EqPj_is {A B : Option Addr} {n m c d : Nat} {xs ys : List Pr} {v : Bool} (h : eqPs xs ys = v) (w : World) (hx : Prs w w.heap.size A n xs) (hy : Prs w w.heap.size B m ys) (hn : n ≤ maxLen) (hm : m ≤ maxLen) :
    Calls Tryz.prog 117 #[.slice A n c, .slice B m d] w fun e w' => e = .returned (.bool v) ∧ Below w.heap.size w w' := h ▸ EqPj_any A B n m c d xs ys w _ _ hx hy hn hm

/-! ### places -/
def eqPl (x y : PlW) : Bool := decide (x.l = y.l ∧ x.ps = y.ps)
def prePl (x y : PlW) : Bool := decide (x.l = y.l ∧ x.ps <+: y.ps)
theorem eqPl_iff {x y : PlW} : eqPl x y = true ↔ x.l = y.l ∧ x.ps = y.ps := by simp [eqPl]
theorem prePl_iff {x y : PlW} : prePl x y = true ↔ x.l = y.l ∧ x.ps <+: y.ps := by simp [prePl]
theorem pre_take {xs ys : List Pr} {n : Nat} (hn : xs.length = n) (hle : n ≤ ys.length) : xs <+: ys ↔ eqPs xs (ys.take n) = true := by
  rw [eqPs_iff]
  subst hn
  exact List.prefix_iff_eq_take

/-- the world with both places in boxes -/
def box2 (w : World) (x y : PlW) : World := (w.alloc (.cells #[.int .i64 x.l, .slice x.A x.n x.c] 40)).alloc (.cells #[.int .i64 y.l, .slice y.A y.n y.c] 40)
theorem box2_below (w : World) (x y : PlW) : Below w.heap.size w (box2 w x y) := ((Below.refl _ w).alloc (Nat.le_refl _) _).alloc (by simp) _
theorem box2_cells {w w' : World} {x y : PlW} (h : Below (box2 w x y).heap.size (box2 w x y) w') : w'.cell? ⟨w.heap.size, 0, none⟩ = some (.int .i64 x.l) ∧ w'.cell? ⟨w.heap.size, 1, none⟩ = some (.slice x.A x.n x.c) ∧ w'.cell? ⟨w.heap.size + 1, 0, none⟩ = some (.int .i64 y.l) ∧ w'.cell? ⟨w.heap.size + 1, 1, none⟩ = some (.slice y.A y.n y.c) := by
  have hs : (box2 w x y).heap.size = w.heap.size + 2 := by simp [box2]
  refine ⟨(h.cell (p := ⟨w.heap.size, 0, none⟩) (show w.heap.size < (box2 w x y).heap.size by omega)).trans ?_, (h.cell (p := ⟨w.heap.size, 1, none⟩) (show w.heap.size < (box2 w x y).heap.size by omega)).trans ?_, (h.cell (p := ⟨w.heap.size + 1, 0, none⟩) (show w.heap.size + 1 < (box2 w x y).heap.size by omega)).trans ?_, (h.cell (p := ⟨w.heap.size + 1, 1, none⟩) (show w.heap.size + 1 < (box2 w x y).heap.size by omega)).trans ?_⟩ <;> (unfold box2; simp [go_sem])

set_option maxHeartbeats 1000000 in
theorem EqualP_any (x y : PlW) (w : World) (hx : OnePl w w.heap.size x) (hy : OnePl w w.heap.size y) :
    Calls Tryz.prog 93 #[aggPl x, aggPl y] w fun e w' => e = .returned (.bool (eqPl x y)) ∧ Below w.heap.size w w' := by
  have HB := hide (box2_below w x y)
  have HX := hide (hx.up HB.out).prs
  have HY := hide (hy.up HB.out).prs
  have hn := Nat.le_trans hx.nc hx.cm
  have hm := Nat.le_trans hy.nc hy.cm
  obtain ⟨l, A, n, c, ps⟩ := x
  obtain ⟨l', A', n', c', ps'⟩ := y
  simp only [] at hn hm
  clear hx hy
  by_cases hl : l = l'
  · subst hl
    obtain ⟨v, hv⟩ : ∃ v, eqPs ps ps' = v := ⟨_, rfl⟩
    have HV := hide hv
    have HF := hide (show eqPl ⟨l, A, n, c, ps⟩ ⟨l, A', n', c', ps'⟩ = v from by rw [← hv]; unfold eqPl eqPs; simp)
    clear hv
    go_enter Tryz.func93, Tryz.ntmps93
    go_wp2_with fail
    refine (EqPj_is HV.out _ HX.out HY.out hn hm).mono ?_
    rintro e w1 ⟨rfl, hb⟩
    have HB2 := hide (HB.out.trans (hb.mono HB.out.size))
    clear hb
    go_wp2
    go_ret
    exact ⟨congrArg (fun v => Ending.returned (.bool v)) HF.out.symm, HB2.out⟩
  · have t1 : (l == l') = false := by simpa using hl
    have HF := hide (show eqPl ⟨l, A, n, c, ps⟩ ⟨l', A', n', c', ps'⟩ = false from by unfold eqPl; simp [hl])
    clear hl
    go_enter Tryz.func93, Tryz.ntmps93
    go_wp2
    go_ret
    exact ⟨congrArg (fun v => Ending.returned (.bool v)) HF.out.symm, HB.out⟩
theorem EqualP_is {x y : PlW} {v : Bool} (h : eqPl x y = v) (w : World) (hx : OnePl w w.heap.size x) (hy : OnePl w w.heap.size y) :
    Calls Tryz.prog 93 #[aggPl x, aggPl y] w fun e w' => e = .returned (.bool v) ∧ Below w.heap.size w w' := h ▸ EqualP_any x y w hx hy

/-! ### the reference's -/
set_option maxHeartbeats 1000000 in
theorem RIsPrefix_any (x y : PlW) (w : World) (hx : OnePl w w.heap.size x) (hy : OnePl w w.heap.size y) :
    Calls Tryz.prog 86 #[aggPl x, aggPl y] w fun e w' => e = .returned (.bool (prePl x y)) ∧ Below w.heap.size w w' := by
  have HB := hide (box2_below w x y)
  have HX := hide (hx.up HB.out).prs
  have HY := hide (hy.up HB.out).prs
  have hn := Nat.le_trans hx.nc hx.cm
  have hm := Nat.le_trans hy.nc hy.cm
  have hs := hide fun (w' : World) (h : Below (box2 w x y).heap.size (box2 w x y) w') => box2_cells h
  have HLX := hide hx.prs.len
  have HLY := hide hy.prs.len
  obtain ⟨l, A, n, c, ps⟩ := x
  obtain ⟨l', A', n', c', ps'⟩ := y
  simp only [] at hn hm
  clear hx hy
  unfold maxLen at hn hm
  by_cases hl : l = l'
  rotate_left
  · have t1 : (l != l') = true := by rw [bne_iff_ne]; exact hl
    have HF := hide (show prePl ⟨l, A, n, c, ps⟩ ⟨l', A', n', c', ps'⟩ = false from by unfold prePl; simp [hl])
    clear hl
    go_enter Tryz.func86, Tryz.ntmps86
    go_wp2
    go_ret
    exact ⟨congrArg (fun v => Ending.returned (.bool v)) HF.out.symm, HB.out⟩
  subst hl
  by_cases hnn : n ≤ n'
  rotate_left
  · have hnn' : (n' : Int) < (n : Int) := by omega
    have HF := hide (show prePl ⟨l, A, n, c, ps⟩ ⟨l, A', n', c', ps'⟩ = false from by
      cases h : prePl ⟨l, A, n, c, ps⟩ ⟨l, A', n', c', ps'⟩
      · rfl
      · have := (prePl_iff.1 h).2.length_le
        have h1 : ps.length = n := HLX.out
        have h2 : ps'.length = n' := HLY.out
        simp only [] at this
        omega)
    go_enter Tryz.func86, Tryz.ntmps86
    go_wp2
    go_ret
    exact ⟨congrArg (fun v => Ending.returned (.bool v)) HF.out.symm, HB.out⟩
  have hnn' : (n : Int) ≤ (n' : Int) := by omega
  have HLT := hide (show (ps'.take n).length = n from by rw [List.length_take]; have : ps'.length = n' := HLY.out; omega)
  have HP := hide (show ∀ v, eqPs ps (ps'.take n) = v → prePl ⟨l, A, n, c, ps⟩ ⟨l, A', n', c', ps'⟩ = v from fun v hv => by
    rw [← hv, Bool.eq_iff_iff, prePl_iff, ← pre_take HLX.out (by rw [show ps'.length = n' from HLY.out]; exact hnn)]
    simp)
  go_enter Tryz.func86, Tryz.ntmps86
  go_wp2
  go_loopw [5] (fun i wr => ∃ j : Nat, i = .int .i64 (j : Int) ∧ j ≤ n ∧ Hid (eqPUpto ps (ps'.take n) j) ∧ Below (box2 w ⟨l, A, n, c, ps⟩ ⟨l, A', n', c', ps'⟩).heap.size (box2 w ⟨l, A, n, c, ps⟩ ⟨l, A', n', c', ps'⟩) wr) (fun i _ => n - (intOf i).toNat)
  case atStart => exact ⟨0, rfl, Nat.zero_le _, fun j h => absurd h (by omega), Below.refl _ _⟩
  case round =>
    obtain ⟨j, rfl, hj, HE, hb⟩ := hrel
    obtain ⟨_, k1, _, k3⟩ := hs.out wr hb
    have HB2 := hide hb
    clear hb
    by_cases hlt : j < n
    · have hltm : j < n' := by omega
      obtain ⟨p, hp⟩ : ∃ a, ps[j]? = some a := ⟨_, List.getElem?_eq_getElem (by have : ps.length = n := HLX.out; omega)⟩
      obtain ⟨q, hq⟩ : ∃ a, ps'[j]? = some a := ⟨_, List.getElem?_eq_getElem (by have : ps'.length = n' := HLY.out; omega)⟩
      have HQ := hide (show (ps'.take n)[j]? = some q from by rw [List.getElem?_take, if_pos hlt]; exact hq)
      obtain ⟨g, o, rfl, _, _, c0, c1⟩ := (HX.out.below HB2.out).at_ hp
      obtain ⟨g', o', rfl, _, _, d0, d1⟩ := (HY.out.below HB2.out).at_ hq
      have hlt' : (j : Int) < (n : Int) := by omega
      have hltm' : (j : Int) < (n' : Int) := by omega
      have HPP := hide hp
      clear hp hq
      obtain ⟨a, b⟩ := p
      obtain ⟨a', b'⟩ := q
      simp only [] at c0 c1 d0 d1
      by_cases hab : a = a' ∧ b = b'
      · obtain ⟨rfl, rfl⟩ := hab
        have HE2 := hide (eqPUpto_up HE.out HPP.out HQ.out)
        go_wp2
        go_quiet (fail)
        go_wp2
        go_roundw
        case rel => exact ⟨j + 1, by go_num, by omega, HE2.out, tyN HB2.out _⟩
        case measure => simp [intOf]; omega
      · have HF := hide (HP.out _ (eqPs_no HPP.out HQ.out (fun e => hab (by injection e with e1 e2; exact ⟨e1, e2⟩))))
        by_cases h1 : a = a'
        · subst h1
          have h2 : ¬ b = b' := fun e => hab ⟨rfl, e⟩
          clear hab
          go_wp2
          go_quiet (fail)
          go_wp2
          go_ret
          exact ⟨congrArg (fun v => Ending.returned (.bool v)) HF.out.symm, HB.out.trans ((tyN HB2.out _).mono HB.out.size)⟩
        · clear hab
          go_wp2
          go_quiet (fail)
          go_wp2
          go_ret
          exact ⟨congrArg (fun v => Ending.returned (.bool v)) HF.out.symm, HB.out.trans ((tyN HB2.out _).mono HB.out.size)⟩
    · obtain rfl : j = n := by omega
      have HF := hide (HP.out _ (eqPs_yes HE.out HLX.out HLT.out))
      go_wp2
      go_ret
      exact ⟨congrArg (fun v => Ending.returned (.bool v)) HF.out.symm, HB.out.trans (HB2.out.mono HB.out.size)⟩
theorem RIsPrefix_is {x y : PlW} {v : Bool} (h : prePl x y = v) (w : World) (hx : OnePl w w.heap.size x) (hy : OnePl w w.heap.size y) :
    Calls Tryz.prog 86 #[aggPl x, aggPl y] w fun e w' => e = .returned (.bool v) ∧ Below w.heap.size w w' := h ▸ RIsPrefix_any x y w hx hy

set_option maxHeartbeats 1000000 in
theorem REqualP_any (x y : PlW) (w : World) (hx : OnePl w w.heap.size x) (hy : OnePl w w.heap.size y) :
    Calls Tryz.prog 55 #[aggPl x, aggPl y] w fun e w' => e = .returned (.bool (eqPl x y)) ∧ Below w.heap.size w w' := by
  have HB := hide (box2_below w x y)
  have HX := hide (hx.up HB.out)
  have HY := hide (hy.up HB.out)
  have HLX := hide hx.prs.len
  have HLY := hide hy.prs.len
  clear hx hy
  obtain ⟨l, A, n, c, ps⟩ := x
  obtain ⟨l', A', n', c', ps'⟩ := y
  by_cases hnn : n = n'
  · subst hnn
    obtain ⟨v, hv⟩ : ∃ v, prePl ⟨l, A, n, c, ps⟩ ⟨l', A', n, c', ps'⟩ = v := ⟨_, rfl⟩
    have HV := hide hv
    have HF := hide (show eqPl ⟨l, A, n, c, ps⟩ ⟨l', A', n, c', ps'⟩ = v from by
      rw [← hv, Bool.eq_iff_iff, prePl_iff, eqPl_iff]
      refine and_congr Iff.rfl ⟨fun h => h ▸ List.prefix_rfl, fun h => h.eq_of_length ?_⟩
      rw [show ps.length = n from HLX.out, show ps'.length = n from HLY.out])
    clear hv
    go_enter Tryz.func55, Tryz.ntmps55
    go_wp2_with fail
    refine (RIsPrefix_is HV.out _ HX.out HY.out).mono ?_
    rintro e w1 ⟨rfl, hb⟩
    have HB2 := hide (HB.out.trans (hb.mono HB.out.size))
    clear hb
    go_wp2
    go_ret
    exact ⟨congrArg (fun v => Ending.returned (.bool v)) HF.out.symm, HB2.out⟩
  · have t1 : ((n : Int) == (n' : Int)) = false := by simp; omega
    have HF := hide (show eqPl ⟨l, A, n, c, ps⟩ ⟨l', A', n', c', ps'⟩ = false from by
      cases h : eqPl ⟨l, A, n, c, ps⟩ ⟨l', A', n', c', ps'⟩
      · rfl
      · have h3 := (eqPl_iff.1 h).2
        have h1 : ps.length = n := HLX.out
        have h2 : ps'.length = n' := HLY.out
        simp only [] at h3
        rw [h3] at h1
        exact absurd (h1.symm.trans h2) hnn)
    go_enter Tryz.func55, Tryz.ntmps55
    go_wp2
    go_ret
    exact ⟨congrArg (fun v => Ending.returned (.bool v)) HF.out.symm, HB.out⟩
theorem REqualP_is {x y : PlW} {v : Bool} (h : eqPl x y = v) (w : World) (hx : OnePl w w.heap.size x) (hy : OnePl w w.heap.size y) :
    Calls Tryz.prog 55 #[aggPl x, aggPl y] w fun e w' => e = .returned (.bool v) ∧ Below w.heap.size w w' := h ▸ REqualP_any x y w hx hy
end Go.Proofs.YtbdimnncobpfdaaGreat
