/- Two types compared, and a type looked for in a list: the code's Equal and Find, and the reference's. -/
import Derived.Test.YtkcgonggokhneaaTyp
set_option linter.unusedVariables false
namespace Go.Proofs.Ytkcgonggokhneaa
open Go.RowKit

theorem two_alloc (w : World) (o p : Obj) : Below w.heap.size w ((w.alloc o).alloc p) := ((Below.refl _ _).alloc (Nat.le_refl _) _).alloc (by simp) _

theorem eqTy_no {a b : Ty} (h : a ≠ b) : eqTy a b = false := by simp [eqTy, h]

set_option maxHeartbeats 2000000 in
set_option maxRecDepth 100000 in
theorem EqT_any (x y : TyW) (w : World) (hx : OneT w w.heap.size x) (hy : OneT w w.heap.size y) :
    Calls Try.prog 15 #[aggT x, aggT y] w fun e w' => e = .returned (.bool (eqTy x.t y.t)) ∧ Below w.heap.size w w' := by
  obtain ⟨⟨k, m, r, el, fs⟩, A, n, c⟩ := x
  obtain ⟨⟨k', m', r', el', fs'⟩, A', n', c'⟩ := y
  have HB := hide (two_alloc w (.cells #[.int .i64 k, .bool m, .int .i64 r, .int .i64 el, .slice A n c] 31) (.cells #[.int .i64 k', .bool m', .int .i64 r', .int .i64 el', .slice A' n' c'] 31))
  have HX := hide (hx.rd.below HB.out)
  have HY := hide (hy.rd.below HB.out)
  have h1n : n ≤ maxLen := Nat.le_trans hx.ok.nc hx.ok.cm
  have h2n : n' ≤ maxLen := Nat.le_trans hy.ok.nc hy.ok.cm
  clear hx hy
  by_cases h1 : k = k'
  · have e1 : (k == k') = true := beq_iff_eq.2 h1
    by_cases h2 : m = m'
    · have e2 : (m == m') = true := beq_iff_eq.2 h2
      by_cases h3 : r = r'
      · have e3 : (r == r') = true := beq_iff_eq.2 h3
        by_cases h4 : el = el'
        · have e4 : (el == el') = true := beq_iff_eq.2 h4
          have HF : Hid (eqTy ⟨k, m, r, el, fs⟩ ⟨k', m', r', el', fs'⟩ = eqIs fs fs') := by
            show _ = _
            rw [Bool.eq_iff_iff, eqTy_iff, eqIs_iff, h1, h2, h3, h4]
            simp
          have HC := hide (EqI_any A A' n n' c c' fs fs' _ _ _ HX.out HY.out h1n h2n)
          clear h1 h2 h3 h4 h1n h2n
          go_enter Try.func15, Try.ntmps15
          go_wp2_with fail
          refine HC.out.mono ?_
          rintro e w1 ⟨rfl, hb⟩
          have HB2 := hide (HB.out.trans (hb.mono HB.out.size))
          clear hb
          go_wp2_with fail
          go_ret
          exact ⟨congrArg (fun v => Ending.returned (.bool v)) HF.out.symm, HB2.out⟩
        · have e4 : (el == el') = false := beq_eq_false_iff_ne.2 h4
          have HF := hide (eqTy_no (a := ⟨k, m, r, el, fs⟩) (b := ⟨k', m', r', el', fs'⟩) fun e => h4 (congrArg Ty.elem e))
          clear h1 h2 h3 h4 h1n h2n
          go_enter Try.func15, Try.ntmps15
          go_wp2
          go_ret
          exact ⟨congrArg (fun v => Ending.returned (.bool v)) HF.out.symm, HB.out⟩
      · have e3 : (r == r') = false := beq_eq_false_iff_ne.2 h3
        have HF := hide (eqTy_no (a := ⟨k, m, r, el, fs⟩) (b := ⟨k', m', r', el', fs'⟩) fun e => h3 (congrArg Ty.region e))
        clear h1 h2 h3 h1n h2n
        go_enter Try.func15, Try.ntmps15
        go_wp2
        go_ret
        exact ⟨congrArg (fun v => Ending.returned (.bool v)) HF.out.symm, HB.out⟩
    · have e2 : (m == m') = false := beq_eq_false_iff_ne.2 h2
      have HF := hide (eqTy_no (a := ⟨k, m, r, el, fs⟩) (b := ⟨k', m', r', el', fs'⟩) fun e => h2 (congrArg Ty.mut_ e))
      clear h1 h2 h1n h2n
      go_enter Try.func15, Try.ntmps15
      go_wp2
      go_ret
      exact ⟨congrArg (fun v => Ending.returned (.bool v)) HF.out.symm, HB.out⟩
  · have e1 : (k == k') = false := beq_eq_false_iff_ne.2 h1
    have HF := hide (eqTy_no (a := ⟨k, m, r, el, fs⟩) (b := ⟨k', m', r', el', fs'⟩) fun e => h1 (congrArg Ty.kind e))
    clear h1 h1n h2n
    go_enter Try.func15, Try.ntmps15
    go_wp2
    go_ret
    exact ⟨congrArg (fun v => Ending.returned (.bool v)) HF.out.symm, HB.out⟩

/-! ### Find -/
/-- t stands at k, and not before -/
def FirstT (l : List Ty) (t : Ty) (k : Nat) : Prop := l[k]? = some t ∧ ∀ i, i < k → l[i]? ≠ some t
theorem firstT_one {l : List Ty} {t : Ty} {j k : Nat} (h : FirstT l t j) (h' : FirstT l t k) : j = k := by
  rcases Nat.lt_trichotomy j k with c | c | c
  · exact absurd h.1 (h'.2 j c)
  · exact c
  · exact absurd h'.1 (h.2 k c)
theorem firstT_ex : ∀ {l : List Ty} {t : Ty}, t ∈ l → ∃ k, FirstT l t k
  | [], _, h => by cases h
  | x :: l, t, h => by
    by_cases hx : x = t
    · exact ⟨0, by simp [hx], fun i hi => absurd hi (by omega)⟩
    · have hm : t ∈ l := by
        rcases List.mem_cons.1 h with e | h
        · exact absurd e.symm hx
        · exact h
      obtain ⟨k, h1, h2⟩ := firstT_ex hm
      refine ⟨k + 1, by simpa using h1, fun i hi => ?_⟩
      cases i with
      | zero => simp [hx]
      | succ i => simpa using h2 i (by omega)
theorem firstT_ok {l : List Ty} {r : Int} (h : TyOk l r) {t : Ty} {k : Nat} (hk : l[k]? = some t) : FirstT l t k := ⟨hk, fun i hi e => by have := h.inj e hk; omega⟩

theorem EqT_is {x y : TyW} {b : Bool} (h : eqTy x.t y.t = b) (w : World) (hx : OneT w w.heap.size x) (hy : OneT w w.heap.size y) :
    Calls Try.prog 15 #[aggT x, aggT y] w fun e w' => e = .returned (.bool b) ∧ Below w.heap.size w w' := h ▸ EqT_any x y w hx hy

/-- what a box holds is there while nothing that lies is turned -/
theorem box_at {w wr : World} {cs : Array Value} {t : TypeId} (h : Below (w.heap.size + 1) (w.alloc (.cells cs t)) wr) {j : Nat} {u : Value} (hj : cs[j]? = some u) : wr.cell? ⟨w.heap.size, j, none⟩ = some u := by
  rw [h.cell (p := ⟨w.heap.size, j, none⟩) (Nat.lt_succ_self _), cell_of_row (w.alloc (.cells cs t)) w.heap.size j cs t (0, 0) (heap_alloc_new w _), hj]
theorem box_below {w wr : World} {o : Obj} (h : Below (w.heap.size + 1) (w.alloc o) wr) : Below w.heap.size w wr := ((Below.refl _ _).alloc (Nat.le_refl _) o).trans (h.mono (Nat.le_succ _))

set_option maxHeartbeats 2000000 in
set_option maxRecDepth 100000 in
theorem FindT_any (A : Option Addr) (n c : Nat) (L : List TyW) (y : TyW) (w : World) (hA : Typs w w.heap.size A n L) (hy : OneT w w.heap.size y) (hn : n ≤ maxLen) (s : Nat) (hs : s ≤ n) (hno : ∀ i, i < s → (tys L)[i]? ≠ some y.t) (hst : s < n → (tys L)[s]? = some y.t) :
    Calls Try.prog 13 #[.slice A n c, aggT y] w fun e w' => e = .returned (.tuple #[.int .i64 (if s < n then (s : Int) else 0), .bool (decide (s < n))]) ∧ Below w.heap.size w w' := by
  have HL := hide hA.len
  have HA := hide hA
  have HY := hide hy
  have HN := hide hno
  have HS := hide hst
  unfold maxLen at hn
  clear hA hy hno hst
  go_enter Try.func13, Try.ntmps13
  go_wp2
  go_loopw [10] (fun i wr => ∃ j : Nat, i = .int .i64 (j : Int) ∧ j ≤ s ∧ Below (w.heap.size + 1) (w.alloc (.cells (c5 y).toArray 31)) wr) (fun i _ => n - (intOf i).toNat)
  case atStart => exact ⟨0, rfl, Nat.zero_le _, Below.refl _ _⟩
  case round =>
    obtain ⟨j, rfl, hj, hb⟩ := hrel
    have HB := hide hb
    have hbw := box_below hb
    have HBW := hide hbw
    have d0 : wr.cell? ⟨w.heap.size, 0, none⟩ = some (.int .i64 y.t.kind) := box_at hb rfl
    have d1 : wr.cell? ⟨w.heap.size, 1, none⟩ = some (.bool y.t.mut_) := box_at hb rfl
    have d2 : wr.cell? ⟨w.heap.size, 2, none⟩ = some (.int .i64 y.t.region) := box_at hb rfl
    have d3 : wr.cell? ⟨w.heap.size, 3, none⟩ = some (.int .i64 y.t.elem) := box_at hb rfl
    have d4 : wr.cell? ⟨w.heap.size, 4, none⟩ = some (.slice y.A y.n y.c) := box_at hb rfl
    have hsz := hb.size
    simp only [World.size_alloc] at hsz
    have hlt0 : w.heap.size < wr.heap.size := hsz
    clear hb hbw
    by_cases hlt : j < n
    · have hex : ∃ a, L[j]? = some a := ⟨_, List.getElem?_eq_getElem (by have := HL.out; omega)⟩
      obtain ⟨x, hx⟩ := hex
      obtain ⟨g, o, rfl, hgB, h1, c0, c1, c2, c3, c4⟩ := (HA.out.below HBW.out).at_ hx
      have hbx : ∀ o : Obj, Below wr.heap.size wr (wr.alloc o) := fun o => (Below.refl _ _).alloc (Nat.le_refl _) o
      have HX := hide ((h1.more (Nat.le_trans (Nat.le_of_lt (Nat.lt_succ_self _)) hsz)).below (hbx (.cells (c5 x).toArray 31)))
      have HY2 := hide (((HY.out.below HBW.out).more (Nat.le_trans (Nat.le_of_lt (Nat.lt_succ_self _)) hsz)).below (hbx (.cells (c5 x).toArray 31)))
      have HB2 := hide (HB.out.alloc hsz (.cells (c5 x).toArray 31))
      have hlt' : (j : Int) < (n : Int) := by omega
      have HX' := hide hx
      by_cases hjs : j < s
      · have he := hide (show eqTy x.t y.t = false from eqTy_no fun e => HN.out j hjs (e ▸ tys_at hx))
        clear hx h1 hbx
        go_wp2_with fail
        refine (EqT_is he.out _ (HX.out.more (by simp)) (HY2.out.more (by simp))).mono ?_
        rintro e w1 ⟨rfl, hb⟩
        have HB3 := hide (HB2.out.trans (hb.mono (by simp; omega)))
        clear hb
        go_wp2_with fail
        go_roundw
        case rel => exact ⟨j + 1, by go_num, by omega, HB3.out⟩
        case measure => simp [intOf]; omega
      · obtain rfl : j = s := by omega
        have he := hide (show eqTy x.t y.t = true by
          have h1 := tys_at hx
          rw [HS.out hlt] at h1
          injection h1 with h1
          rw [eqTy_iff, h1])
        clear hx h1 hbx
        go_wp2_with fail
        refine (EqT_is he.out _ (HX.out.more (by simp)) (HY2.out.more (by simp))).mono ?_
        rintro e w1 ⟨rfl, hb⟩
        have HB3 := hide (HB2.out.trans (hb.mono (by simp; omega)))
        clear hb
        go_wp2_with fail
        go_ret2
        exact ⟨by simp, box_below HB3.out⟩
    · obtain rfl : j = n := by omega
      obtain rfl : s = j := by omega
      go_wp2
      go_ret2
      exact ⟨by simp, HBW.out⟩
end Go.Proofs.Ytkcgonggokhneaa
