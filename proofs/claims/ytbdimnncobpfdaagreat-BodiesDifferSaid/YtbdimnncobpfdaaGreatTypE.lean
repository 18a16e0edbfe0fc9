/- Two types compared, and a type looked for in a list: the code's Equal and Find, and the reference's. -/
import Derived.Test.YtbdimnncobpfdaaGreatTyp
set_option linter.unusedVariables false
namespace Go.Proofs.YtbdimnncobpfdaaGreat
open Go.RowKit

theorem two_alloc (w : World) (o p : Obj) : Below w.heap.size w ((w.alloc o).alloc p) := ((Below.refl _ _).alloc (Nat.le_refl _) _).alloc (by simp) _

theorem eqTy_no {a b : Ty} (h : a ≠ b) : eqTy a b = false := by simp [eqTy, h]

set_option maxHeartbeats 2000000 in
set_option maxRecDepth 100000 in
theorem EqT_any (x y : TyW) (w : World) (hx : OneT w w.heap.size x) (hy : OneT w w.heap.size y) :
    Calls Tryz.prog 30 #[aggT x, aggT y] w fun e w' => e = .returned (.bool (eqTy x.t y.t)) ∧ Below w.heap.size w w' := by
  obtain ⟨⟨k, m, r, el, fs⟩, A, n, c⟩ := x
  obtain ⟨⟨k', m', r', el', fs'⟩, A', n', c'⟩ := y
  have HB := hide (two_alloc w (.cells #[.int .i64 k, .bool m, .int .i64 r, .int .i64 el, .slice A n c] 51) (.cells #[.int .i64 k', .bool m', .int .i64 r', .int .i64 el', .slice A' n' c'] 51))
  have HX := hide (hx.rd.below HB.out)
  have HY := hide (hy.rd.below HB.out)
  have h1n : n ≤ maxLen := Nat.le_trans hx.ok.nc hx.ok.cm
  have h2n : n' ≤ maxLen := Nat.le_trans hy.ok.nc hy.ok.cm
  clear hx hy
  by_cases h1 : k = k'
  · have e1 : (k == k') = true := beq_iff_eq.2 h1
    by_cases h2 : m = m'
    · have e2 : (m == m') = true := beq_iff_eq.2 h2
      by_cases h3 : r = r'
      · have e3 : (r == r') = true := beq_iff_eq.2 h3
        by_cases h4 : el = el'
        · have e4 : (el == el') = true := beq_iff_eq.2 h4
          have HF : Hid (eqTy ⟨k, m, r, el, fs⟩ ⟨k', m', r', el', fs'⟩ = eqIs fs fs') := by
            show _ = _
            rw [Bool.eq_iff_iff, eqTy_iff, eqIs_iff, h1, h2, h3, h4]
            simp
          have HC := hide (EqI_any A A' n n' c c' fs fs' _ _ _ HX.out HY.out h1n h2n)
          clear h1 h2 h3 h4 h1n h2n
          go_enter Tryz.func30, Tryz.ntmps30
          go_wp2_with fail
          refine HC.out.mono ?_
          rintro e w1 ⟨rfl, hb⟩
          have HB2 := hide (HB.out.trans (hb.mono HB.out.size))
          clear hb
          go_wp2_with fail
          go_ret
          exact ⟨congrArg (fun v => Ending.returned (.bool v)) HF.out.symm, HB2.out⟩
        · have e4 : (el == el') = false := beq_eq_false_iff_ne.2 h4
          have HF := hide (eqTy_no (a := ⟨k, m, r, el, fs⟩) (b := ⟨k', m', r', el', fs'⟩) fun e => h4 (congrArg Ty.elem e))
          clear h1 h2 h3 h4 h1n h2n
          go_enter Tryz.func30, Tryz.ntmps30
          go_wp2
          go_ret
          exact ⟨congrArg (fun v => Ending.returned (.bool v)) HF.out.symm, HB.out⟩
      · have e3 : (r == r') = false := beq_eq_false_iff_ne.2 h3
        have HF := hide (eqTy_no (a := ⟨k, m, r, el, fs⟩) (b := ⟨k', m', r', el', fs'⟩) fun e => h3 (congrArg Ty.region e))
        clear h1 h2 h3 h1n h2n
        go_enter Tryz.func30, Tryz.ntmps30
        go_wp2
        go_ret
        exact ⟨congrArg (fun v => Ending.returned (.bool v)) HF.out.symm, HB.out⟩
    · have e2 : (m == m') = false := beq_eq_false_iff_ne.2 h2
      have HF := hide (eqTy_no (a := ⟨k, m, r, el, fs⟩) (b := ⟨k', m', r', el', fs'⟩) fun e => h2 (congrArg Ty.mut_ e))
      clear h1 h2 h1n h2n
      go_enter Tryz.func30, Tryz.ntmps30
      go_wp2
      go_ret
      exact ⟨congrArg (fun v => Ending.returned (.bool v)) HF.out.symm, HB.out⟩
  · have e1 : (k == k') = false := beq_eq_false_iff_ne.2 h1
    have HF := hide (eqTy_no (a := ⟨k, m, r, el, fs⟩) (b := ⟨k', m', r', el', fs'⟩) fun e => h1 (congrArg Ty.kind e))
    clear h1 h1n h2n
    go_enter Tryz.func30, Tryz.ntmps30
    go_wp2
    go_ret
    exact ⟨congrArg (fun v => Ending.returned (.bool v)) HF.out.symm, HB.out⟩

/-! ### Find -/
/-- t stands at k, and not before -/
def FirstT (l : List Ty) (t : Ty) (k : Nat) : Prop := l[k]? = some t ∧ ∀ i, i < k → l[i]? ≠ some t
theorem firstT_one {l : List Ty} {t : Ty} {j k : Nat} (h : FirstT l t j) (h' : FirstT l t k) : j = k := by
  rcases Nat.lt_trichotomy j k with c | c | c
  · exact absurd h.1 (h'.2 j c)
  · exact c
  · exact absurd h'.1 (h.2 k c)
theorem firstT_ex : ∀ {l : List Ty} {t : Ty}, t ∈ l → ∃ k, FirstT l t k
  | [], _, h => by cases h
  | x :: l, t, h => by
    by_cases hx : x = t
    · exact ⟨0, by simp [hx], fun i hi => absurd hi (by omega)⟩
    · have hm : t ∈ l := by
        rcases List.mem_cons.1 h with e | h
        · exact absurd e.symm hx
        · exact h
      obtain ⟨k, h1, h2⟩ := firstT_ex hm
      refine ⟨k + 1, by simpa using h1, fun i hi => ?_⟩
      cases i with
      | zero => simp [hx]
      | succ i => simpa using h2 i (by omega)
theorem firstT_ok {l : List Ty} {r : Int} (h : TyOk l r) {t : Ty} {k : Nat} (hk : l[k]? = some t) : FirstT l t k := ⟨hk, fun i hi e => by have := h.inj e hk; omega⟩

theorem EqT_is {x y : TyW} {b : Bool} (h : eqTy x.t y.t = b) (w : World) (hx : OneT w w.heap.size x) (hy : OneT w w.heap.size y) :
    Calls Tryz.prog 30 #[aggT x, aggT y] w fun e w' => e = .returned (.bool b) ∧ Below w.heap.size w w' := h ▸ EqT_any x y w hx hy

/-- what a box holds is there while nothing that lies is turned -/
theorem box_at {w wr : World} {cs : Array Value} {t : TypeId} (h : Below (w.heap.size + 1) (w.alloc (.cells cs t)) wr) {j : Nat} {u : Value} (hj : cs[j]? = some u) : wr.cell? ⟨w.heap.size, j, none⟩ = some u := by
  rw [h.cell (p := ⟨w.heap.size, j, none⟩) (Nat.lt_succ_self _), cell_of_row (w.alloc (.cells cs t)) w.heap.size j cs t (0, 0) (heap_alloc_new w _), hj]
theorem box_below {w wr : World} {o : Obj} (h : Below (w.heap.size + 1) (w.alloc o) wr) : Below w.heap.size w wr := ((Below.refl _ _).alloc (Nat.le_refl _) o).trans (h.mono (Nat.le_succ _))

end Go.Proofs.YtbdimnncobpfdaaGreat
