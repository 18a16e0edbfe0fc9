/- The reference's comparisons of lists: numbers, strings, pairs, operands. -/
import Derived.Test.YtbdimnncobpfdaaGreatBod
import Derived.Test.YtbdimnncobpfdaaGreatPlaE
import Derived.Deep.RegionHeld3
set_option linter.unusedVariables false
namespace Go.Proofs.YtbdimnncobpfdaaGreat
open Go.RowKit

deriving instance DecidableEq for PlV, OpV, RvV, StV, TmV, BkV, LcV

theorem str_ne {a b : ByteArray} (h : a ≠ b) : (a.toList == b.toList) = false := by
  rw [beq_eq_false_iff_ne, ByteArray.toList_eq, ByteArray.toList_eq]
  exact fun e => h (ByteArray.ext (Array.ext' e))
/-- two arrays of two numbers -/
theorem eqPair (a b a' b' : Int) (w : World) {v : Bool} (h : decide (a = a' ∧ b = b') = v) : (Op.equalIn 10000 49 (.agg #[.int .i64 a, .int .i64 b]) (.agg #[.int .i64 a', .int .i64 b'])).run Tryz.prog w = .ok v w := by
  have u5 := Tryz.underlying3
  have a5 := Tryz.isAgg3
  have z5 := Tryz.sizeOf3
  rw [show (10000 : Nat) = 9999 + 1 from rfl, Op.equalIn]
  simp only [Sem.run_bind, run_underlying Tryz.underlying49, Result.andThen_ok]
  simp only [Std.Legacy.Range.forIn_eq_forIn_range', Std.Legacy.Range.size, Nat.sub_zero, Nat.add_sub_cancel, Nat.div_one, List.range'_succ, List.range'_zero, List.forIn_cons, List.forIn_nil]
  go_simp
  rw [← h]
  by_cases h1 : a = a' <;> by_cases h2 : b = b' <;> simp [h1, h2]
/-! ### lists that agree -/
section
variable {α β : Type}
def eqL [DecidableEq α] (xs ys : List α) : Bool := decide (xs = ys)
theorem eqL_iff [DecidableEq α] {xs ys : List α} : eqL xs ys = true ↔ xs = ys := by simp [eqL]
/-- up to an index, as f sees the elements -/
def eqLto (f : β → α) (xs ys : List β) (k : Nat) : Prop := ∀ j, j < k → (xs[j]?).map f = (ys[j]?).map f
theorem eqLto_zero (f : β → α) (xs ys : List β) : eqLto f xs ys 0 := fun _ h => absurd h (by omega)
theorem eqLto_up {f : β → α} {xs ys : List β} {k : Nat} {p q : β} (h : eqLto f xs ys k) (hx : xs[k]? = some p) (hy : ys[k]? = some q) (hpq : f p = f q) : eqLto f xs ys (k + 1) := fun i hi => by
  rcases Nat.lt_or_ge i k with h1 | h1
  · exact h i h1
  · obtain rfl : i = k := by omega
    rw [hx, hy, Option.map_some, Option.map_some, hpq]
theorem eqL_no [DecidableEq α] {f : β → α} {xs ys : List β} {k : Nat} {p q : β} (hx : xs[k]? = some p) (hy : ys[k]? = some q) (h : f p ≠ f q) : eqL (xs.map f) (ys.map f) = false := by
  cases e : eqL (xs.map f) (ys.map f)
  · rfl
  · rw [eqL_iff] at e
    have := congrArg (fun l => l[k]?) e
    simp only [List.getElem?_map, hx, hy, Option.map_some] at this
    injection this with this
    exact absurd this h
theorem eqL_yes [DecidableEq α] {f : β → α} {xs ys : List β} {n : Nat} (h : eqLto f xs ys n) (hx : xs.length = n) (hy : ys.length = n) : eqL (xs.map f) (ys.map f) = true := by
  rw [eqL_iff]
  refine List.ext_getElem? fun i => ?_
  rw [List.getElem?_map, List.getElem?_map]
  rcases Nat.lt_or_ge i n with h1 | h1
  · exact h i h1
  · rw [List.getElem?_eq_none (by omega), List.getElem?_eq_none (by omega)]
theorem eqL_len [DecidableEq α] {f : β → α} {xs ys : List β} {n m : Nat} (hx : xs.length = n) (hy : ys.length = m) (h : n ≠ m) : eqL (xs.map f) (ys.map f) = false := by
  cases e : eqL (xs.map f) (ys.map f)
  · rfl
  · rw [eqL_iff] at e
    have := congrArg List.length e
    rw [List.length_map, List.length_map, hx, hy] at this
    exact absurd this h
theorem eqL_noI [DecidableEq α] {xs ys : List α} {k : Nat} {p q : α} (hx : xs[k]? = some p) (hy : ys[k]? = some q) (h : p ≠ q) : eqL xs ys = false := by simpa using eqL_no (f := id) hx hy h
theorem eqL_yesI [DecidableEq α] {xs ys : List α} {n : Nat} (h : eqLto id xs ys n) (hx : xs.length = n) (hy : ys.length = n) : eqL xs ys = true := by simpa using eqL_yes h hx hy
theorem eqL_lenI [DecidableEq α] {xs ys : List α} {n m : Nat} (hx : xs.length = n) (hy : ys.length = m) (h : n ≠ m) : eqL xs ys = false := by simpa using eqL_len (f := id) hx hy h
end

/-! ### three of the reference's -/

set_option maxHeartbeats 1000000 in
theorem RSameInts_any (s t : SlW Int) (w : World) (k l : Nat) (hs : Ints w k s) (ht : Ints w l t) :
    Calls Tryz.prog 78 #[s.val, t.val] w fun e w' => e = .returned (.bool (eqL s.L t.L)) ∧ Below w.heap.size w w' := by
  have HX := hide hs
  have HY := hide ht
  have HXL := hide hs.len
  have HYL := hide ht.len
  have hn := hs.nm
  have hm := ht.nm
  obtain ⟨A, n, c, xs⟩ := s
  obtain ⟨B, m, d, ys⟩ := t
  simp only [] at hn hm
  unfold maxLen at hn hm
  clear hs ht
  show Calls Tryz.prog 78 #[.slice A n c, .slice B m d] w _
  by_cases hnm : n = m
  · subst hnm
    go_enter Tryz.func78, Tryz.ntmps78
    go_wp2
    go_loopw [5] (fun i wr => ∃ j : Nat, i = .int .i64 (j : Int) ∧ j ≤ n ∧ Hid (eqLto id xs ys j) ∧ Below w.heap.size w wr ∧ (∀ p, wr.cell? p = w.cell? p)) (fun i _ => n - (intOf i).toNat)
    case atStart => exact ⟨0, rfl, Nat.zero_le _, hide (eqLto_zero _ _ _), Below.refl _ _, fun _ => rfl⟩
    case round =>
      obtain ⟨j, rfl, hj, HE, hb, hc⟩ := hrel
      have HB := hide hb
      have HC := hide hc
      clear hb hc
      by_cases hlt : j < n
      · obtain ⟨p, hp⟩ := HX.out.get hlt
        obtain ⟨q, hq⟩ := HY.out.get hlt
        obtain ⟨g, o, hA, _, _, c0⟩ := HX.out.at_ hp
        obtain ⟨g', o', hA', _, _, d0⟩ := HY.out.at_ hq
        simp only [] at hA hA'
        subst hA
        subst hA'
        simp only [← HC.out] at c0 d0
        have hlt' : (j : Int) < (n : Int) := by omega
        have HP := hide hp
        have HQ := hide hq
        clear hp hq
        have c1 := c0 0 _ rfl
        have d1 := d0 0 _ rfl
        clear c0 d0
        simp only [Nat.mul_one, Nat.add_zero] at c1 d1
        by_cases hab : p = q
        · subst hab
          have HE2 := hide (eqLto_up HE.out HP.out HQ.out rfl)
          go_wp2
          go_quiet (fail)
          go_wp2
          go_roundw
          case rel => exact ⟨j + 1, by go_num, by omega, HE2, tyN HB.out _, HC.out⟩
          case measure => simp [intOf]; omega
        · have t1 : (p != q) = true := by rw [bne_iff_ne]; exact hab
          have HF := hide (eqL_noI HP.out HQ.out hab)
          go_wp2
          go_quiet (fail)
          go_wp2
          go_ret
          exact ⟨congrArg (fun v => Ending.returned (.bool v)) HF.out.symm, tyN HB.out _⟩
      · obtain rfl : j = n := by omega
        have HF := hide (eqL_yesI HE.out HXL.out HYL.out)
        go_wp2
        go_ret
        exact ⟨congrArg (fun v => Ending.returned (.bool v)) HF.out.symm, HB.out⟩
  · have e1 : ((n : Int) != (m : Int)) = true := by simp; omega
    have HF := hide (eqL_lenI HXL.out HYL.out hnm)
    go_enter Tryz.func78, Tryz.ntmps78
    go_wp2
    go_ret
    exact ⟨congrArg (fun v => Ending.returned (.bool v)) HF.out.symm, Below.refl _ _⟩


set_option maxHeartbeats 1000000 in
theorem RSameStrings_any (s t : SlW ByteArray) (w : World) (k l : Nat) (hs : Strs w k s) (ht : Strs w l t) :
    Calls Tryz.prog 36 #[s.val, t.val] w fun e w' => e = .returned (.bool (eqL s.L t.L)) ∧ Below w.heap.size w w' := by
  have HX := hide hs
  have HY := hide ht
  have HXL := hide hs.len
  have HYL := hide ht.len
  have hn := hs.nm
  have hm := ht.nm
  obtain ⟨A, n, c, xs⟩ := s
  obtain ⟨B, m, d, ys⟩ := t
  simp only [] at hn hm
  unfold maxLen at hn hm
  clear hs ht
  show Calls Tryz.prog 36 #[.slice A n c, .slice B m d] w _
  by_cases hnm : n = m
  · subst hnm
    go_enter Tryz.func36, Tryz.ntmps36
    go_wp2
    go_loopw [5] (fun i wr => ∃ j : Nat, i = .int .i64 (j : Int) ∧ j ≤ n ∧ Hid (eqLto id xs ys j) ∧ Below w.heap.size w wr ∧ (∀ p, wr.cell? p = w.cell? p)) (fun i _ => n - (intOf i).toNat)
    case atStart => exact ⟨0, rfl, Nat.zero_le _, hide (eqLto_zero _ _ _), Below.refl _ _, fun _ => rfl⟩
    case round =>
      obtain ⟨j, rfl, hj, HE, hb, hc⟩ := hrel
      have HB := hide hb
      have HC := hide hc
      clear hb hc
      by_cases hlt : j < n
      · obtain ⟨p, hp⟩ := HX.out.get hlt
        obtain ⟨q, hq⟩ := HY.out.get hlt
        obtain ⟨g, o, hA, _, _, c0⟩ := HX.out.at_ hp
        obtain ⟨g', o', hA', _, _, d0⟩ := HY.out.at_ hq
        simp only [] at hA hA'
        subst hA
        subst hA'
        simp only [← HC.out] at c0 d0
        have hlt' : (j : Int) < (n : Int) := by omega
        have HP := hide hp
        have HQ := hide hq
        clear hp hq
        have c1 := c0 0 _ rfl
        have d1 := d0 0 _ rfl
        clear c0 d0
        simp only [Nat.mul_one, Nat.add_zero] at c1 d1
        by_cases hab : p = q
        · subst hab
          have HE2 := hide (eqLto_up HE.out HP.out HQ.out rfl)
          go_wp2
          go_quiet (fail)
          go_wp2
          go_roundw
          case rel => exact ⟨j + 1, by go_num, by omega, HE2, tyN HB.out _, HC.out⟩
          case measure => simp [intOf]; omega
        · have t1 : (p.toList == q.toList) = false := str_ne hab
          have HF := hide (eqL_noI HP.out HQ.out hab)
          go_wp2
          go_quiet (fail)
          go_wp2
          go_ret
          exact ⟨congrArg (fun v => Ending.returned (.bool v)) HF.out.symm, tyN HB.out _⟩
      · obtain rfl : j = n := by omega
        have HF := hide (eqL_yesI HE.out HXL.out HYL.out)
        go_wp2
        go_ret
        exact ⟨congrArg (fun v => Ending.returned (.bool v)) HF.out.symm, HB.out⟩
  · have e1 : ((n : Int) != (m : Int)) = true := by simp; omega
    have HF := hide (eqL_lenI HXL.out HYL.out hnm)
    go_enter Tryz.func36, Tryz.ntmps36
    go_wp2
    go_ret
    exact ⟨congrArg (fun v => Ending.returned (.bool v)) HF.out.symm, Below.refl _ _⟩


set_option maxHeartbeats 1000000 in
theorem RSamePairs_any (s t : SlW Pr) (w : World) (k l : Nat) (hs : SlH w k 2 pV IntP s) (ht : SlH w l 2 pV IntP t) :
    Calls Tryz.prog 37 #[s.val, t.val] w fun e w' => e = .returned (.bool (eqL s.L t.L)) ∧ Below w.heap.size w w' := by
  have HX := hide hs
  have HY := hide ht
  have HXL := hide hs.len
  have HYL := hide ht.len
  have hn := hs.nm
  have hm := ht.nm
  obtain ⟨A, n, c, xs⟩ := s
  obtain ⟨B, m, d, ys⟩ := t
  simp only [] at hn hm
  unfold maxLen at hn hm
  clear hs ht
  show Calls Tryz.prog 37 #[.slice A n c, .slice B m d] w _
  by_cases hnm : n = m
  · subst hnm
    go_enter Tryz.func37, Tryz.ntmps37
    go_wp2
    go_loopw [5] (fun i wr => ∃ j : Nat, i = .int .i64 (j : Int) ∧ j ≤ n ∧ Hid (eqLto id xs ys j) ∧ Below w.heap.size w wr ∧ (∀ p, wr.cell? p = w.cell? p)) (fun i _ => n - (intOf i).toNat)
    case atStart => exact ⟨0, rfl, Nat.zero_le _, hide (eqLto_zero _ _ _), Below.refl _ _, fun _ => rfl⟩
    case round =>
      obtain ⟨j, rfl, hj, HE, hb, hc⟩ := hrel
      have HB := hide hb
      have HC := hide hc
      clear hb hc
      by_cases hlt : j < n
      · obtain ⟨p, hp⟩ := HX.out.get hlt
        obtain ⟨q, hq⟩ := HY.out.get hlt
        obtain ⟨g, o, hA, _, _, c0⟩ := HX.out.at_ hp
        obtain ⟨g', o', hA', _, _, d0⟩ := HY.out.at_ hq
        simp only [] at hA hA'
        subst hA
        subst hA'
        simp only [← HC.out] at c0 d0
        have hlt' : (j : Int) < (n : Int) := by omega
        have HP := hide hp
        have HQ := hide hq
        clear hp hq
        have c1 := c0 0 _ rfl
        have d1 := d0 0 _ rfl
        have c2 := c0 1 _ rfl
        have d2 := d0 1 _ rfl
        clear c0 d0
        simp only [Nat.add_zero] at c1 d1
        obtain ⟨a, b⟩ := p
        obtain ⟨a', b'⟩ := q
        simp only [] at c1 d1 c2 d2
        by_cases hab : a = a' ∧ b = b'
        · obtain ⟨rfl, rfl⟩ := hab
          have hE := fun w' => eqPair (v := true) a b a b w' (by simp)
          have HE2 := hide (eqLto_up HE.out HP.out HQ.out rfl)
          go_wp2
          go_quiet (fail)
          go_wp2
          go_roundw
          case rel => exact ⟨j + 1, by go_num, by omega, HE2, tyN HB.out _, HC.out⟩
          case measure => simp [intOf]; omega
        · have hE := fun w' => eqPair (v := false) a b a' b' w' (by simpa using hab)
          have HF := hide (eqL_noI HP.out HQ.out (fun e => hab (by injection e with e1 e2; exact ⟨e1, e2⟩)))
          clear hab
          go_wp2
          go_quiet (fail)
          go_wp2
          go_ret
          exact ⟨congrArg (fun v => Ending.returned (.bool v)) HF.out.symm, tyN HB.out _⟩
      · obtain rfl : j = n := by omega
        have HF := hide (eqL_yesI HE.out HXL.out HYL.out)
        go_wp2
        go_ret
        exact ⟨congrArg (fun v => Ending.returned (.bool v)) HF.out.symm, HB.out⟩
  · have e1 : ((n : Int) != (m : Int)) = true := by simp; omega
    have HF := hide (eqL_lenI HXL.out HYL.out hnm)
    go_enter Tryz.func37, Tryz.ntmps37
    go_wp2
    go_ret
    exact ⟨congrArg (fun v => Ending.returned (.bool v)) HF.out.symm, Below.refl _ _⟩

theorem RSameInts_is {s t : SlW Int} {v : Bool} (h : eqL s.L t.L = v) (w : World) {k l : Nat} (hs : Ints w k s) (ht : Ints w l t) :
    Calls Tryz.prog 78 #[s.val, t.val] w fun e w' => e = .returned (.bool v) ∧ Below w.heap.size w w' := h ▸ RSameInts_any s t w k l hs ht
theorem RSameStrings_is {s t : SlW ByteArray} {v : Bool} (h : eqL s.L t.L = v) (w : World) {k l : Nat} (hs : Strs w k s) (ht : Strs w l t) :
    Calls Tryz.prog 36 #[s.val, t.val] w fun e w' => e = .returned (.bool v) ∧ Below w.heap.size w w' := h ▸ RSameStrings_any s t w k l hs ht
theorem RSamePairs_is {s t : SlW Pr} {v : Bool} (h : eqL s.L t.L = v) (w : World) {k l : Nat} (hs : SlH w k 2 pV IntP s) (ht : SlH w l 2 pV IntP t) :
    Calls Tryz.prog 37 #[s.val, t.val] w fun e w' => e = .returned (.bool v) ∧ Below w.heap.size w w' := h ▸ RSamePairs_any s t w k l hs ht

end Go.Proofs.YtbdimnncobpfdaaGreat

/- The reference's comparison of operands. -/
set_option linter.unusedVariables false
namespace Go.Proofs.YtbdimnncobpfdaaGreat
open Go.RowKit

theorem plV_eq {x y : PlW} : x.v = y.v ↔ eqPl x y = true := by
  rw [eqPl_iff]
  obtain ⟨l, A, n, c, ps⟩ := x
  obtain ⟨l', A', n', c', ps'⟩ := y
  simp [PlW.v]
theorem eqPl_v {x y : PlW} : eqPl x y = decide (x.v = y.v) := by rw [Bool.eq_iff_iff, decide_eq_true_iff, plV_eq]
def eqOps (s t : SlW OpW) : Bool := eqL (s.L.map OpW.v) (t.L.map OpW.v)

set_option maxHeartbeats 2000000 in
set_option maxRecDepth 100000 in
theorem RSameOperands_any (s t : SlW OpW) (w : World) (hs : Ops w w.heap.size s) (ht : Ops w w.heap.size t) :
    Calls Tryz.prog 21 #[s.val, t.val] w fun e w' => e = .returned (.bool (eqOps s t)) ∧ Below w.heap.size w w' := by
  have HX := hide hs
  have HY := hide ht
  have HXL := hide hs.len
  have HYL := hide ht.len
  have hn := hs.nm
  have hm := ht.nm
  obtain ⟨A, n, c, xs⟩ := s
  obtain ⟨B, m, d, ys⟩ := t
  simp only [] at hn hm
  unfold maxLen at hn hm
  clear hs ht
  show Calls Tryz.prog 21 #[.slice A n c, .slice B m d] w _
  by_cases hnm : n = m
  · subst hnm
    go_enter Tryz.func21, Tryz.ntmps21
    go_wp2
    go_loopw [5] (fun i wr => ∃ j : Nat, i = .int .i64 (j : Int) ∧ j ≤ n ∧ Hid (eqLto OpW.v xs ys j) ∧ Below w.heap.size w wr) (fun i _ => n - (intOf i).toNat)
    case atStart => exact ⟨0, rfl, Nat.zero_le _, hide (eqLto_zero _ _ _), Below.refl _ _⟩
    case round =>
      obtain ⟨j, rfl, hj, HE, hb⟩ := hrel
      have HB := hide hb
      clear hb
      by_cases hlt : j < n
      · obtain ⟨p, hp⟩ := HX.out.get hlt
        obtain ⟨q, hq⟩ := HY.out.get hlt
        obtain ⟨g, o, hA, hg, h1, c0⟩ := HX.out.at_ hp
        obtain ⟨g', o', hA', hg', h2, d0⟩ := HY.out.at_ hq
        simp only [] at hA hA'
        subst hA
        subst hA'
        have hlt' : (j : Int) < (n : Int) := by omega
        have HP := hide hp
        have HQ := hide hq
        have hpp := hide h1.pl
        have hqp := hide h2.pl
        clear hp hq h1 h2
        obtain ⟨k, ⟨l, A, r, e, ps⟩, z⟩ := p
        obtain ⟨k', ⟨l', A', r', e', ps'⟩, z'⟩ := q
        have hs := hide fun (w' : World) (h : Below w.heap.size w w') => (show w'.cell? ⟨g, o + j * 4, none⟩ = some (.int .i64 k) ∧ w'.cell? ⟨g, o + j * 4 + 1, none⟩ = some (.int .i64 l) ∧ w'.cell? ⟨g, o + j * 4 + 2, none⟩ = some (.slice A r e) ∧ w'.cell? ⟨g, o + j * 4 + 3, none⟩ = some (.int .i64 z)
          ∧ w'.cell? ⟨g', o' + j * 4, none⟩ = some (.int .i64 k') ∧ w'.cell? ⟨g', o' + j * 4 + 1, none⟩ = some (.int .i64 l') ∧ w'.cell? ⟨g', o' + j * 4 + 2, none⟩ = some (.slice A' r' e') ∧ w'.cell? ⟨g', o' + j * 4 + 3, none⟩ = some (.int .i64 z')
          from ⟨(h.cell hg).trans (c0 0 _ rfl), (h.cell hg).trans (c0 1 _ rfl), (h.cell hg).trans (c0 2 _ rfl), (h.cell hg).trans (c0 3 _ rfl), (h.cell hg').trans (d0 0 _ rfl), (h.cell hg').trans (d0 1 _ rfl), (h.cell hg').trans (d0 2 _ rfl), (h.cell hg').trans (d0 3 _ rfl)⟩)
        clear c0 d0
        obtain ⟨a0, a1, a2, a3, b0, b1, b2, b3⟩ := hs.out wr HB.out
        by_cases hk : k = k'
        · subst hk
          by_cases hz : z = z'
          · subst hz
            obtain ⟨v, hv⟩ : ∃ v, eqPl ⟨l, A, r, e, ps⟩ ⟨l', A', r', e', ps'⟩ = v := ⟨_, rfl⟩
            have HV := hide hv
            clear a0 a1 a2 a3 b0 b1 b2 b3
            cases v
            · have HF := hide (eqL_no (f := OpW.v) HP.out HQ.out (fun h => by
                have := plV_eq.1 (congrArg OpV.pl h)
                simp only [] at this
                rw [HV.out] at this
                cases this))
              clear hv
              go_wp2
              go_region_held3 (fun w' => Below w.heap.size w w' ∧ w'.cell? ⟨g, o + j * 4, none⟩ = some (.int .i64 k) ∧ w'.cell? ⟨g, o + j * 4 + 1, none⟩ = some (.int .i64 l) ∧ w'.cell? ⟨g, o + j * 4 + 2, none⟩ = some (.slice A r e) ∧ w'.cell? ⟨g, o + j * 4 + 3, none⟩ = some (.int .i64 z) ∧ w'.cell? ⟨g', o' + j * 4, none⟩ = some (.int .i64 k) ∧ w'.cell? ⟨g', o' + j * 4 + 1, none⟩ = some (.int .i64 l') ∧ w'.cell? ⟨g', o' + j * 4 + 2, none⟩ = some (.slice A' r' e') ∧ w'.cell? ⟨g', o' + j * 4 + 3, none⟩ = some (.int .i64 z))
                (first | exact ⟨by assumption, hs.out _ (by assumption)⟩ | exact ⟨HB.out, hs.out _ HB.out⟩ | exact ⟨HB.out.drew, hs.out _ HB.out.drew⟩)
                (first | (go_at_call 55; go_split_ands; refine (REqualP_is HV.out _ (hpp.out.up (by assumption)) (hqp.out.up (by assumption))).mono ?_; rintro x9 w1 ⟨rfl, hb0⟩; have hb1 := Below.trans (by assumption : Below w.heap.size w _) (hb0.mono (Below.size (by assumption : Below w.heap.size w _)))))
              all_goals
                go_split_ands
                go_wp2
                go_ret
                exact ⟨congrArg (fun v => Ending.returned (.bool v)) HF.out.symm, by assumption⟩
            · have HE2 := hide (eqLto_up (f := OpW.v) HE.out HP.out HQ.out (by
                have := plV_eq.2 HV.out
                unfold OpW.v
                simp only [] at this ⊢
                rw [this]))
              clear hv
              go_wp2
              go_region_held3 (fun w' => Below w.heap.size w w' ∧ w'.cell? ⟨g, o + j * 4, none⟩ = some (.int .i64 k) ∧ w'.cell? ⟨g, o + j * 4 + 1, none⟩ = some (.int .i64 l) ∧ w'.cell? ⟨g, o + j * 4 + 2, none⟩ = some (.slice A r e) ∧ w'.cell? ⟨g, o + j * 4 + 3, none⟩ = some (.int .i64 z) ∧ w'.cell? ⟨g', o' + j * 4, none⟩ = some (.int .i64 k) ∧ w'.cell? ⟨g', o' + j * 4 + 1, none⟩ = some (.int .i64 l') ∧ w'.cell? ⟨g', o' + j * 4 + 2, none⟩ = some (.slice A' r' e') ∧ w'.cell? ⟨g', o' + j * 4 + 3, none⟩ = some (.int .i64 z))
                (first | exact ⟨by assumption, hs.out _ (by assumption)⟩ | exact ⟨HB.out, hs.out _ HB.out⟩ | exact ⟨HB.out.drew, hs.out _ HB.out.drew⟩)
                (first | (go_at_call 55; go_split_ands; refine (REqualP_is HV.out _ (hpp.out.up (by assumption)) (hqp.out.up (by assumption))).mono ?_; rintro x9 w1 ⟨rfl, hb0⟩; have hb1 := Below.trans (by assumption : Below w.heap.size w _) (hb0.mono (Below.size (by assumption : Below w.heap.size w _)))))
              all_goals
                go_split_ands
                go_wp2
                go_roundw
                case rel => exact ⟨j + 1, by go_num, by omega, HE2, by assumption⟩
                case measure => simp [intOf]; omega
          · have HF := hide (eqL_no (f := OpW.v) HP.out HQ.out (fun h => hz (congrArg OpV.n h)))
            have t1 : (z != z') = true := by rw [bne_iff_ne]; exact hz
            clear hz hs
            go_wp2
            go_quiet (fail)
            go_wp2
            go_ret
            exact ⟨congrArg (fun v => Ending.returned (.bool v)) HF.out.symm, tyN HB.out _⟩
        · have HF := hide (eqL_no (f := OpW.v) HP.out HQ.out (fun h => hk (congrArg OpV.kind h)))
          have t1 : (k != k') = true := by rw [bne_iff_ne]; exact hk
          clear hk hs
          go_wp2
          go_quiet (fail)
          go_wp2
          go_ret
          exact ⟨congrArg (fun v => Ending.returned (.bool v)) HF.out.symm, tyN HB.out _⟩
      · obtain rfl : j = n := by omega
        have HF := hide (eqL_yes HE.out HXL.out HYL.out)
        go_wp2
        go_ret
        exact ⟨congrArg (fun v => Ending.returned (.bool v)) HF.out.symm, HB.out⟩
  · have e1 : ((n : Int) != (m : Int)) = true := by simp; omega
    have HF := hide (eqL_len (f := OpW.v) HXL.out HYL.out hnm)
    go_enter Tryz.func21, Tryz.ntmps21
    go_wp2
    go_ret
    exact ⟨congrArg (fun v => Ending.returned (.bool v)) HF.out.symm, Below.refl _ _⟩
theorem RSameOperands_is {s t : SlW OpW} {v : Bool} (h : eqOps s t = v) (w : World) (hs : Ops w w.heap.size s) (ht : Ops w w.heap.size t) :
    Calls Tryz.prog 21 #[s.val, t.val] w fun e w' => e = .returned (.bool v) ∧ Below w.heap.size w w' := h ▸ RSameOperands_any s t w hs ht
end Go.Proofs.YtbdimnncobpfdaaGreat

/- The reference's comparison of statements. -/
set_option linter.unusedVariables false
namespace Go.Proofs.YtbdimnncobpfdaaGreat
open Go.RowKit

/-- the world with both statements and their rvalues in blocks -/
def st4 (w : World) (x y : StW) : World := (((w.alloc (.cells #[.int .i64 x.kind, .int .i64 x.pl.l, .slice x.pl.A x.pl.n x.pl.c, .int .i64 x.rv.kind, .int .i64 x.rv.op, .int .i64 x.rv.region, .bool x.rv.mut_, .int .i64 x.rv.pl.l, .slice x.rv.pl.A x.rv.pl.n x.rv.pl.c, .slice x.rv.args.A x.rv.args.n x.rv.args.c, .int .i64 x.loc] 58)).alloc
  (.cells #[.int .i64 y.kind, .int .i64 y.pl.l, .slice y.pl.A y.pl.n y.pl.c, .int .i64 y.rv.kind, .int .i64 y.rv.op, .int .i64 y.rv.region, .bool y.rv.mut_, .int .i64 y.rv.pl.l, .slice y.rv.pl.A y.rv.pl.n y.rv.pl.c, .slice y.rv.args.A y.rv.args.n y.rv.args.c, .int .i64 y.loc] 58)).alloc
  (.cells #[.int .i64 x.rv.kind, .int .i64 x.rv.op, .int .i64 x.rv.region, .bool x.rv.mut_, .int .i64 x.rv.pl.l, .slice x.rv.pl.A x.rv.pl.n x.rv.pl.c, .slice x.rv.args.A x.rv.args.n x.rv.args.c] 56)).alloc
  (.cells #[.int .i64 y.rv.kind, .int .i64 y.rv.op, .int .i64 y.rv.region, .bool y.rv.mut_, .int .i64 y.rv.pl.l, .slice y.rv.pl.A y.rv.pl.n y.rv.pl.c, .slice y.rv.args.A y.rv.args.n y.rv.args.c] 56)
theorem st4_size (w : World) (x y : StW) : (st4 w x y).heap.size = w.heap.size + 4 := by simp [st4]
theorem st4_below (w : World) (x y : StW) : Below w.heap.size w (st4 w x y) := ((((Below.refl _ w).alloc (Nat.le_refl _) _).alloc (by simp) _).alloc (by simp; omega) _).alloc (by simp; omega) _
theorem st4_cells {w w' : World} {x y : StW} (h : Below (st4 w x y).heap.size (st4 w x y) w') : ∀ j u v, (cRv x.rv)[j]? = some u → (cRv y.rv)[j]? = some v → w'.cell? ⟨w.heap.size + 1 + 1, j, none⟩ = some u ∧ w'.cell? ⟨w.heap.size + 1 + 1 + 1, j, none⟩ = some v := by
  have hs := st4_size w x y
  intro j u v hu hv
  refine ⟨(h.cell (show w.heap.size + 1 + 1 < (st4 w x y).heap.size by omega)).trans ?_, (h.cell (show w.heap.size + 1 + 1 + 1 < (st4 w x y).heap.size by omega)).trans ?_⟩
  · unfold st4
    simp only [cRv] at hu
    rw [← hu]
    rcases j with _ | _ | _ | _ | _ | _ | _ | j <;> simp [go_sem]
  · unfold st4
    simp only [cRv] at hv
    rw [← hv]
    rcases j with _ | _ | _ | _ | _ | _ | _ | j <;> simp [go_sem]

theorem stV_eq {x y : StW} : x.v = y.v ↔ x.kind = y.kind ∧ x.loc = y.loc ∧ eqPl x.pl y.pl = true ∧ x.rv.kind = y.rv.kind ∧ x.rv.op = y.rv.op ∧ x.rv.region = y.rv.region ∧ x.rv.mut_ = y.rv.mut_ ∧ eqPl x.rv.pl y.rv.pl = true ∧ eqOps x.rv.args y.rv.args = true := by
  rw [← plV_eq, ← plV_eq, eqOps, eqL_iff]
  obtain ⟨k, pl, ⟨rk, ro, rr, rm, rp, ra⟩, lo⟩ := x
  obtain ⟨k', pl', ⟨rk', ro', rr', rm', rp', ra'⟩, lo'⟩ := y
  simp only [StW.v, RvW.v, StV.mk.injEq, RvV.mk.injEq]
  constructor
  · rintro ⟨h1, h2, ⟨h3, h4, h5, h6, h7, h8⟩, h9⟩
    exact ⟨h1, h9, h2, h3, h4, h5, h6, h7, h8⟩
  · rintro ⟨h1, h9, h2, h3, h4, h5, h6, h7, h8⟩
    exact ⟨h1, h2, ⟨h3, h4, h5, h6, h7, h8⟩, h9⟩
def eqSt (x y : StW) : Bool := decide (x.v = y.v)


set_option maxHeartbeats 2000000 in
set_option maxRecDepth 100000 in
theorem sameSt0 (k lo rk ro rr k' lo' rk' ro' rr' : Int) (rm rm' : Bool) (l : Int) (A : Option Addr) (n c : Nat) (ps : List Pr) (rl : Int) (rA : Option Addr) (rn rc : Nat) (rps : List Pr) (gA : Option Addr) (gn gc : Nat) (gL : List OpW) (l' : Int) (A' : Option Addr) (n' c' : Nat) (ps' : List Pr) (rl' : Int) (rA' : Option Addr) (rn' rc' : Nat) (rps' : List Pr) (gA' : Option Addr) (gn' gc' : Nat) (gL' : List OpW) (t : (k == k') = false)
    (w : World) (hx : OneSt w w.heap.size ⟨k, ⟨l, A, n, c, ps⟩, ⟨rk, ro, rr, rm, ⟨rl, rA, rn, rc, rps⟩, ⟨gA, gn, gc, gL⟩⟩, lo⟩) (hy : OneSt w w.heap.size ⟨k', ⟨l', A', n', c', ps'⟩, ⟨rk', ro', rr', rm', ⟨rl', rA', rn', rc', rps'⟩, ⟨gA', gn', gc', gL'⟩⟩, lo'⟩) :
    Calls Tryz.prog 77 #[aggSt ⟨k, ⟨l, A, n, c, ps⟩, ⟨rk, ro, rr, rm, ⟨rl, rA, rn, rc, rps⟩, ⟨gA, gn, gc, gL⟩⟩, lo⟩, aggSt ⟨k', ⟨l', A', n', c', ps'⟩, ⟨rk', ro', rr', rm', ⟨rl', rA', rn', rc', rps'⟩, ⟨gA', gn', gc', gL'⟩⟩, lo'⟩] w fun e w' => e = .returned (.bool false) ∧ Below w.heap.size w w' := by
  have HB := hide (st4_below w ⟨k, ⟨l, A, n, c, ps⟩, ⟨rk, ro, rr, rm, ⟨rl, rA, rn, rc, rps⟩, ⟨gA, gn, gc, gL⟩⟩, lo⟩ ⟨k', ⟨l', A', n', c', ps'⟩, ⟨rk', ro', rr', rm', ⟨rl', rA', rn', rc', rps'⟩, ⟨gA', gn', gc', gL'⟩⟩, lo'⟩)
  have HX := hide (hx.up HB.out)
  have HY := hide (hy.up HB.out)
  have hs := hide fun (w' : World) (h : Below (st4 w ⟨k, ⟨l, A, n, c, ps⟩, ⟨rk, ro, rr, rm, ⟨rl, rA, rn, rc, rps⟩, ⟨gA, gn, gc, gL⟩⟩, lo⟩ ⟨k', ⟨l', A', n', c', ps'⟩, ⟨rk', ro', rr', rm', ⟨rl', rA', rn', rc', rps'⟩, ⟨gA', gn', gc', gL'⟩⟩, lo'⟩).heap.size (st4 w ⟨k, ⟨l, A, n, c, ps⟩, ⟨rk, ro, rr, rm, ⟨rl, rA, rn, rc, rps⟩, ⟨gA, gn, gc, gL⟩⟩, lo⟩ ⟨k', ⟨l', A', n', c', ps'⟩, ⟨rk', ro', rr', rm', ⟨rl', rA', rn', rc', rps'⟩, ⟨gA', gn', gc', gL'⟩⟩, lo'⟩) w') => st4_cells h
  clear hx hy
  go_enter Tryz.func77, Tryz.ntmps77
  go_wp2
  go_ret
  exact ⟨rfl, HB.out⟩


set_option maxHeartbeats 2000000 in
set_option maxRecDepth 100000 in
theorem sameSt1 (k lo rk ro rr lo' rk' ro' rr' : Int) (rm rm' : Bool) (l : Int) (A : Option Addr) (n c : Nat) (ps : List Pr) (rl : Int) (rA : Option Addr) (rn rc : Nat) (rps : List Pr) (gA : Option Addr) (gn gc : Nat) (gL : List OpW) (l' : Int) (A' : Option Addr) (n' c' : Nat) (ps' : List Pr) (rl' : Int) (rA' : Option Addr) (rn' rc' : Nat) (rps' : List Pr) (gA' : Option Addr) (gn' gc' : Nat) (gL' : List OpW) (t : (lo == lo') = false)
    (w : World) (hx : OneSt w w.heap.size ⟨k, ⟨l, A, n, c, ps⟩, ⟨rk, ro, rr, rm, ⟨rl, rA, rn, rc, rps⟩, ⟨gA, gn, gc, gL⟩⟩, lo⟩) (hy : OneSt w w.heap.size ⟨k, ⟨l', A', n', c', ps'⟩, ⟨rk', ro', rr', rm', ⟨rl', rA', rn', rc', rps'⟩, ⟨gA', gn', gc', gL'⟩⟩, lo'⟩) :
    Calls Tryz.prog 77 #[aggSt ⟨k, ⟨l, A, n, c, ps⟩, ⟨rk, ro, rr, rm, ⟨rl, rA, rn, rc, rps⟩, ⟨gA, gn, gc, gL⟩⟩, lo⟩, aggSt ⟨k, ⟨l', A', n', c', ps'⟩, ⟨rk', ro', rr', rm', ⟨rl', rA', rn', rc', rps'⟩, ⟨gA', gn', gc', gL'⟩⟩, lo'⟩] w fun e w' => e = .returned (.bool false) ∧ Below w.heap.size w w' := by
  have HB := hide (st4_below w ⟨k, ⟨l, A, n, c, ps⟩, ⟨rk, ro, rr, rm, ⟨rl, rA, rn, rc, rps⟩, ⟨gA, gn, gc, gL⟩⟩, lo⟩ ⟨k, ⟨l', A', n', c', ps'⟩, ⟨rk', ro', rr', rm', ⟨rl', rA', rn', rc', rps'⟩, ⟨gA', gn', gc', gL'⟩⟩, lo'⟩)
  have HX := hide (hx.up HB.out)
  have HY := hide (hy.up HB.out)
  have hs := hide fun (w' : World) (h : Below (st4 w ⟨k, ⟨l, A, n, c, ps⟩, ⟨rk, ro, rr, rm, ⟨rl, rA, rn, rc, rps⟩, ⟨gA, gn, gc, gL⟩⟩, lo⟩ ⟨k, ⟨l', A', n', c', ps'⟩, ⟨rk', ro', rr', rm', ⟨rl', rA', rn', rc', rps'⟩, ⟨gA', gn', gc', gL'⟩⟩, lo'⟩).heap.size (st4 w ⟨k, ⟨l, A, n, c, ps⟩, ⟨rk, ro, rr, rm, ⟨rl, rA, rn, rc, rps⟩, ⟨gA, gn, gc, gL⟩⟩, lo⟩ ⟨k, ⟨l', A', n', c', ps'⟩, ⟨rk', ro', rr', rm', ⟨rl', rA', rn', rc', rps'⟩, ⟨gA', gn', gc', gL'⟩⟩, lo'⟩) w') => st4_cells h
  clear hx hy
  go_enter Tryz.func77, Tryz.ntmps77
  go_wp2
  go_ret
  exact ⟨rfl, HB.out⟩


set_option maxHeartbeats 2000000 in
set_option maxRecDepth 100000 in
theorem sameSt2 (k lo rk ro rr rk' ro' rr' : Int) (rm rm' : Bool) (l : Int) (A : Option Addr) (n c : Nat) (ps : List Pr) (rl : Int) (rA : Option Addr) (rn rc : Nat) (rps : List Pr) (gA : Option Addr) (gn gc : Nat) (gL : List OpW) (l' : Int) (A' : Option Addr) (n' c' : Nat) (ps' : List Pr) (rl' : Int) (rA' : Option Addr) (rn' rc' : Nat) (rps' : List Pr) (gA' : Option Addr) (gn' gc' : Nat) (gL' : List OpW) (h2 : eqPl ⟨l, A, n, c, ps⟩ ⟨l', A', n', c', ps'⟩ = false)
    (w : World) (hx : OneSt w w.heap.size ⟨k, ⟨l, A, n, c, ps⟩, ⟨rk, ro, rr, rm, ⟨rl, rA, rn, rc, rps⟩, ⟨gA, gn, gc, gL⟩⟩, lo⟩) (hy : OneSt w w.heap.size ⟨k, ⟨l', A', n', c', ps'⟩, ⟨rk', ro', rr', rm', ⟨rl', rA', rn', rc', rps'⟩, ⟨gA', gn', gc', gL'⟩⟩, lo⟩) :
    Calls Tryz.prog 77 #[aggSt ⟨k, ⟨l, A, n, c, ps⟩, ⟨rk, ro, rr, rm, ⟨rl, rA, rn, rc, rps⟩, ⟨gA, gn, gc, gL⟩⟩, lo⟩, aggSt ⟨k, ⟨l', A', n', c', ps'⟩, ⟨rk', ro', rr', rm', ⟨rl', rA', rn', rc', rps'⟩, ⟨gA', gn', gc', gL'⟩⟩, lo⟩] w fun e w' => e = .returned (.bool false) ∧ Below w.heap.size w w' := by
  have HB := hide (st4_below w ⟨k, ⟨l, A, n, c, ps⟩, ⟨rk, ro, rr, rm, ⟨rl, rA, rn, rc, rps⟩, ⟨gA, gn, gc, gL⟩⟩, lo⟩ ⟨k, ⟨l', A', n', c', ps'⟩, ⟨rk', ro', rr', rm', ⟨rl', rA', rn', rc', rps'⟩, ⟨gA', gn', gc', gL'⟩⟩, lo⟩)
  have HX := hide (hx.up HB.out)
  have HY := hide (hy.up HB.out)
  have hs := hide fun (w' : World) (h : Below (st4 w ⟨k, ⟨l, A, n, c, ps⟩, ⟨rk, ro, rr, rm, ⟨rl, rA, rn, rc, rps⟩, ⟨gA, gn, gc, gL⟩⟩, lo⟩ ⟨k, ⟨l', A', n', c', ps'⟩, ⟨rk', ro', rr', rm', ⟨rl', rA', rn', rc', rps'⟩, ⟨gA', gn', gc', gL'⟩⟩, lo⟩).heap.size (st4 w ⟨k, ⟨l, A, n, c, ps⟩, ⟨rk, ro, rr, rm, ⟨rl, rA, rn, rc, rps⟩, ⟨gA, gn, gc, gL⟩⟩, lo⟩ ⟨k, ⟨l', A', n', c', ps'⟩, ⟨rk', ro', rr', rm', ⟨rl', rA', rn', rc', rps'⟩, ⟨gA', gn', gc', gL'⟩⟩, lo⟩) w') => st4_cells h
  have H2 := hide h2
  clear h2
  clear hx hy
  go_enter Tryz.func77, Tryz.ntmps77
  go_wp2_with fail
  refine (REqualP_is H2.out _ HX.out.pl HY.out.pl).mono ?_
  rintro e w1 ⟨rfl, hb⟩
  have HB1 := hide (hb.mono (Nat.le_refl _))
  clear hb
  go_wp2
  go_ret
  exact ⟨rfl, HB.out.trans (HB1.out.mono HB.out.size)⟩


set_option maxHeartbeats 2000000 in
set_option maxRecDepth 100000 in
theorem sameSt3 (k lo rk ro rr rk' ro' rr' : Int) (rm rm' : Bool) (l : Int) (A : Option Addr) (n c : Nat) (ps : List Pr) (rl : Int) (rA : Option Addr) (rn rc : Nat) (rps : List Pr) (gA : Option Addr) (gn gc : Nat) (gL : List OpW) (l' : Int) (A' : Option Addr) (n' c' : Nat) (ps' : List Pr) (rl' : Int) (rA' : Option Addr) (rn' rc' : Nat) (rps' : List Pr) (gA' : Option Addr) (gn' gc' : Nat) (gL' : List OpW) (h2 : eqPl ⟨l, A, n, c, ps⟩ ⟨l', A', n', c', ps'⟩ = true) (t : (rk == rk') = false)
    (w : World) (hx : OneSt w w.heap.size ⟨k, ⟨l, A, n, c, ps⟩, ⟨rk, ro, rr, rm, ⟨rl, rA, rn, rc, rps⟩, ⟨gA, gn, gc, gL⟩⟩, lo⟩) (hy : OneSt w w.heap.size ⟨k, ⟨l', A', n', c', ps'⟩, ⟨rk', ro', rr', rm', ⟨rl', rA', rn', rc', rps'⟩, ⟨gA', gn', gc', gL'⟩⟩, lo⟩) :
    Calls Tryz.prog 77 #[aggSt ⟨k, ⟨l, A, n, c, ps⟩, ⟨rk, ro, rr, rm, ⟨rl, rA, rn, rc, rps⟩, ⟨gA, gn, gc, gL⟩⟩, lo⟩, aggSt ⟨k, ⟨l', A', n', c', ps'⟩, ⟨rk', ro', rr', rm', ⟨rl', rA', rn', rc', rps'⟩, ⟨gA', gn', gc', gL'⟩⟩, lo⟩] w fun e w' => e = .returned (.bool false) ∧ Below w.heap.size w w' := by
  have HB := hide (st4_below w ⟨k, ⟨l, A, n, c, ps⟩, ⟨rk, ro, rr, rm, ⟨rl, rA, rn, rc, rps⟩, ⟨gA, gn, gc, gL⟩⟩, lo⟩ ⟨k, ⟨l', A', n', c', ps'⟩, ⟨rk', ro', rr', rm', ⟨rl', rA', rn', rc', rps'⟩, ⟨gA', gn', gc', gL'⟩⟩, lo⟩)
  have HX := hide (hx.up HB.out)
  have HY := hide (hy.up HB.out)
  have hs := hide fun (w' : World) (h : Below (st4 w ⟨k, ⟨l, A, n, c, ps⟩, ⟨rk, ro, rr, rm, ⟨rl, rA, rn, rc, rps⟩, ⟨gA, gn, gc, gL⟩⟩, lo⟩ ⟨k, ⟨l', A', n', c', ps'⟩, ⟨rk', ro', rr', rm', ⟨rl', rA', rn', rc', rps'⟩, ⟨gA', gn', gc', gL'⟩⟩, lo⟩).heap.size (st4 w ⟨k, ⟨l, A, n, c, ps⟩, ⟨rk, ro, rr, rm, ⟨rl, rA, rn, rc, rps⟩, ⟨gA, gn, gc, gL⟩⟩, lo⟩ ⟨k, ⟨l', A', n', c', ps'⟩, ⟨rk', ro', rr', rm', ⟨rl', rA', rn', rc', rps'⟩, ⟨gA', gn', gc', gL'⟩⟩, lo⟩) w') => st4_cells h
  have H2 := hide h2
  clear h2
  clear hx hy
  go_enter Tryz.func77, Tryz.ntmps77
  go_wp2_with fail
  refine (REqualP_is H2.out _ HX.out.pl HY.out.pl).mono ?_
  rintro e w1 ⟨rfl, hb⟩
  have HB1 := hide (hb.mono (Nat.le_refl _))
  obtain ⟨c0, d0⟩ := hs.out _ hb 0 _ _ rfl rfl
  obtain ⟨c1, d1⟩ := hs.out _ hb 1 _ _ rfl rfl
  obtain ⟨c2, d2⟩ := hs.out _ hb 2 _ _ rfl rfl
  obtain ⟨c3, d3⟩ := hs.out _ hb 3 _ _ rfl rfl
  obtain ⟨c4, d4⟩ := hs.out _ hb 4 _ _ rfl rfl
  obtain ⟨c5, d5⟩ := hs.out _ hb 5 _ _ rfl rfl
  obtain ⟨c6, d6⟩ := hs.out _ hb 6 _ _ rfl rfl
  simp only [] at c0 c1 c2 c3 c4 c5 c6 d0 d1 d2 d3 d4 d5 d6
  clear hb
  go_wp2
  go_ret
  exact ⟨rfl, HB.out.trans (HB1.out.mono HB.out.size)⟩


set_option maxHeartbeats 2000000 in
set_option maxRecDepth 100000 in
theorem sameSt4 (k lo rk ro rr ro' rr' : Int) (rm rm' : Bool) (l : Int) (A : Option Addr) (n c : Nat) (ps : List Pr) (rl : Int) (rA : Option Addr) (rn rc : Nat) (rps : List Pr) (gA : Option Addr) (gn gc : Nat) (gL : List OpW) (l' : Int) (A' : Option Addr) (n' c' : Nat) (ps' : List Pr) (rl' : Int) (rA' : Option Addr) (rn' rc' : Nat) (rps' : List Pr) (gA' : Option Addr) (gn' gc' : Nat) (gL' : List OpW) (h2 : eqPl ⟨l, A, n, c, ps⟩ ⟨l', A', n', c', ps'⟩ = true) (t : (ro == ro') = false)
    (w : World) (hx : OneSt w w.heap.size ⟨k, ⟨l, A, n, c, ps⟩, ⟨rk, ro, rr, rm, ⟨rl, rA, rn, rc, rps⟩, ⟨gA, gn, gc, gL⟩⟩, lo⟩) (hy : OneSt w w.heap.size ⟨k, ⟨l', A', n', c', ps'⟩, ⟨rk, ro', rr', rm', ⟨rl', rA', rn', rc', rps'⟩, ⟨gA', gn', gc', gL'⟩⟩, lo⟩) :
    Calls Tryz.prog 77 #[aggSt ⟨k, ⟨l, A, n, c, ps⟩, ⟨rk, ro, rr, rm, ⟨rl, rA, rn, rc, rps⟩, ⟨gA, gn, gc, gL⟩⟩, lo⟩, aggSt ⟨k, ⟨l', A', n', c', ps'⟩, ⟨rk, ro', rr', rm', ⟨rl', rA', rn', rc', rps'⟩, ⟨gA', gn', gc', gL'⟩⟩, lo⟩] w fun e w' => e = .returned (.bool false) ∧ Below w.heap.size w w' := by
  have HB := hide (st4_below w ⟨k, ⟨l, A, n, c, ps⟩, ⟨rk, ro, rr, rm, ⟨rl, rA, rn, rc, rps⟩, ⟨gA, gn, gc, gL⟩⟩, lo⟩ ⟨k, ⟨l', A', n', c', ps'⟩, ⟨rk, ro', rr', rm', ⟨rl', rA', rn', rc', rps'⟩, ⟨gA', gn', gc', gL'⟩⟩, lo⟩)
  have HX := hide (hx.up HB.out)
  have HY := hide (hy.up HB.out)
  have hs := hide fun (w' : World) (h : Below (st4 w ⟨k, ⟨l, A, n, c, ps⟩, ⟨rk, ro, rr, rm, ⟨rl, rA, rn, rc, rps⟩, ⟨gA, gn, gc, gL⟩⟩, lo⟩ ⟨k, ⟨l', A', n', c', ps'⟩, ⟨rk, ro', rr', rm', ⟨rl', rA', rn', rc', rps'⟩, ⟨gA', gn', gc', gL'⟩⟩, lo⟩).heap.size (st4 w ⟨k, ⟨l, A, n, c, ps⟩, ⟨rk, ro, rr, rm, ⟨rl, rA, rn, rc, rps⟩, ⟨gA, gn, gc, gL⟩⟩, lo⟩ ⟨k, ⟨l', A', n', c', ps'⟩, ⟨rk, ro', rr', rm', ⟨rl', rA', rn', rc', rps'⟩, ⟨gA', gn', gc', gL'⟩⟩, lo⟩) w') => st4_cells h
  have H2 := hide h2
  clear h2
  clear hx hy
  go_enter Tryz.func77, Tryz.ntmps77
  go_wp2_with fail
  refine (REqualP_is H2.out _ HX.out.pl HY.out.pl).mono ?_
  rintro e w1 ⟨rfl, hb⟩
  have HB1 := hide (hb.mono (Nat.le_refl _))
  obtain ⟨c0, d0⟩ := hs.out _ hb 0 _ _ rfl rfl
  obtain ⟨c1, d1⟩ := hs.out _ hb 1 _ _ rfl rfl
  obtain ⟨c2, d2⟩ := hs.out _ hb 2 _ _ rfl rfl
  obtain ⟨c3, d3⟩ := hs.out _ hb 3 _ _ rfl rfl
  obtain ⟨c4, d4⟩ := hs.out _ hb 4 _ _ rfl rfl
  obtain ⟨c5, d5⟩ := hs.out _ hb 5 _ _ rfl rfl
  obtain ⟨c6, d6⟩ := hs.out _ hb 6 _ _ rfl rfl
  simp only [] at c0 c1 c2 c3 c4 c5 c6 d0 d1 d2 d3 d4 d5 d6
  clear hb
  go_wp2
  go_ret
  exact ⟨rfl, HB.out.trans (HB1.out.mono HB.out.size)⟩


set_option maxHeartbeats 2000000 in
set_option maxRecDepth 100000 in
theorem sameSt5 (k lo rk ro rr rr' : Int) (rm rm' : Bool) (l : Int) (A : Option Addr) (n c : Nat) (ps : List Pr) (rl : Int) (rA : Option Addr) (rn rc : Nat) (rps : List Pr) (gA : Option Addr) (gn gc : Nat) (gL : List OpW) (l' : Int) (A' : Option Addr) (n' c' : Nat) (ps' : List Pr) (rl' : Int) (rA' : Option Addr) (rn' rc' : Nat) (rps' : List Pr) (gA' : Option Addr) (gn' gc' : Nat) (gL' : List OpW) (h2 : eqPl ⟨l, A, n, c, ps⟩ ⟨l', A', n', c', ps'⟩ = true) (t : (rr == rr') = false)
    (w : World) (hx : OneSt w w.heap.size ⟨k, ⟨l, A, n, c, ps⟩, ⟨rk, ro, rr, rm, ⟨rl, rA, rn, rc, rps⟩, ⟨gA, gn, gc, gL⟩⟩, lo⟩) (hy : OneSt w w.heap.size ⟨k, ⟨l', A', n', c', ps'⟩, ⟨rk, ro, rr', rm', ⟨rl', rA', rn', rc', rps'⟩, ⟨gA', gn', gc', gL'⟩⟩, lo⟩) :
    Calls Tryz.prog 77 #[aggSt ⟨k, ⟨l, A, n, c, ps⟩, ⟨rk, ro, rr, rm, ⟨rl, rA, rn, rc, rps⟩, ⟨gA, gn, gc, gL⟩⟩, lo⟩, aggSt ⟨k, ⟨l', A', n', c', ps'⟩, ⟨rk, ro, rr', rm', ⟨rl', rA', rn', rc', rps'⟩, ⟨gA', gn', gc', gL'⟩⟩, lo⟩] w fun e w' => e = .returned (.bool false) ∧ Below w.heap.size w w' := by
  have HB := hide (st4_below w ⟨k, ⟨l, A, n, c, ps⟩, ⟨rk, ro, rr, rm, ⟨rl, rA, rn, rc, rps⟩, ⟨gA, gn, gc, gL⟩⟩, lo⟩ ⟨k, ⟨l', A', n', c', ps'⟩, ⟨rk, ro, rr', rm', ⟨rl', rA', rn', rc', rps'⟩, ⟨gA', gn', gc', gL'⟩⟩, lo⟩)
  have HX := hide (hx.up HB.out)
  have HY := hide (hy.up HB.out)
  have hs := hide fun (w' : World) (h : Below (st4 w ⟨k, ⟨l, A, n, c, ps⟩, ⟨rk, ro, rr, rm, ⟨rl, rA, rn, rc, rps⟩, ⟨gA, gn, gc, gL⟩⟩, lo⟩ ⟨k, ⟨l', A', n', c', ps'⟩, ⟨rk, ro, rr', rm', ⟨rl', rA', rn', rc', rps'⟩, ⟨gA', gn', gc', gL'⟩⟩, lo⟩).heap.size (st4 w ⟨k, ⟨l, A, n, c, ps⟩, ⟨rk, ro, rr, rm, ⟨rl, rA, rn, rc, rps⟩, ⟨gA, gn, gc, gL⟩⟩, lo⟩ ⟨k, ⟨l', A', n', c', ps'⟩, ⟨rk, ro, rr', rm', ⟨rl', rA', rn', rc', rps'⟩, ⟨gA', gn', gc', gL'⟩⟩, lo⟩) w') => st4_cells h
  have H2 := hide h2
  clear h2
  clear hx hy
  go_enter Tryz.func77, Tryz.ntmps77
  go_wp2_with fail
  refine (REqualP_is H2.out _ HX.out.pl HY.out.pl).mono ?_
  rintro e w1 ⟨rfl, hb⟩
  have HB1 := hide (hb.mono (Nat.le_refl _))
  obtain ⟨c0, d0⟩ := hs.out _ hb 0 _ _ rfl rfl
  obtain ⟨c1, d1⟩ := hs.out _ hb 1 _ _ rfl rfl
  obtain ⟨c2, d2⟩ := hs.out _ hb 2 _ _ rfl rfl
  obtain ⟨c3, d3⟩ := hs.out _ hb 3 _ _ rfl rfl
  obtain ⟨c4, d4⟩ := hs.out _ hb 4 _ _ rfl rfl
  obtain ⟨c5, d5⟩ := hs.out _ hb 5 _ _ rfl rfl
  obtain ⟨c6, d6⟩ := hs.out _ hb 6 _ _ rfl rfl
  simp only [] at c0 c1 c2 c3 c4 c5 c6 d0 d1 d2 d3 d4 d5 d6
  clear hb
  go_wp2
  go_ret
  exact ⟨rfl, HB.out.trans (HB1.out.mono HB.out.size)⟩


set_option maxHeartbeats 2000000 in
set_option maxRecDepth 100000 in
theorem sameSt6 (k lo rk ro rr : Int) (rm rm' : Bool) (l : Int) (A : Option Addr) (n c : Nat) (ps : List Pr) (rl : Int) (rA : Option Addr) (rn rc : Nat) (rps : List Pr) (gA : Option Addr) (gn gc : Nat) (gL : List OpW) (l' : Int) (A' : Option Addr) (n' c' : Nat) (ps' : List Pr) (rl' : Int) (rA' : Option Addr) (rn' rc' : Nat) (rps' : List Pr) (gA' : Option Addr) (gn' gc' : Nat) (gL' : List OpW) (h2 : eqPl ⟨l, A, n, c, ps⟩ ⟨l', A', n', c', ps'⟩ = true) (t : (rm == rm') = false)
    (w : World) (hx : OneSt w w.heap.size ⟨k, ⟨l, A, n, c, ps⟩, ⟨rk, ro, rr, rm, ⟨rl, rA, rn, rc, rps⟩, ⟨gA, gn, gc, gL⟩⟩, lo⟩) (hy : OneSt w w.heap.size ⟨k, ⟨l', A', n', c', ps'⟩, ⟨rk, ro, rr, rm', ⟨rl', rA', rn', rc', rps'⟩, ⟨gA', gn', gc', gL'⟩⟩, lo⟩) :
    Calls Tryz.prog 77 #[aggSt ⟨k, ⟨l, A, n, c, ps⟩, ⟨rk, ro, rr, rm, ⟨rl, rA, rn, rc, rps⟩, ⟨gA, gn, gc, gL⟩⟩, lo⟩, aggSt ⟨k, ⟨l', A', n', c', ps'⟩, ⟨rk, ro, rr, rm', ⟨rl', rA', rn', rc', rps'⟩, ⟨gA', gn', gc', gL'⟩⟩, lo⟩] w fun e w' => e = .returned (.bool false) ∧ Below w.heap.size w w' := by
  have HB := hide (st4_below w ⟨k, ⟨l, A, n, c, ps⟩, ⟨rk, ro, rr, rm, ⟨rl, rA, rn, rc, rps⟩, ⟨gA, gn, gc, gL⟩⟩, lo⟩ ⟨k, ⟨l', A', n', c', ps'⟩, ⟨rk, ro, rr, rm', ⟨rl', rA', rn', rc', rps'⟩, ⟨gA', gn', gc', gL'⟩⟩, lo⟩)
  have HX := hide (hx.up HB.out)
  have HY := hide (hy.up HB.out)
  have hs := hide fun (w' : World) (h : Below (st4 w ⟨k, ⟨l, A, n, c, ps⟩, ⟨rk, ro, rr, rm, ⟨rl, rA, rn, rc, rps⟩, ⟨gA, gn, gc, gL⟩⟩, lo⟩ ⟨k, ⟨l', A', n', c', ps'⟩, ⟨rk, ro, rr, rm', ⟨rl', rA', rn', rc', rps'⟩, ⟨gA', gn', gc', gL'⟩⟩, lo⟩).heap.size (st4 w ⟨k, ⟨l, A, n, c, ps⟩, ⟨rk, ro, rr, rm, ⟨rl, rA, rn, rc, rps⟩, ⟨gA, gn, gc, gL⟩⟩, lo⟩ ⟨k, ⟨l', A', n', c', ps'⟩, ⟨rk, ro, rr, rm', ⟨rl', rA', rn', rc', rps'⟩, ⟨gA', gn', gc', gL'⟩⟩, lo⟩) w') => st4_cells h
  have H2 := hide h2
  clear h2
  clear hx hy
  obtain ⟨rfl, rfl⟩ | ⟨rfl, rfl⟩ : rm = true ∧ rm' = false ∨ rm = false ∧ rm' = true := by revert t; cases rm <;> cases rm' <;> simp
  all_goals
    go_enter Tryz.func77, Tryz.ntmps77
    go_wp2_with fail
    refine (REqualP_is H2.out _ HX.out.pl HY.out.pl).mono ?_
    rintro e w1 ⟨rfl, hb⟩
    have HB1 := hide (hb.mono (Nat.le_refl _))
    obtain ⟨c0, d0⟩ := hs.out _ hb 0 _ _ rfl rfl
    obtain ⟨c1, d1⟩ := hs.out _ hb 1 _ _ rfl rfl
    obtain ⟨c2, d2⟩ := hs.out _ hb 2 _ _ rfl rfl
    obtain ⟨c3, d3⟩ := hs.out _ hb 3 _ _ rfl rfl
    obtain ⟨c4, d4⟩ := hs.out _ hb 4 _ _ rfl rfl
    obtain ⟨c5, d5⟩ := hs.out _ hb 5 _ _ rfl rfl
    obtain ⟨c6, d6⟩ := hs.out _ hb 6 _ _ rfl rfl
    simp only [] at c0 c1 c2 c3 c4 c5 c6 d0 d1 d2 d3 d4 d5 d6
    clear hb
    go_wp2
    go_ret
    exact ⟨rfl, HB.out.trans (HB1.out.mono HB.out.size)⟩


set_option maxHeartbeats 2000000 in
set_option maxRecDepth 100000 in
theorem sameSt7 (k lo rk ro rr : Int) (rm : Bool) (l : Int) (A : Option Addr) (n c : Nat) (ps : List Pr) (rl : Int) (rA : Option Addr) (rn rc : Nat) (rps : List Pr) (gA : Option Addr) (gn gc : Nat) (gL : List OpW) (l' : Int) (A' : Option Addr) (n' c' : Nat) (ps' : List Pr) (rl' : Int) (rA' : Option Addr) (rn' rc' : Nat) (rps' : List Pr) (gA' : Option Addr) (gn' gc' : Nat) (gL' : List OpW) (h2 : eqPl ⟨l, A, n, c, ps⟩ ⟨l', A', n', c', ps'⟩ = true) (h7 : eqPl ⟨rl, rA, rn, rc, rps⟩ ⟨rl', rA', rn', rc', rps'⟩ = false)
    (w : World) (hx : OneSt w w.heap.size ⟨k, ⟨l, A, n, c, ps⟩, ⟨rk, ro, rr, rm, ⟨rl, rA, rn, rc, rps⟩, ⟨gA, gn, gc, gL⟩⟩, lo⟩) (hy : OneSt w w.heap.size ⟨k, ⟨l', A', n', c', ps'⟩, ⟨rk, ro, rr, rm, ⟨rl', rA', rn', rc', rps'⟩, ⟨gA', gn', gc', gL'⟩⟩, lo⟩) :
    Calls Tryz.prog 77 #[aggSt ⟨k, ⟨l, A, n, c, ps⟩, ⟨rk, ro, rr, rm, ⟨rl, rA, rn, rc, rps⟩, ⟨gA, gn, gc, gL⟩⟩, lo⟩, aggSt ⟨k, ⟨l', A', n', c', ps'⟩, ⟨rk, ro, rr, rm, ⟨rl', rA', rn', rc', rps'⟩, ⟨gA', gn', gc', gL'⟩⟩, lo⟩] w fun e w' => e = .returned (.bool false) ∧ Below w.heap.size w w' := by
  have HB := hide (st4_below w ⟨k, ⟨l, A, n, c, ps⟩, ⟨rk, ro, rr, rm, ⟨rl, rA, rn, rc, rps⟩, ⟨gA, gn, gc, gL⟩⟩, lo⟩ ⟨k, ⟨l', A', n', c', ps'⟩, ⟨rk, ro, rr, rm, ⟨rl', rA', rn', rc', rps'⟩, ⟨gA', gn', gc', gL'⟩⟩, lo⟩)
  have HX := hide (hx.up HB.out)
  have HY := hide (hy.up HB.out)
  have hs := hide fun (w' : World) (h : Below (st4 w ⟨k, ⟨l, A, n, c, ps⟩, ⟨rk, ro, rr, rm, ⟨rl, rA, rn, rc, rps⟩, ⟨gA, gn, gc, gL⟩⟩, lo⟩ ⟨k, ⟨l', A', n', c', ps'⟩, ⟨rk, ro, rr, rm, ⟨rl', rA', rn', rc', rps'⟩, ⟨gA', gn', gc', gL'⟩⟩, lo⟩).heap.size (st4 w ⟨k, ⟨l, A, n, c, ps⟩, ⟨rk, ro, rr, rm, ⟨rl, rA, rn, rc, rps⟩, ⟨gA, gn, gc, gL⟩⟩, lo⟩ ⟨k, ⟨l', A', n', c', ps'⟩, ⟨rk, ro, rr, rm, ⟨rl', rA', rn', rc', rps'⟩, ⟨gA', gn', gc', gL'⟩⟩, lo⟩) w') => st4_cells h
  have H2 := hide h2
  clear h2
  have H7 := hide h7
  clear h7
  clear hx hy
  go_enter Tryz.func77, Tryz.ntmps77
  go_wp2_with fail
  refine (REqualP_is H2.out _ HX.out.pl HY.out.pl).mono ?_
  rintro e w1 ⟨rfl, hb⟩
  have HB1 := hide (hb.mono (Nat.le_refl _))
  obtain ⟨c0, d0⟩ := hs.out _ hb 0 _ _ rfl rfl
  obtain ⟨c1, d1⟩ := hs.out _ hb 1 _ _ rfl rfl
  obtain ⟨c2, d2⟩ := hs.out _ hb 2 _ _ rfl rfl
  obtain ⟨c3, d3⟩ := hs.out _ hb 3 _ _ rfl rfl
  obtain ⟨c4, d4⟩ := hs.out _ hb 4 _ _ rfl rfl
  obtain ⟨c5, d5⟩ := hs.out _ hb 5 _ _ rfl rfl
  obtain ⟨c6, d6⟩ := hs.out _ hb 6 _ _ rfl rfl
  simp only [] at c0 c1 c2 c3 c4 c5 c6 d0 d1 d2 d3 d4 d5 d6
  clear hb
  go_wp2_with fail
  refine (REqualP_is H7.out _ (HX.out.rv.pl.up HB1.out) (HY.out.rv.pl.up HB1.out)).mono ?_
  rintro e w2 ⟨rfl, hb⟩
  have HB2 := hide (HB1.out.trans (hb.mono HB1.out.size))
  clear c0 c1 c2 c3 c4 c5 c6 d0 d1 d2 d3 d4 d5 d6 hb
  go_wp2
  go_ret
  exact ⟨rfl, HB.out.trans (HB2.out.mono HB.out.size)⟩


set_option maxHeartbeats 2000000 in
set_option maxRecDepth 100000 in
theorem sameSt8 (k lo rk ro rr : Int) (rm : Bool) (l : Int) (A : Option Addr) (n c : Nat) (ps : List Pr) (rl : Int) (rA : Option Addr) (rn rc : Nat) (rps : List Pr) (gA : Option Addr) (gn gc : Nat) (gL : List OpW) (l' : Int) (A' : Option Addr) (n' c' : Nat) (ps' : List Pr) (rl' : Int) (rA' : Option Addr) (rn' rc' : Nat) (rps' : List Pr) (gA' : Option Addr) (gn' gc' : Nat) (gL' : List OpW) (h2 : eqPl ⟨l, A, n, c, ps⟩ ⟨l', A', n', c', ps'⟩ = true) (h7 : eqPl ⟨rl, rA, rn, rc, rps⟩ ⟨rl', rA', rn', rc', rps'⟩ = true) (h8 : eqOps ⟨gA, gn, gc, gL⟩ ⟨gA', gn', gc', gL'⟩ = false)
    (w : World) (hx : OneSt w w.heap.size ⟨k, ⟨l, A, n, c, ps⟩, ⟨rk, ro, rr, rm, ⟨rl, rA, rn, rc, rps⟩, ⟨gA, gn, gc, gL⟩⟩, lo⟩) (hy : OneSt w w.heap.size ⟨k, ⟨l', A', n', c', ps'⟩, ⟨rk, ro, rr, rm, ⟨rl', rA', rn', rc', rps'⟩, ⟨gA', gn', gc', gL'⟩⟩, lo⟩) :
    Calls Tryz.prog 77 #[aggSt ⟨k, ⟨l, A, n, c, ps⟩, ⟨rk, ro, rr, rm, ⟨rl, rA, rn, rc, rps⟩, ⟨gA, gn, gc, gL⟩⟩, lo⟩, aggSt ⟨k, ⟨l', A', n', c', ps'⟩, ⟨rk, ro, rr, rm, ⟨rl', rA', rn', rc', rps'⟩, ⟨gA', gn', gc', gL'⟩⟩, lo⟩] w fun e w' => e = .returned (.bool false) ∧ Below w.heap.size w w' := by
  have HB := hide (st4_below w ⟨k, ⟨l, A, n, c, ps⟩, ⟨rk, ro, rr, rm, ⟨rl, rA, rn, rc, rps⟩, ⟨gA, gn, gc, gL⟩⟩, lo⟩ ⟨k, ⟨l', A', n', c', ps'⟩, ⟨rk, ro, rr, rm, ⟨rl', rA', rn', rc', rps'⟩, ⟨gA', gn', gc', gL'⟩⟩, lo⟩)
  have HX := hide (hx.up HB.out)
  have HY := hide (hy.up HB.out)
  have hs := hide fun (w' : World) (h : Below (st4 w ⟨k, ⟨l, A, n, c, ps⟩, ⟨rk, ro, rr, rm, ⟨rl, rA, rn, rc, rps⟩, ⟨gA, gn, gc, gL⟩⟩, lo⟩ ⟨k, ⟨l', A', n', c', ps'⟩, ⟨rk, ro, rr, rm, ⟨rl', rA', rn', rc', rps'⟩, ⟨gA', gn', gc', gL'⟩⟩, lo⟩).heap.size (st4 w ⟨k, ⟨l, A, n, c, ps⟩, ⟨rk, ro, rr, rm, ⟨rl, rA, rn, rc, rps⟩, ⟨gA, gn, gc, gL⟩⟩, lo⟩ ⟨k, ⟨l', A', n', c', ps'⟩, ⟨rk, ro, rr, rm, ⟨rl', rA', rn', rc', rps'⟩, ⟨gA', gn', gc', gL'⟩⟩, lo⟩) w') => st4_cells h
  have H2 := hide h2
  clear h2
  have H7 := hide h7
  clear h7
  have H8 := hide h8
  clear h8
  clear hx hy
  go_enter Tryz.func77, Tryz.ntmps77
  go_wp2_with fail
  refine (REqualP_is H2.out _ HX.out.pl HY.out.pl).mono ?_
  rintro e w1 ⟨rfl, hb⟩
  have HB1 := hide (hb.mono (Nat.le_refl _))
  obtain ⟨c0, d0⟩ := hs.out _ hb 0 _ _ rfl rfl
  obtain ⟨c1, d1⟩ := hs.out _ hb 1 _ _ rfl rfl
  obtain ⟨c2, d2⟩ := hs.out _ hb 2 _ _ rfl rfl
  obtain ⟨c3, d3⟩ := hs.out _ hb 3 _ _ rfl rfl
  obtain ⟨c4, d4⟩ := hs.out _ hb 4 _ _ rfl rfl
  obtain ⟨c5, d5⟩ := hs.out _ hb 5 _ _ rfl rfl
  obtain ⟨c6, d6⟩ := hs.out _ hb 6 _ _ rfl rfl
  simp only [] at c0 c1 c2 c3 c4 c5 c6 d0 d1 d2 d3 d4 d5 d6
  clear hb
  go_wp2_with fail
  refine (REqualP_is H7.out _ (HX.out.rv.pl.up HB1.out) (HY.out.rv.pl.up HB1.out)).mono ?_
  rintro e w2 ⟨rfl, hb⟩
  have HB2 := hide (HB1.out.trans (hb.mono HB1.out.size))
  clear c0 c1 c2 c3 c4 c5 c6 d0 d1 d2 d3 d4 d5 d6 hb
  obtain ⟨c6, d6⟩ := hs.out _ HB2.out 6 _ _ rfl rfl
  simp only [] at c6 d6
  go_wp2_with fail
  refine (RSameOperands_is (s := ⟨gA, gn, gc, gL⟩) (t := ⟨gA', gn', gc', gL'⟩) H8.out _ (HX.out.rv.args.up HB2.out) (HY.out.rv.args.up HB2.out)).mono ?_
  rintro e w3 ⟨rfl, hb⟩
  have HB3 := hide (HB2.out.trans (hb.mono HB2.out.size))
  clear c6 d6 hb
  go_wp2
  go_ret
  exact ⟨rfl, HB.out.trans (HB3.out.mono HB.out.size)⟩


set_option maxHeartbeats 2000000 in
set_option maxRecDepth 100000 in
theorem sameSt9 (k lo rk ro rr : Int) (rm : Bool) (l : Int) (A : Option Addr) (n c : Nat) (ps : List Pr) (rl : Int) (rA : Option Addr) (rn rc : Nat) (rps : List Pr) (gA : Option Addr) (gn gc : Nat) (gL : List OpW) (l' : Int) (A' : Option Addr) (n' c' : Nat) (ps' : List Pr) (rl' : Int) (rA' : Option Addr) (rn' rc' : Nat) (rps' : List Pr) (gA' : Option Addr) (gn' gc' : Nat) (gL' : List OpW) (h2 : eqPl ⟨l, A, n, c, ps⟩ ⟨l', A', n', c', ps'⟩ = true) (h7 : eqPl ⟨rl, rA, rn, rc, rps⟩ ⟨rl', rA', rn', rc', rps'⟩ = true) (h8 : eqOps ⟨gA, gn, gc, gL⟩ ⟨gA', gn', gc', gL'⟩ = true)
    (w : World) (hx : OneSt w w.heap.size ⟨k, ⟨l, A, n, c, ps⟩, ⟨rk, ro, rr, rm, ⟨rl, rA, rn, rc, rps⟩, ⟨gA, gn, gc, gL⟩⟩, lo⟩) (hy : OneSt w w.heap.size ⟨k, ⟨l', A', n', c', ps'⟩, ⟨rk, ro, rr, rm, ⟨rl', rA', rn', rc', rps'⟩, ⟨gA', gn', gc', gL'⟩⟩, lo⟩) :
    Calls Tryz.prog 77 #[aggSt ⟨k, ⟨l, A, n, c, ps⟩, ⟨rk, ro, rr, rm, ⟨rl, rA, rn, rc, rps⟩, ⟨gA, gn, gc, gL⟩⟩, lo⟩, aggSt ⟨k, ⟨l', A', n', c', ps'⟩, ⟨rk, ro, rr, rm, ⟨rl', rA', rn', rc', rps'⟩, ⟨gA', gn', gc', gL'⟩⟩, lo⟩] w fun e w' => e = .returned (.bool true) ∧ Below w.heap.size w w' := by
  have HB := hide (st4_below w ⟨k, ⟨l, A, n, c, ps⟩, ⟨rk, ro, rr, rm, ⟨rl, rA, rn, rc, rps⟩, ⟨gA, gn, gc, gL⟩⟩, lo⟩ ⟨k, ⟨l', A', n', c', ps'⟩, ⟨rk, ro, rr, rm, ⟨rl', rA', rn', rc', rps'⟩, ⟨gA', gn', gc', gL'⟩⟩, lo⟩)
  have HX := hide (hx.up HB.out)
  have HY := hide (hy.up HB.out)
  have hs := hide fun (w' : World) (h : Below (st4 w ⟨k, ⟨l, A, n, c, ps⟩, ⟨rk, ro, rr, rm, ⟨rl, rA, rn, rc, rps⟩, ⟨gA, gn, gc, gL⟩⟩, lo⟩ ⟨k, ⟨l', A', n', c', ps'⟩, ⟨rk, ro, rr, rm, ⟨rl', rA', rn', rc', rps'⟩, ⟨gA', gn', gc', gL'⟩⟩, lo⟩).heap.size (st4 w ⟨k, ⟨l, A, n, c, ps⟩, ⟨rk, ro, rr, rm, ⟨rl, rA, rn, rc, rps⟩, ⟨gA, gn, gc, gL⟩⟩, lo⟩ ⟨k, ⟨l', A', n', c', ps'⟩, ⟨rk, ro, rr, rm, ⟨rl', rA', rn', rc', rps'⟩, ⟨gA', gn', gc', gL'⟩⟩, lo⟩) w') => st4_cells h
  have H2 := hide h2
  clear h2
  have H7 := hide h7
  clear h7
  have H8 := hide h8
  clear h8
  clear hx hy
  go_enter Tryz.func77, Tryz.ntmps77
  go_wp2_with fail
  refine (REqualP_is H2.out _ HX.out.pl HY.out.pl).mono ?_
  rintro e w1 ⟨rfl, hb⟩
  have HB1 := hide (hb.mono (Nat.le_refl _))
  obtain ⟨c0, d0⟩ := hs.out _ hb 0 _ _ rfl rfl
  obtain ⟨c1, d1⟩ := hs.out _ hb 1 _ _ rfl rfl
  obtain ⟨c2, d2⟩ := hs.out _ hb 2 _ _ rfl rfl
  obtain ⟨c3, d3⟩ := hs.out _ hb 3 _ _ rfl rfl
  obtain ⟨c4, d4⟩ := hs.out _ hb 4 _ _ rfl rfl
  obtain ⟨c5, d5⟩ := hs.out _ hb 5 _ _ rfl rfl
  obtain ⟨c6, d6⟩ := hs.out _ hb 6 _ _ rfl rfl
  simp only [] at c0 c1 c2 c3 c4 c5 c6 d0 d1 d2 d3 d4 d5 d6
  clear hb
  go_wp2_with fail
  refine (REqualP_is H7.out _ (HX.out.rv.pl.up HB1.out) (HY.out.rv.pl.up HB1.out)).mono ?_
  rintro e w2 ⟨rfl, hb⟩
  have HB2 := hide (HB1.out.trans (hb.mono HB1.out.size))
  clear c0 c1 c2 c3 c4 c5 c6 d0 d1 d2 d3 d4 d5 d6 hb
  obtain ⟨c6, d6⟩ := hs.out _ HB2.out 6 _ _ rfl rfl
  simp only [] at c6 d6
  go_wp2_with fail
  refine (RSameOperands_is (s := ⟨gA, gn, gc, gL⟩) (t := ⟨gA', gn', gc', gL'⟩) H8.out _ (HX.out.rv.args.up HB2.out) (HY.out.rv.args.up HB2.out)).mono ?_
  rintro e w3 ⟨rfl, hb⟩
  have HB3 := hide (HB2.out.trans (hb.mono HB2.out.size))
  clear c6 d6 hb
  go_wp2
  go_ret
  exact ⟨rfl, HB.out.trans (HB3.out.mono HB.out.size)⟩


theorem RSameStmt_any (x y : StW) (w : World) (hx : OneSt w w.heap.size x) (hy : OneSt w w.heap.size y) :
    Calls Tryz.prog 77 #[aggSt x, aggSt y] w fun e w' => e = .returned (.bool (eqSt x y)) ∧ Below w.heap.size w w' := by
  have hv : ∀ b, (x.v = y.v ↔ b = true) → eqSt x y = b := fun b h => by rw [Bool.eq_iff_iff, eqSt, decide_eq_true_iff, h]
  rw [stV_eq] at hv
  obtain ⟨k, ⟨l, A, n, c, ps⟩, ⟨rk, ro, rr, rm, ⟨rl, rA, rn, rc, rps⟩, ⟨gA, gn, gc, gL⟩⟩, lo⟩ := x
  obtain ⟨k', ⟨l', A', n', c', ps'⟩, ⟨rk', ro', rr', rm', ⟨rl', rA', rn', rc', rps'⟩, ⟨gA', gn', gc', gL'⟩⟩, lo'⟩ := y
  simp only [] at hv

  by_cases e0 : k = k'
  rotate_left
  · rw [hv false (by simp [e0])]
    exact sameSt0 _ _ _ _ _ _ _ _ _ _ _ _ _ _ _ _ _ _ _ _ _ _ _ _ _ _ _ _ _ _ _ _ _ _ _ _ _ _ _ _ (by simpa using e0) w hx hy
  subst e0
  by_cases e1 : lo = lo'
  rotate_left
  · rw [hv false (by simp [e1])]
    exact sameSt1 _ _ _ _ _ _ _ _ _ _ _ _ _ _ _ _ _ _ _ _ _ _ _ _ _ _ _ _ _ _ _ _ _ _ _ _ _ _ _ (by simpa using e1) w hx hy
  subst e1
  cases e2 : eqPl ⟨l, A, n, c, ps⟩ ⟨l', A', n', c', ps'⟩
  · rw [hv false (by simp [e2])]
    exact sameSt2 _ _ _ _ _ _ _ _ _ _ _ _ _ _ _ _ _ _ _ _ _ _ _ _ _ _ _ _ _ _ _ _ _ _ _ _ _ _ e2 w hx hy
  by_cases e3 : rk = rk'
  rotate_left
  · rw [hv false (by simp [e3])]
    exact sameSt3 _ _ _ _ _ _ _ _ _ _ _ _ _ _ _ _ _ _ _ _ _ _ _ _ _ _ _ _ _ _ _ _ _ _ _ _ _ _ e2 (by simpa using e3) w hx hy
  subst e3
  by_cases e4 : ro = ro'
  rotate_left
  · rw [hv false (by simp [e4])]
    exact sameSt4 _ _ _ _ _ _ _ _ _ _ _ _ _ _ _ _ _ _ _ _ _ _ _ _ _ _ _ _ _ _ _ _ _ _ _ _ _ e2 (by simpa using e4) w hx hy
  subst e4
  by_cases e5 : rr = rr'
  rotate_left
  · rw [hv false (by simp [e5])]
    exact sameSt5 _ _ _ _ _ _ _ _ _ _ _ _ _ _ _ _ _ _ _ _ _ _ _ _ _ _ _ _ _ _ _ _ _ _ _ _ e2 (by simpa using e5) w hx hy
  subst e5
  by_cases e6 : rm = rm'
  rotate_left
  · rw [hv false (by simp [e6])]
    exact sameSt6 _ _ _ _ _ _ _ _ _ _ _ _ _ _ _ _ _ _ _ _ _ _ _ _ _ _ _ _ _ _ _ _ _ _ _ e2 (by simpa using e6) w hx hy
  subst e6
  cases e7 : eqPl ⟨rl, rA, rn, rc, rps⟩ ⟨rl', rA', rn', rc', rps'⟩
  · rw [hv false (by simp [e7])]
    exact sameSt7 _ _ _ _ _ _ _ _ _ _ _ _ _ _ _ _ _ _ _ _ _ _ _ _ _ _ _ _ _ _ _ _ _ _ e2 e7 w hx hy
  cases e8 : eqOps ⟨gA, gn, gc, gL⟩ ⟨gA', gn', gc', gL'⟩
  · rw [hv false (by simp [e8])]
    exact sameSt8 _ _ _ _ _ _ _ _ _ _ _ _ _ _ _ _ _ _ _ _ _ _ _ _ _ _ _ _ _ _ _ _ _ _ e2 e7 e8 w hx hy
  rw [hv true (by simp [e2, e7, e8])]
  exact sameSt9 _ _ _ _ _ _ _ _ _ _ _ _ _ _ _ _ _ _ _ _ _ _ _ _ _ _ _ _ _ _ _ _ _ _ e2 e7 e8 w hx hy

theorem RSameStmt_is {x y : StW} {v : Bool} (h : eqSt x y = v) (w : World) (hx : OneSt w w.heap.size x) (hy : OneSt w w.heap.size y) :
    Calls Tryz.prog 77 #[aggSt x, aggSt y] w fun e w' => e = .returned (.bool v) ∧ Below w.heap.size w w' := h ▸ RSameStmt_any x y w hx hy

end Go.Proofs.YtbdimnncobpfdaaGreat

/- The reference's comparison of blocks. -/
set_option linter.unusedVariables false
namespace Go.Proofs.YtbdimnncobpfdaaGreat
open Go.RowKit

/-- the world with both blocks in boxes; with both terminators in variables -/
def bk2 (w : World) (x y : BkW) : World := (w.alloc (.cells #[.slice x.stmts.A x.stmts.n x.stmts.c, .int .i64 x.term.kind, .slice x.term.targets.A x.term.targets.n x.term.targets.c, .slice x.term.args.A x.term.args.n x.term.args.c, .int .i64 x.term.pl.l, .slice x.term.pl.A x.term.pl.n x.term.pl.c, .string x.term.name] 44)).alloc (.cells #[.slice y.stmts.A y.stmts.n y.stmts.c, .int .i64 y.term.kind, .slice y.term.targets.A y.term.targets.n y.term.targets.c, .slice y.term.args.A y.term.args.n y.term.args.c, .int .i64 y.term.pl.l, .slice y.term.pl.A y.term.pl.n y.term.pl.c, .string y.term.name] 44)
theorem bk2_size (w : World) (x y : BkW) : (bk2 w x y).heap.size = w.heap.size + 2 := by simp [bk2]
theorem bk2_below (w : World) (x y : BkW) : Below w.heap.size w (bk2 w x y) := ((Below.refl _ w).alloc (Nat.le_refl _) _).alloc (by simp) _
theorem bk2_cells {w w' : World} {x y : BkW} (h : Below (bk2 w x y).heap.size (bk2 w x y) w') : ∀ j u v, (cBk x)[j]? = some u → (cBk y)[j]? = some v → w'.cell? ⟨w.heap.size, j, none⟩ = some u ∧ w'.cell? ⟨w.heap.size + 1, j, none⟩ = some v := by
  have hs := bk2_size w x y
  intro j u v hu hv
  refine ⟨(h.cell (show w.heap.size < (bk2 w x y).heap.size by omega)).trans ?_, (h.cell (show w.heap.size + 1 < (bk2 w x y).heap.size by omega)).trans ?_⟩
  · unfold bk2
    simp only [cBk] at hu
    rw [← hu]
    rcases j with _ | _ | _ | _ | _ | _ | _ | j <;> simp [go_sem]
  · unfold bk2
    simp only [cBk] at hv
    rw [← hv]
    rcases j with _ | _ | _ | _ | _ | _ | _ | j <;> simp [go_sem]
def tm2 (w : World) (x y : TmW) : World := (w.alloc (.cells #[.int .i64 x.kind, .slice x.targets.A x.targets.n x.targets.c, .slice x.args.A x.args.n x.args.c, .int .i64 x.pl.l, .slice x.pl.A x.pl.n x.pl.c, .string x.name] 42)).alloc (.cells #[.int .i64 y.kind, .slice y.targets.A y.targets.n y.targets.c, .slice y.args.A y.args.n y.args.c, .int .i64 y.pl.l, .slice y.pl.A y.pl.n y.pl.c, .string y.name] 42)
theorem tm2_size (w : World) (x y : TmW) : (tm2 w x y).heap.size = w.heap.size + 2 := by simp [tm2]
theorem tm2_below (w : World) (x y : TmW) : Below w.heap.size w (tm2 w x y) := ((Below.refl _ w).alloc (Nat.le_refl _) _).alloc (by simp) _
theorem tm2_cells {w w' : World} {x y : TmW} (h : Below (tm2 w x y).heap.size (tm2 w x y) w') : ∀ j u v, (cTm x)[j]? = some u → (cTm y)[j]? = some v → w'.cell? ⟨w.heap.size, j, none⟩ = some u ∧ w'.cell? ⟨w.heap.size + 1, j, none⟩ = some v := by
  have hs := tm2_size w x y
  intro j u v hu hv
  refine ⟨(h.cell (show w.heap.size < (tm2 w x y).heap.size by omega)).trans ?_, (h.cell (show w.heap.size + 1 < (tm2 w x y).heap.size by omega)).trans ?_⟩
  · unfold tm2
    simp only [cTm] at hu
    rw [← hu]
    rcases j with _ | _ | _ | _ | _ | _ | j <;> simp [go_sem]
  · unfold tm2
    simp only [cTm] at hv
    rw [← hv]
    rcases j with _ | _ | _ | _ | _ | _ | j <;> simp [go_sem]

theorem tmV_eq {x y : TmW} : x.v = y.v ↔ x.kind = y.kind ∧ x.name = y.name ∧ eqL x.targets.L y.targets.L = true ∧ eqOps x.args y.args = true ∧ eqPl x.pl y.pl = true := by
  rw [← plV_eq, eqOps, eqL_iff, eqL_iff]
  obtain ⟨k, tg, ar, pl, nm⟩ := x
  obtain ⟨k', tg', ar', pl', nm'⟩ := y
  simp only [TmW.v, TmV.mk.injEq]
  constructor
  · rintro ⟨h1, h2, h3, h4, h5⟩
    exact ⟨h1, h5, h2, h3, h4⟩
  · rintro ⟨h1, h5, h2, h3, h4⟩
    exact ⟨h1, h2, h3, h4, h5⟩
def eqTm (x y : TmW) : Bool := decide (x.v = y.v)
theorem eqTm_is {x y : TmW} {b : Bool} (h : (x.kind = y.kind ∧ x.name = y.name ∧ eqL x.targets.L y.targets.L = true ∧ eqOps x.args y.args = true ∧ eqPl x.pl y.pl = true) ↔ b = true) : eqTm x y = b := by rw [Bool.eq_iff_iff, eqTm, decide_eq_true_iff, tmV_eq, h]
def eqBk (x y : BkW) : Bool := eqL (x.stmts.L.map StW.v) (y.stmts.L.map StW.v) && eqTm x.term y.term
theorem eqBk_v {x y : BkW} : eqBk x y = decide (x.v = y.v) := by
  rw [Bool.eq_iff_iff, eqBk, Bool.and_eq_true, eqL_iff, eqTm, decide_eq_true_iff, decide_eq_true_iff]
  obtain ⟨s, t⟩ := x
  obtain ⟨s', t'⟩ := y
  simp [BkW.v]
theorem str_eq {a b : ByteArray} (h : a = b) : (a.toList == b.toList) = true := by rw [h]; simp

set_option maxHeartbeats 4000000 in
set_option maxRecDepth 100000 in
theorem RSameBlock_any (x y : BkW) (w : World) (hx : OneBk w w.heap.size x) (hy : OneBk w w.heap.size y) :
    Calls Tryz.prog 39 #[aggBk x, aggBk y] w fun e w' => e = .returned (.bool (eqBk x y)) ∧ Below w.heap.size w w' := by
  have HB := hide (bk2_below w x y)
  have HX := hide (hx.up HB.out)
  have HY := hide (hy.up HB.out)
  have HXL := hide hx.stmts.len
  have HYL := hide hy.stmts.len
  have hn := hx.stmts.nm
  have hm := hy.stmts.nm
  have hs := hide fun (w' : World) (h : Below (bk2 w x y).heap.size (bk2 w x y) w') => bk2_cells h
  have HE0 := hide (show ∀ b, eqL (x.stmts.L.map StW.v) (y.stmts.L.map StW.v) = true → eqTm x.term y.term = b → eqBk x y = b from fun b h1 h2 => by rw [eqBk, h1, h2, Bool.true_and])
  have HE1 := hide (show eqL (x.stmts.L.map StW.v) (y.stmts.L.map StW.v) = false → eqBk x y = false from fun h1 => by rw [eqBk, h1, Bool.false_and])
  clear hx hy
  obtain ⟨⟨A, n, c, xs⟩, ⟨k, ⟨tA, tn, tc, tL⟩, ⟨gA, gn, gc, gL⟩, ⟨l, pA, pn, pc, ps⟩, nm⟩⟩ := x
  obtain ⟨⟨B, m, d, ys⟩, ⟨k', ⟨tA', tn', tc', tL'⟩, ⟨gA', gn', gc', gL'⟩, ⟨l', pA', pn', pc', ps'⟩, nm'⟩⟩ := y
  simp only [] at hn hm
  unfold maxLen at hn hm
  by_cases hnm : n = m
  rotate_left
  · have e1 : ((n : Int) != (m : Int)) = true := by simp; omega
    have HF := hide (HE1.out (eqL_len (f := StW.v) HXL.out HYL.out hnm))
    go_enter Tryz.func39, Tryz.ntmps39
    go_wp2
    go_ret
    exact ⟨congrArg (fun v => Ending.returned (.bool v)) HF.out.symm, HB.out⟩
  subst hnm
  go_enter Tryz.func39, Tryz.ntmps39
  go_wp2
  go_loopw [5] (fun i wr => ∃ j : Nat, i = .int .i64 (j : Int) ∧ j ≤ n ∧ Hid (eqLto StW.v xs ys j) ∧ Below (bk2 w ⟨⟨A, n, c, xs⟩, ⟨k, ⟨tA, tn, tc, tL⟩, ⟨gA, gn, gc, gL⟩, ⟨l, pA, pn, pc, ps⟩, nm⟩⟩ ⟨⟨B, n, d, ys⟩, ⟨k', ⟨tA', tn', tc', tL'⟩, ⟨gA', gn', gc', gL'⟩, ⟨l', pA', pn', pc', ps'⟩, nm'⟩⟩).heap.size (bk2 w ⟨⟨A, n, c, xs⟩, ⟨k, ⟨tA, tn, tc, tL⟩, ⟨gA, gn, gc, gL⟩, ⟨l, pA, pn, pc, ps⟩, nm⟩⟩ ⟨⟨B, n, d, ys⟩, ⟨k', ⟨tA', tn', tc', tL'⟩, ⟨gA', gn', gc', gL'⟩, ⟨l', pA', pn', pc', ps'⟩, nm'⟩⟩) wr) (fun i _ => n - (intOf i).toNat)
  case atStart => exact ⟨0, rfl, Nat.zero_le _, hide (eqLto_zero _ _ _), Below.refl _ _⟩
  case round =>
    obtain ⟨j, rfl, hj, HE, hb⟩ := hrel
    have HR := hide hb
    clear hb
    obtain ⟨v0, z0⟩ := hs.out _ HR.out 0 _ _ rfl rfl
    simp only [] at v0 z0
    by_cases hlt : j < n
    · obtain ⟨p, hp⟩ := HX.out.stmts.get hlt
      obtain ⟨q, hq⟩ := HY.out.stmts.get hlt
      obtain ⟨g, o, hA, hg, h1, c0⟩ := HX.out.stmts.at_ hp
      obtain ⟨g', o', hA', hg', h2, d0⟩ := HY.out.stmts.at_ hq
      simp only [] at hA hA'
      subst hA
      subst hA'
      have hlt' : (j : Int) < (n : Int) := by omega
      have HP := hide hp
      have HQ := hide hq
      have hpp := hide h1
      have hqp := hide h2
      clear hp hq h1 h2
      have hcs := hide fun (w' : World) (h : Below (bk2 w ⟨⟨some ⟨g, o, none⟩, n, c, xs⟩, ⟨k, ⟨tA, tn, tc, tL⟩, ⟨gA, gn, gc, gL⟩, ⟨l, pA, pn, pc, ps⟩, nm⟩⟩ ⟨⟨some ⟨g', o', none⟩, n, d, ys⟩, ⟨k', ⟨tA', tn', tc', tL'⟩, ⟨gA', gn', gc', gL'⟩, ⟨l', pA', pn', pc', ps'⟩, nm'⟩⟩).heap.size (bk2 w ⟨⟨some ⟨g, o, none⟩, n, c, xs⟩, ⟨k, ⟨tA, tn, tc, tL⟩, ⟨gA, gn, gc, gL⟩, ⟨l, pA, pn, pc, ps⟩, nm⟩⟩ ⟨⟨some ⟨g', o', none⟩, n, d, ys⟩, ⟨k', ⟨tA', tn', tc', tL'⟩, ⟨gA', gn', gc', gL'⟩, ⟨l', pA', pn', pc', ps'⟩, nm'⟩⟩) w') => (show w'.cell? ⟨w.heap.size, 0, none⟩ = some (.slice (some ⟨g, o, none⟩) n c) ∧ w'.cell? ⟨w.heap.size + 1, 0, none⟩ = some (.slice (some ⟨g', o', none⟩) n d) ∧ w'.cell? ⟨g, o + j * 11, none⟩ = some (.int .i64 p.kind) ∧ w'.cell? ⟨g, o + j * 11 + 1, none⟩ = some (.int .i64 p.pl.l) ∧ w'.cell? ⟨g, o + j * 11 + 2, none⟩ = some (.slice p.pl.A p.pl.n p.pl.c) ∧ w'.cell? ⟨g, o + j * 11 + 3, none⟩ = some (.int .i64 p.rv.kind) ∧ w'.cell? ⟨g, o + j * 11 + 4, none⟩ = some (.int .i64 p.rv.op) ∧ w'.cell? ⟨g, o + j * 11 + 5, none⟩ = some (.int .i64 p.rv.region) ∧ w'.cell? ⟨g, o + j * 11 + 6, none⟩ = some (.bool p.rv.mut_) ∧ w'.cell? ⟨g, o + j * 11 + 7, none⟩ = some (.int .i64 p.rv.pl.l) ∧ w'.cell? ⟨g, o + j * 11 + 8, none⟩ = some (.slice p.rv.pl.A p.rv.pl.n p.rv.pl.c) ∧ w'.cell? ⟨g, o + j * 11 + 9, none⟩ = some (.slice p.rv.args.A p.rv.args.n p.rv.args.c) ∧ w'.cell? ⟨g, o + j * 11 + 10, none⟩ = some (.int .i64 p.loc) ∧ w'.cell? ⟨g', o' + j * 11, none⟩ = some (.int .i64 q.kind) ∧ w'.cell? ⟨g', o' + j * 11 + 1, none⟩ = some (.int .i64 q.pl.l) ∧ w'.cell? ⟨g', o' + j * 11 + 2, none⟩ = some (.slice q.pl.A q.pl.n q.pl.c) ∧ w'.cell? ⟨g', o' + j * 11 + 3, none⟩ = some (.int .i64 q.rv.kind) ∧ w'.cell? ⟨g', o' + j * 11 + 4, none⟩ = some (.int .i64 q.rv.op) ∧ w'.cell? ⟨g', o' + j * 11 + 5, none⟩ = some (.int .i64 q.rv.region) ∧ w'.cell? ⟨g', o' + j * 11 + 6, none⟩ = some (.bool q.rv.mut_) ∧ w'.cell? ⟨g', o' + j * 11 + 7, none⟩ = some (.int .i64 q.rv.pl.l) ∧ w'.cell? ⟨g', o' + j * 11 + 8, none⟩ = some (.slice q.rv.pl.A q.rv.pl.n q.rv.pl.c) ∧ w'.cell? ⟨g', o' + j * 11 + 9, none⟩ = some (.slice q.rv.args.A q.rv.args.n q.rv.args.c) ∧ w'.cell? ⟨g', o' + j * 11 + 10, none⟩ = some (.int .i64 q.loc)
        from ⟨(hs.out _ h 0 _ _ rfl rfl).1, (hs.out _ h 0 _ _ rfl rfl).2, (h.cell hg).trans (c0 0 _ rfl), (h.cell hg).trans (c0 1 _ rfl), (h.cell hg).trans (c0 2 _ rfl), (h.cell hg).trans (c0 3 _ rfl), (h.cell hg).trans (c0 4 _ rfl), (h.cell hg).trans (c0 5 _ rfl), (h.cell hg).trans (c0 6 _ rfl), (h.cell hg).trans (c0 7 _ rfl), (h.cell hg).trans (c0 8 _ rfl), (h.cell hg).trans (c0 9 _ rfl), (h.cell hg).trans (c0 10 _ rfl), (h.cell hg').trans (d0 0 _ rfl), (h.cell hg').trans (d0 1 _ rfl), (h.cell hg').trans (d0 2 _ rfl), (h.cell hg').trans (d0 3 _ rfl), (h.cell hg').trans (d0 4 _ rfl), (h.cell hg').trans (d0 5 _ rfl), (h.cell hg').trans (d0 6 _ rfl), (h.cell hg').trans (d0 7 _ rfl), (h.cell hg').trans (d0 8 _ rfl), (h.cell hg').trans (d0 9 _ rfl), (h.cell hg').trans (d0 10 _ rfl)⟩)
      clear c0 d0
      obtain ⟨v, hv⟩ : ∃ v, eqSt p q = v := ⟨_, rfl⟩
      have HV := hide hv
      cases v
      · have HF := hide (HE1.out (eqL_no (f := StW.v) HP.out HQ.out (by rw [eqSt] at hv; exact of_decide_eq_false hv)))
        clear hv
        go_wp2
        clear v0 z0
        go_region_held3 (fun w' => Below (bk2 w ⟨⟨some ⟨g, o, none⟩, n, c, xs⟩, ⟨k, ⟨tA, tn, tc, tL⟩, ⟨gA, gn, gc, gL⟩, ⟨l, pA, pn, pc, ps⟩, nm⟩⟩ ⟨⟨some ⟨g', o', none⟩, n, d, ys⟩, ⟨k', ⟨tA', tn', tc', tL'⟩, ⟨gA', gn', gc', gL'⟩, ⟨l', pA', pn', pc', ps'⟩, nm'⟩⟩).heap.size (bk2 w ⟨⟨some ⟨g, o, none⟩, n, c, xs⟩, ⟨k, ⟨tA, tn, tc, tL⟩, ⟨gA, gn, gc, gL⟩, ⟨l, pA, pn, pc, ps⟩, nm⟩⟩ ⟨⟨some ⟨g', o', none⟩, n, d, ys⟩, ⟨k', ⟨tA', tn', tc', tL'⟩, ⟨gA', gn', gc', gL'⟩, ⟨l', pA', pn', pc', ps'⟩, nm'⟩⟩) w' ∧ w'.cell? ⟨w.heap.size, 0, none⟩ = some (.slice (some ⟨g, o, none⟩) n c) ∧ w'.cell? ⟨w.heap.size + 1, 0, none⟩ = some (.slice (some ⟨g', o', none⟩) n d) ∧ w'.cell? ⟨g, o + j * 11, none⟩ = some (.int .i64 p.kind) ∧ w'.cell? ⟨g, o + j * 11 + 1, none⟩ = some (.int .i64 p.pl.l) ∧ w'.cell? ⟨g, o + j * 11 + 2, none⟩ = some (.slice p.pl.A p.pl.n p.pl.c) ∧ w'.cell? ⟨g, o + j * 11 + 3, none⟩ = some (.int .i64 p.rv.kind) ∧ w'.cell? ⟨g, o + j * 11 + 4, none⟩ = some (.int .i64 p.rv.op) ∧ w'.cell? ⟨g, o + j * 11 + 5, none⟩ = some (.int .i64 p.rv.region) ∧ w'.cell? ⟨g, o + j * 11 + 6, none⟩ = some (.bool p.rv.mut_) ∧ w'.cell? ⟨g, o + j * 11 + 7, none⟩ = some (.int .i64 p.rv.pl.l) ∧ w'.cell? ⟨g, o + j * 11 + 8, none⟩ = some (.slice p.rv.pl.A p.rv.pl.n p.rv.pl.c) ∧ w'.cell? ⟨g, o + j * 11 + 9, none⟩ = some (.slice p.rv.args.A p.rv.args.n p.rv.args.c) ∧ w'.cell? ⟨g, o + j * 11 + 10, none⟩ = some (.int .i64 p.loc) ∧ w'.cell? ⟨g', o' + j * 11, none⟩ = some (.int .i64 q.kind) ∧ w'.cell? ⟨g', o' + j * 11 + 1, none⟩ = some (.int .i64 q.pl.l) ∧ w'.cell? ⟨g', o' + j * 11 + 2, none⟩ = some (.slice q.pl.A q.pl.n q.pl.c) ∧ w'.cell? ⟨g', o' + j * 11 + 3, none⟩ = some (.int .i64 q.rv.kind) ∧ w'.cell? ⟨g', o' + j * 11 + 4, none⟩ = some (.int .i64 q.rv.op) ∧ w'.cell? ⟨g', o' + j * 11 + 5, none⟩ = some (.int .i64 q.rv.region) ∧ w'.cell? ⟨g', o' + j * 11 + 6, none⟩ = some (.bool q.rv.mut_) ∧ w'.cell? ⟨g', o' + j * 11 + 7, none⟩ = some (.int .i64 q.rv.pl.l) ∧ w'.cell? ⟨g', o' + j * 11 + 8, none⟩ = some (.slice q.rv.pl.A q.rv.pl.n q.rv.pl.c) ∧ w'.cell? ⟨g', o' + j * 11 + 9, none⟩ = some (.slice q.rv.args.A q.rv.args.n q.rv.args.c) ∧ w'.cell? ⟨g', o' + j * 11 + 10, none⟩ = some (.int .i64 q.loc))
          (first | exact ⟨by assumption, hcs.out _ (by assumption)⟩ | exact ⟨HR.out, hcs.out _ HR.out⟩ | exact ⟨HR.out.drew, hcs.out _ HR.out.drew⟩)
          (first | (go_at_call 77; go_split_ands; refine (RSameStmt_is (x := p) (y := q) HV.out _ (hpp.out.up (by assumption)) (hqp.out.up (by assumption))).mono ?_; rintro x9 w1 ⟨rfl, hb0⟩; have hb1 := Below.trans (by assumption : Below (bk2 w ⟨⟨some ⟨g, o, none⟩, n, c, xs⟩, ⟨k, ⟨tA, tn, tc, tL⟩, ⟨gA, gn, gc, gL⟩, ⟨l, pA, pn, pc, ps⟩, nm⟩⟩ ⟨⟨some ⟨g', o', none⟩, n, d, ys⟩, ⟨k', ⟨tA', tn', tc', tL'⟩, ⟨gA', gn', gc', gL'⟩, ⟨l', pA', pn', pc', ps'⟩, nm'⟩⟩).heap.size (bk2 w ⟨⟨some ⟨g, o, none⟩, n, c, xs⟩, ⟨k, ⟨tA, tn, tc, tL⟩, ⟨gA, gn, gc, gL⟩, ⟨l, pA, pn, pc, ps⟩, nm⟩⟩ ⟨⟨some ⟨g', o', none⟩, n, d, ys⟩, ⟨k', ⟨tA', tn', tc', tL'⟩, ⟨gA', gn', gc', gL'⟩, ⟨l', pA', pn', pc', ps'⟩, nm'⟩⟩) _) (hb0.mono (Below.size (by assumption : Below (bk2 w ⟨⟨some ⟨g, o, none⟩, n, c, xs⟩, ⟨k, ⟨tA, tn, tc, tL⟩, ⟨gA, gn, gc, gL⟩, ⟨l, pA, pn, pc, ps⟩, nm⟩⟩ ⟨⟨some ⟨g', o', none⟩, n, d, ys⟩, ⟨k', ⟨tA', tn', tc', tL'⟩, ⟨gA', gn', gc', gL'⟩, ⟨l', pA', pn', pc', ps'⟩, nm'⟩⟩).heap.size (bk2 w ⟨⟨some ⟨g, o, none⟩, n, c, xs⟩, ⟨k, ⟨tA, tn, tc, tL⟩, ⟨gA, gn, gc, gL⟩, ⟨l, pA, pn, pc, ps⟩, nm⟩⟩ ⟨⟨some ⟨g', o', none⟩, n, d, ys⟩, ⟨k', ⟨tA', tn', tc', tL'⟩, ⟨gA', gn', gc', gL'⟩, ⟨l', pA', pn', pc', ps'⟩, nm'⟩⟩) _)))))
        all_goals
          go_split_ands
          go_wp2
          go_ret
          exact ⟨congrArg (fun v => Ending.returned (.bool v)) HF.out.symm, HB.out.trans (Below.mono (by assumption) HB.out.size)⟩
      · have HE2 := hide (eqLto_up (f := StW.v) HE.out HP.out HQ.out (by rw [eqSt] at hv; exact of_decide_eq_true hv))
        clear hv
        go_wp2
        clear v0 z0
        go_region_held3 (fun w' => Below (bk2 w ⟨⟨some ⟨g, o, none⟩, n, c, xs⟩, ⟨k, ⟨tA, tn, tc, tL⟩, ⟨gA, gn, gc, gL⟩, ⟨l, pA, pn, pc, ps⟩, nm⟩⟩ ⟨⟨some ⟨g', o', none⟩, n, d, ys⟩, ⟨k', ⟨tA', tn', tc', tL'⟩, ⟨gA', gn', gc', gL'⟩, ⟨l', pA', pn', pc', ps'⟩, nm'⟩⟩).heap.size (bk2 w ⟨⟨some ⟨g, o, none⟩, n, c, xs⟩, ⟨k, ⟨tA, tn, tc, tL⟩, ⟨gA, gn, gc, gL⟩, ⟨l, pA, pn, pc, ps⟩, nm⟩⟩ ⟨⟨some ⟨g', o', none⟩, n, d, ys⟩, ⟨k', ⟨tA', tn', tc', tL'⟩, ⟨gA', gn', gc', gL'⟩, ⟨l', pA', pn', pc', ps'⟩, nm'⟩⟩) w' ∧ w'.cell? ⟨w.heap.size, 0, none⟩ = some (.slice (some ⟨g, o, none⟩) n c) ∧ w'.cell? ⟨w.heap.size + 1, 0, none⟩ = some (.slice (some ⟨g', o', none⟩) n d) ∧ w'.cell? ⟨g, o + j * 11, none⟩ = some (.int .i64 p.kind) ∧ w'.cell? ⟨g, o + j * 11 + 1, none⟩ = some (.int .i64 p.pl.l) ∧ w'.cell? ⟨g, o + j * 11 + 2, none⟩ = some (.slice p.pl.A p.pl.n p.pl.c) ∧ w'.cell? ⟨g, o + j * 11 + 3, none⟩ = some (.int .i64 p.rv.kind) ∧ w'.cell? ⟨g, o + j * 11 + 4, none⟩ = some (.int .i64 p.rv.op) ∧ w'.cell? ⟨g, o + j * 11 + 5, none⟩ = some (.int .i64 p.rv.region) ∧ w'.cell? ⟨g, o + j * 11 + 6, none⟩ = some (.bool p.rv.mut_) ∧ w'.cell? ⟨g, o + j * 11 + 7, none⟩ = some (.int .i64 p.rv.pl.l) ∧ w'.cell? ⟨g, o + j * 11 + 8, none⟩ = some (.slice p.rv.pl.A p.rv.pl.n p.rv.pl.c) ∧ w'.cell? ⟨g, o + j * 11 + 9, none⟩ = some (.slice p.rv.args.A p.rv.args.n p.rv.args.c) ∧ w'.cell? ⟨g, o + j * 11 + 10, none⟩ = some (.int .i64 p.loc) ∧ w'.cell? ⟨g', o' + j * 11, none⟩ = some (.int .i64 q.kind) ∧ w'.cell? ⟨g', o' + j * 11 + 1, none⟩ = some (.int .i64 q.pl.l) ∧ w'.cell? ⟨g', o' + j * 11 + 2, none⟩ = some (.slice q.pl.A q.pl.n q.pl.c) ∧ w'.cell? ⟨g', o' + j * 11 + 3, none⟩ = some (.int .i64 q.rv.kind) ∧ w'.cell? ⟨g', o' + j * 11 + 4, none⟩ = some (.int .i64 q.rv.op) ∧ w'.cell? ⟨g', o' + j * 11 + 5, none⟩ = some (.int .i64 q.rv.region) ∧ w'.cell? ⟨g', o' + j * 11 + 6, none⟩ = some (.bool q.rv.mut_) ∧ w'.cell? ⟨g', o' + j * 11 + 7, none⟩ = some (.int .i64 q.rv.pl.l) ∧ w'.cell? ⟨g', o' + j * 11 + 8, none⟩ = some (.slice q.rv.pl.A q.rv.pl.n q.rv.pl.c) ∧ w'.cell? ⟨g', o' + j * 11 + 9, none⟩ = some (.slice q.rv.args.A q.rv.args.n q.rv.args.c) ∧ w'.cell? ⟨g', o' + j * 11 + 10, none⟩ = some (.int .i64 q.loc))
          (first | exact ⟨by assumption, hcs.out _ (by assumption)⟩ | exact ⟨HR.out, hcs.out _ HR.out⟩ | exact ⟨HR.out.drew, hcs.out _ HR.out.drew⟩)
          (first | (go_at_call 77; go_split_ands; refine (RSameStmt_is (x := p) (y := q) HV.out _ (hpp.out.up (by assumption)) (hqp.out.up (by assumption))).mono ?_; rintro x9 w1 ⟨rfl, hb0⟩; have hb1 := Below.trans (by assumption : Below (bk2 w ⟨⟨some ⟨g, o, none⟩, n, c, xs⟩, ⟨k, ⟨tA, tn, tc, tL⟩, ⟨gA, gn, gc, gL⟩, ⟨l, pA, pn, pc, ps⟩, nm⟩⟩ ⟨⟨some ⟨g', o', none⟩, n, d, ys⟩, ⟨k', ⟨tA', tn', tc', tL'⟩, ⟨gA', gn', gc', gL'⟩, ⟨l', pA', pn', pc', ps'⟩, nm'⟩⟩).heap.size (bk2 w ⟨⟨some ⟨g, o, none⟩, n, c, xs⟩, ⟨k, ⟨tA, tn, tc, tL⟩, ⟨gA, gn, gc, gL⟩, ⟨l, pA, pn, pc, ps⟩, nm⟩⟩ ⟨⟨some ⟨g', o', none⟩, n, d, ys⟩, ⟨k', ⟨tA', tn', tc', tL'⟩, ⟨gA', gn', gc', gL'⟩, ⟨l', pA', pn', pc', ps'⟩, nm'⟩⟩) _) (hb0.mono (Below.size (by assumption : Below (bk2 w ⟨⟨some ⟨g, o, none⟩, n, c, xs⟩, ⟨k, ⟨tA, tn, tc, tL⟩, ⟨gA, gn, gc, gL⟩, ⟨l, pA, pn, pc, ps⟩, nm⟩⟩ ⟨⟨some ⟨g', o', none⟩, n, d, ys⟩, ⟨k', ⟨tA', tn', tc', tL'⟩, ⟨gA', gn', gc', gL'⟩, ⟨l', pA', pn', pc', ps'⟩, nm'⟩⟩).heap.size (bk2 w ⟨⟨some ⟨g, o, none⟩, n, c, xs⟩, ⟨k, ⟨tA, tn, tc, tL⟩, ⟨gA, gn, gc, gL⟩, ⟨l, pA, pn, pc, ps⟩, nm⟩⟩ ⟨⟨some ⟨g', o', none⟩, n, d, ys⟩, ⟨k', ⟨tA', tn', tc', tL'⟩, ⟨gA', gn', gc', gL'⟩, ⟨l', pA', pn', pc', ps'⟩, nm'⟩⟩) _)))))
        all_goals
          go_split_ands
          go_wp2
          go_roundw
          case rel => exact ⟨j + 1, by go_num, by omega, HE2, by assumption⟩
          case measure => simp [intOf]; omega
    · obtain rfl : j = n := by omega
      have HT := hide fun b => HE0.out b (eqL_yes (f := StW.v) HE.out HXL.out HYL.out)
      clear v0 z0
      obtain ⟨v0, z0⟩ := hs.out _ HR.out 0 _ _ rfl rfl
      obtain ⟨v1, z1⟩ := hs.out _ HR.out 1 _ _ rfl rfl
      obtain ⟨v2, z2⟩ := hs.out _ HR.out 2 _ _ rfl rfl
      obtain ⟨v3, z3⟩ := hs.out _ HR.out 3 _ _ rfl rfl
      obtain ⟨v4, z4⟩ := hs.out _ HR.out 4 _ _ rfl rfl
      obtain ⟨v5, z5⟩ := hs.out _ HR.out 5 _ _ rfl rfl
      obtain ⟨v6, z6⟩ := hs.out _ HR.out 6 _ _ rfl rfl
      simp only [] at v0 v1 v2 v3 v4 v5 v6 z0 z1 z2 z3 z4 z5 z6
      have HRa := hide (HR.out.alloc HR.out.size (.cells #[.int .i64 k, .slice tA tn tc, .slice gA gn gc, .int .i64 l, .slice pA pn pc, .string nm] 42))
      obtain ⟨_, a1⟩ := hs.out _ HRa.out 1 _ _ rfl rfl
      obtain ⟨_, a2⟩ := hs.out _ HRa.out 2 _ _ rfl rfl
      obtain ⟨_, a3⟩ := hs.out _ HRa.out 3 _ _ rfl rfl
      obtain ⟨_, a4⟩ := hs.out _ HRa.out 4 _ _ rfl rfl
      obtain ⟨_, a5⟩ := hs.out _ HRa.out 5 _ _ rfl rfl
      obtain ⟨_, a6⟩ := hs.out _ HRa.out 6 _ _ rfl rfl
      simp only [] at a1 a2 a3 a4 a5 a6
      have HB2 := hide (tm2_below wr ⟨k, ⟨tA, tn, tc, tL⟩, ⟨gA, gn, gc, gL⟩, ⟨l, pA, pn, pc, ps⟩, nm⟩ ⟨k', ⟨tA', tn', tc', tL'⟩, ⟨gA', gn', gc', gL'⟩, ⟨l', pA', pn', pc', ps'⟩, nm'⟩)
      have hts := hide fun (w' : World) (h : Below (tm2 wr ⟨k, ⟨tA, tn, tc, tL⟩, ⟨gA, gn, gc, gL⟩, ⟨l, pA, pn, pc, ps⟩, nm⟩ ⟨k', ⟨tA', tn', tc', tL'⟩, ⟨gA', gn', gc', gL'⟩, ⟨l', pA', pn', pc', ps'⟩, nm'⟩).heap.size (tm2 wr ⟨k, ⟨tA, tn, tc, tL⟩, ⟨gA, gn, gc, gL⟩, ⟨l, pA, pn, pc, ps⟩, nm⟩ ⟨k', ⟨tA', tn', tc', tL'⟩, ⟨gA', gn', gc', gL'⟩, ⟨l', pA', pn', pc', ps'⟩, nm'⟩) w') => tm2_cells h
      have HX2 := hide ((HX.out.term.up HR.out).up HB2.out)
      have HY2 := hide ((HY.out.term.up HR.out).up HB2.out)
      by_cases hk : k = k'
      rotate_left
      · have t1 : (k == k') = false := by rw [beq_eq_false_iff_ne]; exact hk
        have HF := hide (HT.out false (eqTm_is (by simp [hk])))
        clear hk
        go_wp2
        go_ret
        exact ⟨congrArg (fun v => Ending.returned (.bool v)) HF.out.symm, HB.out.trans ((HR.out.trans ((HB2.out).mono HR.out.size)).mono HB.out.size)⟩
      have t1 : (k == k') = true := by rw [beq_iff_eq]; exact hk
      have Hk := hide hk
      clear hk
      by_cases hm2 : nm = nm'
      rotate_left
      · have t2 : (nm.toList == nm'.toList) = false := str_ne hm2
        have HF := hide (HT.out false (eqTm_is (by simp [hm2])))
        clear hm2
        go_wp2
        go_ret
        exact ⟨congrArg (fun v => Ending.returned (.bool v)) HF.out.symm, HB.out.trans ((HR.out.trans ((HB2.out).mono HR.out.size)).mono HB.out.size)⟩
      have t2 : (nm.toList == nm'.toList) = true := str_eq hm2
      have Hm := hide hm2
      clear hm2
      have HG := hide fun (h3 : eqL tL tL' = true) (h4 : eqOps ⟨gA, gn, gc, gL⟩ ⟨gA', gn', gc', gL'⟩ = true) (b : Bool) (h5 : eqPl ⟨l, pA, pn, pc, ps⟩ ⟨l', pA', pn', pc', ps'⟩ = b) => HT.out b (eqTm_is (by simp [Hk.out, Hm.out, h3, h4, h5]))
      cases he3 : eqL tL tL'
      · have E3 := hide he3
        have HF := hide (HT.out false (eqTm_is (by simp [he3])))
        clear he3 HG
        go_wp2_with fail
        refine (RSameInts_is E3.out _ HX2.out.targets HY2.out.targets).mono ?_
        rintro e w1 ⟨rfl, hb⟩
        have HC3 := hide (hb.mono (Nat.le_refl _))
        clear hb
        go_wp2
        go_ret
        exact ⟨congrArg (fun v => Ending.returned (.bool v)) HF.out.symm, HB.out.trans ((HR.out.trans ((HB2.out.trans (HC3.out.mono HB2.out.size)).mono HR.out.size)).mono HB.out.size)⟩
      have E3 := hide he3
      clear he3
      cases he4 : eqOps ⟨gA, gn, gc, gL⟩ ⟨gA', gn', gc', gL'⟩
      · have E4 := hide he4
        have HF := hide (HT.out false (eqTm_is (by simp [he4])))
        clear he4 HG
        go_wp2_with fail
        refine (RSameInts_is E3.out _ HX2.out.targets HY2.out.targets).mono ?_
        rintro e w1 ⟨rfl, hb⟩
        have HC3 := hide (hb.mono (Nat.le_refl _))
        clear hb
        obtain ⟨v2, z2⟩ := hts.out _ HC3.out 2 _ _ rfl rfl
        simp only [] at v2 z2
        go_wp2_with fail
        refine (RSameOperands_is (s := ⟨gA, gn, gc, gL⟩) (t := ⟨gA', gn', gc', gL'⟩) E4.out _ (HX2.out.args.up HC3.out) (HY2.out.args.up HC3.out)).mono ?_
        rintro e w2 ⟨rfl, hb⟩
        have HC4 := hide (HC3.out.trans (hb.mono HC3.out.size))
        clear hb v2 z2
        go_wp2
        go_ret
        exact ⟨congrArg (fun v => Ending.returned (.bool v)) HF.out.symm, HB.out.trans ((HR.out.trans ((HB2.out.trans (HC4.out.mono HB2.out.size)).mono HR.out.size)).mono HB.out.size)⟩
      have E4 := hide he4
      clear he4
      obtain ⟨b5, he5⟩ : ∃ b, eqPl ⟨l, pA, pn, pc, ps⟩ ⟨l', pA', pn', pc', ps'⟩ = b := ⟨_, rfl⟩
      have E5 := hide he5
      have HF := hide (HG.out E3.out E4.out b5 he5)
      clear he5 HG
      go_wp2_with fail
      refine (RSameInts_is E3.out _ HX2.out.targets HY2.out.targets).mono ?_
      rintro e w1 ⟨rfl, hb⟩
      have HC3 := hide (hb.mono (Nat.le_refl _))
      clear hb
      obtain ⟨v2, z2⟩ := hts.out _ HC3.out 2 _ _ rfl rfl
      simp only [] at v2 z2
      go_wp2_with fail
      refine (RSameOperands_is (s := ⟨gA, gn, gc, gL⟩) (t := ⟨gA', gn', gc', gL'⟩) E4.out _ (HX2.out.args.up HC3.out) (HY2.out.args.up HC3.out)).mono ?_
      rintro e w2 ⟨rfl, hb⟩
      have HC4 := hide (HC3.out.trans (hb.mono HC3.out.size))
      clear hb v2 z2
      obtain ⟨v3, z3⟩ := hts.out _ HC4.out 3 _ _ rfl rfl
      obtain ⟨v4, z4⟩ := hts.out _ HC4.out 4 _ _ rfl rfl
      simp only [] at v3 z3 v4 z4
      go_wp2_with fail
      refine (REqualP_is E5.out _ (HX2.out.pl.up HC4.out) (HY2.out.pl.up HC4.out)).mono ?_
      rintro e w3 ⟨rfl, hb⟩
      have HC5 := hide (HC4.out.trans (hb.mono HC4.out.size))
      clear hb v3 z3 v4 z4
      go_wp2
      go_ret
      exact ⟨congrArg (fun v => Ending.returned (.bool v)) HF.out.symm, HB.out.trans ((HR.out.trans ((HB2.out.trans (HC5.out.mono HB2.out.size)).mono HR.out.size)).mono HB.out.size)⟩
theorem RSameBlock_is {x y : BkW} {v : Bool} (h : eqBk x y = v) (w : World) (hx : OneBk w w.heap.size x) (hy : OneBk w w.heap.size y) :
    Calls Tryz.prog 39 #[aggBk x, aggBk y] w fun e w' => e = .returned (.bool v) ∧ Below w.heap.size w w' := h ▸ RSameBlock_any x y w hx hy
end Go.Proofs.YtbdimnncobpfdaaGreat
