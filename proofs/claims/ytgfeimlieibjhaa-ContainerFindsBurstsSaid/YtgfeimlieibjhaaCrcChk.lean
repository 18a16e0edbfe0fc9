/- What crc.Check returns, and the same of the reference. -/
import Derived.Test.YtgfeimlieibjhaaCrcUpd
import Derived.Test.YtgfeimlieibjhaaCrcSto
import Derived.Test.YtgfeimlieibjhaaOwn
import Derived.Laws.StructEq
import Derived.Deep.RegionHeld3
import Derived.Deep.QuietTactic
import Derived.BigQuiet
import Derived.Deep.DeepCutAuto
set_option linter.unusedVariables false
namespace Go.Proofs.Ytgfeimlieibjhaa
open Go.RowKit

/-- two arrays of four bytes -/
theorem eqSto (a b c d a' b' c' d' : Int) (w : World) : (Op.equalIn 10000 75 (.agg #[.int .u8 a, .int .u8 b, .int .u8 c, .int .u8 d]) (.agg #[.int .u8 a', .int .u8 b', .int .u8 c', .int .u8 d'])).run Try.prog w = .ok (eqB [a, b, c, d] [a', b', c', d']) w := by
  have u5 := Try.underlying5
  have a5 := Try.isAgg5
  have z5 := Try.sizeOf5
  rw [show (10000 : Nat) = 9999 + 1 from rfl, Op.equalIn]
  simp only [Sem.run_bind, run_underlying Try.underlying75, Result.andThen_ok]
  simp only [Std.Legacy.Range.forIn_eq_forIn_range', Std.Legacy.Range.size, Nat.sub_zero, Nat.add_sub_cancel, Nat.div_one, List.range'_succ, List.range'_zero, List.forIn_cons, List.forIn_nil]
  go_simp
  unfold eqB
  by_cases h1 : a = a' <;> by_cases h2 : b = b' <;> by_cases h3 : c = c' <;> by_cases h4 : d = d' <;> simp [h1, h2, h3, h4]

theorem arrAt (A : Option Addr) (n c : Nat) (w : World) (h : 4 ≤ n) : (Instr.arrayAt 75 (.slice A n c)).run Try.prog w = .ok (.pointer A) w := by
  simp only [Instr.arrayAt, Sem.run_bind, run_underlying Try.underlying75, Result.andThen_ok]
  rw [if_neg (by omega)]
  rfl

/-- the last four cells -/
theorem last4 {xs : List Int} {m : Nat} (hl : xs.length = m + 4) : ∃ u0 u1 u2 u3, xs.drop m = [u0, u1, u2, u3] ∧ xs[m]? = some u0 ∧ xs[m + 1]? = some u1 ∧ xs[m + 2]? = some u2 ∧ xs[m + 3]? = some u3 := by
  have h4 : (xs.drop m).length = 4 := by rw [List.length_drop]; omega
  have hg : ∀ k, xs[m + k]? = (xs.drop m)[k]? := fun k => by rw [List.getElem?_drop]
  match hd : xs.drop m, h4 with
  | [u0, u1, u2, u3], _ =>
    rw [hd] at hg
    exact ⟨u0, u1, u2, u3, rfl, hg 0, hg 1, hg 2, hg 3⟩

theorem chk_short {xs : List Int} (h : xs.length < 4) : chk xs = false := by
  unfold chk
  rw [decide_eq_false_iff_not]
  omega
theorem chk_lit {xs : List Int} {m : Nat} {u0 u1 u2 u3 : Int} (hl : xs.length = m + 4) (hb : Byt xs) (hd : xs.drop m = [u0, u1, u2, u3]) : eqB [u0, u1, u2, u3] (sto (sum (xs.take m))) = chk xs := by
  rw [chk_sto xs (by omega) hb, hl, show m + 4 - 4 = m by omega, hd]
  rfl

theorem stored_lit (s : Nat) (w : World) (hs : s < 4294967296) (a0 a1 a2 a3 : Int) (h : Hid (sto s = [a0, a1, a2, a3])) :
    Calls Try.prog 35 #[.int .u32 (s : Int)] w fun e w' => e = .returned (.agg #[.int .u8 a0, .int .u8 a1, .int .u8 a2, .int .u8 a3]) ∧ Below w.heap.size w w' := by
  refine (stored_any s w hs).mono ?_
  rintro e w' ⟨rfl, hb⟩
  rw [h.out]
  exact ⟨rfl, hb⟩

set_option maxRecDepth 100000 in
set_option maxHeartbeats 2000000 in
theorem Check_any (A : Option Addr) (n c : Nat) (xs : List Int) (w : World) (B : Nat) (hr : Rd w B A n (u8s xs)) (hB : B ≤ w.heap.size) (hx : Byt xs) (hnc : n ≤ c) (hcm : c ≤ maxLen) :
    Calls Try.prog 52 #[.slice A n c] w fun e w' => e = .returned (.bool (chk xs)) ∧ Below w.heap.size w w' := by
  unfold maxLen at hcm
  have hl : xs.length = n := by simpa using hr.1
  by_cases hn : n < 4
  · have hk := hide (chk_short (xs := xs) (by omega))
    clear hl
    have hi : (n : Int) < 4 := by omega
    go_enter Try.func52, Try.ntmps52
    go_wp2
    go_ret
    exact ⟨by rw [hk.out]; rfl, Below.refl _ _⟩
  · obtain ⟨m, rfl⟩ : ∃ m, n = m + 4 := ⟨n - 4, by omega⟩
    obtain ⟨u0, u1, u2, u3, hd, e0, e1, e2, e3⟩ := last4 hl
    have hfin := hide (chk_lit hl hx hd)
    have hs := sum_lt (hx.take m)
    obtain ⟨a0, a1, a2, a3, hsto⟩ : ∃ a0 a1 a2 a3, Hid (sto (sum (xs.take m)) = [a0, a1, a2, a3]) := ⟨_, _, _, _, rfl⟩
    rw [hsto.out] at hfin
    have hp := hr.to_ (k := m) (by omega)
    rw [← List.map_take] at hp
    have hxt := hx.take m
    obtain ⟨b, o, rfl, hb, hcell⟩ := hr.2 (by omega)
    have c0 := hcell m (.int .u8 u0) (by rw [List.getElem?_map, e0]; rfl)
    have c1 := hcell (m + 1) (.int .u8 u1) (by rw [List.getElem?_map, e1]; rfl)
    have c2 := hcell (m + 2) (.int .u8 u2) (by rw [List.getElem?_map, e2]; rfl)
    have c3 := hcell (m + 3) (.int .u8 u3) (by rw [List.getElem?_map, e3]; rfl)
    rw [← Nat.add_assoc] at c1 c2 c3
    clear hcell e0 e1 e2 e3 hd hl
    generalize hys : xs.take m = ys at *
    clear hys
    have hi : ¬ ((m : Int) + 4 < 4) := by omega
    have k0 : (0 : Int) ≤ (m : Int) := by omega
    have k1 : (m : Int) ≤ (m : Int) + 4 := by omega
    have k2 : (m : Int) + 4 ≤ (c : Int) := by omega
    have k3 : (m : Int) ≤ (c : Int) := by omega
    have k4 : ¬ c = m := by omega
    have k5 : m ≤ c := by omega
    go_enter Try.func52, Try.ntmps52
    go_wp2
    have hS := hide fun (w' : World) (hb' : Below w.heap.size w w') => (⟨hb', (hb'.cell (p := ⟨b, o + m, none⟩) (by show b < _; omega)).trans c0, (hb'.cell (p := ⟨b, o + m + 1, none⟩) (by show b < _; omega)).trans c1,
      (hb'.cell (p := ⟨b, o + m + 2, none⟩) (by show b < _; omega)).trans c2, (hb'.cell (p := ⟨b, o + m + 3, none⟩) (by show b < _; omega)).trans c3⟩ : Below w.heap.size w w' ∧ w'.cell? ⟨b, o + m, none⟩ = some (.int .u8 u0) ∧
      w'.cell? ⟨b, o + m + 1, none⟩ = some (.int .u8 u1) ∧ w'.cell? ⟨b, o + m + 2, none⟩ = some (.int .u8 u2) ∧ w'.cell? ⟨b, o + m + 3, none⟩ = some (.int .u8 u3))
    have hA := fun (w' : World) (cc : Nat) => arrAt (some ⟨b, o + m, none⟩) 4 cc w' (by omega)
    have hE := fun w' => eqSto u0 u1 u2 u3 a0 a1 a2 a3 w'
    go_region_held3 (fun w' => Below w.heap.size w w' ∧ w'.cell? ⟨b, o + m, none⟩ = some (.int .u8 u0) ∧ w'.cell? ⟨b, o + m + 1, none⟩ = some (.int .u8 u1) ∧ w'.cell? ⟨b, o + m + 2, none⟩ = some (.int .u8 u2) ∧ w'.cell? ⟨b, o + m + 3, none⟩ = some (.int .u8 u3))
      (first | exact hS.out _ (by assumption) | exact hS.out _ (Below.refl _ _) | exact hS.out _ (Below.refl _ _).drew)
      (first
        | (go_at_call 36; go_split_ands; refine (Sum_any (some ⟨b, o, none⟩) m _ ys _ B (hp.below ((by assumption : Below w.heap.size w _).mono hB)) (Nat.le_trans hB (by assumption : Below w.heap.size w _).size) hxt (by omega)).mono ?_; rintro e w1 ⟨rfl, hb1⟩; have hb1' := (by assumption : Below w.heap.size w _).trans (hb1.mono (by assumption : Below w.heap.size w _).size))
        | (go_at_call 35; go_split_ands; refine (stored_lit _ _ hs a0 a1 a2 a3 hsto).mono ?_; rintro e w2 ⟨rfl, hb2⟩; have hb2' := (by assumption : Below w.heap.size w _).trans (hb2.mono (by assumption : Below w.heap.size w _).size)))
    all_goals
      go_split_ands
      go_wp2
      go_ret
      exact ⟨congrArg (fun v => Ending.returned (.bool v)) hfin.out, by assumption⟩

/-! ### the reference -/
theorem chk_ref {xs : List Int} {m : Nat} {u0 u1 u2 u3 : Int} (hl : xs.length = m + 4) (hb : Byt xs) (hd : xs.drop m = [u0, u1, u2, u3]) : (((sum (xs.take m) : Nat) : Int) == u0 + u1 * 256 + u2 * 65536 + u3 * 16777216) = chk xs := by
  have hbd := hb.drop m
  rw [hd] at hbd
  have b0 := hbd u0 (by simp)
  have b1 := hbd u1 (by simp)
  have b2 := hbd u2 (by simp)
  have b3 := hbd u3 (by simp)
  unfold chk
  rw [hl, show m + 4 - 4 = m by omega, hd, Bool.eq_iff_iff, beq_iff_eq, decide_eq_true_iff]
  simp only [num]
  constructor
  · intro h; exact ⟨by omega, by omega⟩
  · rintro ⟨_, h⟩; omega
theorem belowN (w : World) (n : Nat) : Below w.heap.size w (w.drewN n) := by
  have h : ∀ k (w1 : World), Below w.heap.size w w1 → Below w.heap.size w (w1.drewN k) := by
    intro k
    induction k with
    | zero => intro w1 h; exact h
    | succ k ih => intro w1 h; exact (ih w1 h).drew
  exact h n w (Below.refl _ _)

set_option maxRecDepth 100000 in
set_option maxHeartbeats 4000000 in
theorem RefCheck_any (A : Option Addr) (n c : Nat) (xs : List Int) (w : World) (B : Nat) (hr : Rd w B A n (u8s xs)) (hB : B ≤ w.heap.size) (hx : Byt xs) (hnc : n ≤ c) (hcm : c ≤ maxLen) :
    Calls Try.prog 31 #[.slice A n c] w fun e w' => e = .returned (.bool (chk xs)) ∧ Below w.heap.size w w' := by
  unfold maxLen at hcm
  have hl : xs.length = n := by simpa using hr.1
  by_cases hn : n < 4
  · have hk := hide (chk_short (xs := xs) (by omega))
    clear hl
    have hi : (n : Int) < 4 := by omega
    go_enter Try.func31, Try.ntmps31
    go_wp2
    go_ret
    exact ⟨by rw [hk.out]; rfl, Below.refl _ _⟩
  · obtain ⟨m, rfl⟩ : ∃ m, n = m + 4 := ⟨n - 4, by omega⟩
    obtain ⟨u0, u1, u2, u3, hd, e0, e1, e2, e3⟩ := last4 hl
    have hfin := hide (chk_ref hl hx hd)
    have hs := sum_lt (hx.take m)
    have hp := hr.to_ (k := m) (by omega)
    rw [← List.map_take] at hp
    have hxt := hx.take m
    obtain ⟨p0, q0⟩ := hx.at e0
    obtain ⟨p1, q1⟩ := hx.at e1
    obtain ⟨p2, q2⟩ := hx.at e2
    obtain ⟨p3, q3⟩ := hx.at e3
    obtain ⟨b, o, rfl, hb, hcell⟩ := hr.2 (by omega)
    have c0 := hcell m (.int .u8 u0) (by rw [List.getElem?_map, e0]; rfl)
    have c1 := hcell (m + 1) (.int .u8 u1) (by rw [List.getElem?_map, e1]; rfl)
    have c2 := hcell (m + 2) (.int .u8 u2) (by rw [List.getElem?_map, e2]; rfl)
    have c3 := hcell (m + 3) (.int .u8 u3) (by rw [List.getElem?_map, e3]; rfl)
    clear hcell e0 e1 e2 e3 hd hl
    generalize hys : xs.take m = ys at *
    clear hys
    have hi : ¬ ((m : Int) + 4 < 4) := by omega
    have k0 : (0 : Int) ≤ (m : Int) := by omega
    have k1 : (m : Int) < (m : Int) + 4 := by omega
    have k2 : (m : Int) + 4 ≤ (c : Int) := by omega
    have k3 : (m : Int) ≤ (c : Int) := by omega
    have k4 : ¬ c = m := by omega
    have k5 : m ≤ c := by omega
    go_enter Try.func31, Try.ntmps31
    go_wp2
    go_quiet (fail)
    go_wp2_with (go_at_call 38; refine (RefSum_any (some ⟨b, o, none⟩) m _ ys _ B (hp.below ((belowN w _).mono hB)) hxt (by omega)).mono ?_; rintro e w1 ⟨rfl, rfl⟩)
    go_ret
    exact ⟨congrArg (fun v => Ending.returned (.bool v)) hfin.out, belowN _ _⟩
end Go.Proofs.Ytgfeimlieibjhaa
