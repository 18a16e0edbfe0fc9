/- The mathematics of layer 1: encodings of numbers in groups of seven bits, as lists. No program is named here. -/
import Derived.Below
import Derived.Lib.BitFns
namespace Go.Proofs.YtbdimnncobpfdaaGreat

/-- the encoding of a number -/
def vput (n : Nat) : List Int := if n < 128 then [(n : Int)] else ((n % 128 + 128 : Nat) : Int) :: vput (n / 128)
termination_by n
decreasing_by omega

theorem vput_small {n : Nat} (h : n < 128) : vput n = [(n : Int)] := by rw [vput, if_pos h]
theorem vput_big {n : Nat} (h : 128 ≤ n) : vput n = ((n % 128 + 128 : Nat) : Int) :: vput (n / 128) := by rw [vput, if_neg (by omega)]

theorem vput_byte (n : Nat) : ∀ x ∈ vput n, 0 ≤ x ∧ x < 256 := by
  induction n using Nat.strongRecOn with
  | _ n ih =>
    intro x hx
    by_cases h : n < 128
    · rw [vput_small h] at hx
      simp at hx
      omega
    · rw [vput_big (by omega)] at hx
      rcases List.mem_cons.1 hx with rfl | hx
      · omega
      · exact ih (n / 128) (by omega) x hx

/-- its length, by the number of bits -/
theorem vput_length (n : Nat) : ∀ k, (n < 128 ^ (k + 1) → (vput n).length ≤ k + 1) ∧ (128 ^ (k + 1) ≤ n → k + 2 ≤ (vput n).length) := by
  induction n using Nat.strongRecOn with
  | _ n ih =>
    intro k
    by_cases h : n < 128
    · rw [vput_small h]
      refine ⟨fun _ => by simp, fun h' => ?_⟩
      have : 128 ^ 1 ≤ 128 ^ (k + 1) := Nat.pow_le_pow_right (by decide) (by omega)
      omega
    · rw [vput_big (by omega)]
      cases k with
      | zero =>
        refine ⟨fun h' => by omega, fun _ => ?_⟩
        have : 1 ≤ (vput (n / 128)).length := by
          rw [vput]; split <;> simp
        simp; omega
      | succ k =>
        have := ih (n / 128) (by omega) k
        have e : 128 ^ (k + 1 + 1) = 128 ^ (k + 1) * 128 := Nat.pow_succ ..
        refine ⟨fun h' => ?_, fun h' => ?_⟩
        · have := this.1 (by rw [Nat.div_lt_iff_lt_mul (by decide)]; omega)
          simp; omega
        · have := this.2 (by rw [Nat.le_div_iff_mul_le (by decide)]; omega)
          simp; omega

theorem vput_pos (n : Nat) : 1 ≤ (vput n).length := by rw [vput]; split <;> simp

/-- the number of bits -/
theorem bitLenAux_le : ∀ f x k, x < 2 ^ f → (Lib.bitLenAux f x ≤ k ↔ x < 2 ^ k) := by
  intro f
  induction f with
  | zero => intro x k h; have : x = 0 := by simpa using h
            subst this; simp [Lib.bitLenAux, Nat.two_pow_pos]
  | succ f ih =>
    intro x k h
    unfold Lib.bitLenAux
    by_cases h0 : x = 0
    · subst h0; simp [Nat.two_pow_pos]
    · rw [if_neg h0]
      cases k with
      | zero => simp; omega
      | succ k =>
        have e := ih (x / 2) k (by rw [Nat.pow_succ] at h; omega)
        rw [Nat.pow_succ]
        omega
theorem bitLen_lt {n k : Nat} (h : n < 2 ^ 64) : Lib.bitLen n ≤ k ↔ n < 2 ^ k := bitLenAux_le 64 n k h

/-- the length of an encoding, as the code computes it -/
theorem vput_size (n : Nat) (h : n < 2 ^ 64) : (vput n).length = (Lib.bitLen (n ||| 1) + 6) / 7 := by
  have hor : ∀ k, n ||| 1 < 2 ^ (k + 1) ↔ n < 2 ^ (k + 1) := fun k =>
    ⟨fun h => Nat.lt_of_le_of_lt Nat.left_le_or h, fun h => Nat.or_lt_two_pow h (Nat.one_lt_two_pow (by omega))⟩
  have ho : n ||| 1 < 2 ^ 64 := (hor 63).2 h
  have hb : ∀ k, Lib.bitLen (n ||| 1) ≤ k + 1 ↔ n < 2 ^ (k + 1) := fun k => by rw [bitLen_lt ho, hor]
  have hp : ∀ k : Nat, 128 ^ k = 2 ^ (7 * k) := fun k => by rw [Nat.pow_mul]
  have h1 := vput_pos n
  have h10 := (vput_length n 9).1 (by have : (128 : Nat) ^ (9 + 1) = 2 ^ 64 * 64 := by decide
                                      omega)
  have hone : 1 ≤ Lib.bitLen (n ||| 1) := by
    rcases Nat.eq_zero_or_pos (Lib.bitLen (n ||| 1)) with h0 | h0
    · have := (bitLen_lt (n := n ||| 1) (k := 0) ho).1 (by omega)
      have h2 : 1 ≤ n ||| 1 := Nat.right_le_or
      omega
    · exact h0
  have h64 := (hb 63).2 h
  -- for each length l: bitLen ≤ 7 l exactly if the length is at most l
  have key : ∀ l, l < 10 → (Lib.bitLen (n ||| 1) ≤ 7 * (l + 1) ↔ (vput n).length ≤ l + 1) := by
    intro l hl
    have hv := vput_length n l
    rw [hp] at hv
    have e : 7 * (l + 1) = (7 * l + 6) + 1 := by omega
    rw [e] at hv ⊢
    rw [hb (7 * l + 6)]
    constructor
    · exact hv.1
    · intro h'
      rcases Nat.lt_or_ge n (2 ^ (7 * l + 6 + 1)) with hlt | hge
      · exact hlt
      · have := hv.2 hge; omega
  have k0 := key 0 (by omega); have k1 := key 1 (by omega); have k2 := key 2 (by omega); have k3 := key 3 (by omega); have k4 := key 4 (by omega)
  have k5 := key 5 (by omega); have k6 := key 6 (by omega); have k7 := key 7 (by omega); have k8 := key 8 (by omega)
  omega

theorem vput_mono {a b : Nat} (h : a ≤ b) : (vput a).length ≤ (vput b).length := by
  induction b using Nat.strongRecOn generalizing a with
  | _ b ih =>
    by_cases hb : b < 128
    · rw [vput_small hb, vput_small (by omega)]; simp
    · rw [vput_big (n := b) (by omega)]
      by_cases ha : a < 128
      · rw [vput_small ha]; simp
      · rw [vput_big (n := a) (by omega)]
        have := ih (b / 128) (by omega) (a := a / 128) (Nat.div_le_div_right h)
        simp; omega
theorem vput_one {a : Nat} : (vput a).length = 1 ↔ a < 128 := by
  by_cases ha : a < 128
  · rw [vput_small ha]; simp [ha]
  · rw [vput_big (by omega)]
    have := vput_pos (a / 128)
    rw [List.length_cons]
    omega
theorem vput_le10 {a : Nat} (h : a < 2 ^ 64) : (vput a).length ≤ 10 :=
  (vput_length a 9).1 (by have : (128 : Nat) ^ (9 + 1) = 2 ^ 64 * 64 := by decide
                          omega)

/-! ### reading -/
/-- reading from the group number k on, acc being read: the number, how many bytes it takes, the error -/
def vgo : List Int → Nat → Nat → Nat × Nat × Nat
  | [], _, _ => (0, 0, 4)
  | c :: r, k, acc =>
    if k = 9 ∧ 1 < c then (0, 0, 6)
    else if c < 128 then (if 0 < k ∧ c = 0 then (0, 0, 5) else (acc + c.toNat * 128 ^ k, k + 1, 0))
    else vgo r (k + 1) (acc + (c.toNat - 128) * 128 ^ k)

/-- Get, of the whole string -/
def vget (xs : List Int) (at_ : Int) : Int × Int × Int :=
  if at_ < 0 ∨ (xs.length : Int) < at_ then (0, 0, 2)
  else match vgo (xs.drop at_.toNat) 0 0 with
    | (n, l, e) => if e = 0 then (n, at_ + l, 0) else (0, 0, e)
def gN (xs : List Int) (at_ : Int) : Int := (vget xs at_).1
def gT (xs : List Int) (at_ : Int) : Int := (vget xs at_).2.1
def gE (xs : List Int) (at_ : Int) : Int := (vget xs at_).2.2

theorem vgo_err {xs : List Int} {k acc n l e : Nat} (h : vgo xs k acc = (n, l, e)) (he : e ≠ 0) : n = 0 ∧ l = 0 := by
  induction xs generalizing k acc with
  | nil => simp only [vgo, Prod.mk.injEq] at h; omega
  | cons c r ih =>
    unfold vgo at h
    split at h
    · simp only [Prod.mk.injEq] at h; omega
    · split at h
      · split at h <;> simp only [Prod.mk.injEq] at h <;> omega
      · exact ih h

/-- what is put is read back, whatever follows -/
theorem vgo_put (n : Nat) : ∀ k acc rest, n < 2 ^ (64 - 7 * k) → (k ≠ 0 → 0 < n) → k ≤ 9 → vgo (vput n ++ rest) k acc = (acc + n * 128 ^ k, k + (vput n).length, 0) := by
  induction n using Nat.strongRecOn with
  | _ n ih =>
    intro k acc rest hn hk hk9
    by_cases h : n < 128
    · rw [vput_small h]
      simp only [List.cons_append, List.nil_append, vgo]
      have h9 : ¬ (k = 9 ∧ 1 < (n : Int)) := by
        rintro ⟨rfl, h1⟩
        have : n < 2 := by simpa using hn
        omega
      rw [if_neg h9, if_pos (by omega), if_neg (by omega)]
      simp
    · rw [vput_big (by omega)]
      have hk9' : k < 9 := by
        rcases Nat.lt_or_ge k 9 with h9 | h9
        · exact h9
        · obtain rfl : k = 9 := by omega
          have : n < 2 := by simpa using hn
          omega
      simp only [List.cons_append, vgo]
      rw [if_neg (by omega), if_neg (by omega)]
      have e64 : 2 ^ (64 - 7 * k) = 2 ^ (64 - 7 * (k + 1)) * 128 := by
        rw [show 64 - 7 * k = (64 - 7 * (k + 1)) + 7 by omega, Nat.pow_add]
      rw [ih (n / 128) (by omega) (k + 1) _ rest (by rw [Nat.div_lt_iff_lt_mul (by decide)]; omega) (fun _ => by omega) (by omega)]
      have ep : 128 ^ (k + 1) = 128 ^ k * 128 := Nat.pow_succ ..
      have e1 : ((n % 128 + 128 : Nat) : Int).toNat - 128 = n % 128 := by omega
      have e2 : n % 128 * 128 ^ k + n / 128 * 128 ^ (k + 1) = n * 128 ^ k := by
        rw [ep, Nat.mul_comm (128 ^ k) 128, ← Nat.mul_assoc, ← Nat.add_mul, show n % 128 + n / 128 * 128 = n by omega]
      rw [e1, Nat.add_assoc, e2]
      simp
      omega

/-- a proper beginning is not an encoding -/
theorem vgo_cut (n : Nat) : ∀ k acc j, n < 2 ^ (64 - 7 * k) → k ≤ 9 → j < (vput n).length → vgo ((vput n).take j) k acc = (0, 0, 4) := by
  induction n using Nat.strongRecOn with
  | _ n ih =>
    intro k acc j hn hk9 hj
    cases j with
    | zero => simp [vgo]
    | succ j =>
      by_cases h : n < 128
      · rw [vput_small h] at hj; simp at hj
      · rw [vput_big (by omega)] at hj ⊢
        have hk9' : k < 9 := by
          rcases Nat.lt_or_ge k 9 with h9 | h9
          · exact h9
          · obtain rfl : k = 9 := by omega
            have : n < 2 := by simpa using hn
            omega
        simp only [List.take_succ_cons, vgo]
        rw [if_neg (by omega), if_neg (by omega)]
        have e64 : 2 ^ (64 - 7 * k) = 2 ^ (64 - 7 * (k + 1)) * 128 := by
          rw [show 64 - 7 * k = (64 - 7 * (k + 1)) + 7 by omega, Nat.pow_add]
        exact ih (n / 128) (by omega) (k + 1) _ j (by rw [Nat.div_lt_iff_lt_mul (by decide)]; omega) (by omega) (by simp at hj; omega)

/-- whatever is read is an encoding -/
theorem vgo_canon {xs : List Int} (hb : ∀ x ∈ xs, 0 ≤ x ∧ x < 256) : ∀ {k acc n l : Nat}, k ≤ 9 → vgo xs k acc = (n, l, 0) →
    ∃ m, n = acc + m * 128 ^ k ∧ m < 2 ^ (64 - 7 * k) ∧ (k ≠ 0 → 0 < m) ∧ vput m <+: xs ∧ l = k + (vput m).length := by
  induction xs with
  | nil => intro k acc n l _ h; simp [vgo] at h
  | cons c r ih =>
    intro k acc n l hk h
    have hc := hb c (by simp)
    have hr : ∀ x ∈ r, 0 ≤ x ∧ x < 256 := fun x hx => hb x (by simp [hx])
    have hpow : k < 9 → (2 : Nat) ^ (64 - 7 * k) = 2 ^ (64 - 7 * (k + 1)) * 128 := fun h9 => by
      rw [show 64 - 7 * k = (64 - 7 * (k + 1)) + 7 by omega, Nat.pow_add]
    unfold vgo at h
    split at h
    · simp only [Prod.mk.injEq] at h; omega
    · rename_i h9
      split at h
      · rename_i hlt
        split at h
        · simp only [Prod.mk.injEq] at h; omega
        · rename_i h0
          simp only [Prod.mk.injEq] at h
          obtain ⟨rfl, rfl, _⟩ := h
          have hm : c.toNat < 128 := by omega
          refine ⟨c.toNat, rfl, ?_, fun hk0 => by omega, ?_, ?_⟩
          · rcases Nat.lt_or_ge k 9 with h9' | h9'
            · have := Nat.two_pow_pos (64 - 7 * (k + 1))
              rw [hpow h9']; omega
            · obtain rfl : k = 9 := by omega
              simp; omega
          · rw [vput_small hm]
            exact ⟨r, by simp; omega⟩
          · rw [vput_small hm]; simp
      · rename_i hge
        have hk9 : k < 9 := by
          rcases Nat.lt_or_ge k 9 with h9' | h9'
          · exact h9'
          · exact absurd ⟨by omega, by omega⟩ h9
        obtain ⟨m, hn, hm, hpos, ⟨t, ht⟩, hl⟩ := ih hr (by omega) h
        have hm0 := hpos (by omega)
        have hbig : 128 ≤ (c.toNat - 128) + m * 128 := by omega
        have hd : ((c.toNat - 128) + m * 128) / 128 = m := by omega
        have hmod : (((c.toNat - 128) + m * 128) % 128 + 128 : Nat) = c.toNat := by omega
        refine ⟨(c.toNat - 128) + m * 128, ?_, ?_, fun _ => by omega, ?_, ?_⟩
        · rw [hn, Nat.pow_succ, Nat.add_mul, Nat.add_assoc]
          congr 2
          rw [Nat.mul_assoc, Nat.mul_comm 128]
        · rw [hpow hk9]; omega
        · rw [vput_big hbig, hd, hmod]
          exact ⟨t, by rw [List.cons_append, ht]; simp; omega⟩
        · rw [vput_big hbig, hd]
          simp; omega
end Go.Proofs.YtbdimnncobpfdaaGreat
