/- The mathematics of layer 2: the checksum as a linear map on numbers. No program is named here. -/
import Derived.Test.YtgfeimlieibjhaaBase
namespace Go.Proofs.Ytgfeimlieibjhaa

/-! ### exclusive or -/
theorem xor4 (a b c d : Nat) : (a ^^^ b) ^^^ (c ^^^ d) = (a ^^^ c) ^^^ (b ^^^ d) := by ac_rfl
theorem xor_cancel (a b : Nat) : a ^^^ (a ^^^ b) = b := by rw [← Nat.xor_assoc, Nat.xor_self, Nat.zero_xor]
theorem xor_zero_iff {a b : Nat} : a ^^^ b = 0 ↔ a = b := by
  constructor
  · intro h
    have := xor_cancel a b
    rw [h, Nat.xor_zero] at this
    exact this
  · rintro rfl
    exact Nat.xor_self _
theorem xor_parts (c m k : Nat) (hc : c < 2 ^ k) : c + 2 ^ k * m = c ^^^ (2 ^ k * m) := by
  have hp := Nat.two_pow_pos k
  have h1 : (c ^^^ (2 ^ k * m)) % 2 ^ k = c := by
    rw [Nat.xor_mod_two_pow, Nat.mul_mod_right, Nat.xor_zero, Nat.mod_eq_of_lt hc]
  have h2 : (c ^^^ (2 ^ k * m)) / 2 ^ k = m := by
    rw [Nat.xor_div_two_pow, Nat.mul_div_cancel_left _ hp, Nat.div_eq_of_lt hc, Nat.zero_xor]
  have h3 := Nat.mod_add_div (c ^^^ (2 ^ k * m)) (2 ^ k)
  rw [h1, h2] at h3
  exact h3

theorem mul_xor (k a b : Nat) : 2 ^ k * (a ^^^ b) = 2 ^ k * a ^^^ 2 ^ k * b := by
  have h := @Nat.shiftLeft_xor_distrib k a b
  simp only [Nat.shiftLeft_eq] at h
  rw [Nat.mul_comm, h, Nat.mul_comm a, Nat.mul_comm b]

theorem xor32 {a b : Nat} (ha : a < 4294967296) (hb : b < 4294967296) : a ^^^ b < 4294967296 := by
  have h : (2 : Nat) ^ 32 = 4294967296 := by decide
  rw [← h] at ha hb ⊢
  exact Nat.xor_lt_two_pow ha hb

/-! ### the shift -/
def sh (s : Nat) : Nat := if s % 2 = 1 then s / 2 ^^^ 3988292384 else s / 2
def shN : Nat → Nat → Nat
  | 0, s => s
  | k + 1, s => shN k (sh s)

theorem sh_xor (x y : Nat) : sh (x ^^^ y) = sh x ^^^ sh y := by
  unfold sh
  have h1 : (x ^^^ y) % 2 = 1 ↔ ¬ (x % 2 = 1 ↔ y % 2 = 1) := Nat.xor_mod_two_eq_one
  rw [Nat.xor_div_two]
  by_cases hx : x % 2 = 1 <;> by_cases hy : y % 2 = 1
  · rw [if_pos hx, if_pos hy, if_neg (by rw [h1]; simp [hx, hy]), xor4, Nat.xor_self, Nat.xor_zero]
  · rw [if_pos hx, if_neg hy, if_pos (by rw [h1]; simp [hx, hy])]; ac_rfl
  · rw [if_neg hx, if_pos hy, if_pos (by rw [h1]; simp [hx, hy])]; ac_rfl
  · rw [if_neg hx, if_neg hy, if_neg (by rw [h1]; simp [hx, hy])]
theorem shN_xor (k : Nat) : ∀ x y, shN k (x ^^^ y) = shN k x ^^^ shN k y := by
  induction k with
  | zero => intro x y; rfl
  | succ k ih => intro x y; simp only [shN]; rw [sh_xor, ih]
theorem sh_two (x : Nat) : sh (2 * x) = x := by unfold sh; rw [if_neg (by omega)]; omega
theorem shN_two (k : Nat) : ∀ x, shN k (2 ^ k * x) = x := by
  induction k with
  | zero => intro x; simp [shN]
  | succ k ih => intro x; simp only [shN]; rw [Nat.pow_succ, Nat.mul_comm (2 ^ k) 2, Nat.mul_assoc, sh_two, ih]
theorem shN_add (a : Nat) : ∀ b x, shN (a + b) x = shN b (shN a x) := by
  induction a with
  | zero => intro b x; simp [shN]
  | succ a ih => intro b x; rw [show a + 1 + b = (a + b) + 1 by omega]; simp only [shN]; rw [ih]
theorem sh_last (k x : Nat) : shN (k + 1) x = sh (shN k x) := by rw [shN_add]; rfl
theorem sh_lt {s : Nat} (h : s < 4294967296) : sh s < 4294967296 := by
  unfold sh
  split
  · exact xor32 (by omega) (by decide)
  · omega
theorem shN_lt (k : Nat) : ∀ {s}, s < 4294967296 → shN k s < 4294967296 := by
  induction k with
  | zero => intro s h; exact h
  | succ k ih => intro s h; exact ih (sh_lt h)
theorem sh_zero {s : Nat} (h : s < 4294967296) (h0 : sh s = 0) : s = 0 := by
  unfold sh at h0
  split at h0
  · have := xor_zero_iff.1 h0
    omega
  · omega
theorem shN_zero (k : Nat) : ∀ {s}, s < 4294967296 → shN k s = 0 → s = 0 := by
  induction k with
  | zero => intro s _ h; exact h
  | succ k ih => intro s h h0; exact sh_zero h (ih (sh_lt h) h0)
theorem shN_null (k : Nat) : shN k 0 = 0 := by
  induction k with
  | zero => rfl
  | succ k ih => simp only [shN]; exact ih
theorem shN_inj (k : Nat) {x y : Nat} (hx : x < 4294967296) (hy : y < 4294967296) (h : shN k x = shN k y) : x = y := by
  refine xor_zero_iff.1 (shN_zero k (xor32 hx hy) ?_)
  rw [shN_xor]
  exact xor_zero_iff.2 h

/-! ### strings -/
/-- the number that a string of bytes is, the least significant byte first -/
def num : List Int → Nat
  | [] => 0
  | c :: r => c.toNat + 2 ^ 8 * num r
theorem num_lt : ∀ {xs : List Int}, Byt xs → num xs < 2 ^ (8 * xs.length)
  | [], _ => by simp [num]
  | c :: r, h => by
    have hc := h c (by simp)
    have ih := num_lt (xs := r) fun x hx => h x (by simp [hx])
    simp only [num, List.length_cons]
    rw [show 8 * (r.length + 1) = 8 * r.length + 8 by omega, Nat.pow_add]
    omega
theorem num_inj : ∀ {xs ys : List Int}, Byt xs → Byt ys → xs.length = ys.length → num xs = num ys → xs = ys
  | [], [], _, _, _, _ => rfl
  | [], _ :: _, _, _, h, _ => by simp at h
  | _ :: _, [], _, _, h, _ => by simp at h
  | x :: xs, y :: ys, hx, hy, hl, h => by
    have a := hx x (by simp)
    have b := hy y (by simp)
    simp only [num] at h
    have ih := num_inj (xs := xs) (ys := ys) (fun z hz => hx z (by simp [hz])) (fun z hz => hy z (by simp [hz])) (by simpa using hl) (by omega)
    rw [ih, show x = y by omega]
theorem num_append : ∀ (xs ys : List Int), num (xs ++ ys) = num xs + 2 ^ (8 * xs.length) * num ys
  | [], ys => by simp [num]
  | c :: r, ys => by
    simp only [List.cons_append, num, List.length_cons]
    rw [num_append r ys, show 8 * (r.length + 1) = 8 * r.length + 8 by omega, Nat.pow_add, Nat.mul_add, Nat.mul_comm (2 ^ (8 * r.length)) (2 ^ 8), Nat.mul_assoc]
    omega

/-- the state behind a string of bytes -/
def stepc (s : Nat) (c : Int) : Nat := shN 8 (s ^^^ c.toNat)
def crc (s : Nat) (xs : List Int) : Nat := xs.foldl stepc s
theorem crc_nil (s : Nat) : crc s [] = s := rfl
theorem crc_cons (s : Nat) (c : Int) (r : List Int) : crc s (c :: r) = crc (stepc s c) r := rfl
theorem crc_append (s : Nat) (xs ys : List Int) : crc s (xs ++ ys) = crc (crc s xs) ys := by unfold crc; rw [List.foldl_append]
theorem crc_snoc (s : Nat) (xs : List Int) (c : Int) : crc s (xs ++ [c]) = stepc (crc s xs) c := by rw [crc_append, crc_cons, crc_nil]
theorem stepc_lt {s : Nat} {c : Int} (hc : 0 ≤ c ∧ c < 256) (h : s < 4294967296) : stepc s c < 4294967296 := by
  unfold stepc
  exact shN_lt 8 (xor32 h (by omega))
theorem crc_lt {xs : List Int} : ∀ {s : Nat}, Byt xs → s < 4294967296 → crc s xs < 4294967296 := by
  induction xs with
  | nil => intro s _ h; exact h
  | cons c r ih =>
    intro s hb h
    rw [crc_cons]
    exact ih (fun x hx => hb x (by simp [hx])) (stepc_lt (hb c (by simp)) h)
/-- a string's state is linear in the string's number -/
theorem crc_num {xs : List Int} : ∀ (s : Nat), Byt xs → crc s xs = shN (8 * xs.length) (s ^^^ num xs) := by
  induction xs with
  | nil => intro s _; rw [crc_nil, num, Nat.xor_zero]; rfl
  | cons c r ih =>
    intro s hb
    have hc := hb c (by simp)
    rw [crc_cons, ih _ (fun x hx => hb x (by simp [hx])), num, xor_parts _ _ 8 (by omega), List.length_cons, show 8 * (r.length + 1) = 8 + 8 * r.length by omega, shN_add, ← Nat.xor_assoc, shN_xor 8, shN_two]
    rfl

/-- the table's use -/
theorem byte_step (s c : Nat) : shN 8 (s ^^^ c) = shN 8 ((s % 256) ^^^ c) ^^^ s / 256 := by
  have h := xor_parts (s % 256) (s / 256) 8 (by omega)
  have e : s % 256 + 2 ^ 8 * (s / 256) = s := by omega
  rw [e] at h
  have h2 : s ^^^ c = (s % 256 ^^^ c) ^^^ (2 ^ 8 * (s / 256)) := by
    rw [Nat.xor_assoc, Nat.xor_comm c, ← Nat.xor_assoc, ← h]
  rw [h2, shN_xor, shN_two]

/-! ### the checksum -/
def inv (s : Nat) : Nat := 4294967295 ^^^ s
theorem inv_def (s : Nat) : inv s = 4294967295 ^^^ s := rfl
theorem inv_inv (s : Nat) : inv (inv s) = s := by rw [inv_def, inv_def, xor_cancel]
theorem inv_lt {s : Nat} (h : s < 4294967296) : inv s < 4294967296 := by
  rw [inv_def]
  exact xor32 (by omega) h
def upd (s : Nat) (xs : List Int) : Nat := inv (crc (inv s) xs)
theorem upd_lt {s : Nat} {xs : List Int} (h : s < 4294967296) (hb : Byt xs) : upd s xs < 4294967296 := inv_lt (crc_lt hb (inv_lt h))
theorem upd_upd (s : Nat) (xs ys : List Int) : upd (upd s xs) ys = upd s (xs ++ ys) := by
  unfold upd
  rw [inv_inv, crc_append]
def sum (xs : List Int) : Nat := upd 0 xs
theorem sum_lt {xs : List Int} (hb : Byt xs) : sum xs < 4294967296 := upd_lt (by decide) hb
/-- the bytes of a checksum -/
def sto (s : Nat) : List Int := [((s % 256 : Nat) : Int), ((s / 256 % 256 : Nat) : Int), ((s / 65536 % 256 : Nat) : Int), ((s / 16777216 % 256 : Nat) : Int)]
theorem sto_byt (s : Nat) : Byt (sto s) := by
  intro x hx
  simp only [sto, List.mem_cons, List.not_mem_nil, or_false] at hx
  rcases hx with rfl | rfl | rfl | rfl <;> omega
theorem sto_len (s : Nat) : (sto s).length = 4 := rfl
theorem num_sto {s : Nat} (h : s < 4294967296) : num (sto s) = s := by
  simp only [sto, num, Int.toNat_natCast]
  omega
theorem sto_num {xs : List Int} (hb : Byt xs) (hl : xs.length = 4) : sto (num xs) = xs := by
  have h := num_lt hb
  rw [hl] at h
  exact num_inj (sto_byt _) hb (by rw [sto_len, hl]) (num_sto (by omega))
/-- Check -/
def chk (xs : List Int) : Bool := decide (4 ≤ xs.length ∧ num (xs.drop (xs.length - 4)) = sum (xs.take (xs.length - 4)))
theorem chk_sto (xs : List Int) (h : 4 ≤ xs.length) (hb : Byt xs) : chk xs = decide (xs.drop (xs.length - 4) = sto (sum (xs.take (xs.length - 4)))) := by
  unfold chk
  rw [Bool.eq_iff_iff, decide_eq_true_iff, decide_eq_true_iff]
  have hl : (xs.drop (xs.length - 4)).length = 4 := by rw [List.length_drop]; omega
  constructor
  · rintro ⟨_, e⟩
    rw [← e, sto_num (hb.drop _) hl]
  · intro e
    exact ⟨h, by rw [e, num_sto (sum_lt (hb.take _))]⟩
/-- Check, by the state behind the whole string -/
theorem chk_iff (xs : List Int) (h : 4 ≤ xs.length) (hb : Byt xs) : chk xs = true ↔ crc 4294967295 xs = shN 32 4294967295 := by
  unfold chk
  rw [decide_eq_true_iff]
  have hl : (xs.drop (xs.length - 4)).length = 4 := by rw [List.length_drop]; omega
  have hv := num_lt (hb.drop (xs.length - 4))
  rw [hl] at hv
  have e : crc 4294967295 xs = shN 32 (crc 4294967295 (xs.take (xs.length - 4)) ^^^ num (xs.drop (xs.length - 4))) := by
    have := crc_num (crc 4294967295 (xs.take (xs.length - 4))) (hb.drop (xs.length - 4))
    rw [hl, ← crc_append, List.take_append_drop] at this
    exact this
  have hS := crc_lt (hb.take (xs.length - 4)) (s := 4294967295) (by decide)
  have hs : sum (xs.take (xs.length - 4)) = inv (crc 4294967295 (xs.take (xs.length - 4))) := by
    unfold sum upd
    rw [show inv 0 = 4294967295 from by decide]
  rw [e, hs]
  generalize crc 4294967295 (xs.take (xs.length - 4)) = S at *
  generalize num (xs.drop (xs.length - 4)) = v at *
  constructor
  · rintro ⟨_, rfl⟩
    rw [inv_def, Nat.xor_comm S, Nat.xor_assoc, Nat.xor_self, Nat.xor_zero]
  · intro h'
    refine ⟨h, ?_⟩
    have := shN_inj 32 (xor32 hS (by omega)) (by decide) h'
    rw [inv_def, ← this, Nat.xor_comm S, Nat.xor_assoc, Nat.xor_self, Nat.xor_zero]
theorem chk_app (xs : List Int) (hb : Byt xs) : chk (xs ++ sto (sum xs)) = true := by
  unfold chk
  rw [decide_eq_true_iff]
  have e : (xs ++ sto (sum xs)).length - 4 = xs.length := by rw [List.length_append, sto_len]; omega
  rw [e, List.drop_left, List.take_left, num_sto (sum_lt hb)]
  exact ⟨by rw [List.length_append, sto_len]; omega, rfl⟩

/-- a burst is found -/
theorem burst {xs ys : List Int} {from_ q : Nat} (hx : Byt xs) (hy : Byt ys) (hl : ys.length = xs.length) (h4 : 4 ≤ xs.length) (hc : chk xs = true) (hf : from_ ≤ 8 * xs.length) (hq : q < 4294967296)
    (h : num ys = num xs ^^^ 2 ^ from_ * q) : chk ys = eqB xs ys := by
  have h1 := (chk_iff xs h4 hx).1 hc
  have h2 : crc 4294967295 ys = crc 4294967295 xs ^^^ shN (8 * xs.length - from_) q := by
    rw [crc_num _ hy, crc_num _ hx, hl, h, ← Nat.xor_assoc, shN_xor]
    congr 1
    rw [show 8 * xs.length = from_ + (8 * xs.length - from_) by omega, shN_add, shN_two]
    congr 1
    omega
  rw [Bool.eq_iff_iff, chk_iff ys (by omega) hy, h2, h1]
  unfold eqB
  rw [decide_eq_true_iff]
  constructor
  · intro e
    have e2 : shN (8 * xs.length - from_) q = 0 := by
      have := congrArg (shN 32 4294967295 ^^^ ·) e
      simpa only [xor_cancel, Nat.xor_self] using this
    have := shN_zero _ hq e2
    subst this
    rw [Nat.mul_zero, Nat.xor_zero] at h
    exact num_inj hx hy hl.symm h.symm
  · rintro rfl
    have e2 : 2 ^ from_ * q = 0 := by
      have := congrArg (num xs ^^^ ·) h
      simpa only [xor_cancel, Nat.xor_self, eq_comm] using this
    have hp := Nat.two_pow_pos from_
    have : q = 0 := by
      rcases Nat.eq_zero_or_pos q with h0 | h0
      · exact h0
      · have := Nat.mul_pos hp h0; omega
    rw [this, shN_null, Nat.xor_zero]

/-- inverting the bit k of a string -/
def flip1 (xs : List Int) (k : Nat) : List Int := xs.set (k / 8) (((xs.getD (k / 8) 0).toNat ^^^ 2 ^ (k % 8) : Nat) : Int)
theorem num_set : ∀ (xs : List Int) (j : Nat) (e : Nat), j < xs.length → Byt xs → e < 256 → num (xs.set j (((xs.getD j 0).toNat ^^^ e : Nat) : Int)) = num xs ^^^ 2 ^ (8 * j) * e
  | c :: r, 0, e, _, hb, he => by
    have hc := hb c (by simp)
    have hce : c.toNat ^^^ e < 2 ^ 8 := Nat.xor_lt_two_pow (by omega) (by omega)
    simp only [List.set_cons_zero, num, List.getD_cons_zero, Int.toNat_natCast, Nat.mul_zero, Nat.pow_zero, Nat.one_mul]
    rw [xor_parts _ _ 8 hce, xor_parts _ _ 8 (by omega)]
    ac_rfl
  | c :: r, j + 1, e, hj, hb, he => by
    have hc := hb c (by simp)
    have ih := num_set r j e (by simpa using hj) (fun x hx => hb x (by simp [hx])) he
    simp only [List.set_cons_succ, num, List.getD_cons_succ]
    rw [ih, xor_parts _ _ 8 (by omega), xor_parts _ _ 8 (by omega), show 8 * (j + 1) = 8 + 8 * j by omega, Nat.pow_add, Nat.mul_assoc, Nat.xor_assoc]
    congr 1
    rw [mul_xor]
  | [], j, e, hj, _, _ => by simp at hj
theorem flip1_len (xs : List Int) (k : Nat) : (flip1 xs k).length = xs.length := by unfold flip1; rw [List.length_set]
theorem flip1_byt {xs : List Int} {k : Nat} (hk : k < 8 * xs.length) (hb : Byt xs) : Byt (flip1 xs k) := by
  intro x hx
  have hk2 : k / 8 < xs.length := by omega
  have h0 := hb (xs.getD (k / 8) 0) (by rw [List.getD_eq_getElem?_getD, List.getElem?_eq_getElem hk2]; exact List.getElem_mem hk2)
  unfold flip1 at hx
  rcases List.mem_or_eq_of_mem_set hx with h | rfl
  · exact hb x h
  · have h2 : 2 ^ (k % 8) < 2 ^ 8 := Nat.pow_lt_pow_right (by decide) (by omega)
    have := Nat.xor_lt_two_pow (n := 8) (x := (xs.getD (k / 8) 0).toNat) (y := 2 ^ (k % 8)) (by omega) h2
    omega
theorem flip1_num {xs ys : List Int} {from_ i q : Nat} (hb : Byt ys) (hk : from_ + i < 8 * ys.length) (hq : q < 2 ^ i) (h : num ys = num xs ^^^ 2 ^ from_ * q) :
    num (flip1 ys (from_ + i)) = num xs ^^^ 2 ^ from_ * (q + 2 ^ i) ∧ q + 2 ^ i < 2 ^ (i + 1) := by
  have h2 : 2 ^ ((from_ + i) % 8) < 2 ^ 8 := Nat.pow_lt_pow_right (by decide) (by omega)
  refine ⟨?_, by rw [Nat.pow_succ]; omega⟩
  unfold flip1
  rw [num_set ys _ _ (by omega) hb h2, ← Nat.pow_add, show 8 * ((from_ + i) / 8) + (from_ + i) % 8 = from_ + i by omega, h, Nat.pow_add, Nat.xor_assoc, ← mul_xor]
  have := xor_parts q 1 i hq
  rw [Nat.mul_one] at this
  rw [this]

/-- exclusive or of strings, byte by byte -/
def xor3 (a b c : List Int) (k : Nat) : Int := (((a.getD k 0).toNat ^^^ (b.getD k 0).toNat ^^^ (c.getD k 0).toNat : Nat) : Int)
theorem xor3_num : ∀ (a b c d : List Int), Byt a → Byt b → Byt c → b.length = a.length → c.length = a.length → d.length = a.length → (∀ k, k < a.length → d.getD k 0 = xor3 a b c k) →
    num d = num a ^^^ num b ^^^ num c
  | [], [], [], [], _, _, _, _, _, _, _ => by simp [num]
  | x :: a, y :: b, z :: c, u :: d, ha, hb, hc, h1, h2, h3, h => by
    have bx := ha x (by simp)
    have b_y := hb y (by simp)
    have bz := hc z (by simp)
    have h0 := h 0 (by simp)
    have ih := xor3_num a b c d (fun v hv => ha v (by simp [hv])) (fun v hv => hb v (by simp [hv])) (fun v hv => hc v (by simp [hv])) (by simpa using h1) (by simpa using h2) (by simpa using h3)
      (fun k hk => by simpa [xor3] using h (k + 1) (by simpa using hk))
    simp only [xor3, List.getD_cons_zero] at h0
    have hl : x.toNat ^^^ y.toNat ^^^ z.toNat < 2 ^ 8 := Nat.xor_lt_two_pow (Nat.xor_lt_two_pow (by omega) (by omega)) (by omega)
    simp only [num]
    rw [h0, Int.toNat_natCast, ih, mul_xor, mul_xor, xor_parts _ _ 8 (by omega : x.toNat < 2 ^ 8), xor_parts _ _ 8 (by omega : y.toNat < 2 ^ 8), xor_parts _ _ 8 (by omega : z.toNat < 2 ^ 8), ← mul_xor, ← mul_xor, xor_parts _ _ 8 hl, mul_xor, mul_xor]
    ac_rfl
  | [], _ :: _, _, _, _, _, _, h, _, _, _ => by simp at h
  | [], [], _ :: _, _, _, _, _, _, h, _, _ => by simp at h
  | [], [], [], _ :: _, _, _, _, _, _, h, _ => by simp at h
  | _ :: _, [], _, _, _, _, _, h, _, _, _ => by simp at h
  | _ :: _, _ :: _, [], _, _, _, _, _, h, _, _ => by simp at h
  | _ :: _, _ :: _, _ :: _, [], _, _, _, _, _, h, _ => by simp at h
theorem linear {a b c d : List Int} (ha : Byt a) (hb : Byt b) (hc : Byt c) (hd : Byt d) (h1 : b.length = a.length) (h2 : c.length = a.length) (h3 : d.length = a.length)
    (h : ∀ k, k < a.length → d.getD k 0 = xor3 a b c k) : sum a ^^^ sum b ^^^ sum c ^^^ sum d = 0 := by
  have hn := xor3_num a b c d ha hb hc h1 h2 h3 h
  have e : crc (inv 0) a ^^^ crc (inv 0) b ^^^ crc (inv 0) c ^^^ crc (inv 0) d = 0 := by
    rw [crc_num _ ha, crc_num _ hb, crc_num _ hc, crc_num _ hd, h1, h2, h3, ← shN_xor, ← shN_xor, ← shN_xor, hn]
    have : inv 0 ^^^ num a ^^^ (inv 0 ^^^ num b) ^^^ (inv 0 ^^^ num c) ^^^ (inv 0 ^^^ (num a ^^^ num b ^^^ num c)) = (inv 0 ^^^ inv 0) ^^^ (inv 0 ^^^ inv 0) ^^^ (num a ^^^ num a) ^^^ (num b ^^^ num b) ^^^ (num c ^^^ num c) := by ac_rfl
    rw [this]
    simp only [Nat.xor_self]
    exact shN_null _
  unfold sum upd
  generalize crc (inv 0) a = p at *
  generalize crc (inv 0) b = q at *
  generalize crc (inv 0) c = r at *
  generalize crc (inv 0) d = t at *
  simp only [inv_def]
  have : 4294967295 ^^^ p ^^^ (4294967295 ^^^ q) ^^^ (4294967295 ^^^ r) ^^^ (4294967295 ^^^ t) = (4294967295 ^^^ 4294967295) ^^^ (4294967295 ^^^ 4294967295) ^^^ (p ^^^ q ^^^ r ^^^ t) := by ac_rfl
  rw [this, e]
  simp only [Nat.xor_self]
end Go.Proofs.Ytgfeimlieibjhaa
