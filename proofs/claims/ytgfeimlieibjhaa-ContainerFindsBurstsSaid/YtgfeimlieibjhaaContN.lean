/- The mathematics of layer 4: what is found, what is rejected. No program is named here. -/
import Derived.Test.YtgfeimlieibjhaaContM
set_option linter.unusedVariables false
namespace Go.Proofs.Ytgfeimlieibjhaa

theorem ordL_split : ∀ {L1 : List Sec} {s : Sec} {L2 : List Sec} {b : Int}, ordL b (L1 ++ s :: L2) = true → ordL b L1 = true ∧ folB s.1 (lastId b L1) = true ∧ ordL s.1 L2 = true
  | [], s, L2, b, h => by
    simp only [List.nil_append, ordL, Bool.and_eq_true] at h
    exact ⟨rfl, h.1, h.2⟩
  | t :: L1, s, L2, b, h => by
    simp only [List.cons_append, ordL, Bool.and_eq_true] at h
    have ih := ordL_split h.2
    exact ⟨by simp only [ordL, Bool.and_eq_true]; exact ⟨h.1, ih.1⟩, ih.2.1, ih.2.2⟩
theorem lastId_app : ∀ (L1 : List Sec) (s : Sec) (b : Int), lastId b (L1 ++ [s]) = s.1
  | [], _, _ => rfl
  | _ :: L1, s, _ => lastId_app L1 s _
theorem lastId_ge : ∀ {L : List Sec} {b : Int}, ordL b L = true → b ≤ lastId b L ∧ (b ≤ 127 → lastId b L ≤ 127)
  | [], b, _ => ⟨Int.le_refl _, fun h => h⟩
  | s :: L, b, h => by
    simp only [ordL, Bool.and_eq_true] at h
    have h1 := folB_iff.1 h.1
    have ih := lastId_ge h.2
    refine ⟨by show b ≤ lastId s.1 L; omega, fun _ => ih.2 h1.2⟩
theorem ordL_ids : ∀ {L : List Sec} {b : Int}, ordL b L = true → ∀ s ∈ L, b < s.1 ∧ s.1 ≤ 127
  | [], _, _, s, hs => by cases hs
  | t :: L, b, h, s, hs => by
    simp only [ordL, Bool.and_eq_true] at h
    have h1 := folB_iff.1 h.1
    rcases List.mem_cons.1 hs with rfl | hs
    · exact h1
    · have := ordL_ids h.2 s hs
      exact ⟨by omega, this.2⟩
theorem encC_byt {L : List Sec} (ho : ordL 0 L = true) (hb : ∀ s ∈ L, Byt s.2) : Byt (encC L) := by
  intro x hx
  unfold encC at hx
  rcases List.mem_append.1 hx with hx | hx
  · simp only [magicL, List.mem_cons, List.not_mem_nil, or_false] at hx
    omega
  · obtain ⟨s, hs, hx⟩ := List.mem_flatMap.1 hx
    have := ordL_ids ho s hs
    exact encS_byt (by omega) (by omega) (hb s hs) x hx

/-! ### where the data of a section lie -/
theorem frs_at : ∀ {L : List Sec} {off i : Nat} {s : Sec}, L[i]? = some s → (frs off L)[i]? = some (frS (off + ((L.take i).flatMap encS).length) s)
  | [], off, i, s, h => by simp at h
  | t :: L, off, 0, s, h => by
    simp at h
    subst h
    simp [frs]
  | t :: L, off, i + 1, s, h => by
    have h' : L[i]? = some s := by simpa using h
    have := frs_at (off := off + (encS t).length) h'
    simp only [frs, List.getElem?_cons_succ, List.take_succ_cons, List.flatMap_cons, List.length_append]
    rw [this, Nat.add_assoc]
theorem enc_parts {L : List Sec} {i : Nat} {s : Sec} (h : L[i]? = some s) :
    encC L = (encC (L.take i) ++ s.1 :: vput s.2.length) ++ (s.2 ++ (sto (sum s.2) ++ (L.drop (i + 1)).flatMap encS)) := by
  have hL : L = L.take i ++ s :: L.drop (i + 1) := by
    have hi : i < L.length := by
      rcases Nat.lt_or_ge i L.length with h' | h'
      · exact h'
      · rw [List.getElem?_eq_none h'] at h; cases h
    have hs : L[i] = s := by rw [List.getElem?_eq_getElem hi] at h; simpa using h
    rw [← hs, List.getElem_cons_drop hi, List.take_append_drop]
  conv => lhs; rw [hL]
  unfold encC
  rw [List.flatMap_append, List.flatMap_cons]
  simp only [encS, List.append_assoc, List.cons_append]
theorem frS_fr {L : List Sec} {i : Nat} {s : Sec} : (frS (5 + ((L.take i).flatMap encS).length) s).fr = (encC (L.take i) ++ s.1 :: vput s.2.length).length := by
  unfold frS encC magicL
  simp only [List.length_append, List.length_cons, List.length_nil]
  omega
theorem frS_to {L : List Sec} {i : Nat} {s : Sec} : (frS (5 + ((L.take i).flatMap encS).length) s).to = (encC (L.take i) ++ s.1 :: vput s.2.length).length + s.2.length := by
  rw [← frS_fr]
  rfl
/-- the container with the data of one section replaced -/
theorem put_parts {L : List Sec} {i : Nat} {s : Sec} {ys : List Int} (h : L[i]? = some s) (hy : ys.length = s.2.length) :
    (encC L).take (frS (5 + ((L.take i).flatMap encS).length) s).fr ++ (ys ++ (encC L).drop (frS (5 + ((L.take i).flatMap encS).length) s).to) =
      encC (L.take i) ++ (s.1 :: (vput ys.length ++ (ys ++ sto (sum s.2))) ++ (L.drop (i + 1)).flatMap encS) := by
  have h1 : (encC L).take (encC (L.take i) ++ s.1 :: vput s.2.length).length = encC (L.take i) ++ s.1 :: vput s.2.length := by
    rw [enc_parts h, List.take_left]
  have h2 : (encC L).drop ((encC (L.take i) ++ s.1 :: vput s.2.length).length + s.2.length) = sto (sum s.2) ++ (L.drop (i + 1)).flatMap encS := by
    rw [enc_parts h, ← List.drop_drop, List.drop_left, List.drop_left]
  rw [frS_fr, frS_to, h1, h2, hy]
  simp only [List.append_assoc, List.cons_append]
theorem dat_parts {L : List Sec} {i : Nat} {s : Sec} (h : L[i]? = some s) :
    ((encC L).drop (frS (5 + ((L.take i).flatMap encS).length) s).fr).take s.2.length = s.2 := by
  rw [frS_fr, enc_parts h, List.drop_left, List.take_left]
theorem rdE_put {L : List Sec} {i : Nat} {s : Sec} {ys : List Int} (ho : ordL 0 L = true) (hb : ∀ s ∈ L, Byt s.2 ∧ s.2.length < 2 ^ 64) (h : L[i]? = some s) (hy : ys.length = s.2.length) (hc : chk (ys ++ sto (sum s.2)) = false) :
    rdE ((encC L).take (frS (5 + ((L.take i).flatMap encS).length) s).fr ++ (ys ++ (encC L).drop (frS (5 + ((L.take i).flatMap encS).length) s).to)) = 10 := by
  rw [put_parts h hy]
  have hi : i < L.length := by
    rcases Nat.lt_or_ge i L.length with h' | h'
    · exact h'
    · rw [List.getElem?_eq_none h'] at h; cases h
  have hL : L = L.take i ++ s :: L.drop (i + 1) := by
    have hs : L[i] = s := by rw [List.getElem?_eq_getElem hi] at h; simpa using h
    rw [← hs, List.getElem_cons_drop hi, List.take_append_drop]
  rw [hL] at ho
  obtain ⟨o1, o2, _⟩ := ordL_split ho
  have hb1 : ∀ s ∈ L.take i, Byt s.2 ∧ s.2.length < 2 ^ 64 := fun s hs => hb s (List.mem_of_mem_take hs)
  have hf := frm_put (p := encC (L.take i)) (rest := (L.drop (i + 1)).flatMap encS) (ys := ys) (sm := sto (sum s.2)) o2 (by rw [hy]; exact (hb s (List.mem_of_getElem? h)).2) (sto_len _)
  rw [if_pos hc] at hf
  unfold rdE
  rw [yall_encR o1 hb1, seq_err (by simp only [List.length_append, List.length_cons]; omega) (by rw [hf]; simp [Fr.err]), hf, firstE_app (frs_zero _ _), firstE_bad (by simp [Fr.err])]
  rfl
/-- bits of the data that are inverted are found -/
theorem burst_dat {xs ys : List Int} {from_ q : Nat} (hx : Byt xs) (hy : Byt ys) (hl : ys.length = xs.length) (hf : from_ ≤ 8 * xs.length) (hq : q < 4294967296) (h : num ys = num xs ^^^ 2 ^ from_ * q) : chk (ys ++ sto (sum xs)) = eqB xs ys := by
  have hs := sto_byt (sum xs)
  have hx2 := num_lt hx
  have hy2 := num_lt hy
  rw [hl] at hy2
  have hz : num (ys ++ sto (sum xs)) = num (xs ++ sto (sum xs)) ^^^ 2 ^ from_ * q := by
    rw [num_append, num_append, hl, xor_parts _ _ _ hy2, xor_parts _ _ _ hx2, h]
    rw [Nat.xor_assoc, Nat.xor_assoc, Nat.xor_comm (2 ^ from_ * q)]
  rw [burst (hx.append hs) (hy.append hs) (by simp [hl]) (by simp [sto_len]) (chk_app xs hx) (by simp [sto_len]; omega) hq hz]
  unfold eqB
  rw [Bool.eq_iff_iff, decide_eq_true_iff, decide_eq_true_iff]
  exact ⟨fun e => List.append_cancel_right e, fun e => by rw [e]⟩

/-! ### a byte more, a byte less -/
theorem rdE_more {L : List Sec} (ho : ordL 0 L = true) (hb : ∀ s ∈ L, Byt s.2 ∧ s.2.length < 2 ^ 64) (c : Int) :
    rdE (encC L ++ [c]) = if folB c (lastId 0 L) = true then 4 else 9 := by
  have hlen : (encC L ++ [c]).length = (encC L).length + 1 := by simp
  have hid : (encC L ++ [c]).getD (encC L).length 0 = c := by rw [List.getD_eq_getElem?_getD, List.getElem?_append_right (Nat.le_refl _)]; simp
  have hf : frm (encC L ++ [c]) (encC L).length (lastId 0 L) = .err (if folB c (lastId 0 L) = true then 4 else 9) := by
    unfold frm
    rw [hid]
    by_cases h : folB c (lastId 0 L) = false
    · rw [if_pos h, if_neg (by simp [h])]
    · have hv : vgo ((encC L ++ [c]).drop ((encC L).length + 1)) 0 0 = (0, 0, 4) := by
        rw [List.drop_eq_nil_of_le (by omega)]; rfl
      have hg := g_bad (by omega) hv (by decide)
      have hne : gE (encC L ++ [c]) (((encC L).length + 1 : Nat) : Int) ≠ 0 := by rw [hg]; decide
      have h' : folB c (lastId 0 L) = true := by simpa using h
      rw [if_neg h, show (((encC L).length : Int) + 1) = (((encC L).length + 1 : Nat) : Int) by omega, if_pos hne, hg, h']
      rfl
  have he : (frm (encC L ++ [c]) (encC L).length (lastId 0 L)).e ≠ 0 := by
    rw [hf]
    simp only [Fr.err]
    split <;> decide
  unfold rdE
  rw [yall_encR ho hb, seq_err (by omega) he, firstE_app (frs_zero _ _), firstE_bad he, hf]
  rfl
theorem rdE_less {L : List Sec} (ho : ordL 0 L = true) (hb : ∀ s ∈ L, Byt s.2 ∧ s.2.length < 2 ^ 64) : rdE ((encC L).take ((encC L).length - 1)) = 4 := by
  rcases List.eq_nil_or_concat L with rfl | ⟨L1, s, rfl⟩
  · have e : (encC []).take ((encC []).length - 1) = [77, 73, 82, 84] := by simp [encC, magicL]
    have hh : hdr [77, 73, 82, 84] = 4 := by decide
    rw [e]
    unfold rdE
    rw [yall_bad (by rw [hh]; decide), hh]
    rfl
  · rw [List.concat_eq_append] at *
    obtain ⟨o1, o2, _⟩ := ordL_split ho
    have hs := hb s (by simp)
    have hlen := encS_len s
    have e : encC (L1 ++ [s]) = encC L1 ++ encS s := by unfold encC; simp
    have e2 : (encC (L1 ++ [s])).take ((encC (L1 ++ [s])).length - 1) = encC L1 ++ (encS s).take ((encS s).length - 1) := by
      rw [e, List.length_append, List.take_append, List.take_of_length_le (by omega)]
      congr 2
      omega
    obtain ⟨t, ht⟩ : ∃ t, (encS s).take ((encS s).length - 1) = s.1 :: (vput s.2.length ++ t) ∧ t.length = s.2.length + 3 := by
      refine ⟨(s.2 ++ sto (sum s.2)).take (s.2.length + 3), ?_, by rw [List.length_take, List.length_append, sto_len]; omega⟩
      have h1 : (encS s).length - 1 = (vput s.2.length).length + (s.2.length + 3) + 1 := by omega
      rw [h1]
      unfold encS
      rw [List.take_succ_cons, List.take_length_add_append]
    obtain ⟨ht, htl⟩ := ht
    rw [e2, ht]
    have hd : (encC L1 ++ s.1 :: (vput s.2.length ++ t)).drop ((encC L1).length + 1) = vput s.2.length ++ t := by
      rw [← List.drop_drop, List.drop_left]
      rfl
    have hl2 : (encC L1 ++ s.1 :: (vput s.2.length ++ t)).length = (encC L1).length + 1 + (vput s.2.length).length + t.length := by
      simp only [List.length_append, List.length_cons]; omega
    have hv := vgo_put s.2.length 0 0 t (by simpa using hs.2) (by simp) (by decide)
    rw [← hd] at hv
    simp only [Nat.zero_add, Nat.pow_zero, Nat.mul_one] at hv
    obtain ⟨g0, g1, g2⟩ := g_of (by rw [hl2]; omega) hv
    have hid : (encC L1 ++ s.1 :: (vput s.2.length ++ t)).getD (encC L1).length 0 = s.1 := by
      rw [List.getD_eq_getElem?_getD, List.getElem?_append_right (Nat.le_refl _)]; simp
    have hf : frm (encC L1 ++ s.1 :: (vput s.2.length ++ t)) (encC L1).length (lastId 0 L1) = .err 4 := by
      unfold frm
      rw [hid, if_neg (by simp [o2]), show (((encC L1).length : Int) + 1) = (((encC L1).length + 1 : Nat) : Int) by omega, g0, if_neg (by simp), g1, g2, if_pos (by rw [hl2]; omega)]
    have he : (frm (encC L1 ++ s.1 :: (vput s.2.length ++ t)) (encC L1).length (lastId 0 L1)).e ≠ 0 := by rw [hf]; decide
    unfold rdE
    rw [yall_encR o1 (fun s hs => hb s (by simp [hs])), seq_err (by rw [hl2]; omega) he, firstE_app (frs_zero _ _), firstE_bad he, hf]
    rfl

/-! ### the size -/
def secW (s : Sec) : Nat := 1 + min s.2.length 5000
def secsW (L : List Sec) : Nat := (L.map secW).sum
theorem secsW_take_succ {L : List Sec} {k : Nat} {s : Sec} (h : L[k]? = some s) : secsW (L.take (k + 1)) = secsW (L.take k) + secW s := by
  unfold secsW
  rw [List.take_add_one, h]
  simp
theorem secsW_take_le (L : List Sec) (k : Nat) : secsW (L.take k) ≤ secsW L := by
  unfold secsW
  conv => rhs; rw [← List.take_append_drop k L, List.map_append, List.sum_append]
  omega
def bigS (L : List Sec) : Bool := decide (5000 < secsW L)
theorem small_len {L : List Sec} (h : secsW L ≤ 5000) : L.length ≤ 5000 ∧ (∀ s ∈ L, s.2.length < 5000) ∧ (L.flatMap encS).length ≤ 16 * secsW L := by
  induction L with
  | nil => exact ⟨by simp, (fun s hs => by cases hs), by simp⟩
  | cons s L ih =>
    have e : secsW (s :: L) = secW s + secsW L := by simp [secsW]
    have hsw : secW s = 1 + min s.2.length 5000 := rfl
    obtain ⟨i1, i2, i3⟩ := ih (by omega)
    have hl : L.length ≤ secsW L := by
      clear i1 i2 i3 e h ih hsw
      induction L with
      | nil => simp
      | cons t L ih2 =>
        have : secsW (t :: L) = secW t + secsW L := by simp [secsW]
        have : secW t = 1 + min t.2.length 5000 := rfl
        simp only [List.length_cons]
        omega
    have h10 := vput_le10 (a := s.2.length) (by omega)
    have hs5 : s.2.length < 5000 := by omega
    refine ⟨by simp only [List.length_cons]; omega, fun t ht => ?_, ?_⟩
    · rcases List.mem_cons.1 ht with rfl | ht
      · exact hs5
      · exact i2 t ht
    · rw [List.flatMap_cons, List.length_append, encS_len]
      omega
theorem encC_len {L : List Sec} (h : secsW L ≤ 5000) : (encC L).length ≤ 80005 := by
  have := (small_len h).2.2
  unfold encC magicL
  simp only [List.length_append, List.length_cons, List.length_nil]
  omega
end Go.Proofs.Ytgfeimlieibjhaa
