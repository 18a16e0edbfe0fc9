/- The mathematics of layer 4: a container as a list of bytes, and how it is read. No program is named here. -/
import Derived.Test.YtgfeimlieibjhaaVarM
import Derived.Test.YtgfeimlieibjhaaCrcM
set_option linter.unusedVariables false
namespace Go.Proofs.Ytgfeimlieibjhaa

/-- a section: the identifier, the data -/
abbrev Sec := Int × List Int
def magicL : List Int := [77, 73, 82, 84, 1]
def encS (s : Sec) : List Int := s.1 :: (vput s.2.length ++ (s.2 ++ sto (sum s.2)))
/-- a container -/
def encC (L : List Sec) : List Int := magicL ++ L.flatMap encS
def folB (id before : Int) : Bool := decide (before < id) && decide (id ≤ 127)
theorem folB_iff {id b : Int} : folB id b = true ↔ b < id ∧ id ≤ 127 := by simp [folB]
def ordL : Int → List Sec → Bool
  | _, [] => true
  | b, s :: r => folB s.1 b && ordL s.1 r
def lastId : Int → List Sec → Int
  | b, [] => b
  | _, s :: r => lastId s.1 r

/-- what is read of a section: the identifier, where its data lie, the error -/
structure Fr where
  id : Int
  fr : Nat
  to : Nat
  e : Int
def Fr.err (e : Int) : Fr := ⟨0, 0, 0, e⟩
def frm (xs : List Int) (at_ : Nat) (before : Int) : Fr :=
  if folB (xs.getD at_ 0) before = false then .err 9
  else if gE xs ((at_ : Int) + 1) ≠ 0 then .err (gE xs ((at_ : Int) + 1))
  else if (xs.length : Int) - gT xs ((at_ : Int) + 1) - 4 < 0 ∨ (xs.length : Int) - gT xs ((at_ : Int) + 1) - 4 < gN xs ((at_ : Int) + 1) then .err 4
  else if chk ((xs.drop (gT xs ((at_ : Int) + 1)).toNat).take ((gN xs ((at_ : Int) + 1)).toNat + 4)) = false then .err 10
  else ⟨xs.getD at_ 0, (gT xs ((at_ : Int) + 1)).toNat, (gT xs ((at_ : Int) + 1)).toNat + (gN xs ((at_ : Int) + 1)).toNat, 0⟩

theorem vgo_rng {xs : List Int} : ∀ {k acc n l e : Nat}, vgo xs k acc = (n, l, e) → (e ≠ 0 → e ≤ 6) ∧ (e = 0 → k + 1 ≤ l ∧ l ≤ k + xs.length) := by
  induction xs with
  | nil => intro k acc n l e h; simp only [vgo, Prod.mk.injEq] at h; omega
  | cons c r ih =>
    intro k acc n l e h
    unfold vgo at h
    split at h
    · simp only [Prod.mk.injEq] at h; omega
    · split at h
      · split at h <;> (simp only [Prod.mk.injEq] at h; simp only [List.length_cons]; omega)
      · have := ih h
        simp only [List.length_cons]
        omega
theorem gE_rng (xs : List Int) (a : Nat) : 0 ≤ gE xs (a : Int) ∧ gE xs (a : Int) ≤ 6 := by
  unfold gE vget
  split
  · simp
  · rcases hv : vgo (xs.drop (a : Int).toNat) 0 0 with ⟨n, l, e⟩
    have := (vgo_rng hv).1
    by_cases he : e = 0
    · simp [he]
    · simp only [he, if_false]
      omega
theorem g_ok {xs : List Int} {a : Nat} (h : gE xs (a : Int) = 0) : a ≤ xs.length ∧ ∃ n l : Nat, vgo (xs.drop a) 0 0 = (n, l, 0) ∧ 1 ≤ l ∧ a + l ≤ xs.length ∧ gN xs (a : Int) = n ∧ gT xs (a : Int) = ((a + l : Nat) : Int) := by
  unfold gE gN gT vget at *
  by_cases hr : (a : Int) < 0 ∨ (xs.length : Int) < (a : Int)
  · rw [if_pos hr] at h; simp at h
  · rw [if_neg hr, Int.toNat_natCast] at *
    rcases hv : vgo (xs.drop a) 0 0 with ⟨n, l, e⟩
    rw [hv] at h
    by_cases he : e = 0
    · subst he
      have := (vgo_rng hv).2 rfl
      rw [List.length_drop] at this
      refine ⟨by omega, n, l, rfl, by omega, by omega, by simp, by simp⟩
    · simp [he] at h
theorem g_of {xs : List Int} {a n l : Nat} (ha : a ≤ xs.length) (h : vgo (xs.drop a) 0 0 = (n, l, 0)) : gE xs (a : Int) = 0 ∧ gN xs (a : Int) = n ∧ gT xs (a : Int) = ((a + l : Nat) : Int) := by
  unfold gE gN gT vget
  rw [if_neg (by omega), Int.toNat_natCast, h]
  simp
theorem g_bad {xs : List Int} {a n l e : Nat} (ha : a ≤ xs.length) (h : vgo (xs.drop a) 0 0 = (n, l, e)) (he : e ≠ 0) : gE xs (a : Int) = e := by
  unfold gE vget
  rw [if_neg (by omega), Int.toNat_natCast, h]
  simp [he]

theorem frm_ok {xs : List Int} {at_ : Nat} {b : Int} (h : (frm xs at_ b).e = 0) :
    folB (xs.getD at_ 0) b = true ∧ ∃ n l : Nat, vgo (xs.drop (at_ + 1)) 0 0 = (n, l, 0) ∧ 1 ≤ l ∧ at_ + 1 + l + n + 4 ≤ xs.length ∧ chk ((xs.drop (at_ + 1 + l)).take (n + 4)) = true ∧
      frm xs at_ b = ⟨xs.getD at_ 0, at_ + 1 + l, at_ + 1 + l + n, 0⟩ := by
  unfold frm at h ⊢
  by_cases h1 : folB (xs.getD at_ 0) b = false
  · rw [if_pos h1] at h; simp [Fr.err] at h
  · rw [if_neg h1] at h ⊢
    refine ⟨by simpa using h1, ?_⟩
    rw [show ((at_ : Int) + 1) = ((at_ + 1 : Nat) : Int) by omega] at *
    by_cases h2 : gE xs ((at_ + 1 : Nat) : Int) ≠ 0
    · rw [if_pos h2] at h; exact absurd h h2
    · rw [if_neg h2] at h ⊢
      obtain ⟨ha, n, l, hv, hl, hal, hN, hT⟩ := g_ok (Classical.not_not.1 h2)
      rw [hN, hT, Int.toNat_natCast, Int.toNat_natCast] at h ⊢
      by_cases h3 : (xs.length : Int) - ((at_ + 1 + l : Nat) : Int) - 4 < 0 ∨ (xs.length : Int) - ((at_ + 1 + l : Nat) : Int) - 4 < (n : Int)
      · rw [if_pos h3] at h; simp [Fr.err] at h
      · rw [if_neg h3] at h ⊢
        by_cases h4 : chk ((xs.drop (at_ + 1 + l)).take (n + 4)) = false
        · rw [if_pos h4] at h; simp [Fr.err] at h
        · rw [if_neg h4]
          exact ⟨n, l, hv, hl, by omega, by simpa using h4, rfl⟩
theorem frm_err (xs : List Int) (at_ : Nat) (b : Int) : frm xs at_ b = .err (frm xs at_ b).e ∧ 0 < (frm xs at_ b).e ∧ (frm xs at_ b).e ≤ 10 ∨ (frm xs at_ b).e = 0 := by
  unfold frm
  split
  · exact .inl ⟨rfl, by simp [Fr.err], by simp [Fr.err]⟩
  · split
    · rename_i h2
      have := gE_rng xs (at_ + 1)
      rw [show ((at_ : Int) + 1) = ((at_ + 1 : Nat) : Int) by omega] at *
      refine .inl ⟨rfl, ?_, ?_⟩ <;> simp only [Fr.err] <;> omega
    · split
      · exact .inl ⟨rfl, by simp [Fr.err], by simp [Fr.err]⟩
      · split
        · exact .inl ⟨rfl, by simp [Fr.err], by simp [Fr.err]⟩
        · exact .inr rfl

/-- what is read from an offset on: the sections, and the first error behind them -/
def seq (xs : List Int) (at_ : Nat) (before : Int) : List Fr :=
  if h : at_ < xs.length then
    if he : (frm xs at_ before).e = 0 then frm xs at_ before :: seq xs ((frm xs at_ before).to + 4) (frm xs at_ before).id else [frm xs at_ before]
  else []
termination_by xs.length - at_
decreasing_by
  obtain ⟨_, n, l, _, _, hle, _, e⟩ := frm_ok he
  rw [e]
  show xs.length - (at_ + 1 + l + n + 4) < xs.length - at_
  omega
theorem seq_end {xs : List Int} {at_ : Nat} {b : Int} (h : ¬ at_ < xs.length) : seq xs at_ b = [] := by rw [seq, dif_neg h]
theorem seq_err {xs : List Int} {at_ : Nat} {b : Int} (h : at_ < xs.length) (he : (frm xs at_ b).e ≠ 0) : seq xs at_ b = [frm xs at_ b] := by rw [seq, dif_pos h, dif_neg he]
theorem seq_ok {xs : List Int} {at_ : Nat} {b : Int} (h : at_ < xs.length) (he : (frm xs at_ b).e = 0) : seq xs at_ b = frm xs at_ b :: seq xs ((frm xs at_ b).to + 4) (frm xs at_ b).id := by rw [seq, dif_pos h, dif_pos he]

def hdr (xs : List Int) : Int := if xs.take 4 ≠ [77, 73, 82, 84] then 7 else if xs.length = 4 then 4 else if xs.getD 4 0 ≠ 1 then 8 else 0
theorem hdr_rng (xs : List Int) : 0 ≤ hdr xs ∧ hdr xs ≤ 8 := by 
  unfold hdr
  by_cases h1 : xs.take 4 ≠ [77, 73, 82, 84]
  · rw [if_pos h1]; omega
  · rw [if_neg h1]
    by_cases h2 : xs.length = 4
    · rw [if_pos h2]; omega
    · rw [if_neg h2]
      by_cases h3 : xs.getD 4 0 ≠ 1
      · rw [if_pos h3]; omega
      · rw [if_neg h3]; omega
theorem hdr_len {xs : List Int} (h : hdr xs = 0) : 5 ≤ xs.length ∧ xs.take 5 = magicL := by
  unfold hdr at h
  split at h
  · omega
  · rename_i h4
    have h4 := Classical.not_not.1 h4
    split at h
    · omega
    · rename_i hl
      split at h
      · omega
      · rename_i h1
        have h1 := Classical.not_not.1 h1
        have hl4 : 4 ≤ xs.length := by have := congrArg List.length h4; simp at this; omega
        have h5 : 5 ≤ xs.length := by omega
        refine ⟨h5, ?_⟩
        rw [List.take_add_one, h4]
        have : xs[4]? = some 1 := by
          rw [List.getElem?_eq_getElem (by omega)]
          rw [List.getD_eq_getElem?_getD, List.getElem?_eq_getElem (by omega)] at h1
          simpa using h1
        rw [this]
        rfl
theorem hdr_magic (r : List Int) : hdr (magicL ++ r) = 0 := by
  unfold hdr magicL
  simp
/-- all that is read of a string -/
def yall (xs : List Int) : List Fr := if hdr xs ≠ 0 then [.err (hdr xs)] else seq xs 5 0
theorem yall_bad {xs : List Int} (h : hdr xs ≠ 0) : yall xs = [.err (hdr xs)] := by unfold yall; rw [if_pos h]
theorem yall_good {xs : List Int} (h : hdr xs = 0) : yall xs = seq xs 5 0 := by unfold yall; rw [if_neg (by simp [h])]
def firstE : List Fr → Int
  | [] => 0
  | f :: r => if f.e = 0 then firstE r else f.e
theorem firstE_ok {f : Fr} {r : List Fr} (h : f.e = 0) : firstE (f :: r) = firstE r := by rw [firstE, if_pos h]
theorem firstE_bad {f : Fr} {r : List Fr} (h : f.e ≠ 0) : firstE (f :: r) = f.e := by rw [firstE, if_neg h]
theorem firstE_app {a b : List Fr} (h : ∀ f ∈ a, f.e = 0) : firstE (a ++ b) = firstE b := by
  induction a with
  | nil => rfl
  | cons f a ih => rw [List.cons_append, firstE_ok (h f (by simp)), ih fun g hg => h g (by simp [hg])]
theorem firstE_all {a : List Fr} (h : ∀ f ∈ a, f.e = 0) : firstE a = 0 := by
  have := firstE_app (b := []) h
  rwa [List.append_nil] at this
theorem all_of_firstE : ∀ {a : List Fr}, firstE a = 0 → ∀ f ∈ a, f.e = 0
  | [], _, _, hf => by cases hf
  | g :: a, h, f, hf => by
    by_cases hg : g.e = 0
    · rw [firstE_ok hg] at h
      rcases List.mem_cons.1 hf with rfl | hf
      · exact hg
      · exact all_of_firstE h f hf
    · rw [firstE_bad hg] at h
      exact absurd h hg
/-- the first error, found behind a beginning without one -/
theorem firstE_prefix {pre ys : List Fr} {f : Fr} (h : pre ++ [f] <+: ys) (hp : ∀ g ∈ pre, g.e = 0) (hf : f.e ≠ 0) : firstE ys = f.e := by
  obtain ⟨t, rfl⟩ := h
  rw [List.append_assoc, firstE_app hp, List.singleton_append, firstE_bad hf]

def rdE (xs : List Int) : Int := firstE (yall xs)
def dat (xs : List Int) (f : Fr) : List Int := (xs.drop f.fr).take (f.to - f.fr)
def rdF (xs : List Int) : List Fr := if rdE xs = 0 then yall xs else []
def rdL (xs : List Int) : List Sec := (rdF xs).map fun f => (f.id, dat xs f)

/-- of whatever is read -/
structure FrOk (n : Nat) (f : Fr) : Prop where
  id0 : 0 ≤ f.id
  id1 : f.id ≤ 127
  le : f.fr ≤ f.to
  to : f.to ≤ n
  e0 : 0 ≤ f.e
  e1 : f.e ≤ 10
  e4 : f.e = 0 → f.to + 4 ≤ n
theorem FrOk.err {n : Nat} {e : Int} (h0 : 0 < e) (h1 : e ≤ 10) : FrOk n (.err e) := ⟨by simp [Fr.err], by simp [Fr.err], by simp [Fr.err], by simp [Fr.err], Int.le_of_lt h0, h1, fun h => by simp only [Fr.err] at h; omega⟩
theorem getD_byt {xs : List Int} (hb : Byt xs) (k : Nat) : 0 ≤ xs.getD k 0 ∧ xs.getD k 0 < 256 := by
  rw [List.getD_eq_getElem?_getD]
  rcases h : xs[k]? with _ | x
  · simp
  · exact hb.at h
theorem frm_in {xs : List Int} (hb : Byt xs) (at_ : Nat) (b : Int) : FrOk xs.length (frm xs at_ b) := by
  rcases frm_err xs at_ b with ⟨e, h0, h1⟩ | h
  · rw [e]
    exact FrOk.err (by omega) h1
  · obtain ⟨hf, n, l, _, _, hle, _, e⟩ := frm_ok h
    rw [e]
    have := folB_iff.1 hf
    have := getD_byt hb at_
    exact ⟨by simp only []; omega, by simp only []; omega, by simp, by simp only []; omega, by simp, by simp, fun _ => by simp only []; omega⟩
theorem seq_in {xs : List Int} (hb : Byt xs) : ∀ (k at_ : Nat) (b : Int), xs.length - at_ ≤ k → ∀ f ∈ seq xs at_ b, FrOk xs.length f := by
  intro k
  induction k with
  | zero => intro at_ b hk f hf; rw [seq_end (by omega)] at hf; cases hf
  | succ k ih =>
    intro at_ b hk f hf
    by_cases h : at_ < xs.length
    · by_cases he : (frm xs at_ b).e = 0
      · rw [seq_ok h he] at hf
        rcases List.mem_cons.1 hf with rfl | hf
        · exact frm_in hb _ _
        · refine ih _ _ ?_ f hf
          obtain ⟨_, n, l, _, _, hle, _, e⟩ := frm_ok he
          rw [e]
          simp only []
          omega
      · rw [seq_err h he] at hf
        obtain rfl : f = _ := by simpa using hf
        exact frm_in hb _ _
    · rw [seq_end h] at hf; cases hf
theorem yall_in {xs : List Int} (hb : Byt xs) : ∀ f ∈ yall xs, FrOk xs.length f := by
  intro f hf
  unfold yall at hf
  split at hf
  · rename_i hne
    obtain rfl : f = _ := by simpa using hf
    have := hdr_rng xs
    exact FrOk.err (by omega) (by omega)
  · exact seq_in hb _ _ _ (Nat.le_refl _) f hf

theorem seq_len {xs : List Int} : ∀ (k at_ : Nat) (b : Int), xs.length - at_ ≤ k → (seq xs at_ b).length ≤ xs.length - at_ := by
  intro k
  induction k with
  | zero => intro at_ b hk; rw [seq_end (by omega)]; simp
  | succ k ih =>
    intro at_ b hk
    by_cases h : at_ < xs.length
    · by_cases he : (frm xs at_ b).e = 0
      · rw [seq_ok h he]
        obtain ⟨_, n, l, _, _, hle, _, e⟩ := frm_ok he
        have := ih ((frm xs at_ b).to + 4) (frm xs at_ b).id (by rw [e]; simp only []; omega)
        have ht : at_ < (frm xs at_ b).to := by rw [e]; simp only []; omega
        simp only [List.length_cons]
        omega
      · rw [seq_err h he]
        simp only [List.length_cons, List.length_nil]
        omega
    · rw [seq_end h]; simp
theorem yall_len (xs : List Int) : (yall xs).length ≤ xs.length + 1 := by
  unfold yall
  split
  · simp
  · have := seq_len (xs := xs) _ 5 0 (Nat.le_refl _)
    omega

/-! ### what was written is read -/
theorem encS_len (s : Sec) : (encS s).length = 1 + (vput s.2.length).length + s.2.length + 4 := by
  unfold encS
  simp only [List.length_cons, List.length_append, sto_len]
  omega
theorem encS_byt {s : Sec} (h0 : 0 ≤ s.1) (h1 : s.1 < 256) (hb : Byt s.2) : Byt (encS s) :=
  Byt.cons h0 h1 ((show Byt (vput s.2.length) from vput_byte _).append (hb.append (sto_byt _)))
/-- the frame of a section at an offset -/
def frS (off : Nat) (s : Sec) : Fr := ⟨s.1, off + 1 + (vput s.2.length).length, off + 1 + (vput s.2.length).length + s.2.length, 0⟩
def frs : Nat → List Sec → List Fr
  | _, [] => []
  | off, s :: r => frS off s :: frs (off + (encS s).length) r
theorem frs_zero : ∀ (L : List Sec) (off : Nat), ∀ f ∈ frs off L, f.e = 0
  | [], _, f, hf => by cases hf
  | s :: r, off, f, hf => by
    rcases List.mem_cons.1 hf with rfl | hf
    · rfl
    · exact frs_zero r _ f hf
theorem frs_len : ∀ (L : List Sec) (off : Nat), (frs off L).length = L.length
  | [], _ => rfl
  | _ :: r, _ => by simp [frs, frs_len r]
/-- a section whose checksum need not be right -/
theorem frm_put {p rest ys : List Int} {id b : Int} {sm : List Int} (hf : folB id b = true) (hl : ys.length < 2 ^ 64) (hs : sm.length = 4) :
    frm (p ++ (id :: (vput ys.length ++ (ys ++ sm)) ++ rest)) p.length b = if chk (ys ++ sm) = false then .err 10 else ⟨id, p.length + 1 + (vput ys.length).length, p.length + 1 + (vput ys.length).length + ys.length, 0⟩ := by
  have hd : ((p ++ (id :: (vput ys.length ++ (ys ++ sm)) ++ rest)).drop (p.length + 1)) = vput ys.length ++ (ys ++ sm ++ rest) := by
    rw [← List.drop_drop, List.drop_left]
    simp
  have hlen : (p ++ (id :: (vput ys.length ++ (ys ++ sm)) ++ rest)).length = p.length + 1 + (vput ys.length).length + ys.length + 4 + rest.length := by
    simp only [List.length_append, List.length_cons, hs]
    omega
  have hv := vgo_put ys.length 0 0 (ys ++ sm ++ rest) (by simpa using hl) (by simp) (by decide)
  rw [← hd] at hv
  simp only [Nat.zero_add, Nat.pow_zero, Nat.mul_one] at hv
  obtain ⟨g0, g1, g2⟩ := g_of (by rw [hlen]; omega) hv
  have hid : (p ++ (id :: (vput ys.length ++ (ys ++ sm)) ++ rest)).getD p.length 0 = id := by
    rw [List.getD_eq_getElem?_getD, List.getElem?_append_right (Nat.le_refl _)]
    simp
  have hdat : ((p ++ (id :: (vput ys.length ++ (ys ++ sm)) ++ rest)).drop (p.length + 1 + (vput ys.length).length)).take (ys.length + 4) = ys ++ sm := by
    rw [← List.drop_drop, hd, List.drop_left, List.append_assoc, show ys.length + 4 = (ys ++ sm).length by simp [hs], ← List.append_assoc, List.take_left]
  unfold frm
  rw [hid, if_neg (by simp [hf]), show ((p.length : Int) + 1) = ((p.length + 1 : Nat) : Int) by omega, g0, if_neg (by simp), g1, g2, if_neg (by rw [hlen]; omega), Int.toNat_natCast, Int.toNat_natCast, hdat]
theorem frm_enc {p rest : List Int} {s : Sec} {b : Int} (hf : folB s.1 b = true) (hb : Byt s.2) (hl : s.2.length < 2 ^ 64) : frm (p ++ (encS s ++ rest)) p.length b = frS p.length s := by
  have := frm_put (p := p) (rest := rest) (ys := s.2) (sm := sto (sum s.2)) hf hl (sto_len _)
  rw [chk_app _ hb, if_neg (by simp)] at this
  exact this
theorem seq_enc : ∀ (L : List Sec) (p rest : List Int) (b : Int), ordL b L = true → (∀ s ∈ L, Byt s.2 ∧ s.2.length < 2 ^ 64) →
    seq (p ++ (L.flatMap encS ++ rest)) p.length b = frs p.length L ++ seq (p ++ (L.flatMap encS ++ rest)) (p.length + (L.flatMap encS).length) (lastId b L)
  | [], p, rest, b, _, _ => by simp [frs, lastId]
  | s :: r, p, rest, b, ho, hb => by
    unfold ordL at ho
    rw [Bool.and_eq_true] at ho
    have h1 := frm_enc (p := p) (rest := r.flatMap encS ++ rest) ho.1 (hb s (by simp)).1 (hb s (by simp)).2
    have ih := seq_enc r (p ++ encS s) rest s.1 ho.2 (fun t ht => hb t (by simp [ht]))
    have e : p ++ ((s :: r).flatMap encS ++ rest) = p ++ (encS s ++ (r.flatMap encS ++ rest)) := by simp
    have e2 : p ++ encS s ++ (r.flatMap encS ++ rest) = p ++ (encS s ++ (r.flatMap encS ++ rest)) := by simp
    rw [e2] at ih
    rw [e, seq_ok (by simp only [List.length_append, encS_len]; omega) (by rw [h1]; rfl), h1]
    have e3 : (frS p.length s).to + 4 = (p ++ encS s).length := by rw [List.length_append, encS_len]; show p.length + 1 + (vput s.2.length).length + s.2.length + 4 = _; omega
    rw [e3]
    show frS p.length s :: seq _ _ s.1 = _
    rw [ih]
    simp only [frs, lastId, List.cons_append, List.flatMap_cons, List.length_append, Nat.add_assoc]
/-- a container is read as its sections -/
theorem yall_encR {L : List Sec} {rest : List Int} (ho : ordL 0 L = true) (hb : ∀ s ∈ L, Byt s.2 ∧ s.2.length < 2 ^ 64) :
    yall (encC L ++ rest) = frs 5 L ++ seq (encC L ++ rest) (encC L).length (lastId 0 L) := by
  have h := seq_enc L magicL rest 0 ho hb
  have e : magicL ++ (L.flatMap encS ++ rest) = encC L ++ rest := by unfold encC; rw [List.append_assoc]
  rw [e] at h
  rw [yall_good (by rw [← e]; exact hdr_magic _)]
  have e2 : magicL.length + (L.flatMap encS).length = (encC L).length := by unfold encC; rw [List.length_append]
  rw [e2] at h
  exact h
theorem yall_enc {L : List Sec} (ho : ordL 0 L = true) (hb : ∀ s ∈ L, Byt s.2 ∧ s.2.length < 2 ^ 64) : yall (encC L) = frs 5 L := by
  have h := yall_encR (rest := []) ho hb
  rw [List.append_nil, seq_end (by simp), List.append_nil] at h
  exact h
theorem rdE_enc {L : List Sec} (ho : ordL 0 L = true) (hb : ∀ s ∈ L, Byt s.2 ∧ s.2.length < 2 ^ 64) : rdE (encC L) = 0 := by
  unfold rdE
  rw [yall_enc ho hb]
  exact firstE_all (frs_zero _ _)
theorem dat_frs : ∀ (L : List Sec) (p rest : List Int), (frs p.length L).map (fun f => (f.id, dat (p ++ (L.flatMap encS ++ rest)) f)) = L
  | [], _, _ => rfl
  | s :: r, p, rest => by
    have ih := dat_frs r (p ++ encS s) rest
    have e : p ++ ((s :: r).flatMap encS ++ rest) = p ++ encS s ++ (r.flatMap encS ++ rest) := by simp
    rw [e]
    simp only [frs, List.map_cons]
    rw [show p.length + (encS s).length = (p ++ encS s).length by simp, ih]
    congr 1
    show (s.1, dat _ (frS p.length s)) = s
    unfold dat frS
    simp only []
    rw [show p.length + 1 + (vput s.2.length).length + s.2.length - (p.length + 1 + (vput s.2.length).length) = s.2.length by omega]
    have e2 : p ++ encS s ++ (r.flatMap encS ++ rest) = (p ++ s.1 :: vput s.2.length) ++ (s.2 ++ (sto (sum s.2) ++ (r.flatMap encS ++ rest))) := by simp [encS]
    rw [e2, show p.length + 1 + (vput s.2.length).length = (p ++ s.1 :: vput s.2.length).length by simp; omega, List.drop_left, List.take_left]
theorem rdF_enc {L : List Sec} (ho : ordL 0 L = true) (hb : ∀ s ∈ L, Byt s.2 ∧ s.2.length < 2 ^ 64) : rdF (encC L) = frs 5 L := by
  unfold rdF
  rw [rdE_enc ho hb, if_pos rfl, yall_enc ho hb]
theorem rdL_enc {L : List Sec} (ho : ordL 0 L = true) (hb : ∀ s ∈ L, Byt s.2 ∧ s.2.length < 2 ^ 64) : rdL (encC L) = L := by
  unfold rdL
  rw [rdF_enc ho hb]
  have := dat_frs L magicL []
  rw [List.append_nil] at this
  exact this

/-! ### whatever is read was written -/
theorem frm_canon {xs : List Int} (hb : Byt xs) {at_ : Nat} {b : Int} (h : at_ < xs.length) (he : (frm xs at_ b).e = 0) :
    xs.drop at_ = encS ((frm xs at_ b).id, dat xs (frm xs at_ b)) ++ xs.drop ((frm xs at_ b).to + 4) ∧ folB (frm xs at_ b).id b = true ∧ at_ < (frm xs at_ b).to ∧ (frm xs at_ b).to + 4 ≤ xs.length := by
  obtain ⟨hf, n, l, hv, hl1, hle, hc, e⟩ := frm_ok he
  rw [e]
  obtain ⟨m, hn, hm, _, ⟨t, ht⟩, hll⟩ := vgo_canon (hb.drop (at_ + 1)) (by decide) hv
  simp only [Nat.pow_zero, Nat.mul_one, Nat.zero_add] at hn hll
  subst hn hll
  refine ⟨?_, hf, by simp only []; omega, by simp only []; omega⟩
  have hdl : (dat xs ⟨xs.getD at_ 0, at_ + 1 + (vput n).length, at_ + 1 + (vput n).length + n, 0⟩) = (xs.drop (at_ + 1 + (vput n).length)).take n := by
    unfold dat
    simp
  have hlen : ((xs.drop (at_ + 1 + (vput n).length)).take n).length = n := by rw [List.length_take, List.length_drop]; omega
  have hlen4 : ((xs.drop (at_ + 1 + (vput n).length)).take (n + 4)).length = n + 4 := by rw [List.length_take, List.length_drop]; omega
  rw [chk_sto _ (by omega) ((hb.drop _).take _), hlen4, decide_eq_true_iff, show n + 4 - 4 = n by omega, List.take_take, Nat.min_eq_left (by omega), List.drop_take, show n + 4 - n = 4 by omega, List.drop_drop] at hc
  unfold encS
  simp only []
  rw [hdl, hlen, ← hc]
  have h0 : xs.drop at_ = xs.getD at_ 0 :: xs.drop (at_ + 1) := by
    rw [List.drop_eq_getElem_cons h, List.getD_eq_getElem?_getD, List.getElem?_eq_getElem h]
    rfl
  have hlv : ((xs.drop (at_ + 1)).take (vput n).length) = vput n := by rw [← ht, List.take_left]
  rw [h0, List.cons_append]
  congr 1
  rw [List.append_assoc, List.append_assoc]
  have s1 : xs.drop (at_ + 1) = vput n ++ xs.drop (at_ + 1 + (vput n).length) := by
    conv => lhs; rw [← List.take_append_drop (vput n).length (xs.drop (at_ + 1)), hlv, List.drop_drop]
  have s2 : xs.drop (at_ + 1 + (vput n).length) = (xs.drop (at_ + 1 + (vput n).length)).take n ++ ((xs.drop (at_ + 1 + (vput n).length + n)).take 4 ++ xs.drop (at_ + 1 + (vput n).length + n + 4)) := by
    conv => lhs; rw [← List.take_append_drop n (xs.drop (at_ + 1 + (vput n).length)), List.drop_drop, ← List.take_append_drop 4 (xs.drop (at_ + 1 + (vput n).length + n)), List.drop_drop]
  rw [← s2, ← s1]
theorem seq_canon {xs : List Int} (hb : Byt xs) : ∀ (k at_ : Nat) (b : Int), xs.length - at_ ≤ k → at_ ≤ xs.length → firstE (seq xs at_ b) = 0 →
    xs.drop at_ = ((seq xs at_ b).map fun f => (f.id, dat xs f)).flatMap encS ∧ ordL b ((seq xs at_ b).map fun f => (f.id, dat xs f)) = true := by
  intro k
  induction k with
  | zero =>
    intro at_ b hk ha _
    rw [seq_end (by omega)]
    exact ⟨by simp; omega, rfl⟩
  | succ k ih =>
    intro at_ b hk ha hz
    by_cases h : at_ < xs.length
    · by_cases he : (frm xs at_ b).e = 0
      · rw [seq_ok h he, firstE_ok he] at hz
        rw [seq_ok h he]
        obtain ⟨c1, c2, c3, c4⟩ := frm_canon hb h he
        obtain ⟨i1, i2⟩ := ih _ (frm xs at_ b).id (by omega) c4 hz
        simp only [List.map_cons, List.flatMap_cons, ordL]
        rw [← i1, i2, c2]
        exact ⟨c1, rfl⟩
      · rw [seq_err h he, firstE_bad he] at hz
        exact absurd hz he
    · rw [seq_end h]
      exact ⟨by simp; omega, rfl⟩
/-- the sections of an accepted container are written as the container -/
theorem canon {xs : List Int} (hb : Byt xs) (h : rdE xs = 0) : encC (rdL xs) = xs ∧ ordL 0 (rdL xs) = true := by
  have hh : hdr xs = 0 := by
    unfold rdE at h
    by_cases h0 : hdr xs = 0
    · exact h0
    · rw [yall_bad h0] at h
      have := hdr_rng xs
      unfold firstE Fr.err at h
      simp [h0] at h
  obtain ⟨h5, hm⟩ := hdr_len hh
  have hz := h
  unfold rdE at hz
  rw [yall_good hh] at hz
  obtain ⟨c1, c2⟩ := seq_canon hb _ 5 0 (Nat.le_refl _) h5 hz
  unfold rdL rdF
  rw [if_pos h, yall_good hh]
  refine ⟨?_, c2⟩
  unfold encC
  rw [← c1, ← hm, List.take_append_drop]
theorem rdL_byt {xs : List Int} (hb : Byt xs) : ∀ s ∈ rdL xs, Byt s.2 := by
  intro s hs
  unfold rdL at hs
  obtain ⟨f, _, rfl⟩ := List.mem_map.1 hs
  exact (hb.drop _).take _
end Go.Proofs.Ytgfeimlieibjhaa
