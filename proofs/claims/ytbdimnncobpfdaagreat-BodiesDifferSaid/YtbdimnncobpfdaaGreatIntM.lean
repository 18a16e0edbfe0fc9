/- The mathematics of layer 5: identifiers, tables of strings in ascending order, their encoding. No program is named here. -/
import Derived.Test.YtbdimnncobpfdaaGreatWireM
import Derived.Lib.SlicesCompact
import Derived.Lib.Strings
namespace Go.Proofs.YtbdimnncobpfdaaGreat
open Go.RowKit

/-! ### strings in order -/
def key (s : ByteArray) : List UInt8 := s.data.toList
theorem key_inj {a b : ByteArray} (h : key a = key b) : a = b := by
  apply ByteArray.ext
  exact Array.ext' h
def ltS (a b : ByteArray) : Bool := Op.bytesLess (key a) (key b)

theorem bl_irrefl : ∀ x : List UInt8, Op.bytesLess x x = false
  | [] => rfl
  | a :: x => by simp [Op.bytesLess, bl_irrefl x]
theorem bl_trans : ∀ x y z : List UInt8, Op.bytesLess x y = true → Op.bytesLess y z = true → Op.bytesLess x z = true
  | _, [], _, h, _ => by simp [Op.bytesLess] at h
  | _, _ :: _, [], _, h => by simp [Op.bytesLess] at h
  | [], _ :: _, _ :: _, _, _ => rfl
  | a :: x, b :: y, c :: z, h, k => by
    simp only [Op.bytesLess, Bool.or_eq_true, Bool.and_eq_true, decide_eq_true_eq, beq_iff_eq] at h k ⊢
    rcases h with h | ⟨rfl, h⟩
    · rcases k with k | ⟨rfl, k⟩
      · exact .inl (UInt8.lt_trans h k)
      · exact .inl h
    · rcases k with k | ⟨rfl, k⟩
      · exact .inl k
      · exact .inr ⟨rfl, bl_trans x y z h k⟩
theorem bl_tri : ∀ x y : List UInt8, Op.bytesLess x y = false → Op.bytesLess y x = false → x = y
  | [], [], _, _ => rfl
  | [], _ :: _, h, _ => by simp [Op.bytesLess] at h
  | _ :: _, [], _, h => by simp [Op.bytesLess] at h
  | a :: x, b :: y, h, k => by
    simp only [Op.bytesLess, Bool.or_eq_false_iff, Bool.and_eq_false_iff, decide_eq_false_iff_not, beq_eq_false_iff_ne] at h k
    have e : a = b := by
      apply UInt8.le_antisymm
      · exact UInt8.not_lt.1 k.1
      · exact UInt8.not_lt.1 h.1
    subst e
    rw [bl_tri x y (h.2.resolve_left (by simp)) (k.2.resolve_left (by simp))]
/-- the model's order and Lean's -/
theorem bl_eq : ∀ (x y : List UInt8), Op.bytesLess x y = decide (x < y)
  | [], [] => by simp [Op.bytesLess]
  | _ :: _, [] => by simp [Op.bytesLess]
  | [], _ :: _ => by simp [Op.bytesLess]
  | a :: x, b :: y => by
    rw [Op.bytesLess, bl_eq x y]
    simp only [List.cons_lt_cons_iff]
    by_cases h1 : a < b <;> by_cases h2 : a = b <;> by_cases h3 : x < y <;> simp [h1, h2, h3]
theorem le_bl (x y : List UInt8) : decide (x ≤ y) = !Op.bytesLess y x := by
  rw [bl_eq, ← decide_not]; rfl

theorem ltS_irrefl (a : ByteArray) : ltS a a = false := bl_irrefl _
theorem ltS_trans {a b c : ByteArray} (h : ltS a b = true) (k : ltS b c = true) : ltS a c = true := bl_trans _ _ _ h k
theorem ltS_tri {a b : ByteArray} (h : ltS a b = false) (k : ltS b a = false) : a = b := key_inj (bl_tri _ _ h k)
theorem ltS_ne {a b : ByteArray} (h : ltS a b = true) : a ≠ b := fun e => by
  subst e
  rw [ltS_irrefl] at h
  cases h
theorem ltS_asymm {a b : ByteArray} (h : ltS a b = true) : ltS b a = false := by
  cases hb : ltS b a
  · rfl
  · have := ltS_trans h hb
    rw [ltS_irrefl] at this
    cases this

/-! ### ascending lists -/
def Asc (L : List ByteArray) : Prop := L.Pairwise fun a b => ltS a b = true
theorem asc_ext : ∀ {L M : List ByteArray}, Asc L → Asc M → (∀ x, x ∈ L ↔ x ∈ M) → L = M
  | [], [], _, _, _ => rfl
  | [], y :: M, _, _, h => absurd ((h y).2 (by simp)) (by simp)
  | x :: L, [], _, _, h => absurd ((h x).1 (by simp)) (by simp)
  | x :: L, y :: M, hL, hM, h => by
    obtain ⟨hx, hL1⟩ := List.pairwise_cons.1 hL
    obtain ⟨hy, hM1⟩ := List.pairwise_cons.1 hM
    have e : x = y := by
      rcases List.mem_cons.1 ((h x).1 (by simp)) with e | e
      · exact e
      · rcases List.mem_cons.1 ((h y).2 (by simp)) with k | k
        · exact k.symm
        · have := ltS_asymm (hx y k)
          rw [hy x e] at this
          cases this
    subst e
    have hLM : L = M := asc_ext hL1 hM1 fun z => ?_
    · rw [hLM]
    have hz := h z
    simp only [List.mem_cons] at hz
    constructor
    · intro k
      rcases hz.1 (.inr k) with rfl | r
      · have := hx z k; rw [ltS_irrefl] at this; cases this
      · exact r
    · intro k
      rcases hz.2 (.inr k) with rfl | r
      · have := hy z k; rw [ltS_irrefl] at this; cases this
      · exact r
theorem asc_at {L : List ByteArray} (h : Asc L) {i j : Nat} {a b : ByteArray} (ha : L[i]? = some a) (hb : L[j]? = some b) (hij : i < j) : ltS a b = true := by
  obtain ⟨h1, e1⟩ := List.getElem?_eq_some_iff.1 ha
  obtain ⟨h2, e2⟩ := List.getElem?_eq_some_iff.1 hb
  have := List.pairwise_iff_getElem.1 h i j h1 h2 hij
  rwa [e1, e2] at this
theorem asc_inj {L : List ByteArray} (h : Asc L) {i j : Nat} {a : ByteArray} (ha : L[i]? = some a) (hb : L[j]? = some a) : i = j := by
  rcases Nat.lt_trichotomy i j with c | c | c
  · have := asc_at h ha hb c; rw [ltS_irrefl] at this; cases this
  · exact c
  · have := asc_at h hb ha c; rw [ltS_irrefl] at this; cases this

/-! ### inserting -/
def insS : List ByteArray → ByteArray → List ByteArray
  | [], s => [s]
  | x :: L, s => if ltS s x then s :: x :: L else if s = x then x :: L else x :: insS L s
theorem insS_mem {s z : ByteArray} : ∀ {L : List ByteArray}, z ∈ insS L s ↔ z = s ∨ z ∈ L
  | [] => by simp [insS]
  | x :: L => by
    unfold insS
    split
    · simp
    · split
      · rename_i e; subst e; simp
      · rw [List.mem_cons, insS_mem, List.mem_cons]
        constructor <;> (rintro (h | h | h) <;> simp [h])
theorem insS_asc {s : ByteArray} : ∀ {L : List ByteArray}, Asc L → Asc (insS L s)
  | [], _ => by simp [insS, Asc]
  | x :: L, h => by
    obtain ⟨hx, hL⟩ := List.pairwise_cons.1 h
    unfold insS
    split
    · rename_i hs
      refine List.pairwise_cons.2 ⟨fun y hy => ?_, h⟩
      rcases List.mem_cons.1 hy with rfl | hy
      · exact hs
      · exact ltS_trans hs (hx y hy)
    · split
      · exact h
      · rename_i h1 h2
        refine List.pairwise_cons.2 ⟨fun y hy => ?_, insS_asc hL⟩
        rcases insS_mem.1 hy with rfl | hy
        · cases hc : ltS x y
          · exact absurd (ltS_tri (by simpa using h1) hc) h2
          · rfl
        · exact hx y hy
theorem insS_len {s : ByteArray} : ∀ {L : List ByteArray}, (insS L s).length ≤ L.length + 1
  | [] => by simp [insS]
  | x :: L => by
    unfold insS
    split
    · simp
    · split
      · simp
      · have := insS_len (s := s) (L := L); simp; omega

/-- the table of some strings -/
def tab (names : List ByteArray) : List ByteArray := names.foldl insS []
theorem tab_nil : tab [] = [] := rfl
theorem tab_take {names : List ByteArray} {k : Nat} {s : ByteArray} (h : names[k]? = some s) : tab (names.take (k + 1)) = insS (tab (names.take k)) s := by
  unfold tab
  rw [List.take_add_one, h, List.foldl_append]
  rfl
theorem tab_all {names : List ByteArray} : ∀ {L : List ByteArray}, Asc L → Asc (names.foldl insS L) ∧ (∀ z, z ∈ names.foldl insS L ↔ z ∈ L ∨ z ∈ names) ∧ (names.foldl insS L).length ≤ L.length + names.length := by
  induction names with
  | nil => intro L h; exact ⟨h, by simp, by simp⟩
  | cons s names ih =>
    intro L h
    obtain ⟨h1, h2, h3⟩ := ih (insS_asc (s := s) h)
    refine ⟨h1, fun z => ?_, ?_⟩
    · rw [List.foldl_cons, h2, insS_mem, List.mem_cons]
      constructor
      · rintro ((h | h) | h) <;> simp [h]
      · rintro (h | h | h) <;> simp [h]
    · rw [List.foldl_cons]
      have := insS_len (s := s) (L := L)
      simp only [List.length_cons]
      omega
theorem tab_asc (names : List ByteArray) : Asc (tab names) := (tab_all List.Pairwise.nil).1
theorem tab_mem {names : List ByteArray} {z : ByteArray} : z ∈ tab names ↔ z ∈ names := by
  have := (tab_all (names := names) (L := []) List.Pairwise.nil).2.1 z
  unfold tab
  simpa using this
theorem tab_len (names : List ByteArray) : (tab names).length ≤ names.length := by
  have := (tab_all (names := names) (L := []) List.Pairwise.nil).2.2
  unfold tab
  simpa using this

/-! ### what sorting and compacting leave -/
theorem keysAsc_map {L : List ByteArray} (h : Asc L) : (L.map key).Pairwise fun a b => Op.bytesLess a b = true := List.pairwise_map.2 h
theorem compact_mem {zs : List (List UInt8)} {x : List UInt8} : x ∈ Lib.compact zs ↔ x ∈ zs := by
  unfold Lib.compact Lib.compactUpTo
  constructor
  · intro h
    obtain ⟨i, hi, rfl⟩ := List.mem_map.1 h
    have hi' : i < zs.length := List.mem_range.1 (List.mem_filter.1 hi).1
    simp [getElem!_pos, hi']
  · intro h
    obtain ⟨i, hi, rfl⟩ := List.mem_iff_getElem.1 h
    -- the least place that holds it is kept
    have key : ∀ n, ∀ i (hi : i < zs.length), i ≤ n → ∃ j, j < zs.length ∧ Lib.keeps zs.toArray j = true ∧ zs.toArray[j]! = zs[i] := by
      intro n
      induction n with
      | zero =>
        intro i hi h0
        obtain rfl : i = 0 := by omega
        exact ⟨0, hi, by simp [Lib.keeps], by simp [getElem!_pos, hi]⟩
      | succ n ih =>
        intro i hi hn
        by_cases hk : Lib.keeps zs.toArray i = true
        · exact ⟨i, hi, hk, by simp [getElem!_pos, hi]⟩
        · have hk' : ¬ (i = 0 ∨ zs.toArray[i]! ≠ zs.toArray[i - 1]!) := by simpa [Lib.keeps] using hk
          have h0 : i ≠ 0 := fun e => hk' (.inl e)
          have he : zs.toArray[i]! = zs.toArray[i - 1]! := Classical.byContradiction fun e => hk' (.inr e)
          obtain ⟨j, h1, h2, h3⟩ := ih (i - 1) (by omega) (by omega)
          refine ⟨j, h1, h2, h3.trans ?_⟩
          simp only [getElem!_pos, hi, show i - 1 < zs.length by omega, List.size_toArray, List.getElem_toArray] at he
          exact he.symm
    obtain ⟨j, h1, h2, h3⟩ := key i i hi (Nat.le_refl _)
    exact List.mem_map.2 ⟨j, List.mem_filter.2 ⟨List.mem_range.2 h1, h2⟩, h3⟩
theorem compact_asc {zs : List (List UInt8)} (h : zs.Pairwise fun a b => Op.bytesLess b a = false) : (Lib.compact zs).Pairwise fun a b => Op.bytesLess a b = true := by
  unfold Lib.compact Lib.compactUpTo
  refine List.pairwise_map.2 ?_
  have hr : ((List.range zs.length).filter (Lib.keeps zs.toArray)).Pairwise (· < ·) := List.Pairwise.sublist List.filter_sublist List.pairwise_lt_range
  refine List.Pairwise.imp_of_mem ?_ hr
  intro i j hi hj hij
  obtain ⟨hi1, hi2⟩ := List.mem_filter.1 hi
  obtain ⟨hj1, hj2⟩ := List.mem_filter.1 hj
  have hjl := List.mem_range.1 hj1
  have hil := List.mem_range.1 hi1
  have hne : zs.toArray[j]! ≠ zs.toArray[j - 1]! := by
    have : j = 0 ∨ zs.toArray[j]! ≠ zs.toArray[j - 1]! := by simpa [Lib.keeps] using hj2
    rcases this with h | h
    · omega
    · exact h
  simp only [getElem!_pos, hjl, hil, show j - 1 < zs.length by omega, List.size_toArray, List.getElem_toArray] at hne ⊢
  have hp := List.pairwise_iff_getElem.1 h
  have h1 : Op.bytesLess zs[j] zs[j - 1] = false := hp (j - 1) j (by omega) hjl (by omega)
  have h2 : Op.bytesLess zs[j - 1] zs[j] = true := by
    cases hc : Op.bytesLess zs[j - 1] zs[j]
    · exact absurd (bl_tri _ _ h1 hc) hne
    · rfl
  rcases Nat.lt_or_ge i (j - 1) with c | c
  · have h3 : Op.bytesLess zs[j - 1] zs[i] = false := hp i (j - 1) hil (by omega) c
    cases hc : Op.bytesLess zs[i] zs[j - 1]
    · rw [bl_tri _ _ hc h3]; exact h2
    · exact bl_trans _ _ _ hc h2
  · obtain rfl : i = j - 1 := by omega
    exact h2
theorem asc_ext_keys {L M : List (List UInt8)} (hL : L.Pairwise fun a b => Op.bytesLess a b = true) (hM : M.Pairwise fun a b => Op.bytesLess a b = true) (h : ∀ x, x ∈ L ↔ x ∈ M) : L = M := by
  have hk : ∀ x : List UInt8, key ⟨x.toArray⟩ = x := fun x => by simp [key]
  have e : ∀ L : List (List UInt8), (L.map fun x => (⟨x.toArray⟩ : ByteArray)).map key = L := fun L => by
    rw [List.map_map]; conv => rhs; rw [← List.map_id L]
    apply List.map_congr_left; intro x _; exact hk x
  have ha : ∀ L : List (List UInt8), L.Pairwise (fun a b => Op.bytesLess a b = true) → Asc (L.map fun x => (⟨x.toArray⟩ : ByteArray)) := fun L h => by
    refine List.pairwise_map.2 ?_
    refine h.imp ?_
    intro a b hab
    unfold ltS
    rwa [hk, hk]
  rw [← e L, ← e M, asc_ext (ha L hL) (ha M hM) fun z => ?_]
  constructor
  · intro hz
    obtain ⟨x, hx, rfl⟩ := List.mem_map.1 hz
    exact List.mem_map.2 ⟨x, (h x).1 hx, rfl⟩
  · intro hz
    obtain ⟨x, hx, rfl⟩ := List.mem_map.1 hz
    exact List.mem_map.2 ⟨x, (h x).2 hx, rfl⟩
/-- sorting, then compacting, makes the table -/
theorem tab_compact (names : List ByteArray) : Lib.compact ((names.map key).mergeSort fun x y => decide (x ≤ y)) = (tab names).map key := by
  refine asc_ext_keys (compact_asc ?_) (keysAsc_map (tab_asc names)) fun x => ?_
  · have hs := List.pairwise_mergeSort (le := fun x y : List UInt8 => decide (x ≤ y)) (fun a b c h1 h2 => ?_) (fun a b => ?_) (names.map key)
    · refine hs.imp ?_
      intro a b h
      rw [le_bl] at h
      simpa using h
    · simp only [le_bl, Bool.not_eq_true'] at h1 h2 ⊢
      cases hc : Op.bytesLess c a
      · rfl
      · cases hb : Op.bytesLess a b
        · rw [bl_tri _ _ hb h1] at hc
          rw [hc] at h2; cases h2
        · rw [bl_trans _ _ _ hc hb] at h2; cases h2
    · simp only [le_bl, Bool.or_eq_true, Bool.not_eq_true']
      cases hc : Op.bytesLess b a
      · exact .inl rfl
      · refine .inr ?_
        cases hb : Op.bytesLess a b
        · rfl
        · have := bl_trans _ _ _ hc hb
          rw [bl_irrefl] at this; cases this
  · rw [compact_mem, (List.mergeSort_perm _ _).mem_iff]
    constructor
    · intro h
      obtain ⟨s, hs, rfl⟩ := List.mem_map.1 h
      exact List.mem_map.2 ⟨s, tab_mem.2 hs, rfl⟩
    · intro h
      obtain ⟨s, hs, rfl⟩ := List.mem_map.1 h
      exact List.mem_map.2 ⟨s, tab_mem.1 hs, rfl⟩

/-! ### identifiers -/
def letB (c : Int) : Bool := decide (c = 95 ∨ (65 ≤ c ∧ c ≤ 90) ∨ (97 ≤ c ∧ c ≤ 122))
def digB (c : Int) : Bool := decide (48 ≤ c ∧ c ≤ 57)
theorem letB_yes {c : Int} (h : c = 95 ∨ (65 ≤ c ∧ c ≤ 90) ∨ (97 ≤ c ∧ c ≤ 122)) : letB c = true := decide_eq_true h
theorem letB_no {c : Int} (h : ¬ (c = 95 ∨ (65 ≤ c ∧ c ≤ 90) ∨ (97 ≤ c ∧ c ≤ 122))) : letB c = false := decide_eq_false h
theorem digB_yes {c : Int} (h : 48 ≤ c ∧ c ≤ 57) : digB c = true := decide_eq_true h
theorem digB_no {c : Int} (h : ¬ (48 ≤ c ∧ c ≤ 57)) : digB c = false := decide_eq_false h
/-- the bytes up to the k-th one fit an identifier -/
def headOk (xs : List Int) (k : Nat) : Prop := ∀ j, j < k → ∀ c, xs[j]? = some c → letB c = true ∨ (j ≠ 0 ∧ digB c = true)
noncomputable instance (xs : List Int) (k : Nat) : Decidable (headOk xs k) := Classical.propDecidable _
noncomputable def identB (s : ByteArray) : Bool := decide (1 ≤ s.size ∧ s.size ≤ 255 ∧ headOk (sB s) s.size)
theorem headOk_zero (xs : List Int) : headOk xs 0 := fun _ h => absurd h (by omega)
theorem headOk_succ {xs : List Int} {k : Nat} {c : Int} (h : headOk xs k) (hc : xs[k]? = some c) (hl : letB c = true ∨ (k ≠ 0 ∧ digB c = true)) : headOk xs (k + 1) := fun j hj c' hc' => by
  rcases Nat.lt_or_ge j k with h' | h'
  · exact h j h' c' hc'
  · obtain rfl : j = k := by omega
    rw [hc] at hc'
    injection hc' with e
    subst e
    exact hl
theorem identB_yes {s : ByteArray} (h1 : 1 ≤ s.size) (h2 : s.size ≤ 255) (h : headOk (sB s) s.size) : identB s = true := by unfold identB; exact decide_eq_true ⟨h1, h2, h⟩
theorem identB_long {s : ByteArray} (h : s.size < 1 ∨ 255 < s.size) : identB s = false := by unfold identB; exact decide_eq_false fun k => by have := k.1; have := k.2.1; omega
theorem identB_no {s : ByteArray} {k : Nat} {c : Int} (hc : (sB s)[k]? = some c) (hl : letB c = false) (hd : k = 0 ∨ digB c = false) : identB s = false := by
  unfold identB
  refine decide_eq_false fun h => ?_
  have hk : k < s.size := by
    rw [← sB_length]
    exact (List.getElem?_eq_some_iff.1 hc).1
  rcases h.2.2 k hk c hc with e | ⟨e, e'⟩
  · rw [hl] at e; cases e
  · rcases hd with h0 | h0
    · exact e h0
    · rw [h0] at e'; cases e'
theorem identB_size {s : ByteArray} (h : identB s = true) : 1 ≤ s.size ∧ s.size ≤ 255 := by
  unfold identB at h
  have := of_decide_eq_true h
  exact ⟨this.1, this.2.1⟩
/-- all are identifiers -/
def Idents (L : List ByteArray) : Prop := ∀ s ∈ L, identB s = true
theorem Idents.tab {L : List ByteArray} (h : Idents L) : Idents (tab L) := fun s hs => h s (tab_mem.1 hs)

/-! ### encoding -/
def encS (L : List ByteArray) : List Int := (L.map encStr).flatten
def encT (L : List ByteArray) : List Int := vput L.length ++ encS L
theorem encS_take_succ {L : List ByteArray} {k : Nat} {s : ByteArray} (h : L[k]? = some s) : encS (L.take (k + 1)) = encS (L.take k) ++ encStr s := by
  unfold encS
  rw [List.take_add_one, h]; simp
theorem encS_drop {L : List ByteArray} {k : Nat} {s : ByteArray} (h : L[k]? = some s) : encS (L.drop k) = encStr s ++ encS (L.drop (k + 1)) := by
  obtain ⟨hk, he⟩ := List.getElem?_eq_some_iff.1 h
  unfold encS
  rw [List.drop_eq_getElem_cons hk, he]
  simp
theorem encStr_byt (s : ByteArray) : Byt (encStr s) := (show Byt (vput s.size) from vput_byte _).append (sB_byt _)
theorem encS_byt (L : List ByteArray) : Byt (encS L) := fun x hx => by
  unfold encS at hx
  obtain ⟨ys, hy, hx⟩ := List.mem_flatten.1 hx
  obtain ⟨a, _, rfl⟩ := List.mem_map.1 hy
  exact encStr_byt a x hx
theorem encT_byt (L : List ByteArray) : Byt (encT L) := (show Byt (vput L.length) from vput_byte _).append (encS_byt L)
theorem encS_len {L : List ByteArray} (h : ∀ s ∈ L, s.size ≤ 255) : (encS L).length ≤ 265 * L.length := by
  induction L with
  | nil => simp [encS]
  | cons a l ih =>
    have h1 := ih (fun s hs => h s (by simp [hs]))
    have h2 := h a (by simp)
    have h3 := vput_le10 (a := a.size) (by omega)
    have e : encS (a :: l) = encStr a ++ encS l := by simp [encS]
    rw [e, List.length_append, encStr, List.length_append, sB_length, List.length_cons]
    omega
theorem encS_take_len {L : List ByteArray} (h : ∀ s ∈ L, s.size ≤ 255) (k : Nat) : (encS (L.take k)).length ≤ 265 * L.length := by
  have h1 := encS_len (L := L.take k) (fun s hs => h s (List.mem_of_mem_take hs))
  rw [List.length_take] at h1
  have : min k L.length ≤ L.length := Nat.min_le_right _ _
  omega
/-- each string takes a byte at least -/
theorem encS_lo (L : List ByteArray) : L.length ≤ (encS L).length := by
  induction L with
  | nil => simp [encS]
  | cons a l ih =>
    have e : encS (a :: l) = encStr a ++ encS l := by simp [encS]
    have := vput_pos a.size
    rw [e, List.length_append, encStr, List.length_append, List.length_cons]
    omega
theorem back_count {n : Nat} {r : List Int} (hn : n ≤ 1099511627776) (hr : n ≤ r.length) : aCount (vput n ++ r) 0 4611686018427387904 = ((n : Int), r, 0) := by
  obtain ⟨p1, p2, p3⟩ := nm_put n (by omega) r
  rw [aCount_ok p3 (by rw [p1]; omega) (by rw [p1, p2, List.drop_left]; omega), p1, p2, List.drop_left]
theorem back_name {s : ByteArray} (hs : s.size ≤ 255) (r : List Int) : aStr (encStr s ++ r) 0 255 = (sB s, r, 0) := by
  obtain ⟨p1, p2, p3⟩ := nm_put s.size (by omega) (sB s ++ r)
  unfold encStr
  rw [List.append_assoc]
  have hl := sB_length s
  have hc : aCount (vput s.size ++ (sB s ++ r)) 0 255 = ((s.size : Int), sB s ++ r, 0) := by
    rw [aCount_ok p3 (by rw [p1]; omega) (by rw [p1, p2, List.drop_left, List.length_append]; omega), p1, p2, List.drop_left]
  rw [aStr_of hc, aTake_ok (by omega) (by rw [List.length_append]; omega)]
  have e : ((s.size : Int)).toNat = (sB s).length := by omega
  rw [e, List.take_left, List.drop_left]

/-! ### how much is drawn -/
def wS (s : ByteArray) : Nat := 1 + min s.size 9000
def sumS (L : List ByteArray) : Nat := (L.map wS).sum
/-- too many or too long, as the laws say it -/
def bigS (L : List ByteArray) : Bool := decide (8000 < sumS L)
theorem sumS_take_succ {L : List ByteArray} {k : Nat} {s : ByteArray} (h : L[k]? = some s) : sumS (L.take (k + 1)) = sumS (L.take k) + wS s := by
  unfold sumS
  rw [List.take_add_one, h]; simp
theorem sumS_take_le (L : List ByteArray) (k : Nat) : sumS (L.take k) ≤ sumS L := by
  unfold sumS
  conv => rhs; rw [← List.take_append_drop k L]
  rw [List.map_append, List.sum_append]
  omega
theorem len_sumS (L : List ByteArray) : L.length ≤ sumS L := by
  induction L with
  | nil => simp
  | cons a l ih =>
    have e2 : sumS (a :: l) = wS a + sumS l := by simp [sumS]
    rw [e2]
    unfold wS
    simp
    omega
end Go.Proofs.YtbdimnncobpfdaaGreat
