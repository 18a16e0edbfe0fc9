/- The mathematics of layer 3: what a reader does, as functions of the bytes that are left and of the error. No program is named here. -/
import Derived.Test.YtbdimnncobpfdaaGreatBase
import Derived.Test.YtbdimnncobpfdaaGreatVarM
import Derived.Lib.AppendStr
namespace Go.Proofs.YtbdimnncobpfdaaGreat
open Go.RowKit

/-! ### strings as lists of numbers -/
def sB (s : ByteArray) : List Int := s.data.toList.map fun b => (b.toNat : Int)
theorem sB_length (s : ByteArray) : (sB s).length = s.size := by
  rw [sB, List.length_map, Array.length_toList]; rfl
theorem sB_byt (s : ByteArray) : Byt (sB s) := fun x hx => by
  obtain ⟨b, _, rfl⟩ := List.mem_map.1 hx
  have := b.toNat_lt
  omega
theorem strCells_sB (s : ByteArray) : Lib.strCells s = u8s (sB s) := by
  simp [Lib.strCells, u8s, sB, Function.comp_def]
theorem strOfNums_sB (s : ByteArray) : strOfNums (sB s) = s := by
  apply ByteArray.ext
  apply Array.ext'
  rw [strOfNums_data]
  simp [sB, Function.comp_def]

/-! ### numbers -/
def nmN (ys : List Int) : Int := (((vgo ys 0 0).1 : Nat) : Int)
def nmL (ys : List Int) : Nat := (vgo ys 0 0).2.1
def nmE (ys : List Int) : Int := (((vgo ys 0 0).2.2 : Nat) : Int)
theorem nm_ok {ys : List Int} (hb : Byt ys) (h : nmE ys = 0) : 0 ≤ nmN ys ∧ nmN ys ≤ 18446744073709551615 ∧ nmL ys ≤ ys.length := by
  unfold nmE at h
  unfold nmN nmL
  rcases hv : vgo ys 0 0 with ⟨n, l, e⟩
  rw [hv] at h
  simp only at h ⊢
  obtain rfl : e = 0 := by omega
  obtain ⟨m, h1, h2, _, h4, h5⟩ := vgo_canon hb (by omega) hv
  have := h4.length_le
  simp at h1 h2
  omega
theorem nm_err {ys : List Int} (h : nmE ys ≠ 0) : nmN ys = 0 := by
  unfold nmE at h
  unfold nmN
  rcases hv : vgo ys 0 0 with ⟨n, l, e⟩
  rw [hv] at h
  simp only at h ⊢
  have := (vgo_err hv (by omega)).1
  omega
theorem nmE_nat (ys : List Int) : 0 ≤ nmE ys := by unfold nmE; omega
theorem nmE_hi (ys : List Int) : nmE ys ≤ 6 := by
  have key : ∀ (xs : List Int) (k acc : Nat), (vgo xs k acc).2.2 ≤ 6 := by
    intro xs
    induction xs with
    | nil => intro k acc; simp [vgo]
    | cons c r ih =>
      intro k acc
      unfold vgo
      split
      · simp
      · split
        · split <;> simp
        · exact ih _ _
  have := key ys 0 0
  unfold nmE
  omega
theorem nm_put (n : Nat) (h : n < 18446744073709551616) (rest : List Int) : nmN (vput n ++ rest) = n ∧ nmL (vput n ++ rest) = (vput n).length ∧ nmE (vput n ++ rest) = 0 := by
  have hv := vgo_put n 0 0 rest (by simpa using h) (by simp) (by omega)
  unfold nmN nmL nmE
  rw [hv]
  simp

/-! ### calls: what is left, the error -/
def aNum (ys : List Int) (e : Int) : Int × List Int × Int :=
  if e ≠ 0 then (0, [], e) else if nmE ys ≠ 0 then (0, [], nmE ys) else (nmN ys, ys.drop (nmL ys), 0)
def aUint (ys : List Int) (e most : Int) : Int × List Int × Int :=
  if e ≠ 0 then (0, [], e) else if nmE ys ≠ 0 then (0, [], nmE ys) else if most < nmN ys then (0, [], 15) else (nmN ys, ys.drop (nmL ys), 0)
def aCount (ys : List Int) (e most : Int) : Int × List Int × Int :=
  if e ≠ 0 then (0, [], e) else if nmE ys ≠ 0 then (0, [], nmE ys) else if most < 0 ∨ most < nmN ys then (0, [], 15)
  else if ((ys.drop (nmL ys)).length : Int) < nmN ys then (0, [], 4) else (nmN ys, ys.drop (nmL ys), 0)
def aTake (ys : List Int) (e n : Int) : List Int × List Int × Int :=
  if e ≠ 0 then ([], [], e) else if n < 0 then ([], [], 2) else if (ys.length : Int) < n then ([], [], 4) else (ys.take n.toNat, ys.drop n.toNat, 0)
def aStr (ys : List Int) (e most : Int) : List Int × List Int × Int :=
  aTake (aCount ys e most).2.1 (aCount ys e most).2.2 (aCount ys e most).1
def aByte (ys : List Int) (e : Int) : Int × List Int × Int :=
  if e ≠ 0 then (0, [], e) else match ys with
    | [] => (0, [], 4)
    | c :: t => (c, t, 0)
def aEnd (ys : List Int) (e : Int) : Int := if e ≠ 0 then e else if 0 < ys.length then 11 else 0
def aLeft (ys : List Int) (e : Int) : Int := if e ≠ 0 then 0 else ys.length
def aFail (ys : List Int) (e f : Int) : List Int × Int := if e ≠ 0 then (ys, e) else if f ≠ 0 then ([], f) else (ys, 0)

section
variable {ys : List Int} {e : Int}
theorem aNum_skip (h : e ≠ 0) : aNum ys e = (0, [], e) := if_pos h
theorem aNum_err (h : nmE ys ≠ 0) : aNum ys 0 = (0, [], nmE ys) := by unfold aNum; rw [if_neg (by simp), if_pos h]
theorem aNum_ok (h : nmE ys = 0) : aNum ys 0 = (nmN ys, ys.drop (nmL ys), 0) := by unfold aNum; rw [if_neg (by simp), if_neg (by simpa using h)]
theorem aUint_skip (most : Int) (h : e ≠ 0) : aUint ys e most = (0, [], e) := if_pos h
theorem aUint_err (most : Int) (h : nmE ys ≠ 0) : aUint ys 0 most = (0, [], nmE ys) := by unfold aUint; rw [if_neg (by simp), if_pos h]
theorem aUint_lim {most : Int} (h : nmE ys = 0) (hm : most < nmN ys) : aUint ys 0 most = (0, [], 15) := by unfold aUint; rw [if_neg (by simp), if_neg (by simpa using h), if_pos hm]
theorem aUint_ok {most : Int} (h : nmE ys = 0) (hm : ¬ most < nmN ys) : aUint ys 0 most = (nmN ys, ys.drop (nmL ys), 0) := by unfold aUint; rw [if_neg (by simp), if_neg (by simpa using h), if_neg hm]
theorem aCount_skip (most : Int) (h : e ≠ 0) : aCount ys e most = (0, [], e) := if_pos h
theorem aCount_err (most : Int) (h : nmE ys ≠ 0) : aCount ys 0 most = (0, [], nmE ys) := by unfold aCount; rw [if_neg (by simp), if_pos h]
theorem aCount_lim {most : Int} (h : nmE ys = 0) (hm : most < 0 ∨ most < nmN ys) : aCount ys 0 most = (0, [], 15) := by unfold aCount; rw [if_neg (by simp), if_neg (by simpa using h), if_pos hm]
theorem aCount_eof {most : Int} (h : nmE ys = 0) (hm : ¬ (most < 0 ∨ most < nmN ys)) (hl : ((ys.drop (nmL ys)).length : Int) < nmN ys) : aCount ys 0 most = (0, [], 4) := by
  unfold aCount; rw [if_neg (by simp), if_neg (by simpa using h), if_neg hm, if_pos hl]
theorem aCount_ok {most : Int} (h : nmE ys = 0) (hm : ¬ (most < 0 ∨ most < nmN ys)) (hl : ¬ ((ys.drop (nmL ys)).length : Int) < nmN ys) : aCount ys 0 most = (nmN ys, ys.drop (nmL ys), 0) := by
  unfold aCount; rw [if_neg (by simp), if_neg (by simpa using h), if_neg hm, if_neg hl]
theorem aTake_skip (n : Int) (h : e ≠ 0) : aTake ys e n = ([], [], e) := if_pos h
theorem aTake_neg {n : Int} (h : n < 0) : aTake ys 0 n = ([], [], 2) := by unfold aTake; rw [if_neg (by simp), if_pos h]
theorem aTake_eof {n : Int} (h : ¬ n < 0) (hl : (ys.length : Int) < n) : aTake ys 0 n = ([], [], 4) := by unfold aTake; rw [if_neg (by simp), if_neg h, if_pos hl]
theorem aTake_ok {n : Int} (h : ¬ n < 0) (hl : ¬ (ys.length : Int) < n) : aTake ys 0 n = (ys.take n.toNat, ys.drop n.toNat, 0) := by unfold aTake; rw [if_neg (by simp), if_neg h, if_neg hl]
theorem aStr_of {most : Int} {n : Int} {zs : List Int} {e' : Int} (h : aCount ys e most = (n, zs, e')) : aStr ys e most = aTake zs e' n := by unfold aStr; rw [h]
theorem aByte_skip (h : e ≠ 0) : aByte ys e = (0, [], e) := if_pos h
theorem aEnd_skip (h : e ≠ 0) : aEnd ys e = e := if_pos h
theorem aLeft_skip (h : e ≠ 0) : aLeft ys e = 0 := if_pos h
theorem aFail_skip (f : Int) (h : e ≠ 0) : aFail ys e f = (ys, e) := if_pos h
theorem aLeft_ok : aLeft ys 0 = ys.length := by unfold aLeft; rw [if_neg (by simp)]
end

/-- a state: the bytes that are left lie within 0 .. 255; behind an error none are left -/
def Sane (ys : List Int) (e : Int) : Prop := Byt ys ∧ (e ≠ 0 → ys = []) ∧ -9223372036854775808 ≤ e ∧ e ≤ 9223372036854775807
theorem Sane.err {e : Int} (h0 : -9223372036854775808 ≤ e) (h1 : e ≤ 9223372036854775807) : Sane [] e := ⟨Byt.nil, fun _ => rfl, h0, h1⟩

/-! ### the encodings of calls -/
structure ActV where
  k : Int
  u : Int
  n : Int
  s : ByteArray
def ActV.ok (a : ActV) : Prop := (-9223372036854775808 ≤ a.k ∧ a.k ≤ 9223372036854775807) ∧ (0 ≤ a.u ∧ a.u ≤ 18446744073709551615) ∧ (-9223372036854775808 ≤ a.n ∧ a.n ≤ 9223372036854775807) ∧ a.s.size ≤ maxLen
def zzM (n : Int) : Int := if n < 0 then -2 * n - 1 else 2 * n
def encStr (s : ByteArray) : List Int := vput s.size ++ sB s
/-- what a call appends -/
def encA (a : ActV) : List Int :=
  if a.k = 0 then [a.u % 256] else if a.k = 1 then vput a.u.toNat else if a.k = 2 then vput (zzM a.n).toNat else if a.k = 4 then encStr a.s else []
def encL (l : List ActV) : List Int := (l.map encA).flatten
/-- how much a call weighs -/
def wt (a : ActV) : Nat := 1 + min a.s.size 5000
def wts (l : List ActV) : Nat := (l.map wt).sum
/-- too large, as the law says it -/
def bigL (l : List ActV) : Bool := decide (5000 < wts l)
theorem wts_take_succ {l : List ActV} {k : Nat} {a : ActV} (h : l[k]? = some a) : wts (l.take (k + 1)) = wts (l.take k) + wt a := by
  unfold wts
  rw [List.take_add_one, h]; simp
theorem wts_take_le (l : List ActV) (k : Nat) : wts (l.take k) ≤ wts l := by
  unfold wts
  conv => rhs; rw [← List.take_append_drop k l]
  rw [List.map_append, List.sum_append]
  omega
theorem encL_take_succ {l : List ActV} {k : Nat} {a : ActV} (h : l[k]? = some a) : encL (l.take (k + 1)) = encL (l.take k) ++ encA a := by
  unfold encL
  rw [List.take_add_one, h]; simp
theorem encL_drop {l : List ActV} {k : Nat} {a : ActV} (h : l[k]? = some a) : encL (l.drop k) = encA a ++ encL (l.drop (k + 1)) := by
  obtain ⟨hk, he⟩ := List.getElem?_eq_some_iff.1 h
  unfold encL
  rw [List.drop_eq_getElem_cons hk, he]
  simp
theorem zzM_lo (n : Int) : 0 ≤ zzM n := by unfold zzM; split <;> omega
theorem zzM_hi {n : Int} (h0 : -9223372036854775808 ≤ n) (h1 : n ≤ 9223372036854775807) : zzM n ≤ 18446744073709551615 := by unfold zzM; split <;> omega
theorem encA_byt {a : ActV} : Byt (encA a) := by
  unfold encA
  split
  · exact Byt.cons (by omega) (by omega) Byt.nil
  · split
    · exact vput_byte _
    · split
      · exact vput_byte _
      · split
        · exact (show Byt (vput a.s.size) from vput_byte _).append (sB_byt _)
        · exact Byt.nil
theorem encL_byt (l : List ActV) : Byt (encL l) := fun x hx => by
  unfold encL at hx
  obtain ⟨ys, hy, hx⟩ := List.mem_flatten.1 hx
  obtain ⟨a, _, rfl⟩ := List.mem_map.1 hy
  exact encA_byt x hx
theorem encA_len {a : ActV} (h : a.ok) (hs : a.s.size ≤ 5000) : (encA a).length ≤ 10 * wt a := by
  obtain ⟨_, hu, hn, _⟩ := h
  have h1 := vput_le10 (a := a.u.toNat) (by omega)
  have h2 := vput_le10 (a := (zzM a.n).toNat) (by have := zzM_hi hn.1 hn.2; omega)
  have h3 := vput_le10 (a := a.s.size) (by omega)
  have h4 := sB_length a.s
  unfold encA wt encStr
  rw [show min a.s.size 5000 = a.s.size by omega]
  split
  · simp; omega
  · split
    · omega
    · split
      · omega
      · split
        · rw [List.length_append]; omega
        · simp
theorem small_of {l : List ActV} (h : wts l ≤ 5000) {a : ActV} (ha : a ∈ l) : a.s.size < 5000 := by
  have : wt a ≤ wts l := by
    obtain ⟨k, hk⟩ := List.getElem?_of_mem ha
    have h1 := wts_take_succ hk
    have h2 := wts_take_le l (k + 1)
    omega
  unfold wt at this
  omega
theorem encL_len {l : List ActV} (h : ∀ a ∈ l, a.ok) (hw : wts l ≤ 5000) : (encL l).length ≤ 50000 := by
  have key : ∀ l : List ActV, (∀ a ∈ l, a.ok ∧ a.s.size ≤ 5000) → (encL l).length ≤ 10 * wts l := by
    intro l
    induction l with
    | nil => intro _; simp [encL, wts]
    | cons a l ih =>
      intro h
      have h1 := encA_len (h a (by simp)).1 (h a (by simp)).2
      have h2 := ih (fun b hb => h b (by simp [hb]))
      have e1 : encL (a :: l) = encA a ++ encL l := by simp [encL]
      have e2 : wts (a :: l) = wt a + wts l := by simp [wts]
      rw [e1, e2, List.length_append]
      omega
  have := key l (fun a ha => ⟨h a ha, Nat.le_of_lt (small_of hw ha)⟩)
  omega
theorem len_wts (l : List ActV) : l.length ≤ wts l := by
  induction l with
  | nil => simp
  | cons a l ih =>
    have e2 : wts (a :: l) = wt a + wts l := by simp [wts]
    rw [e2]
    unfold wt
    simp
    omega
end Go.Proofs.YtbdimnncobpfdaaGreat
