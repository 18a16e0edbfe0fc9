/- A reader of package wire in memory, and what its inner functions do. -/
import Derived.Test.YtbkgooeghmaokaaWireM
import Derived.Test.YtbkgooeghmaokaaOwn
import Derived.Test.YtbkgooeghmaokaaGet
import Derived.Deep.QuietTactic
import Derived.BigQuiet
set_option linter.unusedVariables false
namespace Go.Proofs.Ytbkgooeghmaokaa
open Go.RowKit

theorem below_drewN {B : Nat} {a w : World} (h : Below B a w) (n : Nat) : Below B a (w.drewN n) := ⟨h.os, h.tape, h.output, h.size, h.block⟩
theorem only_drewN {a w : World} {row : Option Nat} (h : a.grownBy w row) (n : Nat) : a.grownBy (w.drewN n) row := ⟨h.os, h.tape, h.output, h.size, h.block⟩
theorem only_setCell {a w : World} {g : Nat} (h : a.grownBy w (some g)) (j : Nat) (u : Value) : a.grownBy (w.setCell ⟨g, j, none⟩ u) (some g) :=
  ⟨h.os, h.tape, h.output, by simpa [World.setCell] using h.size, fun i hi hne => (Below.heap_setCell w ⟨g, j, none⟩ u i (by
    rintro rfl
    exact hne rfl)).trans (h.block i hi hne)⟩
theorem only_of_below {a w : World} (h : Below a.heap.size a w) (row : Option Nat) : a.grownBy w row := ⟨h.os, h.tape, h.output, h.size, fun i hi _ => h.block i hi⟩
theorem below_only {B : Nat} {a w w' : World} {g : Nat} (h : Below B a w) (hB : B ≤ w.heap.size) (hg : B ≤ g) (k : w.grownBy w' (some g)) : Below B a w' :=
  h.grown k hB (fun i hi => by injection hi with hi; omega)

/-- the reader of block g: what is left, and the error -/
structure CRat (w : World) (g : Nat) (A : Option Addr) (n c p : Nat) (xs : List Int) (e : Int) : Prop where
  c0 : w.cell? ⟨g, 0, none⟩ = some (.slice A n c)
  c1 : w.cell? ⟨g, 1, none⟩ = some (.int .i64 (p : Int))
  c2 : w.cell? ⟨g, 2, none⟩ = some (.int .i64 e)
  fr : ∀ j, w.frozen? ⟨g, j, none⟩ = false
  lt : g < w.heap.size
  nc : n ≤ c
  cm : c ≤ maxLen
  pn : p ≤ n
  byt : Byt xs
  rd : Rd w g A n (u8s xs)
  sm : n ≤ 1099511627776
def CR (w : World) (g : Nat) (ys : List Int) (e : Int) : Prop :=
  ∃ (A : Option Addr) (n c p : Nat) (xs : List Int), CRat w g A n c p xs e ∧ (e = 0 → ys = xs.drop p) ∧ (e ≠ 0 → ys = [])

section
variable {w w' : World} {g n c p : Nat} {A : Option Addr} {xs ys : List Int} {e : Int}
theorem CRat.len (h : CRat w g A n c p xs e) : xs.length = n := by simpa using h.rd.1
theorem CRat.keep (h : CRat w g A n c p xs e) (hs : w.heap.size ≤ w'.heap.size) (hk : ∀ q : Addr, q.block ≤ g → w'.cell? q = w.cell? q) (hf : ∀ q : Addr, q.block ≤ g → w'.frozen? q = w.frozen? q) : CRat w' g A n c p xs e :=
  ⟨(hk _ (Nat.le_refl _)).trans h.c0, (hk _ (Nat.le_refl _)).trans h.c1, (hk _ (Nat.le_refl _)).trans h.c2, fun j => (hf _ (Nat.le_refl _)).trans (h.fr j), Nat.lt_of_lt_of_le h.lt hs, h.nc, h.cm, h.pn, h.byt,
    h.rd.keep (fun q hq => hk q (Nat.le_of_lt hq)), h.sm⟩
theorem CR.keep (h : CR w g ys e) (hs : w.heap.size ≤ w'.heap.size) (hk : ∀ q : Addr, q.block ≤ g → w'.cell? q = w.cell? q) (hf : ∀ q : Addr, q.block ≤ g → w'.frozen? q = w.frozen? q) : CR w' g ys e := by
  obtain ⟨A, n, c, p, xs, h, r⟩ := h
  exact ⟨A, n, c, p, xs, h.keep hs hk hf, r⟩
theorem CR.lt (h : CR w g ys e) : g < w.heap.size := by
  obtain ⟨A, n, c, p, xs, h, r⟩ := h
  exact h.lt
/-- nothing up to the reader has turned -/
theorem CR.below {B : Nat} (h : CR w g ys e) (hb : Below B w w') (hB : g < B) : CR w' g ys e :=
  h.keep hb.size (fun q hq => hb.cell (by omega)) (fun q hq => hb.frozen (by omega))
/-- another block behind the reader has turned -/
theorem CR.far {h : Nat} (hr : CR w g ys e) (hg : w.grownBy w' (some h)) (hh : g < h) : CR w' g ys e :=
  hr.keep hg.size (fun q hq => hg.cell_far q (by have := hr.lt; omega) (fun x => by injection x with x; omega)) (fun q hq => hg.frozen_far q (by have := hr.lt; omega) (fun x => by injection x with x; omega))
theorem CR.sane (h : CR w g ys e) (h0 : -9223372036854775808 ≤ e) (h1 : e ≤ 9223372036854775807) : Sane ys e := by
  obtain ⟨A, n, c, p, xs, h, r1, r2⟩ := h
  refine ⟨?_, r2, h0, h1⟩
  by_cases he : e = 0
  · rw [r1 he]; exact h.byt.drop p
  · rw [r2 he]; exact Byt.nil
theorem CR.byt (h : CR w g ys e) : Byt ys := by
  obtain ⟨A, n, c, p, xs, h, r1, r2⟩ := h
  by_cases he : e = 0
  · rw [r1 he]; exact h.byt.drop p
  · rw [r2 he]; exact Byt.nil
/-- the position is moved -/
theorem CRat.move (h : CRat w g A n c p xs e) {p' : Nat} (hp : p' ≤ n) {v : Int} (hv : v = (p' : Int)) : CRat (w.setCell ⟨g, 1, none⟩ (.int .i64 v)) g A n c p' xs e where
  c0 := (World.cell?_setCell_other _ _ _ _ (by simp)).trans h.c0
  c1 := by rw [hv]; exact World.cell?_setCell_same _ _ _ h.c1
  c2 := (World.cell?_setCell_other _ _ _ _ (by simp)).trans h.c2
  fr := fun j => by rw [World.frozen?_setCell]; exact h.fr j
  lt := by simpa [World.setCell] using h.lt
  nc := h.nc
  cm := h.cm
  pn := hp
  byt := h.byt
  rd := h.rd.keep fun q hq => World.cell?_setCell_other _ _ _ _ (by rintro rfl; simp at hq)
  sm := h.sm
/-- the error is noted -/
theorem CRat.note (h : CRat w g A n c p xs e) (f : Int) : CRat (w.setCell ⟨g, 2, none⟩ (.int .i64 f)) g A n c p xs f where
  c0 := (World.cell?_setCell_other _ _ _ _ (by simp)).trans h.c0
  c1 := (World.cell?_setCell_other _ _ _ _ (by simp)).trans h.c1
  c2 := World.cell?_setCell_same _ _ _ h.c2
  fr := fun j => by rw [World.frozen?_setCell]; exact h.fr j
  lt := by simpa [World.setCell] using h.lt
  nc := h.nc
  cm := h.cm
  pn := h.pn
  byt := h.byt
  rd := h.rd.keep fun q hq => World.cell?_setCell_other _ _ _ _ (by rintro rfl; simp at hq)
  sm := h.sm
theorem CRat.drewN (h : CRat w g A n c p xs e) (k : Nat) : CRat (w.drewN k) g A n c p xs e := ⟨h.c0, h.c1, h.c2, h.fr, h.lt, h.nc, h.cm, h.pn, h.byt, h.rd, h.sm⟩
theorem CR.note (h : CR w g ys e) (f : Int) (hf : f ≠ 0) : CR (w.setCell ⟨g, 2, none⟩ (.int .i64 f)) g [] f := by
  obtain ⟨A, n, c, p, xs, h, r1, r2⟩ := h
  exact ⟨A, n, c, p, xs, h.note f, fun h0 => absurd h0 hf, fun _ => rfl⟩
theorem CR.note0 (h : CR w g ys 0) : CR (w.setCell ⟨g, 2, none⟩ (.int .i64 0)) g ys 0 := by
  obtain ⟨A, n, c, p, xs, h, r1, r2⟩ := h
  exact ⟨A, n, c, p, xs, h.note 0, r1, r2⟩
end

/-- the error that Err returns for a pointer: of nil it is 1 -/
def ErrOf (w : World) (q : Option Addr) (e : Int) : Prop := (q = none ∧ e = 1) ∨ ∃ g, q = some ⟨g, 0, none⟩ ∧ g < w.heap.size ∧ w.cell? ⟨g, 2, none⟩ = some (.int .i64 e)
theorem ErrOf.none_ (w : World) : ErrOf w none 1 := .inl ⟨rfl, rfl⟩
theorem CR.errOf {w : World} {g : Nat} {ys : List Int} {e : Int} (h : CR w g ys e) : ErrOf w (some ⟨g, 0, none⟩) e := by
  obtain ⟨A, n, c, p, xs, h, r1, r2⟩ := h
  exact .inr ⟨g, rfl, h.lt, h.c2⟩
theorem ErrOf.alloc {w : World} {q : Option Addr} {e : Int} (h : ErrOf w q e) (o : Obj) : ErrOf (w.alloc o) q e := by
  rcases h with h | ⟨g, h1, h2, h3⟩
  · exact .inl h
  · exact .inr ⟨g, h1, by simp; omega, (World.cell?_alloc_lt w o _ h2).trans h3⟩

theorem Err_of (w : World) (q : Option Addr) (e : Int) (h : ErrOf w q e) : Calls Try.prog 55 #[.pointer q] w fun x w' => x = .returned (.int .i64 e) ∧ w = w' := by
  rcases h with ⟨rfl, rfl⟩ | ⟨g, rfl, hlt, hc⟩
  · go_enter Try.func55, Try.ntmps55
    go_wp2
    go_ret
    exact ⟨rfl, rfl⟩
  · go_enter Try.func55, Try.ntmps55
    go_wp2
    go_ret
    exact ⟨rfl, rfl⟩

set_option maxHeartbeats 1000000 in
theorem rest_at {w : World} {g n c p : Nat} {A : Option Addr} {xs : List Int} {e : Int} (h : CRat w g A n c p xs e) :
    Calls Try.prog 73 #[.pointer (some ⟨g, 0, none⟩)] w fun x w' => x = .returned (.int .i64 ((n : Int) - (p : Int))) ∧ ∃ k, w' = w.drewN k := by
  obtain ⟨hc0, hc1, hc2, hf, hlt, hnc, hcm, hpn, hbyt, hrd, _⟩ := h
  have HF := hide hf
  clear hf
  unfold maxLen at hcm
  go_enter Try.func73, Try.ntmps73
  go_wp2
  go_quiet (fail)
  go_wp2
  go_ret
  exact ⟨rfl, _, rfl⟩

theorem CRat.left {w : World} {g n c p : Nat} {A : Option Addr} {xs ys : List Int} {e : Int} (h : CRat w g A n c p xs e) (hy : ys = xs.drop p) : ((ys.length : Nat) : Int) = (n : Int) - (p : Int) := by
  rw [hy, List.length_drop, h.len]
  have := h.pn
  omega
theorem CR.len_le {w : World} {g : Nat} {ys : List Int} {e : Int} (h : CR w g ys e) : ys.length ≤ 1099511627776 := by
  obtain ⟨A, n, c, p, xs, h, r1, r2⟩ := h
  by_cases he : e = 0
  · rw [r1 he, List.length_drop, h.len]
    have := h.sm
    omega
  · rw [r2 he]; simp
theorem CR.drewN {w : World} {g : Nat} {ys : List Int} {e : Int} (h : CR w g ys e) (k : Nat) : CR (w.drewN k) g ys e := by
  obtain ⟨A, n, c, p, xs, h, r⟩ := h
  exact ⟨A, n, c, p, xs, h.drewN k, r⟩
theorem rest_of {w : World} {g : Nat} {ys : List Int} (h : CR w g ys 0) :
    Calls Try.prog 73 #[.pointer (some ⟨g, 0, none⟩)] w fun x w' => x = .returned (.int .i64 (ys.length : Nat)) ∧ ∃ k, w' = w.drewN k := by
  obtain ⟨A, n, c, p, xs, h, r1, r2⟩ := h
  rw [h.left (r1 rfl)]
  exact rest_at h

set_option hygiene false in
/-- the encoding of a number is moved over -/
theorem number_ok {w : World} {g : Nat} {ys : List Int} (h : CR w g ys 0) (hE : nmE ys = 0) :
    Calls Try.prog 72 #[.pointer (some ⟨g, 0, none⟩)] w fun x w' => x = .returned (.tuple #[.int .u64 (nmN ys), .int .i64 0]) ∧ CR w' g (ys.drop (nmL ys)) 0 ∧ w.grownBy w' (some g) := by
  obtain ⟨A, n, c, p, xs, h, r1, r2⟩ := h
  have hy := r1 rfl
  clear r1 r2
  have hl := h.len
  have hno := nm_ok (by rw [hy]; exact h.byt.drop p) hE
  have hll : nmL ys ≤ n - p := by have := hno.2.2; rw [hy, List.length_drop, hl] at this; rw [hy]; exact this
  have hpn := h.pn
  have HG : Hid (gRes xs p = .tuple #[.int .u64 (nmN ys), .int .i64 ((p : Int) + (nmL ys : Nat)), .int .i64 0]) := by
    show _ = _
    rcases hv : vgo (xs.drop p) 0 0 with ⟨a, l, er⟩
    unfold nmE at hE
    rw [hy, hv] at hE
    simp only at hE
    obtain rfl : er = 0 := by omega
    obtain ⟨q1, q2, q3⟩ := gRes_ok xs p (by omega) hv
    unfold gRes nmN nmL
    rw [q1, q2, q3, hy, hv]
  have HM := hide fun k => (h.drewN k).move (p' := p + nmL ys) (by omega) (v := (p : Int) + (nmL ys : Nat)) (by omega)
  have HD : Hid (ys.drop (nmL ys) = xs.drop (p + nmL ys)) := by
    show _ = _
    rw [hy, List.drop_drop]
  have HQ := hide fun k => ((Get_any A n c p xs (w.drewN k) (h.drewN k).rd h.byt h.nc h.cm).mono fun e w' (q : _ ∧ _) => (⟨q.1.trans (congrArg Ending.returned HG.out), q.2.symm⟩ : e = .returned (.tuple #[.int .u64 (nmN ys), .int .i64 ((p : Int) + (nmL ys : Nat)), .int .i64 0]) ∧ w' = w.drewN k))
  clear HG
  generalize nmN ys = N at *
  generalize nmL ys = L at *
  clear hno hE
  obtain ⟨hc0, hc1, hc2, hf, hlt, hnc, hcm, _, hbyt, hrd, _⟩ := h
  have hf1 := hf 1
  clear hf
  clear hy hl hbyt hrd
  unfold maxLen at hcm
  go_enter Try.func72, Try.ntmps72
  go_wp2
  go_quiet ((exact Calls.quiet_of_same (HQ.out _)))
  go_wp2
  go_ret2
  exact ⟨rfl, ⟨A, n, c, p + L, xs, HM.out nq, fun _ => HD.out, fun h => absurd rfl h⟩, only_setCell (only_drewN (World.grownBy.refl _ _) _) _ _⟩

set_option hygiene false in
theorem number_err {w : World} {g : Nat} {ys : List Int} (h : CR w g ys 0) (hE : nmE ys ≠ 0) :
    Calls Try.prog 72 #[.pointer (some ⟨g, 0, none⟩)] w fun x w' => x = .returned (.tuple #[.int .u64 0, .int .i64 (nmE ys)]) ∧ CR w' g ys 0 ∧ w.grownBy w' (some g) := by
  have HCR := hide h
  obtain ⟨A, n, c, p, xs, h, r1, r2⟩ := h
  have hy := r1 rfl
  clear r1 r2
  have hl := h.len
  have hpn := h.pn
  have HG : Hid (gRes xs p = .tuple #[.int .u64 0, .int .i64 0, .int .i64 (nmE ys)]) := by
    show _ = _
    rcases hv : vgo (xs.drop p) 0 0 with ⟨a, l, er⟩
    unfold nmE at hE ⊢
    rw [hy, hv] at hE ⊢
    have he : er ≠ 0 := fun h => hE (by rw [h]; rfl)
    exact gRes_err xs p (by omega) hv he
  have HQ := hide fun k => ((Get_any A n c p xs (w.drewN k) (h.drewN k).rd h.byt h.nc h.cm).mono fun e w' (q : _ ∧ _) => (⟨q.1.trans (congrArg Ending.returned HG.out), q.2.symm⟩ : e = .returned (.tuple #[.int .u64 0, .int .i64 0, .int .i64 (nmE ys)]) ∧ w' = w.drewN k))
  clear HG
  have hb : (nmE ys == 0) = false := by simpa using hE
  have hb2 : (nmE ys != 0) = true := by simpa using hE
  generalize nmE ys = E at *
  obtain ⟨hc0, hc1, hc2, hf, hlt, hnc, hcm, _, hbyt, hrd, _⟩ := h
  clear hf
  clear hy hl hbyt hrd hE
  unfold maxLen at hcm
  go_enter Try.func72, Try.ntmps72
  go_wp2
  go_quiet ((exact Calls.quiet_of_same (HQ.out _)))
  go_wp2
  go_ret2
  exact ⟨rfl, HCR.out.drewN _, only_drewN (World.grownBy.refl _ _) _⟩

/-! ### part -/
theorem part_neg {w : World} {g : Nat} (k : Int) (hk : k < 0) :
    Calls Try.prog 54 #[.pointer (some ⟨g, 0, none⟩), .int .i64 k] w fun x w' => x = .returned (.tuple #[.slice none 0 0, .int .i64 2]) ∧ w = w' := by
  go_enter Try.func54, Try.ntmps54
  go_wp2
  go_ret2
  exact ⟨rfl, rfl⟩

theorem part_eof {w : World} {g : Nat} {ys : List Int} (h : CR w g ys 0) (k : Int) (hk : ¬ k < 0) (hl : (ys.length : Int) < k) (hk2 : k ≤ 9223372036854775807) :
    Calls Try.prog 54 #[.pointer (some ⟨g, 0, none⟩), .int .i64 k] w fun x w' => x = .returned (.tuple #[.slice none 0 0, .int .i64 4]) ∧ CR w' g ys 0 ∧ w.grownBy w' (some g) := by
  have hle := h.len_le
  have HCR := hide h
  clear h
  generalize hn : ys.length = n at *
  have HN := hide hn
  clear hn
  go_enter Try.func54, Try.ntmps54
  go_wp2_with fail
  refine (rest_of HCR.out).mono ?_
  rintro e w1 ⟨rfl, k1, rfl⟩
  rw [HN.out]
  go_wp2_with fail
  go_ret2
  exact ⟨rfl, HCR.out.drewN _, only_drewN (World.grownBy.refl _ _) _⟩

/-- what part returns where it succeeds -/
def PartOk (w : World) (g k : Nat) (ys : List Int) (x : Ending) (w' : World) : Prop :=
  ∃ A' c', x = .returned (.tuple #[.slice A' k c', .int .i64 0]) ∧ k ≤ c' ∧ c' ≤ maxLen ∧ Rd w' g A' k (u8s (ys.take k)) ∧ CR w' g (ys.drop k) 0 ∧ w.grownBy w' (some g)

set_option hygiene false in
set_option maxHeartbeats 1000000 in
theorem part_ok {w : World} {g : Nat} {ys : List Int} (h : CR w g ys 0) (k : Nat) (hk : k ≤ ys.length) :
    Calls Try.prog 54 #[.pointer (some ⟨g, 0, none⟩), .int .i64 (k : Int)] w (PartOk w g k ys) := by
  have HCR := hide h
  have hle := h.len_le
  obtain ⟨A, n, c, p, xs, h, r1, r2⟩ := h
  have hy := r1 rfl
  clear r1 r2
  have hl := h.len
  have hpn := h.pn
  have hyl : ys.length = n - p := by rw [hy, List.length_drop, hl]
  have HM := hide fun j => (h.drewN j).move (p' := p + k) (by omega) (v := (p : Int) + (k : Int)) (by omega)
  have HD : Hid (ys.drop k = xs.drop (p + k)) := by
    show _ = _
    rw [hy, List.drop_drop]
  have HT : Hid (((u8s xs).drop p).take k = u8s (ys.take k)) := by
    show _ = _
    rw [hy]; simp [u8s]
  generalize hn : ys.length = m at *
  have HN := hide hn
  clear hn hy
  obtain ⟨hc0, hc1, hc2, hf, hlt, hnc, hcm, _, hbyt, hrd, _⟩ := h
  have hf1 := hf 1
  have HM' := hide hcm
  clear hf hbyt hrd
  unfold maxLen at hcm
  go_enter Try.func54, Try.ntmps54
  go_wp2_with fail
  refine (rest_of HCR.out).mono ?_
  rintro e w1 ⟨rfl, k1, rfl⟩
  rw [HN.out]
  go_wp2_with fail
  go_quiet (fail)
  go_wp2
  all_goals
    go_ret2
    have hrd : Rd _ g _ k _ := ((HM.out k1).rd.from_ (k := p) (cap := c) (by omega) hnc).to_ (k := k) (by omega)
    rw [HT.out] at hrd
    first
      | (rw [if_neg (by omega)] at hrd
         exact ⟨_, _, rfl, by omega, by have := HM'.out; omega, hrd, ⟨A, n, c, p + k, xs, (HM.out k1).drewN _, fun _ => HD.out, fun h => absurd rfl h⟩, only_drewN (only_setCell (only_drewN (World.grownBy.refl _ _) _) _ _) _⟩)
      | (rw [if_pos (by omega)] at hrd
         exact ⟨_, _, rfl, by omega, by have := HM'.out; omega, hrd, ⟨A, n, _, p + k, xs, (HM.out k1).drewN _, fun _ => HD.out, fun h => absurd rfl h⟩, only_drewN (only_setCell (only_drewN (World.grownBy.refl _ _) _) _ _) _⟩)

/-! ### length -/
/-- what an inner function returns: a value and an error; the reader's position has moved -/
def Inner (w : World) (g : Nat) (v : Value) (er : Int) (zs : List Int) (x : Ending) (w' : World) : Prop :=
  x = .returned (.tuple #[v, .int .i64 er]) ∧ CR w' g zs 0 ∧ w.grownBy w' (some g)

theorem u64_of (k : Int) (h0 : 0 ≤ k) (h1 : k ≤ 9223372036854775807) : 0 ≤ k ∧ k ≤ 18446744073709551615 := by omega

theorem length_err {w : World} {g : Nat} {ys : List Int} (h : CR w g ys 0) (most : Int) (hE : nmE ys ≠ 0) :
    Calls Try.prog 51 #[.pointer (some ⟨g, 0, none⟩), .int .i64 most] w (Inner w g (.int .i64 0) (nmE ys) ys) := by
  have HC := hide (number_err h hE)
  have hb : (nmE ys == 0) = false := by simpa using hE
  have hb2 : (nmE ys != 0) = true := by simpa using hE
  generalize nmE ys = E at *
  clear h hE
  go_enter Try.func51, Try.ntmps51
  go_wp2_with fail
  refine HC.out.mono ?_
  rintro e w1 ⟨rfl, hr, hg⟩
  go_wp2_with fail
  go_ret2
  exact ⟨rfl, hr, hg⟩

theorem length_lim {w : World} {g : Nat} {ys : List Int} (h : CR w g ys 0) (most : Int) (hE : nmE ys = 0) (hm : most < 0 ∨ most < nmN ys) (h0 : -9223372036854775808 ≤ most) (h1 : most ≤ 9223372036854775807) :
    Calls Try.prog 51 #[.pointer (some ⟨g, 0, none⟩), .int .i64 most] w (Inner w g (.int .i64 0) 15 (ys.drop (nmL ys))) := by
  have HC := hide (number_ok h hE)
  have hno := nm_ok h.byt hE
  generalize nmN ys = N at *
  generalize nmL ys = L at *
  clear h hE
  by_cases hm0 : most < 0
  · clear hm
    go_enter Try.func51, Try.ntmps51
    go_wp2_with fail
    refine HC.out.mono ?_
    rintro e w1 ⟨rfl, hr, hg⟩
    go_wp2_with fail
    go_ret2
    exact ⟨rfl, hr, hg⟩
  · have hm2 : most < N := by omega
    have hm3 : 0 ≤ most := by omega
    clear hm
    go_enter Try.func51, Try.ntmps51
    go_wp2_with fail
    refine HC.out.mono ?_
    rintro e w1 ⟨rfl, hr, hg⟩
    go_wp2_with fail
    go_ret2
    exact ⟨rfl, hr, hg⟩

theorem length_eof {w : World} {g : Nat} {ys : List Int} (h : CR w g ys 0) (most : Int) (hE : nmE ys = 0) (hm : ¬ (most < 0 ∨ most < nmN ys)) (hl : ((ys.drop (nmL ys)).length : Int) < nmN ys) (h1 : most ≤ 9223372036854775807) :
    Calls Try.prog 51 #[.pointer (some ⟨g, 0, none⟩), .int .i64 most] w (Inner w g (.int .i64 0) 4 (ys.drop (nmL ys))) := by
  have HC := hide (number_ok h hE)
  have hno := nm_ok h.byt hE
  have hle : (ys.drop (nmL ys)).length ≤ 1099511627776 := by have := h.len_le; rw [List.length_drop]; omega
  generalize nmN ys = N at *
  generalize hz : ys.drop (nmL ys) = zs at *
  clear h hE hz hno
  have hm2 : ¬ most < N := by omega
  have hm3 : ¬ most < 0 := by omega
  clear hm
  generalize hn : zs.length = m at *
  have HN := hide hn
  clear hn
  go_enter Try.func51, Try.ntmps51
  go_wp2_with fail
  refine HC.out.mono ?_
  rintro e w1 ⟨rfl, hr, hg⟩
  go_wp2_with fail
  refine (rest_of hr).mono ?_
  rintro e w2 ⟨rfl, k1, rfl⟩
  rw [HN.out]
  go_wp2_with fail
  go_ret2
  exact ⟨rfl, hr.drewN _, only_drewN hg _⟩

theorem length_ok {w : World} {g : Nat} {ys : List Int} (h : CR w g ys 0) (most : Int) (hE : nmE ys = 0) (hm : ¬ (most < 0 ∨ most < nmN ys)) (hl : ¬ ((ys.drop (nmL ys)).length : Int) < nmN ys) (h1 : most ≤ 9223372036854775807) :
    Calls Try.prog 51 #[.pointer (some ⟨g, 0, none⟩), .int .i64 most] w (Inner w g (.int .i64 (nmN ys)) 0 (ys.drop (nmL ys))) := by
  have HC := hide (number_ok h hE)
  have hno := nm_ok h.byt hE
  have hle : (ys.drop (nmL ys)).length ≤ 1099511627776 := by have := h.len_le; rw [List.length_drop]; omega
  obtain ⟨hno0, _, _⟩ := hno
  generalize nmN ys = N at *
  generalize hz : ys.drop (nmL ys) = zs at *
  clear h hE hz
  have hm2 : ¬ most < N := by omega
  have hm3 : ¬ most < 0 := by omega
  clear hm
  generalize hn : zs.length = m at *
  have HN := hide hn
  clear hn
  go_enter Try.func51, Try.ntmps51
  go_wp2_with fail
  refine HC.out.mono ?_
  rintro e w1 ⟨rfl, hr, hg⟩
  go_wp2_with fail
  refine (rest_of hr).mono ?_
  rintro e w2 ⟨rfl, k1, rfl⟩
  rw [HN.out]
  go_wp2_with fail
  go_ret2
  exact ⟨rfl, hr.drewN _, only_drewN hg _⟩
end Go.Proofs.Ytbkgooeghmaokaa
