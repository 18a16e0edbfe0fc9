/- The reader of the reference of layer 3. -/
import Derived.Test.YtakjlomgkbloeaaRdrIn
import Derived.Test.YtakjlomgkbloeaaRef01
set_option linter.unusedVariables false
namespace Go.Proofs.Ytakjlomgkbloeaa
open Go.RowKit

/-- the reference's reader of block h: its bytes lie below B -/
structure RRat (w : World) (B h : Nat) (A : Option Addr) (n c : Nat) (ys : List Int) (e : Int) : Prop where
  c0 : w.cell? ⟨h, 0, none⟩ = some (.slice A n c)
  c1 : w.cell? ⟨h, 1, none⟩ = some (.int .i64 e)
  fr : ∀ j, w.frozen? ⟨h, j, none⟩ = false
  lt : h < w.heap.size
  bh : B ≤ h
  nc : n ≤ c
  cm : c ≤ maxLen
  byt : Byt ys
  rd : Rd w B A n (u8s ys)
  sm : n ≤ 1099511627776
  er : e ≠ 0 → ys = []
def RR (w : World) (B h : Nat) (ys : List Int) (e : Int) : Prop := ∃ A n c, RRat w B h A n c ys e

section
variable {w w' : World} {B h n c : Nat} {A : Option Addr} {ys : List Int} {e : Int}
theorem RRat.len (r : RRat w B h A n c ys e) : ys.length = n := by simpa using r.rd.1
theorem RRat.keep (r : RRat w B h A n c ys e) (hs : w.heap.size ≤ w'.heap.size) (hk : ∀ q : Addr, q.block < B ∨ q.block = h → w'.cell? q = w.cell? q) (hf : ∀ q : Addr, q.block = h → w'.frozen? q = w.frozen? q) : RRat w' B h A n c ys e :=
  ⟨(hk _ (.inr rfl)).trans r.c0, (hk _ (.inr rfl)).trans r.c1, fun j => (hf _ rfl).trans (r.fr j), Nat.lt_of_lt_of_le r.lt hs, r.bh, r.nc, r.cm, r.byt, r.rd.keep (fun q hq => hk q (.inl hq)), r.sm, r.er⟩
theorem RR.keep (r : RR w B h ys e) (hs : w.heap.size ≤ w'.heap.size) (hk : ∀ q : Addr, q.block < B ∨ q.block = h → w'.cell? q = w.cell? q) (hf : ∀ q : Addr, q.block = h → w'.frozen? q = w.frozen? q) : RR w' B h ys e := by
  obtain ⟨A, n, c, r⟩ := r
  exact ⟨A, n, c, r.keep hs hk hf⟩
theorem RR.lt (r : RR w B h ys e) : h < w.heap.size := by obtain ⟨A, n, c, r⟩ := r; exact r.lt
theorem RR.bh (r : RR w B h ys e) : B ≤ h := by obtain ⟨A, n, c, r⟩ := r; exact r.bh
theorem RR.below {b : Nat} (r : RR w B h ys e) (hb : Below b w w') (hB : h < b) : RR w' B h ys e := by
  have := r.bh
  exact r.keep hb.size (fun q hq => hb.cell (by omega)) (fun q hq => hb.frozen (by omega))
theorem RR.far {g : Nat} (r : RR w B h ys e) (hg : w.grownBy w' (some g)) (h1 : B ≤ g) (h2 : g ≠ h) : RR w' B h ys e := by
  have h3 := r.lt
  have h4 := r.bh
  exact r.keep hg.size (fun q hq => hg.cell_far q (by omega) (fun x => by injection x with x; omega)) (fun q hq => hg.frozen_far q (by omega) (fun x => by injection x with x; omega))
theorem RR.len_le (r : RR w B h ys e) : ys.length ≤ 1099511627776 := by
  obtain ⟨A, n, c, r⟩ := r
  rw [r.len]; exact r.sm
theorem RR.byt (r : RR w B h ys e) : Byt ys := by obtain ⟨A, n, c, r⟩ := r; exact r.byt
/-- the bytes that are left are replaced -/
theorem RRat.put (r : RRat w B h A n c ys e) {A' : Option Addr} {n' c' : Nat} {ys' : List Int} (hc : n' ≤ c') (hm : c' ≤ maxLen) (hb : Byt ys') (hr : Rd w B A' n' (u8s ys')) (hs : n' ≤ n) (he : e ≠ 0 → ys' = []) :
    RRat (w.setCell ⟨h, 0, none⟩ (.slice A' n' c')) B h A' n' c' ys' e where
  c0 := World.cell?_setCell_same _ _ _ r.c0
  c1 := (World.cell?_setCell_other _ _ _ _ (by simp)).trans r.c1
  fr := fun j => by rw [World.frozen?_setCell]; exact r.fr j
  lt := by simpa [World.setCell] using r.lt
  bh := r.bh
  nc := hc
  cm := hm
  byt := hb
  rd := hr.keep fun q hq => World.cell?_setCell_other _ _ _ _ (by rintro rfl; have := r.bh; simp at hq; omega)
  sm := Nat.le_trans hs r.sm
  er := he
/-- an error is noted, and the bytes are dropped -/
theorem RRat.fail (r : RRat w B h A n c ys e) (f : Int) : RRat ((w.setCell ⟨h, 1, none⟩ (.int .i64 f)).setCell ⟨h, 0, none⟩ (.slice none 0 0)) B h none 0 0 [] f where
  c0 := World.cell?_setCell_same _ _ _ ((World.cell?_setCell_other _ _ _ _ (by simp)).trans r.c0)
  c1 := (World.cell?_setCell_other _ _ _ _ (by simp)).trans (World.cell?_setCell_same _ _ _ r.c1)
  fr := fun j => by rw [World.frozen?_setCell, World.frozen?_setCell]; exact r.fr j
  lt := by simpa [World.setCell] using r.lt
  bh := r.bh
  nc := Nat.le_refl _
  cm := Nat.zero_le _
  byt := Byt.nil
  rd := Rd.nil _ _ _
  sm := Nat.zero_le _
  er := fun _ => rfl
end

theorem RR_new {w : World} {B : Nat} {A : Option Addr} {n c : Nat} {xs : List Int} {T : TypeId} (hr : Rd w B A n (u8s xs)) (hB : B ≤ w.heap.size) (hnc : n ≤ c) (hcm : c ≤ maxLen) (hx : Byt xs) (hn : n ≤ 1099511627776) :
    RR (w.alloc (.cells #[.slice A n c, .int .i64 0] T)) B w.heap.size xs 0 :=
  ⟨A, n, c, ⟨by simp [go_sem], by simp [go_sem], fun j => by simp [go_sem], by simp, hB, hnc, hcm, hx, hr.alloc hB _, hn, fun h => absurd rfl h⟩⟩

/-- what a method of the reference returns -/
def RDone (w : World) (B h : Nat) (V : World → Value → Prop) (zs : List Int) (E : Int) (x : Ending) (w' : World) : Prop :=
  ∃ v, x = .returned v ∧ V w' v ∧ RR w' B h zs E ∧ w.grownBy w' (some h)

theorem fail_any {w : World} {B h : Nat} {ys : List Int} {e : Int} (r : RR w B h ys e) (f : Int) :
    Calls Try.prog 64 #[.pointer (some ⟨h, 0, none⟩), .int .i64 f] w fun x w' => (∃ v, x = .returned v) ∧ RR w' B h [] f ∧ w.grownBy w' (some h) := by
  obtain ⟨A, n, c, r⟩ := r
  have HF := hide (r.fail f)
  obtain ⟨hc0, hc1, hf, hlt, _, _, _, _, _, _, _⟩ := r
  have hf0 := hf 0
  have hf1 := hf 1
  clear hf
  go_enter Try.func64, Try.ntmps64
  go_wp2
  go_end0
  exact ⟨⟨_, rfl⟩, ⟨_, _, _, HF.out⟩, only_setCell (only_setCell (World.grownBy.refl _ _) _ _) _ _⟩

/-! ### number -/
theorem rNumber_skip {w : World} {B h : Nat} {ys : List Int} {e : Int} (r : RR w B h ys e) (he : e ≠ 0) :
    Calls Try.prog 65 #[.pointer (some ⟨h, 0, none⟩)] w fun x w' => x = .returned (.int .u64 0) ∧ w = w' := by
  obtain ⟨A, n, c, hc0, hc1, hf, hlt, _, _, _, _, _, _, _⟩ := r
  have hb : (e == 0) = false := by simpa using he
  have hb2 : (e != 0) = true := by simpa using he
  clear hf he
  go_enter Try.func65, Try.ntmps65
  go_wp2
  go_ret
  exact ⟨rfl, rfl⟩
theorem rNumber_err {w : World} {B h : Nat} {ys : List Int} (r : RR w B h ys 0) (hE : nmE ys ≠ 0) :
    Calls Try.prog 65 #[.pointer (some ⟨h, 0, none⟩)] w (RDone w B h (IsInt .u64 0) [] (nmE ys)) := by
  have HR := hide r
  obtain ⟨A, n, c, r⟩ := r
  have HG : Hid (gRes ys (0 : Nat) = .tuple #[.int .u64 0, .int .i64 0, .int .i64 (nmE ys)]) := by
    show _ = _
    rcases hv : vgo ys 0 0 with ⟨a, l, er⟩
    unfold nmE at hE ⊢
    rw [hv] at hE ⊢
    have he : er ≠ 0 := fun h => hE (by rw [h]; rfl)
    exact gRes_err ys 0 (by omega) hv he
  have HC := hide (RefGet_any A n c (0 : Nat) ys w r.rd r.byt (Nat.le_trans r.nc r.cm))
  have hb : (nmE ys == 0) = false := by simpa using hE
  have hb2 : (nmE ys != 0) = true := by simpa using hE
  generalize nmE ys = E at *
  obtain ⟨hc0, hc1, hf, hlt, _, _, _, _, _, _, _⟩ := r
  clear hf hE
  go_enter Try.func65, Try.ntmps65
  go_wp2_with fail
  refine HC.out.mono ?_
  rintro e w1 ⟨rfl, rfl⟩
  rw [HG.out]
  go_wp2_with fail
  refine (fail_any HR.out E).mono ?_
  rintro e w1 ⟨⟨v, rfl⟩, hr, hg⟩
  go_wp2_with fail
  go_ret
  exact ⟨_, rfl, rfl, hr, hg⟩
theorem rNumber_ok {w : World} {B h : Nat} {ys : List Int} (r : RR w B h ys 0) (hE : nmE ys = 0) :
    Calls Try.prog 65 #[.pointer (some ⟨h, 0, none⟩)] w (RDone w B h (IsInt .u64 (nmN ys)) (ys.drop (nmL ys)) 0) := by
  obtain ⟨A, n, c, r⟩ := r
  have hl := r.len
  have hno := nm_ok r.byt hE
  have hll : nmL ys ≤ n := by have := hno.2.2; rw [hl] at this; exact this
  have HG : Hid (gRes ys (0 : Nat) = .tuple #[.int .u64 (nmN ys), .int .i64 ((nmL ys : Nat) : Int), .int .i64 0]) := by
    show _ = _
    rcases hv : vgo ys 0 0 with ⟨a, l, er⟩
    unfold nmE at hE
    rw [hv] at hE
    simp only at hE
    obtain rfl : er = 0 := by omega
    obtain ⟨q1, q2, q3⟩ := gRes_ok ys 0 (by omega) hv
    unfold gRes nmN nmL
    rw [q1, q2, q3, hv]
    simp
  have HC := hide (RefGet_any A n c (0 : Nat) ys w r.rd r.byt (Nat.le_trans r.nc r.cm))
  have hrd := r.rd.from_ (cap := c) hll r.nc
  rw [show (u8s ys).drop (nmL ys) = u8s (ys.drop (nmL ys)) by simp [u8s]] at hrd
  have HP := hide (r.put (c' := c - nmL ys) (by have := r.nc; omega) (by have := r.cm; omega) (r.byt.drop _) hrd (by omega) (fun h => absurd rfl h))
  have hbd : 0 ≤ nmL ys := Nat.zero_le _
  generalize nmN ys = N at *
  generalize hz : ys.drop (nmL ys) = zs at *
  generalize nmL ys = L at *
  clear hz hrd hno hE hl
  obtain ⟨hc0, hc1, hf, hlt, _, hnc, hcm, _, _, hsm, _⟩ := r
  have hf0 := hf 0
  unfold maxLen at hcm
  clear hf
  go_enter Try.func65, Try.ntmps65
  go_wp2_with fail
  refine HC.out.mono ?_
  rintro e w1 ⟨rfl, rfl⟩
  rw [HG.out]
  go_wp2_with fail
  all_goals
    go_ret
    have hp := HP.out
    first
      | (rw [if_neg (by omega)] at hp
         exact ⟨_, rfl, rfl, ⟨_, _, _, hp⟩, only_setCell (World.grownBy.refl _ _) _ _⟩)
      | (have hce : c = L := by omega
         subst hce
         rw [if_pos rfl, Nat.sub_self] at hp
         exact ⟨_, rfl, rfl, ⟨_, _, _, hp⟩, only_setCell (World.grownBy.refl _ _) _ _⟩)
theorem rNumber_any {w : World} {B h : Nat} {ys : List Int} {e : Int} (r : RR w B h ys e) :
    Calls Try.prog 65 #[.pointer (some ⟨h, 0, none⟩)] w (RDone w B h (IsInt .u64 (aNum ys e).1) (aNum ys e).2.1 (aNum ys e).2.2) := by
  by_cases he : e = 0
  · subst he
    by_cases hE : nmE ys = 0
    · rw [aNum_ok hE]; exact rNumber_ok r hE
    · rw [aNum_err hE]; exact rNumber_err r hE
  · rw [aNum_skip he]
    have hy : ys = [] := by obtain ⟨A, n, c, k⟩ := r; exact k.er he
    subst hy
    refine (rNumber_skip r he).mono ?_
    rintro x w' ⟨rfl, rfl⟩
    exact ⟨_, rfl, rfl, r, World.grownBy.refl _ _⟩

/-! ### the calls -/
theorem rByte_any {w : World} {B h : Nat} {ys : List Int} {e : Int} (r : RR w B h ys e) :
    Calls Try.prog 36 #[.pointer (some ⟨h, 0, none⟩)] w (RDone w B h (IsInt .u8 (aByte ys e).1) (aByte ys e).2.1 (aByte ys e).2.2) := by
  have HR := hide r
  by_cases he : e = 0
  · subst he
    rcases ys with _ | ⟨y, t⟩
    · have e1 : aByte [] 0 = (0, [], 4) := rfl
      rw [e1]
      clear e1
      obtain ⟨A, n, c, hc0, hc1, hf, hlt, _, hnc, hcm, _, hrd, hsm, _⟩ := r
      have hn : n = 0 := by have := hrd.1; simp at this; omega
      subst hn
      clear hf hrd
      unfold maxLen at hcm
      go_enter Try.func36, Try.ntmps36
      go_wp2_with fail
      refine (fail_any HR.out 4).mono ?_
      rintro e w1 ⟨⟨v, rfl⟩, hr, hg⟩
      go_wp2_with fail
      go_ret
      exact ⟨_, rfl, rfl, hr, hg⟩
    · have e1 : aByte (y :: t) 0 = (y, t, 0) := rfl
      rw [e1]
      clear e1
      obtain ⟨A, n, c, r⟩ := r
      have hl := r.len
      simp only [List.length_cons] at hl
      have hrd := r.rd.from_ (k := 1) (cap := c) (by omega) r.nc
      rw [show (u8s (y :: t)).drop 1 = u8s t by simp [u8s]] at hrd
      have HP := hide (r.put (c' := c - 1) (by have := r.nc; omega) (by have := r.cm; omega) (by simpa using r.byt.drop 1) hrd (by omega) (fun h => absurd rfl h))
      obtain ⟨bb, oo, rfl, _, hcell⟩ := r.rd.cell (k := 0) (u := .int .u8 y) (by simp [u8s])
      simp only [Nat.add_zero] at hcell
      obtain ⟨hc0, hc1, hf, hlt, _, hnc, hcm, _, _, hsm, _⟩ := r
      have hf0 := hf 0
      have hn1 : 1 ≤ n := by omega
      have hz : ((n : Int) == 0) = false := by simp; omega
      have hz2 : ¬ n = 0 := by omega
      unfold maxLen at hcm
      clear hf hrd hl
      go_enter Try.func36, Try.ntmps36
      go_wp2
      all_goals
        go_ret
        have hp := HP.out
        first
          | (rw [if_neg (by omega)] at hp
             exact ⟨_, rfl, rfl, ⟨_, _, _, hp⟩, only_setCell (World.grownBy.refl _ _) _ _⟩)
          | (have hce : c = 1 := by omega
             subst hce
             rw [if_pos rfl, Nat.sub_self] at hp
             exact ⟨_, rfl, rfl, ⟨_, _, _, hp⟩, only_setCell (World.grownBy.refl _ _) _ _⟩)
  · rw [aByte_skip he]
    have hy : ys = [] := by obtain ⟨A, n, c, k⟩ := r; exact k.er he
    subst hy
    obtain ⟨A, n, c, hc0, hc1, hf, hlt, _, _, _, _, _, _, _⟩ := r
    have hb : (e == 0) = false := by simpa using he
    have hb2 : (e != 0) = true := by simpa using he
    clear hf he
    go_enter Try.func36, Try.ntmps36
    go_wp2
    go_ret
    exact ⟨_, rfl, rfl, HR.out, World.grownBy.refl _ _⟩

theorem uint_num (ys : List Int) (e most : Int) : aUint ys e most = if (aNum ys e).2.2 = 0 ∧ most < (aNum ys e).1 then (0, [], 15) else aNum ys e := by
  unfold aUint aNum
  by_cases h1 : e ≠ 0
  · simp [h1]
  · by_cases h2 : nmE ys ≠ 0
    · simp [h1, h2]
    · simp only [if_neg h1, if_neg h2]
      by_cases h3 : most < nmN ys <;> simp [h3]
theorem num_err_rest {ys : List Int} {e : Int} (h : (aNum ys e).2.2 ≠ 0) : (aNum ys e).1 = 0 ∧ (aNum ys e).2.1 = [] := by
  unfold aNum at h ⊢
  by_cases h1 : e ≠ 0
  · rw [if_pos h1]; exact ⟨rfl, rfl⟩
  · rw [if_neg h1] at h ⊢
    by_cases h2 : nmE ys ≠ 0
    · rw [if_pos h2]; exact ⟨rfl, rfl⟩
    · rw [if_neg h2] at h; exact absurd rfl h
theorem num_range {ys : List Int} {e : Int} (h : Byt ys) : 0 ≤ (aNum ys e).1 ∧ (aNum ys e).1 ≤ 18446744073709551615 := by
  unfold aNum
  by_cases h1 : e ≠ 0
  · rw [if_pos h1]; simp
  · rw [if_neg h1]
    by_cases h2 : nmE ys ≠ 0
    · rw [if_pos h2]; simp
    · rw [if_neg h2]
      have := nm_ok h (by simpa using h2)
      exact ⟨this.1, this.2.1⟩

theorem rUint_any {w : World} {B h : Nat} {ys : List Int} {e : Int} (r : RR w B h ys e) (most : Int) :
    Calls Try.prog 37 #[.pointer (some ⟨h, 0, none⟩), .int .u64 most] w (RDone w B h (IsInt .u64 (aUint ys e most).1) (aUint ys e most).2.1 (aUint ys e most).2.2) := by
  have HN := hide (rNumber_any r)
  have hrg := num_range (e := e) r.byt
  rw [uint_num]
  rcases hn : aNum ys e with ⟨N, zs, E⟩
  rw [hn] at HN hrg
  simp only at HN hrg ⊢
  clear hn r
  by_cases hE : E = 0
  · subst hE
    by_cases hl : most < N
    · rw [if_pos ⟨rfl, hl⟩]
      go_enter Try.func37, Try.ntmps37
      go_wp2_with fail
      refine HN.out.mono ?_
      rintro x w1 ⟨v, rfl, rfl, hr, hg⟩
      have HR := hide hr
      obtain ⟨A, n, c, hc0, hc1, hf, hlt, _, _, _, _, _, _, _⟩ := hr
      clear hf
      go_wp2_with fail
      refine (fail_any HR.out 15).mono ?_
      rintro e w2 ⟨⟨v, rfl⟩, hr2, hg2⟩
      go_wp2_with fail
      go_ret
      exact ⟨_, rfl, rfl, hr2, hg.trans hg2⟩
    · rw [if_neg (fun h => hl h.2)]
      go_enter Try.func37, Try.ntmps37
      go_wp2_with fail
      refine HN.out.mono ?_
      rintro x w1 ⟨v, rfl, rfl, hr, hg⟩
      have HR := hide hr
      obtain ⟨A, n, c, hc0, hc1, hf, hlt, _, _, _, _, _, _, _⟩ := hr
      clear hf
      go_wp2_with fail
      go_ret
      exact ⟨_, rfl, rfl, HR.out, hg⟩
  · rw [if_neg (fun h => hE h.1)]
    have hb : (E == 0) = false := by simpa using hE
    have hb2 : (E != 0) = true := by simpa using hE
    clear hE
    go_enter Try.func37, Try.ntmps37
    go_wp2_with fail
    refine HN.out.mono ?_
    rintro x w1 ⟨v, rfl, rfl, hr, hg⟩
    have HR := hide hr
    obtain ⟨A, n, c, hc0, hc1, hf, hlt, _, _, _, _, _, _, _⟩ := hr
    clear hf
    go_wp2_with fail
    go_ret
    exact ⟨_, rfl, rfl, HR.out, hg⟩

theorem rInt_any {w : World} {B h : Nat} {ys : List Int} {e : Int} (r : RR w B h ys e) :
    Calls Try.prog 38 #[.pointer (some ⟨h, 0, none⟩)] w (RDone w B h (IsInt .i64 (aInt ys e).1) (aInt ys e).2.1 (aInt ys e).2.2) := by
  have HN := hide (rNumber_any r)
  have hrg := num_range (e := e) r.byt
  unfold aInt
  rcases hn : aNum ys e with ⟨N, zs, E⟩
  rw [hn] at HN hrg
  simp only at HN hrg ⊢
  clear hn r
  go_enter Try.func38, Try.ntmps38
  go_wp2_with fail
  refine HN.out.mono ?_
  rintro x w1 ⟨v, rfl, rfl, hr, hg⟩
  go_wp2_with fail
  refine (RefUnzigzag_any N _ hrg.1 hrg.2).mono ?_
  rintro x w2 ⟨rfl, rfl⟩
  go_wp2_with fail
  go_ret
  exact ⟨_, rfl, rfl, hr, hg⟩

theorem count_num (ys : List Int) (e most : Int) : aCount ys e most = if (aNum ys e).2.2 ≠ 0 then (0, [], (aNum ys e).2.2) else if most < 0 ∨ most < (aNum ys e).1 then (0, [], 15) else if ((aNum ys e).2.1.length : Int) < (aNum ys e).1 then (0, [], 4) else aNum ys e := by
  unfold aCount aNum
  by_cases h1 : e ≠ 0
  · simp [h1]
  · by_cases h2 : nmE ys ≠ 0
    · simp [h1, h2]
    · simp only [if_neg h1, if_neg h2]
      simp

theorem rCount_any {w : World} {B h : Nat} {ys : List Int} {e : Int} (r : RR w B h ys e) (most : Int) (h0 : -9223372036854775808 ≤ most) (h1 : most ≤ 9223372036854775807) :
    Calls Try.prog 41 #[.pointer (some ⟨h, 0, none⟩), .int .i64 most] w (RDone w B h (IsInt .i64 (aCount ys e most).1) (aCount ys e most).2.1 (aCount ys e most).2.2) := by
  have HN := hide (rNumber_any r)
  have hrg := num_range (e := e) r.byt
  have HZ := hide fun h => (num_err_rest (ys := ys) (e := e) h).2
  rw [count_num]
  rcases hn : aNum ys e with ⟨N, zs, E⟩
  rw [hn] at HN hrg HZ
  simp only at HN hrg HZ ⊢
  clear hn r
  by_cases hE : E = 0
  · subst hE
    rw [if_neg (by simp)]
    by_cases hneg : most < 0
    · rw [if_pos (.inl hneg)]
      go_enter Try.func41, Try.ntmps41
      go_wp2_with fail
      refine HN.out.mono ?_
      rintro x w1 ⟨v, rfl, rfl, hr, hg⟩
      have HR := hide hr
      obtain ⟨A, n, c, hc0, hc1, hf, hlt, _, _, _, _, _, _, _⟩ := hr
      clear hf
      go_wp2_with fail
      refine (fail_any HR.out 15).mono ?_
      rintro e w2 ⟨⟨v, rfl⟩, hr2, hg2⟩
      go_wp2_with fail
      go_ret
      exact ⟨_, rfl, rfl, hr2, hg.trans hg2⟩
    · by_cases hl : most < N
      · rw [if_pos (.inr hl)]
        have hm0 : 0 ≤ most := by omega
        go_enter Try.func41, Try.ntmps41
        go_wp2_with fail
        refine HN.out.mono ?_
        rintro x w1 ⟨v, rfl, rfl, hr, hg⟩
        have HR := hide hr
        obtain ⟨A, n, c, hc0, hc1, hf, hlt, _, _, _, _, _, _, _⟩ := hr
        clear hf
        go_wp2_with fail
        refine (fail_any HR.out 15).mono ?_
        rintro e w2 ⟨⟨v, rfl⟩, hr2, hg2⟩
        go_wp2_with fail
        go_ret
        exact ⟨_, rfl, rfl, hr2, hg.trans hg2⟩
      · rw [if_neg (fun h => h.elim hneg hl)]
        by_cases hz : (zs.length : Int) < N
        · rw [if_pos hz]
          go_enter Try.func41, Try.ntmps41
          go_wp2_with fail
          refine HN.out.mono ?_
          rintro x w1 ⟨v, rfl, rfl, hr, hg⟩
          have HR := hide hr
          obtain ⟨A, n, c, hc0, hc1, hf, hlt, _, _, _, _, hrd, hsm, _⟩ := hr
          have hzn : zs.length = n := by simpa using hrd.1
          rw [hzn] at hz
          clear hf hrd hzn
          go_wp2_with fail
          refine (fail_any HR.out 4).mono ?_
          rintro e w2 ⟨⟨v, rfl⟩, hr2, hg2⟩
          go_wp2_with fail
          go_ret
          exact ⟨_, rfl, rfl, hr2, hg.trans hg2⟩
        · rw [if_neg hz]
          go_enter Try.func41, Try.ntmps41
          go_wp2_with fail
          refine HN.out.mono ?_
          rintro x w1 ⟨v, rfl, rfl, hr, hg⟩
          have HR := hide hr
          obtain ⟨A, n, c, hc0, hc1, hf, hlt, _, _, _, _, hrd, hsm, _⟩ := hr
          have hzn : zs.length = n := by simpa using hrd.1
          rw [hzn] at hz
          clear hf hrd hzn
          go_wp2_with fail
          go_ret
          exact ⟨_, rfl, rfl, HR.out, hg⟩
  · rw [if_pos hE]
    have HE := hide hE
    have hb : (E == 0) = false := by simpa using hE
    have hb2 : (E != 0) = true := by simpa using hE
    clear hE
    go_enter Try.func41, Try.ntmps41
    go_wp2_with fail
    refine HN.out.mono ?_
    rintro x w1 ⟨v, rfl, rfl, hr, hg⟩
    have HR := hide hr
    obtain ⟨A, n, c, hc0, hc1, hf, hlt, _, _, _, _, _, _, _⟩ := hr
    clear hf
    go_wp2_with fail
    go_ret
    exact ⟨_, rfl, rfl, by have := HR.out; rw [HZ.out HE.out] at this; exact this, hg⟩

set_option maxRecDepth 100000 in
theorem rTake_any {w : World} {B h : Nat} {ys : List Int} {e : Int} (r : RR w B h ys e) (k : Int) (h1 : k ≤ 9223372036854775807) :
    Calls Try.prog 39 #[.pointer (some ⟨h, 0, none⟩), .int .i64 k] w (RDone w B h (IsOwn w (aTake ys e k).1) (aTake ys e k).2.1 (aTake ys e k).2.2) := by
  have HR := hide r
  obtain ⟨i0, hi, hz0, hz1, hz2⟩ := info_parts infoU8
  by_cases he : e = 0
  · subst he
    by_cases hk : k < 0
    · rw [aTake_neg hk]
      obtain ⟨A, n, c, hc0, hc1, hf, hlt, _, hnc, hcm, _, hrd, hsm, _⟩ := r
      clear hf hrd hcm
      go_enter Try.func39, Try.ntmps39
      go_wp2_with fail
      refine (fail_any HR.out 2).mono ?_
      rintro e w1 ⟨⟨v, rfl⟩, hr, hg⟩
      go_wp2_with fail
      go_ret
      exact ⟨_, rfl, ownB_of (World.ownsRow_nil _ _ _ _), hr, hg⟩
    · by_cases hl : (ys.length : Int) < k
      · rw [aTake_eof hk hl]
        obtain ⟨A, n, c, hc0, hc1, hf, hlt, _, hnc, hcm, _, hrd, hsm, _⟩ := r
        have hzn : ys.length = n := by simpa using hrd.1
        rw [hzn] at hl
        clear hf hrd hcm hzn
        go_enter Try.func39, Try.ntmps39
        go_wp2_with fail
        refine (fail_any HR.out 4).mono ?_
        rintro e w1 ⟨⟨v, rfl⟩, hr, hg⟩
        go_wp2_with fail
        go_ret
        exact ⟨_, rfl, ownB_of (World.ownsRow_nil _ _ _ _), hr, hg⟩
      · rw [aTake_ok hk hl]
        obtain ⟨j, rfl⟩ := Int.eq_ofNat_of_zero_le (show 0 ≤ k by omega)
        rw [Int.toNat_natCast]
        obtain ⟨A, n, c, r⟩ := r
        have hzn := r.len
        have hj : j ≤ n := by omega
        have HT := hide (r.rd.to_ (k := j) hj)
        rw [show (u8s ys).take j = u8s (ys.take j) by simp [u8s]] at HT
        have hrd := r.rd.from_ (k := j) (cap := c) hj r.nc
        rw [show (u8s ys).drop j = u8s (ys.drop j) by simp [u8s]] at hrd
        have HP := hide fun (w2 : World) (hb : Below w.heap.size w w2) => (r.keep hb.size (fun q hq => hb.cell (by have := r.lt; have := r.bh; omega)) (fun q hq => hb.frozen (by have := r.lt; omega))).put (c' := c - j) (by have := r.nc; omega) (by have := r.cm; omega) (r.byt.drop j) (hrd.below (hb.mono (by have := r.lt; have := r.bh; omega))) (by omega) (fun h => absurd rfl h)
        obtain ⟨hc0, hc1, hf, hlt, hbh, hnc, hcm, _, _, hsm, _⟩ := r
        have hf0 := hf 0
        have HTl : Hid ((ys.take j).length = j) := by show _ = _; rw [List.length_take]; omega
        have hcm' := hide hcm
        unfold maxLen at hcm
        clear hf hrd hzn hl hk
        go_enter Try.func39, Try.ntmps39
        go_wp2_with (at_builtin; refine wpList_append_rd _ rfl _ _ 28 rfl w.heap.size 5 i0 (.int .u8 0) 1 Try.underlying28 hi hz0 hz1 hz2 rfl _ 0 [] rfl (ownLit0 w) B A j c (u8s (ys.take j)) rfl (HT.out.alloc (by omega) _) (ints_oneCell _ _) (by unfold maxLen; omega) (by omega) (by simp) ?_; intro v2 w2 hown2 hg2 hat2; have hb2 := below_app ((Below.refl w.heap.size w).alloc (Nat.le_refl _) _) (ownLit0 w) (by simp) hg2; clear hg2 hat2; have hc2 : w2.cell? ⟨h, 0, none⟩ = some (.slice A n c) := (hb2.cell (p := ⟨h, 0, none⟩) hlt).trans hc0; have hf2 : w2.frozen? ⟨h, 0, none⟩ = false := (hb2.frozen (p := ⟨h, 0, none⟩) hlt).trans hf0; have HO := hide (ownsRow_setCell_below hown2 (a := ⟨h, 0, none⟩) hlt))
        all_goals
          go_ret
          have hp := HP.out w2 hb2
          have hos := HO.out
          rw [Nat.zero_add, List.nil_append] at hos
          first
            | (rw [if_neg (by omega)] at hp
               exact ⟨v2, rfl, ownB_of (by rw [HTl.out]; exact hos _), ⟨_, _, _, hp⟩, only_setCell (only_of_below hb2 _) _ _⟩)
            | (have hce : c = j := by omega
               subst hce
               rw [if_pos rfl, Nat.sub_self] at hp
               exact ⟨v2, rfl, ownB_of (by rw [HTl.out]; exact hos _), ⟨_, _, _, hp⟩, only_setCell (only_of_below hb2 _) _ _⟩)
  · rw [aTake_skip k he]
    have hy : ys = [] := by obtain ⟨A, n, c, k⟩ := r; exact k.er he
    subst hy
    obtain ⟨A, n, c, hc0, hc1, hf, hlt, _, _, _, _, _, _, _⟩ := r
    have hb : (e == 0) = false := by simpa using he
    have hb2 : (e != 0) = true := by simpa using he
    clear hf he
    go_enter Try.func39, Try.ntmps39
    go_wp2
    go_ret
    exact ⟨_, rfl, ownB_of (World.ownsRow_nil _ _ _ _), HR.out, World.grownBy.refl _ _⟩

theorem rStr_any {w : World} {B h : Nat} {ys : List Int} {e : Int} (r : RR w B h ys e) (most : Int) (h0 : -9223372036854775808 ≤ most) (h1 : most ≤ 9223372036854775807) :
    Calls Try.prog 40 #[.pointer (some ⟨h, 0, none⟩), .int .i64 most] w (RDone w B h (IsStr (aStr ys e most).1) (aStr ys e most).2.1 (aStr ys e most).2.2) := by
  have HN := hide (rCount_any r most h0 h1)
  have hlim : (aCount ys e most).1 ≤ 9223372036854775807 := by
    rw [count_num]
    split
    · simp
    · split
      · simp
      · split
        · simp
        · omega
  unfold aStr
  rcases hn : aCount ys e most with ⟨N, zs, E⟩
  rw [hn] at HN hlim
  simp only at HN hlim ⊢
  clear hn r
  go_enter Try.func40, Try.ntmps40
  go_wp2_with fail
  refine HN.out.mono ?_
  rintro x w1 ⟨v, rfl, rfl, hr, hg⟩
  go_wp2_with fail
  refine (rTake_any hr N hlim).mono ?_
  rintro x w2 ⟨v, rfl, ⟨A, c, rfl, k1, k2, hrd, k4⟩, hr2, hg2⟩
  have hcv := hrd.convert (P := Try.prog) (c := c) 28 5 9 Try.underlying28 Try.underlying5 Try.underlying9
  generalize hm : (aTake zs E N).1 = ms at *
  generalize hml : ms.length = m at *
  have HM := hide hm
  have HL := hide hml
  have HR := hide hr2
  have HG := hide (hg.trans hg2)
  clear hr hrd k4 hm hml hr2 hg hg2
  generalize hS : strOfNums ms = S at hcv
  have HS := hide hS
  clear hS
  go_wp2_with fail
  go_ret
  exact ⟨_, rfl, by show Value.string S = .string (strOfNums _); rw [HS.out], HR.out, HG.out⟩

theorem rFail_any {w : World} {B h : Nat} {ys : List Int} {e : Int} (r : RR w B h ys e) (f : Int) :
    Calls Try.prog 42 #[.pointer (some ⟨h, 0, none⟩), .int .i64 f] w fun x w' => (∃ v, x = .returned v) ∧ RR w' B h (aFail ys e f).1 (aFail ys e f).2 ∧ w.grownBy w' (some h) := by
  have HR := hide r
  by_cases he : e = 0
  · subst he
    obtain ⟨A, n, c, hc0, hc1, hf, hlt, _, _, _, _, _, _, _⟩ := r
    clear hf
    by_cases h0 : f = 0
    · subst h0
      go_enter Try.func42, Try.ntmps42
      go_wp2
      go_end0
      exact ⟨⟨_, rfl⟩, HR.out, World.grownBy.refl _ _⟩
    · have e1 : aFail ys 0 f = ([], f) := by unfold aFail; rw [if_neg (by simp), if_pos h0]
      rw [e1]
      have hb : (f == 0) = false := by simpa using h0
      have hb2 : (f != 0) = true := by simpa using h0
      clear h0 e1
      go_enter Try.func42, Try.ntmps42
      go_wp2_with fail
      refine (fail_any HR.out f).mono ?_
      rintro e w2 ⟨⟨v, rfl⟩, hr2, hg2⟩
      go_wp2_with fail
      go_end0
      exact ⟨⟨_, rfl⟩, hr2, hg2⟩
  · rw [aFail_skip f he]
    obtain ⟨A, n, c, hc0, hc1, hf, hlt, _, _, _, _, _, _, _⟩ := r
    have hb : (e == 0) = false := by simpa using he
    have hb2 : (e != 0) = true := by simpa using he
    clear hf he
    go_enter Try.func42, Try.ntmps42
    go_wp2
    go_end0
    exact ⟨⟨_, rfl⟩, HR.out, World.grownBy.refl _ _⟩

theorem rEnd_any {w : World} {B h : Nat} {ys : List Int} {e : Int} (r : RR w B h ys e) :
    Calls Try.prog 43 #[.pointer (some ⟨h, 0, none⟩)] w fun x w' => x = .returned (.int .i64 (aEnd ys e)) ∧ w = w' := by
  obtain ⟨A, n, c, hc0, hc1, hf, hlt, _, hnc, hcm, _, hrd, hsm, her⟩ := r
  have hl : ys.length = n := by simpa using hrd.1
  unfold aEnd
  rw [hl]
  clear hf hrd hcm hl her
  by_cases he : e = 0
  · subst he
    rw [if_neg (by simp)]
    by_cases hz : 0 < n
    · rw [if_pos hz]
      go_enter Try.func43, Try.ntmps43
      go_wp2
      go_ret
      exact ⟨rfl, rfl⟩
    · rw [if_neg hz]
      obtain rfl : n = 0 := by omega
      go_enter Try.func43, Try.ntmps43
      go_wp2
      go_ret
      exact ⟨rfl, rfl⟩
  · rw [if_pos he]
    have hb : (e == 0) = false := by simpa using he
    have hb2 : (e != 0) = true := by simpa using he
    clear he
    go_enter Try.func43, Try.ntmps43
    go_wp2
    go_ret
    exact ⟨rfl, rfl⟩
end Go.Proofs.Ytakjlomgkbloeaa
