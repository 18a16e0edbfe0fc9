/- The methods of a reader of package wire, and NewReader. -/
import Derived.Test.YtbkgooeghmaokaaRdrIn
set_option linter.unusedVariables false
namespace Go.Proofs.Ytbkgooeghmaokaa
open Go.RowKit

theorem OwnB.base {w w1 w' : World} {v : Value} {xs : List Int} (h : OwnB w1 w' v xs) (hs : w.heap.size ≤ w1.heap.size) : OwnB w w' v xs := by
  obtain ⟨A, c, h1, h2, h3, h4, h5⟩ := h
  exact ⟨A, c, h1, h2, h3, h4, ownsRow_base h5 hs⟩
theorem ownB_nil (w w' : World) : OwnB w w' (.slice none 0 0) [] := ownB_of (World.ownsRow_nil _ _ _ _)

theorem Count1 {w : World} {g b m : Nat} {ys : List Int} {most : Int} (h : CR w g ys 0) (h0 : -9223372036854775808 ≤ most) (h1 : most ≤ 9223372036854775807) (hc : w.cell? ⟨b, 0, none⟩ = some (.pointer (some ⟨g, 0, none⟩))) (hm : w.cell? ⟨m, 0, none⟩ = some (.int .i64 most)) :
    Calls Try.prog 50 #[.pointer (some ⟨b, 0, none⟩), .pointer (some ⟨m, 0, none⟩)] w (Next w g (.int .i64 0) (IsInt .i64 (aCount ys 0 most).1) (aCount ys 0 most).2.1 (aCount ys 0 most).2.2) := by
  have key : ∃ v er zs, Calls Try.prog 51 #[.pointer (some ⟨g, 0, none⟩), .int .i64 most] w (Inner w g v er zs) ∧ (∀ x w1, Inner w g v er zs x w1 → Next w g (.int .i64 0) (IsInt .i64 (aCount ys 0 most).1) (aCount ys 0 most).2.1 (aCount ys 0 most).2.2 x w1) := by
    by_cases hE : nmE ys = 0
    · by_cases hl : most < 0 ∨ most < nmN ys
      · rw [aCount_lim hE hl]
        exact ⟨_, _, _, length_lim h most hE hl h0 h1, by rintro x w1 ⟨rfl, hr, hg⟩; exact next_err (by decide) hr hg⟩
      · by_cases hz : ((ys.drop (nmL ys)).length : Int) < nmN ys
        · rw [aCount_eof hE hl hz]
          exact ⟨_, _, _, length_eof h most hE hl hz h1, by rintro x w1 ⟨rfl, hr, hg⟩; exact next_err (by decide) hr hg⟩
        · rw [aCount_ok hE hl hz]
          exact ⟨_, _, _, length_ok h most hE hl hz h1, by rintro x w1 ⟨rfl, hr, hg⟩; exact next_ok rfl hr hg⟩
    · rw [aCount_err most hE]
      exact ⟨_, _, _, length_err h most hE, by rintro x w1 ⟨rfl, hr, hg⟩; exact next_err hE hr hg⟩
  obtain ⟨v, er, zs, HC, HN⟩ := key
  have HC := hide HC
  have HN := hide HN
  clear h
  rename_i HC0 HN0
  clear HC0 HN0
  go_enter Try.func50, Try.ntmps50
  go_wp2_with fail
  refine HC.out.mono ?_
  rintro e w1 ⟨rfl, hr, hg⟩
  go_wp2_with fail
  go_ret2
  exact HN.out _ _ ⟨rfl, hr, hg⟩

theorem Str1 {w : World} {g b m : Nat} {ys : List Int} {most : Int} (h : CR w g ys 0) (h0 : -9223372036854775808 ≤ most) (h1 : most ≤ 9223372036854775807) (hc : w.cell? ⟨b, 0, none⟩ = some (.pointer (some ⟨g, 0, none⟩))) (hm : w.cell? ⟨m, 0, none⟩ = some (.int .i64 most)) (hbm : b ≠ g ∧ b < w.heap.size) :
    Calls Try.prog 53 #[.pointer (some ⟨b, 0, none⟩), .pointer (some ⟨m, 0, none⟩)] w (Next w g (.string .empty) (IsStr (aStr ys 0 most).1) (aStr ys 0 most).2.1 (aStr ys 0 most).2.2) := by
  have key : (∃ er zs, er ≠ 0 ∧ aStr ys 0 most = ([], [], er) ∧ Calls Try.prog 51 #[.pointer (some ⟨g, 0, none⟩), .int .i64 most] w (Inner w g (.int .i64 0) er zs)) ∨
      ∃ (j : Nat) (zs : List Int), j ≤ zs.length ∧ aStr ys 0 most = (zs.take j, zs.drop j, 0) ∧ Calls Try.prog 51 #[.pointer (some ⟨g, 0, none⟩), .int .i64 most] w (Inner w g (.int .i64 (j : Int)) 0 zs) := by
    by_cases hE : nmE ys = 0
    · by_cases hl : most < 0 ∨ most < nmN ys
      · exact .inl ⟨_, _, (by decide : (15 : Int) ≠ 0), by rw [aStr_of (aCount_lim hE hl)]; rfl, length_lim h most hE hl h0 h1⟩
      · by_cases hz : ((ys.drop (nmL ys)).length : Int) < nmN ys
        · exact .inl ⟨_, _, (by decide : (4 : Int) ≠ 0), by rw [aStr_of (aCount_eof hE hl hz)]; rfl, length_eof h most hE hl hz h1⟩
        · obtain ⟨j, hj⟩ := Int.eq_ofNat_of_zero_le (nm_ok h.byt hE).1
          have HL := length_ok h most hE hl hz h1
          refine .inr ⟨j, ys.drop (nmL ys), by omega, ?_, by rw [hj] at HL; exact HL⟩
          rw [aStr_of (aCount_ok hE hl hz), aTake_ok (by omega) hz, hj, Int.toNat_natCast]
    · exact .inl ⟨_, _, hE, by rw [aStr_of (aCount_err most hE), aTake_skip _ hE], length_err h most hE⟩
  rcases key with ⟨er, zs, hne, he, HC⟩ | ⟨j, zs, hj, he, HC⟩
  · rw [he]
    have HC' := hide HC
    have HE := hide hne
    have hb : (er == 0) = false := by simpa using hne
    have hb2 : (er != 0) = true := by simpa using hne
    clear h HC he hne
    go_enter Try.func53, Try.ntmps53
    go_wp2_with fail
    refine HC'.out.mono ?_
    rintro e w1 ⟨rfl, hr, hg⟩
    go_wp2_with fail
    go_ret2
    exact next_err HE.out hr hg
  · rw [he]
    have HC' := hide HC
    have hsm := h.len_le
    clear h HC he
    go_enter Try.func53, Try.ntmps53
    go_wp2_with fail
    refine HC'.out.mono ?_
    rintro e w1 ⟨rfl, hr, hg⟩
    have hc1 : w1.cell? ⟨b, 0, none⟩ = some (.pointer (some ⟨g, 0, none⟩)) := (hg.cell_far ⟨b, 0, none⟩ hbm.2 (fun x => by injection x with x; exact hbm.1 x)).trans hc
    go_wp2_with fail
    refine (part_ok hr j hj).mono ?_
    rintro e w2 ⟨A', c', rfl, hk1, hk2, hrd, hr2, hg2⟩
    have hcv := hrd.convert (P := Try.prog) (c := c') 41 5 9 Try.underlying41 Try.underlying5 Try.underlying9
    have HR := hide hr2
    clear hr2 hrd hr
    generalize hS : strOfNums (zs.take j) = S at hcv
    have HS := hide hS
    clear hS
    go_wp2_with fail
    go_ret2
    exact next_ok (v := .string S) (by unfold IsStr; rw [HS.out]) HR.out (hg.trans hg2)

/-! ### the methods -/
theorem aByte_zero {ys : List Int} {e : Int} (h : (aByte ys e).2.2 ≠ 0) : (aByte ys e).2.1 = [] := by
  unfold aByte at h ⊢
  split
  · rfl
  · rw [if_neg ‹_›] at h
    cases ys with
    | nil => rfl
    | cons y t => exact absurd rfl h
theorem take_zero {ys : List Int} {e k : Int} (h : (aTake ys e k).2.2 ≠ 0) : (aTake ys e k).1 = [] := by
  unfold aTake at h ⊢
  repeat (split; · first | rfl)
  rename_i h1 h2 h3
  rw [if_neg h1, if_neg h2, if_neg h3] at h
  exact absurd rfl h
theorem str_zero {ys : List Int} {e k : Int} (h : (aStr ys e k).2.2 ≠ 0) : (aStr ys e k).1 = [] := take_zero h
theorem uint_zero {ys : List Int} {e k : Int} (h : (aUint ys e k).2.2 ≠ 0) : (aUint ys e k).1 = 0 := by
  unfold aUint at h ⊢
  repeat (split; · first | rfl)
  rename_i h1 h2 h3
  rw [if_neg h1, if_neg h2, if_neg h3] at h
  exact absurd rfl h
theorem count_zero {ys : List Int} {e k : Int} (h : (aCount ys e k).2.2 ≠ 0) : (aCount ys e k).1 = 0 := by
  unfold aCount at h ⊢
  repeat (split; · first | rfl)
  rename_i h1 h2 h3 h4
  rw [if_neg h1, if_neg h2, if_neg h3, if_neg h4] at h
  exact absurd rfl h
theorem byte_zero {ys : List Int} {e : Int} (h : (aByte ys e).2.2 ≠ 0) : (aByte ys e).1 = 0 := by
  unfold aByte at h ⊢
  split
  · rfl
  · rw [if_neg ‹_›] at h
    cases ys with
    | nil => rfl
    | cons y t => exact absurd rfl h
theorem int_zero {ys : List Int} {e : Int} (h : (aInt ys e).2.2 ≠ 0) : (aInt ys e).1 = 0 := by
  unfold aInt aNum at h ⊢
  split
  · rfl
  · rename_i h1
    rw [if_neg h1] at h
    split
    · rfl
    · rename_i h2
      rw [if_neg h2] at h
      exact absurd rfl h

theorem Next.widen {w w1 : World} {g : Nat} {z : Value} {V V' : World → Value → Prop} {zs : List Int} {E : Int} {x : Ending} (h : Next w g z V zs E x w1) (hV : ∀ v, V w1 v → V' w1 v) : Next w g z V' zs E x w1 := by
  obtain ⟨v, er, h1, h2, h3⟩ := h
  exact ⟨v, er, h1, h2, h3.imp (fun ⟨a, b, c, d⟩ => ⟨a, b, hV v c, d⟩) id⟩
theorem String_skip {w : World} {q : Option Addr} {e : Int} (h : ErrOf w q e) (he : e ≠ 0) (k : Int) : Calls Try.prog 38 #[.pointer q, .int .i64 k] w fun x w' => x = .returned (.string .empty) ∧ Below w.heap.size w w' := by
  have HS := hide fun f => skip_str f ((h.alloc (.cells #[.pointer q] 58)).alloc (.cells #[.int .i64 k] 3)) he
  clear h he
  go_enter Try.func38, Try.ntmps38
  go_wp2_with fail
  refine (HS.out _).mono ?_
  rintro e w1 ⟨rfl, rfl⟩
  go_wp2_with fail
  go_ret
  exact ⟨rfl, (((Below.refl _ _).alloc (Nat.le_refl _) _).alloc (by simp) _)⟩
theorem String_any {w : World} {g : Nat} {ys : List Int} {e : Int} (h : CR w g ys e) (k : Int) (h2 : -9223372036854775808 ≤ k) (h3 : k ≤ 9223372036854775807) : Calls Try.prog 38 #[.pointer (some ⟨g, 0, none⟩), .int .i64 k] w (Done w g (IsStr (aStr ys e k).1) (aStr ys e k).2.1 (aStr ys e k).2.2) := by
  by_cases he : e = 0
  · subst he
    have hb : Below w.heap.size w ((w.alloc (.cells #[.pointer (some ⟨g, 0, none⟩)] 58)).alloc (.cells #[.int .i64 k] 3)) := (((Below.refl _ _).alloc (Nat.le_refl _) _).alloc (by simp) _)
    have h1 : CR ((w.alloc (.cells #[.pointer (some ⟨g, 0, none⟩)] 58)).alloc (.cells #[.int .i64 k] 3)) g ys 0 := h.below hb h.lt
    have hlt := h.lt
    have HC := hide (read_str h1 (V := IsStr (aStr ys 0 k).1) (fun h W => by rw [str_zero h]; rfl) (Str1 (b := w.heap.size) (m := w.heap.size + 1) h1 h2 h3 (by simp [go_sem]) (by simp [go_sem]) (by simp; omega)))
    have HB := hide hb
    clear h h1 hb
    go_enter Try.func38, Try.ntmps38
    go_wp2_with fail
    refine HC.out.mono ?_
    rintro x w1 ⟨v, rfl, hV, hr, hg⟩
    have HV := hide hV
    have HR := hide hr
    clear hV hr
    go_wp2_with fail
    go_ret
    exact ⟨v, rfl, HV.out, HR.out, (only_of_below HB.out _).trans hg⟩
  · have e1 : aStr ys e k = ([], [], e) := (by rw [aStr_of (aCount_skip k he), aTake_skip _ he])
    rw [e1]
    have hy : CR w g [] e := by
      obtain ⟨A, n, c, p, xs, k, r1, r2⟩ := h
      exact ⟨A, n, c, p, xs, k, fun x => absurd x he, fun _ => rfl⟩
    refine (String_skip h.errOf he k).mono ?_
    rintro x w' ⟨rfl, hb⟩
    exact ⟨_, rfl, rfl, hy.below hb h.lt, only_of_below hb _⟩

theorem Count_skip {w : World} {q : Option Addr} {e : Int} (h : ErrOf w q e) (he : e ≠ 0) (k : Int) : Calls Try.prog 37 #[.pointer q, .int .i64 k] w fun x w' => x = .returned (.int .i64 0) ∧ Below w.heap.size w w' := by
  have HS := hide fun f => skip_count f ((h.alloc (.cells #[.pointer q] 58)).alloc (.cells #[.int .i64 k] 3)) he
  clear h he
  go_enter Try.func37, Try.ntmps37
  go_wp2_with fail
  refine (HS.out _).mono ?_
  rintro e w1 ⟨rfl, rfl⟩
  go_wp2_with fail
  go_ret
  exact ⟨rfl, (((Below.refl _ _).alloc (Nat.le_refl _) _).alloc (by simp) _)⟩
theorem Count_any {w : World} {g : Nat} {ys : List Int} {e : Int} (h : CR w g ys e) (k : Int) (h2 : -9223372036854775808 ≤ k) (h3 : k ≤ 9223372036854775807) : Calls Try.prog 37 #[.pointer (some ⟨g, 0, none⟩), .int .i64 k] w (Done w g (IsInt .i64 (aCount ys e k).1) (aCount ys e k).2.1 (aCount ys e k).2.2) := by
  by_cases he : e = 0
  · subst he
    have hb : Below w.heap.size w ((w.alloc (.cells #[.pointer (some ⟨g, 0, none⟩)] 58)).alloc (.cells #[.int .i64 k] 3)) := (((Below.refl _ _).alloc (Nat.le_refl _) _).alloc (by simp) _)
    have h1 : CR ((w.alloc (.cells #[.pointer (some ⟨g, 0, none⟩)] 58)).alloc (.cells #[.int .i64 k] 3)) g ys 0 := h.below hb h.lt
    have hlt := h.lt
    have HC := hide (read_count h1 (V := IsInt .i64 (aCount ys 0 k).1) (fun h W => by rw [count_zero h]; rfl) (Count1 (b := w.heap.size) (m := w.heap.size + 1) h1 h2 h3 (by simp [go_sem]) (by simp [go_sem])))
    have HB := hide hb
    clear h h1 hb
    go_enter Try.func37, Try.ntmps37
    go_wp2_with fail
    refine HC.out.mono ?_
    rintro x w1 ⟨v, rfl, hV, hr, hg⟩
    have HV := hide hV
    have HR := hide hr
    clear hV hr
    go_wp2_with fail
    go_ret
    exact ⟨v, rfl, HV.out, HR.out, (only_of_below HB.out _).trans hg⟩
  · have e1 : aCount ys e k = (0, [], e) := aCount_skip k he
    rw [e1]
    have hy : CR w g [] e := by
      obtain ⟨A, n, c, p, xs, k, r1, r2⟩ := h
      exact ⟨A, n, c, p, xs, k, fun x => absurd x he, fun _ => rfl⟩
    refine (Count_skip h.errOf he k).mono ?_
    rintro x w' ⟨rfl, hb⟩
    exact ⟨_, rfl, rfl, hy.below hb h.lt, only_of_below hb _⟩


theorem Fail_any {w : World} {g : Nat} {ys : List Int} {e : Int} (h : CR w g ys e) (f : Int) :
    Calls Try.prog 40 #[.pointer (some ⟨g, 0, none⟩), .int .i64 f] w fun x w' => (∃ v, x = .returned v) ∧ CR w' g (aFail ys e f).1 (aFail ys e f).2 ∧ w.grownBy w' (some g) := by
  have hE := h.errOf
  by_cases he : e = 0
  · subst he
    have HR := hide h
    obtain ⟨A, n, c, p, xs, ⟨_, _, hc2, hf, hlt, _, _, _, _, _, _⟩, _⟩ := h
    have hf2 := hf 2
    clear hf
    by_cases h0 : f = 0
    · subst h0
      go_enter Try.func40, Try.ntmps40
      go_wp2_with fail
      refine (Err_of _ _ _ hE).mono ?_
      rintro e w1 ⟨rfl, rfl⟩
      go_wp2_with fail
      go_end0
      exact ⟨⟨_, rfl⟩, HR.out.note0, only_setCell (World.grownBy.refl _ _) _ _⟩
    · have e1 : aFail ys 0 f = ([], f) := by unfold aFail; rw [if_neg (by simp), if_pos h0]
      rw [e1]
      have H0 := hide h0
      clear h0 e1
      go_enter Try.func40, Try.ntmps40
      go_wp2_with fail
      refine (Err_of _ _ _ hE).mono ?_
      rintro e w1 ⟨rfl, rfl⟩
      go_wp2_with fail
      go_end0
      exact ⟨⟨_, rfl⟩, HR.out.note f H0.out, only_setCell (World.grownBy.refl _ _) _ _⟩
  · rw [aFail_skip f he]
    have HR := hide h
    have hb : (e == 0) = false := by simpa using he
    have hb2 : (e != 0) = true := by simpa using he
    clear h he
    go_enter Try.func40, Try.ntmps40
    go_wp2_with fail
    refine (Err_of _ _ _ hE).mono ?_
    rintro e w1 ⟨rfl, rfl⟩
    go_wp2_with fail
    go_end0
    exact ⟨⟨_, rfl⟩, HR.out, World.grownBy.refl _ _⟩
theorem Fail_nil (w : World) (f : Int) : Calls Try.prog 40 #[.pointer none, .int .i64 f] w fun x w' => (∃ v, x = .returned v) ∧ w = w' := by
  go_enter Try.func40, Try.ntmps40
  go_wp2_with fail
  refine (Err_of _ _ _ (ErrOf.none_ w)).mono ?_
  rintro e w1 ⟨rfl, rfl⟩
  go_wp2_with fail
  go_end0
  exact ⟨⟨_, rfl⟩, rfl⟩

theorem Left_skip {w : World} {q : Option Addr} {e : Int} (h : ErrOf w q e) (he : e ≠ 0) : Calls Try.prog 56 #[.pointer q] w fun x w' => x = .returned (.int .i64 0) ∧ w = w' := by
  have hb : (e == 0) = false := by simpa using he
  have hb2 : (e != 0) = true := by simpa using he
  clear he
  go_enter Try.func56, Try.ntmps56
  go_wp2_with fail
  refine (Err_of _ _ _ h).mono ?_
  rintro e w1 ⟨rfl, rfl⟩
  go_wp2_with fail
  go_ret
  exact ⟨rfl, rfl⟩
theorem Left_any {w : World} {g : Nat} {ys : List Int} {e : Int} (h : CR w g ys e) : Calls Try.prog 56 #[.pointer (some ⟨g, 0, none⟩)] w fun x w' => x = .returned (.int .i64 (aLeft ys e)) ∧ ∃ k, w' = w.drewN k := by
  have hE := h.errOf
  have HR := hide h
  by_cases he : e = 0
  · subst he
    rw [aLeft_ok]
    clear h
    go_enter Try.func56, Try.ntmps56
    go_wp2_with fail
    refine (Err_of _ _ _ hE).mono ?_
    rintro e w1 ⟨rfl, rfl⟩
    go_wp2_with fail
    refine (rest_of HR.out).mono ?_
    rintro e w1 ⟨rfl, k, rfl⟩
    go_wp2_with fail
    go_ret
    exact ⟨rfl, _, rfl⟩
  · rw [aLeft_skip he]
    refine (Left_skip hE he).mono ?_
    rintro x w' ⟨rfl, rfl⟩
    exact ⟨rfl, 0, rfl⟩

theorem End_skip {w : World} {q : Option Addr} {e : Int} (h : ErrOf w q e) (he : e ≠ 0) : Calls Try.prog 41 #[.pointer q] w fun x w' => x = .returned (.int .i64 e) ∧ w = w' := by
  have hb : (e == 0) = false := by simpa using he
  have hb2 : (e != 0) = true := by simpa using he
  clear he
  go_enter Try.func41, Try.ntmps41
  go_wp2_with fail
  refine (Err_of _ _ _ h).mono ?_
  rintro e w1 ⟨rfl, rfl⟩
  go_wp2_with fail
  go_ret
  exact ⟨rfl, rfl⟩
theorem End_any {w : World} {g : Nat} {ys : List Int} {e : Int} (h : CR w g ys e) : Calls Try.prog 41 #[.pointer (some ⟨g, 0, none⟩)] w fun x w' => x = .returned (.int .i64 (aEnd ys e)) ∧ ∃ k, w' = w.drewN k := by
  have hE := h.errOf
  have HR := hide h
  by_cases he : e = 0
  · subst he
    have hL := hide (Left_any h)
    rw [aLeft_ok] at hL
    by_cases hz : 0 < ys.length
    · have e1 : aEnd ys 0 = 11 := by unfold aEnd; rw [if_neg (by simp), if_pos hz]
      rw [e1]
      clear h e1
      generalize ys.length = m at *
      go_enter Try.func41, Try.ntmps41
      go_wp2_with fail
      refine (Err_of _ _ _ hE).mono ?_
      rintro e w1 ⟨rfl, rfl⟩
      go_wp2_with fail
      refine hL.out.mono ?_
      rintro e w1 ⟨rfl, k, rfl⟩
      go_wp2_with fail
      go_ret
      exact ⟨rfl, _, rfl⟩
    · have e1 : aEnd ys 0 = 0 := by unfold aEnd; rw [if_neg (by simp), if_neg hz]
      rw [e1]
      clear h e1
      generalize ys.length = m at *
      obtain rfl : m = 0 := by omega
      go_enter Try.func41, Try.ntmps41
      go_wp2_with fail
      refine (Err_of _ _ _ hE).mono ?_
      rintro e w1 ⟨rfl, rfl⟩
      go_wp2_with fail
      refine hL.out.mono ?_
      rintro e w1 ⟨rfl, k, rfl⟩
      go_wp2_with fail
      go_ret
      exact ⟨rfl, _, rfl⟩
  · rw [aEnd_skip he]
    refine (End_skip hE he).mono ?_
    rintro x w' ⟨rfl, rfl⟩
    exact ⟨rfl, 0, rfl⟩

theorem CR_new {w : World} {A : Option Addr} {n c : Nat} {xs : List Int} {T : TypeId} (hr : Rd w w.heap.size A n (u8s xs)) (hnc : n ≤ c) (hcm : c ≤ maxLen) (hx : Byt xs) (hn : n ≤ 1099511627776) :
    CR (w.alloc (.cells #[.slice A n c, .int .i64 0, .int .i64 0] T)) w.heap.size xs 0 :=
  ⟨A, n, c, 0, xs, ⟨by simp [go_sem], by simp [go_sem], by simp [go_sem], fun j => by simp [go_sem], by simp, hnc, hcm, Nat.zero_le _, hx, hr.alloc (Nat.le_refl _) _, hn⟩, fun _ => by simp, fun h => absurd rfl h⟩
/-- a new reader hangs on the blocks from w's end up to its own alone -/
theorem NewReader_new {B : Nat} (A : Option Addr) (n c : Nat) (xs : List Int) (w : World) (hr : Rd w B A n (u8s xs)) (hB : B ≤ w.heap.size) (hx : Byt xs) (hn : n ≤ 1099511627776) :
    Calls Try.prog 36 #[.slice A n c] w fun x w' => ∃ g, x = .returned (.pointer (some ⟨g, 0, none⟩)) ∧ w.heap.size ≤ g ∧ g < w'.heap.size ∧
      (∀ w2 : World, w'.heap.size ≤ w2.heap.size → (∀ k, w.heap.size ≤ k → k ≤ g → w2.heap[k]? = w'.heap[k]?) → CR w2 g xs 0) ∧ Below w.heap.size w w' := by
  have HC := hide (Clone_any A n c xs w hr hB hn)
  have hl : xs.length = n := by simpa using hr.1
  have HL := hide hl
  clear hr hl
  go_enter Try.func36, Try.ntmps36
  go_wp2_with fail
  refine HC.out.mono ?_
  rintro e w1 ⟨v, rfl, ⟨A2, c2, rfl, h1, h2, h3, h4⟩, hb⟩
  have H1 := hide h1
  have H3 := hide h3
  have H4 := hide h4
  rw [HL.out] at H3 H1 H4
  rw [HL.out]
  clear h1 h3 h4
  go_wp2_with fail
  go_ret
  refine ⟨_, rfl, hb.size, by simp, fun w2 hs hk => ?_, hb.alloc hb.size _⟩
  obtain ⟨A', n', c', p', xs', q, r1, r2⟩ := CR_new (T := 78) H3.out H1.out h2 hx hn
  have hcell : ∀ a : Addr, w.heap.size ≤ a.block → a.block ≤ w1.heap.size → w2.cell? a = (w1.alloc (.cells #[.slice A2 n c2, .int .i64 0, .int .i64 0] 78)).cell? a := fun a ha hb => World.cell?_of_block (hk a.block ha hb)
  have hfr : ∀ a : Addr, w.heap.size ≤ a.block → a.block ≤ w1.heap.size → w2.frozen? a = (w1.alloc (.cells #[.slice A2 n c2, .int .i64 0, .int .i64 0] 78)).frozen? a := fun a ha hb => World.frozen?_of_block (hk a.block ha hb)
  have hc0 := q.c0
  have hc1 := q.c1
  simp [go_sem] at hc0 hc1
  obtain ⟨⟨rfl, rfl⟩, rfl⟩ : (A2 = A' ∧ n = n') ∧ c2 = c' := by simpa [and_assoc] using hc0
  refine ⟨A2, n, c2, p', xs', ⟨(hcell _ hb.size (Nat.le_refl _)).trans q.c0, (hcell _ hb.size (Nat.le_refl _)).trans q.c1, (hcell _ hb.size (Nat.le_refl _)).trans q.c2, fun j => (hfr _ hb.size (Nat.le_refl _)).trans (q.fr j), by simp at hs; omega, q.nc, q.cm, q.pn, q.byt, ?_, q.sm⟩, r1, r2⟩
  refine ⟨q.rd.1, fun h0 => ?_⟩
  obtain ⟨b, o, rfl, hlt, hcs⟩ := q.rd.2 h0
  obtain ⟨g1, c1, hv, hg1, _⟩ := H4.out.form h0
  injection hv with e1
  injection e1 with e1
  injection e1 with e1 e2
  subst e1 e2
  exact ⟨b, 0, rfl, hlt, fun j u hu => (hcell _ hg1 (Nat.le_of_lt hlt)).trans (hcs j u hu)⟩
theorem NewReader_any {B : Nat} (A : Option Addr) (n c : Nat) (xs : List Int) (w : World) (hr : Rd w B A n (u8s xs)) (hB : B ≤ w.heap.size) (hx : Byt xs) (hn : n ≤ 1099511627776) :
    Calls Try.prog 36 #[.slice A n c] w fun x w' => ∃ g, x = .returned (.pointer (some ⟨g, 0, none⟩)) ∧ w.heap.size ≤ g ∧ CR w' g xs 0 ∧ Below w.heap.size w w' :=
  (NewReader_new A n c xs w hr hB hx hn).mono fun e w' ⟨g, h1, h2, h3, h4, h5⟩ => ⟨g, h1, h2, h4 w' (Nat.le_refl _) (fun _ _ _ => rfl), h5⟩
end Go.Proofs.Ytbkgooeghmaokaa
