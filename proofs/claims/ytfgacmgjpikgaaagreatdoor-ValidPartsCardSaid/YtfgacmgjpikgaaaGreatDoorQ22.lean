/- Part 23 of the contracts and their mathematics. -/
import Derived.Test.YtfgacmgjpikgaaaGreatDoorQ1
import Derived.Deep.RegionHeld3
set_option linter.unusedVariables false
set_option linter.unusedSimpArgs false
namespace Go.Proofs.YtfgacmgjpikgaaaGreatDoor
open Go.RowKit
theorem rwithin_any (i n : Int) (w : World) : Calls Tryz.prog 73 #[.int .i64 i, .int .i64 n] w fun e w' => e = .returned (.bool (tyIn i n)) ∧ w = w' := by
 by_cases h1 : 0 ≤ i
 ·
  by_cases h2 : i < n
  ·
   have e := hide (show tyIn i n = true from tyIn_iff.2 ⟨h1, h2⟩)
   go_enter Tryz.func73, Tryz.ntmps73
   go_wp2
   go_ret
   exact ⟨congrArg (fun v => Ending.returned (.bool v)) e.out.symm, rfl⟩
  ·
   have e := hide (show tyIn i n = false from tyIn_not.2 (by omega))
   have h3 : decide (i < n) = false := by simpa using h2
   go_enter Tryz.func73, Tryz.ntmps73
   go_wp2
   go_ret
   exact ⟨congrArg (fun v => Ending.returned (.bool v)) e.out.symm, rfl⟩
 ·
  have e := hide (show tyIn i n = false from tyIn_not.2 (by omega))
  have h3 : decide (0 ≤ i) = false := by simpa using h1
  go_enter Tryz.func73, Tryz.ntmps73
  go_wp2
  go_ret
  exact ⟨congrArg (fun v => Ending.returned (.bool v)) e.out.symm, rfl⟩
theorem rwithin_is {i n : Int} {b : Bool} (h : tyIn i n = b) (w : World) : Calls Tryz.prog 73 #[.int .i64 i, .int .i64 n] w fun e w' => e = .returned (.bool b) ∧ w = w' := h ▸ rwithin_any i n w
theorem before_any (p q : Pr) (w : World) : Calls Tryz.prog 74 #[.agg #[.int .i64 p.1, .int .i64 p.2], .agg #[.int .i64 q.1, .int .i64 q.2]] w fun e w' => e = .returned (.bool (prLt p q)) ∧ Below w.heap.size w w' := by
 obtain ⟨a, b⟩ := p
 obtain ⟨c, d⟩ := q
 have HB := hide (((Below.refl w.heap.size w).alloc (Nat.le_refl _) (.cells #[.int .i64 a, .int .i64 b] 99)).alloc (by simp) (.cells #[.int .i64 c, .int .i64 d] 99))
 by_cases h1 : a < c
 ·
  have e := hide (show prLt (a, b) (c, d) = true by unfold prLt; simp; omega)
  go_enter Tryz.func74, Tryz.ntmps74
  go_wp2
  go_ret
  exact ⟨congrArg (fun v => Ending.returned (.bool v)) e.out.symm, HB.out⟩
 ·
  have t1 : decide (a < c) = false := by simpa using h1
  by_cases h2 : a = c
  ·
   subst h2
   have e := hide (show prLt (a, b) (a, d) = decide (b < d) by unfold prLt; simp)
   go_enter Tryz.func74, Tryz.ntmps74
   go_wp2
   go_ret
   exact ⟨congrArg (fun v => Ending.returned (.bool v)) e.out.symm, HB.out⟩
  ·
   have t2 : (a == c) = false := by simpa using h2
   have e := hide (show prLt (a, b) (c, d) = false by unfold prLt; simp; omega)
   clear h2
   go_enter Tryz.func74, Tryz.ntmps74
   go_wp2
   go_ret
   exact ⟨congrArg (fun v => Ending.returned (.bool v)) e.out.symm, HB.out⟩
theorem before_is {p q : Pr} {v : Bool} (h : prLt p q = v) (w : World) : Calls Tryz.prog 74 #[.agg #[.int .i64 p.1, .int .i64 p.2], .agg #[.int .i64 q.1, .int .i64 q.2]] w fun e w' => e = .returned (.bool v) ∧ Below w.heap.size w w' := h ▸ before_any p q w
theorem prErr_in1 {q : Option Pr} {p : Pr} {n : Int} (h : tyIn p.1 n = false) : prErr q p n = 3 := by unfold prErr; rw [if_pos (.inl h)]
theorem prErr_in2 {q : Option Pr} {p : Pr} {n : Int} (h : tyIn p.2 n = false) : prErr q p n = 3 := by unfold prErr; rw [if_pos (.inr h)]
theorem prErr_eq {q : Option Pr} {p : Pr} {n : Int} (h1 : tyIn p.1 n = true) (h2 : tyIn p.2 n = true) (h : p.1 = p.2) : prErr q p n = 2 := by unfold prErr; rw [if_neg (by rw [h1, h2]; simp), if_pos h]
theorem prErr_none {p : Pr} {n : Int} (h1 : tyIn p.1 n = true) (h2 : tyIn p.2 n = true) (h : p.1 ≠ p.2) : prErr none p n = 0 := by unfold prErr; rw [if_neg (by rw [h1, h2]; simp), if_neg h]
theorem prErr_lt {q p : Pr} {n : Int} (h1 : tyIn p.1 n = true) (h2 : tyIn p.2 n = true) (h : p.1 ≠ p.2) (hl : prLt q p = true) : prErr (some q) p n = 0 := by unfold prErr; rw [if_neg (by rw [h1, h2]; simp), if_neg h]; simp [hl]
theorem prErr_dup {q p : Pr} {n : Int} (h1 : tyIn p.1 n = true) (h2 : tyIn p.2 n = true) (h : p.1 ≠ p.2) (hl : prLt q p = false) : prErr (some q) p n = 21 := by unfold prErr; rw [if_neg (by rw [h1, h2]; simp), if_neg h]; simp [hl]
theorem prStep {l : List Pr} {n : Int} {k : Nat} {p : Pr} {v : Int} (h : l[k]? = some p) (he : prErr (prv l k) p n = v) (hv : v ≠ 0) (ht : prChk l n = prChkR n (prv l k) (l.drop k)) : prChk l n = v := by
 rw [ht, prChkR_at h, he, if_neg hv]
theorem prNext {l : List Pr} {n : Int} {k : Nat} {p : Pr} (h : l[k]? = some p) (he : prErr (prv l k) p n = 0) (ht : prChk l n = prChkR n (prv l k) (l.drop k)) : prChk l n = prChkR n (prv l (k + 1)) (l.drop (k + 1)) := by
 rw [ht, prChkR_at h, he, if_pos rfl]
theorem ret_i {a b : Int} (h : a = b) : Ending.returned (.int .i64 b) = .returned (.int .i64 a) := by rw [h]
set_option maxHeartbeats 2000000 in
set_option maxRecDepth 100000 in
theorem RegCheck_small (A : Option Addr) (n c : Nat) (L : List Pr) (rg : Int) (w : World) (hA : Prs w w.heap.size A n L) (hn : n ≤ 65535) :
  Calls Tryz.prog 52 #[.slice A n c, .int .i64 rg] w fun e w' => e = .returned (.int .i64 (prChk L rg)) ∧ Below w.heap.size w w' := by
 have HA := hide hA
 have HL := hide hA.len
 have HC := hide (prChk_at (l := L) (by rw [hA.len]; exact hn) rg)
 clear hA
 go_enter Tryz.func52, Tryz.ntmps52
 go_wp2
 go_loopw [12] (fun i wr => ∃ k : Nat, i = .int .i64 (k : Int) ∧ k ≤ n ∧ Hid (prChk L rg = prChkR rg (prv L k) (L.drop k)) ∧ Below w.heap.size w wr) (fun i _ => n - (intOf i).toNat)
 case atStart => exact ⟨0, rfl, Nat.zero_le _, HC.out, Below.refl _ _⟩
 case round =>
  obtain ⟨k, rfl, hk, HT, hb⟩ := hrel
  by_cases hlt : k < n
  ·
   obtain ⟨p, hp⟩ := HA.out.get hlt
   have HP := hide hp
   obtain ⟨b, o, rfl, hbB, hip, c0, c1⟩ := (HA.out.below hb).at_ hp
   have hlt' : (k : Int) < (n : Int) := by omega
   have hbr := Nat.lt_of_lt_of_le hbB hb.size
   obtain ⟨⟨r1, r2⟩, r3, r4⟩ := hip
   obtain ⟨x, y⟩ := p
   simp only [] at r1 r2 r3 r4 c0 c1
   have HB := hide (hb.alloc hb.size (.cells #[.int .i64 x, .int .i64 y] 99))
   clear hp
   cases h1 : tyIn x rg
   ·
    have HF := hide (prStep HP.out (prErr_in1 h1) (by decide) HT.out)
    have H1 := hide h1
    clear h1 hb
    go_wp2_with (go_at_call 73; refine (rwithin_is H1.out _).mono ?_; rintro e w1 ⟨rfl, rfl⟩)
    go_ret
    exact ⟨ret_i HF.out, HB.out⟩
   ·
    have H1 := hide h1
    cases h2 : tyIn y rg
    ·
     have HF := hide (prStep HP.out (prErr_in2 h2) (by decide) HT.out)
     have H2 := hide h2
     clear h1 h2 hb
     go_wp2_with (first | (go_at_call 73; refine (rwithin_is H1.out _).mono ?_; clear H1; rintro e w1 ⟨rfl, rfl⟩) | (go_at_call 73; refine (rwithin_is H2.out _).mono ?_; rintro e w1 ⟨rfl, rfl⟩))
     go_ret
     exact ⟨ret_i HF.out, HB.out⟩
    ·
     have H2 := hide h2
     have K1 := hide h1
     by_cases hxy : x = y
     ·
      subst hxy
      have HF := hide (prStep HP.out (prErr_eq h1 h2 rfl) (by decide) HT.out)
      clear h1 h2 hb
      go_wp2_with (first | (go_at_call 73; refine (rwithin_is H1.out _).mono ?_; clear H1; rintro e w1 ⟨rfl, rfl⟩) | (go_at_call 73; refine (rwithin_is H2.out _).mono ?_; rintro e w1 ⟨rfl, rfl⟩))
      go_ret
      exact ⟨ret_i HF.out, HB.out⟩
     ·
      have t1 : (x == y) = false := by simpa using hxy
      have HXY := hide hxy
      clear h1 h2 hxy
      rcases Nat.eq_zero_or_pos k with h0 | h0
      ·
       have HV := hide (show prv L k = none by unfold prv; rw [if_pos h0])
       have HF := hide (prNext HP.out (by rw [HV.out]; exact prErr_none K1.out H2.out HXY.out) HT.out)
       have tk : decide ((0 : Int) < (k : Int)) = false := by simp; omega
       have tk2 : decide (0 < k) = false := by simp; omega
       clear hb h0
       go_wp2_with (first | (go_at_call 73; refine (rwithin_is H1.out _).mono ?_; clear H1; rintro e w1 ⟨rfl, rfl⟩) | (go_at_call 73; refine (rwithin_is H2.out _).mono ?_; rintro e w1 ⟨rfl, rfl⟩))
       go_quiet (fail)
       go_wp2
       go_roundw
       case rel => exact ⟨k + 1, by go_num, by omega, HF.out, tyN HB.out _⟩
       case measure => simp [intOf]; omega
      ·
       obtain ⟨j, rfl⟩ : ∃ j, k = j + 1 := ⟨k - 1, by omega⟩
       obtain ⟨q, hq⟩ := HA.out.get (show j < n by omega)
       obtain ⟨b', o', e', _, _, d0, d1⟩ := (HA.out.below hb).at_ hq
       cases e'
       have HV := hide (show prv L (j + 1) = some q from prv_up hq)
       obtain ⟨u, v⟩ := q
       simp only [] at d0 d1
       have tk : decide ((0 : Int) < (j : Int) + 1) = true := by rw [decide_eq_true_iff]; omega
       have hS := hide fun (w' : World) (hb' : Below (wr.alloc (.cells #[.int .i64 x, .int .i64 y] 99)).heap.size (wr.alloc (.cells #[.int .i64 x, .int .i64 y] 99)) w') =>
        show Below (wr.alloc (.cells #[.int .i64 x, .int .i64 y] 99)).heap.size (wr.alloc (.cells #[.int .i64 x, .int .i64 y] 99)) w' ∧ w'.cell? ⟨b, o + j * 2, none⟩ = some (.int .i64 u) ∧ w'.cell? ⟨b, o + j * 2 + 1, none⟩ = some (.int .i64 v) ∧ w'.cell? ⟨wr.heap.size, 0, none⟩ = some (.int .i64 x) ∧ w'.cell? ⟨wr.heap.size, 1, none⟩ = some (.int .i64 y) from
        ⟨hb', (hb'.cell (p := ⟨b, o + j * 2, none⟩) (by rw [World.size_alloc]; exact Nat.lt_succ_of_lt hbr)).trans ((World.cell?_alloc_lt wr _ _ hbr).trans d0), (hb'.cell (p := ⟨b, o + j * 2 + 1, none⟩) (by rw [World.size_alloc]; exact Nat.lt_succ_of_lt hbr)).trans ((World.cell?_alloc_lt wr _ _ hbr).trans d1),
         (hb'.cell (p := ⟨wr.heap.size, 0, none⟩) (by simp)).trans (by simp [go_sem]), (hb'.cell (p := ⟨wr.heap.size, 1, none⟩) (by simp)).trans (by simp [go_sem])⟩
       have hall : ∀ v0, prLt (u, v) (x, y) = v0 → Hid (prLt (u, v) (x, y) = v0) := fun _ h => h
       have hj0 : (0 : Int) ≤ (j : Int) := Int.natCast_nonneg _
       have hjn : (j : Int) < (n : Int) := by omega
       have hjn2 : j < n := by omega
       have hw1 : IntKind.i64.wrap ((j : Int) + 1 - 1) = (j : Int) := by rw [IntKind.wrap_i64]; omega
       have hw2 : IntKind.i64.wrap (j : Int) = (j : Int) := by rw [IntKind.wrap_i64]; omega
       clear hb hq
       cases hl : prLt (u, v) (x, y)
       ·
        have HF := hide (prStep HP.out (show prErr (prv L (j + 1)) (x, y) rg = 21 by rw [HV.out]; exact prErr_dup K1.out H2.out HXY.out hl) (by decide) HT.out)
        have HLL := hide hl
        clear hl hall
        go_wp2_with (first | (go_at_call 73; refine (rwithin_is H1.out _).mono ?_; clear H1; rintro e w1 ⟨rfl, rfl⟩) | (go_at_call 73; refine (rwithin_is H2.out _).mono ?_; rintro e w1 ⟨rfl, rfl⟩))
        go_region_held3 (fun w' => Below (wr.alloc (.cells #[.int .i64 x, .int .i64 y] 99)).heap.size (wr.alloc (.cells #[.int .i64 x, .int .i64 y] 99)) w' ∧ w'.cell? ⟨b, o + j * 2, none⟩ = some (.int .i64 u) ∧ w'.cell? ⟨b, o + j * 2 + 1, none⟩ = some (.int .i64 v) ∧ w'.cell? ⟨wr.heap.size, 0, none⟩ = some (.int .i64 x) ∧ w'.cell? ⟨wr.heap.size, 1, none⟩ = some (.int .i64 y))
         (first | exact hS.out _ (by assumption) | exact hS.out _ (Below.refl _ _) | exact hS.out _ (Below.refl _ _).drew)
         ((go_at_call 74; go_split_ands; refine (before_is HLL.out _).mono ?_; rintro e w1 ⟨rfl, hb0⟩; have hb1 := Below.trans (by assumption : Below (wr.alloc (.cells #[.int .i64 x, .int .i64 y] 99)).heap.size _ _) (hb0.mono (Below.size (by assumption : Below (wr.alloc (.cells #[.int .i64 x, .int .i64 y] 99)).heap.size _ _)))))
        all_goals
         go_split_ands
         go_wp2
         go_ret
         exact ⟨ret_i HF.out, HB.out.trans (Below.mono (by assumption) HB.out.size)⟩
       ·
        have HF := hide (prNext HP.out (show prErr (prv L (j + 1)) (x, y) rg = 0 by rw [HV.out]; exact prErr_lt K1.out H2.out HXY.out hl) HT.out)
        have HLL := hide hl
        clear hl hall
        go_wp2_with (first | (go_at_call 73; refine (rwithin_is H1.out _).mono ?_; clear H1; rintro e w1 ⟨rfl, rfl⟩) | (go_at_call 73; refine (rwithin_is H2.out _).mono ?_; rintro e w1 ⟨rfl, rfl⟩))
        go_region_held3 (fun w' => Below (wr.alloc (.cells #[.int .i64 x, .int .i64 y] 99)).heap.size (wr.alloc (.cells #[.int .i64 x, .int .i64 y] 99)) w' ∧ w'.cell? ⟨b, o + j * 2, none⟩ = some (.int .i64 u) ∧ w'.cell? ⟨b, o + j * 2 + 1, none⟩ = some (.int .i64 v) ∧ w'.cell? ⟨wr.heap.size, 0, none⟩ = some (.int .i64 x) ∧ w'.cell? ⟨wr.heap.size, 1, none⟩ = some (.int .i64 y))
         (first | exact hS.out _ (by assumption) | exact hS.out _ (Below.refl _ _) | exact hS.out _ (Below.refl _ _).drew)
         ((go_at_call 74; go_split_ands; refine (before_is HLL.out _).mono ?_; rintro e w1 ⟨rfl, hb0⟩; have hb1 := Below.trans (by assumption : Below (wr.alloc (.cells #[.int .i64 x, .int .i64 y] 99)).heap.size _ _) (hb0.mono (Below.size (by assumption : Below (wr.alloc (.cells #[.int .i64 x, .int .i64 y] 99)).heap.size _ _)))))
        all_goals
         go_split_ands
         go_wp2
         go_roundw
         case rel => exact ⟨j + 1 + 1, by go_num, by omega, HF.out, HB.out.trans (Below.mono (by assumption) HB.out.size)⟩
         case measure => simp [intOf]; omega
  ·
   obtain rfl : k = n := by omega
   have HF := hide (show prChk L rg = 0 from HT.out.trans (prChkR_end (by rw [HL.out]; exact Nat.le_refl _)))
   go_wp2
   go_ret
   exact ⟨ret_i HF.out, hb⟩
theorem RegCheck_big (A : Option Addr) (n c : Nat) (rg : Int) (w : World) (hn : 65535 < n) (hm : n ≤ maxLen) :
  Calls Tryz.prog 52 #[.slice A n c, .int .i64 rg] w fun e w' => e = .returned (.int .i64 15) ∧ Below w.heap.size w w' := by
 have hn' : (65535 : Int) < (n : Int) := by omega
 unfold maxLen at hm
 go_enter Tryz.func52, Tryz.ntmps52
 go_wp2
 go_ret
 exact ⟨rfl, Below.refl _ _⟩
theorem RegCheck_any (A : Option Addr) (n c : Nat) (L : List Pr) (rg : Int) (w : World) (hA : Prs w w.heap.size A n L) (hn : n ≤ maxLen) :
  Calls Tryz.prog 52 #[.slice A n c, .int .i64 rg] w fun e w' => e = .returned (.int .i64 (prChk L rg)) ∧ Below w.heap.size w w' := by
 rcases Nat.lt_or_ge 65535 n with h | h
 ·
  rw [prChk_big (by rw [hA.len]; exact h)]
  exact RegCheck_big A n c rg w h hn
 ·
  exact RegCheck_small A n c L rg w hA h
theorem RegCheck_is {A : Option Addr} {n c : Nat} {L : List Pr} {rg v : Int} (h : prChk L rg = v) (w : World) (hA : Prs w w.heap.size A n L) (hn : n ≤ maxLen) :
  Calls Tryz.prog 52 #[.slice A n c, .int .i64 rg] w fun e w' => e = .returned (.int .i64 v) ∧ Below w.heap.size w w' := h ▸ RegCheck_any A n c L rg w hA hn
end Go.Proofs.YtfgacmgjpikgaaaGreatDoor
