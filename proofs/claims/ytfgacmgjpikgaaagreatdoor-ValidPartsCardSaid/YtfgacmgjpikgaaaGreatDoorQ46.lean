/- Part 47 of the contracts and their mathematics. -/
import Derived.Test.YtfgacmgjpikgaaaGreatDoorQ44
set_option linter.unusedVariables false
set_option linter.unusedSimpArgs false
namespace Go.Proofs.YtfgacmgjpikgaaaGreatDoor
open Go.RowKit
theorem tyIn_lo {x n : Int} (h : x < 0) : tyIn x n = false := tyIn_not.2 (by omega)
theorem tyIn_hi {x n : Int} (h : n ≤ x) : tyIn x n = false := tyIn_not.2 (by omega)
theorem tyIn_ok {x n : Int} (h : ¬ x < 0) (k : ¬ n ≤ x) : tyIn x n = true := tyIn_iff.2 (by omega)
theorem prLt_no1 {u v x y : Int} (h : x < u) : prLt (u, v) (x, y) = false := by unfold prLt; simp; omega
theorem prLt_no2 {u v y : Int} (h : y ≤ v) : prLt (u, v) (u, y) = false := by unfold prLt; simp; omega
theorem prLt_yes2 {u v y : Int} (h : ¬ y ≤ v) : prLt (u, v) (u, y) = true := by unfold prLt; simp; omega
theorem prLt_yes1 {u v x y : Int} (h : ¬ x < u) (k : ¬ x = u) : prLt (u, v) (x, y) = true := by unfold prLt; simp; omega
set_option maxHeartbeats 2000000 in
set_option maxRecDepth 100000 in
theorem RRegCheck_small (A : Option Addr) (n c : Nat) (L : List Pr) (rg : Int) (w : World) (hA : Prs w w.heap.size A n L) (hn : n ≤ 65535) :
  Calls Tryz.prog 31 #[.slice A n c, .int .i64 rg] w fun e w' => e = .returned (.int .i64 (prChk L rg)) ∧ w = w' := by
 have HA := hide hA
 have HL := hide hA.len
 have HC := hide (prChk_at (l := L) (by rw [hA.len]; exact hn) rg)
 clear hA
 go_enter Tryz.func31, Tryz.ntmps31
 go_wp2
 go_loop [5] (fun i => ∃ k : Nat, i = .int .i64 (k : Int) ∧ k ≤ n ∧ Hid (prChk L rg = prChkR rg (prv L k) (L.drop k))) (fun i => n - (intOf i).toNat)
 case atStart => exact ⟨0, rfl, Nat.zero_le _, HC.out⟩
 case round =>
  obtain ⟨k, rfl, hk, HT⟩ := hrel
  by_cases hlt : k < n
  ·
   obtain ⟨p, hp⟩ := HA.out.get hlt
   have HP := hide hp
   obtain ⟨b, o, rfl, hbB, hip, c0, c1⟩ := HA.out.at_ hp
   have hlt' : (k : Int) < (n : Int) := by omega
   obtain ⟨⟨r1, r2⟩, r3, r4⟩ := hip
   obtain ⟨x, y⟩ := p
   simp only [] at r1 r2 r3 r4 c0 c1
   clear hp
   by_cases b1 : x < 0
   ·
    have HF := hide (prStep HP.out (prErr_in1 (tyIn_lo b1)) (by decide) HT.out)
    go_wp2
    go_ret
    exact ⟨ret_i HF.out, rfl⟩
   have t1 : decide (x < 0) = false := decide_eq_false b1
   by_cases b2 : rg ≤ x
   ·
    have HF := hide (prStep HP.out (prErr_in1 (tyIn_hi b2)) (by decide) HT.out)
    clear b1
    go_wp2
    go_ret
    exact ⟨ret_i HF.out, rfl⟩
   have t2 : decide (rg ≤ x) = false := decide_eq_false b2
   have K1 := hide (tyIn_ok b1 b2)
   by_cases b3 : y < 0
   ·
    have HF := hide (prStep HP.out (prErr_in2 (tyIn_lo b3)) (by decide) HT.out)
    clear b1 b2
    go_wp2
    go_ret
    exact ⟨ret_i HF.out, rfl⟩
   have t3 : decide (y < 0) = false := decide_eq_false b3
   by_cases b4 : rg ≤ y
   ·
    have HF := hide (prStep HP.out (prErr_in2 (tyIn_hi b4)) (by decide) HT.out)
    clear b1 b2 b3
    go_wp2
    go_ret
    exact ⟨ret_i HF.out, rfl⟩
   have t4 : decide (rg ≤ y) = false := decide_eq_false b4
   have K2 := hide (tyIn_ok b3 b4)
   clear b1 b2 b3 b4
   by_cases hxy : x = y
   ·
    subst hxy
    have HF := hide (prStep HP.out (prErr_eq K1.out K2.out rfl) (by decide) HT.out)
    go_wp2
    go_ret
    exact ⟨ret_i HF.out, rfl⟩
   have t5 : (x == y) = false := by simpa using hxy
   have HXY := hide hxy
   clear hxy
   rcases Nat.eq_zero_or_pos k with h0 | h0
   ·
    have HV := hide (show prv L k = none by unfold prv; rw [if_pos h0])
    have HF := hide (prNext HP.out (by rw [HV.out]; exact prErr_none K1.out K2.out HXY.out) HT.out)
    have tk : decide ((0 : Int) < (k : Int)) = false := by simp; omega
    have tk2 : decide (0 < k) = false := by simp; omega
    clear h0
    go_wp2
    go_round
    case rel => exact ⟨k + 1, by go_num, by omega, HF.out⟩
    case measure => simp [intOf]; omega
   ·
    obtain ⟨j, rfl⟩ : ∃ j, k = j + 1 := ⟨k - 1, by omega⟩
    obtain ⟨q, hq⟩ := HA.out.get (show j < n by omega)
    obtain ⟨b', o', e', _, hiq, d0, d1⟩ := HA.out.at_ hq
    cases e'
    have HV := hide (show prv L (j + 1) = some q from prv_up hq)
    obtain ⟨⟨q1, q2⟩, q3, q4⟩ := hiq
    obtain ⟨u, v⟩ := q
    simp only [] at d0 d1 q1 q2 q3 q4
    have tk : decide ((0 : Int) < (j : Int) + 1) = true := by rw [decide_eq_true_iff]; omega
    have hj0 : (0 : Int) ≤ (j : Int) := Int.natCast_nonneg _
    have hjn : (j : Int) < (n : Int) := by omega
    have hw1 : IntKind.i64.wrap ((j : Int) + 1 - 1) = (j : Int) := by rw [IntKind.wrap_i64]; omega
    have hw2 : IntKind.i64.wrap (j : Int) = (j : Int) := by rw [IntKind.wrap_i64]; omega
    have HN := hide (show prLt (u, v) (x, y) = true → prChk L rg = prChkR rg (prv L (j + 1 + 1)) (L.drop (j + 1 + 1)) from fun hl => prNext HP.out (show prErr (prv L (j + 1)) (x, y) rg = 0 by rw [HV.out]; exact prErr_lt K1.out K2.out HXY.out hl) HT.out)
    have HD := hide (show prLt (u, v) (x, y) = false → prChk L rg = 21 from fun hl => prStep HP.out (show prErr (prv L (j + 1)) (x, y) rg = 21 by rw [HV.out]; exact prErr_dup K1.out K2.out HXY.out hl) (by decide) HT.out)
    clear hq
    by_cases b5 : x < u
    ·
     have HF := hide (HD.out (prLt_no1 b5))
     clear HN HD
     go_wp2
     go_ret
     exact ⟨ret_i HF.out, rfl⟩
    have t6 : decide (x < u) = false := decide_eq_false b5
    by_cases b6 : x = u
    ·
     subst b6
     by_cases b7 : y ≤ v
     ·
      have HF := hide (HD.out (prLt_no2 b7))
      clear HN HD b5
      go_wp2
      go_ret
      exact ⟨ret_i HF.out, rfl⟩
     ·
      have HF := hide (HN.out (prLt_yes2 b7))
      have t7 : decide (y ≤ v) = false := decide_eq_false b7
      clear HN HD b5 b7
      go_wp2
      go_round
      case rel => exact ⟨j + 1 + 1, by go_num, by omega, HF.out⟩
      case measure => simp [intOf]; omega
    ·
     have t7 : (x == u) = false := by simpa using b6
     have HF := hide (HN.out (prLt_yes1 b5 b6))
     clear HN HD b5 b6
     go_wp2
     go_round
     case rel => exact ⟨j + 1 + 1, by go_num, by omega, HF.out⟩
     case measure => simp [intOf]; omega
  ·
   obtain rfl : k = n := by omega
   have HF := hide (show prChk L rg = 0 from HT.out.trans (prChkR_end (by rw [HL.out]; exact Nat.le_refl _)))
   go_wp2
   go_ret
   exact ⟨ret_i HF.out, rfl⟩
theorem RRegCheck_big (A : Option Addr) (n c : Nat) (rg : Int) (w : World) (hn : 65535 < n) (hm : n ≤ maxLen) :
  Calls Tryz.prog 31 #[.slice A n c, .int .i64 rg] w fun e w' => e = .returned (.int .i64 15) ∧ w = w' := by
 have hn' : (65535 : Int) < (n : Int) := by omega
 unfold maxLen at hm
 go_enter Tryz.func31, Tryz.ntmps31
 go_wp2
 go_ret
 exact ⟨rfl, rfl⟩
theorem RRegCheck_any (A : Option Addr) (n c : Nat) (L : List Pr) (rg : Int) (w : World) (hA : Prs w w.heap.size A n L) (hn : n ≤ maxLen) :
  Calls Tryz.prog 31 #[.slice A n c, .int .i64 rg] w fun e w' => e = .returned (.int .i64 (prChk L rg)) ∧ w = w' := by
 rcases Nat.lt_or_ge 65535 n with h | h
 ·
  rw [prChk_big (by rw [hA.len]; exact h)]
  exact RRegCheck_big A n c rg w h hn
 ·
  exact RRegCheck_small A n c L rg w hA h
theorem RRegCheck_is {A : Option Addr} {n c : Nat} {L : List Pr} {rg v : Int} (h : prChk L rg = v) (w : World) (hA : Prs w w.heap.size A n L) (hn : n ≤ maxLen) :
  Calls Tryz.prog 31 #[.slice A n c, .int .i64 rg] w fun e w' => e = .returned (.int .i64 v) ∧ w = w' := h ▸ RRegCheck_any A n c L rg w hA hn
structure RCl (ps : List Pr) (rg : Int) (l : List Int) (k : Nat) (ys : List Int) : Prop where
 asc : ys.Pairwise (· < ·)
 mem : ∀ a, a ∈ ys ↔ (a < (k : Int)) ∧ OutL ps rg l a
 few : ys.length ≤ k
section
variable {ps : List Pr} {rg : Int} {l ys : List Int} {k : Nat}
theorem outL_rng {a : Int} (h : OutL ps rg l a) : 0 ≤ a ∧ a < rg := by
 obtain ⟨b, _, h⟩ := h
 exact h.1
theorem RCl.begin : RCl ps rg l 0 [] := ⟨List.Pairwise.nil, fun a => ⟨(fun h => by cases h), fun ⟨h1, h2⟩ => by have := (outL_rng h2).1; omega⟩, Nat.le_refl _⟩
theorem RCl.no (h : RCl ps rg l k ys) (hy : ¬ OutL ps rg l (k : Int)) : RCl ps rg l (k + 1) ys := by
 refine ⟨h.asc, fun a => ?_, by have := h.few; omega⟩
 rw [h.mem]
 constructor
 ·
  rintro ⟨h1, h2⟩
  exact ⟨by omega, h2⟩
 ·
  rintro ⟨h1, h2⟩
  by_cases e : a = (k : Int)
  ·
   subst e; exact absurd h2 hy
  ·
   exact ⟨by omega, h2⟩
theorem RCl.end_ (h : RCl ps rg l k ys) (hk : rg ≤ (k : Int)) : ys.Pairwise (· < ·) ∧ ∀ a, a ∈ ys ↔ OutL ps rg l a :=
 ⟨h.asc, fun a => (h.mem a).trans ⟨fun h => h.2, fun h2 => ⟨by have := (outL_rng h2).2; omega, h2⟩⟩⟩
end
structure RS (A : Option Addr) (n c : Nat) (ps : List Pr) (B : Option Addr) (m d : Nat) (L : List TyW) (w : World) : Prop where
 prs : Prs w w.heap.size A n ps
 typs : Typs w w.heap.size B m L
 n : n ≤ 65535
 m : m ≤ 65535
theorem RS.below {A : Option Addr} {n c : Nat} {ps : List Pr} {B : Option Addr} {m d : Nat} {L : List TyW} {w w' : World} (h : RS A n c ps B m d L w) (hb : Below w.heap.size w w') : RS A n c ps B m d L w' := ⟨(h.prs.below hb).more hb.size, (h.typs.below hb).more hb.size, h.n, h.m⟩
def RSays (A : Option Addr) (n c : Nat) (ps : List Pr) (rg : Int) (B : Option Addr) (m d : Nat) (L : List TyW) (N : Nat) : Prop := ∀ s t w, RS A n c ps B m d L w → s.toNat + t.toNat < N →
  Calls Tryz.prog 94 #[.slice A n c, .int .i64 rg, .slice B m d, .int .i64 s, .int .i64 t] w fun e w' => e = .returned (.bool (sub (out ps rg) (tys L) s t)) ∧ Below w.heap.size w w'
theorem RSays.is {A : Option Addr} {n c : Nat} {ps : List Pr} {rg : Int} {B : Option Addr} {m d : Nat} {L : List TyW} {N : Nat} (h : RSays A n c ps rg B m d L N) {s t : Int} {v : Bool} (hv : sub (out ps rg) (tys L) s t = v) (w : World) (hs : RS A n c ps B m d L w) (hN : s.toNat + t.toNat < N) :
  Calls Tryz.prog 94 #[.slice A n c, .int .i64 rg, .slice B m d, .int .i64 s, .int .i64 t] w fun e w' => e = .returned (.bool v) ∧ Below w.heap.size w w' := hv ▸ h s t w hs hN
section
variable {O : Int → Int → Bool} {L : List Ty} {r : Int} {i j : Nat} {a b : Ty}
end
theorem sV_app9 (X Y : List ByteArray) : sV X ++ sV Y = sV (X ++ Y) := List.map_append.symm
end Go.Proofs.YtfgacmgjpikgaaaGreatDoor
