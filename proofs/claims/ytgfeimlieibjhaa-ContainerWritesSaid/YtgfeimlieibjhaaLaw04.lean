/- What the functions of the laws of layer 4 return. -/
import Derived.Test.YtgfeimlieibjhaaContS
import Derived.Deep.QuietTactic
import Derived.BigQuiet
set_option linter.unusedVariables false
namespace Go.Proofs.Ytgfeimlieibjhaa
open Go.RowKit

set_option maxHeartbeats 1000000 in
set_option maxRecDepth 100000 in
theorem tooLarge_any (A : Option Addr) (n c : Nat) (L : List SecW) (w : World) (hA : Secs w w.heap.size 2 c2 A n L) (hn : n ≤ maxLen) :
    Calls Try.prog 9 #[.slice A n c] w fun x w' => x = .returned (.bool (bigS (vals L))) ∧ Below w.heap.size w w' := by
  have HA := hide hA
  have hl := hA.len
  unfold maxLen at hn
  clear hA
  go_enter Try.func9, Try.ntmps9
  go_wp2
  go_loopw [3, 8] (fun s i wr => ∃ k t : Nat, i = .int .i64 (k : Int) ∧ k ≤ n ∧ s = .int .i64 (t : Int) ∧ t ≤ 5000 ∧ Hid (t = secsW ((vals L).take k)) ∧ Below w.heap.size w wr) (fun _ i _ => n - (intOf i).toNat)
  case atStart => exact ⟨0, 0, rfl, Nat.zero_le _, rfl, by omega, rfl, Below.refl _ _⟩
  case round =>
    obtain ⟨k, t, rfl, hk, rfl, ht, HT, hb⟩ := hrel
    by_cases hlt : k < n
    · have hex : ∃ a, L[k]? = some a := ⟨_, List.getElem?_eq_getElem (by omega)⟩
      obtain ⟨a, ha⟩ := hex
      obtain ⟨g, o, rfl, hbB, hok, _, c0, c1⟩ := (HA.out.below hb).at2 ha
      have HS := hide (secsW_take_succ (vals_at ha))
      have hs := hok.nc
      have hs2 := hok.cm
      unfold maxLen at hs2
      have hb' := hide (hb.alloc hb.size (.cells #[.int .i64 a.id, .slice a.A a.n a.c] 54))
      have HW := hide (secsW_take_le (vals L) (k + 1))
      have hwt : Hid (secW (a.id, a.xs) = 1 + min a.n 5000) := by show _ = _; unfold secW; rw [hok.len]
      have hbig : 5000 < t + (1 + min a.n 5000) → bigS (vals L) = true := fun h => by
        unfold bigS
        have := HW.out
        rw [HS.out, ← HT.out, hwt.out] at this
        simp; omega
      have HB := hide hbig
      clear hl ha hbig hb
      by_cases h5 : 5000 < a.n
      · have h5' : (5000 : Int) < (a.n : Int) := by omega
        go_wp2
        go_ret
        exact ⟨congrArg (fun v => Ending.returned (.bool v)) (HB.out (by omega)).symm, hb'.out⟩
      · have h5' : (a.n : Int) ≤ 5000 := by omega
        have h5'' : ¬ (5000 : Int) < (a.n : Int) := by omega
        by_cases h6 : 5000 < t + (1 + a.n)
        · have h6' : (5000 : Int) < (t : Int) + (1 + (a.n : Int)) := by omega
          go_wp2
          go_ret
          exact ⟨congrArg (fun v => Ending.returned (.bool v)) (HB.out (by omega)).symm, hb'.out⟩
        · have h6' : ¬ (5000 : Int) < (t : Int) + (1 + (a.n : Int)) := by omega
          have HT2 : Hid (t + (1 + a.n) = secsW ((vals L).take (k + 1))) := by
            show _ = _
            rw [HS.out, ← HT.out, hwt.out]
            omega
          go_wp2
          go_roundw
          case rel => exact ⟨k + 1, t + (1 + a.n), by go_num, by omega, by go_num, by omega, HT2, hb'.out⟩
          case measure => simp [intOf]; omega
    · obtain rfl : k = n := by omega
      have hno : bigS (vals L) = false := by
        unfold bigS
        have := HT.out
        rw [List.take_of_length_le (by rw [List.length_map]; omega)] at this
        simp; omega
      have HN := hide hno
      clear hno hl
      go_wp2
      go_ret
      exact ⟨congrArg (fun v => Ending.returned (.bool v)) HN.out.symm, hb⟩

/-- two rows of different types lie in different blocks -/
theorem rows_apart {w : World} {b1 b2 k1 k2 n1 n2 : Nat} {e1 e2 : TypeId} {v1 v2 : Value} {xs1 xs2 : List Value} (h1 : w.ownsRow b1 e1 k1 v1 n1 xs1) (h2 : w.ownsRow b2 e2 k2 v2 n2 xs2) (he : e1 ≠ e2) : v1.ownBlock = none ∨ v1.ownBlock ≠ v2.ownBlock := by
  rcases h1.2 with ⟨rfl, _⟩ | ⟨g, cap, cur, rfl, _, hg, _⟩
  · exact .inl rfl
  · refine .inr fun e => ?_
    rcases h2.2 with ⟨rfl, _⟩ | ⟨g2, cap2, cur2, rfl, _, hg2, _⟩
    · cases e
    · have : g = g2 := by simpa [Value.ownBlock] using e
      subst this
      rw [hg] at hg2
      injection hg2 with hg2
      injection hg2 with _ hg2 _
      exact he hg2
theorem row_slice {w : World} {base k n : Nat} {e : TypeId} {v : Value} {xs : List Value} (h : w.ownsRow base e k v n xs) : ∃ A c, v = .slice A n c ∧ n ≤ c ∧ c ≤ maxLen := by
  rcases h.2 with ⟨rfl, rfl⟩ | ⟨g, cap, cur, rfl, _, _, h1, h2, _⟩
  · exact ⟨_, _, rfl, Nat.le_refl _, Nat.zero_le _⟩
  · exact ⟨_, _, rfl, h1, h2⟩
theorem flatMap_up {f : SecW → List Value} {L : List SecW} {k : Nat} {x : SecW} (h : L[k]? = some x) : (L.take (k + 1)).flatMap f = (L.take k).flatMap f ++ f x := by
  rw [List.take_add_one, h]; simp

set_option maxHeartbeats 4000000 in
set_option maxRecDepth 100000 in
theorem convert_any (A : Option Addr) (n c : Nat) (L : List SecW) (w : World) (hA : Secs w w.heap.size 2 c2 A n L) (hn : n ≤ 5000) (h0 : ∀ x ∈ L, x.fr = 0 ∧ x.to = 0) :
    Calls Try.prog 11 #[.slice A n c] w fun x w' => ∃ A1 c1 A2 c2', x = .returned (.tuple #[.slice A1 n c1, .slice A2 n c2']) ∧ n ≤ c1 ∧ c1 ≤ maxLen ∧ n ≤ c2' ∧ c2' ≤ maxLen ∧ Secs w' w'.heap.size 2 c2 A1 n L ∧ Secs w' w'.heap.size 4 c4 A2 n L ∧ Below w.heap.size w w' := by
  obtain ⟨i0, hi, hz0, hz1, hz2⟩ := info_parts infoSec
  obtain ⟨j0, hj, hy0, hy1, hy2⟩ := info_parts infoSec4
  have HA := hide hA
  have HL := hide hA.len
  have H0 := hide h0
  clear hA h0
  go_enter Try.func11, Try.ntmps11
  go_wp2
  go_loopw [4, 5, 10] (fun va vb i wr => ∃ k : Nat, i = .int .i64 (k : Int) ∧ k ≤ n ∧ wr.ownsRow w.heap.size 56 2 va k ((L.take k).flatMap c2) ∧ wr.ownsRow w.heap.size 46 4 vb k ((L.take k).flatMap c4) ∧ Below w.heap.size w wr) (fun _ _ i _ => n - (intOf i).toNat)
  case atStart => exact ⟨0, rfl, Nat.zero_le _, World.ownsRow_nil _ _ _ _, World.ownsRow_nil _ _ _ _, Below.refl _ _⟩
  case round =>
    obtain ⟨k, rfl, hk, hona, honb, hb⟩ := hrel
    by_cases hlt : k < n
    · have hex : ∃ a, L[k]? = some a := ⟨_, List.getElem?_eq_getElem (by have := HL.out; omega)⟩
      obtain ⟨x, hx⟩ := hex
      obtain ⟨g, o, rfl, hgB, hok, hrd, cc0, cc1⟩ := (HA.out.below hb).at2 hx
      have hzf := H0.out x (List.mem_of_getElem? hx)
      have HU2 := hide (flatMap_up (f := c2) hx)
      have HU4 := hide (flatMap_up (f := c4) hx)
      obtain ⟨xid, xA, xn, xc, xxs, xfr, xto⟩ := x
      simp only [] at *
      obtain ⟨rfl, rfl⟩ := hzf
      have hs := hb.size
      have hb1 := hide ((hb.alloc hs (.cells #[.int .i64 xid, .slice xA xn xc] 54)))
      have neA := hide (far_of hona)
      have HOA := hide ((hona.alloc (.cells #[.int .i64 xid, .slice xA xn xc] 54)).alloc (.cells #[.int .i64 xid, .slice xA xn xc] 56))
      have HOB := hide ((honb.alloc (.cells #[.int .i64 xid, .slice xA xn xc] 54)).alloc (.cells #[.int .i64 xid, .slice xA xn xc] 56))
      have hb2 := hide (hb1.out.alloc (by simp; omega) (.cells #[.int .i64 xid, .slice xA xn xc] 56))
      have q0 : ((wr.alloc (.cells #[.int .i64 xid, .slice xA xn xc] 54)).alloc (.cells #[.int .i64 xid, .slice xA xn xc] 56)).cell? ⟨wr.heap.size, 0, none⟩ = some (.int .i64 xid) := by simp [go_sem]
      have q1 : ((wr.alloc (.cells #[.int .i64 xid, .slice xA xn xc] 54)).alloc (.cells #[.int .i64 xid, .slice xA xn xc] 56)).cell? ⟨wr.heap.size, 1, none⟩ = some (.slice xA xn xc) := by simp [go_sem]
      have Q0 := hide q0
      have Q1 := hide q1
      clear hx hok hrd hb hona honb q0 q1
      go_wp2_with (first
        | (at_builtin; refine wpList_append_own_at _ rfl (.tmp 14) (.tmp 20) 25 rfl w.heap.size 56 i0 (.agg #[.int .i64 0, .slice none 0 0]) 2 32 Try.underlying25 hi hz0 hz1 hz2 rfl (by decide) u4 k _ rfl HOA.out ⟨wr.heap.size + 1, 0, none⟩ 1 1 [.int .i64 xid, .slice xA xn xc] rfl rfl (by have h := news_new (wr.alloc (.cells #[.int .i64 xid, .slice xA xn xc] 54)) [.int .i64 xid, .slice xA xn xc] 56; rw [World.size_alloc] at h; exact h) (c2_one ⟨xid, xA, xn, xc, [], 0, 0⟩) (by unfold maxLen; omega) (by omega) (by simp; omega) ?_; intro v5 w5 hown5 hg5 _ hat5; have f0 : w5.cell? ⟨wr.heap.size, 0, none⟩ = some (.int .i64 xid) := hg5.cell Q0.out neA.out; have f1 : w5.cell? ⟨wr.heap.size, 1, none⟩ = some (.slice xA xn xc) := hg5.cell Q1.out neA.out; have hb5 := hide (hb2.out.grown hg5 hb2.out.size (fun q hq => (HOA.out.lt q hq).1)); have HOB5 := hide (HOB.out.kept hg5 (rows_apart HOB.out HOA.out (by decide))); have HOA5 := hide (hown5.alloc (.cells #[.int .i64 xid, .slice xA xn xc, .int .i64 0, .int .i64 0] 46)); have HOB6 := hide (HOB5.out.alloc (.cells #[.int .i64 xid, .slice xA xn xc, .int .i64 0, .int .i64 0] 46)); have hb6 := hide (hb5.out.alloc hb5.out.size (.cells #[.int .i64 xid, .slice xA xn xc, .int .i64 0, .int .i64 0] 46)); have hs5 := hb5.out.size; clear hg5 hat5 hown5)
        | (at_builtin; refine wpList_append_own_at _ rfl (.tmp 22) (.tmp 28) 26 rfl w.heap.size 46 j0 (.agg #[.int .i64 0, .slice none 0 0, .int .i64 0, .int .i64 0]) 4 48 Try.underlying26 hj hy0 hy1 hy2 rfl (by decide) u5 k _ rfl HOB6.out ⟨w5.heap.size, 0, none⟩ 1 1 [.int .i64 xid, .slice xA xn xc, .int .i64 0, .int .i64 0] rfl rfl (news_new w5 [.int .i64 xid, .slice xA xn xc, .int .i64 0, .int .i64 0] 46) (by intro u hu; simp only [List.mem_cons, List.not_mem_nil, or_false] at hu; rcases hu with rfl | rfl | rfl | rfl <;> rfl) (by unfold maxLen; omega) (by omega) (by simp; omega) ?_; intro v7 w7 hown7 hg7 _ hat7; have hb7 := hide (hb6.out.grown hg7 hb6.out.size (fun q hq => (HOB5.out.lt q hq).1)); have HOA7 := hide (HOA5.out.kept hg7 (rows_apart HOA5.out HOB6.out (by decide))); have HOB7 := hide hown7; clear hg7 hat7 hown7))
      go_roundw
      case rel => exact ⟨k + 1, by go_num, by omega, by rw [HU2.out]; exact HOA7.out, by rw [HU4.out]; exact HOB7.out, hb7.out⟩
      case measure => simp [intOf]; omega
    · obtain rfl : k = n := by omega
      rw [List.take_of_length_le (by rw [HL.out]; omega)] at hona honb
      have HOA := hide hona
      have HOB := hide honb
      have HB := hide hb
      clear hona honb hb
      obtain ⟨A1, c1, rfl, k1, k2⟩ := row_slice HOA.out
      obtain ⟨A2, c2', rfl, k3, k4⟩ := row_slice HOB.out
      have hD : Data wr wr.heap.size L := ((HA.out.2.below HB.out).more HB.out.size)
      have HS1 := hide (show Secs wr wr.heap.size 2 c2 A1 k L from ⟨Cells.of_own c2_len (by decide) HOA.out, hD⟩)
      have HS2 := hide (show Secs wr wr.heap.size 4 c4 A2 k L from ⟨Cells.of_own c4_len (by decide) HOB.out, hD⟩)
      clear hD
      go_wp2_with fail
      go_ret2
      exact ⟨A1, c1, A2, c2', rfl, k1, k2, k3, k4, HS1.out, HS2.out, HB.out⟩

theorem drewN_cell (w : World) (k : Nat) (p : Addr) : (w.drewN k).cell? p = w.cell? p := by
  induction k generalizing w with
  | zero => rfl
  | succ k ih => exact (ih _).trans rfl

set_option maxHeartbeats 2000000 in
set_option maxRecDepth 100000 in
/-- sections that agree -/
theorem same_any (A1 A2 : Option Addr) (n c1 c2' : Nat) (L1 L2 : List SecW) (w : World) (h1 : Secs w w.heap.size 2 c2 A1 n L1) (h2 : Secs w w.heap.size 4 c4 A2 n L2) (hv : vals L1 = vals L2) (hn : n ≤ 1000001) :
    Calls Try.prog 18 #[.slice A1 n c1, .slice A2 n c2'] w fun x w' => x = .returned (.bool true) ∧ Below w.heap.size w w' := by
  have H1 := hide h1
  have H2 := hide h2
  have HV := hide hv
  have HL1 := hide h1.len
  have HL2 := hide h2.len
  clear h1 h2 hv
  go_enter Try.func18, Try.ntmps18
  go_wp2
  go_loopw [13] (fun i wr => ∃ k : Nat, i = .int .i64 (k : Int) ∧ k ≤ n ∧ Below w.heap.size w wr) (fun i _ => n - (intOf i).toNat)
  case atStart => exact ⟨0, rfl, Nat.zero_le _, Below.refl _ _⟩
  case round =>
    obtain ⟨k, rfl, hk, hb⟩ := hrel
    by_cases hlt : k < n
    · have hex1 : ∃ a, L1[k]? = some a := ⟨_, List.getElem?_eq_getElem (by rw [HL1.out]; exact hlt)⟩
      have hex2 : ∃ a, L2[k]? = some a := ⟨_, List.getElem?_eq_getElem (by rw [HL2.out]; exact hlt)⟩
      obtain ⟨x, hx⟩ := hex1
      obtain ⟨y, hy⟩ := hex2
      obtain ⟨g, o, rfl, hgB, hokx, hrx, a0, a1⟩ := (H1.out.below hb).at2 hx
      obtain ⟨g2, o2, rfl, hgB2, hoky, hry, b0, b1, _, _⟩ := (H2.out.below hb).at4 hy
      have e := (vals_at hx).symm.trans ((congrArg (·[k]?) HV.out).trans (vals_at hy))
      injection e with e
      injection e with e1 e2
      have hi1 : (0 : Int) ≤ (k : Int) := by omega
      have hi2 : (k : Int) < (n : Int) := by omega
      have t1 : (x.id != y.id) = false := by rw [e1]; simp
      have HEq : eqB x.xs y.xs = true := by rw [e2]; exact eqB_self _
      have HE := hide fun q => ((Equal_any x.A y.A x.n y.n x.c y.c x.xs y.xs (wr.drewN q) _ _ (hrx.keep (w' := wr.drewN q) (fun _ _ => drewN_cell _ _ _)) (hry.keep (w' := wr.drewN q) (fun _ _ => drewN_cell _ _ _)) hokx.byt hoky.byt).mono fun e w' (p : _ ∧ _) => (⟨p.1.trans (congrArg (fun v => Ending.returned (.bool v)) HEq), p.2.symm⟩ : e = .returned (.bool true) ∧ w' = wr.drewN q))
      clear HEq
      have hb' := hide hb
      have HBN := hide fun q => hb.trans ((belowN wr q).mono hb.size)
      clear e1 e2 hx hy hokx hoky hrx hry hb
      go_wp2
      go_quiet ((exact Calls.quiet_of_same (HE.out _)))
      go_wp2
      go_roundw
      case rel => exact ⟨k + 1, by go_num, by omega, HBN.out _⟩
      case measure => simp [intOf]; omega
    · obtain rfl : k = n := by omega
      have HB := hide hb
      clear hb
      go_wp2
      go_ret
      exact ⟨rfl, HB.out⟩

/-! ### what was collected, as sections -/
theorem Coll.secs {W : World} {base : Nat} {v : Value} {S : List Sec} (h : Coll W base v S) : ∃ A n c L, v = .slice A n c ∧ n ≤ c ∧ c ≤ maxLen ∧ Secs W W.heap.size 2 c2 A n L ∧ Hid (vals L = S) := by
  obtain ⟨L, h2, h3, h4⟩ := h
  obtain ⟨A, c, rfl, h5, h6⟩ := row_slice h2
  exact ⟨A, _, c, L, rfl, h5, h6, ⟨Cells.of_own c2_len (by decide) h2, fun x hx => (h3 x hx).rd⟩, h4⟩
theorem Coll4.secs {W : World} {base : Nat} {v : Value} {S : List Sec} {P : List (Nat × Nat)} (h : Coll4 W base v S P) : ∃ A n c L, v = .slice A n c ∧ n ≤ c ∧ c ≤ maxLen ∧ Secs W W.heap.size 4 c4 A n L ∧ Hid (vals L = S) ∧ Hid (L.map (fun y => (y.fr, y.to)) = P) := by
  obtain ⟨L, h2, h3, h4, h7⟩ := h
  obtain ⟨A, c, rfl, h5, h6⟩ := row_slice h2
  exact ⟨A, _, c, L, rfl, h5, h6, ⟨Cells.of_own c4_len (by decide) h2, fun x hx => (h3 x hx).rd⟩, h4, h7⟩
theorem CollP.pairs {W : World} {base : Nat} {v : Value} {S : List (Nat × Nat)} (h : CollP W base v S) : ∃ A n c, v = .slice A n c ∧ n ≤ c ∧ c ≤ maxLen ∧ Cells W W.heap.size 2 cp A n S := by
  obtain ⟨A, c, rfl, h5, h6⟩ := row_slice h
  exact ⟨A, _, c, rfl, h5, h6, Cells.of_own cp_len (by decide) h⟩
end Go.Proofs.Ytgfeimlieibjhaa
