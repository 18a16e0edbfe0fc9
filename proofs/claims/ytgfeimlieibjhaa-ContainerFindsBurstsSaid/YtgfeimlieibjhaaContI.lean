/- The iterator over the frames of a container. -/
import Derived.Test.YtgfeimlieibjhaaContF
import Derived.Test.YtgfeimlieibjhaaKeep
import Derived.RangeFuncBox
import Derived.RangeFuncLeaves
import Derived.Shelf.Abstract
import Derived.WalkKit
import Derived.OwnWalkIn
import Derived.TacticsInMore
import Derived.LoopNIn
import Derived.LoopIn
import Derived.Sort.QuietIn
set_option linter.unusedVariables false
namespace Go.Proofs.Ytgfeimlieibjhaa
open Go.RowKit Go.Shelf
attribute [local go_sem] Oper.semAt_some

/-- what is yielded: a frame, or an error -/
abbrev FrX (n : Nat) := { f : Fr // FrOk n f }
def fenc {n : Nat} (x : FrX n) : Array Value := #[frV x.1, .int .i64 x.1.e]
/-- the iterator's own blocks -/
def frTs : List TypeId := [29, 63]

theorem abides_below {β : Type} {B : Nat} {J : β → World → Prop} (h : AbidesFrom B J) {s : β} {W W' : World} (hs : J s W) (hb : Below W.heap.size W W') : J s W' :=
  h s W W' none hs (grown_of_below hb) (fun r e => by cases e)
theorem map_snoc {n : Nat} {pre : List (FrX n)} {x : FrX n} : (pre ++ [x]).map (·.1) = pre.map (·.1) ++ [x.1] := by simp

set_option maxRecDepth 100000 in
set_option maxHeartbeats 4000000 in
theorem frames1_in (n : Nat) (hn : 1 ≤ n) (l Bn n₀ : Nat) (A : Option Addr) (nn c : Nat) (xs : List Int) (hx : Byt xs) (hnc : nn ≤ c) (hcm : c ≤ maxLen) (hle : nn ≤ 1000000) (B0 : Nat) (J Jx : List (FrX nn) → World → Prop) (hJ : AbidesFrom B0 J) (hJx : AbidesFrom B0 Jx)
    (hY : ∀ pre x W, J pre W → pre.length < (yall xs).length → YieldAt Fence.wide (n - 1) Try.prog l (fenc x) W fun e W' =>
      (e = .returned (.bool true) ∧ J (pre ++ [x]) W' ∧ KeepT n₀ frTs W W') ∨ (e = .returned (.bool false) ∧ Jx (pre ++ [x]) W'))
    (W : World) (hBn : Boxed W Bn 29 (.slice A nn c)) (hr : Rd W n₀ A nn (u8s xs)) (hn0 : n₀ ≤ W.heap.size) (h0 : J [] W) :
    CallsIn Fence.wide n Try.prog 45 #[.func (.yield l) #[] #[], .pointer (some ⟨Bn, 0, none⟩)] W fun e W' => (∃ v, e = .returned v) ∧
      ((∃ ys : List (FrX nn), ys.map (·.1) = yall xs ∧ J ys W') ∨ (∃ pre : List (FrX nn), pre.map (·.1) <+: yall xs ∧ Jx pre W')) := by
  have hl : xs.length = nn := by simpa using hr.1
  have HH := hide (header_any A nn c xs W n₀ hr hn0 hx hnc hcm)
  have HJ := hide fun (pre : List (FrX nn)) (W W' : World) (h : J pre W) (hb : Below W.heap.size W W') => abides_below hJ h hb
  have HF := hide fun (a : Nat) (b : Int) (w : World) (h : Rd w n₀ A nn (u8s xs)) (hB : n₀ ≤ w.heap.size) (ha : a < nn) => frameAt_any A nn c a b xs w n₀ h hB hx hnc hcm hle ha
  have HIN := hide (yall_in hx)
  have HYY := hide hY
  have hcB := hBn.cell
  unfold maxLen at hcm
  clear hJ hY
  refine callsIn_of_wp Try.func45 rfl trivial ?_ rfl
  simp only [Try.ntmps45, List.size_toArray, List.length_cons, List.length_nil, Nat.reduceAdd, Nat.reduceSub, Array.replicate_succ, Array.replicate_zero, List.push_toArray, List.append_toArray, List.nil_append, List.cons_append]
  by_cases hh : hdr xs = 0
  · rw [hh] at HH
    have hy0 := hide (yall_good hh)
    have h5 := (hdr_len hh).1
    clear hh
    gi_wp2_with (refine ⟨trivial, ?_⟩; gi_at_call 46; refine (callsIn_wide.2 HH.out).mono ?_; rintro e w1 ⟨rfl, hb1⟩)
    have K1 : KeepT n₀ frTs W w1 := KeepT.of_below hb1 hn0
    gi_loopw [4, 5] (fun p q wr => ∃ (pre : List (FrX nn)) (a : Nat) (b : Int), p = .int .i64 (a : Int) ∧ q = .int .i64 b ∧ Hid (pre.map (·.1) ++ seq xs a b = yall xs) ∧ a ≤ nn ∧ J pre wr ∧ KeepT n₀ frTs W wr ∧ n₀ ≤ wr.heap.size)
      (fun p _ _ => nn - (intOf p).toNat)
    case atStart =>
      exact ⟨[], 5, 0, rfl, rfl, (show _ = _ by rw [hy0.out]; rfl), by omega, HJ.out _ _ _ h0 hb1, K1, Nat.le_trans hn0 hb1.size⟩
    case round =>
      obtain ⟨pre, a, b, rfl, rfl, HP, han, hJs, hK, hnw⟩ := hrel
      have hB1 : wr.heap[Bn]? = some (.cells #[.slice A nn c] 29 (0, 0)) := hK.2 _ _ _ _ (by simp [frTs]) hBn
      have hc1 : wr.cell? ⟨Bn, 0, none⟩ = some (.slice A nn c) := cell_of_heap hB1 0
      have HK := hide hK
      have HR := hide (hr.below hK.1)
      by_cases hlt : a < nn
      · have hok : FrOk nn (frm xs a b) := hl ▸ frm_in hx a b
        have HC := hide (HF.out a b wr HR.out hnw hlt)
        unfold frRes frV at HC
        by_cases he : (frm xs a b).e = 0
        · have hs := seq_ok (b := b) (show a < xs.length by omega) he
          obtain ⟨_, N, L, _, hL1, hle2, _, hfe⟩ := frm_ok he
          have hto : (frm xs a b).to + 4 ≤ nn := by rw [hfe]; show a + 1 + L + N + 4 ≤ nn; omega
          have hlo : a < (frm xs a b).to := by rw [hfe]; show a < a + 1 + L + N; omega
          rw [hs] at HP
          generalize frm xs a b = f at *
          obtain ⟨id, fF, tT, ee⟩ := f
          simp only [] at he hto hlo
          subst he
          have hlen : pre.length < (yall xs).length := by rw [← HP.out, List.length_append, List.length_map, List.length_cons]; omega
          have HY1 := hide fun w1 (h : J pre w1) => HYY.out pre ⟨⟨id, fF, tT, 0⟩, hok⟩ w1 h hlen
          have HP2 : Hid ((pre ++ [(⟨⟨id, fF, tT, 0⟩, hok⟩ : FrX nn)]).map (·.1) ++ seq xs (tT + 4) id = yall xs) := by
            show _ = _
            rw [map_snoc, List.append_assoc]
            exact HP.out
          have hid0 := hok.id0
          have hid1 := hok.id1
          simp only [fenc, frV] at HY1 HC
          have hto' : (tT : Int) + 4 ≤ 1000000 := by omega
          clear hs HP hfe hlen hB1 hK
          gi_wp2_with (refine ⟨trivial, ?_⟩; gi_at_call 47; refine (callsIn_wide.2 HC.out).mono ?_; rintro e w2 ⟨rfl, hb2⟩; have hJ2 := HJ.out _ _ _ hJs (hb2.alloc hb2.size (.cells #[.int .i64 id, .int .i64 (fF : Int), .int .i64 (tT : Int)] 63)); obtain ⟨fn, tmps, assign, body, hy, hR⟩ := HY1.out _ hJ2)
          refine hR.mono ?_
          rintro e w3 (⟨rfl, hJ3, hk3⟩ | ⟨rfl, hJ3⟩)
          · have hB6 : w3.heap[w2.heap.size]? = some (.cells #[.int .i64 id, .int .i64 (fF : Int), .int .i64 (tT : Int)] 63 (0, 0)) := hk3.2 _ _ _ _ (by simp [frTs]) (heap_alloc_new w2 _)
            have k0 : w3.cell? ⟨w2.heap.size, 0, none⟩ = some (.int .i64 id) := cell_of_heap hB6 0
            have k2 : w3.cell? ⟨w2.heap.size, 2, none⟩ = some (.int .i64 (tT : Int)) := cell_of_heap hB6 2
            have hK3 := hide (HK.out.trans ((KeepT.of_below (hb2.alloc hb2.size (.cells #[.int .i64 id, .int .i64 (fF : Int), .int .i64 (tT : Int)] 63)) hnw).trans hk3))
            have hn3 := Nat.le_trans hnw (Nat.le_trans hb2.size (Nat.le_trans (by simp) hk3.1.size))
            have HJ3 := hide fun k => HJ.out _ _ _ hJ3 (belowN w3 k)
            have HK3 := hide fun k => hK3.out.trans (KeepT.of_below (belowN w3 k) hn3)
            clear hB6 hk3 hJ3 hR hy
            gi_wp2
            gi_quiet (fail)
            gi_wp2
            exact ⟨⟨_, tT + 4, id, by go_num, rfl, HP2, hto, HJ3.out _, HK3.out _, hn3⟩, by simp [intOf]; omega⟩
          · gi_wp2
            refine bodyPost_ret (results_none rfl _ _ _) rfl ?_
            exact ⟨⟨_, rfl⟩, .inr ⟨_, ⟨_, HP2.out⟩, hJ3⟩⟩
        · have hs := seq_err (b := b) (show a < xs.length by omega) he
          rw [hs] at HP
          generalize frm xs a b = f at *
          obtain ⟨id, fF, tT, ee⟩ := f
          simp only [] at he
          have t1 : (ee != 0) = true := by simpa using he
          have hlen : pre.length < (yall xs).length := by rw [← HP.out, List.length_append, List.length_map, List.length_cons]; omega
          have HY1 := hide fun w1 (h : J pre w1) => HYY.out pre ⟨⟨id, fF, tT, ee⟩, hok⟩ w1 h hlen
          have HP2 : Hid ((pre ++ [(⟨⟨id, fF, tT, ee⟩, hok⟩ : FrX nn)]).map (·.1) = yall xs) := by
            show _ = _
            rw [map_snoc]
            exact HP.out
          have he0 := hok.e0
          have he1 := hok.e1
          simp only [fenc, frV] at HY1 HC
          clear hs HP hlen hB1 hK he
          gi_wp2_with (refine ⟨trivial, ?_⟩; gi_at_call 47; refine (callsIn_wide.2 HC.out).mono ?_; rintro e w2 ⟨rfl, hb2⟩; have hJ2 := HJ.out _ _ _ hJs (hb2.alloc hb2.size (.cells #[.int .i64 id, .int .i64 (fF : Int), .int .i64 (tT : Int)] 63)); obtain ⟨fn, tmps, assign, body, hy, hR⟩ := HY1.out _ hJ2)
          refine hR.mono ?_
          rintro e w3 (⟨rfl, hJ3, hk3⟩ | ⟨rfl, hJ3⟩)
          · gi_wp2
            refine bodyPost_ret (results_none rfl _ _ _) rfl ?_
            exact ⟨⟨_, rfl⟩, .inl ⟨_, HP2.out, hJ3⟩⟩
          · gi_wp2
            refine bodyPost_ret (results_none rfl _ _ _) rfl ?_
            exact ⟨⟨_, rfl⟩, .inr ⟨_, ⟨[], by rw [List.append_nil]; exact HP2.out⟩, hJ3⟩⟩
      · obtain rfl : a = nn := by omega
        have HP' := HP
        rw [seq_end (by omega), List.append_nil] at HP'
        clear hB1 hK
        gi_wp2
        go_end0
        exact ⟨⟨_, rfl⟩, .inl ⟨pre, HP'.out, hJs⟩⟩
  · have hy0 := hide (yall_bad hh)
    have hrg := hdr_rng xs
    generalize hdr xs = E at *
    have t1 : (E != 0) = true := by simpa using hh
    have hok : FrOk nn (.err E) := FrOk.err (by omega) (by omega)
    clear hh
    have HS : Hid (([⟨.err E, hok⟩] : List (FrX nn)).map (·.1) = yall xs) := by show _ = _; rw [hy0.out]; rfl
    have HY1 := hide fun w1 (h : J [] w1) => HYY.out [] ⟨.err E, hok⟩ w1 h (by rw [hy0.out]; simp)
    simp only [fenc, frV, Fr.err, Int.natCast_zero] at HY1
    gi_wp2_with (refine ⟨trivial, ?_⟩; gi_at_call 46; refine (callsIn_wide.2 HH.out).mono ?_; rintro e w1 ⟨rfl, hb1⟩; obtain ⟨fn, tmps, assign, body, hy, hR⟩ := HY1.out w1 (HJ.out _ _ _ h0 hb1))
    refine hR.mono ?_
    rintro e w2 (⟨rfl, hJ2, _⟩ | ⟨rfl, hJ2⟩)
    · gi_wp2
      refine bodyPost_ret (results_none rfl _ _ _) rfl ?_
      exact ⟨⟨_, rfl⟩, .inl ⟨_, HS.out, hJ2⟩⟩
    · gi_wp2
      refine bodyPost_ret (results_none rfl _ _ _) rfl ?_
      exact ⟨⟨_, rfl⟩, .inr ⟨_, ⟨[], by rw [List.append_nil]; exact HS.out⟩, hJ2⟩⟩

theorem frames_in (n : Nat) (A : Option Addr) (nn c : Nat) (w : World) :
    CallsIn Fence.wide n Try.prog 39 #[.slice A nn c] w fun e w' => e = .returned (.func (.func 45) #[] #[.pointer (some ⟨w.heap.size, 0, none⟩)]) ∧ w' = w.alloc (.cells #[.slice A nn c] 29) := by
  refine callsIn_of_wp Try.func39 rfl trivial ?_ rfl
  simp only [Try.ntmps39, List.size_toArray, List.length_cons, List.length_nil, Nat.reduceAdd, Nat.reduceSub, Array.replicate_succ, Array.replicate_zero, List.push_toArray, List.append_toArray, List.nil_append, List.cons_append]
  gi_wp2
  go_ret
  exact ⟨rfl, rfl⟩

theorem frames_stops (n : Nat) (hn : 1 ≤ n) (Bn n₀ : Nat) (A : Option Addr) (nn c : Nat) (xs : List Int) (w : World) (hx : Byt xs) (hnc : nn ≤ c) (hcm : c ≤ maxLen) (hle : nn ≤ 1000000) (hBn : Boxed w Bn 29 (.slice A nn c)) (hr : Rd w n₀ A nn (u8s xs)) (hn0 : n₀ ≤ w.heap.size) :
    SeqStopsK Fence.wide n Try.prog 45 #[.pointer (some ⟨Bn, 0, none⟩)] (fun x : FrX nn => fenc x) (KeepT n₀ frTs) (fun ys => ys.map (·.1) = yall xs) (fun pre => pre.map (·.1) <+: yall xs) (yall xs).length w := fun l J Jx W hW hJ hJx hY h0 =>
  frames1_in n hn l Bn n₀ A nn c xs hx hnc hcm hle W.heap.size J Jx hJ hJx hY W ((hW.block Bn hBn.lt).trans hBn) (hr.below (hW.mono hn0)) (Nat.le_trans hn0 hW.size) h0
end Go.Proofs.Ytgfeimlieibjhaa
