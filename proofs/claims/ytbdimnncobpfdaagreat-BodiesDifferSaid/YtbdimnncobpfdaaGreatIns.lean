/- The reference's Insert of layer 5, by itself. -/
import Derived.Test.YtbdimnncobpfdaaGreatIntT
set_option linter.unusedVariables false
namespace Go.Proofs.YtbdimnncobpfdaaGreat
open Go.RowKit

theorem leq_def9 (a b : ByteArray) : (Op.bytesLess a.toList b.toList || a.toList == b.toList) = (ltS a b || decide (a = b)) := by rw [ltS_def, eqS_def]
theorem run_leq9 {P : Program} {t : TypeId} {s a : ByteArray} {b : Bool} (h : (ltS s a || decide (s = a)) = b) (w : World) : (binOp .leq t (.string s) (.string a)).run P w = .ok (.bool b) w := by
  rw [← h, ← leq_def9]
  simp [binOp, Op.stringOp]
theorem sV_app9 (X Y : List ByteArray) : sV X ++ sV Y = sV (X ++ Y) := List.map_append.symm

set_option maxHeartbeats 4000000 in
set_option maxRecDepth 100000 in
theorem Insert_any9 (A : Option Addr) (n c : Nat) (L : List ByteArray) (s : ByteArray) (w : World) (hA : Rd w w.heap.size A n (sV L)) (hn : n ≤ 1099511627776) :
    Calls Tryz.prog 44 #[.slice A n c, .string s] w fun e w' => ∃ v, e = .returned v ∧ w'.ownsRow w.heap.size 9 1 v (insS L s).length (sV (insS L s)) ∧ Below w.heap.size w w' := by
  obtain ⟨i0, hi, hz0, hz1, hz2⟩ := info_parts infoS
  have HA := hide hA
  have hl := sV_len hA
  clear hA
  go_enter Tryz.func44, Tryz.ntmps44
  go_wp2
  go_loopw [5, 6, 7] (fun v d i wr => ∃ (k m : Nat) (b : Bool) (X : List ByteArray), i = .int .i64 (k : Int) ∧ k ≤ n ∧ d = .bool b ∧ m ≤ k + b.toNat ∧ wr.ownsRow w.heap.size 9 1 v m (sV X) ∧ Hid (X ++ (if b = true then L.drop k else insS (L.drop k) s) = insS L s) ∧ Below w.heap.size w wr) (fun _ _ i _ => n - (intOf i).toNat)
  case atStart => exact ⟨0, 0, false, [], rfl, Nat.zero_le _, rfl, Nat.zero_le _, World.ownsRow_nil _ _ _ _, by simp [Hid], Below.refl _ _⟩
  case round =>
    obtain ⟨k, m, b, X, rfl, hk, rfl, hm, hown, HX, hb⟩ := hrel
    have HO := hide hown
    have HB := hide hb
    have hsz := hb.size
    clear hown hb
    by_cases hlt : k < n
    · have hex : ∃ a, L[k]? = some a := ⟨_, List.getElem?_eq_getElem (by omega)⟩
      obtain ⟨a, ha⟩ := hex
      have hlt' : (k : Int) < (n : Int) := by omega
      have hd := hide (List.drop_eq_getElem_cons (show k < L.length by omega))
      have hd2 : Hid (L.drop k = a :: L.drop (k + 1)) := by
        show _ = _
        rw [hd.out, (List.getElem?_eq_some_iff.1 ha).2]
      obtain ⟨b', o, rfl, hbB, c0⟩ := (HA.out.below HB.out).str ha
      have hb1 := hide (HB.out.alloc hsz (.cells #[.string a] 9))
      have ho1 := hide (HO.out.alloc (.cells #[.string a] 9))
      cases b
      · cases h1 : ltS s a
        · have E1 : Op.bytesLess s.toList a.toList = false := (ltS_def s a).trans h1
          by_cases h2 : s = a
          · have E2 : (s.toList == a.toList) = true := by rw [eqS_def]; exact decide_eq_true h2
            have q := run_leq9 (P := Tryz.prog) (t := 9) (show (ltS s a || decide (s = a)) = true by simp [h2])
            have HX2 : Hid ((X ++ [a]) ++ L.drop (k + 1) = insS L s) := by
              have := HX.out
              rw [if_neg (by decide), hd2.out, insS, if_neg (by simp [h1]), if_pos h2] at this
              simpa [Hid] using this
            clear ha hd h1 h2
            have hm' : m ≤ k := by simpa using hm
            clear hm
            go_wp2_with (at_builtin; refine wpList_append_own_at _ rfl (.tmp 34) (.tmp 39) 22 rfl w.heap.size 9 i0 (.string .empty) 1 16 Tryz.underlying22 hi hz0 hz1 hz2 rfl (by decide) u5 m _ rfl ho1.out ⟨wr.heap.size, 0, none⟩ 1 1 [.string a] rfl rfl (strLit wr [.string a] 9) (sV_one [a]) (by unfold maxLen; omega) (by omega) (by simp; omega) ?_; intro v5 w5 hown5 hg5 _ hat5; have ho5 := hide hown5; have hb5 := hide (hb1.out.grown hg5 hb1.out.size (fun q hq => (ho1.out.lt q hq).1)); clear hown5 hg5 hat5)
            go_roundw
            case rel => exact ⟨k + 1, m + 1, true, X ++ [a], by go_num, by omega, rfl, by simp; omega, sV_app9 X [a] ▸ ho5.out, HX2, hb5.out⟩
            case measure => simp [intOf]; omega
          · have E2 : (s.toList == a.toList) = false := by rw [eqS_def]; exact decide_eq_false h2
            have q := run_leq9 (P := Tryz.prog) (t := 9) (show (ltS s a || decide (s = a)) = false by simp [h1, h2])
            have HX2 : Hid ((X ++ [a]) ++ insS (L.drop (k + 1)) s = insS L s) := by
              have := HX.out
              rw [if_neg (by decide), hd2.out, insS, if_neg (by simp [h1]), if_neg h2] at this
              simpa [Hid] using this
            clear ha hd h1 h2
            have hm' : m ≤ k := by simpa using hm
            clear hm
            go_wp2_with (at_builtin; refine wpList_append_own_at _ rfl (.tmp 34) (.tmp 39) 22 rfl w.heap.size 9 i0 (.string .empty) 1 16 Tryz.underlying22 hi hz0 hz1 hz2 rfl (by decide) u5 m _ rfl ho1.out ⟨wr.heap.size, 0, none⟩ 1 1 [.string a] rfl rfl (strLit wr [.string a] 9) (sV_one [a]) (by unfold maxLen; omega) (by omega) (by simp; omega) ?_; intro v5 w5 hown5 hg5 _ hat5; have ho5 := hide hown5; have hb5 := hide (hb1.out.grown hg5 hb1.out.size (fun q hq => (ho1.out.lt q hq).1)); clear hown5 hg5 hat5)
            go_roundw
            case rel => exact ⟨k + 1, m + 1, false, X ++ [a], by go_num, by omega, rfl, by simp; omega, sV_app9 X [a] ▸ ho5.out, HX2, hb5.out⟩
            case measure => simp [intOf]; omega
        · have E1 : Op.bytesLess s.toList a.toList = true := (ltS_def s a).trans h1
          have q := run_leq9 (P := Tryz.prog) (t := 9) (show (ltS s a || decide (s = a)) = true by simp [h1])
          have HX2 : Hid (((X ++ [s]) ++ [a]) ++ L.drop (k + 1) = insS L s) := by
            have := HX.out
            rw [if_neg (by decide), hd2.out, insS, if_pos h1] at this
            simpa [Hid] using this
          have hm' : m ≤ k := by simpa using hm
          have HB0 := hide (HA.out.below HB.out)
          have Ha := hide ha
          have hbs := hide (HB.out.alloc hsz (.cells #[.string s] 9))
          have hos := hide (HO.out.alloc (.cells #[.string s] 9))
          clear hm ha hd h1
          go_wp2_with (first
            | (at_builtin; refine wpList_append_own_at _ rfl (.tmp 30) (.tmp 32) 22 rfl w.heap.size 9 i0 (.string .empty) 1 16 Tryz.underlying22 hi hz0 hz1 hz2 rfl (by decide) u5 m _ rfl hos.out ⟨wr.heap.size, 0, none⟩ 1 1 [.string s] rfl rfl (strLit wr [.string s] 9) (sV_one [s]) (by unfold maxLen; omega) (by omega) (by simp; omega) ?_; intro v5 w5 hown5 hg5 _ hat5; have ho5 := hide hown5; have hb5 := hide (hbs.out.grown hg5 hbs.out.size (fun q hq => (hos.out.lt q hq).1)); clear hown5 hg5 hat5; have c5 : w5.cell? ⟨b', o + k, none⟩ = some (.string a) := (by obtain ⟨b2, o2, e2, _, k2⟩ := (HA.out.below hb5.out).str Ha.out; cases e2; exact k2); have hs5 := hb5.out.size; have hb6 := hide (hb5.out.alloc hs5 (.cells #[.string a] 9)); have ho6 := hide (ho5.out.alloc (.cells #[.string a] 9)))
            | (at_builtin; refine wpList_append_own_at _ rfl (.tmp 34) (.tmp 39) 22 rfl w.heap.size 9 i0 (.string .empty) 1 16 Tryz.underlying22 hi hz0 hz1 hz2 rfl (by decide) v5 (m + 1) _ rfl ho6.out ⟨w5.heap.size, 0, none⟩ 1 1 [.string a] rfl rfl (strLit w5 [.string a] 9) (sV_one [a]) (by unfold maxLen; omega) (by omega) (by simp; omega) ?_; intro v7 w7 hown5 hg5 _ hat5; have ho7 := hide hown5; have hb7 := hide (hb6.out.grown hg5 hb6.out.size (fun q hq => (ho6.out.lt q hq).1)); clear hown5 hg5 hat5))
          go_roundw
          case rel => exact ⟨k + 1, m + 1 + 1, true, (X ++ [s]) ++ [a], by go_num, by omega, rfl, by simp; omega, sV_app9 (X ++ [s]) [a] ▸ sV_app9 X [s] ▸ ho7.out, HX2, hb7.out⟩
          case measure => simp [intOf]; omega
      · have HX2 : Hid ((X ++ [a]) ++ L.drop (k + 1) = insS L s) := by
          have := HX.out
          rw [if_pos rfl, hd2.out] at this
          simpa [Hid] using this
        have hm' : m ≤ k + 1 := by simpa using hm
        clear ha hd hm
        go_wp2_with (at_builtin; refine wpList_append_own_at _ rfl (.tmp 34) (.tmp 39) 22 rfl w.heap.size 9 i0 (.string .empty) 1 16 Tryz.underlying22 hi hz0 hz1 hz2 rfl (by decide) u5 m _ rfl ho1.out ⟨wr.heap.size, 0, none⟩ 1 1 [.string a] rfl rfl (strLit wr [.string a] 9) (sV_one [a]) (by unfold maxLen; omega) (by omega) (by simp; omega) ?_; intro v5 w5 hown5 hg5 _ hat5; have ho5 := hide hown5; have hb5 := hide (hb1.out.grown hg5 hb1.out.size (fun q hq => (ho1.out.lt q hq).1)); clear hown5 hg5 hat5)
        go_roundw
        case rel => exact ⟨k + 1, m + 1, true, X ++ [a], by go_num, by omega, rfl, by simp; omega, sV_app9 X [a] ▸ ho5.out, HX2, hb5.out⟩
        case measure => simp [intOf]; omega
    · obtain rfl : k = n := by omega
      cases b
      · have HX2 : Hid (insS L s = X ++ [s]) := by
          have := HX.out
          rw [if_neg (by decide), List.drop_of_length_le (by omega)] at this
          exact this.symm
        have hm' : m ≤ k := by simpa using hm
        have hb1 := hide (HB.out.alloc hsz (.cells #[.string s] 9))
        have ho1 := hide (HO.out.alloc (.cells #[.string s] 9))
        clear hm
        go_wp2_with (at_builtin; refine wpList_append_own_at _ rfl (.tmp 43) (.tmp 45) 22 rfl w.heap.size 9 i0 (.string .empty) 1 16 Tryz.underlying22 hi hz0 hz1 hz2 rfl (by decide) u5 m _ rfl ho1.out ⟨wr.heap.size, 0, none⟩ 1 1 [.string s] rfl rfl (strLit wr [.string s] 9) (sV_one [s]) (by unfold maxLen; omega) (by omega) (by simp; omega) ?_; intro v5 w5 hown5 hg5 _ hat5; have ho5 := hide hown5; have hb5 := hide (hb1.out.grown hg5 hb1.out.size (fun q hq => (ho1.out.lt q hq).1)); clear hown5 hg5 hat5)
        go_ret
        have ho6 := sV_app9 X [s] ▸ ho5.out
        rw [← HX2.out] at ho6
        have hlen : m + 1 = (insS L s).length := by simpa using ho6.1.symm
        exact ⟨_, rfl, hlen ▸ ho6, hb5.out⟩
      · have HX2 : Hid (insS L s = X) := by
          have := HX.out
          rw [if_pos rfl, List.drop_of_length_le (by omega), List.append_nil] at this
          exact this.symm
        go_wp2
        go_ret
        have ho6 := HO.out
        rw [← HX2.out] at ho6
        have hlen : m = (insS L s).length := by simpa using ho6.1.symm
        exact ⟨_, rfl, hlen ▸ ho6, HB.out⟩

end Go.Proofs.YtbdimnncobpfdaaGreat
