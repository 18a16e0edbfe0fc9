/- New of a table: what sorting and compacting leave of a row of one's own. -/
import Derived.Test.YtbkgooeghmaokaaIntR
import Derived.Lib.OwnBridge
import Derived.Sort.OwnSorted
import Derived.Lib.SlicesCompact
set_option linter.unusedVariables false
namespace Go.Proofs.Ytbkgooeghmaokaa
open Go.RowKit

/-- slices.Sort on a row of one's own -/
theorem SortRow {w : World} {base n : Nat} {v : Value} {zs : List (List UInt8)} (h : w.ownsRow base 9 1 v n (zs.map Go.Proofs.encStr)) (hn : n ≤ 4611686018427387903) :
    Calls Try.prog 27 #[v] w fun e w' => e = .returned (.tuple #[]) ∧ w'.ownsRow base 9 1 v n ((zs.mergeSort fun x y => decide (x ≤ y)).map Go.Proofs.encStr) ∧ (base ≤ w.heap.size → Below base w w') := by
  have hl : zs.length = n := by simpa using h.1
  rcases h.2 with ⟨rfl, hx⟩ | ⟨g, cap, cur, rfl, hbase, hb, h1, h2, h3, h4⟩
  · subst hx
    obtain rfl : zs = [] := List.eq_nil_of_length_eq_zero hl
    refine (Try.slices_Sort_string_none none 0 w).mono ?_
    rintro e w' ⟨rfl, rfl⟩
    exact ⟨rfl, by simpa using h, fun _ => Below.refl _ _⟩
  · subst hl
    have hH := Go.holds_of_block hb (by simpa using h4)
    have hg : g < w.heap.size := (Array.getElem?_eq_some_iff.1 hb).1
    refine (Try.slices_Sort_string g 0 cap zs w hH hg (by omega)).mono ?_
    rintro e w' ⟨rfl, m, os, rfl⟩
    refine ⟨rfl, Go.ownsRow_sorted (by simp) hbase hb h1 h2 h3, fun hs => ?_⟩
    exact (Below.refl base w).grown (Go.grownBy_sorted _) hs (fun j hj => by cases hj; exact hbase)

/-- slices.Compact on a row of one's own -/
theorem CompactRow {w : World} {base n : Nat} {v : Value} {zs : List (List UInt8)} (h : w.ownsRow base 9 1 v n (zs.map Go.Proofs.encStr)) (hn : n ≤ 4611686018427387903) :
    Calls Try.prog 28 #[v] w fun e w' => ∃ A m c, e = .returned (.slice A m c) ∧ m ≤ c ∧ c ≤ maxLen ∧ w'.ownsRow base 9 1 (.slice A m c) m ((Lib.compact zs).map Go.Proofs.encStr) ∧ Below base w w' := by
  have hl : zs.length = n := by simpa using h.1
  by_cases hv : v = .slice none 0 0
  · subst hv
    have hz : n = 0 := by
      rcases h.2 with ⟨_, hx⟩ | ⟨g, cap, cur, h0, _⟩
      · exact hx
      · cases h0
    subst hz
    obtain rfl : zs = [] := List.eq_nil_of_length_eq_zero hl
    refine (Try.slices_Compact_string_empty none 0 w).mono ?_
    rintro e w' ⟨rfl, rfl⟩
    refine ⟨none, 0, 0, rfl, Nat.le_refl _, Nat.zero_le _, ?_, Below.refl _ _⟩
    have e : Lib.compact ([] : List (List UInt8)) = [] := rfl
    rw [e]
    exact h
  · obtain ⟨g, cap, rfl, hbg, hgl, hncap, hcm, _, hH⟩ := Lib.holds_of_ownsRow h hv
    subst hl
    refine (Try.slices_Compact_string g 0 cap zs w hH (by omega) hncap).mono ?_
    rintro e w' ⟨rfl, q, rfl⟩
    have hle := Lib.compact_length_le zs
    have hc := Lib.ownsRow_putRow (q := q) (k := (Lib.compact zs).length) (ys := Lib.compact zs ++ List.replicate (zs.length - (Lib.compact zs).length) []) h (by simp; omega) hle
    rw [List.take_left] at hc
    exact ⟨_, _, _, rfl, by omega, hcm, hc, Lib.below_putRow (Below.refl _ _) hbg⟩

/-- the table of block g, all of it in blocks from lo on -/
def TabF (w : World) (lo g : Nat) (L : List ByteArray) : Prop := ∃ A n c, TabAt w g A n c L ∧ (0 < n → ∃ b o, A = some ⟨b, o, none⟩ ∧ lo ≤ b)
theorem TabF.tab {w : World} {lo g : Nat} {L : List ByteArray} (h : TabF w lo g L) : Tab w g L := by
  obtain ⟨A, n, c, h, _⟩ := h
  exact ⟨A, n, c, h⟩
/-- other blocks may turn -/
theorem TabF.keep {w w' : World} {lo g : Nat} {L : List ByteArray} (h : TabF w lo g L) (hlo : lo ≤ g) (hs : w.heap.size ≤ w'.heap.size) (hk : ∀ j, lo ≤ j → j ≤ g → w'.heap[j]? = w.heap[j]?) : Tab w' g L := by
  obtain ⟨A, n, c, h, hl⟩ := h
  refine ⟨A, n, c, (World.cell?_of_block (hk g hlo (Nat.le_refl _))).trans h.c0, Nat.lt_of_lt_of_le h.lt hs, h.nc, h.cm, h.rd.1, fun h0 => ?_⟩
  obtain ⟨b, o, rfl, hb, hc⟩ := h.rd.2 h0
  obtain ⟨b', o', e, hb'⟩ := hl h0
  cases e
  exact ⟨b, o, rfl, hb, fun j u hu => (World.cell?_of_block (hk b hb' (Nat.le_of_lt hb))).trans (hc j u hu)⟩

/-- what New does -/
def MadeF (w : World) (names : List ByteArray) (x : Ending) (w' : World) : Prop :=
  (Idents names ∧ ∃ g, x = .returned (.tuple #[.pointer (some ⟨g, 0, none⟩), .int .i64 0]) ∧ w.heap.size ≤ g ∧ TabF w' w.heap.size g (tab names) ∧ Below w.heap.size w w') ∨
  (¬ Idents names ∧ x = .returned (.tuple #[.pointer none, .int .i64 12]) ∧ w = w')
def Made (w : World) (names : List ByteArray) (x : Ending) (w' : World) : Prop :=
  (Idents names ∧ ∃ g, x = .returned (.tuple #[.pointer (some ⟨g, 0, none⟩), .int .i64 0]) ∧ w.heap.size ≤ g ∧ Tab w' g (tab names) ∧ Below w.heap.size w w') ∨
  (¬ Idents names ∧ x = .returned (.tuple #[.pointer none, .int .i64 12]) ∧ w = w')

theorem sV_keys (L : List ByteArray) : sV L = (L.map key).map Go.Proofs.encStr := (Lib.map_encStr L).symm

set_option maxHeartbeats 2000000 in
set_option maxRecDepth 100000 in
theorem New_from (A : Option Addr) (n c : Nat) (names : List ByteArray) (w : World) (hA : Rd w w.heap.size A n (sV names)) (hs : ∀ s ∈ names, s.size ≤ maxLen) (hn : n ≤ 1099511627776) :
    Calls Try.prog 12 #[.slice A n c] w (MadeF w names) := by
  have HA := hide hA
  have hl := sV_len hA
  have HZ := hide hs
  clear hA hs
  go_enter Try.func12, Try.ntmps12
  go_wp2
  go_loopw [9] (fun i wr => ∃ k : Nat, i = .int .i64 (k : Int) ∧ k ≤ n ∧ Hid (∀ j s, j < k → names[j]? = some s → identB s = true) ∧ w = wr) (fun i _ => n - (intOf i).toNat)
  case atStart => exact ⟨0, rfl, Nat.zero_le _, fun j s h => absurd h (by omega), rfl⟩
  case round =>
    obtain ⟨k, rfl, hk, HI, rfl⟩ := hrel
    by_cases hlt : k < n
    · have hex : ∃ a, names[k]? = some a := ⟨_, List.getElem?_eq_getElem (by omega)⟩
      obtain ⟨s, hs⟩ := hex
      have hlt' : (k : Int) < (n : Int) := by omega
      obtain ⟨b, o, rfl, hbB, c0⟩ := HA.out.str hs
      have hsz := HZ.out s (List.mem_of_getElem? hs)
      have Hs := hide hs
      have HSZ := hide hsz
      cases hi : identB s
      · have HN := hide (show ¬ Idents names from fun h => by rw [h s (List.mem_of_getElem? hs)] at hi; cases hi)
        have HE := hide hi
        clear hs hsz hi
        go_wp2_with fail
        refine (IsIdent_is HE.out _ HSZ.out).mono ?_
        rintro e w1 ⟨rfl, rfl⟩
        go_wp2_with fail
        go_ret2
        exact .inr ⟨HN.out, rfl, rfl⟩
      · have HE := hide hi
        have HN := hide (show ∀ j t, j < k + 1 → names[j]? = some t → identB t = true from fun j t hj ht => by
          rcases Nat.lt_or_ge j k with c | c
          · exact HI.out j t c ht
          · obtain rfl : j = k := by omega
            rw [hs] at ht
            injection ht with e
            subst e
            exact hi)
        clear hs hsz hi
        go_wp2_with fail
        refine (IsIdent_is HE.out _ HSZ.out).mono ?_
        rintro e w1 ⟨rfl, rfl⟩
        go_wp2_with fail
        go_roundw
        case rel => exact ⟨k + 1, by go_num, by omega, HN.out, trivial⟩
        case measure => simp [intOf]; omega
    · obtain rfl : k = n := by omega
      have HId := hide (show Idents names from fun s hs => by
        obtain ⟨j, hj⟩ := List.getElem?_of_mem hs
        exact HI.out j s (by have := (List.getElem?_eq_some_iff.1 hj).1; omega) hj)
      go_wp2_with fail
      refine (CloneS_any A k c names w _ HA.out (by omega)).mono ?_
      rintro e w1 ⟨v1, rfl, hown, hb1⟩
      rw [sV_keys] at hown
      have HO1 := hide hown
      have HB1 := hide hb1
      clear hown hb1
      go_wp2_with fail
      refine (SortRow HO1.out (by omega)).mono ?_
      rintro e w2 ⟨rfl, hown, hb2⟩
      have HO2 := hide hown
      have HB2 := hide (HB1.out.trans (hb2 HB1.out.size))
      clear hown hb2
      go_wp2_with fail
      refine (CompactRow HO2.out (by omega)).mono ?_
      rintro e w3 ⟨A3, m, c3, rfl, hmc, hcm, hown, hb3⟩
      rw [tab_compact, ← sV_keys] at hown
      have HO3 := hide hown
      have HB3 := hide (HB2.out.trans hb3)
      have HC := hide (And.intro hmc hcm)
      clear hown hb3 hmc hcm
      go_wp2_with fail
      go_ret2
      refine .inl ⟨HId.out, w3.heap.size, rfl, HB3.out.size, ⟨A3, m, c3, ⟨by simp [go_sem], by simp, HC.out.1, HC.out.2, ?_⟩, fun h0 => ?_⟩, HB3.out.alloc HB3.out.size _⟩
      · exact (Rd.of_own HO3.out).alloc (Nat.le_refl _) _
      · obtain ⟨b, cap, hv, hb, _⟩ := HO3.out.form h0
        injection hv with e1
        exact ⟨b, 0, e1, hb⟩
theorem New_any (A : Option Addr) (n c : Nat) (names : List ByteArray) (w : World) (hA : Rd w w.heap.size A n (sV names)) (hs : ∀ s ∈ names, s.size ≤ maxLen) (hn : n ≤ 1099511627776) :
    Calls Try.prog 12 #[.slice A n c] w (Made w names) := by
  refine (New_from A n c names w hA hs hn).mono ?_
  rintro x w' (⟨h1, g, h2, h3, h4, h5⟩ | h)
  · exact .inl ⟨h1, g, h2, h3, h4.tab, h5⟩
  · exact .inr h

/-! ### the reference -/
theorem leq_def (a b : ByteArray) : (Op.bytesLess a.toList b.toList || a.toList == b.toList) = (ltS a b || decide (a = b)) := by rw [ltS_def, eqS_def]
theorem run_leq {P : Program} {t : TypeId} {s a : ByteArray} {b : Bool} (h : (ltS s a || decide (s = a)) = b) (w : World) : (binOp .leq t (.string s) (.string a)).run P w = .ok (.bool b) w := by
  rw [← h, ← leq_def]
  simp [binOp, Op.stringOp]
theorem sV_app (X Y : List ByteArray) : sV X ++ sV Y = sV (X ++ Y) := List.map_append.symm

set_option maxHeartbeats 4000000 in
set_option maxRecDepth 100000 in
theorem Insert_any (A : Option Addr) (n c : Nat) (L : List ByteArray) (s : ByteArray) (w : World) (hA : Rd w w.heap.size A n (sV L)) (hn : n ≤ 1099511627776) :
    Calls Try.prog 29 #[.slice A n c, .string s] w fun e w' => ∃ v, e = .returned v ∧ w'.ownsRow w.heap.size 9 1 v (insS L s).length (sV (insS L s)) ∧ Below w.heap.size w w' := by
  obtain ⟨i0, hi, hz0, hz1, hz2⟩ := info_parts infoS
  have HA := hide hA
  have hl := sV_len hA
  clear hA
  go_enter Try.func29, Try.ntmps29
  go_wp2
  go_loopw [5, 6, 7] (fun v d i wr => ∃ (k m : Nat) (b : Bool) (X : List ByteArray), i = .int .i64 (k : Int) ∧ k ≤ n ∧ d = .bool b ∧ m ≤ k + b.toNat ∧ wr.ownsRow w.heap.size 9 1 v m (sV X) ∧ Hid (X ++ (if b = true then L.drop k else insS (L.drop k) s) = insS L s) ∧ Below w.heap.size w wr) (fun _ _ i _ => n - (intOf i).toNat)
  case atStart => exact ⟨0, 0, false, [], rfl, Nat.zero_le _, rfl, Nat.zero_le _, World.ownsRow_nil _ _ _ _, by simp [Hid], Below.refl _ _⟩
  case round =>
    obtain ⟨k, m, b, X, rfl, hk, rfl, hm, hown, HX, hb⟩ := hrel
    have HO := hide hown
    have HB := hide hb
    have hsz := hb.size
    clear hown hb
    by_cases hlt : k < n
    · have hex : ∃ a, L[k]? = some a := ⟨_, List.getElem?_eq_getElem (by omega)⟩
      obtain ⟨a, ha⟩ := hex
      have hlt' : (k : Int) < (n : Int) := by omega
      have hd := hide (List.drop_eq_getElem_cons (show k < L.length by omega))
      have hd2 : Hid (L.drop k = a :: L.drop (k + 1)) := by
        show _ = _
        rw [hd.out, (List.getElem?_eq_some_iff.1 ha).2]
      obtain ⟨b', o, rfl, hbB, c0⟩ := (HA.out.below HB.out).str ha
      have hb1 := hide (HB.out.alloc hsz (.cells #[.string a] 9))
      have ho1 := hide (HO.out.alloc (.cells #[.string a] 9))
      cases b
      · cases h1 : ltS s a
        · have E1 : Op.bytesLess s.toList a.toList = false := (ltS_def s a).trans h1
          by_cases h2 : s = a
          · have E2 : (s.toList == a.toList) = true := by rw [eqS_def]; exact decide_eq_true h2
            have q := run_leq (P := Try.prog) (t := 9) (show (ltS s a || decide (s = a)) = true by simp [h2])
            have HX2 : Hid ((X ++ [a]) ++ L.drop (k + 1) = insS L s) := by
              have := HX.out
              rw [if_neg (by decide), hd2.out, insS, if_neg (by simp [h1]), if_pos h2] at this
              simpa [Hid] using this
            clear ha hd h1 h2
            have hm' : m ≤ k := by simpa using hm
            clear hm
            go_wp2_with (at_builtin; refine wpList_append_own_at _ rfl (.tmp 34) (.tmp 39) 24 rfl w.heap.size 9 i0 (.string .empty) 1 16 Try.underlying24 hi hz0 hz1 hz2 rfl (by decide) u5 m _ rfl ho1.out ⟨wr.heap.size, 0, none⟩ 1 1 [.string a] rfl rfl (strLit wr [.string a] 9) (sV_one [a]) (by unfold maxLen; omega) (by omega) (by simp; omega) ?_; intro v5 w5 hown5 hg5 _ hat5; have ho5 := hide hown5; have hb5 := hide (hb1.out.grown hg5 hb1.out.size (fun q hq => (ho1.out.lt q hq).1)); clear hown5 hg5 hat5)
            go_roundw
            case rel => exact ⟨k + 1, m + 1, true, X ++ [a], by go_num, by omega, rfl, by simp; omega, sV_app X [a] ▸ ho5.out, HX2, hb5.out⟩
            case measure => simp [intOf]; omega
          · have E2 : (s.toList == a.toList) = false := by rw [eqS_def]; exact decide_eq_false h2
            have q := run_leq (P := Try.prog) (t := 9) (show (ltS s a || decide (s = a)) = false by simp [h1, h2])
            have HX2 : Hid ((X ++ [a]) ++ insS (L.drop (k + 1)) s = insS L s) := by
              have := HX.out
              rw [if_neg (by decide), hd2.out, insS, if_neg (by simp [h1]), if_neg h2] at this
              simpa [Hid] using this
            clear ha hd h1 h2
            have hm' : m ≤ k := by simpa using hm
            clear hm
            go_wp2_with (at_builtin; refine wpList_append_own_at _ rfl (.tmp 34) (.tmp 39) 24 rfl w.heap.size 9 i0 (.string .empty) 1 16 Try.underlying24 hi hz0 hz1 hz2 rfl (by decide) u5 m _ rfl ho1.out ⟨wr.heap.size, 0, none⟩ 1 1 [.string a] rfl rfl (strLit wr [.string a] 9) (sV_one [a]) (by unfold maxLen; omega) (by omega) (by simp; omega) ?_; intro v5 w5 hown5 hg5 _ hat5; have ho5 := hide hown5; have hb5 := hide (hb1.out.grown hg5 hb1.out.size (fun q hq => (ho1.out.lt q hq).1)); clear hown5 hg5 hat5)
            go_roundw
            case rel => exact ⟨k + 1, m + 1, false, X ++ [a], by go_num, by omega, rfl, by simp; omega, sV_app X [a] ▸ ho5.out, HX2, hb5.out⟩
            case measure => simp [intOf]; omega
        · have E1 : Op.bytesLess s.toList a.toList = true := (ltS_def s a).trans h1
          have q := run_leq (P := Try.prog) (t := 9) (show (ltS s a || decide (s = a)) = true by simp [h1])
          have HX2 : Hid (((X ++ [s]) ++ [a]) ++ L.drop (k + 1) = insS L s) := by
            have := HX.out
            rw [if_neg (by decide), hd2.out, insS, if_pos h1] at this
            simpa [Hid] using this
          have hm' : m ≤ k := by simpa using hm
          have HB0 := hide (HA.out.below HB.out)
          have Ha := hide ha
          have hbs := hide (HB.out.alloc hsz (.cells #[.string s] 9))
          have hos := hide (HO.out.alloc (.cells #[.string s] 9))
          clear hm ha hd h1
          go_wp2_with (first
            | (at_builtin; refine wpList_append_own_at _ rfl (.tmp 30) (.tmp 32) 24 rfl w.heap.size 9 i0 (.string .empty) 1 16 Try.underlying24 hi hz0 hz1 hz2 rfl (by decide) u5 m _ rfl hos.out ⟨wr.heap.size, 0, none⟩ 1 1 [.string s] rfl rfl (strLit wr [.string s] 9) (sV_one [s]) (by unfold maxLen; omega) (by omega) (by simp; omega) ?_; intro v5 w5 hown5 hg5 _ hat5; have ho5 := hide hown5; have hb5 := hide (hbs.out.grown hg5 hbs.out.size (fun q hq => (hos.out.lt q hq).1)); clear hown5 hg5 hat5; have c5 : w5.cell? ⟨b', o + k, none⟩ = some (.string a) := (by obtain ⟨b2, o2, e2, _, k2⟩ := (HA.out.below hb5.out).str Ha.out; cases e2; exact k2); have hs5 := hb5.out.size; have hb6 := hide (hb5.out.alloc hs5 (.cells #[.string a] 9)); have ho6 := hide (ho5.out.alloc (.cells #[.string a] 9)))
            | (at_builtin; refine wpList_append_own_at _ rfl (.tmp 34) (.tmp 39) 24 rfl w.heap.size 9 i0 (.string .empty) 1 16 Try.underlying24 hi hz0 hz1 hz2 rfl (by decide) v5 (m + 1) _ rfl ho6.out ⟨w5.heap.size, 0, none⟩ 1 1 [.string a] rfl rfl (strLit w5 [.string a] 9) (sV_one [a]) (by unfold maxLen; omega) (by omega) (by simp; omega) ?_; intro v7 w7 hown5 hg5 _ hat5; have ho7 := hide hown5; have hb7 := hide (hb6.out.grown hg5 hb6.out.size (fun q hq => (ho6.out.lt q hq).1)); clear hown5 hg5 hat5))
          go_roundw
          case rel => exact ⟨k + 1, m + 1 + 1, true, (X ++ [s]) ++ [a], by go_num, by omega, rfl, by simp; omega, sV_app (X ++ [s]) [a] ▸ sV_app X [s] ▸ ho7.out, HX2, hb7.out⟩
          case measure => simp [intOf]; omega
      · have HX2 : Hid ((X ++ [a]) ++ L.drop (k + 1) = insS L s) := by
          have := HX.out
          rw [if_pos rfl, hd2.out] at this
          simpa [Hid] using this
        have hm' : m ≤ k + 1 := by simpa using hm
        clear ha hd hm
        go_wp2_with (at_builtin; refine wpList_append_own_at _ rfl (.tmp 34) (.tmp 39) 24 rfl w.heap.size 9 i0 (.string .empty) 1 16 Try.underlying24 hi hz0 hz1 hz2 rfl (by decide) u5 m _ rfl ho1.out ⟨wr.heap.size, 0, none⟩ 1 1 [.string a] rfl rfl (strLit wr [.string a] 9) (sV_one [a]) (by unfold maxLen; omega) (by omega) (by simp; omega) ?_; intro v5 w5 hown5 hg5 _ hat5; have ho5 := hide hown5; have hb5 := hide (hb1.out.grown hg5 hb1.out.size (fun q hq => (ho1.out.lt q hq).1)); clear hown5 hg5 hat5)
        go_roundw
        case rel => exact ⟨k + 1, m + 1, true, X ++ [a], by go_num, by omega, rfl, by simp; omega, sV_app X [a] ▸ ho5.out, HX2, hb5.out⟩
        case measure => simp [intOf]; omega
    · obtain rfl : k = n := by omega
      cases b
      · have HX2 : Hid (insS L s = X ++ [s]) := by
          have := HX.out
          rw [if_neg (by decide), List.drop_of_length_le (by omega)] at this
          exact this.symm
        have hm' : m ≤ k := by simpa using hm
        have hb1 := hide (HB.out.alloc hsz (.cells #[.string s] 9))
        have ho1 := hide (HO.out.alloc (.cells #[.string s] 9))
        clear hm
        go_wp2_with (at_builtin; refine wpList_append_own_at _ rfl (.tmp 43) (.tmp 45) 24 rfl w.heap.size 9 i0 (.string .empty) 1 16 Try.underlying24 hi hz0 hz1 hz2 rfl (by decide) u5 m _ rfl ho1.out ⟨wr.heap.size, 0, none⟩ 1 1 [.string s] rfl rfl (strLit wr [.string s] 9) (sV_one [s]) (by unfold maxLen; omega) (by omega) (by simp; omega) ?_; intro v5 w5 hown5 hg5 _ hat5; have ho5 := hide hown5; have hb5 := hide (hb1.out.grown hg5 hb1.out.size (fun q hq => (ho1.out.lt q hq).1)); clear hown5 hg5 hat5)
        go_ret
        have ho6 := sV_app X [s] ▸ ho5.out
        rw [← HX2.out] at ho6
        have hlen : m + 1 = (insS L s).length := by simpa using ho6.1.symm
        exact ⟨_, rfl, hlen ▸ ho6, hb5.out⟩
      · have HX2 : Hid (insS L s = X) := by
          have := HX.out
          rw [if_pos rfl, List.drop_of_length_le (by omega), List.append_nil] at this
          exact this.symm
        go_wp2
        go_ret
        have ho6 := HO.out
        rw [← HX2.out] at ho6
        have hlen : m = (insS L s).length := by simpa using ho6.1.symm
        exact ⟨_, rfl, hlen ▸ ho6, HB.out⟩

/-- what the reference's New does -/
def RMade (w : World) (names : List ByteArray) (x : Ending) (w' : World) : Prop :=
  (Idents names ∧ ∃ A m c, x = .returned (.tuple #[.slice A m c, .int .i64 0]) ∧ m ≤ c ∧ c ≤ maxLen ∧ Rd w' w'.heap.size A m (sV (tab names)) ∧ Below w.heap.size w w') ∨
  (¬ Idents names ∧ x = .returned (.tuple #[.slice none 0 0, .int .i64 12]) ∧ Below w.heap.size w w')

set_option maxHeartbeats 2000000 in
set_option maxRecDepth 100000 in
theorem RefNew_any (A : Option Addr) (n c : Nat) (names : List ByteArray) (w : World) (hA : Rd w w.heap.size A n (sV names)) (hs : ∀ s ∈ names, s.size ≤ maxLen) (hn : n ≤ 1099511627776) :
    Calls Try.prog 13 #[.slice A n c] w (RMade w names) := by
  have HA := hide hA
  have hl := sV_len hA
  have HZ := hide hs
  clear hA hs
  go_enter Try.func13, Try.ntmps13
  go_wp2
  go_loopw [4, 5] (fun v i wr => ∃ (k m : Nat) (A' : Option Addr) (c' : Nat), i = .int .i64 (k : Int) ∧ k ≤ n ∧ v = .slice A' m c' ∧ m ≤ k ∧ m ≤ c' ∧ c' ≤ maxLen ∧ Hid (∀ j s, j < k → names[j]? = some s → identB s = true) ∧ Hid (Rd wr wr.heap.size A' m (sV (tab (names.take k)))) ∧ Below w.heap.size w wr) (fun _ i _ => n - (intOf i).toNat)
  case atStart => exact ⟨0, 0, none, 0, rfl, Nat.zero_le _, rfl, Nat.le_refl _, Nat.le_refl _, Nat.zero_le _, fun j s h => absurd h (by omega), Rd.nil _ _ _, Below.refl _ _⟩
  case round =>
    obtain ⟨k, m, A', c', rfl, hk, rfl, hmk, hmc, hcm, HI, HR, hb⟩ := hrel
    have HB := hide hb
    have hsz := hb.size
    clear hb
    by_cases hlt : k < n
    · have hex : ∃ a, names[k]? = some a := ⟨_, List.getElem?_eq_getElem (by omega)⟩
      obtain ⟨s, hs⟩ := hex
      have hlt' : (k : Int) < (n : Int) := by omega
      obtain ⟨b, o, rfl, hbB, c0⟩ := (HA.out.below HB.out).str hs
      have hsz2 := HZ.out s (List.mem_of_getElem? hs)
      have HSZ := hide hsz2
      have HU := hide (tab_take hs)
      cases hi : identB s
      · have HN := hide (show ¬ Idents names from fun h => by rw [h s (List.mem_of_getElem? hs)] at hi; cases hi)
        have HE := hide hi
        clear hs hsz2 hi
        go_wp2_with fail
        refine (RefIdent_is HE.out _ HSZ.out).mono ?_
        rintro e w1 ⟨rfl, rfl⟩
        go_wp2_with fail
        go_ret2
        exact .inr ⟨HN.out, rfl, HB.out⟩
      · have HE := hide hi
        have HN := hide (show ∀ j t, j < k + 1 → names[j]? = some t → identB t = true from fun j t hj ht => by
          rcases Nat.lt_or_ge j k with c | c
          · exact HI.out j t c ht
          · obtain rfl : j = k := by omega
            rw [hs] at ht
            injection ht with e
            subst e
            exact hi)
        clear hs hsz2 hi
        go_wp2_with fail
        refine (RefIdent_is HE.out _ HSZ.out).mono ?_
        rintro e w1 ⟨rfl, rfl⟩
        go_wp2_with fail
        refine (Insert_any A' m c' (tab (names.take k)) s _ HR.out (by omega)).mono ?_
        rintro e w2 ⟨v, rfl, hown, hb2⟩
        have hle := insS_len (s := s) (L := tab (names.take k))
        have hm2 := sV_len HR.out
        obtain ⟨A2, c2, rfl, g1, g2⟩ := ownsRow_slice hown
        have hex : ∃ m2, m2 = (insS (tab (names.take k)) s).length := ⟨_, rfl⟩
        obtain ⟨m2, hm2'⟩ := hex
        rw [← hm2'] at hown hle g1 ⊢
        have HR2 := hide (Rd.of_own hown)
        have HB2 := hide (HB.out.trans (hb2.mono hsz))
        rw [← HU.out] at HR2
        clear hown hb2 hm2'
        go_wp2_with fail
        go_roundw
        case rel => exact ⟨k + 1, m2, A2, c2, by go_num, by omega, rfl, by omega, g1, g2, HN.out, HR2.out, HB2.out⟩
        case measure => simp [intOf]; omega
    · obtain rfl : k = n := by omega
      have HId := hide (show Idents names from fun s hs => by
        obtain ⟨j, hj⟩ := List.getElem?_of_mem hs
        exact HI.out j s (by have := (List.getElem?_eq_some_iff.1 hj).1; omega) hj)
      have hr := HR.out
      rw [List.take_of_length_le (by omega)] at hr
      have HR2 := hide hr
      clear hr
      go_wp2_with fail
      go_ret2
      exact .inl ⟨HId.out, A', m, c', rfl, hmc, hcm, HR2.out, HB.out⟩
end Go.Proofs.Ytbkgooeghmaokaa
