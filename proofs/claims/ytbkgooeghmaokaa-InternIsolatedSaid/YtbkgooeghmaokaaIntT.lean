/- A table in memory: Len, At, 'list' and 'long' of the laws. -/
import Derived.Test.YtbkgooeghmaokaaIntI
import Derived.Test.YtbkgooeghmaokaaAppend
import Derived.Test.YtbkgooeghmaokaaRdr
import Derived.Outline
set_option linter.unusedVariables false
namespace Go.Proofs.Ytbkgooeghmaokaa
open Go.RowKit

theorem ltS_def (a b : ByteArray) : Op.bytesLess a.toList b.toList = ltS a b := by rw [ltS, key, key, ByteArray.toList_eq, ByteArray.toList_eq]
theorem eqS_def (a b : ByteArray) : (a.toList == b.toList) = decide (a = b) := by
  rw [Bool.eq_iff_iff, beq_iff_eq, decide_eq_true_iff, ByteArray.toList_eq, ByteArray.toList_eq]
  exact ⟨fun h => key_inj h, fun h => by rw [h]⟩
/-- strings as cells -/
abbrev sV (L : List ByteArray) : List Value := L.map Value.string
theorem sV_one (L : List ByteArray) : ∀ u ∈ sV L, u.oneCell' = true := by
  intro u hu
  obtain ⟨s, _, rfl⟩ := List.mem_map.1 hu
  rfl
theorem infoS : (Try.prog.info? 9).map (fun i => (i.zero, i.size, i.bytes)) = some (some (.string .empty), 1, 16) := by kernel_rfl
theorem sV_at {L : List ByteArray} {k : Nat} {s : ByteArray} (h : L[k]? = some s) : (sV L)[k]? = some (.string s) := by rw [List.getElem?_map, h]; rfl
theorem sV_len {w : World} {B n : Nat} {A : Option Addr} {L : List ByteArray} (h : Rd w B A n (sV L)) : L.length = n := by simpa using h.1
theorem Rd.str {w : World} {B n : Nat} {A : Option Addr} {L : List ByteArray} (h : Rd w B A n (sV L)) {k : Nat} {s : ByteArray} (hs : L[k]? = some s) : ∃ b o, A = some ⟨b, o, none⟩ ∧ b < B ∧ w.cell? ⟨b, o + k, none⟩ = some (.string s) := h.cell (sV_at hs)

/-- the table of block g holds L -/
structure TabAt (w : World) (g : Nat) (A : Option Addr) (n c : Nat) (L : List ByteArray) : Prop where
  c0 : w.cell? ⟨g, 0, none⟩ = some (.slice A n c)
  lt : g < w.heap.size
  nc : n ≤ c
  cm : c ≤ maxLen
  rd : Rd w g A n (sV L)
def Tab (w : World) (g : Nat) (L : List ByteArray) : Prop := ∃ A n c, TabAt w g A n c L
theorem TabAt.len {w : World} {g n c : Nat} {A : Option Addr} {L : List ByteArray} (h : TabAt w g A n c L) : L.length = n := sV_len h.rd
theorem Tab.below {w w' : World} {g B : Nat} {L : List ByteArray} (h : Tab w g L) (hb : Below B w w') (hB : g < B) : Tab w' g L := by
  obtain ⟨A, n, c, h⟩ := h
  exact ⟨A, n, c, (hb.cell hB).trans h.c0, Nat.lt_of_lt_of_le h.lt hb.size, h.nc, h.cm, h.rd.below (hb.mono (by omega))⟩
theorem Tab.lt {w : World} {g : Nat} {L : List ByteArray} (h : Tab w g L) : g < w.heap.size := by obtain ⟨A, n, c, h⟩ := h; exact h.lt
theorem Tab.now {w w' : World} {g : Nat} {L : List ByteArray} (h : Tab w g L) (hb : Below w.heap.size w w') : Tab w' g L := h.below hb h.lt

theorem Len_any {w : World} {g : Nat} {L : List ByteArray} (h : Tab w g L) :
    Calls Try.prog 17 #[.pointer (some ⟨g, 0, none⟩)] w fun e w' => e = .returned (.int .i64 (L.length : Int)) ∧ w = w' := by
  obtain ⟨A, n, c, h⟩ := h
  have c0 := h.c0
  have hn := hide h.len
  clear h
  go_enter Try.func17, Try.ntmps17
  go_wp2
  go_ret
  exact ⟨congrArg (fun k : Nat => Ending.returned (.int .i64 (k : Int))) hn.out.symm, rfl⟩
theorem Len_nil (w : World) :
    Calls Try.prog 17 #[.pointer none] w fun e w' => e = .returned (.int .i64 0) ∧ w = w' := by
  go_enter Try.func17, Try.ntmps17
  go_wp2
  go_ret
  exact ⟨rfl, rfl⟩
theorem At_in {w : World} {g : Nat} {L : List ByteArray} (h : Tab w g L) {k : Nat} {s : ByteArray} (hs : L[k]? = some s) :
    Calls Try.prog 16 #[.pointer (some ⟨g, 0, none⟩), .int .i64 (k : Int)] w fun e w' => e = .returned (.tuple #[.string s, .bool true]) ∧ w = w' := by
  have HL := hide (Len_any h)
  obtain ⟨A, n, c, h⟩ := h
  have c0 := h.c0
  have hn := h.len
  obtain ⟨hk, _⟩ := List.getElem?_eq_some_iff.1 hs
  obtain ⟨b, o, rfl, hb, c1⟩ := h.rd.str hs
  have hk1 : (k : Int) < (n : Int) := by omega
  have hk2 : (k : Int) < (L.length : Int) := by omega
  have hk3 : ¬ (k : Int) < 0 := by omega
  have hm := h.cm
  have hnc := h.nc
  unfold maxLen at hm
  clear h hs
  go_enter Try.func16, Try.ntmps16
  go_wp2_with fail
  refine HL.out.mono ?_
  rintro e w1 ⟨rfl, rfl⟩
  go_wp2_with fail
  go_ret2
  exact ⟨rfl, rfl⟩
theorem At_out {w : World} {g : Nat} {L : List ByteArray} (h : Tab w g L) {i : Int} (hi : i < 0 ∨ (L.length : Int) ≤ i) :
    Calls Try.prog 16 #[.pointer (some ⟨g, 0, none⟩), .int .i64 i] w fun e w' => e = .returned (.tuple #[.string .empty, .bool false]) ∧ w = w' := by
  have HL := hide (Len_any h)
  clear h
  by_cases h0 : i < 0
  · go_enter Try.func16, Try.ntmps16
    go_wp2_with fail
    go_ret2
    exact ⟨rfl, rfl⟩
  · have h1 : (L.length : Int) ≤ i := by omega
    go_enter Try.func16, Try.ntmps16
    go_wp2_with fail
    refine HL.out.mono ?_
    rintro e w1 ⟨rfl, rfl⟩
    go_wp2_with fail
    go_ret2
    exact ⟨rfl, rfl⟩
theorem At_nil (w : World) :
    Calls Try.prog 16 #[.pointer none, .int .i64 0] w fun e w' => e = .returned (.tuple #[.string .empty, .bool false]) ∧ w = w' := by
  go_enter Try.func16, Try.ntmps16
  go_wp2_with fail
  refine (Len_nil _).mono ?_
  rintro e w1 ⟨rfl, rfl⟩
  go_wp2_with fail
  go_ret2
  exact ⟨rfl, rfl⟩

/-- the cells of a slice written out -/
theorem strLit (w : World) (cs : List Value) (t : TypeId) : ∀ j u, cs[j]? = some u → (w.alloc (.cells cs.toArray t)).cell? ((⟨w.heap.size, 0, none⟩ : Addr).add j) = some u := by
  intro j u hu
  have e : (⟨w.heap.size, 0, none⟩ : Addr).add j = ⟨w.heap.size, 0 + j, none⟩ := by unfold Addr.add; split <;> simp_all
  rw [e, cell_of_row (w.alloc (.cells cs.toArray t)) w.heap.size (0 + j) cs.toArray t (0, 0) (heap_alloc_new w _)]
  simpa using hu
theorem sV_up {L : List ByteArray} {k : Nat} {s : ByteArray} (h : L[k]? = some s) : sV (L.take (k + 1)) = sV (L.take k) ++ [.string s] := by
  rw [sV, List.take_add_one, h]; simp

set_option maxHeartbeats 2000000 in
set_option maxRecDepth 100000 in
/-- 'list' of the laws -/
theorem list_any {w : World} {g : Nat} {L : List ByteArray} (h : Tab w g L) (hn : L.length ≤ 9000) :
    Calls Try.prog 19 #[.pointer (some ⟨g, 0, none⟩), .int .i64 9000] w fun e w' => ∃ v, e = .returned v ∧ w'.ownsRow w.heap.size 9 1 v L.length (sV L) ∧ Below w.heap.size w w' := by
  obtain ⟨i0, hi, hz0, hz1, hz2⟩ := info_parts infoS
  have HT := hide h
  have hn' : (L.length : Int) ≤ 9000 := by omega
  clear h
  go_enter Try.func19, Try.ntmps19
  go_wp2_with fail
  refine (Len_any HT.out).mono ?_
  rintro e w1 ⟨rfl, rfl⟩
  go_wp2_with fail
  go_loopw [5, 13] (fun v i wr => ∃ k : Nat, i = .int .i64 (k : Int) ∧ k ≤ L.length ∧ wr.ownsRow w.heap.size 9 1 v k (sV (L.take k)) ∧ Below w.heap.size w wr) (fun _ i _ => L.length - (intOf i).toNat)
  case atStart => exact ⟨0, rfl, Nat.zero_le _, World.ownsRow_nil _ _ _ _, Below.refl _ _⟩
  case round =>
    obtain ⟨k, rfl, hk, hown, hb⟩ := hrel
    by_cases hlt : k < L.length
    · have hex : ∃ s, L[k]? = some s := ⟨_, List.getElem?_eq_getElem hlt⟩
      obtain ⟨s, hs⟩ := hex
      have hlt' : (k : Int) < (L.length : Int) := by omega
      have HS := hide hs
      have HO := hide hown
      have HB := hide hb
      have hsz := hb.size
      clear hs hown hb
      go_wp2_with fail
      refine (At_in (HT.out.now HB.out) HS.out).mono ?_
      rintro e w2 ⟨rfl, rfl⟩
      have hb1 := hide (HB.out.alloc hsz (.cells #[.string s] 9))
      have ho1 := hide (HO.out.alloc (.cells #[.string s] 9))
      have HU := hide (sV_up HS.out)
      go_wp2_with (at_builtin; refine wpList_append_own_at _ rfl (.tmp 22) (.tmp 24) 24 rfl w.heap.size 9 i0 (.string .empty) 1 16 Try.underlying24 hi hz0 hz1 hz2 rfl (by decide) u5 k _ rfl ho1.out ⟨wr.heap.size, 0, none⟩ 1 1 [.string s] rfl rfl (strLit wr [.string s] 9) (sV_one [s]) (by unfold maxLen; omega) (by omega) (by simp; omega) ?_; intro v5 w5 hown5 hg5 _ hat5; have ho5 := hide hown5; have hb5 := hide (hb1.out.grown hg5 hb1.out.size (fun q hq => (ho1.out.lt q hq).1)); clear hown5 hg5 hat5)
      go_roundw
      case rel => exact ⟨k + 1, by go_num, by omega, by rw [HU.out]; exact ho5.out, hb5.out⟩
      case measure => simp [intOf]; omega
    · obtain rfl : k = L.length := by omega
      rw [List.take_of_length_le (Nat.le_refl _)] at hown
      have HO := hide hown
      have HB := hide hb
      clear hown hb
      go_wp2_with fail
      go_ret
      exact ⟨_, rfl, HO.out, HB.out⟩

set_option maxHeartbeats 1000000 in
set_option maxRecDepth 100000 in
theorem long_any (A : Option Addr) (n c : Nat) (L : List ByteArray) (w : World) (hA : Rd w w.heap.size A n (sV L)) (hs : ∀ s ∈ L, s.size ≤ maxLen) (hn : n ≤ maxLen) :
    Calls Try.prog 11 #[.slice A n c] w fun x w' => x = .returned (.bool (bigS L)) ∧ w = w' := by
  have HA := hide hA
  have hl := sV_len hA
  have HL := hide hl
  have HZ := hide hs
  unfold maxLen at hn
  clear hA hs
  go_enter Try.func11, Try.ntmps11
  go_wp2
  go_loopw [3, 8] (fun s i wr => ∃ k t : Nat, i = .int .i64 (k : Int) ∧ k ≤ n ∧ s = .int .i64 (t : Int) ∧ t ≤ 8000 ∧ Hid (t = sumS (L.take k)) ∧ w = wr) (fun _ i _ => n - (intOf i).toNat)
  case atStart => exact ⟨0, 0, rfl, Nat.zero_le _, rfl, by omega, rfl, rfl⟩
  case round =>
    obtain ⟨k, t, rfl, hk, rfl, ht, HT, rfl⟩ := hrel
    by_cases hlt : k < n
    · have hex : ∃ a, L[k]? = some a := ⟨_, List.getElem?_eq_getElem (by omega)⟩
      obtain ⟨a, ha⟩ := hex
      obtain ⟨b, o, rfl, hbB, c0⟩ := HA.out.str ha
      have HS := hide (sumS_take_succ ha)
      have hs := HZ.out a (List.mem_of_getElem? ha)
      unfold maxLen at hs
      have HW := hide (sumS_take_le L (k + 1))
      have hwt : Hid (wS a = 1 + min a.size 9000) := rfl
      have hbig : 8000 < t + (1 + min a.size 9000) → bigS L = true := fun h => by
        unfold bigS
        have := HW.out
        rw [HS.out, ← HT.out, hwt.out] at this
        simp; omega
      have HB := hide hbig
      clear hl ha hbig
      by_cases h5 : 9000 < a.size
      · have h5' : (9000 : Int) < (a.size : Int) := by omega
        go_wp2
        go_ret
        exact ⟨congrArg (fun v => Ending.returned (.bool v)) (HB.out (by omega)).symm, rfl⟩
      · have h5' : (a.size : Int) ≤ 9000 := by omega
        have h5'' : ¬ (9000 : Int) < (a.size : Int) := by omega
        by_cases h6 : 8000 < t + (1 + a.size)
        · have h6' : (8000 : Int) < (t : Int) + (1 + (a.size : Int)) := by omega
          go_wp2
          go_ret
          exact ⟨congrArg (fun v => Ending.returned (.bool v)) (HB.out (by omega)).symm, rfl⟩
        · have h6' : ¬ (8000 : Int) < (t : Int) + (1 + (a.size : Int)) := by omega
          have HT2 : Hid (t + (1 + a.size) = sumS (L.take (k + 1))) := by
            show _ = _
            rw [HS.out, ← HT.out, hwt.out]
            omega
          go_wp2
          go_roundw
          case rel => exact ⟨k + 1, t + (1 + a.size), by go_num, by omega, by go_num, by omega, HT2, trivial⟩
          case measure => simp [intOf]; omega
    · obtain rfl : k = n := by omega
      have hno : bigS L = false := by
        unfold bigS
        have := HT.out
        rw [List.take_of_length_le (by omega)] at this
        simp; omega
      have HN := hide hno
      clear hno hl
      go_wp2
      go_ret
      exact ⟨congrArg (fun v => Ending.returned (.bool v)) HN.out.symm, rfl⟩
end Go.Proofs.Ytbkgooeghmaokaa
