/- Encode of a table. -/
import Derived.Test.YtbkgooeghmaokaaIntT
import Derived.Test.YtbkgooeghmaokaaWtr
import Derived.Test.YtbkgooeghmaokaaRdrM
set_option linter.unusedVariables false
namespace Go.Proofs.Ytbkgooeghmaokaa
open Go.RowKit

theorem Encode_nil (w : World) :
    Calls Try.prog 20 #[.pointer none] w fun e w' => e = .returned (.slice none 0 0) ∧ w = w' := by
  go_enter Try.func20, Try.ntmps20
  go_wp2
  go_ret
  exact ⟨rfl, rfl⟩

set_option maxHeartbeats 2000000 in
set_option maxRecDepth 100000 in
theorem Encode_any {w : World} {g : Nat} {L : List ByteArray} (h : Tab w g L) (hs : ∀ s ∈ L, s.size ≤ 255) (hn : L.length ≤ 8000) :
    Calls Try.prog 20 #[.pointer (some ⟨g, 0, none⟩)] w fun e w' => ∃ v, e = .returned v ∧ OwnB w w' v (encT L) ∧ Below w.heap.size w w' := by
  have HT := hide h
  have hT := hide h
  have HZ := hide hs
  have HLen := hide fun k => encS_take_len hs k
  have hv := vput_le10 (a := L.length) (by omega)
  obtain ⟨A, n, c, h⟩ := h
  have HA := hide h.rd
  have hl := h.len
  have hlt := h.lt
  have c0 := h.c0
  have hnc := h.nc
  have hcm := h.cm
  unfold maxLen at hcm
  clear h hs
  go_enter Try.func20, Try.ntmps20
  go_wp2_with fail
  refine (NewWriter_any w).mono ?_
  rintro e w1 ⟨q, rfl, hq, hw1, hb1⟩
  have hcm1 : w1.cell? ⟨g, 0, none⟩ = some (.slice A n c) := (hb1.cell (p := ⟨g, 0, none⟩) hlt).trans c0
  have HW1 := hide hw1
  have HB1 := hide hb1
  have hgq : g < q := by omega
  have hqw : w.heap.size ≤ q := by omega
  have hqw' := hide hqw
  clear hw1 hb1 hq hqw
  go_wp2_with fail
  refine (wUint_any HW1.out (n : Int) (by omega) (by omega) (by simp)).mono ?_
  rintro e w2 ⟨⟨v, rfl⟩, hw2, hb2⟩
  have hcm2 : w2.cell? ⟨g, 0, none⟩ = some (.slice A n c) := (hb2.cell (p := ⟨g, 0, none⟩) hgq).trans hcm1
  have HW2 := hide hw2
  have HB2 := hide hb2
  clear hw2 hb2
  skip
  go_wp2_with fail
  go_loopw [22] (fun i wr => ∃ k : Nat, i = .int .i64 (k : Int) ∧ k ≤ n ∧ CW wr q (vput n ++ encS (L.take k)) ∧ Below q w2 wr) (fun i _ => n - (intOf i).toNat)
  case atStart => exact ⟨0, rfl, Nat.zero_le _, by simpa [encS] using HW2.out, Below.refl _ _⟩
  case round =>
    obtain ⟨k, rfl, hk, hcw, hb⟩ := hrel
    by_cases hlt : k < n
    · have hex : ∃ a, L[k]? = some a := ⟨_, List.getElem?_eq_getElem (by omega)⟩
      obtain ⟨s, hs⟩ := hex
      have hA : Rd wr g A n (sV L) := ((HA.out.below (HB1.out.mono (by omega))).below (HB2.out.mono (by omega))).below (hb.mono (by omega))
      obtain ⟨b, o, rfl, hbB, cs⟩ := hA.str hs
      have hsm := HZ.out s (List.mem_of_getElem? hs)
      have HS := hide (encS_take_succ hs)
      have hle := HLen.out k
      have HCW := hide hcw
      have HB := hide hb
      clear hs hcw hb hA
      have hxs : (vput n ++ encS (L.take k)).length ≤ 1099511627776 := by rw [List.length_append, ← hl]; omega
      have HX := hide hxs
      clear hxs hle
      go_wp2_with fail
      refine (wStr_any HCW.out s (by omega) HX.out).mono ?_
      rintro x w3 ⟨⟨v, rfl⟩, h1, h2⟩
      have H1 := hide h1
      have H2 := hide h2
      clear h1 h2
      go_wp2_with fail
      go_roundw
      case rel => exact ⟨k + 1, by go_num, by omega, by rw [HS.out, ← List.append_assoc]; exact H1.out, HB.out.trans H2.out⟩
      case measure => simp [intOf]; omega
    · obtain rfl : k = n := by omega
      rw [List.take_of_length_le (by omega)] at hcw
      have HCW := hide hcw
      have HB := hide hb
      have hle := HLen.out k
      rw [List.take_of_length_le (by omega)] at hle
      have HX := hide (show (vput k ++ encS L).length ≤ 1099511627776 by rw [List.length_append, ← hl]; omega)
      clear hcw hb hle
      go_wp2_with fail
      refine (wBytes_any HCW.out HX.out).mono ?_
      rintro x w3 ⟨v, rfl, ho, _, hb3⟩
      have HO := hide ho
      have HB3 := hide hb3
      clear ho hb3
      go_wp2_with fail
      go_ret
      have hbw : Below w.heap.size w wr := HB1.out.trans ((HB2.out.trans HB.out).mono hqw'.out)
      have he : encT L = vput k ++ encS L := by unfold encT; rw [hl]
      exact ⟨v, rfl, he ▸ HO.out.base hbw.size, hbw.trans (HB3.out.mono hbw.size)⟩
end Go.Proofs.Ytbkgooeghmaokaa
