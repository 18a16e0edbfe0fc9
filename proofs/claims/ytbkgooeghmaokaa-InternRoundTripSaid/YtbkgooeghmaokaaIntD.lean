/- Decode of what Encode wrote. -/
import Derived.Test.YtbkgooeghmaokaaIntR
set_option linter.unusedVariables false
namespace Go.Proofs.Ytbkgooeghmaokaa
open Go.RowKit

theorem follows_yes {s b : ByteArray} (h : ltS b s = true) (hi : identB s = true) (w : World) (hs : s.size ≤ maxLen) :
    Calls Try.prog 39 #[.string s, .string b] w fun e w' => e = .returned (.bool true) ∧ w = w' := by
  have E1 : Op.bytesLess b.toList s.toList = true := (ltS_def b s).trans h
  have HI := hide hi
  clear h hi
  go_enter Try.func39, Try.ntmps39
  go_wp2_with fail
  refine (IsIdent_is HI.out _ hs).mono ?_
  rintro e w1 ⟨rfl, rfl⟩
  go_wp2_with fail
  go_ret
  exact ⟨rfl, rfl⟩
theorem ltS_empty {s : ByteArray} (h : 1 ≤ s.size) : ltS .empty s = true := by
  unfold ltS
  have e : key ByteArray.empty = [] := rfl
  rw [e]
  cases hk : key s with
  | nil =>
    have : s.size = (key s).length := by unfold key; rw [Array.length_toList]; rfl
    rw [hk, List.length_nil] at this
    omega
  | cons a l => rfl
theorem Count_enc {w : World} {g m : Nat} {r : List Int} (h : CR w g (vput m ++ r) 0) (hm : m ≤ 1099511627776) (hr : m ≤ r.length) :
    Calls Try.prog 37 #[.pointer (some ⟨g, 0, none⟩), .int .i64 4611686018427387904] w fun x w' => x = .returned (.int .i64 (m : Int)) ∧ CR w' g r 0 ∧ w.grownBy w' (some g) := by
  refine (Count_any h 4611686018427387904 (by omega) (by omega)).mono ?_
  rintro x w' ⟨v, rfl, hv, hc, hg⟩
  have hv' : v = .int .i64 _ := hv
  subst hv'
  rw [back_count hm hr] at hc ⊢
  exact ⟨rfl, hc, hg⟩
theorem String_enc {w : World} {g : Nat} {s : ByteArray} {r : List Int} (h : CR w g (encStr s ++ r) 0) (hs : s.size ≤ 255) :
    Calls Try.prog 38 #[.pointer (some ⟨g, 0, none⟩), .int .i64 255] w fun x w' => x = .returned (.string s) ∧ CR w' g r 0 ∧ w.grownBy w' (some g) := by
  refine (String_any h 255 (by omega) (by omega)).mono ?_
  rintro x w' ⟨v, rfl, hv, hc, hg⟩
  have hv' : v = .string (strOfNums _) := hv
  subst hv'
  rw [back_name hs] at hc ⊢
  exact ⟨by rw [strOfNums_sB], hc, hg⟩

set_option maxHeartbeats 4000000 in
set_option maxRecDepth 100000 in
theorem Decode_enc (A : Option Addr) (n c : Nat) (L : List ByteArray) (w : World) (hA : Rd w w.heap.size A n (u8s (encT L))) (hL : Asc L) (hi : Idents L) (hm : L.length ≤ 8000) :
    Calls Try.prog 21 #[.slice A n c] w fun x w' => ∃ h, x = .returned (.tuple #[.pointer (some ⟨h, 0, none⟩), .int .i64 0]) ∧ Tab w' h L ∧ Below w.heap.size w w' := by
  obtain ⟨i0, hi0, hz0, hz1, hz2⟩ := info_parts infoS
  have hlen := hA.1
  have hel := encS_len (L := L) fun s hs => (identB_size (hi s hs)).2
  have hlo := encS_lo L
  have hv := vput_le10 (a := L.length) (by omega)
  have hn : n ≤ 1099511627776 := by
    rw [← hlen, List.length_map, encT, List.length_append]
    omega
  have HA := hide hA
  have HL := hide hL
  have HI := hide hi
  have HLo := hide hlo
  have hex : ∃ m, m = L.length := ⟨_, rfl⟩
  obtain ⟨m, hm'⟩ := hex
  have HM := hide hm'
  rw [← hm'] at hm
  have HR := hide (NewReader_any A n c (encT L) w hA (Nat.le_refl _) (encT_byt L) hn)
  clear hA hL hi hlen hel hlo hv hm'
  go_enter Try.func21, Try.ntmps21
  go_wp2_with fail
  refine HR.out.mono ?_
  rintro e w1 ⟨g, rfl, hgw, hc, hb⟩
  have hc' : CR w1 g (vput m ++ encS L) 0 := by rw [HM.out]; exact hc
  have HC1 := hide hc'
  have HB1 := hide hb
  clear hc hc' hb
  have hgw' := hide hgw
  clear hgw
  go_wp2_with fail
  refine (Count_enc HC1.out (by omega) (by rw [HM.out]; exact HLo.out)).mono ?_
  rintro e w2 ⟨rfl, hc, hg⟩
  have HC2 := hide hc
  have HB2 := hide (below_only HB1.out HB1.out.size hgw'.out hg)
  have hg2 := hide hc.lt
  clear hc hg
  go_wp2_with fail
  go_loopw [5, 6, 13] (fun v b i wr => ∃ (k : Nat) (s0 : ByteArray), i = .int .i64 (k : Int) ∧ k ≤ m ∧ b = .string s0 ∧ Hid (∀ s, L[k]? = some s → ltS s0 s = true) ∧ wr.ownsRow w2.heap.size 9 1 v k (sV (L.take k)) ∧ CR wr g (encS (L.drop k)) 0 ∧ Below w.heap.size w wr ∧ w2.heap.size ≤ wr.heap.size) (fun _ _ i _ => m - (intOf i).toNat)
  case atStart => exact ⟨0, .empty, rfl, Nat.zero_le _, rfl, fun s hs => ltS_empty (identB_size (HI.out s (List.mem_of_getElem? hs))).1, World.ownsRow_nil _ _ _ _, HC2.out, HB2.out, Nat.le_refl _⟩
  case round =>
    obtain ⟨k, s0, rfl, hk, rfl, HO, hown, hcr, hb, hs2⟩ := hrel
    have HOwn := hide hown
    have HCr := hide hcr
    have HB := hide hb
    have HS2 := hide hs2
    clear hown hcr hb hs2
    by_cases hlt : k < m
    · have hex : ∃ s, L[k]? = some s := ⟨_, List.getElem?_eq_getElem (by rw [← HM.out]; exact hlt)⟩
      obtain ⟨s, hs⟩ := hex
      have hlt' : (k : Int) < (m : Int) := by omega
      have hid := HI.out s (List.mem_of_getElem? hs)
      have HId := hide hid
      have HSz := hide (identB_size hid)
      have HLt := hide (HO.out s hs)
      have HU := hide (sV_up hs)
      have hcr := HCr.out
      rw [encS_drop hs] at hcr
      have HCr2 := hide hcr
      have HN := hide (show ∀ t, L[k + 1]? = some t → ltS s t = true from fun t ht => asc_at HL.out hs ht (Nat.lt_succ_self k))
      clear hs hid hcr
      go_wp2_with fail
      refine (String_enc HCr2.out HSz.out.2).mono ?_
      rintro e w3 ⟨rfl, hc3, hg3⟩
      have HC3 := hide hc3
      have HB3 := hide (below_only HB.out HB.out.size hgw'.out hg3)
      have ho3 : w3.ownsRow w2.heap.size 9 1 u5 k (sV (L.take k)) := HOwn.out.kept hg3 (by
        rcases hob : u5.ownBlock with _ | q
        · exact .inl rfl
        · refine .inr fun e => ?_
          injection e with e
          have := (HOwn.out.lt q hob).1
          have := hg2.out
          omega)
      have HO3 := hide ho3
      have HS3 := hide (Nat.le_trans HS2.out hg3.size)
      clear hc3 hg3 ho3
      go_wp2_with fail
      refine (follows_yes HLt.out HId.out _ (by unfold maxLen; have := HSz.out.2; omega)).mono ?_
      rintro e w4 ⟨rfl, rfl⟩
      have hb4 := hide (HB3.out.alloc HB3.out.size (.cells #[.string s] 9))
      have ho4 := hide (HO3.out.alloc (.cells #[.string s] 9))
      have hbb := hide ((Below.refl w2.heap.size w3).alloc HS3.out (.cells #[.string s] 9))
      have hs4 := hide (show w2.heap.size ≤ (w3.alloc (.cells #[.string s] 9)).heap.size by have := HS3.out; simp; omega)
      go_wp2_with (at_builtin; refine wpList_append_own_at _ rfl (.tmp 23) (.tmp 25) 24 rfl w2.heap.size 9 i0 (.string .empty) 1 16 Try.underlying24 hi0 hz0 hz1 hz2 rfl (by decide) u5 k _ rfl ho4.out ⟨w3.heap.size, 0, none⟩ 1 1 [.string s] rfl rfl (strLit w3 [.string s] 9) (sV_one [s]) (by unfold maxLen; omega) (by omega) hs4.out ?_; intro v5 w5 hown5 hg5 _ hat5; have ho5 := hide hown5; have hb5 := hide (hb4.out.grown hg5 hb4.out.size (fun q hq => Nat.le_trans (Nat.le_trans HB2.out.size (Nat.le_refl _)) (ho4.out.lt q hq).1)); have hc5 := hide (HC3.out.below (hbb.out.grown hg5 hs4.out (fun q hq => (ho4.out.lt q hq).1)) hg2.out); have hs5 := hide (Nat.le_trans hs4.out hg5.size); clear hown5 hg5 hat5)
      go_roundw
      case rel => exact ⟨k + 1, s, by go_num, by omega, rfl, HN.out, by rw [HU.out]; exact ho5.out, hc5.out, hb5.out, hs5.out⟩
      case measure => simp [intOf]; omega
    · obtain rfl : k = m := by omega
      have hcr := HCr.out
      rw [List.drop_of_length_le (by rw [← HM.out]; exact Nat.le_refl _)] at hcr
      have ho := HOwn.out
      rw [List.take_of_length_le (by rw [← HM.out]; exact Nat.le_refl _)] at ho
      have HC3 := hide (show CR wr g [] 0 from hcr)
      obtain ⟨A5, c5, rfl, g1, g2⟩ := ownsRow_slice ho
      have HO := hide ho
      have HG := hide (And.intro g1 g2)
      clear ho hcr g1 g2
      go_wp2_with fail
      refine (End_any HC3.out).mono ?_
      rintro e w3 ⟨rfl, q, rfl⟩
      have e0 : aEnd [] 0 = 0 := rfl
      have HB3 := hide (below_drewN HB.out q)
      have HR3 := hide ((Rd.of_own HO.out).keep (w' := wr.drewN q) fun p _ => by rw [World.cell?_drewN])
      have hsz : (wr.drewN q).heap.size = wr.heap.size := rfl
      rw [← hsz] at HR3
      rw [e0]
      clear hsz
      have hex : ∃ w4, w4 = wr.drewN q := ⟨_, rfl⟩
      obtain ⟨w4, hw4⟩ := hex
      rw [← hw4] at HR3 HB3 ⊢
      clear hw4
      go_wp2_with fail
      go_ret2
      exact ⟨_, rfl, ⟨A5, k, c5, by simp [go_sem], by simp, HG.out.1, HG.out.2, HR3.out.alloc (Nat.le_refl _) _⟩, HB3.out.alloc HB3.out.size _⟩
end Go.Proofs.Ytbkgooeghmaokaa
