/- The code's Names and Bytes. -/
import Derived.Test.YtbdimnncobpfdaaGreatBodL
import Derived.Test.YtbdimnncobpfdaaGreatBodT
import Derived.Test.YtbdimnncobpfdaaGreatStrN
set_option linter.unusedVariables false
namespace Go.Proofs.YtbdimnncobpfdaaGreat
open Go.RowKit Go.Shelf

theorem sV_flat (L : List ByteArray) : L.flatMap cStr = sV L := by
  induction L with
  | nil => rfl
  | cons a L ih => rw [List.flatMap_cons, ih]; rfl
theorem own_sl9 {w : World} {lo : Nat} {A : Option Addr} {c : Nat} {L : List ByteArray} (h : w.ownsRow lo 9 1 (.slice A L.length c) L.length (sV L)) (hs : ∀ s ∈ L, s.size ≤ maxLen) : SlH w w.heap.size 1 cStr (fun x => x.size ≤ maxLen) ⟨A, L.length, c, L⟩ := by
  have hc : L.length ≤ c ∧ c ≤ maxLen := by
    rcases h.2 with ⟨h2, h3⟩ | ⟨g, cap, cur, hv, _, _, h3, h4, _⟩
    · injection h2 with _ _ h2
      subst h2
      rw [h3]
      exact ⟨Nat.le_refl _, Nat.zero_le _⟩
    · injection hv with _ _ hv
      subst hv
      exact ⟨h3, h4⟩
  exact ⟨hc.1, hc.2, Cells.of_own cStr_len (by decide) (show w.ownsRow lo 9 1 (.slice A L.length c) L.length (L.flatMap cStr) from sV_flat L ▸ h), hs⟩

set_option maxHeartbeats 1000000 in
set_option maxRecDepth 100000 in
theorem Names_any (x : BdW) (w : World) (hx : OneBd w w.heap.size x) (hN : (allS x.v).length ≤ 2 ^ 40) :
    Calls Tryz.prog 14 #[aggBd x] w (StrsOut w (namesS x.v)) := by
  have HB := hide (bd1_below w x)
  have HC := hide (Idents_any x (bd1 w x) (hx.up HB.out) hN)
  obtain ⟨L, hL⟩ : ∃ L, allS x.v = L := ⟨_, rfl⟩
  have HN := hide (show namesS x.v = tab L by rw [← hL]; rfl)
  have HC2 := hide (show Calls Tryz.prog 40 #[aggBd x] (bd1 w x) (StrsOut (bd1 w x) L) from hL ▸ HC.out)
  rw [hL] at hN
  have HLN := hide hN
  clear hx hL hN HC
  obtain ⟨nm, ⟨rA, rn, rc, rL⟩, ⟨oA, on, oc, oL⟩, ⟨tA, tn, tc, tL⟩, ⟨lA, ln, lc, lL⟩, ar, ⟨bA, bn, bc, bL⟩⟩ := x
  go_enter Tryz.func14, Tryz.ntmps14
  go_wp2_with fail
  refine HC2.out.mono ?_
  rintro e1 w1 ⟨v, rfl, hown, hb1⟩
  have HO1 := hide (show w1.ownsRow w.heap.size 9 1 v L.length ((L.map key).map Go.Proofs.encStr) from sV_keys L ▸ ownsRow_base hown (HB.out.size))
  have HB1 := hide (HB.out.trans (hb1.mono HB.out.size))
  clear hown hb1
  go_wp2_with fail
  refine (SortRow HO1.out (by have := HLN.out; omega)).mono ?_
  rintro e2 w2 ⟨rfl, hown, hb2⟩
  have HO2 := hide hown
  have HB2 := hide (HB1.out.trans (hb2 HB1.out.size))
  clear hown hb2
  go_wp2_with fail
  refine (CompactRow HO2.out (by have := HLN.out; omega)).mono ?_
  rintro e3 w3 ⟨A, m, c, rfl, _, _, hown, hb3⟩
  have HO3 := hide (show w3.ownsRow w.heap.size 9 1 (.slice A m c) m (sV (tab L)) by rw [sV_keys, ← tab_compact]; exact hown)
  have HB3 := hide (HB2.out.trans hb3)
  clear hown hb3
  go_wp2
  go_ret
  refine ⟨_, rfl, ?_, HB3.out⟩
  rw [HN.out]
  have := HO3.out
  have hl : (tab L).length = m := by simpa using this.1
  rw [hl]
  exact this

set_option maxRecDepth 100000 in
theorem LenS_any (s : ByteArray) (w : World) (h : s.size ≤ maxLen) :
    Calls Tryz.prog 46 #[.string s] w fun e w' => e = .returned (.int .i64 (s.size : Nat)) ∧ Below w.heap.size w w' := by
  go_enter Tryz.func46, Tryz.ntmps46
  go_wp2
  go_ret
  exact ⟨rfl, Below.refl _ _⟩

theorem allS_size (x : BdW) {w : World} {B : Nat} (hx : OneBd w B x) : ∀ s ∈ allS x.v, s.size ≤ maxLen := by
  intro s hs
  unfold allS BdW.v at hs
  simp only [List.mem_append, List.mem_cons, List.mem_flatMap, List.mem_map] at hs
  rcases hs with ((rfl | h) | ⟨l, ⟨y, hy, rfl⟩, h⟩) | ⟨b, ⟨y, hy, rfl⟩, h⟩
  · exact hx.name
  · exact hx.regions.all s h
  · unfold idnL LcW.v at h
    simp only [List.mem_cons, List.not_mem_nil, or_false] at h
    rw [h]
    exact (hx.locals.all y hy).2
  · unfold idnB BkW.v TmW.v at h
    simp only [] at h
    split at h
    · simp only [List.mem_cons, List.not_mem_nil, or_false] at h
      rw [h]
      exact (hx.blocks.all y hy).term.name
    · cases h

set_option maxHeartbeats 1000000 in
set_option maxRecDepth 100000 in
theorem Bytes_any (x : BdW) (w : World) (hx : OneBd w w.heap.size x) (hN : (allS x.v).length ≤ 2 ^ 40) (hB : bytesN x.v ≤ 2 ^ 62) :
    Calls Tryz.prog 16 #[aggBd x] w fun e w' => e = .returned (.int .i64 (bytesN x.v : Int)) ∧ Below w.heap.size w w' := by
  have HB := hide (bd1_below w x)
  have HC := hide (Idents_any x (bd1 w x) (hx.up HB.out) hN)
  have HS := hide (allS_size x hx)
  obtain ⟨L, hL⟩ : ∃ L, allS x.v = L := ⟨_, rfl⟩
  have HN := hide (show bytesN x.v = sumN ByteArray.size L by rw [← hL]; rfl)
  have HC2 := hide (show Calls Tryz.prog 40 #[aggBd x] (bd1 w x) (StrsOut (bd1 w x) L) from hL ▸ HC.out)
  have HS2 := hide (show ∀ s ∈ L, s.size ≤ maxLen from hL ▸ HS.out)
  rw [hL] at hN
  have HLN := hide hN
  have HBB := hide (show sumN ByteArray.size L ≤ 2 ^ 62 from HN.out ▸ hB)
  clear hx hL hN hB HC HS
  obtain ⟨nm, ⟨rA, rn, rc, rL⟩, ⟨oA, on, oc, oL⟩, ⟨tA, tn, tc, tL⟩, ⟨lA, ln, lc, lL⟩, ar, ⟨bA, bn, bc, bL⟩⟩ := x
  go_enter Tryz.func16, Tryz.ntmps16
  go_wp2_with fail
  refine HC2.out.mono ?_
  rintro e1 w1 ⟨v, rfl, hown, hb1⟩
  obtain ⟨A, c, rfl⟩ := own_slice hown
  have HO1 := hide (show SlH w1 w1.heap.size 1 cStr (fun x => x.size ≤ maxLen) ⟨A, L.length, c, L⟩ from own_sl9 hown HS2.out)
  have HB1 := hide (HB.out.trans (hb1.mono HB.out.size))
  obtain ⟨n, hn⟩ : ∃ n, L.length = n := ⟨_, rfl⟩
  rw [hn] at HO1 ⊢
  clear hown hb1 hn
  go_wp2_with fail
  refine (TotStr_any 46 ByteArray.size ⟨A, n, c, L⟩ _ HO1.out (enters_of Tryz.func46 (by kernel_rfl) rfl) HBB.out (fun s hs w9 _ => LenS_any s w9 (HS2.out s hs))).mono ?_
  rintro e2 w2 ⟨rfl, hb2⟩
  have HB2 := hide (HB1.out.trans (hb2.mono HB1.out.size))
  clear hb2
  go_wp2
  go_ret
  exact ⟨congrArg (fun z : Nat => Ending.returned (.int .i64 (z : Int))) HN.out.symm, HB2.out⟩
end Go.Proofs.YtbdimnncobpfdaaGreat
