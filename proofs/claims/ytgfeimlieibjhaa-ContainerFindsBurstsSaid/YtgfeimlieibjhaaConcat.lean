/- slices.Grow of nil, and slices.Concat of strings of bytes. -/
import Derived.Test.YtgfeimlieibjhaaOwn
import Derived.Test.YtgfeimlieibjhaaAppend
import Derived.Lib.AppendZeros
import Derived.Lib.AppendZerosOnto
set_option linter.unusedVariables false
namespace Go.Proofs.Ytgfeimlieibjhaa
open Go.RowKit

set_option maxHeartbeats 2000000 in
set_option maxRecDepth 100000 in
theorem GrowNil_any (n : Nat) (w : World) (hn : n ≤ 1099511627776) :
    Calls Try.prog 43 #[.slice none 0 0, .int .i64 (n : Int)] w fun e w' => ∃ v, e = .returned v ∧ w'.ownsRow w.heap.size 5 1 v 0 [] ∧ Below w.heap.size w w' := by
  obtain ⟨i0, hi, hz0, hz1, hz2⟩ := info_parts infoU8
  rcases Nat.eq_zero_or_pos n with h0 | h0
  · subst h0
    go_enter Try.func43, Try.ntmps43
    go_wp2
    go_ret
    exact ⟨_, rfl, World.ownsRow_nil _ _ _ _, Below.refl _ _⟩
  · have h1 : ¬ ((n : Int) < 0) := by omega
    have h2 : (0 : Int) < n := by omega
    have hold : (Builtin.firstCells i0.size 0 (.slice none 0 0)).run Try.prog w.drew = .ok #[] w.drew := run_firstCells_none w.drew i0.size 0 0 0
    have hG := grownCap_le_maxLen w n 0 5 (by unfold maxLen; omega)
    have hGn := grownCap_ge w n 0 5
    have hrz : ∀ ty, (Builtin.append_ #[29, 3] ty #[.slice none 0 0, .int .i64 (n : Int)]).run Try.prog w = _ := fun ty => by
      have h := Lib.run_append_grow_zeros w 29 3 ty 5 i0 (.int .u8 0) .i64 .i64 Try.underlying29 Try.underlying3 hi hz0 none 0 0 [] hold n h0 (by omega) (by omega) (by omega) (by rw [hz2]; omega)
        (growslice_fits (by omega) (by rw [hz2]; omega))
      simp only [Nat.zero_add] at h
      exact h
    have hsz : (([] : List Value).toArray ++ Builtin.zeroCells (Value.int .u8 0).cells n ++ Builtin.zeroCells (Value.int .u8 0).cells (grownCap w n 0 5 - n)).size = grownCap w n 0 5 := by
      simp [size_zeroCells, Value.cells]
      omega
    clear hold
    generalize hg : grownCap w n 0 5 = G at *
    generalize hcs : (([] : List Value).toArray ++ Builtin.zeroCells (Value.int .u8 0).cells n ++ Builtin.zeroCells (Value.int .u8 0).cells (G - n)) = cs at *
    clear hcs hg
    have hG2 : G ≤ 9223372036854775807 := by unfold maxLen at hG; omega
    go_enter Try.func43, Try.ntmps43
    go_wp2_with (at_builtin; refine Lib.wpList_append_run _ rfl _ _ _ _ rfl _ _ rfl rfl _ _ (hrz _) ?_)
    go_ret
    refine ⟨_, rfl, ⟨rfl, .inr ⟨w.heap.size, G, cs, rfl, Nat.le_refl _, ?_, Nat.zero_le _, hG, by omega, by simp⟩⟩, ((Below.refl _ _).drew).alloc (Nat.le_refl _) _⟩
    exact heap_alloc_new w.drew _

set_option maxHeartbeats 2000000 in
set_option maxRecDepth 100000 in
theorem Concat_any (g m : Nat) (vs : List Value) (xss : List (List Int)) (w : World) (hm : vs.length = m) (hm2 : m ≤ 1000000) (hcell : ∀ j u, vs[j]? = some u → w.cell? ⟨g, j, none⟩ = some u) (hg : g < w.heap.size)
    (hp : Parts w w.heap.size vs xss) (hT : xss.flatten.length ≤ 1099511627776) :
    Calls Try.prog 37 #[.slice (some ⟨g, 0, none⟩) m m] w fun e w' => ∃ v, e = .returned v ∧ OwnB w w' v xss.flatten ∧ Below w.heap.size w w' := by
  obtain ⟨i0, hi, hz0, hz1, hz2⟩ := info_parts infoU8
  have HC := hide hcell
  clear hcell
  go_enter Try.func37, Try.ntmps37
  go_wp2
  go_loop [3, 11] (fun z i => ∃ k L : Nat, i = .int .i64 (k : Int) ∧ k ≤ m ∧ z = .int .i64 (L : Int) ∧ L ≤ 1099511627776 ∧ Hid (L = (xss.take k).flatten.length)) (fun _ i => m - (intOf i).toNat)
  case atStart => exact ⟨0, 0, rfl, Nat.zero_le _, rfl, by omega, rfl⟩
  case round =>
    obtain ⟨k, L, rfl, hk, rfl, hLT, HL⟩ := hrel
    by_cases hlt : k < m
    · obtain ⟨v, xs, hv, hxs, A, c, rfl, hr⟩ := hp.at_ k (by omega)
      have hc := HC.out k _ hv
      have HL2 : Hid (L + xs.length = (xss.take (k + 1)).flatten.length) := by
        show _ = _
        rw [flatten_up hxs, List.length_append, HL.out]
      have hb2 : L + xs.length ≤ 1099511627776 := by rw [HL2.out]; exact Nat.le_trans (flatten_le _ _) hT
      clear hv hxs hr
      go_wp2
      go_round
      case rel => exact ⟨k + 1, L + xs.length, by go_num, by omega, by go_num, hb2, HL2⟩
      case measure => simp [intOf]; omega
    · obtain rfl : k = m := by omega
      go_wp2_with (go_at_call 43; refine (GrowNil_any L _ hLT).mono ?_; rintro e w1 ⟨v0, rfl, hown0, hb0⟩)
      go_loopw [6, 27] (fun v i wr => ∃ j : Nat, i = .int .i64 (j : Int) ∧ j ≤ k ∧ wr.ownsRow w.heap.size 5 1 v (xss.take j).flatten.length (u8s (xss.take j).flatten) ∧ Below w.heap.size w wr) (fun _ i _ => k - (intOf i).toNat)
      case atStart => exact ⟨0, rfl, Nat.zero_le _, hown0, hb0⟩
      case round =>
        obtain ⟨j, rfl, hj, hown, hb⟩ := hrel
        by_cases hlt2 : j < k
        · obtain ⟨v, xs, hv, hxs, A, c, rfl, hr⟩ := hp.at_ j (by omega)
          have hc : wr.cell? ⟨g, j, none⟩ = some (.slice A xs.length c) := (hb.cell (p := ⟨g, j, none⟩) hg).trans (HC.out j _ hv)
          have hr2 := hr.below hb
          have hfl := flatten_le xss (j + 1)
          have hup := flatten_up hxs
          have hlen : (xss.take j).flatten.length + xs.length ≤ 1099511627776 := by
            rw [hup, List.length_append] at hfl; omega
          have HU := hide hup
          clear hup hv hxs hr hfl
          go_wp2_with (at_builtin; refine wpList_append_rd _ rfl _ _ 29 rfl w.heap.size 5 i0 (.int .u8 0) 1 Try.underlying29 hi hz0 hz1 hz2 rfl _ _ _ rfl hown w.heap.size A xs.length c (u8s xs) rfl hr2 (ints_oneCell _ _) (by unfold maxLen; omega) (by omega) hb.size ?_; intro v2 w2 hown2 hg2 hat2)
          go_roundw
          case rel => exact ⟨j + 1, by go_num, by omega, by rw [HU.out]; simpa using hown2, below_app hb hown hb.size hg2⟩
          case measure => simp [intOf]; omega
        · obtain rfl : j = k := by omega
          go_wp2
          go_ret
          have hall : xss.take j = xss := List.take_of_length_le (by have := hp.len; omega)
          rw [hall] at hown
          exact ⟨_, rfl, ownB_of hown, hb⟩

/-- of three slices, written out in the call -/
theorem Concat3 (g : Nat) (w : World) (hg : g = w.heap.size) {B : Nat} (hB : B ≤ w.heap.size) (A1 A2 A3 : Option Addr) (n1 n2 n3 c1 c2 c3 : Nat) (xs1 xs2 xs3 : List Int)
    (h1 : Rd w B A1 n1 (u8s xs1)) (h2 : Rd w B A2 n2 (u8s xs2)) (h3 : Rd w B A3 n3 (u8s xs3)) (hT : n1 + n2 + n3 ≤ 1099511627776) :
    Calls Try.prog 37 #[.slice (some ⟨g, 0, none⟩) 3 3] (w.alloc (.cells #[.slice A1 n1 c1, .slice A2 n2 c2, .slice A3 n3 c3] 29)) fun e w' =>
      ∃ A n c, e = .returned (.slice A n c) ∧ n ≤ c ∧ c ≤ maxLen ∧ Rd w' w'.heap.size A n (u8s (xs1 ++ xs2 ++ xs3)) ∧ Below w.heap.size w w' := by
  subst hg
  have l1 : xs1.length = n1 := by simpa using h1.1
  have l2 : xs2.length = n2 := by simpa using h2.1
  have l3 : xs3.length = n3 := by simpa using h3.1
  subst l1 l2 l3
  generalize hW : w.alloc (.cells #[.slice A1 xs1.length c1, .slice A2 xs2.length c2, .slice A3 xs3.length c3] 29) = W
  have hsz : W.heap.size = w.heap.size + 1 := by rw [← hW]; simp
  have hb : Below w.heap.size w W := by rw [← hW]; exact (Below.refl _ _).alloc (Nat.le_refl _) _
  have hbW := hb.mono hB
  have hc : ∀ j u, [Value.slice A1 xs1.length c1, Value.slice A2 xs2.length c2, Value.slice A3 xs3.length c3][j]? = some u → W.cell? ⟨w.heap.size, j, none⟩ = some u := fun j u hu => by
    rw [← hW, cell_of_row _ w.heap.size j _ 29 (0, 0) (heap_alloc_new w _)]
    simpa using hu
  refine (Concat_any w.heap.size 3 _ [xs1, xs2, xs3] W rfl (by decide) hc (by omega)
    ⟨⟨A1, c1, rfl, (h1.below hbW).more (by omega)⟩, ⟨A2, c2, rfl, (h2.below hbW).more (by omega)⟩, ⟨A3, c3, rfl, (h3.below hbW).more (by omega)⟩, trivial⟩ (by simp; omega)).mono ?_
  rintro e w' ⟨v, rfl, ⟨A, c, rfl, k1, k2, k3, _⟩, hb2⟩
  have he : [xs1, xs2, xs3].flatten = xs1 ++ xs2 ++ xs3 := by simp
  rw [he] at k1 k3 ⊢
  exact ⟨A, _, c, rfl, k1, k2, k3, hb.trans (hb2.mono (by omega))⟩
end Go.Proofs.Ytgfeimlieibjhaa
