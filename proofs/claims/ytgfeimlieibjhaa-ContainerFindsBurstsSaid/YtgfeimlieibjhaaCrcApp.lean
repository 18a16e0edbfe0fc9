/- What crc.Append returns, and the same of the reference. -/
import Derived.Test.YtgfeimlieibjhaaCrcUpd
import Derived.Test.YtgfeimlieibjhaaCrcSto
import Derived.Test.YtgfeimlieibjhaaConcat
set_option linter.unusedVariables false
namespace Go.Proofs.Ytgfeimlieibjhaa
open Go.RowKit

/-- of two slices, written out in the call -/
theorem Concat2 (g : Nat) (w : World) (hg : g = w.heap.size) {B : Nat} (hB : B ≤ w.heap.size) (A1 A2 : Option Addr) (n1 n2 c1 c2 : Nat) (xs1 xs2 : List Int)
    (h1 : Rd w B A1 n1 (u8s xs1)) (h2 : Rd w B A2 n2 (u8s xs2)) (hT : n1 + n2 ≤ 1099511627776) :
    Calls Try.prog 37 #[.slice (some ⟨g, 0, none⟩) 2 2] (w.alloc (.cells #[.slice A1 n1 c1, .slice A2 n2 c2] 29)) fun e w' =>
      ∃ v, e = .returned v ∧ OwnB w w' v (xs1 ++ xs2) ∧ Below w.heap.size w w' := by
  subst hg
  have l1 : xs1.length = n1 := by simpa using h1.1
  have l2 : xs2.length = n2 := by simpa using h2.1
  subst l1 l2
  generalize hW : w.alloc (.cells #[.slice A1 xs1.length c1, .slice A2 xs2.length c2] 29) = W
  have hsz : W.heap.size = w.heap.size + 1 := by rw [← hW]; simp
  have hb : Below w.heap.size w W := by rw [← hW]; exact (Below.refl _ _).alloc (Nat.le_refl _) _
  have hbW := hb.mono hB
  have hc : ∀ j u, [Value.slice A1 xs1.length c1, Value.slice A2 xs2.length c2][j]? = some u → W.cell? ⟨w.heap.size, j, none⟩ = some u := fun j u hu => by
    rw [← hW, cell_of_row _ w.heap.size j _ 29 (0, 0) (heap_alloc_new w _)]
    simpa using hu
  refine (Concat_any w.heap.size 2 _ [xs1, xs2] W rfl (by decide) hc (by omega)
    ⟨⟨A1, c1, rfl, (h1.below hbW).more (by omega)⟩, ⟨A2, c2, rfl, (h2.below hbW).more (by omega)⟩, trivial⟩ (by simp; omega)).mono ?_
  rintro e w' ⟨v, rfl, ⟨A, c, rfl, k1, k2, k3, k4⟩, hb2⟩
  have he : [xs1, xs2].flatten = xs1 ++ xs2 := by simp
  rw [he] at k1 k3 k4 ⊢
  exact ⟨_, rfl, ⟨A, c, rfl, k1, k2, k3, ownsRow_base k4 (by omega)⟩, hb.trans (hb2.mono (by omega))⟩

set_option maxRecDepth 100000 in
set_option maxHeartbeats 2000000 in
theorem Append_any (A : Option Addr) (n c : Nat) (xs : List Int) (w : World) (B : Nat) (hr : Rd w B A n (u8s xs)) (hB : B ≤ w.heap.size) (hx : Byt xs) (hn : n ≤ 1000000) :
    Calls Try.prog 22 #[.slice A n c] w fun e w' => ∃ v, e = .returned v ∧ OwnB w w' v (xs ++ sto (sum xs)) ∧ Below w.heap.size w w' := by
  have hs := sum_lt hx
  go_enter Try.func22, Try.ntmps22
  go_wp2_with (first
    | (go_at_call 36; refine (Sum_any A n c xs _ B hr hB hx (by omega)).mono ?_; rintro e w1 ⟨rfl, hb1⟩)
    | (go_at_call 35; refine (stored_any (sum xs) _ hs).mono ?_; rintro e w2 ⟨rfl, hb2⟩)
    | (refine wpList_store_new rfl 75 _ _ rfl 75 #[.int .u8 0, .int .u8 0, .int .u8 0, .int .u8 0] (u8s (sto (sum xs))).toArray rfl rfl (sizeStoB _) rfl (stoB_one _) ?_))
  have hr2 := (hr.below (hb1.mono hB)).below (hb2.mono (by have := hb1.size; omega))
  have hB2 : B ≤ w2.heap.size := by have := hb1.size; have := hb2.size; omega
  have hl := Rd_lit w2 (sto (sum xs)) 75
  have hr3 := (hr2.alloc hB2 (.cells (u8s (sto (sum xs))).toArray 75)).more (B' := w2.heap.size + 1) (by omega)
  refine (Concat2 _ _ (by simp) (B := w2.heap.size + 1) (by simp) A _ n 4 c 4 xs (sto (sum xs)) hr3 hl (by omega)).mono ?_
  rintro e w3 ⟨v, rfl, hown, hb3⟩
  go_wp2_with fail
  go_ret
  refine ⟨_, rfl, ?_, ?_⟩
  · obtain ⟨A', c', rfl, k1, k2, k3, k4⟩ := hown
    exact ⟨A', c', rfl, k1, k2, k3, ownsRow_base k4 (by have := hb1.size; have := hb2.size; simp; omega)⟩
  · have h12 := hb1.trans (hb2.mono hb1.size)
    exact (h12.alloc h12.size _).trans (hb3.mono (by have := h12.size; simp; omega))

/-- an empty slice written out -/
theorem own_empty (w : World) : (w.alloc (.cells #[] 5)).ownsRow w.heap.size 5 1 (.slice (some ⟨w.heap.size, 0, none⟩) 0 0) 0 [] :=
  World.ownsRow_lit w #[] 0 (Nat.le_refl _) (by unfold maxLen; omega) rfl

/-! ### the reference -/
theorem stoCode (s : Nat) (hs : s < 4294967296) : u8s (sto s) = [.int .u8 ((s : Int) % 256), .int .u8 ((s : Int) / 256 % 256), .int .u8 ((s : Int) / 65536 % 256), .int .u8 ((s : Int) / 16777216)] := by
  have e : ((s / 16777216 % 256 : Nat) : Int) = (s : Int) / 16777216 := by omega
  simp only [u8s, sto, List.map_cons, List.map_nil]
  rw [e]
  rfl

set_option maxRecDepth 100000 in
set_option maxHeartbeats 2000000 in
theorem RefAppend_any (A : Option Addr) (n c : Nat) (xs : List Int) (w : World) (B : Nat) (hr : Rd w B A n (u8s xs)) (hB : B ≤ w.heap.size) (hx : Byt xs) (hn : n ≤ 1000000) :
    Calls Try.prog 24 #[.slice A n c] w fun e w' => ∃ v, e = .returned v ∧ OwnB w w' v (xs ++ sto (sum xs)) ∧ Below w.heap.size w w' := by
  obtain ⟨i0, hi, hz0, hz1, hz2⟩ := info_parts infoU8
  have hs := sum_lt hx
  have hlit := hide fun w2 : World => by have h := Rd_lit w2 (sto (sum xs)) 5; rw [stoCode _ hs] at h; exact h
  have hone := hide (by have h := ints_oneCell .u8 (sto (sum xs)); rw [show (sto (sum xs)).map (Value.int .u8) = u8s (sto (sum xs)) from rfl, stoCode _ hs] at h; exact h)
  go_enter Try.func24, Try.ntmps24
  go_wp2_with (first
    | (go_at_call 38; refine (RefSum_any A n c xs _ B hr hx (by omega)).mono ?_; rintro e w1 ⟨rfl, rfl⟩)
    | (at_builtin; refine wpList_append_rd _ rfl (.tmp 6) (.tmp 7) 29 rfl w.heap.size 5 i0 (.int .u8 0) 1 Try.underlying29 hi hz0 hz1 hz2 rfl _ 0 [] rfl (own_empty w) B A n c (u8s xs) rfl (hr.alloc hB _) (ints_oneCell _ _) (by unfold maxLen; omega) (by omega) (by simp) ?_; intro v2 w2 hown2 hg2 hat2; have hb2 := below_app ((Below.refl w.heap.size w).alloc (Nat.le_refl _) _) (own_empty w) (by simp) hg2; clear hg2 hat2)
    | (at_builtin; refine wpList_append_rd _ rfl (.tmp 8) (.tmp 23) 29 rfl w.heap.size 5 i0 (.int .u8 0) 1 Try.underlying29 hi hz0 hz1 hz2 rfl _ _ _ rfl (hown2.alloc _) (w2.heap.size + 1) _ 4 4 _ rfl (hlit.out w2) hone.out (by unfold maxLen; omega) (by omega) (by have := hb2.size; simp; omega) ?_; intro v3 w3 hown3 hg3 hat3; have hb3 := below_app (hb2.alloc hb2.size _) (hown2.alloc _) (by have := hb2.size; simp; omega) hg3; clear hg3 hat3))
  go_ret
  refine ⟨_, rfl, ownB_of ?_, hb3⟩
  have hl : xs.length = n := by simpa using hr.1
  rw [← stoCode _ hs] at hown3
  have e : (xs ++ sto (sum xs)).length = 0 + n + 4 := by rw [List.length_append, sto_len]; omega
  rw [e]
  simpa using hown3
end Go.Proofs.Ytgfeimlieibjhaa
