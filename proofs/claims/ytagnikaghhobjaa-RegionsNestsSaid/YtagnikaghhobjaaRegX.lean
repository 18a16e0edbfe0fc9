/- Closure: what the iterator yields, sorted and compacted. -/
import Derived.Test.YtagnikaghhobjaaRegW
set_option linter.unusedVariables false
namespace Go.Proofs.Ytagnikaghhobjaa
open Go.RowKit Go.Shelf

/-- what is known of an iterator that is passed on -/
def PassX (gf : Nat) (lb : Array Value) (S Sp : List Int → Prop) (N : Nat) (w : World) : Prop :=
  (∀ w', Below w.heap.size w w' → w.heap.size < w'.heap.size → ownX w.heap.size w' = none → SeqX 8 Try.prog gf lb w.heap.size w.heap.size S Sp N w') ∧ (∀ args w', (callFunc gf args).run Try.prog w' = .ok (.enter gf args) w') ∧ N ≤ 1000000000

set_option maxRecDepth 100000 in
theorem Collect_any (gf : Nat) (lb : Array Value) (S Sp : List Int → Prop) (N : Nat) (w : World) (h : PassX gf lb S Sp N w) :
    Calls Try.prog 45 #[.func (.func gf) #[] lb] w fun e w' => ∃ v ys, e = .returned v ∧ S ys ∧ ys.length ≤ N ∧ w'.ownsRow w.heap.size 3 1 v ys.length (i64s ys) ∧ Below w.heap.size w w' := by
  have HA := hide (AppendSeq_any gf lb S Sp N w h.1 h.2.1 h.2.2)
  clear h
  go_enter Try.func45, Try.ntmps45
  go_wp2_with fail
  refine HA.out.mono ?_
  rintro e w1 ⟨v, ys, rfl, h1, h2, h3, h4⟩
  go_wp2_with fail
  go_ret
  exact ⟨v, ys, rfl, h1, h2, h3, h4⟩
set_option maxRecDepth 100000 in
theorem Sorted_any (gf : Nat) (lb : Array Value) (S Sp : List Int → Prop) (N : Nat) (w : World) (h : PassX gf lb S Sp N w) :
    Calls Try.prog 34 #[.func (.func gf) #[] lb] w fun e w' => ∃ v ys, e = .returned v ∧ S ys ∧ ys.length ≤ N ∧ w'.ownsRow w.heap.size 3 1 v ys.length (i64s (ys.mergeSort fun x y => decide (x ≤ y))) ∧ Below w.heap.size w w' := by
  have hN := h.2.2
  have HA := hide (Collect_any gf lb S Sp N w h)
  clear h
  go_enter Try.func34, Try.ntmps34
  go_wp2_with fail
  refine HA.out.mono ?_
  rintro e w1 ⟨v, ys, rfl, h1, h2, h3, h4⟩
  have H1 := hide h1
  have H3 := hide h3
  have H4 := hide h4
  clear h1 h3 h4
  go_wp2_with fail
  refine (SortRowI H3.out (by omega)).mono ?_
  rintro e w2 ⟨rfl, h5, h6⟩
  have H5 := hide h5
  have H6 := hide (h6 H4.out.size)
  clear h5 h6
  go_wp2_with fail
  go_ret
  exact ⟨v, ys, rfl, H1.out, h2, H5.out, H4.out.trans H6.out⟩

/-- what Closure returns -/
def ClosR (w : World) (ps : List Pr) (rg : Int) (l : List Int) (e : Ending) (w' : World) : Prop := ∃ A m c ys, e = .returned (.slice A m c) ∧ m ≤ c ∧ c ≤ maxLen ∧ w'.ownsRow w.heap.size 3 1 (.slice A m c) m (i64s ys) ∧ ys.Pairwise (· < ·) ∧ (∀ a, a ∈ ys ↔ OutL ps rg l a) ∧ Below w.heap.size w w'

set_option maxHeartbeats 4000000 in
set_option maxRecDepth 100000 in
theorem Closure_any (r : Nat) (ps : List Pr) (rg : Int) (A : Option Addr) (n c : Nat) (l : List Int) (w : World) (hR : Rel w w.heap.size r ps rg) (hL : Rd w w.heap.size A n (i64s l)) (hn : n ≤ 1000000) :
    Calls Try.prog 18 #[.pointer (some ⟨r, 0, none⟩), .slice A n c] w (ClosR w ps rg l) := by
  obtain ⟨A1, nD, cD, D, A2, c2, L, hR⟩ := hR
  have hfew := hR.few
  have hll := hL.ilen
  have hB1 : Below w.heap.size w ((w.alloc (.cells #[.pointer (some ⟨r, 0, none⟩)] 25)).alloc (.cells #[.slice A n c] 35)) := ((Below.refl _ w).alloc (Nat.le_refl _) _).alloc (by simp) _
  have b1 := (Boxed.new w 25 (.pointer (some ⟨r, 0, none⟩))).alloc (.cells #[.slice A n c] 35)
  have b2 := Boxed.new (w.alloc (.cells #[.pointer (some ⟨r, 0, none⟩)] 25)) 35 (.slice A n c)
  rw [World.size_alloc] at b2
  have hP : PassX 43 #[.pointer (some ⟨w.heap.size + 1, 0, none⟩), .pointer (some ⟨w.heap.size, 0, none⟩)] (fun xs => ∀ a, a ∈ xs ↔ OutL ps rg l a) (fun pre => ∀ a ∈ pre, OutL ps rg l a) (n + nD) ((w.alloc (.cells #[.pointer (some ⟨r, 0, none⟩)] 25)).alloc (.cells #[.slice A n c] 35)) := by
    generalize hW : (w.alloc (.cells #[.pointer (some ⟨r, 0, none⟩)] 25)).alloc (.cells #[.slice A n c] 35) = W at *
    have hs : W.heap.size = w.heap.size + 2 := by rw [← hW]; simp
    refine ⟨fun w' hb hlt hO => ?_, enters_of Try.func43 (by kernel_rfl) rfl, by omega⟩
    refine outliving_seq 8 (by omega) W.heap.size W.heap.size (w.heap.size + 1) w.heap.size r ps rg A1 nD cD D A2 c2 L A n c l w' ((hR.below (hB1.trans (hb.mono (by omega)))).more (by omega)) (Nat.le_refl _) hlt
      (RdX.of_rd (B := W.heap.size) ((hL.below (hB1.trans (hb.mono (by omega)))).more (by omega)) (Nat.le_refl _) (by omega) (fun g hg => by rw [hO] at hg; cases hg)) (by omega)
      ((hb.cell (p := ⟨w.heap.size + 1, 0, none⟩) (show w.heap.size + 1 < W.heap.size by omega)).trans b2.cell) ((hb.cell (p := ⟨w.heap.size, 0, none⟩) (show w.heap.size < W.heap.size by omega)).trans b1.cell) (by omega)
  have HS := hide (Sorted_any _ _ _ _ _ _ hP)
  have HB1 := hide hB1
  clear hP b1 b2 hB1 hR hL
  go_enter Try.func18, Try.ntmps18
  go_wp2_with fail
  refine (outliving_any _ _ _ _ _).mono ?_
  rintro e w1 ⟨rfl, rfl⟩
  go_wp2_with fail
  refine HS.out.mono ?_
  rintro e w2 ⟨v, ys, rfl, h1, h2, h3, h4⟩
  have H1 := hide h1
  have H3 := hide (ownsRow_base h3 HB1.out.size)
  have H4 := hide (HB1.out.trans (h4.mono HB1.out.size))
  clear h1 h3 h4
  go_wp2_with fail
  refine (CompactRowI H3.out (by omega)).mono ?_
  rintro e w3 ⟨A3, m3, c3, rfl, h5, h6, h7, h8⟩
  have H7 := hide h7
  have H8 := hide (H4.out.trans h8)
  clear h7 h8
  go_wp2_with fail
  go_ret
  exact ⟨A3, m3, c3, idedup ys, rfl, h5, h6, H7.out, idedup_asc ys, fun a => idedup_mem.trans (H1.out a), H8.out⟩
theorem Closure_nil (A : Option Addr) (n c : Nat) (w : World) :
    Calls Try.prog 18 #[.pointer none, .slice A n c] w fun e w' => e = .returned (.slice none 0 0) ∧ w' = w := by
  go_enter Try.func18, Try.ntmps18
  go_wp2
  go_ret
  exact ⟨rfl, rfl⟩
end Go.Proofs.Ytagnikaghhobjaa
