/- slices.Clone at each element type. -/
import Derived.Test.YtbdimnncobpfdaaGreatBodN
import Derived.Lib.LazyBuf
import Derived.Test.YtbdimnncobpfdaaGreatBodG
import Derived.Deep.MidRow
import Derived.Laws.EntriesVeiled
import Derived.Shelf.Abstract
set_option linter.unusedVariables false
namespace Go.Proofs.YtbdimnncobpfdaaGreat
open Go.RowKit

theorem own_new9 (w : World) (e : TypeId) (k : Nat) : (w.alloc (.cells #[] e)).ownsRow w.heap.size e k (.slice (some ⟨w.heap.size, 0, none⟩) 0 0) 0 [] :=
  ⟨by simp, .inr ⟨w.heap.size, 0, #[], rfl, Nat.le_refl _, heap_alloc_new w _, Nat.le_refl _, Nat.zero_le _, by simp, by simp⟩⟩
theorem own_slice9 {w : World} {base : Nat} {e : TypeId} {size n : Nat} {v : Value} {xs : List Value} (h : w.ownsRow base e size v n xs) : ∃ A c, v = .slice A n c := by
  obtain ⟨h1, h2⟩ := h
  rcases h2 with ⟨rfl, rfl⟩ | ⟨g, cap, cur, rfl, _⟩
  · exact ⟨_, _, rfl⟩
  · exact ⟨_, _, rfl⟩
theorem cInt_one (x : Int) : ∀ u ∈ cInt x, u.oneCell' = true := by intro u hu; simp only [cInt, List.mem_cons, List.not_mem_nil, or_false] at hu; subst hu; rfl
theorem cStr_one (x : ByteArray) : ∀ u ∈ cStr x, u.oneCell' = true := by intro u hu; simp only [cStr, List.mem_cons, List.not_mem_nil, or_false] at hu; subst hu; rfl
theorem pV_one9 (x : Pr) : ∀ u ∈ pV x, u.oneCell' = true := by intro u hu; simp only [pV, List.mem_cons, List.not_mem_nil, or_false] at hu; rcases hu with rfl | rfl <;> rfl
theorem c5_one9 (x : TyW) : ∀ u ∈ c5 x, u.oneCell' = true := by intro u hu; simp only [c5, List.mem_cons, List.not_mem_nil, or_false] at hu; rcases hu with rfl | rfl | rfl | rfl | rfl <;> rfl
theorem cSt_one (x : StW) : ∀ u ∈ cSt x, u.oneCell' = true := by intro u hu; simp only [cSt, List.mem_cons, List.not_mem_nil, or_false] at hu; rcases hu with rfl | rfl | rfl | rfl | rfl | rfl | rfl | rfl | rfl | rfl | rfl <;> rfl
theorem cBk_one (x : BkW) : ∀ u ∈ cBk x, u.oneCell' = true := by intro u hu; simp only [cBk, List.mem_cons, List.not_mem_nil, or_false] at hu; rcases hu with rfl | rfl | rfl | rfl | rfl | rfl | rfl <;> rfl
/-- a copy in memory of its own -/
def ClnOut {α : Type} (w : World) (e : TypeId) (k : Nat) (f : α → List Value) (L : List α) (x : Ending) (w' : World) : Prop :=
  ∃ s : SlW α, x = .returned s.val ∧ s.L = L ∧ w'.ownsRow w.heap.size e k s.val s.n (s.L.flatMap f) ∧ Below w.heap.size w w'
theorem info9Int : (Tryz.prog.info? 3).map (fun i => (i.zero, i.size, i.bytes)) = some (some (.int .i64 0), 1, 8) := by kernel_rfl

set_option maxHeartbeats 1000000 in
set_option maxRecDepth 100000 in
theorem ClnInt_any (s : SlW Int) (w : World) (hs : SlH w w.heap.size 1 cInt (IntR) s) (hn : s.n ≤ 2 ^ 39) :
    Calls Tryz.prog 88 #[s.val] w (ClnOut w 3 1 cInt s.L) := by
  obtain ⟨i0, hi, hz0, hz1, hz2⟩ := info_parts info9Int
  have hr := hs.cells
  obtain ⟨A, n, c, xs⟩ := s
  simp only [] at hn hr
  clear hs
  have hl : xs.length = n := hr.1
  show Calls Tryz.prog 88 #[.slice A n c] w _
  rcases A with _ | ad
  · have h0 : n = 0 := by
      rcases Nat.eq_zero_or_pos n with h0 | h0
      · exact h0
      · obtain ⟨b, o, h, _⟩ := hr.2 h0
        cases h
    subst h0
    obtain rfl : xs = [] := List.eq_nil_of_length_eq_zero hl
    clear hl hr
    have heq := fun w : World => run_eql_slice_nil (P := Tryz.prog) w 36 3 none 0 c Tryz.underlying36
    simp only [Option.isNone_none] at heq
    go_enter Tryz.func88, Tryz.ntmps88
    go_wp2
    go_ret
    exact ⟨⟨none, 0, 0, []⟩, rfl, rfl, World.ownsRow_nil _ _ _ _, Below.refl _ _⟩
  · have HR := hide hr
    have HL := hide hl
    have HN := hide hn
    clear hr hl hn
    have heq := fun w : World => run_eql_slice_nil (P := Tryz.prog) w 36 3 (some ad) n c Tryz.underlying36
    simp only [Option.isNone_some] at heq
    go_enter Tryz.func88, Tryz.ntmps88
    go_wp2_with (at_builtin; refine wpList_append_cells _ rfl _ _ 36 rfl cInt_len (by decide) cInt_one w.heap.size 3 i0 _ 8 Tryz.underlying36 hi hz0 hz1 hz2 rfl _ 0 [] rfl (own_new9 w 3 1) w.heap.size (some ad) n c xs rfl (HR.out.below ((Below.refl w.heap.size w).alloc (Nat.le_refl _) _)) (by have := HN.out; unfold maxLen; omega) (by have := HN.out; omega) (by simp) ?_; intro v2 w2 hown2 hg2 hat2)
    go_ret
    have hown3 : w2.ownsRow w.heap.size 3 1 v2 n (xs.flatMap cInt) := by simpa using hown2
    obtain ⟨A2, c2, rfl⟩ := own_slice9 hown3
    exact ⟨⟨A2, n, c2, xs⟩, rfl, rfl, hown3, below_app ((Below.refl w.heap.size w).alloc (Nat.le_refl _) _) (own_new9 w 3 1) (by simp) hg2⟩
theorem info9Str : (Tryz.prog.info? 9).map (fun i => (i.zero, i.size, i.bytes)) = some (some (.string .empty), 1, 16) := by kernel_rfl

set_option maxHeartbeats 1000000 in
set_option maxRecDepth 100000 in
theorem ClnStr_any (s : SlW ByteArray) (w : World) (hs : SlH w w.heap.size 1 cStr (fun x => x.size ≤ maxLen) s) (hn : s.n ≤ 2 ^ 39) :
    Calls Tryz.prog 56 #[s.val] w (ClnOut w 9 1 cStr s.L) := by
  obtain ⟨i0, hi, hz0, hz1, hz2⟩ := info_parts info9Str
  have hr := hs.cells
  obtain ⟨A, n, c, xs⟩ := s
  simp only [] at hn hr
  clear hs
  have hl : xs.length = n := hr.1
  show Calls Tryz.prog 56 #[.slice A n c] w _
  rcases A with _ | ad
  · have h0 : n = 0 := by
      rcases Nat.eq_zero_or_pos n with h0 | h0
      · exact h0
      · obtain ⟨b, o, h, _⟩ := hr.2 h0
        cases h
    subst h0
    obtain rfl : xs = [] := List.eq_nil_of_length_eq_zero hl
    clear hl hr
    have heq := fun w : World => run_eql_slice_nil (P := Tryz.prog) w 22 9 none 0 c Tryz.underlying22
    simp only [Option.isNone_none] at heq
    go_enter Tryz.func56, Tryz.ntmps56
    go_wp2
    go_ret
    exact ⟨⟨none, 0, 0, []⟩, rfl, rfl, World.ownsRow_nil _ _ _ _, Below.refl _ _⟩
  · have HR := hide hr
    have HL := hide hl
    have HN := hide hn
    clear hr hl hn
    have heq := fun w : World => run_eql_slice_nil (P := Tryz.prog) w 22 9 (some ad) n c Tryz.underlying22
    simp only [Option.isNone_some] at heq
    go_enter Tryz.func56, Tryz.ntmps56
    go_wp2_with (at_builtin; refine wpList_append_cells _ rfl _ _ 22 rfl cStr_len (by decide) cStr_one w.heap.size 9 i0 _ 16 Tryz.underlying22 hi hz0 hz1 hz2 rfl _ 0 [] rfl (own_new9 w 9 1) w.heap.size (some ad) n c xs rfl (HR.out.below ((Below.refl w.heap.size w).alloc (Nat.le_refl _) _)) (by have := HN.out; unfold maxLen; omega) (by have := HN.out; omega) (by simp) ?_; intro v2 w2 hown2 hg2 hat2)
    go_ret
    have hown3 : w2.ownsRow w.heap.size 9 1 v2 n (xs.flatMap cStr) := by simpa using hown2
    obtain ⟨A2, c2, rfl⟩ := own_slice9 hown3
    exact ⟨⟨A2, n, c2, xs⟩, rfl, rfl, hown3, below_app ((Below.refl w.heap.size w).alloc (Nat.le_refl _) _) (own_new9 w 9 1) (by simp) hg2⟩
theorem info9Pr : (Tryz.prog.info? 49).map (fun i => (i.zero, i.size, i.bytes)) = some (some (.agg #[.int .i64 0, .int .i64 0]), 2, 16) := by kernel_rfl

set_option maxHeartbeats 1000000 in
set_option maxRecDepth 100000 in
theorem ClnPr_any (s : SlW Pr) (w : World) (hs : SlH w w.heap.size 2 pV (IntP) s) (hn : s.n ≤ 2 ^ 39) :
    Calls Tryz.prog 57 #[s.val] w (ClnOut w 49 2 pV s.L) := by
  obtain ⟨i0, hi, hz0, hz1, hz2⟩ := info_parts info9Pr
  have hr := hs.cells
  obtain ⟨A, n, c, xs⟩ := s
  simp only [] at hn hr
  clear hs
  have hl : xs.length = n := hr.1
  show Calls Tryz.prog 57 #[.slice A n c] w _
  rcases A with _ | ad
  · have h0 : n = 0 := by
      rcases Nat.eq_zero_or_pos n with h0 | h0
      · exact h0
      · obtain ⟨b, o, h, _⟩ := hr.2 h0
        cases h
    subst h0
    obtain rfl : xs = [] := List.eq_nil_of_length_eq_zero hl
    clear hl hr
    have heq := fun w : World => run_eql_slice_nil (P := Tryz.prog) w 23 49 none 0 c Tryz.underlying23
    simp only [Option.isNone_none] at heq
    go_enter Tryz.func57, Tryz.ntmps57
    go_wp2
    go_ret
    exact ⟨⟨none, 0, 0, []⟩, rfl, rfl, World.ownsRow_nil _ _ _ _, Below.refl _ _⟩
  · have HR := hide hr
    have HL := hide hl
    have HN := hide hn
    clear hr hl hn
    have heq := fun w : World => run_eql_slice_nil (P := Tryz.prog) w 23 49 (some ad) n c Tryz.underlying23
    simp only [Option.isNone_some] at heq
    go_enter Tryz.func57, Tryz.ntmps57
    go_wp2_with (at_builtin; refine wpList_append_cells _ rfl _ _ 23 rfl pV_len (by decide) pV_one9 w.heap.size 49 i0 _ 16 Tryz.underlying23 hi hz0 hz1 hz2 rfl _ 0 [] rfl (own_new9 w 49 2) w.heap.size (some ad) n c xs rfl (HR.out.below ((Below.refl w.heap.size w).alloc (Nat.le_refl _) _)) (by have := HN.out; unfold maxLen; omega) (by have := HN.out; omega) (by simp) ?_; intro v2 w2 hown2 hg2 hat2)
    go_ret
    have hown3 : w2.ownsRow w.heap.size 49 2 v2 n (xs.flatMap pV) := by simpa using hown2
    obtain ⟨A2, c2, rfl⟩ := own_slice9 hown3
    exact ⟨⟨A2, n, c2, xs⟩, rfl, rfl, hown3, below_app ((Below.refl w.heap.size w).alloc (Nat.le_refl _) _) (own_new9 w 49 2) (by simp) hg2⟩
theorem info9Pj : (Tryz.prog.info? 135).map (fun i => (i.zero, i.size, i.bytes)) = some (some (.agg #[.int .i64 0, .int .i64 0]), 2, 16) := by kernel_rfl

set_option maxHeartbeats 1000000 in
set_option maxRecDepth 100000 in
theorem ClnPj_any (s : SlW Pr) (w : World) (hs : SlH w w.heap.size 2 pV (IntP) s) (hn : s.n ≤ 2 ^ 39) :
    Calls Tryz.prog 115 #[s.val] w (ClnOut w 135 2 pV s.L) := by
  obtain ⟨i0, hi, hz0, hz1, hz2⟩ := info_parts info9Pj
  have hr := hs.cells
  obtain ⟨A, n, c, xs⟩ := s
  simp only [] at hn hr
  clear hs
  have hl : xs.length = n := hr.1
  show Calls Tryz.prog 115 #[.slice A n c] w _
  rcases A with _ | ad
  · have h0 : n = 0 := by
      rcases Nat.eq_zero_or_pos n with h0 | h0
      · exact h0
      · obtain ⟨b, o, h, _⟩ := hr.2 h0
        cases h
    subst h0
    obtain rfl : xs = [] := List.eq_nil_of_length_eq_zero hl
    clear hl hr
    have heq := fun w : World => run_eql_slice_nil (P := Tryz.prog) w 38 135 none 0 c Tryz.underlying38
    simp only [Option.isNone_none] at heq
    go_enter Tryz.func115, Tryz.ntmps115
    go_wp2
    go_ret
    exact ⟨⟨none, 0, 0, []⟩, rfl, rfl, World.ownsRow_nil _ _ _ _, Below.refl _ _⟩
  · have HR := hide hr
    have HL := hide hl
    have HN := hide hn
    clear hr hl hn
    have heq := fun w : World => run_eql_slice_nil (P := Tryz.prog) w 38 135 (some ad) n c Tryz.underlying38
    simp only [Option.isNone_some] at heq
    go_enter Tryz.func115, Tryz.ntmps115
    go_wp2_with (at_builtin; refine wpList_append_cells _ rfl _ _ 38 rfl pV_len (by decide) pV_one9 w.heap.size 135 i0 _ 16 Tryz.underlying38 hi hz0 hz1 hz2 rfl _ 0 [] rfl (own_new9 w 135 2) w.heap.size (some ad) n c xs rfl (HR.out.below ((Below.refl w.heap.size w).alloc (Nat.le_refl _) _)) (by have := HN.out; unfold maxLen; omega) (by have := HN.out; omega) (by simp) ?_; intro v2 w2 hown2 hg2 hat2)
    go_ret
    have hown3 : w2.ownsRow w.heap.size 135 2 v2 n (xs.flatMap pV) := by simpa using hown2
    obtain ⟨A2, c2, rfl⟩ := own_slice9 hown3
    exact ⟨⟨A2, n, c2, xs⟩, rfl, rfl, hown3, below_app ((Below.refl w.heap.size w).alloc (Nat.le_refl _) _) (own_new9 w 135 2) (by simp) hg2⟩
theorem info9Ty : (Tryz.prog.info? 51).map (fun i => (i.zero, i.size, i.bytes)) = some (some (.agg #[.int .i64 0, .bool false, .int .i64 0, .int .i64 0, .slice none 0 0]), 5, 56) := by kernel_rfl

set_option maxHeartbeats 1000000 in
set_option maxRecDepth 100000 in
theorem ClnTy_any (s : SlW TyW) (w : World) (hs : SlH w w.heap.size 5 c5 (OneT w w.heap.size) s) (hn : s.n ≤ 2 ^ 39) :
    Calls Tryz.prog 87 #[s.val] w (ClnOut w 51 5 c5 s.L) := by
  obtain ⟨i0, hi, hz0, hz1, hz2⟩ := info_parts info9Ty
  have hr := hs.cells
  obtain ⟨A, n, c, xs⟩ := s
  simp only [] at hn hr
  clear hs
  have hl : xs.length = n := hr.1
  show Calls Tryz.prog 87 #[.slice A n c] w _
  rcases A with _ | ad
  · have h0 : n = 0 := by
      rcases Nat.eq_zero_or_pos n with h0 | h0
      · exact h0
      · obtain ⟨b, o, h, _⟩ := hr.2 h0
        cases h
    subst h0
    obtain rfl : xs = [] := List.eq_nil_of_length_eq_zero hl
    clear hl hr
    have heq := fun w : World => run_eql_slice_nil (P := Tryz.prog) w 24 51 none 0 c Tryz.underlying24
    simp only [Option.isNone_none] at heq
    go_enter Tryz.func87, Tryz.ntmps87
    go_wp2
    go_ret
    exact ⟨⟨none, 0, 0, []⟩, rfl, rfl, World.ownsRow_nil _ _ _ _, Below.refl _ _⟩
  · have HR := hide hr
    have HL := hide hl
    have HN := hide hn
    clear hr hl hn
    have heq := fun w : World => run_eql_slice_nil (P := Tryz.prog) w 24 51 (some ad) n c Tryz.underlying24
    simp only [Option.isNone_some] at heq
    go_enter Tryz.func87, Tryz.ntmps87
    go_wp2_with (at_builtin; refine wpList_append_cells _ rfl _ _ 24 rfl c5_len (by decide) c5_one9 w.heap.size 51 i0 _ 56 Tryz.underlying24 hi hz0 hz1 hz2 rfl _ 0 [] rfl (own_new9 w 51 5) w.heap.size (some ad) n c xs rfl (HR.out.below ((Below.refl w.heap.size w).alloc (Nat.le_refl _) _)) (by have := HN.out; unfold maxLen; omega) (by have := HN.out; omega) (by simp) ?_; intro v2 w2 hown2 hg2 hat2)
    go_ret
    have hown3 : w2.ownsRow w.heap.size 51 5 v2 n (xs.flatMap c5) := by simpa using hown2
    obtain ⟨A2, c2, rfl⟩ := own_slice9 hown3
    exact ⟨⟨A2, n, c2, xs⟩, rfl, rfl, hown3, below_app ((Below.refl w.heap.size w).alloc (Nat.le_refl _) _) (own_new9 w 51 5) (by simp) hg2⟩
theorem info9Lc : (Tryz.prog.info? 54).map (fun i => (i.zero, i.size, i.bytes)) = some (some (.agg #[.string .empty, .int .i64 0]), 2, 24) := by kernel_rfl

set_option maxHeartbeats 1000000 in
set_option maxRecDepth 100000 in
theorem ClnLc_any (s : SlW LcW) (w : World) (hs : SlH w w.heap.size 2 cLc (fun y => IntR y.ty ∧ y.name.size ≤ maxLen) s) (hn : s.n ≤ 2 ^ 39) :
    Calls Tryz.prog 60 #[s.val] w (ClnOut w 54 2 cLc s.L) := by
  obtain ⟨i0, hi, hz0, hz1, hz2⟩ := info_parts info9Lc
  have hr := hs.cells
  obtain ⟨A, n, c, xs⟩ := s
  simp only [] at hn hr
  clear hs
  have hl : xs.length = n := hr.1
  show Calls Tryz.prog 60 #[.slice A n c] w _
  rcases A with _ | ad
  · have h0 : n = 0 := by
      rcases Nat.eq_zero_or_pos n with h0 | h0
      · exact h0
      · obtain ⟨b, o, h, _⟩ := hr.2 h0
        cases h
    subst h0
    obtain rfl : xs = [] := List.eq_nil_of_length_eq_zero hl
    clear hl hr
    have heq := fun w : World => run_eql_slice_nil (P := Tryz.prog) w 25 54 none 0 c Tryz.underlying25
    simp only [Option.isNone_none] at heq
    go_enter Tryz.func60, Tryz.ntmps60
    go_wp2
    go_ret
    exact ⟨⟨none, 0, 0, []⟩, rfl, rfl, World.ownsRow_nil _ _ _ _, Below.refl _ _⟩
  · have HR := hide hr
    have HL := hide hl
    have HN := hide hn
    clear hr hl hn
    have heq := fun w : World => run_eql_slice_nil (P := Tryz.prog) w 25 54 (some ad) n c Tryz.underlying25
    simp only [Option.isNone_some] at heq
    go_enter Tryz.func60, Tryz.ntmps60
    go_wp2_with (at_builtin; refine wpList_append_cells _ rfl _ _ 25 rfl cLc_len (by decide) cLc_one w.heap.size 54 i0 _ 24 Tryz.underlying25 hi hz0 hz1 hz2 rfl _ 0 [] rfl (own_new9 w 54 2) w.heap.size (some ad) n c xs rfl (HR.out.below ((Below.refl w.heap.size w).alloc (Nat.le_refl _) _)) (by have := HN.out; unfold maxLen; omega) (by have := HN.out; omega) (by simp) ?_; intro v2 w2 hown2 hg2 hat2)
    go_ret
    have hown3 : w2.ownsRow w.heap.size 54 2 v2 n (xs.flatMap cLc) := by simpa using hown2
    obtain ⟨A2, c2, rfl⟩ := own_slice9 hown3
    exact ⟨⟨A2, n, c2, xs⟩, rfl, rfl, hown3, below_app ((Below.refl w.heap.size w).alloc (Nat.le_refl _) _) (own_new9 w 54 2) (by simp) hg2⟩

set_option maxHeartbeats 1000000 in
set_option maxRecDepth 100000 in
theorem ClnOp_any (s : SlW OpW) (w : World) (hs : SlH w w.heap.size 4 cOp (OneOp w w.heap.size) s) (hn : s.n ≤ 2 ^ 39) :
    Calls Tryz.prog 84 #[s.val] w (ClnOut w 96 4 cOp s.L) := by
  obtain ⟨i0, hi, hz0, hz1, hz2⟩ := info_parts infoOp
  have hr := hs.cells
  obtain ⟨A, n, c, xs⟩ := s
  simp only [] at hn hr
  clear hs
  have hl : xs.length = n := hr.1
  show Calls Tryz.prog 84 #[.slice A n c] w _
  rcases A with _ | ad
  · have h0 : n = 0 := by
      rcases Nat.eq_zero_or_pos n with h0 | h0
      · exact h0
      · obtain ⟨b, o, h, _⟩ := hr.2 h0
        cases h
    subst h0
    obtain rfl : xs = [] := List.eq_nil_of_length_eq_zero hl
    clear hl hr
    have heq := fun w : World => run_eql_slice_nil (P := Tryz.prog) w 37 96 none 0 c Tryz.underlying37
    simp only [Option.isNone_none] at heq
    go_enter Tryz.func84, Tryz.ntmps84
    go_wp2
    go_ret
    exact ⟨⟨none, 0, 0, []⟩, rfl, rfl, World.ownsRow_nil _ _ _ _, Below.refl _ _⟩
  · have HR := hide hr
    have HL := hide hl
    have HN := hide hn
    clear hr hl hn
    have heq := fun w : World => run_eql_slice_nil (P := Tryz.prog) w 37 96 (some ad) n c Tryz.underlying37
    simp only [Option.isNone_some] at heq
    go_enter Tryz.func84, Tryz.ntmps84
    go_wp2_with (at_builtin; refine wpList_append_cells _ rfl _ _ 37 rfl cOp_len (by decide) cOp_one w.heap.size 96 i0 _ 48 Tryz.underlying37 hi hz0 hz1 hz2 rfl _ 0 [] rfl (own_new9 w 96 4) w.heap.size (some ad) n c xs rfl (HR.out.below ((Below.refl w.heap.size w).alloc (Nat.le_refl _) _)) (by have := HN.out; unfold maxLen; omega) (by have := HN.out; omega) (by simp) ?_; intro v2 w2 hown2 hg2 hat2)
    go_ret
    have hown3 : w2.ownsRow w.heap.size 96 4 v2 n (xs.flatMap cOp) := by simpa using hown2
    obtain ⟨A2, c2, rfl⟩ := own_slice9 hown3
    exact ⟨⟨A2, n, c2, xs⟩, rfl, rfl, hown3, below_app ((Below.refl w.heap.size w).alloc (Nat.le_refl _) _) (own_new9 w 96 4) (by simp) hg2⟩
theorem info9St : (Tryz.prog.info? 58).map (fun i => (i.zero, i.size, i.bytes)) = some (some (.agg #[.int .i64 0, .int .i64 0, .slice none 0 0, .int .i64 0, .int .i64 0, .int .i64 0, .bool false, .int .i64 0, .slice none 0 0, .slice none 0 0, .int .i64 0]), 11, 136) := by kernel_rfl

set_option maxHeartbeats 1000000 in
set_option maxRecDepth 100000 in
theorem ClnSt_any (s : SlW StW) (w : World) (hs : SlH w w.heap.size 11 cSt (OneSt w w.heap.size) s) (hn : s.n ≤ 2 ^ 39) :
    Calls Tryz.prog 116 #[s.val] w (ClnOut w 58 11 cSt s.L) := by
  obtain ⟨i0, hi, hz0, hz1, hz2⟩ := info_parts info9St
  have hr := hs.cells
  obtain ⟨A, n, c, xs⟩ := s
  simp only [] at hn hr
  clear hs
  have hl : xs.length = n := hr.1
  show Calls Tryz.prog 116 #[.slice A n c] w _
  rcases A with _ | ad
  · have h0 : n = 0 := by
      rcases Nat.eq_zero_or_pos n with h0 | h0
      · exact h0
      · obtain ⟨b, o, h, _⟩ := hr.2 h0
        cases h
    subst h0
    obtain rfl : xs = [] := List.eq_nil_of_length_eq_zero hl
    clear hl hr
    have heq := fun w : World => run_eql_slice_nil (P := Tryz.prog) w 35 58 none 0 c Tryz.underlying35
    simp only [Option.isNone_none] at heq
    go_enter Tryz.func116, Tryz.ntmps116
    go_wp2
    go_ret
    exact ⟨⟨none, 0, 0, []⟩, rfl, rfl, World.ownsRow_nil _ _ _ _, Below.refl _ _⟩
  · have HR := hide hr
    have HL := hide hl
    have HN := hide hn
    clear hr hl hn
    have heq := fun w : World => run_eql_slice_nil (P := Tryz.prog) w 35 58 (some ad) n c Tryz.underlying35
    simp only [Option.isNone_some] at heq
    go_enter Tryz.func116, Tryz.ntmps116
    go_wp2_with (at_builtin; refine wpList_append_cells _ rfl _ _ 35 rfl cSt_len (by decide) cSt_one w.heap.size 58 i0 _ 136 Tryz.underlying35 hi hz0 hz1 hz2 rfl _ 0 [] rfl (own_new9 w 58 11) w.heap.size (some ad) n c xs rfl (HR.out.below ((Below.refl w.heap.size w).alloc (Nat.le_refl _) _)) (by have := HN.out; unfold maxLen; omega) (by have := HN.out; omega) (by simp) ?_; intro v2 w2 hown2 hg2 hat2)
    go_ret
    have hown3 : w2.ownsRow w.heap.size 58 11 v2 n (xs.flatMap cSt) := by simpa using hown2
    obtain ⟨A2, c2, rfl⟩ := own_slice9 hown3
    exact ⟨⟨A2, n, c2, xs⟩, rfl, rfl, hown3, below_app ((Below.refl w.heap.size w).alloc (Nat.le_refl _) _) (own_new9 w 58 11) (by simp) hg2⟩
theorem info9Bk : (Tryz.prog.info? 44).map (fun i => (i.zero, i.size, i.bytes)) = some (some (.agg #[.slice none 0 0, .int .i64 0, .slice none 0 0, .slice none 0 0, .int .i64 0, .slice none 0 0, .string .empty]), 7, 128) := by kernel_rfl

set_option maxHeartbeats 1000000 in
set_option maxRecDepth 100000 in
theorem ClnBk_any (s : SlW BkW) (w : World) (hs : SlH w w.heap.size 7 cBk (OneBk w w.heap.size) s) (hn : s.n ≤ 2 ^ 39) :
    Calls Tryz.prog 89 #[s.val] w (ClnOut w 44 7 cBk s.L) := by
  obtain ⟨i0, hi, hz0, hz1, hz2⟩ := info_parts info9Bk
  have hr := hs.cells
  obtain ⟨A, n, c, xs⟩ := s
  simp only [] at hn hr
  clear hs
  have hl : xs.length = n := hr.1
  show Calls Tryz.prog 89 #[.slice A n c] w _
  rcases A with _ | ad
  · have h0 : n = 0 := by
      rcases Nat.eq_zero_or_pos n with h0 | h0
      · exact h0
      · obtain ⟨b, o, h, _⟩ := hr.2 h0
        cases h
    subst h0
    obtain rfl : xs = [] := List.eq_nil_of_length_eq_zero hl
    clear hl hr
    have heq := fun w : World => run_eql_slice_nil (P := Tryz.prog) w 26 44 none 0 c Tryz.underlying26
    simp only [Option.isNone_none] at heq
    go_enter Tryz.func89, Tryz.ntmps89
    go_wp2
    go_ret
    exact ⟨⟨none, 0, 0, []⟩, rfl, rfl, World.ownsRow_nil _ _ _ _, Below.refl _ _⟩
  · have HR := hide hr
    have HL := hide hl
    have HN := hide hn
    clear hr hl hn
    have heq := fun w : World => run_eql_slice_nil (P := Tryz.prog) w 26 44 (some ad) n c Tryz.underlying26
    simp only [Option.isNone_some] at heq
    go_enter Tryz.func89, Tryz.ntmps89
    go_wp2_with (at_builtin; refine wpList_append_cells _ rfl _ _ 26 rfl cBk_len (by decide) cBk_one w.heap.size 44 i0 _ 128 Tryz.underlying26 hi hz0 hz1 hz2 rfl _ 0 [] rfl (own_new9 w 44 7) w.heap.size (some ad) n c xs rfl (HR.out.below ((Below.refl w.heap.size w).alloc (Nat.le_refl _) _)) (by have := HN.out; unfold maxLen; omega) (by have := HN.out; omega) (by simp) ?_; intro v2 w2 hown2 hg2 hat2)
    go_ret
    have hown3 : w2.ownsRow w.heap.size 44 7 v2 n (xs.flatMap cBk) := by simpa using hown2
    obtain ⟨A2, c2, rfl⟩ := own_slice9 hown3
    exact ⟨⟨A2, n, c2, xs⟩, rfl, rfl, hown3, below_app ((Below.refl w.heap.size w).alloc (Nat.le_refl _) _) (own_new9 w 44 7) (by simp) hg2⟩
end Go.Proofs.YtbdimnncobpfdaaGreat

/- Bodies of the call's own: what a clone is. -/
set_option linter.unusedVariables false
namespace Go.Proofs.YtbdimnncobpfdaaGreat
open Go.RowKit

/-! ### a struct in a box of the call's own -/
def Bx (w : World) (g : Nat) (cs : List Value) (T : TypeId) : Prop := w.heap[g]? = some (.cells cs.toArray T (0, 0))
section
variable {w w' : World} {g : Nat} {cs : List Value} {T : TypeId}
theorem Bx.lt (h : Bx w g cs T) : g < w.heap.size := (Array.getElem?_eq_some_iff.1 h).1
theorem Bx.cell (h : Bx w g cs T) {j : Nat} {u : Value} (hj : cs[j]? = some u) : w.cell? ⟨g, j, none⟩ = some u := by
  rw [cell_of_row w g j cs.toArray T (0, 0) h]
  simpa using hj
theorem Bx.frozen (h : Bx w g cs T) (j : Nat) : w.frozen? ⟨g, j, none⟩ = false := by
  unfold Bx at h
  simp [World.frozen?, h]
theorem Bx.below (h : Bx w g cs T) (hb : Below w.heap.size w w') : Bx w' g cs T := (hb.block g h.lt).trans h
theorem Bx.set (h : Bx w g cs T) (j : Nat) (v : Value) : Bx (w.setCell ⟨g, j, none⟩ v) g (cs.set j v) T := by
  have h' := h
  unfold Bx at *
  rw [setCell_eq_setRow w g j _ _ _ v h', setRow_heap _ _ _ _ _ _ h']
  simp
theorem Bx.other (h : Bx w g cs T) {a : Addr} (ha : a.block ≠ g) (v : Value) : Bx (w.setCell a v) g cs T := (Below.heap_setCell w a v g ha.symm).trans h
theorem Bx.new (w : World) (cs : List Value) (T : TypeId) : Bx (w.alloc (.cells cs.toArray T)) w.heap.size cs T := heap_alloc_new w _
end
/-! ### the blocks from lo on are as they were -/
structure Keep (lo : Nat) (w w' : World) : Prop where
  size : w.heap.size ≤ w'.heap.size
  block : ∀ k, lo ≤ k → k < w.heap.size → w'.heap[k]? = w.heap[k]?
section
variable {lo : Nat} {w w' w'' : World}
theorem Keep.refl (lo : Nat) (w : World) : Keep lo w w := ⟨Nat.le_refl _, fun _ _ _ => rfl⟩
theorem Keep.of_below (h : Below w.heap.size w w') : Keep lo w w' := ⟨h.size, fun k _ hk => h.block k hk⟩
theorem Keep.trans (h : Keep lo w w') (h' : Keep lo w' w'') : Keep lo w w'' := ⟨Nat.le_trans h.size h'.size, fun k hk hl => (h'.block k hk (Nat.lt_of_lt_of_le hl h.size)).trans (h.block k hk hl)⟩
theorem Keep.setCell {a : Addr} (ha : a.block < lo) (v : Value) : Keep lo w (w.setCell a v) := ⟨by simp, fun k hk _ => Below.heap_setCell w a v k (by omega)⟩
theorem Keep.setCells {g : Nat} (hg : g < lo) : ∀ (vs : List Value) (o : Nat) (w : World), Keep lo w (w.setCells g o vs)
  | [], _, _ => Keep.refl _ _
  | v :: vs, o, w => by
    rw [World.setCells]
    exact (Keep.setCell (a := ⟨g, o, none⟩) hg v).trans (Keep.setCells hg vs (o + 1) _)
theorem Keep.less {lo' : Nat} (h : Keep lo w w') (hl : lo ≤ lo') : Keep lo' w w' := ⟨h.size, fun k hk => h.block k (Nat.le_trans hl hk)⟩
theorem own_keep {e : TypeId} {size n : Nat} {v : Value} {xs : List Value} (h : w.ownsRow lo e size v n xs) (hk : Keep lo w w') : w'.ownsRow lo e size v n xs := by
  obtain ⟨h1, h2⟩ := h
  refine ⟨h1, ?_⟩
  rcases h2 with h2 | ⟨g, cap, cur, hv, hb, hg, r⟩
  · exact .inl h2
  · exact .inr ⟨g, cap, cur, hv, hb, (hk.block g hb (Array.getElem?_eq_some_iff.1 hg).1).trans hg, r⟩
end
/-- cells stored into a row -/
theorem heap_setCells_same (g : Nat) (e : TypeId) : ∀ (vs : List Value) (o : Nat) (w : World) (cur : Array Value), w.heap[g]? = some (.cells cur e (0, 0)) → o + vs.length ≤ cur.size →
    ∃ cur', (w.setCells g o vs).heap[g]? = some (.cells cur' e (0, 0)) ∧ cur'.size = cur.size ∧ ∀ j, cur'[j]? = if o ≤ j ∧ j < o + vs.length then vs[j - o]? else cur[j]?
  | [], o, w, cur, h, _ => ⟨cur, h, rfl, fun j => by rw [if_neg (by simp <;> omega)]⟩
  | v :: vs, o, w, cur, h, hl => by
    rw [List.length_cons] at hl
    have h' : (w.setCell ⟨g, o, none⟩ v).heap[g]? = some (.cells (cur.setIfInBounds o v) e (0, 0)) := by rw [setCell_eq_setRow w g o cur e (0, 0) v h, setRow_heap _ _ _ _ _ _ h]
    obtain ⟨cur', h1, h2, h3⟩ := heap_setCells_same g e vs (o + 1) _ _ h' (by simp; omega)
    refine ⟨cur', by rw [World.setCells]; exact h1, by simpa using h2, fun j => ?_⟩
    rw [h3 j, List.length_cons]
    by_cases hj : j = o
    · subst hj
      rw [if_neg (by omega), if_pos (by omega), Array.getElem?_setIfInBounds]
      simp
      omega
    · by_cases hk : o ≤ j ∧ j < o + (vs.length + 1)
      · rw [if_pos (by omega), if_pos hk, show j - o = (j - (o + 1)) + 1 by omega, List.getElem?_cons_succ]
      · rw [if_neg (by omega), if_neg hk, Array.getElem?_setIfInBounds, if_neg (by omega)]
/-- the i-th element of a row of one's own is stored anew -/
theorem own_set {α : Type} {f : α → List Value} {k : Nat} (hk : ∀ x, (f x).length = k) {w : World} {lo : Nat} {e : TypeId} {g n c : Nat} {M R : List α} {p q : α} (h : w.ownsRow lo e k (.slice (some ⟨g, 0, none⟩) n c) n ((M ++ p :: R).flatMap f)) :
    (w.setCells g (M.length * k) (f q)).ownsRow lo e k (.slice (some ⟨g, 0, none⟩) n c) n ((M ++ q :: R).flatMap f) := by
  obtain ⟨h1, h2⟩ := h
  have e1 : ((M ++ p :: R).flatMap f).length = (M ++ p :: R).length * k := flatMap_len hk _
  have e2 : ((M ++ q :: R).flatMap f).length = (M ++ q :: R).length * k := flatMap_len hk _
  have e3 : (M ++ p :: R).length = (M ++ q :: R).length := by simp
  have hlen : (M ++ p :: R).length = M.length + (R.length + 1) := by simp
  refine ⟨by rw [e2, ← e3, ← e1, h1], ?_⟩
  rcases h2 with ⟨h2, _⟩ | ⟨g', cap, cur, hv, hb, hg, hnc, hcm, hcs, htk⟩
  · cases h2
  · injection hv with hv hn' hc'
    injection hv with hv
    injection hv with hv
    subst hv hc'
    have hnk : (M ++ p :: R).length * k = n * k := by rw [← e1, h1]
    have hle : M.length * k + k ≤ n * k := by
      rw [← hnk, hlen]
      have : (M.length + (R.length + 1)) * k = M.length * k + k + R.length * k := by rw [Nat.add_mul, Nat.add_mul, Nat.one_mul]; omega
      omega
    have hcc : n * k ≤ c * k := Nat.mul_le_mul_right _ hnc
    obtain ⟨cur', k1, k2, k3⟩ := heap_setCells_same g e (f q) (M.length * k) w cur hg (by rw [hk, hcs]; omega)
    refine .inr ⟨g, c, cur', rfl, hb, k1, hnc, hcm, by rw [k2, hcs], ?_⟩
    refine List.ext_getElem? fun j => ?_
    have a1 : ((M ++ p :: R).flatMap f)[j]? = (M.flatMap f ++ (f p ++ R.flatMap f))[j]? := by simp
    have a2 : ((M ++ q :: R).flatMap f)[j]? = (M.flatMap f ++ (f q ++ R.flatMap f))[j]? := by simp
    have hMl : (M.flatMap f).length = M.length * k := flatMap_len hk _
    rw [a2]
    have b1 : (cur'.toList.take (n * k))[j]? = if j < n * k then cur'[j]? else none := by rw [List.getElem?_take]; simp
    have b2 : (cur.toList.take (n * k))[j]? = if j < n * k then cur[j]? else none := by rw [List.getElem?_take]; simp
    rw [b1]
    have b3 := congrArg (fun l => l[j]?) htk
    rw [b2, a1] at b3
    rw [k3 j, hk]
    by_cases hj : j < n * k
    · rw [if_pos hj] at b3 ⊢
      by_cases hin : M.length * k ≤ j ∧ j < M.length * k + k
      · rw [if_pos hin, List.getElem?_append_right (by omega), hMl, List.getElem?_append_left (by rw [hk]; omega)]
      · rw [if_neg hin, b3]
        by_cases hlo : j < M.length * k
        · rw [List.getElem?_append_left (by omega), List.getElem?_append_left (by omega)]
        · have hA : ∀ u, (M.flatMap f ++ (f u ++ R.flatMap f))[j]? = (R.flatMap f)[j - M.length * k - k]? := fun u => by
            have hu := hk u
            rw [List.getElem?_append_right (by omega), List.getElem?_append_right (by omega), hMl, hu]
          rw [hA, hA]
    · rw [if_neg hj, List.getElem?_eq_none]
      have : (M.flatMap f ++ (f q ++ R.flatMap f)).length = (M ++ q :: R).length * k := by rw [← e2]; simp
      rw [this, ← e3, hnk]
      omega
theorem own_there {w : World} {lo : Nat} {e : TypeId} {g n c k : Nat} {xs : List Value} (h : w.ownsRow lo e k (.slice (some ⟨g, 0, none⟩) n c) n xs) {i : Nat} (hi : i < n) : w.there g (i * k) k := by
  obtain ⟨h1, h2⟩ := h
  rcases h2 with ⟨h2, _⟩ | ⟨g', cap, cur, hv, hb, hg, hnc, hcm, hcs, htk⟩
  · cases h2
  · injection hv with hv hn' hc'
    injection hv with hv
    injection hv with hv
    subst hv hc'
    intro j hj
    have hle : i * k + k ≤ n * k := by
      have : (i + 1) * k ≤ n * k := Nat.mul_le_mul_right _ hi
      rw [Nat.add_mul, Nat.one_mul] at this
      exact this
    have hcc : n * k ≤ c * k := Nat.mul_le_mul_right _ hnc
    refine ⟨?_, by simp [World.frozen?, hg]⟩
    rw [cell_of_row w g (i * k + j) cur e (0, 0) hg, Array.getElem?_eq_getElem (by omega)]
    rfl
theorem own_form {w : World} {lo : Nat} {e : TypeId} {n c k : Nat} {A : Option Addr} {xs : List Value} (h : w.ownsRow lo e k (.slice A n c) n xs) (hn : 0 < n) : ∃ g, A = some ⟨g, 0, none⟩ ∧ lo ≤ g ∧ g < w.heap.size := by
  obtain ⟨g, cap, hv, h1, h2⟩ := h.form hn
  injection hv with hv
  exact ⟨g, hv, h1, h2⟩

/-! ### slices of one's own, and what they are as slices that lie -/
structure OwSl {α : Type} (w : World) (lo : Nat) (e : TypeId) (k : Nat) (f : α → List Value) (R : α → Prop) (s : SlW α) : Prop where
  row : w.ownsRow lo e k s.val s.n (s.L.flatMap f)
  all : ∀ x ∈ s.L, R x
section
variable {α β : Type} {w w' : World} {lo lo' : Nat} {e : TypeId} {k : Nat} {f : α → List Value} {R R' Q : α → Prop} {s s' : SlW α} {v : α → β}
theorem OwSl.keep (h : OwSl w lo e k f R s) (hk : Keep lo w w') (hR : ∀ x, R x → R' x) : OwSl w' lo e k f R' s := ⟨own_keep h.row hk, fun x hx => hR x (h.all x hx)⟩
theorem OwSl.base (h : OwSl w lo e k f R s) (hl : lo' ≤ lo) (hR : ∀ x, R x → R' x) : OwSl w lo' e k f R' s := ⟨ownsRow_base h.row hl, fun x hx => hR x (h.all x hx)⟩
theorem own_len (hk : ∀ x, (f x).length = k) (h0 : 0 < k) {L : List α} {n : Nat} {u : Value} (h : w.ownsRow lo e k u n (L.flatMap f)) : L.length = n := by
  have := h.1
  rw [flatMap_len hk] at this
  exact Nat.eq_of_mul_eq_mul_right h0 this
theorem own_sl (hk : ∀ x, (f x).length = k) (h0 : 0 < k) (h : w.ownsRow lo e k s.val s.n (s.L.flatMap f)) (hQ : ∀ x ∈ s.L, Q x) : SlH w w.heap.size k f Q s := by
  obtain ⟨A, n, c, L⟩ := s
  have hc : n ≤ c ∧ c ≤ maxLen := by
    rcases h.2 with ⟨h2, rfl⟩ | ⟨g, cap, cur, hv, _, _, h3, h4, _⟩
    · injection h2 with _ _ h2
      subst h2
      exact ⟨Nat.le_refl _, Nat.zero_le _⟩
    · injection hv with _ _ hv
      subst hv
      exact ⟨h3, h4⟩
  exact ⟨hc.1, hc.2, Cells.of_own hk h0 h, hQ⟩
/-- what holds of each element holds of each of its copy -/
theorem all_of_map {Q' : α → Prop} {L L' : List α} (he : L'.map v = L.map v) (hR : ∀ x ∈ L', R x) (hQ : ∀ x ∈ L, Q x) (hall : ∀ x x', v x' = v x → R x' → Q x → Q' x') : ∀ x' ∈ L', Q' x' := fun x' hx' => by
  have : v x' ∈ L.map v := he ▸ List.mem_map.2 ⟨x', hx', rfl⟩
  obtain ⟨x, hx, e⟩ := List.mem_map.1 this
  exact hall x x' e.symm (hR x' hx') (hQ x hx)
end

abbrev OwPl (w : World) (lo : Nat) (x : PlW) : Prop := w.ownsRow lo 135 2 (.slice x.A x.n x.c) x.n (x.ps.flatMap pV)
abbrev OwOp (w : World) (lo : Nat) (x : OpW) : Prop := OwPl w lo x.pl
abbrev OwOps (w : World) (lo : Nat) (s : SlW OpW) : Prop := OwSl w lo 96 4 cOp (OwOp w lo) s
abbrev OwInts (w : World) (lo : Nat) (s : SlW Int) : Prop := w.ownsRow lo 3 1 s.val s.n (s.L.flatMap cInt)
structure OwRv (w : World) (lo : Nat) (x : RvW) : Prop where
  pl : OwPl w lo x.pl
  args : OwOps w lo x.args
structure OwSt (w : World) (lo : Nat) (x : StW) : Prop where
  pl : OwPl w lo x.pl
  rv : OwRv w lo x.rv
structure OwTm (w : World) (lo : Nat) (x : TmW) : Prop where
  targets : OwInts w lo x.targets
  args : OwOps w lo x.args
  pl : OwPl w lo x.pl
abbrev OwSts (w : World) (lo : Nat) (s : SlW StW) : Prop := OwSl w lo 58 11 cSt (OwSt w lo) s
structure OwBk (w : World) (lo : Nat) (x : BkW) : Prop where
  stmts : OwSts w lo x.stmts
  term : OwTm w lo x.term
abbrev OwTy (w : World) (lo : Nat) (x : TyW) : Prop := w.ownsRow lo 3 1 (.slice x.A x.n x.c) x.n (x.t.fields.flatMap cInt)
structure OwBd (w : World) (lo : Nat) (x : BdW) : Prop where
  regions : w.ownsRow lo 9 1 x.regions.val x.regions.n (x.regions.L.flatMap cStr)
  outl : w.ownsRow lo 49 2 x.outl.val x.outl.n (x.outl.L.flatMap pV)
  types : OwSl w lo 51 5 c5 (OwTy w lo) x.types
  locals : w.ownsRow lo 54 2 x.locals.val x.locals.n (x.locals.L.flatMap cLc)
  blocks : OwSl w lo 44 7 cBk (OwBk w lo) x.blocks
section
variable {w w' : World} {lo lo' : Nat}
theorem OwOps.keep {s : SlW OpW} (h : OwOps w lo s) (hk : Keep lo w w') : OwOps w' lo s := OwSl.keep h hk fun _ h => own_keep h hk
theorem OwRv.keep {x : RvW} (h : OwRv w lo x) (hk : Keep lo w w') : OwRv w' lo x := ⟨own_keep h.pl hk, OwOps.keep h.args hk⟩
theorem OwSt.keep {x : StW} (h : OwSt w lo x) (hk : Keep lo w w') : OwSt w' lo x := ⟨own_keep h.pl hk, h.rv.keep hk⟩
theorem OwTm.keep {x : TmW} (h : OwTm w lo x) (hk : Keep lo w w') : OwTm w' lo x := ⟨own_keep h.targets hk, OwOps.keep h.args hk, own_keep h.pl hk⟩
theorem OwSts.keep {s : SlW StW} (h : OwSts w lo s) (hk : Keep lo w w') : OwSts w' lo s := OwSl.keep h hk fun _ h => h.keep hk
theorem OwBk.keep {x : BkW} (h : OwBk w lo x) (hk : Keep lo w w') : OwBk w' lo x := ⟨OwSts.keep h.stmts hk, h.term.keep hk⟩
theorem OwBd.keep {x : BdW} (h : OwBd w lo x) (hk : Keep lo w w') : OwBd w' lo x := ⟨own_keep h.regions hk, own_keep h.outl hk, OwSl.keep h.types hk fun _ h => own_keep h hk, own_keep h.locals hk, OwSl.keep h.blocks hk fun _ h => h.keep hk⟩
theorem OwOps.base {s : SlW OpW} (h : OwOps w lo s) (hk : lo' ≤ lo) : OwOps w lo' s := OwSl.base h hk fun _ h => ownsRow_base h hk
theorem OwRv.base {x : RvW} (h : OwRv w lo x) (hk : lo' ≤ lo) : OwRv w lo' x := ⟨ownsRow_base h.pl hk, OwOps.base h.args hk⟩
theorem OwSt.base {x : StW} (h : OwSt w lo x) (hk : lo' ≤ lo) : OwSt w lo' x := ⟨ownsRow_base h.pl hk, h.rv.base hk⟩
theorem OwTm.base {x : TmW} (h : OwTm w lo x) (hk : lo' ≤ lo) : OwTm w lo' x := ⟨ownsRow_base h.targets hk, OwOps.base h.args hk, ownsRow_base h.pl hk⟩
theorem OwSts.base {s : SlW StW} (h : OwSts w lo s) (hk : lo' ≤ lo) : OwSts w lo' s := OwSl.base h hk fun _ h => h.base hk
theorem OwBk.base {x : BkW} (h : OwBk w lo x) (hk : lo' ≤ lo) : OwBk w lo' x := ⟨OwSts.base h.stmts hk, h.term.base hk⟩
end
/-! ### what lies of a copy -/
section
variable {w w' : World} {lo B : Nat}
theorem OnePl.of_own {x x' : PlW} (h : OnePl w B x) (e : x'.v = x.v) (o : OwPl w' lo x') : OnePl w' w'.heap.size x' := by
  obtain ⟨l, A, n, c, ps⟩ := x
  obtain ⟨l', A', n', c', ps'⟩ := x'
  simp only [PlW.v, PlV.mk.injEq] at e
  obtain ⟨rfl, rfl⟩ := e
  have hs : SlH w' w'.heap.size 2 pV IntP ⟨A', n', c', ps'⟩ := own_sl (s := ⟨A', n', c', ps'⟩) pV_len (by decide) o h.prs.int
  exact ⟨hs.nc, hs.cm, h.l, ⟨hs.cells, hs.all⟩⟩
theorem OneOp.of_own {x x' : OpW} (h : OneOp w B x) (e : x'.v = x.v) (o : OwOp w' lo x') : OneOp w' w'.heap.size x' := by
  obtain ⟨k, p, z⟩ := x
  obtain ⟨k', p', z'⟩ := x'
  simp only [OpW.v, OpV.mk.injEq] at e
  obtain ⟨rfl, e2, rfl⟩ := e
  exact ⟨h.kind, h.pl.of_own e2 o, h.n⟩
theorem Ops.of_own {s s' : SlW OpW} (h : Ops w B s) (e : s'.L.map OpW.v = s.L.map OpW.v) (o : OwOps w' lo s') : Ops w' w'.heap.size s' :=
  own_sl cOp_len (by decide) o.row (all_of_map e o.all h.all fun _ _ e' o' h' => h'.of_own e' o')
theorem OneRv.of_own {x x' : RvW} (h : OneRv w B x) (e : x'.v = x.v) (o : OwRv w' lo x') : OneRv w' w'.heap.size x' := by
  obtain ⟨k, op, r, m, p, a⟩ := x
  obtain ⟨k', op', r', m', p', a'⟩ := x'
  simp only [RvW.v, RvV.mk.injEq] at e
  obtain ⟨rfl, rfl, rfl, rfl, e2, e3⟩ := e
  exact ⟨h.kind, h.op, h.region, h.pl.of_own e2 o.pl, Ops.of_own h.args e3 o.args⟩
theorem OneSt.of_own {x x' : StW} (h : OneSt w B x) (e : x'.v = x.v) (o : OwSt w' lo x') : OneSt w' w'.heap.size x' := by
  obtain ⟨k, p, r, z⟩ := x
  obtain ⟨k', p', r', z'⟩ := x'
  simp only [StW.v, StV.mk.injEq] at e
  obtain ⟨rfl, e2, e3, rfl⟩ := e
  exact ⟨h.kind, h.pl.of_own e2 o.pl, h.rv.of_own e3 o.rv, h.loc⟩
theorem Ints.of_own {s s' : SlW Int} (h : Ints w B s) (e : s'.L = s.L) (o : OwInts w' lo s') : Ints w' w'.heap.size s' := own_sl cInt_len (by decide) o (e ▸ h.all)
theorem OneTm.of_own {x x' : TmW} (h : OneTm w B x) (e : x'.v = x.v) (o : OwTm w' lo x') : OneTm w' w'.heap.size x' := by
  obtain ⟨k, t, a, p, nm⟩ := x
  obtain ⟨k', t', a', p', nm'⟩ := x'
  simp only [TmW.v, TmV.mk.injEq] at e
  obtain ⟨rfl, e1, e2, e3, rfl⟩ := e
  exact ⟨h.kind, Ints.of_own h.targets e1 o.targets, Ops.of_own h.args e2 o.args, h.pl.of_own e3 o.pl, h.name⟩
theorem OneBk.of_own {x x' : BkW} (h : OneBk w B x) (e : x'.v = x.v) (o : OwBk w' lo x') : OneBk w' w'.heap.size x' := by
  obtain ⟨s, t⟩ := x
  obtain ⟨s', t'⟩ := x'
  simp only [BkW.v, BkV.mk.injEq] at e
  exact ⟨own_sl cSt_len (by decide) o.stmts.row (all_of_map e.1 o.stmts.all h.stmts.all fun _ _ e' o' h' => h'.of_own e' o'), h.term.of_own e.2 o.term⟩
theorem OneT.of_own {x x' : TyW} (h : OneT w B x) (e : x'.t = x.t) (o : OwTy w' lo x') : OneT w' w'.heap.size x' := by
  obtain ⟨t, A, n, c⟩ := x
  obtain ⟨t', A', n', c'⟩ := x'
  simp only [] at e
  subst e
  have hs : Ints w' w'.heap.size ⟨A', n', c', t'.fields⟩ := own_sl (s := ⟨A', n', c', t'.fields⟩) cInt_len (by decide) o h.ok.f
  exact ⟨⟨hs.nc, hs.cm, hs.len, h.ok.k, h.ok.r, h.ok.e, hs.all⟩, hs.rd⟩
theorem OneBd.of_own {x x' : BdW} (h : OneBd w B x) (e : x'.v = x.v) (o : OwBd w' lo x') : OneBd w' w'.heap.size x' := by
  obtain ⟨nm, r, ol, t, l, a, b⟩ := x
  obtain ⟨nm', r', ol', t', l', a', b'⟩ := x'
  simp only [BdW.v, BdV.mk.injEq, tys] at e
  obtain ⟨rfl, e1, e2, e3, e4, rfl, e5⟩ := e
  refine ⟨h.name, own_sl cStr_len (by decide) o.regions (e1 ▸ h.regions.all), own_sl pV_len (by decide) o.outl (e2 ▸ h.outl.all), own_sl c5_len (by decide) o.types.row (all_of_map (v := TyW.t) e3 o.types.all h.types.all fun _ _ e' o' h' => h'.of_own e' o'),
    own_sl cLc_len (by decide) o.locals (all_of_map (v := LcW.v) (R := fun _ => True) e4 (fun _ _ => trivial) h.locals.all fun y y' e' _ h' => ?_), h.args, own_sl cBk_len (by decide) o.blocks.row (all_of_map e5 o.blocks.all h.blocks.all fun _ _ e' o' h' => h'.of_own e' o')⟩
  simp only [LcW.v, LcV.mk.injEq] at e'
  rw [e'.1, e'.2]
  exact h'
end
/-- what a copying function hands back -/
def ClOut {α β : Type} (agg : α → Value) (v : α → β) (Ow : World → Nat → α → Prop) (w : World) (x : α) (e : Ending) (w' : World) : Prop :=
  ∃ x', e = .returned (agg x') ∧ v x' = v x ∧ Ow w' w.heap.size x' ∧ Below w.heap.size w w'
end Go.Proofs.YtbdimnncobpfdaaGreat

/- cloneEach at its four types. -/
set_option linter.unusedVariables false
set_option linter.unusedSimpArgs false
namespace Go.Proofs.YtbdimnncobpfdaaGreat
open Go.RowKit Go.Shelf

theorem RowKit.below_setCells9 {B g : Nat} {w0 : World} (hg : B ≤ g) : ∀ (vs : List Value) (o : Nat) {w : World}, Below B w0 w → Below B w0 (w.setCells g o vs)
  | [], _, _, h => h
  | v :: vs, o, w, h => by
    rw [World.setCells]
    exact RowKit.below_setCells9 hg vs (o + 1) (h.setCell (p := ⟨g, o, none⟩) hg v)

abbrev SlOutOp (w : World) (s : SlW OpW) (e : Ending) (w' : World) : Prop := ∃ s' : SlW OpW, e = .returned s'.val ∧ s'.L.map OpW.v = s.L.map OpW.v ∧ OwSl w' w.heap.size 96 4 cOp (OwOp w' w.heap.size) s' ∧ Below w.heap.size w w'
set_option maxHeartbeats 1000000 in
set_option maxRecDepth 100000 in
theorem EachOp_any (K : FuncId) (s : SlW OpW) (w : World) (hs : SlH w w.heap.size 4 cOp (OneOp w w.heap.size) s) (hE : Enters Tryz.prog K) (hn : s.n ≤ 2 ^ 39)
    (hK : ∀ x ∈ s.L, ∀ w1, Below w.heap.size w w1 → Calls Tryz.prog K #[aggOp x] w1 (ClOut aggOp OpW.v OwOp w1 x)) :
    Calls Tryz.prog 53 #[s.val, .func (.func K) #[] #[]] w (SlOutOp w s) := by
  have HCL := hide (ClnOp_any s w hs hn)
  have HL := hide hs.len
  have HK := hide hK
  have hn9 := hn
  obtain ⟨A, n, c, xs⟩ := s
  simp only [] at hn9
  clear hs hK hn
  have en := hE
  unfold Enters at en
  have HSZ : ∀ {q : OpW}, Hid ((Tryz.prog.info? 96).map (·.size) = some (cOp q).toArray.size) := hide (by kernel_rfl)
  show Calls Tryz.prog 53 #[.slice A n c, .func (.func K) #[] #[]] w _
  go_enter Tryz.func53, Tryz.ntmps53
  go_wp2_with fail
  refine HCL.out.mono ?_
  rintro e0 w0 ⟨⟨A', n', c', L'⟩, h9, hL', ho9, hb⟩
  obtain rfl : e0 = .returned (.slice A' n' c') := h9
  have ho : w0.ownsRow w.heap.size 96 4 (.slice A' n' c') n' (L'.flatMap cOp) := ho9
  clear ho9
  simp only [] at hL'
  have hL9 := hL'.symm
  subst hL9
  have hlen : xs.length = n := HL.out
  obtain rfl : n' = n := by
    have := own_len (f := cOp) cOp_len (by decide) ho
    omega
  have HO := hide ho
  have HB0 := hide hb
  obtain ⟨lo, hlo⟩ : ∃ lo, w0.heap.size = lo := ⟨_, rfl⟩
  have HLO := hide hlo
  have hle0 : w.heap.size ≤ lo := hlo ▸ hb.size
  clear ho hb hlo HCL
  go_wp2
  go_loopw [12] (fun i wr => ∃ j : Nat, ∃ M : List OpW, i = .int .i64 (j : Int) ∧ j ≤ n' ∧ Hid (M.length = j) ∧ Hid (M.map OpW.v = (xs.take j).map OpW.v) ∧ Hid (wr.ownsRow w.heap.size 96 4 (.slice A' n' c') n' ((M ++ xs.drop j).flatMap cOp)) ∧ Hid (∀ x ∈ M, OwOp wr lo x) ∧ Hid (lo ≤ wr.heap.size) ∧ Hid (Below w.heap.size w wr)) (fun i _ => n' - (intOf i).toNat)
  case atStart => exact ⟨0, [], rfl, Nat.zero_le _, hide rfl, hide rfl, hide HO.out, hide (fun x hx => by cases hx), hide (Nat.le_of_eq HLO.out.symm), hide HB0.out⟩
  case round =>
    obtain ⟨j, M, rfl, hj, HM, HV, HR, HA, HS, HB⟩ := hrel
    by_cases hlt : j < n'
    · obtain ⟨g, hA, hgl, hgr⟩ := own_form HR.out (by omega)
      subst hA
      have hlt' : (j : Int) < (n' : Int) := by omega
      obtain ⟨p, hp⟩ : ∃ p, xs[j]? = some p := ⟨_, List.getElem?_eq_getElem (by omega)⟩
      have hdrop : xs.drop j = p :: xs.drop (j + 1) := by
        rw [← List.getElem_cons_drop (by omega : j < xs.length)]
        rw [List.getElem?_eq_getElem (by omega)] at hp
        injection hp with hp
        rw [hp]
      have HR2 := hide (show wr.ownsRow w.heap.size 96 4 (.slice (some ⟨g, 0, none⟩) n' c') n' ((M ++ p :: xs.drop (j + 1)).flatMap cOp) from hdrop ▸ HR.out)
      have hcl : Cells wr wr.heap.size 4 cOp (some ⟨g, 0, none⟩) n' (M ++ p :: xs.drop (j + 1)) := Cells.of_own cOp_len (by decide) HR2.out
      obtain ⟨b, o, hbo, _, cz⟩ := hcl.at_ (i := j) (x := p) (by rw [List.getElem?_append_right (by have := HM.out; omega), HM.out, Nat.sub_self]; rfl)
      injection hbo with hbo
      injection hbo with hb1 hb2
      subst hb1 hb2
      have c0 : wr.cell? ⟨g, j * 4, none⟩ = some (.int .i64 p.kind) := by simpa using cz 0 _ rfl
      have c1 : wr.cell? ⟨g, j * 4 + 1, none⟩ = some (.int .i64 p.pl.l) := by simpa using cz 1 _ rfl
      have c2 : wr.cell? ⟨g, j * 4 + 2, none⟩ = some (.slice p.pl.A p.pl.n p.pl.c) := by simpa using cz 2 _ rfl
      have c3 : wr.cell? ⟨g, j * 4 + 3, none⟩ = some (.int .i64 p.n) := by simpa using cz 3 _ rfl
      have HBQ := hide ((Below.refl wr.heap.size wr).alloc (Nat.le_refl _) (.cells #[.int .i64 p.kind, .int .i64 p.pl.l, .slice p.pl.A p.pl.n p.pl.c, .int .i64 p.n] 96))
      have HC := hide (HK.out p (List.mem_of_getElem? hp))
      have hgo : g < lo := by
        rcases Nat.lt_or_ge g lo with h | h
        · exact h
        · exfalso
          obtain ⟨g', hg', _, hlt9⟩ := own_form HO.out (by omega)
          injection hg' with hg'
          injection hg' with hg'
          have := HLO.out
          omega
      have HP := hide hp
      have HD := hide hdrop
      clear hp hdrop hcl cz
      go_wp2_with fail
      try go_at_fn K
      refine (HC.out _ ((HB.out.trans (HBQ.out.mono HB.out.size)))).mono ?_
      rintro e w1 ⟨q, rfl, hqv, hqo, hb0⟩
      have HK1 := hide ((Keep.of_below HBQ.out).trans (Keep.of_below (lo := lo) hb0))
      have HR3 := hide (own_keep HR2.out (((Keep.of_below HBQ.out).trans (Keep.of_below hb0)) : Keep w.heap.size wr w1))
      have hth := own_there HR3.out hlt
      have HB1 := hide ((HB.out.trans (HBQ.out.mono HB.out.size)).trans (hb0.mono (Nat.le_trans HB.out.size HBQ.out.size)))
      have HQ := hide (show OwOp w1 lo q from (fun {lo'} h K => ownsRow_base h K : ∀ {lo'}, OwOp w1 lo' q → lo ≤ lo' → OwOp w1 lo q) hqo (Nat.le_trans HS.out HBQ.out.size))
      have HQV := hide hqv
      have HS1 := hide (Nat.le_trans HS.out (Nat.le_trans HBQ.out.size hb0.size))
      clear hqv hqo hb0 c0 c1 c2 c3
      have HONE := hide (all_oneCell_toArray (cs := cOp q) (cOp_one q))
      have HTH := hide (show w1.there g (j * 4) (cOp q).toArray.size from hth)
      clear hth
      go_wp2_with (refine wpList_store_mid rfl 96 _ _ rfl g (j * 4) (cOp q).toArray rfl rfl ?_ ?_ ?_ ?_; exact HTH.out; exact HSZ.out; exact HONE.out)
      have HR4 := hide (own_set (f := cOp) cOp_len (q := q) HR3.out)
      have hk4 : Keep lo w1 (w1.setCells g (j * 4) (cOp q)) := Keep.setCells hgo _ _ _
      go_roundw
      case rel =>
        refine ⟨j + 1, M ++ [q], by go_num, by omega, hide ?_, hide ?_, hide ?_, hide ?_, hide ?_, hide ?_⟩
        · rw [List.length_append, HM.out]; rfl
        · rw [List.map_append, HV.out, List.take_add_one, HP.out, List.map_append]
          simp [HQV.out]
        · have := HR4.out
          rw [HM.out] at this
          simpa using this
        · intro x hx
          rcases List.mem_append.1 hx with hx | hx
          · have h := HA.out x hx
            have K := HK1.out.trans hk4
            exact own_keep h K
          · obtain rfl : x = q := by simpa using hx
            have h := HQ.out
            have K := hk4
            exact own_keep h K
        · exact Nat.le_trans HS1.out hk4.size
        · exact RowKit.below_setCells9 hgl _ _ HB1.out
      case measure => simp [intOf]; omega
    · obtain rfl : j = n' := by omega
      have hV : M.map OpW.v = xs.map OpW.v := by rw [HV.out, List.take_of_length_le (by omega)]
      have hR : wr.ownsRow w.heap.size 96 4 (.slice A' j c') j (M.flatMap cOp) := by
        have := HR.out
        rw [List.drop_of_length_le (by omega), List.append_nil] at this
        exact this
      have HV2 := hide hV
      have HR2 := hide hR
      clear hV hR
      go_wp2
      go_ret
      exact ⟨⟨A', j, c', M⟩, rfl, HV2.out, ⟨HR2.out, fun x h => (fun {lo'} h K => ownsRow_base h K : ∀ {lo'}, OwOp wr lo' x → w.heap.size ≤ lo' → OwOp wr w.heap.size x) (HA.out x h) hle0⟩, HB.out⟩

abbrev SlOutTy (w : World) (s : SlW TyW) (e : Ending) (w' : World) : Prop := ∃ s' : SlW TyW, e = .returned s'.val ∧ s'.L.map TyW.t = s.L.map TyW.t ∧ OwSl w' w.heap.size 51 5 c5 (OwTy w' w.heap.size) s' ∧ Below w.heap.size w w'
set_option maxHeartbeats 1000000 in
set_option maxRecDepth 100000 in
theorem EachTy_any (K : FuncId) (s : SlW TyW) (w : World) (hs : SlH w w.heap.size 5 c5 (OneT w w.heap.size) s) (hE : Enters Tryz.prog K) (hn : s.n ≤ 2 ^ 39)
    (hK : ∀ x ∈ s.L, ∀ w1, Below w.heap.size w w1 → Calls Tryz.prog K #[aggT x] w1 (ClOut aggT TyW.t OwTy w1 x)) :
    Calls Tryz.prog 58 #[s.val, .func (.func K) #[] #[]] w (SlOutTy w s) := by
  have HCL := hide (ClnTy_any s w hs hn)
  have HL := hide hs.len
  have HK := hide hK
  have hn9 := hn
  obtain ⟨A, n, c, xs⟩ := s
  simp only [] at hn9
  clear hs hK hn
  have en := hE
  unfold Enters at en
  have HSZ : ∀ {q : TyW}, Hid ((Tryz.prog.info? 51).map (·.size) = some (c5 q).toArray.size) := hide (by kernel_rfl)
  show Calls Tryz.prog 58 #[.slice A n c, .func (.func K) #[] #[]] w _
  go_enter Tryz.func58, Tryz.ntmps58
  go_wp2_with fail
  refine HCL.out.mono ?_
  rintro e0 w0 ⟨⟨A', n', c', L'⟩, h9, hL', ho9, hb⟩
  obtain rfl : e0 = .returned (.slice A' n' c') := h9
  have ho : w0.ownsRow w.heap.size 51 5 (.slice A' n' c') n' (L'.flatMap c5) := ho9
  clear ho9
  simp only [] at hL'
  have hL9 := hL'.symm
  subst hL9
  have hlen : xs.length = n := HL.out
  obtain rfl : n' = n := by
    have := own_len (f := c5) c5_len (by decide) ho
    omega
  have HO := hide ho
  have HB0 := hide hb
  obtain ⟨lo, hlo⟩ : ∃ lo, w0.heap.size = lo := ⟨_, rfl⟩
  have HLO := hide hlo
  have hle0 : w.heap.size ≤ lo := hlo ▸ hb.size
  clear ho hb hlo HCL
  go_wp2
  go_loopw [12] (fun i wr => ∃ j : Nat, ∃ M : List TyW, i = .int .i64 (j : Int) ∧ j ≤ n' ∧ Hid (M.length = j) ∧ Hid (M.map TyW.t = (xs.take j).map TyW.t) ∧ Hid (wr.ownsRow w.heap.size 51 5 (.slice A' n' c') n' ((M ++ xs.drop j).flatMap c5)) ∧ Hid (∀ x ∈ M, OwTy wr lo x) ∧ Hid (lo ≤ wr.heap.size) ∧ Hid (Below w.heap.size w wr)) (fun i _ => n' - (intOf i).toNat)
  case atStart => exact ⟨0, [], rfl, Nat.zero_le _, hide rfl, hide rfl, hide HO.out, hide (fun x hx => by cases hx), hide (Nat.le_of_eq HLO.out.symm), hide HB0.out⟩
  case round =>
    obtain ⟨j, M, rfl, hj, HM, HV, HR, HA, HS, HB⟩ := hrel
    by_cases hlt : j < n'
    · obtain ⟨g, hA, hgl, hgr⟩ := own_form HR.out (by omega)
      subst hA
      have hlt' : (j : Int) < (n' : Int) := by omega
      obtain ⟨p, hp⟩ : ∃ p, xs[j]? = some p := ⟨_, List.getElem?_eq_getElem (by omega)⟩
      have hdrop : xs.drop j = p :: xs.drop (j + 1) := by
        rw [← List.getElem_cons_drop (by omega : j < xs.length)]
        rw [List.getElem?_eq_getElem (by omega)] at hp
        injection hp with hp
        rw [hp]
      have HR2 := hide (show wr.ownsRow w.heap.size 51 5 (.slice (some ⟨g, 0, none⟩) n' c') n' ((M ++ p :: xs.drop (j + 1)).flatMap c5) from hdrop ▸ HR.out)
      have hcl : Cells wr wr.heap.size 5 c5 (some ⟨g, 0, none⟩) n' (M ++ p :: xs.drop (j + 1)) := Cells.of_own c5_len (by decide) HR2.out
      obtain ⟨b, o, hbo, _, cz⟩ := hcl.at_ (i := j) (x := p) (by rw [List.getElem?_append_right (by have := HM.out; omega), HM.out, Nat.sub_self]; rfl)
      injection hbo with hbo
      injection hbo with hb1 hb2
      subst hb1 hb2
      have c0 : wr.cell? ⟨g, j * 5, none⟩ = some (.int .i64 p.t.kind) := by simpa using cz 0 _ rfl
      have c1 : wr.cell? ⟨g, j * 5 + 1, none⟩ = some (.bool p.t.mut_) := by simpa using cz 1 _ rfl
      have c2 : wr.cell? ⟨g, j * 5 + 2, none⟩ = some (.int .i64 p.t.region) := by simpa using cz 2 _ rfl
      have c3 : wr.cell? ⟨g, j * 5 + 3, none⟩ = some (.int .i64 p.t.elem) := by simpa using cz 3 _ rfl
      have c4 : wr.cell? ⟨g, j * 5 + 4, none⟩ = some (.slice p.A p.n p.c) := by simpa using cz 4 _ rfl
      have HBQ := hide ((Below.refl wr.heap.size wr).alloc (Nat.le_refl _) (.cells #[.int .i64 p.t.kind, .bool p.t.mut_, .int .i64 p.t.region, .int .i64 p.t.elem, .slice p.A p.n p.c] 51))
      have HC := hide (HK.out p (List.mem_of_getElem? hp))
      have hgo : g < lo := by
        rcases Nat.lt_or_ge g lo with h | h
        · exact h
        · exfalso
          obtain ⟨g', hg', _, hlt9⟩ := own_form HO.out (by omega)
          injection hg' with hg'
          injection hg' with hg'
          have := HLO.out
          omega
      have HP := hide hp
      have HD := hide hdrop
      clear hp hdrop hcl cz
      go_wp2_with fail
      try go_at_fn K
      refine (HC.out _ ((HB.out.trans (HBQ.out.mono HB.out.size)))).mono ?_
      rintro e w1 ⟨q, rfl, hqv, hqo, hb0⟩
      have HK1 := hide ((Keep.of_below HBQ.out).trans (Keep.of_below (lo := lo) hb0))
      have HR3 := hide (own_keep HR2.out (((Keep.of_below HBQ.out).trans (Keep.of_below hb0)) : Keep w.heap.size wr w1))
      have hth := own_there HR3.out hlt
      have HB1 := hide ((HB.out.trans (HBQ.out.mono HB.out.size)).trans (hb0.mono (Nat.le_trans HB.out.size HBQ.out.size)))
      have HQ := hide (show OwTy w1 lo q from (fun {lo'} h K => ownsRow_base h K : ∀ {lo'}, OwTy w1 lo' q → lo ≤ lo' → OwTy w1 lo q) hqo (Nat.le_trans HS.out HBQ.out.size))
      have HQV := hide hqv
      have HS1 := hide (Nat.le_trans HS.out (Nat.le_trans HBQ.out.size hb0.size))
      clear hqv hqo hb0 c0 c1 c2 c3 c4
      have HONE := hide (all_oneCell_toArray (cs := c5 q) (c5_one9 q))
      have HTH := hide (show w1.there g (j * 5) (c5 q).toArray.size from hth)
      clear hth
      go_wp2_with (refine wpList_store_mid rfl 51 _ _ rfl g (j * 5) (c5 q).toArray rfl rfl ?_ ?_ ?_ ?_; exact HTH.out; exact HSZ.out; exact HONE.out)
      have HR4 := hide (own_set (f := c5) c5_len (q := q) HR3.out)
      have hk4 : Keep lo w1 (w1.setCells g (j * 5) (c5 q)) := Keep.setCells hgo _ _ _
      go_roundw
      case rel =>
        refine ⟨j + 1, M ++ [q], by go_num, by omega, hide ?_, hide ?_, hide ?_, hide ?_, hide ?_, hide ?_⟩
        · rw [List.length_append, HM.out]; rfl
        · rw [List.map_append, HV.out, List.take_add_one, HP.out, List.map_append]
          simp [HQV.out]
        · have := HR4.out
          rw [HM.out] at this
          simpa using this
        · intro x hx
          rcases List.mem_append.1 hx with hx | hx
          · have h := HA.out x hx
            have K := HK1.out.trans hk4
            exact own_keep h K
          · obtain rfl : x = q := by simpa using hx
            have h := HQ.out
            have K := hk4
            exact own_keep h K
        · exact Nat.le_trans HS1.out hk4.size
        · exact RowKit.below_setCells9 hgl _ _ HB1.out
      case measure => simp [intOf]; omega
    · obtain rfl : j = n' := by omega
      have hV : M.map TyW.t = xs.map TyW.t := by rw [HV.out, List.take_of_length_le (by omega)]
      have hR : wr.ownsRow w.heap.size 51 5 (.slice A' j c') j (M.flatMap c5) := by
        have := HR.out
        rw [List.drop_of_length_le (by omega), List.append_nil] at this
        exact this
      have HV2 := hide hV
      have HR2 := hide hR
      clear hV hR
      go_wp2
      go_ret
      exact ⟨⟨A', j, c', M⟩, rfl, HV2.out, ⟨HR2.out, fun x h => (fun {lo'} h K => ownsRow_base h K : ∀ {lo'}, OwTy wr lo' x → w.heap.size ≤ lo' → OwTy wr w.heap.size x) (HA.out x h) hle0⟩, HB.out⟩

abbrev SlOutSt (w : World) (s : SlW StW) (e : Ending) (w' : World) : Prop := ∃ s' : SlW StW, e = .returned s'.val ∧ s'.L.map StW.v = s.L.map StW.v ∧ OwSl w' w.heap.size 58 11 cSt (OwSt w' w.heap.size) s' ∧ Below w.heap.size w w'
set_option maxHeartbeats 1000000 in
set_option maxRecDepth 100000 in
theorem EachSt_any (K : FuncId) (s : SlW StW) (w : World) (hs : SlH w w.heap.size 11 cSt (OneSt w w.heap.size) s) (hE : Enters Tryz.prog K) (hn : s.n ≤ 2 ^ 39)
    (hK : ∀ x ∈ s.L, ∀ w1, Below w.heap.size w w1 → Calls Tryz.prog K #[aggSt x] w1 (ClOut aggSt StW.v OwSt w1 x)) :
    Calls Tryz.prog 90 #[s.val, .func (.func K) #[] #[]] w (SlOutSt w s) := by
  have HCL := hide (ClnSt_any s w hs hn)
  have HL := hide hs.len
  have HK := hide hK
  have hn9 := hn
  obtain ⟨A, n, c, xs⟩ := s
  simp only [] at hn9
  clear hs hK hn
  have en := hE
  unfold Enters at en
  have HSZ : ∀ {q : StW}, Hid ((Tryz.prog.info? 58).map (·.size) = some (cSt q).toArray.size) := hide (by kernel_rfl)
  show Calls Tryz.prog 90 #[.slice A n c, .func (.func K) #[] #[]] w _
  go_enter Tryz.func90, Tryz.ntmps90
  go_wp2_with fail
  refine HCL.out.mono ?_
  rintro e0 w0 ⟨⟨A', n', c', L'⟩, h9, hL', ho9, hb⟩
  obtain rfl : e0 = .returned (.slice A' n' c') := h9
  have ho : w0.ownsRow w.heap.size 58 11 (.slice A' n' c') n' (L'.flatMap cSt) := ho9
  clear ho9
  simp only [] at hL'
  have hL9 := hL'.symm
  subst hL9
  have hlen : xs.length = n := HL.out
  obtain rfl : n' = n := by
    have := own_len (f := cSt) cSt_len (by decide) ho
    omega
  have HO := hide ho
  have HB0 := hide hb
  obtain ⟨lo, hlo⟩ : ∃ lo, w0.heap.size = lo := ⟨_, rfl⟩
  have HLO := hide hlo
  have hle0 : w.heap.size ≤ lo := hlo ▸ hb.size
  clear ho hb hlo HCL
  go_wp2
  go_loopw [12] (fun i wr => ∃ j : Nat, ∃ M : List StW, i = .int .i64 (j : Int) ∧ j ≤ n' ∧ Hid (M.length = j) ∧ Hid (M.map StW.v = (xs.take j).map StW.v) ∧ Hid (wr.ownsRow w.heap.size 58 11 (.slice A' n' c') n' ((M ++ xs.drop j).flatMap cSt)) ∧ Hid (∀ x ∈ M, OwSt wr lo x) ∧ Hid (lo ≤ wr.heap.size) ∧ Hid (Below w.heap.size w wr)) (fun i _ => n' - (intOf i).toNat)
  case atStart => exact ⟨0, [], rfl, Nat.zero_le _, hide rfl, hide rfl, hide HO.out, hide (fun x hx => by cases hx), hide (Nat.le_of_eq HLO.out.symm), hide HB0.out⟩
  case round =>
    obtain ⟨j, M, rfl, hj, HM, HV, HR, HA, HS, HB⟩ := hrel
    by_cases hlt : j < n'
    · obtain ⟨g, hA, hgl, hgr⟩ := own_form HR.out (by omega)
      subst hA
      have hlt' : (j : Int) < (n' : Int) := by omega
      obtain ⟨p, hp⟩ : ∃ p, xs[j]? = some p := ⟨_, List.getElem?_eq_getElem (by omega)⟩
      have hdrop : xs.drop j = p :: xs.drop (j + 1) := by
        rw [← List.getElem_cons_drop (by omega : j < xs.length)]
        rw [List.getElem?_eq_getElem (by omega)] at hp
        injection hp with hp
        rw [hp]
      have HR2 := hide (show wr.ownsRow w.heap.size 58 11 (.slice (some ⟨g, 0, none⟩) n' c') n' ((M ++ p :: xs.drop (j + 1)).flatMap cSt) from hdrop ▸ HR.out)
      have hcl : Cells wr wr.heap.size 11 cSt (some ⟨g, 0, none⟩) n' (M ++ p :: xs.drop (j + 1)) := Cells.of_own cSt_len (by decide) HR2.out
      obtain ⟨b, o, hbo, _, cz⟩ := hcl.at_ (i := j) (x := p) (by rw [List.getElem?_append_right (by have := HM.out; omega), HM.out, Nat.sub_self]; rfl)
      injection hbo with hbo
      injection hbo with hb1 hb2
      subst hb1 hb2
      have c0 : wr.cell? ⟨g, j * 11, none⟩ = some (.int .i64 p.kind) := by simpa using cz 0 _ rfl
      have c1 : wr.cell? ⟨g, j * 11 + 1, none⟩ = some (.int .i64 p.pl.l) := by simpa using cz 1 _ rfl
      have c2 : wr.cell? ⟨g, j * 11 + 2, none⟩ = some (.slice p.pl.A p.pl.n p.pl.c) := by simpa using cz 2 _ rfl
      have c3 : wr.cell? ⟨g, j * 11 + 3, none⟩ = some (.int .i64 p.rv.kind) := by simpa using cz 3 _ rfl
      have c4 : wr.cell? ⟨g, j * 11 + 4, none⟩ = some (.int .i64 p.rv.op) := by simpa using cz 4 _ rfl
      have c5 : wr.cell? ⟨g, j * 11 + 5, none⟩ = some (.int .i64 p.rv.region) := by simpa using cz 5 _ rfl
      have c6 : wr.cell? ⟨g, j * 11 + 6, none⟩ = some (.bool p.rv.mut_) := by simpa using cz 6 _ rfl
      have c7 : wr.cell? ⟨g, j * 11 + 7, none⟩ = some (.int .i64 p.rv.pl.l) := by simpa using cz 7 _ rfl
      have c8 : wr.cell? ⟨g, j * 11 + 8, none⟩ = some (.slice p.rv.pl.A p.rv.pl.n p.rv.pl.c) := by simpa using cz 8 _ rfl
      have c9 : wr.cell? ⟨g, j * 11 + 9, none⟩ = some (.slice p.rv.args.A p.rv.args.n p.rv.args.c) := by simpa using cz 9 _ rfl
      have c10 : wr.cell? ⟨g, j * 11 + 10, none⟩ = some (.int .i64 p.loc) := by simpa using cz 10 _ rfl
      have HBQ := hide ((Below.refl wr.heap.size wr).alloc (Nat.le_refl _) (.cells #[.int .i64 p.kind, .int .i64 p.pl.l, .slice p.pl.A p.pl.n p.pl.c, .int .i64 p.rv.kind, .int .i64 p.rv.op, .int .i64 p.rv.region, .bool p.rv.mut_, .int .i64 p.rv.pl.l, .slice p.rv.pl.A p.rv.pl.n p.rv.pl.c, .slice p.rv.args.A p.rv.args.n p.rv.args.c, .int .i64 p.loc] 58))
      have HC := hide (HK.out p (List.mem_of_getElem? hp))
      have hgo : g < lo := by
        rcases Nat.lt_or_ge g lo with h | h
        · exact h
        · exfalso
          obtain ⟨g', hg', _, hlt9⟩ := own_form HO.out (by omega)
          injection hg' with hg'
          injection hg' with hg'
          have := HLO.out
          omega
      have HP := hide hp
      have HD := hide hdrop
      clear hp hdrop hcl cz
      go_wp2_with fail
      try go_at_fn K
      refine (HC.out _ ((HB.out.trans (HBQ.out.mono HB.out.size)))).mono ?_
      rintro e w1 ⟨q, rfl, hqv, hqo, hb0⟩
      have HK1 := hide ((Keep.of_below HBQ.out).trans (Keep.of_below (lo := lo) hb0))
      have HR3 := hide (own_keep HR2.out (((Keep.of_below HBQ.out).trans (Keep.of_below hb0)) : Keep w.heap.size wr w1))
      have hth := own_there HR3.out hlt
      have HB1 := hide ((HB.out.trans (HBQ.out.mono HB.out.size)).trans (hb0.mono (Nat.le_trans HB.out.size HBQ.out.size)))
      have HQ := hide (show OwSt w1 lo q from (fun {lo'} h K => OwSt.base h K : ∀ {lo'}, OwSt w1 lo' q → lo ≤ lo' → OwSt w1 lo q) hqo (Nat.le_trans HS.out HBQ.out.size))
      have HQV := hide hqv
      have HS1 := hide (Nat.le_trans HS.out (Nat.le_trans HBQ.out.size hb0.size))
      clear hqv hqo hb0 c0 c1 c2 c3 c4 c5 c6 c7 c8 c9 c10
      have HONE := hide (all_oneCell_toArray (cs := cSt q) (cSt_one q))
      have HTH := hide (show w1.there g (j * 11) (cSt q).toArray.size from hth)
      clear hth
      go_wp2_with (refine wpList_store_mid rfl 58 _ _ rfl g (j * 11) (cSt q).toArray rfl rfl ?_ ?_ ?_ ?_; exact HTH.out; exact HSZ.out; exact HONE.out)
      have HR4 := hide (own_set (f := cSt) cSt_len (q := q) HR3.out)
      have hk4 : Keep lo w1 (w1.setCells g (j * 11) (cSt q)) := Keep.setCells hgo _ _ _
      go_roundw
      case rel =>
        refine ⟨j + 1, M ++ [q], by go_num, by omega, hide ?_, hide ?_, hide ?_, hide ?_, hide ?_, hide ?_⟩
        · rw [List.length_append, HM.out]; rfl
        · rw [List.map_append, HV.out, List.take_add_one, HP.out, List.map_append]
          simp [HQV.out]
        · have := HR4.out
          rw [HM.out] at this
          simpa using this
        · intro x hx
          rcases List.mem_append.1 hx with hx | hx
          · have h := HA.out x hx
            have K := HK1.out.trans hk4
            exact OwSt.keep h K
          · obtain rfl : x = q := by simpa using hx
            have h := HQ.out
            have K := hk4
            exact OwSt.keep h K
        · exact Nat.le_trans HS1.out hk4.size
        · exact RowKit.below_setCells9 hgl _ _ HB1.out
      case measure => simp [intOf]; omega
    · obtain rfl : j = n' := by omega
      have hV : M.map StW.v = xs.map StW.v := by rw [HV.out, List.take_of_length_le (by omega)]
      have hR : wr.ownsRow w.heap.size 58 11 (.slice A' j c') j (M.flatMap cSt) := by
        have := HR.out
        rw [List.drop_of_length_le (by omega), List.append_nil] at this
        exact this
      have HV2 := hide hV
      have HR2 := hide hR
      clear hV hR
      go_wp2
      go_ret
      exact ⟨⟨A', j, c', M⟩, rfl, HV2.out, ⟨HR2.out, fun x h => (fun {lo'} h K => OwSt.base h K : ∀ {lo'}, OwSt wr lo' x → w.heap.size ≤ lo' → OwSt wr w.heap.size x) (HA.out x h) hle0⟩, HB.out⟩

abbrev SlOutBk (w : World) (s : SlW BkW) (e : Ending) (w' : World) : Prop := ∃ s' : SlW BkW, e = .returned s'.val ∧ s'.L.map BkW.v = s.L.map BkW.v ∧ OwSl w' w.heap.size 44 7 cBk (OwBk w' w.heap.size) s' ∧ Below w.heap.size w w'
set_option maxHeartbeats 1000000 in
set_option maxRecDepth 100000 in
theorem EachBk_any (K : FuncId) (s : SlW BkW) (w : World) (hs : SlH w w.heap.size 7 cBk (OneBk w w.heap.size) s) (hE : Enters Tryz.prog K) (hn : s.n ≤ 2 ^ 39)
    (hK : ∀ x ∈ s.L, ∀ w1, Below w.heap.size w w1 → Calls Tryz.prog K #[aggBk x] w1 (ClOut aggBk BkW.v OwBk w1 x)) :
    Calls Tryz.prog 61 #[s.val, .func (.func K) #[] #[]] w (SlOutBk w s) := by
  have HCL := hide (ClnBk_any s w hs hn)
  have HL := hide hs.len
  have HK := hide hK
  have hn9 := hn
  obtain ⟨A, n, c, xs⟩ := s
  simp only [] at hn9
  clear hs hK hn
  have en := hE
  unfold Enters at en
  have HSZ : ∀ {q : BkW}, Hid ((Tryz.prog.info? 44).map (·.size) = some (cBk q).toArray.size) := hide (by kernel_rfl)
  show Calls Tryz.prog 61 #[.slice A n c, .func (.func K) #[] #[]] w _
  go_enter Tryz.func61, Tryz.ntmps61
  go_wp2_with fail
  refine HCL.out.mono ?_
  rintro e0 w0 ⟨⟨A', n', c', L'⟩, h9, hL', ho9, hb⟩
  obtain rfl : e0 = .returned (.slice A' n' c') := h9
  have ho : w0.ownsRow w.heap.size 44 7 (.slice A' n' c') n' (L'.flatMap cBk) := ho9
  clear ho9
  simp only [] at hL'
  have hL9 := hL'.symm
  subst hL9
  have hlen : xs.length = n := HL.out
  obtain rfl : n' = n := by
    have := own_len (f := cBk) cBk_len (by decide) ho
    omega
  have HO := hide ho
  have HB0 := hide hb
  obtain ⟨lo, hlo⟩ : ∃ lo, w0.heap.size = lo := ⟨_, rfl⟩
  have HLO := hide hlo
  have hle0 : w.heap.size ≤ lo := hlo ▸ hb.size
  clear ho hb hlo HCL
  go_wp2
  go_loopw [12] (fun i wr => ∃ j : Nat, ∃ M : List BkW, i = .int .i64 (j : Int) ∧ j ≤ n' ∧ Hid (M.length = j) ∧ Hid (M.map BkW.v = (xs.take j).map BkW.v) ∧ Hid (wr.ownsRow w.heap.size 44 7 (.slice A' n' c') n' ((M ++ xs.drop j).flatMap cBk)) ∧ Hid (∀ x ∈ M, OwBk wr lo x) ∧ Hid (lo ≤ wr.heap.size) ∧ Hid (Below w.heap.size w wr)) (fun i _ => n' - (intOf i).toNat)
  case atStart => exact ⟨0, [], rfl, Nat.zero_le _, hide rfl, hide rfl, hide HO.out, hide (fun x hx => by cases hx), hide (Nat.le_of_eq HLO.out.symm), hide HB0.out⟩
  case round =>
    obtain ⟨j, M, rfl, hj, HM, HV, HR, HA, HS, HB⟩ := hrel
    by_cases hlt : j < n'
    · obtain ⟨g, hA, hgl, hgr⟩ := own_form HR.out (by omega)
      subst hA
      have hlt' : (j : Int) < (n' : Int) := by omega
      obtain ⟨p, hp⟩ : ∃ p, xs[j]? = some p := ⟨_, List.getElem?_eq_getElem (by omega)⟩
      have hdrop : xs.drop j = p :: xs.drop (j + 1) := by
        rw [← List.getElem_cons_drop (by omega : j < xs.length)]
        rw [List.getElem?_eq_getElem (by omega)] at hp
        injection hp with hp
        rw [hp]
      have HR2 := hide (show wr.ownsRow w.heap.size 44 7 (.slice (some ⟨g, 0, none⟩) n' c') n' ((M ++ p :: xs.drop (j + 1)).flatMap cBk) from hdrop ▸ HR.out)
      have hcl : Cells wr wr.heap.size 7 cBk (some ⟨g, 0, none⟩) n' (M ++ p :: xs.drop (j + 1)) := Cells.of_own cBk_len (by decide) HR2.out
      obtain ⟨b, o, hbo, _, cz⟩ := hcl.at_ (i := j) (x := p) (by rw [List.getElem?_append_right (by have := HM.out; omega), HM.out, Nat.sub_self]; rfl)
      injection hbo with hbo
      injection hbo with hb1 hb2
      subst hb1 hb2
      have c0 : wr.cell? ⟨g, j * 7, none⟩ = some (.slice p.stmts.A p.stmts.n p.stmts.c) := by simpa using cz 0 _ rfl
      have c1 : wr.cell? ⟨g, j * 7 + 1, none⟩ = some (.int .i64 p.term.kind) := by simpa using cz 1 _ rfl
      have c2 : wr.cell? ⟨g, j * 7 + 2, none⟩ = some (.slice p.term.targets.A p.term.targets.n p.term.targets.c) := by simpa using cz 2 _ rfl
      have c3 : wr.cell? ⟨g, j * 7 + 3, none⟩ = some (.slice p.term.args.A p.term.args.n p.term.args.c) := by simpa using cz 3 _ rfl
      have c4 : wr.cell? ⟨g, j * 7 + 4, none⟩ = some (.int .i64 p.term.pl.l) := by simpa using cz 4 _ rfl
      have c5 : wr.cell? ⟨g, j * 7 + 5, none⟩ = some (.slice p.term.pl.A p.term.pl.n p.term.pl.c) := by simpa using cz 5 _ rfl
      have c6 : wr.cell? ⟨g, j * 7 + 6, none⟩ = some (.string p.term.name) := by simpa using cz 6 _ rfl
      have HBQ := hide ((Below.refl wr.heap.size wr).alloc (Nat.le_refl _) (.cells #[.slice p.stmts.A p.stmts.n p.stmts.c, .int .i64 p.term.kind, .slice p.term.targets.A p.term.targets.n p.term.targets.c, .slice p.term.args.A p.term.args.n p.term.args.c, .int .i64 p.term.pl.l, .slice p.term.pl.A p.term.pl.n p.term.pl.c, .string p.term.name] 44))
      have HC := hide (HK.out p (List.mem_of_getElem? hp))
      have hgo : g < lo := by
        rcases Nat.lt_or_ge g lo with h | h
        · exact h
        · exfalso
          obtain ⟨g', hg', _, hlt9⟩ := own_form HO.out (by omega)
          injection hg' with hg'
          injection hg' with hg'
          have := HLO.out
          omega
      have HP := hide hp
      have HD := hide hdrop
      clear hp hdrop hcl cz
      go_wp2_with fail
      try go_at_fn K
      refine (HC.out _ ((HB.out.trans (HBQ.out.mono HB.out.size)))).mono ?_
      rintro e w1 ⟨q, rfl, hqv, hqo, hb0⟩
      have HK1 := hide ((Keep.of_below HBQ.out).trans (Keep.of_below (lo := lo) hb0))
      have HR3 := hide (own_keep HR2.out (((Keep.of_below HBQ.out).trans (Keep.of_below hb0)) : Keep w.heap.size wr w1))
      have hth := own_there HR3.out hlt
      have HB1 := hide ((HB.out.trans (HBQ.out.mono HB.out.size)).trans (hb0.mono (Nat.le_trans HB.out.size HBQ.out.size)))
      have HQ := hide (show OwBk w1 lo q from (fun {lo'} h K => OwBk.base h K : ∀ {lo'}, OwBk w1 lo' q → lo ≤ lo' → OwBk w1 lo q) hqo (Nat.le_trans HS.out HBQ.out.size))
      have HQV := hide hqv
      have HS1 := hide (Nat.le_trans HS.out (Nat.le_trans HBQ.out.size hb0.size))
      clear hqv hqo hb0 c0 c1 c2 c3 c4 c5 c6
      have HONE := hide (all_oneCell_toArray (cs := cBk q) (cBk_one q))
      have HTH := hide (show w1.there g (j * 7) (cBk q).toArray.size from hth)
      clear hth
      go_wp2_with (refine wpList_store_mid rfl 44 _ _ rfl g (j * 7) (cBk q).toArray rfl rfl ?_ ?_ ?_ ?_; exact HTH.out; exact HSZ.out; exact HONE.out)
      have HR4 := hide (own_set (f := cBk) cBk_len (q := q) HR3.out)
      have hk4 : Keep lo w1 (w1.setCells g (j * 7) (cBk q)) := Keep.setCells hgo _ _ _
      go_roundw
      case rel =>
        refine ⟨j + 1, M ++ [q], by go_num, by omega, hide ?_, hide ?_, hide ?_, hide ?_, hide ?_, hide ?_⟩
        · rw [List.length_append, HM.out]; rfl
        · rw [List.map_append, HV.out, List.take_add_one, HP.out, List.map_append]
          simp [HQV.out]
        · have := HR4.out
          rw [HM.out] at this
          simpa using this
        · intro x hx
          rcases List.mem_append.1 hx with hx | hx
          · have h := HA.out x hx
            have K := HK1.out.trans hk4
            exact OwBk.keep h K
          · obtain rfl : x = q := by simpa using hx
            have h := HQ.out
            have K := hk4
            exact OwBk.keep h K
        · exact Nat.le_trans HS1.out hk4.size
        · exact RowKit.below_setCells9 hgl _ _ HB1.out
      case measure => simp [intOf]; omega
    · obtain rfl : j = n' := by omega
      have hV : M.map BkW.v = xs.map BkW.v := by rw [HV.out, List.take_of_length_le (by omega)]
      have hR : wr.ownsRow w.heap.size 44 7 (.slice A' j c') j (M.flatMap cBk) := by
        have := HR.out
        rw [List.drop_of_length_le (by omega), List.append_nil] at this
        exact this
      have HV2 := hide hV
      have HR2 := hide hR
      clear hV hR
      go_wp2
      go_ret
      exact ⟨⟨A', j, c', M⟩, rfl, HV2.out, ⟨HR2.out, fun x h => (fun {lo'} h K => OwBk.base h K : ∀ {lo'}, OwBk wr lo' x → w.heap.size ≤ lo' → OwBk wr w.heap.size x) (HA.out x h) hle0⟩, HB.out⟩

end Go.Proofs.YtbdimnncobpfdaaGreat

/- The copying of places, types and operands. -/
set_option linter.unusedVariables false
set_option linter.unusedSimpArgs false
namespace Go.Proofs.YtbdimnncobpfdaaGreat
open Go.RowKit Go.Shelf

theorem Keep.setRow9 {g lo : Nat} (hg : g < lo) (cs : Array Value) (w : World) : Keep lo w (w.setRow g cs) :=
  ⟨by simp, fun k hk hl => by
    unfold World.setRow
    rw [Array.getElem?_eq_getElem (by simpa using hl), Array.getElem_modify, if_neg (by omega), Array.getElem?_eq_getElem hl]⟩
theorem below_setRow9 {B g : Nat} {w0 w : World} (hb : Below B w0 w) (hBg : B ≤ g) (cs : Array Value) : Below B w0 (w.setRow g cs) :=
  ⟨hb.os, hb.tape, hb.output, by simpa using hb.size, fun k hk => by
    refine Eq.trans ?_ (hb.block k hk)
    unfold World.setRow
    rcases Nat.lt_or_ge k w.heap.size with hl | hl
    · rw [Array.getElem?_eq_getElem (by simpa using hl), Array.getElem_modify, if_neg (by omega), Array.getElem?_eq_getElem hl]
    · rw [Array.getElem?_eq_none (by simpa using hl), Array.getElem?_eq_none hl]⟩
theorem OnePl.sl {w : World} {B : Nat} {x : PlW} (h : OnePl w B x) : SlH w B 2 pV IntP ⟨x.A, x.n, x.c, x.ps⟩ := ⟨h.nc, h.cm, h.prs.cells, h.prs.int⟩
theorem OneT.sl {w : World} {B : Nat} {x : TyW} (h : OneT w B x) : Ints w B ⟨x.A, x.n, x.c, x.t.fields⟩ := by
  refine ⟨h.ok.nc, h.ok.cm, ⟨h.ok.len, fun hn => ?_⟩, h.ok.f⟩
  obtain ⟨b, o, h1, h2, h3⟩ := h.rd.2 hn
  refine ⟨b, o, h1, h2, fun i x hx j u hu => ?_⟩
  have hj : j = 0 := by
    rcases j with _ | j
    · rfl
    · simp [cInt] at hu
  subst hj
  simp [cInt] at hu
  subst hu
  have := h3 i (.int .i64 x) (by simp [i64s, hx])
  simpa using this
/-- no list is long -/
def SmOp (x : OpW) : Prop := x.pl.n ≤ 2 ^ 39
structure SmOps (s : SlW OpW) : Prop where
  n : s.n ≤ 2 ^ 39
  all : ∀ x ∈ s.L, SmOp x
structure SmSt (x : StW) : Prop where
  pl : x.pl.n ≤ 2 ^ 39
  rpl : x.rv.pl.n ≤ 2 ^ 39
  args : SmOps x.rv.args
structure SmTm (x : TmW) : Prop where
  targets : x.targets.n ≤ 2 ^ 39
  args : SmOps x.args
  pl : x.pl.n ≤ 2 ^ 39
structure SmBk (x : BkW) : Prop where
  n : x.stmts.n ≤ 2 ^ 39
  all : ∀ s ∈ x.stmts.L, SmSt s
  term : SmTm x.term
structure SmBd (x : BdW) : Prop where
  regions : x.regions.n ≤ 2 ^ 39
  outl : x.outl.n ≤ 2 ^ 39
  types : x.types.n ≤ 2 ^ 39
  tys : ∀ t ∈ x.types.L, t.n ≤ 2 ^ 39
  locals : x.locals.n ≤ 2 ^ 39
  blocks : x.blocks.n ≤ 2 ^ 39
  bks : ∀ b ∈ x.blocks.L, SmBk b

set_option maxHeartbeats 1000000 in
set_option maxRecDepth 100000 in
theorem ClPl_any (x : PlW) (w : World) (hx : OnePl w w.heap.size x) (hn : x.n ≤ 2 ^ 39) :
    Calls Tryz.prog 85 #[aggPl x] w (ClOut aggPl PlW.v OwPl w x) := by
  have HX := hide hx
  clear hx
  obtain ⟨l, A, n, c, ps⟩ := x
  have HV0 := hide (show Below w.heap.size w ((w.alloc (.cells #[.int .i64 l, .slice A n c] 40)).alloc (.cells #[.int .i64 0, .slice none 0 0] 40)) from ((Below.refl _ w).alloc (Nat.le_refl _) _).alloc (by simp) _)
  have HS0 := hide (show w.heap.size + 2 ≤ ((w.alloc (.cells #[.int .i64 l, .slice A n c] 40)).alloc (.cells #[.int .i64 0, .slice none 0 0] 40)).heap.size by simp)
  have HXB0 := hide (show Bx ((w.alloc (.cells #[.int .i64 l, .slice A n c] 40)).alloc (.cells #[.int .i64 0, .slice none 0 0] 40)) w.heap.size [.int .i64 l, .slice A n c] 40 from (Bx.new w [.int .i64 l, .slice A n c] 40).below ((Below.refl _ _).alloc (Nat.le_refl _) _))
  have HXR0 := hide (show Bx ((w.alloc (.cells #[.int .i64 l, .slice A n c] 40)).alloc (.cells #[.int .i64 0, .slice none 0 0] 40)) (w.heap.size + 1) [.int .i64 0, .slice none 0 0] 40 by have h9 := Bx.new (w.alloc (.cells #[.int .i64 l, .slice A n c] 40)) [.int .i64 0, .slice none 0 0] 40; rwa [show (w.alloc (.cells #[.int .i64 l, .slice A n c] 40)).heap.size = w.heap.size + 1 by simp] at h9)
  have HSZ := hide (show (Tryz.prog.info? 40).map (·.size) = some 2 by kernel_rfl)
  go_enter Tryz.func85, Tryz.ntmps85
  go_wp2_with fail
  refine (ClnPj_any ⟨A, n, c, ps⟩ _ ((HX.out.up HV0.out).sl) hn).mono ?_
  rintro e1 w1 ⟨⟨A1, n1, c1, L1⟩, h9, he1, ho, hb⟩
  obtain rfl : e1 = .returned (.slice A1 n1 c1) := h9
  simp only [] at he1
  have hl9 := he1.symm
  subst hl9
  have hb1 : Below ((w.alloc (.cells #[.int .i64 l, .slice A n c] 40)).alloc (.cells #[.int .i64 0, .slice none 0 0] 40)).heap.size ((w.alloc (.cells #[.int .i64 l, .slice A n c] 40)).alloc (.cells #[.int .i64 0, .slice none 0 0] 40)) w1 := hb
  have hsv : w.heap.size + 2 ≤ ((w.alloc (.cells #[.int .i64 l, .slice A n c] 40)).alloc (.cells #[.int .i64 0, .slice none 0 0] 40)).heap.size := by have h8 := HS0.out; first | exact h8 | (simp; done) | (simp; omega)
  have HS1 := hide (Nat.le_trans hsv hb1.size)
  have HW1 := hide (show Below w.heap.size w w1 from HV0.out.trans (hb1.mono (by omega)))
  have HXC1 := hide (HXB0.out.below hb1)
  have HXD1 := hide (HXR0.out.below hb1)
  have HO1 := hide (show w1.ownsRow (w.heap.size + 2) 135 2 (.slice A1 n1 c1) n1 (ps.flatMap pV) from ownsRow_base ho hsv)
  clear hb hb1 ho hsv
  have HXB1 := hide (show Bx (w1.setCell ⟨w.heap.size, 1, none⟩ (.slice A1 n1 c1)) w.heap.size [.int .i64 l, .slice A1 n1 c1] 40 from (HXC1.out.set 1 (.slice A1 n1 c1)))
  have HXR1 := hide (show Bx (w1.setCell ⟨w.heap.size, 1, none⟩ (.slice A1 n1 c1)) (w.heap.size + 1) [.int .i64 0, .slice none 0 0] 40 from (HXD1.out.other (a := ⟨w.heap.size, 1, none⟩) (by simp) (.slice A1 n1 c1)))
  have HV1 := hide (show Below w.heap.size w (w1.setCell ⟨w.heap.size, 1, none⟩ (.slice A1 n1 c1)) from (HW1.out.setCell (p := ⟨w.heap.size, 1, none⟩) (Nat.le_refl _) (.slice A1 n1 c1)))
  have HO1b := hide (own_keep HO1.out (Keep.setCell (a := ⟨w.heap.size, 1, none⟩) (show w.heap.size < w.heap.size + 2 by omega) (.slice A1 n1 c1)))
  clear HO1
  have HO1 := HO1b
  clear HO1b
  have cc0 := HXC1.out.cell (j := 0) rfl
  have cc1 := HXC1.out.cell (j := 1) rfl
  have ff1 := HXC1.out.frozen 1
  have HR9 := HXR1
  have HONE := hide (all_oneCell_toArray (cs := [.int .i64 l, .slice A1 n1 c1]) (fun u hu => by simp only [List.mem_cons, List.not_mem_nil, or_false] at hu; rcases hu with rfl | rfl <;> rfl))
  go_wp2_with (refine wpList_store_row rfl 40 _ _ rfl (w.heap.size + 1) #[.int .i64 l, .slice A1 n1 c1] rfl rfl 40 #[.int .i64 0, .slice none 0 0] ?_ ?_ ?_ ?_ ?_; exact HR9.out; exact HSZ.out; rfl; exact HONE.out)
  refine bodyPost_ret (results_cell_row rfl _ _ (w.heap.size + 1) _ #[.int .i64 l, .slice A1 n1 c1] (0, 0) _ rfl (setRow_heap _ _ _ _ _ _ HR9.out) Tryz.underlying40 rfl (by kernel_rfl)) rfl ⟨⟨l, A1, n1, c1, ps⟩, rfl, rfl, ?_, below_setRow9 HV1.out (Nat.le_succ _) _⟩
  have HO1z := own_keep HO1.out (Keep.setRow9 (g := w.heap.size + 1) (lo := w.heap.size + 2) (by omega) #[.int .i64 l, .slice A1 n1 c1] (w1.setCell ⟨w.heap.size, 1, none⟩ (.slice A1 n1 c1)))
  exact ownsRow_base HO1z (show w.heap.size ≤ w.heap.size + 2 by omega)
theorem OneT.up9 {w w' : World} {x : TyW} (h : OneT w w.heap.size x) (hb : Below w.heap.size w w') : OneT w' w'.heap.size x := (h.below hb).more hb.size

set_option maxHeartbeats 1000000 in
set_option maxRecDepth 100000 in
theorem ClTy_any (x : TyW) (w : World) (hx : OneT w w.heap.size x) (hn : x.n ≤ 2 ^ 39) :
    Calls Tryz.prog 59 #[aggT x] w (ClOut aggT TyW.t OwTy w x) := by
  have HX := hide hx
  clear hx
  obtain ⟨⟨k, m, r, el, fs⟩, A, n, c⟩ := x
  have HV0 := hide (show Below w.heap.size w ((w.alloc (.cells #[.int .i64 k, .bool m, .int .i64 r, .int .i64 el, .slice A n c] 51)).alloc (.cells #[.int .i64 0, .bool false, .int .i64 0, .int .i64 0, .slice none 0 0] 51)) from ((Below.refl _ w).alloc (Nat.le_refl _) _).alloc (by simp) _)
  have HS0 := hide (show w.heap.size + 2 ≤ ((w.alloc (.cells #[.int .i64 k, .bool m, .int .i64 r, .int .i64 el, .slice A n c] 51)).alloc (.cells #[.int .i64 0, .bool false, .int .i64 0, .int .i64 0, .slice none 0 0] 51)).heap.size by simp)
  have HXB0 := hide (show Bx ((w.alloc (.cells #[.int .i64 k, .bool m, .int .i64 r, .int .i64 el, .slice A n c] 51)).alloc (.cells #[.int .i64 0, .bool false, .int .i64 0, .int .i64 0, .slice none 0 0] 51)) w.heap.size [.int .i64 k, .bool m, .int .i64 r, .int .i64 el, .slice A n c] 51 from (Bx.new w [.int .i64 k, .bool m, .int .i64 r, .int .i64 el, .slice A n c] 51).below ((Below.refl _ _).alloc (Nat.le_refl _) _))
  have HXR0 := hide (show Bx ((w.alloc (.cells #[.int .i64 k, .bool m, .int .i64 r, .int .i64 el, .slice A n c] 51)).alloc (.cells #[.int .i64 0, .bool false, .int .i64 0, .int .i64 0, .slice none 0 0] 51)) (w.heap.size + 1) [.int .i64 0, .bool false, .int .i64 0, .int .i64 0, .slice none 0 0] 51 by have h9 := Bx.new (w.alloc (.cells #[.int .i64 k, .bool m, .int .i64 r, .int .i64 el, .slice A n c] 51)) [.int .i64 0, .bool false, .int .i64 0, .int .i64 0, .slice none 0 0] 51; rwa [show (w.alloc (.cells #[.int .i64 k, .bool m, .int .i64 r, .int .i64 el, .slice A n c] 51)).heap.size = w.heap.size + 1 by simp] at h9)
  have HSZ := hide (show (Tryz.prog.info? 51).map (·.size) = some 5 by kernel_rfl)
  go_enter Tryz.func59, Tryz.ntmps59
  go_wp2_with fail
  refine (ClnInt_any ⟨A, n, c, fs⟩ _ ((HX.out.up9 HV0.out).sl) hn).mono ?_
  rintro e1 w1 ⟨⟨A1, n1, c1, L1⟩, h9, he1, ho, hb⟩
  obtain rfl : e1 = .returned (.slice A1 n1 c1) := h9
  simp only [] at he1
  have hl9 := he1.symm
  subst hl9
  have hb1 : Below ((w.alloc (.cells #[.int .i64 k, .bool m, .int .i64 r, .int .i64 el, .slice A n c] 51)).alloc (.cells #[.int .i64 0, .bool false, .int .i64 0, .int .i64 0, .slice none 0 0] 51)).heap.size ((w.alloc (.cells #[.int .i64 k, .bool m, .int .i64 r, .int .i64 el, .slice A n c] 51)).alloc (.cells #[.int .i64 0, .bool false, .int .i64 0, .int .i64 0, .slice none 0 0] 51)) w1 := hb
  have hsv : w.heap.size + 2 ≤ ((w.alloc (.cells #[.int .i64 k, .bool m, .int .i64 r, .int .i64 el, .slice A n c] 51)).alloc (.cells #[.int .i64 0, .bool false, .int .i64 0, .int .i64 0, .slice none 0 0] 51)).heap.size := by have h8 := HS0.out; first | exact h8 | (simp; done) | (simp; omega)
  have HS1 := hide (Nat.le_trans hsv hb1.size)
  have HW1 := hide (show Below w.heap.size w w1 from HV0.out.trans (hb1.mono (by omega)))
  have HXC1 := hide (HXB0.out.below hb1)
  have HXD1 := hide (HXR0.out.below hb1)
  have HO1 := hide (show w1.ownsRow (w.heap.size + 2) 3 1 (.slice A1 n1 c1) n1 (fs.flatMap cInt) from ownsRow_base ho hsv)
  clear hb hb1 ho hsv
  have HXB1 := hide (show Bx (w1.setCell ⟨w.heap.size, 4, none⟩ (.slice A1 n1 c1)) w.heap.size [.int .i64 k, .bool m, .int .i64 r, .int .i64 el, .slice A1 n1 c1] 51 from (HXC1.out.set 4 (.slice A1 n1 c1)))
  have HXR1 := hide (show Bx (w1.setCell ⟨w.heap.size, 4, none⟩ (.slice A1 n1 c1)) (w.heap.size + 1) [.int .i64 0, .bool false, .int .i64 0, .int .i64 0, .slice none 0 0] 51 from (HXD1.out.other (a := ⟨w.heap.size, 4, none⟩) (by simp) (.slice A1 n1 c1)))
  have HV1 := hide (show Below w.heap.size w (w1.setCell ⟨w.heap.size, 4, none⟩ (.slice A1 n1 c1)) from (HW1.out.setCell (p := ⟨w.heap.size, 4, none⟩) (Nat.le_refl _) (.slice A1 n1 c1)))
  have HO1b := hide (own_keep HO1.out (Keep.setCell (a := ⟨w.heap.size, 4, none⟩) (show w.heap.size < w.heap.size + 2 by omega) (.slice A1 n1 c1)))
  clear HO1
  have HO1 := HO1b
  clear HO1b
  have cc0 := HXC1.out.cell (j := 0) rfl
  have cc1 := HXC1.out.cell (j := 1) rfl
  have cc2 := HXC1.out.cell (j := 2) rfl
  have cc3 := HXC1.out.cell (j := 3) rfl
  have cc4 := HXC1.out.cell (j := 4) rfl
  have ff4 := HXC1.out.frozen 4
  have HR9 := HXR1
  have HONE := hide (all_oneCell_toArray (cs := [.int .i64 k, .bool m, .int .i64 r, .int .i64 el, .slice A1 n1 c1]) (fun u hu => by simp only [List.mem_cons, List.not_mem_nil, or_false] at hu; rcases hu with rfl | rfl | rfl | rfl | rfl <;> rfl))
  go_wp2_with (refine wpList_store_row rfl 51 _ _ rfl (w.heap.size + 1) #[.int .i64 k, .bool m, .int .i64 r, .int .i64 el, .slice A1 n1 c1] rfl rfl 51 #[.int .i64 0, .bool false, .int .i64 0, .int .i64 0, .slice none 0 0] ?_ ?_ ?_ ?_ ?_; exact HR9.out; exact HSZ.out; rfl; exact HONE.out)
  refine bodyPost_ret (results_cell_row rfl _ _ (w.heap.size + 1) _ #[.int .i64 k, .bool m, .int .i64 r, .int .i64 el, .slice A1 n1 c1] (0, 0) _ rfl (setRow_heap _ _ _ _ _ _ HR9.out) Tryz.underlying51 rfl (by kernel_rfl)) rfl ⟨⟨⟨k, m, r, el, fs⟩, A1, n1, c1⟩, rfl, rfl, ?_, below_setRow9 HV1.out (Nat.le_succ _) _⟩
  have HO1z := own_keep HO1.out (Keep.setRow9 (g := w.heap.size + 1) (lo := w.heap.size + 2) (by omega) #[.int .i64 k, .bool m, .int .i64 r, .int .i64 el, .slice A1 n1 c1] (w1.setCell ⟨w.heap.size, 4, none⟩ (.slice A1 n1 c1)))
  exact ownsRow_base HO1z (show w.heap.size ≤ w.heap.size + 2 by omega)

set_option maxHeartbeats 1000000 in
set_option maxRecDepth 100000 in
theorem ClOp_any (x : OpW) (w : World) (hx : OneOp w w.heap.size x) (hn : x.pl.n ≤ 2 ^ 39) :
    Calls Tryz.prog 54 #[aggOp x] w (ClOut aggOp OpW.v OwOp w x) := by
  have HX := hide hx
  clear hx
  obtain ⟨k, ⟨l, A, n, c, ps⟩, z⟩ := x
  have HV0 := hide (show Below w.heap.size w ((w.alloc (.cells #[.int .i64 k, .int .i64 l, .slice A n c, .int .i64 z] 96)).alloc (.cells #[.int .i64 0, .int .i64 0, .slice none 0 0, .int .i64 0] 96)) from ((Below.refl _ w).alloc (Nat.le_refl _) _).alloc (by simp) _)
  have HS0 := hide (show w.heap.size + 2 ≤ ((w.alloc (.cells #[.int .i64 k, .int .i64 l, .slice A n c, .int .i64 z] 96)).alloc (.cells #[.int .i64 0, .int .i64 0, .slice none 0 0, .int .i64 0] 96)).heap.size by simp)
  have HXB0 := hide (show Bx ((w.alloc (.cells #[.int .i64 k, .int .i64 l, .slice A n c, .int .i64 z] 96)).alloc (.cells #[.int .i64 0, .int .i64 0, .slice none 0 0, .int .i64 0] 96)) w.heap.size [.int .i64 k, .int .i64 l, .slice A n c, .int .i64 z] 96 from (Bx.new w [.int .i64 k, .int .i64 l, .slice A n c, .int .i64 z] 96).below ((Below.refl _ _).alloc (Nat.le_refl _) _))
  have HXR0 := hide (show Bx ((w.alloc (.cells #[.int .i64 k, .int .i64 l, .slice A n c, .int .i64 z] 96)).alloc (.cells #[.int .i64 0, .int .i64 0, .slice none 0 0, .int .i64 0] 96)) (w.heap.size + 1) [.int .i64 0, .int .i64 0, .slice none 0 0, .int .i64 0] 96 by have h9 := Bx.new (w.alloc (.cells #[.int .i64 k, .int .i64 l, .slice A n c, .int .i64 z] 96)) [.int .i64 0, .int .i64 0, .slice none 0 0, .int .i64 0] 96; rwa [show (w.alloc (.cells #[.int .i64 k, .int .i64 l, .slice A n c, .int .i64 z] 96)).heap.size = w.heap.size + 1 by simp] at h9)
  have HSZ := hide (show (Tryz.prog.info? 96).map (·.size) = some 4 by kernel_rfl)
  go_enter Tryz.func54, Tryz.ntmps54
  go_wp2_with fail
  refine (ClPl_any ⟨l, A, n, c, ps⟩ _ (HX.out.pl.up HV0.out) hn).mono ?_
  rintro e1 w1 ⟨⟨l1, A1, n1, c1, ps1⟩, h9, he1, ho, hb⟩
  obtain rfl : e1 = .returned (.agg #[.int .i64 l1, .slice A1 n1 c1]) := h9
  have HE1 := hide he1
  clear he1
  have hb1 : Below ((w.alloc (.cells #[.int .i64 k, .int .i64 l, .slice A n c, .int .i64 z] 96)).alloc (.cells #[.int .i64 0, .int .i64 0, .slice none 0 0, .int .i64 0] 96)).heap.size ((w.alloc (.cells #[.int .i64 k, .int .i64 l, .slice A n c, .int .i64 z] 96)).alloc (.cells #[.int .i64 0, .int .i64 0, .slice none 0 0, .int .i64 0] 96)) w1 := hb
  have hsv : w.heap.size + 2 ≤ ((w.alloc (.cells #[.int .i64 k, .int .i64 l, .slice A n c, .int .i64 z] 96)).alloc (.cells #[.int .i64 0, .int .i64 0, .slice none 0 0, .int .i64 0] 96)).heap.size := by have h8 := HS0.out; first | exact h8 | (simp; done) | (simp; omega)
  have HS1 := hide (Nat.le_trans hsv hb1.size)
  have HW1 := hide (show Below w.heap.size w w1 from HV0.out.trans (hb1.mono (by omega)))
  have HXC1 := hide (HXB0.out.below hb1)
  have HXD1 := hide (HXR0.out.below hb1)
  have HO1 := hide (show OwPl w1 (w.heap.size + 2) ⟨l1, A1, n1, c1, ps1⟩ from ownsRow_base ho hsv)
  clear hb hb1 ho hsv
  have HXB1 := hide (show Bx ((w1.setCell ⟨w.heap.size, 1, none⟩ (.int .i64 l1)).setCell ⟨w.heap.size, 2, none⟩ (.slice A1 n1 c1)) w.heap.size [.int .i64 k, .int .i64 l1, .slice A1 n1 c1, .int .i64 z] 96 from ((HXC1.out.set 1 (.int .i64 l1)).set 2 (.slice A1 n1 c1)))
  have HXR1 := hide (show Bx ((w1.setCell ⟨w.heap.size, 1, none⟩ (.int .i64 l1)).setCell ⟨w.heap.size, 2, none⟩ (.slice A1 n1 c1)) (w.heap.size + 1) [.int .i64 0, .int .i64 0, .slice none 0 0, .int .i64 0] 96 from ((HXD1.out.other (a := ⟨w.heap.size, 1, none⟩) (by simp) (.int .i64 l1)).other (a := ⟨w.heap.size, 2, none⟩) (by simp) (.slice A1 n1 c1)))
  have HV1 := hide (show Below w.heap.size w ((w1.setCell ⟨w.heap.size, 1, none⟩ (.int .i64 l1)).setCell ⟨w.heap.size, 2, none⟩ (.slice A1 n1 c1)) from ((HW1.out.setCell (p := ⟨w.heap.size, 1, none⟩) (Nat.le_refl _) (.int .i64 l1)).setCell (p := ⟨w.heap.size, 2, none⟩) (Nat.le_refl _) (.slice A1 n1 c1)))
  have HO1b := hide (own_keep HO1.out ((Keep.setCell (a := ⟨w.heap.size, 1, none⟩) (show w.heap.size < w.heap.size + 2 by omega) (.int .i64 l1)).trans (Keep.setCell (a := ⟨w.heap.size, 2, none⟩) (show w.heap.size < w.heap.size + 2 by omega) (.slice A1 n1 c1))))
  clear HO1
  have HO1 := HO1b
  clear HO1b
  have cc0 := HXC1.out.cell (j := 0) rfl
  have cc1 := HXC1.out.cell (j := 1) rfl
  have cc2 := HXC1.out.cell (j := 2) rfl
  have cc3 := HXC1.out.cell (j := 3) rfl
  have ff1 := HXC1.out.frozen 1
  have ff2 := HXC1.out.frozen 2
  have HR9 := HXR1
  have HONE := hide (all_oneCell_toArray (cs := [.int .i64 k, .int .i64 l1, .slice A1 n1 c1, .int .i64 z]) (fun u hu => by simp only [List.mem_cons, List.not_mem_nil, or_false] at hu; rcases hu with rfl | rfl | rfl | rfl <;> rfl))
  go_wp2_with (refine wpList_store_row rfl 96 _ _ rfl (w.heap.size + 1) #[.int .i64 k, .int .i64 l1, .slice A1 n1 c1, .int .i64 z] rfl rfl 96 #[.int .i64 0, .int .i64 0, .slice none 0 0, .int .i64 0] ?_ ?_ ?_ ?_ ?_; exact HR9.out; exact HSZ.out; rfl; exact HONE.out)
  refine bodyPost_ret (results_cell_row rfl _ _ (w.heap.size + 1) _ #[.int .i64 k, .int .i64 l1, .slice A1 n1 c1, .int .i64 z] (0, 0) _ rfl (setRow_heap _ _ _ _ _ _ HR9.out) Tryz.underlying96 rfl (by kernel_rfl)) rfl ⟨⟨k, ⟨l1, A1, n1, c1, ps1⟩, z⟩, rfl, (by have := HE1.out; simp only [OpW.v, OpV.mk.injEq]; exact ⟨trivial, this, trivial⟩), ?_, below_setRow9 HV1.out (Nat.le_succ _) _⟩
  have HO1z := own_keep HO1.out (Keep.setRow9 (g := w.heap.size + 1) (lo := w.heap.size + 2) (by omega) #[.int .i64 k, .int .i64 l1, .slice A1 n1 c1, .int .i64 z] ((w1.setCell ⟨w.heap.size, 1, none⟩ (.int .i64 l1)).setCell ⟨w.heap.size, 2, none⟩ (.slice A1 n1 c1)))
  exact ownsRow_base HO1z (show w.heap.size ≤ w.heap.size + 2 by omega)

end Go.Proofs.YtbdimnncobpfdaaGreat

/- The copying of statements and terminators. -/
set_option linter.unusedVariables false
set_option linter.unusedSimpArgs false
namespace Go.Proofs.YtbdimnncobpfdaaGreat
open Go.RowKit Go.Shelf

theorem EachOps_any (s : SlW OpW) (w : World) (hs : Ops w w.heap.size s) (hn : SmOps s) :
    Calls Tryz.prog 53 #[s.val, .func (.func 54) #[] #[]] w (SlOutOp w s) :=
  EachOp_any 54 s w hs (enters_of Tryz.func54 (by kernel_rfl) rfl) hn.n fun x hx w1 hb => ClOp_any x w1 ((hs.all x hx).up hb) (hn.all x hx)

theorem EachTys_any (s : SlW TyW) (w : World) (hs : SlH w w.heap.size 5 c5 (OneT w w.heap.size) s) (hn : s.n ≤ 2 ^ 39 ∧ ∀ t ∈ s.L, t.n ≤ 2 ^ 39) :
    Calls Tryz.prog 58 #[s.val, .func (.func 59) #[] #[]] w (SlOutTy w s) :=
  EachTy_any 59 s w hs (enters_of Tryz.func59 (by kernel_rfl) rfl) hn.1 fun x hx w1 hb => ClTy_any x w1 ((hs.all x hx).up9 hb) (hn.2 x hx)

set_option maxHeartbeats 1000000 in
set_option maxRecDepth 100000 in
theorem ClSt_any (x : StW) (w : World) (hx : OneSt w w.heap.size x) (hn : SmSt x) :
    Calls Tryz.prog 91 #[aggSt x] w (ClOut aggSt StW.v OwSt w x) := by
  have HX := hide hx
  clear hx
  obtain ⟨k, ⟨l, A, n, c, ps⟩, ⟨rk, ro, rr, rm, ⟨rl, rA, rn, rc, rps⟩, ⟨gA, gn, gc, gL⟩⟩, z⟩ := x
  have HV0 := hide (show Below w.heap.size w ((w.alloc (.cells #[.int .i64 k, .int .i64 l, .slice A n c, .int .i64 rk, .int .i64 ro, .int .i64 rr, .bool rm, .int .i64 rl, .slice rA rn rc, .slice gA gn gc, .int .i64 z] 58)).alloc (.cells #[.int .i64 0, .int .i64 0, .slice none 0 0, .int .i64 0, .int .i64 0, .int .i64 0, .bool false, .int .i64 0, .slice none 0 0, .slice none 0 0, .int .i64 0] 58)) from ((Below.refl _ w).alloc (Nat.le_refl _) _).alloc (by simp) _)
  have HS0 := hide (show w.heap.size + 2 ≤ ((w.alloc (.cells #[.int .i64 k, .int .i64 l, .slice A n c, .int .i64 rk, .int .i64 ro, .int .i64 rr, .bool rm, .int .i64 rl, .slice rA rn rc, .slice gA gn gc, .int .i64 z] 58)).alloc (.cells #[.int .i64 0, .int .i64 0, .slice none 0 0, .int .i64 0, .int .i64 0, .int .i64 0, .bool false, .int .i64 0, .slice none 0 0, .slice none 0 0, .int .i64 0] 58)).heap.size by simp)
  have HXB0 := hide (show Bx ((w.alloc (.cells #[.int .i64 k, .int .i64 l, .slice A n c, .int .i64 rk, .int .i64 ro, .int .i64 rr, .bool rm, .int .i64 rl, .slice rA rn rc, .slice gA gn gc, .int .i64 z] 58)).alloc (.cells #[.int .i64 0, .int .i64 0, .slice none 0 0, .int .i64 0, .int .i64 0, .int .i64 0, .bool false, .int .i64 0, .slice none 0 0, .slice none 0 0, .int .i64 0] 58)) w.heap.size [.int .i64 k, .int .i64 l, .slice A n c, .int .i64 rk, .int .i64 ro, .int .i64 rr, .bool rm, .int .i64 rl, .slice rA rn rc, .slice gA gn gc, .int .i64 z] 58 from (Bx.new w [.int .i64 k, .int .i64 l, .slice A n c, .int .i64 rk, .int .i64 ro, .int .i64 rr, .bool rm, .int .i64 rl, .slice rA rn rc, .slice gA gn gc, .int .i64 z] 58).below ((Below.refl _ _).alloc (Nat.le_refl _) _))
  have HXR0 := hide (show Bx ((w.alloc (.cells #[.int .i64 k, .int .i64 l, .slice A n c, .int .i64 rk, .int .i64 ro, .int .i64 rr, .bool rm, .int .i64 rl, .slice rA rn rc, .slice gA gn gc, .int .i64 z] 58)).alloc (.cells #[.int .i64 0, .int .i64 0, .slice none 0 0, .int .i64 0, .int .i64 0, .int .i64 0, .bool false, .int .i64 0, .slice none 0 0, .slice none 0 0, .int .i64 0] 58)) (w.heap.size + 1) [.int .i64 0, .int .i64 0, .slice none 0 0, .int .i64 0, .int .i64 0, .int .i64 0, .bool false, .int .i64 0, .slice none 0 0, .slice none 0 0, .int .i64 0] 58 by have h9 := Bx.new (w.alloc (.cells #[.int .i64 k, .int .i64 l, .slice A n c, .int .i64 rk, .int .i64 ro, .int .i64 rr, .bool rm, .int .i64 rl, .slice rA rn rc, .slice gA gn gc, .int .i64 z] 58)) [.int .i64 0, .int .i64 0, .slice none 0 0, .int .i64 0, .int .i64 0, .int .i64 0, .bool false, .int .i64 0, .slice none 0 0, .slice none 0 0, .int .i64 0] 58; rwa [show (w.alloc (.cells #[.int .i64 k, .int .i64 l, .slice A n c, .int .i64 rk, .int .i64 ro, .int .i64 rr, .bool rm, .int .i64 rl, .slice rA rn rc, .slice gA gn gc, .int .i64 z] 58)).heap.size = w.heap.size + 1 by simp] at h9)
  have HSZ := hide (show (Tryz.prog.info? 58).map (·.size) = some 11 by kernel_rfl)
  go_enter Tryz.func91, Tryz.ntmps91
  go_wp2_with fail
  refine (ClPl_any ⟨l, A, n, c, ps⟩ _ (HX.out.pl.up HV0.out) hn.pl).mono ?_
  rintro e1 w1 ⟨⟨l1, A1, n1, c1, ps1⟩, h9, he1, ho, hb⟩
  obtain rfl : e1 = .returned (.agg #[.int .i64 l1, .slice A1 n1 c1]) := h9
  have HE1 := hide he1
  clear he1
  have hb1 : Below ((w.alloc (.cells #[.int .i64 k, .int .i64 l, .slice A n c, .int .i64 rk, .int .i64 ro, .int .i64 rr, .bool rm, .int .i64 rl, .slice rA rn rc, .slice gA gn gc, .int .i64 z] 58)).alloc (.cells #[.int .i64 0, .int .i64 0, .slice none 0 0, .int .i64 0, .int .i64 0, .int .i64 0, .bool false, .int .i64 0, .slice none 0 0, .slice none 0 0, .int .i64 0] 58)).heap.size ((w.alloc (.cells #[.int .i64 k, .int .i64 l, .slice A n c, .int .i64 rk, .int .i64 ro, .int .i64 rr, .bool rm, .int .i64 rl, .slice rA rn rc, .slice gA gn gc, .int .i64 z] 58)).alloc (.cells #[.int .i64 0, .int .i64 0, .slice none 0 0, .int .i64 0, .int .i64 0, .int .i64 0, .bool false, .int .i64 0, .slice none 0 0, .slice none 0 0, .int .i64 0] 58)) w1 := hb
  have hsv : w.heap.size + 2 ≤ ((w.alloc (.cells #[.int .i64 k, .int .i64 l, .slice A n c, .int .i64 rk, .int .i64 ro, .int .i64 rr, .bool rm, .int .i64 rl, .slice rA rn rc, .slice gA gn gc, .int .i64 z] 58)).alloc (.cells #[.int .i64 0, .int .i64 0, .slice none 0 0, .int .i64 0, .int .i64 0, .int .i64 0, .bool false, .int .i64 0, .slice none 0 0, .slice none 0 0, .int .i64 0] 58)).heap.size := by have h8 := HS0.out; first | exact h8 | (simp; done) | (simp; omega)
  have HS1 := hide (Nat.le_trans hsv hb1.size)
  have HW1 := hide (show Below w.heap.size w w1 from HV0.out.trans (hb1.mono (by omega)))
  have HXC1 := hide (HXB0.out.below hb1)
  have HXD1 := hide (HXR0.out.below hb1)
  have HO1 := hide (show OwPl w1 (w.heap.size + 2) ⟨l1, A1, n1, c1, ps1⟩ from ownsRow_base ho hsv)
  clear hb hb1 ho hsv
  have HXB1 := hide (show Bx ((w1.setCell ⟨w.heap.size, 1, none⟩ (.int .i64 l1)).setCell ⟨w.heap.size, 2, none⟩ (.slice A1 n1 c1)) w.heap.size [.int .i64 k, .int .i64 l1, .slice A1 n1 c1, .int .i64 rk, .int .i64 ro, .int .i64 rr, .bool rm, .int .i64 rl, .slice rA rn rc, .slice gA gn gc, .int .i64 z] 58 from ((HXC1.out.set 1 (.int .i64 l1)).set 2 (.slice A1 n1 c1)))
  have HXR1 := hide (show Bx ((w1.setCell ⟨w.heap.size, 1, none⟩ (.int .i64 l1)).setCell ⟨w.heap.size, 2, none⟩ (.slice A1 n1 c1)) (w.heap.size + 1) [.int .i64 0, .int .i64 0, .slice none 0 0, .int .i64 0, .int .i64 0, .int .i64 0, .bool false, .int .i64 0, .slice none 0 0, .slice none 0 0, .int .i64 0] 58 from ((HXD1.out.other (a := ⟨w.heap.size, 1, none⟩) (by simp) (.int .i64 l1)).other (a := ⟨w.heap.size, 2, none⟩) (by simp) (.slice A1 n1 c1)))
  have HV1 := hide (show Below w.heap.size w ((w1.setCell ⟨w.heap.size, 1, none⟩ (.int .i64 l1)).setCell ⟨w.heap.size, 2, none⟩ (.slice A1 n1 c1)) from ((HW1.out.setCell (p := ⟨w.heap.size, 1, none⟩) (Nat.le_refl _) (.int .i64 l1)).setCell (p := ⟨w.heap.size, 2, none⟩) (Nat.le_refl _) (.slice A1 n1 c1)))
  have HO1b := hide (own_keep HO1.out ((Keep.setCell (a := ⟨w.heap.size, 1, none⟩) (show w.heap.size < w.heap.size + 2 by omega) (.int .i64 l1)).trans (Keep.setCell (a := ⟨w.heap.size, 2, none⟩) (show w.heap.size < w.heap.size + 2 by omega) (.slice A1 n1 c1))))
  clear HO1
  have HO1 := HO1b
  clear HO1b
  have cc0 := HXC1.out.cell (j := 0) rfl
  have cc1 := HXC1.out.cell (j := 1) rfl
  have cc2 := HXC1.out.cell (j := 2) rfl
  have cc3 := HXC1.out.cell (j := 3) rfl
  have cc4 := HXC1.out.cell (j := 4) rfl
  have cc5 := HXC1.out.cell (j := 5) rfl
  have cc6 := HXC1.out.cell (j := 6) rfl
  have cc7 := HXC1.out.cell (j := 7) rfl
  have cc8 := HXC1.out.cell (j := 8) rfl
  have cc9 := HXC1.out.cell (j := 9) rfl
  have cc10 := HXC1.out.cell (j := 10) rfl
  have ff1 := HXC1.out.frozen 1
  have ff2 := HXC1.out.frozen 2
  go_wp2_with fail
  refine (ClPl_any ⟨rl, rA, rn, rc, rps⟩ _ (HX.out.rv.pl.up HV1.out) hn.rpl).mono ?_
  rintro e2 w2 ⟨⟨rl1, rA1, rn1, rc1, rps1⟩, h9, he2, ho, hb⟩
  obtain rfl : e2 = .returned (.agg #[.int .i64 rl1, .slice rA1 rn1 rc1]) := h9
  have HE2 := hide he2
  clear he2
  have hb2 : Below ((w1.setCell ⟨w.heap.size, 1, none⟩ (.int .i64 l1)).setCell ⟨w.heap.size, 2, none⟩ (.slice A1 n1 c1)).heap.size ((w1.setCell ⟨w.heap.size, 1, none⟩ (.int .i64 l1)).setCell ⟨w.heap.size, 2, none⟩ (.slice A1 n1 c1)) w2 := hb
  have hsv : w.heap.size + 2 ≤ ((w1.setCell ⟨w.heap.size, 1, none⟩ (.int .i64 l1)).setCell ⟨w.heap.size, 2, none⟩ (.slice A1 n1 c1)).heap.size := by have h8 := HS1.out; first | exact h8 | (simp; done) | (simp; omega)
  have HS2 := hide (Nat.le_trans hsv hb2.size)
  have HW2 := hide (show Below w.heap.size w w2 from HV1.out.trans (hb2.mono (by omega)))
  have HXC2 := hide (HXB1.out.below hb2)
  have HXD2 := hide (HXR1.out.below hb2)
  have HO1b := hide (own_keep HO1.out (Keep.of_below hb2))
  clear HO1
  have HO1 := HO1b
  clear HO1b
  have HO2 := hide (show OwPl w2 (w.heap.size + 2) ⟨rl1, rA1, rn1, rc1, rps1⟩ from ownsRow_base ho hsv)
  clear hb hb2 ho hsv
  have HXB2 := hide (show Bx ((w2.setCell ⟨w.heap.size, 7, none⟩ (.int .i64 rl1)).setCell ⟨w.heap.size, 8, none⟩ (.slice rA1 rn1 rc1)) w.heap.size [.int .i64 k, .int .i64 l1, .slice A1 n1 c1, .int .i64 rk, .int .i64 ro, .int .i64 rr, .bool rm, .int .i64 rl1, .slice rA1 rn1 rc1, .slice gA gn gc, .int .i64 z] 58 from ((HXC2.out.set 7 (.int .i64 rl1)).set 8 (.slice rA1 rn1 rc1)))
  have HXR2 := hide (show Bx ((w2.setCell ⟨w.heap.size, 7, none⟩ (.int .i64 rl1)).setCell ⟨w.heap.size, 8, none⟩ (.slice rA1 rn1 rc1)) (w.heap.size + 1) [.int .i64 0, .int .i64 0, .slice none 0 0, .int .i64 0, .int .i64 0, .int .i64 0, .bool false, .int .i64 0, .slice none 0 0, .slice none 0 0, .int .i64 0] 58 from ((HXD2.out.other (a := ⟨w.heap.size, 7, none⟩) (by simp) (.int .i64 rl1)).other (a := ⟨w.heap.size, 8, none⟩) (by simp) (.slice rA1 rn1 rc1)))
  have HV2 := hide (show Below w.heap.size w ((w2.setCell ⟨w.heap.size, 7, none⟩ (.int .i64 rl1)).setCell ⟨w.heap.size, 8, none⟩ (.slice rA1 rn1 rc1)) from ((HW2.out.setCell (p := ⟨w.heap.size, 7, none⟩) (Nat.le_refl _) (.int .i64 rl1)).setCell (p := ⟨w.heap.size, 8, none⟩) (Nat.le_refl _) (.slice rA1 rn1 rc1)))
  have HO1b := hide (own_keep HO1.out ((Keep.setCell (a := ⟨w.heap.size, 7, none⟩) (show w.heap.size < w.heap.size + 2 by omega) (.int .i64 rl1)).trans (Keep.setCell (a := ⟨w.heap.size, 8, none⟩) (show w.heap.size < w.heap.size + 2 by omega) (.slice rA1 rn1 rc1))))
  clear HO1
  have HO1 := HO1b
  clear HO1b
  have HO2b := hide (own_keep HO2.out ((Keep.setCell (a := ⟨w.heap.size, 7, none⟩) (show w.heap.size < w.heap.size + 2 by omega) (.int .i64 rl1)).trans (Keep.setCell (a := ⟨w.heap.size, 8, none⟩) (show w.heap.size < w.heap.size + 2 by omega) (.slice rA1 rn1 rc1))))
  clear HO2
  have HO2 := HO2b
  clear HO2b
  clear cc0 cc1 cc2 cc3 cc4 cc5 cc6 cc7 cc8 cc9 cc10 ff1 ff2
  have cc0 := HXC2.out.cell (j := 0) rfl
  have cc1 := HXC2.out.cell (j := 1) rfl
  have cc2 := HXC2.out.cell (j := 2) rfl
  have cc3 := HXC2.out.cell (j := 3) rfl
  have cc4 := HXC2.out.cell (j := 4) rfl
  have cc5 := HXC2.out.cell (j := 5) rfl
  have cc6 := HXC2.out.cell (j := 6) rfl
  have cc7 := HXC2.out.cell (j := 7) rfl
  have cc8 := HXC2.out.cell (j := 8) rfl
  have cc9 := HXC2.out.cell (j := 9) rfl
  have cc10 := HXC2.out.cell (j := 10) rfl
  have ff7 := HXC2.out.frozen 7
  have ff8 := HXC2.out.frozen 8
  go_wp2_with fail
  refine (EachOps_any ⟨gA, gn, gc, gL⟩ _ (Ops.up HX.out.rv.args HV2.out) hn.args).mono ?_
  rintro e3 w3 ⟨⟨gA1, gn1, gc1, gL1⟩, h9, he3, ho, hb⟩
  obtain rfl : e3 = .returned (.slice gA1 gn1 gc1) := h9
  have HE3 := hide he3
  clear he3
  have hb3 : Below ((w2.setCell ⟨w.heap.size, 7, none⟩ (.int .i64 rl1)).setCell ⟨w.heap.size, 8, none⟩ (.slice rA1 rn1 rc1)).heap.size ((w2.setCell ⟨w.heap.size, 7, none⟩ (.int .i64 rl1)).setCell ⟨w.heap.size, 8, none⟩ (.slice rA1 rn1 rc1)) w3 := hb
  have hsv : w.heap.size + 2 ≤ ((w2.setCell ⟨w.heap.size, 7, none⟩ (.int .i64 rl1)).setCell ⟨w.heap.size, 8, none⟩ (.slice rA1 rn1 rc1)).heap.size := by have h8 := HS2.out; first | exact h8 | (simp; done) | (simp; omega)
  have HS3 := hide (Nat.le_trans hsv hb3.size)
  have HW3 := hide (show Below w.heap.size w w3 from HV2.out.trans (hb3.mono (by omega)))
  have HXC3 := hide (HXB2.out.below hb3)
  have HXD3 := hide (HXR2.out.below hb3)
  have HO1b := hide (own_keep HO1.out (Keep.of_below hb3))
  clear HO1
  have HO1 := HO1b
  clear HO1b
  have HO2b := hide (own_keep HO2.out (Keep.of_below hb3))
  clear HO2
  have HO2 := HO2b
  clear HO2b
  have HO3 := hide (show OwOps w3 (w.heap.size + 2) ⟨gA1, gn1, gc1, gL1⟩ from OwOps.base ho hsv)
  clear hb hb3 ho hsv
  have HXB3 := hide (show Bx (w3.setCell ⟨w.heap.size, 9, none⟩ (.slice gA1 gn1 gc1)) w.heap.size [.int .i64 k, .int .i64 l1, .slice A1 n1 c1, .int .i64 rk, .int .i64 ro, .int .i64 rr, .bool rm, .int .i64 rl1, .slice rA1 rn1 rc1, .slice gA1 gn1 gc1, .int .i64 z] 58 from (HXC3.out.set 9 (.slice gA1 gn1 gc1)))
  have HXR3 := hide (show Bx (w3.setCell ⟨w.heap.size, 9, none⟩ (.slice gA1 gn1 gc1)) (w.heap.size + 1) [.int .i64 0, .int .i64 0, .slice none 0 0, .int .i64 0, .int .i64 0, .int .i64 0, .bool false, .int .i64 0, .slice none 0 0, .slice none 0 0, .int .i64 0] 58 from (HXD3.out.other (a := ⟨w.heap.size, 9, none⟩) (by simp) (.slice gA1 gn1 gc1)))
  have HV3 := hide (show Below w.heap.size w (w3.setCell ⟨w.heap.size, 9, none⟩ (.slice gA1 gn1 gc1)) from (HW3.out.setCell (p := ⟨w.heap.size, 9, none⟩) (Nat.le_refl _) (.slice gA1 gn1 gc1)))
  have HO1b := hide (own_keep HO1.out (Keep.setCell (a := ⟨w.heap.size, 9, none⟩) (show w.heap.size < w.heap.size + 2 by omega) (.slice gA1 gn1 gc1)))
  clear HO1
  have HO1 := HO1b
  clear HO1b
  have HO2b := hide (own_keep HO2.out (Keep.setCell (a := ⟨w.heap.size, 9, none⟩) (show w.heap.size < w.heap.size + 2 by omega) (.slice gA1 gn1 gc1)))
  clear HO2
  have HO2 := HO2b
  clear HO2b
  have HO3b := hide (OwOps.keep HO3.out (Keep.setCell (a := ⟨w.heap.size, 9, none⟩) (show w.heap.size < w.heap.size + 2 by omega) (.slice gA1 gn1 gc1)))
  clear HO3
  have HO3 := HO3b
  clear HO3b
  clear cc0 cc1 cc2 cc3 cc4 cc5 cc6 cc7 cc8 cc9 cc10 ff7 ff8
  have cc0 := HXC3.out.cell (j := 0) rfl
  have cc1 := HXC3.out.cell (j := 1) rfl
  have cc2 := HXC3.out.cell (j := 2) rfl
  have cc3 := HXC3.out.cell (j := 3) rfl
  have cc4 := HXC3.out.cell (j := 4) rfl
  have cc5 := HXC3.out.cell (j := 5) rfl
  have cc6 := HXC3.out.cell (j := 6) rfl
  have cc7 := HXC3.out.cell (j := 7) rfl
  have cc8 := HXC3.out.cell (j := 8) rfl
  have cc9 := HXC3.out.cell (j := 9) rfl
  have cc10 := HXC3.out.cell (j := 10) rfl
  have ff9 := HXC3.out.frozen 9
  have HR9 := HXR3
  have HONE := hide (all_oneCell_toArray (cs := [.int .i64 k, .int .i64 l1, .slice A1 n1 c1, .int .i64 rk, .int .i64 ro, .int .i64 rr, .bool rm, .int .i64 rl1, .slice rA1 rn1 rc1, .slice gA1 gn1 gc1, .int .i64 z]) (fun u hu => by simp only [List.mem_cons, List.not_mem_nil, or_false] at hu; rcases hu with rfl | rfl | rfl | rfl | rfl | rfl | rfl | rfl | rfl | rfl | rfl <;> rfl))
  go_wp2_with (refine wpList_store_row rfl 58 _ _ rfl (w.heap.size + 1) #[.int .i64 k, .int .i64 l1, .slice A1 n1 c1, .int .i64 rk, .int .i64 ro, .int .i64 rr, .bool rm, .int .i64 rl1, .slice rA1 rn1 rc1, .slice gA1 gn1 gc1, .int .i64 z] rfl rfl 58 #[.int .i64 0, .int .i64 0, .slice none 0 0, .int .i64 0, .int .i64 0, .int .i64 0, .bool false, .int .i64 0, .slice none 0 0, .slice none 0 0, .int .i64 0] ?_ ?_ ?_ ?_ ?_; exact HR9.out; exact HSZ.out; rfl; exact HONE.out)
  refine bodyPost_ret (results_cell_row rfl _ _ (w.heap.size + 1) _ #[.int .i64 k, .int .i64 l1, .slice A1 n1 c1, .int .i64 rk, .int .i64 ro, .int .i64 rr, .bool rm, .int .i64 rl1, .slice rA1 rn1 rc1, .slice gA1 gn1 gc1, .int .i64 z] (0, 0) _ rfl (setRow_heap _ _ _ _ _ _ HR9.out) Tryz.underlying58 rfl (by kernel_rfl)) rfl ⟨⟨k, ⟨l1, A1, n1, c1, ps1⟩, ⟨rk, ro, rr, rm, ⟨rl1, rA1, rn1, rc1, rps1⟩, ⟨gA1, gn1, gc1, gL1⟩⟩, z⟩, rfl, (by have h1 := HE1.out; have h2 := HE2.out; have h3 := HE3.out; simp only [StW.v, RvW.v, StV.mk.injEq, RvV.mk.injEq]; exact ⟨trivial, h1, ⟨trivial, trivial, trivial, trivial, h2, h3⟩, trivial⟩), ?_, below_setRow9 HV3.out (Nat.le_succ _) _⟩
  have HO1z := own_keep HO1.out (Keep.setRow9 (g := w.heap.size + 1) (lo := w.heap.size + 2) (by omega) #[.int .i64 k, .int .i64 l1, .slice A1 n1 c1, .int .i64 rk, .int .i64 ro, .int .i64 rr, .bool rm, .int .i64 rl1, .slice rA1 rn1 rc1, .slice gA1 gn1 gc1, .int .i64 z] (w3.setCell ⟨w.heap.size, 9, none⟩ (.slice gA1 gn1 gc1)))
  have HO2z := own_keep HO2.out (Keep.setRow9 (g := w.heap.size + 1) (lo := w.heap.size + 2) (by omega) #[.int .i64 k, .int .i64 l1, .slice A1 n1 c1, .int .i64 rk, .int .i64 ro, .int .i64 rr, .bool rm, .int .i64 rl1, .slice rA1 rn1 rc1, .slice gA1 gn1 gc1, .int .i64 z] (w3.setCell ⟨w.heap.size, 9, none⟩ (.slice gA1 gn1 gc1)))
  have HO3z := OwOps.keep HO3.out (Keep.setRow9 (g := w.heap.size + 1) (lo := w.heap.size + 2) (by omega) #[.int .i64 k, .int .i64 l1, .slice A1 n1 c1, .int .i64 rk, .int .i64 ro, .int .i64 rr, .bool rm, .int .i64 rl1, .slice rA1 rn1 rc1, .slice gA1 gn1 gc1, .int .i64 z] (w3.setCell ⟨w.heap.size, 9, none⟩ (.slice gA1 gn1 gc1)))
  exact ⟨ownsRow_base HO1z (show w.heap.size ≤ w.heap.size + 2 by omega), ownsRow_base HO2z (show w.heap.size ≤ w.heap.size + 2 by omega), OwOps.base HO3z (show w.heap.size ≤ w.heap.size + 2 by omega)⟩

set_option maxHeartbeats 1000000 in
set_option maxRecDepth 100000 in
theorem ClTm_any (x : TmW) (w : World) (hx : OneTm w w.heap.size x) (hn : SmTm x) :
    Calls Tryz.prog 92 #[aggTm x] w (ClOut aggTm TmW.v OwTm w x) := by
  have HX := hide hx
  clear hx
  obtain ⟨k, ⟨tA, tn, tc, tL⟩, ⟨gA, gn, gc, gL⟩, ⟨l, A, n, c, ps⟩, nm⟩ := x
  have HV0 := hide (show Below w.heap.size w ((w.alloc (.cells #[.int .i64 k, .slice tA tn tc, .slice gA gn gc, .int .i64 l, .slice A n c, .string nm] 42)).alloc (.cells #[.int .i64 0, .slice none 0 0, .slice none 0 0, .int .i64 0, .slice none 0 0, .string .empty] 42)) from ((Below.refl _ w).alloc (Nat.le_refl _) _).alloc (by simp) _)
  have HS0 := hide (show w.heap.size + 2 ≤ ((w.alloc (.cells #[.int .i64 k, .slice tA tn tc, .slice gA gn gc, .int .i64 l, .slice A n c, .string nm] 42)).alloc (.cells #[.int .i64 0, .slice none 0 0, .slice none 0 0, .int .i64 0, .slice none 0 0, .string .empty] 42)).heap.size by simp)
  have HXB0 := hide (show Bx ((w.alloc (.cells #[.int .i64 k, .slice tA tn tc, .slice gA gn gc, .int .i64 l, .slice A n c, .string nm] 42)).alloc (.cells #[.int .i64 0, .slice none 0 0, .slice none 0 0, .int .i64 0, .slice none 0 0, .string .empty] 42)) w.heap.size [.int .i64 k, .slice tA tn tc, .slice gA gn gc, .int .i64 l, .slice A n c, .string nm] 42 from (Bx.new w [.int .i64 k, .slice tA tn tc, .slice gA gn gc, .int .i64 l, .slice A n c, .string nm] 42).below ((Below.refl _ _).alloc (Nat.le_refl _) _))
  have HXR0 := hide (show Bx ((w.alloc (.cells #[.int .i64 k, .slice tA tn tc, .slice gA gn gc, .int .i64 l, .slice A n c, .string nm] 42)).alloc (.cells #[.int .i64 0, .slice none 0 0, .slice none 0 0, .int .i64 0, .slice none 0 0, .string .empty] 42)) (w.heap.size + 1) [.int .i64 0, .slice none 0 0, .slice none 0 0, .int .i64 0, .slice none 0 0, .string .empty] 42 by have h9 := Bx.new (w.alloc (.cells #[.int .i64 k, .slice tA tn tc, .slice gA gn gc, .int .i64 l, .slice A n c, .string nm] 42)) [.int .i64 0, .slice none 0 0, .slice none 0 0, .int .i64 0, .slice none 0 0, .string .empty] 42; rwa [show (w.alloc (.cells #[.int .i64 k, .slice tA tn tc, .slice gA gn gc, .int .i64 l, .slice A n c, .string nm] 42)).heap.size = w.heap.size + 1 by simp] at h9)
  have HSZ := hide (show (Tryz.prog.info? 42).map (·.size) = some 6 by kernel_rfl)
  go_enter Tryz.func92, Tryz.ntmps92
  go_wp2_with fail
  refine (ClnInt_any ⟨tA, tn, tc, tL⟩ _ (Ints.up HX.out.targets HV0.out) hn.targets).mono ?_
  rintro e1 w1 ⟨⟨tA1, tn1, tc1, tL1⟩, h9, he1, ho, hb⟩
  obtain rfl : e1 = .returned (.slice tA1 tn1 tc1) := h9
  simp only [] at he1
  have hl9 := he1.symm
  subst hl9
  have hb1 : Below ((w.alloc (.cells #[.int .i64 k, .slice tA tn tc, .slice gA gn gc, .int .i64 l, .slice A n c, .string nm] 42)).alloc (.cells #[.int .i64 0, .slice none 0 0, .slice none 0 0, .int .i64 0, .slice none 0 0, .string .empty] 42)).heap.size ((w.alloc (.cells #[.int .i64 k, .slice tA tn tc, .slice gA gn gc, .int .i64 l, .slice A n c, .string nm] 42)).alloc (.cells #[.int .i64 0, .slice none 0 0, .slice none 0 0, .int .i64 0, .slice none 0 0, .string .empty] 42)) w1 := hb
  have hsv : w.heap.size + 2 ≤ ((w.alloc (.cells #[.int .i64 k, .slice tA tn tc, .slice gA gn gc, .int .i64 l, .slice A n c, .string nm] 42)).alloc (.cells #[.int .i64 0, .slice none 0 0, .slice none 0 0, .int .i64 0, .slice none 0 0, .string .empty] 42)).heap.size := by have h8 := HS0.out; first | exact h8 | (simp; done) | (simp; omega)
  have HS1 := hide (Nat.le_trans hsv hb1.size)
  have HW1 := hide (show Below w.heap.size w w1 from HV0.out.trans (hb1.mono (by omega)))
  have HXC1 := hide (HXB0.out.below hb1)
  have HXD1 := hide (HXR0.out.below hb1)
  have HO1 := hide (show w1.ownsRow (w.heap.size + 2) 3 1 (.slice tA1 tn1 tc1) tn1 (tL.flatMap cInt) from ownsRow_base ho hsv)
  clear hb hb1 ho hsv
  have HXB1 := hide (show Bx (w1.setCell ⟨w.heap.size, 1, none⟩ (.slice tA1 tn1 tc1)) w.heap.size [.int .i64 k, .slice tA1 tn1 tc1, .slice gA gn gc, .int .i64 l, .slice A n c, .string nm] 42 from (HXC1.out.set 1 (.slice tA1 tn1 tc1)))
  have HXR1 := hide (show Bx (w1.setCell ⟨w.heap.size, 1, none⟩ (.slice tA1 tn1 tc1)) (w.heap.size + 1) [.int .i64 0, .slice none 0 0, .slice none 0 0, .int .i64 0, .slice none 0 0, .string .empty] 42 from (HXD1.out.other (a := ⟨w.heap.size, 1, none⟩) (by simp) (.slice tA1 tn1 tc1)))
  have HV1 := hide (show Below w.heap.size w (w1.setCell ⟨w.heap.size, 1, none⟩ (.slice tA1 tn1 tc1)) from (HW1.out.setCell (p := ⟨w.heap.size, 1, none⟩) (Nat.le_refl _) (.slice tA1 tn1 tc1)))
  have HO1b := hide (own_keep HO1.out (Keep.setCell (a := ⟨w.heap.size, 1, none⟩) (show w.heap.size < w.heap.size + 2 by omega) (.slice tA1 tn1 tc1)))
  clear HO1
  have HO1 := HO1b
  clear HO1b
  have cc0 := HXC1.out.cell (j := 0) rfl
  have cc1 := HXC1.out.cell (j := 1) rfl
  have cc2 := HXC1.out.cell (j := 2) rfl
  have cc3 := HXC1.out.cell (j := 3) rfl
  have cc4 := HXC1.out.cell (j := 4) rfl
  have cc5 := HXC1.out.cell (j := 5) rfl
  have ff1 := HXC1.out.frozen 1
  go_wp2_with fail
  refine (EachOps_any ⟨gA, gn, gc, gL⟩ _ (Ops.up HX.out.args HV1.out) hn.args).mono ?_
  rintro e2 w2 ⟨⟨gA1, gn1, gc1, gL1⟩, h9, he2, ho, hb⟩
  obtain rfl : e2 = .returned (.slice gA1 gn1 gc1) := h9
  have HE2 := hide he2
  clear he2
  have hb2 : Below (w1.setCell ⟨w.heap.size, 1, none⟩ (.slice tA1 tn1 tc1)).heap.size (w1.setCell ⟨w.heap.size, 1, none⟩ (.slice tA1 tn1 tc1)) w2 := hb
  have hsv : w.heap.size + 2 ≤ (w1.setCell ⟨w.heap.size, 1, none⟩ (.slice tA1 tn1 tc1)).heap.size := by have h8 := HS1.out; first | exact h8 | (simp; done) | (simp; omega)
  have HS2 := hide (Nat.le_trans hsv hb2.size)
  have HW2 := hide (show Below w.heap.size w w2 from HV1.out.trans (hb2.mono (by omega)))
  have HXC2 := hide (HXB1.out.below hb2)
  have HXD2 := hide (HXR1.out.below hb2)
  have HO1b := hide (own_keep HO1.out (Keep.of_below hb2))
  clear HO1
  have HO1 := HO1b
  clear HO1b
  have HO2 := hide (show OwOps w2 (w.heap.size + 2) ⟨gA1, gn1, gc1, gL1⟩ from OwOps.base ho hsv)
  clear hb hb2 ho hsv
  have HXB2 := hide (show Bx (w2.setCell ⟨w.heap.size, 2, none⟩ (.slice gA1 gn1 gc1)) w.heap.size [.int .i64 k, .slice tA1 tn1 tc1, .slice gA1 gn1 gc1, .int .i64 l, .slice A n c, .string nm] 42 from (HXC2.out.set 2 (.slice gA1 gn1 gc1)))
  have HXR2 := hide (show Bx (w2.setCell ⟨w.heap.size, 2, none⟩ (.slice gA1 gn1 gc1)) (w.heap.size + 1) [.int .i64 0, .slice none 0 0, .slice none 0 0, .int .i64 0, .slice none 0 0, .string .empty] 42 from (HXD2.out.other (a := ⟨w.heap.size, 2, none⟩) (by simp) (.slice gA1 gn1 gc1)))
  have HV2 := hide (show Below w.heap.size w (w2.setCell ⟨w.heap.size, 2, none⟩ (.slice gA1 gn1 gc1)) from (HW2.out.setCell (p := ⟨w.heap.size, 2, none⟩) (Nat.le_refl _) (.slice gA1 gn1 gc1)))
  have HO1b := hide (own_keep HO1.out (Keep.setCell (a := ⟨w.heap.size, 2, none⟩) (show w.heap.size < w.heap.size + 2 by omega) (.slice gA1 gn1 gc1)))
  clear HO1
  have HO1 := HO1b
  clear HO1b
  have HO2b := hide (OwOps.keep HO2.out (Keep.setCell (a := ⟨w.heap.size, 2, none⟩) (show w.heap.size < w.heap.size + 2 by omega) (.slice gA1 gn1 gc1)))
  clear HO2
  have HO2 := HO2b
  clear HO2b
  clear cc0 cc1 cc2 cc3 cc4 cc5 ff1
  have cc0 := HXC2.out.cell (j := 0) rfl
  have cc1 := HXC2.out.cell (j := 1) rfl
  have cc2 := HXC2.out.cell (j := 2) rfl
  have cc3 := HXC2.out.cell (j := 3) rfl
  have cc4 := HXC2.out.cell (j := 4) rfl
  have cc5 := HXC2.out.cell (j := 5) rfl
  have ff2 := HXC2.out.frozen 2
  go_wp2_with fail
  refine (ClPl_any ⟨l, A, n, c, ps⟩ _ (HX.out.pl.up HV2.out) hn.pl).mono ?_
  rintro e3 w3 ⟨⟨l1, A1, n1, c1, ps1⟩, h9, he3, ho, hb⟩
  obtain rfl : e3 = .returned (.agg #[.int .i64 l1, .slice A1 n1 c1]) := h9
  have HE3 := hide he3
  clear he3
  have hb3 : Below (w2.setCell ⟨w.heap.size, 2, none⟩ (.slice gA1 gn1 gc1)).heap.size (w2.setCell ⟨w.heap.size, 2, none⟩ (.slice gA1 gn1 gc1)) w3 := hb
  have hsv : w.heap.size + 2 ≤ (w2.setCell ⟨w.heap.size, 2, none⟩ (.slice gA1 gn1 gc1)).heap.size := by have h8 := HS2.out; first | exact h8 | (simp; done) | (simp; omega)
  have HS3 := hide (Nat.le_trans hsv hb3.size)
  have HW3 := hide (show Below w.heap.size w w3 from HV2.out.trans (hb3.mono (by omega)))
  have HXC3 := hide (HXB2.out.below hb3)
  have HXD3 := hide (HXR2.out.below hb3)
  have HO1b := hide (own_keep HO1.out (Keep.of_below hb3))
  clear HO1
  have HO1 := HO1b
  clear HO1b
  have HO2b := hide (OwOps.keep HO2.out (Keep.of_below hb3))
  clear HO2
  have HO2 := HO2b
  clear HO2b
  have HO3 := hide (show OwPl w3 (w.heap.size + 2) ⟨l1, A1, n1, c1, ps1⟩ from ownsRow_base ho hsv)
  clear hb hb3 ho hsv
  have HXB3 := hide (show Bx ((w3.setCell ⟨w.heap.size, 3, none⟩ (.int .i64 l1)).setCell ⟨w.heap.size, 4, none⟩ (.slice A1 n1 c1)) w.heap.size [.int .i64 k, .slice tA1 tn1 tc1, .slice gA1 gn1 gc1, .int .i64 l1, .slice A1 n1 c1, .string nm] 42 from ((HXC3.out.set 3 (.int .i64 l1)).set 4 (.slice A1 n1 c1)))
  have HXR3 := hide (show Bx ((w3.setCell ⟨w.heap.size, 3, none⟩ (.int .i64 l1)).setCell ⟨w.heap.size, 4, none⟩ (.slice A1 n1 c1)) (w.heap.size + 1) [.int .i64 0, .slice none 0 0, .slice none 0 0, .int .i64 0, .slice none 0 0, .string .empty] 42 from ((HXD3.out.other (a := ⟨w.heap.size, 3, none⟩) (by simp) (.int .i64 l1)).other (a := ⟨w.heap.size, 4, none⟩) (by simp) (.slice A1 n1 c1)))
  have HV3 := hide (show Below w.heap.size w ((w3.setCell ⟨w.heap.size, 3, none⟩ (.int .i64 l1)).setCell ⟨w.heap.size, 4, none⟩ (.slice A1 n1 c1)) from ((HW3.out.setCell (p := ⟨w.heap.size, 3, none⟩) (Nat.le_refl _) (.int .i64 l1)).setCell (p := ⟨w.heap.size, 4, none⟩) (Nat.le_refl _) (.slice A1 n1 c1)))
  have HO1b := hide (own_keep HO1.out ((Keep.setCell (a := ⟨w.heap.size, 3, none⟩) (show w.heap.size < w.heap.size + 2 by omega) (.int .i64 l1)).trans (Keep.setCell (a := ⟨w.heap.size, 4, none⟩) (show w.heap.size < w.heap.size + 2 by omega) (.slice A1 n1 c1))))
  clear HO1
  have HO1 := HO1b
  clear HO1b
  have HO2b := hide (OwOps.keep HO2.out ((Keep.setCell (a := ⟨w.heap.size, 3, none⟩) (show w.heap.size < w.heap.size + 2 by omega) (.int .i64 l1)).trans (Keep.setCell (a := ⟨w.heap.size, 4, none⟩) (show w.heap.size < w.heap.size + 2 by omega) (.slice A1 n1 c1))))
  clear HO2
  have HO2 := HO2b
  clear HO2b
  have HO3b := hide (own_keep HO3.out ((Keep.setCell (a := ⟨w.heap.size, 3, none⟩) (show w.heap.size < w.heap.size + 2 by omega) (.int .i64 l1)).trans (Keep.setCell (a := ⟨w.heap.size, 4, none⟩) (show w.heap.size < w.heap.size + 2 by omega) (.slice A1 n1 c1))))
  clear HO3
  have HO3 := HO3b
  clear HO3b
  clear cc0 cc1 cc2 cc3 cc4 cc5 ff2
  have cc0 := HXC3.out.cell (j := 0) rfl
  have cc1 := HXC3.out.cell (j := 1) rfl
  have cc2 := HXC3.out.cell (j := 2) rfl
  have cc3 := HXC3.out.cell (j := 3) rfl
  have cc4 := HXC3.out.cell (j := 4) rfl
  have cc5 := HXC3.out.cell (j := 5) rfl
  have ff3 := HXC3.out.frozen 3
  have ff4 := HXC3.out.frozen 4
  have HR9 := HXR3
  have HONE := hide (all_oneCell_toArray (cs := [.int .i64 k, .slice tA1 tn1 tc1, .slice gA1 gn1 gc1, .int .i64 l1, .slice A1 n1 c1, .string nm]) (fun u hu => by simp only [List.mem_cons, List.not_mem_nil, or_false] at hu; rcases hu with rfl | rfl | rfl | rfl | rfl | rfl <;> rfl))
  go_wp2_with (refine wpList_store_row rfl 42 _ _ rfl (w.heap.size + 1) #[.int .i64 k, .slice tA1 tn1 tc1, .slice gA1 gn1 gc1, .int .i64 l1, .slice A1 n1 c1, .string nm] rfl rfl 42 #[.int .i64 0, .slice none 0 0, .slice none 0 0, .int .i64 0, .slice none 0 0, .string .empty] ?_ ?_ ?_ ?_ ?_; exact HR9.out; exact HSZ.out; rfl; exact HONE.out)
  refine bodyPost_ret (results_cell_row rfl _ _ (w.heap.size + 1) _ #[.int .i64 k, .slice tA1 tn1 tc1, .slice gA1 gn1 gc1, .int .i64 l1, .slice A1 n1 c1, .string nm] (0, 0) _ rfl (setRow_heap _ _ _ _ _ _ HR9.out) Tryz.underlying42 rfl (by kernel_rfl)) rfl ⟨⟨k, ⟨tA1, tn1, tc1, tL⟩, ⟨gA1, gn1, gc1, gL1⟩, ⟨l1, A1, n1, c1, ps1⟩, nm⟩, rfl, (by have h2 := HE2.out; have h3 := HE3.out; simp only [TmW.v, TmV.mk.injEq]; exact ⟨trivial, trivial, h2, h3, trivial⟩), ?_, below_setRow9 HV3.out (Nat.le_succ _) _⟩
  have HO1z := own_keep HO1.out (Keep.setRow9 (g := w.heap.size + 1) (lo := w.heap.size + 2) (by omega) #[.int .i64 k, .slice tA1 tn1 tc1, .slice gA1 gn1 gc1, .int .i64 l1, .slice A1 n1 c1, .string nm] ((w3.setCell ⟨w.heap.size, 3, none⟩ (.int .i64 l1)).setCell ⟨w.heap.size, 4, none⟩ (.slice A1 n1 c1)))
  have HO2z := OwOps.keep HO2.out (Keep.setRow9 (g := w.heap.size + 1) (lo := w.heap.size + 2) (by omega) #[.int .i64 k, .slice tA1 tn1 tc1, .slice gA1 gn1 gc1, .int .i64 l1, .slice A1 n1 c1, .string nm] ((w3.setCell ⟨w.heap.size, 3, none⟩ (.int .i64 l1)).setCell ⟨w.heap.size, 4, none⟩ (.slice A1 n1 c1)))
  have HO3z := own_keep HO3.out (Keep.setRow9 (g := w.heap.size + 1) (lo := w.heap.size + 2) (by omega) #[.int .i64 k, .slice tA1 tn1 tc1, .slice gA1 gn1 gc1, .int .i64 l1, .slice A1 n1 c1, .string nm] ((w3.setCell ⟨w.heap.size, 3, none⟩ (.int .i64 l1)).setCell ⟨w.heap.size, 4, none⟩ (.slice A1 n1 c1)))
  exact ⟨ownsRow_base HO1z (show w.heap.size ≤ w.heap.size + 2 by omega), OwOps.base HO2z (show w.heap.size ≤ w.heap.size + 2 by omega), ownsRow_base HO3z (show w.heap.size ≤ w.heap.size + 2 by omega)⟩

theorem EachSts_any (s : SlW StW) (w : World) (hs : SlH w w.heap.size 11 cSt (OneSt w w.heap.size) s) (hn : s.n ≤ 2 ^ 39 ∧ ∀ t ∈ s.L, SmSt t) :
    Calls Tryz.prog 90 #[s.val, .func (.func 91) #[] #[]] w (SlOutSt w s) :=
  EachSt_any 91 s w hs (enters_of Tryz.func91 (by kernel_rfl) rfl) hn.1 fun x hx w1 hb => ClSt_any x w1 ((hs.all x hx).up hb) (hn.2 x hx)

end Go.Proofs.YtbdimnncobpfdaaGreat

/- The copying of blocks and bodies. -/
set_option linter.unusedVariables false
set_option linter.unusedSimpArgs false
namespace Go.Proofs.YtbdimnncobpfdaaGreat
open Go.RowKit Go.Shelf

theorem Bx.rowOther {w : World} {g g' : Nat} {cs : List Value} {T : TypeId} (h : Bx w g cs T) (hg : g ≠ g') (vs : Array Value) : Bx (w.setRow g' vs) g cs T := by
  have hl := h.lt
  unfold Bx World.setRow at *
  rw [Array.getElem?_eq_getElem (by simpa using hl), Array.getElem_modify, if_neg (Ne.symm hg), ← Array.getElem?_eq_getElem hl, h]

set_option maxHeartbeats 1000000 in
set_option maxRecDepth 100000 in
theorem ClBk_any (x : BkW) (w : World) (hx : OneBk w w.heap.size x) (hn : SmBk x) :
    Calls Tryz.prog 62 #[aggBk x] w (ClOut aggBk BkW.v OwBk w x) := by
  have HX := hide hx
  clear hx
  obtain ⟨⟨sA, sn, sc, sL⟩, ⟨k, ⟨tA, tn, tc, tL⟩, ⟨gA, gn, gc, gL⟩, ⟨l, A, n, c, ps⟩, nm⟩⟩ := x
  have HV0 := hide (show Below w.heap.size w ((w.alloc (.cells #[.slice sA sn sc, .int .i64 k, .slice tA tn tc, .slice gA gn gc, .int .i64 l, .slice A n c, .string nm] 44)).alloc (.cells #[.slice none 0 0, .int .i64 0, .slice none 0 0, .slice none 0 0, .int .i64 0, .slice none 0 0, .string .empty] 44)) from ((Below.refl _ w).alloc (Nat.le_refl _) _).alloc (by simp) _)
  have HS0 := hide (show w.heap.size + 2 ≤ ((w.alloc (.cells #[.slice sA sn sc, .int .i64 k, .slice tA tn tc, .slice gA gn gc, .int .i64 l, .slice A n c, .string nm] 44)).alloc (.cells #[.slice none 0 0, .int .i64 0, .slice none 0 0, .slice none 0 0, .int .i64 0, .slice none 0 0, .string .empty] 44)).heap.size by simp)
  have HXB0 := hide (show Bx ((w.alloc (.cells #[.slice sA sn sc, .int .i64 k, .slice tA tn tc, .slice gA gn gc, .int .i64 l, .slice A n c, .string nm] 44)).alloc (.cells #[.slice none 0 0, .int .i64 0, .slice none 0 0, .slice none 0 0, .int .i64 0, .slice none 0 0, .string .empty] 44)) w.heap.size [.slice sA sn sc, .int .i64 k, .slice tA tn tc, .slice gA gn gc, .int .i64 l, .slice A n c, .string nm] 44 from (Bx.new w [.slice sA sn sc, .int .i64 k, .slice tA tn tc, .slice gA gn gc, .int .i64 l, .slice A n c, .string nm] 44).below ((Below.refl _ _).alloc (Nat.le_refl _) _))
  have HXR0 := hide (show Bx ((w.alloc (.cells #[.slice sA sn sc, .int .i64 k, .slice tA tn tc, .slice gA gn gc, .int .i64 l, .slice A n c, .string nm] 44)).alloc (.cells #[.slice none 0 0, .int .i64 0, .slice none 0 0, .slice none 0 0, .int .i64 0, .slice none 0 0, .string .empty] 44)) (w.heap.size + 1) [.slice none 0 0, .int .i64 0, .slice none 0 0, .slice none 0 0, .int .i64 0, .slice none 0 0, .string .empty] 44 by have h9 := Bx.new (w.alloc (.cells #[.slice sA sn sc, .int .i64 k, .slice tA tn tc, .slice gA gn gc, .int .i64 l, .slice A n c, .string nm] 44)) [.slice none 0 0, .int .i64 0, .slice none 0 0, .slice none 0 0, .int .i64 0, .slice none 0 0, .string .empty] 44; rwa [show (w.alloc (.cells #[.slice sA sn sc, .int .i64 k, .slice tA tn tc, .slice gA gn gc, .int .i64 l, .slice A n c, .string nm] 44)).heap.size = w.heap.size + 1 by simp] at h9)
  have HSZ := hide (show (Tryz.prog.info? 44).map (·.size) = some 7 by kernel_rfl)
  have HCE := hide fun (w' : World) (h : Bx w' w.heap.size [.slice sA sn sc, .int .i64 k, .slice tA tn tc, .slice gA gn gc, .int .i64 l, .slice A n c, .string nm] 44) => (show w'.cell? ⟨w.heap.size, 0, none⟩ = some (.slice sA sn sc) ∧ w'.cell? ⟨w.heap.size, 1, none⟩ = some (.int .i64 k) ∧ w'.cell? ⟨w.heap.size, 2, none⟩ = some (.slice tA tn tc) ∧ w'.cell? ⟨w.heap.size, 3, none⟩ = some (.slice gA gn gc) ∧ w'.cell? ⟨w.heap.size, 4, none⟩ = some (.int .i64 l) ∧ w'.cell? ⟨w.heap.size, 5, none⟩ = some (.slice A n c) ∧ w'.cell? ⟨w.heap.size, 6, none⟩ = some (.string nm) from ⟨h.cell (j := 0) rfl, h.cell (j := 1) rfl, h.cell (j := 2) rfl, h.cell (j := 3) rfl, h.cell (j := 4) rfl, h.cell (j := 5) rfl, h.cell (j := 6) rfl⟩)
  have HVD := hide (show Below w.heap.size w (World.drew ((w.alloc (.cells #[.slice sA sn sc, .int .i64 k, .slice tA tn tc, .slice gA gn gc, .int .i64 l, .slice A n c, .string nm] 44)).alloc (.cells #[.slice none 0 0, .int .i64 0, .slice none 0 0, .slice none 0 0, .int .i64 0, .slice none 0 0, .string .empty] 44))) from HV0.out.drew)
  have HSD := hide (show w.heap.size + 2 ≤ (World.drew ((w.alloc (.cells #[.slice sA sn sc, .int .i64 k, .slice tA tn tc, .slice gA gn gc, .int .i64 l, .slice A n c, .string nm] 44)).alloc (.cells #[.slice none 0 0, .int .i64 0, .slice none 0 0, .slice none 0 0, .int .i64 0, .slice none 0 0, .string .empty] 44))).heap.size from HS0.out)
  have HXBD := hide (show Bx (World.drew ((w.alloc (.cells #[.slice sA sn sc, .int .i64 k, .slice tA tn tc, .slice gA gn gc, .int .i64 l, .slice A n c, .string nm] 44)).alloc (.cells #[.slice none 0 0, .int .i64 0, .slice none 0 0, .slice none 0 0, .int .i64 0, .slice none 0 0, .string .empty] 44))) w.heap.size [.slice sA sn sc, .int .i64 k, .slice tA tn tc, .slice gA gn gc, .int .i64 l, .slice A n c, .string nm] 44 from HXB0.out)
  have HXRD := hide (show Bx (World.drew ((w.alloc (.cells #[.slice sA sn sc, .int .i64 k, .slice tA tn tc, .slice gA gn gc, .int .i64 l, .slice A n c, .string nm] 44)).alloc (.cells #[.slice none 0 0, .int .i64 0, .slice none 0 0, .slice none 0 0, .int .i64 0, .slice none 0 0, .string .empty] 44))) (w.heap.size + 1) [.slice none 0 0, .int .i64 0, .slice none 0 0, .slice none 0 0, .int .i64 0, .slice none 0 0, .string .empty] 44 from HXR0.out)
  go_enter Tryz.func62, Tryz.ntmps62
  go_wp2
  change Code.wp _ _ _ _ ((w.alloc (.cells #[.slice sA sn sc, .int .i64 k, .slice tA tn tc, .slice gA gn gc, .int .i64 l, .slice A n c, .string nm] 44)).alloc (.cells #[.slice none 0 0, .int .i64 0, .slice none 0 0, .slice none 0 0, .int .i64 0, .slice none 0 0, .string .empty] 44))
  refine wp_region_held_drew (S := (fun w' => Below w.heap.size w w' ∧ w'.cell? ⟨w.heap.size, 0, none⟩ = some (.slice sA sn sc) ∧ w'.cell? ⟨w.heap.size, 1, none⟩ = some (.int .i64 k) ∧ w'.cell? ⟨w.heap.size, 2, none⟩ = some (.slice tA tn tc) ∧ w'.cell? ⟨w.heap.size, 3, none⟩ = some (.slice gA gn gc) ∧ w'.cell? ⟨w.heap.size, 4, none⟩ = some (.int .i64 l) ∧ w'.cell? ⟨w.heap.size, 5, none⟩ = some (.slice A n c) ∧ w'.cell? ⟨w.heap.size, 6, none⟩ = some (.string nm))) (by kernel_rfl) ⟨HVD.out, HCE.out _ HXBD.out⟩ (fun hHeld => ?_)
  refine takeY (i := 0) (d := some 3) (v := ?_) rfl rfl (by kernel_rfl) (by kernel_rfl) (by kernel_rfl) (fun _ _ _ h => h) (by rfl) ?_ hHeld ?_
  rotate_left
  · intro w9 hS9
    first | (go_simp; done) | (go_simp; with_reducible rfl)
  try simp only [Act.put, List.setIfInBounds_toArray, List.set_cons_zero, List.set_cons_succ]
  refine takeY (i := 1) (d := some 4) (v := ?_) rfl rfl (by kernel_rfl) (by kernel_rfl) (by kernel_rfl) (fun _ _ _ h => h) (by rfl) ?_ hHeld ?_
  rotate_left
  · intro w9 hS9
    obtain ⟨_, c0, c1, c2, c3, c4, c5, c6⟩ := hS9
    first | (go_simp; done) | (go_simp; with_reducible rfl)
  try simp only [Act.put, List.setIfInBounds_toArray, List.set_cons_zero, List.set_cons_succ]
  refine takeY (i := 3) (d := some 6) (v := ?_) rfl rfl (by kernel_rfl) (by kernel_rfl) (by kernel_rfl) (fun _ _ _ h => h) (by rfl) ?_ hHeld ?_
  rotate_left
  · intro w9 hS9
    first | (go_simp; done) | (go_simp; with_reducible rfl)
  try simp only [Act.put, List.setIfInBounds_toArray, List.set_cons_zero, List.set_cons_succ]
  refine takeY (i := 4) (d := some 7) (v := ?_) rfl rfl (by kernel_rfl) (by kernel_rfl) (by kernel_rfl) (fun _ _ _ h => h) (by rfl) ?_ hHeld ?_
  rotate_left
  · intro w9 hS9
    obtain ⟨_, c0, c1, c2, c3, c4, c5, c6⟩ := hS9
    first | (go_simp; done) | (go_simp; with_reducible rfl)
  try simp only [Act.put, List.setIfInBounds_toArray, List.set_cons_zero, List.set_cons_succ]
  refine wpAnyH_ready (rs := [2]) (by kernel_rfl) (by simp) ?_
  refine AllReadyH.cons rfl (fun K hK => ?_) AllReadyH.nil
  go_simp
  refine (EachSts_any ⟨sA, sn, sc, sL⟩ _ (Sts.up HX.out.stmts HVD.out) ⟨hn.n, hn.all⟩).mono ?_
  rintro e1 w1 ⟨⟨sA1, sn1, sc1, sL1⟩, h9, he1, ho1, hb1⟩
  obtain rfl : e1 = .returned (.slice sA1 sn1 sc1) := h9
  have HE1 := hide he1
  have HO1 := hide (show OwSts w1 (w.heap.size + 2) ⟨sA1, sn1, sc1, sL1⟩ from OwSts.base ho1 HSD.out)
  have HV1 := hide (HVD.out.trans (hb1.mono (Nat.le_trans (Nat.le_add_right _ 2) HSD.out)))
  have HS1 := hide (Nat.le_trans HSD.out hb1.size)
  have HXB1 := hide (HXBD.out.below hb1)
  have HXR1 := hide (HXRD.out.below hb1)
  clear he1 ho1 hb1
  refine hK.out _ _ ⟨HV1.out, HCE.out _ HXB1.out⟩ (fun hHeld => ?_)
  clear hK K
  try simp only [Act.put, List.setIfInBounds_toArray, List.set_cons_zero, List.set_cons_succ]
  refine wpAnyH_ready (rs := [5]) (by kernel_rfl) (by simp) ?_
  refine AllReadyH.cons rfl (fun K hK => ?_) AllReadyH.nil
  go_simp
  refine (ClTm_any ⟨k, ⟨tA, tn, tc, tL⟩, ⟨gA, gn, gc, gL⟩, ⟨l, A, n, c, ps⟩, nm⟩ _ (HX.out.term.up HV1.out) hn.term).mono ?_
  rintro e2 w2 ⟨⟨k1, ⟨tA1, tn1, tc1, tL1⟩, ⟨gA1, gn1, gc1, gL1⟩, ⟨l1, A1, n1, c1, ps1⟩, nm1⟩, h9, he2, ho2, hb2⟩
  obtain rfl : e2 = .returned (.agg #[.int .i64 k1, .slice tA1 tn1 tc1, .slice gA1 gn1 gc1, .int .i64 l1, .slice A1 n1 c1, .string nm1]) := h9
  have HE2 := hide he2
  have HO2 := hide (show OwTm w2 (w.heap.size + 2) ⟨k1, ⟨tA1, tn1, tc1, tL1⟩, ⟨gA1, gn1, gc1, gL1⟩, ⟨l1, A1, n1, c1, ps1⟩, nm1⟩ from OwTm.base ho2 HS1.out)
  have HO1b := hide (OwSts.keep HO1.out (Keep.of_below hb2))
  have HV2 := hide (HV1.out.trans (hb2.mono (Nat.le_trans (Nat.le_add_right _ 2) HS1.out)))
  have HXB2 := hide (HXB1.out.below hb2)
  have HXR2 := hide (HXR1.out.below hb2)
  clear he2 ho2 hb2
  refine hK.out _ _ ⟨HV2.out, HCE.out _ HXB2.out⟩ (fun hHeld => ?_)
  clear hK K
  try simp only [Act.put, List.setIfInBounds_toArray, List.set_cons_zero, List.set_cons_succ]
  refine takeY (i := 6) (d := some 9) (v := ?_) rfl rfl (by kernel_rfl) (by kernel_rfl) (by kernel_rfl) (fun _ _ _ h => h) (by rfl) ?_ hHeld ?_
  rotate_left
  · intro w9 hS9
    first | (go_simp; done) | (go_simp; with_reducible rfl)
  try simp only [Act.put, List.setIfInBounds_toArray, List.set_cons_zero, List.set_cons_succ]
  have HONE := hide (all_oneCell_toArray (cs := [.slice sA1 sn1 sc1, .int .i64 k1, .slice tA1 tn1 tc1, .slice gA1 gn1 gc1, .int .i64 l1, .slice A1 n1 c1, .string nm1]) (fun u hu => by simp only [List.mem_cons, List.not_mem_nil, or_false] at hu; rcases hu with rfl | rfl | rfl | rfl | rfl | rfl | rfl <;> rfl))
  refine wpAnyH_ready (rs := [7]) (by kernel_rfl) (by simp) ?_
  refine AllReadyH.cons rfl (fun K hK => ?_) AllReadyH.nil
  refine wp_store_row 44 _ _ rfl (w.heap.size + 1) #[.slice sA1 sn1 sc1, .int .i64 k1, .slice tA1 tn1 tc1, .slice gA1 gn1 gc1, .int .i64 l1, .slice A1 n1 c1, .string nm1] rfl rfl 44 #[.slice none 0 0, .int .i64 0, .slice none 0 0, .slice none 0 0, .int .i64 0, .slice none 0 0, .string .empty] ?_ ?_ ?_ ?_ ?_
  · exact HXR2.out
  · exact HSZ.out
  · rfl
  · exact HONE.out
  refine hK.out _ _ ⟨below_setRow9 HV2.out (Nat.le_succ _) _, HCE.out _ (HXB2.out.rowOther (by omega) _)⟩ (fun hHeld => ?_)
  clear hK K
  refine wpAnyH_done (by kernel_rfl) ?_ _
  go_wp2
  refine bodyPost_ret (results_cell_row rfl _ _ (w.heap.size + 1) _ #[.slice sA1 sn1 sc1, .int .i64 k1, .slice tA1 tn1 tc1, .slice gA1 gn1 gc1, .int .i64 l1, .slice A1 n1 c1, .string nm1] (0, 0) _ rfl (setRow_heap _ _ _ _ _ _ HXR2.out) Tryz.underlying44 rfl (by kernel_rfl)) rfl ⟨⟨⟨sA1, sn1, sc1, sL1⟩, ⟨k1, ⟨tA1, tn1, tc1, tL1⟩, ⟨gA1, gn1, gc1, gL1⟩, ⟨l1, A1, n1, c1, ps1⟩, nm1⟩⟩, rfl, ?_, ?_, below_setRow9 HV2.out (Nat.le_succ _) _⟩
  · have h1 := HE1.out
    have h2 := HE2.out
    simp only [BkW.v, BkV.mk.injEq]
    exact ⟨h1, h2⟩
  · exact ⟨OwSts.base (OwSts.keep HO1b.out (Keep.setRow9 (g := w.heap.size + 1) (lo := w.heap.size + 2) (by omega) #[.slice sA1 sn1 sc1, .int .i64 k1, .slice tA1 tn1 tc1, .slice gA1 gn1 gc1, .int .i64 l1, .slice A1 n1 c1, .string nm1] w2)) (show w.heap.size ≤ w.heap.size + 2 by omega), OwTm.base (OwTm.keep HO2.out (Keep.setRow9 (g := w.heap.size + 1) (lo := w.heap.size + 2) (by omega) #[.slice sA1 sn1 sc1, .int .i64 k1, .slice tA1 tn1 tc1, .slice gA1 gn1 gc1, .int .i64 l1, .slice A1 n1 c1, .string nm1] w2)) (show w.heap.size ≤ w.heap.size + 2 by omega)⟩

theorem EachBks_any (s : SlW BkW) (w : World) (hs : SlH w w.heap.size 7 cBk (OneBk w w.heap.size) s) (hn : s.n ≤ 2 ^ 39 ∧ ∀ t ∈ s.L, SmBk t) :
    Calls Tryz.prog 61 #[s.val, .func (.func 62) #[] #[]] w (SlOutBk w s) :=
  EachBk_any 62 s w hs (enters_of Tryz.func62 (by kernel_rfl) rfl) hn.1 fun x hx w1 hb => ClBk_any x w1 ((hs.all x hx).up hb) (hn.2 x hx)

set_option maxHeartbeats 1000000 in
set_option maxRecDepth 100000 in
theorem CloneBd_any (x : BdW) (w : World) (hx : OneBd w w.heap.size x) (hn : SmBd x) :
    Calls Tryz.prog 23 #[aggBd x] w (ClOut aggBd BdW.v OwBd w x) := by
  have HX := hide hx
  clear hx
  obtain ⟨nm, ⟨rA, rn, rc, rL⟩, ⟨oA, on, oc, oL⟩, ⟨tA, tn, tc, tL⟩, ⟨lA, ln, lc, lL⟩, ar, ⟨bA, bn, bc, bL⟩⟩ := x
  have HV0 := hide (show Below w.heap.size w ((w.alloc (.cells #[.string nm, .slice rA rn rc, .slice oA on oc, .slice tA tn tc, .slice lA ln lc, .int .i64 ar, .slice bA bn bc] 28)).alloc (.cells #[.string .empty, .slice none 0 0, .slice none 0 0, .slice none 0 0, .slice none 0 0, .int .i64 0, .slice none 0 0] 28)) from ((Below.refl _ w).alloc (Nat.le_refl _) _).alloc (by simp) _)
  have HS0 := hide (show w.heap.size + 2 ≤ ((w.alloc (.cells #[.string nm, .slice rA rn rc, .slice oA on oc, .slice tA tn tc, .slice lA ln lc, .int .i64 ar, .slice bA bn bc] 28)).alloc (.cells #[.string .empty, .slice none 0 0, .slice none 0 0, .slice none 0 0, .slice none 0 0, .int .i64 0, .slice none 0 0] 28)).heap.size by simp)
  have HXB0 := hide (show Bx ((w.alloc (.cells #[.string nm, .slice rA rn rc, .slice oA on oc, .slice tA tn tc, .slice lA ln lc, .int .i64 ar, .slice bA bn bc] 28)).alloc (.cells #[.string .empty, .slice none 0 0, .slice none 0 0, .slice none 0 0, .slice none 0 0, .int .i64 0, .slice none 0 0] 28)) w.heap.size [.string nm, .slice rA rn rc, .slice oA on oc, .slice tA tn tc, .slice lA ln lc, .int .i64 ar, .slice bA bn bc] 28 from (Bx.new w [.string nm, .slice rA rn rc, .slice oA on oc, .slice tA tn tc, .slice lA ln lc, .int .i64 ar, .slice bA bn bc] 28).below ((Below.refl _ _).alloc (Nat.le_refl _) _))
  have HXR0 := hide (show Bx ((w.alloc (.cells #[.string nm, .slice rA rn rc, .slice oA on oc, .slice tA tn tc, .slice lA ln lc, .int .i64 ar, .slice bA bn bc] 28)).alloc (.cells #[.string .empty, .slice none 0 0, .slice none 0 0, .slice none 0 0, .slice none 0 0, .int .i64 0, .slice none 0 0] 28)) (w.heap.size + 1) [.string .empty, .slice none 0 0, .slice none 0 0, .slice none 0 0, .slice none 0 0, .int .i64 0, .slice none 0 0] 28 by have h9 := Bx.new (w.alloc (.cells #[.string nm, .slice rA rn rc, .slice oA on oc, .slice tA tn tc, .slice lA ln lc, .int .i64 ar, .slice bA bn bc] 28)) [.string .empty, .slice none 0 0, .slice none 0 0, .slice none 0 0, .slice none 0 0, .int .i64 0, .slice none 0 0] 28; rwa [show (w.alloc (.cells #[.string nm, .slice rA rn rc, .slice oA on oc, .slice tA tn tc, .slice lA ln lc, .int .i64 ar, .slice bA bn bc] 28)).heap.size = w.heap.size + 1 by simp] at h9)
  have HSZ := hide (show (Tryz.prog.info? 28).map (·.size) = some 7 by kernel_rfl)
  go_enter Tryz.func23, Tryz.ntmps23
  go_wp2_with fail
  refine (ClnStr_any ⟨rA, rn, rc, rL⟩ _ (Strs.up HX.out.regions HV0.out) hn.regions).mono ?_
  rintro e1 w1 ⟨⟨rA1, rn1, rc1, rL1⟩, h9, he1, ho, hb⟩
  obtain rfl : e1 = .returned (.slice rA1 rn1 rc1) := h9
  simp only [] at he1
  have hl9 := he1.symm
  subst hl9
  have hb1 : Below ((w.alloc (.cells #[.string nm, .slice rA rn rc, .slice oA on oc, .slice tA tn tc, .slice lA ln lc, .int .i64 ar, .slice bA bn bc] 28)).alloc (.cells #[.string .empty, .slice none 0 0, .slice none 0 0, .slice none 0 0, .slice none 0 0, .int .i64 0, .slice none 0 0] 28)).heap.size ((w.alloc (.cells #[.string nm, .slice rA rn rc, .slice oA on oc, .slice tA tn tc, .slice lA ln lc, .int .i64 ar, .slice bA bn bc] 28)).alloc (.cells #[.string .empty, .slice none 0 0, .slice none 0 0, .slice none 0 0, .slice none 0 0, .int .i64 0, .slice none 0 0] 28)) w1 := hb
  have hsv : w.heap.size + 2 ≤ ((w.alloc (.cells #[.string nm, .slice rA rn rc, .slice oA on oc, .slice tA tn tc, .slice lA ln lc, .int .i64 ar, .slice bA bn bc] 28)).alloc (.cells #[.string .empty, .slice none 0 0, .slice none 0 0, .slice none 0 0, .slice none 0 0, .int .i64 0, .slice none 0 0] 28)).heap.size := by have h8 := HS0.out; first | exact h8 | (simp; done) | (simp; omega)
  have HS1 := hide (Nat.le_trans hsv hb1.size)
  have HW1 := hide (show Below w.heap.size w w1 from HV0.out.trans (hb1.mono (by omega)))
  have HXC1 := hide (HXB0.out.below hb1)
  have HXD1 := hide (HXR0.out.below hb1)
  have HO1 := hide (show w1.ownsRow (w.heap.size + 2) 9 1 (.slice rA1 rn1 rc1) rn1 (rL.flatMap cStr) from ownsRow_base ho hsv)
  clear hb hb1 ho hsv
  have HXB1 := hide (show Bx (w1.setCell ⟨w.heap.size, 1, none⟩ (.slice rA1 rn1 rc1)) w.heap.size [.string nm, .slice rA1 rn1 rc1, .slice oA on oc, .slice tA tn tc, .slice lA ln lc, .int .i64 ar, .slice bA bn bc] 28 from (HXC1.out.set 1 (.slice rA1 rn1 rc1)))
  have HXR1 := hide (show Bx (w1.setCell ⟨w.heap.size, 1, none⟩ (.slice rA1 rn1 rc1)) (w.heap.size + 1) [.string .empty, .slice none 0 0, .slice none 0 0, .slice none 0 0, .slice none 0 0, .int .i64 0, .slice none 0 0] 28 from (HXD1.out.other (a := ⟨w.heap.size, 1, none⟩) (by simp) (.slice rA1 rn1 rc1)))
  have HV1 := hide (show Below w.heap.size w (w1.setCell ⟨w.heap.size, 1, none⟩ (.slice rA1 rn1 rc1)) from (HW1.out.setCell (p := ⟨w.heap.size, 1, none⟩) (Nat.le_refl _) (.slice rA1 rn1 rc1)))
  have HO1b := hide (own_keep HO1.out (Keep.setCell (a := ⟨w.heap.size, 1, none⟩) (show w.heap.size < w.heap.size + 2 by omega) (.slice rA1 rn1 rc1)))
  clear HO1
  have HO1 := HO1b
  clear HO1b
  have cc0 := HXC1.out.cell (j := 0) rfl
  have cc1 := HXC1.out.cell (j := 1) rfl
  have cc2 := HXC1.out.cell (j := 2) rfl
  have cc3 := HXC1.out.cell (j := 3) rfl
  have cc4 := HXC1.out.cell (j := 4) rfl
  have cc5 := HXC1.out.cell (j := 5) rfl
  have cc6 := HXC1.out.cell (j := 6) rfl
  have ff1 := HXC1.out.frozen 1
  go_wp2_with fail
  refine (ClnPr_any ⟨oA, on, oc, oL⟩ _ (Prs2.up HX.out.outl HV1.out) hn.outl).mono ?_
  rintro e2 w2 ⟨⟨oA1, on1, oc1, oL1⟩, h9, he2, ho, hb⟩
  obtain rfl : e2 = .returned (.slice oA1 on1 oc1) := h9
  simp only [] at he2
  have hl9 := he2.symm
  subst hl9
  have hb2 : Below (w1.setCell ⟨w.heap.size, 1, none⟩ (.slice rA1 rn1 rc1)).heap.size (w1.setCell ⟨w.heap.size, 1, none⟩ (.slice rA1 rn1 rc1)) w2 := hb
  have hsv : w.heap.size + 2 ≤ (w1.setCell ⟨w.heap.size, 1, none⟩ (.slice rA1 rn1 rc1)).heap.size := by have h8 := HS1.out; first | exact h8 | (simp; done) | (simp; omega)
  have HS2 := hide (Nat.le_trans hsv hb2.size)
  have HW2 := hide (show Below w.heap.size w w2 from HV1.out.trans (hb2.mono (by omega)))
  have HXC2 := hide (HXB1.out.below hb2)
  have HXD2 := hide (HXR1.out.below hb2)
  have HO1b := hide (own_keep HO1.out (Keep.of_below hb2))
  clear HO1
  have HO1 := HO1b
  clear HO1b
  have HO2 := hide (show w2.ownsRow (w.heap.size + 2) 49 2 (.slice oA1 on1 oc1) on1 (oL.flatMap pV) from ownsRow_base ho hsv)
  clear hb hb2 ho hsv
  have HXB2 := hide (show Bx (w2.setCell ⟨w.heap.size, 2, none⟩ (.slice oA1 on1 oc1)) w.heap.size [.string nm, .slice rA1 rn1 rc1, .slice oA1 on1 oc1, .slice tA tn tc, .slice lA ln lc, .int .i64 ar, .slice bA bn bc] 28 from (HXC2.out.set 2 (.slice oA1 on1 oc1)))
  have HXR2 := hide (show Bx (w2.setCell ⟨w.heap.size, 2, none⟩ (.slice oA1 on1 oc1)) (w.heap.size + 1) [.string .empty, .slice none 0 0, .slice none 0 0, .slice none 0 0, .slice none 0 0, .int .i64 0, .slice none 0 0] 28 from (HXD2.out.other (a := ⟨w.heap.size, 2, none⟩) (by simp) (.slice oA1 on1 oc1)))
  have HV2 := hide (show Below w.heap.size w (w2.setCell ⟨w.heap.size, 2, none⟩ (.slice oA1 on1 oc1)) from (HW2.out.setCell (p := ⟨w.heap.size, 2, none⟩) (Nat.le_refl _) (.slice oA1 on1 oc1)))
  have HO1b := hide (own_keep HO1.out (Keep.setCell (a := ⟨w.heap.size, 2, none⟩) (show w.heap.size < w.heap.size + 2 by omega) (.slice oA1 on1 oc1)))
  clear HO1
  have HO1 := HO1b
  clear HO1b
  have HO2b := hide (own_keep HO2.out (Keep.setCell (a := ⟨w.heap.size, 2, none⟩) (show w.heap.size < w.heap.size + 2 by omega) (.slice oA1 on1 oc1)))
  clear HO2
  have HO2 := HO2b
  clear HO2b
  clear cc0 cc1 cc2 cc3 cc4 cc5 cc6 ff1
  have cc0 := HXC2.out.cell (j := 0) rfl
  have cc1 := HXC2.out.cell (j := 1) rfl
  have cc2 := HXC2.out.cell (j := 2) rfl
  have cc3 := HXC2.out.cell (j := 3) rfl
  have cc4 := HXC2.out.cell (j := 4) rfl
  have cc5 := HXC2.out.cell (j := 5) rfl
  have cc6 := HXC2.out.cell (j := 6) rfl
  have ff2 := HXC2.out.frozen 2
  go_wp2_with fail
  refine (EachTys_any ⟨tA, tn, tc, tL⟩ _ (Tys2.up HX.out.types HV2.out) ⟨hn.types, hn.tys⟩).mono ?_
  rintro e3 w3 ⟨⟨tA1, tn1, tc1, tL1⟩, h9, he3, ho, hb⟩
  obtain rfl : e3 = .returned (.slice tA1 tn1 tc1) := h9
  have HE3 := hide he3
  clear he3
  have hb3 : Below (w2.setCell ⟨w.heap.size, 2, none⟩ (.slice oA1 on1 oc1)).heap.size (w2.setCell ⟨w.heap.size, 2, none⟩ (.slice oA1 on1 oc1)) w3 := hb
  have hsv : w.heap.size + 2 ≤ (w2.setCell ⟨w.heap.size, 2, none⟩ (.slice oA1 on1 oc1)).heap.size := by have h8 := HS2.out; first | exact h8 | (simp; done) | (simp; omega)
  have HS3 := hide (Nat.le_trans hsv hb3.size)
  have HW3 := hide (show Below w.heap.size w w3 from HV2.out.trans (hb3.mono (by omega)))
  have HXC3 := hide (HXB2.out.below hb3)
  have HXD3 := hide (HXR2.out.below hb3)
  have HO1b := hide (own_keep HO1.out (Keep.of_below hb3))
  clear HO1
  have HO1 := HO1b
  clear HO1b
  have HO2b := hide (own_keep HO2.out (Keep.of_below hb3))
  clear HO2
  have HO2 := HO2b
  clear HO2b
  have HO3 := hide (show OwSl w3 (w.heap.size + 2) 51 5 c5 (OwTy w3 (w.heap.size + 2)) ⟨tA1, tn1, tc1, tL1⟩ from OwSl.base ho hsv (fun _ h => ownsRow_base h hsv))
  clear hb hb3 ho hsv
  have HXB3 := hide (show Bx (w3.setCell ⟨w.heap.size, 3, none⟩ (.slice tA1 tn1 tc1)) w.heap.size [.string nm, .slice rA1 rn1 rc1, .slice oA1 on1 oc1, .slice tA1 tn1 tc1, .slice lA ln lc, .int .i64 ar, .slice bA bn bc] 28 from (HXC3.out.set 3 (.slice tA1 tn1 tc1)))
  have HXR3 := hide (show Bx (w3.setCell ⟨w.heap.size, 3, none⟩ (.slice tA1 tn1 tc1)) (w.heap.size + 1) [.string .empty, .slice none 0 0, .slice none 0 0, .slice none 0 0, .slice none 0 0, .int .i64 0, .slice none 0 0] 28 from (HXD3.out.other (a := ⟨w.heap.size, 3, none⟩) (by simp) (.slice tA1 tn1 tc1)))
  have HV3 := hide (show Below w.heap.size w (w3.setCell ⟨w.heap.size, 3, none⟩ (.slice tA1 tn1 tc1)) from (HW3.out.setCell (p := ⟨w.heap.size, 3, none⟩) (Nat.le_refl _) (.slice tA1 tn1 tc1)))
  have HO1b := hide (own_keep HO1.out (Keep.setCell (a := ⟨w.heap.size, 3, none⟩) (show w.heap.size < w.heap.size + 2 by omega) (.slice tA1 tn1 tc1)))
  clear HO1
  have HO1 := HO1b
  clear HO1b
  have HO2b := hide (own_keep HO2.out (Keep.setCell (a := ⟨w.heap.size, 3, none⟩) (show w.heap.size < w.heap.size + 2 by omega) (.slice tA1 tn1 tc1)))
  clear HO2
  have HO2 := HO2b
  clear HO2b
  have HO3b := hide (OwSl.keep HO3.out (Keep.setCell (a := ⟨w.heap.size, 3, none⟩) (show w.heap.size < w.heap.size + 2 by omega) (.slice tA1 tn1 tc1)) (fun _ h => own_keep h (Keep.setCell (a := ⟨w.heap.size, 3, none⟩) (show w.heap.size < w.heap.size + 2 by omega) (.slice tA1 tn1 tc1))))
  clear HO3
  have HO3 := HO3b
  clear HO3b
  clear cc0 cc1 cc2 cc3 cc4 cc5 cc6 ff2
  have cc0 := HXC3.out.cell (j := 0) rfl
  have cc1 := HXC3.out.cell (j := 1) rfl
  have cc2 := HXC3.out.cell (j := 2) rfl
  have cc3 := HXC3.out.cell (j := 3) rfl
  have cc4 := HXC3.out.cell (j := 4) rfl
  have cc5 := HXC3.out.cell (j := 5) rfl
  have cc6 := HXC3.out.cell (j := 6) rfl
  have ff3 := HXC3.out.frozen 3
  go_wp2_with fail
  refine (ClnLc_any ⟨lA, ln, lc, lL⟩ _ (Lcs2.up HX.out.locals HV3.out) hn.locals).mono ?_
  rintro e4 w4 ⟨⟨lA1, ln1, lc1, lL1⟩, h9, he4, ho, hb⟩
  obtain rfl : e4 = .returned (.slice lA1 ln1 lc1) := h9
  simp only [] at he4
  have hl9 := he4.symm
  subst hl9
  have hb4 : Below (w3.setCell ⟨w.heap.size, 3, none⟩ (.slice tA1 tn1 tc1)).heap.size (w3.setCell ⟨w.heap.size, 3, none⟩ (.slice tA1 tn1 tc1)) w4 := hb
  have hsv : w.heap.size + 2 ≤ (w3.setCell ⟨w.heap.size, 3, none⟩ (.slice tA1 tn1 tc1)).heap.size := by have h8 := HS3.out; first | exact h8 | (simp; done) | (simp; omega)
  have HS4 := hide (Nat.le_trans hsv hb4.size)
  have HW4 := hide (show Below w.heap.size w w4 from HV3.out.trans (hb4.mono (by omega)))
  have HXC4 := hide (HXB3.out.below hb4)
  have HXD4 := hide (HXR3.out.below hb4)
  have HO1b := hide (own_keep HO1.out (Keep.of_below hb4))
  clear HO1
  have HO1 := HO1b
  clear HO1b
  have HO2b := hide (own_keep HO2.out (Keep.of_below hb4))
  clear HO2
  have HO2 := HO2b
  clear HO2b
  have HO3b := hide (OwSl.keep HO3.out (Keep.of_below hb4) (fun _ h => own_keep h (Keep.of_below hb4)))
  clear HO3
  have HO3 := HO3b
  clear HO3b
  have HO4 := hide (show w4.ownsRow (w.heap.size + 2) 54 2 (.slice lA1 ln1 lc1) ln1 (lL.flatMap cLc) from ownsRow_base ho hsv)
  clear hb hb4 ho hsv
  have HXB4 := hide (show Bx (w4.setCell ⟨w.heap.size, 4, none⟩ (.slice lA1 ln1 lc1)) w.heap.size [.string nm, .slice rA1 rn1 rc1, .slice oA1 on1 oc1, .slice tA1 tn1 tc1, .slice lA1 ln1 lc1, .int .i64 ar, .slice bA bn bc] 28 from (HXC4.out.set 4 (.slice lA1 ln1 lc1)))
  have HXR4 := hide (show Bx (w4.setCell ⟨w.heap.size, 4, none⟩ (.slice lA1 ln1 lc1)) (w.heap.size + 1) [.string .empty, .slice none 0 0, .slice none 0 0, .slice none 0 0, .slice none 0 0, .int .i64 0, .slice none 0 0] 28 from (HXD4.out.other (a := ⟨w.heap.size, 4, none⟩) (by simp) (.slice lA1 ln1 lc1)))
  have HV4 := hide (show Below w.heap.size w (w4.setCell ⟨w.heap.size, 4, none⟩ (.slice lA1 ln1 lc1)) from (HW4.out.setCell (p := ⟨w.heap.size, 4, none⟩) (Nat.le_refl _) (.slice lA1 ln1 lc1)))
  have HO1b := hide (own_keep HO1.out (Keep.setCell (a := ⟨w.heap.size, 4, none⟩) (show w.heap.size < w.heap.size + 2 by omega) (.slice lA1 ln1 lc1)))
  clear HO1
  have HO1 := HO1b
  clear HO1b
  have HO2b := hide (own_keep HO2.out (Keep.setCell (a := ⟨w.heap.size, 4, none⟩) (show w.heap.size < w.heap.size + 2 by omega) (.slice lA1 ln1 lc1)))
  clear HO2
  have HO2 := HO2b
  clear HO2b
  have HO3b := hide (OwSl.keep HO3.out (Keep.setCell (a := ⟨w.heap.size, 4, none⟩) (show w.heap.size < w.heap.size + 2 by omega) (.slice lA1 ln1 lc1)) (fun _ h => own_keep h (Keep.setCell (a := ⟨w.heap.size, 4, none⟩) (show w.heap.size < w.heap.size + 2 by omega) (.slice lA1 ln1 lc1))))
  clear HO3
  have HO3 := HO3b
  clear HO3b
  have HO4b := hide (own_keep HO4.out (Keep.setCell (a := ⟨w.heap.size, 4, none⟩) (show w.heap.size < w.heap.size + 2 by omega) (.slice lA1 ln1 lc1)))
  clear HO4
  have HO4 := HO4b
  clear HO4b
  clear cc0 cc1 cc2 cc3 cc4 cc5 cc6 ff3
  have cc0 := HXC4.out.cell (j := 0) rfl
  have cc1 := HXC4.out.cell (j := 1) rfl
  have cc2 := HXC4.out.cell (j := 2) rfl
  have cc3 := HXC4.out.cell (j := 3) rfl
  have cc4 := HXC4.out.cell (j := 4) rfl
  have cc5 := HXC4.out.cell (j := 5) rfl
  have cc6 := HXC4.out.cell (j := 6) rfl
  have ff4 := HXC4.out.frozen 4
  go_wp2_with fail
  refine (EachBks_any ⟨bA, bn, bc, bL⟩ _ (Bks2.up HX.out.blocks HV4.out) ⟨hn.blocks, hn.bks⟩).mono ?_
  rintro e5 w5 ⟨⟨bA1, bn1, bc1, bL1⟩, h9, he5, ho, hb⟩
  obtain rfl : e5 = .returned (.slice bA1 bn1 bc1) := h9
  have HE5 := hide he5
  clear he5
  have hb5 : Below (w4.setCell ⟨w.heap.size, 4, none⟩ (.slice lA1 ln1 lc1)).heap.size (w4.setCell ⟨w.heap.size, 4, none⟩ (.slice lA1 ln1 lc1)) w5 := hb
  have hsv : w.heap.size + 2 ≤ (w4.setCell ⟨w.heap.size, 4, none⟩ (.slice lA1 ln1 lc1)).heap.size := by have h8 := HS4.out; first | exact h8 | (simp; done) | (simp; omega)
  have HS5 := hide (Nat.le_trans hsv hb5.size)
  have HW5 := hide (show Below w.heap.size w w5 from HV4.out.trans (hb5.mono (by omega)))
  have HXC5 := hide (HXB4.out.below hb5)
  have HXD5 := hide (HXR4.out.below hb5)
  have HO1b := hide (own_keep HO1.out (Keep.of_below hb5))
  clear HO1
  have HO1 := HO1b
  clear HO1b
  have HO2b := hide (own_keep HO2.out (Keep.of_below hb5))
  clear HO2
  have HO2 := HO2b
  clear HO2b
  have HO3b := hide (OwSl.keep HO3.out (Keep.of_below hb5) (fun _ h => own_keep h (Keep.of_below hb5)))
  clear HO3
  have HO3 := HO3b
  clear HO3b
  have HO4b := hide (own_keep HO4.out (Keep.of_below hb5))
  clear HO4
  have HO4 := HO4b
  clear HO4b
  have HO5 := hide (show OwSl w5 (w.heap.size + 2) 44 7 cBk (OwBk w5 (w.heap.size + 2)) ⟨bA1, bn1, bc1, bL1⟩ from OwSl.base ho hsv (fun _ h => OwBk.base h hsv))
  clear hb hb5 ho hsv
  have HXB5 := hide (show Bx (w5.setCell ⟨w.heap.size, 6, none⟩ (.slice bA1 bn1 bc1)) w.heap.size [.string nm, .slice rA1 rn1 rc1, .slice oA1 on1 oc1, .slice tA1 tn1 tc1, .slice lA1 ln1 lc1, .int .i64 ar, .slice bA1 bn1 bc1] 28 from (HXC5.out.set 6 (.slice bA1 bn1 bc1)))
  have HXR5 := hide (show Bx (w5.setCell ⟨w.heap.size, 6, none⟩ (.slice bA1 bn1 bc1)) (w.heap.size + 1) [.string .empty, .slice none 0 0, .slice none 0 0, .slice none 0 0, .slice none 0 0, .int .i64 0, .slice none 0 0] 28 from (HXD5.out.other (a := ⟨w.heap.size, 6, none⟩) (by simp) (.slice bA1 bn1 bc1)))
  have HV5 := hide (show Below w.heap.size w (w5.setCell ⟨w.heap.size, 6, none⟩ (.slice bA1 bn1 bc1)) from (HW5.out.setCell (p := ⟨w.heap.size, 6, none⟩) (Nat.le_refl _) (.slice bA1 bn1 bc1)))
  have HO1b := hide (own_keep HO1.out (Keep.setCell (a := ⟨w.heap.size, 6, none⟩) (show w.heap.size < w.heap.size + 2 by omega) (.slice bA1 bn1 bc1)))
  clear HO1
  have HO1 := HO1b
  clear HO1b
  have HO2b := hide (own_keep HO2.out (Keep.setCell (a := ⟨w.heap.size, 6, none⟩) (show w.heap.size < w.heap.size + 2 by omega) (.slice bA1 bn1 bc1)))
  clear HO2
  have HO2 := HO2b
  clear HO2b
  have HO3b := hide (OwSl.keep HO3.out (Keep.setCell (a := ⟨w.heap.size, 6, none⟩) (show w.heap.size < w.heap.size + 2 by omega) (.slice bA1 bn1 bc1)) (fun _ h => own_keep h (Keep.setCell (a := ⟨w.heap.size, 6, none⟩) (show w.heap.size < w.heap.size + 2 by omega) (.slice bA1 bn1 bc1))))
  clear HO3
  have HO3 := HO3b
  clear HO3b
  have HO4b := hide (own_keep HO4.out (Keep.setCell (a := ⟨w.heap.size, 6, none⟩) (show w.heap.size < w.heap.size + 2 by omega) (.slice bA1 bn1 bc1)))
  clear HO4
  have HO4 := HO4b
  clear HO4b
  have HO5b := hide (OwSl.keep HO5.out (Keep.setCell (a := ⟨w.heap.size, 6, none⟩) (show w.heap.size < w.heap.size + 2 by omega) (.slice bA1 bn1 bc1)) (fun _ h => OwBk.keep h (Keep.setCell (a := ⟨w.heap.size, 6, none⟩) (show w.heap.size < w.heap.size + 2 by omega) (.slice bA1 bn1 bc1))))
  clear HO5
  have HO5 := HO5b
  clear HO5b
  clear cc0 cc1 cc2 cc3 cc4 cc5 cc6 ff4
  have cc0 := HXC5.out.cell (j := 0) rfl
  have cc1 := HXC5.out.cell (j := 1) rfl
  have cc2 := HXC5.out.cell (j := 2) rfl
  have cc3 := HXC5.out.cell (j := 3) rfl
  have cc4 := HXC5.out.cell (j := 4) rfl
  have cc5 := HXC5.out.cell (j := 5) rfl
  have cc6 := HXC5.out.cell (j := 6) rfl
  have ff6 := HXC5.out.frozen 6
  have HR9 := HXR5
  have HONE := hide (all_oneCell_toArray (cs := [.string nm, .slice rA1 rn1 rc1, .slice oA1 on1 oc1, .slice tA1 tn1 tc1, .slice lA1 ln1 lc1, .int .i64 ar, .slice bA1 bn1 bc1]) (fun u hu => by simp only [List.mem_cons, List.not_mem_nil, or_false] at hu; rcases hu with rfl | rfl | rfl | rfl | rfl | rfl | rfl <;> rfl))
  go_wp2_with (refine wpList_store_row rfl 28 _ _ rfl (w.heap.size + 1) #[.string nm, .slice rA1 rn1 rc1, .slice oA1 on1 oc1, .slice tA1 tn1 tc1, .slice lA1 ln1 lc1, .int .i64 ar, .slice bA1 bn1 bc1] rfl rfl 28 #[.string .empty, .slice none 0 0, .slice none 0 0, .slice none 0 0, .slice none 0 0, .int .i64 0, .slice none 0 0] ?_ ?_ ?_ ?_ ?_; exact HR9.out; exact HSZ.out; rfl; exact HONE.out)
  refine bodyPost_ret (results_cell_row rfl _ _ (w.heap.size + 1) _ #[.string nm, .slice rA1 rn1 rc1, .slice oA1 on1 oc1, .slice tA1 tn1 tc1, .slice lA1 ln1 lc1, .int .i64 ar, .slice bA1 bn1 bc1] (0, 0) _ rfl (setRow_heap _ _ _ _ _ _ HR9.out) Tryz.underlying28 rfl (by kernel_rfl)) rfl ⟨⟨nm, ⟨rA1, rn1, rc1, rL⟩, ⟨oA1, on1, oc1, oL⟩, ⟨tA1, tn1, tc1, tL1⟩, ⟨lA1, ln1, lc1, lL⟩, ar, ⟨bA1, bn1, bc1, bL1⟩⟩, rfl, (by have h3 := HE3.out; have h5 := HE5.out; simp only [BdW.v, BdV.mk.injEq, tys]; exact ⟨trivial, trivial, trivial, h3, trivial, trivial, h5⟩), ?_, below_setRow9 HV5.out (Nat.le_succ _) _⟩
  have HO1z := own_keep HO1.out (Keep.setRow9 (g := w.heap.size + 1) (lo := w.heap.size + 2) (by omega) #[.string nm, .slice rA1 rn1 rc1, .slice oA1 on1 oc1, .slice tA1 tn1 tc1, .slice lA1 ln1 lc1, .int .i64 ar, .slice bA1 bn1 bc1] (w5.setCell ⟨w.heap.size, 6, none⟩ (.slice bA1 bn1 bc1)))
  have HO2z := own_keep HO2.out (Keep.setRow9 (g := w.heap.size + 1) (lo := w.heap.size + 2) (by omega) #[.string nm, .slice rA1 rn1 rc1, .slice oA1 on1 oc1, .slice tA1 tn1 tc1, .slice lA1 ln1 lc1, .int .i64 ar, .slice bA1 bn1 bc1] (w5.setCell ⟨w.heap.size, 6, none⟩ (.slice bA1 bn1 bc1)))
  have HO3z := OwSl.keep HO3.out (Keep.setRow9 (g := w.heap.size + 1) (lo := w.heap.size + 2) (by omega) #[.string nm, .slice rA1 rn1 rc1, .slice oA1 on1 oc1, .slice tA1 tn1 tc1, .slice lA1 ln1 lc1, .int .i64 ar, .slice bA1 bn1 bc1] (w5.setCell ⟨w.heap.size, 6, none⟩ (.slice bA1 bn1 bc1))) (fun _ h => own_keep h (Keep.setRow9 (g := w.heap.size + 1) (lo := w.heap.size + 2) (by omega) #[.string nm, .slice rA1 rn1 rc1, .slice oA1 on1 oc1, .slice tA1 tn1 tc1, .slice lA1 ln1 lc1, .int .i64 ar, .slice bA1 bn1 bc1] (w5.setCell ⟨w.heap.size, 6, none⟩ (.slice bA1 bn1 bc1))))
  have HO4z := own_keep HO4.out (Keep.setRow9 (g := w.heap.size + 1) (lo := w.heap.size + 2) (by omega) #[.string nm, .slice rA1 rn1 rc1, .slice oA1 on1 oc1, .slice tA1 tn1 tc1, .slice lA1 ln1 lc1, .int .i64 ar, .slice bA1 bn1 bc1] (w5.setCell ⟨w.heap.size, 6, none⟩ (.slice bA1 bn1 bc1)))
  have HO5z := OwSl.keep HO5.out (Keep.setRow9 (g := w.heap.size + 1) (lo := w.heap.size + 2) (by omega) #[.string nm, .slice rA1 rn1 rc1, .slice oA1 on1 oc1, .slice tA1 tn1 tc1, .slice lA1 ln1 lc1, .int .i64 ar, .slice bA1 bn1 bc1] (w5.setCell ⟨w.heap.size, 6, none⟩ (.slice bA1 bn1 bc1))) (fun _ h => OwBk.keep h (Keep.setRow9 (g := w.heap.size + 1) (lo := w.heap.size + 2) (by omega) #[.string nm, .slice rA1 rn1 rc1, .slice oA1 on1 oc1, .slice tA1 tn1 tc1, .slice lA1 ln1 lc1, .int .i64 ar, .slice bA1 bn1 bc1] (w5.setCell ⟨w.heap.size, 6, none⟩ (.slice bA1 bn1 bc1))))
  exact ⟨ownsRow_base HO1z (show w.heap.size ≤ w.heap.size + 2 by omega), ownsRow_base HO2z (show w.heap.size ≤ w.heap.size + 2 by omega), OwSl.base HO3z (show w.heap.size ≤ w.heap.size + 2 by omega) (fun _ h => ownsRow_base h (show w.heap.size ≤ w.heap.size + 2 by omega)), ownsRow_base HO4z (show w.heap.size ≤ w.heap.size + 2 by omega), OwSl.base HO5z (show w.heap.size ≤ w.heap.size + 2 by omega) (fun _ h => OwBk.base h (show w.heap.size ≤ w.heap.size + 2 by omega))⟩

end Go.Proofs.YtbdimnncobpfdaaGreat
